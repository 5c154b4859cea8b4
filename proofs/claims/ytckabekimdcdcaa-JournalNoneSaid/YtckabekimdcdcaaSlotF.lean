/-
  The contracts of slot's head and writeAll: a new block of 64 bytes that is a slot's head; bytes laid into sectors one behind the other, or the first work that fails.
  Conditions: at most 960 bytes, that work on the disk does not turn; the disk is known whole and has the slots' sectors.
-/
import Derived.Test.YtckabekimdcdcaaSlotD
import Derived.Test.YtckabekimdcdcaaSloCr
import Derived.Test.YtckabekimdcdcaaPad
import Derived.Deep.LoopGhost
namespace Go.Proofs.Ytckabekimdcdcaa
open Go.RowKit
set_option linter.unusedVariables false

/-- What head leaves. -/
def SHeadPost (w : World) (g : Nat) (b : List Nat) (e : Ending) (w' : World) : Prop :=
  e = .returned (.slice (some ⟨w.heap.size, 0, none⟩) 64 64) ∧ Blk w' w.heap.size 5 ((hedL g b).map bv).toArray ∧ Below w.heap.size w w'

set_option maxRecDepth 20000 in
set_option maxHeartbeats 1600000 in
theorem shead_any (g : Nat) (v : Value) (b : List Nat) (B : Nat) (w : World) (h : Bts w B v b) (hB : B ≤ w.heap.size) (hl : b.length ≤ 960) (hg : g < 4294967296) :
    Calls Try.prog 39 #[.int .u32 (g : Int), v] w (SHeadPost w g b) := by
  have HX := Lib.hid h
  have HB := Lib.hid hB
  obtain ⟨A, l, c, rfl, e0, -⟩ := h
  have HL := Lib.hid (show b.length ≤ 960 from hl)
  have E0 := Lib.hid e0
  have hl960 : l ≤ 960 := by omega
  have hmk := make64
  have c1 : IntKind.u64.wrap (g : Int) = (g : Int) := by rw [IntKind.wrap_u64]; omega
  have c2 : IntKind.u64.wrap (l : Int) = (l : Int) := by rw [IntKind.wrap_u64]; omega
  have b0 := Lib.hid (show Blk (w.alloc (.cells (zs 64) 5)) w.heap.size 5 (cellsL (zn [] 64)) from by rw [← zs_cells]; exact Blk.new w _ _)
  have k0 := Lib.hid (show Below w.heap.size w (w.alloc (.cells (zs 64) 5)) from (Below.refl _ _).alloc (Nat.le_refl _) _)
  clear hl hB e0
  go_enter Try.func39, Try.ntmps39
  go_wp2_with fail
  refine (put_zn w.heap.size [] 0 64 g 0 _ b0.out rfl rfl (by omega) rfl).mono ?_
  rintro e w2 ⟨rfl, hb2, ho2⟩
  have b2 := Lib.hid hb2
  have k2 := Lib.hid (k0.out.trans (ho2.below (Nat.le_refl _) k0.out.size))
  clear hb2 ho2
  go_wp2_with fail
  refine (put_zn w.heap.size ([] ++ numL g 4) 4 60 l 4 _ b2.out (by simp [numL_length]) rfl (by omega) rfl).mono ?_
  rintro e w3 ⟨rfl, hb3, ho3⟩
  have b3 := Lib.hid (show Blk w3 w.heap.size 5 (cellsL (zn (preL g b) 56)) from by
    have h := hb3
    rw [List.nil_append, ← E0.out] at h
    exact h)
  have k3 := Lib.hid (k2.out.trans (ho3.below (Nat.le_refl _) k2.out.size))
  clear hb3 ho3
  have HS := Lib.hid (Bts.of_whole (g := w.heap.size) (n := 64) (xs := zn (preL g b) 56) b3.out (by simp [zn, preL_length]) (by simp [maxLen]) (fun y hy => by
    rcases List.mem_append.1 hy with hy | hy
    · exact preL_byte g b y hy
    · rw [List.eq_of_mem_replicate hy]; omega))
  have kb6 := Lib.hid (show Below w3.heap.size w3 (w3.alloc (.cells #[.slice (some ⟨w.heap.size, 0, none⟩) 8 64, .slice A l c] 27)) from (Below.refl _ _).alloc (Nat.le_refl _) _)
  have hs6 := (HS.out.below kb6.out).front 8 (by omega)
  rw [show (zn (preL g b) 56).take 8 = preL g b from List.take_left' (preL_length g b)] at hs6
  have hx6 := ((HX.out.below (k3.out.mono HB.out)).below (kb6.out.mono (Nat.le_trans HB.out k3.out.size))).more (Nat.le_trans HB.out k3.out.size)
  go_wp2_with fail
  refine (sum_two (w3.alloc (.cells #[.slice (some ⟨w.heap.size, 0, none⟩) 8 64, .slice A l c] 27)) w3.heap.size w3.heap.size _ _ (preL g b) b (by simp) (by simp) hs6 hx6).mono ?_
  rintro e w6 ⟨rfl, rfl⟩
  have hx := sumM_lt (preL g b ++ b)
  obtain ⟨x, hxe⟩ : ∃ x, x = sumM (preL g b ++ b) := ⟨_, rfl⟩
  rw [← hxe] at hx ⊢
  have HXE := Lib.hid hxe
  have c6 : IntKind.u64.wrap (x : Int) = (x : Int) := by rw [IntKind.wrap_u64]; omega
  have b6 := Lib.hid (b3.out.below kb6.out b3.out.lt)
  have k6 := Lib.hid (k3.out.trans (kb6.out.mono k3.out.size))
  clear hs6 hx6 hxe
  go_wp2_with fail
  refine (put_zn w.heap.size (preL g b) 8 56 x 8 _ b6.out (preL_length g b) rfl (by omega) rfl).mono ?_
  rintro e w7 ⟨rfl, hb7, ho7⟩
  have b7 := Lib.hid hb7
  have k7 := Lib.hid (k6.out.trans (ho7.below (Nat.le_refl _) k6.out.size))
  clear hb7 ho7
  go_wp2
  go_ret
  refine ⟨rfl, ?_, k7.out⟩
  have h := b7.out
  rw [HXE.out] at h
  have e : zn (preL g b ++ numL (sumM (preL g b ++ b)) 4) (56 - 4) = hedL g b := by
    unfold zn hedL
    rw [List.append_assoc]
  rw [e] at h
  exact h

/-- What holds ahead of round k. -/
def WriAt (w : World) (gD gS gM n : Nat) (S : Nat → List Nat) (L : Nat → Option (List Nat)) (t : Tr) (g : Nat) (b : List Nat) (k : Nat) (wx : World) : Prop :=
  Dsk wx gD gS gM n S (looL L g b k) (tn t k) ∧ Turns (dk gD gS gM) w wx ∧ ∀ j, j < k → (tn t j).ans = 0
/-- What writeAll leaves. -/
def WriPost (w : World) (gD gS gM n : Nat) (S : Nat → List Nat) (L : Nat → Option (List Nat)) (t : Tr) (g : Nat) (b : List Nat) (e : Ending) (w' : World) : Prop :=
  Turns (dk gD gS gM) w w' ∧ ∃ k, (∀ j, j < k → (tn t j).ans = 0) ∧
    ((k = nsec b ∧ e = .returned (.int .i64 0) ∧ Dsk w' gD gS gM n S (looL L g b k) (tn t k)) ∨
     (k < nsec b ∧ (tn t k).ans ≠ 0 ∧ e = .returned (.int .i64 ((tn t k).ans : Nat)) ∧ Dsk w' gD gS gM n S (looL L g b k) (tn t (k + 1))))

set_option maxRecDepth 20000 in
set_option maxHeartbeats 1600000 in
theorem writeAll_any (gD gS gM n : Nat) (S : Nat → List Nat) (L : Nat → Option (List Nat)) (t : Tr) (g : Nat) (v : Value) (b : List Nat) (w : World) (h : Dsk w gD gS gM n S L t) (hn : 96 ≤ n) (hx : Stay gD gS gM w v b) (hl : b.length ≤ 960) :
    Calls Try.prog 36 #[.pointer (some ⟨gD, 0, none⟩), .int .i64 ((65 + 16 * (g % 2) : Nat) : Int), v] w (WriPost w gD gS gM n S L t g b) := by
  have HD := Lib.hid h
  have HX := Lib.hid hx
  have HBY := Lib.hid (show ∀ y ∈ b, y < 256 from by obtain ⟨B, h1, _⟩ := hx.here; exact h1.byte)
  obtain ⟨B0, ⟨A, l, c, rfl, e0, -⟩, -⟩ := hx.here
  have E0 := Lib.hid e0
  have hl960 : l ≤ 960 := by omega
  have HM := Lib.hid (show ∀ q, dk gD gS gM q → q < w.heap.size from by rintro q (e | e | e) <;> (have := h.lt; omega))
  obtain ⟨a, ha⟩ : ∃ a, a = 65 + 16 * (g % 2) := ⟨_, rfl⟩
  have ha5 : a ≤ 81 := by omega
  have han : a + 15 ≤ n := by omega
  have HA := Lib.hid ha
  have HNS := Lib.hid (show nsec b = (l + 63) / 64 by unfold nsec; rw [e0])
  have hmk := make64
  have HS0 := Lib.hid (show WriAt w gD gS gM n S L t g b 0 w from ⟨by rw [looL_zero]; exact h, Turns.refl _ _, fun j hj => absurd hj (by omega)⟩)
  rw [← ha]
  clear h hx e0 hl hn ha
  go_enter Try.func36, Try.ntmps36
  go_wp2_with fail
  go_loopg [1, 7] ((l + 63) / 64) (fun gg s1 s7 wx => ∃ k q : Nat, k + gg = (l + 63) / 64 ∧ q = 64 * k ∧ s1 = .int .i64 ((a + k : Nat) : Int) ∧ s7 = .int .i64 (q : Int) ∧ WriAt w gD gS gM n S L t g b k wx)
  case atStart => exact ⟨0, 0, by omega, rfl, rfl, rfl, HS0.out⟩
  case round =>
    obtain ⟨k, q, hkg, hq, rfl, rfl, hr⟩ := hrel
    have HR := Lib.hid hr
    have HQ := Lib.hid hq
    obtain ⟨T, hT⟩ : ∃ T, T = tn t k := ⟨_, rfl⟩
    have HTN := Lib.hid hT
    by_cases hk : q < l
    · have t1 : decide (q < l) = true := decide_eq_true hk
      have hk15 : k < 15 := by omega
      have hq9 : q ≤ 960 := by omega
      have HDW := Lib.hid hr.1
      rw [← hT] at HDW
      obtain ⟨B1, hx1, hB1⟩ := HX.out wr hr.2.1
      have HX1 := Lib.hid hx1
      have HB1 := Lib.hid (show B1 ≤ wr.heap.size from Nat.le_trans hB1 hr.2.1.size)
      have hcl : l ≤ c := by obtain ⟨A', n', c', hv, _, _, ⟨h1, _⟩, _⟩ := hx1; injection hv with e1 e2 e3; omega
      obtain ⟨q0, off, rfl⟩ : ∃ q0 off, A = some ⟨q0, off, none⟩ := by
        obtain ⟨A', n', c', hv, _, _, _, _, _, h1⟩ := hx1
        injection hv with e1 e2 e3
        obtain ⟨q0, off, h2, _⟩ := h1 (by omega)
        exact ⟨q0, off, by rw [e1, h2]⟩
      have A1 := Lib.hid (show Below wr.heap.size wr (wr.alloc (.cells (zs 64) 5)) from (Below.refl _ _).alloc (Nat.le_refl _) _)
      have XS := Lib.hid ((HX1.out.below (A1.out.mono HB1.out)).drop (a := q) (by omega) hcl)
      have hcq : q < c := by omega
      clear hr hq hT hx1 hB1
      go_wp2_with (with_reducible refine wpList_copy_pad rfl (.tmp 17) (.tmp 20) 27 27 rfl 5 Try.underlying27 Try.size8 (some ⟨q0, off + q, none⟩) wr.heap.size 64 (l - q) (c - q) rfl rfl 5 (Blk.new wr _ _) (b.drop q) B1 XS.out ?_; intro nn w2 hb2 ho2)
      have BK2 := Lib.hid (show Blk w2 wr.heap.size 5 ((chk b k).map bv).toArray from by
        have h := hb2.out
        rw [HQ.out, pad64_chk] at h
        exact h)
      have A2 := Lib.hid (A1.out.trans (ho2.out.below (Nat.le_refl _) A1.out.size))
      have HD2 := Lib.hid (HDW.out.fresh A2.out)
      have HT2 := Lib.hid (HR.out.2.1.trans (Turns.of_below A2.out (Nat.le_refl _)))
      have HCL := Lib.hid (chk_length b k)
      have HCB := Lib.hid (chk_byte b HBY.out k)
      clear hb2 ho2
      by_cases c1 : T.ans = 0
      · go_wp2_with fail
        refine (dwrite_yes gD gS gM n S (looL L g b k) T (a + k) _ (chk b k) w2 HD2.out (by omega) c1 (fun w' ho => ⟨w2.heap.size, ?_, Nat.le_refl _⟩) HCL.out).mono ?_
        · have h := ho.blk BK2.out (by have := HDW.out.lt.1; omega)
          have h := Bts.of_whole (n := 64) h HCL.out (by simp [maxLen]) HCB.out
          rw [ho.2] at h
          exact h
        rintro e w3 ⟨rfl, hd3, ht3, _⟩
        have HD3 := Lib.hid hd3
        have HT3 := Lib.hid (HT2.out.trans ht3)
        have HC1 := Lib.hid c1
        clear hd3 ht3 c1
        go_wp2
        go_roundg ((l + 63) / 64 - (k + 1))
        case measure => have := HQ.out; omega
        case rel =>
          refine ⟨k + 1, q + 64, by have := HQ.out; omega, by have := HQ.out; omega, by go_num, by go_num, ?_, HT3.out, fun j hj => ?_⟩
          · have h := HD3.out
            rw [HA.out, looL_step, HTN.out] at h
            exact h
          · by_cases e : j = k
            · subst e
              rw [← HTN.out]
              exact HC1.out
            · exact HR.out.2.2 j (by omega)
      · have t2 : (((T.ans : Nat) : Int) != 0) = true := by rw [bne_iff_ne]; omega
        go_wp2_with fail
        refine (dwrite_bad gD gS gM n S (looL L g b k) T (a + k) _ _ w2 HD2.out (by omega) c1).mono ?_
        rintro e w3 ⟨rfl, hd3, ht3, _⟩
        have HD3 := Lib.hid hd3
        have HT3 := Lib.hid (HT2.out.trans ht3)
        have HC1 := Lib.hid c1
        clear hd3 ht3 c1
        go_wp2
        go_ret
        refine ⟨HT3.out, k, HR.out.2.2, .inr ⟨by rw [HNS.out]; have := HQ.out; omega, by rw [← HTN.out]; exact HC1.out, by rw [← HTN.out]; rfl, ?_⟩⟩
        have h := HD3.out
        rw [HTN.out] at h
        exact h
    · have t1 : decide (q < l) = false := decide_eq_false hk
      have HK := Lib.hid (show k = nsec b by rw [HNS.out]; omega)
      clear hr hq hT
      go_wp2
      go_ret
      exact ⟨HR.out.2.1, k, HR.out.2.2, .inl ⟨HK.out, rfl, HR.out.1⟩⟩
end Go.Proofs.Ytckabekimdcdcaa

/-
  The contracts of slot's Save, and of both without trouble.
  Conditions: those that each line bears.
-/
import Derived.Test.YtfnegbcpiejdaaaDsk
import Derived.Test.YtfnegbcpiejdaaaBas
import Derived.Test.YtfnegbcpiejdaaaSltA
import Derived.Test.YtfnegbcpiejdaaaDcr
import Derived.Deep.LoopGhost

/-! ## Pad: 'copy' of any bytes into a new sector of zeros. Nothing of the program is named here but the bytes' numbering.   Conditions: none beside those that each line bears. -/
namespace Go.Proofs.Ytfnegbcpiejdaaa
open Go.RowKit
set_option linter.unusedVariables false

/-- The first 64 of some bytes, with zeros behind them. -/
def pad64 (ys : List Nat) : List Nat := ys.take 64 ++ List.replicate (64 - (ys.take 64).length) 0
theorem pad64_chk (b : List Nat) (j : Nat) : pad64 (b.drop (64 * j)) = chk b j := rfl
theorem splice_pad (ys : List Nat) (h : ys.length ≤ 64) : (splice (zs 64).toList 0 (ys.map bv)).toArray = ((ys ++ List.replicate (64 - ys.length) 0).map bv).toArray := by
  have h2 := splice_next [] ys 0 64 rfl h
  rw [← zs_cells, List.nil_append] at h2
  exact h2
theorem wpList_copy_pad {P : Program} {w : World} {ops : Array Oper} {rest : List Oper} {o : Oper} {a : Act} {Q : Exit → Act → World → Prop} (hgd : o.guard = none) (d s : Operand) (dT sT : TypeId)
    (ho : o.op = .call { callee := .builtin .copy, args := #[d, s], argTypes := #[dT, sT] }) (elem : TypeId) (hu : P.underlying dT = some (.slice elem)) (hsz : (P.info? elem).map (·.size) = some 1)
    (sp : Option Addr) (g dCap sLen sCap : Nat) (hd : a.eval d = .slice (some ⟨g, 0, none⟩) 64 dCap) (hs : a.eval s = .slice sp sLen sCap)
    (t : TypeId) (hg : Blk w g t (zs 64)) (ys : List Nat) (B : Nat) (hr : Bts w B (.slice sp sLen sCap) ys)
    (h : ∀ n w', Hid (Blk w' g t ((pad64 ys).map bv).toArray) → Hid (Only g w w') → wpList P ops Q rest (a.put o.dst (goInt n)) w') : wpList P ops Q (o :: rest) a w := by
  refine wpList_plain hgd fun K hK => ?_
  by_cases c : ys.length ≤ 64
  · obtain ⟨w', hrun, h1, h2⟩ := run_copy_bts dT sT o.type elem hu hsz (some ⟨g, 0, none⟩) sp 64 dCap sLen sCap g 0 (zs 64) t hg ys B hr c (fun _ => rfl) (by rw [zs_size]; omega)
    have h3 : Blk w' g t ((pad64 ys).map bv).toArray := by
      unfold pad64
      rw [List.take_of_length_le c, ← splice_pad ys c]
      exact h1
    unfold Oper.wp
    simp [execOp, ho, resolve, invoke, builtin, hd, hs, hrun, Result.andThen]
    exact hK _ _ (by simpa using h (ys.map bv).length w' h3 h2)
  · obtain ⟨w', hrun, h1, h2⟩ := run_copy_cut dT sT o.type elem hu hsz sp 64 dCap sLen sCap g 0 (zs 64) t hg ys B hr (by omega) (by rw [zs_size]; omega)
    have h3 : Blk w' g t ((pad64 ys).map bv).toArray := by
      unfold pad64
      rw [← splice_pad (ys.take 64) (by simp; omega)]
      exact h1
    unfold Oper.wp
    simp [execOp, ho, resolve, invoke, builtin, hd, hs, hrun, Result.andThen]
    exact hK _ _ (by simpa using h 64 w' h3 h2)
theorem Bts.drop {w : World} {B b off n c : Nat} {s : List Nat} (h : Bts w B (.slice (some ⟨b, off, none⟩) n c) s) {a : Nat} (ha : a ≤ n) (hc : n ≤ c) : Bts w B (.slice (some ⟨b, off + a, none⟩) (n - a) (c - a)) (s.drop a) := by
  have hm : c ≤ maxLen := by
    obtain ⟨A', n', c1, hv, _, _, _, hc, _⟩ := h
    injection hv with e1 e2 e3
    subst e3
    exact hc
  have hl := bts_len h
  have h2 := h.cut (a := a) (k := n - a) (c' := c - a) (by omega) (by omega) (by omega)
  have e : win s a (n - a) = s.drop a := by
    unfold win
    rw [List.take_of_length_le (by rw [List.length_drop]; omega)]
  rw [e] at h2
  exact h2

/-- Bytes that work on the disk does not turn. -/
def Stay (gD gS gM : Nat) (w : World) (v : Value) (b : List Nat) : Prop := ∀ w', Turns (dk gD gS gM) w w' → ∃ B, Bts w' B v b ∧ B ≤ w.heap.size
theorem Stay.here {gD gS gM : Nat} {w : World} {v : Value} {b : List Nat} (h : Stay gD gS gM w v b) : ∃ B, Bts w B v b ∧ B ≤ w.heap.size := h w (Turns.refl _ _)
theorem Stay.turns {gD gS gM : Nat} {w w' : World} {v : Value} {b : List Nat} (h : Stay gD gS gM w v b) (ht : Turns (dk gD gS gM) w w') : Stay gD gS gM w' v b := by
  intro w2 h2
  obtain ⟨B, h3, h4⟩ := h w2 (ht.trans h2)
  exact ⟨B, h3, Nat.le_trans h4 ht.size⟩
theorem Stay.below {gD gS gM B : Nat} {w : World} {v : Value} {b : List Nat} (h : Bts w B v b) (hB : B ≤ w.heap.size) (hk : ∀ q, dk gD gS gM q → B ≤ q) : Stay gD gS gM w v b :=
  fun w' ht => ⟨B, h.below (ht.below hk hB), hB⟩
theorem Stay.of_ne {gD gS gM B q off n c : Nat} {w : World} {b : List Nat} (h : Bts w B (.slice (some ⟨q, off, none⟩) n c) b) (hB : B ≤ w.heap.size) (hk : ¬ dk gD gS gM q) : Stay gD gS gM w (.slice (some ⟨q, off, none⟩) n c) b := by
  intro w' ht
  refine ⟨B, ?_, hB⟩
  obtain ⟨A', n', c1, hv, h1, h2, h3, h4, h5, h6⟩ := h
  refine ⟨A', n', c1, hv, h1, h2, h3, h4, h5, fun h0 => ?_⟩
  obtain ⟨b', off', e, h7, h8⟩ := h6 h0
  refine ⟨b', off', e, h7, fun j hj => ?_⟩
  injection hv with e1 e2 e3
  rw [← e1] at e
  injection e with e
  injection e with e4 e5 _
  subst e4 e5
  rw [← h8 j hj]
  exact World.cell?_of_block (ht.block q (by omega) hk)
theorem Stay.nil_ (gD gS gM : Nat) (w : World) : Stay gD gS gM w (.slice none 0 0) [] := fun w' _ => ⟨0, Bts.nil_ _ _, Nat.zero_le _⟩
end Go.Proofs.Ytfnegbcpiejdaaa

/-! ## SlotF: The contracts of slot's head and writeAll: a new block of 64 bytes that is a slot's head; bytes laid into sectors one behind the other, or the first work that fails.   Conditions: at most 960 bytes, that work on the disk does not turn; the disk is known whole and has the slots' sectors. -/
namespace Go.Proofs.Ytfnegbcpiejdaaa
open Go.RowKit
set_option linter.unusedVariables false

/-- What head leaves. -/
def SHeadPost (w : World) (g : Nat) (b : List Nat) (e : Ending) (w' : World) : Prop :=
  e = .returned (.slice (some ⟨w.heap.size, 0, none⟩) 64 64) ∧ Blk w' w.heap.size 5 ((hedL g b).map bv).toArray ∧ Below w.heap.size w w'

set_option maxRecDepth 20000 in
set_option maxHeartbeats 1600000 in
theorem shead_any (g : Nat) (v : Value) (b : List Nat) (B : Nat) (w : World) (h : Bts w B v b) (hB : B ≤ w.heap.size) (hl : b.length ≤ 960) (hg : g < 4294967296) :
    Calls Try.prog 62 #[.int .u32 (g : Int), v] w (SHeadPost w g b) := by
  have HX := Lib.hid h
  have HB := Lib.hid hB
  obtain ⟨A, l, c, rfl, e0, -⟩ := h
  have HL := Lib.hid (show b.length ≤ 960 from hl)
  have E0 := Lib.hid e0
  have hl960 : l ≤ 960 := by omega
  have hmk := make64
  have c1 : IntKind.u64.wrap (g : Int) = (g : Int) := by rw [IntKind.wrap_u64]; omega
  have c2 : IntKind.u64.wrap (l : Int) = (l : Int) := by rw [IntKind.wrap_u64]; omega
  have b0 := Lib.hid (show Blk (w.alloc (.cells (zs 64) 5)) w.heap.size 5 (cellsL (zn [] 64)) from by rw [← zs_cells]; exact Blk.new w _ _)
  have k0 := Lib.hid (show Below w.heap.size w (w.alloc (.cells (zs 64) 5)) from (Below.refl _ _).alloc (Nat.le_refl _) _)
  clear hl hB e0
  go_enter Try.func62, Try.ntmps62
  go_wp2_with fail
  refine (put_zn w.heap.size [] 0 64 g 0 _ b0.out rfl rfl (by omega) rfl).mono ?_
  rintro e w2 ⟨rfl, hb2, ho2⟩
  have b2 := Lib.hid hb2
  have k2 := Lib.hid (k0.out.trans (ho2.below (Nat.le_refl _) k0.out.size))
  clear hb2 ho2
  go_wp2_with fail
  refine (put_zn w.heap.size ([] ++ numL g 4) 4 60 l 4 _ b2.out (by simp [numL_length]) rfl (by omega) rfl).mono ?_
  rintro e w3 ⟨rfl, hb3, ho3⟩
  have b3 := Lib.hid (show Blk w3 w.heap.size 5 (cellsL (zn (preL g b) 56)) from by
    have h := hb3
    rw [List.nil_append, ← E0.out] at h
    exact h)
  have k3 := Lib.hid (k2.out.trans (ho3.below (Nat.le_refl _) k2.out.size))
  clear hb3 ho3
  have HS := Lib.hid (Bts.of_whole (g := w.heap.size) (n := 64) (xs := zn (preL g b) 56) b3.out (by simp [zn, preL_length]) (by simp [maxLen]) (fun y hy => by
    rcases List.mem_append.1 hy with hy | hy
    · exact preL_byte g b y hy
    · rw [List.eq_of_mem_replicate hy]; omega))
  have kb6 := Lib.hid (show Below w3.heap.size w3 (w3.alloc (.cells #[.slice (some ⟨w.heap.size, 0, none⟩) 8 64, .slice A l c] 27)) from (Below.refl _ _).alloc (Nat.le_refl _) _)
  have hs6 := (HS.out.below kb6.out).front 8 (by omega)
  rw [show (zn (preL g b) 56).take 8 = preL g b from List.take_left' (preL_length g b)] at hs6
  have hx6 := ((HX.out.below (k3.out.mono HB.out)).below (kb6.out.mono (Nat.le_trans HB.out k3.out.size))).more (Nat.le_trans HB.out k3.out.size)
  go_wp2_with fail
  refine (sum_two (w3.alloc (.cells #[.slice (some ⟨w.heap.size, 0, none⟩) 8 64, .slice A l c] 27)) w3.heap.size w3.heap.size _ _ (preL g b) b (by simp) (by simp) hs6 hx6).mono ?_
  rintro e w6 ⟨rfl, rfl⟩
  have hx := sumM_lt (preL g b ++ b)
  obtain ⟨x, hxe⟩ : ∃ x, x = sumM (preL g b ++ b) := ⟨_, rfl⟩
  rw [← hxe] at hx ⊢
  have HXE := Lib.hid hxe
  have c6 : IntKind.u64.wrap (x : Int) = (x : Int) := by rw [IntKind.wrap_u64]; omega
  have b6 := Lib.hid (b3.out.below kb6.out b3.out.lt)
  have k6 := Lib.hid (k3.out.trans (kb6.out.mono k3.out.size))
  clear hs6 hx6 hxe
  go_wp2_with fail
  refine (put_zn w.heap.size (preL g b) 8 56 x 8 _ b6.out (preL_length g b) rfl (by omega) rfl).mono ?_
  rintro e w7 ⟨rfl, hb7, ho7⟩
  have b7 := Lib.hid hb7
  have k7 := Lib.hid (k6.out.trans (ho7.below (Nat.le_refl _) k6.out.size))
  clear hb7 ho7
  go_wp2
  go_ret
  refine ⟨rfl, ?_, k7.out⟩
  have h := b7.out
  rw [HXE.out] at h
  have e : zn (preL g b ++ numL (sumM (preL g b ++ b)) 4) (56 - 4) = hedL g b := by
    unfold zn hedL
    rw [List.append_assoc]
  rw [e] at h
  exact h

/-- What holds ahead of round k. -/
def WriAt (w : World) (gD gS gM n : Nat) (S : Nat → List Nat) (L : Nat → Option (List Nat)) (t : Tr) (g : Nat) (b : List Nat) (k : Nat) (wx : World) : Prop :=
  Dsk wx gD gS gM n S (looL L g b k) (tn t k) ∧ Turns (dk gD gS gM) w wx ∧ ∀ j, j < k → (tn t j).ans = 0
/-- What writeAll leaves. -/
def WriPost (w : World) (gD gS gM n : Nat) (S : Nat → List Nat) (L : Nat → Option (List Nat)) (t : Tr) (g : Nat) (b : List Nat) (e : Ending) (w' : World) : Prop :=
  Turns (dk gD gS gM) w w' ∧ ∃ k, (∀ j, j < k → (tn t j).ans = 0) ∧
    ((k = nsec b ∧ e = .returned (.int .i64 0) ∧ Dsk w' gD gS gM n S (looL L g b k) (tn t k)) ∨
     (k < nsec b ∧ (tn t k).ans ≠ 0 ∧ e = .returned (.int .i64 ((tn t k).ans : Nat)) ∧ Dsk w' gD gS gM n S (looL L g b k) (tn t (k + 1))))

set_option maxRecDepth 20000 in
set_option maxHeartbeats 1600000 in
theorem writeAll_any (gD gS gM n : Nat) (S : Nat → List Nat) (L : Nat → Option (List Nat)) (t : Tr) (g : Nat) (v : Value) (b : List Nat) (w : World) (h : Dsk w gD gS gM n S L t) (hn : 96 ≤ n) (hx : Stay gD gS gM w v b) (hl : b.length ≤ 960) :
    Calls Try.prog 60 #[.pointer (some ⟨gD, 0, none⟩), .int .i64 ((65 + 16 * (g % 2) : Nat) : Int), v] w (WriPost w gD gS gM n S L t g b) := by
  have HD := Lib.hid h
  have HX := Lib.hid hx
  have HBY := Lib.hid (show ∀ y ∈ b, y < 256 from by obtain ⟨B, h1, _⟩ := hx.here; exact h1.byte)
  obtain ⟨B0, ⟨A, l, c, rfl, e0, -⟩, -⟩ := hx.here
  have E0 := Lib.hid e0
  have hl960 : l ≤ 960 := by omega
  have HM := Lib.hid (show ∀ q, dk gD gS gM q → q < w.heap.size from by rintro q (e | e | e) <;> (have := h.lt; omega))
  obtain ⟨a, ha⟩ : ∃ a, a = 65 + 16 * (g % 2) := ⟨_, rfl⟩
  have ha5 : a ≤ 81 := by omega
  have han : a + 15 ≤ n := by omega
  have HA := Lib.hid ha
  have HNS := Lib.hid (show nsec b = (l + 63) / 64 by unfold nsec; rw [e0])
  have hmk := make64
  have HS0 := Lib.hid (show WriAt w gD gS gM n S L t g b 0 w from ⟨by rw [looL_zero]; exact h, Turns.refl _ _, fun j hj => absurd hj (by omega)⟩)
  rw [← ha]
  clear h hx e0 hl hn ha
  go_enter Try.func60, Try.ntmps60
  go_wp2_with fail
  go_loopg [1, 7] ((l + 63) / 64) (fun gg s1 s7 wx => ∃ k q : Nat, k + gg = (l + 63) / 64 ∧ q = 64 * k ∧ s1 = .int .i64 ((a + k : Nat) : Int) ∧ s7 = .int .i64 (q : Int) ∧ WriAt w gD gS gM n S L t g b k wx)
  case atStart => exact ⟨0, 0, by omega, rfl, rfl, rfl, HS0.out⟩
  case round =>
    obtain ⟨k, q, hkg, hq, rfl, rfl, hr⟩ := hrel
    have HR := Lib.hid hr
    have HQ := Lib.hid hq
    obtain ⟨T, hT⟩ : ∃ T, T = tn t k := ⟨_, rfl⟩
    have HTN := Lib.hid hT
    by_cases hk : q < l
    · have t1 : decide (q < l) = true := decide_eq_true hk
      have hk15 : k < 15 := by omega
      have hq9 : q ≤ 960 := by omega
      have HDW := Lib.hid hr.1
      rw [← hT] at HDW
      obtain ⟨B1, hx1, hB1⟩ := HX.out wr hr.2.1
      have HX1 := Lib.hid hx1
      have HB1 := Lib.hid (show B1 ≤ wr.heap.size from Nat.le_trans hB1 hr.2.1.size)
      have hcl : l ≤ c := by obtain ⟨A', n', c', hv, _, _, ⟨h1, _⟩, _⟩ := hx1; injection hv with e1 e2 e3; omega
      obtain ⟨q0, off, rfl⟩ : ∃ q0 off, A = some ⟨q0, off, none⟩ := by
        obtain ⟨A', n', c', hv, _, _, _, _, _, h1⟩ := hx1
        injection hv with e1 e2 e3
        obtain ⟨q0, off, h2, _⟩ := h1 (by omega)
        exact ⟨q0, off, by rw [e1, h2]⟩
      have A1 := Lib.hid (show Below wr.heap.size wr (wr.alloc (.cells (zs 64) 5)) from (Below.refl _ _).alloc (Nat.le_refl _) _)
      have XS := Lib.hid ((HX1.out.below (A1.out.mono HB1.out)).drop (a := q) (by omega) hcl)
      have hcq : q < c := by omega
      clear hr hq hT hx1 hB1
      go_wp2_with (with_reducible refine wpList_copy_pad rfl (.tmp 17) (.tmp 20) 27 27 rfl 5 Try.underlying27 Try.size8 (some ⟨q0, off + q, none⟩) wr.heap.size 64 (l - q) (c - q) rfl rfl 5 (Blk.new wr _ _) (b.drop q) B1 XS.out ?_; intro nn w2 hb2 ho2)
      have BK2 := Lib.hid (show Blk w2 wr.heap.size 5 ((chk b k).map bv).toArray from by
        have h := hb2.out
        rw [HQ.out, pad64_chk] at h
        exact h)
      have A2 := Lib.hid (A1.out.trans (ho2.out.below (Nat.le_refl _) A1.out.size))
      have HD2 := Lib.hid (HDW.out.fresh A2.out)
      have HT2 := Lib.hid (HR.out.2.1.trans (Turns.of_below A2.out (Nat.le_refl _)))
      have HCL := Lib.hid (chk_length b k)
      have HCB := Lib.hid (chk_byte b HBY.out k)
      clear hb2 ho2
      by_cases c1 : T.ans = 0
      · go_wp2_with fail
        refine (dwrite_yes gD gS gM n S (looL L g b k) T (a + k) _ (chk b k) w2 HD2.out (by omega) c1 (fun w' ho => ⟨w2.heap.size, ?_, Nat.le_refl _⟩) HCL.out).mono ?_
        · have h := ho.blk BK2.out (by have := HDW.out.lt.1; omega)
          have h := Bts.of_whole (n := 64) h HCL.out (by simp [maxLen]) HCB.out
          rw [ho.2] at h
          exact h
        rintro e w3 ⟨rfl, hd3, ht3, _⟩
        have HD3 := Lib.hid hd3
        have HT3 := Lib.hid (HT2.out.trans ht3)
        have HC1 := Lib.hid c1
        clear hd3 ht3 c1
        go_wp2
        go_roundg ((l + 63) / 64 - (k + 1))
        case measure => have := HQ.out; omega
        case rel =>
          refine ⟨k + 1, q + 64, by have := HQ.out; omega, by have := HQ.out; omega, by go_num, by go_num, ?_, HT3.out, fun j hj => ?_⟩
          · have h := HD3.out
            rw [HA.out, looL_step, HTN.out] at h
            exact h
          · by_cases e : j = k
            · subst e
              rw [← HTN.out]
              exact HC1.out
            · exact HR.out.2.2 j (by omega)
      · have t2 : (((T.ans : Nat) : Int) != 0) = true := by rw [bne_iff_ne]; omega
        go_wp2_with fail
        refine (dwrite_bad gD gS gM n S (looL L g b k) T (a + k) _ _ w2 HD2.out (by omega) c1).mono ?_
        rintro e w3 ⟨rfl, hd3, ht3, _⟩
        have HD3 := Lib.hid hd3
        have HT3 := Lib.hid (HT2.out.trans ht3)
        have HC1 := Lib.hid c1
        clear hd3 ht3 c1
        go_wp2
        go_ret
        refine ⟨HT3.out, k, HR.out.2.2, .inr ⟨by rw [HNS.out]; have := HQ.out; omega, by rw [← HTN.out]; exact HC1.out, by rw [← HTN.out]; rfl, ?_⟩⟩
        have h := HD3.out
        rw [HTN.out] at h
        exact h
    · have t1 : decide (q < l) = false := decide_eq_false hk
      have HK := Lib.hid (show k = nsec b by rw [HNS.out]; omega)
      clear hr hq hT
      go_wp2
      go_ret
      exact ⟨HR.out.2.1, k, HR.out.2.2, .inl ⟨HK.out, rfl, HR.out.1⟩⟩
end Go.Proofs.Ytfnegbcpiejdaaa

/-! ## SlotG: The contract of slot's Save: what may not be is told; else the bytes' sectors are written and made sure, and then the head; or the first work that fails.   Conditions: the disk is known whole and has the slots' sectors; the bytes are read in memory that work on the disk does not turn. -/
namespace Go.Proofs.Ytfnegbcpiejdaaa
open Go.RowKit
set_option linter.unusedVariables false

set_option maxHeartbeats 400000 in
theorem save_nil (gen : Int) (A : Option Addr) (l c : Nat) (w : World) :
    Calls Try.prog 42 #[.pointer none, .int .u32 gen, .slice A l c] w fun e w' => e = .returned (.int .i64 1) ∧ w = w' := by
  go_enter Try.func42, Try.ntmps42
  go_wp2
  go_ret
  exact ⟨rfl, rfl⟩
set_option maxHeartbeats 400000 in
theorem save_long (g : Nat) (gen : Int) (A : Option Addr) (l c : Nat) (w : World) (hl : 960 < l) :
    Calls Try.prog 42 #[.pointer (some ⟨g, 0, none⟩), .int .u32 gen, .slice A l c] w fun e w' => e = .returned (.int .i64 1) ∧ w = w' := by
  have h1 : decide ((960 : Int) < (l : Int)) = true := decide_eq_true (by omega)
  clear hl
  go_enter Try.func42, Try.ntmps42
  go_wp2
  go_ret
  exact ⟨rfl, rfl⟩

/-- What Save leaves. -/
def SavePost (w : World) (gD gS gM n : Nat) (S : Nat → List Nat) (L : Nat → Option (List Nat)) (t : Tr) (g : Nat) (b : List Nat) (e : Ending) (w' : World) : Prop :=
  Turns (dk gD gS gM) w w' ∧
    ((∃ k, k ≤ nsec b ∧ (∀ j, j < k → (tn t j).ans = 0) ∧ (tn t k).ans ≠ 0 ∧ e = .returned (.int .i64 ((tn t k).ans : Nat)) ∧ Dsk w' gD gS gM n S (looL L g b k) (tn t (k + 1))) ∨
     ((∀ j, j < nsec b + 1 → (tn t j).ans = 0) ∧
       (((tn t (nsec b + 1)).ans ≠ 0 ∧ e = .returned (.int .i64 ((tn t (nsec b + 1)).ans : Nat)) ∧ Dsk w' gD gS gM n (datL (last S L) g b (nsec b)) (fun _ => none) (tn t (nsec b + 2))) ∨
        ((tn t (nsec b + 1)).ans = 0 ∧ (tn t (nsec b + 2)).ans ≠ 0 ∧ e = .returned (.int .i64 ((tn t (nsec b + 2)).ans : Nat)) ∧
          Dsk w' gD gS gM n (datL (last S L) g b (nsec b)) (upd (fun _ => none) (64 + 16 * (g % 2)) (some (hedL g b))) (tn t (nsec b + 3))) ∨
        ((tn t (nsec b + 1)).ans = 0 ∧ (tn t (nsec b + 2)).ans = 0 ∧ e = .returned (.int .i64 0) ∧ Dsk w' gD gS gM n (savL (last S L) g b) (fun _ => none) (tn t (nsec b + 3))))))

set_option maxRecDepth 20000 in
set_option maxHeartbeats 1600000 in
theorem save_any (gD gS gM n : Nat) (S : Nat → List Nat) (L : Nat → Option (List Nat)) (t : Tr) (g : Nat) (v : Value) (b : List Nat) (w : World) (h : Dsk w gD gS gM n S L t) (hn : 96 ≤ n) (hx : Stay gD gS gM w v b) (hl : b.length ≤ 960) (hg : g < 4294967296) :
    Calls Try.prog 42 #[.pointer (some ⟨gD, 0, none⟩), .int .u32 (g : Int), v] w (SavePost w gD gS gM n S L t g b) := by
  have HD := Lib.hid h
  have HX := Lib.hid hx
  have HL := Lib.hid hl
  obtain ⟨B0, ⟨A, l, c, rfl, e0, -⟩, -⟩ := hx.here
  have hl960 : l ≤ 960 := by omega
  have h1 : decide ((960 : Int) < (l : Int)) = false := decide_eq_false (by omega)
  obtain ⟨a, ha⟩ : ∃ a, a = 64 + 16 * (g % 2) := ⟨_, rfl⟩
  have ha5 : a ≤ 80 := by omega
  have han : a + 16 ≤ n := by omega
  have HA := Lib.hid ha
  have HOF := Lib.hid (headOf_any g w hg)
  rw [← ha] at HOF
  have HWA := Lib.hid (writeAll_any gD gS gM n S L t g _ b w h hn hx hl)
  rw [show ((65 + 16 * (g % 2) : Nat) : Int) = (a : Int) + 1 by omega] at HWA
  obtain ⟨ns, hns⟩ : ∃ ns, ns = nsec b := ⟨_, rfl⟩
  have HNS := Lib.hid hns
  have HG := Lib.hid hg
  clear h hx e0 hl hn ha hns hg
  go_enter Try.func42, Try.ntmps42
  go_wp2_with (first | (go_at_call 55; refine HOF.out.mono ?_; rintro e w3 ⟨rfl, rfl⟩))
  refine HWA.out.mono ?_
  rintro e w1 ⟨ht1, k, hk, ⟨hk1, rfl, hd1⟩ | ⟨hk1, hk2, rfl, hd1⟩⟩
  · rw [← HNS.out] at hk1
    obtain rfl := hk1
    obtain ⟨T, hT⟩ : ∃ T, T = tn t k := ⟨_, rfl⟩
    rw [← hT] at hd1
    have HTN := Lib.hid hT
    have HT1 := Lib.hid ht1
    have HD1 := Lib.hid hd1
    have HK := Lib.hid hk
    clear ht1 hk hd1 hT
    by_cases c1 : T.ans = 0
    · go_wp2_with fail
      refine (dflush_yes gD gS gM n S (looL L g b k) T w1 HD1.out c1).mono ?_
      rintro e w2 ⟨rfl, hd2, ht2⟩
      rw [looL_last] at hd2
      have HT2 := Lib.hid (HT1.out.trans ht2)
      have HD2 := Lib.hid hd2
      have HC1 := Lib.hid c1
      have HW1 := Lib.hid (show ∀ j, j < nsec b + 1 → (tn t j).ans = 0 from fun j hj => by
        rw [← HNS.out] at hj
        by_cases e : j = k
        · subst e; rw [← HTN.out]; exact c1
        · exact HK.out j (by omega))
      clear hd2 ht2 c1
      obtain ⟨B2, hx2, hB2⟩ := HX.out w2 HT2.out
      have HH := Lib.hid (shead_any g _ b B2 w2 hx2 (Nat.le_trans hB2 HT2.out.size) HL.out HG.out)
      clear hx2 hB2
      go_wp2_with fail
      refine HH.out.mono ?_
      rintro e w3 ⟨rfl, hb3, hk3⟩
      have BK3 := Lib.hid hb3
      have HD3 := Lib.hid (HD2.out.fresh hk3)
      have HT3 := Lib.hid (HT2.out.trans (Turns.of_below hk3 (Nat.le_refl _)))
      have HHL := Lib.hid (hedL_length g b)
      have HHB := Lib.hid (hedL_byte g b)
      clear hb3 hk3
      obtain ⟨T2, hT2⟩ : ∃ T2, T2 = T.next := ⟨_, rfl⟩
      rw [← hT2] at HD3
      have HTN2 := Lib.hid (show T2 = tn t (k + 1) by rw [hT2, HTN.out]; rfl)
      clear hT2
      by_cases c2 : T2.ans = 0
      · go_wp2_with fail
        refine (dwrite_yes gD gS gM n (datL (last S L) g b k) (fun _ => none) T2 a _ (hedL g b) w3 HD3.out (by omega) c2 (fun w' ho => ⟨w3.heap.size, ?_, Nat.le_refl _⟩) HHL.out).mono ?_
        · have h := ho.blk BK3.out (by have := HD2.out.lt.1; omega)
          have h := Bts.of_whole (n := 64) h HHL.out (by simp [maxLen]) HHB.out
          rw [ho.2] at h
          exact h
        rintro e w4 ⟨rfl, hd4, ht4, _⟩
        have HT4 := Lib.hid (HT3.out.trans ht4)
        have HD4 := Lib.hid hd4
        have HC2 := Lib.hid c2
        clear hd4 ht4 c2
        obtain ⟨T3, hT3⟩ : ∃ T3, T3 = T2.next := ⟨_, rfl⟩
        rw [← hT3] at HD4
        have HTN3 := Lib.hid (show T3 = tn t (k + 2) by rw [hT3, HTN2.out]; rfl)
        clear hT3
        by_cases c3 : T3.ans = 0
        · go_wp2_with fail
          refine (dflush_yes gD gS gM n _ _ T3 w4 HD4.out c3).mono ?_
          rintro e w5 ⟨rfl, hd5, ht5⟩
          rw [last_upd, last_none] at hd5
          have HT5 := Lib.hid (HT4.out.trans ht5)
          have HD5 := Lib.hid hd5
          have HC3 := Lib.hid c3
          clear hd5 ht5 c3
          go_wp2
          go_ret
          refine ⟨HT5.out, .inr ⟨HW1.out, .inr (.inr ⟨by rw [← HNS.out, ← HTN2.out]; exact HC2.out, by rw [← HNS.out, ← HTN3.out]; exact HC3.out, rfl, ?_⟩)⟩⟩
          have h := HD5.out
          rw [HTN3.out, HA.out] at h
          rw [← HNS.out]
          unfold savL
          rw [← HNS.out]
          exact h
        · have t2 : (((T3.ans : Nat) : Int) != 0) = true := by rw [bne_iff_ne]; omega
          go_wp2_with fail
          refine (dflush_bad gD gS gM n _ _ T3 w4 HD4.out c3).mono ?_
          rintro e w5 ⟨rfl, hd5, ht5, _⟩
          have HT5 := Lib.hid (HT4.out.trans ht5)
          have HD5 := Lib.hid hd5
          have HC3 := Lib.hid c3
          clear hd5 ht5 c3
          go_wp2
          go_ret
          refine ⟨HT5.out, .inr ⟨HW1.out, .inr (.inl ⟨by rw [← HNS.out, ← HTN2.out]; exact HC2.out, by rw [← HNS.out, ← HTN3.out]; exact HC3.out, by rw [← HNS.out, ← HTN3.out]; rfl, ?_⟩)⟩⟩
          have h := HD5.out
          rw [HTN3.out, HA.out] at h
          rw [← HNS.out]
          exact h
      · have t2 : (((T2.ans : Nat) : Int) != 0) = true := by rw [bne_iff_ne]; omega
        go_wp2_with fail
        refine (dwrite_bad gD gS gM n _ _ T2 a _ _ w3 HD3.out (by omega) c2).mono ?_
        rintro e w4 ⟨rfl, hd4, ht4, _⟩
        have HT4 := Lib.hid (HT3.out.trans ht4)
        have HD4 := Lib.hid hd4
        have HC2 := Lib.hid c2
        clear hd4 ht4 c2
        go_wp2
        go_ret
        refine ⟨HT4.out, .inr ⟨HW1.out, .inl ⟨by rw [← HNS.out, ← HTN2.out]; exact HC2.out, by rw [← HNS.out, ← HTN2.out]; rfl, ?_⟩⟩⟩
        have h := HD4.out
        rw [HTN2.out] at h
        rw [← HNS.out]
        exact h
    · have t2 : (((T.ans : Nat) : Int) != 0) = true := by rw [bne_iff_ne]; omega
      go_wp2_with fail
      refine (dflush_bad gD gS gM n _ _ T w1 HD1.out c1).mono ?_
      rintro e w2 ⟨rfl, hd2, ht2, _⟩
      have HT2 := Lib.hid (HT1.out.trans ht2)
      have HD2 := Lib.hid hd2
      have HC1 := Lib.hid c1
      clear hd2 ht2 c1
      go_wp2
      go_ret
      refine ⟨HT2.out, .inl ⟨k, by rw [HNS.out]; exact Nat.le_refl _, HK.out, by rw [← HTN.out]; exact HC1.out, by rw [← HTN.out]; rfl, ?_⟩⟩
      have h := HD2.out
      rw [HTN.out] at h
      exact h
  · obtain ⟨T, hT⟩ : ∃ T, T = tn t k := ⟨_, rfl⟩
    rw [← hT]
    rw [← hT] at hk2
    have t2 : (((T.ans : Nat) : Int) != 0) = true := by rw [bne_iff_ne]; omega
    have HTN := Lib.hid hT
    have HT1 := Lib.hid ht1
    have HD1 := Lib.hid hd1
    have HK := Lib.hid hk
    have HK1 := Lib.hid hk1
    have HK2 := Lib.hid hk2
    clear ht1 hk hd1 hT hk1 hk2
    go_wp2
    go_ret
    exact ⟨HT1.out, .inl ⟨k, Nat.le_of_lt HK1.out, HK.out, by rw [← HTN.out]; exact HK2.out, by rw [← HTN.out]; rfl, HD1.out⟩⟩
end Go.Proofs.Ytfnegbcpiejdaaa

/-! ## SlotOk: The contracts of slot's Save and Load at a disk without trouble.   Conditions: the disk is known whole and has the slots' sectors. -/
namespace Go.Proofs.Ytfnegbcpiejdaaa
open Go.RowKit
set_option linter.unusedVariables false

/-- What a Save leaves at a disk without trouble. -/
def SaveOk (w : World) (gD gS gM n : Nat) (S : Nat → List Nat) (e : Ending) (w' : World) : Prop :=
  e = .returned (.int .i64 0) ∧ Dsk w' gD gS gM n S (fun _ => none) Tr.none_ ∧ Turns (dk gD gS gM) w w'
theorem save_ok (gD gS gM n : Nat) (S : Nat → List Nat) (L : Nat → Option (List Nat)) (g : Nat) (v : Value) (b : List Nat) (w : World) (h : Dsk w gD gS gM n S L Tr.none_) (hn : 96 ≤ n) (hx : Stay gD gS gM w v b) (hl : b.length ≤ 960) (hg : g < 4294967296) :
    Calls Try.prog 42 #[.pointer (some ⟨gD, 0, none⟩), .int .u32 (g : Int), v] w (SaveOk w gD gS gM n (savL (last S L) g b)) := by
  refine (save_any gD gS gM n S L Tr.none_ g v b w h hn hx hl hg).mono ?_
  rintro e w' ⟨ht, ⟨k, _, _, h1, _⟩ | ⟨_, ⟨h1, _⟩ | ⟨_, h1, _⟩ | ⟨_, _, h1, h2⟩⟩⟩
  · rw [tn_none] at h1; exact absurd none_ans h1
  · rw [tn_none] at h1; exact absurd none_ans h1
  · rw [tn_none] at h1; exact absurd none_ans h1
  · rw [tn_none] at h2
    exact ⟨h1, h2, ht⟩
/-- What a Load leaves at a disk without trouble. -/
def LoadOk (w : World) (gD gS gM n : Nat) (S : Nat → List Nat) (L : Nat → Option (List Nat)) (e : Ending) (w' : World) : Prop :=
  ∃ v, e = .returned (.tuple #[.int .u32 (((loadR (last S L)).1 : Nat) : Int), v, .int .i64 0]) ∧ w'.ownsRow w.heap.size 5 1 v (loadR (last S L)).2.length ((loadR (last S L)).2.map bv) ∧ Dsk w' gD gS gM n S L Tr.none_ ∧ Turns (dk gD gS gM) w w'
theorem load_ok (gD gS gM n : Nat) (S : Nat → List Nat) (L : Nat → Option (List Nat)) (w : World) (h : Dsk w gD gS gM n S L Tr.none_) (hn : 96 ≤ n) :
    Calls Try.prog 36 #[.pointer (some ⟨gD, 0, none⟩)] w (LoadOk w gD gS gM n S L) := by
  refine (load_any gD gS gM n S L Tr.none_ w h hn).mono ?_
  rintro e w' ⟨ht, k, _, _, ⟨_, hd, v, h1, h2⟩ | ⟨h1, _⟩⟩
  · rw [tn_none] at hd
    exact ⟨v, h1, h2, hd, ht⟩
  · rw [tn_none] at h1
    exact absurd none_ans h1
theorem loadR_byte {F : Nat → List Nat} (hb : ∀ f, f < 96 → ∀ y ∈ F f, y < 256) : ∀ y ∈ (loadR F).2, y < 256 := by
  have h1 : ∀ w, w < 2 → ∀ y ∈ sloB F w, y < 256 := fun w hw y hy =>
    flatN_byte (F := F) (a := 65 + 16 * w) (k := 15) (fun j hj => hb _ (by omega)) y (List.mem_of_mem_take hy)
  have h2 : ∀ x, x ≤ 2 → ∀ y ∈ (loadN F x).2, y < 256 := by
    intro x
    induction x with
    | zero => intro _ y hy; cases hy
    | succ x ih =>
      intro hx
      unfold loadN
      split
      · exact h1 x (by omega)
      · exact ih (by omega)
  exact h2 2 (Nat.le_refl _)
/-- What was saved at a disk of which nothing is whole is loaded. -/
theorem load_sav {F : Nat → List Nat} {g : Nat} {b : List Nat} (hg : g < 4294967296) (hb : b.length ≤ 960) (ho : Whole F (1 - g % 2) → sloG F (1 - g % 2) < g) : loadR (savL F g b) = (g, b) := by
  refine load_of (sav_whole hg hb) (fun hw => ?_)
  have hs : ∀ f, 64 + 16 * (1 - g % 2) ≤ f → f < 80 + 16 * (1 - g % 2) → savL F g b f = F f := fun f h1 h2 => sav_other hb (by omega)
  have hG : sloG (savL F g b) (1 - g % 2) = sloG F (1 - g % 2) := by unfold sloG; rw [hs _ (by omega) (by omega)]
  rw [hG]
  refine ho ?_
  have hN : sloN (savL F g b) (1 - g % 2) = sloN F (1 - g % 2) := by unfold sloN; rw [hs _ (by omega) (by omega)]
  have hB : sloB (savL F g b) (1 - g % 2) = sloB F (1 - g % 2) := by
    unfold sloB
    rw [hN, sloA_congr (F' := F) (fun f h1 h2 => hs f (by omega) (by omega))]
  unfold Whole at hw ⊢
  rw [hN, hG, hB, hs _ (by omega) (by omega)] at hw
  exact hw
/-- A disk of zeros. -/
theorem zer_whole (w : Nat) : ¬ Whole (fun _ => zer) w := zer_slot rfl

end Go.Proofs.Ytfnegbcpiejdaaa

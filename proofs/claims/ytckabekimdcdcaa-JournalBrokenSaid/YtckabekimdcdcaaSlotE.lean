/-
  The contract of slot's Load: of the slots that are whole the one with the greater gen, in new memory; or the first work that fails; ErrArg at no disk.
  Conditions: the disk is known whole and has the slots' sectors.
-/
import Derived.Test.YtckabekimdcdcaaSlotD
namespace Go.Proofs.Ytckabekimdcdcaa
open Go.RowKit
set_option linter.unusedVariables false

set_option maxHeartbeats 400000 in
theorem load_nil (w : World) :
    Calls Try.prog 23 #[.pointer none] w fun e w' => e = .returned (.tuple #[.int .u32 0, .slice none 0 0, .int .i64 1]) ∧ w = w' := by
  go_enter Try.func23, Try.ntmps23
  go_wp2
  go_ret3
  exact ⟨rfl, rfl⟩
theorem tn_add (t : Tr) (k j : Nat) : tn (tn t k) j = tn t (k + j) := by
  induction j with
  | zero => rfl
  | succ j ih => rw [tn, ih]; rfl
theorem load_yes {F : Nat → List Nat} {x : Nat} (h : Whole F x) (hg : (loadN F x).1 ≤ sloG F x) : loadN F (x + 1) = (sloG F x, sloB F x) := by
  show (if Whole F x ∧ (loadN F x).1 ≤ sloG F x then (sloG F x, sloB F x) else loadN F x) = _
  rw [if_pos ⟨h, hg⟩]
theorem load_no {F : Nat → List Nat} {x : Nat} (h : ¬ (Whole F x ∧ (loadN F x).1 ≤ sloG F x)) : loadN F (x + 1) = loadN F x := by
  show (if Whole F x ∧ (loadN F x).1 ≤ sloG F x then (sloG F x, sloB F x) else loadN F x) = _
  rw [if_neg h]
theorem loadN_lt {F : Nat → List Nat} (h : ∀ x, x < 2 → sloG F x < 4294967296) : ∀ x, x ≤ 2 → (loadN F x).1 < 4294967296 := by
  intro x
  induction x with
  | zero => intro _; show 0 < 4294967296; omega
  | succ x ih =>
    intro hx
    unfold loadN
    split
    · exact h x (by omega)
    · exact ih (by omega)

/-- What holds ahead of round x. -/
def LoaAt (w : World) (gD gS gM n : Nat) (S : Nat → List Nat) (L : Nat → Option (List Nat)) (t : Tr) (x G k : Nat) (v : Value) (wx : World) : Prop :=
  k ≤ 16 * x ∧ x ≤ k ∧ (∀ j, j < k → (tn t j).ans = 0) ∧ G = (loadN (last S L) x).1 ∧ wx.ownsRow w.heap.size 5 1 v (loadN (last S L) x).2.length ((loadN (last S L) x).2.map bv) ∧
  Dsk wx gD gS gM n S L (tn t k) ∧ Turns (dk gD gS gM) w wx
/-- What Load leaves. -/
def LoadPost (w : World) (gD gS gM n : Nat) (S : Nat → List Nat) (L : Nat → Option (List Nat)) (t : Tr) (e : Ending) (w' : World) : Prop :=
  Turns (dk gD gS gM) w w' ∧ ∃ k, k ≤ 32 ∧ (∀ j, j < k → (tn t j).ans = 0) ∧
    ((2 ≤ k ∧ Dsk w' gD gS gM n S L (tn t k) ∧ ∃ v, e = .returned (.tuple #[.int .u32 (((loadR (last S L)).1 : Nat) : Int), v, .int .i64 0]) ∧ w'.ownsRow w.heap.size 5 1 v (loadR (last S L)).2.length ((loadR (last S L)).2.map bv)) ∨
     ((tn t k).ans ≠ 0 ∧ e = .returned (.tuple #[.int .u32 0, .slice none 0 0, .int .i64 ((tn t k).ans : Nat)]) ∧ Dsk w' gD gS gM n S L (tn t (k + 1))))

set_option maxRecDepth 20000 in
set_option maxHeartbeats 1600000 in
theorem load_any (gD gS gM n : Nat) (S : Nat → List Nat) (L : Nat → Option (List Nat)) (t : Tr) (w : World) (h : Dsk w gD gS gM n S L t) (hn : 96 ≤ n) :
    Calls Try.prog 23 #[.pointer (some ⟨gD, 0, none⟩)] w (LoadPost w gD gS gM n S L t) := by
  have HD := Lib.hid h
  have HN := Lib.hid hn
  have HLL := Lib.hid (fun f (hf : f < 96) => h.last_ (show f < n by omega))
  have HGL := Lib.hid (fun x (hx : x < 2) => sloG_lt (F := last S L) (w := x) (HLL.out (64 + 16 * x) (by omega)).2)
  have HGN := Lib.hid (loadN_lt (F := last S L) HGL.out)
  have HM := Lib.hid (show ∀ q, dk gD gS gM q → q < w.heap.size from by rintro q (e | e | e) <;> (have := h.lt; omega))
  clear h hn
  go_enter Try.func23, Try.ntmps23
  go_wp2_with fail
  go_loopg [2, 3, 12] 2 (fun gg s2 s3 s12 wx => ∃ x G k : Nat, x + gg = 2 ∧ s12 = .int .u32 (x : Int) ∧ s2 = .int .u32 (G : Int) ∧ LoaAt w gD gS gM n S L t x G k s3 wx)
  case atStart => exact ⟨0, 0, 0, rfl, rfl, rfl, ⟨Nat.le_refl _, Nat.le_refl _, fun j hj => absurd hj (by omega), rfl, World.ownsRow_nil _ _ _ _, HD.out, Turns.refl _ _⟩⟩
  case round =>
    obtain ⟨x, G, k, hxg, rfl, rfl, hr⟩ := hrel
    have HR := Lib.hid hr
    have hGlt : G < 4294967296 := by rw [hr.2.2.2.1]; exact HGN.out x (by omega)
    clear hr
    by_cases hx : x < 2
    · have t1 : decide (x < 2) = true := decide_eq_true hx
      have t1' : decide ((x : Int) < 2) = true := decide_eq_true (by omega)
      have HOF := Lib.hid (headOf_any x wr (by omega))
      rw [show x % 2 = x by omega] at HOF
      have HRD := Lib.hid (read_any gD gS gM n S L (tn t k) x wr HR.out.2.2.2.2.2.1 HN.out hx)
      obtain ⟨o, ho⟩ : ∃ o, o = 64 + 16 * x := ⟨_, rfl⟩
      rw [← ho] at HOF HRD
      clear ho
      go_wp2_with (first | (go_at_call 34; refine HOF.out.mono ?_; rintro e w3 ⟨rfl, rfl⟩))
      refine HRD.out.mono ?_
      rintro e w2 ⟨ht2, j, hj, hj2, ⟨hj1, hd2, ⟨hw2, v, rfl, ho2⟩ | ⟨hw2, rfl⟩⟩ | ⟨hk2, rfl, hd2⟩⟩
      · obtain ⟨g, hg⟩ : ∃ g, g = sloG (last S L) x := ⟨_, rfl⟩
        have HG := Lib.hid hg
        have HW2 := Lib.hid hw2
        have HO2 := Lib.hid ho2
        have HBL := Lib.hid (show (sloB (last S L) x).length = sloN (last S L) x from by have := ho2.1; simpa using this)
        obtain ⟨A2, c2, rfl⟩ := own_any ho2
        rw [← hg]
        have HT2 := Lib.hid (HR.out.2.2.2.2.2.2.trans ht2)
        have HTW := Lib.hid ht2
        have HJ := Lib.hid hj2
        have HD2 := Lib.hid hd2
        rw [tn_add] at HD2
        have HWS := Lib.hid (show ∀ i, i < k + j → (tn t i).ans = 0 from fun i hi => by
          by_cases e : i < k
          · exact HR.out.2.2.1 i e
          · obtain ⟨d, rfl⟩ : ∃ d, i = k + d := ⟨i - k, by omega⟩
            rw [← tn_add]
            exact HJ.out d (by omega))
        have hglt : g < 4294967296 := by rw [hg]; exact HGL.out x hx
        clear ht2 hj2 hd2 hg hw2 ho2
        by_cases k1 : G ≤ g
        · have d1 : decide (G ≤ g) = true := decide_eq_true k1
          have K1 := Lib.hid k1
          clear k1
          go_wp2
          go_roundg (1 - x)
          case measure => omega
          case rel =>
            have hl := load_yes HW2.out (by rw [← HR.out.2.2.2.1, ← HG.out]; exact K1.out)
            refine ⟨x + 1, g, k + j, by omega, by go_num, rfl, by have := HR.out.1; omega, by have := HR.out.2.1; omega, HWS.out, by rw [hl]; exact HG.out, ?_, HD2.out, HT2.out⟩
            rw [hl, HBL.out]
            exact own_lower HO2.out HR.out.2.2.2.2.2.2.size
        · have d1 : decide (G ≤ g) = false := decide_eq_false k1
          have K1 := Lib.hid k1
          clear k1
          go_wp2
          go_roundg (1 - x)
          case measure => omega
          case rel =>
            have hl := load_no (F := last S L) (x := x) (fun h => K1.out (by rw [HR.out.2.2.2.1, HG.out]; exact h.2))
            refine ⟨x + 1, G, k + j, by omega, by go_num, rfl, by have := HR.out.1; omega, by have := HR.out.2.1; omega, HWS.out, by rw [hl]; exact HR.out.2.2.2.1, ?_, HD2.out, HT2.out⟩
            rw [hl]
            exact own_turns HR.out.2.2.2.2.1 HM.out HTW.out
      · have HW2 := Lib.hid hw2
        have HT2 := Lib.hid (HR.out.2.2.2.2.2.2.trans ht2)
        have HTW := Lib.hid ht2
        have HJ := Lib.hid hj2
        have HD2 := Lib.hid hd2
        rw [tn_add] at HD2
        have HWS := Lib.hid (show ∀ i, i < k + j → (tn t i).ans = 0 from fun i hi => by
          by_cases e : i < k
          · exact HR.out.2.2.1 i e
          · obtain ⟨d, rfl⟩ : ∃ d, i = k + d := ⟨i - k, by omega⟩
            rw [← tn_add]
            exact HJ.out d (by omega))
        clear ht2 hj2 hd2 hw2
        go_wp2
        go_roundg (1 - x)
        case measure => omega
        case rel =>
          have hl := load_no (F := last S L) (x := x) (fun h => HW2.out h.1)
          refine ⟨x + 1, G, k + j, by omega, by go_num, rfl, by have := HR.out.1; omega, by have := HR.out.2.1; omega, HWS.out, by rw [hl]; exact HR.out.2.2.2.1, ?_, HD2.out, HT2.out⟩
          rw [hl]
          exact own_turns HR.out.2.2.2.2.1 HM.out HTW.out
      · obtain ⟨T, hT⟩ : ∃ T, T = tn (tn t k) j := ⟨_, rfl⟩
        rw [← hT]
        rw [← hT] at hk2
        have t2 : (((T.ans : Nat) : Int) != 0) = true := by rw [bne_iff_ne]; omega
        have HTN := Lib.hid (show T = tn t (k + j) by rw [hT, tn_add])
        have HK2 := Lib.hid hk2
        have HT2 := Lib.hid (HR.out.2.2.2.2.2.2.trans ht2)
        have HTW := Lib.hid ht2
        have HJ := Lib.hid hj2
        have HD2 := Lib.hid hd2
        rw [tn_add] at HD2
        have HWS := Lib.hid (show ∀ i, i < k + j → (tn t i).ans = 0 from fun i hi => by
          by_cases e : i < k
          · exact HR.out.2.2.1 i e
          · obtain ⟨d, rfl⟩ : ∃ d, i = k + d := ⟨i - k, by omega⟩
            rw [← tn_add]
            exact HJ.out d (by omega))
        clear ht2 hj2 hd2 hT hk2
        go_wp2
        go_ret3
        exact ⟨HT2.out, k + j, by have := HR.out.1; omega, HWS.out, .inr ⟨by rw [← HTN.out]; exact HK2.out, by rw [← HTN.out]; rfl, HD2.out⟩⟩
    · obtain rfl : x = 2 := by omega
      have HGE := Lib.hid HR.out.2.2.2.1
      go_wp2
      go_ret3
      exact ⟨HR.out.2.2.2.2.2.2, k, by have := HR.out.1; omega, HR.out.2.2.1, .inl ⟨HR.out.2.1, HR.out.2.2.2.2.2.1, _, by rw [show (loadR (last S L)).1 = G from HGE.out.symm]; rfl, HR.out.2.2.2.2.1⟩⟩
end Go.Proofs.Ytckabekimdcdcaa

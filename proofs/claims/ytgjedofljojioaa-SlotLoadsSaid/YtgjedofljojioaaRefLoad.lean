/-
  The contract of the document's own Load: of a hundred sectors of a disk the gen and the bytes that were saved last.
  Conditions: there are a hundred sectors, each of 64 bytes; they are read in memory.
-/
import Derived.Test.YtgjedofljojioaaRefSlot
import Derived.Test.YtgjedofljojioaaSlotE
namespace Go.Proofs.Ytgjedofljojioaa
open Go.RowKit
set_option linter.unusedVariables false

theorem Pts.cut {w : World} {b off N c : Nat} {xss : List (List Nat)} (h : Pts w (.slice (some ⟨b, off, none⟩) N c) xss) {a k c' : Nat} (ha : a + k ≤ N) (hk : k ≤ c') (hc : c' ≤ maxLen) : Pts w (.slice (some ⟨b, off + a, none⟩) k c') ((xss.drop a).take k) := by
  have hl : xss.length = N := by
    obtain ⟨A', N', c1, e, h1, _⟩ := h
    injection e with e1 e2 e3
    omega
  refine ⟨_, k, c', rfl, by simp; omega, hk, hc, fun _ => ⟨b, off + a, rfl, fun j hj => ?_⟩⟩
  obtain ⟨u, h1, h2⟩ := h.at_ (j := a + j) (by omega)
  refine ⟨u, by rw [Nat.add_assoc]; exact h1, ?_⟩
  have e : ((xss.drop a).take k).getD j [] = xss.getD (a + j) [] := by simp [List.getD_eq_getElem?_getD, hj]
  rw [e]
  exact h2
theorem cut_getD {xss : List (List Nat)} {a k j : Nat} (hj : j < k) : ((xss.drop a).take k).getD j [] = xss.getD (a + j) [] := by simp [List.getD_eq_getElem?_getD, hj]

/-- What holds ahead of round x. -/
def RloAt (w : World) (F : Nat → List Nat) (x G : Nat) (v : Value) (wx : World) : Prop :=
  G = (loadN F x).1 ∧ Bts wx wx.heap.size v (loadN F x).2 ∧ Below w.heap.size w wx
/-- What it leaves. -/
def RLoadPost (w : World) (F : Nat → List Nat) (e : Ending) (w' : World) : Prop :=
  Below w.heap.size w w' ∧ ∃ v, e = .returned (.tuple #[.int .u32 (((loadR F).1 : Nat) : Int), v]) ∧ Bts w' w'.heap.size v (loadR F).2

set_option maxRecDepth 20000 in
set_option maxHeartbeats 1600000 in
theorem refLoad_any (v : Value) (xss : List (List Nat)) (F : Nat → List Nat) (w : World) (h : Pts w v xss) (hn : xss.length = 100) (hs : ∀ j, j < 100 → xss.getD j [] = F j) (hl : ∀ j, j < 100 → (F j).length = 64) (hb : ∀ j, j < 100 → ∀ y ∈ F j, y < 256) :
    Calls Try.prog 13 #[v] w (RLoadPost w F) := by
  have hlen : ∃ A c, v = .slice A 100 c ∧ 100 ≤ c ∧ c ≤ maxLen := by
    obtain ⟨A', N', c', e, h1, h2, h3, _⟩ := h
    exact ⟨A', c', by rw [e, ← h1, hn], by omega, h3⟩
  obtain ⟨A, c, rfl, hc1, hc2⟩ := hlen
  obtain ⟨b, off, rfl⟩ := h.addr (by omega)
  have HP := Lib.hid h
  have HN := Lib.hid hn
  have HS := Lib.hid hs
  have HL := Lib.hid hl
  have HGL := Lib.hid (fun x (hx : x < 2) => sloG_lt (F := F) (w := x) (hb (64 + 16 * x) (by omega)))
  have HGN := Lib.hid (loadN_lt (F := F) HGL.out)
  unfold maxLen at hc2
  clear h hn hs hl hb
  go_enter Try.func13, Try.ntmps13
  go_wp2_with fail
  go_loopg [4, 5, 6] 2 (fun gg s4 s5 s6 wx => ∃ x G : Nat, x + gg = 2 ∧ s6 = .int .u32 (x : Int) ∧ s4 = .int .u32 (G : Int) ∧ RloAt w F x G s5 wx)
  case atStart => exact ⟨0, 0, rfl, rfl, rfl, rfl, (Bts.of_own (own_empty w _) (fun y hy => by cases hy)).more (by simp), (Below.refl _ _).alloc (Nat.le_refl _) _⟩
  case round =>
    obtain ⟨x, G, hxg, rfl, rfl, hr⟩ := hrel
    have HR := Lib.hid hr
    have hGlt : G < 4294967296 := by rw [hr.1]; exact HGN.out x (by omega)
    clear hr
    by_cases hx : x < 2
    · have HPW := Lib.hid (HP.out.below HR.out.2.2)
      have HCUT := Lib.hid (HPW.out.cut (a := 64 + 16 * x) (k := 16) (c' := c - (64 + 16 * x)) (by omega) (by omega) (by unfold maxLen; omega))
      have HSL := Lib.hid (refSlot_any (some ⟨b, off + (64 + 16 * x), none⟩) (c - (64 + 16 * x)) _ F x wr HCUT.out (by simp; have := HN.out; omega) (fun j hj => by rw [cut_getD hj]; exact HS.out _ (by omega)) (fun j hj => by rw [cut_getD hj, HS.out _ (by omega)]; exact HL.out _ (by omega)) hx)
      rcases (show x = 0 ∨ x = 1 by omega) with rfl | rfl
      · simp only [Nat.mul_zero, Nat.add_zero] at HSL
        go_wp2_with fail
        refine HSL.out.mono ?_
        rintro e w2 ⟨hb2, g, v2, T, rfl, hT, hT2, hg, A2, n2, c2, rfl⟩
        have HB2 := Lib.hid hb2
        have HK := Lib.hid (HR.out.2.2.trans (hb2.mono HR.out.2.2.size))
        clear hb2
        cases T with
        | false =>
          have HNW := Lib.hid (show ¬ Whole F 0 from fun hw => by have := hT.2 hw; cases this)
          clear hT hT2
          go_wp2
          go_roundg 1
          case measure => omega
          case rel =>
            have hl := load_no (F := F) (x := 0) (fun h => HNW.out h.1)
            refine ⟨1, G, by omega, rfl, rfl, by rw [hl]; exact HR.out.1, by rw [hl]; exact (HR.out.2.1.below HB2.out).more HB2.out.size, HK.out⟩
        | true =>
          have HWW := Lib.hid (hT.1 rfl)
          have HTG := Lib.hid (hT2 rfl).1
          have HTB := Lib.hid (hT2 rfl).2
          clear hT hT2
          by_cases k1 : G ≤ g
          · have d1 : decide (G ≤ g) = true := decide_eq_true k1
            have K1 := Lib.hid k1
            clear k1
            go_wp2
            go_roundg 1
            case measure => omega
            case rel =>
              have hl := load_yes (F := F) (x := 0) HWW.out (by rw [← HR.out.1, ← HTG.out]; exact K1.out)
              refine ⟨1, g, by omega, rfl, rfl, by rw [hl]; exact HTG.out, by rw [hl]; exact HTB.out, HK.out⟩
          · have d1 : decide (G ≤ g) = false := decide_eq_false k1
            have K1 := Lib.hid k1
            clear k1
            go_wp2
            go_roundg 1
            case measure => omega
            case rel =>
              have hl := load_no (F := F) (x := 0) (fun h => K1.out (by rw [HR.out.1, HTG.out]; exact h.2))
              refine ⟨1, G, by omega, rfl, rfl, by rw [hl]; exact HR.out.1, by rw [hl]; exact (HR.out.2.1.below HB2.out).more HB2.out.size, HK.out⟩
      · simp only [Nat.mul_one, Nat.reduceAdd] at HSL
        go_wp2_with fail
        refine HSL.out.mono ?_
        rintro e w2 ⟨hb2, g, v2, T, rfl, hT, hT2, hg, A2, n2, c2, rfl⟩
        have HB2 := Lib.hid hb2
        have HK := Lib.hid (HR.out.2.2.trans (hb2.mono HR.out.2.2.size))
        clear hb2
        cases T with
        | false =>
          have HNW := Lib.hid (show ¬ Whole F 1 from fun hw => by have := hT.2 hw; cases this)
          clear hT hT2
          go_wp2
          go_roundg 0
          case measure => omega
          case rel =>
            have hl := load_no (F := F) (x := 1) (fun h => HNW.out h.1)
            refine ⟨2, G, by omega, rfl, rfl, by rw [hl]; exact HR.out.1, by rw [hl]; exact (HR.out.2.1.below HB2.out).more HB2.out.size, HK.out⟩
        | true =>
          have HWW := Lib.hid (hT.1 rfl)
          have HTG := Lib.hid (hT2 rfl).1
          have HTB := Lib.hid (hT2 rfl).2
          clear hT hT2
          by_cases k1 : G ≤ g
          · have d1 : decide (G ≤ g) = true := decide_eq_true k1
            have K1 := Lib.hid k1
            clear k1
            go_wp2
            go_roundg 0
            case measure => omega
            case rel =>
              have hl := load_yes (F := F) (x := 1) HWW.out (by rw [← HR.out.1, ← HTG.out]; exact K1.out)
              refine ⟨2, g, by omega, rfl, rfl, by rw [hl]; exact HTG.out, by rw [hl]; exact HTB.out, HK.out⟩
          · have d1 : decide (G ≤ g) = false := decide_eq_false k1
            have K1 := Lib.hid k1
            clear k1
            go_wp2
            go_roundg 0
            case measure => omega
            case rel =>
              have hl := load_no (F := F) (x := 1) (fun h => K1.out (by rw [HR.out.1, HTG.out]; exact h.2))
              refine ⟨2, G, by omega, rfl, rfl, by rw [hl]; exact HR.out.1, by rw [hl]; exact (HR.out.2.1.below HB2.out).more HB2.out.size, HK.out⟩
    · obtain rfl : x = 2 := by omega
      have HGE := Lib.hid HR.out.1
      go_wp2
      go_ret2
      exact ⟨HR.out.2.2, _, by rw [show (loadR F).1 = G from HGE.out.symm]; rfl, HR.out.2.1⟩
end Go.Proofs.Ytgjedofljojioaa

/-
  A list of frames that a closure makes longer: in the call's own memory.
  Conditions: those that each line bears.
-/
import Derived.Test.YtegoookllckhiaaTrC
import Derived.Test.YtegoookllckhiaaRwa
namespace Go.Proofs.Ytegoookllckhiaa
open Go.RowKit
set_option linter.unusedVariables false

def fV (l : List Nat) : List Value := l.map (fun (f : Nat) => Value.int .i64 (f : Int))
/-- The list in the variable that lies in block gB; M: the blocks that making it longer turns. -/
def WayR (gB : Nat) (l : List Nat) (M : Nat → Prop) (W : World) : Prop :=
  ∃ v, Blk W gB 23 #[v] ∧ RowAt W (gB + 1) 1 v l.length (fV l) ∧ M = fun k => k = gB ∨ v.ownBlock = some k
theorem WayR.below {gB : Nat} {l : List Nat} {M : Nat → Prop} {W W' : World} (h : WayR gB l M W) (hb : Below W.heap.size W W') : WayR gB l M W' := by
  obtain ⟨v, h1, h2, h3⟩ := h
  exact ⟨v, h1.below hb h1.lt, h2.fresh hb, h3⟩
theorem WayR.lt {gB : Nat} {l : List Nat} {M : Nat → Prop} {W : World} (h : WayR gB l M W) : ∀ k, M k → k < W.heap.size := by
  obtain ⟨v, h1, h2, rfl⟩ := h
  rintro k (rfl | hk)
  · exact h1.lt
  · exact (h2.lt k hk).2
theorem WayR.ge {gB : Nat} {l : List Nat} {M : Nat → Prop} {W : World} (h : WayR gB l M W) : ∀ k, M k → gB ≤ k := by
  obtain ⟨v, h1, h2, rfl⟩ := h
  rintro k (rfl | hk)
  · exact Nat.le_refl _
  · exact Nat.le_of_succ_le (h2.lt k hk).1
theorem WayR.its {gB : Nat} {l : List Nat} {M : Nat → Prop} {W : World} (h : WayR gB l M W) (hl : l.length ≤ maxLen) : ∃ v, W.cell? ⟨gB, 0, none⟩ = some v ∧ W.frozen? ⟨gB, 0, none⟩ = false ∧ Its W W.heap.size v (zI l) ∧ ∀ b o s n c, v = .slice (some ⟨b, o, s⟩) n c → gB + 1 ≤ b := by
  obtain ⟨v, h1, h2, h3⟩ := h
  refine ⟨v, h1.cell 0, h1.frozen 0, ?_, ?_⟩
  · obtain ⟨k1, k2, ⟨rfl, k3⟩ | ⟨g, o, cap, rfl, k3, k4, k5, k6, k7, k8⟩⟩ := h2
    · have : l = [] := List.eq_nil_of_length_eq_zero k3
      subst this
      exact Its.nil_ _ _
    · refine ⟨_, _, _, rfl, zI_length l, k3, k4, fun hn => ⟨g, o, rfl, k6, fun j hj => ?_⟩⟩
      rw [zI_at]
      refine k7 j _ ?_
      unfold fV
      rw [List.getElem?_map]
      simp [hj]
  · rintro b o s n c rfl
    exact (h2.lt b rfl).1
set_option maxRecDepth 20000 in
set_option maxHeartbeats 800000 in
theorem way_add (gB : Nat) (l : List Nat) (M : Nat → Prop) (W : World) (f : Nat) (h : WayR gB l M W) (hl : l.length < 4) :
    Calls Try.prog 32 #[.int .i64 (f : Int), .pointer (some ⟨gB, 0, none⟩)] W fun e w' => e = .returned (.tuple #[]) ∧ ∃ M', WayR gB (l ++ [f]) M' w' ∧ (∀ k, M' k → M k ∨ W.heap.size ≤ k) ∧ Turns M W w' := by
  obtain ⟨v, h1, h2, rfl⟩ := h
  obtain ⟨iI, hiI, hiz0, hiz1, hiz2⟩ := info_parts Try.infoInt8
  have HII := Lib.hid hiI
  have HI0 := Lib.hid hiz0
  have HI1 := Lib.hid hiz1
  have HI2 := Lib.hid hiz2
  have c0 : W.cell? ⟨gB, 0, none⟩ = some v := h1.cell 0
  have hB := (Below.refl W.heap.size W).alloc (Nat.le_refl _) (.cells #[Value.int .i64 (f : Int)] 3)
  have HB := Lib.hid hB
  have H1 := Lib.hid (h1.below hB h1.lt)
  have H2 := Lib.hid (h2.fresh hB)
  have H0 := Lib.hid h2
  have HLT := Lib.hid h1.lt
  have HONE := Lib.hid (show ∀ u ∈ [Value.int .i64 (f : Int)], u.oneCell' = true from fun u hu => by rw [List.mem_singleton.1 hu]; rfl)
  have HQ1 := Lib.hid (show l.length + 1 ≤ maxLen from by unfold maxLen; omega)
  have HQ2 := Lib.hid (show (l.length + 1) * 8 ≤ 140737488355328 from by omega)
  have HQ3 := Lib.hid (show gB + 1 ≤ (W.alloc (.cells #[Value.int .i64 (f : Int)] 3)).heap.size from by simp; have := h1.lt; omega)
  have CN := Lib.hid (cells_new W 3 [Value.int .i64 (f : Int)])
  clear h1 h2 hiI hiz0 hiz1 hiz2 hB hl
  go_enter Try.func32, Try.ntmps32
  go_wp2_with (refine wpList_append_at rfl (.tmp 3) (.tmp 5) 23 rfl (gB + 1) 3 iI (.int .i64 0) 1 8 Try.underlying23 HII.out HI0.out HI1.out HI2.out rfl (by decide) v l.length (fV l) rfl H2.out ⟨W.heap.size, 0, none⟩ 1 [Value.int .i64 (f : Int)] rfl rfl CN.out HONE.out HQ1.out HQ2.out HQ3.out ?_; intro v9 w9 hr9 hg9 ho9; obtain ⟨gq, oq, cq, rfl, _, _⟩ := hr9.some_ (by omega); have h9 := (hg9.block gB (by simp; have := HLT.out; omega) (fun e => by have := (H2.out.lt gB e.symm).1; omega)).trans H1.out; have c9 : w9.cell? ⟨gB, 0, none⟩ = some v := Blk.cell h9 0; have f9 : w9.frozen? ⟨gB, 0, none⟩ = false := Blk.frozen h9 0; have H9 := Lib.hid h9; have R9 := Lib.hid hr9; have G9 := Lib.hid hg9; have O9 := Lib.hid ho9; clear h9 hr9 hg9 ho9)
  (try simp only [Exit.inBlock, Exit.then])
  refine bodyPost_end (results_none rfl _ _ _) rfl ?_
  have hs9 := G9.out.size
  have hlt := HLT.out
  simp only [World.size_alloc] at hs9
  have T9 : Turns (fun k => k = gB ∨ v.ownBlock = some k) W w9 := (Turns.of_below HB.out (Nat.le_refl _)).trans (Turns.of_grown G9.out fun k hk => .inr hk)
  have TS : Turns (fun k => k = gB ∨ v.ownBlock = some k) w9 (w9.setCell ⟨gB, 0, none⟩ (Value.slice (some ⟨gq, oq, none⟩) (l.length + 1) cq)) := Turns.of_only ((Only.refl gB w9).setCell 0 _) (.inl rfl)
  refine ⟨rfl, fun k => k = gB ∨ (Value.slice (some ⟨gq, oq, none⟩) (l.length + 1) cq).ownBlock = some k, ⟨_, Blk.set_ H9.out 0 _, ?_, rfl⟩, ?_, T9.trans TS⟩
  · have e : fV (l ++ [f]) = fV l ++ [Value.int .i64 (f : Int)] := by unfold fV; rw [List.map_append]; rfl
    rw [e, List.length_append]
    exact R9.out.keep (fun k hk => Below.heap_setCell _ _ _ _ (fun hh => by have := (R9.out.lt k hk).1; simp only at hh; omega)) (by simp [World.setCell])
  · rintro k (rfl | hk)
    · exact .inl (.inl rfl)
    · rcases O9.out with e | e
      · exact .inl (.inr (e ▸ hk))
      · have := e k hk
        simp only [World.size_alloc] at this
        exact .inr (by omega)
set_option maxRecDepth 20000 in
set_option maxHeartbeats 400000 in
theorem way_none (f : Int) (W : World) : Calls Try.prog 38 #[.int .i64 f] W fun e w' => e = .returned (.tuple #[]) ∧ W = w' := by
  go_enter Try.func38, Try.ntmps38
  go_wp2
  (try simp only [Exit.inBlock, Exit.then])
  refine bodyPost_end (results_none rfl _ _ _) rfl ?_
  exact ⟨rfl, rfl⟩
end Go.Proofs.Ytegoookllckhiaa

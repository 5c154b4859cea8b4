/-
  The contracts of a tree's drop, walk and add, and of the functions that they hand on.
  Conditions: those that each line bears.
-/
import Derived.Test.YtegoookllckhiaaTrA
import Derived.Test.YtegoookllckhiaaRunI
import Derived.Test.YtegoookllckhiaaPooI
namespace Go.Proofs.Ytegoookllckhiaa
open Go.RowKit
set_option linter.unusedVariables false

def zI (l : List Nat) : List Int := l.map (fun (f : Nat) => (f : Int))
theorem zI_length (l : List Nat) : (zI l).length = l.length := List.length_map _
theorem zI_at (l : List Nat) (i : Nat) : (zI l).getD i 0 = ((l.getD i 0 : Nat) : Int) := by
  unfold zI
  rw [List.getD_eq_getElem?_getD, List.getD_eq_getElem?_getD, List.getElem?_map]
  cases l[i]? <;> rfl

theorem Its.turns {w w' : World} {B : Nat} {v : Value} {xs : List Int} {M : Nat → Prop} (h : Its w B v xs) (hB : B ≤ w.heap.size) (ht : Turns M w w') (ho : Off M v) : Its w' B v xs := by
  obtain ⟨A, n, c, rfl, h1, h2, h3, h4⟩ := h
  refine ⟨A, n, c, rfl, h1, h2, h3, fun hn => ?_⟩
  obtain ⟨b, off, rfl, hb, hc⟩ := h4 hn
  exact ⟨b, off, rfl, hb, fun j hj => (World.cell?_of_block (ht.block b (by omega) (ho b off none n c rfl hn))).trans (hc j hj)⟩
/-! ### the set of tables, in blocks gS and gL -/
def SetAt (w : World) (gS gL : Nat) (l : List Bool) : Prop := Blk w gS 93 (setV gL l.length) ∧ Own8 w gL l ∧ gS ≠ gL ∧ l.length = 1024
section
variable {w w' : World} {gS gL : Nat} {l : List Bool}
theorem SetAt.mem (h : SetAt w gS gL l) : RunMem w gS (fun k => k = gS ∨ k = gL) l := ⟨gL, rfl, h.1, h.2.1, h.2.2.1, by rw [h.2.2.2]; exact Nat.le_refl _⟩
theorem SetAt.far (h : SetAt w gS gL l) (h1 : w'.heap[gS]? = w.heap[gS]?) (h2 : w'.heap[gL]? = w.heap[gL]?) : SetAt w' gS gL l := ⟨h1.trans h.1, h2.trans h.2.1, h.2.2⟩
theorem SetAt.lt (h : SetAt w gS gL l) : gS < w.heap.size ∧ gL < w.heap.size := ⟨Blk.lt h.1, Blk.lt h.2.1⟩
theorem SetAt.fresh (h : SetAt w gS gL l) (hb : Below w.heap.size w w') : SetAt w' gS gL l := h.far (hb.block _ h.lt.1) (hb.block _ h.lt.2)
theorem SetAt.turns {M : Nat → Prop} (h : SetAt w gS gL l) (ht : Turns M w w') (h1 : ¬ M gS) (h2 : ¬ M gL) : SetAt w' gS gL l := h.far (ht.block _ h.lt.1 h1) (ht.block _ h.lt.2 h2)
end
set_option maxRecDepth 20000 in
set_option maxHeartbeats 400000 in
theorem set_add (gS gL : Nat) (l : List Bool) (v : Value) (fs : List Int) (w : World) (h : SetAt w gS gL l) (hv : Its w w.heap.size v fs) (ho : Off (fun k => k = gS ∨ k = gL) v) :
    Calls Try.prog 50 #[.pointer (some ⟨gS, 0, none⟩), v] w fun e w' => e = .returned (.tuple #[]) ∧ SetAt w' gS gL (putB l true fs) ∧ Turns (fun k => k = gS ∨ k = gL) w w' := by
  obtain ⟨h1, h2, h3, h4⟩ := h
  have MK := Lib.hid (mark_any gS gL l true v fs w h1 h2 h3 hv ho)
  obtain ⟨A, N, c, rfl, -⟩ := hv
  clear h1 h2 ho
  go_enter Try.func50, Try.ntmps50
  go_wp2_with fail
  refine MK.out.mono ?_
  rintro e w' ⟨rfl, k1, k2, k3⟩
  have K1 := Lib.hid k1
  have K2 := Lib.hid k2
  have K3 := Lib.hid k3
  clear k1 k2 k3
  go_wp2
  (try simp only [Exit.inBlock, Exit.then])
  refine bodyPost_end (results_none rfl _ _ _) rfl ?_
  exact ⟨rfl, ⟨by rw [putB_length]; exact K1.out, K2.out, h3, by rw [putB_length]; exact h4⟩, K3.out⟩
set_option maxRecDepth 20000 in
set_option maxHeartbeats 400000 in
theorem set_drop (gS gL : Nat) (l : List Bool) (v : Value) (fs : List Int) (w : World) (h : SetAt w gS gL l) (hv : Its w w.heap.size v fs) (ho : Off (fun k => k = gS ∨ k = gL) v) :
    Calls Try.prog 60 #[.pointer (some ⟨gS, 0, none⟩), v] w fun e w' => e = .returned (.tuple #[]) ∧ SetAt w' gS gL (putB l false fs) ∧ Turns (fun k => k = gS ∨ k = gL) w w' := by
  obtain ⟨h1, h2, h3, h4⟩ := h
  have MK := Lib.hid (mark_any gS gL l false v fs w h1 h2 h3 hv ho)
  obtain ⟨A, N, c, rfl, -⟩ := hv
  clear h1 h2 ho
  go_enter Try.func60, Try.ntmps60
  go_wp2_with fail
  refine MK.out.mono ?_
  rintro e w' ⟨rfl, k1, k2, k3⟩
  have K1 := Lib.hid k1
  have K2 := Lib.hid k2
  have K3 := Lib.hid k3
  clear k1 k2 k3
  go_wp2
  (try simp only [Exit.inBlock, Exit.then])
  refine bodyPost_end (results_none rfl _ _ _) rfl ?_
  exact ⟨rfl, ⟨by rw [putB_length]; exact K1.out, K2.out, h3, by rw [putB_length]; exact h4⟩, K3.out⟩

/-! ### drop -/
def PoolIn (w : World) (gP : Nat) (p : PS) : Prop := PoolMem w gP (fun k => k = gP) p
theorem PoolIn.of {w : World} {gP : Nat} {K : Nat → Prop} {p : PS} (h : PoolMem w gP K p) : PoolIn w gP p ∧ K = fun k => k = gP := by
  have e := h.1
  subst e
  exact ⟨h, rfl⟩
theorem PoolIn.turns {w w' : World} {gP : Nat} {p : PS} {M : Nat → Prop} (h : PoolIn w gP p) (ht : Turns M w w') (hm : ¬ M gP) : PoolIn w' gP p := PoolMem.far h fun k hk => by
  subst hk
  exact ht.block _ (PoolMem.lt h _ rfl) hm
theorem PoolIn.fresh {w w' : World} {gP : Nat} {p : PS} (h : PoolIn w gP p) (hb : Below w.heap.size w w') : PoolIn w' gP p := PoolMem.fresh h hb
theorem pool_free_in (gP : Nat) (p : PS) (f : Int) (w : World) (h : PoolIn w gP p) :
    Calls Try.prog 59 #[.pointer (some ⟨gP, 0, none⟩), .int .i64 f] w fun e w' => (∃ b, e = .returned (.bool b)) ∧ PoolIn w' gP (freeP p f).2 ∧ Turns (fun k => k = gP) w w' := by
  refine (pool_free gP _ p f w h).mono ?_
  rintro e w' ⟨K', rfl, h1, _, h3⟩
  exact ⟨⟨_, rfl⟩, (PoolIn.of h1).1, h3⟩
/-- The blocks of a tree, of its pool and of its set of tables: no two the same. -/
structure Dif (gT gP gS gL : Nat) : Prop where
  tP : gT ≠ gP
  tS : gT ≠ gS
  tL : gT ≠ gL
  pS : gP ≠ gS
  pL : gP ≠ gL
theorem freeAll_take {p : PS} {fs : List Nat} {i : Nat} (hi : i < fs.length) : freeAll p (fs.take (i + 1)) = (freeP (freeAll p (fs.take i)) ((fs.getD i 0 : Nat) : Int)).2 := by
  have e2 : fs.take (i + 1) = fs.take i ++ [fs[i]] := by rw [List.take_add_one, List.getElem?_eq_getElem hi]; rfl
  rw [e2, freeAll_snoc]
  simp [hi]
set_option maxRecDepth 20000 in
set_option maxHeartbeats 800000 in
theorem tdrop_any (gT gR gP r gS gL : Nat) (p : PS) (l : List Bool) (v : Value) (fs : List Nat) (w : World) (hT : TreeB w gT gR gP r gS) (hP : PoolIn w gP p) (hS : SetAt w gS gL l) (hD : Dif gT gP gS gL)
    (hv : Its w w.heap.size v (zI fs)) (ho : Off (fun k => k = gP ∨ k = gS ∨ k = gL) v) :
    Calls Try.prog 41 #[.pointer (some ⟨gT, 0, none⟩), v] w fun e w' => e = .returned (.tuple #[]) ∧ PoolIn w' gP (freeAll p fs) ∧ SetAt w' gS gL (putB l false (zI fs)) ∧ Turns (fun k => k = gP ∨ k = gS ∨ k = gL) w w' := by
  have HV := Lib.hid hv
  have HOF := Lib.hid ho
  obtain ⟨A, N, c, rfl, hN, _, hc, hz⟩ := hv
  rw [zI_length] at hN
  have HN := Lib.hid hN
  have HZ := Lib.hid (show ∀ i, i < N → ∃ b1 o1, A = some ⟨b1, o1, none⟩ ∧ b1 ≠ gP ∧ b1 < w.heap.size ∧ w.cell? ⟨b1, o1 + i, none⟩ = some (.int .i64 ((fs.getD i 0 : Nat) : Int)) from fun i hi => by
    obtain ⟨b1, o1, e, h1, h2⟩ := hz (by omega)
    have := ho b1 o1 none N c (by rw [e]) (by omega)
    have h3 := h2 i hi
    rw [zI_at] at h3
    exact ⟨b1, o1, e, fun e => this (.inl e), h1, h3⟩)
  have HT := Lib.hid hT
  have HP := Lib.hid hP
  have HS := Lib.hid hS
  have HD := Lib.hid hD
  have hml : N ≤ maxLen := by omega
  unfold maxLen at hml
  clear hN hz hT hP hS hD ho hc
  go_enter Try.func41, Try.ntmps41
  go_wp2_with fail
  go_loopg [5, 8] N (fun gg _ s8 wx => ∃ i : Nat, i + gg = N ∧ s8 = .int .i64 (i : Int) ∧ PoolIn wx gP (freeAll p (fs.take i)) ∧ Turns (fun k => k = gP) w wx)
  case atStart => exact ⟨0, by omega, rfl, HP.out, Turns.refl _ _⟩
  case round =>
    obtain ⟨i, hig, rfl, hp5, ht5⟩ := hrel
    have HP5 := Lib.hid hp5
    have HT5 := Lib.hid ht5
    have c1 : wr.cell? ⟨gT, 1, none⟩ = some (.pointer (some ⟨gP, 0, none⟩)) := Blk.cell (ht5.blk HT.out HD.out.tP) 1
    clear hp5 ht5
    by_cases hlt : i < N
    · have t4 : decide ((i : Int) < (N : Int)) = true := decide_eq_true (by omega)
      have t5 : (i : Int) < (N : Int) := by omega
      have t6 : (0 : Int) ≤ (i : Int) := by omega
      obtain ⟨b1, o1, rfl, h1, hbl, hcc⟩ := HZ.out i hlt
      obtain ⟨y, hy⟩ : ∃ y, y = fs.getD i 0 := ⟨_, rfl⟩
      have hcell : wr.cell? ⟨b1, o1 + i, none⟩ = some (.int .i64 (y : Int)) := (World.cell?_of_block (HT5.out.block b1 hbl h1)).trans (by rw [hy]; exact hcc)
      have FT := Lib.hid (freeAll_take (p := p) (fs := fs) (i := i) (by rw [HN.out]; exact hlt))
      rw [← hy] at FT
      have FR := Lib.hid (pool_free_in gP _ (y : Int) wr HP5.out)
      clear hcc hy h1 hbl
      go_wp2_with fail
      refine FR.out.mono ?_
      rintro e w1 ⟨⟨b, rfl⟩, k1, k2⟩
      have K1 := Lib.hid k1
      have K2 := Lib.hid (HT5.out.trans k2)
      clear k1 k2
      go_wp2_with fail
      go_roundg (N - (i + 1))
      case measure => omega
      case rel => exact ⟨i + 1, by omega, by go_num, by rw [FT.out]; exact K1.out, K2.out⟩
    · obtain rfl : i = N := by omega
      have t4 : decide ((i : Int) < (i : Int)) = false := decide_eq_false (by omega)
      have hS1 := HS.out.turns HT5.out (fun e => HD.out.pS e.symm) (fun e => HD.out.pL e.symm)
      have hV1 : Its wr wr.heap.size (.slice A i c) (zI fs) := (HV.out.turns (Nat.le_refl _) HT5.out (fun b o s n c e hn hk => HOF.out b o s n c e hn (.inl hk))).more HT5.out.size
      have DR := Lib.hid (set_drop gS gL l _ (zI fs) wr hS1 hV1 (fun b o s n c e hn hk => HOF.out b o s n c e hn (.inr hk)))
      have c3 : wr.cell? ⟨gT, 3, none⟩ = some (.pointer (some ⟨gS, 0, none⟩)) := Blk.cell (HT5.out.blk HT.out HD.out.tP) 3
      clear hS1 hV1 c1
      go_wp2_with fail
      refine DR.out.mono ?_
      rintro e w1 ⟨rfl, k1, k2⟩
      have K1 := Lib.hid k1
      have K2 := Lib.hid ((HT5.out.mono (fun k hk => .inl hk)).trans (k2.mono (fun k hk => .inr hk)) : Turns (fun k => k = gP ∨ k = gS ∨ k = gL) w w1)
      have K3 := Lib.hid (HP5.out.turns k2 (fun hk => hk.elim HD.out.pS HD.out.pL))
      have e3 : fs.take i = fs := by rw [← HN.out]; exact List.take_length
      rw [e3] at K3
      clear k1 k2
      go_wp2_with fail
      (try simp only [Exit.inBlock, Exit.then])
      refine bodyPost_end (results_none rfl _ _ _) rfl ?_
      exact ⟨rfl, K3.out, K1.out, K2.out⟩
end Go.Proofs.Ytegoookllckhiaa

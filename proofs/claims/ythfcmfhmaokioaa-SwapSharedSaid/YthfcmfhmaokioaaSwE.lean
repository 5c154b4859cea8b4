/-
  Release over the landed code.
  Conditions: the place is one that an int holds.
-/
import Derived.Test.YthfcmfhmaokioaaSwD
namespace Go.Proofs.Ythfcmfhmaokioaa
open Go.RowKit
set_option linter.unusedVariables false

section
variable (gS : Nat) (K : Nat → Prop) (s : SS) (w : World)
/-- The walk, whatever the map is: ahead of the test whether it is empty. -/
theorem rel_via (j : Nat) (x : Option Nat) (p : Pl) (b : Bool) (n : Nat) (W W1 W2 : World) (Q : Ending → World → Prop) (hj : j < 32)
    (hW : w.alloc (.cells #[.int .i64 p.c, .int .i64 p.g] 29) = W) (hW1 : W.alloc (.cells #[] 54) = W1)
    (c1 : W.cell? ⟨gS, j, none⟩ = some (.map x))
    (l2 : (Instr.lookup 49 (.map x) (.agg #[.int .i64 p.c, .int .i64 p.g]) true).run Try.prog W = .ok (.tuple #[.agg #[], .bool b]) W)
    (d2 : ∀ ty, (Builtin.delete_ #[49, 29] ty #[.map x, .agg #[.int .i64 p.c, .int .i64 p.g]]).run Try.prog W1 = .ok (.tuple #[]) W2)
    (e2 : ∀ ty, (Builtin.len_ #[49] ty #[.map x]).run Try.prog W2 = .ok (.int .i64 (n : Int)) W2)
    (v : Value) (c2 : W2.cell? ⟨gS, j, none⟩ = some v) (f2 : W2.frozen? ⟨gS, j, none⟩ = false)
    (hQ : Q (.returned (.bool b)) (if n = 0 then W2.setCell ⟨gS, j, none⟩ (.map none) else W2)) :
    Calls Try.prog 13 #[.pointer (some ⟨gS, 0, none⟩), .int .i64 (j : Int), .agg #[.int .i64 p.c, .int .i64 p.g]] w Q := by
  have hkp : Blk W w.heap.size 29 #[.int .i64 p.c, .int .i64 p.g] := by rw [← hW]; exact Blk.new _ _ _
  have hb1 : Below W.heap.size W W1 := by rw [← hW1]; exact belAl (Below.refl _ W) _
  have k1 : W.cell? ⟨w.heap.size, 0, none⟩ = some (.int .i64 p.c) := hkp.cell 0
  have k2 : W.cell? ⟨w.heap.size, 1, none⟩ = some (.int .i64 p.g) := hkp.cell 1
  have k3 : W1.cell? ⟨w.heap.size, 0, none⟩ = some (.int .i64 p.c) := (hkp.below hb1 hkp.lt).cell 0
  have k4 : W1.cell? ⟨w.heap.size, 1, none⟩ = some (.int .i64 p.g) := (hkp.below hb1 hkp.lt).cell 1
  have hj2 : (j : Int) < 32 := by omega
  have HH := Lib.hid (has_any gS (j : Int) W)
  rw [show decide (isSlot (j : Int)) = true from decide_eq_true ⟨by omega, by omega⟩] at HH
  clear hkp hb1
  by_cases c : n = 0
  · subst c
    rw [if_pos rfl] at hQ
    have HQ := Lib.hid hQ
    clear hQ
    go_enter Try.func13, Try.ntmps13
    go_wp2_with fail
    refine HH.out.mono ?_
    rintro e w' ⟨rfl, hw⟩
    have hw' := hw.symm
    subst hw'
    clear hw
    go_wp2_with fail
    exact HQ.out
  · have cl : ((n : Int) == 0) = false := beq_eq_false_iff_ne.2 (by omega)
    rw [if_neg c] at hQ
    have HQ := Lib.hid hQ
    clear hQ
    go_enter Try.func13, Try.ntmps13
    go_wp2_with fail
    refine HH.out.mono ?_
    rintro e w' ⟨rfl, hw⟩
    have hw' := hw.symm
    subst hw'
    clear hw
    go_wp2_with fail
    exact HQ.out
theorem rel_some (j k : Nat) (mo : Nat → Option Nat) (p : Pl) (hj : j < 32) (h : SwpMem w gS K s) (h1 : Blk w gS 52 (mapsL mo).toArray) (h2 : ∀ n, n < 32 → OneS w K (s n) (mo n)) (h3 : InjM mo) (hk : mo j = some k) (wp : WPl p) :
    Calls Try.prog 13 #[.pointer (some ⟨gS, 0, none⟩), .int .i64 (j : Int), .agg #[.int .i64 p.c, .int .i64 p.g]] w (SwpPost w gS K (.bool (decide (p ∈ s j))) (updS s j ((s j).erase p))) := by
  obtain ⟨W, hW⟩ : ∃ W, w.alloc (.cells #[.int .i64 p.c, .int .i64 p.g] 29) = W := ⟨_, rfl⟩
  obtain ⟨W1, hW1⟩ : ∃ W1, W.alloc (.cells #[] 54) = W1 := ⟨_, rfl⟩
  have hbel : Below w.heap.size w W := by rw [← hW]; exact belAl (Below.refl _ w) _
  have hb1 : Below W.heap.size W W1 := by rw [← hW1]; exact belAl (Below.refl _ W) _
  have hB' : Blk W gS 52 (mapsL mo).toArray := h1.below hbel h1.lt
  have hB1 : Blk W1 gS 52 (mapsL mo).toArray := hB'.below hb1 hB'.lt
  have hO := (h2 j hj).fresh_ hbel
  rw [hk] at hO
  have hK := hO.1
  have hin := hO.tight (h.ok j)
  have l2 : (Instr.lookup 49 (.map (some k)) (.agg #[.int .i64 p.c, .int .i64 p.g]) true).run Try.prog W = .ok (.tuple #[.agg #[], .bool (decide (p ∈ s j))]) W := by
    have := hin.run_look Try.underlying49 (eqH_zero W) p wp
    have e1 : (setL (s j) p).getD (.agg #[]) = .agg #[] := by unfold setL; split <;> rfl
    have e2 : (setL (s j) p).isSome = decide (p ∈ s j) := by
      unfold setL
      by_cases c : p ∈ s j
      · rw [if_pos c, decide_eq_true c]; rfl
      · rw [if_neg c, decide_eq_false c]; rfl
    rw [e1, e2] at this
    exact this
  have hin1 : MapK EP W1 k (s j).length (setL (s j)) := hin.far (hb1.block _ hin.blk)
  obtain ⟨W2, hd2, hm2, ho2⟩ := hin1.run_drop Try.underlying49 p wp 0
  have hm2' := hm2.congr (setL_erase (h.ok j) p)
  have hsE := srt_erase (h.ok j) p
  have hle : ((s j).erase p).length ≤ 200000 := Nat.le_trans (List.length_erase_le ..) (h.len j)
  have hgk : gS ≠ k := fun e => hB'.noMap hin.isMap e.symm
  have hB2 : Blk W2 gS 52 (mapsL mo).toArray := by
    unfold Blk
    rw [ho2.1.block gS hB1.lt (fun e => hgk (by injection e))]
    exact hB1
  have hT2 : Turns K w W2 := ((Turns.of_below hbel (Nat.le_refl _)).trans (Turns.of_below hb1 (Nat.le_refl _))).trans (Turns.of_only ho2 hK)
  have hlt2 : ∀ i, K i → i < W2.heap.size := fun i hi => Nat.lt_of_lt_of_le (h.lt i hi) hT2.size
  have hoth : ∀ n, n < 32 → n ≠ j → OneS W2 K (s n) (mo n) := fun n hn hne => (((h2 n hn).fresh_ hbel).fresh_ hb1).but ho2 (fun e => hne (h3 n j k hn hj e hk))
  have c1 : W.cell? ⟨gS, j, none⟩ = some (.map (some k)) := by rw [hB'.cell j, ← hk]; simpa using mapsL_at mo hj
  have c2 : W2.cell? ⟨gS, j, none⟩ = some (.map (some k)) := by rw [hB2.cell j, ← hk]; simpa using mapsL_at mo hj
  refine rel_via gS w j (some k) p (decide (p ∈ s j)) ((s j).erase p).length W W1 W2 _ hj hW hW1 c1 l2 (fun ty => hd2)
    (fun ty => hm2'.run_len Try.underlying49 (srt_nd hsE) (fun x => setL_ne.symm) ty) _ c2 (hB2.frozen j) ?_
  by_cases c : ((s j).erase p).length = 0
  · rw [if_pos c]
    have hoW : Only gS W2 (W2.setCell ⟨gS, j, none⟩ (.map none)) := (Only.refl gS W2).setCell j _
    refine ⟨K, rfl, SwpMem.one_ (mo' := updM mo j none) (fun i hi => by rw [hoW.2]; exact hlt2 i hi) h.ok h.len h.kS hsE hle ?_ ?_ (fun n hn hne => ?_) (h3.none_ j), fun i hi => .inl hi, hT2.trans (Turns.of_only hoW h.kS)⟩
    · rw [← mapsL_set]; exact hB2.setL j _
    · rw [updM_same]; exact List.eq_nil_of_length_eq_zero c
    · rw [updM_other _ _ _ hne]; exact (hoth n hn hne).cell_ hB2 hoW
  · rw [if_neg c]
    refine ⟨K, rfl, SwpMem.one_ (mo' := mo) hlt2 h.ok h.len h.kS hsE hle hB2 ?_ hoth h3, fun i hi => .inl hi, hT2⟩
    rw [hk]
    exact ⟨hK, _, hm2'⟩
theorem rel_none (j : Nat) (mo : Nat → Option Nat) (p : Pl) (hj : j < 32) (h : SwpMem w gS K s) (h1 : Blk w gS 52 (mapsL mo).toArray) (h2 : ∀ n, n < 32 → OneS w K (s n) (mo n)) (h3 : InjM mo) (hk : mo j = none) (wp : WPl p) :
    Calls Try.prog 13 #[.pointer (some ⟨gS, 0, none⟩), .int .i64 (j : Int), .agg #[.int .i64 p.c, .int .i64 p.g]] w (SwpPost w gS K (.bool (decide (p ∈ s j))) (updS s j ((s j).erase p))) := by
  have hsj : s j = [] := by have := h2 j hj; rw [hk] at this; exact this
  obtain ⟨W, hW⟩ : ∃ W, w.alloc (.cells #[.int .i64 p.c, .int .i64 p.g] 29) = W := ⟨_, rfl⟩
  obtain ⟨W1, hW1⟩ : ∃ W1, W.alloc (.cells #[] 54) = W1 := ⟨_, rfl⟩
  have hbel : Below w.heap.size w W := by rw [← hW]; exact belAl (Below.refl _ w) _
  have hb1 : Below W.heap.size W W1 := by rw [← hW1]; exact belAl (Below.refl _ W) _
  have hB' : Blk W gS 52 (mapsL mo).toArray := h1.below hbel h1.lt
  have hB1 : Blk W1 gS 52 (mapsL mo).toArray := hB'.below hb1 hB'.lt
  have hT1 : Turns K w W1 := (Turns.of_below hbel (Nat.le_refl _)).trans (Turns.of_below hb1 (Nat.le_refl _))
  have c1 : W.cell? ⟨gS, j, none⟩ = some (.map none) := by rw [hB'.cell j, ← hk]; simpa using mapsL_at mo hj
  have c2 : W1.cell? ⟨gS, j, none⟩ = some (.map none) := by rw [hB1.cell j, ← hk]; simpa using mapsL_at mo hj
  have l2 : (Instr.lookup 49 (.map none) (.agg #[.int .i64 p.c, .int .i64 p.g]) true).run Try.prog W = .ok (.tuple #[.agg #[], .bool false]) W :=
    MapK.nil_look EP W Try.underlying49 (eqH_zero W) true p wp
  rw [hsj, show decide (p ∈ ([] : List Pl)) = false from decide_eq_false List.not_mem_nil, show ([] : List Pl).erase p = [] from rfl]
  refine rel_via gS w j none p false 0 W W1 W1 _ hj hW hW1 c1 l2 (fun ty => MapK.nil_drop EP W1 Try.underlying49 p wp ty)
    (fun ty => Maps.len_nil Try.underlying49 ty) _ c2 (hB1.frozen j) ?_
  rw [if_pos rfl]
  have hoW : Only gS W1 (W1.setCell ⟨gS, j, none⟩ (.map none)) := (Only.refl gS W1).setCell j _
  refine ⟨K, rfl, SwpMem.one_ (mo' := updM mo j none) (fun i hi => by rw [hoW.2]; exact Nat.lt_of_lt_of_le (h.lt i hi) hT1.size) h.ok h.len h.kS List.Pairwise.nil (Nat.zero_le _) ?_ ?_ (fun n hn hne => ?_) (h3.none_ j), fun i hi => .inl hi, hT1.trans (Turns.of_only hoW h.kS)⟩
  · rw [← mapsL_set]; exact hB1.setL j _
  · rw [updM_same]; exact rfl
  · rw [updM_other _ _ _ hne]; exact ((((h2 n hn).fresh_ hbel).fresh_ hb1)).cell_ hB1 hoW
end
/-- No such slot. -/
theorem rel_no (v : Value) (n : Int) (p : Pl) (w : World) (hh : ∀ W, Calls Try.prog 20 #[v, .int .i64 n] W fun e w' => e = .returned (.bool false) ∧ w' = W) :
    Calls Try.prog 13 #[v, .int .i64 n, .agg #[.int .i64 p.c, .int .i64 p.g]] w fun e w' => e = .returned (.bool false) ∧ Below w.heap.size w w' := by
  have HB := Lib.hid (belAl (Below.refl w.heap.size w) (.cells #[.int .i64 p.c, .int .i64 p.g] 29))
  go_enter Try.func13, Try.ntmps13
  go_wp2_with fail
  refine (hh _).mono ?_
  rintro e w' ⟨rfl, rfl⟩
  go_wp2_with fail
  go_ret
  exact ⟨rfl, HB.out⟩
theorem swap_release (gS : Nat) (K : Nat → Prop) (s : SS) (w : World) (n : Int) (p : Pl) (h : SwpMem w gS K s) (wp : WPl p) :
    Calls Try.prog 13 #[.pointer (some ⟨gS, 0, none⟩), .int .i64 n, .agg #[.int .i64 p.c, .int .i64 p.g]] w (SwpPost w gS K (.bool (inS s n p)) (relS s n p)) := by
  unfold relS inS
  by_cases c : isSlot n
  · rw [decide_eq_true c, if_pos c, Bool.true_and]
    obtain ⟨c0, c1⟩ := c
    obtain ⟨j, rfl⟩ := Int.eq_ofNat_of_zero_le c0
    rw [Int.toNat_natCast]
    obtain ⟨mo, h1, h2, h3⟩ := h.at_
    cases hk : mo j with
    | none => exact rel_none gS K s w j mo p (by omega) h h1 h2 h3 hk wp
    | some k => exact rel_some gS K s w j k mo p (by omega) h h1 h2 h3 hk wp
  · rw [decide_eq_false c, if_neg c, Bool.false_and]
    have hh : ∀ W, Calls Try.prog 20 #[.pointer (some ⟨gS, 0, none⟩), .int .i64 n] W fun e w' => e = .returned (.bool false) ∧ w' = W := fun W => by
      have := has_any gS n W
      rw [decide_eq_false c] at this
      exact this
    refine (rel_no _ n p w hh).mono ?_
    rintro e w' ⟨rfl, hb⟩
    exact ⟨K, rfl, h.fresh hb, fun k hk => .inl hk, Turns.of_below hb (Nat.le_refl _)⟩
theorem swap_release_nil (w : World) (n c g : Int) : Calls Try.prog 13 #[.pointer none, .int .i64 n, .agg #[.int .i64 c, .int .i64 g]] w fun e w' => e = .returned (.bool false) ∧ Below w.heap.size w w' :=
  rel_no (.pointer none) n ⟨c, g⟩ w (has_nil n)
end Go.Proofs.Ythfcmfhmaokioaa

/-
  Hold and Release over the landed code.
  Conditions: a place that is held is one that an int holds; a slot's holders are few.
-/
import Derived.Test.YthfcmfhmaokioaaSwA
import Derived.StillTailTactics
import Derived.Carry
namespace Go.Proofs.Ythfcmfhmaokioaa
open Go.RowKit
set_option linter.unusedVariables false

theorem eqH_some (m : Nat) (w : World) : (binOp .eql 49 (.map (some m)) (.map none)).run Try.prog w = .ok (.bool false) w := by kernel_rfl
theorem eqH_none (w : World) : (binOp .eql 49 (.map none) (.map none)).run Try.prog w = .ok (.bool true) w := by kernel_rfl
theorem eqH_zero (w : World) : (zeroValue 54).run Try.prog w = .ok (.agg #[]) w := by kernel_rfl
theorem setL_erase {l : List Pl} (h : SrtP l) (p : Pl) : ∀ q, updK (setL l) p none q = setL (l.erase p) q := by
  intro q
  unfold updK setL
  by_cases c : q = p
  · rw [if_pos c, if_neg (fun hq => ((mem_erase_srt h).1 hq).1 c)]
  · rw [if_neg c]
    by_cases m : q ∈ l
    · rw [if_pos m, if_pos ((mem_erase_srt h).2 ⟨c, m⟩)]
    · rw [if_neg m, if_neg (fun hq => m ((mem_erase_srt h).1 hq).2)]
theorem setL_put {l : List Pl} (p : Pl) : ∀ q, updK (setL l) p (some (.agg #[])) q = setL (putP l p) q := by
  intro q
  unfold updK setL
  by_cases cq : q = p
  · rw [if_pos cq, if_pos (mem_putP.2 (.inl cq))]
  · rw [if_neg cq]
    by_cases cm : q ∈ l
    · rw [if_pos cm, if_pos (mem_putP.2 (.inr cm))]
    · rw [if_neg cm, if_neg (fun hq => (mem_putP.1 hq).elim cq cm)]
theorem updS_nop {s : SS} {n : Nat} {l : List Pl} (h : s n = l) : updS s n l = s := by
  funext k
  unfold updS
  split
  · rename_i c
    rw [c, h]
  · rfl
theorem updM_same (mo : Nat → Option Nat) (n : Nat) (x : Option Nat) : updM mo n x n = x := if_pos rfl
theorem updM_other (mo : Nat → Option Nat) (n : Nat) (x : Option Nat) {k : Nat} (h : k ≠ n) : updM mo n x k = mo k := if_neg h
def InjM (mo : Nat → Option Nat) : Prop := ∀ n m k, n < 32 → m < 32 → mo n = some k → mo m = some k → n = m
theorem InjM.none_ {mo : Nat → Option Nat} (h : InjM mo) (j : Nat) : InjM (updM mo j none) := fun n m k hn hm e1 e2 => by
  by_cases c : n = j
  · rw [c, updM_same] at e1; cases e1
  · by_cases d : m = j
    · rw [d, updM_same] at e2; cases e2
    · rw [updM_other _ _ _ c] at e1
      rw [updM_other _ _ _ d] at e2
      exact h n m k hn hm e1 e2
theorem InjM.new_ {mo : Nat → Option Nat} (h : InjM mo) (j : Nat) {x : Nat} (hx : ∀ n, n < 32 → mo n ≠ some x) : InjM (updM mo j (some x)) := fun n m k hn hm e1 e2 => by
  by_cases c : n = j
  · by_cases d : m = j
    · rw [c, d]
    · rw [c, updM_same] at e1
      injection e1 with e1
      rw [updM_other _ _ _ d, ← e1] at e2
      exact absurd e2 (hx m hm)
  · by_cases d : m = j
    · rw [d, updM_same] at e2
      injection e2 with e2
      rw [updM_other _ _ _ c, ← e2] at e1
      exact absurd e1 (hx n hn)
    · rw [updM_other _ _ _ c] at e1
      rw [updM_other _ _ _ d] at e2
      exact h n m k hn hm e1 e2
section
variable {w W W' : World} {gS j k : Nat} {K K' : Nat → Prop} {s : SS} {l : List Pl} {mo mo' : Nat → Option Nat} {x : Option Nat} {p : Pl}
theorem OneS.mono (h : OneS w K l x) (hk : ∀ k, K k → K' k) : OneS w K' l x := by
  cases x with
  | none => exact h
  | some k => exact ⟨hk k h.1, h.2⟩
theorem OneS.lt_ (h : OneS w K l x) (e : x = some k) : k < w.heap.size := by
  subst e
  obtain ⟨_, n, h⟩ := h
  exact h.blk
/-- Where one map's block alone turned. -/
theorem OneS.but (h : OneS W K l x) (ho : Only k W W') (hne : x ≠ some k) : OneS W' K l x := by
  cases x with
  | none => exact h
  | some i =>
    obtain ⟨h1, n, h2⟩ := h
    exact ⟨h1, n, h2.far (ho.1.block i h2.blk (fun e => hne (by injection e with e; rw [e])))⟩
theorem OneS.fresh_ (h : OneS W K l x) (hb : Below W.heap.size W W') : OneS W' K l x := by
  cases x with
  | none => exact h
  | some i =>
    obtain ⟨h1, n, h2⟩ := h
    exact ⟨h1, n, h2.far (hb.block i h2.blk)⟩
/-- Where the block of all slots alone turned. -/
theorem OneS.cell_ {cs : Array Value} (h : OneS W K l x) (hB : Blk W gS 52 cs) (ho : Only gS W W') : OneS W' K l x := by
  refine h.but ho fun e => ?_
  subst e
  obtain ⟨_, n, h2⟩ := h
  exact hB.noMap h2.isMap rfl
theorem SwpMem.one_ (hlt : ∀ k, K' k → k < W'.heap.size) (hok : SsOk s) (hle : ∀ n, (s n).length ≤ 200000) (kS : K' gS) (hl : SrtP l) (hll : l.length ≤ 200000) (hB : Blk W' gS 52 (mapsL mo').toArray)
    (hj : OneS W' K' l (mo' j)) (ho : ∀ n, n < 32 → n ≠ j → OneS W' K' (s n) (mo' n)) (hi : InjM mo') : SwpMem W' gS K' (updS s j l) := by
  refine ⟨hlt, hok.upd_ hl, fun n => ?_, kS, mo', hB, fun n hn => ?_, hi⟩
  · by_cases c : n = j
    · subst c; rw [updS_same]; exact hll
    · rw [updS_other _ _ _ c]; exact hle n
  · by_cases c : n = j
    · subst c; rw [updS_same]; exact hj
    · rw [updS_other _ _ _ c]; exact ho n hn c
/-- Just ahead of Hold's last store. -/
structure HoldAt (w : World) (K : Nat → Prop) (gS j k : Nat) (s : SS) (mo : Nat → Option Nat) (W : World) : Prop where
  blk : Blk W gS 52 (mapsL mo).toArray
  mj : mo j = some k
  inn : MapK EP W k (s j).length (setL (s j))
  oth : ∀ n, n < 32 → n ≠ j → OneS W K (s n) (mo n)
  inj : InjM mo
  trn : Turns K w W
  kK : K k ∨ w.heap.size ≤ k
theorem HoldAt.drew (h : HoldAt w K gS j k s mo W) : HoldAt w K gS j k s mo W.drew :=
  ⟨h.blk, h.mj, h.inn.far rfl, fun n hn hj => (h.oth n hn hj).far (fun _ _ => rfl), h.inj, h.trn.drew, h.kK⟩
theorem HoldAt.done (h : HoldAt w K gS j k s mo W) (hj : j < 32) (kS : K gS) (hok : SsOk s) (hle : ∀ n, (s n).length ≤ 200000) (hl : (s j).length ≤ 100000) (hlt : ∀ k, K k → k < w.heap.size) {n : Nat} (hm : MapK EP W' k n (updK (setL (s j)) p (some (.agg #[])))) (ho : Only k W W') :
    SwpPost w gS K (.bool true) (updS s j (putP (s j) p)) (.returned (.bool true)) W' := by
  have hkk := h.inn.blk
  have hsz := h.trn.size
  have hgk : gS ≠ k := fun e => h.blk.noMap h.inn.isMap e.symm
  refine ⟨fun i => K i ∨ i = k, rfl, SwpMem.one_ (mo' := mo) (fun i hi => ?_) hok hle (.inl kS) (srt_putP (hok j)) (Nat.le_trans (putP_length _ _) (by omega)) ?_ ?_ (fun n hn hne => ?_) h.inj, fun i hi => ?_, ?_⟩
  · rw [ho.2]
    rcases hi with hi | rfl
    · exact Nat.lt_of_lt_of_le (hlt i hi) hsz
    · exact hkk
  · unfold Blk
    rw [ho.1.block gS h.blk.lt (fun e => hgk (by injection e))]
    exact h.blk
  · rw [h.mj]
    exact ⟨.inr rfl, n, hm.congr (setL_put p)⟩
  · exact ((h.oth n hn hne).but ho (fun e => hne (h.inj n j k hn hj e h.mj))).mono (fun i hi => .inl hi)
  · rcases hi with hi | rfl
    · exact .inl hi
    · exact h.kK
  · rcases h.kK with hk | hk
    · exact h.trn.trans (Turns.of_only ho hk)
    · exact h.trn.new_ ho hk
end
section
variable (gS : Nat) (K : Nat → Prop) (s : SS) (w : World)
set_option maxRecDepth 20000 in
set_option maxHeartbeats 1000000 in
/-- The slot has a set already. -/
theorem hold_has (j k : Nat) (mo : Nat → Option Nat) (p : Pl) (hj : j < 32) (h : SwpMem w gS K s) (h1 : Blk w gS 52 (mapsL mo).toArray) (h2 : ∀ n, n < 32 → OneS w K (s n) (mo n)) (h3 : InjM mo) (hk : mo j = some k) (wp : WPl p) (hl : (s j).length ≤ 100000) :
    Calls Try.prog 10 #[.pointer (some ⟨gS, 0, none⟩), .int .i64 (j : Int), .agg #[.int .i64 p.c, .int .i64 p.g]] w (SwpPost w gS K (.bool true) (updS s j (putP (s j) p))) := by
  obtain ⟨W, hW⟩ : ∃ W, w.alloc (.cells #[.int .i64 p.c, .int .i64 p.g] 29) = W := ⟨_, rfl⟩
  have hbel : Below w.heap.size w W := by rw [← hW]; exact belAl (Below.refl _ w) _
  have hkp : Blk W w.heap.size 29 #[.int .i64 p.c, .int .i64 p.g] := by rw [← hW]; exact Blk.new _ _ _
  have hB' : Blk W gS 52 (mapsL mo).toArray := h1.below hbel h1.lt
  have hin : MapK EP W k (s j).length (setL (s j)) := by
    have := (h2 j hj).fresh_ hbel
    rw [hk] at this
    exact this.tight (h.ok j)
  have hK : K k := by have := h2 j hj; rw [hk] at this; exact this.1
  have HAT := Lib.hid (show HoldAt w K gS j k s mo W from ⟨hB', hk, hin, fun n hn _ => (h2 n hn).fresh_ hbel, h3, Turns.of_below hbel (Nat.le_refl _), .inl hK⟩)
  have c1 : W.cell? ⟨gS, j, none⟩ = some (.map (some k)) := by rw [hB'.cell j, ← hk]; simpa using mapsL_at mo hj
  have k1 : W.cell? ⟨w.heap.size, 0, none⟩ = some (.int .i64 p.c) := hkp.cell 0
  have k2 : W.cell? ⟨w.heap.size, 1, none⟩ = some (.int .i64 p.g) := hkp.cell 1
  obtain ⟨W2, hW2⟩ : ∃ W2, W2 = W.drew := ⟨_, rfl⟩
  have hin2 : MapK EP W2 k (s j).length (setL (s j)) := by rw [hW2]; exact hin.far rfl
  obtain ⟨W3, hst0, hm3, ho3⟩ := hin2.run_store Try.underlying49 (by omega) p wp (.agg #[])
  have hst : (Instr.mapUpdate 49 (.map (some k)) (.agg #[.int .i64 p.c, .int .i64 p.g]) (.agg #[])).run Try.prog W2 = .ok () W3 := hst0
  have HD := Lib.hid (show SwpPost w gS K (.bool true) (updS s j (putP (s j) p)) (.returned (.bool true)) W3 from by
    have hat : HoldAt w K gS j k s mo W2 := by rw [hW2]; exact HAT.out.drew
    exact hat.done hj h.kS h.ok h.len hl h.lt hm3 ho3)
  have HW2 := Lib.hid hW2
  have q1 := eqH_some k
  have hj2 : (j : Int) < 32 := by omega
  have HH := Lib.hid (has_any gS (j : Int) W)
  rw [show decide (isSlot (j : Int)) = true from decide_eq_true ⟨by omega, by omega⟩] at HH
  clear hW2 h h1 h2 h3 hk hl hbel hkp hB' hin hK hin2 hst0 hm3 ho3 HAT wp
  go_enter Try.func10, Try.ntmps10
  go_wp2_with fail
  refine HH.out.mono ?_
  rintro e w' ⟨rfl, hw⟩
  have hw' := hw.symm
  subst hw'
  clear hw
  go_wp2_with fail
  go_still_tail 8, (by kernel_rfl)
  change wpList _ _ _ _ _ W.drew
  rw [← HW2.out]
  go_wp2_with fail
  go_ret
  exact HD.out
set_option maxRecDepth 20000 in
set_option maxHeartbeats 1000000 in
/-- The slot has none. -/
theorem hold_new (j : Nat) (mo : Nat → Option Nat) (p : Pl) (hj : j < 32) (h : SwpMem w gS K s) (h1 : Blk w gS 52 (mapsL mo).toArray) (h2 : ∀ n, n < 32 → OneS w K (s n) (mo n)) (h3 : InjM mo) (hk : mo j = none) (wp : WPl p) (hl : (s j).length ≤ 100000) :
    Calls Try.prog 10 #[.pointer (some ⟨gS, 0, none⟩), .int .i64 (j : Int), .agg #[.int .i64 p.c, .int .i64 p.g]] w (SwpPost w gS K (.bool true) (updS s j (putP (s j) p))) := by
  have hsj : s j = [] := by have := h2 j hj; rw [hk] at this; exact this
  obtain ⟨W, hW⟩ : ∃ W, w.alloc (.cells #[.int .i64 p.c, .int .i64 p.g] 29) = W := ⟨_, rfl⟩
  have hbel : Below w.heap.size w W := by rw [← hW]; exact belAl (Below.refl _ w) _
  have hkp : Blk W w.heap.size 29 #[.int .i64 p.c, .int .i64 p.g] := by rw [← hW]; exact Blk.new _ _ _
  have hB' : Blk W gS 52 (mapsL mo).toArray := h1.below hbel h1.lt
  obtain ⟨m, hm⟩ : ∃ m, W.heap.size = m := ⟨_, rfl⟩
  obtain ⟨V, hV⟩ : ∃ V, W.alloc (.map #[] 0) = V := ⟨_, rfl⟩
  have hbV : Below W.heap.size W V := by rw [← hV]; exact belAl (Below.refl _ W) _
  have hBV : Blk V gS 52 (mapsL mo).toArray := hB'.below hbV hB'.lt
  have hMV : MapK EP V m (s j).length (setL (s j)) := by
    rw [← hV, ← hm]
    refine (MapK.made W EP _).congr fun q => ?_
    unfold setL
    rw [hsj, if_neg List.not_mem_nil]
  obtain ⟨W1, hW1⟩ : ∃ W1, V.setCell ⟨gS, j, none⟩ (.map (some m)) = W1 := ⟨_, rfl⟩
  have hoW : Only gS V W1 := by rw [← hW1]; exact (Only.refl gS V).setCell j _
  have hB1 : Blk W1 gS 52 (mapsL (updM mo j (some m))).toArray := by rw [← hW1, ← mapsL_set]; exact hBV.setL j _
  have hgm : m ≠ gS := hBV.noMap hMV.isMap
  have hM1 : MapK EP W1 m (s j).length (setL (s j)) := hMV.far (hoW.1.block m hMV.blk (fun e => hgm (by injection e)))
  have hwm : w.heap.size ≤ m := by rw [← hm]; exact hbel.size
  have hne : ∀ n, n < 32 → mo n ≠ some m := fun n hn e => by
    have := (h2 n hn).lt_ e
    omega
  have hT1 : Turns K w W1 := (Turns.of_below (hbel.trans (hbV.mono hbel.size)) (Nat.le_refl _)).trans (Turns.of_only hoW h.kS)
  have HAT := Lib.hid (show HoldAt w K gS j m s (updM mo j (some m)) W1 from ⟨hB1, updM_same _ _ _, hM1, fun n hn hnj => by
      rw [updM_other _ _ _ hnj]
      exact (((h2 n hn).fresh_ hbel).fresh_ hbV).cell_ hBV hoW, h3.new_ j hne, hT1, .inr hwm⟩)
  have hkp1 : Blk W1 w.heap.size 29 #[.int .i64 p.c, .int .i64 p.g] := by
    have hg := h.lt gS h.kS
    have hx := hkp.below hbV hkp.lt
    unfold Blk
    rw [hoW.1.block _ hx.lt (fun e => by injection e with e; omega)]
    exact hx
  have c0 : W.cell? ⟨gS, j, none⟩ = some (.map none) := by rw [hB'.cell j, ← hk]; simpa using mapsL_at mo hj
  have c2 : V.cell? ⟨gS, j, none⟩ = some (.map none) := by rw [hBV.cell j, ← hk]; simpa using mapsL_at mo hj
  have f2 : V.frozen? ⟨gS, j, none⟩ = false := hBV.frozen j
  have c1 : W1.cell? ⟨gS, j, none⟩ = some (.map (some m)) := by
    have e := mapsL_at (updM mo j (some m)) hj
    rw [updM_same] at e
    rw [hB1.cell j]
    simpa using e
  have k1 : W1.cell? ⟨w.heap.size, 0, none⟩ = some (.int .i64 p.c) := hkp1.cell 0
  have k2 : W1.cell? ⟨w.heap.size, 1, none⟩ = some (.int .i64 p.g) := hkp1.cell 1
  obtain ⟨W2, hW2⟩ : ∃ W2, W2 = W1.drew := ⟨_, rfl⟩
  have hin2 : MapK EP W2 m (s j).length (setL (s j)) := by rw [hW2]; exact hM1.far rfl
  obtain ⟨W3, hst0, hm3, ho3⟩ := hin2.run_store Try.underlying49 (by omega) p wp (.agg #[])
  have hst : (Instr.mapUpdate 49 (.map (some m)) (.agg #[.int .i64 p.c, .int .i64 p.g]) (.agg #[])).run Try.prog W2 = .ok () W3 := hst0
  have HD := Lib.hid (show SwpPost w gS K (.bool true) (updS s j (putP (s j) p)) (.returned (.bool true)) W3 from by
    have hat : HoldAt w K gS j m s (updM mo j (some m)) W2 := by rw [hW2]; exact HAT.out.drew
    exact hat.done hj h.kS h.ok h.len hl h.lt hm3 ho3)
  have HW2 := Lib.hid hW2
  have q1 := eqH_some m
  have hj2 : (j : Int) < 32 := by omega
  have q0 := eqH_none
  have hmm := @run_makeMap Try.prog
  have HH := Lib.hid (has_any gS (j : Int) W)
  rw [show decide (isSlot (j : Int)) = true from decide_eq_true ⟨by omega, by omega⟩] at HH
  clear hW2 h h1 h2 h3 hk hl hbel hkp hB' hin2 hst0 hm3 ho3 HAT wp hsj hbV hBV hMV hoW hB1 hgm hM1 hwm hne hT1 hkp1
  go_enter Try.func10, Try.ntmps10
  go_wp2_with fail
  refine HH.out.mono ?_
  rintro e w' ⟨rfl, hw⟩
  have hw' := hw.symm
  subst hw'
  clear hw
  go_wp2_with fail
  go_still_tail 8, (by kernel_rfl)
  change wpList _ _ _ _ _ W1.drew
  rw [← HW2.out]
  go_wp2_with fail
  go_ret
  exact HD.out
end
/-- No such slot. -/
theorem hold_no (v : Value) (n : Int) (p : Pl) (w : World) (hh : ∀ W, Calls Try.prog 20 #[v, .int .i64 n] W fun e w' => e = .returned (.bool false) ∧ w' = W) :
    Calls Try.prog 10 #[v, .int .i64 n, .agg #[.int .i64 p.c, .int .i64 p.g]] w fun e w' => e = .returned (.bool false) ∧ Below w.heap.size w w' := by
  have HB := Lib.hid (belAl (Below.refl w.heap.size w) (.cells #[.int .i64 p.c, .int .i64 p.g] 29))
  go_enter Try.func10, Try.ntmps10
  go_wp2_with fail
  refine (hh _).mono ?_
  rintro e w' ⟨rfl, rfl⟩
  go_wp2_with fail
  go_ret
  exact ⟨rfl, HB.out⟩
theorem swap_hold (gS : Nat) (K : Nat → Prop) (s : SS) (w : World) (n : Int) (p : Pl) (h : SwpMem w gS K s) (wp : WPl p) (hl : (s n.toNat).length ≤ 100000) :
    Calls Try.prog 10 #[.pointer (some ⟨gS, 0, none⟩), .int .i64 n, .agg #[.int .i64 p.c, .int .i64 p.g]] w (SwpPost w gS K (.bool (decide (isSlot n))) (holdS s n p)) := by
  unfold holdS
  by_cases c : isSlot n
  · rw [decide_eq_true c, if_pos c]
    obtain ⟨c0, c1⟩ := c
    obtain ⟨j, rfl⟩ := Int.eq_ofNat_of_zero_le c0
    rw [Int.toNat_natCast] at hl ⊢
    obtain ⟨mo, h1, h2, h3⟩ := h.at_
    cases hk : mo j with
    | none => exact hold_new gS K s w j mo p (by omega) h h1 h2 h3 hk wp hl
    | some k => exact hold_has gS K s w j k mo p (by omega) h h1 h2 h3 hk wp hl
  · rw [decide_eq_false c, if_neg c]
    have hh : ∀ W, Calls Try.prog 20 #[.pointer (some ⟨gS, 0, none⟩), .int .i64 n] W fun e w' => e = .returned (.bool false) ∧ w' = W := fun W => by
      have := has_any gS n W
      rw [decide_eq_false c] at this
      exact this
    refine (hold_no _ n p w hh).mono ?_
    rintro e w' ⟨rfl, hb⟩
    exact ⟨K, rfl, h.fresh hb, fun k hk => .inl hk, Turns.of_below hb (Nat.le_refl _)⟩
theorem swap_hold_nil (w : World) (n c g : Int) : Calls Try.prog 10 #[.pointer none, .int .i64 n, .agg #[.int .i64 c, .int .i64 g]] w fun e w' => e = .returned (.bool false) ∧ Below w.heap.size w w' :=
  hold_no (.pointer none) n ⟨c, g⟩ w (has_nil n)
end Go.Proofs.Ythfcmfhmaokioaa

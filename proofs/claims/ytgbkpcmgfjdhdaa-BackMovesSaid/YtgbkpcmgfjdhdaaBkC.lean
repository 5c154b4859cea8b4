/-
  Drop of the back map over the landed code.
  Conditions: none beside those that each line bears.
-/
import Derived.Test.YtgbkpcmgfjdhdaaBkB
namespace Go.Proofs.Ytgbkpcmgfjdhdaa
open Go.RowKit
set_option linter.unusedVariables false

theorem updB_nop {b : BS} {f : Int} {l : List Pl} (h : b f = l) : updB b f l = b := by
  funext g
  unfold updB
  split
  · rename_i c
    rw [c, h]
  · rfl
theorem setL_erase {l : List Pl} (h : SrtP l) (p : Pl) : ∀ q, updK (setL l) p none q = setL (l.erase p) q := by
  intro q
  unfold updK setL
  by_cases c : q = p
  · rw [if_pos c, if_neg (fun hq => ((mem_erase_srt h).1 hq).1 c)]
  · rw [if_neg c]
    by_cases m : q ∈ l
    · rw [if_pos m, if_pos ((mem_erase_srt h).2 ⟨c, m⟩)]
    · rw [if_neg m, if_neg (fun hq => m ((mem_erase_srt h).1 hq).2)]
theorem eqIn_zero (w : World) : (zeroValue 50).run Try.prog w = .ok (.agg #[]) w := by kernel_rfl
set_option maxRecDepth 20000 in
set_option maxHeartbeats 1000000 in
/-- The frame has a set. -/
theorem drop_has (gB m : Nat) (K : Nat → Prop) (b : BS) (bk : Int → Nat) (f : Int) (p : Pl) (w : World) (hB : Blk w gB 47 #[.map (some m)]) (hI : InMap w K b m bk) (hs : ∀ f, SrtP (b f)) (hle : ∀ f, (b f).length ≤ 200000) (hlt : ∀ k, K k → k < w.heap.size) (kB : K gB) (wf : W64 f) (wp : WPl p) (hf : b f ≠ []) :
    Calls Try.prog 12 #[.pointer (some ⟨gB, 0, none⟩), .int .i64 f, .agg #[.int .i64 p.c, .int .i64 p.g]] w (BackPost w gB K (.bool (decide (p ∈ b f))) (updB b f ((b f).erase p))) := by
  obtain ⟨W, hW⟩ : ∃ W, w.alloc (.cells #[.int .i64 p.c, .int .i64 p.g] 29) = W := ⟨_, rfl⟩
  have hbel : Below w.heap.size w W := by rw [← hW]; exact belAl (Below.refl _ w) _
  have hTr : Turns K w W := Turns.of_below hbel (Nat.le_refl _)
  have hkp : Blk W w.heap.size 29 #[.int .i64 p.c, .int .i64 p.g] := by rw [← hW]; exact Blk.new _ _ _
  have hI' : InMap W K b m bk := hI.far fun k hk => hbel.block k (hlt k hk)
  have hB' : Blk W gB 47 #[.map (some m)] := hB.below hbel hB.lt
  obtain ⟨n, hM⟩ := hI'.out
  have hin := hI'.tightI hs hf
  have l1 : (Instr.lookup 45 (.map (some m)) (.int .i64 f) false).run Try.prog W = .ok (.map (some (bk f))) W := by
    have := hM.run_get Try.underlying45 (z := .map none) (by rfl) f wf
    rw [show outL b bk f = some (.map (some (bk f))) from if_neg hf] at this
    exact this
  have l2 : (Instr.lookup 49 (.map (some (bk f))) (.agg #[.int .i64 p.c, .int .i64 p.g]) true).run Try.prog W = .ok (.tuple #[.agg #[], .bool (decide (p ∈ b f))]) W := by
    have := hin.run_look Try.underlying49 (eqIn_zero W) p wp
    have e1 : (setL (b f) p).getD (.agg #[]) = .agg #[] := by unfold setL; split <;> rfl
    have e2 : (setL (b f) p).isSome = decide (p ∈ b f) := by
      unfold setL
      by_cases c : p ∈ b f
      · rw [if_pos c, decide_eq_true c]; rfl
      · rw [if_neg c, decide_eq_false c]; rfl
    rw [e1, e2] at this
    exact this
  have c1 : W.cell? ⟨gB, 0, none⟩ = some (.map (some m)) := hB'.cell 0
  have k1 : W.cell? ⟨w.heap.size, 0, none⟩ = some (.int .i64 p.c) := hkp.cell 0
  have k2 : W.cell? ⟨w.heap.size, 1, none⟩ = some (.int .i64 p.g) := hkp.cell 1
  have HA := Lib.hid (all_any gB (some m) W c1)
  obtain ⟨W1, hW1⟩ : ∃ W1, W.alloc (.cells #[] 50) = W1 := ⟨_, rfl⟩
  have hb1 : Below W.heap.size W W1 := by rw [← hW1]; exact belAl (Below.refl _ W) _
  have hin1 : MapK EP W1 (bk f) (b f).length (setL (b f)) := hin.far (hb1.block _ hin.blk)
  have k3 : W1.cell? ⟨w.heap.size, 0, none⟩ = some (.int .i64 p.c) := (hkp.below hb1 hkp.lt).cell 0
  have k4 : W1.cell? ⟨w.heap.size, 1, none⟩ = some (.int .i64 p.g) := (hkp.below hb1 hkp.lt).cell 1
  obtain ⟨W2, hd2, hm2, ho2⟩ := hin1.run_drop Try.underlying49 p wp 0
  have d2 : ∀ ty, (Builtin.delete_ #[49, 29] ty #[.map (some (bk f)), .agg #[.int .i64 p.c, .int .i64 p.g]]).run Try.prog W1 = .ok (.tuple #[]) W2 := fun ty => hd2
  have hm2' := hm2.congr (setL_erase (hs f) p)
  have e2 : ∀ ty, (Builtin.len_ #[49] ty #[.map (some (bk f))]).run Try.prog W2 = .ok (.int .i64 (((b f).erase p).length : Int)) W2 := fun ty => hm2'.run_len Try.underlying49 (srt_nd (srt_erase (hs f) p)) (fun x => setL_ne.symm) ty
  obtain ⟨ki, hne, _⟩ := hI'.inn f hf
  have hk2 : ∀ j, j < W.heap.size → j ≠ bk f → W2.heap[j]? = W.heap[j]? := fun j hj hn => (ho2.1.block j (Nat.lt_of_lt_of_le hj hb1.size) (fun e => hn (by injection e with e))).trans (hb1.block j hj)
  have hB2 : Blk W2 gB 47 #[.map (some m)] := by
    unfold Blk
    rw [hk2 gB hB'.lt (fun e => hI'.neI hf hB' e.symm)]
    exact hB'
  have hM2 : MapK EI W2 m n (outL b bk) := hM.far (hk2 m hM.blk (fun e => hne e.symm))
  have hT2 : Turns K w W2 := (hTr.trans (Turns.of_below hb1 (Nat.le_refl _))).trans (Turns.of_only ho2 ki)
  have hO2 : ∀ g, g ≠ f → b g ≠ [] → K (bk g) ∧ bk g ≠ m ∧ ∃ n, MapK EP W2 (bk g) n (setL (b g)) := fun g hg hb => by
    obtain ⟨a1, a2, n', a3⟩ := hI'.inn g hb
    exact ⟨a1, a2, n', a3.far (hk2 _ a3.blk (fun e => hg (hI'.inj g f hb hf e)))⟩
  have c2 : W2.cell? ⟨gB, 0, none⟩ = some (.map (some m)) := hB2.cell 0
  have HA2 := Lib.hid (all_any gB (some m) W2 c2)
  have hlt2 : ∀ k, K k → k < W2.heap.size := fun k hk => Nat.lt_of_lt_of_le (hlt k hk) hT2.size
  obtain ⟨l, hl⟩ : ∃ l, (b f).erase p = l := ⟨_, rfl⟩
  have hsl : SrtP l := by rw [← hl]; exact srt_erase (hs f) p
  have HS := Lib.hid hs
  have HLE := Lib.hid hle
  have hll : l.length ≤ 200000 := by rw [← hl]; exact Nat.le_trans (List.length_erase_le ..) (hle f)
  have HJ := Lib.hid hI'.inj
  have HK := Lib.hid (And.intro kB (And.intro hI'.kM (And.intro ki hne)))
  rw [hl] at e2 hm2' ⊢
  by_cases c : l = []
  · subst c
    obtain ⟨W3, hd3, hm3, ho3⟩ := hM2.run_drop Try.underlying45 f wf 0
    have d3 : ∀ ty, (Builtin.delete_ #[45, 3] ty #[.map (some m), .int .i64 f]).run Try.prog W2 = .ok (.tuple #[]) W3 := fun ty => hd3
    have HP := Lib.hid (show BackPost w gB K (.bool (decide (p ∈ b f))) (updB b f []) (.returned (.bool (decide (p ∈ b f)))) W3 from by
      have hk3 : ∀ j, j < W2.heap.size → j ≠ m → W3.heap[j]? = W2.heap[j]? := fun j hj hn => ho3.1.block j hj (fun e => hn (by injection e with e))
      refine ⟨K, rfl, ⟨fun k hk => by rw [ho3.2]; exact hlt2 k hk, fun g => ?_, fun g => ?_, kB, some m, ?_, bk, ⟨hI'.kM, ⟨_, hm3.congr fun g => ?_⟩, fun g hg => ?_, fun g g' hg hg' e => ?_⟩⟩, fun k hk => .inl hk, hT2.trans (Turns.of_only ho3 hI'.kM)⟩
      · unfold updB
        split
        · exact List.Pairwise.nil
        · exact HS.out g
      · unfold updB
        split
        · exact Nat.zero_le _
        · exact HLE.out g
      · unfold Blk
        rw [hk3 gB hB2.lt (fun e => hI'.neM hB' e.symm)]
        exact hB2
      · unfold updK outL updB
        by_cases c : g = f
        · simp only [if_pos c, if_true]
        · simp only [if_neg c]
      · unfold updB at hg ⊢
        by_cases c : g = f
        · rw [if_pos c] at hg; exact absurd rfl hg
        · rw [if_neg c] at hg ⊢
          obtain ⟨a1, a2, n', a3⟩ := hO2 g c hg
          exact ⟨a1, a2, n', a3.far (hk3 _ a3.blk a2)⟩
      · unfold updB at hg hg'
        by_cases c : g = f
        · rw [if_pos c] at hg; exact absurd rfl hg
        · by_cases c' : g' = f
          · rw [if_pos c'] at hg'; exact absurd rfl hg'
          · rw [if_neg c] at hg
            rw [if_neg c'] at hg'
            exact HJ.out g g' hg hg' e)
    clear hB hI hs hle hlt kB wf wp hf hbel hTr hkp hI' hB' hM hin hb1 hin1 hd2 hm2 ho2 hm2' ki hne hk2 hB2 hM2 hT2 hO2 hlt2 hl hll hsl hd3 hm3 ho3
    go_enter Try.func12, Try.ntmps12
    go_wp2_with fail
    refine HA.out.mono ?_
    rintro e w' ⟨rfl, hw⟩
    have hw' := hw.symm
    subst hw'
    clear hw
    go_wp2_with fail
    refine HA2.out.mono ?_
    rintro e w' ⟨rfl, hw⟩
    have hw' := hw.symm
    subst hw'
    clear hw
    go_wp2_with fail
    go_ret
    exact HP.out
  · have cl : ((l.length : Int) == 0) = false := beq_eq_false_iff_ne.2 (by have := List.length_pos_iff.2 c; omega)
    have HP := Lib.hid (show BackPost w gB K (.bool (decide (p ∈ b f))) (updB b f l) (.returned (.bool (decide (p ∈ b f)))) W2 from by
      refine ⟨K, rfl, ⟨hlt2, fun g => ?_, fun g => ?_, kB, some m, hB2, bk, ⟨hI'.kM, ⟨_, hM2.congr fun g => ?_⟩, fun g hg => ?_, fun g g' hg hg' e => ?_⟩⟩, fun k hk => .inl hk, hT2⟩
      · unfold updB
        split
        · exact hsl
        · exact HS.out g
      · unfold updB
        split
        · exact hll
        · exact HLE.out g
      · unfold outL updB
        by_cases cg : g = f
        · simp only [if_pos cg]
          rw [cg, if_neg hf, if_neg c]
        · simp only [if_neg cg]
      · unfold updB at hg ⊢
        by_cases cg : g = f
        · rw [cg] at hg ⊢
          rw [if_pos rfl]
          exact ⟨ki, hne, _, hm2'⟩
        · rw [if_neg cg] at hg ⊢
          exact hO2 g cg hg
      · unfold updB at hg hg'
        have u : ∀ g, (if g = f then l else b g) ≠ [] → b g ≠ [] := fun g hg => by
          by_cases cg : g = f
          · rw [cg]; exact hf
          · rw [if_neg cg] at hg; exact hg
        exact HJ.out g g' (u g hg) (u g' hg') e)
    clear hB hI hs hle hlt kB wf wp hf hbel hTr hkp hI' hB' hM hin hb1 hin1 hd2 hm2 ho2 hm2' ki hne hk2 hB2 hM2 hT2 hO2 hlt2 hl hll hsl
    go_enter Try.func12, Try.ntmps12
    go_wp2_with fail
    refine HA.out.mono ?_
    rintro e w' ⟨rfl, hw⟩
    have hw' := hw.symm
    subst hw'
    clear hw
    go_wp2_with fail
    go_ret
    exact HP.out
theorem eqIn_dead (x : Option Nat) (w : World) : (zeroValue 49).run Try.prog w = .ok (.map none) w := by rfl
set_option maxRecDepth 20000 in
set_option maxHeartbeats 1000000 in
/-- The frame has no set. -/
theorem drop_no (gB m : Nat) (K : Nat → Prop) (b : BS) (bk : Int → Nat) (f : Int) (p : Pl) (w : World) (hB : Blk w gB 47 #[.map (some m)]) (hI : InMap w K b m bk) (hs : ∀ f, SrtP (b f)) (hle : ∀ f, (b f).length ≤ 200000) (hlt : ∀ k, K k → k < w.heap.size) (kB : K gB) (wf : W64 f) (wp : WPl p) (hf : b f = []) :
    Calls Try.prog 12 #[.pointer (some ⟨gB, 0, none⟩), .int .i64 f, .agg #[.int .i64 p.c, .int .i64 p.g]] w (BackPost w gB K (.bool false) b) := by
  obtain ⟨W, hW⟩ : ∃ W, w.alloc (.cells #[.int .i64 p.c, .int .i64 p.g] 29) = W := ⟨_, rfl⟩
  have hbel : Below w.heap.size w W := by rw [← hW]; exact belAl (Below.refl _ w) _
  have hTr : Turns K w W := Turns.of_below hbel (Nat.le_refl _)
  have hkp : Blk W w.heap.size 29 #[.int .i64 p.c, .int .i64 p.g] := by rw [← hW]; exact Blk.new _ _ _
  have hI' : InMap W K b m bk := hI.far fun k hk => hbel.block k (hlt k hk)
  have hB' : Blk W gB 47 #[.map (some m)] := hB.below hbel hB.lt
  obtain ⟨n, hM⟩ := hI'.out
  have l1 : (Instr.lookup 45 (.map (some m)) (.int .i64 f) false).run Try.prog W = .ok (.map none) W := by
    have := hM.run_get Try.underlying45 (z := .map none) (by rfl) f wf
    rw [show outL b bk f = none from if_pos hf] at this
    exact this
  have l2 : (Instr.lookup 49 (.map none) (.agg #[.int .i64 p.c, .int .i64 p.g]) true).run Try.prog W = .ok (.tuple #[.agg #[], .bool false]) W :=
    MapK.nil_look EP W Try.underlying49 (eqIn_zero W) true p wp
  have c1 : W.cell? ⟨gB, 0, none⟩ = some (.map (some m)) := hB'.cell 0
  have k1 : W.cell? ⟨w.heap.size, 0, none⟩ = some (.int .i64 p.c) := hkp.cell 0
  have k2 : W.cell? ⟨w.heap.size, 1, none⟩ = some (.int .i64 p.g) := hkp.cell 1
  have HA := Lib.hid (all_any gB (some m) W c1)
  obtain ⟨W1, hW1⟩ : ∃ W1, W.alloc (.cells #[] 50) = W1 := ⟨_, rfl⟩
  have hb1 : Below W.heap.size W W1 := by rw [← hW1]; exact belAl (Below.refl _ W) _
  have k3 : W1.cell? ⟨w.heap.size, 0, none⟩ = some (.int .i64 p.c) := (hkp.below hb1 hkp.lt).cell 0
  have k4 : W1.cell? ⟨w.heap.size, 1, none⟩ = some (.int .i64 p.g) := (hkp.below hb1 hkp.lt).cell 1
  have d2 : ∀ ty, (Builtin.delete_ #[49, 29] ty #[.map none, .agg #[.int .i64 p.c, .int .i64 p.g]]).run Try.prog W1 = .ok (.tuple #[]) W1 := fun ty => MapK.nil_drop EP W1 Try.underlying49 p wp ty
  have e2 : ∀ ty, (Builtin.len_ #[49] ty #[.map none]).run Try.prog W1 = .ok (.int .i64 0) W1 := fun ty => Maps.len_nil Try.underlying49 ty
  have hk2 : ∀ j, j < W.heap.size → W1.heap[j]? = W.heap[j]? := hb1.block
  have hB2 : Blk W1 gB 47 #[.map (some m)] := hB'.below hb1 hB'.lt
  have hM2 : MapK EI W1 m n (outL b bk) := hM.far (hk2 m hM.blk)
  have hT2 : Turns K w W1 := hTr.trans (Turns.of_below hb1 (Nat.le_refl _))
  have c2 : W1.cell? ⟨gB, 0, none⟩ = some (.map (some m)) := hB2.cell 0
  have HA2 := Lib.hid (all_any gB (some m) W1 c2)
  have hlt2 : ∀ k, K k → k < W1.heap.size := fun k hk => Nat.lt_of_lt_of_le (hlt k hk) hT2.size
  obtain ⟨W3, hd3, hm3, ho3⟩ := hM2.run_drop Try.underlying45 f wf 0
  have d3 : ∀ ty, (Builtin.delete_ #[45, 3] ty #[.map (some m), .int .i64 f]).run Try.prog W1 = .ok (.tuple #[]) W3 := fun ty => hd3
  have HP := Lib.hid (show BackPost w gB K (.bool false) b (.returned (.bool false)) W3 from by
    have hk3 : ∀ j, j < W1.heap.size → j ≠ m → W3.heap[j]? = W1.heap[j]? := fun j hj hn => ho3.1.block j hj (fun e => hn (by injection e with e))
    refine ⟨K, rfl, ⟨fun k hk => by rw [ho3.2]; exact hlt2 k hk, hs, hle, kB, some m, ?_, bk, ⟨hI'.kM, ⟨_, hm3.congr fun g => ?_⟩, fun g hg => ?_, hI'.inj⟩⟩, fun k hk => .inl hk, hT2.trans (Turns.of_only ho3 hI'.kM)⟩
    · unfold Blk
      rw [hk3 gB hB2.lt (fun e => hI'.neM hB' e.symm)]
      exact hB2
    · unfold updK outL
      by_cases c : g = f
      · rw [if_pos c, c, if_pos hf]
      · rw [if_neg c]
    · obtain ⟨a1, a2, n', a3⟩ := hI'.inn g hg
      have a4 := a3.far (hk2 _ a3.blk)
      exact ⟨a1, a2, n', a4.far (hk3 _ a4.blk a2)⟩)
  clear hB hI hs hle hlt kB wf wp hf hbel hTr hkp hI' hB' hM hb1 hk2 hB2 hM2 hT2 hlt2 hd3 hm3 ho3
  go_enter Try.func12, Try.ntmps12
  go_wp2_with fail
  refine HA.out.mono ?_
  rintro e w' ⟨rfl, hw⟩
  have hw' := hw.symm
  subst hw'
  clear hw
  go_wp2_with fail
  refine HA2.out.mono ?_
  rintro e w' ⟨rfl, hw⟩
  have hw' := hw.symm
  subst hw'
  clear hw
  go_wp2_with fail
  go_ret
  exact HP.out
set_option maxRecDepth 20000 in
set_option maxHeartbeats 1000000 in
/-- Of a map that is none, whoever asks. -/
theorem drop_none (v : Value) (f : Int) (p : Pl) (w : World) (wf : W64 f) (wp : WPl p) (hA : ∀ W, Below w.heap.size w W → Calls Try.prog 18 #[v] W fun e w' => e = .returned (.map none) ∧ w' = W) :
    Calls Try.prog 12 #[v, .int .i64 f, .agg #[.int .i64 p.c, .int .i64 p.g]] w fun e w' => e = .returned (.bool false) ∧ Below w.heap.size w w' := by
  obtain ⟨W, hW⟩ : ∃ W, w.alloc (.cells #[.int .i64 p.c, .int .i64 p.g] 29) = W := ⟨_, rfl⟩
  have hbel : Below w.heap.size w W := by rw [← hW]; exact belAl (Below.refl _ w) _
  have hkp : Blk W w.heap.size 29 #[.int .i64 p.c, .int .i64 p.g] := by rw [← hW]; exact Blk.new _ _ _
  have l1 : (Instr.lookup 45 (.map none) (.int .i64 f) false).run Try.prog W = .ok (.map none) W :=
    MapK.nil_look EI W Try.underlying45 (z := .map none) (by rfl) false f wf
  have l2 : (Instr.lookup 49 (.map none) (.agg #[.int .i64 p.c, .int .i64 p.g]) true).run Try.prog W = .ok (.tuple #[.agg #[], .bool false]) W :=
    MapK.nil_look EP W Try.underlying49 (eqIn_zero W) true p wp
  have k1 : W.cell? ⟨w.heap.size, 0, none⟩ = some (.int .i64 p.c) := hkp.cell 0
  have k2 : W.cell? ⟨w.heap.size, 1, none⟩ = some (.int .i64 p.g) := hkp.cell 1
  have HA := Lib.hid (hA W hbel)
  obtain ⟨W1, hW1⟩ : ∃ W1, W.alloc (.cells #[] 50) = W1 := ⟨_, rfl⟩
  have hb1 : Below W.heap.size W W1 := by rw [← hW1]; exact belAl (Below.refl _ W) _
  have hb2 : Below w.heap.size w W1 := hbel.trans (hb1.mono hbel.size)
  have k3 : W1.cell? ⟨w.heap.size, 0, none⟩ = some (.int .i64 p.c) := (hkp.below hb1 hkp.lt).cell 0
  have k4 : W1.cell? ⟨w.heap.size, 1, none⟩ = some (.int .i64 p.g) := (hkp.below hb1 hkp.lt).cell 1
  have d2 : ∀ ty, (Builtin.delete_ #[49, 29] ty #[.map none, .agg #[.int .i64 p.c, .int .i64 p.g]]).run Try.prog W1 = .ok (.tuple #[]) W1 := fun ty => MapK.nil_drop EP W1 Try.underlying49 p wp ty
  have e2 : ∀ ty, (Builtin.len_ #[49] ty #[.map none]).run Try.prog W1 = .ok (.int .i64 0) W1 := fun ty => Maps.len_nil Try.underlying49 ty
  have HA2 := Lib.hid (hA W1 hb2)
  have d3 : ∀ ty, (Builtin.delete_ #[45, 3] ty #[.map none, .int .i64 f]).run Try.prog W1 = .ok (.tuple #[]) W1 := fun ty => MapK.nil_drop EI W1 Try.underlying45 f wf ty
  have HP := Lib.hid hb2
  clear hA wf wp hbel hkp hb1 hb2
  go_enter Try.func12, Try.ntmps12
  go_wp2_with fail
  refine HA.out.mono ?_
  rintro e w' ⟨rfl, hw⟩
  have hw' := hw.symm
  subst hw'
  clear hw
  go_wp2_with fail
  refine HA2.out.mono ?_
  rintro e w' ⟨rfl, hw⟩
  have hw' := hw.symm
  subst hw'
  clear hw
  go_wp2_with fail
  go_ret
  exact ⟨rfl, HP.out⟩
/-- Drop. -/
theorem back_drop (gB : Nat) (K : Nat → Prop) (b : BS) (w : World) (f : Int) (p : Pl) (h : BackMem w gB K b) (wf : W64 f) (wp : WPl p) :
    Calls Try.prog 12 #[.pointer (some ⟨gB, 0, none⟩), .int .i64 f, .agg #[.int .i64 p.c, .int .i64 p.g]] w (BackPost w gB K (.bool (decide (p ∈ b f))) (updB b f ((b f).erase p))) := by
  obtain ⟨mo, h1, h2⟩ := h.at_
  cases mo with
  | none =>
    rw [show b f = [] from h2 f, show decide (p ∈ ([] : List Pl)) = false from decide_eq_false List.not_mem_nil, show ([] : List Pl).erase p = [] from rfl, updB_nop (h2 f)]
    refine (drop_none _ f p w wf wp (fun W hb => all_any gB none W ((h1.below hb h1.lt).cell 0))).mono ?_
    rintro e w' ⟨rfl, hb⟩
    exact ⟨K, rfl, h.fresh hb, fun k hk => .inl hk, Turns.of_below hb (Nat.le_refl _)⟩
  | some m =>
    obtain ⟨bk, hI⟩ := h2
    by_cases c : b f = []
    · rw [c, show decide (p ∈ ([] : List Pl)) = false from decide_eq_false List.not_mem_nil, show ([] : List Pl).erase p = [] from rfl, updB_nop c]
      exact drop_no gB m K b bk f p w h1 hI h.srt h.len h.lt h.kB wf wp c
    · exact drop_has gB m K b bk f p w h1 hI h.srt h.len h.lt h.kB wf wp c
end Go.Proofs.Ytgbkpcmgfjdhdaa

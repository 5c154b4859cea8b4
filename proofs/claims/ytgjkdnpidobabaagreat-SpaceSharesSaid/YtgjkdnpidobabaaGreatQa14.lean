/-
  A channel in one goroutine: what the calls of a queue of signals do.
  The contracts of a queue of signals, as the statements' walks ask for them: a channel that never waits.
  Conditions: those that each line bears.
-/
import Derived.Test.YtgjkdnpidobabaaGreatQa00
import Derived.Test.YtgjkdnpidobabaaGreatProg
import Derived.Test.YtgjkdnpidobabaaGreatQa13
import Derived.Conc.LoneCalls
import Derived.Conc.LoneSelect
import Derived.Conc.LoneSelectN
import Derived.KernelRfl
set_option linter.unusedSimpArgs false
set_option linter.unusedSectionVars false
set_option linter.unusedVariables false
namespace Go.Proofs.YtgjkdnpidobabaaGreat
open Go.RowKit Go.Conc
set_option linter.unusedVariables false
set_option maxRecDepth 100000
theorem setChan_other (w : World) (c c' cap : Nat) (buf : Array Value) (closed : Bool) (s r : Nat) (tm : Bool) (h : c ≠ c') : (w.setChan c cap buf closed s r tm).heap[c']? = w.heap[c']? := by
  simp [World.setChan, Array.getElem?_setIfInBounds_ne h]
theorem turns_setChan (w : World) (c cap : Nat) (buf : Array Value) (closed : Bool) (s r : Nat) (tm : Bool) : Turns (fun k => k = c) w (w.setChan c cap buf closed s r tm) :=
  ⟨rfl, rfl, rfl, by rw [size_setChan]; exact Nat.le_refl _, fun k _ hk => setChan_other _ _ _ _ _ _ _ _ _ (fun e => hk e.symm)⟩
theorem nmAll : (Tryz.f90.name == "runtime.NumGoroutine") = false := by kernel_rfl
def agS (p : Pl) : Value := .agg #[.int .i64 p.c, .int .i64 p.g]
set_option maxHeartbeats 1000000 in
theorem put_room (gQ c m s r : Nat) (buf : Array Value) (p : Pl) (w : World) (hq : w.cell? ⟨gQ, 0, none⟩ = some (.chan (some c))) (hl : gQ < w.heap.size) (hc : w.heap[c]? = some (.chan m buf false s r false)) (hlc : c < w.heap.size) (hm : buf.size < m) :
    Calls Tryz.prog 52 #[.pointer (some ⟨gQ, 0, none⟩), .agg #[.int .i64 p.c, .int .i64 p.g]] w fun e w' => e = .returned (.bool true) ∧ w' = (w.alloc (.cells #[.int .i64 p.c, .int .i64 p.g] 44)).setChan c m (buf.push (.agg #[.int .i64 p.c, .int .i64 p.g])) false (s + 1) r false := by
  refine calls_of_loneTo fun cs => ?_
  have e : Frame.enter Tryz.prog 52 #[.pointer (some ⟨gQ, 0, none⟩), .agg #[.int .i64 p.c, .int .i64 p.g]] .normal = (base 52).at ⟨#[.pointer (some ⟨gQ, 0, none⟩), .agg #[.int .i64 p.c, .int .i64 p.g], undef, undef, undef, undef, undef, undef, undef, undef, undef], []⟩ [.code (Tryz.f52.body.getD .skip)] := by
    simp [Frame.enter, Frame.at, Tryz.func52, base, Tryz.f52]
  rw [e]
  refine LoneTo.goes (n := 90) ?_
  simp only [Tryz.f52, Option.getD_some]
  repeat (first | s_op | s_c stepG_region_end | s_c stepG_seq | s_reg | s_c stepG_block | s_c stepG_inBlock | s_c stepG_skip | s_cond false | s_cond true | s_call Tryz.func90 nmAll Tryz.f90 | s_c stepG_ret' | s_leave1 Tryz.func90)
  s_stop
  have hc1 : (w.alloc (.cells #[.int .i64 p.c, .int .i64 p.g] 44)).heap[c]? = some (.chan m buf false s r false) := (Below.heap_alloc _ _ _ hlc).trans hc
  refine LoneTo.step (step_lone_select_send_room (c := c) (v := .agg #[.int .i64 p.c, .int .i64 p.g]) (z' := .agg #[.int .i64 0, .int .i64 0]) (cap := m) (buf := buf) (s := s) (r := r) (tm := false) (stepG_comm (cases := #[scase c (.agg #[.int .i64 p.c, .int .i64 p.g]) (.agg #[.int .i64 0, .int .i64 0])]) (blocking := false) (shape := .select) (w' := (w.alloc (.cells #[.int .i64 p.c, .int .i64 p.g] 44))) rfl rfl (by decide) (by simp [go_sem, execOp, scase, Act.eval])) hc1 hm) ?_
  rw [Frame.finish_at]
  walk_nrm
  refine LoneTo.goes (n := 30) ?_
  repeat (first | s_op | s_c stepG_region_end | s_c stepG_seq | s_reg | s_c stepG_block | s_c stepG_inBlock | s_c stepG_skip | s_cond false | s_cond true)
  s_c stepG_ret'
  s_stop
  exact LoneTo.done ⟨.returned (.bool true), _, rfl, ⟨rfl, rfl⟩, rfl, rfl, rfl, rfl, _, Tryz.func52, by simp [results, Tryz.f52, Frame.at]⟩
set_option maxHeartbeats 1000000 in
theorem put_full (gQ c m s r : Nat) (buf : Array Value) (p : Pl) (w : World) (hq : w.cell? ⟨gQ, 0, none⟩ = some (.chan (some c))) (hl : gQ < w.heap.size) (hc : w.heap[c]? = some (.chan m buf false s r false)) (hlc : c < w.heap.size) (hm : m ≤ buf.size) :
    Calls Tryz.prog 52 #[.pointer (some ⟨gQ, 0, none⟩), .agg #[.int .i64 p.c, .int .i64 p.g]] w fun e w' => e = .returned (.bool false) ∧ w' = w.alloc (.cells #[.int .i64 p.c, .int .i64 p.g] 44) := by
  refine calls_of_loneTo fun cs => ?_
  have e : Frame.enter Tryz.prog 52 #[.pointer (some ⟨gQ, 0, none⟩), .agg #[.int .i64 p.c, .int .i64 p.g]] .normal = (base 52).at ⟨#[.pointer (some ⟨gQ, 0, none⟩), .agg #[.int .i64 p.c, .int .i64 p.g], undef, undef, undef, undef, undef, undef, undef, undef, undef], []⟩ [.code (Tryz.f52.body.getD .skip)] := by
    simp [Frame.enter, Frame.at, Tryz.func52, base, Tryz.f52]
  rw [e]
  refine LoneTo.goes (n := 90) ?_
  simp only [Tryz.f52, Option.getD_some]
  repeat (first | s_op | s_c stepG_region_end | s_c stepG_seq | s_reg | s_c stepG_block | s_c stepG_inBlock | s_c stepG_skip | s_cond false | s_cond true | s_call Tryz.func90 nmAll Tryz.f90 | s_c stepG_ret' | s_leave1 Tryz.func90)
  s_stop
  have hc1 : (w.alloc (.cells #[.int .i64 p.c, .int .i64 p.g] 44)).heap[c]? = some (.chan m buf false s r false) := (Below.heap_alloc _ _ _ hlc).trans hc
  refine LoneTo.step (step_lone_select_send_full (c := c) (v := .agg #[.int .i64 p.c, .int .i64 p.g]) (z' := .agg #[.int .i64 0, .int .i64 0]) (cap := m) (buf := buf) (s := s) (r := r) (tm := false) (stepG_comm (cases := #[scase c (.agg #[.int .i64 p.c, .int .i64 p.g]) (.agg #[.int .i64 0, .int .i64 0])]) (blocking := false) (shape := .select) (w' := (w.alloc (.cells #[.int .i64 p.c, .int .i64 p.g] 44))) rfl rfl (by decide) (by simp [go_sem, execOp, scase, Act.eval])) hc1 hm) ?_
  rw [Frame.finish_at]
  walk_nrm
  refine LoneTo.goes (n := 30) ?_
  repeat (first | s_op | s_c stepG_region_end | s_c stepG_seq | s_reg | s_c stepG_block | s_c stepG_inBlock | s_c stepG_skip | s_cond false | s_cond true)
  s_c stepG_ret'
  s_stop
  exact LoneTo.done ⟨.returned (.bool false), _, rfl, ⟨rfl, rfl⟩, rfl, rfl, rfl, rfl, _, Tryz.func52, by simp [results, Tryz.f52, Frame.at]⟩
set_option maxHeartbeats 1000000 in
theorem take_some (gQ c m s r : Nat) (buf : Array Value) (p : Pl) (w : World) (hq : w.cell? ⟨gQ, 0, none⟩ = some (.chan (some c))) (hl : gQ < w.heap.size) (hc : w.heap[c]? = some (.chan m buf false s r false)) (hlc : c < w.heap.size) (hm : 0 < buf.size) (hp : buf.getD 0 undef = .agg #[.int .i64 p.c, .int .i64 p.g]) :
    Calls Tryz.prog 51 #[.pointer (some ⟨gQ, 0, none⟩)] w fun e w' => e = .returned (.tuple #[.agg #[.int .i64 p.c, .int .i64 p.g], .bool true]) ∧ w'.heap[c]? = some (.chan m (buf.extract 1 buf.size) false s (r + 1) false) ∧ Turns (fun k => k = c) w w' := by
  refine calls_of_loneTo fun cs => ?_
  have e : Frame.enter Tryz.prog 51 #[.pointer (some ⟨gQ, 0, none⟩)] .normal = (base 51).at ⟨#[.pointer (some ⟨gQ, 0, none⟩), undef, undef, undef, undef, undef, undef, undef, undef, undef, undef, undef, undef], []⟩ [.code (Tryz.f51.body.getD .skip)] := by
    simp [Frame.enter, Frame.at, Tryz.func51, base, Tryz.f51]
    try rfl
  rw [e]
  refine LoneTo.goes (n := 90) ?_
  simp only [Tryz.f51, Option.getD_some]
  repeat (first | s_op | s_c stepG_region_end | s_c stepG_seq | s_reg | s_c stepG_block | s_c stepG_inBlock | s_c stepG_skip | s_cond false | s_cond true | s_call Tryz.func90 nmAll Tryz.f90 | s_c stepG_ret' | s_leave1 Tryz.func90)
  s_stop
  have hc1 : (w.alloc (.cells #[.int .i64 0, .int .i64 0] 44)).heap[c]? = some (.chan m buf false s r false) := (Below.heap_alloc _ _ _ hlc).trans hc
  refine LoneTo.step (step_lone_select_recv_buf (c := c) (z := .agg #[.int .i64 0, .int .i64 0]) (cap := m) (buf := buf) (s := s) (r := r) (tm := false) (closed := false) (stepG_comm (cases := #[rcase c (.agg #[.int .i64 0, .int .i64 0])]) (blocking := false) (shape := .select) (w' := (w.alloc (.cells #[.int .i64 0, .int .i64 0] 44))) rfl rfl (by decide) (by simp [go_sem, execOp, rcase, Act.eval])) hc1 hm) ?_
  rw [Frame.finish_at, hp]
  obtain ⟨V, hV⟩ : ∃ V, V = (w.alloc (.cells #[.int .i64 0, .int .i64 0] 44)).setChan c m (buf.extract 1 buf.size) false s (r + 1) false := ⟨_, rfl⟩
  have kV : Blk V w.heap.size 44 #[.int .i64 0, .int .i64 0] := by
    rw [hV]
    exact (setChan_other _ _ _ _ _ _ _ _ _ (by omega)).trans (Blk.new w _ _)
  have cV : V.heap[c]? = some (.chan m (buf.extract 1 buf.size) false s (r + 1) false) := by
    rw [hV]
    exact heap_setChan _ _ _ _ _ _ _ _ (by rw [World.size_alloc]; omega)
  have tV : Turns (fun k => k = c) w V := by
    rw [hV]
    exact ((Turns.refl _ w).alloc _).trans (turns_setChan _ _ _ _ _ _ _ _)
  rw [← hV]
  clear hV hc hc1 hp hq
  have e0 : V.cell? ⟨w.heap.size, 0, none⟩ = some (.int .i64 0) := kV.cell 0
  have e1 : V.cell? ⟨w.heap.size, 1, none⟩ = some (.int .i64 0) := kV.cell 1
  have z0 := kV.frozen 0
  have z1 := kV.frozen 1
  have lV := kV.lt
  walk_nrm
  refine LoneTo.goes (n := 40) ?_
  repeat (first | s_op | s_c stepG_region_end | s_c stepG_seq | s_reg | s_c stepG_block | s_c stepG_inBlock | s_c stepG_skip | s_cond false | s_cond true)
  s_c stepG_ret'
  s_stop
  refine LoneTo.done ⟨.returned (.tuple #[.agg #[.int .i64 p.c, .int .i64 p.g], .bool true]), _, rfl, ⟨rfl, ?_, ?_⟩, rfl, rfl, rfl, rfl, _, Tryz.func51, ?_⟩
  · have hB : Below w.heap.size V _ := (((Below.refl _ V).setCell (p := ⟨w.heap.size, 0, none⟩) (Nat.le_refl _) (.int .i64 p.c)).setCell (p := ⟨w.heap.size, 1, none⟩) (Nat.le_refl _) (.int .i64 p.g)).alloc (by simp [World.setCell]; omega) (.cells #[.int .i64 p.c, .int .i64 p.g] 44)
    exact (hB.block c hlc).trans cV
  · have hB : Below w.heap.size V _ := (((Below.refl _ V).setCell (p := ⟨w.heap.size, 0, none⟩) (Nat.le_refl _) (.int .i64 p.c)).setCell (p := ⟨w.heap.size, 1, none⟩) (Nat.le_refl _) (.int .i64 p.g)).alloc (by simp [World.setCell]; omega) (.cells #[.int .i64 p.c, .int .i64 p.g] 44)
    exact ⟨hB.os.trans tV.os, hB.tape.trans tV.tape, hB.output.trans tV.output, Nat.le_trans tV.size hB.size, fun k hk hn => (hB.block k hk).trans (tV.block k hk hn)⟩
  · refine results_row_tmp (p := 2) (u := 3) rfl _ _ w.heap.size 44 #[.int .i64 p.c, .int .i64 p.g] _ ?_ (((kV.set_ 0 _).set_ 1 _).al _) Tryz.underlying44 rfl (by kernel_rfl)
    rfl
set_option maxHeartbeats 1000000 in
theorem take_none (gQ c m s r : Nat) (w : World) (hq : w.cell? ⟨gQ, 0, none⟩ = some (.chan (some c))) (hl : gQ < w.heap.size) (hc : w.heap[c]? = some (.chan m #[] false s r false)) (hlc : c < w.heap.size) :
    Calls Tryz.prog 51 #[.pointer (some ⟨gQ, 0, none⟩)] w fun e w' => e = .returned (.tuple #[.agg #[.int .i64 0, .int .i64 0], .bool false]) ∧ Below w.heap.size w w' := by
  refine calls_of_loneTo fun cs => ?_
  have e : Frame.enter Tryz.prog 51 #[.pointer (some ⟨gQ, 0, none⟩)] .normal = (base 51).at ⟨#[.pointer (some ⟨gQ, 0, none⟩), undef, undef, undef, undef, undef, undef, undef, undef, undef, undef, undef, undef], []⟩ [.code (Tryz.f51.body.getD .skip)] := by
    simp [Frame.enter, Frame.at, Tryz.func51, base, Tryz.f51]
    try rfl
  rw [e]
  refine LoneTo.goes (n := 90) ?_
  simp only [Tryz.f51, Option.getD_some]
  repeat (first | s_op | s_c stepG_region_end | s_c stepG_seq | s_reg | s_c stepG_block | s_c stepG_inBlock | s_c stepG_skip | s_cond false | s_cond true | s_call Tryz.func90 nmAll Tryz.f90 | s_c stepG_ret' | s_leave1 Tryz.func90)
  s_stop
  have hc1 : (w.alloc (.cells #[.int .i64 0, .int .i64 0] 44)).heap[c]? = some (.chan m #[] false s r false) := (Below.heap_alloc _ _ _ hlc).trans hc
  refine LoneTo.step (step_lone_select_default (c := c) (z := .agg #[.int .i64 0, .int .i64 0]) (cap := m) (s := s) (r := r) (tm := false) (stepG_comm (cases := #[rcase c (.agg #[.int .i64 0, .int .i64 0])]) (blocking := false) (shape := .select) (w' := (w.alloc (.cells #[.int .i64 0, .int .i64 0] 44))) rfl rfl (by decide) (by simp [go_sem, execOp, rcase, Act.eval])) hc1) ?_
  rw [Frame.finish_at]
  walk_nrm
  refine LoneTo.goes (n := 40) ?_
  repeat (first | s_op | s_c stepG_region_end | s_c stepG_seq | s_reg | s_c stepG_block | s_c stepG_inBlock | s_c stepG_skip | s_cond false | s_cond true)
  s_c stepG_ret'
  s_stop
  refine LoneTo.done ⟨.returned (.tuple #[.agg #[.int .i64 0, .int .i64 0], .bool false]), _, rfl, ⟨rfl, ?_⟩, rfl, rfl, rfl, rfl, _, Tryz.func51, ?_⟩
  · exact (Below.refl _ w).alloc (Nat.le_refl _) _
  · refine results_row_tmp (p := 2) (u := 3) rfl _ _ w.heap.size 44 #[.int .i64 0, .int .i64 0] _ ?_ (Blk.new w _ _) Tryz.underlying44 rfl (by kernel_rfl)
    rfl
theorem infoSig : ∃ i, Tryz.prog.info? 44 = some i ∧ i.bytes = 16 := by
  have h : (Tryz.prog.info? 44).map (·.bytes) = some 16 := by kernel_rfl
  obtain ⟨i, hi, hb⟩ := Option.map_eq_some_iff.1 h
  exact ⟨i, hi, hb⟩
theorem make_any (n : Nat) (hn : n ≤ 16) (w : World) : (Instr.makeChan 161 (.int .i64 (n : Int))).run Tryz.prog w = .ok (.chan (some w.heap.size)) (w.alloc (.chan n #[] false 0 0 false)) := by
  obtain ⟨i, hi, hb⟩ := infoSig
  exact run_makeChan (P := Tryz.prog) (w := w) Tryz.underlying161 hi .i64 n (by omega) (by rw [hb]; omega)
def near16' (n : Int) : Nat := if n < 0 then 0 else if 16 < n then 16 else n.toNat
theorem near16'_le (n : Int) : near16' n ≤ 16 := by
  unfold near16'
  split
  · omega
  · split <;> omega
theorem near16'_lo {n : Int} (h : n ≤ 0) : near16' n = 0 := by
  unfold near16'
  split
  · rfl
  · split <;> omega
theorem near16'_hi {n : Int} (h : 16 ≤ n) : near16' n = 16 := by
  unfold near16'
  split
  · omega
  · split <;> omega
set_option maxHeartbeats 1000000 in
theorem signal_new0 (n : Int) (w : World) : Calls Tryz.prog 34 #[.int .i64 n] w fun e w' => e = .returned (.pointer (some ⟨w.heap.size + 1, 0, none⟩)) ∧ w' = (w.alloc (.chan (near16' n) #[] false 0 0 false)).alloc (.cells #[.chan (some w.heap.size)] 163) := by
  by_cases c1 : n ≤ 0
  · have hmk : (Instr.makeChan 161 (.int .i64 0)).run Tryz.prog w = .ok (.chan (some w.heap.size)) (w.alloc (.chan 0 #[] false 0 0 false)) := make_any 0 (by omega) w
    have c2 : n ≤ 16 := by omega
    rw [near16'_lo c1]
    by_cases c3 : n = 0
    · subst c3
      go_enter Tryz.func34, Tryz.ntmps34
      go_wp2
      go_ret
      exact ⟨rfl, rfl⟩
    · have c4 : ¬ 0 ≤ n := by omega
      go_enter Tryz.func34, Tryz.ntmps34
      go_wp2
      go_ret
      exact ⟨rfl, rfl⟩
  · by_cases c2 : 16 ≤ n
    · have hmk : (Instr.makeChan 161 (.int .i64 16)).run Tryz.prog w = .ok (.chan (some w.heap.size)) (w.alloc (.chan 16 #[] false 0 0 false)) := make_any 16 (by omega) w
      rw [near16'_hi c2]
      by_cases c3 : n = 16
      · subst c3
        go_enter Tryz.func34, Tryz.ntmps34
        go_wp2
        go_ret
        exact ⟨rfl, rfl⟩
      · have c4 : ¬ n ≤ 16 := by omega
        have c5 : 0 ≤ n := by omega
        go_enter Tryz.func34, Tryz.ntmps34
        go_wp2
        go_ret
        exact ⟨rfl, rfl⟩
    · obtain ⟨k, rfl⟩ := Int.eq_ofNat_of_zero_le (by omega : 0 ≤ n)
      have hmk := make_any k (by omega) w
      rw [show near16' (k : Int) = k by unfold near16'; rw [if_neg (by omega), if_neg (by omega)]; rfl]
      have c4 : ¬ (k : Int) ≤ 0 := c1
      have c8 : (k : Int) ≤ 16 := by omega
      have c9 : k ≤ 16 := by omega
      have c5 : (0 : Int) ≤ (k : Int) := by omega
      have c6 : ¬ k ≤ 0 := by omega
      have c7 : ¬ k = 0 := by omega
      go_enter Tryz.func34, Tryz.ntmps34
      go_wp2
      go_ret
      exact ⟨rfl, rfl⟩
end Go.Proofs.YtgjkdnpidobabaaGreat

namespace Go.Proofs.YtgjkdnpidobabaaGreat
open Go.RowKit Go.Conc
set_option linter.unusedVariables false
set_option maxRecDepth 20000

/-- As near to a number as 0 to 16 allow. -/
def near16 (n : Int) : Nat := if n < 0 then 0 else if 16 < n then 16 else n.toNat
/-- A queue in memory, in block gQ: at most m wait, and l do; K: the blocks that its work turns. -/
def SigMem (w : World) (gQ : Nat) (K : Nat → Prop) (m : Nat) (l : List Pl) : Prop :=
  ∃ c s r, Blk w gQ 163 #[.chan (some c)] ∧ w.heap[c]? = some (.chan m (l.map agS).toArray false s r false) ∧ l.length ≤ m ∧ ∀ k, K k ↔ k = gQ ∨ k = c
section
variable {w w' : World} {gQ : Nat} {K : Nat → Prop} {m : Nat} {l : List Pl}
theorem SigMem.lt (h : SigMem w gQ K m l) : ∀ k, K k → k < w.heap.size := by
  obtain ⟨c, s, r, h1, h2, _, h4⟩ := h
  intro k hk
  rcases (h4 k).1 hk with rfl | rfl
  · exact h1.lt
  · exact (Array.getElem?_eq_some_iff.1 h2).1
theorem SigMem.far (h : SigMem w gQ K m l) (hk : ∀ k, K k → w'.heap[k]? = w.heap[k]?) : SigMem w' gQ K m l := by
  obtain ⟨c, s, r, h1, h2, h3, h4⟩ := h
  exact ⟨c, s, r, (hk gQ ((h4 _).2 (.inl rfl))).trans h1, (hk c ((h4 _).2 (.inr rfl))).trans h2, h3, h4⟩
end
/-- What a call that turns it leaves. -/
def SigPost (w : World) (gQ : Nat) (K : Nat → Prop) (m : Nat) (v : Value) (l' : List Pl) (e : Ending) (w' : World) : Prop :=
  ∃ K' : Nat → Prop, e = .returned v ∧ SigMem w' gQ K' m l' ∧ (∀ k, K' k → K k ∨ w.heap.size ≤ k) ∧ Turns K w w'
/-- What Put makes of what waits. -/
def putQ (m : Nat) (l : List Pl) (p : Pl) : List Pl := if l.length < m then l ++ [p] else l
/-- What Take answers. -/
def takeQ : List Pl → Value
  | [] => .tuple #[.agg #[.int .i64 0, .int .i64 0], .bool false]
  | p :: _ => .tuple #[.agg #[.int .i64 p.c, .int .i64 p.g], .bool true]
section
variable (gQ : Nat) (K : Nat → Prop) (m : Nat) (l : List Pl) (w : World)
theorem signal_new (n : Int) : Calls Tryz.prog 34 #[.int .i64 n] w fun e w' => ∃ gQ K, e = .returned (.pointer (some ⟨gQ, 0, none⟩)) ∧ SigMem w' gQ K (near16 n) [] ∧ (∀ k, K k → w.heap.size ≤ k) ∧ Below w.heap.size w w' := by
  refine (signal_new0 n w).mono ?_
  rintro e w' ⟨rfl, rfl⟩
  refine ⟨_, fun k => k = w.heap.size + 1 ∨ k = w.heap.size, rfl, ⟨w.heap.size, 0, 0, Blk.new1 w _ _ _, ?_, Nat.zero_le _, fun k => Iff.rfl⟩, ?_, ((Below.refl _ w).alloc (Nat.le_refl _) _).alloc (by rw [World.size_alloc]; omega) _⟩
  · exact (Below.heap_alloc _ _ _ (by rw [World.size_alloc]; omega)).trans (heap_alloc_new w _)
  · rintro k (rfl | rfl)
    · omega
    · exact Nat.le_refl _
theorem signal_put (p : Pl) (h : SigMem w gQ K m l) :
    Calls Tryz.prog 52 #[.pointer (some ⟨gQ, 0, none⟩), .agg #[.int .i64 p.c, .int .i64 p.g]] w (SigPost w gQ K m (.bool (decide (l.length < m))) (putQ m l p)) := by
  obtain ⟨c, s, r, h1, h2, h3, h4⟩ := h
  have hlc : c < w.heap.size := (Array.getElem?_eq_some_iff.1 h2).1
  have hne : c ≠ gQ := by
    rintro rfl
    have := h1.symm.trans h2
    cases this
  have hA : Turns K w (w.alloc (.cells #[.int .i64 p.c, .int .i64 p.g] 44)) := (Turns.refl _ w).alloc _
  by_cases hm : l.length < m
  · rw [decide_eq_true hm, show putQ m l p = l ++ [p] from if_pos hm]
    refine (put_room gQ c m s r _ p w (h1.cell 0) h1.lt h2 hlc (by simpa using hm)).mono ?_
    rintro e w' ⟨rfl, rfl⟩
    refine ⟨K, rfl, ⟨c, s + 1, r, ?_, ?_, ?_, h4⟩, fun k hk => .inl hk, hA.trans ((turns_setChan _ _ _ _ _ _ _ _).mono fun k hk => (h4 k).2 (.inr hk))⟩
    · exact (setChan_other _ _ _ _ _ _ _ _ _ hne).trans (h1.al _)
    · rw [heap_setChan _ _ _ _ _ _ _ _ (by rw [World.size_alloc]; omega)]
      simp [agS]
    · simp only [List.length_append, List.length_singleton]; omega
  · rw [decide_eq_false hm, show putQ m l p = l from if_neg hm]
    refine (put_full gQ c m s r _ p w (h1.cell 0) h1.lt h2 hlc (by simpa using hm)).mono ?_
    rintro e w' ⟨rfl, rfl⟩
    exact ⟨K, rfl, ⟨c, s, r, h1.al _, (Below.heap_alloc _ _ _ hlc).trans h2, h3, h4⟩, fun k hk => .inl hk, hA⟩
theorem signal_take (h : SigMem w gQ K m l) :
    Calls Tryz.prog 51 #[.pointer (some ⟨gQ, 0, none⟩)] w (SigPost w gQ K m (takeQ l) l.tail) := by
  obtain ⟨c, s, r, h1, h2, h3, h4⟩ := h
  have hlc : c < w.heap.size := (Array.getElem?_eq_some_iff.1 h2).1
  have hne : c ≠ gQ := by
    rintro rfl
    have := h1.symm.trans h2
    cases this
  cases l with
  | nil =>
    refine (take_none gQ c m s r w (h1.cell 0) h1.lt h2 hlc).mono ?_
    rintro e w' ⟨rfl, hb⟩
    exact ⟨K, rfl, ⟨c, s, r, h1.below hb h1.lt, (hb.block c hlc).trans h2, h3, h4⟩, fun k hk => .inl hk, Turns.of_below hb (Nat.le_refl _)⟩
  | cons p l =>
    refine (take_some gQ c m s r _ p w (h1.cell 0) h1.lt h2 hlc (by simp) (by simp [agS])).mono ?_
    rintro e w' ⟨rfl, hc, ht⟩
    refine ⟨K, rfl, ⟨c, s, r + 1, ?_, ?_, by simp only [List.tail_cons]; simp only [List.length_cons] at h3; omega, h4⟩, fun k hk => .inl hk, ht.mono fun k hk => (h4 k).2 (.inr hk)⟩
    · exact (ht.block gQ h1.lt (fun e => hne e.symm)).trans h1
    · rw [hc]
      simp
      exact List.take_of_length_le (by rw [List.length_map]; exact Nat.le_refl _)
end
end Go.Proofs.YtgjkdnpidobabaaGreat


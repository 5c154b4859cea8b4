/-
  A channel in one goroutine: what the calls of a queue of signals do.
  Conditions: none beside those that each line bears.
-/
import Derived.Test.YtkdniihnilcpfaaBkM
import Derived.Test.YtkdniihnilcpfaaVals
import Derived.Test.YtkdniihnilcpfaaProg
import Derived.Test.YtkdniihnilcpfaaRwt
import Derived.Conc.LoneCalls
import Derived.Conc.LoneSelect
import Derived.Conc.LoneSelectN
import Derived.KernelRfl
namespace Go.Proofs.Ytkdniihnilcpfaa
open Go.RowKit Go.Conc
set_option linter.unusedVariables false
set_option maxRecDepth 100000
theorem setChan_other (w : World) (c c' cap : Nat) (buf : Array Value) (closed : Bool) (s r : Nat) (tm : Bool) (h : c ≠ c') : (w.setChan c cap buf closed s r tm).heap[c']? = w.heap[c']? := by
  simp [World.setChan, Array.getElem?_setIfInBounds_ne h]
theorem turns_setChan (w : World) (c cap : Nat) (buf : Array Value) (closed : Bool) (s r : Nat) (tm : Bool) : Turns (fun k => k = c) w (w.setChan c cap buf closed s r tm) :=
  ⟨rfl, rfl, rfl, by rw [size_setChan]; exact Nat.le_refl _, fun k _ hk => setChan_other _ _ _ _ _ _ _ _ _ (fun e => hk e.symm)⟩
theorem nmAll : (Try.f13.name == "runtime.NumGoroutine") = false := by kernel_rfl
def agS (p : Pl) : Value := .agg #[.int .i64 p.c, .int .i64 p.g]
set_option maxHeartbeats 1000000 in
theorem put_room (gQ c m s r : Nat) (buf : Array Value) (p : Pl) (w : World) (hq : w.cell? ⟨gQ, 0, none⟩ = some (.chan (some c))) (hl : gQ < w.heap.size) (hc : w.heap[c]? = some (.chan m buf false s r false)) (hlc : c < w.heap.size) (hm : buf.size < m) :
    Calls Try.prog 11 #[.pointer (some ⟨gQ, 0, none⟩), .agg #[.int .i64 p.c, .int .i64 p.g]] w fun e w' => e = .returned (.bool true) ∧ w' = (w.alloc (.cells #[.int .i64 p.c, .int .i64 p.g] 29)).setChan c m (buf.push (.agg #[.int .i64 p.c, .int .i64 p.g])) false (s + 1) r false := by
  refine calls_of_loneTo fun cs => ?_
  have e : Frame.enter Try.prog 11 #[.pointer (some ⟨gQ, 0, none⟩), .agg #[.int .i64 p.c, .int .i64 p.g]] .normal = (base 11).at ⟨#[.pointer (some ⟨gQ, 0, none⟩), .agg #[.int .i64 p.c, .int .i64 p.g], undef, undef, undef, undef, undef, undef, undef, undef, undef], []⟩ [.code (Try.f11.body.getD .skip)] := by
    simp [Frame.enter, Frame.at, Try.func11, base, Try.f11]
  rw [e]
  refine LoneTo.goes (n := 90) ?_
  simp only [Try.f11, Option.getD_some]
  repeat (first | s_op | s_c stepG_region_end | s_c stepG_seq | s_reg | s_c stepG_block | s_c stepG_inBlock | s_c stepG_skip | s_cond false | s_cond true | s_call Try.func13 nmAll Try.f13 | s_c stepG_ret' | s_leave1 Try.func13)
  s_stop
  have hc1 : (w.alloc (.cells #[.int .i64 p.c, .int .i64 p.g] 29)).heap[c]? = some (.chan m buf false s r false) := (Below.heap_alloc _ _ _ hlc).trans hc
  refine LoneTo.step (step_lone_select_send_room (c := c) (v := .agg #[.int .i64 p.c, .int .i64 p.g]) (z' := .agg #[.int .i64 0, .int .i64 0]) (cap := m) (buf := buf) (s := s) (r := r) (tm := false) (stepG_comm (cases := #[scase c (.agg #[.int .i64 p.c, .int .i64 p.g]) (.agg #[.int .i64 0, .int .i64 0])]) (blocking := false) (shape := .select) (w' := (w.alloc (.cells #[.int .i64 p.c, .int .i64 p.g] 29))) rfl rfl (by decide) (by simp [go_sem, execOp, scase, Act.eval])) hc1 hm) ?_
  rw [Frame.finish_at]
  walk_nrm
  refine LoneTo.goes (n := 30) ?_
  repeat (first | s_op | s_c stepG_region_end | s_c stepG_seq | s_reg | s_c stepG_block | s_c stepG_inBlock | s_c stepG_skip | s_cond false | s_cond true)
  s_c stepG_ret'
  s_stop
  exact LoneTo.done ⟨.returned (.bool true), _, rfl, ⟨rfl, rfl⟩, rfl, rfl, rfl, rfl, _, Try.func11, by simp [results, Try.f11, Frame.at]⟩
set_option maxHeartbeats 1000000 in
theorem put_full (gQ c m s r : Nat) (buf : Array Value) (p : Pl) (w : World) (hq : w.cell? ⟨gQ, 0, none⟩ = some (.chan (some c))) (hl : gQ < w.heap.size) (hc : w.heap[c]? = some (.chan m buf false s r false)) (hlc : c < w.heap.size) (hm : m ≤ buf.size) :
    Calls Try.prog 11 #[.pointer (some ⟨gQ, 0, none⟩), .agg #[.int .i64 p.c, .int .i64 p.g]] w fun e w' => e = .returned (.bool false) ∧ w' = w.alloc (.cells #[.int .i64 p.c, .int .i64 p.g] 29) := by
  refine calls_of_loneTo fun cs => ?_
  have e : Frame.enter Try.prog 11 #[.pointer (some ⟨gQ, 0, none⟩), .agg #[.int .i64 p.c, .int .i64 p.g]] .normal = (base 11).at ⟨#[.pointer (some ⟨gQ, 0, none⟩), .agg #[.int .i64 p.c, .int .i64 p.g], undef, undef, undef, undef, undef, undef, undef, undef, undef], []⟩ [.code (Try.f11.body.getD .skip)] := by
    simp [Frame.enter, Frame.at, Try.func11, base, Try.f11]
  rw [e]
  refine LoneTo.goes (n := 90) ?_
  simp only [Try.f11, Option.getD_some]
  repeat (first | s_op | s_c stepG_region_end | s_c stepG_seq | s_reg | s_c stepG_block | s_c stepG_inBlock | s_c stepG_skip | s_cond false | s_cond true | s_call Try.func13 nmAll Try.f13 | s_c stepG_ret' | s_leave1 Try.func13)
  s_stop
  have hc1 : (w.alloc (.cells #[.int .i64 p.c, .int .i64 p.g] 29)).heap[c]? = some (.chan m buf false s r false) := (Below.heap_alloc _ _ _ hlc).trans hc
  refine LoneTo.step (step_lone_select_send_full (c := c) (v := .agg #[.int .i64 p.c, .int .i64 p.g]) (z' := .agg #[.int .i64 0, .int .i64 0]) (cap := m) (buf := buf) (s := s) (r := r) (tm := false) (stepG_comm (cases := #[scase c (.agg #[.int .i64 p.c, .int .i64 p.g]) (.agg #[.int .i64 0, .int .i64 0])]) (blocking := false) (shape := .select) (w' := (w.alloc (.cells #[.int .i64 p.c, .int .i64 p.g] 29))) rfl rfl (by decide) (by simp [go_sem, execOp, scase, Act.eval])) hc1 hm) ?_
  rw [Frame.finish_at]
  walk_nrm
  refine LoneTo.goes (n := 30) ?_
  repeat (first | s_op | s_c stepG_region_end | s_c stepG_seq | s_reg | s_c stepG_block | s_c stepG_inBlock | s_c stepG_skip | s_cond false | s_cond true)
  s_c stepG_ret'
  s_stop
  exact LoneTo.done ⟨.returned (.bool false), _, rfl, ⟨rfl, rfl⟩, rfl, rfl, rfl, rfl, _, Try.func11, by simp [results, Try.f11, Frame.at]⟩
set_option maxHeartbeats 1000000 in
theorem take_some (gQ c m s r : Nat) (buf : Array Value) (p : Pl) (w : World) (hq : w.cell? ⟨gQ, 0, none⟩ = some (.chan (some c))) (hl : gQ < w.heap.size) (hc : w.heap[c]? = some (.chan m buf false s r false)) (hlc : c < w.heap.size) (hm : 0 < buf.size) (hp : buf.getD 0 undef = .agg #[.int .i64 p.c, .int .i64 p.g]) :
    Calls Try.prog 10 #[.pointer (some ⟨gQ, 0, none⟩)] w fun e w' => e = .returned (.tuple #[.agg #[.int .i64 p.c, .int .i64 p.g], .bool true]) ∧ w'.heap[c]? = some (.chan m (buf.extract 1 buf.size) false s (r + 1) false) ∧ Turns (fun k => k = c) w w' := by
  refine calls_of_loneTo fun cs => ?_
  have e : Frame.enter Try.prog 10 #[.pointer (some ⟨gQ, 0, none⟩)] .normal = (base 10).at ⟨#[.pointer (some ⟨gQ, 0, none⟩), undef, undef, undef, undef, undef, undef, undef, undef, undef, undef, undef, undef], []⟩ [.code (Try.f10.body.getD .skip)] := by
    simp [Frame.enter, Frame.at, Try.func10, base, Try.f10]
    try rfl
  rw [e]
  refine LoneTo.goes (n := 90) ?_
  simp only [Try.f10, Option.getD_some]
  repeat (first | s_op | s_c stepG_region_end | s_c stepG_seq | s_reg | s_c stepG_block | s_c stepG_inBlock | s_c stepG_skip | s_cond false | s_cond true | s_call Try.func13 nmAll Try.f13 | s_c stepG_ret' | s_leave1 Try.func13)
  s_stop
  have hc1 : (w.alloc (.cells #[.int .i64 0, .int .i64 0] 29)).heap[c]? = some (.chan m buf false s r false) := (Below.heap_alloc _ _ _ hlc).trans hc
  refine LoneTo.step (step_lone_select_recv_buf (c := c) (z := .agg #[.int .i64 0, .int .i64 0]) (cap := m) (buf := buf) (s := s) (r := r) (tm := false) (closed := false) (stepG_comm (cases := #[rcase c (.agg #[.int .i64 0, .int .i64 0])]) (blocking := false) (shape := .select) (w' := (w.alloc (.cells #[.int .i64 0, .int .i64 0] 29))) rfl rfl (by decide) (by simp [go_sem, execOp, rcase, Act.eval])) hc1 hm) ?_
  rw [Frame.finish_at, hp]
  obtain ⟨V, hV⟩ : ∃ V, V = (w.alloc (.cells #[.int .i64 0, .int .i64 0] 29)).setChan c m (buf.extract 1 buf.size) false s (r + 1) false := ⟨_, rfl⟩
  have kV : Blk V w.heap.size 29 #[.int .i64 0, .int .i64 0] := by
    rw [hV]
    exact (setChan_other _ _ _ _ _ _ _ _ _ (by omega)).trans (Blk.new w _ _)
  have cV : V.heap[c]? = some (.chan m (buf.extract 1 buf.size) false s (r + 1) false) := by
    rw [hV]
    exact heap_setChan _ _ _ _ _ _ _ _ (by rw [World.size_alloc]; omega)
  have tV : Turns (fun k => k = c) w V := by
    rw [hV]
    exact ((Turns.refl _ w).alloc _).trans (turns_setChan _ _ _ _ _ _ _ _)
  rw [← hV]
  clear hV hc hc1 hp hq
  have e0 : V.cell? ⟨w.heap.size, 0, none⟩ = some (.int .i64 0) := kV.cell 0
  have e1 : V.cell? ⟨w.heap.size, 1, none⟩ = some (.int .i64 0) := kV.cell 1
  have z0 := kV.frozen 0
  have z1 := kV.frozen 1
  have lV := kV.lt
  walk_nrm
  refine LoneTo.goes (n := 40) ?_
  repeat (first | s_op | s_c stepG_region_end | s_c stepG_seq | s_reg | s_c stepG_block | s_c stepG_inBlock | s_c stepG_skip | s_cond false | s_cond true)
  s_c stepG_ret'
  s_stop
  refine LoneTo.done ⟨.returned (.tuple #[.agg #[.int .i64 p.c, .int .i64 p.g], .bool true]), _, rfl, ⟨rfl, ?_, ?_⟩, rfl, rfl, rfl, rfl, _, Try.func10, ?_⟩
  · have hB : Below w.heap.size V _ := (((Below.refl _ V).setCell (p := ⟨w.heap.size, 0, none⟩) (Nat.le_refl _) (.int .i64 p.c)).setCell (p := ⟨w.heap.size, 1, none⟩) (Nat.le_refl _) (.int .i64 p.g)).alloc (by simp [World.setCell]; omega) (.cells #[.int .i64 p.c, .int .i64 p.g] 29)
    exact (hB.block c hlc).trans cV
  · have hB : Below w.heap.size V _ := (((Below.refl _ V).setCell (p := ⟨w.heap.size, 0, none⟩) (Nat.le_refl _) (.int .i64 p.c)).setCell (p := ⟨w.heap.size, 1, none⟩) (Nat.le_refl _) (.int .i64 p.g)).alloc (by simp [World.setCell]; omega) (.cells #[.int .i64 p.c, .int .i64 p.g] 29)
    exact ⟨hB.os.trans tV.os, hB.tape.trans tV.tape, hB.output.trans tV.output, Nat.le_trans tV.size hB.size, fun k hk hn => (hB.block k hk).trans (tV.block k hk hn)⟩
  · refine results_row_tmp (p := 2) (u := 3) rfl _ _ w.heap.size 29 #[.int .i64 p.c, .int .i64 p.g] _ ?_ (((kV.set_ 0 _).set_ 1 _).al _) Try.underlying29 rfl (by kernel_rfl)
    rfl
set_option maxHeartbeats 1000000 in
theorem take_none (gQ c m s r : Nat) (w : World) (hq : w.cell? ⟨gQ, 0, none⟩ = some (.chan (some c))) (hl : gQ < w.heap.size) (hc : w.heap[c]? = some (.chan m #[] false s r false)) (hlc : c < w.heap.size) :
    Calls Try.prog 10 #[.pointer (some ⟨gQ, 0, none⟩)] w fun e w' => e = .returned (.tuple #[.agg #[.int .i64 0, .int .i64 0], .bool false]) ∧ Below w.heap.size w w' := by
  refine calls_of_loneTo fun cs => ?_
  have e : Frame.enter Try.prog 10 #[.pointer (some ⟨gQ, 0, none⟩)] .normal = (base 10).at ⟨#[.pointer (some ⟨gQ, 0, none⟩), undef, undef, undef, undef, undef, undef, undef, undef, undef, undef, undef, undef], []⟩ [.code (Try.f10.body.getD .skip)] := by
    simp [Frame.enter, Frame.at, Try.func10, base, Try.f10]
    try rfl
  rw [e]
  refine LoneTo.goes (n := 90) ?_
  simp only [Try.f10, Option.getD_some]
  repeat (first | s_op | s_c stepG_region_end | s_c stepG_seq | s_reg | s_c stepG_block | s_c stepG_inBlock | s_c stepG_skip | s_cond false | s_cond true | s_call Try.func13 nmAll Try.f13 | s_c stepG_ret' | s_leave1 Try.func13)
  s_stop
  have hc1 : (w.alloc (.cells #[.int .i64 0, .int .i64 0] 29)).heap[c]? = some (.chan m #[] false s r false) := (Below.heap_alloc _ _ _ hlc).trans hc
  refine LoneTo.step (step_lone_select_default (c := c) (z := .agg #[.int .i64 0, .int .i64 0]) (cap := m) (s := s) (r := r) (tm := false) (stepG_comm (cases := #[rcase c (.agg #[.int .i64 0, .int .i64 0])]) (blocking := false) (shape := .select) (w' := (w.alloc (.cells #[.int .i64 0, .int .i64 0] 29))) rfl rfl (by decide) (by simp [go_sem, execOp, rcase, Act.eval])) hc1) ?_
  rw [Frame.finish_at]
  walk_nrm
  refine LoneTo.goes (n := 40) ?_
  repeat (first | s_op | s_c stepG_region_end | s_c stepG_seq | s_reg | s_c stepG_block | s_c stepG_inBlock | s_c stepG_skip | s_cond false | s_cond true)
  s_c stepG_ret'
  s_stop
  refine LoneTo.done ⟨.returned (.tuple #[.agg #[.int .i64 0, .int .i64 0], .bool false]), _, rfl, ⟨rfl, ?_⟩, rfl, rfl, rfl, rfl, _, Try.func10, ?_⟩
  · exact (Below.refl _ w).alloc (Nat.le_refl _) _
  · refine results_row_tmp (p := 2) (u := 3) rfl _ _ w.heap.size 29 #[.int .i64 0, .int .i64 0] _ ?_ (Blk.new w _ _) Try.underlying29 rfl (by kernel_rfl)
    rfl
set_option maxHeartbeats 1000000 in
theorem put_nil (p : Pl) (w : World) :
    Calls Try.prog 11 #[.pointer none, .agg #[.int .i64 p.c, .int .i64 p.g]] w fun e w' => e = .returned (.bool false) ∧ w' = w.alloc (.cells #[.int .i64 p.c, .int .i64 p.g] 29) := by
  refine calls_of_loneTo fun cs => ?_
  have e : Frame.enter Try.prog 11 #[.pointer none, .agg #[.int .i64 p.c, .int .i64 p.g]] .normal = (base 11).at ⟨#[.pointer none, .agg #[.int .i64 p.c, .int .i64 p.g], undef, undef, undef, undef, undef, undef, undef, undef, undef], []⟩ [.code (Try.f11.body.getD .skip)] := by
    simp [Frame.enter, Frame.at, Try.func11, base, Try.f11]
  rw [e]
  refine LoneTo.goes (n := 90) ?_
  simp only [Try.f11, Option.getD_some]
  repeat (first | s_op | s_c stepG_region_end | s_c stepG_seq | s_reg | s_c stepG_block | s_c stepG_inBlock | s_c stepG_skip | s_cond false | s_cond true | s_call Try.func13 nmAll Try.f13 | s_c stepG_ret' | s_leave1 Try.func13)
  s_stop
  refine LoneTo.step (step_lone_select_send_nil (v := .agg #[.int .i64 p.c, .int .i64 p.g]) (z' := .agg #[.int .i64 0, .int .i64 0]) (stepG_comm (cases := #[scaseNil (.agg #[.int .i64 p.c, .int .i64 p.g]) (.agg #[.int .i64 0, .int .i64 0])]) (blocking := false) (shape := .select) (w' := (w.alloc (.cells #[.int .i64 p.c, .int .i64 p.g] 29))) rfl rfl (by decide) (by simp [go_sem, execOp, scaseNil, Act.eval]))) ?_
  rw [Frame.finish_at]
  walk_nrm
  refine LoneTo.goes (n := 30) ?_
  repeat (first | s_op | s_c stepG_region_end | s_c stepG_seq | s_reg | s_c stepG_block | s_c stepG_inBlock | s_c stepG_skip | s_cond false | s_cond true)
  s_c stepG_ret'
  s_stop
  exact LoneTo.done ⟨.returned (.bool false), _, rfl, ⟨rfl, rfl⟩, rfl, rfl, rfl, rfl, _, Try.func11, by simp [results, Try.f11, Frame.at]⟩
set_option maxHeartbeats 1000000 in
theorem take_nil (w : World) :
    Calls Try.prog 10 #[.pointer none] w fun e w' => e = .returned (.tuple #[.agg #[.int .i64 0, .int .i64 0], .bool false]) ∧ Below w.heap.size w w' := by
  refine calls_of_loneTo fun cs => ?_
  have e : Frame.enter Try.prog 10 #[.pointer none] .normal = (base 10).at ⟨#[.pointer none, undef, undef, undef, undef, undef, undef, undef, undef, undef, undef, undef, undef], []⟩ [.code (Try.f10.body.getD .skip)] := by
    simp [Frame.enter, Frame.at, Try.func10, base, Try.f10]
    try rfl
  rw [e]
  refine LoneTo.goes (n := 90) ?_
  simp only [Try.f10, Option.getD_some]
  repeat (first | s_op | s_c stepG_region_end | s_c stepG_seq | s_reg | s_c stepG_block | s_c stepG_inBlock | s_c stepG_skip | s_cond false | s_cond true | s_call Try.func13 nmAll Try.f13 | s_c stepG_ret' | s_leave1 Try.func13)
  s_stop
  refine LoneTo.step (step_lone_select_recv_nil (z := .agg #[.int .i64 0, .int .i64 0]) (stepG_comm (cases := #[rcaseNil (.agg #[.int .i64 0, .int .i64 0])]) (blocking := false) (shape := .select) (w' := (w.alloc (.cells #[.int .i64 0, .int .i64 0] 29))) rfl rfl (by decide) (by simp [go_sem, execOp, rcaseNil, Act.eval]))) ?_
  rw [Frame.finish_at]
  walk_nrm
  refine LoneTo.goes (n := 40) ?_
  repeat (first | s_op | s_c stepG_region_end | s_c stepG_seq | s_reg | s_c stepG_block | s_c stepG_inBlock | s_c stepG_skip | s_cond false | s_cond true)
  s_c stepG_ret'
  s_stop
  refine LoneTo.done ⟨.returned (.tuple #[.agg #[.int .i64 0, .int .i64 0], .bool false]), _, rfl, ⟨rfl, ?_⟩, rfl, rfl, rfl, rfl, _, Try.func10, ?_⟩
  · exact (Below.refl _ w).alloc (Nat.le_refl _) _
  · refine results_row_tmp (p := 2) (u := 3) rfl _ _ w.heap.size 29 #[.int .i64 0, .int .i64 0] _ ?_ (Blk.new w _ _) Try.underlying29 rfl (by kernel_rfl)
    rfl
theorem all_some (gQ c : Nat) (w : World) (hq : w.cell? ⟨gQ, 0, none⟩ = some (.chan (some c))) (hl : gQ < w.heap.size) : Calls Try.prog 13 #[.pointer (some ⟨gQ, 0, none⟩)] w fun e w' => e = .returned (.chan (some c)) ∧ w' = w := by
  go_enter Try.func13, Try.ntmps13
  go_wp2
  go_ret
  exact ⟨rfl, rfl⟩
theorem all_nil (w : World) : Calls Try.prog 13 #[.pointer none] w fun e w' => e = .returned (.chan none) ∧ w' = w := by
  go_enter Try.func13, Try.ntmps13
  go_wp2
  go_ret
  exact ⟨rfl, rfl⟩
set_option maxHeartbeats 1000000 in
theorem signal_len0 (gQ c m s r : Nat) (buf : Array Value) (w : World) (hq : w.cell? ⟨gQ, 0, none⟩ = some (.chan (some c))) (hl : gQ < w.heap.size) (hc : w.heap[c]? = some (.chan m buf false s r false)) :
    Calls Try.prog 12 #[.pointer (some ⟨gQ, 0, none⟩)] w fun e w' => e = .returned (.int .i64 ((buf.size : Nat) : Int)) ∧ Below w.heap.size w w' := by
  have hlen := fun ty => run_len_chan (P := Try.prog) 38 ty Try.underlying38 hc
  go_enter Try.func12, Try.ntmps12
  go_wp2_with fail
  refine (all_some gQ c w hq hl).mono ?_
  rintro e w2 ⟨rfl, rfl⟩
  go_wp2
  go_ret
  exact ⟨rfl, Below.refl _ _⟩
set_option maxHeartbeats 1000000 in
theorem signal_len_nil0 (w : World) : Calls Try.prog 12 #[.pointer none] w fun e w' => e = .returned (.int .i64 0) ∧ w' = w := by
  have hlen : ∀ ty w, (Builtin.len_ #[38] ty #[.chan none]).run Try.prog w = .ok (.int .i64 0) w := fun ty w => by simp [Builtin.len_, go_sem, run_underlying Try.underlying38]
  go_enter Try.func12, Try.ntmps12
  go_wp2_with fail
  refine (all_nil w).mono ?_
  rintro e w2 ⟨rfl, rfl⟩
  go_wp2
  go_ret
  exact ⟨rfl, rfl⟩
theorem infoSig : ∃ i, Try.prog.info? 29 = some i ∧ i.bytes = 16 := by
  have h : (Try.prog.info? 29).map (·.bytes) = some 16 := by kernel_rfl
  obtain ⟨i, hi, hb⟩ := Option.map_eq_some_iff.1 h
  exact ⟨i, hi, hb⟩
theorem make_any (n : Nat) (hn : n ≤ 16) (w : World) : (Instr.makeChan 38 (.int .i64 (n : Int))).run Try.prog w = .ok (.chan (some w.heap.size)) (w.alloc (.chan n #[] false 0 0 false)) := by
  obtain ⟨i, hi, hb⟩ := infoSig
  exact run_makeChan (P := Try.prog) (w := w) Try.underlying38 hi .i64 n (by omega) (by rw [hb]; omega)
def near16' (n : Int) : Nat := if n < 0 then 0 else if 16 < n then 16 else n.toNat
theorem near16'_le (n : Int) : near16' n ≤ 16 := by
  unfold near16'
  split
  · omega
  · split <;> omega
theorem near16'_lo {n : Int} (h : n ≤ 0) : near16' n = 0 := by
  unfold near16'
  split
  · rfl
  · split <;> omega
theorem near16'_hi {n : Int} (h : 16 ≤ n) : near16' n = 16 := by
  unfold near16'
  split
  · omega
  · split <;> omega
set_option maxHeartbeats 1000000 in
theorem signal_new0 (n : Int) (w : World) : Calls Try.prog 8 #[.int .i64 n] w fun e w' => e = .returned (.pointer (some ⟨w.heap.size + 1, 0, none⟩)) ∧ w' = (w.alloc (.chan (near16' n) #[] false 0 0 false)).alloc (.cells #[.chan (some w.heap.size)] 40) := by
  by_cases c1 : n ≤ 0
  · have hmk : (Instr.makeChan 38 (.int .i64 0)).run Try.prog w = .ok (.chan (some w.heap.size)) (w.alloc (.chan 0 #[] false 0 0 false)) := make_any 0 (by omega) w
    have c2 : n ≤ 16 := by omega
    rw [near16'_lo c1]
    by_cases c3 : n = 0
    · subst c3
      go_enter Try.func8, Try.ntmps8
      go_wp2
      go_ret
      exact ⟨rfl, rfl⟩
    · have c4 : ¬ 0 ≤ n := by omega
      go_enter Try.func8, Try.ntmps8
      go_wp2
      go_ret
      exact ⟨rfl, rfl⟩
  · by_cases c2 : 16 ≤ n
    · have hmk : (Instr.makeChan 38 (.int .i64 16)).run Try.prog w = .ok (.chan (some w.heap.size)) (w.alloc (.chan 16 #[] false 0 0 false)) := make_any 16 (by omega) w
      rw [near16'_hi c2]
      by_cases c3 : n = 16
      · subst c3
        go_enter Try.func8, Try.ntmps8
        go_wp2
        go_ret
        exact ⟨rfl, rfl⟩
      · have c4 : ¬ n ≤ 16 := by omega
        have c5 : 0 ≤ n := by omega
        go_enter Try.func8, Try.ntmps8
        go_wp2
        go_ret
        exact ⟨rfl, rfl⟩
    · obtain ⟨k, rfl⟩ := Int.eq_ofNat_of_zero_le (by omega : 0 ≤ n)
      have hmk := make_any k (by omega) w
      rw [show near16' (k : Int) = k by unfold near16'; rw [if_neg (by omega), if_neg (by omega)]; rfl]
      have c4 : ¬ (k : Int) ≤ 0 := c1
      have c8 : (k : Int) ≤ 16 := by omega
      have c9 : k ≤ 16 := by omega
      have c5 : (0 : Int) ≤ (k : Int) := by omega
      have c6 : ¬ k ≤ 0 := by omega
      have c7 : ¬ k = 0 := by omega
      go_enter Try.func8, Try.ntmps8
      go_wp2
      go_ret
      exact ⟨rfl, rfl⟩
end Go.Proofs.Ytkdniihnilcpfaa

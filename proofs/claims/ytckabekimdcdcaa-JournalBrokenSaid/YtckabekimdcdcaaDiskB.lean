/-
  The contracts of disk's New, Fail and Fuse.
  Conditions: the disk is known whole.
-/
import Derived.Test.YtckabekimdcdcaaDiskA
namespace Go.Proofs.Ytckabekimdcdcaa
open Go.RowKit
set_option linter.unusedVariables false

theorem Try.infoSec : (Try.prog.info? 74).map (fun i => (i.zero.map (·.cells), i.size, decide (i.bytes ≤ 100))) = some (some (zs 64), 64, true) := by kernel_rfl
/-- So many sectors' cells as made. -/
def secs0 (n : Nat) : Array Value := madeCells (zs 64) (n * 64)
theorem secs0_size (n : Nat) : (secs0 n).size = n * 64 := by simp [secs0, madeCells]
theorem secs0_at (n i : Nat) (hi : i < n * 64) : (secs0 n)[i]? = some (bv 0) := by
  unfold secs0 madeCells
  rw [Array.getElem?_map, Array.getElem?_range, if_pos hi]
  have hz : (zs 64).size = 64 := zs_size 64
  have hi' : i % (zs 64).size < (zs 64).size := Nat.mod_lt _ (by omega)
  simp only [Option.map_some]
  rw [getElem!_pos (zs 64) _ hi']
  simp [zs]
theorem make_secs (n : Nat) (hn : n ≤ 4096) (w : World) : (Instr.makeSlice 57 (.int .i64 (n : Int)) (.int .i64 (n : Int))).run Try.prog w = .ok (.slice (some ⟨w.heap.size, 0, none⟩) n n) (w.alloc (.cells (secs0 n) 74)) := by
  have h := Try.infoSec
  cases hq : Try.prog.info? 74 with
  | none => rw [hq] at h; cases h
  | some i =>
    rw [hq] at h
    simp only [Option.map_some, Option.some.injEq, Prod.mk.injEq, decide_eq_true_eq] at h
    obtain ⟨h1, h2, h3⟩ := h
    obtain ⟨z, hz, hzc⟩ := Option.map_eq_some_iff.1 h1
    have hr := run_make (P := Try.prog) w _ _ i z Try.underlying57 hq hz .i64 .i64 n n (by omega) (by omega) (by
      have : (i.bytes : Int) ≤ 100 := by omega
      have h5 : (n : Int) ≤ 4096 := by omega
      have h6 : (i.bytes : Int) * n ≤ 100 * 4096 := Int.mul_le_mul this h5 (by omega) (by omega)
      omega) (by omega)
    simp only [Int.toNat_natCast, h2, hzc] at hr
    exact hr
/-- What New leaves. -/
def DNewPost (w : World) (n : Nat) (e : Ending) (w' : World) : Prop :=
  e = .returned (.pointer (some ⟨w.heap.size + 2, 0, none⟩)) ∧ Dsk w' (w.heap.size + 2) w.heap.size (w.heap.size + 1) n (fun _ => zer) (fun _ => none) Tr.none_ ∧ Below w.heap.size w w' ∧ w'.heap.size = w.heap.size + 3
theorem new_dsk (w : World) (n : Nat) (hn : n ≤ 4096) :
    Dsk (((w.alloc (.cells (secs0 n) 74)).alloc (.map #[] 0)).alloc (.cells (dskV w.heap.size (w.heap.size + 1) n Tr.none_) 62)) (w.heap.size + 2) w.heap.size (w.heap.size + 1) n (fun _ => zer) (fun _ => none) Tr.none_ := by
  have h1 := Blk.new ((w.alloc (.cells (secs0 n) 74)).alloc (.map #[] 0)) 62 (dskV w.heap.size (w.heap.size + 1) n Tr.none_)
  have h2 : Blk (((w.alloc (.cells (secs0 n) 74)).alloc (.map #[] 0)).alloc (.cells (dskV w.heap.size (w.heap.size + 1) n Tr.none_) 62)) w.heap.size 74 (secs0 n) :=
    (Below.heap_alloc _ _ _ (by simp; omega)).trans ((Below.heap_alloc _ _ _ (by simp)).trans (Blk.new w _ _))
  have h3 := Loo.made (w.alloc (.cells (secs0 n) 74)) Try.prog 3 n
  refine ⟨by simpa using h1, Tr.none_ok, hn, ⟨secs0 n, h2, secs0_size n, fun f hf => ⟨zer_length, zer_byte, fun i hi => ?_⟩⟩, ?_, fun j xs h => by cases h⟩
  · rw [secs0_at n _ (by omega)]
    have e2 : zer.getD i 0 = 0 := by
      unfold zer
      simp only [List.getD_eq_getElem?_getD, List.getElem?_replicate, hi, if_true, Option.getD_some]
    rw [e2]
  · have h4 := h3.far (w' := ((w.alloc (.cells (secs0 n) 74)).alloc (.map #[] 0)).alloc (.cells (dskV w.heap.size (w.heap.size + 1) n Tr.none_) 62)) (Below.heap_alloc _ _ _ (by simp))
    simpa using h4

/-- As near to that as 0 to 4096 allow. -/
def NearD (k : Int) (n : Nat) : Prop := (k ≤ 0 ∧ n = 0) ∨ (4096 ≤ k ∧ n = 4096) ∨ (0 ≤ k ∧ k ≤ 4096 ∧ k = n)

set_option maxRecDepth 20000 in
set_option maxHeartbeats 400000 in
theorem dnew_any (k : Int) (n : Nat) (w : World) (h : NearD k n) : Calls Try.prog 8 #[.int .i64 k] w (DNewPost w n) := by
  have hn : n ≤ 4096 := by unfold NearD at h; omega
  have HM := Lib.hid (new_dsk w n hn)
  have HB := Lib.hid (show Below w.heap.size w (((w.alloc (.cells (secs0 n) 74)).alloc (.map #[] 0)).alloc (.cells (dskV w.heap.size (w.heap.size + 1) n Tr.none_) 62)) from
    (((Below.refl _ _).alloc (Nat.le_refl _) _).alloc (by simp) _).alloc (by simp; omega) _)
  have hmk := make_secs n hn w
  have hmm := @run_makeMap Try.prog
  unfold NearD at h
  by_cases c1 : k < 0
  · obtain rfl : n = 0 := by omega
    have hmk' : (Instr.makeSlice 57 (.int .i64 0) (.int .i64 0)).run Try.prog w = .ok (.slice (some ⟨w.heap.size, 0, none⟩) 0 0) (w.alloc (.cells (secs0 0) 74)) := hmk
    clear hmk h
    go_enter Try.func8, Try.ntmps8
    go_wp2
    go_ret
    exact ⟨rfl, HM.out, HB.out, by simp⟩
  · by_cases c2 : 4096 < k
    · obtain rfl : n = 4096 := by omega
      have hmk' : (Instr.makeSlice 57 (.int .i64 4096) (.int .i64 4096)).run Try.prog w = .ok (.slice (some ⟨w.heap.size, 0, none⟩) 4096 4096) (w.alloc (.cells (secs0 4096) 74)) := hmk
      clear hmk h
      go_enter Try.func8, Try.ntmps8
      go_wp2
      go_ret
      exact ⟨rfl, HM.out, HB.out, by simp⟩
    · obtain rfl : k = n := by omega
      clear c1 h
      go_enter Try.func8, Try.ntmps8
      go_wp2
      go_ret
      exact ⟨rfl, HM.out, HB.out, by simp⟩

/-! ### Fail, Fuse -/

/-- What a call leaves that turns what is still to come. -/
def TrPost (w : World) (gD gS gM n : Nat) (S : Nat → List Nat) (L : Nat → Option (List Nat)) (t : Tr) (e : Ending) (w' : World) : Prop :=
  e = .returned (.tuple #[]) ∧ Dsk w' gD gS gM n S L t ∧ Only gD w w'
theorem Dsk.turned {w w' : World} {gD gS gM n : Nat} {S : Nat → List Nat} {L : Nat → Option (List Nat)} {t t' : Tr} (h : Dsk w gD gS gM n S L t) (ht : t'.ok) (h1 : Blk w' gD 62 (dskV gS gM n t')) (h2 : Only gD w w') : Dsk w' gD gS gM n S L t' :=
  ⟨h1, ht, h.2.2.1, h.2.2.2.1.far (h2.1.block _ h.lt.2.1 (fun e => h.ne.1 (by injection e with e; exact e.symm))),
    h.2.2.2.2.1.far (h2.1.block _ h.lt.2.2 (fun e => h.ne.2.1 (by injection e with e; exact e.symm))), h.2.2.2.2.2⟩

set_option maxRecDepth 20000 in
set_option maxHeartbeats 400000 in
theorem fail_nil (a b : Int) (w : World) :
    Calls Try.prog 16 #[.pointer none, .int .i64 a, .int .i64 b] w fun e w' => e = .returned (.tuple #[]) ∧ w = w' := by
  go_enter Try.func16, Try.ntmps16
  go_wp2
  (try simp only [Exit.inBlock, Exit.then])
  refine bodyPost_ret (results_none rfl _ _ _) rfl ?_
  exact ⟨rfl, rfl⟩
set_option maxRecDepth 20000 in
set_option maxHeartbeats 400000 in
theorem fuse_nil (a : Int) (w : World) :
    Calls Try.prog 17 #[.pointer none, .int .i64 a] w fun e w' => e = .returned (.tuple #[]) ∧ w = w' := by
  go_enter Try.func17, Try.ntmps17
  go_wp2
  (try simp only [Exit.inBlock, Exit.then])
  refine bodyPost_ret (results_none rfl _ _ _) rfl ?_
  exact ⟨rfl, rfl⟩
set_option maxRecDepth 20000 in
set_option maxHeartbeats 400000 in
theorem fail_any (gD gS gM n : Nat) (S : Nat → List Nat) (L : Nat → Option (List Nat)) (t : Tr) (a b : Nat) (w : World) (h : Dsk w gD gS gM n S L t) (ha : a ≤ 9223372036854775807) (hb : b ≤ 9223372036854775807) :
    Calls Try.prog 16 #[.pointer (some ⟨gD, 0, none⟩), .int .i64 a, .int .i64 b] w (TrPost w gD gS gM n S L ⟨a, b, t.fused, t.left, t.down⟩) := by
  have HD := Lib.hid h
  have f2 := h.1.frozen 2
  have f3 := h.1.frozen 3
  have c2 : w.cell? ⟨gD, 2, none⟩ = some (.int .i64 t.good) := h.cell 2
  have c3 : w.cell? ⟨gD, 3, none⟩ = some (.int .i64 t.failed) := h.cell 3
  have d1 : decide ((a : Int) < 0) = false := decide_eq_false (by omega)
  have d2 : decide ((b : Int) < 0) = false := decide_eq_false (by omega)
  clear h
  go_enter Try.func16, Try.ntmps16
  go_wp2
  go_end0
  exact ⟨rfl, HD.out.turned ⟨ha, hb, HD.out.2.1.2.2⟩ ((HD.out.1.set_ 2 (.int .i64 (a : Nat))).set_ 3 (.int .i64 (b : Nat))) (((Only.refl _ _).setCell _ _).setCell _ _), ((Only.refl _ _).setCell _ _).setCell _ _⟩
set_option maxRecDepth 20000 in
set_option maxHeartbeats 400000 in
theorem fuse_any (gD gS gM n : Nat) (S : Nat → List Nat) (L : Nat → Option (List Nat)) (t : Tr) (a : Nat) (w : World) (h : Dsk w gD gS gM n S L t) (ha : a ≤ 9223372036854775807) :
    Calls Try.prog 17 #[.pointer (some ⟨gD, 0, none⟩), .int .i64 a] w (TrPost w gD gS gM n S L ⟨t.good, t.failed, true, a, t.down⟩) := by
  have HD := Lib.hid h
  have f4 := h.1.frozen 4
  have f5 := h.1.frozen 5
  have c4 : w.cell? ⟨gD, 4, none⟩ = some (.bool t.fused) := h.cell 4
  have c5 : w.cell? ⟨gD, 5, none⟩ = some (.int .i64 t.left) := h.cell 5
  have d1 : decide ((a : Int) < 0) = false := decide_eq_false (by omega)
  clear h
  go_enter Try.func17, Try.ntmps17
  go_wp2
  go_end0
  exact ⟨rfl, HD.out.turned ⟨HD.out.2.1.1, HD.out.2.1.2.1, ha⟩ ((HD.out.1.set_ 4 (.bool true)).set_ 5 (.int .i64 (a : Nat))) (((Only.refl _ _).setCell _ _).setCell _ _), ((Only.refl _ _).setCell _ _).setCell _ _⟩
end Go.Proofs.Ytckabekimdcdcaa

/-
  The contract of disk's Loose: the sectors that are loose, rising.
  Conditions: the disk is known whole.
-/
import Derived.Test.YtckabekimdcdcaaDiskE
import Derived.Test.YtckabekimdcdcaaSorted
import Derived.Test.YtckabekimdcdcaaShelf
namespace Go.Proofs.Ytckabekimdcdcaa
open Go.RowKit Go.Sort
set_option linter.unusedVariables false

set_option maxRecDepth 20000 in
set_option maxHeartbeats 400000 in
theorem dloose_nil (w : World) :
    Calls Try.prog 41 #[.pointer none] w fun e w' => e = .returned (.slice none 0 0) ∧ w = w' := by
  go_enter Try.func41, Try.ntmps41
  go_wp2
  go_ret
  exact ⟨rfl, rfl⟩

theorem Try.infoInt : (Try.prog.info? 3).map (fun i => (i.zero, i.size, i.bytes)) = some (some (.int .i64 0), 1, 8) := by kernel_rfl
/-- What Loose leaves: numbers in memory of its own. -/
def NumsPost (w : World) (ks : List Nat) (nn : Bool) (e : Ending) (w' : World) : Prop :=
  ∃ v, e = .returned v ∧ w'.ownsRow w.heap.size 3 1 v ks.length (ks.map nv) ∧ Below w.heap.size w w' ∧ (v = .slice none 0 0 → nn = true)
/-- What holds while they are collected. -/
def LooseAt (w : World) (gM r n : Nat) (L : Nat → Option (List Nat)) (v : Value) (wr : World) : Prop :=
  ∃ left cnt ss, Ran Try.prog 3 wr gM r n L left cnt ∧ wr.ownsRow w.heap.size 3 1 v ss.length (ss.map nv) ∧ v ≠ .slice none 0 0 ∧ Coll L left ss ∧ Below w.heap.size w wr

set_option maxRecDepth 20000 in
set_option maxHeartbeats 1000000 in
theorem dloose_any (gD gS gM n : Nat) (S : Nat → List Nat) (L : Nat → Option (List Nat)) (t : Tr) (w : World) (h : Dsk w gD gS gM n S L t) :
    Calls Try.prog 41 #[.pointer (some ⟨gD, 0, none⟩)] w (NumsPost w (keysL n L) false) := by
  have HD := Lib.hid h
  have HN := Lib.hid (show ∀ j xs, L j = some xs → j < n from fun j xs hj => (h.loose_ hj).2.2)
  obtain ⟨i0, hi, hz0, hz1, hz2⟩ := info_parts Try.infoInt
  have c1 : w.cell? ⟨gD, 1, none⟩ = some (.map (some gM)) := h.cell 1
  have hfew := h.few
  clear h
  go_enter Try.func41, Try.ntmps41
  go_wp2_with (first
    | (refine wpList_len_loo rfl (.tmp 10) rfl Try.underlying3 Try.underlying58 rfl HD.out.2.2.2.2.1 ?_; intro c hc)
    | (refine wpList_make_own _ rfl _ _ 71 rfl w.heap.size 3 i0 (.int .i64 0) 1 Try.underlying71 hi hz0 hz1 _ _ _ c rfl rfl rfl (by rw [hz2]; omega) (by unfold maxLen; omega) (Nat.le_refl _) ?_; intro w1 hrow1 hg1; have HROW1 := Lib.hid hrow1; have HG1 := Lib.hid hg1; clear hrow1 hg1; have c1' : w1.cell? ⟨gD, 1, none⟩ = some (.map (some gM)) := by { rw [World.cell?_of_block (HG1.out.block _ HD.out.lt.1 (by simp))]; exact c1 })
    | (refine wpList_range_loo rfl (.tmp 16) rfl Try.underlying3 Try.underlying58 rfl (HD.out.2.2.2.2.1.far (HG1.out.block _ HD.out.lt.2.2 (by simp))) ?_; intro w2 cnt2 hcn HR2 HB2 HS2))
  go_frame
  clear c1 c1' hcn
  have HST := Lib.hid (show LooseAt w gM w1.heap.size n L (.slice (some ⟨w.heap.size, 0, none⟩) 0 c) w2 from ⟨_, cnt2, [], HR2.out, HROW1.out.kept (row := none) ⟨HB2.out.os, HB2.out.tape, HB2.out.output, HB2.out.size, fun i hi _ => HB2.out.block i hi⟩ (Or.inr (by simp [Value.ownBlock])), by simp, Coll.start L,
    (show Below w.heap.size w w1 from ⟨HG1.out.os, HG1.out.tape, HG1.out.output, HG1.out.size, fun i hi => HG1.out.block i hi (by simp)⟩).trans (HB2.out.mono HG1.out.size)⟩)
  clear hc
  go_loopw [3] (fun v wr => LooseAt w gM w1.heap.size n L v wr) (fun _ wr => wr.rangeLeft gM w1.heap.size)
  case atStart => exact HST.out
  case round =>
    obtain ⟨left, cnt, ss, hr, hrow, hnn, hC, hnx⟩ := hrel
    have HRA := Lib.hid hr
    have HROW := Lib.hid hrow
    have HNN := Lib.hid hnn
    have HC := Lib.hid hC
    have HNX := Lib.hid hnx
    clear hr hrow hnn hC hnx
    go_wp2_with (refine wpList_next_loo rfl (.tmp 17) rfl Try.underlying3 rfl HRA.out ?_ ?_)
    · intro hl0
      rcases HROW.out.2 with ⟨hnil, _⟩ | ⟨g, cap, cur, rfl, hbase, hb, h1, h2, h3, h4⟩
      · exact absurd hnil HNN.out
      have hmm : (ss.map fun j : Nat => (j : Int)).map (Value.int .i64) = ss.map nv := by rw [List.map_map]; rfl
      have hH : Holds (Value.int .i64) wr g 0 (ss.map fun j : Nat => (j : Int)).toArray := holds_ints hb (by rw [hmm, List.length_map]; simpa using h4)
      have hgl : g < wr.heap.size := (Array.getElem?_eq_some_iff.1 hb).1
      have hfew2 := HC.out.few HN.out
      have hc := Try.slices_Sort_int g 0 cap (ss.map fun j : Nat => (j : Int)) wr hH hgl (by rw [List.length_map]; omega)
      have hpm := HC.out.perm hl0 HN.out
      rw [sorted_keys hpm (keysL_sorted n L), List.length_map] at hc
      have hks : (keysL n L).map nv = ((keysL n L).map fun j : Nat => (j : Int)).map (Value.int .i64) := by rw [List.map_map]; rfl
      have hlen : (keysL n L).length = ss.length := hpm.length_eq.symm
      have HO := Lib.hid (fun (nn : Nat) (os : Array Obj) => own_sorted_ints (base := w.heap.size) (n := nn) (os := os) (ss := ss.map fun j : Nat => (j : Int)) (ts := (keysL n L).map fun j : Nat => (j : Int)) (by simp [hlen]) hbase hb (by simpa using h1) h2 h3)
      have HCC := Lib.hid hc
      have HKS := Lib.hid hks
      have HLE := Lib.hid hlen
      have HBA := Lib.hid hbase
      clear hmm hH hgl hfew2 hc hpm hks hlen hb h1 h2 h3 h4 hbase
      go_wp2_with fail
      refine HCC.out.mono ?_
      rintro e w' ⟨rfl, nn, os, rfl⟩
      go_wp2_with fail
      go_ret
      have h9 := HO.out nn os
      rw [List.length_map, ← HKS.out] at h9
      exact ⟨_, rfl, by rw [HLE.out]; exact h9, HNX.out.grown (grown_sorted_ints _) HNX.out.size (fun j hj => by cases hj; exact HBA.out), fun h => by cases h⟩
    · intro j xs w3 cnt3 hj hlj hL HR3 hlt HO3 hen
      have HROW3 := Lib.hid (HROW.out.kept HO3.out.1 (Or.inr (row_ne_ran HROW.out HRA.out).symm))
      have HC3 := Lib.hid (HC.out.step hlj hL)
      have HLT := Lib.hid hlt
      have hcw := HC3.out.few HN.out
      rw [List.length_append] at hcw
      have HCW := Lib.hid hcw
      clear hlj hL hlt hcw
      have hbz : w.heap.size ≤ w3.heap.size := by rw [HO3.out.2]; exact HNX.out.size
      have HBZ := Lib.hid hbz
      clear hbz
      have HONE := Lib.hid (show ∀ u ∈ [nv j], u.oneCell' = true from fun u hu => by rw [List.mem_singleton.1 hu]; rfl)
      have HQ1 := Lib.hid (show ss.length + 1 ≤ maxLen from by have := HCW.out; simp at this; unfold maxLen; omega)
      have HQ2 := Lib.hid (show (ss.length + 1) * 8 ≤ 140737488355328 from by have := HCW.out; simp at this; omega)
      have HQ3 := Lib.hid (show w.heap.size ≤ (w3.alloc (.cells #[nv j] 3)).heap.size from by have := HBZ.out; simp; omega)
      go_wp2_with (refine wpList_append_own _ rfl (.tmp 22) (.tmp 24) 71 rfl w.heap.size 3 i0 (.int .i64 0) 1 8 Try.underlying71 hi hz0 hz1 hz2 rfl (by decide) _ _ _ rfl (HROW3.out.alloc _) ⟨w3.heap.size, 0, none⟩ 1 1 [nv j] rfl rfl (cell_one_new _ _ _) HONE.out HQ1.out HQ2.out HQ3.out ?_; intro v' w4 hown4 hg4 hnil4; have HOWN4 := Lib.hid hown4; have HG4 := Lib.hid hg4; have HNIL4 := Lib.hid hnil4; clear hown4 hg4 hnil4)
      have HR4 := Lib.hid ((HR3.out.grown (World.grownBy_alloc w3 (.cells #[nv j] 3) none) (by simp) (by simp)).grown HG4.out (row_below HROW3.out HD.out.lt.2.2) (row_ne_ran HROW3.out HR3.out))
      have HB4 := Lib.hid (((HNX.out.grown HO3.out.1 HNX.out.size (fun j hj => by cases hj; exact HG1.out.size)).alloc HBZ.out (.cells #[nv j] 3)).grown HG4.out (by have := HBZ.out; simp; omega) (fun j hj => (HROW3.out.lt j hj).1))
      go_roundw
      case rel =>
        refine ⟨_, cnt3, ss ++ [j], HR4.out, ?_, fun hv' => ?_, HC3.out, HB4.out⟩
        · have := HOWN4.out
          simpa using this
        · have := (HNIL4.out.1 hv').2
          omega
      case measure =>
        rw [HR4.out.left_eq, HRA.out.left_eq]
        exact HLT.out
end Go.Proofs.Ytckabekimdcdcaa

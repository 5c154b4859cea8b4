/-
  The contracts of disk's New, Fail, Fuse, Read, Write and Flush; what several layers stand on.
  Conditions: those that each line bears.
-/
import Derived.Test.YtggidgfmkidkjaaWrd
import Derived.Test.YtggidgfmkidkjaaBas
import Derived.WalkKit
import Derived.WalkSpells
import Derived.WalkLawsBesides
import Derived.Laws.MakeOwn
import Derived.Lib.Hide
import Derived.BigQuiet
import Derived.Outline
import Derived.Deep.MidRow
import Derived.Deep.RegionHeld3
import Derived.Deep.DrawnRows
import Derived.Lib.SliceRun

/-! ## DiskA: The contracts of disk's Sectors, has, work, Fail, Fuse and New.   Conditions: the disk is known whole. -/
namespace Go.Proofs.Ytggidgfmkidkjaa
open Go.RowKit
set_option linter.unusedVariables false

/-- What is still to come of Fail and Fuse. -/
structure Tr where
  good : Nat
  failed : Nat
  fused : Bool
  left : Nat
  down : Bool
def Tr.none_ : Tr := ⟨0, 0, false, 0, false⟩
def Tr.ok (t : Tr) : Prop := t.good ≤ 9223372036854775807 ∧ t.failed ≤ 9223372036854775807 ∧ t.left ≤ 9223372036854775807
/-- What one work answers, and what is still to come behind it. -/
def Tr.ans (t : Tr) : Nat :=
  if t.down = true ∨ (t.fused = true ∧ t.left = 0) then 9 else if 0 < t.good then 0 else if 0 < t.failed then 6 else 0
def Tr.next (t : Tr) : Tr :=
  if t.down = true ∨ (t.fused = true ∧ t.left = 0) then ⟨t.good, t.failed, t.fused, t.left, true⟩
  else ⟨t.good - 1, if 0 < t.good then t.failed else t.failed - 1, t.fused, if t.fused = true then t.left - 1 else t.left, t.down⟩
theorem Tr.next_ok {t : Tr} (h : t.ok) : t.next.ok := by
  unfold Tr.ok Tr.next at *
  split
  · exact h
  · refine ⟨by simp only; omega, ?_, ?_⟩ <;> simp only <;> split <;> omega
theorem Tr.none_ok : Tr.none_.ok := ⟨by simp [Tr.none_], by simp [Tr.none_], by simp [Tr.none_]⟩

/-- The disk's own cells. -/
def dskV (gS gM n : Nat) (t : Tr) : Array Value :=
  #[.slice (some ⟨gS, 0, none⟩) n n, .map (some gM), .int .i64 t.good, .int .i64 t.failed, .bool t.fused, .int .i64 t.left, .bool t.down]

/-- n sectors in block gS: S. -/
def Sec (w : World) (gS n : Nat) (S : Nat → List Nat) : Prop :=
  ∃ cur, Blk w gS 53 cur ∧ cur.size = n * 64 ∧ ∀ f, f < n → (S f).length = 64 ∧ (∀ y ∈ S f, y < 256) ∧ ∀ i, i < 64 → cur[f * 64 + i]? = some (bv ((S f).getD i 0))

/-- The disk in blocks gD, gS and gM: n sectors, the sure bytes of each, those that are loose, and what is still to come of Fail and Fuse. -/
def Dsk (w : World) (gD gS gM n : Nat) (S : Nat → List Nat) (L : Nat → Option (List Nat)) (t : Tr) : Prop :=
  Blk w gD 46 (dskV gS gM n t) ∧ t.ok ∧ n ≤ 4096 ∧ Sec w gS n S ∧ Loo Try.prog 3 w gM n L ∧ ∀ j xs, L j = some xs → xs.length = 64 ∧ ∀ y ∈ xs, y < 256

theorem Try.law : Maps.Keyed Try.prog 3 := Maps.int_keyed Try.underlying3

section
variable {w w' : World} {gD gS gM n : Nat} {S : Nat → List Nat} {L : Nat → Option (List Nat)} {t : Tr}
theorem Sec.far (h : Sec w gS n S) (hb : w'.heap[gS]? = w.heap[gS]?) : Sec w' gS n S := by
  obtain ⟨cur, h1, h2⟩ := h
  exact ⟨cur, hb.trans h1, h2⟩
theorem Sec.lt (h : Sec w gS n S) : gS < w.heap.size := by
  obtain ⟨cur, h1, h2⟩ := h
  exact h1.lt
theorem Dsk.lt (h : Dsk w gD gS gM n S L t) : gD < w.heap.size ∧ gS < w.heap.size ∧ gM < w.heap.size := ⟨h.1.lt, h.2.2.2.1.lt, h.2.2.2.2.1.blk⟩
theorem Dsk.ne (h : Dsk w gD gS gM n S L t) : gD ≠ gS ∧ gD ≠ gM ∧ gS ≠ gM := by
  obtain ⟨h1, _, _, ⟨cur, h2, _⟩, h3, _⟩ := h
  obtain ⟨es, clock, h4⟩ := h3.map_
  unfold Blk at h1 h2
  refine ⟨?_, ?_, ?_⟩
  · rintro rfl
    rw [h1] at h2
    injection h2 with h2
    injection h2 with _ ht
    exact absurd ht (by decide)
  · rintro rfl
    rw [h1] at h4
    cases h4
  · rintro rfl
    rw [h2] at h4
    cases h4
theorem Dsk.far (h : Dsk w gD gS gM n S L t) (h1 : w'.heap[gD]? = w.heap[gD]?) (h2 : w'.heap[gS]? = w.heap[gS]?) (h3 : w'.heap[gM]? = w.heap[gM]?) : Dsk w' gD gS gM n S L t :=
  ⟨h1.trans h.1, h.2.1, h.2.2.1, h.2.2.2.1.far h2, h.2.2.2.2.1.far h3, h.2.2.2.2.2⟩
theorem Dsk.below (h : Dsk w gD gS gM n S L t) {B : Nat} (hb : Below B w w') (h1 : gD < B) (h2 : gS < B) (h3 : gM < B) : Dsk w' gD gS gM n S L t :=
  h.far (hb.block _ h1) (hb.block _ h2) (hb.block _ h3)
theorem Dsk.fresh (h : Dsk w gD gS gM n S L t) (hb : Below w.heap.size w w') : Dsk w' gD gS gM n S L t := h.below hb h.lt.1 h.lt.2.1 h.lt.2.2
theorem Dsk.alloc (h : Dsk w gD gS gM n S L t) (o : Obj) : Dsk (w.alloc o) gD gS gM n S L t := h.fresh ((Below.refl _ _).alloc (Nat.le_refl _) _)
theorem Dsk.drew (h : Dsk w gD gS gM n S L t) : Dsk w.drew gD gS gM n S L t := h
theorem Dsk.cell (h : Dsk w gD gS gM n S L t) (i : Nat) : w.cell? ⟨gD, i, none⟩ = (dskV gS gM n t)[i]? := h.1.cell i
theorem Dsk.few (h : Dsk w gD gS gM n S L t) : n ≤ 4096 := h.2.2.1
end

set_option maxRecDepth 20000 in
set_option maxHeartbeats 400000 in
theorem sectors_any (gD gS gM n : Nat) (S : Nat → List Nat) (L : Nat → Option (List Nat)) (t : Tr) (w : World) (h : Dsk w gD gS gM n S L t) :
    Calls Try.prog 22 #[.pointer (some ⟨gD, 0, none⟩)] w fun e w' => e = .returned (.int .i64 n) ∧ w = w' := by
  have hc : w.cell? ⟨gD, 0, none⟩ = some (.slice (some ⟨gS, 0, none⟩) n n) := h.cell 0
  clear h
  go_enter Try.func22, Try.ntmps22
  go_wp2
  go_ret
  exact ⟨rfl, rfl⟩
set_option maxRecDepth 20000 in
set_option maxHeartbeats 400000 in
theorem sectors_nil (w : World) :
    Calls Try.prog 22 #[.pointer none] w fun e w' => e = .returned (.int .i64 0) ∧ w = w' := by
  go_enter Try.func22, Try.ntmps22
  go_wp2
  go_ret
  exact ⟨rfl, rfl⟩

set_option maxRecDepth 20000 in
set_option maxHeartbeats 400000 in
theorem dhas_yes (gD gS gM n : Nat) (S : Nat → List Nat) (L : Nat → Option (List Nat)) (t : Tr) (f : Nat) (w : World) (h : Dsk w gD gS gM n S L t) (hf : f < n) :
    Calls Try.prog 19 #[.pointer (some ⟨gD, 0, none⟩), .int .i64 f] w fun e w' => e = .returned (.bool true) ∧ w = w' := by
  have HF := Lib.hid (sectors_any _ _ _ _ _ _ _ w h)
  clear h
  have h1 : (f : Int) < (n : Int) := by omega
  have h2 : (0 : Int) ≤ (f : Int) := by omega
  go_enter Try.func19, Try.ntmps19
  go_wp2_with fail
  refine HF.out.mono ?_
  rintro e w1 ⟨rfl, rfl⟩
  go_wp2
  go_ret
  exact ⟨rfl, rfl⟩
set_option maxRecDepth 20000 in
set_option maxHeartbeats 400000 in
theorem dhas_no (gD gS gM n : Nat) (S : Nat → List Nat) (L : Nat → Option (List Nat)) (t : Tr) (f : Int) (w : World) (h : Dsk w gD gS gM n S L t) (hf : f < 0 ∨ (n : Int) ≤ f) :
    Calls Try.prog 19 #[.pointer (some ⟨gD, 0, none⟩), .int .i64 f] w fun e w' => e = .returned (.bool false) ∧ w = w' := by
  have HF := Lib.hid (sectors_any _ _ _ _ _ _ _ w h)
  clear h
  by_cases h0 : f < 0
  · clear hf
    go_enter Try.func19, Try.ntmps19
    go_wp2_with fail
    go_ret
    exact ⟨rfl, rfl⟩
  · have h1 : (n : Int) ≤ f := by omega
    have h2 : 0 ≤ f := by omega
    have h3 : decide (f < (n : Int)) = false := by simp; omega
    clear hf h0
    go_enter Try.func19, Try.ntmps19
    go_wp2_with fail
    refine HF.out.mono ?_
    rintro e w1 ⟨rfl, rfl⟩
    go_wp2
    go_ret
    exact ⟨rfl, rfl⟩
set_option maxRecDepth 20000 in
set_option maxHeartbeats 400000 in
theorem dhas_nil (f : Int) (w : World) :
    Calls Try.prog 19 #[.pointer none, .int .i64 f] w fun e w' => e = .returned (.bool false) ∧ w = w' := by
  have HF := Lib.hid (sectors_nil w)
  by_cases h0 : f < 0
  · go_enter Try.func19, Try.ntmps19
    go_wp2_with fail
    go_ret
    exact ⟨rfl, rfl⟩
  · have h2 : 0 ≤ f := by omega
    have h3 : decide (f < 0) = false := by simp; omega
    clear h0
    go_enter Try.func19, Try.ntmps19
    go_wp2_with fail
    refine HF.out.mono ?_
    rintro e w1 ⟨rfl, rfl⟩
    go_wp2
    go_ret
    exact ⟨rfl, rfl⟩

/-! ### work -/

/-- What work leaves. -/
def WorkPost (w : World) (gD gS gM n : Nat) (t : Tr) (e : Ending) (w' : World) : Prop :=
  e = .returned (.int .i64 t.ans) ∧ Blk w' gD 46 (dskV gS gM n t.next) ∧ Only gD w w'

theorem dskV_set (gS gM n : Nat) (g f : Nat) (fu : Bool) (l : Nat) (d : Bool) :
    (∀ v, (dskV gS gM n ⟨g, f, fu, l, d⟩).setIfInBounds 2 (.int .i64 (v : Nat)) = dskV gS gM n ⟨v, f, fu, l, d⟩) ∧
    (∀ v, (dskV gS gM n ⟨g, f, fu, l, d⟩).setIfInBounds 3 (.int .i64 (v : Nat)) = dskV gS gM n ⟨g, v, fu, l, d⟩) ∧
    (∀ v, (dskV gS gM n ⟨g, f, fu, l, d⟩).setIfInBounds 4 (.bool v) = dskV gS gM n ⟨g, f, v, l, d⟩) ∧
    (∀ v, (dskV gS gM n ⟨g, f, fu, l, d⟩).setIfInBounds 5 (.int .i64 (v : Nat)) = dskV gS gM n ⟨g, f, fu, v, d⟩) ∧
    ∀ v, (dskV gS gM n ⟨g, f, fu, l, d⟩).setIfInBounds 6 (.bool v) = dskV gS gM n ⟨g, f, fu, l, v⟩ :=
  ⟨fun _ => rfl, fun _ => rfl, fun _ => rfl, fun _ => rfl, fun _ => rfl⟩

set_option maxRecDepth 20000 in
set_option maxHeartbeats 1600000 in
theorem work_any (gD gS gM n : Nat) (t : Tr) (w : World) (h : Blk w gD 46 (dskV gS gM n t)) (ht : t.ok) :
    Calls Try.prog 20 #[.pointer (some ⟨gD, 2, none⟩)] w (WorkPost w gD gS gM n t) := by
  obtain ⟨g, f, fu, l, d⟩ := t
  have HB := Lib.hid h
  obtain ⟨hg, hf, hl⟩ := ht
  simp only at hg hf hl
  have c2 : w.cell? ⟨gD, 2, none⟩ = some (.int .i64 g) := h.cell 2
  have c3 : w.cell? ⟨gD, 3, none⟩ = some (.int .i64 f) := h.cell 3
  have c4 : w.cell? ⟨gD, 4, none⟩ = some (.bool fu) := h.cell 4
  have c5 : w.cell? ⟨gD, 5, none⟩ = some (.int .i64 l) := h.cell 5
  have c6 : w.cell? ⟨gD, 6, none⟩ = some (.bool d) := h.cell 6
  have f2 := h.frozen 2
  have f3 := h.frozen 3
  have f5 := h.frozen 5
  have f6 := h.frozen 6
  clear h
  cases d with
  | true =>
    go_enter Try.func20, Try.ntmps20
    go_wp2
    go_ret
    exact ⟨rfl, by simpa [dskV, Tr.next] using HB.out.set_ 6 (.bool true), (Only.refl _ _).setCell _ _⟩
  | false =>
    by_cases t1 : fu = true ∧ l = 0
    · obtain ⟨rfl, rfl⟩ := t1
      go_enter Try.func20, Try.ntmps20
      go_wp2
      go_ret
      exact ⟨rfl, by simpa [dskV, Tr.next] using HB.out.set_ 6 (.bool true), (Only.refl _ _).setCell _ _⟩
    · by_cases t2 : fu = true
      · subst t2
        have t0 : 0 < l := by
          rcases Nat.eq_zero_or_pos l with h | h
          · exact absurd ⟨rfl, h⟩ t1
          · exact h
        clear t1
        have d5 : decide ((l : Int) = 0) = false := by simp; omega
        have w5 : IntKind.i64.wrap ((l : Int) - 1) = ((l - 1 : Nat) : Int) := by rw [IntKind.wrap_i64]; omega
        by_cases t3 : 0 < g
        · have d2 : decide ((0 : Int) < (g : Int)) = true := by simp; omega
          have w2 : IntKind.i64.wrap ((g : Int) - 1) = ((g - 1 : Nat) : Int) := by rw [IntKind.wrap_i64]; omega
          go_enter Try.func20, Try.ntmps20
          go_wp2
          go_ret
          have ha : Tr.ans ⟨g, f, true, l, false⟩ = 0 := by unfold Tr.ans; rw [if_neg (by simp; omega)]; simp only; rw [if_pos t3]
          have hn : Tr.next ⟨g, f, true, l, false⟩ = ⟨g - 1, f, true, l - 1, false⟩ := by unfold Tr.next; rw [if_neg (by simp; omega)]; simp [t3]
          exact ⟨by rw [ha]; rfl, by rw [hn]; exact ((HB.out).set_ 5 (.int .i64 ((l - 1 : Nat) : Int))).set_ 2 (.int .i64 ((g - 1 : Nat) : Int)), ((Only.refl _ _).setCell _ _).setCell _ _⟩
        · have d2 : decide ((0 : Int) < (g : Int)) = false := by simp; omega
          by_cases t4 : 0 < f
          · have d3 : decide ((0 : Int) < (f : Int)) = true := by simp; omega
            have w3 : IntKind.i64.wrap ((f : Int) - 1) = ((f - 1 : Nat) : Int) := by rw [IntKind.wrap_i64]; omega
            go_enter Try.func20, Try.ntmps20
            go_wp2
            go_ret
            have ha : Tr.ans ⟨g, f, true, l, false⟩ = 6 := by unfold Tr.ans; rw [if_neg (by simp; omega)]; simp only; rw [if_neg t3, if_pos t4]
            have hn : Tr.next ⟨g, f, true, l, false⟩ = ⟨0, f - 1, true, l - 1, false⟩ := by unfold Tr.next; rw [if_neg (by simp; omega)]; simp [show g = 0 by omega]
            obtain rfl : g = 0 := by omega
            exact ⟨by rw [ha]; rfl, by rw [hn]; exact ((HB.out).set_ 5 (.int .i64 ((l - 1 : Nat) : Int))).set_ 3 (.int .i64 ((f - 1 : Nat) : Int)), ((Only.refl _ _).setCell _ _).setCell _ _⟩
          · have d3 : decide ((0 : Int) < (f : Int)) = false := by simp; omega
            go_enter Try.func20, Try.ntmps20
            go_wp2
            go_ret
            have ha : Tr.ans ⟨g, f, true, l, false⟩ = 0 := by unfold Tr.ans; rw [if_neg (by simp; omega)]; simp only; rw [if_neg t3, if_neg t4]
            have hn : Tr.next ⟨g, f, true, l, false⟩ = ⟨0, 0, true, l - 1, false⟩ := by unfold Tr.next; rw [if_neg (by simp; omega)]; simp [show g = 0 by omega, show f = 0 by omega]
            obtain rfl : g = 0 := by omega
            obtain rfl : f = 0 := by omega
            exact ⟨by rw [ha]; rfl, by rw [hn]; exact (HB.out).set_ 5 (.int .i64 ((l - 1 : Nat) : Int)), (Only.refl _ _).setCell _ _⟩
      · obtain rfl : fu = false := by simpa using t2
        clear t1 t2
        by_cases t3 : 0 < g
        · have d2 : decide ((0 : Int) < (g : Int)) = true := by simp; omega
          have w2 : IntKind.i64.wrap ((g : Int) - 1) = ((g - 1 : Nat) : Int) := by rw [IntKind.wrap_i64]; omega
          go_enter Try.func20, Try.ntmps20
          go_wp2
          go_ret
          have ha : Tr.ans ⟨g, f, false, l, false⟩ = 0 := by unfold Tr.ans; rw [if_neg (by simp)]; simp only; rw [if_pos t3]
          have hn : Tr.next ⟨g, f, false, l, false⟩ = ⟨g - 1, f, false, l, false⟩ := by unfold Tr.next; rw [if_neg (by simp)]; simp [t3]
          exact ⟨by rw [ha]; rfl, by rw [hn]; exact (HB.out).set_ 2 (.int .i64 ((g - 1 : Nat) : Int)), (Only.refl _ _).setCell _ _⟩
        · have d2 : decide ((0 : Int) < (g : Int)) = false := by simp; omega
          by_cases t4 : 0 < f
          · have d3 : decide ((0 : Int) < (f : Int)) = true := by simp; omega
            have w3 : IntKind.i64.wrap ((f : Int) - 1) = ((f - 1 : Nat) : Int) := by rw [IntKind.wrap_i64]; omega
            go_enter Try.func20, Try.ntmps20
            go_wp2
            go_ret
            have ha : Tr.ans ⟨g, f, false, l, false⟩ = 6 := by unfold Tr.ans; rw [if_neg (by simp)]; simp only; rw [if_neg t3, if_pos t4]
            have hn : Tr.next ⟨g, f, false, l, false⟩ = ⟨0, f - 1, false, l, false⟩ := by unfold Tr.next; rw [if_neg (by simp)]; simp [show g = 0 by omega]
            obtain rfl : g = 0 := by omega
            exact ⟨by rw [ha]; rfl, by rw [hn]; exact (HB.out).set_ 3 (.int .i64 ((f - 1 : Nat) : Int)), (Only.refl _ _).setCell _ _⟩
          · have d3 : decide ((0 : Int) < (f : Int)) = false := by simp; omega
            go_enter Try.func20, Try.ntmps20
            go_wp2
            go_ret
            have ha : Tr.ans ⟨g, f, false, l, false⟩ = 0 := by unfold Tr.ans; rw [if_neg (by simp)]; simp only; rw [if_neg t3, if_neg t4]
            have hn : Tr.next ⟨g, f, false, l, false⟩ = ⟨0, 0, false, l, false⟩ := by unfold Tr.next; rw [if_neg (by simp)]; simp [show g = 0 by omega, show f = 0 by omega]
            obtain rfl : g = 0 := by omega
            obtain rfl : f = 0 := by omega
            exact ⟨by rw [ha]; rfl, by rw [hn]; exact HB.out, Only.refl _ _⟩

theorem Dsk.worked {w w' : World} {gD gS gM n : Nat} {S : Nat → List Nat} {L : Nat → Option (List Nat)} {t : Tr} (h : Dsk w gD gS gM n S L t) (h1 : Blk w' gD 46 (dskV gS gM n t.next)) (h2 : Only gD w w') : Dsk w' gD gS gM n S L t.next :=
  ⟨h1, Tr.next_ok h.2.1, h.2.2.1, h.2.2.2.1.far (h2.1.block _ h.lt.2.1 (fun e => h.ne.1 (by injection e with e; exact e.symm))),
    h.2.2.2.2.1.far (h2.1.block _ h.lt.2.2 (fun e => h.ne.2.1 (by injection e with e; exact e.symm))), h.2.2.2.2.2⟩
end Go.Proofs.Ytggidgfmkidkjaa

/-! ## DiskB: The contracts of disk's New, Fail and Fuse.   Conditions: the disk is known whole. -/
namespace Go.Proofs.Ytggidgfmkidkjaa
open Go.RowKit
set_option linter.unusedVariables false

theorem Try.infoSec : (Try.prog.info? 53).map (fun i => (i.zero.map (·.cells), i.size, decide (i.bytes ≤ 100))) = some (some (zs 64), 64, true) := by kernel_rfl
/-- So many sectors' cells as made. -/
def secs0 (n : Nat) : Array Value := madeCells (zs 64) (n * 64)
theorem secs0_size (n : Nat) : (secs0 n).size = n * 64 := by simp [secs0, madeCells]
theorem secs0_at (n i : Nat) (hi : i < n * 64) : (secs0 n)[i]? = some (bv 0) := by
  unfold secs0 madeCells
  rw [Array.getElem?_map, Array.getElem?_range, if_pos hi]
  have hz : (zs 64).size = 64 := zs_size 64
  have hi' : i % (zs 64).size < (zs 64).size := Nat.mod_lt _ (by omega)
  simp only [Option.map_some]
  rw [getElem!_pos (zs 64) _ hi']
  simp [zs]
theorem make_secs (n : Nat) (hn : n ≤ 4096) (w : World) : (Instr.makeSlice 41 (.int .i64 (n : Int)) (.int .i64 (n : Int))).run Try.prog w = .ok (.slice (some ⟨w.heap.size, 0, none⟩) n n) (w.alloc (.cells (secs0 n) 53)) := by
  have h := Try.infoSec
  cases hq : Try.prog.info? 53 with
  | none => rw [hq] at h; cases h
  | some i =>
    rw [hq] at h
    simp only [Option.map_some, Option.some.injEq, Prod.mk.injEq, decide_eq_true_eq] at h
    obtain ⟨h1, h2, h3⟩ := h
    obtain ⟨z, hz, hzc⟩ := Option.map_eq_some_iff.1 h1
    have hr := run_make (P := Try.prog) w _ _ i z Try.underlying41 hq hz .i64 .i64 n n (by omega) (by omega) (by
      have : (i.bytes : Int) ≤ 100 := by omega
      have h5 : (n : Int) ≤ 4096 := by omega
      have h6 : (i.bytes : Int) * n ≤ 100 * 4096 := Int.mul_le_mul this h5 (by omega) (by omega)
      omega) (by omega)
    simp only [Int.toNat_natCast, h2, hzc] at hr
    exact hr
/-- What New leaves. -/
def DNewPost (w : World) (n : Nat) (e : Ending) (w' : World) : Prop :=
  e = .returned (.pointer (some ⟨w.heap.size + 2, 0, none⟩)) ∧ Dsk w' (w.heap.size + 2) w.heap.size (w.heap.size + 1) n (fun _ => zer) (fun _ => none) Tr.none_ ∧ Below w.heap.size w w' ∧ w'.heap.size = w.heap.size + 3
theorem new_dsk (w : World) (n : Nat) (hn : n ≤ 4096) :
    Dsk (((w.alloc (.cells (secs0 n) 53)).alloc (.map #[] 0)).alloc (.cells (dskV w.heap.size (w.heap.size + 1) n Tr.none_) 46)) (w.heap.size + 2) w.heap.size (w.heap.size + 1) n (fun _ => zer) (fun _ => none) Tr.none_ := by
  have h1 := Blk.new ((w.alloc (.cells (secs0 n) 53)).alloc (.map #[] 0)) 46 (dskV w.heap.size (w.heap.size + 1) n Tr.none_)
  have h2 : Blk (((w.alloc (.cells (secs0 n) 53)).alloc (.map #[] 0)).alloc (.cells (dskV w.heap.size (w.heap.size + 1) n Tr.none_) 46)) w.heap.size 53 (secs0 n) :=
    (Below.heap_alloc _ _ _ (by simp; omega)).trans ((Below.heap_alloc _ _ _ (by simp)).trans (Blk.new w _ _))
  have h3 := Loo.made (w.alloc (.cells (secs0 n) 53)) Try.prog 3 n
  refine ⟨by simpa using h1, Tr.none_ok, hn, ⟨secs0 n, h2, secs0_size n, fun f hf => ⟨zer_length, zer_byte, fun i hi => ?_⟩⟩, ?_, fun j xs h => by cases h⟩
  · rw [secs0_at n _ (by omega)]
    have e2 : zer.getD i 0 = 0 := by
      unfold zer
      simp only [List.getD_eq_getElem?_getD, List.getElem?_replicate, hi, if_true, Option.getD_some]
    rw [e2]
  · have h4 := h3.far (w' := ((w.alloc (.cells (secs0 n) 53)).alloc (.map #[] 0)).alloc (.cells (dskV w.heap.size (w.heap.size + 1) n Tr.none_) 46)) (Below.heap_alloc _ _ _ (by simp))
    simpa using h4

/-- As near to that as 0 to 4096 allow. -/
def NearD (k : Int) (n : Nat) : Prop := (k ≤ 0 ∧ n = 0) ∨ (4096 ≤ k ∧ n = 4096) ∨ (0 ≤ k ∧ k ≤ 4096 ∧ k = n)

set_option maxRecDepth 20000 in
set_option maxHeartbeats 400000 in
theorem dnew_any (k : Int) (n : Nat) (w : World) (h : NearD k n) : Calls Try.prog 7 #[.int .i64 k] w (DNewPost w n) := by
  have hn : n ≤ 4096 := by unfold NearD at h; omega
  have HM := Lib.hid (new_dsk w n hn)
  have HB := Lib.hid (show Below w.heap.size w (((w.alloc (.cells (secs0 n) 53)).alloc (.map #[] 0)).alloc (.cells (dskV w.heap.size (w.heap.size + 1) n Tr.none_) 46)) from
    (((Below.refl _ _).alloc (Nat.le_refl _) _).alloc (by simp) _).alloc (by simp; omega) _)
  have hmk := make_secs n hn w
  have hmm := @run_makeMap Try.prog
  unfold NearD at h
  by_cases c1 : k < 0
  · obtain rfl : n = 0 := by omega
    have hmk' : (Instr.makeSlice 41 (.int .i64 0) (.int .i64 0)).run Try.prog w = .ok (.slice (some ⟨w.heap.size, 0, none⟩) 0 0) (w.alloc (.cells (secs0 0) 53)) := hmk
    clear hmk h
    go_enter Try.func7, Try.ntmps7
    go_wp2
    go_ret
    exact ⟨rfl, HM.out, HB.out, by simp⟩
  · by_cases c2 : 4096 < k
    · obtain rfl : n = 4096 := by omega
      have hmk' : (Instr.makeSlice 41 (.int .i64 4096) (.int .i64 4096)).run Try.prog w = .ok (.slice (some ⟨w.heap.size, 0, none⟩) 4096 4096) (w.alloc (.cells (secs0 4096) 53)) := hmk
      clear hmk h
      go_enter Try.func7, Try.ntmps7
      go_wp2
      go_ret
      exact ⟨rfl, HM.out, HB.out, by simp⟩
    · obtain rfl : k = n := by omega
      clear c1 h
      go_enter Try.func7, Try.ntmps7
      go_wp2
      go_ret
      exact ⟨rfl, HM.out, HB.out, by simp⟩

/-! ### Fail, Fuse -/

/-- What a call leaves that turns what is still to come. -/
def TrPost (w : World) (gD gS gM n : Nat) (S : Nat → List Nat) (L : Nat → Option (List Nat)) (t : Tr) (e : Ending) (w' : World) : Prop :=
  e = .returned (.tuple #[]) ∧ Dsk w' gD gS gM n S L t ∧ Only gD w w'
theorem Dsk.turned {w w' : World} {gD gS gM n : Nat} {S : Nat → List Nat} {L : Nat → Option (List Nat)} {t t' : Tr} (h : Dsk w gD gS gM n S L t) (ht : t'.ok) (h1 : Blk w' gD 46 (dskV gS gM n t')) (h2 : Only gD w w') : Dsk w' gD gS gM n S L t' :=
  ⟨h1, ht, h.2.2.1, h.2.2.2.1.far (h2.1.block _ h.lt.2.1 (fun e => h.ne.1 (by injection e with e; exact e.symm))),
    h.2.2.2.2.1.far (h2.1.block _ h.lt.2.2 (fun e => h.ne.2.1 (by injection e with e; exact e.symm))), h.2.2.2.2.2⟩

set_option maxRecDepth 20000 in
set_option maxHeartbeats 400000 in
theorem fail_nil (a b : Int) (w : World) :
    Calls Try.prog 14 #[.pointer none, .int .i64 a, .int .i64 b] w fun e w' => e = .returned (.tuple #[]) ∧ w = w' := by
  go_enter Try.func14, Try.ntmps14
  go_wp2
  (try simp only [Exit.inBlock, Exit.then])
  refine bodyPost_ret (results_none rfl _ _ _) rfl ?_
  exact ⟨rfl, rfl⟩
set_option maxRecDepth 20000 in
set_option maxHeartbeats 400000 in
theorem fail_any (gD gS gM n : Nat) (S : Nat → List Nat) (L : Nat → Option (List Nat)) (t : Tr) (a b : Nat) (w : World) (h : Dsk w gD gS gM n S L t) (ha : a ≤ 9223372036854775807) (hb : b ≤ 9223372036854775807) :
    Calls Try.prog 14 #[.pointer (some ⟨gD, 0, none⟩), .int .i64 a, .int .i64 b] w (TrPost w gD gS gM n S L ⟨a, b, t.fused, t.left, t.down⟩) := by
  have HD := Lib.hid h
  have f2 := h.1.frozen 2
  have f3 := h.1.frozen 3
  have c2 : w.cell? ⟨gD, 2, none⟩ = some (.int .i64 t.good) := h.cell 2
  have c3 : w.cell? ⟨gD, 3, none⟩ = some (.int .i64 t.failed) := h.cell 3
  have d1 : decide ((a : Int) < 0) = false := decide_eq_false (by omega)
  have d2 : decide ((b : Int) < 0) = false := decide_eq_false (by omega)
  clear h
  go_enter Try.func14, Try.ntmps14
  go_wp2
  go_end0
  exact ⟨rfl, HD.out.turned ⟨ha, hb, HD.out.2.1.2.2⟩ ((HD.out.1.set_ 2 (.int .i64 (a : Nat))).set_ 3 (.int .i64 (b : Nat))) (((Only.refl _ _).setCell _ _).setCell _ _), ((Only.refl _ _).setCell _ _).setCell _ _⟩
end Go.Proofs.Ytggidgfmkidkjaa

/-! ## DiskC: The contracts of disk's Read and Write.   Conditions: the disk is known whole; what is written is read in memory. -/
namespace Go.Proofs.Ytggidgfmkidkjaa
open Go.RowKit
set_option linter.unusedVariables false

theorem make64 (w : World) : (Instr.makeSlice 22 (.int .i64 64) (.int .i64 64)).run Try.prog w = .ok (.slice (some ⟨w.heap.size, 0, none⟩) 64 64) (w.alloc (.cells (zs 64) 5)) := make_zs 64 (by omega) w
/-- A disk's blocks. -/
def dk (a b c : Nat) : Nat → Prop := fun k => k = a ∨ k = b ∨ k = c
theorem Try.zeroSec (w : World) : (zeroValue 53).run Try.prog w = .ok (.agg (zs 64)) w := by kernel_rfl
theorem Try.sizeSec : (Try.prog.info? 53).map (·.size) = some 64 := by kernel_rfl
theorem secV_zer : secV zer = .agg (zs 64) := by
  unfold secV zer zs
  rw [List.map_replicate, List.toArray_replicate]
theorem Try.zeroSecV (w : World) : (zeroValue 53).run Try.prog w = .ok (secV zer) w := by rw [secV_zer]; exact Try.zeroSec w

section
variable {w w' : World} {gD gS gM n : Nat} {S : Nat → List Nat} {L : Nat → Option (List Nat)} {t : Tr}
theorem Dsk.look (h : Dsk w gD gS gM n S L t) {f : Nat} (hf : f < n) :
    (Instr.lookup 42 (.map (some gM)) (.int .i64 (f : Int)) true).run Try.prog w = .ok (.tuple #[secV ((L f).getD zer), .bool (L f).isSome]) w :=
  h.2.2.2.2.1.run_look Try.underlying3 Try.underlying42 (Try.zeroSecV w) f (by have := h.few; omega)
theorem Dsk.range_ (h : Dsk w gD gS gM n S L t) {f : Nat} (hf : f < n) : w.rangeAt gS (f * 64) ((S f).map bv) := by
  obtain ⟨_, _, _, ⟨cur, h2, h3, h4⟩, _⟩ := h
  obtain ⟨b1, b2, b3⟩ := h4 f hf
  intro j v hv
  have hj : j < (S f).length := by
    have := (List.getElem?_eq_some_iff.1 hv).1
    simpa using this
  rw [h2.cell, b3 j (by omega)]
  simp [hj] at hv ⊢
  exact hv
theorem Dsk.there_ (h : Dsk w gD gS gM n S L t) {f : Nat} (hf : f < n) : w.there gS (f * 64) 64 := by
  obtain ⟨_, _, _, ⟨cur, h2, h3, h4⟩, _⟩ := h
  intro j hj
  obtain ⟨b1, b2, b3⟩ := h4 f hf
  exact ⟨by rw [h2.cell, b3 j hj]; rfl, h2.frozen _⟩
theorem Dsk.long (h : Dsk w gD gS gM n S L t) {f : Nat} (hf : f < n) : (S f).length = 64 ∧ ∀ y ∈ S f, y < 256 := by
  obtain ⟨_, _, _, ⟨cur, h2, h3, h4⟩, _⟩ := h
  exact ⟨(h4 f hf).1, (h4 f hf).2.1⟩
theorem Dsk.loose_ (h : Dsk w gD gS gM n S L t) {f : Nat} {xs : List Nat} (hl : L f = some xs) : xs.length = 64 ∧ (∀ y ∈ xs, y < 256) ∧ f < n :=
  ⟨(h.2.2.2.2.2 f xs hl).1, (h.2.2.2.2.2 f xs hl).2, h.2.2.2.2.1.lt Try.law hl⟩
end
/-- The bytes of a sector as they were written last. -/
def last (S : Nat → List Nat) (L : Nat → Option (List Nat)) (f : Nat) : List Nat := (L f).getD (S f)

set_option maxRecDepth 20000 in
set_option maxHeartbeats 400000 in
theorem dread_none (p : Option Addr) (f : Int) (w : World) (h : Calls Try.prog 19 #[.pointer p, .int .i64 f] w fun e w' => e = .returned (.bool false) ∧ w = w') :
    Calls Try.prog 12 #[.pointer p, .int .i64 f] w fun e w' => e = .returned (.tuple #[.slice none 0 0, .int .i64 1]) ∧ w = w' := by
  have H := Lib.hid h
  clear h
  go_enter Try.func12, Try.ntmps12
  go_wp2_with fail
  refine H.out.mono ?_
  rintro e w1 ⟨rfl, rfl⟩
  go_wp2
  go_ret2
  exact ⟨rfl, rfl⟩

/-- What a work leaves that fails. -/
def DErrPost (w : World) (gD gS gM n : Nat) (S : Nat → List Nat) (L : Nat → Option (List Nat)) (t : Tr) (v : Value) (e : Ending) (w' : World) : Prop :=
  e = .returned v ∧ Dsk w' gD gS gM n S L t.next ∧ Turns (dk gD gS gM) w w' ∧ w'.heap.size = w.heap.size
set_option maxRecDepth 20000 in
set_option maxHeartbeats 400000 in
theorem dread_bad (gD gS gM n : Nat) (S : Nat → List Nat) (L : Nat → Option (List Nat)) (t : Tr) (f : Nat) (w : World) (h : Dsk w gD gS gM n S L t) (hf : f < n) (ha : t.ans ≠ 0) :
    Calls Try.prog 12 #[.pointer (some ⟨gD, 0, none⟩), .int .i64 f] w (DErrPost w gD gS gM n S L t (.tuple #[.slice none 0 0, .int .i64 t.ans])) := by
  have HD := Lib.hid h
  have HH := Lib.hid (dhas_yes _ _ _ _ _ _ _ f w h hf)
  clear h
  have t1 : (((t.ans : Nat) : Int) != 0) = true := by rw [bne_iff_ne]; omega
  go_enter Try.func12, Try.ntmps12
  go_wp2_with fail
  refine HH.out.mono ?_
  rintro e w1 ⟨rfl, rfl⟩
  go_wp2_with fail
  refine (work_any gD gS gM n t _ HD.out.1 HD.out.2.1).mono ?_
  rintro e w1 ⟨rfl, hb, ho⟩
  have HD1 := Lib.hid (HD.out.worked hb ho)
  have HO := Lib.hid ho
  clear hb ho
  go_wp2
  go_ret2
  exact ⟨rfl, HD1.out, Turns.of_only HO.out (.inl rfl), HO.out.2⟩

/-- What Read leaves. -/
def DReadPost (w : World) (gD gS gM n : Nat) (S : Nat → List Nat) (L : Nat → Option (List Nat)) (t : Tr) (ys : List Nat) (e : Ending) (w' : World) : Prop :=
  e = .returned (.tuple #[.slice (some ⟨w.heap.size + 1, 0, none⟩) 64 64, .int .i64 0]) ∧ Blk w' (w.heap.size + 1) 5 (ys.map bv).toArray ∧ Dsk w' gD gS gM n S L t ∧ Turns (dk gD gS gM) w w' ∧ w'.heap.size = w.heap.size + 2

set_option maxRecDepth 20000 in
set_option maxHeartbeats 800000 in
theorem dread_yes (gD gS gM n : Nat) (S : Nat → List Nat) (L : Nat → Option (List Nat)) (t : Tr) (f : Nat) (w : World) (h : Dsk w gD gS gM n S L t) (hf : f < n) (ha : t.ans = 0) :
    Calls Try.prog 12 #[.pointer (some ⟨gD, 0, none⟩), .int .i64 f] w (DReadPost w gD gS gM n S L t.next (last S L f)) := by
  have HD := Lib.hid h
  have HH := Lib.hid (dhas_yes _ _ _ _ _ _ _ f w h hf)
  clear h
  go_enter Try.func12, Try.ntmps12
  go_wp2_with fail
  refine HH.out.mono ?_
  rintro e w1 ⟨rfl, rfl⟩
  go_wp2_with fail
  refine (work_any gD gS gM n t _ HD.out.1 HD.out.2.1).mono ?_
  rintro e w1 ⟨rfl, hb, ho⟩
  rw [ha]
  have HD1 := Lib.hid (HD.out.worked hb ho)
  have HO := Lib.hid ho
  clear hb ho
  have hlk := HD1.out.look hf
  have c0 : w1.cell? ⟨gD, 0, none⟩ = some (.slice (some ⟨gS, 0, none⟩) n n) := HD1.out.cell 0
  have c1 : w1.cell? ⟨gD, 1, none⟩ = some (.map (some gM)) := HD1.out.cell 1
  have hz := Try.zeroSec
  cases hL : L f with
  | some ys =>
    rw [hL] at hlk
    simp only [Option.getD_some, Option.isSome_some] at hlk
    obtain ⟨hy1, hy2, _⟩ := HD1.out.loose_ hL
    have HY1 := Lib.hid hy1
    have HY2 := Lib.hid hy2
    clear hy1 hy2
    have hmk := make64
    go_wp2_with (first
      | (refine wpList_store_blk rfl 53 (.tmp 7) (.tmp 28) rfl w1.heap.size 53 (zs 64) ys (Blk.new w1 _ _) rfl rfl (by rw [HY1.out]; exact zs_size 64) (by rw [HY1.out]; exact Try.sizeSec) ?_; intro w2 HB2 HO2; have HX2 := Lib.hid (Bts.of_whole HB2.out HY1.out (by simp [maxLen]) HY2.out))
      | (with_reducible refine wpList_copy_bts rfl (.tmp 40) (.tmp 41) 22 22 rfl 5 Try.underlying22 Try.size8 _ _ 64 64 64 64 rfl rfl w2.heap.size 0 (zs 64) 5 (Blk.new w2 _ _) (ys) w2.heap.size (HX2.out.below ((Below.refl _ _).alloc (Nat.le_refl _) _)) (by rw [HY1.out]; exact Nat.le_refl _) (fun _ => rfl) (by rw [HY1.out, zs_size]; omega) ?_; intro w9 HB9 HO9))
    go_ret2
    have hs1 : w1.heap.size = w.heap.size := HO.out.2
    have hs2 : w2.heap.size = w.heap.size + 1 := by rw [HO2.out.2]; simp [hs1]
    have hs3 : w9.heap.size = w.heap.size + 2 := by rw [HO9.out.2]; simp [hs2]
    have h3 := HB9.out
    rw [splice_zs 64 _ HY1.out, hs2] at h3
    have k1 : Turns (dk gD gS gM) w w1 := Turns.of_only HO.out (.inl rfl)
    have k2 : Turns (dk gD gS gM) w w2 := (k1.alloc _).new_ HO2.out (by omega)
    have k3 : Turns (dk gD gS gM) w w9 := (k2.alloc _).new_ HO9.out (by omega)
    have b2 : Below w1.heap.size w1 w2 := ((Below.refl _ _).alloc (Nat.le_refl _) _).trans (HO2.out.below (Nat.le_refl _) (by simp))
    have b3 : Below w2.heap.size w2 w9 := ((Below.refl _ _).alloc (Nat.le_refl _) _).trans (HO9.out.below (Nat.le_refl _) (by simp))
    refine ⟨by rw [hs2]; rfl, by unfold last; rw [hL]; exact h3, ?_, k3, hs3⟩
    exact (HD1.out.fresh b2).fresh b3
  | none =>
    rw [hL] at hlk
    simp only [Option.getD_none, Option.isSome_none] at hlk
    obtain ⟨hy1, hy2⟩ := HD1.out.long hf
    have HY1 := Lib.hid hy1
    have HY2 := Lib.hid hy2
    clear hy1 hy2
    have hmk := make64
    have hrow : Try.prog.underlying 53 = some (.array 64 5) := Try.underlying53
    have t7 : (f : Int) < (n : Int) := by omega
    have t8 : (0 : Int) ≤ (f : Int) := by omega
    go_wp2_with (first
      | (refine wpList_store_blk rfl 53 (.tmp 7) (.tmp 28) rfl w1.heap.size 53 (zs 64) zer (Blk.new w1 _ _) rfl rfl (by rw [zer_length]; exact zs_size 64) (by rw [zer_length]; exact Try.sizeSec) ?_; intro w2 HB2 HO2; have HD2 := Lib.hid (HD1.out.fresh (((Below.refl _ _).alloc (Nat.le_refl _) _).trans (HO2.out.below (Nat.le_refl _) (by simp)))); have c2 : w2.cell? ⟨gD, 0, none⟩ = some (.slice (some ⟨gS, 0, none⟩) n n) := HD2.out.cell 0)
      | (refine wpList_load_mid rfl 53 (.tmp 37) rfl gS (f * 64) rfl ((S f).map bv) _ (HD2.out.range_ hf) hrow rfl (by rw [List.length_map, HY1.out]; exact Try.sizeSec) ?_)
      | (refine wpList_store_blk rfl 53 (.tmp 7) (.tmp 38) rfl w1.heap.size 53 (zer.map bv).toArray (S f) HB2.out rfl rfl (by simp [HY1.out, zer_length]) (by rw [HY1.out]; exact Try.sizeSec) ?_; intro w3 HB3 HO3; have HX2 := Lib.hid (Bts.of_whole HB3.out HY1.out (by simp [maxLen]) HY2.out))
      | (with_reducible refine wpList_copy_bts rfl (.tmp 40) (.tmp 41) 22 22 rfl 5 Try.underlying22 Try.size8 _ _ 64 64 64 64 rfl rfl w3.heap.size 0 (zs 64) 5 (Blk.new w3 _ _) (S f) w3.heap.size (HX2.out.below ((Below.refl _ _).alloc (Nat.le_refl _) _)) (by rw [HY1.out]; exact Nat.le_refl _) (fun _ => rfl) (by rw [HY1.out, zs_size]; omega) ?_; intro w9 HB9 HO9))
    go_ret2
    have hs1 : w1.heap.size = w.heap.size := HO.out.2
    have hs2 : w3.heap.size = w.heap.size + 1 := by rw [HO3.out.2, HO2.out.2]; simp [hs1]
    have hs3 : w9.heap.size = w.heap.size + 2 := by rw [HO9.out.2]; simp [hs2]
    have h3 := HB9.out
    rw [splice_zs 64 _ HY1.out, hs2] at h3
    have k1 : Turns (dk gD gS gM) w w1 := Turns.of_only HO.out (.inl rfl)
    have k2 : Turns (dk gD gS gM) w w3 := ((k1.alloc _).new_ HO2.out (by omega)).new_ HO3.out (by omega)
    have k3 : Turns (dk gD gS gM) w w9 := (k2.alloc _).new_ HO9.out (by omega)
    have b2 : Below w1.heap.size w1 w3 := (((Below.refl _ _).alloc (Nat.le_refl _) _).trans (HO2.out.below (Nat.le_refl _) (by simp))).trans (HO3.out.below (Nat.le_refl _) (by rw [HO2.out.2]; simp))
    have b3 : Below w3.heap.size w3 w9 := ((Below.refl _ _).alloc (Nat.le_refl _) _).trans (HO9.out.below (Nat.le_refl _) (by simp))
    refine ⟨by rw [hs2]; rfl, by unfold last; rw [hL]; exact h3, ?_, k3, hs3⟩
    exact (HD1.out.fresh b2).fresh b3
end Go.Proofs.Ytggidgfmkidkjaa

/-! ## DiskD: The contract of disk's Write.   Conditions: the disk is known whole; what is written is read in memory that the work does not turn. -/
namespace Go.Proofs.Ytggidgfmkidkjaa
open Go.RowKit
set_option linter.unusedVariables false

set_option maxRecDepth 20000 in
set_option maxHeartbeats 400000 in
theorem dwrite_none (p A : Option Addr) (l c : Nat) (f : Int) (w : World) (h : Calls Try.prog 19 #[.pointer p, .int .i64 f] w fun e w' => e = .returned (.bool false) ∧ w = w') :
    Calls Try.prog 16 #[.pointer p, .int .i64 f, .slice A l c] w fun e w' => e = .returned (.int .i64 1) ∧ w = w' := by
  have H := Lib.hid h
  clear h
  go_enter Try.func16, Try.ntmps16
  go_wp2_with fail
  refine H.out.mono ?_
  rintro e w1 ⟨rfl, rfl⟩
  go_wp2
  go_ret
  exact ⟨rfl, rfl⟩
set_option maxRecDepth 20000 in
set_option maxHeartbeats 400000 in
theorem dwrite_size (p A : Option Addr) (l c : Nat) (f : Int) (w : World) (hl : l ≠ 64) (h : Calls Try.prog 19 #[.pointer p, .int .i64 f] w fun e w' => e = .returned (.bool true) ∧ w = w') :
    Calls Try.prog 16 #[.pointer p, .int .i64 f, .slice A l c] w fun e w' => e = .returned (.int .i64 1) ∧ w = w' := by
  have H := Lib.hid h
  clear h
  have t1 : (((l : Nat) : Int) != 64) = true := by rw [bne_iff_ne]; omega
  clear hl
  go_enter Try.func16, Try.ntmps16
  go_wp2_with fail
  refine H.out.mono ?_
  rintro e w1 ⟨rfl, rfl⟩
  go_wp2
  go_ret
  exact ⟨rfl, rfl⟩
set_option maxRecDepth 20000 in
set_option maxHeartbeats 400000 in
theorem dwrite_bad (gD gS gM n : Nat) (S : Nat → List Nat) (L : Nat → Option (List Nat)) (t : Tr) (f : Nat) (A : Option Addr) (c : Nat) (w : World) (h : Dsk w gD gS gM n S L t) (hf : f < n) (ha : t.ans ≠ 0) :
    Calls Try.prog 16 #[.pointer (some ⟨gD, 0, none⟩), .int .i64 f, .slice A 64 c] w (DErrPost w gD gS gM n S L t (.int .i64 t.ans)) := by
  have HD := Lib.hid h
  have HH := Lib.hid (dhas_yes _ _ _ _ _ _ _ f w h hf)
  clear h
  have t1 : (((t.ans : Nat) : Int) != 0) = true := by rw [bne_iff_ne]; omega
  go_enter Try.func16, Try.ntmps16
  go_wp2_with fail
  refine HH.out.mono ?_
  rintro e w1 ⟨rfl, rfl⟩
  go_wp2_with fail
  refine (work_any gD gS gM n t _ HD.out.1 HD.out.2.1).mono ?_
  rintro e w1 ⟨rfl, hb, ho⟩
  have HD1 := Lib.hid (HD.out.worked hb ho)
  have HO := Lib.hid ho
  clear hb ho
  go_wp2
  go_ret
  exact ⟨rfl, HD1.out, Turns.of_only HO.out (.inl rfl), HO.out.2⟩

section
variable {w w' : World} {gD gS gM n : Nat} {S : Nat → List Nat} {L : Nat → Option (List Nat)} {t : Tr}
/-- A sector becomes loose. -/
theorem Dsk.store (h : Dsk w gD gS gM n S L t) {f : Nat} (hf : f < n) {xs : List Nat} (hx : xs.length = 64) (hy : ∀ y ∈ xs, y < 256) :
    ∃ w', (Instr.mapUpdate 42 (.map (some gM)) (.int .i64 (f : Int)) (.agg (xs.map bv).toArray)).run Try.prog w = .ok () w' ∧ Dsk w' gD gS gM n S (upd L f (some xs)) t ∧ Only gM w w' := by
  obtain ⟨w', h1, h2, h3⟩ := h.2.2.2.2.1.run_store Try.underlying3 Try.underlying42 (by have := h.few; omega) f hf xs
  refine ⟨w', h1, ⟨h3.blk h.1 h.ne.2.1, h.2.1, h.2.2.1, h.2.2.2.1.far (h3.1.block _ h.lt.2.1 (fun e => h.ne.2.2 (by injection e))), h2, fun j ys hj => ?_⟩, h3⟩
  by_cases e : j = f
  · subst e
    rw [upd_same] at hj
    injection hj with hj
    subst hj
    exact ⟨hx, hy⟩
  · rw [upd_other _ _ _ e] at hj
    exact h.2.2.2.2.2 j ys hj
end

/-- What Write leaves. -/
def DWritePost (w : World) (gD gS gM n : Nat) (S : Nat → List Nat) (L : Nat → Option (List Nat)) (t : Tr) (e : Ending) (w' : World) : Prop :=
  e = .returned (.int .i64 0) ∧ Dsk w' gD gS gM n S L t ∧ Turns (dk gD gS gM) w w' ∧ w'.heap.size = w.heap.size + 1

set_option maxRecDepth 20000 in
set_option maxHeartbeats 800000 in
theorem dwrite_yes (gD gS gM n : Nat) (S : Nat → List Nat) (L : Nat → Option (List Nat)) (t : Tr) (f : Nat) (v0 : Value) (xs : List Nat) (w : World) (h : Dsk w gD gS gM n S L t) (hf : f < n) (ha : t.ans = 0)
    (hx : ∀ w', Only gD w w' → ∃ B, Bts w' B v0 xs ∧ B ≤ w.heap.size) (hl : xs.length = 64) :
    Calls Try.prog 16 #[.pointer (some ⟨gD, 0, none⟩), .int .i64 f, v0] w (DWritePost w gD gS gM n S (upd L f (some xs)) t.next) := by
  have HD := Lib.hid h
  have HH := Lib.hid (dhas_yes _ _ _ _ _ _ _ f w h hf)
  have HX := Lib.hid hx
  have HL := Lib.hid hl
  obtain ⟨B0, ⟨A0, l0, c0, rfl, hl0, -⟩, -⟩ := hx w (Only.refl _ _)
  obtain rfl : l0 = 64 := by omega
  clear h hx hl hl0
  go_enter Try.func16, Try.ntmps16
  go_wp2_with fail
  refine HH.out.mono ?_
  rintro e w1 ⟨rfl, rfl⟩
  go_wp2_with fail
  refine (work_any gD gS gM n t _ HD.out.1 HD.out.2.1).mono ?_
  rintro e w1 ⟨rfl, hb, ho⟩
  rw [ha]
  have HD1 := Lib.hid (HD.out.worked hb ho)
  have HO := Lib.hid ho
  clear hb ho
  obtain ⟨B, hx1, hB⟩ := HX.out w1 HO.out
  have HX1 := Lib.hid hx1
  have HB := Lib.hid hB
  clear hx1 hB
  have hz := Try.zeroSec
  have hq : Bts (w1.alloc (.cells (zs 64) 53)) B (.slice A0 64 c0) xs := HX1.out.below ((Below.refl _ _).alloc (by rw [HO.out.2]; exact HB.out) _)
  have HQ := Lib.hid hq
  clear hq
  go_wp2_with (with_reducible refine wpList_copy_bts rfl (.tmp 25) (.tmp 26) 22 22 rfl 5 Try.underlying22 Try.size8 _ _ 64 64 64 _ rfl rfl w1.heap.size 0 (zs 64) 53 (Blk.new w1 _ _) xs B HQ.out (by rw [HL.out]; exact Nat.le_refl _) (fun _ => rfl) (by rw [HL.out, zs_size]; omega) ?_; intro w2 HB2 HO2)
  have hb2 := HB2.out
  rw [splice_zs 64 _ HL.out] at hb2
  have HD2 := Lib.hid (HD1.out.fresh (((Below.refl _ _).alloc (Nat.le_refl _) _).trans (HO2.out.below (Nat.le_refl _) (by simp))))
  have hr2 : w2.rangeAt w1.heap.size 0 (xs.map bv) := hb2.range_
  have c1 : w2.cell? ⟨gD, 1, none⟩ = some (.map (some gM)) := HD2.out.cell 1
  have HY := Lib.hid HX1.out.byte
  obtain ⟨w3, hst, hd3, ho3⟩ := HD2.out.drew.store hf HL.out HY.out
  have HD3 := Lib.hid hd3
  have HO3 := Lib.hid ho3
  have hrow : Try.prog.underlying 53 = some (.array 64 5) := Try.underlying53
  have hsz : (Try.prog.info? 53).map (·.size) = some (xs.map bv).length := by rw [List.length_map, HL.out]; exact Try.sizeSec
  have hgM : w1.heap.size ≠ gM := by have := HD1.out.lt.2.2; omega
  have HS := Lib.hid (show w3.cell? ⟨gD, 1, none⟩ = some (.map (some gM)) ∧ w3.rangeAt w1.heap.size 0 (xs.map bv) from ⟨hd3.cell 1, (ho3.blk (w := w2.drew) hb2 hgM).range_⟩)
  clear hb2 hd3 ho3 hgM
  go_region_held3 (fun w' => w'.cell? ⟨gD, 1, none⟩ = some (.map (some gM)) ∧ w'.rangeAt w1.heap.size 0 (xs.map bv)) (first | exact HS.out | go_keep_ranges) (fail)
  go_wp2
  go_ret
  have hs1 : w1.heap.size = w.heap.size := HO.out.2
  have k1 : Turns (dk gD gS gM) w w1 := Turns.of_only HO.out (.inl rfl)
  have k2 : Turns (dk gD gS gM) w w2 := (k1.alloc _).new_ HO2.out (by omega)
  have k3 : Turns (dk gD gS gM) w w3 := k2.drew.trans (Turns.of_only HO3.out (.inr (.inr rfl)))
  exact ⟨rfl, HD3.out, k3, by rw [HO3.out.2]; show w2.heap.size = _; rw [HO2.out.2]; simp [hs1]⟩
end Go.Proofs.Ytggidgfmkidkjaa

/-! ## DiskE: The contract of disk's Flush.   Conditions: the disk is known whole. -/
namespace Go.Proofs.Ytggidgfmkidkjaa
open Go.RowKit
set_option linter.unusedVariables false

section
variable {w w' : World} {gS n : Nat} {S S' : Nat → List Nat}
theorem Sec.congr_ (h : Sec w gS n S) (he : ∀ f, f < n → S' f = S f) : Sec w gS n S' := by
  obtain ⟨cur, h1, h2, h3⟩ := h
  exact ⟨cur, h1, h2, fun f hf => by rw [he f hf]; exact h3 f hf⟩
theorem Sec.there_ (h : Sec w gS n S) {f : Nat} (hf : f < n) : w.there gS (f * 64) 64 := by
  obtain ⟨cur, h2, h3, h4⟩ := h
  intro j hj
  obtain ⟨b1, b2, b3⟩ := h4 f hf
  exact ⟨by rw [h2.cell, b3 j hj]; rfl, h2.frozen _⟩
theorem Sec.bytes (h : Sec w gS n S) {f : Nat} {ys : List Nat} (hf : f < n) (ha : ys.length ≤ 64) (hy : ∀ y ∈ ys, y < 256)
    (hx : ∀ cur, Blk w gS 53 cur → f * 64 + ys.length ≤ cur.size → ∃ cur', Blk w' gS 53 cur' ∧ Over cur cur' (f * 64) (ys.map bv)) : Sec w' gS n (upd S f (over (S f) 0 ys)) := by
  obtain ⟨cur, h2, h3, h5⟩ := h
  obtain ⟨cur', k1, k2, k3⟩ := hx cur h2 (by omega)
  refine ⟨cur', k1, by omega, fun k hk => ?_⟩
  obtain ⟨b1, b2, b3⟩ := h5 k hk
  simp only [List.length_map] at k3
  by_cases e : k = f
  · subst e
    rw [upd_same]
    have hov := over_getD (S k) 0 ys (by omega)
    refine ⟨by rw [over_length _ _ _ (by omega), b1], fun y hy' => ?_, fun i hi => ?_⟩
    · simp only [Proofs.Ytggidgfmkidkjaa.over, List.mem_append] at hy'
      rcases hy' with hy' | hy' | hy'
      · exact b2 y (List.mem_of_mem_take hy')
      · exact hy y hy'
      · exact b2 y (List.mem_of_mem_drop hy')
    · rw [k3, hov]
      by_cases c : i < ys.length
      · rw [if_pos (by omega), if_pos (by omega), show k * 64 + i - k * 64 = i - 0 by omega]
        have hj : i - 0 < ys.length := by omega
        simp only [Nat.sub_zero] at *
        simp [hj]
      · rw [if_neg (by omega), if_neg (by omega)]
        exact b3 i hi
  · rw [upd_other S f _ e]
    refine ⟨b1, b2, fun i hi => ?_⟩
    rw [k3, if_neg (by omega)]
    exact b3 i hi
theorem Sec.cells (h : Sec w gS n S) {f : Nat} {ys : List Nat} (hf : f < n) (hl : ys.length = 64) (hy : ∀ y ∈ ys, y < 256) : Sec (w.setCells gS (f * 64) (ys.map bv)) gS n (upd S f ys) := by
  have h1 := h.bytes (ys := ys) hf (by omega) hy (fun cur hc hs => Blk.setCells (ys.map bv) (f * 64) hc (by simpa using hs))
  obtain ⟨cur, _, _, h5⟩ := h
  rw [over_all _ _ (by rw [(h5 f hf).1, hl])] at h1
  exact h1
theorem Sec.drew (h : Sec w gS n S) : Sec w.drew gS n S := h
end
/-- The sectors while they are made sure. -/
def half (S : Nat → List Nat) (L : Nat → Option (List Nat)) (left : Nat → Bool) (f : Nat) : List Nat := if left f = true then S f else last S L f
theorem half_start (S : Nat → List Nat) (L : Nat → Option (List Nat)) (f : Nat) : half S L (fun j => (L j).isSome) f = S f := by
  show (if (L f).isSome = true then S f else (L f).getD (S f)) = S f
  cases L f <;> simp
theorem half_end (S : Nat → List Nat) (L : Nat → Option (List Nat)) {left : Nat → Bool} (h : ∀ j, left j = false) (f : Nat) : half S L left f = last S L f := by
  unfold half
  rw [h f]
  rfl
theorem half_step (S : Nat → List Nat) (L : Nat → Option (List Nat)) (left : Nat → Bool) {j : Nat} {xs : List Nat} (hL : L j = some xs) (f : Nat) : half S L (fun i => left i && !(i == j)) f = upd (half S L left) j xs f := by
  by_cases e : f = j
  · subst e
    rw [upd_same]
    unfold half last
    simp [hL]
  · rw [upd_other _ _ _ e]
    unfold half
    simp [e]
/-- What the region that lays a sector in reads and writes stands behind its store, too. -/
theorem lay_keeps (gD gS gb f : Nat) (u : Value) (cs : List Value) (h1 : gD ≠ gS) (h2 : gb ≠ gS) (W : World) (k1 : W.cell? ⟨gD, 0, none⟩ = some u) (k2 : W.rangeAt gb 0 cs) (k3 : W.there gS (f * 64) 64) :
    (W.setCells gS (f * 64) cs).cell? ⟨gD, 0, none⟩ = some u ∧ (W.setCells gS (f * 64) cs).rangeAt gb 0 cs ∧ (W.setCells gS (f * 64) cs).there gS (f * 64) 64 := by
  refine ⟨?_, World.rangeAt_setCells_apart k2 _ _ _ (Or.inl h2), World.there_setCells k3 _ _ _⟩
  rw [World.cell?_setCells_out _ _ _ _ _ (fun e _ => absurd e h1), k1]
/-- What holds while the sectors are made sure. -/
def FlushAt (w : World) (gD gS gM n r : Nat) (S : Nat → List Nat) (L : Nat → Option (List Nat)) (t : Tr) (wr : World) : Prop :=
  ∃ left cnt, Sec wr gS n (half S L left) ∧ Ran Try.prog 3 wr gM r n L left cnt ∧ Blk wr gD 46 (dskV gS gM n t) ∧ Turns (dk gD gS gM) w wr
/-- What Flush leaves. -/
def DFlushPost (w : World) (gD gS gM n : Nat) (S : Nat → List Nat) (L : Nat → Option (List Nat)) (t : Tr) (e : Ending) (w' : World) : Prop :=
  e = .returned (.int .i64 0) ∧ Dsk w' gD gS gM n (last S L) (fun _ => none) t ∧ Turns (dk gD gS gM) w w'

end Go.Proofs.Ytggidgfmkidkjaa

/-! ## DiskI: The contracts of disk's Fail and Fuse at any whole numbers: what lies below 0 is 0.   Conditions: the disk is known whole. -/
namespace Go.Proofs.Ytggidgfmkidkjaa
open Go.RowKit
set_option linter.unusedVariables false

/-- A number, or 0 where it lies below. -/
def PosI (z : Int) (n : Nat) : Prop := (z < 0 ∧ n = 0) ∨ z = (n : Int)
theorem PosI.exists_ (z : Int) : ∃ n, PosI z n := by
  by_cases c : z < 0
  · exact ⟨0, .inl ⟨c, rfl⟩⟩
  · exact ⟨z.toNat, .inr (by omega)⟩
theorem PosI.le {z : Int} {n : Nat} (h : PosI z n) (hz : z ≤ 9223372036854775807) : n ≤ 9223372036854775807 := by
  rcases h with ⟨_, h⟩ | h <;> omega
set_option maxRecDepth 20000 in
set_option maxHeartbeats 800000 in
theorem fail_int (gD gS gM n : Nat) (S : Nat → List Nat) (L : Nat → Option (List Nat)) (t : Tr) (x y : Int) (a b : Nat) (w : World) (h : Dsk w gD gS gM n S L t) (hx : PosI x a) (hy : PosI y b) (ha : a ≤ 9223372036854775807) (hb : b ≤ 9223372036854775807) :
    Calls Try.prog 14 #[.pointer (some ⟨gD, 0, none⟩), .int .i64 x, .int .i64 y] w (TrPost w gD gS gM n S L ⟨a, b, t.fused, t.left, t.down⟩) := by
  have HD := Lib.hid h
  have f2 := h.1.frozen 2
  have f3 := h.1.frozen 3
  have c2 : w.cell? ⟨gD, 2, none⟩ = some (.int .i64 t.good) := h.cell 2
  have c3 : w.cell? ⟨gD, 3, none⟩ = some (.int .i64 t.failed) := h.cell 3
  rcases hx with ⟨hx, rfl⟩ | rfl
  · have d1 : decide (x < 0) = true := decide_eq_true hx
    have m1 : max x 0 = 0 := by omega
    rcases hy with ⟨hy, rfl⟩ | rfl
    · have d2 : decide (y < 0) = true := decide_eq_true hy
      have m2 : max y 0 = 0 := by omega
      clear h
      go_enter Try.func14, Try.ntmps14
      go_wp2
      go_end0
      exact ⟨rfl, HD.out.turned ⟨Nat.zero_le _, Nat.zero_le _, HD.out.2.1.2.2⟩ ((HD.out.1.set_ 2 (.int .i64 (0 : Nat))).set_ 3 (.int .i64 (0 : Nat))) (((Only.refl _ _).setCell _ _).setCell _ _), ((Only.refl _ _).setCell _ _).setCell _ _⟩
    · have d2 : decide ((b : Int) < 0) = false := decide_eq_false (by omega)
      clear h
      go_enter Try.func14, Try.ntmps14
      go_wp2
      go_end0
      exact ⟨rfl, HD.out.turned ⟨Nat.zero_le _, hb, HD.out.2.1.2.2⟩ ((HD.out.1.set_ 2 (.int .i64 (0 : Nat))).set_ 3 (.int .i64 (b : Nat))) (((Only.refl _ _).setCell _ _).setCell _ _), ((Only.refl _ _).setCell _ _).setCell _ _⟩
  · have d1 : decide ((a : Int) < 0) = false := decide_eq_false (by omega)
    rcases hy with ⟨hy, rfl⟩ | rfl
    · have d2 : decide (y < 0) = true := decide_eq_true hy
      have m2 : max y 0 = 0 := by omega
      clear h
      go_enter Try.func14, Try.ntmps14
      go_wp2
      go_end0
      exact ⟨rfl, HD.out.turned ⟨ha, Nat.zero_le _, HD.out.2.1.2.2⟩ ((HD.out.1.set_ 2 (.int .i64 (a : Nat))).set_ 3 (.int .i64 (0 : Nat))) (((Only.refl _ _).setCell _ _).setCell _ _), ((Only.refl _ _).setCell _ _).setCell _ _⟩
    · exact fail_any gD gS gM n S L t a b w HD.out ha hb
end Go.Proofs.Ytggidgfmkidkjaa

/-! ## Gen: What several layers stand on: bytes with zeros behind them in a block, Put into it, the sum of one part, a disk without trouble, the first sectors as they read, lists of lists in memory.   Conditions: none beside those that each line bears. -/
namespace Go.Proofs.Ytggidgfmkidkjaa
open Go.RowKit
set_option linter.unusedVariables false

/-- Bytes behind which zeros stand. -/
def zn (xs : List Nat) (m : Nat) : List Nat := xs ++ List.replicate m 0
def cellsL (xs : List Nat) : Array Value := (xs.map bv).toArray
theorem cellsL_size (xs : List Nat) : (cellsL xs).size = xs.length := by simp [cellsL]
theorem cellsL_at (xs : List Nat) (j : Nat) (h : j < xs.length) : (cellsL xs)[j]? = some (bv (xs.getD j 0)) := by simp [cellsL, h]
theorem cellsL_ext {cs : Array Value} {xs : List Nat} (hs : cs.size = xs.length) (h : ∀ j, j < xs.length → cs[j]? = some (bv (xs.getD j 0))) : cs = cellsL xs := by
  apply Array.ext_getElem?
  intro j
  by_cases hj : j < xs.length
  · rw [h j hj, cellsL_at xs j hj]
  · rw [Array.getElem?_eq_none (by omega), Array.getElem?_eq_none (by rw [cellsL_size]; omega)]
theorem zs_cells (n : Nat) : zs n = cellsL (zn [] n) := by
  refine cellsL_ext (by simp [zs, zn]) fun j hj => ?_
  simp [zn] at hj
  simp [zs, zn, hj]
theorem getD_append_left (a b : List Nat) (j : Nat) (h : j < a.length) : (a ++ b).getD j 0 = a.getD j 0 := by
  simp only [List.getD_eq_getElem?_getD, List.getElem?_append_left h]
theorem getD_append_right (a b : List Nat) (j : Nat) (h : a.length ≤ j) : (a ++ b).getD j 0 = b.getD (j - a.length) 0 := by
  simp only [List.getD_eq_getElem?_getD, List.getElem?_append_right h]
theorem getD_zeros (m j : Nat) : (List.replicate m 0).getD j 0 = 0 := by
  simp only [List.getD_eq_getElem?_getD, List.getElem?_replicate]
  split <;> rfl
/-- A number's bytes in the place of the first zeros. -/
theorem putV_next (xs : List Nat) (p m v k : Nat) (hp : xs.length = p) (hk : k ≤ m) : putV (cellsL (zn xs m)) p v k = cellsL (zn (xs ++ numL v k) (m - k)) := by
  refine cellsL_ext (by simp [putV_size, cellsL_size, zn, numL_length]; omega) fun j hj => ?_
  simp [zn, numL_length] at hj
  rw [putV_at _ _ _ _ _ (by simp [cellsL_size, zn]; omega)]
  unfold zn
  by_cases h1 : p ≤ j ∧ j < p + k
  · rw [if_pos h1, getD_append_left _ _ _ (by simp [numL_length]; omega), getD_append_right _ _ _ (by omega), numL_getD _ _ _ (by omega), hp]
  · rw [if_neg h1, cellsL_at _ _ (by simp; omega)]
    by_cases h2 : j < p
    · rw [getD_append_left _ _ _ (by omega), getD_append_left _ _ _ (by simp [numL_length]; omega), getD_append_left _ _ _ (by omega)]
    · rw [getD_append_right _ _ _ (by omega), getD_append_right _ _ _ (by simp [numL_length]; omega), getD_zeros, getD_zeros]
theorem set_next (xs : List Nat) (p m y : Nat) (hp : xs.length = p) (hm : 0 < m) : (cellsL (zn xs m)).setIfInBounds p (bv y) = cellsL (zn (xs ++ [y]) (m - 1)) := by
  refine cellsL_ext (by simp [cellsL_size, zn]; omega) fun j hj => ?_
  simp [zn] at hj
  rw [Array.getElem?_setIfInBounds, cellsL_size]
  unfold zn
  by_cases h1 : p = j
  · subst h1
    rw [if_pos rfl, if_pos (by simp; omega), getD_append_left _ _ _ (by simp; omega), getD_append_right _ _ _ (by omega), hp, Nat.sub_self]
    rfl
  · rw [if_neg h1, cellsL_at _ _ (by simp; omega)]
    by_cases h2 : j < p
    · rw [getD_append_left _ _ _ (by omega), getD_append_left _ _ _ (by simp; omega), getD_append_left _ _ _ (by omega)]
    · rw [getD_append_right _ _ _ (by omega), getD_append_right _ _ _ (by simp; omega), getD_zeros, getD_zeros]
theorem splice_next (xs ys : List Nat) (p m : Nat) (hp : xs.length = p) (hm : ys.length ≤ m) : (splice (cellsL (zn xs m)).toList p (ys.map bv)).toArray = cellsL (zn (xs ++ ys) (m - ys.length)) := by
  unfold cellsL
  congr 1
  unfold splice zn
  rw [List.toList_toArray, List.length_map, List.map_append, List.map_append, List.map_append, List.take_left' (by simp [hp]), List.drop_append, List.drop_of_length_le (by simp; omega), List.nil_append]
  simp [hp]
theorem PutPost.only {w w' : World} {g : Nat} {t : TypeId} {cur : Array Value} (h : PutPost w w' g t cur) : Only g w w' := ⟨h.2.1, h.2.2⟩
theorem Bts.front {w : World} {B n c : Nat} {A : Option Addr} {s : List Nat} (h : Bts w B (.slice A n c) s) (k : Nat) (hk : k ≤ n) : Bts w B (.slice A k c) (s.take k) := by
  obtain ⟨A', n', c', hv, hl, hm, ⟨hnc, hA⟩, hc, hb, hx⟩ := h
  injection hv with e1 e2 e3
  subst e1 e2 e3
  have hg : ∀ j, j < k → (s.take k).getD j 0 = s.getD j 0 := by
    intro j hj
    simp only [List.getD_eq_getElem?_getD, List.getElem?_take, if_pos hj]
  refine ⟨A, k, c, rfl, by simp; omega, by omega, ⟨by omega, hA⟩, hc, fun j hj => by rw [hg j hj]; exact hb j (by omega), fun h0 => ?_⟩
  obtain ⟨b, off, h1, h2, h3⟩ := hx (by omega)
  exact ⟨b, off, h1, h2, fun j hj => by rw [hg j hj]; exact h3 j (by omega)⟩
theorem dec_eq {a b : Nat} (h : a = b) : (((a : Nat) : Int) == ((b : Nat) : Int)) = true := by simp [h]
theorem dec_ne {a b : Nat} (h : ¬ a = b) : (((a : Nat) : Int) == ((b : Nat) : Int)) = false := by simp; omega
theorem last_upd (S : Nat → List Nat) (L : Nat → Option (List Nat)) (a : Nat) (x : List Nat) : last S (upd L a (some x)) = upd (last S L) a x := by
  funext f
  unfold last upd
  split <;> rfl
theorem last_none (S : Nat → List Nat) : last S (fun _ => none) = S := rfl
/-- What is still to come behind so many works. -/
def tn (t : Tr) : Nat → Tr
  | 0 => t
  | k + 1 => (tn t k).next
theorem Try.infoB : (Try.prog.info? 22).map (fun i => (i.zero, i.size, i.bytes)) = some (some (.slice none 0 0), 1, 24) := by kernel_rfl
theorem Turns.below_ {M : Nat → Prop} {w w' w'' : World} (h : Turns M w w') (k : Below w.heap.size w' w'') : Turns M w w'' :=
  ⟨k.os.trans h.os, k.tape.trans h.tape, k.output.trans h.output, Nat.le_trans h.size k.size, fun i hi hm => (k.block i hi).trans (h.block i hi hm)⟩
theorem byte_at {s : List Nat} (h : ∀ y ∈ s, y < 256) (j : Nat) : s.getD j 0 < 256 := by
  simp only [List.getD_eq_getElem?_getD]
  cases hj : s[j]? with
  | none => simp
  | some y => simpa using h y (List.mem_of_getElem? hj)
theorem one_cell {w : World} {g : Nat} {v : Value} (h : w.cell? ⟨g, 0, none⟩ = some v) : ∀ (j : Nat) (u : Value), [v][j]? = some u → w.cell? ((⟨g, 0, none⟩ : Addr).add j) = some u := by
  intro j u hj
  match j, hj with
  | 0, hj =>
    simp at hj
    subst hj
    simpa [Addr.add] using h
theorem Dsk.last_ {w : World} {gD gS gM n : Nat} {S : Nat → List Nat} {L : Nat → Option (List Nat)} {t : Tr} (h : Dsk w gD gS gM n S L t) {f : Nat} (hf : f < n) : (last S L f).length = 64 ∧ ∀ y ∈ last S L f, y < 256 := by
  unfold last
  cases hL : L f with
  | some xs => exact ⟨(h.loose_ hL).1, (h.loose_ hL).2.1⟩
  | none => exact h.long hf
theorem none_ans : Tr.none_.ans = 0 := rfl
theorem none_next : Tr.none_.next = Tr.none_ := rfl
theorem tn_none (k : Nat) : tn Tr.none_ k = Tr.none_ := by
  induction k with
  | zero => rfl
  | succ k ih => rw [tn, ih, none_next]
/-- The first k sectors as they read. -/
def firsts (F : Nat → List Nat) (k : Nat) : List (List Nat) := (List.range k).map F
theorem firsts_length (F : Nat → List Nat) (k : Nat) : (firsts F k).length = k := by simp [firsts]
theorem firsts_succ (F : Nat → List Nat) (k : Nat) : firsts F (k + 1) = firsts F k ++ [F k] := by simp [firsts, List.range_succ]
theorem firsts_getD (F : Nat → List Nat) (k j : Nat) (h : j < k) : (firsts F k).getD j [] = F j := by simp [firsts, h]
/-- A disk's blocks are new: nothing that was there turns. -/
theorem Turns.fresh_ {B gD gS gM : Nat} {w0 w w' : World} (h : Turns (dk gD gS gM) w w') (hb : Below B w0 w) (hB : B ≤ w0.heap.size) (h1 : B ≤ gD) (h2 : B ≤ gS) (h3 : B ≤ gM) : Below B w0 w' :=
  hb.trans (h.below (by rintro k (e | e | e) <;> omega) (Nat.le_trans hB hb.size))
theorem Bts.cut {w : World} {B b off n c : Nat} {s : List Nat} (h : Bts w B (.slice (some ⟨b, off, none⟩) n c) s) {a k c' : Nat} (ha : a + k ≤ n) (hk : k ≤ c') (hc' : c' ≤ maxLen) : Bts w B (.slice (some ⟨b, off + a, none⟩) k c') (win s a k) := by
  obtain ⟨A', n', c1, hv, hl, hm, ⟨hnc, hA⟩, hc, hb, hx⟩ := h
  injection hv with e1 e2 e3
  subst e1 e2 e3
  have hg := fun j (hj : j < k) => win_getD s a k j hj
  refine ⟨_, k, c', rfl, win_length _ _ _ (by omega), by omega, ⟨hk, fun h => by cases h⟩, hc', fun j hj => by rw [hg j hj]; exact hb _ (by omega), fun h0 => ?_⟩
  obtain ⟨b', off', h1, h2, h3⟩ := hx (by omega)
  injection h1 with h1
  injection h1 with h1 h1' _
  subst h1 h1'
  exact ⟨_, _, rfl, h2, fun j hj => by rw [hg j hj, Nat.add_assoc]; exact h3 _ (by omega)⟩
theorem Pts.at_ {w : World} {b off N c : Nat} {xss : List (List Nat)} (h : Pts w (.slice (some ⟨b, off, none⟩) N c) xss) {j : Nat} (hj : j < xss.length) : ∃ u, w.cell? ⟨b, off + j, none⟩ = some u ∧ Bts w w.heap.size u (xss.getD j []) := by
  obtain ⟨b', off', c', u, e, _, h1, h2⟩ := h.get hj
  injection e with e _ _
  injection e with e
  injection e with e1 e2 _
  subst e1 e2
  exact ⟨u, h1, h2⟩
theorem Pts.addr {w : World} {A : Option Addr} {N c : Nat} {xss : List (List Nat)} (h : Pts w (.slice A N c) xss) (hN : 0 < N) : ∃ b off, A = some ⟨b, off, none⟩ := by
  obtain ⟨A', N', c', e, _, _, _, h1⟩ := h
  injection e with e1 e2 e3
  subst e1 e2
  obtain ⟨b, off, h2, _⟩ := h1 hN
  exact ⟨b, off, h2⟩
/-- The disk's blocks lie below. -/
theorem dk_lt {w wx : World} {n : Nat} {S : Nat → List Nat} {L : Nat → Option (List Nat)} {t : Tr} (h : Dsk wx (w.heap.size + 2) w.heap.size (w.heap.size + 1) n S L t) : ∀ q, dk (w.heap.size + 2) w.heap.size (w.heap.size + 1) q → q < wx.heap.size := by
  have := h.lt
  rintro q (e | e | e) <;> omega
theorem dk_base (w : World) : ∀ q, dk (w.heap.size + 2) w.heap.size (w.heap.size + 1) q → q < w.heap.size + 3 := by
  rintro q (e | e | e) <;> omega
theorem dk_lo (w : World) : ∀ q, dk (w.heap.size + 2) w.heap.size (w.heap.size + 1) q → w.heap.size ≤ q := by
  rintro q (e | e | e) <;> omega
end Go.Proofs.Ytggidgfmkidkjaa

/-! ## Once: A disk that fails once: what each work answers, and what is to come.   Conditions: none. -/
namespace Go.Proofs.Ytggidgfmkidkjaa
open Go.RowKit
set_option linter.unusedVariables false

/-- A disk that fails once: what is to come behind j works. -/
theorem tn_once (a j : Nat) : tn ⟨a, 1, false, 0, false⟩ j = ⟨a - j, if j ≤ a then 1 else 0, false, 0, false⟩ := by
  induction j with
  | zero => simp [tn]
  | succ j ih =>
    rw [tn, ih]
    unfold Tr.next
    rw [if_neg (by simp)]
    by_cases c : j < a
    · have c1 : 0 < a - j := by omega
      have c2 : j ≤ a := by omega
      have c3 : j + 1 ≤ a := by omega
      simp [c1, c2, c3]
      omega
    · have c1 : a - j = 0 := by omega
      have c3 : ¬ j + 1 ≤ a := by omega
      by_cases c4 : j = a
      · subst c4
        simp
      · have c2 : ¬ j ≤ a := by omega
        simp [c1, c2, c3]
        omega
theorem ans_once (a j : Nat) : (tn ⟨a, 1, false, 0, false⟩ j).ans = if j = a then 6 else 0 := by
  rw [tn_once]
  unfold Tr.ans
  rw [if_neg (by simp)]
  by_cases c : j = a
  · subst c
    simp
  · by_cases c1 : j < a
    · have : 0 < a - j := by omega
      simp [c, this]
    · have c2 : a - j = 0 := by omega
      have c3 : ¬ j ≤ a := by omega
      simp [c, c2, c3]
theorem once_done (a : Nat) : tn ⟨a, 1, false, 0, false⟩ (a + 1) = Tr.none_ := by
  rw [tn_once]
  simp [Tr.none_]
end Go.Proofs.Ytggidgfmkidkjaa

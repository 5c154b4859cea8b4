/-
  The contracts of disk's Sectors, has, work, Fail, Fuse and New.
  Conditions: the disk is known whole.
-/
import Derived.Test.YtckabekimdcdcaaU8
import Derived.Test.YtckabekimdcdcaaLoo
import Derived.WalkKit
import Derived.WalkSpells
import Derived.WalkLawsBesides
import Derived.Laws.MakeOwn
import Derived.Lib.Hide
import Derived.BigQuiet
import Derived.Outline
namespace Go.Proofs.Ytckabekimdcdcaa
open Go.RowKit
set_option linter.unusedVariables false

/-- What is still to come of Fail and Fuse. -/
structure Tr where
  good : Nat
  failed : Nat
  fused : Bool
  left : Nat
  down : Bool
def Tr.none_ : Tr := ⟨0, 0, false, 0, false⟩
def Tr.ok (t : Tr) : Prop := t.good ≤ 9223372036854775807 ∧ t.failed ≤ 9223372036854775807 ∧ t.left ≤ 9223372036854775807
/-- What one work answers, and what is still to come behind it. -/
def Tr.ans (t : Tr) : Nat :=
  if t.down = true ∨ (t.fused = true ∧ t.left = 0) then 9 else if 0 < t.good then 0 else if 0 < t.failed then 6 else 0
def Tr.next (t : Tr) : Tr :=
  if t.down = true ∨ (t.fused = true ∧ t.left = 0) then ⟨t.good, t.failed, t.fused, t.left, true⟩
  else ⟨t.good - 1, if 0 < t.good then t.failed else t.failed - 1, t.fused, if t.fused = true then t.left - 1 else t.left, t.down⟩
theorem Tr.next_ok {t : Tr} (h : t.ok) : t.next.ok := by
  unfold Tr.ok Tr.next at *
  split
  · exact h
  · refine ⟨by simp only; omega, ?_, ?_⟩ <;> simp only <;> split <;> omega
theorem Tr.none_ok : Tr.none_.ok := ⟨by simp [Tr.none_], by simp [Tr.none_], by simp [Tr.none_]⟩

/-- The disk's own cells. -/
def dskV (gS gM n : Nat) (t : Tr) : Array Value :=
  #[.slice (some ⟨gS, 0, none⟩) n n, .map (some gM), .int .i64 t.good, .int .i64 t.failed, .bool t.fused, .int .i64 t.left, .bool t.down]

/-- n sectors in block gS: S. -/
def Sec (w : World) (gS n : Nat) (S : Nat → List Nat) : Prop :=
  ∃ cur, Blk w gS 74 cur ∧ cur.size = n * 64 ∧ ∀ f, f < n → (S f).length = 64 ∧ (∀ y ∈ S f, y < 256) ∧ ∀ i, i < 64 → cur[f * 64 + i]? = some (bv ((S f).getD i 0))

/-- The disk in blocks gD, gS and gM: n sectors, the sure bytes of each, those that are loose, and what is still to come of Fail and Fuse. -/
def Dsk (w : World) (gD gS gM n : Nat) (S : Nat → List Nat) (L : Nat → Option (List Nat)) (t : Tr) : Prop :=
  Blk w gD 62 (dskV gS gM n t) ∧ t.ok ∧ n ≤ 4096 ∧ Sec w gS n S ∧ Loo Try.prog 3 w gM n L ∧ ∀ j xs, L j = some xs → xs.length = 64 ∧ ∀ y ∈ xs, y < 256

theorem Try.law : Maps.Keyed Try.prog 3 := Maps.int_keyed Try.underlying3

section
variable {w w' : World} {gD gS gM n : Nat} {S : Nat → List Nat} {L : Nat → Option (List Nat)} {t : Tr}
theorem Sec.far (h : Sec w gS n S) (hb : w'.heap[gS]? = w.heap[gS]?) : Sec w' gS n S := by
  obtain ⟨cur, h1, h2⟩ := h
  exact ⟨cur, hb.trans h1, h2⟩
theorem Sec.lt (h : Sec w gS n S) : gS < w.heap.size := by
  obtain ⟨cur, h1, h2⟩ := h
  exact h1.lt
theorem Dsk.lt (h : Dsk w gD gS gM n S L t) : gD < w.heap.size ∧ gS < w.heap.size ∧ gM < w.heap.size := ⟨h.1.lt, h.2.2.2.1.lt, h.2.2.2.2.1.blk⟩
theorem Dsk.ne (h : Dsk w gD gS gM n S L t) : gD ≠ gS ∧ gD ≠ gM ∧ gS ≠ gM := by
  obtain ⟨h1, _, _, ⟨cur, h2, _⟩, h3, _⟩ := h
  obtain ⟨es, clock, h4⟩ := h3.map_
  unfold Blk at h1 h2
  refine ⟨?_, ?_, ?_⟩
  · rintro rfl
    rw [h1] at h2
    injection h2 with h2
    injection h2 with _ ht
    exact absurd ht (by decide)
  · rintro rfl
    rw [h1] at h4
    cases h4
  · rintro rfl
    rw [h2] at h4
    cases h4
theorem Dsk.far (h : Dsk w gD gS gM n S L t) (h1 : w'.heap[gD]? = w.heap[gD]?) (h2 : w'.heap[gS]? = w.heap[gS]?) (h3 : w'.heap[gM]? = w.heap[gM]?) : Dsk w' gD gS gM n S L t :=
  ⟨h1.trans h.1, h.2.1, h.2.2.1, h.2.2.2.1.far h2, h.2.2.2.2.1.far h3, h.2.2.2.2.2⟩
theorem Dsk.below (h : Dsk w gD gS gM n S L t) {B : Nat} (hb : Below B w w') (h1 : gD < B) (h2 : gS < B) (h3 : gM < B) : Dsk w' gD gS gM n S L t :=
  h.far (hb.block _ h1) (hb.block _ h2) (hb.block _ h3)
theorem Dsk.fresh (h : Dsk w gD gS gM n S L t) (hb : Below w.heap.size w w') : Dsk w' gD gS gM n S L t := h.below hb h.lt.1 h.lt.2.1 h.lt.2.2
theorem Dsk.alloc (h : Dsk w gD gS gM n S L t) (o : Obj) : Dsk (w.alloc o) gD gS gM n S L t := h.fresh ((Below.refl _ _).alloc (Nat.le_refl _) _)
theorem Dsk.drew (h : Dsk w gD gS gM n S L t) : Dsk w.drew gD gS gM n S L t := h
theorem Dsk.cell (h : Dsk w gD gS gM n S L t) (i : Nat) : w.cell? ⟨gD, i, none⟩ = (dskV gS gM n t)[i]? := h.1.cell i
theorem Dsk.few (h : Dsk w gD gS gM n S L t) : n ≤ 4096 := h.2.2.1
end

set_option maxRecDepth 20000 in
set_option maxHeartbeats 400000 in
theorem sectors_any (gD gS gM n : Nat) (S : Nat → List Nat) (L : Nat → Option (List Nat)) (t : Tr) (w : World) (h : Dsk w gD gS gM n S L t) :
    Calls Try.prog 42 #[.pointer (some ⟨gD, 0, none⟩)] w fun e w' => e = .returned (.int .i64 n) ∧ w = w' := by
  have hc : w.cell? ⟨gD, 0, none⟩ = some (.slice (some ⟨gS, 0, none⟩) n n) := h.cell 0
  clear h
  go_enter Try.func42, Try.ntmps42
  go_wp2
  go_ret
  exact ⟨rfl, rfl⟩
set_option maxRecDepth 20000 in
set_option maxHeartbeats 400000 in
theorem sectors_nil (w : World) :
    Calls Try.prog 42 #[.pointer none] w fun e w' => e = .returned (.int .i64 0) ∧ w = w' := by
  go_enter Try.func42, Try.ntmps42
  go_wp2
  go_ret
  exact ⟨rfl, rfl⟩

set_option maxRecDepth 20000 in
set_option maxHeartbeats 400000 in
theorem dhas_yes (gD gS gM n : Nat) (S : Nat → List Nat) (L : Nat → Option (List Nat)) (t : Tr) (f : Nat) (w : World) (h : Dsk w gD gS gM n S L t) (hf : f < n) :
    Calls Try.prog 28 #[.pointer (some ⟨gD, 0, none⟩), .int .i64 f] w fun e w' => e = .returned (.bool true) ∧ w = w' := by
  have HF := Lib.hid (sectors_any _ _ _ _ _ _ _ w h)
  clear h
  have h1 : (f : Int) < (n : Int) := by omega
  have h2 : (0 : Int) ≤ (f : Int) := by omega
  go_enter Try.func28, Try.ntmps28
  go_wp2_with fail
  refine HF.out.mono ?_
  rintro e w1 ⟨rfl, rfl⟩
  go_wp2
  go_ret
  exact ⟨rfl, rfl⟩
set_option maxRecDepth 20000 in
set_option maxHeartbeats 400000 in
theorem dhas_no (gD gS gM n : Nat) (S : Nat → List Nat) (L : Nat → Option (List Nat)) (t : Tr) (f : Int) (w : World) (h : Dsk w gD gS gM n S L t) (hf : f < 0 ∨ (n : Int) ≤ f) :
    Calls Try.prog 28 #[.pointer (some ⟨gD, 0, none⟩), .int .i64 f] w fun e w' => e = .returned (.bool false) ∧ w = w' := by
  have HF := Lib.hid (sectors_any _ _ _ _ _ _ _ w h)
  clear h
  by_cases h0 : f < 0
  · clear hf
    go_enter Try.func28, Try.ntmps28
    go_wp2_with fail
    go_ret
    exact ⟨rfl, rfl⟩
  · have h1 : (n : Int) ≤ f := by omega
    have h2 : 0 ≤ f := by omega
    have h3 : decide (f < (n : Int)) = false := by simp; omega
    clear hf h0
    go_enter Try.func28, Try.ntmps28
    go_wp2_with fail
    refine HF.out.mono ?_
    rintro e w1 ⟨rfl, rfl⟩
    go_wp2
    go_ret
    exact ⟨rfl, rfl⟩
set_option maxRecDepth 20000 in
set_option maxHeartbeats 400000 in
theorem dhas_nil (f : Int) (w : World) :
    Calls Try.prog 28 #[.pointer none, .int .i64 f] w fun e w' => e = .returned (.bool false) ∧ w = w' := by
  have HF := Lib.hid (sectors_nil w)
  by_cases h0 : f < 0
  · go_enter Try.func28, Try.ntmps28
    go_wp2_with fail
    go_ret
    exact ⟨rfl, rfl⟩
  · have h2 : 0 ≤ f := by omega
    have h3 : decide (f < 0) = false := by simp; omega
    clear h0
    go_enter Try.func28, Try.ntmps28
    go_wp2_with fail
    refine HF.out.mono ?_
    rintro e w1 ⟨rfl, rfl⟩
    go_wp2
    go_ret
    exact ⟨rfl, rfl⟩

/-! ### work -/

/-- What work leaves. -/
def WorkPost (w : World) (gD gS gM n : Nat) (t : Tr) (e : Ending) (w' : World) : Prop :=
  e = .returned (.int .i64 t.ans) ∧ Blk w' gD 62 (dskV gS gM n t.next) ∧ Only gD w w'

theorem dskV_set (gS gM n : Nat) (g f : Nat) (fu : Bool) (l : Nat) (d : Bool) :
    (∀ v, (dskV gS gM n ⟨g, f, fu, l, d⟩).setIfInBounds 2 (.int .i64 (v : Nat)) = dskV gS gM n ⟨v, f, fu, l, d⟩) ∧
    (∀ v, (dskV gS gM n ⟨g, f, fu, l, d⟩).setIfInBounds 3 (.int .i64 (v : Nat)) = dskV gS gM n ⟨g, v, fu, l, d⟩) ∧
    (∀ v, (dskV gS gM n ⟨g, f, fu, l, d⟩).setIfInBounds 4 (.bool v) = dskV gS gM n ⟨g, f, v, l, d⟩) ∧
    (∀ v, (dskV gS gM n ⟨g, f, fu, l, d⟩).setIfInBounds 5 (.int .i64 (v : Nat)) = dskV gS gM n ⟨g, f, fu, v, d⟩) ∧
    ∀ v, (dskV gS gM n ⟨g, f, fu, l, d⟩).setIfInBounds 6 (.bool v) = dskV gS gM n ⟨g, f, fu, l, v⟩ :=
  ⟨fun _ => rfl, fun _ => rfl, fun _ => rfl, fun _ => rfl, fun _ => rfl⟩

set_option maxRecDepth 20000 in
set_option maxHeartbeats 1600000 in
theorem work_any (gD gS gM n : Nat) (t : Tr) (w : World) (h : Blk w gD 62 (dskV gS gM n t)) (ht : t.ok) :
    Calls Try.prog 29 #[.pointer (some ⟨gD, 2, none⟩)] w (WorkPost w gD gS gM n t) := by
  obtain ⟨g, f, fu, l, d⟩ := t
  have HB := Lib.hid h
  obtain ⟨hg, hf, hl⟩ := ht
  simp only at hg hf hl
  have c2 : w.cell? ⟨gD, 2, none⟩ = some (.int .i64 g) := h.cell 2
  have c3 : w.cell? ⟨gD, 3, none⟩ = some (.int .i64 f) := h.cell 3
  have c4 : w.cell? ⟨gD, 4, none⟩ = some (.bool fu) := h.cell 4
  have c5 : w.cell? ⟨gD, 5, none⟩ = some (.int .i64 l) := h.cell 5
  have c6 : w.cell? ⟨gD, 6, none⟩ = some (.bool d) := h.cell 6
  have f2 := h.frozen 2
  have f3 := h.frozen 3
  have f5 := h.frozen 5
  have f6 := h.frozen 6
  clear h
  cases d with
  | true =>
    go_enter Try.func29, Try.ntmps29
    go_wp2
    go_ret
    exact ⟨rfl, by simpa [dskV, Tr.next] using HB.out.set_ 6 (.bool true), (Only.refl _ _).setCell _ _⟩
  | false =>
    by_cases t1 : fu = true ∧ l = 0
    · obtain ⟨rfl, rfl⟩ := t1
      go_enter Try.func29, Try.ntmps29
      go_wp2
      go_ret
      exact ⟨rfl, by simpa [dskV, Tr.next] using HB.out.set_ 6 (.bool true), (Only.refl _ _).setCell _ _⟩
    · by_cases t2 : fu = true
      · subst t2
        have t0 : 0 < l := by
          rcases Nat.eq_zero_or_pos l with h | h
          · exact absurd ⟨rfl, h⟩ t1
          · exact h
        clear t1
        have d5 : decide ((l : Int) = 0) = false := by simp; omega
        have w5 : IntKind.i64.wrap ((l : Int) - 1) = ((l - 1 : Nat) : Int) := by rw [IntKind.wrap_i64]; omega
        by_cases t3 : 0 < g
        · have d2 : decide ((0 : Int) < (g : Int)) = true := by simp; omega
          have w2 : IntKind.i64.wrap ((g : Int) - 1) = ((g - 1 : Nat) : Int) := by rw [IntKind.wrap_i64]; omega
          go_enter Try.func29, Try.ntmps29
          go_wp2
          go_ret
          have ha : Tr.ans ⟨g, f, true, l, false⟩ = 0 := by unfold Tr.ans; rw [if_neg (by simp; omega)]; simp only; rw [if_pos t3]
          have hn : Tr.next ⟨g, f, true, l, false⟩ = ⟨g - 1, f, true, l - 1, false⟩ := by unfold Tr.next; rw [if_neg (by simp; omega)]; simp [t3]
          exact ⟨by rw [ha]; rfl, by rw [hn]; exact ((HB.out).set_ 5 (.int .i64 ((l - 1 : Nat) : Int))).set_ 2 (.int .i64 ((g - 1 : Nat) : Int)), ((Only.refl _ _).setCell _ _).setCell _ _⟩
        · have d2 : decide ((0 : Int) < (g : Int)) = false := by simp; omega
          by_cases t4 : 0 < f
          · have d3 : decide ((0 : Int) < (f : Int)) = true := by simp; omega
            have w3 : IntKind.i64.wrap ((f : Int) - 1) = ((f - 1 : Nat) : Int) := by rw [IntKind.wrap_i64]; omega
            go_enter Try.func29, Try.ntmps29
            go_wp2
            go_ret
            have ha : Tr.ans ⟨g, f, true, l, false⟩ = 6 := by unfold Tr.ans; rw [if_neg (by simp; omega)]; simp only; rw [if_neg t3, if_pos t4]
            have hn : Tr.next ⟨g, f, true, l, false⟩ = ⟨0, f - 1, true, l - 1, false⟩ := by unfold Tr.next; rw [if_neg (by simp; omega)]; simp [show g = 0 by omega]
            obtain rfl : g = 0 := by omega
            exact ⟨by rw [ha]; rfl, by rw [hn]; exact ((HB.out).set_ 5 (.int .i64 ((l - 1 : Nat) : Int))).set_ 3 (.int .i64 ((f - 1 : Nat) : Int)), ((Only.refl _ _).setCell _ _).setCell _ _⟩
          · have d3 : decide ((0 : Int) < (f : Int)) = false := by simp; omega
            go_enter Try.func29, Try.ntmps29
            go_wp2
            go_ret
            have ha : Tr.ans ⟨g, f, true, l, false⟩ = 0 := by unfold Tr.ans; rw [if_neg (by simp; omega)]; simp only; rw [if_neg t3, if_neg t4]
            have hn : Tr.next ⟨g, f, true, l, false⟩ = ⟨0, 0, true, l - 1, false⟩ := by unfold Tr.next; rw [if_neg (by simp; omega)]; simp [show g = 0 by omega, show f = 0 by omega]
            obtain rfl : g = 0 := by omega
            obtain rfl : f = 0 := by omega
            exact ⟨by rw [ha]; rfl, by rw [hn]; exact (HB.out).set_ 5 (.int .i64 ((l - 1 : Nat) : Int)), (Only.refl _ _).setCell _ _⟩
      · obtain rfl : fu = false := by simpa using t2
        clear t1 t2
        by_cases t3 : 0 < g
        · have d2 : decide ((0 : Int) < (g : Int)) = true := by simp; omega
          have w2 : IntKind.i64.wrap ((g : Int) - 1) = ((g - 1 : Nat) : Int) := by rw [IntKind.wrap_i64]; omega
          go_enter Try.func29, Try.ntmps29
          go_wp2
          go_ret
          have ha : Tr.ans ⟨g, f, false, l, false⟩ = 0 := by unfold Tr.ans; rw [if_neg (by simp)]; simp only; rw [if_pos t3]
          have hn : Tr.next ⟨g, f, false, l, false⟩ = ⟨g - 1, f, false, l, false⟩ := by unfold Tr.next; rw [if_neg (by simp)]; simp [t3]
          exact ⟨by rw [ha]; rfl, by rw [hn]; exact (HB.out).set_ 2 (.int .i64 ((g - 1 : Nat) : Int)), (Only.refl _ _).setCell _ _⟩
        · have d2 : decide ((0 : Int) < (g : Int)) = false := by simp; omega
          by_cases t4 : 0 < f
          · have d3 : decide ((0 : Int) < (f : Int)) = true := by simp; omega
            have w3 : IntKind.i64.wrap ((f : Int) - 1) = ((f - 1 : Nat) : Int) := by rw [IntKind.wrap_i64]; omega
            go_enter Try.func29, Try.ntmps29
            go_wp2
            go_ret
            have ha : Tr.ans ⟨g, f, false, l, false⟩ = 6 := by unfold Tr.ans; rw [if_neg (by simp)]; simp only; rw [if_neg t3, if_pos t4]
            have hn : Tr.next ⟨g, f, false, l, false⟩ = ⟨0, f - 1, false, l, false⟩ := by unfold Tr.next; rw [if_neg (by simp)]; simp [show g = 0 by omega]
            obtain rfl : g = 0 := by omega
            exact ⟨by rw [ha]; rfl, by rw [hn]; exact (HB.out).set_ 3 (.int .i64 ((f - 1 : Nat) : Int)), (Only.refl _ _).setCell _ _⟩
          · have d3 : decide ((0 : Int) < (f : Int)) = false := by simp; omega
            go_enter Try.func29, Try.ntmps29
            go_wp2
            go_ret
            have ha : Tr.ans ⟨g, f, false, l, false⟩ = 0 := by unfold Tr.ans; rw [if_neg (by simp)]; simp only; rw [if_neg t3, if_neg t4]
            have hn : Tr.next ⟨g, f, false, l, false⟩ = ⟨0, 0, false, l, false⟩ := by unfold Tr.next; rw [if_neg (by simp)]; simp [show g = 0 by omega, show f = 0 by omega]
            obtain rfl : g = 0 := by omega
            obtain rfl : f = 0 := by omega
            exact ⟨by rw [ha]; rfl, by rw [hn]; exact HB.out, Only.refl _ _⟩

theorem Dsk.worked {w w' : World} {gD gS gM n : Nat} {S : Nat → List Nat} {L : Nat → Option (List Nat)} {t : Tr} (h : Dsk w gD gS gM n S L t) (h1 : Blk w' gD 62 (dskV gS gM n t.next)) (h2 : Only gD w w') : Dsk w' gD gS gM n S L t.next :=
  ⟨h1, Tr.next_ok h.2.1, h.2.2.1, h.2.2.2.1.far (h2.1.block _ h.lt.2.1 (fun e => h.ne.1 (by injection e with e; exact e.symm))),
    h.2.2.2.2.1.far (h2.1.block _ h.lt.2.2 (fun e => h.ne.2.1 (by injection e with e; exact e.symm))), h.2.2.2.2.2⟩
end Go.Proofs.Ytckabekimdcdcaa

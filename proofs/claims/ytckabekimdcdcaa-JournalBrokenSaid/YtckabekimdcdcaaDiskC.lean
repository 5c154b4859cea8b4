/-
  The contracts of disk's Read and Write.
  Conditions: the disk is known whole; what is written is read in memory.
-/
import Derived.Test.YtckabekimdcdcaaDiskB
import Derived.Deep.MidRow
import Derived.Deep.RegionHeld3
import Derived.Deep.DrawnRows
import Derived.Lib.SliceRun
namespace Go.Proofs.Ytckabekimdcdcaa
open Go.RowKit
set_option linter.unusedVariables false

theorem make64 (w : World) : (Instr.makeSlice 27 (.int .i64 64) (.int .i64 64)).run Try.prog w = .ok (.slice (some ⟨w.heap.size, 0, none⟩) 64 64) (w.alloc (.cells (zs 64) 5)) := make_zs 64 (by omega) w
/-- A disk's blocks. -/
def dk (a b c : Nat) : Nat → Prop := fun k => k = a ∨ k = b ∨ k = c
theorem Try.zeroSec (w : World) : (zeroValue 74).run Try.prog w = .ok (.agg (zs 64)) w := by kernel_rfl
theorem Try.sizeSec : (Try.prog.info? 74).map (·.size) = some 64 := by kernel_rfl
theorem secV_zer : secV zer = .agg (zs 64) := by
  unfold secV zer zs
  rw [List.map_replicate, List.toArray_replicate]
theorem Try.zeroSecV (w : World) : (zeroValue 74).run Try.prog w = .ok (secV zer) w := by rw [secV_zer]; exact Try.zeroSec w

section
variable {w w' : World} {gD gS gM n : Nat} {S : Nat → List Nat} {L : Nat → Option (List Nat)} {t : Tr}
theorem Dsk.look (h : Dsk w gD gS gM n S L t) {f : Nat} (hf : f < n) :
    (Instr.lookup 58 (.map (some gM)) (.int .i64 (f : Int)) true).run Try.prog w = .ok (.tuple #[secV ((L f).getD zer), .bool (L f).isSome]) w :=
  h.2.2.2.2.1.run_look Try.underlying3 Try.underlying58 (Try.zeroSecV w) f (by have := h.few; omega)
theorem Dsk.range_ (h : Dsk w gD gS gM n S L t) {f : Nat} (hf : f < n) : w.rangeAt gS (f * 64) ((S f).map bv) := by
  obtain ⟨_, _, _, ⟨cur, h2, h3, h4⟩, _⟩ := h
  obtain ⟨b1, b2, b3⟩ := h4 f hf
  intro j v hv
  have hj : j < (S f).length := by
    have := (List.getElem?_eq_some_iff.1 hv).1
    simpa using this
  rw [h2.cell, b3 j (by omega)]
  simp [hj] at hv ⊢
  exact hv
theorem Dsk.there_ (h : Dsk w gD gS gM n S L t) {f : Nat} (hf : f < n) : w.there gS (f * 64) 64 := by
  obtain ⟨_, _, _, ⟨cur, h2, h3, h4⟩, _⟩ := h
  intro j hj
  obtain ⟨b1, b2, b3⟩ := h4 f hf
  exact ⟨by rw [h2.cell, b3 j hj]; rfl, h2.frozen _⟩
theorem Dsk.long (h : Dsk w gD gS gM n S L t) {f : Nat} (hf : f < n) : (S f).length = 64 ∧ ∀ y ∈ S f, y < 256 := by
  obtain ⟨_, _, _, ⟨cur, h2, h3, h4⟩, _⟩ := h
  exact ⟨(h4 f hf).1, (h4 f hf).2.1⟩
theorem Dsk.loose_ (h : Dsk w gD gS gM n S L t) {f : Nat} {xs : List Nat} (hl : L f = some xs) : xs.length = 64 ∧ (∀ y ∈ xs, y < 256) ∧ f < n :=
  ⟨(h.2.2.2.2.2 f xs hl).1, (h.2.2.2.2.2 f xs hl).2, h.2.2.2.2.1.lt Try.law hl⟩
end
/-- The bytes of a sector as they were written last. -/
def last (S : Nat → List Nat) (L : Nat → Option (List Nat)) (f : Nat) : List Nat := (L f).getD (S f)

set_option maxRecDepth 20000 in
set_option maxHeartbeats 400000 in
theorem dread_none (p : Option Addr) (f : Int) (w : World) (h : Calls Try.prog 28 #[.pointer p, .int .i64 f] w fun e w' => e = .returned (.bool false) ∧ w = w') :
    Calls Try.prog 18 #[.pointer p, .int .i64 f] w fun e w' => e = .returned (.tuple #[.slice none 0 0, .int .i64 1]) ∧ w = w' := by
  have H := Lib.hid h
  clear h
  go_enter Try.func18, Try.ntmps18
  go_wp2_with fail
  refine H.out.mono ?_
  rintro e w1 ⟨rfl, rfl⟩
  go_wp2
  go_ret2
  exact ⟨rfl, rfl⟩

/-- What a work leaves that fails. -/
def DErrPost (w : World) (gD gS gM n : Nat) (S : Nat → List Nat) (L : Nat → Option (List Nat)) (t : Tr) (v : Value) (e : Ending) (w' : World) : Prop :=
  e = .returned v ∧ Dsk w' gD gS gM n S L t.next ∧ Turns (dk gD gS gM) w w' ∧ w'.heap.size = w.heap.size
set_option maxRecDepth 20000 in
set_option maxHeartbeats 400000 in
theorem dread_bad (gD gS gM n : Nat) (S : Nat → List Nat) (L : Nat → Option (List Nat)) (t : Tr) (f : Nat) (w : World) (h : Dsk w gD gS gM n S L t) (hf : f < n) (ha : t.ans ≠ 0) :
    Calls Try.prog 18 #[.pointer (some ⟨gD, 0, none⟩), .int .i64 f] w (DErrPost w gD gS gM n S L t (.tuple #[.slice none 0 0, .int .i64 t.ans])) := by
  have HD := Lib.hid h
  have HH := Lib.hid (dhas_yes _ _ _ _ _ _ _ f w h hf)
  clear h
  have t1 : (((t.ans : Nat) : Int) != 0) = true := by rw [bne_iff_ne]; omega
  go_enter Try.func18, Try.ntmps18
  go_wp2_with fail
  refine HH.out.mono ?_
  rintro e w1 ⟨rfl, rfl⟩
  go_wp2_with fail
  refine (work_any gD gS gM n t _ HD.out.1 HD.out.2.1).mono ?_
  rintro e w1 ⟨rfl, hb, ho⟩
  have HD1 := Lib.hid (HD.out.worked hb ho)
  have HO := Lib.hid ho
  clear hb ho
  go_wp2
  go_ret2
  exact ⟨rfl, HD1.out, Turns.of_only HO.out (.inl rfl), HO.out.2⟩

/-- What Read leaves. -/
def DReadPost (w : World) (gD gS gM n : Nat) (S : Nat → List Nat) (L : Nat → Option (List Nat)) (t : Tr) (ys : List Nat) (e : Ending) (w' : World) : Prop :=
  e = .returned (.tuple #[.slice (some ⟨w.heap.size + 1, 0, none⟩) 64 64, .int .i64 0]) ∧ Blk w' (w.heap.size + 1) 5 (ys.map bv).toArray ∧ Dsk w' gD gS gM n S L t ∧ Turns (dk gD gS gM) w w' ∧ w'.heap.size = w.heap.size + 2

set_option maxRecDepth 20000 in
set_option maxHeartbeats 800000 in
theorem dread_yes (gD gS gM n : Nat) (S : Nat → List Nat) (L : Nat → Option (List Nat)) (t : Tr) (f : Nat) (w : World) (h : Dsk w gD gS gM n S L t) (hf : f < n) (ha : t.ans = 0) :
    Calls Try.prog 18 #[.pointer (some ⟨gD, 0, none⟩), .int .i64 f] w (DReadPost w gD gS gM n S L t.next (last S L f)) := by
  have HD := Lib.hid h
  have HH := Lib.hid (dhas_yes _ _ _ _ _ _ _ f w h hf)
  clear h
  go_enter Try.func18, Try.ntmps18
  go_wp2_with fail
  refine HH.out.mono ?_
  rintro e w1 ⟨rfl, rfl⟩
  go_wp2_with fail
  refine (work_any gD gS gM n t _ HD.out.1 HD.out.2.1).mono ?_
  rintro e w1 ⟨rfl, hb, ho⟩
  rw [ha]
  have HD1 := Lib.hid (HD.out.worked hb ho)
  have HO := Lib.hid ho
  clear hb ho
  have hlk := HD1.out.look hf
  have c0 : w1.cell? ⟨gD, 0, none⟩ = some (.slice (some ⟨gS, 0, none⟩) n n) := HD1.out.cell 0
  have c1 : w1.cell? ⟨gD, 1, none⟩ = some (.map (some gM)) := HD1.out.cell 1
  have hz := Try.zeroSec
  cases hL : L f with
  | some ys =>
    rw [hL] at hlk
    simp only [Option.getD_some, Option.isSome_some] at hlk
    obtain ⟨hy1, hy2, _⟩ := HD1.out.loose_ hL
    have HY1 := Lib.hid hy1
    have HY2 := Lib.hid hy2
    clear hy1 hy2
    have hmk := make64
    go_wp2_with (first
      | (refine wpList_store_blk rfl 74 (.tmp 7) (.tmp 28) rfl w1.heap.size 74 (zs 64) ys (Blk.new w1 _ _) rfl rfl (by rw [HY1.out]; exact zs_size 64) (by rw [HY1.out]; exact Try.sizeSec) ?_; intro w2 HB2 HO2; have HX2 := Lib.hid (Bts.of_whole HB2.out HY1.out (by simp [maxLen]) HY2.out))
      | (with_reducible refine wpList_copy_bts rfl (.tmp 40) (.tmp 41) 27 27 rfl 5 Try.underlying27 Try.size8 _ _ 64 64 64 64 rfl rfl w2.heap.size 0 (zs 64) 5 (Blk.new w2 _ _) (ys) w2.heap.size (HX2.out.below ((Below.refl _ _).alloc (Nat.le_refl _) _)) (by rw [HY1.out]; exact Nat.le_refl _) (fun _ => rfl) (by rw [HY1.out, zs_size]; omega) ?_; intro w9 HB9 HO9))
    go_ret2
    have hs1 : w1.heap.size = w.heap.size := HO.out.2
    have hs2 : w2.heap.size = w.heap.size + 1 := by rw [HO2.out.2]; simp [hs1]
    have hs3 : w9.heap.size = w.heap.size + 2 := by rw [HO9.out.2]; simp [hs2]
    have h3 := HB9.out
    rw [splice_zs 64 _ HY1.out, hs2] at h3
    have k1 : Turns (dk gD gS gM) w w1 := Turns.of_only HO.out (.inl rfl)
    have k2 : Turns (dk gD gS gM) w w2 := (k1.alloc _).new_ HO2.out (by omega)
    have k3 : Turns (dk gD gS gM) w w9 := (k2.alloc _).new_ HO9.out (by omega)
    have b2 : Below w1.heap.size w1 w2 := ((Below.refl _ _).alloc (Nat.le_refl _) _).trans (HO2.out.below (Nat.le_refl _) (by simp))
    have b3 : Below w2.heap.size w2 w9 := ((Below.refl _ _).alloc (Nat.le_refl _) _).trans (HO9.out.below (Nat.le_refl _) (by simp))
    refine ⟨by rw [hs2]; rfl, by unfold last; rw [hL]; exact h3, ?_, k3, hs3⟩
    exact (HD1.out.fresh b2).fresh b3
  | none =>
    rw [hL] at hlk
    simp only [Option.getD_none, Option.isSome_none] at hlk
    obtain ⟨hy1, hy2⟩ := HD1.out.long hf
    have HY1 := Lib.hid hy1
    have HY2 := Lib.hid hy2
    clear hy1 hy2
    have hmk := make64
    have hrow : Try.prog.underlying 74 = some (.array 64 5) := Try.underlying74
    have t7 : (f : Int) < (n : Int) := by omega
    have t8 : (0 : Int) ≤ (f : Int) := by omega
    go_wp2_with (first
      | (refine wpList_store_blk rfl 74 (.tmp 7) (.tmp 28) rfl w1.heap.size 74 (zs 64) zer (Blk.new w1 _ _) rfl rfl (by rw [zer_length]; exact zs_size 64) (by rw [zer_length]; exact Try.sizeSec) ?_; intro w2 HB2 HO2; have HD2 := Lib.hid (HD1.out.fresh (((Below.refl _ _).alloc (Nat.le_refl _) _).trans (HO2.out.below (Nat.le_refl _) (by simp)))); have c2 : w2.cell? ⟨gD, 0, none⟩ = some (.slice (some ⟨gS, 0, none⟩) n n) := HD2.out.cell 0)
      | (refine wpList_load_mid rfl 74 (.tmp 37) rfl gS (f * 64) rfl ((S f).map bv) _ (HD2.out.range_ hf) hrow rfl (by rw [List.length_map, HY1.out]; exact Try.sizeSec) ?_)
      | (refine wpList_store_blk rfl 74 (.tmp 7) (.tmp 38) rfl w1.heap.size 74 (zer.map bv).toArray (S f) HB2.out rfl rfl (by simp [HY1.out, zer_length]) (by rw [HY1.out]; exact Try.sizeSec) ?_; intro w3 HB3 HO3; have HX2 := Lib.hid (Bts.of_whole HB3.out HY1.out (by simp [maxLen]) HY2.out))
      | (with_reducible refine wpList_copy_bts rfl (.tmp 40) (.tmp 41) 27 27 rfl 5 Try.underlying27 Try.size8 _ _ 64 64 64 64 rfl rfl w3.heap.size 0 (zs 64) 5 (Blk.new w3 _ _) (S f) w3.heap.size (HX2.out.below ((Below.refl _ _).alloc (Nat.le_refl _) _)) (by rw [HY1.out]; exact Nat.le_refl _) (fun _ => rfl) (by rw [HY1.out, zs_size]; omega) ?_; intro w9 HB9 HO9))
    go_ret2
    have hs1 : w1.heap.size = w.heap.size := HO.out.2
    have hs2 : w3.heap.size = w.heap.size + 1 := by rw [HO3.out.2, HO2.out.2]; simp [hs1]
    have hs3 : w9.heap.size = w.heap.size + 2 := by rw [HO9.out.2]; simp [hs2]
    have h3 := HB9.out
    rw [splice_zs 64 _ HY1.out, hs2] at h3
    have k1 : Turns (dk gD gS gM) w w1 := Turns.of_only HO.out (.inl rfl)
    have k2 : Turns (dk gD gS gM) w w3 := ((k1.alloc _).new_ HO2.out (by omega)).new_ HO3.out (by omega)
    have k3 : Turns (dk gD gS gM) w w9 := (k2.alloc _).new_ HO9.out (by omega)
    have b2 : Below w1.heap.size w1 w3 := (((Below.refl _ _).alloc (Nat.le_refl _) _).trans (HO2.out.below (Nat.le_refl _) (by simp))).trans (HO3.out.below (Nat.le_refl _) (by rw [HO2.out.2]; simp))
    have b3 : Below w3.heap.size w3 w9 := ((Below.refl _ _).alloc (Nat.le_refl _) _).trans (HO9.out.below (Nat.le_refl _) (by simp))
    refine ⟨by rw [hs2]; rfl, by unfold last; rw [hL]; exact h3, ?_, k3, hs3⟩
    exact (HD1.out.fresh b2).fresh b3
end Go.Proofs.Ytckabekimdcdcaa

/-
  Layer 14's own question 'answers', and FileFails, answer true.
  Conditions: none beside the files' contracts.
-/
import Derived.Test.YtggidgfmkidkjaaFilI
import Derived.BigQuiet
import Derived.Deep.QuietTactic
import Derived.Deep.RegionHeld3
namespace Go.Proofs.Ytggidgfmkidkjaa
open Go.RowKit
set_option linter.unusedVariables false

/-- Two bytes, and 62 zeros. -/
def sec2 (x y : Nat) : List Nat := x :: y :: List.replicate 62 0
theorem sec2_length (x y : Nat) : (sec2 x y).length = 64 := by simp [sec2]
theorem sec2_byte {x y : Nat} (hx : x < 256) (hy : y < 256) : ∀ z ∈ sec2 x y, z < 256 := by
  intro z hz
  rcases List.mem_cons.1 hz with h | hz
  · omega
  · rcases List.mem_cons.1 hz with h | hz
    · omega
    · rw [List.eq_of_mem_replicate hz]; omega
theorem sec2_zs : zs 64 = ((sec2 0 0).map bv).toArray := by
  unfold zs sec2
  apply Array.ext_getElem?
  intro i
  match i with
  | 0 => simp
  | 1 => simp
  | k + 2 =>
    simp only [List.map_cons, List.map_replicate, List.getElem?_toArray, List.getElem?_cons_succ, List.getElem?_replicate, Array.getElem?_replicate]
    by_cases h : k < 62
    · rw [if_pos (by omega), if_pos h]
    · rw [if_neg (by omega), if_neg h]
theorem sec2_set0 (x y z : Nat) : ((sec2 x y).map bv).toArray.setIfInBounds 0 (bv z) = ((sec2 z y).map bv).toArray := by
  unfold sec2
  simp
theorem sec2_set1 (x y z : Nat) : ((sec2 x y).map bv).toArray.setIfInBounds 1 (bv z) = ((sec2 x z).map bv).toArray := by
  unfold sec2
  simp
/-- A disk of the call's own. -/
structure FD (w0 w : World) (gD gS gM : Nat) (S : Nat → List Nat) (L : Nat → Option (List Nat)) (t : Tr) : Prop where
  d : Dsk w gD gS gM 192 S L t
  bel : Below w0.heap.size w0 w
  low : w0.heap.size ≤ gD ∧ w0.heap.size ≤ gS ∧ w0.heap.size ≤ gM
section
variable {w0 w w' : World} {gD gS gM : Nat} {S S' : Nat → List Nat} {L L' : Nat → Option (List Nat)} {t t' : Tr}
theorem FD.new (h : Dsk w (w0.heap.size + 2) w0.heap.size (w0.heap.size + 1) 192 S L t) (hb : Below w0.heap.size w0 w) : FD w0 w (w0.heap.size + 2) w0.heap.size (w0.heap.size + 1) S L t := ⟨h, hb, by omega, by omega, by omega⟩
theorem FD.turn (h : FD w0 w gD gS gM S L t) (hD : Dsk w' gD gS gM 192 S' L' t') (hT : Turns (dk gD gS gM) w w') : FD w0 w' gD gS gM S' L' t' :=
  ⟨hD, h.bel.trans (hT.below (by rintro k (e | e | e) <;> have := h.low <;> omega) h.bel.size), h.low⟩
theorem FD.fresh (h : FD w0 w gD gS gM S L t) (hb : Below w.heap.size w w') : FD w0 w' gD gS gM S L t := by
  refine ⟨?_, h.bel.trans (hb.mono h.bel.size), h.low⟩
  exact h.d.fresh hb
theorem FD.far {g : Nat} (h : FD w0 w gD gS gM S L t) (ho : Only g w w') (hg : w.heap.size ≤ g ∨ (g ≠ gD ∧ g ≠ gS ∧ g ≠ gM)) (hg0 : w0.heap.size ≤ g) : FD w0 w' gD gS gM S L t := by
  have hl := h.d.lt
  have hn : g ≠ gD ∧ g ≠ gS ∧ g ≠ gM := by
    rcases hg with hg | hg
    · omega
    · exact hg
  refine ⟨?_, h.bel.trans (ho.below hg0 h.bel.size), h.low⟩
  exact h.d.far (ho.1.block _ hl.1 (fun e => hn.1 (by injection e with e; exact e.symm))) (ho.1.block _ hl.2.1 (fun e => hn.2.1 (by injection e with e; exact e.symm))) (ho.1.block _ hl.2.2 (fun e => hn.2.2 (by injection e with e; exact e.symm)))
end
theorem FD.write {w0 w : World} {gD gS gM : Nat} {S : Nat → List Nat} {L : Nat → Option (List Nat)} (h : FD w0 w gD gS gM S L Tr.none_) {f g : Int} {p gB : Nat} {xs : List Nat} (hp : PageAt f g p) (hB : Blk w gB 5 (xs.map bv).toArray) (hn : gB ≠ gD) (hl : xs.length = 64) (hb : ∀ y ∈ xs, y < 256) :
    Calls Try.prog 8 #[.pointer (some ⟨gD, 0, none⟩), .int .i64 f, .int .i64 g, .slice (some ⟨gB, 0, none⟩) 64 64] w fun e w' => e = .returned (.int .i64 0) ∧ FD w0 w' gD gS gM S (upd L p (some xs)) Tr.none_ ∧ Turns (dk gD gS gM) w w' :=
  (fwrite_yes gD gS gM 192 S L Tr.none_ w _ xs f g p h.d hp (by have := hp.2; have := hp.1; omega) rfl (fun w' ho => ⟨_, Bts.of_whole (ho.blk hB hn) hl (by simp [maxLen]) hb, by rw [ho.2]; exact Nat.le_refl _⟩) hl).mono fun e w' ⟨he, hd, ht⟩ => ⟨he, h.turn hd ht, ht⟩
theorem FD.wslot {w0 w : World} {gD gS gM : Nat} {S : Nat → List Nat} {L : Nat → Option (List Nat)} (h : FD w0 w gD gS gM S L Tr.none_) {s : Int} {p gB : Nat} {xs : List Nat} (hp : SlotAt s p) (hB : Blk w gB 5 (xs.map bv).toArray) (hn : gB ≠ gD) (hl : xs.length = 64) (hb : ∀ y ∈ xs, y < 256) :
    Calls Try.prog 10 #[.pointer (some ⟨gD, 0, none⟩), .int .i64 s, .slice (some ⟨gB, 0, none⟩) 64 64] w fun e w' => e = .returned (.int .i64 0) ∧ FD w0 w' gD gS gM S (upd L p (some xs)) Tr.none_ ∧ Turns (dk gD gS gM) w w' :=
  (fwslot_yes gD gS gM 192 S L Tr.none_ w _ xs s p h.d hp (by have := hp.2; have := hp.1; omega) rfl (fun w' ho => ⟨_, Bts.of_whole (ho.blk hB hn) hl (by simp [maxLen]) hb, by rw [ho.2]; exact Nat.le_refl _⟩) hl).mono fun e w' ⟨he, hd, ht⟩ => ⟨he, h.turn hd ht, ht⟩

set_option maxRecDepth 20000 in
set_option maxHeartbeats 1000000 in
theorem filAnswers_any (w : World) :
    Calls Try.prog 6 #[] w fun e w' => e = .returned (.bool true) ∧ Below w.heap.size w w' := by
  go_enter Try.func6, Try.ntmps6
  go_wp2_with fail
  refine (dnew_any 192 192 w (by unfold NearD; omega)).mono ?_
  rintro e w1 ⟨rfl, hd1, hb1, hz1⟩
  have F1 := Lib.hid (FD.new hd1 hb1)
  have HB1 := Lib.hid (Blk.new w1 5 (zs 64))
  have hmk := make64
  have hc : (w1.alloc (.cells (zs 64) 5)).cell? ⟨w1.heap.size, 0, none⟩ = some (.int .u8 0) := by rw [HB1.out.cell]; rfl
  have hf := HB1.out.frozen 0
  clear hd1 hb1 hz1
  go_wp2_with fail
  have F3 := Lib.hid (F1.out.fresh ((Below.refl _ _).alloc (Nat.le_refl _) (.cells ((zs 64).setIfInBounds 0 (.int .u8 9)) 5)))
  have hb3 : Blk (w1.alloc (.cells ((zs 64).setIfInBounds 0 (.int .u8 9)) 5)) w1.heap.size 5 ((sec2 9 0).map bv).toArray := by
    rw [← sec2_set0 0 0 9, ← sec2_zs]
    exact Blk.new w1 _ _
  have HB3 := Lib.hid hb3
  have hg := F1.out.d.lt
  generalize w1.alloc (.cells ((zs 64).setIfInBounds 0 (.int .u8 9)) 5) = w3 at F3 hb3 HB3 ⊢
  clear hc hf hmk hb3
  refine (F3.out.write (f := 1) (g := 2) (p := 114) ⟨by omega, by omega⟩ HB3.out (by omega) (sec2_length 9 0) (sec2_byte (by omega) (by omega))).mono ?_
  rintro e w4 ⟨rfl, hd4, ht4⟩
  have F4 := Lib.hid hd4
  clear hd4 ht4 hg
  go_wp2_with fail
  refine (dread_yes _ _ _ _ _ _ _ 114 _ F4.out.d (by omega) none_ans).mono ?_
  rintro e w5 ⟨rfl, hb5, hd5, ht5, hs5⟩
  have F5 := Lib.hid (F4.out.turn hd5 ht5)
  have hc5 : w5.cell? ⟨w4.heap.size + 1, 0, none⟩ = some (.int .u8 9) := by rw [hb5.cell]; rfl
  clear hd5 ht5 hs5 hb5
  go_wp2
  go_ret
  exact ⟨rfl, F5.out.bel⟩
set_option maxRecDepth 20000 in
set_option maxHeartbeats 1000000 in
theorem fileFails_any (a b c : Nat) (w : World) (ha : a < 256) (hb : b < 256) (hc : c < 256) :
    Calls Try.prog 4 #[.int .u8 a, .int .u8 b, .int .u8 c] w fun e w' => e = .returned (.bool true) ∧ Below w.heap.size w w' := by
  obtain ⟨x, hx⟩ : ∃ x, x = a % 4 := ⟨_, rfl⟩
  obtain ⟨y, hy⟩ : ∃ y, y = b % 16 := ⟨_, rfl⟩
  obtain ⟨z, hz⟩ : ∃ z, z = c % 32 := ⟨_, rfl⟩
  have r1 : (a : Int).tmod 4 = (x : Int) := by rw [Int.tmod_eq_emod_of_nonneg (by omega)]; omega
  have r2 : (b : Int).tmod 16 = (y : Int) := by rw [Int.tmod_eq_emod_of_nonneg (by omega)]; omega
  have r3 : (c : Int).tmod 32 = (z : Int) := by rw [Int.tmod_eq_emod_of_nonneg (by omega)]; omega
  have r4 : (a : Int) % 4 = (x : Int) := by omega
  have r5 : (b : Int) % 16 = (y : Int) := by omega
  have r6 : (c : Int) % 32 = (z : Int) := by omega
  have hx4 : x < 4 := by omega
  have hy4 : y < 16 := by omega
  have hz4 : z < 32 := by omega
  have HP := Lib.hid (show PageAt (x : Int) (y : Int) (96 + 16 * x + y) from ⟨by omega, by omega⟩)
  have HQ := Lib.hid (show SlotAt (z : Int) (160 + z) from ⟨by omega, by omega⟩)
  clear ha hb hc hx hy hz
  go_enter Try.func4, Try.ntmps4
  go_wp2_with fail
  refine (dnew_any 192 192 w (by unfold NearD; omega)).mono ?_
  rintro e w1 ⟨rfl, hd1, hb1, hz1⟩
  have F1 := Lib.hid (FD.new hd1 hb1)
  clear hd1 hb1 hz1
  go_wp2_with fail
  refine (fail_any _ _ _ _ _ _ _ 0 4 _ F1.out.d (by omega) (by omega)).mono ?_
  rintro e w2 ⟨rfl, hd2, ho2⟩
  have F2 := Lib.hid (F1.out.turn hd2 (Turns.of_only ho2 (.inl rfl)))
  have hmk := make64
  have F3 := Lib.hid (F2.out.fresh ((Below.refl _ _).alloc (Nat.le_refl _) (.cells (zs 64) 5)))
  clear hd2 ho2
  go_wp2_with fail
  refine (fread_bad _ _ _ _ _ _ _ _ _ _ _ F3.out.d HP.out (by omega) (by decide)).mono ?_
  rintro e w4 ⟨rfl, hd4, ht4⟩
  have F4 := Lib.hid (F3.out.turn hd4 ht4)
  clear hd4 ht4
  go_wp2_with fail
  refine (fslot_bad _ _ _ _ _ _ _ _ _ _ F4.out.d HQ.out (by omega) (by decide)).mono ?_
  rintro e w5 ⟨rfl, hd5, ht5⟩
  have F5 := Lib.hid (F4.out.turn hd5 ht5)
  clear hd5 ht5
  go_wp2_with fail
  refine (fwrite_bad _ _ _ _ _ _ _ _ _ _ _ _ _ F5.out.d HP.out (by omega) (by decide)).mono ?_
  rintro e w6 ⟨rfl, hd6, ht6⟩
  have F6 := Lib.hid (F5.out.turn hd6 ht6)
  clear hd6 ht6
  go_wp2_with fail
  refine (fwslot_bad _ _ _ _ _ _ _ _ _ _ _ _ F6.out.d HQ.out (by omega) (by decide)).mono ?_
  rintro e w7 ⟨rfl, hd7, ht7⟩
  have F7 := Lib.hid (F6.out.turn hd7 ht7)
  clear hd7 ht7
  go_wp2_with fail
  refine (fread_out _ _ _ _ (.inl rfl)).mono ?_
  rintro e w8 ⟨rfl, h8⟩
  have F8 := Lib.hid (F7.out.fresh h8)
  clear h8
  go_wp2_with fail
  refine (fslot_out _ _ _ (.inl rfl)).mono ?_
  rintro e w9 ⟨rfl, h9⟩
  have F9 := Lib.hid (F8.out.fresh h9)
  clear h9
  go_wp2_with fail
  refine (filAnswers_any _).mono ?_
  rintro e wa ⟨rfl, ha⟩
  have FA := Lib.hid (F9.out.fresh ha)
  clear ha
  go_wp2_with fail
  refine (fwrite_out _ _ _ _ _ _ _ (.inl rfl)).mono ?_
  rintro e wb ⟨rfl, hb⟩
  have FB := Lib.hid (FA.out.fresh hb)
  clear hb
  go_wp2_with fail
  refine (fwslot_out _ _ _ _ _ _ (.inl rfl)).mono ?_
  rintro e wc ⟨rfl, hc⟩
  have FC := Lib.hid (FB.out.fresh hc)
  clear hc
  go_wp2
  go_ret
  exact ⟨rfl, FC.out.bel⟩
end Go.Proofs.Ytggidgfmkidkjaa

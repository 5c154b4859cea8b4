/-
  The contract of disk's Write.
  Conditions: the disk is known whole; what is written is read in memory that the work does not turn.
-/
import Derived.Test.YtckabekimdcdcaaDiskC
namespace Go.Proofs.Ytckabekimdcdcaa
open Go.RowKit
set_option linter.unusedVariables false

set_option maxRecDepth 20000 in
set_option maxHeartbeats 400000 in
theorem dwrite_none (p A : Option Addr) (l c : Nat) (f : Int) (w : World) (h : Calls Try.prog 28 #[.pointer p, .int .i64 f] w fun e w' => e = .returned (.bool false) ∧ w = w') :
    Calls Try.prog 38 #[.pointer p, .int .i64 f, .slice A l c] w fun e w' => e = .returned (.int .i64 1) ∧ w = w' := by
  have H := Lib.hid h
  clear h
  go_enter Try.func38, Try.ntmps38
  go_wp2_with fail
  refine H.out.mono ?_
  rintro e w1 ⟨rfl, rfl⟩
  go_wp2
  go_ret
  exact ⟨rfl, rfl⟩
set_option maxRecDepth 20000 in
set_option maxHeartbeats 400000 in
theorem dwrite_size (p A : Option Addr) (l c : Nat) (f : Int) (w : World) (hl : l ≠ 64) (h : Calls Try.prog 28 #[.pointer p, .int .i64 f] w fun e w' => e = .returned (.bool true) ∧ w = w') :
    Calls Try.prog 38 #[.pointer p, .int .i64 f, .slice A l c] w fun e w' => e = .returned (.int .i64 1) ∧ w = w' := by
  have H := Lib.hid h
  clear h
  have t1 : (((l : Nat) : Int) != 64) = true := by rw [bne_iff_ne]; omega
  clear hl
  go_enter Try.func38, Try.ntmps38
  go_wp2_with fail
  refine H.out.mono ?_
  rintro e w1 ⟨rfl, rfl⟩
  go_wp2
  go_ret
  exact ⟨rfl, rfl⟩
set_option maxRecDepth 20000 in
set_option maxHeartbeats 400000 in
theorem dwrite_bad (gD gS gM n : Nat) (S : Nat → List Nat) (L : Nat → Option (List Nat)) (t : Tr) (f : Nat) (A : Option Addr) (c : Nat) (w : World) (h : Dsk w gD gS gM n S L t) (hf : f < n) (ha : t.ans ≠ 0) :
    Calls Try.prog 38 #[.pointer (some ⟨gD, 0, none⟩), .int .i64 f, .slice A 64 c] w (DErrPost w gD gS gM n S L t (.int .i64 t.ans)) := by
  have HD := Lib.hid h
  have HH := Lib.hid (dhas_yes _ _ _ _ _ _ _ f w h hf)
  clear h
  have t1 : (((t.ans : Nat) : Int) != 0) = true := by rw [bne_iff_ne]; omega
  go_enter Try.func38, Try.ntmps38
  go_wp2_with fail
  refine HH.out.mono ?_
  rintro e w1 ⟨rfl, rfl⟩
  go_wp2_with fail
  refine (work_any gD gS gM n t _ HD.out.1 HD.out.2.1).mono ?_
  rintro e w1 ⟨rfl, hb, ho⟩
  have HD1 := Lib.hid (HD.out.worked hb ho)
  have HO := Lib.hid ho
  clear hb ho
  go_wp2
  go_ret
  exact ⟨rfl, HD1.out, Turns.of_only HO.out (.inl rfl), HO.out.2⟩

section
variable {w w' : World} {gD gS gM n : Nat} {S : Nat → List Nat} {L : Nat → Option (List Nat)} {t : Tr}
/-- A sector becomes loose. -/
theorem Dsk.store (h : Dsk w gD gS gM n S L t) {f : Nat} (hf : f < n) {xs : List Nat} (hx : xs.length = 64) (hy : ∀ y ∈ xs, y < 256) :
    ∃ w', (Instr.mapUpdate 58 (.map (some gM)) (.int .i64 (f : Int)) (.agg (xs.map bv).toArray)).run Try.prog w = .ok () w' ∧ Dsk w' gD gS gM n S (upd L f (some xs)) t ∧ Only gM w w' := by
  obtain ⟨w', h1, h2, h3⟩ := h.2.2.2.2.1.run_store Try.underlying3 Try.underlying58 (by have := h.few; omega) f hf xs
  refine ⟨w', h1, ⟨h3.blk h.1 h.ne.2.1, h.2.1, h.2.2.1, h.2.2.2.1.far (h3.1.block _ h.lt.2.1 (fun e => h.ne.2.2 (by injection e))), h2, fun j ys hj => ?_⟩, h3⟩
  by_cases e : j = f
  · subst e
    rw [upd_same] at hj
    injection hj with hj
    subst hj
    exact ⟨hx, hy⟩
  · rw [upd_other _ _ _ e] at hj
    exact h.2.2.2.2.2 j ys hj
end

/-- What Write leaves. -/
def DWritePost (w : World) (gD gS gM n : Nat) (S : Nat → List Nat) (L : Nat → Option (List Nat)) (t : Tr) (e : Ending) (w' : World) : Prop :=
  e = .returned (.int .i64 0) ∧ Dsk w' gD gS gM n S L t ∧ Turns (dk gD gS gM) w w' ∧ w'.heap.size = w.heap.size + 1

set_option maxRecDepth 20000 in
set_option maxHeartbeats 800000 in
theorem dwrite_yes (gD gS gM n : Nat) (S : Nat → List Nat) (L : Nat → Option (List Nat)) (t : Tr) (f : Nat) (v0 : Value) (xs : List Nat) (w : World) (h : Dsk w gD gS gM n S L t) (hf : f < n) (ha : t.ans = 0)
    (hx : ∀ w', Only gD w w' → ∃ B, Bts w' B v0 xs ∧ B ≤ w.heap.size) (hl : xs.length = 64) :
    Calls Try.prog 38 #[.pointer (some ⟨gD, 0, none⟩), .int .i64 f, v0] w (DWritePost w gD gS gM n S (upd L f (some xs)) t.next) := by
  have HD := Lib.hid h
  have HH := Lib.hid (dhas_yes _ _ _ _ _ _ _ f w h hf)
  have HX := Lib.hid hx
  have HL := Lib.hid hl
  obtain ⟨B0, ⟨A0, l0, c0, rfl, hl0, -⟩, -⟩ := hx w (Only.refl _ _)
  obtain rfl : l0 = 64 := by omega
  clear h hx hl hl0
  go_enter Try.func38, Try.ntmps38
  go_wp2_with fail
  refine HH.out.mono ?_
  rintro e w1 ⟨rfl, rfl⟩
  go_wp2_with fail
  refine (work_any gD gS gM n t _ HD.out.1 HD.out.2.1).mono ?_
  rintro e w1 ⟨rfl, hb, ho⟩
  rw [ha]
  have HD1 := Lib.hid (HD.out.worked hb ho)
  have HO := Lib.hid ho
  clear hb ho
  obtain ⟨B, hx1, hB⟩ := HX.out w1 HO.out
  have HX1 := Lib.hid hx1
  have HB := Lib.hid hB
  clear hx1 hB
  have hz := Try.zeroSec
  have hq : Bts (w1.alloc (.cells (zs 64) 74)) B (.slice A0 64 c0) xs := HX1.out.below ((Below.refl _ _).alloc (by rw [HO.out.2]; exact HB.out) _)
  have HQ := Lib.hid hq
  clear hq
  go_wp2_with (with_reducible refine wpList_copy_bts rfl (.tmp 25) (.tmp 26) 27 27 rfl 5 Try.underlying27 Try.size8 _ _ 64 64 64 _ rfl rfl w1.heap.size 0 (zs 64) 74 (Blk.new w1 _ _) xs B HQ.out (by rw [HL.out]; exact Nat.le_refl _) (fun _ => rfl) (by rw [HL.out, zs_size]; omega) ?_; intro w2 HB2 HO2)
  have hb2 := HB2.out
  rw [splice_zs 64 _ HL.out] at hb2
  have HD2 := Lib.hid (HD1.out.fresh (((Below.refl _ _).alloc (Nat.le_refl _) _).trans (HO2.out.below (Nat.le_refl _) (by simp))))
  have hr2 : w2.rangeAt w1.heap.size 0 (xs.map bv) := hb2.range_
  have c1 : w2.cell? ⟨gD, 1, none⟩ = some (.map (some gM)) := HD2.out.cell 1
  have HY := Lib.hid HX1.out.byte
  obtain ⟨w3, hst, hd3, ho3⟩ := HD2.out.drew.store hf HL.out HY.out
  have HD3 := Lib.hid hd3
  have HO3 := Lib.hid ho3
  have hrow : Try.prog.underlying 74 = some (.array 64 5) := Try.underlying74
  have hsz : (Try.prog.info? 74).map (·.size) = some (xs.map bv).length := by rw [List.length_map, HL.out]; exact Try.sizeSec
  have hgM : w1.heap.size ≠ gM := by have := HD1.out.lt.2.2; omega
  have HS := Lib.hid (show w3.cell? ⟨gD, 1, none⟩ = some (.map (some gM)) ∧ w3.rangeAt w1.heap.size 0 (xs.map bv) from ⟨hd3.cell 1, (ho3.blk (w := w2.drew) hb2 hgM).range_⟩)
  clear hb2 hd3 ho3 hgM
  go_region_held3 (fun w' => w'.cell? ⟨gD, 1, none⟩ = some (.map (some gM)) ∧ w'.rangeAt w1.heap.size 0 (xs.map bv)) (first | exact HS.out | go_keep_ranges) (fail)
  go_wp2
  go_ret
  have hs1 : w1.heap.size = w.heap.size := HO.out.2
  have k1 : Turns (dk gD gS gM) w w1 := Turns.of_only HO.out (.inl rfl)
  have k2 : Turns (dk gD gS gM) w w2 := (k1.alloc _).new_ HO2.out (by omega)
  have k3 : Turns (dk gD gS gM) w w3 := k2.drew.trans (Turns.of_only HO3.out (.inr (.inr rfl)))
  exact ⟨rfl, HD3.out, k3, by rw [HO3.out.2]; show w2.heap.size = _; rw [HO2.out.2]; simp [hs1]⟩
end Go.Proofs.Ytckabekimdcdcaa

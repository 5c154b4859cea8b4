/-
  The contracts of ram's New, Read, Write, Copy, Zero and Poison: what each answers, and what the memory holds behind it.
  Conditions: the memory is known whole; what is written is read in memory.
-/
import Derived.Test.YtegoookllckhiaaRamA
import Derived.Test.YtegoookllckhiaaBas
import Derived.Deep.RegionHeld3
import Derived.Deep.DrawnRows
import Derived.Lib.SliceRun
namespace Go.Proofs.Ytegoookllckhiaa
open Go.RowKit
set_option linter.unusedVariables false

section
variable {w w' : World} {gR gF n : Nat} {F : Nat → List Nat} {bad : Nat → Bool}
theorem Mem.ne (h : Mem w gR gF n F bad) : gR ≠ gF := by
  obtain ⟨cur, h1, h2, _⟩ := h
  rintro rfl
  unfold Blk at h1 h2
  rw [h1] at h2
  injection h2 with h2
  injection h2 with _ ht
  exact absurd ht (by decide)
theorem Mem.lt (h : Mem w gR gF n F bad) : gR < w.heap.size ∧ gF < w.heap.size := by
  obtain ⟨cur, h1, h2, _⟩ := h
  exact ⟨h1.lt, h2.lt⟩
theorem Mem.far (h : Mem w gR gF n F bad) (hR : w'.heap[gR]? = w.heap[gR]?) (hF : w'.heap[gF]? = w.heap[gF]?) : Mem w' gR gF n F bad := by
  obtain ⟨cur, h1, h2, h3⟩ := h
  exact ⟨cur, hR.trans h1, hF.trans h2, h3⟩
theorem Mem.below (h : Mem w gR gF n F bad) {B : Nat} (hb : Below B w w') (hR : gR < B) (hF : gF < B) : Mem w' gR gF n F bad := h.far (hb.block _ hR) (hb.block _ hF)
theorem Mem.alloc (h : Mem w gR gF n F bad) (o : Obj) : Mem (w.alloc o) gR gF n F bad := h.far (Below.heap_alloc w o gR h.lt.1) (Below.heap_alloc w o gF h.lt.2)
theorem Mem.only (h : Mem w gR gF n F bad) {g : Nat} (ho : Only g w w') (hR : gR ≠ g) (hF : gF ≠ g) : Mem w' gR gF n F bad :=
  h.far (ho.1.block _ h.lt.1 (fun e => hR (by injection e))) (ho.1.block _ h.lt.2 (fun e => hF (by injection e)))
theorem Mem.bytes (h : Mem w gR gF n F bad) {f a : Nat} {ys : List Nat} (hf : f < n) (ha : a + ys.length ≤ 64) (hy : ∀ y ∈ ys, y < 256) (ho : Only gF w w')
    (hx : ∀ cur, Blk w gF 85 cur → f * 65 + a + ys.length ≤ cur.size → ∃ cur', Blk w' gF 85 cur' ∧ Over cur cur' (f * 65 + a) (ys.map bv)) : Mem w' gR gF n (upd F f (over (F f) a ys)) bad := by
  have hne := h.ne
  obtain ⟨cur, h1, h2, h3, h4, h5⟩ := h
  obtain ⟨cur', k1, k2, k3⟩ := hx cur h2 (by omega)
  refine ⟨cur', ho.blk h1 hne, k1, by omega, h4, fun k hk => ?_⟩
  obtain ⟨b1, b2, b3, b4⟩ := h5 k hk
  simp only [List.length_map] at k3
  by_cases e : k = f
  · subst e
    rw [upd_same]
    have hov := over_getD (F k) a ys (by omega)
    refine ⟨by rw [over_length _ _ _ (by omega), b1], fun y hy' => ?_, fun i hi => ?_, ?_⟩
    · simp only [Proofs.Ytegoookllckhiaa.over, List.mem_append] at hy'
      rcases hy' with hy' | hy' | hy'
      · exact b2 y (List.mem_of_mem_take hy')
      · exact hy y hy'
      · exact b2 y (List.mem_of_mem_drop hy')
    · rw [k3, hov]
      by_cases c : a ≤ i ∧ i < a + ys.length
      · rw [if_pos (by omega), if_pos c, show k * 65 + i - (k * 65 + a) = i - a by omega]
        have hj : i - a < ys.length := by omega
        simp [hj]
      · rw [if_neg (by omega), if_neg c]
        exact b3 i hi
    · rw [k3, if_neg (by omega)]
      exact b4
  · rw [upd_other F f _ e]
    refine ⟨b1, b2, fun i hi => ?_, ?_⟩
    · rw [k3, if_neg (by omega)]
      exact b3 i hi
    · rw [k3, if_neg (by omega)]
      exact b4
theorem Mem.poison (h : Mem w gR gF n F bad) {f : Nat} (hf : f < n) : Mem (w.setCell ⟨gF, f * 65 + 64, none⟩ (.bool true)) gR gF n F (upd bad f true) ∧ Only gF w (w.setCell ⟨gF, f * 65 + 64, none⟩ (.bool true)) := by
  have ho : Only gF w (w.setCell ⟨gF, f * 65 + 64, none⟩ (.bool true)) := (Only.refl gF w).setCell _ _
  refine ⟨?_, ho⟩
  have hne := h.ne
  obtain ⟨cur, h1, h2, h3, h4, h5⟩ := h
  obtain ⟨k2, k3⟩ := Over.one (cur := cur) (o := f * 65 + 64) (v := .bool true) (by omega)
  refine ⟨_, ho.blk h1 hne, h2.set_ _ _, by rw [k2]; omega, h4, fun k hk => ?_⟩
  obtain ⟨b1, b2, b3, b4⟩ := h5 k hk
  simp only [List.length_cons, List.length_nil] at k3
  refine ⟨b1, b2, fun i hi => by rw [k3, if_neg (by omega)]; exact b3 i hi, ?_⟩
  rw [k3]
  by_cases e : k = f
  · subst e
    rw [if_pos (by omega), upd_same]
    simp
  · rw [if_neg (by omega), upd_other _ _ _ e]
    exact b4
/-- A frame's bytes, from a on, as a slice. -/
theorem Mem.bts (h : Mem w gR gF n F bad) {f a k B : Nat} {A : Option Addr} (hf : f < n) (ha : a + k ≤ 64) (hA : 0 < k → A = some ⟨gF, f * 65 + a, none⟩) (hB : gF < B) : Bts w B (.slice A k k) (win (F f) a k) := by
  obtain ⟨cur, h1, h2, h3, h4, h5⟩ := h
  obtain ⟨b1, b2, b3, b4⟩ := h5 f hf
  have hwl := win_length (F f) a k (by omega)
  refine ⟨A, k, k, rfl, hwl, by unfold maxLen; omega, ⟨Nat.le_refl _, fun hn => ?_⟩, by unfold maxLen; omega, fun j hj => ?_, fun hk => ⟨gF, f * 65 + a, hA hk, hB, fun j hj => ?_⟩⟩
  · rcases Nat.eq_zero_or_pos k with h0 | h0
    · exact h0
    · rw [hA h0] at hn; cases hn
  · have := win_byte (F f) a k (fun j hj => by
      have := b2 _ (List.getElem_mem hj)
      simpa [hj] using this)
    have hj' : j < (win (F f) a k).length := by omega
    have := this _ (List.getElem_mem hj')
    simpa [hj'] using this
  · rw [h2.cell, show f * 65 + a + j = f * 65 + (a + j) by omega, b3 (a + j) (by omega)]
    have e : (win (F f) a k).getD j 0 = (F f).getD (a + j) 0 := by
      unfold win
      simp only [List.getD_eq_getElem?_getD]
      rw [List.getElem?_take, if_pos hj, List.getElem?_drop]
    rw [e]
    rfl
end

/-! ### Read, Write -/

/-- What Read leaves. -/
def ReadPost (w : World) (n : Nat) (ys : List Nat) (e : Ending) (w' : World) : Prop :=
  e = .returned (.tuple #[.slice (some ⟨w.heap.size, 0, none⟩) n n, .int .i64 0]) ∧ Blk w' w.heap.size 5 (ys.map bv).toArray ∧ Below w.heap.size w w' ∧ w'.heap.size = w.heap.size + 1

set_option maxHeartbeats 400000 in
theorem read_err (p : Option Addr) (f a n k : Int) (w : World) (hk : k ≠ 0) (h : Calls Try.prog 66 #[.pointer p, .int .i64 f, .int .i64 a, .int .i64 n] w fun e w' => e = .returned (.tuple #[.slice none 0 0, .int .i64 k]) ∧ w = w') :
    Calls Try.prog 68 #[.pointer p, .int .i64 f, .int .i64 a, .int .i64 n] w fun e w' => e = .returned (.tuple #[.slice none 0 0, .int .i64 k]) ∧ w = w' := by
  have H := Lib.hid h
  have t1 : (k != 0) = true := by rw [bne_iff_ne]; exact hk
  clear h hk
  go_enter Try.func68, Try.ntmps68
  go_wp2_with fail
  refine H.out.mono ?_
  rintro e w1 ⟨rfl, rfl⟩
  go_wp2
  go_ret2
  exact ⟨rfl, rfl⟩

set_option maxHeartbeats 400000 in
theorem read_yes (gR gF m : Nat) (F : Nat → List Nat) (bad : Nat → Bool) (f a n : Nat) (w : World) (h : Mem w gR gF m F bad) (hf : f < m) (hi : a + n ≤ 64) (hb : bad f = false) :
    Calls Try.prog 68 #[.pointer (some ⟨gR, 0, none⟩), .int .i64 f, .int .i64 a, .int .i64 n] w (ReadPost w n (win (F f) a n)) := by
  have HP := Lib.hid (piece_yes gR gF m F bad f a n w h hf hi hb)
  have hmk := make_zs n (by omega) w
  have HM := Lib.hid h
  have HL := Lib.hid (win_length (F f) a n (by have := h.long hf; omega))
  clear h hb
  go_enter Try.func68, Try.ntmps68
  go_wp2_with fail
  refine HP.out.mono ?_
  rintro e w1 ⟨A, rfl, hA, rfl⟩
  have HA := Lib.hid hA
  clear hA
  go_wp2_with (with_reducible refine wpList_copy_bts rfl (.tmp 26) (.tmp 27) 112 112 rfl 5 Try.underlying112 Try.size8 _ _ n n n n rfl rfl w.heap.size 0 (zs n) 5 (Blk.new w _ _) (win (F f) a n) w.heap.size ((HM.out.alloc _).bts hf hi HA.out HM.out.lt.2) (by rw [HL.out]; exact Nat.le_refl _) (fun _ => rfl) (by rw [HL.out, zs_size]; omega) ?_; intro w2 HB2 HO2)
  go_ret2
  refine ⟨rfl, ?_, (((Below.refl _ _).alloc (Nat.le_refl _) _).trans (HO2.out.below (Nat.le_refl _) (by simp))), by rw [HO2.out.2]; simp⟩
  have h2 := HB2.out
  rw [splice_zs n _ HL.out] at h2
  exact h2

set_option maxHeartbeats 400000 in
theorem write_err (p A : Option Addr) (l c : Nat) (f a k : Int) (w : World) (hk : k ≠ 0) (h : Calls Try.prog 66 #[.pointer p, .int .i64 f, .int .i64 a, .int .i64 l] w fun e w' => e = .returned (.tuple #[.slice none 0 0, .int .i64 k]) ∧ w = w') :
    Calls Try.prog 72 #[.pointer p, .int .i64 f, .int .i64 a, .slice A l c] w fun e w' => e = .returned (.int .i64 k) ∧ w = w' := by
  have H := Lib.hid h
  have t1 : (k != 0) = true := by rw [bne_iff_ne]; exact hk
  clear h hk
  go_enter Try.func72, Try.ntmps72
  go_wp2_with fail
  refine H.out.mono ?_
  rintro e w1 ⟨rfl, rfl⟩
  go_wp2
  go_ret
  exact ⟨rfl, rfl⟩

/-- What a call leaves that turns frames. -/
def TurnPost (w : World) (gR gF m : Nat) (F : Nat → List Nat) (bad : Nat → Bool) (r : Value) (e : Ending) (w' : World) : Prop := e = .returned r ∧ Mem w' gR gF m F bad ∧ Only gF w w'

set_option maxHeartbeats 400000 in
theorem write_yes (gR gF m : Nat) (F : Nat → List Nat) (bad : Nat → Bool) (f a B : Nat) (v0 : Value) (xs : List Nat) (w : World) (h : Mem w gR gF m F bad) (hf : f < m) (hi : a + xs.length ≤ 64) (hb : bad f = false) (hx : Bts w B v0 xs) :
    Calls Try.prog 72 #[.pointer (some ⟨gR, 0, none⟩), .int .i64 f, .int .i64 a, v0] w (TurnPost w gR gF m (upd F f (over (F f) a xs)) bad (.int .i64 0)) := by
  have HX := Lib.hid hx
  obtain ⟨A0, l0, c0, rfl, hl, -⟩ := hx
  rw [hl] at hi
  have HL := Lib.hid hl
  clear hl
  have HP := Lib.hid (piece_yes gR gF m F bad f a l0 w h hf hi hb)
  have HM := Lib.hid h
  clear h hb
  obtain ⟨cur, hcur, hsz⟩ : ∃ cur, Blk w gF 85 cur ∧ f * 65 + a + l0 ≤ cur.size := by
    obtain ⟨cur, _, h2, h3, _⟩ := HM.out
    exact ⟨cur, h2, by omega⟩
  have HC := Lib.hid hcur
  have HZ := Lib.hid hsz
  clear hcur hsz
  go_enter Try.func72, Try.ntmps72
  go_wp2_with fail
  refine HP.out.mono ?_
  rintro e w1 ⟨A, rfl, hA, rfl⟩
  have HA := Lib.hid hA
  clear hA
  go_wp2_with (with_reducible refine wpList_copy_bts rfl (.tmp 23) (.tmp 24) 112 112 rfl 5 Try.underlying112 Try.size8 _ _ l0 l0 l0 c0 rfl rfl gF (f * 65 + a) cur 85 HC.out xs B HX.out (by rw [HL.out]; exact Nat.le_refl _) (fun h0 => HA.out (by rw [HL.out] at h0; exact h0)) (by rw [HL.out]; exact HZ.out) ?_; intro w2 HB2 HO2)
  go_ret
  refine ⟨rfl, HM.out.bytes hf (by rw [HL.out]; exact hi) HX.out.byte HO2.out (fun cur2 h2 hs2 => ?_), HO2.out⟩
  have e : cur2 = cur := by
    have h1 := HC.out
    unfold Blk at h1 h2
    rw [h1] at h2
    injection h2 with h2
    injection h2 with h2
    exact h2.symm
  subst e
  exact ⟨_, HB2.out, Over.splice_ (by simpa using hs2)⟩
end Go.Proofs.Ytegoookllckhiaa

/-
  The contract of log's sector: a new block of 64 bytes that is the record's sector; nothing else is changed.
  Conditions: the record has 50 bytes at most, which are read in memory.
-/
import Derived.Test.YthoolcnecphihaaLogA
import Derived.Test.YthoolcnecphihaaPut
import Derived.Test.YthoolcnecphihaaDiskH
namespace Go.Proofs.Ythoolcnecphihaa
open Go.RowKit
set_option linter.unusedVariables false

/-- Bytes behind which zeros stand. -/
def zn (xs : List Nat) (m : Nat) : List Nat := xs ++ List.replicate m 0
def cellsL (xs : List Nat) : Array Value := (xs.map bv).toArray
theorem cellsL_size (xs : List Nat) : (cellsL xs).size = xs.length := by simp [cellsL]
theorem cellsL_at (xs : List Nat) (j : Nat) (h : j < xs.length) : (cellsL xs)[j]? = some (bv (xs.getD j 0)) := by simp [cellsL, h]
theorem cellsL_ext {cs : Array Value} {xs : List Nat} (hs : cs.size = xs.length) (h : ∀ j, j < xs.length → cs[j]? = some (bv (xs.getD j 0))) : cs = cellsL xs := by
  apply Array.ext_getElem?
  intro j
  by_cases hj : j < xs.length
  · rw [h j hj, cellsL_at xs j hj]
  · rw [Array.getElem?_eq_none (by omega), Array.getElem?_eq_none (by rw [cellsL_size]; omega)]
theorem zs_cells (n : Nat) : zs n = cellsL (zn [] n) := by
  refine cellsL_ext (by simp [zs, zn]) fun j hj => ?_
  simp [zn] at hj
  simp [zs, zn, hj]
theorem getD_append_left (a b : List Nat) (j : Nat) (h : j < a.length) : (a ++ b).getD j 0 = a.getD j 0 := by
  simp only [List.getD_eq_getElem?_getD, List.getElem?_append_left h]
theorem getD_append_right (a b : List Nat) (j : Nat) (h : a.length ≤ j) : (a ++ b).getD j 0 = b.getD (j - a.length) 0 := by
  simp only [List.getD_eq_getElem?_getD, List.getElem?_append_right h]
theorem getD_zeros (m j : Nat) : (List.replicate m 0).getD j 0 = 0 := by
  simp only [List.getD_eq_getElem?_getD, List.getElem?_replicate]
  split <;> rfl
/-- A number's bytes in the place of the first zeros. -/
theorem putV_next (xs : List Nat) (p m v k : Nat) (hp : xs.length = p) (hk : k ≤ m) : putV (cellsL (zn xs m)) p v k = cellsL (zn (xs ++ numL v k) (m - k)) := by
  refine cellsL_ext (by simp [putV_size, cellsL_size, zn, numL_length]; omega) fun j hj => ?_
  simp [zn, numL_length] at hj
  rw [putV_at _ _ _ _ _ (by simp [cellsL_size, zn]; omega)]
  unfold zn
  by_cases h1 : p ≤ j ∧ j < p + k
  · rw [if_pos h1, getD_append_left _ _ _ (by simp [numL_length]; omega), getD_append_right _ _ _ (by omega), numL_getD _ _ _ (by omega), hp]
  · rw [if_neg h1, cellsL_at _ _ (by simp; omega)]
    by_cases h2 : j < p
    · rw [getD_append_left _ _ _ (by omega), getD_append_left _ _ _ (by simp [numL_length]; omega), getD_append_left _ _ _ (by omega)]
    · rw [getD_append_right _ _ _ (by omega), getD_append_right _ _ _ (by simp [numL_length]; omega), getD_zeros, getD_zeros]
theorem set_next (xs : List Nat) (p m y : Nat) (hp : xs.length = p) (hm : 0 < m) : (cellsL (zn xs m)).setIfInBounds p (bv y) = cellsL (zn (xs ++ [y]) (m - 1)) := by
  refine cellsL_ext (by simp [cellsL_size, zn]; omega) fun j hj => ?_
  simp [zn] at hj
  rw [Array.getElem?_setIfInBounds, cellsL_size]
  unfold zn
  by_cases h1 : p = j
  · subst h1
    rw [if_pos rfl, if_pos (by simp; omega), getD_append_left _ _ _ (by simp; omega), getD_append_right _ _ _ (by omega), hp, Nat.sub_self]
    rfl
  · rw [if_neg h1, cellsL_at _ _ (by simp; omega)]
    by_cases h2 : j < p
    · rw [getD_append_left _ _ _ (by omega), getD_append_left _ _ _ (by simp; omega), getD_append_left _ _ _ (by omega)]
    · rw [getD_append_right _ _ _ (by omega), getD_append_right _ _ _ (by simp; omega), getD_zeros, getD_zeros]
theorem splice_next (xs ys : List Nat) (p m : Nat) (hp : xs.length = p) (hm : ys.length ≤ m) : (splice (cellsL (zn xs m)).toList p (ys.map bv)).toArray = cellsL (zn (xs ++ ys) (m - ys.length)) := by
  unfold cellsL
  congr 1
  unfold splice zn
  rw [List.toList_toArray, List.length_map, List.map_append, List.map_append, List.map_append, List.take_left' (by simp [hp]), List.drop_append, List.drop_of_length_le (by simp; omega), List.nil_append]
  simp [hp]
theorem headL_zn (gen n : Nat) (b : List Nat) (h : b.length ≤ 50) : zn (numL gen 4 ++ numL n 4 ++ [b.length] ++ b) (55 - b.length) = zn (headL gen n b) 4 := by
  unfold zn headL
  rw [show 55 - b.length = (51 - b.length) + 4 by omega, ← List.replicate_append_replicate]
  simp only [List.append_assoc]

theorem PutPost.only {w w' : World} {g : Nat} {t : TypeId} {cur : Array Value} (h : PutPost w w' g t cur) : Only g w w' := ⟨h.2.1, h.2.2⟩
/-- Put into a slice of zeros. -/
theorem put_zn (g : Nat) (xs : List Nat) (p m : Nat) (v : Nat) (z : Int) (w : World) (hg : Blk w g 5 (cellsL (zn xs m))) (hp : xs.length = p) (h64 : p + m = 64) (hm : 4 ≤ m) (hz : z = (p : Int)) :
    Calls Try.prog 35 #[.slice (some ⟨g, 0, none⟩) 64 64, .int .i64 z, .int .u64 (v : Int), .int .i64 4] w fun e w' => e = .returned (.bool true) ∧ Blk w' g 5 (cellsL (zn (xs ++ numL v 4) (m - 4))) ∧ Only g w w' := by
  subst hz
  have h := put_yes g 0 64 64 v 5 (cellsL (zn xs m)) (p : Int) 4 w (by simp [maxLen]) ⟨by omega, by omega, by omega, by omega⟩ hg (by simp [cellsL_size, zn]; omega)
  refine h.mono ?_
  rintro e w' ⟨h1, h2⟩
  refine ⟨h1, ?_, h2.only⟩
  have h3 := h2.1
  rw [show 0 + ((p : Nat) : Int).toNat = p by simp, show (4 : Int).toNat = 4 from rfl, putV_next xs p m v 4 hp hm] at h3
  exact h3

/-- What sector leaves. -/
def SecPost (w : World) (gen n : Nat) (b : List Nat) (e : Ending) (w' : World) : Prop :=
  e = .returned (.slice (some ⟨w.heap.size, 0, none⟩) 64 64) ∧ Blk w' w.heap.size 5 ((secL gen n b).map bv).toArray ∧ Below w.heap.size w w'

set_option maxHeartbeats 1600000 in
theorem sector_any (gen n : Nat) (v : Value) (b : List Nat) (B : Nat) (w : World) (h : Bts w B v b) (hB : B ≤ w.heap.size) (hl : b.length ≤ 50) (hg : gen < 4294967296) (hn : n < 4294967296) :
    Calls Try.prog 26 #[.int .u32 (gen : Int), .int .i64 (n : Int), v] w (SecPost w gen n b) := by
  have HX := Lib.hid h
  have HB := Lib.hid hB
  obtain ⟨A, l, c, rfl, e0, -⟩ := h
  have HL := Lib.hid (show b.length ≤ 50 from hl)
  have E0 := Lib.hid e0
  have hl50 : l ≤ 50 := by omega
  have hmk := make64
  have c1 : IntKind.u64.wrap (gen : Int) = (gen : Int) := by rw [IntKind.wrap_u64]; omega
  have c2 : IntKind.u64.wrap (n : Int) = (n : Int) := by rw [IntKind.wrap_u64]; omega
  have c3 : IntKind.u8.wrap (l : Int) = (l : Int) := by rw [IntKind.wrap_u8']; omega
  have c3' : (l : Int) % 256 = (l : Int) := by omega
  have b0 := Lib.hid (show Blk (w.alloc (.cells (zs 64) 5)) w.heap.size 5 (cellsL (zn [] 64)) from by rw [← zs_cells]; exact Blk.new w _ _)
  have k0 := Lib.hid (show Below w.heap.size w (w.alloc (.cells (zs 64) 5)) from (Below.refl _ _).alloc (Nat.le_refl _) _)
  clear hl hB e0
  go_enter Try.func26, Try.ntmps26
  go_wp2_with fail
  refine (put_zn w.heap.size [] 0 64 gen 0 _ b0.out rfl rfl (by omega) rfl).mono ?_
  rintro e w2 ⟨rfl, hb2, ho2⟩
  have b2 := Lib.hid hb2
  have k2 := Lib.hid (k0.out.trans (ho2.below (Nat.le_refl _) k0.out.size))
  clear hb2 ho2
  go_wp2_with fail
  refine (put_zn w.heap.size ([] ++ numL gen 4) 4 60 n 4 _ b2.out (by simp [numL_length]) rfl (by omega) rfl).mono ?_
  rintro e w3 ⟨rfl, hb3, ho3⟩
  have b3 := Lib.hid hb3
  have k3 := Lib.hid (k2.out.trans (ho3.below (Nat.le_refl _) k2.out.size))
  have hc : w3.cell? ⟨w.heap.size, 8, none⟩ = some (.int .u8 0) := by rw [hb3.cell]; rfl
  have hf := hb3.frozen 8
  clear hb3 ho3
  have b4 := Lib.hid (show Blk (w3.setCell ⟨w.heap.size, 8, none⟩ (.int .u8 (l : Int))) w.heap.size 5 (cellsL (zn ([] ++ numL gen 4 ++ numL n 4 ++ [l]) 55)) from by
    have h := b3.out.set_ 8 (bv l)
    rw [set_next _ 8 _ l (by simp [numL_length]) (by omega)] at h
    exact h)
  have k4 := Lib.hid (show Below w.heap.size w (w3.setCell ⟨w.heap.size, 8, none⟩ (.int .u8 (l : Int))) from k3.out.setCell (Nat.le_refl _) _)
  have f1 : b.length ≤ 55 := by have := E0.out; omega
  have f2 : 9 + b.length ≤ (cellsL (zn ([] ++ numL gen 4 ++ numL n 4 ++ [l]) 55)).size := by
    rw [cellsL_size]
    simp [zn, numL_length]
    omega
  have F1 := Lib.hid f1
  have F2 := Lib.hid f2
  clear f1 f2
  go_wp2_with (with_reducible refine wpList_copy_bts rfl (.tmp 23) (.tmp 24) 29 29 rfl 5 Try.underlying29 Try.size8 (some ⟨w.heap.size, 9, none⟩) A 55 55 l c rfl rfl w.heap.size 9 (cellsL (zn ([] ++ numL gen 4 ++ numL n 4 ++ [l]) 55)) 5 b4.out b B (HX.out.below (k4.out.mono HB.out)) F1.out (fun _ => rfl) F2.out ?_; intro w5 hb5 ho5)
  have b5 := Lib.hid (show Blk w5 w.heap.size 5 (cellsL (zn (headL gen n b) 4)) from by
    have h := hb5.out
    rw [splice_next _ b 9 55 (by simp [numL_length]) (by have := HL.out; omega), ← E0.out, List.nil_append, headL_zn gen n b HL.out] at h
    exact h)
  have k5 := Lib.hid (k4.out.trans (ho5.out.below (Nat.le_refl _) k4.out.size))
  clear hb5 ho5
  have HS := Lib.hid (Bts.of_whole (g := w.heap.size) (n := 64) (xs := zn (headL gen n b) 4) b5.out (by simp [zn, headL_length gen n b HL.out]) (by simp [maxLen]) (fun y hy => by
    rcases List.mem_append.1 hy with hy | hy
    · exact headL_byte gen n b HL.out HX.out.byte y hy
    · rw [List.eq_of_mem_replicate hy]; omega))
  have kb6 := Lib.hid (show Below w5.heap.size w5 (w5.alloc (.cells #[.slice (some ⟨w.heap.size, 0, none⟩) 60 64] 29)) from (Below.refl _ _).alloc (Nat.le_refl _) _)
  have hs6 := (HS.out.below kb6.out).front 60 (by omega)
  rw [show (zn (headL gen n b) 4).take 60 = headL gen n b from List.take_left' (headL_length gen n b HL.out)] at hs6
  refine (sum_one (w5.alloc (.cells #[.slice (some ⟨w.heap.size, 0, none⟩) 60 64] 29)) w5.heap.size w5.heap.size _ (headL gen n b) (by simp) hs6).mono ?_
  rintro e w6 ⟨rfl, rfl⟩
  have hx := sumM_lt (headL gen n b)
  obtain ⟨x, hxe⟩ : ∃ x, x = sumM (headL gen n b) := ⟨_, rfl⟩
  rw [← hxe] at hx ⊢
  have HXE := Lib.hid hxe
  have c6 : IntKind.u64.wrap (x : Int) = (x : Int) := by rw [IntKind.wrap_u64]; omega
  have b6 := Lib.hid (b5.out.below kb6.out b5.out.lt)
  have k6 := Lib.hid (k5.out.trans (kb6.out.mono k5.out.size))
  clear hs6 hxe
  go_wp2_with fail
  refine (put_zn w.heap.size (headL gen n b) 60 4 x 60 _ b6.out (headL_length gen n b HL.out) rfl (by omega) rfl).mono ?_
  rintro e w7 ⟨rfl, hb7, ho7⟩
  have b7 := Lib.hid hb7
  have k7 := Lib.hid (k6.out.trans (ho7.below (Nat.le_refl _) k6.out.size))
  clear hb7 ho7
  go_wp2
  go_ret
  refine ⟨rfl, ?_, k7.out⟩
  have h := b7.out
  rw [HXE.out] at h
  simpa [zn, cellsL, secL] using h
end Go.Proofs.Ythoolcnecphihaa

/-
  What several layers stand on: bytes with zeros behind them in a block, Put into it, the sum of one part, a disk without trouble, the first sectors as they read, lists of lists in memory.
  Conditions: none beside those that each line bears.
-/
import Derived.Test.YtckabekimdcdcaaRec
import Derived.Test.YtckabekimdcdcaaGet
import Derived.Test.YtckabekimdcdcaaSum
import Derived.Test.YtckabekimdcdcaaPut
import Derived.Test.YtckabekimdcdcaaDiskE
import Derived.Test.YtckabekimdcdcaaLst
namespace Go.Proofs.Ytckabekimdcdcaa
open Go.RowKit
set_option linter.unusedVariables false

/-- Bytes behind which zeros stand. -/
def zn (xs : List Nat) (m : Nat) : List Nat := xs ++ List.replicate m 0
def cellsL (xs : List Nat) : Array Value := (xs.map bv).toArray
theorem cellsL_size (xs : List Nat) : (cellsL xs).size = xs.length := by simp [cellsL]
theorem cellsL_at (xs : List Nat) (j : Nat) (h : j < xs.length) : (cellsL xs)[j]? = some (bv (xs.getD j 0)) := by simp [cellsL, h]
theorem cellsL_ext {cs : Array Value} {xs : List Nat} (hs : cs.size = xs.length) (h : ∀ j, j < xs.length → cs[j]? = some (bv (xs.getD j 0))) : cs = cellsL xs := by
  apply Array.ext_getElem?
  intro j
  by_cases hj : j < xs.length
  · rw [h j hj, cellsL_at xs j hj]
  · rw [Array.getElem?_eq_none (by omega), Array.getElem?_eq_none (by rw [cellsL_size]; omega)]
theorem zs_cells (n : Nat) : zs n = cellsL (zn [] n) := by
  refine cellsL_ext (by simp [zs, zn]) fun j hj => ?_
  simp [zn] at hj
  simp [zs, zn, hj]
theorem getD_append_left (a b : List Nat) (j : Nat) (h : j < a.length) : (a ++ b).getD j 0 = a.getD j 0 := by
  simp only [List.getD_eq_getElem?_getD, List.getElem?_append_left h]
theorem getD_append_right (a b : List Nat) (j : Nat) (h : a.length ≤ j) : (a ++ b).getD j 0 = b.getD (j - a.length) 0 := by
  simp only [List.getD_eq_getElem?_getD, List.getElem?_append_right h]
theorem getD_zeros (m j : Nat) : (List.replicate m 0).getD j 0 = 0 := by
  simp only [List.getD_eq_getElem?_getD, List.getElem?_replicate]
  split <;> rfl
/-- A number's bytes in the place of the first zeros. -/
theorem putV_next (xs : List Nat) (p m v k : Nat) (hp : xs.length = p) (hk : k ≤ m) : putV (cellsL (zn xs m)) p v k = cellsL (zn (xs ++ numL v k) (m - k)) := by
  refine cellsL_ext (by simp [putV_size, cellsL_size, zn, numL_length]; omega) fun j hj => ?_
  simp [zn, numL_length] at hj
  rw [putV_at _ _ _ _ _ (by simp [cellsL_size, zn]; omega)]
  unfold zn
  by_cases h1 : p ≤ j ∧ j < p + k
  · rw [if_pos h1, getD_append_left _ _ _ (by simp [numL_length]; omega), getD_append_right _ _ _ (by omega), numL_getD _ _ _ (by omega), hp]
  · rw [if_neg h1, cellsL_at _ _ (by simp; omega)]
    by_cases h2 : j < p
    · rw [getD_append_left _ _ _ (by omega), getD_append_left _ _ _ (by simp [numL_length]; omega), getD_append_left _ _ _ (by omega)]
    · rw [getD_append_right _ _ _ (by omega), getD_append_right _ _ _ (by simp [numL_length]; omega), getD_zeros, getD_zeros]
theorem set_next (xs : List Nat) (p m y : Nat) (hp : xs.length = p) (hm : 0 < m) : (cellsL (zn xs m)).setIfInBounds p (bv y) = cellsL (zn (xs ++ [y]) (m - 1)) := by
  refine cellsL_ext (by simp [cellsL_size, zn]; omega) fun j hj => ?_
  simp [zn] at hj
  rw [Array.getElem?_setIfInBounds, cellsL_size]
  unfold zn
  by_cases h1 : p = j
  · subst h1
    rw [if_pos rfl, if_pos (by simp; omega), getD_append_left _ _ _ (by simp; omega), getD_append_right _ _ _ (by omega), hp, Nat.sub_self]
    rfl
  · rw [if_neg h1, cellsL_at _ _ (by simp; omega)]
    by_cases h2 : j < p
    · rw [getD_append_left _ _ _ (by omega), getD_append_left _ _ _ (by simp; omega), getD_append_left _ _ _ (by omega)]
    · rw [getD_append_right _ _ _ (by omega), getD_append_right _ _ _ (by simp; omega), getD_zeros, getD_zeros]
theorem splice_next (xs ys : List Nat) (p m : Nat) (hp : xs.length = p) (hm : ys.length ≤ m) : (splice (cellsL (zn xs m)).toList p (ys.map bv)).toArray = cellsL (zn (xs ++ ys) (m - ys.length)) := by
  unfold cellsL
  congr 1
  unfold splice zn
  rw [List.toList_toArray, List.length_map, List.map_append, List.map_append, List.map_append, List.take_left' (by simp [hp]), List.drop_append, List.drop_of_length_le (by simp; omega), List.nil_append]
  simp [hp]
theorem PutPost.only {w w' : World} {g : Nat} {t : TypeId} {cur : Array Value} (h : PutPost w w' g t cur) : Only g w w' := ⟨h.2.1, h.2.2⟩
/-- Put into a slice of zeros. -/
theorem put_zn (g : Nat) (xs : List Nat) (p m : Nat) (v : Nat) (z : Int) (w : World) (hg : Blk w g 5 (cellsL (zn xs m))) (hp : xs.length = p) (h64 : p + m = 64) (hm : 4 ≤ m) (hz : z = (p : Int)) :
    Calls Try.prog 51 #[.slice (some ⟨g, 0, none⟩) 64 64, .int .i64 z, .int .u64 (v : Int), .int .i64 4] w fun e w' => e = .returned (.bool true) ∧ Blk w' g 5 (cellsL (zn (xs ++ numL v 4) (m - 4))) ∧ Only g w w' := by
  subst hz
  have h := put_yes g 0 64 64 v 5 (cellsL (zn xs m)) (p : Int) 4 w (by simp [maxLen]) ⟨by omega, by omega, by omega, by omega⟩ hg (by simp [cellsL_size, zn]; omega)
  refine h.mono ?_
  rintro e w' ⟨h1, h2⟩
  refine ⟨h1, ?_, h2.only⟩
  have h3 := h2.1
  rw [show 0 + ((p : Nat) : Int).toNat = p by simp, show (4 : Int).toNat = 4 from rfl, putV_next xs p m v 4 hp hm] at h3
  exact h3
/-- The sum of one part that was just laid in a block. -/
theorem sum_one (w : World) (g B : Nat) (u : Value) (xs : List Nat) (hc : w.cell? ⟨g, 0, none⟩ = some u) (h : Bts w B u xs) :
    Calls Try.prog 49 #[.slice (some ⟨g, 0, none⟩) 1 1] w fun e w' => e = .returned (.int .u32 ((sumM xs : Nat) : Int)) ∧ w = w' := by
  rw [← sumU_eq]
  have := sum_any (.slice (some ⟨g, 0, none⟩) 1 1) [xs] B w ⟨_, 1, 1, rfl, rfl, by simp [maxLen], fun _ => ⟨g, 0, rfl, fun j hj => ?_⟩⟩
  · simpa using this
  · obtain rfl : j = 0 := by omega
    exact ⟨u, hc, h⟩
theorem Bts.front {w : World} {B n c : Nat} {A : Option Addr} {s : List Nat} (h : Bts w B (.slice A n c) s) (k : Nat) (hk : k ≤ n) : Bts w B (.slice A k c) (s.take k) := by
  obtain ⟨A', n', c', hv, hl, hm, ⟨hnc, hA⟩, hc, hb, hx⟩ := h
  injection hv with e1 e2 e3
  subst e1 e2 e3
  have hg : ∀ j, j < k → (s.take k).getD j 0 = s.getD j 0 := by
    intro j hj
    simp only [List.getD_eq_getElem?_getD, List.getElem?_take, if_pos hj]
  refine ⟨A, k, c, rfl, by simp; omega, by omega, ⟨by omega, hA⟩, hc, fun j hj => by rw [hg j hj]; exact hb j (by omega), fun h0 => ?_⟩
  obtain ⟨b, off, h1, h2, h3⟩ := hx (by omega)
  exact ⟨b, off, h1, h2, fun j hj => by rw [hg j hj]; exact h3 j (by omega)⟩
theorem dec_eq {a b : Nat} (h : a = b) : (((a : Nat) : Int) == ((b : Nat) : Int)) = true := by simp [h]
theorem dec_ne {a b : Nat} (h : ¬ a = b) : (((a : Nat) : Int) == ((b : Nat) : Int)) = false := by simp; omega
theorem last_upd (S : Nat → List Nat) (L : Nat → Option (List Nat)) (a : Nat) (x : List Nat) : last S (upd L a (some x)) = upd (last S L) a x := by
  funext f
  unfold last upd
  split <;> rfl
theorem last_none (S : Nat → List Nat) : last S (fun _ => none) = S := rfl
/-- What is still to come behind so many works. -/
def tn (t : Tr) : Nat → Tr
  | 0 => t
  | k + 1 => (tn t k).next
theorem Try.infoB : (Try.prog.info? 27).map (fun i => (i.zero, i.size, i.bytes)) = some (some (.slice none 0 0), 1, 24) := by kernel_rfl
theorem Turns.below_ {M : Nat → Prop} {w w' w'' : World} (h : Turns M w w') (k : Below w.heap.size w' w'') : Turns M w w'' :=
  ⟨k.os.trans h.os, k.tape.trans h.tape, k.output.trans h.output, Nat.le_trans h.size k.size, fun i hi hm => (k.block i hi).trans (h.block i hi hm)⟩
theorem byte_at {s : List Nat} (h : ∀ y ∈ s, y < 256) (j : Nat) : s.getD j 0 < 256 := by
  simp only [List.getD_eq_getElem?_getD]
  cases hj : s[j]? with
  | none => simp
  | some y => simpa using h y (List.mem_of_getElem? hj)
theorem one_cell {w : World} {g : Nat} {v : Value} (h : w.cell? ⟨g, 0, none⟩ = some v) : ∀ (j : Nat) (u : Value), [v][j]? = some u → w.cell? ((⟨g, 0, none⟩ : Addr).add j) = some u := by
  intro j u hj
  match j, hj with
  | 0, hj =>
    simp at hj
    subst hj
    simpa [Addr.add] using h
theorem Dsk.last_ {w : World} {gD gS gM n : Nat} {S : Nat → List Nat} {L : Nat → Option (List Nat)} {t : Tr} (h : Dsk w gD gS gM n S L t) {f : Nat} (hf : f < n) : (last S L f).length = 64 ∧ ∀ y ∈ last S L f, y < 256 := by
  unfold last
  cases hL : L f with
  | some xs => exact ⟨(h.loose_ hL).1, (h.loose_ hL).2.1⟩
  | none => exact h.long hf
theorem none_ans : Tr.none_.ans = 0 := rfl
theorem none_next : Tr.none_.next = Tr.none_ := rfl
theorem tn_none (k : Nat) : tn Tr.none_ k = Tr.none_ := by
  induction k with
  | zero => rfl
  | succ k ih => rw [tn, ih, none_next]
/-- The first k sectors as they read. -/
def firsts (F : Nat → List Nat) (k : Nat) : List (List Nat) := (List.range k).map F
theorem firsts_length (F : Nat → List Nat) (k : Nat) : (firsts F k).length = k := by simp [firsts]
theorem firsts_succ (F : Nat → List Nat) (k : Nat) : firsts F (k + 1) = firsts F k ++ [F k] := by simp [firsts, List.range_succ]
theorem firsts_getD (F : Nat → List Nat) (k j : Nat) (h : j < k) : (firsts F k).getD j [] = F j := by simp [firsts, h]
/-- A disk's blocks are new: nothing that was there turns. -/
theorem Turns.fresh_ {B gD gS gM : Nat} {w0 w w' : World} (h : Turns (dk gD gS gM) w w') (hb : Below B w0 w) (hB : B ≤ w0.heap.size) (h1 : B ≤ gD) (h2 : B ≤ gS) (h3 : B ≤ gM) : Below B w0 w' :=
  hb.trans (h.below (by rintro k (e | e | e) <;> omega) (Nat.le_trans hB hb.size))
theorem Bts.cut {w : World} {B b off n c : Nat} {s : List Nat} (h : Bts w B (.slice (some ⟨b, off, none⟩) n c) s) {a k c' : Nat} (ha : a + k ≤ n) (hk : k ≤ c') (hc' : c' ≤ maxLen) : Bts w B (.slice (some ⟨b, off + a, none⟩) k c') (win s a k) := by
  obtain ⟨A', n', c1, hv, hl, hm, ⟨hnc, hA⟩, hc, hb, hx⟩ := h
  injection hv with e1 e2 e3
  subst e1 e2 e3
  have hg := fun j (hj : j < k) => win_getD s a k j hj
  refine ⟨_, k, c', rfl, win_length _ _ _ (by omega), by omega, ⟨hk, fun h => by cases h⟩, hc', fun j hj => by rw [hg j hj]; exact hb _ (by omega), fun h0 => ?_⟩
  obtain ⟨b', off', h1, h2, h3⟩ := hx (by omega)
  injection h1 with h1
  injection h1 with h1 h1' _
  subst h1 h1'
  exact ⟨_, _, rfl, h2, fun j hj => by rw [hg j hj, Nat.add_assoc]; exact h3 _ (by omega)⟩
theorem Pts.at_ {w : World} {b off N c : Nat} {xss : List (List Nat)} (h : Pts w (.slice (some ⟨b, off, none⟩) N c) xss) {j : Nat} (hj : j < xss.length) : ∃ u, w.cell? ⟨b, off + j, none⟩ = some u ∧ Bts w w.heap.size u (xss.getD j []) := by
  obtain ⟨b', off', c', u, e, _, h1, h2⟩ := h.get hj
  injection e with e _ _
  injection e with e
  injection e with e1 e2 _
  subst e1 e2
  exact ⟨u, h1, h2⟩
theorem Pts.addr {w : World} {A : Option Addr} {N c : Nat} {xss : List (List Nat)} (h : Pts w (.slice A N c) xss) (hN : 0 < N) : ∃ b off, A = some ⟨b, off, none⟩ := by
  obtain ⟨A', N', c', e, _, _, _, h1⟩ := h
  injection e with e1 e2 e3
  subst e1 e2
  obtain ⟨b, off, h2, _⟩ := h1 hN
  exact ⟨b, off, h2⟩
/-- The disk's blocks lie below. -/
theorem dk_lt {w wx : World} {n : Nat} {S : Nat → List Nat} {L : Nat → Option (List Nat)} {t : Tr} (h : Dsk wx (w.heap.size + 2) w.heap.size (w.heap.size + 1) n S L t) : ∀ q, dk (w.heap.size + 2) w.heap.size (w.heap.size + 1) q → q < wx.heap.size := by
  have := h.lt
  rintro q (e | e | e) <;> omega
theorem dk_base (w : World) : ∀ q, dk (w.heap.size + 2) w.heap.size (w.heap.size + 1) q → q < w.heap.size + 3 := by
  rintro q (e | e | e) <;> omega
theorem dk_lo (w : World) : ∀ q, dk (w.heap.size + 2) w.heap.size (w.heap.size + 1) q → w.heap.size ≤ q := by
  rintro q (e | e | e) <;> omega
end Go.Proofs.Ytckabekimdcdcaa

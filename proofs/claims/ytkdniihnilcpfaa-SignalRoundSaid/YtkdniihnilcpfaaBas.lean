/-
  What is said of memory, bytes, blocks, lists, records, slots and maps alone: nothing of the program is named here.
  Conditions: those that each line bears.
-/
import Derived.WalkKit
import Derived.WalkSpells
import Derived.Laws.BitsAllLaws
import Derived.Deep.Draws
import Derived.Laws.AppendOwnNone
import Derived.OpenShut
import Derived.Laws.CopyOwn
import Derived.Deep.MidRow
import Derived.Lib.Hide
import Derived.Deep.DrawnRows
import Derived.Maps.RangeWalk
import Derived.Maps.OwnSet
import Derived.Laws.Shifts
import Derived.Laws.ShiftsVarLaws
import Derived.Deep.Slices
import Derived.Deep.Fields
import Derived.ChangeSame

/-! ## Plain: Plain facts: bytes in slices as lists of numbers, numbers as bytes, and the sum of bytes. Nothing of the program is named here.   Conditions: none beside those that each line bears. -/
namespace Go.Proofs.Ytkdniihnilcpfaa
open Go.RowKit

/-! ### bytes that lie in memory -/

/-- The slice value v holds the bytes xs, in blocks below B. -/
def Bts (w : World) (B : Nat) (v : Value) (xs : List Nat) : Prop :=
  ∃ A n c, v = .slice A n c ∧ xs.length = n ∧ n ≤ maxLen ∧ (n ≤ c ∧ (A = none → c = 0)) ∧ c ≤ maxLen ∧ (∀ j, j < n → xs.getD j 0 < 256) ∧
    (0 < n → ∃ b off, A = some ⟨b, off, none⟩ ∧ b < B ∧ ∀ j, j < n → w.cell? ⟨b, off + j, none⟩ = some (.int .u8 ((xs.getD j 0 : Nat) : Int)))

theorem Bts.keep {w w' : World} {B : Nat} {v : Value} {xs : List Nat} (h : Bts w B v xs) (hk : ∀ p : Addr, p.block < B → w'.cell? p = w.cell? p) : Bts w' B v xs := by
  obtain ⟨A, n, c, hv, hl, hm, hc, hcm, hb, hx⟩ := h
  refine ⟨A, n, c, hv, hl, hm, hc, hcm, hb, fun hn => ?_⟩
  obtain ⟨b, off, hA, hB, hcell⟩ := hx hn
  exact ⟨b, off, hA, hB, fun j hj => (hk _ hB).trans (hcell j hj)⟩
theorem Bts.below {w w' : World} {B : Nat} {v : Value} {xs : List Nat} (h : Bts w B v xs) (hb : Below B w w') : Bts w' B v xs := h.keep fun _ hp => hb.cell hp
theorem Bts.more {w : World} {B B' : Nat} {v : Value} {xs : List Nat} (h : Bts w B v xs) (hB : B ≤ B') : Bts w B' v xs := by
  obtain ⟨A, n, c, hv, hl, hm, hc, hcm, hb, hx⟩ := h
  refine ⟨A, n, c, hv, hl, hm, hc, hcm, hb, fun hn => ?_⟩
  obtain ⟨b, off, hA, hb', hcell⟩ := hx hn
  exact ⟨b, off, hA, by omega, hcell⟩
theorem Bts.nil_ (w : World) (B : Nat) : Bts w B (.slice none 0 0) [] :=
  ⟨none, 0, 0, rfl, rfl, by simp [maxLen], ⟨by omega, fun _ => rfl⟩, by simp [maxLen], fun j hj => absurd hj (by omega), fun h => absurd h (by omega)⟩

/-! ### the sum -/

def mixN (h x : Nat) : Nat := ((h ^^^ x) * 1099511628211) % 18446744073709551616
def sumStart : Nat := 14695981039346656037
def sumN (xs : List Nat) : Nat := xs.foldl mixN sumStart
theorem mixN_lt (h x : Nat) : mixN h x < 18446744073709551616 := by unfold mixN; exact Nat.mod_lt _ (by omega)
theorem foldl_mix (xs : List Nat) : ∀ s, s < 18446744073709551616 → xs.foldl mixN s < 18446744073709551616 := by
  induction xs with
  | nil => intro s h; simpa using h
  | cons x r ih => intro s h; rw [List.foldl_cons]; exact ih _ (mixN_lt _ _)
theorem sumN_lt (xs : List Nat) : sumN xs < 18446744073709551616 := foldl_mix xs sumStart (by unfold sumStart; omega)
theorem mix_wrap (h x : Nat) (hh : h < 18446744073709551616) (hx : x < 18446744073709551616) :
    IntKind.u64.wrap (bits .xor .u64 (h : Int) (x : Int) * 1099511628211) = ((mixN h x : Nat) : Int) := by
  rw [u64_xor_nat h x hh hx, mixN]
  generalize h ^^^ x = m
  rw [IntKind.wrap_u64, Int.natCast_emod, Int.natCast_mul]
  rw [show ((1099511628211:Nat):Int) = 1099511628211 from rfl, show ((18446744073709551616:Nat):Int) = 18446744073709551616 from rfl]

def sumI (xs : List Nat) : Int := ((sumN xs : Nat) : Int)
theorem foldl_snoc {α β : Type} (f : β → α → β) (s : β) (xs : List α) (x : α) : (xs ++ [x]).foldl f s = f (xs.foldl f s) x := by
  rw [List.foldl_append, List.foldl_cons, List.foldl_nil]
theorem sumN_snoc (xs : List Nat) (x : Nat) : sumN (xs ++ [x]) = mixN (sumN xs) x := by
  unfold sumN
  exact foldl_snoc mixN sumStart xs x
theorem sumI_snoc (xs : List Nat) (x : Nat) (hx : x < 256) :
    IntKind.u64.wrap (bits .xor .u64 (sumI xs) (x : Int) * 1099511628211) = sumI (xs ++ [x]) := by
  unfold sumI
  rw [sumN_snoc]
  exact mix_wrap _ _ (sumN_lt xs) (Nat.lt_of_lt_of_le hx (by omega))
theorem sumI_nil : sumI [] = 14695981039346656037 := by unfold sumI sumN; rw [List.foldl_nil]; unfold sumStart; rfl
theorem sumI_nonneg (xs : List Nat) : 0 ≤ sumI xs := Int.natCast_nonneg _
theorem sumI_lt (xs : List Nat) : sumI xs < 18446744073709551616 := by
  unfold sumI
  have := sumN_lt xs
  omega

/-- The sum as the call answers it: the highest 32 bits, exclusive or the lowest 32. -/
def sumU (xs : List Nat) : Int := bits .xor .u32 (sumI xs / 4294967296) (sumI xs % 4294967296)
theorem sum_high (xs : List Nat) : IntKind.u64.wrap ((sumI xs).tdiv 4294967296) % 4294967296 = sumI xs / 4294967296 := by
  have h0 := sumI_nonneg xs
  have h1 := sumI_lt xs
  rw [IntKind.wrap_u64, Int.tdiv_eq_ediv_of_nonneg h0]
  omega

/-! ### numbers as bytes -/

/-- The number of bytes, the lowest first. -/
def le : List Nat → Nat
  | [] => 0
  | x :: r => x + 256 * le r

theorem le_lt (xs : List Nat) (h : ∀ x ∈ xs, x < 256) : le xs < 256 ^ xs.length := by
  induction xs with
  | nil => simp [le]
  | cons x r ih =>
    have h1 := ih (fun y hy => h y (List.mem_cons_of_mem _ hy))
    have h2 := h x (List.mem_cons_self ..)
    rw [le, List.length_cons, Nat.pow_succ]
    omega
theorem le_append (xs ys : List Nat) : le (xs ++ ys) = le xs + 256 ^ xs.length * le ys := by
  induction xs with
  | nil => simp [le]
  | cons x r ih =>
    rw [List.cons_append, le, le, ih, List.length_cons, Nat.pow_succ, Nat.mul_add, Nat.add_assoc, ← Nat.mul_assoc, Nat.mul_comm 256 (256 ^ r.length)]
theorem pow256 (k : Nat) : 256 ^ k = 2 ^ (8 * k) := by
  rw [Nat.pow_mul]
theorem pow_le56 (k : Nat) (hk : k < 8) : 2 ^ (8 * k) ≤ 72057594037927936 := by
  have := Nat.pow_le_pow_right (show 0 < 2 by omega) (show 8 * k ≤ 56 by omega)
  simpa using this
theorem le_or (p : List Nat) (k x : Nat) (hl : p.length = k) (hk : k < 8) (hp : ∀ y ∈ p, y < 256) (hx : x < 256) :
    bits .or .u64 ((le p : Nat) : Int) (IntKind.u64.wrap ((x : Int) * 2 ^ (8 * k))) = ((le (p ++ [x]) : Nat) : Int) := by
  have h1 := le_lt p hp
  rw [hl, pow256] at h1
  have h2 := pow_le56 k hk
  have h3 : x * 2 ^ (8 * k) ≤ 255 * 2 ^ (8 * k) := Nat.mul_le_mul_right _ (by omega)
  have e1 : (x : Int) * 2 ^ (8 * k) = ((x * 2 ^ (8 * k) : Nat) : Int) := by
    rw [Int.natCast_mul, Int.natCast_pow]
    rfl
  have e2 : IntKind.u64.wrap ((x * 2 ^ (8 * k) : Nat) : Int) = ((x * 2 ^ (8 * k) : Nat) : Int) := by
    rw [IntKind.wrap_u64]
    omega
  rw [e1, e2, u64_or_nat _ _ (by omega) (by omega), Nat.or_comm, nat_join (8 * k) _ _ (Nat.mul_mod_left ..) h1, le_append, hl, pow256]
  simp only [le, Nat.mul_zero, Nat.add_zero]
  rw [Nat.mul_comm, Nat.add_comm]
theorem le_shift (x : Nat) (p : List Nat) (k : Nat) (hl : p.length = k) (hk : k < 8) (hp : ∀ y ∈ p, y < 256) (hx : x < 256) :
    IntKind.u64.wrap (IntKind.u64.wrap (((le p : Nat) : Int) * 256) + (x : Int)) = ((le (x :: p) : Nat) : Int) := by
  have h1 := le_lt p hp
  rw [hl, pow256] at h1
  have h2 := pow_le56 k hk
  rw [IntKind.wrap_u64, IntKind.wrap_u64, le]
  omega

/-- The n bytes from a on. -/
def win (xs : List Nat) (a n : Nat) : List Nat := (xs.drop a).take n
theorem win_length (xs : List Nat) (a n : Nat) (h : a + n ≤ xs.length) : (win xs a n).length = n := by
  unfold win
  simp
  omega
theorem win_snoc (xs : List Nat) (a k : Nat) (h : a + k < xs.length) : win xs a (k + 1) = win xs a k ++ [xs.getD (a + k) 0] := by
  unfold win
  rw [List.take_succ_eq_append_getElem (by simp; omega)]
  simp [h]
theorem win_cons (xs : List Nat) (a n : Nat) (h : a < xs.length) : win xs a (n + 1) = xs.getD a 0 :: win xs (a + 1) n := by
  unfold win
  rw [List.drop_eq_getElem_cons h, List.take_succ_cons]
  simp [h]
theorem win_byte (xs : List Nat) (a n : Nat) (hb : ∀ j, j < xs.length → xs.getD j 0 < 256) : ∀ y ∈ win xs a n, y < 256 := by
  intro y hy
  have h1 := List.mem_of_mem_drop (List.mem_of_mem_take hy)
  obtain ⟨j, hj, rfl⟩ := List.getElem_of_mem h1
  have := hb j hj
  simpa [hj] using this

/-- The k-th byte of a number. -/
def dig (v k : Nat) : Nat := v / 2 ^ (8 * k) % 256
theorem dig_lt (v k : Nat) : dig v k < 256 := Nat.mod_lt _ (by omega)
theorem dig_shift (v k : Nat) : dig (v / 256) k = dig v (k + 1) := by
  unfold dig
  rw [Nat.div_div_eq_div_mul, show 8 * (k + 1) = 8 + 8 * k by omega, Nat.pow_add]
def bv (x : Nat) : Value := .int .u8 (x : Int)
/-- The number's n lowest bytes, the lowest first. -/
def numL (v n : Nat) : List Nat := (List.range n).map (dig v)
theorem numL_length (v n : Nat) : (numL v n).length = n := by simp [numL]
theorem numL_getD (v n k : Nat) (h : k < n) : (numL v n).getD k 0 = dig v k := by simp [numL, h]
theorem numL_snoc (v n : Nat) : numL v (n + 1) = numL v n ++ [dig v n] := by simp [numL, List.range_succ]
theorem numL_byte (v n : Nat) : ∀ y ∈ numL v n, y < 256 := by
  intro y hy
  obtain ⟨k, _, rfl⟩ := List.mem_map.1 hy
  exact dig_lt v k

/-- Bytes laid over others from p on. -/
def over (xs : List Nat) (p : Nat) (ys : List Nat) : List Nat := xs.take p ++ (ys ++ xs.drop (p + ys.length))
theorem over_length (xs : List Nat) (p : Nat) (ys : List Nat) (h : p + ys.length ≤ xs.length) : (over xs p ys).length = xs.length := by
  simp [over]
  omega
theorem over_getD (xs : List Nat) (p : Nat) (ys : List Nat) (h : p + ys.length ≤ xs.length) (j : Nat) :
    (over xs p ys).getD j 0 = if p ≤ j ∧ j < p + ys.length then ys.getD (j - p) 0 else xs.getD j 0 := by
  have hp : (xs.take p).length = p := by simp; omega
  simp only [over, List.getD_eq_getElem?_getD]
  by_cases h1 : j < p
  · rw [if_neg (by omega), List.getElem?_append_left (by omega), List.getElem?_take, if_pos h1]
  · rw [List.getElem?_append_right (by omega), hp]
    by_cases h2 : j < p + ys.length
    · rw [if_pos ⟨by omega, h2⟩, List.getElem?_append_left (by omega)]
    · rw [if_neg (by omega), List.getElem?_append_right (by omega), List.getElem?_drop, show p + ys.length + (j - p - ys.length) = j by omega]

/-- A block's cells with a number's bytes laid in from p on. -/
def putV (cur : Array Value) (p v : Nat) : Nat → Array Value
  | 0 => cur
  | k + 1 => (putV cur p v k).setIfInBounds (p + k) (bv (dig v k))
theorem putV_size (cur : Array Value) (p v k : Nat) : (putV cur p v k).size = cur.size := by
  induction k with
  | zero => rfl
  | succ k ih => rw [putV, Array.size_setIfInBounds, ih]
theorem putV_at (cur : Array Value) (p v k j : Nat) (h : p + k ≤ cur.size) :
    (putV cur p v k)[j]? = if p ≤ j ∧ j < p + k then some (bv (dig v (j - p))) else cur[j]? := by
  induction k with
  | zero => rw [putV, if_neg (by omega)]
  | succ k ih =>
    rw [putV, Array.getElem?_setIfInBounds, putV_size, ih (by omega)]
    by_cases h1 : p + k = j
    · subst h1
      rw [if_pos rfl, if_pos (by omega), if_pos (by omega), show p + k - p = k by omega]
    · rw [if_neg h1]
      by_cases h2 : p ≤ j ∧ j < p + k
      · rw [if_pos h2, if_pos (by omega)]
      · rw [if_neg h2, if_neg (by omega)]

/-- Block g is just these cells. -/
def Blk (w : World) (g : Nat) (t : TypeId) (cs : Array Value) : Prop := w.heap[g]? = some (.cells cs t (0, 0))
theorem Blk.lt {w : World} {g : Nat} {t : TypeId} {cs : Array Value} (h : Blk w g t cs) : g < w.heap.size := by
  rcases Nat.lt_or_ge g w.heap.size with hlt | hge
  · exact hlt
  · unfold Blk at h; rw [Array.getElem?_eq_none hge] at h; cases h
theorem Blk.cell {w : World} {g : Nat} {t : TypeId} {cs : Array Value} (h : Blk w g t cs) (i : Nat) : w.cell? ⟨g, i, none⟩ = cs[i]? := cell_of_row w g i cs t (0, 0) h
theorem Blk.frozen {w : World} {g : Nat} {t : TypeId} {cs : Array Value} (h : Blk w g t cs) (i : Nat) : w.frozen? ⟨g, i, none⟩ = false := by
  unfold Blk at h
  simp [World.frozen?, h]
theorem Blk.set_ {w : World} {g : Nat} {t : TypeId} {cs : Array Value} (h : Blk w g t cs) (i : Nat) (u : Value) : Blk (w.setCell ⟨g, i, none⟩ u) g t (cs.setIfInBounds i u) := by
  unfold Blk at h ⊢
  simp [World.setCell, Array.getElem?_modify, h]
theorem Blk.below {w w' : World} {g : Nat} {t : TypeId} {cs : Array Value} {B : Nat} (h : Blk w g t cs) (hb : Below B w w') (hg : g < B) : Blk w' g t cs := (hb.block g hg).trans h
theorem Blk.new (w : World) (t : TypeId) (cs : Array Value) : Blk (w.alloc (.cells cs t)) w.heap.size t cs := heap_alloc_new w _
theorem Blk.of_own {w : World} {base : Nat} {e : TypeId} {g n cap : Nat} {xs : List Value} (h : w.ownsRow base e 1 (.slice (some ⟨g, 0, none⟩) n cap) n xs) :
    ∃ cur, Blk w g e cur ∧ cur.size = cap ∧ n ≤ cap ∧ cap ≤ maxLen ∧ ∀ j, j < n → cur[j]? = xs[j]? := by
  obtain ⟨hl, h2⟩ := h
  rcases h2 with ⟨h', _⟩ | ⟨g', cap', cur, h', _, hg, hn, hm, hs, ht⟩
  · simp at h'
  · simp only [Value.slice.injEq, Option.some.injEq, Addr.mk.injEq, and_true, true_and] at h'
    obtain ⟨rfl, rfl⟩ := h'
    refine ⟨cur, hg, by simpa using hs, hn, hm, fun j hj => ?_⟩
    rw [← ht, List.getElem?_take, if_pos (by omega)]
    simp
/-- A slice of a known block, as bytes. -/
theorem Bts.of_blk {w : World} {g : Nat} {t : TypeId} {cur : Array Value} {B off n cap : Nat} {xs : List Nat} (h : Blk w g t cur) (hB : g < B) (hl : xs.length = n) (hn : n ≤ cap) (hm : cap ≤ maxLen)
    (hb : ∀ j, j < n → xs.getD j 0 < 256) (hc : ∀ j, j < n → cur[off + j]? = some (bv (xs.getD j 0))) : Bts w B (.slice (some ⟨g, off, none⟩) n cap) xs :=
  ⟨_, _, _, rfl, hl, Nat.le_trans hn hm, ⟨hn, fun h => by cases h⟩, hm, hb, fun _ => ⟨g, off, rfl, hB, fun j hj => (h.cell _).trans (hc j hj)⟩⟩
/-- What is owned, as bytes. -/
theorem Bts.of_own {w : World} {base : Nat} {e : TypeId} {v : Value} {n : Nat} {xs : List Nat} (h : w.ownsRow base e 1 v n (xs.map bv)) (hb : ∀ y ∈ xs, y < 256) : Bts w w.heap.size v xs := by
  have hl : xs.length = n := by have := h.1; simpa using this
  have hb' : ∀ j, j < n → xs.getD j 0 < 256 := by
    intro j hj
    have hj' : j < xs.length := by omega
    have := hb _ (List.getElem_mem hj')
    simpa [hj'] using this
  rcases h.2 with ⟨rfl, rfl⟩ | ⟨g, cap, cur, rfl, _, hg, hn, hm, _, ht⟩
  · obtain rfl : xs = [] := List.eq_nil_of_length_eq_zero hl
    exact Bts.nil_ _ _
  · refine Bts.of_blk (off := 0) (t := e) (cur := cur) hg (Blk.lt (t := e) (cs := cur) hg) hl hn hm hb' (fun j hj => ?_)
    have hj' : j < xs.length := by omega
    have e1 : (cur.toList.take (n * 1))[j]? = (xs.map bv)[j]? := by rw [ht]
    rw [List.getElem?_take, if_pos (by omega)] at e1
    rw [Nat.zero_add]
    simp [hj'] at e1 ⊢
    exact e1

theorem le_numL (v n : Nat) : le (numL v n) = v % 2 ^ (8 * n) := by
  induction n with
  | zero => simp [numL, le, Nat.mod_one]
  | succ n ih =>
    rw [numL_snoc, le_append, ih, numL_length, pow256]
    simp only [le, Nat.mul_zero, Nat.add_zero]
    rw [show 8 * (n + 1) = 8 * n + 8 by omega, Nat.pow_add, Nat.mod_mul, dig]
theorem le_zeros (p : List Nat) (m : Nat) : le (p ++ List.replicate m 0) = le p := by
  have h : ∀ m, le (List.replicate m 0) = 0 := by
    intro m
    induction m with
    | zero => rfl
    | succ m ih => rw [List.replicate_succ, le, ih]
  rw [le_append, h, Nat.mul_zero, Nat.add_zero]
/-- A number's k lowest bytes in a block of zeros, read whole. -/
def padL (v k n : Nat) : List Nat := numL v k ++ List.replicate (n - k) 0
theorem padL_length (v k n : Nat) (h : k ≤ n) : (padL v k n).length = n := by simp [padL, numL_length]; omega
theorem padL_byte (v k n : Nat) : ∀ j, (padL v k n).getD j 0 < 256 := by
  intro j
  simp only [padL, List.getD_eq_getElem?_getD]
  by_cases hj : j < (numL v k).length
  · rw [List.getElem?_append_left hj]
    have := numL_byte v k _ (List.getElem_mem hj)
    simpa [hj] using this
  · rw [List.getElem?_append_right (by omega), List.getElem?_replicate]
    split <;> simp
theorem padL_cells (v k n : Nat) (h : k ≤ n) (j : Nat) (hj : j < n) : (putV (Array.replicate n (bv 0)) 0 v k)[0 + j]? = some (bv ((padL v k n).getD j 0)) := by
  rw [Nat.zero_add, putV_at _ _ _ _ _ (by simp; omega)]
  simp only [padL, List.getD_eq_getElem?_getD]
  by_cases hk : j < k
  · rw [if_pos (by omega), List.getElem?_append_left (by rw [numL_length]; exact hk)]
    simp [numL, hk]
  · rw [if_neg (by omega), List.getElem?_append_right (by rw [numL_length]; omega), numL_length]
    simp [hj]
    rw [List.getElem?_replicate, if_pos (by omega)]
    rfl
theorem le_padL (v k n : Nat) : le (padL v k n) = v % 2 ^ (8 * k) := by rw [padL, le_zeros, le_numL]

theorem map_bv_one (ys : List Nat) : ∀ u ∈ ys.map bv, u.oneCell' = true := by
  intro u hu
  obtain ⟨y, _, rfl⟩ := List.mem_map.1 hu
  rfl

/-- 'append(v, u...)' at bytes, v owned by the call, u any bytes, nil let in. -/
theorem wpList_append_bts {P : Program} {w : World} {ops : Array Oper} {rest : List Oper} {o : Oper} {a : Act} {Q : Exit → Act → World → Prop} (hgd : o.guard = none) (s x : Operand) (t : TypeId)
    (ho : o.op = .call { callee := .builtin .append, args := #[s, x], argTypes := #[t, t] })
    (base : Nat) (e : TypeId) (i : TypeInfo) (ht : P.underlying t = some (.slice e)) (hi : P.info? e = some i) (hz : i.zero = some (.int .u8 0)) (hsize : i.size = 1) (hby : i.bytes = 1)
    (v : Value) (n : Nat) (xs : List Nat) (hs : a.eval s = v) (hown : w.ownsRow base e 1 v n (xs.map bv))
    (u : Value) (ys : List Nat) (hx : a.eval x = u) (B : Nat) (hr : Bts w B u ys) (hlen : n + ys.length ≤ 140737488355328) (hbase : base ≤ w.heap.size)
    (h : ∀ v' w', Hid (w'.ownsRow base e 1 v' (n + ys.length) ((xs ++ ys).map bv)) → Hid (Below base w w') → wpList P ops Q rest (a.put o.dst v') w') : wpList P ops Q (o :: rest) a w := by
  obtain ⟨A, m, c, rfl, hl, hm, ⟨hc, hn⟩, hcm, hb, hcell⟩ := hr
  have hbel : ∀ w', w.grownBy w' v.ownBlock → Below base w w' := fun w' hg => (Below.refl base w).grown hg hbase (fun k hk => (hown.lt k hk).1)
  rcases A with _ | ad
  · obtain rfl := hn rfl
    obtain rfl : m = 0 := by omega
    obtain rfl : ys = [] := List.eq_nil_of_length_eq_zero hl
    refine wpList_append_own_none hgd s x t ho base e i 1 ht hi v n (xs.map bv) hs hown hx ?_
    exact h v w (show World.ownsRow _ _ _ _ _ _ _ by simpa using hown) (Below.refl _ _)
  · refine wpList_append_own w hgd s x t ho base e i (.int .u8 0) 1 1 ht hi hz hsize hby rfl (by omega) v n (xs.map bv) hs hown ad m c (ys.map bv) hx (by simp [hl]) ?_ (map_bv_one ys) (by unfold maxLen; omega) (by omega) hbase ?_
    · intro j u hu
      have hj : j < m := by
        have := (List.getElem?_eq_some_iff.1 hu).1
        simpa [hl] using this
      obtain ⟨b, off, he, _, hc'⟩ := hcell (by omega)
      injection he with he
      subst he
      have hj' : j < ys.length := by omega
      have hcj := hc' j hj
      simp [hj'] at hu hcj
      subst hu
      have e2 : (Addr.mk b off none).add j = ⟨b, off + j, none⟩ := by unfold Addr.add; split <;> simp_all
      rw [e2, hcj]
      rfl
    · intro v' w' h1 h2 _
      refine h v' w' (show World.ownsRow _ _ _ _ _ _ _ from ?_) (hbel w' h2)
      rw [List.map_append, hl]
      exact h1
/-- A literal of no byte. -/
theorem own_empty (w : World) (e : TypeId) : (w.alloc (.cells #[] e)).ownsRow w.heap.size e 1 (.slice (some ⟨w.heap.size, 0, none⟩) 0 0) 0 (([] : List Nat).map bv) := by
  have h := World.ownsRow_lit (base := w.heap.size) (e := e) (size := 1) w #[] 0 (Nat.le_refl _) (by simp [maxLen]) rfl
  simpa using h
/-- A slice of bytes that came in, as the shell of a law's proof hands it over. -/
theorem Bts.of_row {w : World} {a : Option Addr} {len cap : Nat} {zs : List Int}
    (h : (a = none ∧ len = 0 ∧ cap = 0 ∧ zs = []) ∨
      ∃ x, a = some x ∧ len ≤ cap ∧ cap ≤ maxLen ∧ zs.length = cap ∧ (∀ i, i < zs.length → w.cell? (x.add i) = some (.int .u8 (zs.getD i 0))) ∧ ∀ n ∈ zs, (Lit.int .u8 n).wf = true) :
    ∃ xs, xs.length = len ∧ Bts w w.heap.size (.slice a len cap) xs := by
  rcases h with ⟨rfl, rfl, rfl, rfl⟩ | ⟨x, rfl, hl, hm, hz, hcell, hwf⟩
  · exact ⟨[], rfl, Bts.nil_ _ _⟩
  · have hlen : ((zs.take len).map Int.toNat).length = len := by simp; omega
    have hget : ∀ j, j < len → (((zs.take len).map Int.toNat).getD j 0 : Nat) = (zs.getD j 0).toNat ∧ 0 ≤ zs.getD j 0 ∧ zs.getD j 0 ≤ 255 := by
      intro j hj
      have hj' : j < zs.length := by omega
      have hw := bounds_u8 (hwf _ (List.getElem_mem hj'))
      refine ⟨by simp [hj, hj'], ?_⟩
      simpa [hj'] using hw
    refine ⟨(zs.take len).map Int.toNat, hlen, some x, len, cap, rfl, hlen, Nat.le_trans hl hm, ⟨hl, fun h => by cases h⟩, hm, fun j hj => ?_, fun h0 => ?_⟩
    · obtain ⟨e, h1, h2⟩ := hget j hj
      omega
    · obtain ⟨b, off, spot⟩ := x
      have hc := hcell 0 (by omega)
      have hspot : spot = none := by simpa [Addr.add] using World.cell?_spot hc
      subst hspot
      refine ⟨b, off, rfl, ?_, fun j hj => ?_⟩
      · have := World.block_lt_of_cell? w _ hc
        simpa [Addr.add] using this
      · have hcj := hcell j (by omega)
        have e2 : (Addr.mk b off none).add j = ⟨b, off + j, none⟩ := by unfold Addr.add; split <;> simp_all
        rw [e2] at hcj
        obtain ⟨e, h1, h2⟩ := hget j hj
        rw [hcj, e, Int.toNat_of_nonneg h1]
theorem Bts.byte {w : World} {B : Nat} {v : Value} {xs : List Nat} (h : Bts w B v xs) : ∀ y ∈ xs, y < 256 := by
  obtain ⟨A, n, c, _, hl, _, _, _, hb, _⟩ := h
  intro y hy
  obtain ⟨j, hj, rfl⟩ := List.getElem_of_mem hy
  have := hb j (by omega)
  simpa [hj] using this
/-- The shape of an owned slice that has elements. -/
theorem own_shape {w : World} {base : Nat} {e : TypeId} {v : Value} {n : Nat} {xs : List Value} (h : w.ownsRow base e 1 v n xs) (hn : n ≠ 0) : ∃ g cap, v = .slice (some ⟨g, 0, none⟩) n cap := by
  rcases h.2 with ⟨_, h0⟩ | ⟨g, cap, cur, hv, _⟩
  · exact absurd h0 hn
  · exact ⟨g, cap, hv⟩
theorem below_drewN {B : Nat} {a w : World} (h : Below B a w) (n : Nat) : Below B a (w.drewN n) := ⟨h.os, h.tape, h.output, h.size, h.block⟩
end Go.Proofs.Ytkdniihnilcpfaa

/-! ## Copies: 'copy' of bytes into a block that is known whole, outside a region and inside one; only that block turns. Nothing of the program is named here.   Conditions: none beside those that each line bears. -/
namespace Go.Proofs.Ytkdniihnilcpfaa
open Go.RowKit
set_option linter.unusedVariables false

/-- Only block g turns, and none comes. -/
def Only (g : Nat) (w w' : World) : Prop := w.grownBy w' (some g) ∧ w'.heap.size = w.heap.size
theorem Only.refl (g : Nat) (w : World) : Only g w w := ⟨World.grownBy.refl _ _, rfl⟩
theorem Only.trans {g : Nat} {a b c : World} (h : Only g a b) (k : Only g b c) : Only g a c :=
  ⟨⟨k.1.os.trans h.1.os, k.1.tape.trans h.1.tape, k.1.output.trans h.1.output, by rw [k.2, h.2]; exact Nat.le_refl _, fun i hi hne => (k.1.block i (by rw [h.2]; exact hi) hne).trans (h.1.block i hi hne)⟩, k.2.trans h.2⟩
theorem Only.below {g B : Nat} {w w' : World} (h : Only g w w') (hg : B ≤ g) (hB : B ≤ w.heap.size) : Below B w w' :=
  (Below.refl B w).grown h.1 hB (fun k hk => by cases hk; exact hg)
theorem Only.blk {g k : Nat} {w w' : World} {t : TypeId} {cs : Array Value} (h : Only g w w') (hb : Blk w k t cs) (hne : k ≠ g) : Blk w' k t cs :=
  (h.1.block k hb.lt (fun e => hne (by injection e))).trans hb
theorem Only.setCell {g : Nat} {w w' : World} (h : Only g w w') (i : Nat) (u : Value) : Only g w (w'.setCell ⟨g, i, none⟩ u) := by
  refine ⟨⟨h.1.os, h.1.tape, h.1.output, by simpa [World.setCell] using h.1.size, fun k hk hne => ?_⟩, by simpa [World.setCell] using h.2⟩
  rw [Below.heap_setCell _ _ _ _ (by rintro rfl; exact hne rfl)]
  exact h.1.block k hk hne
theorem Only.setRow {w : World} {g : Nat} {t : TypeId} {cur : Array Value} (cs : Array Value) : Only g w (w.setRow g cs) :=
  ⟨⟨rfl, rfl, rfl, by simp [World.setRow], fun k hk hne => setRow_other w g k cs (fun e => hne (by rw [e]))⟩, by simp [World.setRow]⟩
theorem Only.bts {g B : Nat} {w w' : World} {v : Value} {xs : List Nat} (h : Only g w w') (hb : Bts w B v xs) (hg : B ≤ g) (hB : B ≤ w.heap.size) : Bts w' B v xs := hb.below (h.below hg hB)

theorem bts_src {w : World} {B sLen sCap : Nat} {sp : Option Addr} {ys : List Nat} (hr : Bts w B (.slice sp sLen sCap) ys) (h0 : 0 < ys.length) :
    ∃ ad, sp = some ad ∧ ∀ j v, (ys.map bv)[j]? = some v → w.cell? (ad.add j) = some v := by
  obtain ⟨A, m, c, hv, hl, hm, ⟨hc, hnn⟩, hcm, hb, hcell⟩ := hr
  injection hv with e1 e2 e3
  subst e1 e2 e3
  obtain ⟨b, off', he, _, hc'⟩ := hcell (by omega)
  refine ⟨_, he, fun j v hv => ?_⟩
  have hj : j < ys.length := by
    have := (List.getElem?_eq_some_iff.1 hv).1
    simpa using this
  have hcj := hc' j (by omega)
  simp [hj] at hv hcj
  subst hv
  have e2 : (Addr.mk b off' none).add j = ⟨b, off' + j, none⟩ := by unfold Addr.add; split <;> simp_all
  rw [e2, hcj]
  rfl
theorem bts_len {w : World} {B sLen sCap : Nat} {sp : Option Addr} {ys : List Nat} (hr : Bts w B (.slice sp sLen sCap) ys) : ys.length = sLen := by
  obtain ⟨A, m, c, hv, hl, _⟩ := hr
  injection hv with e1 e2 e3
  omega

theorem run_copy_bts {P : Program} {w : World} (dT sT ty : TypeId) (elem : TypeId) (hu : P.underlying dT = some (.slice elem)) (hsz : (P.info? elem).map (·.size) = some 1)
    (dp sp : Option Addr) (dLen dCap sLen sCap : Nat) (g off : Nat) (cur : Array Value) (t : TypeId) (hg : Blk w g t cur) (ys : List Nat) (B : Nat) (hr : Bts w B (.slice sp sLen sCap) ys)
    (hn : ys.length ≤ dLen) (hp : 0 < ys.length → dp = some ⟨g, off, none⟩) (hfit : off + ys.length ≤ cur.size) :
    ∃ w', (Builtin.copy_ #[dT, sT] ty #[.slice dp dLen dCap, .slice sp sLen sCap]).run P w = .ok (goInt (ys.map bv).length) w' ∧ Blk w' g t (splice cur.toList off (ys.map bv)).toArray ∧ Only g w w' := by
  have hl := bts_len hr
  by_cases h0 : ys.length = 0
  · obtain rfl : ys = [] := List.eq_nil_of_length_eq_zero h0
    refine ⟨w, ?_, by simpa [splice] using hg, Only.refl _ _⟩
    have hrun := run_copy_none (P := P) w dT sT ty elem dp sp dLen dCap sLen sCap hu hsz (by simp at hl; rw [← hl]; simp)
    simpa using hrun
  · obtain ⟨ad, rfl, hsrc⟩ := bts_src hr (by omega)
    obtain rfl := hp (by omega)
    have hrun := run_copy_row (P := P) w dT sT ty elem g off dLen dCap ad sLen sCap cur t (ys.map bv) hu hsz hg (by simp only [List.length_map, hl]; exact (Nat.min_eq_left (by omega)).symm) hsrc (by simpa using hfit) (map_bv_one ys)
    exact ⟨_, hrun, show _ = _ by simpa [splice] using setRow_heap w g _ _ t _ hg, Only.setRow (cur := cur) (t := t) _⟩

theorem wpList_copy_bts {P : Program} {w : World} {ops : Array Oper} {rest : List Oper} {o : Oper} {a : Act} {Q : Exit → Act → World → Prop} (hgd : o.guard = none) (d s : Operand) (dT sT : TypeId)
    (ho : o.op = .call { callee := .builtin .copy, args := #[d, s], argTypes := #[dT, sT] }) (elem : TypeId) (hu : P.underlying dT = some (.slice elem)) (hsz : (P.info? elem).map (·.size) = some 1)
    (dp sp : Option Addr) (dLen dCap sLen sCap : Nat) (hd : a.eval d = .slice dp dLen dCap) (hs : a.eval s = .slice sp sLen sCap)
    (g off : Nat) (cur : Array Value) (t : TypeId) (hg : Blk w g t cur) (ys : List Nat) (B : Nat) (hr : Bts w B (.slice sp sLen sCap) ys)
    (hn : ys.length ≤ dLen) (hp : 0 < ys.length → dp = some ⟨g, off, none⟩) (hfit : off + ys.length ≤ cur.size)
    (h : ∀ w', Hid (Blk w' g t (splice cur.toList off (ys.map bv)).toArray) → Hid (Only g w w') → wpList P ops Q rest (a.put o.dst (goInt (ys.map bv).length)) w') : wpList P ops Q (o :: rest) a w := by
  refine wpList_plain hgd fun K hK => ?_
  obtain ⟨w', hrun, h1, h2⟩ := run_copy_bts dT sT o.type elem hu hsz dp sp dLen dCap sLen sCap g off cur t hg ys B hr hn hp hfit
  unfold Oper.wp
  simp [execOp, ho, resolve, invoke, builtin, hd, hs, hrun, Result.andThen]
  exact hK _ _ (by simpa using h w' h1 h2)

theorem step_copy_bts {P : Program} {ops : Array Oper} {o : Oper} {a : Act} {w : World} {K : Act → World → Prop} {Q : Exit → Act → World → Prop} {E : Prop} (hgd : o.guard = none) (d s : Operand) (dT sT : TypeId)
    (ho : o.op = .call { callee := .builtin .copy, args := #[d, s], argTypes := #[dT, sT] }) (elem : TypeId) (hu : P.underlying dT = some (.slice elem)) (hsz : (P.info? elem).map (·.size) = some 1)
    (dp sp : Option Addr) (dLen dCap sLen sCap : Nat) (hd : a.eval d = .slice dp dLen dCap) (hs : a.eval s = .slice sp sLen sCap)
    (g off : Nat) (cur : Array Value) (t : TypeId) (hg : Blk w g t cur) (ys : List Nat) (B : Nat) (hr : Bts w B (.slice sp sLen sCap) ys)
    (hn : ys.length ≤ dLen) (hp : 0 < ys.length → dp = some ⟨g, off, none⟩) (hfit : off + ys.length ≤ cur.size)
    (h : ∀ w', Hid (Blk w' g t (splice cur.toList off (ys.map bv)).toArray) → Hid (Only g w w') → K (a.put o.dst (goInt (ys.map bv).length)) w') : if Region.wanted o (yielded ops a.tmps) = true then Oper.wp P o a w K Q else E := by
  have hw : Region.wanted o (yielded ops a.tmps) = true := by simp [Region.wanted, hgd]
  rw [if_pos hw]
  obtain ⟨w', hrun, h1, h2⟩ := run_copy_bts dT sT o.type elem hu hsz dp sp dLen dCap sLen sCap g off cur t hg ys B hr hn hp hfit
  have h3 := h w' h1 h2
  unfold Oper.wp
  simp [execOp, ho, resolve, invoke, builtin, hd, hs, hrun, Result.andThen]
  simp only [List.length_map] at h3
  exact h3

/-- n bytes that are 0, as made. -/
def zs (n : Nat) : Array Value := Array.replicate n (bv 0)
theorem zs_size (n : Nat) : (zs n).size = n := by simp [zs]
theorem madeCells_zs (n : Nat) : madeCells (Value.int .u8 0).cells (n * 1) = zs n := by
  apply Array.ext
  · simp [madeCells, zs]
  · intro i h1 h2
    simp [madeCells, zs, Value.cells, bv, Nat.mod_one]
theorem run_make_zs {P : Program} (t e : TypeId) (i : TypeInfo) (ht : P.underlying t = some (.slice e)) (hi : P.info? e = some i) (hz : i.zero = some (.int .u8 0)) (hs : i.size = 1) (hb : i.bytes = 1)
    (n : Nat) (hn : n ≤ 1000000) (w : World) :
    (Instr.makeSlice t (.int .i64 (n : Int)) (.int .i64 (n : Int))).run P w = .ok (.slice (some ⟨w.heap.size, 0, none⟩) n n) (w.alloc (.cells (zs n) e)) := by
  have hr := run_make (P := P) w t e i (.int .u8 0) ht hi hz .i64 .i64 n n (by omega) (by omega) (by rw [hb]; omega) (by omega)
  simp only [Int.toNat_natCast, hs, madeCells_zs] at hr
  exact hr
theorem splice_get {α : Type} (L : List α) (off : Nat) (cs : List α) (h : off + cs.length ≤ L.length) (j : Nat) :
    (splice L off cs)[j]? = if off ≤ j ∧ j < off + cs.length then cs[j - off]? else L[j]? := by
  have hp : (L.take off).length = off := by simp; omega
  unfold splice
  by_cases h1 : j < off
  · rw [if_neg (by omega), List.getElem?_append_left (by omega), List.getElem?_take, if_pos h1]
  · rw [List.getElem?_append_right (by omega), hp]
    by_cases h2 : j < off + cs.length
    · rw [if_pos ⟨by omega, h2⟩, List.getElem?_append_left (by omega)]
    · rw [if_neg (by omega), List.getElem?_append_right (by omega), List.getElem?_drop, show off + cs.length + (j - off - cs.length) = j by omega]
theorem splice_zs (n : Nat) (ys : List Nat) (h : ys.length = n) : (splice (zs n).toList 0 (ys.map bv)).toArray = (ys.map bv).toArray := by
  congr 1
  subst h
  simp [splice, zs]
/-- A block that is just these bytes, as a slice of them. -/
theorem Bts.of_whole {w : World} {g n : Nat} {t : TypeId} {xs : List Nat} (h : Blk w g t (xs.map bv).toArray) (hl : xs.length = n) (hn : n ≤ maxLen) (hb : ∀ y ∈ xs, y < 256) : Bts w w.heap.size (.slice (some ⟨g, 0, none⟩) n n) xs := by
  refine Bts.of_blk h h.lt hl (Nat.le_refl _) hn (fun j hj => ?_) (fun j hj => ?_)
  · have hj' : j < xs.length := by omega
    have := hb _ (List.getElem_mem hj')
    simpa [hj'] using this
  · have hj' : j < xs.length := by omega
    simp [hj']
end Go.Proofs.Ytkdniihnilcpfaa

/-! ## Over: What turns: a function at one place, a block's cells with others laid in. Nothing of the program is named here.   Conditions: none beside those that each line bears. -/
namespace Go.Proofs.Ytkdniihnilcpfaa
open Go.RowKit
set_option linter.unusedVariables false

/-! ### what turns -/

def upd {α : Type} (F : Nat → α) (f : Nat) (v : α) : Nat → α := fun k => if k = f then v else F k
theorem upd_same {α : Type} (F : Nat → α) (f : Nat) (v : α) : upd F f v f = v := by simp [upd]
theorem upd_other {α : Type} (F : Nat → α) (f : Nat) (v : α) {k : Nat} (h : k ≠ f) : upd F f v k = F k := by simp [upd, h]

/-- A block's cells with others laid in from o on. -/
def Over (cur cur' : Array Value) (o : Nat) (vs : List Value) : Prop := cur'.size = cur.size ∧ ∀ j, cur'[j]? = if o ≤ j ∧ j < o + vs.length then vs[j - o]? else cur[j]?
theorem Over.splice_ {cur : Array Value} {o : Nat} {vs : List Value} (h : o + vs.length ≤ cur.size) : Over cur (splice cur.toList o vs).toArray o vs := by
  refine ⟨by simp [splice]; omega, fun j => ?_⟩
  rw [List.getElem?_toArray, splice_get _ _ _ (by simpa using h)]
  simp
theorem Over.one {cur : Array Value} {o : Nat} {v : Value} (h : o < cur.size) : Over cur (cur.setIfInBounds o v) o [v] := by
  refine ⟨by simp, fun j => ?_⟩
  rw [Array.getElem?_setIfInBounds]
  by_cases h1 : o = j
  · subst h1
    simp [h]
  · rw [if_neg h1, if_neg (by simp; omega)]
theorem Blk.setCells {g : Nat} {t : TypeId} : ∀ (vs : List Value) (o : Nat) {w : World} {cur : Array Value}, Blk w g t cur → o + vs.length ≤ cur.size → ∃ cur', Blk (w.setCells g o vs) g t cur' ∧ Over cur cur' o vs
  | [], o, w, cur, h, _ => ⟨cur, h, rfl, fun j => by rw [if_neg (by simp)]⟩
  | v :: r, o, w, cur, h, hs => by
    rw [List.length_cons] at hs
    obtain ⟨cur', h1, h2, h3⟩ := Blk.setCells r (o + 1) (h.set_ o v) (by simp; omega)
    refine ⟨cur', h1, by simpa using h2, fun j => ?_⟩
    rw [h3 j, List.length_cons, Array.getElem?_setIfInBounds]
    by_cases c1 : o = j
    · subst c1
      rw [if_neg (by omega), if_pos rfl, if_pos (by omega), if_pos (by omega)]
      simp
    · rw [if_neg c1]
      by_cases c2 : o + 1 ≤ j ∧ j < o + 1 + r.length
      · rw [if_pos c2, if_pos (by omega), show j - o = (j - (o + 1)) + 1 by omega, List.getElem?_cons_succ]
      · rw [if_neg c2, if_neg (by omega)]
theorem Only.setCells {g : Nat} : ∀ (vs : List Value) (o : Nat) {w w' : World}, Only g w w' → Only g w (w'.setCells g o vs)
  | [], _, _, _, h => h
  | v :: r, o, _, _, h => Only.setCells r (o + 1) (h.setCell o v)
theorem Only.drew {g : Nat} {w w' : World} (h : Only g w w') : Only g w w'.drew := ⟨⟨h.1.os, h.1.tape, h.1.output, h.1.size, h.1.block⟩, h.2⟩

def zer : List Nat := List.replicate 64 0
theorem zer_length : zer.length = 64 := by simp [zer]
theorem zer_byte : ∀ y ∈ zer, y < 256 := by
  intro y hy
  rw [List.eq_of_mem_replicate hy]
  omega
theorem over_all (xs ys : List Nat) (h : xs.length = ys.length) : over xs 0 ys = ys := by
  simp [over, h]


/-- Of the blocks that are there just those in M may turn. -/
structure Turns (M : Nat → Prop) (w w' : World) : Prop where
  os : w'.os = w.os
  tape : w'.tape = w.tape
  output : w'.output = w.output
  size : w.heap.size ≤ w'.heap.size
  block : ∀ k, k < w.heap.size → ¬ M k → w'.heap[k]? = w.heap[k]?
section
variable {M M' : Nat → Prop} {w w' w'' : World}
theorem Turns.refl (M : Nat → Prop) (w : World) : Turns M w w := ⟨rfl, rfl, rfl, Nat.le_refl _, fun _ _ _ => rfl⟩
theorem Turns.trans (h : Turns M w w') (k : Turns M w' w'') : Turns M w w'' :=
  ⟨k.os.trans h.os, k.tape.trans h.tape, k.output.trans h.output, Nat.le_trans h.size k.size, fun i hi hm => (k.block i (Nat.lt_of_lt_of_le hi h.size) hm).trans (h.block i hi hm)⟩
theorem Turns.mono (h : Turns M w w') (hm : ∀ k, M k → M' k) : Turns M' w w' := ⟨h.os, h.tape, h.output, h.size, fun k hk hn => h.block k hk (fun hk' => hn (hm k hk'))⟩
theorem Turns.of_grown {row : Option Nat} (h : w.grownBy w' row) (hm : ∀ k, row = some k → M k) : Turns M w w' := ⟨h.os, h.tape, h.output, h.size, fun k hk hn => h.block k hk (fun e => hn (hm k e.symm))⟩
theorem Turns.of_only {g : Nat} (h : Only g w w') (hm : M g) : Turns M w w' := Turns.of_grown h.1 (fun k e => by injection e with e; exact e ▸ hm)
theorem Turns.of_below {B : Nat} (h : Below B w w') (hB : w.heap.size ≤ B) : Turns M w w' := ⟨h.os, h.tape, h.output, h.size, fun k hk _ => h.block k (Nat.lt_of_lt_of_le hk hB)⟩
theorem Turns.alloc (h : Turns M w w') (o : Obj) : Turns M w (w'.alloc o) := h.trans (Turns.of_below ((Below.refl _ _).alloc (Nat.le_refl _) _) (Nat.le_refl _))
theorem Turns.drew (h : Turns M w w') : Turns M w w'.drew := ⟨h.os, h.tape, h.output, h.size, h.block⟩
theorem Turns.below (h : Turns M w w') {B : Nat} (hm : ∀ k, M k → B ≤ k) (hB : B ≤ w.heap.size) : Below B w w' :=
  ⟨h.os, h.tape, h.output, h.size, fun k hk => h.block k (Nat.lt_of_lt_of_le hk hB) (fun hk' => by have := hm k hk'; omega)⟩
/-- A block that is new may turn. -/
theorem Turns.new_ {g : Nat} (h : Turns M w w') (k : Only g w' w'') (hg : w.heap.size ≤ g) : Turns M w w'' :=
  ⟨k.1.os.trans h.os, k.1.tape.trans h.tape, k.1.output.trans h.output, Nat.le_trans h.size k.1.size, fun i hi hm => (k.1.block i (Nat.lt_of_lt_of_le hi h.size) (fun e => by injection e with e; omega)).trans (h.block i hi hm)⟩
theorem Turns.blk (h : Turns M w w') {g : Nat} {t : TypeId} {cs : Array Value} (hb : Blk w g t cs) (hm : ¬ M g) : Blk w' g t cs := (h.block g hb.lt hm).trans hb
end
theorem over_whole {cur cur' vs : Array Value} (h : Over cur cur' 0 vs.toList) (hs : cur.size = vs.size) : cur' = vs := by
  obtain ⟨h1, h2⟩ := h
  apply Array.ext
  · omega
  · intro i c1 c2
    have := h2 i
    rw [if_pos (by simp; omega), Nat.sub_zero] at this
    simp [c1, c2] at this
    exact this
/-- A store of a whole array of bytes into a block that is just that long. -/
theorem wpList_store_blk {P : Program} {w : World} {ops : Array Oper} {rest : List Oper} {op : Oper} {a : Act} {Q : Exit → Act → World → Prop} (hgd : op.guard = none) (ty : TypeId) (x y : Operand) (ho : op.op = .store ty x y)
    (b : Nat) (t : TypeId) (cur : Array Value) (xs : List Nat) (hb : Blk w b t cur) (hx : a.eval x = .pointer (some ⟨b, 0, none⟩)) (hy : a.eval y = .agg (xs.map bv).toArray) (hs : cur.size = xs.length) (hi : (P.info? ty).map (·.size) = some xs.length)
    (h : ∀ w', Hid (Blk w' b t (xs.map bv).toArray) → Hid (Only b w w') → wpList P ops Q rest (a.put op.dst undef) w') : wpList P ops Q (op :: rest) a w := by
  have hth : w.there b 0 (xs.map bv).toArray.size := by
    intro j hj
    have hj' : j < cur.size := by simpa [hs] using hj
    exact ⟨by rw [hb.cell, Nat.zero_add, Array.getElem?_eq_getElem hj']; rfl, hb.frozen _⟩
  refine wpList_store_mid hgd ty x y ho b 0 (xs.map bv).toArray hx hy hth (by simpa using hi) (all_oneCell_toArray (map_bv_one xs)) (h _ ?_ (Only.setCells _ _ (Only.refl _ _)))
  obtain ⟨cur', h1, h2⟩ := Blk.setCells ((xs.map bv).toArray.toList) 0 hb (by simp; omega)
  rw [over_whole h2 (by simpa using hs)] at h1
  exact h1
theorem Blk.range_ {w : World} {b : Nat} {t : TypeId} {vs : List Value} (h : Blk w b t vs.toArray) : w.rangeAt b 0 vs := by
  intro j v hv
  rw [h.cell, Nat.zero_add]
  simpa using hv
theorem Blk.uniq {w : World} {g : Nat} {t : TypeId} {c1 c2 : Array Value} (h1 : Blk w g t c1) (h2 : Blk w g t c2) : c1 = c2 := by
  unfold Blk at h1 h2
  rw [h1] at h2
  injection h2 with h2
  injection h2 with h2
end Go.Proofs.Ytkdniihnilcpfaa

/-! ## Rec: A record's sector as a list of bytes: what it is made of, when a sector is one, and which records there are. Nothing of the program is named here.   Conditions: none beside those that each line bears. -/
namespace Go.Proofs.Ytkdniihnilcpfaa
open Go.RowKit
set_option linter.unusedVariables false

/-- The sum as a number. -/
def sumM (xs : List Nat) : Nat := (sumN xs / 4294967296) ^^^ (sumN xs % 4294967296)
theorem sumU_eq (xs : List Nat) : sumU xs = ((sumM xs : Nat) : Int) := by
  unfold sumU sumM sumI
  rw [← u32_xor_nat _ _ (by have := sumN_lt xs; omega) (by omega)]
  rfl
theorem sumM_lt (xs : List Nat) : sumM xs < 4294967296 := by
  unfold sumM
  have := sumN_lt xs
  exact Nat.xor_lt_two_pow (n := 32) (by omega) (by omega)

theorem numL_le : ∀ (xs : List Nat), (∀ y ∈ xs, y < 256) → numL (le xs) xs.length = xs
  | [], _ => rfl
  | x :: r, h => by
    have hx := h x (List.mem_cons_self ..)
    have ih := numL_le r (fun y hy => h y (List.mem_cons_of_mem _ hy))
    have hd : dig (x + 256 * le r) 0 = x := by unfold dig; simp; omega
    have hs : ∀ k, dig (x + 256 * le r) (k + 1) = dig (le r) k := by
      intro k
      rw [← dig_shift, show (x + 256 * le r) / 256 = le r by omega]
    have e : numL (x + 256 * le r) (r.length + 1) = dig (x + 256 * le r) 0 :: numL (le r) r.length := by
      unfold numL
      rw [List.range_succ_eq_map, List.map_cons, List.map_map]
      congr 1
      exact List.map_congr_left (fun k _ => hs k)
    rw [le, List.length_cons, e, hd, ih]
theorem le_numL_lt (v n : Nat) (h : v < 2 ^ (8 * n)) : le (numL v n) = v := by rw [le_numL, Nat.mod_eq_of_lt h]

theorem win_append_left (a b : List Nat) (n : Nat) (h : a.length = n) : win (a ++ b) 0 n = a := by
  unfold win
  rw [List.drop_zero]
  exact List.take_left' h
theorem win_whole (xs : List Nat) (n : Nat) (h : xs.length = n) : win xs 0 n = xs := by
  unfold win
  rw [List.drop_zero]
  exact List.take_of_length_le (by omega)
theorem win_split (xs : List Nat) (a n m : Nat) (h : a + n ≤ xs.length) : win xs a (n + m) = win xs a n ++ win xs (a + n) m := by
  unfold win
  rw [List.take_add, List.drop_drop]
theorem win_one (xs : List Nat) (a : Nat) (h : a < xs.length) : win xs a 1 = [xs.getD a 0] := by
  unfold win
  rw [List.drop_eq_getElem_cons h, List.take_succ_cons, List.take_zero]
  simp [h]
theorem win_num (s : List Nat) (a k : Nat) (h : a + k ≤ s.length) (hb : ∀ y ∈ s, y < 256) : numL (le (win s a k)) k = win s a k := by
  have h1 := numL_le (win s a k) (win_byte s a k (fun j hj => by have := hb _ (List.getElem_mem hj); simpa [hj] using this))
  rw [win_length s a k h] at h1
  exact h1
theorem win_getD (xs : List Nat) (a k j : Nat) (hj : j < k) : (win xs a k).getD j 0 = xs.getD (a + j) 0 := by
  unfold win
  simp only [List.getD_eq_getElem?_getD, List.getElem?_take, if_pos hj, List.getElem?_drop]
theorem win_zero (xs : List Nat) (a k : Nat) (hl : a + k ≤ xs.length) (h : ∀ j, a ≤ j → j < a + k → xs.getD j 0 = 0) : win xs a k = List.replicate k 0 := by
  have hwl := win_length xs a k hl
  apply List.ext_getElem
  · simp [hwl]
  · intro j h1 h2
    have h3 := win_getD xs a k j (by omega)
    rw [h (a + j) (by omega) (by omega)] at h3
    simp only [List.getElem_replicate]
    simpa [List.getD_eq_getElem?_getD, List.getElem?_eq_getElem h1] using h3

/-- A record's sector, ahead of its sum. -/
def headL (gen n : Nat) (b : List Nat) : List Nat := numL gen 4 ++ (numL n 4 ++ ([b.length] ++ (b ++ List.replicate (51 - b.length) 0)))
/-- A record's sector. -/
def secL (gen n : Nat) (b : List Nat) : List Nat := headL gen n b ++ numL (sumM (headL gen n b)) 4
theorem headL_length (gen n : Nat) (b : List Nat) (h : b.length ≤ 50) : (headL gen n b).length = 60 := by
  simp [headL, numL_length]
  omega
theorem secL_length (gen n : Nat) (b : List Nat) (h : b.length ≤ 50) : (secL gen n b).length = 64 := by
  simp [secL, numL_length, headL_length gen n b h]
theorem headL_byte (gen n : Nat) (b : List Nat) (h : b.length ≤ 50) (hb : ∀ y ∈ b, y < 256) : ∀ y ∈ headL gen n b, y < 256 := by
  intro y hy
  simp only [headL, List.mem_append, List.mem_singleton, List.mem_replicate] at hy
  rcases hy with hy | hy | hy | hy | hy
  · exact numL_byte _ _ y hy
  · exact numL_byte _ _ y hy
  · omega
  · exact hb y hy
  · omega
theorem secL_byte (gen n : Nat) (b : List Nat) (h : b.length ≤ 50) (hb : ∀ y ∈ b, y < 256) : ∀ y ∈ secL gen n b, y < 256 := by
  intro y hy
  rcases List.mem_append.1 hy with hy | hy
  · exact headL_byte gen n b h hb y hy
  · exact numL_byte _ _ y hy

/-- Is that sector the record with that number, of that gen? -/
def IsRec (s : List Nat) (gen n : Nat) : Prop := s.getD 8 0 ≤ 50 ∧ secL gen n (win s 9 (s.getD 8 0)) = s
instance (s : List Nat) (gen n : Nat) : Decidable (IsRec s gen n) := by unfold IsRec; infer_instance

section
variable {gen n : Nat} {b : List Nat}
theorem secL_gen : win (secL gen n b) 0 4 = numL gen 4 := by
  unfold secL headL
  rw [List.append_assoc]
  exact win_append_left _ _ 4 (numL_length _ _)
theorem secL_num : win (secL gen n b) 4 4 = numL n 4 := by
  have e : secL gen n b = numL gen 4 ++ (numL n 4 ++ ([b.length] ++ (b ++ List.replicate (51 - b.length) 0) ++ numL (sumM (headL gen n b)) 4)) := by
    rw [secL, headL]
    simp only [List.append_assoc]
  rw [e]
  unfold win
  rw [List.drop_left' (numL_length _ _)]
  exact List.take_left' (numL_length _ _)
theorem secL_pay : win (secL gen n b) 9 b.length = b := by
  have e : secL gen n b = (numL gen 4 ++ (numL n 4 ++ [b.length])) ++ (b ++ (List.replicate (51 - b.length) 0 ++ numL (sumM (headL gen n b)) 4)) := by
    rw [secL, headL]
    simp only [List.append_assoc]
  rw [e]
  unfold win
  rw [List.drop_left' (by simp [numL_length])]
  exact List.take_left' rfl
end
section
variable {gen n : Nat} {b : List Nat} (h : b.length ≤ 50)
include h
theorem secL_at8 : (secL gen n b).getD 8 0 = b.length := by
  unfold secL headL
  simp only [List.getD_eq_getElem?_getD]
  rw [List.getElem?_append_left (by simp [numL_length]; omega), List.getElem?_append_right (by simp [numL_length]), List.getElem?_append_right (by simp [numL_length])]
  simp [numL_length]
theorem secL_sum : win (secL gen n b) 60 4 = numL (sumM (headL gen n b)) 4 := by
  unfold secL win
  rw [List.drop_left' (headL_length gen n b h)]
  exact List.take_of_length_le (by simp [numL_length])
theorem secL_head : (secL gen n b).take 60 = headL gen n b := by
  unfold secL
  exact List.take_left' (headL_length gen n b h)
theorem secL_behind (j : Nat) (h1 : 9 + b.length ≤ j) (h2 : j < 60) : (secL gen n b).getD j 0 = 0 := by
  have e : secL gen n b = (numL gen 4 ++ (numL n 4 ++ ([b.length] ++ b))) ++ (List.replicate (51 - b.length) 0 ++ numL (sumM (headL gen n b)) 4) := by
    rw [secL, headL]
    simp only [List.append_assoc]
  rw [e]
  simp only [List.getD_eq_getElem?_getD]
  rw [List.getElem?_append_right (by simp [numL_length]; omega), List.getElem?_append_left (by simp [numL_length]; omega)]
  rw [List.getElem?_replicate]
  split <;> rfl
theorem secL_rec : IsRec (secL gen n b) gen n := by
  refine ⟨by rw [secL_at8 h]; exact h, ?_⟩
  rw [secL_at8 h, secL_pay]
theorem secL_other {gen' n' : Nat} (hr : IsRec (secL gen n b) gen' n') (hg : gen < 4294967296) (hg' : gen' < 4294967296) : gen' = gen := by
  obtain ⟨h1, h2⟩ := hr
  rw [secL_at8 h, secL_pay] at h2
  have h3 := congrArg (fun s => le (win s 0 4)) h2
  simp only [secL_gen] at h3
  rw [le_numL_lt _ _ (by omega), le_numL_lt _ _ (by omega)] at h3
  exact h3
end

/-- What is held against a sector to tell whether it is that record. -/
theorem isRec_iff {s : List Nat} {gen n : Nat} (hl : s.length = 64) (hb : ∀ y ∈ s, y < 256) (hg : gen < 4294967296) (hn : n < 4294967296) :
    IsRec s gen n ↔ ((le (win s 60 4) = sumM (s.take 60) ∧ le (win s 0 4) = gen ∧ le (win s 4 4) = n) ∧ s.getD 8 0 ≤ 50 ∧ ∀ j, 9 + s.getD 8 0 ≤ j → j < 60 → s.getD j 0 = 0) := by
  constructor
  · rintro ⟨h1, h2⟩
    have hw : (win s 9 (s.getD 8 0)).length = s.getD 8 0 := win_length _ _ _ (by omega)
    have hw' : (win s 9 (s.getD 8 0)).length ≤ 50 := by omega
    refine ⟨⟨?_, ?_, ?_⟩, h1, fun j h3 h4 => ?_⟩
    · rw [← h2, secL_sum hw', secL_head hw', le_numL_lt _ _ (by have := sumM_lt (headL gen n (win s 9 (s.getD 8 0))); omega)]
    · rw [← h2, secL_gen, le_numL_lt _ _ (by omega)]
    · rw [← h2, secL_num, le_numL_lt _ _ (by omega)]
    · have := secL_behind (gen := gen) (n := n) hw' j (by omega) h4
      rw [h2] at this
      exact this
  · rintro ⟨⟨h1, h2, h3⟩, h4, h5⟩
    refine ⟨h4, ?_⟩
    obtain ⟨L, hL⟩ : ∃ L, L = s.getD 8 0 := ⟨_, rfl⟩
    rw [← hL] at h4 h5 ⊢
    have hw : (win s 9 L).length = L := win_length _ _ _ (by omega)
    have e1 : win s 0 4 = numL gen 4 := by rw [← h2]; exact (win_num s 0 4 (by omega) hb).symm
    have e2 : win s 4 4 = numL n 4 := by rw [← h3]; exact (win_num s 4 4 (by omega) hb).symm
    have e3 : win s 60 4 = numL (sumM (s.take 60)) 4 := by rw [← h1]; exact (win_num s 60 4 (by omega) hb).symm
    have e4 : win s (9 + L) (51 - L) = List.replicate (51 - L) 0 := win_zero s _ _ (by omega) (fun j h6 h7 => h5 j h6 (by omega))
    have e5 : win s 0 60 = headL gen n (win s 9 L) := by
      unfold headL
      rw [hw, ← e1, ← e2, ← e4, hL, ← win_one s 8 (by omega), ← hL, ← win_split s 9 L (51 - L) (by omega), ← win_split s 8 1 _ (by omega), ← win_split s 4 4 _ (by omega), ← win_split s 0 4 _ (by omega)]
      congr 1
      omega
    unfold secL
    rw [← e5, show win s 0 60 = s.take 60 from by unfold win; rw [List.drop_zero], ← e3]
    have e6 : win s 60 4 = s.drop 60 := by
      unfold win
      exact List.take_of_length_le (by simp; omega)
    rw [e6, List.take_append_drop]
theorem zer_take : zer.take 60 = List.replicate 60 0 := by unfold zer; rw [List.take_replicate]; rfl
set_option maxRecDepth 20000 in
theorem sum60 : sumM (List.replicate 60 0) ≠ 0 := by decide +kernel
/-- A sector of zeros is no record. -/
theorem zer_none (gen n : Nat) : ¬ IsRec zer gen n := by
  rintro ⟨h1, h2⟩
  have e8 : zer.getD 8 0 = 0 := by unfold zer; rfl
  rw [e8] at h2
  have hw : (win zer 9 0) = [] := by unfold win; simp
  rw [hw] at h2
  have h3 := secL_sum (gen := gen) (n := n) (b := []) (by simp)
  have h4 := secL_head (gen := gen) (n := n) (b := []) (by simp)
  rw [h2] at h3 h4
  rw [← h4, zer_take] at h3
  have h5 := congrArg le h3
  rw [le_numL_lt _ _ (by have := sumM_lt (List.replicate 60 0); omega)] at h5
  exact sum60 (h5.symm.trans (by decide))

/-- The bytes of a sector's record. -/
def pay (F : Nat → List Nat) (j : Nat) : List Nat := win (F j) 9 ((F j).getD 8 0)
/-- The records of the first m sectors. -/
def pays (F : Nat → List Nat) (m : Nat) : List (List Nat) := (List.range m).map (pay F)
theorem pays_length (F : Nat → List Nat) (m : Nat) : (pays F m).length = m := by simp [pays]
theorem pays_succ (F : Nat → List Nat) (m : Nat) : pays F (m + 1) = pays F m ++ [pay F m] := by simp [pays, List.range_succ]
theorem pays_getD (F : Nat → List Nat) (m j : Nat) (h : j < m) : (pays F m).getD j [] = pay F j := by simp [pays, h]
/-- There are m records, from the first one on. -/
def Stop (F : Nat → List Nat) (gen m : Nat) : Prop := m ≤ 64 ∧ (∀ j, j < m → IsRec (F j) gen j) ∧ (m < 64 → ¬ IsRec (F m) gen m)
theorem Stop.uniq {F F' : Nat → List Nat} {gen m m' : Nat} (h : Stop F gen m) (h' : Stop F' gen m') (he : ∀ j, j < 64 → F j = F' j) : m = m' := by
  obtain ⟨h1, h2, h3⟩ := h
  obtain ⟨k1, k2, k3⟩ := h'
  rcases Nat.lt_trichotomy m m' with h | h | h
  · exact absurd (he m (by omega) ▸ k2 m h) (h3 (by omega))
  · exact h
  · exact absurd ((he m' (by omega)).symm ▸ h2 m' h) (k3 (by omega))
theorem Stop.exists_ (F : Nat → List Nat) (gen : Nat) : ∃ m, Stop F gen m := by
  have h : ∀ k, k ≤ 64 → (∃ m, Stop F gen m) ∨ ∀ j, j < k → IsRec (F j) gen j := by
    intro k
    induction k with
    | zero => intro _; exact .inr fun j hj => absurd hj (by omega)
    | succ k ih =>
      intro hk
      rcases ih (by omega) with h | h
      · exact .inl h
      · by_cases hr : IsRec (F k) gen k
        · refine .inr fun j hj => ?_
          by_cases e : j = k
          · subst e; exact hr
          · exact h j (by omega)
        · exact .inl ⟨k, by omega, h, fun _ => hr⟩
  rcases h 64 (Nat.le_refl _) with h | h
  · exact h
  · exact ⟨64, Nat.le_refl _, h, fun h => absurd h (by omega)⟩
theorem pays_congr {F F' : Nat → List Nat} {m : Nat} (h : ∀ j, j < m → F j = F' j) : pays F m = pays F' m := by
  unfold pays
  refine List.map_congr_left fun j hj => ?_
  unfold pay
  rw [h j (by simpa using hj)]
end Go.Proofs.Ytkdniihnilcpfaa

/-! ## Slo: A slot's sectors as lists of bytes: its head, when it is whole, and what is loaded of two of them. Nothing of the program is named here.   Conditions: none beside those that each line bears. -/
namespace Go.Proofs.Ytkdniihnilcpfaa
open Go.RowKit
set_option linter.unusedVariables false

/-- A head, ahead of its sum. -/
def preL (g : Nat) (b : List Nat) : List Nat := numL g 4 ++ numL b.length 4
/-- A slot's head. -/
def hedL (g : Nat) (b : List Nat) : List Nat := preL g b ++ (numL (sumM (preL g b ++ b)) 4 ++ List.replicate 52 0)
theorem preL_length (g : Nat) (b : List Nat) : (preL g b).length = 8 := by simp [preL, numL_length]
theorem preL_byte (g : Nat) (b : List Nat) : ∀ y ∈ preL g b, y < 256 := by
  intro y hy
  rcases List.mem_append.1 hy with hy | hy
  · exact numL_byte _ _ y hy
  · exact numL_byte _ _ y hy
theorem hedL_length (g : Nat) (b : List Nat) : (hedL g b).length = 64 := by simp [hedL, preL_length, numL_length]
theorem hedL_byte (g : Nat) (b : List Nat) : ∀ y ∈ hedL g b, y < 256 := by
  intro y hy
  simp only [hedL, List.mem_append, List.mem_replicate] at hy
  rcases hy with hy | hy | hy
  · exact preL_byte g b y hy
  · exact numL_byte _ _ y hy
  · omega
theorem hedL_gen {g : Nat} {b : List Nat} (h : g < 4294967296) : le (win (hedL g b) 0 4) = g := by
  unfold hedL preL
  rw [List.append_assoc, win_append_left _ _ 4 (numL_length _ _), le_numL_lt _ _ (by omega)]
theorem hedL_len {g : Nat} {b : List Nat} (h : b.length < 4294967296) : le (win (hedL g b) 4 4) = b.length := by
  have e : win (hedL g b) 4 4 = numL b.length 4 := by
    unfold hedL preL win
    rw [List.append_assoc, List.drop_left' (numL_length _ _)]
    exact List.take_left' (numL_length _ _)
  rw [e, le_numL_lt _ _ (by omega)]

/-- What a slot's sectors say: the gen, how many bytes, and these. -/
def sloG (F : Nat → List Nat) (w : Nat) : Nat := le (win (F (64 + 16 * w)) 0 4)
def sloN (F : Nat → List Nat) (w : Nat) : Nat := le (win (F (64 + 16 * w)) 4 4)
def sloA (F : Nat → List Nat) (w : Nat) : List Nat := ((List.range 15).map (fun j => F (65 + 16 * w + j))).flatten
def sloB (F : Nat → List Nat) (w : Nat) : List Nat := (sloA F w).take (sloN F w)
def Whole (F : Nat → List Nat) (w : Nat) : Prop := sloN F w ≤ 960 ∧ sloG F w % 2 = w ∧ hedL (sloG F w) (sloB F w) = F (64 + 16 * w)
instance (F : Nat → List Nat) (w : Nat) : Decidable (Whole F w) := by unfold Whole; infer_instance
/-- What is loaded when the slots below w have been looked at. -/
def loadN (F : Nat → List Nat) : Nat → Nat × List Nat
  | 0 => (0, [])
  | w + 1 => if Whole F w ∧ (loadN F w).1 ≤ sloG F w then (sloG F w, sloB F w) else loadN F w
def loadR (F : Nat → List Nat) : Nat × List Nat := loadN F 2

theorem flat_length (F : Nat → List Nat) (h : ∀ f, (F f).length = 64) (a n : Nat) : (((List.range n).map (fun j => F (a + j))).flatten).length = 64 * n := by
  induction n with
  | zero => rfl
  | succ n ih =>
    rw [List.range_succ, List.map_append, List.flatten_append, List.length_append, ih]
    simp [h]
    omega
theorem sloA_length {F : Nat → List Nat} (w : Nat) (h : ∀ f, 65 + 16 * w ≤ f → f < 80 + 16 * w → (F f).length = 64) : (sloA F w).length = 960 := by
  have h2 : ∀ n, n ≤ 15 → (((List.range n).map (fun j => F (65 + 16 * w + j))).flatten).length = 64 * n := by
    intro n
    induction n with
    | zero => intro _; rfl
    | succ n ih =>
      intro hn
      rw [List.range_succ, List.map_append, List.flatten_append, List.length_append, ih (by omega)]
      simp [h (65 + 16 * w + n) (by omega) (by omega)]
      omega
  exact h2 15 (Nat.le_refl _)
/-- A slot whose head is right, and whose bytes stand behind it. -/
theorem whole_of {F : Nat → List Nat} {w g : Nat} {b : List Nat} (hg : g < 4294967296) (hw : g % 2 = w) (hb : b.length ≤ 960) (hh : F (64 + 16 * w) = hedL g b) (ha : (sloA F w).take b.length = b) :
    Whole F w ∧ sloG F w = g ∧ sloB F w = b := by
  have h1 : sloG F w = g := by unfold sloG; rw [hh]; exact hedL_gen hg
  have h2 : sloN F w = b.length := by unfold sloN; rw [hh]; exact hedL_len (by omega)
  have h3 : sloB F w = b := by unfold sloB; rw [h2]; exact ha
  exact ⟨⟨by omega, by rw [h1]; exact hw, by rw [h1, h3, hh]⟩, h1, h3⟩
set_option maxRecDepth 20000 in
theorem sum8 : sumM (preL 0 []) ≠ 0 := by decide +kernel
/-- A head of zeros is none. -/
theorem zer_slot {F : Nat → List Nat} {w : Nat} (hh : F (64 + 16 * w) = zer) : ¬ Whole F w := by
  rintro ⟨_, _, h3⟩
  have z4 : ∀ a, a + 4 ≤ 64 → win zer a 4 = [0, 0, 0, 0] := by
    intro a ha
    have := win_zero zer a 4 (by rw [zer_length]; exact ha) (fun j _ _ => by unfold zer; simp only [List.getD_eq_getElem?_getD, List.getElem?_replicate]; split <;> rfl)
    exact this
  have h1 : sloG F w = 0 := by unfold sloG; rw [hh, z4 0 (by omega)]; rfl
  have h2 : sloN F w = 0 := by unfold sloN; rw [hh, z4 4 (by omega)]; rfl
  have h4 : sloB F w = [] := by unfold sloB; rw [h2]; rfl
  rw [h1, h4, hh] at h3
  have h5 : win (hedL 0 []) 8 4 = numL (sumM (preL 0 [] ++ [])) 4 := by
    unfold hedL win
    rw [List.drop_left' (preL_length 0 [])]
    exact List.take_left' (numL_length _ _)
  rw [h3, z4 8 (by omega), List.append_nil] at h5
  have h6 := congrArg le h5
  rw [le_numL_lt _ _ (by have := sumM_lt (preL 0 []); omega)] at h6
  exact sum8 (h6.symm.trans (by decide))
theorem zer_gen {F : Nat → List Nat} {w : Nat} (hh : F (64 + 16 * w) = zer) : sloG F w = 0 := by
  unfold sloG
  rw [hh]
  decide
/-- The slot of the greatest gen is loaded. -/
theorem load_of {F : Nat → List Nat} {g : Nat} {b : List Nat} (h : Whole F (g % 2) ∧ sloG F (g % 2) = g ∧ sloB F (g % 2) = b) (ho : Whole F (1 - g % 2) → sloG F (1 - g % 2) < g) : loadR F = (g, b) := by
  obtain ⟨h1, h2, h3⟩ := h
  show (if Whole F 1 ∧ (loadN F 1).1 ≤ sloG F 1 then (sloG F 1, sloB F 1) else loadN F 1) = (g, b)
  have e1 : loadN F 1 = if Whole F 0 ∧ 0 ≤ sloG F 0 then (sloG F 0, sloB F 0) else (0, []) := rfl
  by_cases c : g % 2 = 0
  · rw [c] at h1 h2 h3 ho
    have i1 : loadN F 1 = (g, b) := by rw [e1, if_pos ⟨h1, Nat.zero_le _⟩, h2, h3]
    rw [i1, if_neg]
    rintro ⟨k1, k2⟩
    have : sloG F 1 < g := ho k1
    simp only at k2
    omega
  · have c1 : g % 2 = 1 := by omega
    rw [c1] at h1 h2 h3 ho
    have i1 : (loadN F 1).1 ≤ sloG F 1 := by
      rw [e1, h2]
      split
      · rename_i k
        have : sloG F 0 < g := ho k.1
        simp only
        omega
      · exact Nat.zero_le _
    rw [if_pos ⟨h1, i1⟩, h2, h3]
theorem load_none {F : Nat → List Nat} (h0 : ¬ Whole F 0) (h1 : ¬ Whole F 1) : loadR F = (0, []) := by
  show (if Whole F 1 ∧ (loadN F 1).1 ≤ sloG F 1 then (sloG F 1, sloB F 1) else loadN F 1) = (0, [])
  rw [if_neg (fun k => h1 k.1)]
  show (if Whole F 0 ∧ (loadN F 0).1 ≤ sloG F 0 then (sloG F 0, sloB F 0) else loadN F 0) = (0, [])
  rw [if_neg (fun k => h0 k.1)]
  rfl
theorem load_congr {F F' : Nat → List Nat} (h : ∀ f, 64 ≤ f → f < 96 → F f = F' f) : loadR F = loadR F' := by
  have ha : ∀ w, w < 2 → sloA F w = sloA F' w := by
    intro w hw
    unfold sloA
    congr 1
    refine List.map_congr_left fun j hj => ?_
    have := List.mem_range.1 hj
    exact h _ (by omega) (by omega)
  have hG : ∀ w, w < 2 → sloG F w = sloG F' w := fun w hw => by unfold sloG; rw [h _ (by omega) (by omega)]
  have hN : ∀ w, w < 2 → sloN F w = sloN F' w := fun w hw => by unfold sloN; rw [h _ (by omega) (by omega)]
  have hB : ∀ w, w < 2 → sloB F w = sloB F' w := fun w hw => by unfold sloB; rw [ha w hw, hN w hw]
  have hW : ∀ w, w < 2 → (Whole F w ↔ Whole F' w) := fun w hw => by unfold Whole; rw [hN w hw, hG w hw, hB w hw, h _ (by omega) (by omega)]
  have hL : ∀ n, n ≤ 2 → loadN F n = loadN F' n := by
    intro n
    induction n with
    | zero => intro _; rfl
    | succ n ih =>
      intro hn
      unfold loadN
      rw [ih (by omega), hG n (by omega), hB n (by omega)]
      simp only [hW n (by omega)]
  exact hL 2 (Nat.le_refl _)

/-! ### what is saved -/

/-- The j-th sector of some bytes, with zeros behind their end. -/
def chk (b : List Nat) (j : Nat) : List Nat := win b (64 * j) 64 ++ List.replicate (64 - (win b (64 * j) 64).length) 0
theorem chk_length (b : List Nat) (j : Nat) : (chk b j).length = 64 := by
  have : (win b (64 * j) 64).length ≤ 64 := by unfold win; simp; omega
  simp [chk]
  omega
theorem chk_byte (b : List Nat) (hb : ∀ y ∈ b, y < 256) (j : Nat) : ∀ y ∈ chk b j, y < 256 := by
  intro y hy
  rcases List.mem_append.1 hy with hy | hy
  · exact hb y (List.mem_of_mem_drop (List.mem_of_mem_take hy))
  · rw [List.eq_of_mem_replicate hy]; omega
/-- How many sectors the bytes take. -/
def nsec (b : List Nat) : Nat := (b.length + 63) / 64
theorem nsec_le {b : List Nat} (h : b.length ≤ 960) : nsec b ≤ 15 := by unfold nsec; omega
/-- The slot of g, while k sectors of bytes have been written. -/
def datL (F : Nat → List Nat) (g : Nat) (b : List Nat) (k : Nat) : Nat → List Nat := fun f => if 65 + 16 * (g % 2) ≤ f ∧ f < 65 + 16 * (g % 2) + k then chk b (f - (65 + 16 * (g % 2))) else F f
theorem datL_zero (F : Nat → List Nat) (g : Nat) (b : List Nat) : datL F g b 0 = F := by
  funext f
  unfold datL
  rw [if_neg (by omega)]
theorem datL_step (F : Nat → List Nat) (g : Nat) (b : List Nat) (k : Nat) : upd (datL F g b k) (65 + 16 * (g % 2) + k) (chk b k) = datL F g b (k + 1) := by
  funext f
  unfold upd datL
  by_cases e : f = 65 + 16 * (g % 2) + k
  · subst e
    rw [if_pos rfl, if_pos ⟨by omega, by omega⟩]
    congr 1
    omega
  · rw [if_neg e]
    by_cases c : 65 + 16 * (g % 2) ≤ f ∧ f < 65 + 16 * (g % 2) + k
    · rw [if_pos c, if_pos ⟨c.1, by omega⟩]
    · rw [if_neg c, if_neg (by omega)]
theorem datL_at {F : Nat → List Nat} {g k j : Nat} {b : List Nat} (h : j < k) : datL F g b k (65 + 16 * (g % 2) + j) = chk b j := by
  unfold datL
  rw [if_pos ⟨by omega, by omega⟩]
  congr 1
  omega
theorem datL_other {F : Nat → List Nat} {g k f : Nat} {b : List Nat} (h : f < 65 + 16 * (g % 2) ∨ 65 + 16 * (g % 2) + k ≤ f) : datL F g b k f = F f := by
  unfold datL
  rw [if_neg (by omega)]
/-- All of it saved. -/
def savL (F : Nat → List Nat) (g : Nat) (b : List Nat) : Nat → List Nat := upd (datL F g b (nsec b)) (64 + 16 * (g % 2)) (hedL g b)
theorem flat_take (F : Nat → List Nat) (a : Nat) (b : List Nat) : ∀ n m, (∀ j, j < n → F (a + j) = chk b j) → n ≤ m → b.length ≤ 64 * n → (((List.range m).map (fun j => F (a + j))).flatten).take b.length = b := by
  have h1 : ∀ n, (∀ j, j < n → F (a + j) = chk b j) → ((((List.range n).map (fun j => F (a + j))).flatten).take b.length = b.take (64 * n)) ∧ (((List.range n).map (fun j => F (a + j))).flatten).length = 64 * n := by
    intro n
    induction n with
    | zero => intro _; simp
    | succ n ih =>
      intro h
      obtain ⟨i1, i2⟩ := ih (fun j hj => h j (by omega))
      rw [List.range_succ, List.map_append, List.flatten_append]
      simp only [List.map_cons, List.map_nil, List.flatten_cons, List.flatten_nil, List.append_nil]
      rw [h n (by omega)]
      refine ⟨?_, by rw [List.length_append, i2, chk_length]; omega⟩
      rw [List.take_append, i1, i2]
      by_cases c : b.length ≤ 64 * n
      · rw [Nat.sub_eq_zero_of_le c, List.take_zero, List.append_nil, List.take_of_length_le c, List.take_of_length_le (by omega)]
      · have e : (chk b n).take (b.length - 64 * n) = win b (64 * n) 64 := by
          have hw : (win b (64 * n) 64).length = min 64 (b.length - 64 * n) := by unfold win; simp
          unfold chk
          by_cases c2 : b.length - 64 * n ≤ 64
          · exact List.take_left' (by omega)
          · rw [List.take_of_length_le (by simp; omega), show 64 - (win b (64 * n) 64).length = 0 by omega, List.replicate_zero, List.append_nil]
        rw [e, show 64 * (n + 1) = 64 * n + 64 by omega, List.take_add]
        rfl
  intro n m h hnm hb
  obtain ⟨i1, i2⟩ := h1 n h
  obtain ⟨d, rfl⟩ : ∃ d, m = n + d := ⟨m - n, by omega⟩
  have h3 : ∀ d, (((List.range (n + d)).map (fun j => F (a + j))).flatten).take b.length = b := by
    intro d
    induction d with
    | zero => rw [Nat.add_zero, i1, List.take_of_length_le (by omega)]
    | succ d ih =>
      rw [← Nat.add_assoc, List.range_succ, List.map_append, List.flatten_append]
      have h4 : b.length ≤ (((List.range (n + d)).map (fun j => F (a + j))).flatten).length := by
        have h5 : ∀ d, 64 * n ≤ (((List.range (n + d)).map (fun j => F (a + j))).flatten).length := by
          intro d
          induction d with
          | zero => rw [Nat.add_zero, i2]; exact Nat.le_refl _
          | succ d ih2 =>
            rw [← Nat.add_assoc, List.range_succ, List.map_append, List.flatten_append, List.length_append]
            omega
        have := h5 d
        omega
      rw [List.take_append_of_le_length h4]
      exact ih
  exact h3 d
/-- What was saved is whole. -/
theorem sav_whole {F : Nat → List Nat} {g : Nat} {b : List Nat} (hg : g < 4294967296) (hb : b.length ≤ 960) : Whole (savL F g b) (g % 2) ∧ sloG (savL F g b) (g % 2) = g ∧ sloB (savL F g b) (g % 2) = b := by
  refine whole_of hg rfl hb (upd_same _ _ _) ?_
  refine flat_take _ _ b (nsec b) 15 (fun j hj => ?_) (nsec_le hb) (by unfold nsec; omega)
  unfold savL
  rw [upd_other _ _ _ (by omega)]
  exact datL_at hj
/-- The other slot is as it was. -/
theorem sav_other {F : Nat → List Nat} {g f : Nat} {b : List Nat} (hb : b.length ≤ 960) (h : f < 64 + 16 * (g % 2) ∨ 80 + 16 * (g % 2) ≤ f) : savL F g b f = F f := by
  unfold savL
  have := nsec_le hb
  rw [upd_other _ _ _ (by omega), datL_other (by omega)]
end Go.Proofs.Ytkdniihnilcpfaa

/-! ## Loo: Maps from numbers to blocks of bytes that the program keeps: what such a map holds, looked up, written, cleared and gone through. Nothing of the program is named here.   Conditions: none beside those that each line bears. -/
namespace Go.Proofs.Ytkdniihnilcpfaa
open Go.RowKit
open Go.Maps (Keyed)
open Go.WideElems (Fit rd rg pl rd_key rd_val rg_of)
open Go.WideShapes
set_option linter.unusedVariables false

theorem bv_inj {x y : Nat} (h : bv x = bv y) : x = y := by
  unfold bv at h
  injection h with _ h
  omega
theorem map_bv_inj : ∀ {xs ys : List Nat}, xs.map bv = ys.map bv → xs = ys
  | [], [], _ => rfl
  | [], y :: s, h => by simp at h
  | x :: r, [], h => by simp at h
  | x :: r, y :: s, h => by
    rw [List.map_cons, List.map_cons] at h
    injection h with h1 h2
    rw [bv_inj h1, map_bv_inj h2]

/-- A block of bytes as one value. -/
def secV (xs : List Nat) : Value := .agg (xs.map bv).toArray
theorem secV_inj {xs ys : List Nat} (h : secV xs = secV ys) : xs = ys := by
  unfold secV at h
  injection h with h
  exact map_bv_inj (by simpa using congrArg Array.toList h)
abbrev SDat := DataW (List Nat)
open Classical in
/-- What such a value reads as. -/
noncomputable def secR (v : Value) : Option (SDat × List MemPlace) := if h : ∃ xs, v = secV xs then some (.held (Classical.choose h), []) else none
theorem secR_mk (xs : List Nat) : secR (secV xs) = some (.held xs, []) := by
  have h : ∃ ys, secV xs = secV ys := ⟨xs, rfl⟩
  unfold secR
  rw [dif_pos h, secV_inj (Classical.choose_spec h).symm]
theorem secR_inv {v : Value} {y : SDat × List MemPlace} (h : secR v = some y) : ∃ xs, v = secV xs ∧ y = (.held xs, []) := by
  unfold secR at h
  split at h
  · rename_i hx
    injection h with h
    exact ⟨_, Classical.choose_spec hx, h.symm⟩
  · cases h

/-- What the map has at a number. -/
def lookD (D : SDat) (k : Nat) : Option (List Nat) :=
  match D.atKey (.int .i64 (k : Int)) .nil with
  | .held xs => some xs
  | _ => none

section
variable {P : Program} {k : TypeId} {w w' : World} {b m : Nat} {D : SDat}
theorem own_held (h : w.ownsMap P k secR b m D) (K : Keyed P k) : ∃ E, D = .map E ∧ E.Pairwise (fun p q => p.1 ≠ q.1) ∧ (∀ p ∈ E, WideAt.IsKeyLit p.1 ∧ ∃ xs, p.2 = .held xs) ∧ w.ownsMap P k secR b E.length D := by
  obtain ⟨es, clock, hb, F, hs, rfl⟩ := h
  refine ⟨_, rfl, ((sorted_perm _).pairwise_iff (fun {_ _} hne => Ne.symm hne)).2 (Maps.fit_apart K F), fun p hp => ?_, es, clock, hb, F, by rw [length_sorted]; simp, rfl⟩
  obtain ⟨x, hx, rfl⟩ := List.mem_map.1 (mem_sorted.1 hp)
  obtain ⟨y, hy⟩ := F.reads x hx
  rw [rg_of hy]
  obtain ⟨z, hz, h2⟩ := rd_val hy
  obtain ⟨xs, _, rfl⟩ := secR_inv hz
  exact ⟨K.key (rd_key hy), xs, h2⟩
theorem own_far (h : w.ownsMap P k secR b m D) (hb : w'.heap[b]? = w.heap[b]?) : w'.ownsMap P k secR b m D := by
  obtain ⟨es, clock, h1, h2⟩ := h
  exact ⟨es, clock, hb.trans h1, h2⟩
theorem has_look (h : w.ownsMap P k secR b m D) (K : Keyed P k) (j : Nat) : Maps.has D (.int .i64 (j : Int)) = (lookD D j).isSome := by
  obtain ⟨E, rfl, _, h2, _⟩ := own_held h K
  unfold lookD
  simp only [DataW.atKey, Maps.has]
  cases hf : E.find? (fun p => p.1.sameKey (.int .i64 (j : Int))) with
  | none =>
    rw [List.find?_eq_none] at hf
    simp only [Option.isSome_none]
    exact List.any_eq_false.2 hf
  | some p =>
    obtain ⟨xs, hx⟩ := (h2 p (List.mem_of_find?_eq_some hf)).2
    simp only [hx, Option.isSome_some]
    exact List.any_eq_true.2 ⟨p, List.mem_of_find?_eq_some hf, by have := List.find?_some hf; exact this⟩
theorem at_look (h : w.ownsMap P k secR b m D) (K : Keyed P k) {j : Nat} {xs : List Nat} (hl : lookD D j = some xs) (zd : SDat) : D.atKey (.int .i64 (j : Int)) zd = .held xs := by
  obtain ⟨E, rfl, _, h2, _⟩ := own_held h K
  unfold lookD at hl
  simp only [DataW.atKey] at hl ⊢
  cases hf : E.find? (fun p => p.1.sameKey (.int .i64 (j : Int))) with
  | none => rw [hf] at hl; simp at hl
  | some p =>
    obtain ⟨ys, hx⟩ := (h2 p (List.mem_of_find?_eq_some hf)).2
    rw [hf] at hl
    simp only [hx, Option.some.injEq] at hl ⊢
    rw [hl]
end

theorem length_below : ∀ (n : Nat) (l : List Nat), l.Nodup → (∀ x ∈ l, x < n) → l.length ≤ n
  | 0, l, _, h => by
    cases l with
    | nil => exact Nat.le_refl _
    | cons x r => exact absurd (h x (List.mem_cons_self ..)) (by omega)
  | n + 1, l, hd, h => by
    by_cases hn : n ∈ l
    · have h1 := List.length_erase_of_mem hn
      have h2 := length_below n (l.erase n) (hd.erase n) (fun x hx => by
        have hx1 := (List.Nodup.mem_erase_iff hd).1 hx
        have := h x hx1.2
        omega)
      omega
    · have h2 := length_below n l hd (fun x hx => by
        have := h x hx
        have : x ≠ n := fun e => hn (e ▸ hx)
        omega)
      omega

/-- Block b is a map from numbers below n to blocks of bytes: L. -/
def Loo (P : Program) (k : TypeId) (w : World) (b n : Nat) (L : Nat → Option (List Nat)) : Prop :=
  ∃ m D, w.ownsMap P k secR b m D ∧ (∀ j, lookD D j = L j) ∧ ∀ kl, Maps.has D kl = true → ∃ j : Nat, j < n ∧ kl = .int .i64 (j : Int)

section
variable {P : Program} {k t e : TypeId} {w w' : World} {b n : Nat} {L : Nat → Option (List Nat)}
theorem Loo.far (h : Loo P k w b n L) (hb : w'.heap[b]? = w.heap[b]?) : Loo P k w' b n L := by
  obtain ⟨m, D, h1, h2⟩ := h
  exact ⟨m, D, own_far h1 hb, h2⟩
theorem Loo.blk (h : Loo P k w b n L) : b < w.heap.size := by
  obtain ⟨m, D, h1, _⟩ := h
  exact h1.lt
theorem Loo.map_ (h : Loo P k w b n L) : ∃ es clock, w.heap[b]? = some (.map es clock) := by
  obtain ⟨m, D, ⟨es, clock, h1, _⟩, _⟩ := h
  exact ⟨es, clock, h1⟩
theorem Loo.lt (h : Loo P k w b n L) (K : Keyed P k) {j : Nat} {xs : List Nat} (hj : L j = some xs) : j < n := by
  obtain ⟨m, D, h1, h2, h3⟩ := h
  have hh := has_look h1 K j
  rw [h2 j, hj] at hh
  obtain ⟨i, hi, e⟩ := h3 _ hh
  injection e with _ e
  omega
theorem Loo.tight (h : Loo P k w b n L) (K : Keyed P k) : ∃ D, w.ownsMap P k secR b n D ∧ (∀ j, lookD D j = L j) ∧ ∀ kl, Maps.has D kl = true → ∃ j : Nat, j < n ∧ kl = .int .i64 (j : Int) := by
  obtain ⟨m, D, h1, h2, h3⟩ := h
  obtain ⟨E, rfl, hp, hk, ht⟩ := own_held h1 K
  refine ⟨_, ht.mono ?_, h2, h3⟩
  have key : ∀ p ∈ E, ∃ j : Nat, j < n ∧ p.1 = .int .i64 (j : Int) := fun p hp' => h3 p.1 (List.any_eq_true.2 ⟨p, hp', WideAt.sameKey_self (hk p hp').1⟩)
  have nat : ∀ l : Lit, Nat := fun l => match l with | .int _ a => a.toNat | _ => 0
  let f : Lit × SDat → Nat := fun p => match p.1 with | .int _ a => a.toNat | _ => 0
  have hf : ∀ p ∈ E, f p < n ∧ p.1 = .int .i64 ((f p : Nat) : Int) := by
    intro p hp'
    obtain ⟨j, hj, ej⟩ := key p hp'
    have : f p = j := by show (match p.1 with | .int _ a => a.toNat | _ => 0) = j; rw [ej]; simp
    rw [this]
    exact ⟨hj, ej⟩
  have h5 := length_below n (E.map f) (List.pairwise_map.2 (hp.imp_of_mem fun {p q} hp' hq' hne e => hne (by rw [(hf p hp').2, (hf q hq').2, e]))) (fun x hx => by
    obtain ⟨p, hp', rfl⟩ := List.mem_map.1 hx
    exact (hf p hp').1)
  simpa using h5

theorem Loo.made (w : World) (P : Program) (k : TypeId) (n : Nat) : Loo P k (w.alloc (.map #[] 0)) w.heap.size n (fun _ => none) :=
  ⟨0, .map [], World.ownsMap_made _ _ _ _, fun j => rfl, fun kl h => by cases h⟩

theorem wf_nat (j : Nat) (hj : j ≤ 1000000) : (Lit.int .i64 (j : Int)).wf = true := WalkArith.wf_i64 (by omega)

/-- 'v, ok := m[j]'. -/
theorem Loo.run_look (h : Loo P k w b n L) (hk : P.underlying k = some (.int .i64)) (ht : P.underlying t = some (.map k e)) {z : List Nat} (hz : (zeroValue e).run P w = .ok (secV z) w) (j : Nat) (hj : j ≤ 1000000) :
    (Instr.lookup t (.map (some b)) (.int .i64 (j : Int)) true).run P w = .ok (.tuple #[secV ((L j).getD z), .bool (L j).isSome]) w := by
  obtain ⟨m, D, h1, h2, h3⟩ := h
  have K := Maps.int_keyed hk
  obtain ⟨v, ps, hrun, hv⟩ := h1.look_ok K ht hz (secR_mk z) (Maps.keyOf_int_mk hk (wf_nat j hj))
  obtain ⟨xs, rfl, hx⟩ := secR_inv hv
  rw [has_look h1 K, h2] at hrun
  injection hx with hx _
  cases hl : L j with
  | some ys =>
    rw [at_look h1 K (by rw [h2, hl])] at hx
    injection hx with hx
    rw [hrun, hl, hx]
    rfl
  | none =>
    have hno : Maps.has D (.int .i64 (j : Int)) = false := by rw [has_look h1 K, h2, hl]; rfl
    rw [Maps.atKey_of_not_has hno] at hx
    injection hx with hx
    rw [hrun, hl, hx]
    rfl
/-- 'm[j]'. -/
theorem Loo.run_get (h : Loo P k w b n L) (hk : P.underlying k = some (.int .i64)) (ht : P.underlying t = some (.map k e)) {z : List Nat} (hz : (zeroValue e).run P w = .ok (secV z) w) (j : Nat) (hj : j ≤ 1000000) :
    (Instr.lookup t (.map (some b)) (.int .i64 (j : Int)) false).run P w = .ok (secV ((L j).getD z)) w := by
  obtain ⟨m, D, h1, h2, h3⟩ := h
  have K := Maps.int_keyed hk
  obtain ⟨v, ps, hrun, hv⟩ := h1.lookup K ht hz (secR_mk z) (Maps.keyOf_int_mk hk (wf_nat j hj))
  obtain ⟨xs, rfl, hx⟩ := secR_inv hv
  injection hx with hx _
  cases hl : L j with
  | some ys =>
    rw [at_look h1 K (by rw [h2, hl])] at hx
    injection hx with hx
    rw [hrun, hx]
    rfl
  | none =>
    have hno : Maps.has D (.int .i64 (j : Int)) = false := by rw [has_look h1 K, h2, hl]; rfl
    rw [Maps.atKey_of_not_has hno] at hx
    injection hx with hx
    rw [hrun, hx]
    rfl
theorem turned_only (h : w.mapTurned w' b) : Only b w w' := by
  refine ⟨h.grown, ?_⟩
  obtain ⟨es, clock, es', clock', hb, rfl⟩ := h
  simp [ChangeMaps.setBlock]
/-- 'm[j] = v'. -/
theorem Loo.run_store (h : Loo P k w b n L) (hk : P.underlying k = some (.int .i64)) (ht : P.underlying t = some (.map k e)) (hn : n ≤ 1000000) (j : Nat) (hj : j < n) (xs : List Nat) :
    ∃ w', (Instr.mapUpdate t (.map (some b)) (.int .i64 (j : Int)) (secV xs)).run P w = .ok () w' ∧ Loo P k w' b n (upd L j (some xs)) ∧ Only b w w' := by
  have K := Maps.int_keyed hk
  obtain ⟨D, h1, h2, h3⟩ := h.tight K
  have hkey := Maps.keyOf_int_mk hk (wf_nat j (by omega))
  obtain ⟨w', hrun, h4, h5⟩ := h1.store K ht (by unfold maxLen; omega) hkey (secR_mk xs)
  refine ⟨w', hrun, ⟨_, _, h4, fun i => ?_, fun kl hkl => ?_⟩, turned_only h5⟩
  · by_cases e : i = j
    · subst e
      rw [upd_same]
      unfold lookD
      rw [Maps.atKey_put_same h1.isMap (K.key hkey)]
    · rw [upd_other _ _ _ e, ← h2 i]
      unfold lookD
      rw [Maps.atKey_put_other (fun he => e (by injection he with _ he; omega))]
  · by_cases e : kl = .int .i64 (j : Int)
    · exact ⟨j, hj, e⟩
    · rw [Maps.has_put_other e] at hkl
      exact h3 kl hkl
/-- 'clear(m)'. -/
theorem Loo.run_clear (h : Loo P k w b n L) (ht : P.underlying t = some (.map k e)) (ty : TypeId) :
    ∃ w', (Builtin.clear_ #[t] ty #[.map (some b)]).run P w = .ok (.tuple #[]) w' ∧ Loo P k w' b n (fun _ => none) ∧ Only b w w' := by
  obtain ⟨m, D, ⟨es, clock, hb, F, hs, rfl⟩, _⟩ := h
  refine ⟨ChangeMaps.setBlock w b (.map #[] clock), ?_, ⟨0, .map [], ⟨#[], clock, ChangeMaps.heap_setBlock_same hb _, ⟨by simp, MapKept.stamped_empty clock, by simp⟩, Nat.le_refl _, rfl⟩, fun j => rfl, fun kl h => by cases h⟩, turned_only ⟨es, clock, #[], clock, hb, rfl⟩⟩
  simp [Builtin.clear_, run_underlying ht, MapKept.run_getObj_map hb, MapKept.run_setObj_map _ hb, Result.andThen, ChangeMaps.setBlock]
end
end Go.Proofs.Ytkdniihnilcpfaa

/-! ## Ran: Such a map gone through, in whatever order. Nothing of the program is named here.   Conditions: none beside those that each line bears. -/
namespace Go.Proofs.Ytkdniihnilcpfaa
open Go.RowKit
open Go.Maps (Keyed)
set_option linter.unusedVariables false

/-- 'for j, v := range m' under way: which entries are still to come, and how many. -/
def Ran (P : Program) (k : TypeId) (w : World) (b r n : Nat) (L : Nat → Option (List Nat)) (left : Nat → Bool) (cnt : Nat) : Prop :=
  ∃ m D lf, w.ranges P k secR b r m D lf cnt ∧ (∀ j, lookD D j = L j) ∧ (∀ kl, Maps.has D kl = true → ∃ j : Nat, j < n ∧ kl = .int .i64 (j : Int)) ∧ (∀ j : Nat, lf (.int .i64 (j : Int)) = left j) ∧ ∀ kl, lf kl = true → Maps.has D kl = true

section
variable {P : Program} {k t e : TypeId} {w w' : World} {b r n cnt : Nat} {L : Nat → Option (List Nat)} {left : Nat → Bool}
theorem Ran.loo (h : Ran P k w b r n L left cnt) : Loo P k w b n L := by
  obtain ⟨m, D, lf, h1, h2, h3, _⟩ := h
  exact ⟨m, D, h1.owns, h2, h3⟩
theorem Ran.far (h : Ran P k w b r n L left cnt) (hb : w'.heap[b]? = w.heap[b]?) (hr : w'.heap[r]? = w.heap[r]?) : Ran P k w' b r n L left cnt := by
  obtain ⟨m, D, lf, h1, h2⟩ := h
  refine ⟨m, D, lf, ?_, h2⟩
  obtain ⟨es, clock, since, seen, c0, e1, F, hs, hD, e2, rest⟩ := h1
  exact ⟨es, clock, since, seen, c0, hb.trans e1, F, hs, hD, hr.trans e2, rest⟩
theorem Ran.left_eq (h : Ran P k w b r n L left cnt) : w.rangeLeft b r = cnt := by
  obtain ⟨m, D, lf, h1, _⟩ := h
  exact h1.left_eq
theorem Ran.ne (h : Ran P k w b r n L left cnt) : r ≠ b := by
  obtain ⟨m, D, lf, h1, _⟩ := h
  exact h1.ne
theorem Ran.lt (h : Ran P k w b r n L left cnt) : r < w.heap.size := by
  obtain ⟨m, D, lf, h1, _⟩ := h
  exact h1.lt
theorem Ran.iter (h : Ran P k w b r n L left cnt) : ∃ m s seen c, w.heap[r]? = some (.mapIter m s seen c) := by
  obtain ⟨m, D, lf, ⟨es, clock, since, seen, c0, _, _, _, _, e2, _⟩, _⟩ := h
  exact ⟨_, _, _, _, e2⟩

/-- 'range m'. -/
theorem wpList_range_loo {ops : Array Oper} {rest : List Oper} {o : Oper} {a : Act} {Q : Exit → Act → World → Prop} (hg : o.guard = none) (mo : Operand) (hop : o.op = Op.range t mo) (hk : P.underlying k = some (.int .i64)) (ht : P.underlying t = some (.map k e))
    (hm : a.eval mo = .map (some b)) (h : Loo P k w b n L)
    (hK : ∀ w' cnt', cnt' ≤ n → Hid (Ran P k w' b w.heap.size n L (fun j => (L j).isSome) cnt') → Hid (Below w.heap.size w w') → Hid (w'.heap.size = w.heap.size + 1) → wpList P ops Q rest (a.put o.dst (.pointer (some ⟨w.heap.size, 0, none⟩))) w') :
    wpList P ops Q (o :: rest) a w := by
  have K := Maps.int_keyed hk
  obtain ⟨D, h1, h2, h3⟩ := h.tight K
  refine wpList_range_own w hg mo t hop k e K ht secR b n D hm h1 (fun w' hr hg' hs => hK w' _ h1.size_le ?_ ⟨hg'.os, hg'.tape, hg'.output, hg'.size, fun i hi => hg'.block i hi (by simp)⟩ hs)
  exact ⟨n, D, _, hr, h2, h3, fun j => by rw [has_look h1 K, h2], fun kl hkl => hkl⟩

/-- The step. -/
theorem wpList_next_loo {ops : Array Oper} {rest : List Oper} {o : Oper} {a : Act} {Q : Exit → Act → World → Prop} (hg : o.guard = none) (it : Operand) (hop : o.op = Op.next it false) (hk : P.underlying k = some (.int .i64))
    (hit : a.eval it = .pointer (some ⟨r, 0, none⟩)) (h : Ran P k w b r n L left cnt)
    (hDone : (∀ j, left j = false) → wpList P ops Q rest (a.put o.dst (.tuple #[.bool false])) w)
    (hMore : ∀ (j : Nat) (xs : List Nat) (w' : World) (cnt' : Nat), j < n → left j = true → L j = some xs → Hid (Ran P k w' b r n L (fun i => left i && !(i == j)) cnt') → cnt' < cnt → Hid (Only r w w') →
      (Instr.entry (.pointer (some ⟨r, 0, none⟩))).run P w' = .ok (.tuple #[.int .i64 (j : Int), secV xs]) w' → wpList P ops Q rest (a.put o.dst (.tuple #[.bool true, .int .i64 (j : Int), secV xs])) w') :
    wpList P ops Q (o :: rest) a w := by
  have K := Maps.int_keyed hk
  obtain ⟨m, D, lf, h1, h2, h3, h4, h5⟩ := h
  refine wpList_next_ranges w hg it hop k K secR (Value.int .i64) secV (fun key kl hkey => by obtain ⟨x, rfl, _⟩ := Maps.keyOf_int_inv hk hkey; exact ⟨x, rfl⟩) (fun v y hv => by obtain ⟨xs, rfl, _⟩ := secR_inv hv; exact ⟨xs, rfl⟩)
    b r m D lf cnt hit h1 (fun _ hl => hDone fun j => by rw [← h4, hl]) (fun x xs kl y w' cnt' hkey hlk hv hat hrg hlt hgr hsz hen => ?_)
  obtain ⟨x', ex, rfl, hwx⟩ := Maps.keyOf_int_inv hk hkey
  injection ex with _ ex
  subst ex
  obtain ⟨j, hj, ej⟩ := h3 _ (h5 _ hlk)
  injection ej with _ ej
  subst ej
  rw [secR_mk] at hv
  injection hv with hv
  subst hv
  refine hMore j xs w' cnt' hj (by rw [← h4]; exact hlk) (by rw [← h2]; unfold lookD; rw [hat]) ?_ hlt ⟨hgr, hsz⟩ hen
  refine ⟨m, D, _, hrg, h2, h3, fun i => ?_, fun kl hkl => h5 kl (by simp only [Bool.and_eq_true] at hkl; exact hkl.1)⟩
  rw [h4]
  congr 1
  by_cases e : i = j
  · subst e
    rw [WideAt.sameKey_self (K.key hkey)]
    simp
  · rw [Maps.sameKey_ne (fun he => e (by injection he with _ he; omega))]
    simp [e]

/-- 'clear(m)'. -/
theorem wpList_clear_loo {ops : Array Oper} {rest : List Oper} {o : Oper} {a : Act} {Q : Exit → Act → World → Prop} (hg : o.guard = none) (mo : Operand) (hop : o.op = Op.call { callee := Callee.builtin Builtin.clear, args := #[mo], argTypes := #[t] }) (ht : P.underlying t = some (.map k e))
    (hm : a.eval mo = .map (some b)) (h : Loo P k w b n L)
    (hK : ∀ w', Hid (Loo P k w' b n (fun _ => none)) → Hid (Only b w w') → wpList P ops Q rest (a.put o.dst (.tuple #[])) w') :
    wpList P ops Q (o :: rest) a w := by
  refine wpList_plain hg fun K' hK' => ?_
  obtain ⟨w', hrun, r1, r2⟩ := h.run_clear ht o.type
  unfold Oper.wp
  simp [execOp, hop, resolve, invoke, builtin, hm, hrun, Result.andThen]
  exact hK' _ _ (hK w' r1 r2)
end
end Go.Proofs.Ytkdniihnilcpfaa

/-! ## Lst: Lists of lists of bytes: one that the call owns, whose elements lie in blocks that other work does not turn; one more behind it; what it reads as. Nothing of the program is named here.   Conditions: none beside those that each line bears. -/
namespace Go.Proofs.Ytkdniihnilcpfaa
open Go.RowKit
set_option linter.unusedVariables false

/-- The slice value v holds the bytes xs, in a block that is not in M, and that is below lo or is no block of e's. -/
def El (w : World) (M : Nat → Prop) (lo : Nat) (e : TypeId) (v : Value) (xs : List Nat) : Prop :=
  ∃ A n c, v = .slice A n c ∧ xs.length = n ∧ n ≤ c ∧ (A = none → c = 0) ∧ c ≤ maxLen ∧ (∀ j, j < n → xs.getD j 0 < 256) ∧
    (0 < n → ∃ b off, A = some ⟨b, off, none⟩ ∧ ¬ M b ∧ b < w.heap.size ∧ (b < lo ∨ ∃ cs t fr, w.heap[b]? = some (.cells cs t fr) ∧ t ≠ e) ∧
      ∀ j, j < n → w.cell? ⟨b, off + j, none⟩ = some (.int .u8 ((xs.getD j 0 : Nat) : Int)))

section
variable {w w' : World} {M : Nat → Prop} {lo base : Nat} {e : TypeId} {v : Value} {xs : List Nat}
theorem El.bts (h : El w M lo e v xs) : Bts w w.heap.size v xs := by
  obtain ⟨A, n, c, hv, hl, hnc, hA, hc, hb, hx⟩ := h
  refine ⟨A, n, c, hv, hl, Nat.le_trans hnc hc, ⟨hnc, hA⟩, hc, hb, fun hn => ?_⟩
  obtain ⟨b, off, h1, _, h3, _, h5⟩ := hx hn
  exact ⟨b, off, h1, h3, h5⟩
theorem El.of_bts (h : Bts w lo v xs) (hM : ∀ k, M k → lo ≤ k) (hs : lo ≤ w.heap.size) : El w M lo e v xs := by
  obtain ⟨A, n, c, hv, hl, hm, ⟨hnc, hA⟩, hc, hb, hx⟩ := h
  refine ⟨A, n, c, hv, hl, hnc, hA, hc, hb, fun hn => ?_⟩
  obtain ⟨b, off, h1, h3, h5⟩ := hx hn
  exact ⟨b, off, h1, fun hm => by have := hM b hm; omega, by omega, .inl h3, h5⟩
theorem El.kept (h : El w M lo e v xs) (hs : w.heap.size ≤ w'.heap.size) (hk : ∀ b, b < w.heap.size → ¬ M b → (b < lo ∨ ∃ cs t fr, w.heap[b]? = some (.cells cs t fr) ∧ t ≠ e) → w'.heap[b]? = w.heap[b]?) : El w' M lo e v xs := by
  obtain ⟨A, n, c, hv, hl, hnc, hA, hc, hb, hx⟩ := h
  refine ⟨A, n, c, hv, hl, hnc, hA, hc, hb, fun hn => ?_⟩
  obtain ⟨b, off, h1, h2, h3, h4, h5⟩ := hx hn
  have hbl := hk b h3 h2 h4
  refine ⟨b, off, h1, h2, Nat.lt_of_lt_of_le h3 hs, ?_, fun j hj => ?_⟩
  · rw [hbl]; exact h4
  · rw [World.cell?_of_block (a := ⟨b, off + j, none⟩) hbl]
    exact h5 j hj
theorem El.turns (h : El w M lo e v xs) (ht : Turns M w w') : El w' M lo e v xs := h.kept ht.size fun b h1 h2 _ => ht.block b h1 h2
/-- Bytes in a block that is known whole. -/
theorem El.of_blk {g off n cap : Nat} {t : TypeId} {cur : Array Value} (h : Blk w g t cur) (hM : ¬ M g) (ht : t ≠ e) (hl : xs.length = n) (hn : n ≤ cap) (hm : cap ≤ maxLen)
    (hb : ∀ j, j < n → xs.getD j 0 < 256) (hc : ∀ j, j < n → cur[off + j]? = some (bv (xs.getD j 0))) : El w M lo e (.slice (some ⟨g, off, none⟩) n cap) xs :=
  ⟨_, _, _, rfl, hl, hn, (fun h => by cases h), hm, hb, fun _ => ⟨g, off, rfl, hM, h.lt, .inr ⟨cur, t, _, h, ht⟩, fun j hj => (h.cell _).trans (hc j hj)⟩⟩
/-- A part of such bytes. -/
theorem El.part {A : Option Addr} {n c : Nat} (h : El w M lo e (.slice A n c) xs) {a k c' : Nat} (ha : a + k ≤ n) (hk : k ≤ c') (hc' : c' ≤ maxLen) (v' : Value) (hv' : ∀ b off, A = some ⟨b, off, none⟩ → v' = .slice (some ⟨b, off + a, none⟩) k c') (h0 : 0 < n) :
    El w M lo e v' (win xs a k) := by
  obtain ⟨A', n', c1, hv, hl, hnc, hA, hc, hb, hx⟩ := h
  injection hv with e1 e2 e3
  subst e1 e2 e3
  obtain ⟨b, off, h1, h2, h3, h4, h5⟩ := hx h0
  have hwl := win_length xs a k (by omega)
  have hg : ∀ j, j < k → (win xs a k).getD j 0 = xs.getD (a + j) 0 := by
    intro j hj
    unfold win
    simp only [List.getD_eq_getElem?_getD, List.getElem?_take, if_pos hj, List.getElem?_drop]
  refine ⟨_, _, _, hv' b off h1, hwl, hk, (fun h => by cases h), hc', fun j hj => ?_, fun _ => ⟨b, off + a, rfl, h2, h3, h4, fun j hj => ?_⟩⟩
  · rw [hg j hj]
    exact hb (a + j) (by omega)
  · rw [hg j hj, Nat.add_assoc]
    exact h5 (a + j) (by omega)
end

/-- The call's own list of such lists. -/
def Lst (w : World) (M : Nat → Prop) (lo base : Nat) (e : TypeId) (v : Value) (xss : List (List Nat)) : Prop :=
  ∃ vs, w.ownsRow base e 1 v xss.length vs ∧ ∀ j, j < xss.length → ∃ u, vs[j]? = some u ∧ El w M lo e u (xss.getD j [])

/-- Lists of bytes that lie in memory, one behind the other. -/
def Pts (w : World) (v : Value) (xss : List (List Nat)) : Prop :=
  ∃ A n c, v = .slice A n c ∧ xss.length = n ∧ n ≤ c ∧ c ≤ maxLen ∧
    (0 < n → ∃ b off, A = some ⟨b, off, none⟩ ∧ ∀ j, j < n → ∃ u, w.cell? ⟨b, off + j, none⟩ = some u ∧ Bts w w.heap.size u (xss.getD j []))

section
variable {w w' : World} {M : Nat → Prop} {lo base : Nat} {e : TypeId} {v : Value} {xss : List (List Nat)}
theorem Lst.nil_ (w : World) (M : Nat → Prop) (lo base : Nat) (e : TypeId) : Lst w M lo base e (.slice none 0 0) [] :=
  ⟨[], World.ownsRow_nil _ _ _ _, fun j hj => absurd hj (by simp)⟩
theorem Lst.shape (h : Lst w M lo base e v xss) : ∃ A c, v = .slice A xss.length c ∧ xss.length ≤ c ∧ c ≤ maxLen := by
  obtain ⟨vs, ⟨_, h2⟩, _⟩ := h
  rcases h2 with ⟨h3, h4⟩ | ⟨g, cap, cur, h3, _, _, h5, h6, _⟩
  · exact ⟨none, 0, by rw [h4]; exact h3, by omega, by simp [maxLen]⟩
  · exact ⟨_, cap, h3, h5, h6⟩
theorem Lst.turns (h : Lst w M lo base e v xss) (hM : ∀ k, M k → k < base) (ht : Turns M w w') : Lst w' M lo base e v xss := by
  obtain ⟨vs, ⟨h1, h2⟩, h3⟩ := h
  refine ⟨vs, ⟨h1, ?_⟩, fun j hj => ?_⟩
  · rcases h2 with h2 | ⟨g, cap, cur, h4, h5, h6, h7⟩
    · exact .inl h2
    · refine .inr ⟨g, cap, cur, h4, h5, ?_, h7⟩
      rw [ht.block g (Array.getElem?_eq_some_iff.1 h6).1 (fun hm => by have := hM g hm; omega)]
      exact h6
  · obtain ⟨u, h4, h5⟩ := h3 j hj
    exact ⟨u, h4, h5.turns ht⟩
theorem Lst.alloc (h : Lst w M lo base e v xss) (hM : ∀ k, M k → k < base) (o : Obj) : Lst (w.alloc o) M lo base e v xss := h.turns hM ((Turns.refl _ _).alloc o)
theorem Lst.pts (h : Lst w M lo base e v xss) : Pts w v xss := by
  obtain ⟨A, c, hv, h1, h2⟩ := h.shape
  obtain ⟨vs, ho, h3⟩ := h
  refine ⟨A, xss.length, c, hv, rfl, h1, h2, fun hn => ?_⟩
  obtain ⟨g, cap, hv'⟩ := own_shape ho (by omega)
  rw [hv] at hv'
  injection hv' with e1 e2 e3
  subst e1 e3
  subst hv
  refine ⟨g, 0, rfl, fun j hj => ?_⟩
  obtain ⟨u, h4, h5⟩ := h3 j hj
  exact ⟨u, by rw [Nat.zero_add, ho.cellAt j (by omega)]; exact h4, h5.bts⟩
theorem Lst.el (h : Lst w M lo base e v xss) {j : Nat} (hj : j < xss.length) : ∃ g cap u, v = .slice (some ⟨g, 0, none⟩) xss.length cap ∧ w.cell? ⟨g, j, none⟩ = some u ∧ El w M lo e u (xss.getD j []) := by
  obtain ⟨vs, ho, h3⟩ := h
  obtain ⟨g, cap, rfl⟩ := own_shape ho (by omega)
  obtain ⟨u, h4, h5⟩ := h3 j hj
  exact ⟨g, cap, u, rfl, by rw [ho.cellAt j (by omega)]; exact h4, h5⟩
/-- Other work above the list's own base may be named by another one. -/
theorem Lst.lower (h : Lst w M lo base e v xss) {base' : Nat} (hb : base' ≤ base) : Lst w M lo base' e v xss := by
  obtain ⟨vs, ⟨h1, h2⟩, h3⟩ := h
  refine ⟨vs, ⟨h1, ?_⟩, h3⟩
  rcases h2 with h2 | ⟨g, cap, cur, h4, h5, h6⟩
  · exact .inl h2
  · exact .inr ⟨g, cap, cur, h4, by omega, h6⟩
end
section
variable {w w' : World} {v : Value} {xss : List (List Nat)}
theorem Pts.get (h : Pts w v xss) {j : Nat} (hj : j < xss.length) : ∃ b off c u, v = .slice (some ⟨b, off, none⟩) xss.length c ∧ xss.length ≤ c ∧ w.cell? ⟨b, off + j, none⟩ = some u ∧ Bts w w.heap.size u (xss.getD j []) := by
  obtain ⟨A, n, c, rfl, hl, h1, h2, h3⟩ := h
  obtain ⟨b, off, rfl, h4⟩ := h3 (by omega)
  obtain ⟨u, h5, h6⟩ := h4 j (by omega)
  exact ⟨b, off, c, u, by rw [hl], by omega, h5, h6⟩
theorem Pts.below (h : Pts w v xss) (hb : Below w.heap.size w w') : Pts w' v xss := by
  obtain ⟨A, n, c, hv, hl, h1, h2, h3⟩ := h
  refine ⟨A, n, c, hv, hl, h1, h2, fun hn => ?_⟩
  obtain ⟨b, off, hA, h4⟩ := h3 hn
  refine ⟨b, off, hA, fun j hj => ?_⟩
  obtain ⟨u, h5, h6⟩ := h4 j hj
  exact ⟨u, (hb.cell (World.block_lt_of_cell? w _ h5)).trans h5, (h6.below hb).more hb.size⟩
end
section
variable {P : Program} {w : World} {ops : Array Oper} {rest : List Oper} {o : Oper} {a : Act} {Q : Exit → Act → World → Prop}
theorem one_slice (A : Option Addr) (n c : Nat) : (Value.slice A n c).oneCell' = true := rfl
/-- 'append(v, u...)': some such lists more behind the call's own list. -/
theorem wpList_append_lst (hgd : o.guard = none) (s x : Operand) (t : TypeId) (ho : o.op = .call { callee := .builtin .append, args := #[s, x], argTypes := #[t, t] })
    (M : Nat → Prop) (lo base : Nat) (e : TypeId) (i : TypeInfo) (ht : P.underlying t = some (.slice e)) (hi : P.info? e = some i) (hz : i.zero = some (.slice none 0 0)) (hsize : i.size = 1) (hby : i.bytes = 24)
    (v : Value) (xss : List (List Nat)) (hs : a.eval s = v) (hl : Lst w M lo base e v xss) (ad : Addr) (m c : Nat) (us : List Value) (yss : List (List Nat)) (hx : a.eval x = .slice (some ad) m c) (hm : us.length = m) (hm' : yss.length = m)
    (hc : ∀ j u, us[j]? = some u → w.cell? (ad.add j) = some u) (hu : ∀ j, j < m → ∃ u, us[j]? = some u ∧ El w M lo e u (yss.getD j []))
    (hfew : xss.length + m ≤ 1000000) (hbase : base ≤ w.heap.size) (hlo : lo ≤ base)
    (h : ∀ v' w', Hid (Lst w' M lo base e v' (xss ++ yss)) → Hid (Below base w w') → wpList P ops Q rest (a.put o.dst v') w') : wpList P ops Q (o :: rest) a w := by
  obtain ⟨vs, hown, h3⟩ := hl
  have hvl : vs.length = xss.length := by have := hown.1; omega
  have h1 : ∀ u ∈ us, u.oneCell' = true := by
    intro u hmem
    obtain ⟨j, hj, hje⟩ := List.getElem_of_mem hmem
    obtain ⟨u', h4, h5⟩ := hu j (by omega)
    rw [List.getElem?_eq_getElem hj, hje] at h4
    injection h4 with h4
    subst h4
    obtain ⟨A, n, c, rfl, _⟩ := h5
    rfl
  refine wpList_append_own w hgd s x t ho base e i _ 1 24 ht hi hz hsize hby rfl (by omega) v _ vs hs hown ad m c us hx (by simp [hm]) hc h1 (by unfold maxLen; omega) (by omega) hbase ?_
  intro v' w' h4 h5 _
  have hbel : Below base w w' := (Below.refl base w).grown h5 hbase (fun k hk => (hown.lt k hk).1)
  refine h v' w' ⟨vs ++ us, by rw [List.length_append, hm']; exact h4, fun j hj => ?_⟩ hbel
  have hkeep : ∀ u ys, El w M lo e u ys → El w' M lo e u ys := by
    intro u ys hel
    refine hel.kept hbel.size fun b b1 b2 b3 => h5.block b b1 (fun eb => ?_)
    rcases hown.2 with ⟨rfl, _⟩ | ⟨g, cap, cur, rfl, hg1, hg2, _⟩
    · simp [Value.ownBlock] at eb
    · simp only [Value.ownBlock, Option.some.injEq] at eb
      subst eb
      rcases b3 with b3 | ⟨cs, t', fr, b4, b5⟩
      · omega
      · rw [hg2] at b4
        injection b4 with b4
        injection b4 with _ b6 _
        exact b5 b6.symm
  rw [List.length_append] at hj
  simp only [List.getD_eq_getElem?_getD]
  by_cases hjl : j < xss.length
  · obtain ⟨u, h6, h7⟩ := h3 j hjl
    refine ⟨u, by rw [List.getElem?_append_left (by omega)]; exact h6, ?_⟩
    rw [List.getElem?_append_left hjl, ← List.getD_eq_getElem?_getD]
    exact hkeep _ _ h7
  · obtain ⟨u, h6, h7⟩ := hu (j - xss.length) (by omega)
    refine ⟨u, by rw [List.getElem?_append_right (by omega), hvl]; exact h6, ?_⟩
    rw [List.getElem?_append_right (by omega), ← List.getD_eq_getElem?_getD]
    exact hkeep _ _ h7
end
end Go.Proofs.Ytkdniihnilcpfaa

/-! ## LstB: Lists of lists of bytes, one appended to another: what append answers, for an operation that a drawn region holds. Nothing of the program is named here.   Conditions: none beside those that each line bears. -/
namespace Go.Proofs.Ytkdniihnilcpfaa
open Go.RowKit
set_option linter.unusedVariables false

section
variable {P : Program} {w : World}
theorem run_append_lst (t ty : TypeId) (M : Nat → Prop) (lo base : Nat) (e : TypeId) (i : TypeInfo) (ht : P.underlying t = some (.slice e)) (hi : P.info? e = some i) (hz : i.zero = some (.slice none 0 0)) (hsize : i.size = 1) (hby : i.bytes = 24)
    (v : Value) (xss : List (List Nat)) (hl : Lst w M lo base e v xss) (ad : Addr) (m c : Nat) (us : List Value) (yss : List (List Nat)) (hm : us.length = m) (hm' : yss.length = m)
    (hc : ∀ j u, us[j]? = some u → w.cell? (ad.add j) = some u) (hu : ∀ j, j < m → ∃ u, us[j]? = some u ∧ El w M lo e u (yss.getD j []))
    (hfew : xss.length + m ≤ 1000000) (hbase : base ≤ w.heap.size) (hlo : lo ≤ base) :
    ∃ v' w', (Builtin.append_ #[t, t] ty #[v, .slice (some ad) m c]).run P w = .ok v' w' ∧ Lst w' M lo base e v' (xss ++ yss) ∧ w.grownBy w' v.ownBlock := by
  obtain ⟨vs, hown, h3⟩ := hl
  have hvl : vs.length = xss.length := by have := hown.1; omega
  have h1 : ∀ u ∈ us, u.oneCell' = true := by
    intro u hmem
    obtain ⟨j, hj, hje⟩ := List.getElem_of_mem hmem
    obtain ⟨u', h4, h5⟩ := hu j (by omega)
    rw [List.getElem?_eq_getElem hj, hje] at h4
    injection h4 with h4
    subst h4
    obtain ⟨A, n, c, rfl, _⟩ := h5
    rfl
  obtain ⟨v', w', hr, h4, h5, _⟩ := run_append_own (P := P) w base t ty e i _ 1 24 ht hi hz hsize hby rfl (by omega) v _ vs hown ad m c us (by simp [hm]) hc h1 (by unfold maxLen; omega) (by omega) hbase
  refine ⟨v', w', hr, ⟨vs ++ us, by rw [List.length_append, hm']; exact h4, fun j hj => ?_⟩, h5⟩
  have hkeep : ∀ u ys, El w M lo e u ys → El w' M lo e u ys := by
    intro u ys hel
    refine hel.kept h5.size fun b b1 b2 b3 => h5.block b b1 (fun eb => ?_)
    rcases hown.2 with ⟨rfl, _⟩ | ⟨g, cap, cur, rfl, hg1, hg2, _⟩
    · simp [Value.ownBlock] at eb
    · simp only [Value.ownBlock, Option.some.injEq] at eb
      subst eb
      rcases b3 with b3 | ⟨cs, t', fr, b4, b5⟩
      · omega
      · rw [hg2] at b4
        injection b4 with b4
        injection b4 with _ b6 _
        exact b5 b6.symm
  rw [List.length_append] at hj
  simp only [List.getD_eq_getElem?_getD]
  by_cases hjl : j < xss.length
  · obtain ⟨u, h6, h7⟩ := h3 j hjl
    refine ⟨u, by rw [List.getElem?_append_left (by omega)]; exact h6, ?_⟩
    rw [List.getElem?_append_left hjl, ← List.getD_eq_getElem?_getD]
    exact hkeep _ _ h7
  · obtain ⟨u, h6, h7⟩ := hu (j - xss.length) (by omega)
    refine ⟨u, by rw [List.getElem?_append_right (by omega), hvl]; exact h6, ?_⟩
    rw [List.getElem?_append_right (by omega), ← List.getD_eq_getElem?_getD]
    exact hkeep _ _ h7
/-- All of another such list. -/
theorem run_append_all (t ty : TypeId) (M : Nat → Prop) (lo base base2 : Nat) (e : TypeId) (i : TypeInfo) (ht : P.underlying t = some (.slice e)) (hi : P.info? e = some i) (hz : i.zero = some (.slice none 0 0)) (hsize : i.size = 1) (hby : i.bytes = 24)
    (v : Value) (xss : List (List Nat)) (hl : Lst w M lo base e v xss) (u : Value) (yss : List (List Nat)) (hu : Lst w M lo base2 e u yss)
    (hfew : xss.length + yss.length ≤ 1000000) (hbase : base ≤ w.heap.size) (hlo : lo ≤ base) :
    ∃ v' w', (Builtin.append_ #[t, t] ty #[v, u]).run P w = .ok v' w' ∧ Lst w' M lo base e v' (xss ++ yss) ∧ w.grownBy w' v.ownBlock := by
  obtain ⟨us, hown, hel⟩ := hu
  have hul : us.length = yss.length := by have := hown.1; omega
  have hown' := hown
  rcases hown.2 with ⟨rfl, h0⟩ | ⟨g, cap, cur, rfl, _⟩
  · have hy : yss = [] := List.eq_nil_of_length_eq_zero h0
    subst hy
    obtain ⟨vs, hv, h3⟩ := hl
    exact ⟨v, w, run_append_owned_none w base t ty e i 1 ht hi v _ vs hv, ⟨vs, by simpa using hv, fun j hj => by simpa using h3 j (by simpa using hj)⟩, World.grownBy.refl _ _⟩
  · exact run_append_lst t ty M lo base e i ht hi hz hsize hby v xss hl ⟨g, 0, none⟩ yss.length cap us yss hul rfl (hown'.cells (g := g) rfl) hel hfew hbase hlo
theorem step_append_run {ops : Array Oper} {o : Oper} {a : Act} {K : Act → World → Prop} {Q : Exit → Act → World → Prop} {E : Prop} (hgd : o.guard = none) (s x : Operand) (t : TypeId)
    (ho : o.op = .call { callee := .builtin .append, args := #[s, x], argTypes := #[t, t] }) (v u : Value) (hs : a.eval s = v) (hx : a.eval x = u) (v' : Value) (w' : World) (hr : (Builtin.append_ #[t, t] o.type #[v, u]).run P w = .ok v' w')
    (h : K (a.put o.dst v') w') : if Region.wanted o (yielded ops a.tmps) = true then Oper.wp P o a w K Q else E := by
  have hw : Region.wanted o (yielded ops a.tmps) = true := by simp [Region.wanted, hgd]
  rw [if_pos hw]
  unfold Oper.wp execOp
  simp only [ho, resolve, invoke, builtin, Sem.run_bind, Sem.run_pure, Result.andThen_ok, List.map_toArray, List.map_cons, List.map_nil, hs, hx, hr]
  exact h
/-- An empty list that the call has made. -/
theorem Lst.lit (w : World) (M : Nat → Prop) (lo base : Nat) (e : TypeId) (hb : base ≤ w.heap.size) : Lst (w.alloc (.cells #[] e)) M lo base e (.slice (some ⟨w.heap.size, 0, none⟩) 0 0) [] := by
  have h := World.ownsRow_lit (base := base) (e := e) (size := 1) w #[] 0 hb (by simp [maxLen]) rfl
  exact ⟨[], by simpa using h, fun j hj => absurd hj (by simp)⟩
end

theorem Lst.below_of {w w' : World} {M : Nat → Prop} {lo base : Nat} {e : TypeId} {v : Value} {xss : List (List Nat)} (h : Lst w M lo base e v xss) (hg : w.grownBy w' v.ownBlock) (hb : base ≤ w.heap.size) : Below base w w' := by
  obtain ⟨vs, hown, _⟩ := h
  exact (Below.refl base w).grown hg hb (fun k hk => (hown.lt k hk).1)

theorem one_el {wr w' : World} {M : Nat → Prop} {lo : Nat} {e : TypeId} {u : Value} {x : List Nat} (hu : ∀ w', Below wr.heap.size wr w' → El w' M lo e u x) (h : Below wr.heap.size wr w') : ∀ j, j < 1 → ∃ u', ([u])[j]? = some u' ∧ El w' M lo e u' (([x]).getD j []) := by
  intro j hj
  obtain rfl : j = 0 := by omega
  exact ⟨u, rfl, hu _ h⟩
/-! ### 'append(append([][]byte{}, now...), u)', in whatever order the two literals are laid -/
section
variable {P : Program} {wr : World} (t ty ty' e : TypeId) (M : Nat → Prop) (lo base : Nat) (i : TypeInfo) (ht : P.underlying t = some (.slice e)) (hi : P.info? e = some i) (hz : i.zero = some (.slice none 0 0)) (hsize : i.size = 1) (hby : i.bytes = 24)
  (nv : Value) (ys : List (List Nat)) (hl : Lst wr M lo base e nv ys) (u : Value) (x : List Nat) (hu : ∀ w', Below wr.heap.size wr w' → El w' M lo e u x) (hM : ∀ k, M k → k < base) (hfew : ys.length + 1 ≤ 1000000) (hbase : base ≤ wr.heap.size) (hlo : lo ≤ base)
include ht hi hz hsize hby hl hu hM hfew hbase hlo
theorem order_a : ∃ v2 w2 v8 w8, (Builtin.append_ #[t, t] ty #[.slice (some ⟨wr.heap.size, 0, none⟩) 0 0, nv]).run P (wr.alloc (.cells #[] e)).drew = .ok v2 w2 ∧
    (Builtin.append_ #[t, t] ty' #[v2, .slice (some ⟨w2.heap.size, 0, none⟩) 1 1]).run P (w2.alloc (.cells #[u] e)) = .ok v8 w8 ∧ Below wr.heap.size wr w2 ∧ Below wr.heap.size wr w8 ∧ Lst w8 M lo base e v8 (ys ++ [x]) := by
  have b1 : Below wr.heap.size wr (wr.alloc (.cells #[] e)).drew := ((Below.refl _ _).alloc (Nat.le_refl _) _).drew
  have l1 : Lst (wr.alloc (.cells #[] e)).drew M lo wr.heap.size e (.slice (some ⟨wr.heap.size, 0, none⟩) 0 0) [] := (Lst.lit wr M lo wr.heap.size e (Nat.le_refl _)).turns (fun k hk => by have := hM k hk; omega) (Turns.refl M _).drew
  have l2 : Lst (wr.alloc (.cells #[] e)).drew M lo base e nv ys := hl.turns hM (Turns.of_below b1 (Nat.le_refl _))
  obtain ⟨v2, w2, r2, l3, g2⟩ := run_append_all (P := P) t ty M lo wr.heap.size base e i ht hi hz hsize hby _ [] l1 nv ys l2 (by simp; omega) b1.size (by omega)
  have b2 := b1.trans (l1.below_of g2 b1.size)
  have b3 : Below wr.heap.size wr (w2.alloc (.cells #[u] e)) := b2.alloc b2.size _
  have l4 := l3.alloc (fun k hk => by have := hM k hk; omega) (.cells #[u] e)
  obtain ⟨v8, w8, r8, l8, g8⟩ := run_append_lst (P := P) t ty' M lo wr.heap.size e i ht hi hz hsize hby v2 _ l4 ⟨w2.heap.size, 0, none⟩ 1 1 [u] [x] rfl rfl (by
    intro j u' hj
    match j, hj with
    | 0, hj =>
      simp at hj
      subst hj
      simp [Addr.add]) (one_el hu b3) (by simp; omega) b3.size (by omega)
  refine ⟨v2, w2, v8, w8, r2, r8, b2, b3.trans (l4.below_of g8 b3.size), ?_⟩
  have h := l8.lower hbase
  simpa using h
theorem order_b : ∃ v2 w2 v8 w8, (Builtin.append_ #[t, t] ty #[.slice (some ⟨wr.heap.size, 0, none⟩) 0 0, nv]).run P ((wr.alloc (.cells #[] e)).alloc (.cells #[u] e)).drew = .ok v2 w2 ∧
    (Builtin.append_ #[t, t] ty' #[v2, .slice (some ⟨wr.heap.size + 1, 0, none⟩) 1 1]).run P w2 = .ok v8 w8 ∧ Below wr.heap.size wr w2 ∧ Below wr.heap.size wr w8 ∧ Lst w8 M lo base e v8 (ys ++ [x]) := by
  have b1 : Below wr.heap.size wr ((wr.alloc (.cells #[] e)).alloc (.cells #[u] e)).drew := (((Below.refl _ _).alloc (Nat.le_refl _) _).alloc (by simp) _).drew
  have l1 : Lst ((wr.alloc (.cells #[] e)).alloc (.cells #[u] e)).drew M lo wr.heap.size e (.slice (some ⟨wr.heap.size, 0, none⟩) 0 0) [] := (Lst.lit wr M lo wr.heap.size e (Nat.le_refl _)).turns (fun k hk => by have := hM k hk; omega) ((Turns.refl M _).alloc _).drew
  have l2 : Lst ((wr.alloc (.cells #[] e)).alloc (.cells #[u] e)).drew M lo base e nv ys := hl.turns hM (Turns.of_below b1 (Nat.le_refl _))
  obtain ⟨v2, w2, r2, l3, g2⟩ := run_append_all (P := P) t ty M lo wr.heap.size base e i ht hi hz hsize hby _ [] l1 nv ys l2 (by simp; omega) b1.size (by omega)
  have b2 := b1.trans (l1.below_of g2 b1.size)
  have hc : w2.cell? ⟨wr.heap.size + 1, 0, none⟩ = some u := g2.cell (by simp) (by simp [Value.ownBlock])
  obtain ⟨v8, w8, r8, l8, g8⟩ := run_append_lst (P := P) t ty' M lo wr.heap.size e i ht hi hz hsize hby v2 _ l3 ⟨wr.heap.size + 1, 0, none⟩ 1 1 [u] [x] rfl rfl (by
    intro j u' hj
    match j, hj with
    | 0, hj =>
      simp at hj
      subst hj
      simpa [Addr.add] using hc) (one_el hu b2) (by simp; omega) b2.size (by omega)
  refine ⟨v2, w2, v8, w8, r2, r8, b2, b2.trans (l3.below_of g8 b2.size), ?_⟩
  have h := l8.lower hbase
  simpa using h
theorem order_c : ∃ v2 w2 v8 w8, (Builtin.append_ #[t, t] ty #[.slice (some ⟨wr.heap.size + 1, 0, none⟩) 0 0, nv]).run P ((wr.alloc (.cells #[u] e)).alloc (.cells #[] e)).drew = .ok v2 w2 ∧
    (Builtin.append_ #[t, t] ty' #[v2, .slice (some ⟨wr.heap.size, 0, none⟩) 1 1]).run P w2 = .ok v8 w8 ∧ Below wr.heap.size wr w2 ∧ Below wr.heap.size wr w8 ∧ Lst w8 M lo base e v8 (ys ++ [x]) := by
  have b1 : Below wr.heap.size wr ((wr.alloc (.cells #[u] e)).alloc (.cells #[] e)).drew := (((Below.refl _ _).alloc (Nat.le_refl _) _).alloc (by simp) _).drew
  have l0 := Lst.lit (wr.alloc (.cells #[u] e)) M lo wr.heap.size e (by simp)
  rw [show (wr.alloc (.cells #[u] e)).heap.size = wr.heap.size + 1 by simp] at l0
  have l1 : Lst ((wr.alloc (.cells #[u] e)).alloc (.cells #[] e)).drew M lo wr.heap.size e (.slice (some ⟨wr.heap.size + 1, 0, none⟩) 0 0) [] := l0.turns (fun k hk => by have := hM k hk; omega) (Turns.refl M _).drew
  have l2 : Lst ((wr.alloc (.cells #[u] e)).alloc (.cells #[] e)).drew M lo base e nv ys := hl.turns hM (Turns.of_below b1 (Nat.le_refl _))
  obtain ⟨v2, w2, r2, l3, g2⟩ := run_append_all (P := P) t ty M lo wr.heap.size base e i ht hi hz hsize hby _ [] l1 nv ys l2 (by simp; omega) b1.size (by omega)
  have b2 := b1.trans (l1.below_of g2 b1.size)
  have hc : w2.cell? ⟨wr.heap.size, 0, none⟩ = some u := g2.cell (by simp) (by simp [Value.ownBlock])
  obtain ⟨v8, w8, r8, l8, g8⟩ := run_append_lst (P := P) t ty' M lo wr.heap.size e i ht hi hz hsize hby v2 _ l3 ⟨wr.heap.size, 0, none⟩ 1 1 [u] [x] rfl rfl (by
    intro j u' hj
    match j, hj with
    | 0, hj =>
      simp at hj
      subst hj
      simpa [Addr.add] using hc) (one_el hu b2) (by simp; omega) b2.size (by omega)
  refine ⟨v2, w2, v8, w8, r2, r8, b2, b2.trans (l3.below_of g8 b2.size), ?_⟩
  have h := l8.lower hbase
  simpa using h
end
end Go.Proofs.Ytkdniihnilcpfaa

/-! ## LsO: A call's own list of lists of bytes, all of which lie in memory that was there at its beginning; what append makes of it, in whatever order literals are laid; and a call's own list of states of such. Nothing of the program is named here.   Conditions: none beside those that each line bears. -/
namespace Go.Proofs.Ytkdniihnilcpfaa
open Go.RowKit
set_option linter.unusedVariables false

/-- Such a list. -/
def LsO (w0 w : World) (base : Nat) (e : TypeId) (v : Value) (xss : List (List Nat)) : Prop :=
  ∃ vs, w.ownsRow base e 1 v xss.length vs ∧ ∀ j, j < xss.length → ∃ u, vs[j]? = some u ∧ Bts w0 w0.heap.size u (xss.getD j [])

section
variable {w0 w w' : World} {M : Nat → Prop} {base : Nat} {e : TypeId} {v : Value} {xss : List (List Nat)}
theorem LsO.nil_ (w0 w : World) (base : Nat) (e : TypeId) : LsO w0 w base e (.slice none 0 0) [] := ⟨[], World.ownsRow_nil _ _ _ _, fun j hj => absurd hj (by simp)⟩
theorem LsO.shape (h : LsO w0 w base e v xss) : ∃ A c, v = .slice A xss.length c ∧ xss.length ≤ c ∧ c ≤ maxLen := by
  obtain ⟨vs, ⟨_, h2⟩, _⟩ := h
  rcases h2 with ⟨h3, h4⟩ | ⟨g, cap, cur, h3, _, _, h5, h6, _⟩
  · exact ⟨none, 0, by rw [h4]; exact h3, by omega, by simp [maxLen]⟩
  · exact ⟨_, cap, h3, h5, h6⟩
theorem LsO.far (h : LsO w0 w base e v xss) (hb : ∀ g, (∃ cur, w.heap[g]? = some (.cells cur e (0, 0))) → base ≤ g → w'.heap[g]? = w.heap[g]?) : LsO w0 w' base e v xss := by
  obtain ⟨vs, ⟨h1, h2⟩, h3⟩ := h
  refine ⟨vs, ⟨h1, ?_⟩, h3⟩
  rcases h2 with h2 | ⟨g, cap, cur, h4, h5, h6, h7⟩
  · exact .inl h2
  · exact .inr ⟨g, cap, cur, h4, h5, by rw [hb g ⟨cur, h6⟩ h5]; exact h6, h7⟩
theorem LsO.turns (h : LsO w0 w base e v xss) (hM : ∀ k, M k → k < base) (ht : Turns M w w') : LsO w0 w' base e v xss :=
  h.far fun g ⟨cur, hg⟩ hb => ht.block g (Array.getElem?_eq_some_iff.1 hg).1 (fun hm => by have := hM g hm; omega)
theorem LsO.below (h : LsO w0 w base e v xss) (hb : Below w.heap.size w w') : LsO w0 w' base e v xss :=
  h.far fun g ⟨cur, hg⟩ _ => hb.block g (Array.getElem?_eq_some_iff.1 hg).1
theorem LsO.alloc (h : LsO w0 w base e v xss) (o : Obj) : LsO w0 (w.alloc o) base e v xss := h.below ((Below.refl _ _).alloc (Nat.le_refl _) _)
theorem LsO.lower (h : LsO w0 w base e v xss) {base' : Nat} (hb : base' ≤ base) : LsO w0 w base' e v xss := by
  obtain ⟨vs, ⟨h1, h2⟩, h3⟩ := h
  refine ⟨vs, ⟨h1, ?_⟩, h3⟩
  rcases h2 with h2 | ⟨g, cap, cur, h4, h5, h6⟩
  · exact .inl h2
  · exact .inr ⟨g, cap, cur, h4, by omega, h6⟩
theorem LsO.pts (h : LsO w0 w base e v xss) (hb : Below w0.heap.size w0 w) : Pts w v xss := by
  obtain ⟨A, c, hv, h1, h2⟩ := h.shape
  obtain ⟨vs, ho, h3⟩ := h
  refine ⟨A, xss.length, c, hv, rfl, h1, h2, fun hn => ?_⟩
  obtain ⟨g, cap, hv'⟩ := own_shape ho (by omega)
  rw [hv] at hv'
  injection hv' with e1 e2 e3
  subst e1 e3
  subst hv
  refine ⟨g, 0, rfl, fun j hj => ?_⟩
  obtain ⟨u, h4, h5⟩ := h3 j hj
  exact ⟨u, by rw [Nat.zero_add, ho.cellAt j (by omega)]; exact h4, (h5.below hb).more hb.size⟩
/-- A list of one kind of cells is no list of another. -/
theorem LsO.grown {s : Value} {e2 : TypeId} {size n : Nat} {base2 : Nat} {ys : List Value} (h : LsO w0 w base e v xss) (hg : w.grownBy w' s.ownBlock) (ho : w.ownsRow base2 e2 size s n ys) (hne : e2 ≠ e) : LsO w0 w' base e v xss := by
  refine h.far fun g ⟨cur, hgl⟩ _ => hg.block g (Array.getElem?_eq_some_iff.1 hgl).1 (fun eb => ?_)
  rcases ho.2 with ⟨rfl, _⟩ | ⟨g2, cap, cur2, rfl, _, h2, _⟩
  · simp [Value.ownBlock] at eb
  · simp only [Value.ownBlock, Option.some.injEq] at eb
    subst eb
    rw [h2] at hgl
    injection hgl with hgl
    injection hgl with _ b6 _
    exact hne b6
end
section
variable {P : Program} {w0 w : World}
theorem bts_oneCell {u : Value} {B : Nat} {x : List Nat} (h : Bts w0 B u x) : u.oneCell' = true := by
  obtain ⟨A, n, c, rfl, _⟩ := h
  rfl
theorem run_append_lso (t ty : TypeId) (base : Nat) (e : TypeId) (i : TypeInfo) (ht : P.underlying t = some (.slice e)) (hi : P.info? e = some i) (hz : i.zero = some (.slice none 0 0)) (hsize : i.size = 1) (hby : i.bytes = 24)
    (v : Value) (xss : List (List Nat)) (hl : LsO w0 w base e v xss) (ad : Addr) (m c : Nat) (us : List Value) (yss : List (List Nat)) (hm : us.length = m) (hm' : yss.length = m)
    (hc : ∀ j u, us[j]? = some u → w.cell? (ad.add j) = some u) (hu : ∀ j, j < m → ∃ u, us[j]? = some u ∧ Bts w0 w0.heap.size u (yss.getD j []))
    (hfew : xss.length + m ≤ 1000000) (hbase : base ≤ w.heap.size) :
    ∃ v' w', (Builtin.append_ #[t, t] ty #[v, .slice (some ad) m c]).run P w = .ok v' w' ∧ LsO w0 w' base e v' (xss ++ yss) ∧ w.grownBy w' v.ownBlock := by
  obtain ⟨vs, hown, h3⟩ := hl
  have hvl : vs.length = xss.length := by have := hown.1; omega
  have h1 : ∀ u ∈ us, u.oneCell' = true := by
    intro u hmem
    obtain ⟨j, hj, hje⟩ := List.getElem_of_mem hmem
    obtain ⟨u', h4, h5⟩ := hu j (by omega)
    rw [List.getElem?_eq_getElem hj, hje] at h4
    injection h4 with h4
    subst h4
    exact bts_oneCell h5
  obtain ⟨v', w', hr, h4, h5, _⟩ := run_append_own (P := P) w base t ty e i _ 1 24 ht hi hz hsize hby rfl (by omega) v _ vs hown ad m c us (by simp [hm]) hc h1 (by unfold maxLen; omega) (by omega) hbase
  refine ⟨v', w', hr, ⟨vs ++ us, by rw [List.length_append, hm']; exact h4, fun j hj => ?_⟩, h5⟩
  rw [List.length_append] at hj
  simp only [List.getD_eq_getElem?_getD]
  by_cases hjl : j < xss.length
  · obtain ⟨u, h6, h7⟩ := h3 j hjl
    refine ⟨u, by rw [List.getElem?_append_left (by omega)]; exact h6, ?_⟩
    rw [List.getElem?_append_left hjl, ← List.getD_eq_getElem?_getD]
    exact h7
  · obtain ⟨u, h6, h7⟩ := hu (j - xss.length) (by omega)
    refine ⟨u, by rw [List.getElem?_append_right (by omega), hvl]; exact h6, ?_⟩
    rw [List.getElem?_append_right (by omega), ← List.getD_eq_getElem?_getD]
    exact h7
theorem run_append_allo (t ty : TypeId) (base base2 : Nat) (e : TypeId) (i : TypeInfo) (ht : P.underlying t = some (.slice e)) (hi : P.info? e = some i) (hz : i.zero = some (.slice none 0 0)) (hsize : i.size = 1) (hby : i.bytes = 24)
    (v : Value) (xss : List (List Nat)) (hl : LsO w0 w base e v xss) (u : Value) (yss : List (List Nat)) (hu : LsO w0 w base2 e u yss)
    (hfew : xss.length + yss.length ≤ 1000000) (hbase : base ≤ w.heap.size) :
    ∃ v' w', (Builtin.append_ #[t, t] ty #[v, u]).run P w = .ok v' w' ∧ LsO w0 w' base e v' (xss ++ yss) ∧ w.grownBy w' v.ownBlock := by
  obtain ⟨us, hown, hel⟩ := hu
  have hul : us.length = yss.length := by have := hown.1; omega
  have hown' := hown
  rcases hown.2 with ⟨rfl, h0⟩ | ⟨g, cap, cur, rfl, _⟩
  · have hy : yss = [] := List.eq_nil_of_length_eq_zero h0
    subst hy
    obtain ⟨vs, hv, h3⟩ := hl
    exact ⟨v, w, run_append_owned_none w base t ty e i 1 ht hi v _ vs hv, ⟨vs, by simpa using hv, fun j hj => by simpa using h3 j (by simpa using hj)⟩, World.grownBy.refl _ _⟩
  · exact run_append_lso t ty base e i ht hi hz hsize hby v xss hl ⟨g, 0, none⟩ yss.length cap us yss hul rfl (hown'.cells (g := g) rfl) hel hfew hbase
theorem LsO.lit (w0 w : World) (base : Nat) (e : TypeId) (hb : base ≤ w.heap.size) : LsO w0 (w.alloc (.cells #[] e)) base e (.slice (some ⟨w.heap.size, 0, none⟩) 0 0) [] := by
  have h := World.ownsRow_lit (base := base) (e := e) (size := 1) w #[] 0 hb (by simp [maxLen]) rfl
  exact ⟨[], by simpa using h, fun j hj => absurd hj (by simp)⟩
theorem LsO.below_of {w w' : World} {base : Nat} {e : TypeId} {v : Value} {xss : List (List Nat)} (h : LsO w0 w base e v xss) (hg : w.grownBy w' v.ownBlock) (hb : base ≤ w.heap.size) : Below base w w' := by
  obtain ⟨vs, hown, _⟩ := h
  exact (Below.refl base w).grown hg hb (fun k hk => (hown.lt k hk).1)
theorem one_bel {u : Value} {x : List Nat} (hu : Bts w0 w0.heap.size u x) : ∀ j, j < 1 → ∃ u', ([u])[j]? = some u' ∧ Bts w0 w0.heap.size u' (([x]).getD j []) := by
  intro j hj
  obtain rfl : j = 0 := by omega
  exact ⟨u, rfl, hu⟩
end

/-! ### a list of states -/
/-- A call's own list of states: of each the base, and the list. -/
def StO (w0 w : World) (base : Nat) (eS e : TypeId) (v : Value) (sts : List (List Nat × List (List Nat))) : Prop :=
  ∃ vs, w.ownsRow base eS 2 v sts.length vs ∧ ∀ j, j < sts.length → ∃ u l, vs[j * 2]? = some u ∧ vs[j * 2 + 1]? = some l ∧ Bts w0 w0.heap.size u (sts.getD j ([], [])).1 ∧ LsO w0 w base e l (sts.getD j ([], [])).2

section
variable {w0 w w' : World} {M : Nat → Prop} {base : Nat} {eS e : TypeId} {v : Value} {sts : List (List Nat × List (List Nat))}
theorem StO.shape (h : StO w0 w base eS e v sts) : ∃ A c, v = .slice A sts.length c ∧ sts.length ≤ c ∧ c ≤ maxLen := by
  obtain ⟨vs, ⟨_, h2⟩, _⟩ := h
  rcases h2 with ⟨h3, h4⟩ | ⟨g, cap, cur, h3, _, _, h5, h6, _⟩
  · exact ⟨none, 0, by rw [h4]; exact h3, by omega, by simp [maxLen]⟩
  · exact ⟨_, cap, h3, h5, h6⟩
theorem StO.turns (h : StO w0 w base eS e v sts) (hM : ∀ k, M k → k < base) (ht : Turns M w w') : StO w0 w' base eS e v sts := by
  obtain ⟨vs, ⟨h1, h2⟩, h3⟩ := h
  refine ⟨vs, ⟨h1, ?_⟩, fun j hj => ?_⟩
  · rcases h2 with h2 | ⟨g, cap, cur, h4, h5, h6, h7⟩
    · exact .inl h2
    · refine .inr ⟨g, cap, cur, h4, h5, ?_, h7⟩
      rw [ht.block g (Array.getElem?_eq_some_iff.1 h6).1 (fun hm => by have := hM g hm; omega)]
      exact h6
  · obtain ⟨u, l, a1, a2, a3, a4⟩ := h3 j hj
    exact ⟨u, l, a1, a2, a3, a4.turns hM ht⟩
theorem StO.below (h : StO w0 w base eS e v sts) (hb : Below w.heap.size w w') : StO w0 w' base eS e v sts := h.turns (M := fun _ => False) (fun _ hk => hk.elim) (Turns.of_below hb (Nat.le_refl _))
/-- One state, in a literal of its own. -/
theorem StO.one {g : Nat} {u l : Value} {st : List Nat × List (List Nat)} (h : Blk w g eS #[u, l]) (hg : base ≤ g) (hu : Bts w0 w0.heap.size u st.1) (hl : LsO w0 w base e l st.2) : StO w0 w base eS e (.slice (some ⟨g, 0, none⟩) 1 1) [st] := by
  refine ⟨[u, l], ⟨rfl, .inr ⟨g, 1, _, rfl, hg, h, Nat.le_refl _, by simp [maxLen], rfl, rfl⟩⟩, fun j hj => ?_⟩
  obtain rfl : j = 0 := by simpa using hj
  exact ⟨u, l, rfl, rfl, hu, hl⟩
/-- The first state. -/
theorem StO.at_ (h : StO w0 w base eS e v sts) {j : Nat} (hj : j < sts.length) : ∃ g cap u l, v = .slice (some ⟨g, 0, none⟩) sts.length cap ∧ w.cell? ⟨g, j * 2, none⟩ = some u ∧ w.cell? ⟨g, j * 2 + 1, none⟩ = some l ∧ Bts w0 w0.heap.size u (sts.getD j ([], [])).1 ∧ LsO w0 w base e l (sts.getD j ([], [])).2 := by
  obtain ⟨vs, ho, h3⟩ := h
  obtain ⟨u, l, h4, h5, h6, h7⟩ := h3 j hj
  rcases ho.2 with ⟨_, h8⟩ | ⟨g, cap, cur, h8, h9, h10, h11, h12, h13, h14⟩
  · omega
  · have hcell : ∀ k, k < sts.length * 2 → w.cell? ⟨g, k, none⟩ = vs[k]? := by
      intro k hk
      rw [cell_of_row w g k cur eS (0, 0) h10, ← h14, List.getElem?_take, if_pos hk]
      simp
    exact ⟨g, cap, u, l, h8, by rw [hcell _ (by omega)]; exact h4, by rw [hcell _ (by omega)]; exact h5, h6, h7⟩
end
end Go.Proofs.Ytkdniihnilcpfaa

/-! ## LsOrd: 'append(append([][]byte{}, now...), u)' where the two literals, and a block for the whole, are laid in any order: each append by itself, at any world. Nothing of the program is named here.   Conditions: none beside those that each line bears. -/
namespace Go.Proofs.Ytkdniihnilcpfaa
open Go.RowKit
set_option linter.unusedVariables false

section
variable {P : Program} {w0 WB : World} (t ty e : TypeId) (i : TypeInfo) (ht : P.underlying t = some (.slice e)) (hi : P.info? e = some i) (hz : i.zero = some (.slice none 0 0)) (hsize : i.size = 1) (hby : i.bytes = 24)
include ht hi hz hsize hby
/-- The first append: the literal lies in block gl. -/
theorem lap1 (base : Nat) (nv : Value) (ys : List (List Nat)) (hl : LsO w0 WB base e nv ys) (hfew : ys.length ≤ 900000) {W : World} {gl : Nat} (hW : Below WB.heap.size WB W) (hb : Blk W gl e #[]) (hg : WB.heap.size ≤ gl) :
    ∃ v2 w2, (Builtin.append_ #[t, t] ty #[.slice (some ⟨gl, 0, none⟩) 0 0, nv]).run P W = .ok v2 w2 ∧ LsO w0 w2 WB.heap.size e v2 ys ∧ Below WB.heap.size WB w2 ∧ W.heap.size ≤ w2.heap.size ∧ ∀ k, k < W.heap.size → k ≠ gl → w2.heap[k]? = W.heap[k]? := by
  have l1 : LsO w0 W WB.heap.size e (.slice (some ⟨gl, 0, none⟩) 0 0) [] := ⟨[], ⟨rfl, .inr ⟨gl, 0, #[], rfl, hg, hb, Nat.le_refl _, by simp [maxLen], rfl, rfl⟩⟩, fun j hj => absurd hj (by simp)⟩
  obtain ⟨v2, w2, r2, l3, g2⟩ := run_append_allo (P := P) t ty WB.heap.size base e i ht hi hz hsize hby _ [] l1 nv ys (hl.below hW) (by simp; omega) hW.size
  exact ⟨v2, w2, r2, by simpa using l3, hW.trans (l1.below_of g2 hW.size), g2.size, fun k hk hne => g2.block k hk (fun h => by simp only [Value.ownBlock, Option.some.injEq] at h; exact hne h)⟩
/-- The second one: the literal of the one element lies in block gx. -/
theorem lap2 (ys : List (List Nat)) (hfew : ys.length ≤ 900000) {W : World} {gx : Nat} {v2 u : Value} {x : List Nat} (hu : Bts w0 w0.heap.size u x) (hl : LsO w0 W WB.heap.size e v2 ys) (hW : Below WB.heap.size WB W) (hx : Blk W gx e #[u]) :
    ∃ v8 w8, (Builtin.append_ #[t, t] ty #[v2, .slice (some ⟨gx, 0, none⟩) 1 1]).run P W = .ok v8 w8 ∧ LsO w0 w8 WB.heap.size e v8 (ys ++ [x]) ∧ Below WB.heap.size WB w8 ∧ W.heap.size ≤ w8.heap.size ∧ W.grownBy w8 v2.ownBlock := by
  obtain ⟨v8, w8, r8, l8, g8⟩ := run_append_lso (P := P) t ty WB.heap.size e i ht hi hz hsize hby v2 ys hl ⟨gx, 0, none⟩ 1 1 [u] [x] rfl rfl (by
    intro j u' hj
    match j, hj with
    | 0, hj =>
      simp at hj
      subst hj
      have := hx.cell 0
      simpa [Addr.add] using this) (one_bel hu) (by omega) hW.size
  exact ⟨v8, w8, r8, l8, hW.trans (hl.below_of g8 hW.size), g8.size, g8⟩
end
/-- A block of another kind is kept by the second append. -/
theorem blk_grown {w w' w0 : World} {g base : Nat} {e eS : TypeId} {cs : Array Value} {v : Value} {xss : List (List Nat)} (h : Blk w g eS cs) (hg : w.grownBy w' v.ownBlock) (hl : LsO w0 w base e v xss) (hne : e ≠ eS) : Blk w' g eS cs := by
  have hk : v.ownBlock ≠ some g := by
    intro hv
    obtain ⟨vs, ⟨_, h2⟩, _⟩ := hl
    rcases h2 with ⟨rfl, _⟩ | ⟨g2, cap, cur, rfl, _, h5, _⟩
    · simp [Value.ownBlock] at hv
    · simp only [Value.ownBlock, Option.some.injEq] at hv
      subst hv
      have h : w.heap[g2]? = some (.cells cs eS (0, 0)) := h
      rw [h5] at h
      injection h with h
      injection h with _ h6 _
      exact hne h6
  exact (hg.block g h.lt (fun e => hk e.symm)).trans h
theorem Blk.al {w : World} {g : Nat} {t : TypeId} {cs : Array Value} (h : Blk w g t cs) (o : Obj) : Blk (w.alloc o) g t cs := h.below ((Below.refl _ _).alloc (Nat.le_refl _) _) h.lt
theorem Blk.new1 (w : World) (o : Obj) (t : TypeId) (cs : Array Value) : Blk ((w.alloc o).alloc (.cells cs t)) (w.heap.size + 1) t cs := by
  have h := Blk.new (w.alloc o) t cs
  rw [show (w.alloc o).heap.size = w.heap.size + 1 by simp] at h
  exact h
theorem Blk.new2 (w : World) (o p : Obj) (t : TypeId) (cs : Array Value) : Blk (((w.alloc o).alloc p).alloc (.cells cs t)) (w.heap.size + 2) t cs := by
  have h := Blk.new ((w.alloc o).alloc p) t cs
  rw [show ((w.alloc o).alloc p).heap.size = w.heap.size + 2 by simp] at h
  exact h
theorem fin_set {B g : Nat} {w w8 : World} {a b : Value} (h : Below B w w8) (hg : B ≤ g) : Below B w ((w8.setCell ⟨g, 0, none⟩ a).setCell ⟨g, 1, none⟩ b) := (h.setCell (p := ⟨g, 0, none⟩) hg a).setCell (p := ⟨g, 1, none⟩) hg b
theorem fin_all {w w8 : World} {o : Obj} (h : Below w.heap.size w w8) : Below w.heap.size w (w8.alloc o) := h.alloc h.size o
theorem fin_blk {g : Nat} {w8 : World} {eS : TypeId} {a b c d : Value} (h : Blk w8 g eS #[c, d]) : Blk ((w8.setCell ⟨g, 0, none⟩ a).setCell ⟨g, 1, none⟩ b) g eS #[a, b] := (h.set_ 0 a).set_ 1 b
theorem fin_lso {w0 w8 : World} {g base : Nat} {e eS : TypeId} {a b v : Value} {xss : List (List Nat)} {cs : Array Value} (h : LsO w0 w8 base e v xss) (hb : Blk w8 g eS cs) (hne : eS ≠ e) : LsO w0 ((w8.setCell ⟨g, 0, none⟩ a).setCell ⟨g, 1, none⟩ b) base e v xss := by
  refine h.far fun g2 ⟨cur, hg2⟩ _ => ?_
  have hk : g2 ≠ g := by
    rintro rfl
    have hb : w8.heap[g2]? = some (.cells cs eS (0, 0)) := hb
    rw [hb] at hg2
    injection hg2 with hg2
    injection hg2 with _ h6 _
    exact hne h6
  rw [Below.heap_setCell _ _ _ _ hk, Below.heap_setCell _ _ _ _ hk]
end Go.Proofs.Ytkdniihnilcpfaa

/-! ## CutCopy: 'copy' of bytes that may be cut short by the room that there is. Nothing of the program is named here.   Conditions: none beside those that each line bears. -/
namespace Go.Proofs.Ytkdniihnilcpfaa
open Go.RowKit
set_option linter.unusedVariables false

theorem run_copy_cut {P : Program} {w : World} (dT sT ty : TypeId) (elem : TypeId) (hu : P.underlying dT = some (.slice elem)) (hsz : (P.info? elem).map (·.size) = some 1)
    (sp : Option Addr) (dLen dCap sLen sCap : Nat) (g off : Nat) (cur : Array Value) (t : TypeId) (hg : Blk w g t cur) (ys : List Nat) (B : Nat) (hr : Bts w B (.slice sp sLen sCap) ys)
    (hn : dLen ≤ ys.length) (hfit : off + dLen ≤ cur.size) :
    ∃ w', (Builtin.copy_ #[dT, sT] ty #[.slice (some ⟨g, off, none⟩) dLen dCap, .slice sp sLen sCap]).run P w = .ok (goInt (dLen : Nat)) w' ∧ Blk w' g t (splice cur.toList off ((ys.take dLen).map bv)).toArray ∧ Only g w w' := by
  have hl := bts_len hr
  by_cases h0 : dLen = 0
  · subst h0
    refine ⟨w, ?_, by simpa [splice] using hg, Only.refl _ _⟩
    have hrun := run_copy_none (P := P) w dT sT ty elem (some ⟨g, off, none⟩) sp 0 dCap sLen sCap hu hsz (by simp)
    simpa using hrun
  · obtain ⟨ad, rfl, hsrc⟩ := bts_src hr (by omega)
    have hlen : ((ys.take dLen).map bv).length = dLen := by rw [List.length_map, List.length_take]; omega
    have hrun := run_copy_row (P := P) w dT sT ty elem g off dLen dCap ad sLen sCap cur t ((ys.take dLen).map bv) hu hsz hg (by rw [hlen]; exact (Nat.min_eq_right (by omega)).symm) (fun j v hv => hsrc j v (by
      rw [List.map_take, List.getElem?_take] at hv
      split at hv
      · exact hv
      · cases hv)) (by rw [hlen]; exact hfit) (map_bv_one _)
    rw [hlen] at hrun
    refine ⟨_, hrun, show _ = _ from ?_, Only.setRow (cur := cur) (t := t) _⟩
    have h9 := setRow_heap w g _ (cur.toList.take off ++ (ys.take dLen).map bv ++ cur.toList.drop (off + dLen)).toArray t _ hg
    rw [h9]
    unfold splice
    rw [hlen, List.append_assoc]
theorem step_copy_cut {P : Program} {ops : Array Oper} {o : Oper} {a : Act} {w : World} {K : Act → World → Prop} {Q : Exit → Act → World → Prop} {E : Prop} (hgd : o.guard = none) (d s : Operand) (dT sT : TypeId)
    (ho : o.op = .call { callee := .builtin .copy, args := #[d, s], argTypes := #[dT, sT] }) (elem : TypeId) (hu : P.underlying dT = some (.slice elem)) (hsz : (P.info? elem).map (·.size) = some 1)
    (sp : Option Addr) (dLen dCap sLen sCap : Nat) (g off : Nat) (hd : a.eval d = .slice (some ⟨g, off, none⟩) dLen dCap) (hs : a.eval s = .slice sp sLen sCap)
    (cur : Array Value) (t : TypeId) (hg : Blk w g t cur) (ys : List Nat) (B : Nat) (hr : Bts w B (.slice sp sLen sCap) ys)
    (hn : dLen ≤ ys.length) (hfit : off + dLen ≤ cur.size)
    (h : ∀ w', Hid (Blk w' g t (splice cur.toList off ((ys.take dLen).map bv)).toArray) → Hid (Only g w w') → K (a.put o.dst (goInt (dLen : Nat))) w') : if Region.wanted o (yielded ops a.tmps) = true then Oper.wp P o a w K Q else E := by
  have hw : Region.wanted o (yielded ops a.tmps) = true := by simp [Region.wanted, hgd]
  rw [if_pos hw]
  obtain ⟨w', hrun, h1, h2⟩ := run_copy_cut dT sT o.type elem hu hsz sp dLen dCap sLen sCap g off cur t hg ys B hr hn hfit
  have h3 := h w' h1 h2
  unfold Oper.wp
  simp [execOp, ho, resolve, invoke, builtin, hd, hs, hrun, Result.andThen]
  exact h3
end Go.Proofs.Ytkdniihnilcpfaa

/-! ## Shift: One bit of a number of 64: 'x >> i & 1'. Nothing of the program is named here.   Conditions: none beside those that each line bears. -/
namespace Go.Proofs.Ytkdniihnilcpfaa
open Go.RowKit
set_option linter.unusedVariables false

def shN (K k : Nat) : Int := ((K / 2 ^ min k 64 : Nat) : Int)
theorem shift_nat (K k : Nat) (kd : IntKind) : Op.shift .shr .u64 (K : Int) kd (k : Int) = pure (.int .u64 (shN K k)) := by
  rw [shift_shr_any .u64 kd (K : Int) (k : Int) (by omega)]
  unfold shN
  rw [Int.natCast_ediv, Int.natCast_pow]
  rfl
theorem and_one (K k : Nat) (b : Bool) (hK : K < 18446744073709551616) (hb : K.testBit k = b) : bits .and .u64 (shN K k) 1 = if b = true then 1 else 0 := by
  subst hb
  unfold shN
  have h1 : K / 2 ^ min k 64 < 18446744073709551616 := Nat.lt_of_le_of_lt (Nat.div_le_self _ _) hK
  rw [show (1 : Int) = ((1 : Nat) : Int) from rfl, u64_and_nat _ _ h1 (by omega), Nat.and_one_is_mod]
  have h2 : K.testBit k = (K / 2 ^ min k 64 % 2 == 1) := by
    rcases Nat.lt_or_ge 64 k with h | h
    · rw [Nat.min_eq_right (by omega), Nat.div_eq_of_lt (by simpa using hK)]
      exact Nat.testBit_lt_two_pow (Nat.lt_of_lt_of_le hK (Nat.le_trans (by decide : 18446744073709551616 ≤ 2 ^ 64) (Nat.pow_le_pow_right (by omega) (by omega))))
    · rw [Nat.min_eq_left h, Nat.testBit_eq_decide_div_mod_eq]
      rfl
  rw [h2]
  have h3 : K / 2 ^ min k 64 % 2 < 2 := Nat.mod_lt _ (by omega)
  generalize K / 2 ^ min k 64 % 2 = m at h3 ⊢
  match m, h3 with
  | 0, _ => rfl
  | 1, _ => rfl
theorem wpList_shr_nat {P : Program} {w : World} {ops : Array Oper} {rest : List Oper} {o : Oper} {a : Act} {Q : Exit → Act → World → Prop} (hg : o.guard = none) (x y : Operand) (t t' : TypeId) (hop : o.op = Op.binOp .shr t x y t')
    (K k : Nat) (hx : a.eval x = .int .u64 (K : Int)) (hy : a.eval y = .int .i64 (k : Int)) (h : wpList P ops Q rest (a.put o.dst (.int .u64 (shN K k))) w) : wpList P ops Q (o :: rest) a w := by
  refine wpList_plain hg fun K' hK' => ?_
  unfold Oper.wp
  simp [execOp, hop, hx, hy, binOp_shr, shift_nat, eqGuard_shr]
  exact hK' _ _ h
theorem wpList_and_one {P : Program} {w : World} {ops : Array Oper} {rest : List Oper} {o : Oper} {a : Act} {Q : Exit → Act → World → Prop} (hg : o.guard = none) (x y : Operand) (t t' : TypeId) (hop : o.op = Op.binOp .and t x y t')
    (K k : Nat) (b : Bool) (hK : K < 18446744073709551616) (hb : K.testBit k = b) (hx : a.eval x = .int .u64 (shN K k)) (hy : a.eval y = .int .u64 1) (h : wpList P ops Q rest (a.put o.dst (.int .u64 (if b = true then 1 else 0))) w) : wpList P ops Q (o :: rest) a w := by
  refine wpList_plain hg fun K' hK' => ?_
  have e : binOp .and t (.int .u64 (shN K k)) (.int .u64 1) = pure (.int .u64 (if b = true then 1 else 0)) := by rw [← and_one K k b hK hb]; rfl
  unfold Oper.wp
  simp [execOp, hop, hx, hy, e]
  exact hK' _ _ h
end Go.Proofs.Ytkdniihnilcpfaa

/-! ## StructRow: A slice of structs that came in, read field by field. Nothing of the program is named here.   Conditions: every field is one cell. -/
namespace Go.Proofs.Ytkdniihnilcpfaa
open Go.RowKit Go.ChangeShapes Go.WideShapes Go.Deep
section
variable {H : Type} {enc : TypeId × Value → H} {P : Program} {w : World} {base : Nat} {spare : Nat → Bool} {held : Bool}
/-- What is known of such a slice: it is nil; or field j of element i lies at its place, and reads as its type's values do. -/
def StructRow (enc : TypeId × Value → H) (P : Program) (w : World) (base : Nat) (spare : Nat → Bool) (held : Bool) (fs : Array Field) (A : Option Addr) (l c : Nat) : Prop :=
  (A = none ∧ l = 0 ∧ c = 0) ∨ ∃ b off, A = some ⟨b, off, none⟩ ∧ l ≤ c ∧ c ≤ maxLen ∧ ∀ i, i < l → b < w.heap.size ∧ ∀ (j : Nat) (f : Field), fs[j]? = some f →
    ∃ (v : Value) (y : DataW H × List MemPlace) (n : Nat), w.cell? ⟨b, off + (i * fs.size + j), none⟩ = some v ∧ DataW.trod enc P w base spare held n f.type [v] = some y
theorem StructRow.of_trod {t e : TypeId} {fs : Array Field} {fuel : Nat} {A : Option Addr} {l c : Nat} {x : DataW H × List MemPlace} (ht : P.underlying t = some (.slice e)) (he : P.underlying e = some (.struct fs)) (h1 : oneCellFields P fs = true)
    (hC : P.cellsOf e = fs.size) (h0 : 0 < fs.size) (h : DataW.trod enc P w base spare held fuel t [.slice A l c] = some x) (hsp : A ≠ none → l ≠ 0 ∨ ∃ b off, A = some ⟨b, off, none⟩) :
    StructRow enc P w base spare held fs A l c := by
  rcases open_slice ht h with ⟨hcs, _⟩ | ⟨a, len, cap, m, n, D, Pl, hcs, _, hl, hm, hmm, _, hrow⟩
  · simp only [List.cons.injEq, Value.slice.injEq, and_true] at hcs
    exact .inl hcs
  · simp only [List.cons.injEq, Value.slice.injEq, and_true] at hcs
    obtain ⟨rfl, rfl, rfl⟩ := hcs
    have hlm : l ≤ m := by rw [hmm]; split <;> omega
    rw [hC] at hrow
    have hcell : ∀ i, i < m → ∀ (j : Nat) (f : Field), fs[j]? = some f → ∃ (v : Value) (y : DataW H × List MemPlace) (n : Nat), w.cell? (a.add (i * fs.size + j)) = some v ∧ DataW.trod enc P w base spare held n f.type [v] = some y := by
      intro i hi j f hj
      obtain ⟨row, hr, htr⟩ := hrow i hi
      obtain ⟨_, hlen, hat⟩ := World.cells?_some hr
      obtain ⟨ys, k, _, _, _, hyl, hfield⟩ := DataW.trod_struct he htr
      have hjs : j < fs.size := (Array.getElem?_eq_some_iff.1 hj).1
      obtain ⟨o1, o2⟩ := hone_of h1 j f hj
      have hf := hfield j f hj
      rw [o1, o2, List.drop_eq_getElem_cons (by omega), List.take_succ_cons, List.take_zero] at hf
      rw [List.getElem?_eq_getElem (show j < ys.length by omega)] at hf
      refine ⟨row[j], ys[j], k, ?_, hf⟩
      rw [← add_add, hat j hjs]
      exact List.getElem?_eq_getElem _
    have hspot : a.spot = none := by
      rcases hsp (by simp) with hl0 | ⟨b, off, hb⟩
      · have hf0 : fs[0]? = some fs[0] := Array.getElem?_eq_getElem h0
        obtain ⟨v, y, k, hv, _⟩ := hcell 0 (by omega) 0 _ hf0
        simpa [Addr.add] using World.cell?_spot hv
      · simp only [Option.some.injEq] at hb
        rw [hb]
    obtain ⟨b, off, spot⟩ := a
    subst hspot
    refine .inr ⟨b, off, rfl, hl, hm, fun i hi => ⟨?_, fun j f hj => ?_⟩⟩
    · have hf0 : fs[0]? = some fs[0] := Array.getElem?_eq_getElem h0
      obtain ⟨v, y, k, hv, _⟩ := hcell i (by omega) 0 _ hf0
      have := World.block_lt_of_cell? w _ hv
      have e2 : ∀ q, (Addr.mk b off none).add q = ⟨b, off + q, none⟩ := fun q => by unfold Addr.add; split <;> simp_all
      rw [e2] at this
      exact this
    · obtain ⟨v, y, k, hv, hy⟩ := hcell i (by omega) j f hj
      have e2 : ∀ q, (Addr.mk b off none).add q = ⟨b, off + q, none⟩ := fun q => by unfold Addr.add; split <;> simp_all
      rw [e2] at hv
      exact ⟨v, y, k, hv, hy⟩
end
end Go.Proofs.Ytkdniihnilcpfaa

/-
  Plain facts: bytes in slices as lists of numbers, numbers as bytes, and the sum of bytes. Nothing of the program is named here.
  Conditions: none beside those that each line bears.
-/
import Derived.WalkKit
import Derived.WalkSpells
import Derived.Laws.BitsAllLaws
import Derived.Deep.Draws
import Derived.Laws.AppendOwnNone
import Derived.OpenShut
namespace Go.Proofs.Ytckabekimdcdcaa
open Go.RowKit

/-! ### bytes that lie in memory -/

/-- The slice value v holds the bytes xs, in blocks below B. -/
def Bts (w : World) (B : Nat) (v : Value) (xs : List Nat) : Prop :=
  ∃ A n c, v = .slice A n c ∧ xs.length = n ∧ n ≤ maxLen ∧ (n ≤ c ∧ (A = none → c = 0)) ∧ c ≤ maxLen ∧ (∀ j, j < n → xs.getD j 0 < 256) ∧
    (0 < n → ∃ b off, A = some ⟨b, off, none⟩ ∧ b < B ∧ ∀ j, j < n → w.cell? ⟨b, off + j, none⟩ = some (.int .u8 ((xs.getD j 0 : Nat) : Int)))

theorem Bts.keep {w w' : World} {B : Nat} {v : Value} {xs : List Nat} (h : Bts w B v xs) (hk : ∀ p : Addr, p.block < B → w'.cell? p = w.cell? p) : Bts w' B v xs := by
  obtain ⟨A, n, c, hv, hl, hm, hc, hcm, hb, hx⟩ := h
  refine ⟨A, n, c, hv, hl, hm, hc, hcm, hb, fun hn => ?_⟩
  obtain ⟨b, off, hA, hB, hcell⟩ := hx hn
  exact ⟨b, off, hA, hB, fun j hj => (hk _ hB).trans (hcell j hj)⟩
theorem Bts.below {w w' : World} {B : Nat} {v : Value} {xs : List Nat} (h : Bts w B v xs) (hb : Below B w w') : Bts w' B v xs := h.keep fun _ hp => hb.cell hp
theorem Bts.more {w : World} {B B' : Nat} {v : Value} {xs : List Nat} (h : Bts w B v xs) (hB : B ≤ B') : Bts w B' v xs := by
  obtain ⟨A, n, c, hv, hl, hm, hc, hcm, hb, hx⟩ := h
  refine ⟨A, n, c, hv, hl, hm, hc, hcm, hb, fun hn => ?_⟩
  obtain ⟨b, off, hA, hb', hcell⟩ := hx hn
  exact ⟨b, off, hA, by omega, hcell⟩
theorem Bts.nil_ (w : World) (B : Nat) : Bts w B (.slice none 0 0) [] :=
  ⟨none, 0, 0, rfl, rfl, by simp [maxLen], ⟨by omega, fun _ => rfl⟩, by simp [maxLen], fun j hj => absurd hj (by omega), fun h => absurd h (by omega)⟩

/-! ### the sum -/

def mixN (h x : Nat) : Nat := ((h ^^^ x) * 1099511628211) % 18446744073709551616
def sumStart : Nat := 14695981039346656037
def sumN (xs : List Nat) : Nat := xs.foldl mixN sumStart
theorem mixN_lt (h x : Nat) : mixN h x < 18446744073709551616 := by unfold mixN; exact Nat.mod_lt _ (by omega)
theorem foldl_mix (xs : List Nat) : ∀ s, s < 18446744073709551616 → xs.foldl mixN s < 18446744073709551616 := by
  induction xs with
  | nil => intro s h; simpa using h
  | cons x r ih => intro s h; rw [List.foldl_cons]; exact ih _ (mixN_lt _ _)
theorem sumN_lt (xs : List Nat) : sumN xs < 18446744073709551616 := foldl_mix xs sumStart (by unfold sumStart; omega)
theorem mix_wrap (h x : Nat) (hh : h < 18446744073709551616) (hx : x < 18446744073709551616) :
    IntKind.u64.wrap (bits .xor .u64 (h : Int) (x : Int) * 1099511628211) = ((mixN h x : Nat) : Int) := by
  rw [u64_xor_nat h x hh hx, mixN]
  generalize h ^^^ x = m
  rw [IntKind.wrap_u64, Int.natCast_emod, Int.natCast_mul]
  rw [show ((1099511628211:Nat):Int) = 1099511628211 from rfl, show ((18446744073709551616:Nat):Int) = 18446744073709551616 from rfl]

def sumI (xs : List Nat) : Int := ((sumN xs : Nat) : Int)
theorem foldl_snoc {α β : Type} (f : β → α → β) (s : β) (xs : List α) (x : α) : (xs ++ [x]).foldl f s = f (xs.foldl f s) x := by
  rw [List.foldl_append, List.foldl_cons, List.foldl_nil]
theorem sumN_snoc (xs : List Nat) (x : Nat) : sumN (xs ++ [x]) = mixN (sumN xs) x := by
  unfold sumN
  exact foldl_snoc mixN sumStart xs x
theorem sumI_snoc (xs : List Nat) (x : Nat) (hx : x < 256) :
    IntKind.u64.wrap (bits .xor .u64 (sumI xs) (x : Int) * 1099511628211) = sumI (xs ++ [x]) := by
  unfold sumI
  rw [sumN_snoc]
  exact mix_wrap _ _ (sumN_lt xs) (Nat.lt_of_lt_of_le hx (by omega))
theorem sumI_nil : sumI [] = 14695981039346656037 := by unfold sumI sumN; rw [List.foldl_nil]; unfold sumStart; rfl
theorem sumI_nonneg (xs : List Nat) : 0 ≤ sumI xs := Int.natCast_nonneg _
theorem sumI_lt (xs : List Nat) : sumI xs < 18446744073709551616 := by
  unfold sumI
  have := sumN_lt xs
  omega

/-- The sum as the call answers it: the highest 32 bits, exclusive or the lowest 32. -/
def sumU (xs : List Nat) : Int := bits .xor .u32 (sumI xs / 4294967296) (sumI xs % 4294967296)
theorem sum_high (xs : List Nat) : IntKind.u64.wrap ((sumI xs).tdiv 4294967296) % 4294967296 = sumI xs / 4294967296 := by
  have h0 := sumI_nonneg xs
  have h1 := sumI_lt xs
  rw [IntKind.wrap_u64, Int.tdiv_eq_ediv_of_nonneg h0]
  omega

/-! ### numbers as bytes -/

/-- The number of bytes, the lowest first. -/
def le : List Nat → Nat
  | [] => 0
  | x :: r => x + 256 * le r

theorem le_lt (xs : List Nat) (h : ∀ x ∈ xs, x < 256) : le xs < 256 ^ xs.length := by
  induction xs with
  | nil => simp [le]
  | cons x r ih =>
    have h1 := ih (fun y hy => h y (List.mem_cons_of_mem _ hy))
    have h2 := h x (List.mem_cons_self ..)
    rw [le, List.length_cons, Nat.pow_succ]
    omega
theorem le_append (xs ys : List Nat) : le (xs ++ ys) = le xs + 256 ^ xs.length * le ys := by
  induction xs with
  | nil => simp [le]
  | cons x r ih =>
    rw [List.cons_append, le, le, ih, List.length_cons, Nat.pow_succ, Nat.mul_add, Nat.add_assoc, ← Nat.mul_assoc, Nat.mul_comm 256 (256 ^ r.length)]
theorem pow256 (k : Nat) : 256 ^ k = 2 ^ (8 * k) := by
  rw [Nat.pow_mul]
theorem pow_le56 (k : Nat) (hk : k < 8) : 2 ^ (8 * k) ≤ 72057594037927936 := by
  have := Nat.pow_le_pow_right (show 0 < 2 by omega) (show 8 * k ≤ 56 by omega)
  simpa using this
theorem le_or (p : List Nat) (k x : Nat) (hl : p.length = k) (hk : k < 8) (hp : ∀ y ∈ p, y < 256) (hx : x < 256) :
    bits .or .u64 ((le p : Nat) : Int) (IntKind.u64.wrap ((x : Int) * 2 ^ (8 * k))) = ((le (p ++ [x]) : Nat) : Int) := by
  have h1 := le_lt p hp
  rw [hl, pow256] at h1
  have h2 := pow_le56 k hk
  have h3 : x * 2 ^ (8 * k) ≤ 255 * 2 ^ (8 * k) := Nat.mul_le_mul_right _ (by omega)
  have e1 : (x : Int) * 2 ^ (8 * k) = ((x * 2 ^ (8 * k) : Nat) : Int) := by
    rw [Int.natCast_mul, Int.natCast_pow]
    rfl
  have e2 : IntKind.u64.wrap ((x * 2 ^ (8 * k) : Nat) : Int) = ((x * 2 ^ (8 * k) : Nat) : Int) := by
    rw [IntKind.wrap_u64]
    omega
  rw [e1, e2, u64_or_nat _ _ (by omega) (by omega), Nat.or_comm, nat_join (8 * k) _ _ (Nat.mul_mod_left ..) h1, le_append, hl, pow256]
  simp only [le, Nat.mul_zero, Nat.add_zero]
  rw [Nat.mul_comm, Nat.add_comm]
theorem le_shift (x : Nat) (p : List Nat) (k : Nat) (hl : p.length = k) (hk : k < 8) (hp : ∀ y ∈ p, y < 256) (hx : x < 256) :
    IntKind.u64.wrap (IntKind.u64.wrap (((le p : Nat) : Int) * 256) + (x : Int)) = ((le (x :: p) : Nat) : Int) := by
  have h1 := le_lt p hp
  rw [hl, pow256] at h1
  have h2 := pow_le56 k hk
  rw [IntKind.wrap_u64, IntKind.wrap_u64, le]
  omega

/-- The n bytes from a on. -/
def win (xs : List Nat) (a n : Nat) : List Nat := (xs.drop a).take n
theorem win_length (xs : List Nat) (a n : Nat) (h : a + n ≤ xs.length) : (win xs a n).length = n := by
  unfold win
  simp
  omega
theorem win_snoc (xs : List Nat) (a k : Nat) (h : a + k < xs.length) : win xs a (k + 1) = win xs a k ++ [xs.getD (a + k) 0] := by
  unfold win
  rw [List.take_succ_eq_append_getElem (by simp; omega)]
  simp [h]
theorem win_cons (xs : List Nat) (a n : Nat) (h : a < xs.length) : win xs a (n + 1) = xs.getD a 0 :: win xs (a + 1) n := by
  unfold win
  rw [List.drop_eq_getElem_cons h, List.take_succ_cons]
  simp [h]
theorem win_byte (xs : List Nat) (a n : Nat) (hb : ∀ j, j < xs.length → xs.getD j 0 < 256) : ∀ y ∈ win xs a n, y < 256 := by
  intro y hy
  have h1 := List.mem_of_mem_drop (List.mem_of_mem_take hy)
  obtain ⟨j, hj, rfl⟩ := List.getElem_of_mem h1
  have := hb j hj
  simpa [hj] using this

/-- The k-th byte of a number. -/
def dig (v k : Nat) : Nat := v / 2 ^ (8 * k) % 256
theorem dig_lt (v k : Nat) : dig v k < 256 := Nat.mod_lt _ (by omega)
theorem dig_shift (v k : Nat) : dig (v / 256) k = dig v (k + 1) := by
  unfold dig
  rw [Nat.div_div_eq_div_mul, show 8 * (k + 1) = 8 + 8 * k by omega, Nat.pow_add]
def bv (x : Nat) : Value := .int .u8 (x : Int)
/-- The number's n lowest bytes, the lowest first. -/
def numL (v n : Nat) : List Nat := (List.range n).map (dig v)
theorem numL_length (v n : Nat) : (numL v n).length = n := by simp [numL]
theorem numL_getD (v n k : Nat) (h : k < n) : (numL v n).getD k 0 = dig v k := by simp [numL, h]
theorem numL_snoc (v n : Nat) : numL v (n + 1) = numL v n ++ [dig v n] := by simp [numL, List.range_succ]
theorem numL_byte (v n : Nat) : ∀ y ∈ numL v n, y < 256 := by
  intro y hy
  obtain ⟨k, _, rfl⟩ := List.mem_map.1 hy
  exact dig_lt v k

/-- Bytes laid over others from p on. -/
def over (xs : List Nat) (p : Nat) (ys : List Nat) : List Nat := xs.take p ++ (ys ++ xs.drop (p + ys.length))
theorem over_length (xs : List Nat) (p : Nat) (ys : List Nat) (h : p + ys.length ≤ xs.length) : (over xs p ys).length = xs.length := by
  simp [over]
  omega
theorem over_getD (xs : List Nat) (p : Nat) (ys : List Nat) (h : p + ys.length ≤ xs.length) (j : Nat) :
    (over xs p ys).getD j 0 = if p ≤ j ∧ j < p + ys.length then ys.getD (j - p) 0 else xs.getD j 0 := by
  have hp : (xs.take p).length = p := by simp; omega
  simp only [over, List.getD_eq_getElem?_getD]
  by_cases h1 : j < p
  · rw [if_neg (by omega), List.getElem?_append_left (by omega), List.getElem?_take, if_pos h1]
  · rw [List.getElem?_append_right (by omega), hp]
    by_cases h2 : j < p + ys.length
    · rw [if_pos ⟨by omega, h2⟩, List.getElem?_append_left (by omega)]
    · rw [if_neg (by omega), List.getElem?_append_right (by omega), List.getElem?_drop, show p + ys.length + (j - p - ys.length) = j by omega]

/-- A block's cells with a number's bytes laid in from p on. -/
def putV (cur : Array Value) (p v : Nat) : Nat → Array Value
  | 0 => cur
  | k + 1 => (putV cur p v k).setIfInBounds (p + k) (bv (dig v k))
theorem putV_size (cur : Array Value) (p v k : Nat) : (putV cur p v k).size = cur.size := by
  induction k with
  | zero => rfl
  | succ k ih => rw [putV, Array.size_setIfInBounds, ih]
theorem putV_at (cur : Array Value) (p v k j : Nat) (h : p + k ≤ cur.size) :
    (putV cur p v k)[j]? = if p ≤ j ∧ j < p + k then some (bv (dig v (j - p))) else cur[j]? := by
  induction k with
  | zero => rw [putV, if_neg (by omega)]
  | succ k ih =>
    rw [putV, Array.getElem?_setIfInBounds, putV_size, ih (by omega)]
    by_cases h1 : p + k = j
    · subst h1
      rw [if_pos rfl, if_pos (by omega), if_pos (by omega), show p + k - p = k by omega]
    · rw [if_neg h1]
      by_cases h2 : p ≤ j ∧ j < p + k
      · rw [if_pos h2, if_pos (by omega)]
      · rw [if_neg h2, if_neg (by omega)]

/-- Block g is just these cells. -/
def Blk (w : World) (g : Nat) (t : TypeId) (cs : Array Value) : Prop := w.heap[g]? = some (.cells cs t (0, 0))
theorem Blk.lt {w : World} {g : Nat} {t : TypeId} {cs : Array Value} (h : Blk w g t cs) : g < w.heap.size := by
  rcases Nat.lt_or_ge g w.heap.size with hlt | hge
  · exact hlt
  · unfold Blk at h; rw [Array.getElem?_eq_none hge] at h; cases h
theorem Blk.cell {w : World} {g : Nat} {t : TypeId} {cs : Array Value} (h : Blk w g t cs) (i : Nat) : w.cell? ⟨g, i, none⟩ = cs[i]? := cell_of_row w g i cs t (0, 0) h
theorem Blk.frozen {w : World} {g : Nat} {t : TypeId} {cs : Array Value} (h : Blk w g t cs) (i : Nat) : w.frozen? ⟨g, i, none⟩ = false := by
  unfold Blk at h
  simp [World.frozen?, h]
theorem Blk.set_ {w : World} {g : Nat} {t : TypeId} {cs : Array Value} (h : Blk w g t cs) (i : Nat) (u : Value) : Blk (w.setCell ⟨g, i, none⟩ u) g t (cs.setIfInBounds i u) := by
  unfold Blk at h ⊢
  simp [World.setCell, Array.getElem?_modify, h]
theorem Blk.below {w w' : World} {g : Nat} {t : TypeId} {cs : Array Value} {B : Nat} (h : Blk w g t cs) (hb : Below B w w') (hg : g < B) : Blk w' g t cs := (hb.block g hg).trans h
theorem Blk.new (w : World) (t : TypeId) (cs : Array Value) : Blk (w.alloc (.cells cs t)) w.heap.size t cs := heap_alloc_new w _
theorem Blk.of_own {w : World} {base : Nat} {e : TypeId} {g n cap : Nat} {xs : List Value} (h : w.ownsRow base e 1 (.slice (some ⟨g, 0, none⟩) n cap) n xs) :
    ∃ cur, Blk w g e cur ∧ cur.size = cap ∧ n ≤ cap ∧ cap ≤ maxLen ∧ ∀ j, j < n → cur[j]? = xs[j]? := by
  obtain ⟨hl, h2⟩ := h
  rcases h2 with ⟨h', _⟩ | ⟨g', cap', cur, h', _, hg, hn, hm, hs, ht⟩
  · simp at h'
  · simp only [Value.slice.injEq, Option.some.injEq, Addr.mk.injEq, and_true, true_and] at h'
    obtain ⟨rfl, rfl⟩ := h'
    refine ⟨cur, hg, by simpa using hs, hn, hm, fun j hj => ?_⟩
    rw [← ht, List.getElem?_take, if_pos (by omega)]
    simp
/-- A slice of a known block, as bytes. -/
theorem Bts.of_blk {w : World} {g : Nat} {t : TypeId} {cur : Array Value} {B off n cap : Nat} {xs : List Nat} (h : Blk w g t cur) (hB : g < B) (hl : xs.length = n) (hn : n ≤ cap) (hm : cap ≤ maxLen)
    (hb : ∀ j, j < n → xs.getD j 0 < 256) (hc : ∀ j, j < n → cur[off + j]? = some (bv (xs.getD j 0))) : Bts w B (.slice (some ⟨g, off, none⟩) n cap) xs :=
  ⟨_, _, _, rfl, hl, Nat.le_trans hn hm, ⟨hn, fun h => by cases h⟩, hm, hb, fun _ => ⟨g, off, rfl, hB, fun j hj => (h.cell _).trans (hc j hj)⟩⟩
/-- What is owned, as bytes. -/
theorem Bts.of_own {w : World} {base : Nat} {e : TypeId} {v : Value} {n : Nat} {xs : List Nat} (h : w.ownsRow base e 1 v n (xs.map bv)) (hb : ∀ y ∈ xs, y < 256) : Bts w w.heap.size v xs := by
  have hl : xs.length = n := by have := h.1; simpa using this
  have hb' : ∀ j, j < n → xs.getD j 0 < 256 := by
    intro j hj
    have hj' : j < xs.length := by omega
    have := hb _ (List.getElem_mem hj')
    simpa [hj'] using this
  rcases h.2 with ⟨rfl, rfl⟩ | ⟨g, cap, cur, rfl, _, hg, hn, hm, _, ht⟩
  · obtain rfl : xs = [] := List.eq_nil_of_length_eq_zero hl
    exact Bts.nil_ _ _
  · refine Bts.of_blk (off := 0) (t := e) (cur := cur) hg (Blk.lt (t := e) (cs := cur) hg) hl hn hm hb' (fun j hj => ?_)
    have hj' : j < xs.length := by omega
    have e1 : (cur.toList.take (n * 1))[j]? = (xs.map bv)[j]? := by rw [ht]
    rw [List.getElem?_take, if_pos (by omega)] at e1
    rw [Nat.zero_add]
    simp [hj'] at e1 ⊢
    exact e1

theorem le_numL (v n : Nat) : le (numL v n) = v % 2 ^ (8 * n) := by
  induction n with
  | zero => simp [numL, le, Nat.mod_one]
  | succ n ih =>
    rw [numL_snoc, le_append, ih, numL_length, pow256]
    simp only [le, Nat.mul_zero, Nat.add_zero]
    rw [show 8 * (n + 1) = 8 * n + 8 by omega, Nat.pow_add, Nat.mod_mul, dig]
theorem le_zeros (p : List Nat) (m : Nat) : le (p ++ List.replicate m 0) = le p := by
  have h : ∀ m, le (List.replicate m 0) = 0 := by
    intro m
    induction m with
    | zero => rfl
    | succ m ih => rw [List.replicate_succ, le, ih]
  rw [le_append, h, Nat.mul_zero, Nat.add_zero]
/-- A number's k lowest bytes in a block of zeros, read whole. -/
def padL (v k n : Nat) : List Nat := numL v k ++ List.replicate (n - k) 0
theorem padL_length (v k n : Nat) (h : k ≤ n) : (padL v k n).length = n := by simp [padL, numL_length]; omega
theorem padL_byte (v k n : Nat) : ∀ j, (padL v k n).getD j 0 < 256 := by
  intro j
  simp only [padL, List.getD_eq_getElem?_getD]
  by_cases hj : j < (numL v k).length
  · rw [List.getElem?_append_left hj]
    have := numL_byte v k _ (List.getElem_mem hj)
    simpa [hj] using this
  · rw [List.getElem?_append_right (by omega), List.getElem?_replicate]
    split <;> simp
theorem padL_cells (v k n : Nat) (h : k ≤ n) (j : Nat) (hj : j < n) : (putV (Array.replicate n (bv 0)) 0 v k)[0 + j]? = some (bv ((padL v k n).getD j 0)) := by
  rw [Nat.zero_add, putV_at _ _ _ _ _ (by simp; omega)]
  simp only [padL, List.getD_eq_getElem?_getD]
  by_cases hk : j < k
  · rw [if_pos (by omega), List.getElem?_append_left (by rw [numL_length]; exact hk)]
    simp [numL, hk]
  · rw [if_neg (by omega), List.getElem?_append_right (by rw [numL_length]; omega), numL_length]
    simp [hj]
    rw [List.getElem?_replicate, if_pos (by omega)]
    rfl
theorem le_padL (v k n : Nat) : le (padL v k n) = v % 2 ^ (8 * k) := by rw [padL, le_zeros, le_numL]

theorem map_bv_one (ys : List Nat) : ∀ u ∈ ys.map bv, u.oneCell' = true := by
  intro u hu
  obtain ⟨y, _, rfl⟩ := List.mem_map.1 hu
  rfl

/-- 'append(v, u...)' at bytes, v owned by the call, u any bytes, nil let in. -/
theorem wpList_append_bts {P : Program} {w : World} {ops : Array Oper} {rest : List Oper} {o : Oper} {a : Act} {Q : Exit → Act → World → Prop} (hgd : o.guard = none) (s x : Operand) (t : TypeId)
    (ho : o.op = .call { callee := .builtin .append, args := #[s, x], argTypes := #[t, t] })
    (base : Nat) (e : TypeId) (i : TypeInfo) (ht : P.underlying t = some (.slice e)) (hi : P.info? e = some i) (hz : i.zero = some (.int .u8 0)) (hsize : i.size = 1) (hby : i.bytes = 1)
    (v : Value) (n : Nat) (xs : List Nat) (hs : a.eval s = v) (hown : w.ownsRow base e 1 v n (xs.map bv))
    (u : Value) (ys : List Nat) (hx : a.eval x = u) (B : Nat) (hr : Bts w B u ys) (hlen : n + ys.length ≤ 140737488355328) (hbase : base ≤ w.heap.size)
    (h : ∀ v' w', Hid (w'.ownsRow base e 1 v' (n + ys.length) ((xs ++ ys).map bv)) → Hid (Below base w w') → wpList P ops Q rest (a.put o.dst v') w') : wpList P ops Q (o :: rest) a w := by
  obtain ⟨A, m, c, rfl, hl, hm, ⟨hc, hn⟩, hcm, hb, hcell⟩ := hr
  have hbel : ∀ w', w.grownBy w' v.ownBlock → Below base w w' := fun w' hg => (Below.refl base w).grown hg hbase (fun k hk => (hown.lt k hk).1)
  rcases A with _ | ad
  · obtain rfl := hn rfl
    obtain rfl : m = 0 := by omega
    obtain rfl : ys = [] := List.eq_nil_of_length_eq_zero hl
    refine wpList_append_own_none hgd s x t ho base e i 1 ht hi v n (xs.map bv) hs hown hx ?_
    exact h v w (show World.ownsRow _ _ _ _ _ _ _ by simpa using hown) (Below.refl _ _)
  · refine wpList_append_own w hgd s x t ho base e i (.int .u8 0) 1 1 ht hi hz hsize hby rfl (by omega) v n (xs.map bv) hs hown ad m c (ys.map bv) hx (by simp [hl]) ?_ (map_bv_one ys) (by unfold maxLen; omega) (by omega) hbase ?_
    · intro j u hu
      have hj : j < m := by
        have := (List.getElem?_eq_some_iff.1 hu).1
        simpa [hl] using this
      obtain ⟨b, off, he, _, hc'⟩ := hcell (by omega)
      injection he with he
      subst he
      have hj' : j < ys.length := by omega
      have hcj := hc' j hj
      simp [hj'] at hu hcj
      subst hu
      have e2 : (Addr.mk b off none).add j = ⟨b, off + j, none⟩ := by unfold Addr.add; split <;> simp_all
      rw [e2, hcj]
      rfl
    · intro v' w' h1 h2 _
      refine h v' w' (show World.ownsRow _ _ _ _ _ _ _ from ?_) (hbel w' h2)
      rw [List.map_append, hl]
      exact h1
/-- A literal of no byte. -/
theorem own_empty (w : World) (e : TypeId) : (w.alloc (.cells #[] e)).ownsRow w.heap.size e 1 (.slice (some ⟨w.heap.size, 0, none⟩) 0 0) 0 (([] : List Nat).map bv) := by
  have h := World.ownsRow_lit (base := w.heap.size) (e := e) (size := 1) w #[] 0 (Nat.le_refl _) (by simp [maxLen]) rfl
  simpa using h
/-- A slice of bytes that came in, as the shell of a law's proof hands it over. -/
theorem Bts.of_row {w : World} {a : Option Addr} {len cap : Nat} {zs : List Int}
    (h : (a = none ∧ len = 0 ∧ cap = 0 ∧ zs = []) ∨
      ∃ x, a = some x ∧ len ≤ cap ∧ cap ≤ maxLen ∧ zs.length = cap ∧ (∀ i, i < zs.length → w.cell? (x.add i) = some (.int .u8 (zs.getD i 0))) ∧ ∀ n ∈ zs, (Lit.int .u8 n).wf = true) :
    ∃ xs, xs.length = len ∧ Bts w w.heap.size (.slice a len cap) xs := by
  rcases h with ⟨rfl, rfl, rfl, rfl⟩ | ⟨x, rfl, hl, hm, hz, hcell, hwf⟩
  · exact ⟨[], rfl, Bts.nil_ _ _⟩
  · have hlen : ((zs.take len).map Int.toNat).length = len := by simp; omega
    have hget : ∀ j, j < len → (((zs.take len).map Int.toNat).getD j 0 : Nat) = (zs.getD j 0).toNat ∧ 0 ≤ zs.getD j 0 ∧ zs.getD j 0 ≤ 255 := by
      intro j hj
      have hj' : j < zs.length := by omega
      have hw := bounds_u8 (hwf _ (List.getElem_mem hj'))
      refine ⟨by simp [hj, hj'], ?_⟩
      simpa [hj'] using hw
    refine ⟨(zs.take len).map Int.toNat, hlen, some x, len, cap, rfl, hlen, Nat.le_trans hl hm, ⟨hl, fun h => by cases h⟩, hm, fun j hj => ?_, fun h0 => ?_⟩
    · obtain ⟨e, h1, h2⟩ := hget j hj
      omega
    · obtain ⟨b, off, spot⟩ := x
      have hc := hcell 0 (by omega)
      have hspot : spot = none := by simpa [Addr.add] using World.cell?_spot hc
      subst hspot
      refine ⟨b, off, rfl, ?_, fun j hj => ?_⟩
      · have := World.block_lt_of_cell? w _ hc
        simpa [Addr.add] using this
      · have hcj := hcell j (by omega)
        have e2 : (Addr.mk b off none).add j = ⟨b, off + j, none⟩ := by unfold Addr.add; split <;> simp_all
        rw [e2] at hcj
        obtain ⟨e, h1, h2⟩ := hget j hj
        rw [hcj, e, Int.toNat_of_nonneg h1]
theorem Bts.byte {w : World} {B : Nat} {v : Value} {xs : List Nat} (h : Bts w B v xs) : ∀ y ∈ xs, y < 256 := by
  obtain ⟨A, n, c, _, hl, _, _, _, hb, _⟩ := h
  intro y hy
  obtain ⟨j, hj, rfl⟩ := List.getElem_of_mem hy
  have := hb j (by omega)
  simpa [hj] using this
/-- The shape of an owned slice that has elements. -/
theorem own_shape {w : World} {base : Nat} {e : TypeId} {v : Value} {n : Nat} {xs : List Value} (h : w.ownsRow base e 1 v n xs) (hn : n ≠ 0) : ∃ g cap, v = .slice (some ⟨g, 0, none⟩) n cap := by
  rcases h.2 with ⟨_, h0⟩ | ⟨g, cap, cur, hv, _⟩
  · exact absurd h0 hn
  · exact ⟨g, cap, hv⟩
theorem below_drewN {B : Nat} {a w : World} (h : Below B a w) (n : Nat) : Below B a (w.drewN n) := ⟨h.os, h.tape, h.output, h.size, h.block⟩
end Go.Proofs.Ytckabekimdcdcaa

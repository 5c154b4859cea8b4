/-
  A slot's sectors as lists of bytes: its head, when it is whole, and what is loaded of two of them. Nothing of the program is named here.
  Conditions: none beside those that each line bears.
-/
import Derived.Test.YtckabekimdcdcaaRec
namespace Go.Proofs.Ytckabekimdcdcaa
open Go.RowKit
set_option linter.unusedVariables false

/-- A head, ahead of its sum. -/
def preL (g : Nat) (b : List Nat) : List Nat := numL g 4 ++ numL b.length 4
/-- A slot's head. -/
def hedL (g : Nat) (b : List Nat) : List Nat := preL g b ++ (numL (sumM (preL g b ++ b)) 4 ++ List.replicate 52 0)
theorem preL_length (g : Nat) (b : List Nat) : (preL g b).length = 8 := by simp [preL, numL_length]
theorem preL_byte (g : Nat) (b : List Nat) : ∀ y ∈ preL g b, y < 256 := by
  intro y hy
  rcases List.mem_append.1 hy with hy | hy
  · exact numL_byte _ _ y hy
  · exact numL_byte _ _ y hy
theorem hedL_length (g : Nat) (b : List Nat) : (hedL g b).length = 64 := by simp [hedL, preL_length, numL_length]
theorem hedL_byte (g : Nat) (b : List Nat) : ∀ y ∈ hedL g b, y < 256 := by
  intro y hy
  simp only [hedL, List.mem_append, List.mem_replicate] at hy
  rcases hy with hy | hy | hy
  · exact preL_byte g b y hy
  · exact numL_byte _ _ y hy
  · omega
theorem hedL_gen {g : Nat} {b : List Nat} (h : g < 4294967296) : le (win (hedL g b) 0 4) = g := by
  unfold hedL preL
  rw [List.append_assoc, win_append_left _ _ 4 (numL_length _ _), le_numL_lt _ _ (by omega)]
theorem hedL_len {g : Nat} {b : List Nat} (h : b.length < 4294967296) : le (win (hedL g b) 4 4) = b.length := by
  have e : win (hedL g b) 4 4 = numL b.length 4 := by
    unfold hedL preL win
    rw [List.append_assoc, List.drop_left' (numL_length _ _)]
    exact List.take_left' (numL_length _ _)
  rw [e, le_numL_lt _ _ (by omega)]

/-- What a slot's sectors say: the gen, how many bytes, and these. -/
def sloG (F : Nat → List Nat) (w : Nat) : Nat := le (win (F (64 + 16 * w)) 0 4)
def sloN (F : Nat → List Nat) (w : Nat) : Nat := le (win (F (64 + 16 * w)) 4 4)
def sloA (F : Nat → List Nat) (w : Nat) : List Nat := ((List.range 15).map (fun j => F (65 + 16 * w + j))).flatten
def sloB (F : Nat → List Nat) (w : Nat) : List Nat := (sloA F w).take (sloN F w)
def Whole (F : Nat → List Nat) (w : Nat) : Prop := sloN F w ≤ 960 ∧ sloG F w % 2 = w ∧ hedL (sloG F w) (sloB F w) = F (64 + 16 * w)
instance (F : Nat → List Nat) (w : Nat) : Decidable (Whole F w) := by unfold Whole; infer_instance
/-- What is loaded when the slots below w have been looked at. -/
def loadN (F : Nat → List Nat) : Nat → Nat × List Nat
  | 0 => (0, [])
  | w + 1 => if Whole F w ∧ (loadN F w).1 ≤ sloG F w then (sloG F w, sloB F w) else loadN F w
def loadR (F : Nat → List Nat) : Nat × List Nat := loadN F 2

theorem flat_length (F : Nat → List Nat) (h : ∀ f, (F f).length = 64) (a n : Nat) : (((List.range n).map (fun j => F (a + j))).flatten).length = 64 * n := by
  induction n with
  | zero => rfl
  | succ n ih =>
    rw [List.range_succ, List.map_append, List.flatten_append, List.length_append, ih]
    simp [h]
    omega
theorem sloA_length {F : Nat → List Nat} (w : Nat) (h : ∀ f, 65 + 16 * w ≤ f → f < 80 + 16 * w → (F f).length = 64) : (sloA F w).length = 960 := by
  have h2 : ∀ n, n ≤ 15 → (((List.range n).map (fun j => F (65 + 16 * w + j))).flatten).length = 64 * n := by
    intro n
    induction n with
    | zero => intro _; rfl
    | succ n ih =>
      intro hn
      rw [List.range_succ, List.map_append, List.flatten_append, List.length_append, ih (by omega)]
      simp [h (65 + 16 * w + n) (by omega) (by omega)]
      omega
  exact h2 15 (Nat.le_refl _)
/-- A slot whose head is right, and whose bytes stand behind it. -/
theorem whole_of {F : Nat → List Nat} {w g : Nat} {b : List Nat} (hg : g < 4294967296) (hw : g % 2 = w) (hb : b.length ≤ 960) (hh : F (64 + 16 * w) = hedL g b) (ha : (sloA F w).take b.length = b) :
    Whole F w ∧ sloG F w = g ∧ sloB F w = b := by
  have h1 : sloG F w = g := by unfold sloG; rw [hh]; exact hedL_gen hg
  have h2 : sloN F w = b.length := by unfold sloN; rw [hh]; exact hedL_len (by omega)
  have h3 : sloB F w = b := by unfold sloB; rw [h2]; exact ha
  exact ⟨⟨by omega, by rw [h1]; exact hw, by rw [h1, h3, hh]⟩, h1, h3⟩
set_option maxRecDepth 20000 in
theorem sum8 : sumM (preL 0 []) ≠ 0 := by decide +kernel
/-- A head of zeros is none. -/
theorem zer_slot {F : Nat → List Nat} {w : Nat} (hh : F (64 + 16 * w) = zer) : ¬ Whole F w := by
  rintro ⟨_, _, h3⟩
  have z4 : ∀ a, a + 4 ≤ 64 → win zer a 4 = [0, 0, 0, 0] := by
    intro a ha
    have := win_zero zer a 4 (by rw [zer_length]; exact ha) (fun j _ _ => by unfold zer; simp only [List.getD_eq_getElem?_getD, List.getElem?_replicate]; split <;> rfl)
    exact this
  have h1 : sloG F w = 0 := by unfold sloG; rw [hh, z4 0 (by omega)]; rfl
  have h2 : sloN F w = 0 := by unfold sloN; rw [hh, z4 4 (by omega)]; rfl
  have h4 : sloB F w = [] := by unfold sloB; rw [h2]; rfl
  rw [h1, h4, hh] at h3
  have h5 : win (hedL 0 []) 8 4 = numL (sumM (preL 0 [] ++ [])) 4 := by
    unfold hedL win
    rw [List.drop_left' (preL_length 0 [])]
    exact List.take_left' (numL_length _ _)
  rw [h3, z4 8 (by omega), List.append_nil] at h5
  have h6 := congrArg le h5
  rw [le_numL_lt _ _ (by have := sumM_lt (preL 0 []); omega)] at h6
  exact sum8 (h6.symm.trans (by decide))
theorem zer_gen {F : Nat → List Nat} {w : Nat} (hh : F (64 + 16 * w) = zer) : sloG F w = 0 := by
  unfold sloG
  rw [hh]
  decide
/-- The slot of the greatest gen is loaded. -/
theorem load_of {F : Nat → List Nat} {g : Nat} {b : List Nat} (h : Whole F (g % 2) ∧ sloG F (g % 2) = g ∧ sloB F (g % 2) = b) (ho : Whole F (1 - g % 2) → sloG F (1 - g % 2) < g) : loadR F = (g, b) := by
  obtain ⟨h1, h2, h3⟩ := h
  show (if Whole F 1 ∧ (loadN F 1).1 ≤ sloG F 1 then (sloG F 1, sloB F 1) else loadN F 1) = (g, b)
  have e1 : loadN F 1 = if Whole F 0 ∧ 0 ≤ sloG F 0 then (sloG F 0, sloB F 0) else (0, []) := rfl
  by_cases c : g % 2 = 0
  · rw [c] at h1 h2 h3 ho
    have i1 : loadN F 1 = (g, b) := by rw [e1, if_pos ⟨h1, Nat.zero_le _⟩, h2, h3]
    rw [i1, if_neg]
    rintro ⟨k1, k2⟩
    have : sloG F 1 < g := ho k1
    simp only at k2
    omega
  · have c1 : g % 2 = 1 := by omega
    rw [c1] at h1 h2 h3 ho
    have i1 : (loadN F 1).1 ≤ sloG F 1 := by
      rw [e1, h2]
      split
      · rename_i k
        have : sloG F 0 < g := ho k.1
        simp only
        omega
      · exact Nat.zero_le _
    rw [if_pos ⟨h1, i1⟩, h2, h3]
theorem load_none {F : Nat → List Nat} (h0 : ¬ Whole F 0) (h1 : ¬ Whole F 1) : loadR F = (0, []) := by
  show (if Whole F 1 ∧ (loadN F 1).1 ≤ sloG F 1 then (sloG F 1, sloB F 1) else loadN F 1) = (0, [])
  rw [if_neg (fun k => h1 k.1)]
  show (if Whole F 0 ∧ (loadN F 0).1 ≤ sloG F 0 then (sloG F 0, sloB F 0) else loadN F 0) = (0, [])
  rw [if_neg (fun k => h0 k.1)]
  rfl
theorem load_congr {F F' : Nat → List Nat} (h : ∀ f, 64 ≤ f → f < 96 → F f = F' f) : loadR F = loadR F' := by
  have ha : ∀ w, w < 2 → sloA F w = sloA F' w := by
    intro w hw
    unfold sloA
    congr 1
    refine List.map_congr_left fun j hj => ?_
    have := List.mem_range.1 hj
    exact h _ (by omega) (by omega)
  have hG : ∀ w, w < 2 → sloG F w = sloG F' w := fun w hw => by unfold sloG; rw [h _ (by omega) (by omega)]
  have hN : ∀ w, w < 2 → sloN F w = sloN F' w := fun w hw => by unfold sloN; rw [h _ (by omega) (by omega)]
  have hB : ∀ w, w < 2 → sloB F w = sloB F' w := fun w hw => by unfold sloB; rw [ha w hw, hN w hw]
  have hW : ∀ w, w < 2 → (Whole F w ↔ Whole F' w) := fun w hw => by unfold Whole; rw [hN w hw, hG w hw, hB w hw, h _ (by omega) (by omega)]
  have hL : ∀ n, n ≤ 2 → loadN F n = loadN F' n := by
    intro n
    induction n with
    | zero => intro _; rfl
    | succ n ih =>
      intro hn
      unfold loadN
      rw [ih (by omega), hG n (by omega), hB n (by omega)]
      simp only [hW n (by omega)]
  exact hL 2 (Nat.le_refl _)

/-! ### what is saved -/

/-- The j-th sector of some bytes, with zeros behind their end. -/
def chk (b : List Nat) (j : Nat) : List Nat := win b (64 * j) 64 ++ List.replicate (64 - (win b (64 * j) 64).length) 0
theorem chk_length (b : List Nat) (j : Nat) : (chk b j).length = 64 := by
  have : (win b (64 * j) 64).length ≤ 64 := by unfold win; simp; omega
  simp [chk]
  omega
theorem chk_byte (b : List Nat) (hb : ∀ y ∈ b, y < 256) (j : Nat) : ∀ y ∈ chk b j, y < 256 := by
  intro y hy
  rcases List.mem_append.1 hy with hy | hy
  · exact hb y (List.mem_of_mem_drop (List.mem_of_mem_take hy))
  · rw [List.eq_of_mem_replicate hy]; omega
/-- How many sectors the bytes take. -/
def nsec (b : List Nat) : Nat := (b.length + 63) / 64
theorem nsec_le {b : List Nat} (h : b.length ≤ 960) : nsec b ≤ 15 := by unfold nsec; omega
/-- The slot of g, while k sectors of bytes have been written. -/
def datL (F : Nat → List Nat) (g : Nat) (b : List Nat) (k : Nat) : Nat → List Nat := fun f => if 65 + 16 * (g % 2) ≤ f ∧ f < 65 + 16 * (g % 2) + k then chk b (f - (65 + 16 * (g % 2))) else F f
theorem datL_zero (F : Nat → List Nat) (g : Nat) (b : List Nat) : datL F g b 0 = F := by
  funext f
  unfold datL
  rw [if_neg (by omega)]
theorem datL_step (F : Nat → List Nat) (g : Nat) (b : List Nat) (k : Nat) : upd (datL F g b k) (65 + 16 * (g % 2) + k) (chk b k) = datL F g b (k + 1) := by
  funext f
  unfold upd datL
  by_cases e : f = 65 + 16 * (g % 2) + k
  · subst e
    rw [if_pos rfl, if_pos ⟨by omega, by omega⟩]
    congr 1
    omega
  · rw [if_neg e]
    by_cases c : 65 + 16 * (g % 2) ≤ f ∧ f < 65 + 16 * (g % 2) + k
    · rw [if_pos c, if_pos ⟨c.1, by omega⟩]
    · rw [if_neg c, if_neg (by omega)]
theorem datL_at {F : Nat → List Nat} {g k j : Nat} {b : List Nat} (h : j < k) : datL F g b k (65 + 16 * (g % 2) + j) = chk b j := by
  unfold datL
  rw [if_pos ⟨by omega, by omega⟩]
  congr 1
  omega
theorem datL_other {F : Nat → List Nat} {g k f : Nat} {b : List Nat} (h : f < 65 + 16 * (g % 2) ∨ 65 + 16 * (g % 2) + k ≤ f) : datL F g b k f = F f := by
  unfold datL
  rw [if_neg (by omega)]
/-- All of it saved. -/
def savL (F : Nat → List Nat) (g : Nat) (b : List Nat) : Nat → List Nat := upd (datL F g b (nsec b)) (64 + 16 * (g % 2)) (hedL g b)
theorem flat_take (F : Nat → List Nat) (a : Nat) (b : List Nat) : ∀ n m, (∀ j, j < n → F (a + j) = chk b j) → n ≤ m → b.length ≤ 64 * n → (((List.range m).map (fun j => F (a + j))).flatten).take b.length = b := by
  have h1 : ∀ n, (∀ j, j < n → F (a + j) = chk b j) → ((((List.range n).map (fun j => F (a + j))).flatten).take b.length = b.take (64 * n)) ∧ (((List.range n).map (fun j => F (a + j))).flatten).length = 64 * n := by
    intro n
    induction n with
    | zero => intro _; simp
    | succ n ih =>
      intro h
      obtain ⟨i1, i2⟩ := ih (fun j hj => h j (by omega))
      rw [List.range_succ, List.map_append, List.flatten_append]
      simp only [List.map_cons, List.map_nil, List.flatten_cons, List.flatten_nil, List.append_nil]
      rw [h n (by omega)]
      refine ⟨?_, by rw [List.length_append, i2, chk_length]; omega⟩
      rw [List.take_append, i1, i2]
      by_cases c : b.length ≤ 64 * n
      · rw [Nat.sub_eq_zero_of_le c, List.take_zero, List.append_nil, List.take_of_length_le c, List.take_of_length_le (by omega)]
      · have e : (chk b n).take (b.length - 64 * n) = win b (64 * n) 64 := by
          have hw : (win b (64 * n) 64).length = min 64 (b.length - 64 * n) := by unfold win; simp
          unfold chk
          by_cases c2 : b.length - 64 * n ≤ 64
          · exact List.take_left' (by omega)
          · rw [List.take_of_length_le (by simp; omega), show 64 - (win b (64 * n) 64).length = 0 by omega, List.replicate_zero, List.append_nil]
        rw [e, show 64 * (n + 1) = 64 * n + 64 by omega, List.take_add]
        rfl
  intro n m h hnm hb
  obtain ⟨i1, i2⟩ := h1 n h
  obtain ⟨d, rfl⟩ : ∃ d, m = n + d := ⟨m - n, by omega⟩
  have h3 : ∀ d, (((List.range (n + d)).map (fun j => F (a + j))).flatten).take b.length = b := by
    intro d
    induction d with
    | zero => rw [Nat.add_zero, i1, List.take_of_length_le (by omega)]
    | succ d ih =>
      rw [← Nat.add_assoc, List.range_succ, List.map_append, List.flatten_append]
      have h4 : b.length ≤ (((List.range (n + d)).map (fun j => F (a + j))).flatten).length := by
        have h5 : ∀ d, 64 * n ≤ (((List.range (n + d)).map (fun j => F (a + j))).flatten).length := by
          intro d
          induction d with
          | zero => rw [Nat.add_zero, i2]; exact Nat.le_refl _
          | succ d ih2 =>
            rw [← Nat.add_assoc, List.range_succ, List.map_append, List.flatten_append, List.length_append]
            omega
        have := h5 d
        omega
      rw [List.take_append_of_le_length h4]
      exact ih
  exact h3 d
/-- What was saved is whole. -/
theorem sav_whole {F : Nat → List Nat} {g : Nat} {b : List Nat} (hg : g < 4294967296) (hb : b.length ≤ 960) : Whole (savL F g b) (g % 2) ∧ sloG (savL F g b) (g % 2) = g ∧ sloB (savL F g b) (g % 2) = b := by
  refine whole_of hg rfl hb (upd_same _ _ _) ?_
  refine flat_take _ _ b (nsec b) 15 (fun j hj => ?_) (nsec_le hb) (by unfold nsec; omega)
  unfold savL
  rw [upd_other _ _ _ (by omega)]
  exact datL_at hj
/-- The other slot is as it was. -/
theorem sav_other {F : Nat → List Nat} {g f : Nat} {b : List Nat} (hb : b.length ≤ 960) (h : f < 64 + 16 * (g % 2) ∨ 80 + 16 * (g % 2) ≤ f) : savL F g b f = F f := by
  unfold savL
  have := nsec_le hb
  rw [upd_other _ _ _ (by omega), datL_other (by omega)]
end Go.Proofs.Ytckabekimdcdcaa

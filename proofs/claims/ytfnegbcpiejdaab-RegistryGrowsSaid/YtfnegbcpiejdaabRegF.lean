/-
  The form in which a registry lasts: a base's bytes, a record's bytes, and what they say. Nothing of the program is named here.
  Conditions: none beside those that each line bears.
-/
import Derived.Test.YtfnegbcpiejdaabRegM
namespace Go.Proofs.Ytfnegbcpiejdaab
open Go.RowKit
set_option linter.unusedVariables false

/-! ### eight flags as a byte -/
def byteOf (p : Nat → Bool) : Nat := (p 0).toNat + 2 * (p 1).toNat + 4 * (p 2).toNat + 8 * (p 3).toNat + 16 * (p 4).toNat + 32 * (p 5).toNat + 64 * (p 6).toNat + 128 * (p 7).toNat
theorem byteOf_lt (p : Nat → Bool) : byteOf p < 256 := by
  unfold byteOf
  have h : ∀ b : Bool, b.toNat ≤ 1 := fun b => by cases b <;> decide
  have := h (p 0); have := h (p 1); have := h (p 2); have := h (p 3); have := h (p 4); have := h (p 5); have := h (p 6); have := h (p 7)
  omega
theorem eight (i : Nat) (hi : i < 8) : i = 0 ∨ i = 1 ∨ i = 2 ∨ i = 3 ∨ i = 4 ∨ i = 5 ∨ i = 6 ∨ i = 7 := by omega
theorem bit8 : ∀ b0 b1 b2 b3 b4 b5 b6 b7 : Bool,
    let x := b0.toNat + 2 * b1.toNat + 4 * b2.toNat + 8 * b3.toNat + 16 * b4.toNat + 32 * b5.toNat + 64 * b6.toNat + 128 * b7.toNat
    x / 1 % 2 = b0.toNat ∧ x / 2 % 2 = b1.toNat ∧ x / 4 % 2 = b2.toNat ∧ x / 8 % 2 = b3.toNat ∧ x / 16 % 2 = b4.toNat ∧ x / 32 % 2 = b5.toNat ∧ x / 64 % 2 = b6.toNat ∧ x / 128 % 2 = b7.toNat := by
  intro b0 b1 b2 b3 b4 b5 b6 b7
  have h : ∀ b : Bool, b.toNat ≤ 1 := fun b => by cases b <;> decide
  have := h b0; have := h b1; have := h b2; have := h b3; have := h b4; have := h b5; have := h b6; have := h b7
  intro x
  omega
/-- A flag is read out of the byte. -/
theorem byteOf_bit (p : Nat → Bool) (i : Nat) (hi : i < 8) : byteOf p / 2 ^ i % 2 = (p i).toNat := by
  have := bit8 (p 0) (p 1) (p 2) (p 3) (p 4) (p 5) (p 6) (p 7)
  obtain ⟨h0, h1, h2, h3, h4, h5, h6, h7⟩ := this
  unfold byteOf
  rcases eight i hi with rfl | rfl | rfl | rfl | rfl | rfl | rfl | rfl
  · exact h0
  · exact h1
  · exact h2
  · exact h3
  · exact h4
  · exact h5
  · exact h6
  · exact h7
theorem or8 : ∀ b0 b1 b2 b3 b4 b5 b6 b7 : Bool,
    let f := fun (c0 c1 c2 c3 c4 c5 c6 c7 : Bool) => c0.toNat + 2 * c1.toNat + 4 * c2.toNat + 8 * c3.toNat + 16 * c4.toNat + 32 * c5.toNat + 64 * c6.toNat + 128 * c7.toNat
    f b0 b1 b2 b3 b4 b5 b6 b7 ||| 1 = f true b1 b2 b3 b4 b5 b6 b7 ∧ f b0 b1 b2 b3 b4 b5 b6 b7 ||| 2 = f b0 true b2 b3 b4 b5 b6 b7 ∧
    f b0 b1 b2 b3 b4 b5 b6 b7 ||| 4 = f b0 b1 true b3 b4 b5 b6 b7 ∧ f b0 b1 b2 b3 b4 b5 b6 b7 ||| 8 = f b0 b1 b2 true b4 b5 b6 b7 ∧
    f b0 b1 b2 b3 b4 b5 b6 b7 ||| 16 = f b0 b1 b2 b3 true b5 b6 b7 ∧ f b0 b1 b2 b3 b4 b5 b6 b7 ||| 32 = f b0 b1 b2 b3 b4 true b6 b7 ∧
    f b0 b1 b2 b3 b4 b5 b6 b7 ||| 64 = f b0 b1 b2 b3 b4 b5 true b7 ∧ f b0 b1 b2 b3 b4 b5 b6 b7 ||| 128 = f b0 b1 b2 b3 b4 b5 b6 true := by decide +kernel
/-- A flag is set in the byte. -/
theorem byteOf_or (p : Nat → Bool) (i : Nat) (hi : i < 8) : byteOf p ||| 2 ^ i = byteOf (upd p i true) := by
  have hs : ∀ i, upd p i true i = true := fun i => upd_same _ _ _
  have ho : ∀ i k, k ≠ i → upd p i true k = p k := fun i k h => upd_other _ _ _ h
  have := or8 (p 0) (p 1) (p 2) (p 3) (p 4) (p 5) (p 6) (p 7)
  obtain ⟨h0, h1, h2, h3, h4, h5, h6, h7⟩ := this
  unfold byteOf
  rcases eight i hi with rfl | rfl | rfl | rfl | rfl | rfl | rfl | rfl
  · rw [hs 0, ho 0 1 (by decide), ho 0 2 (by decide), ho 0 3 (by decide), ho 0 4 (by decide), ho 0 5 (by decide), ho 0 6 (by decide), ho 0 7 (by decide)]; exact h0
  · rw [hs 1, ho 1 0 (by decide), ho 1 2 (by decide), ho 1 3 (by decide), ho 1 4 (by decide), ho 1 5 (by decide), ho 1 6 (by decide), ho 1 7 (by decide)]; exact h1
  · rw [hs 2, ho 2 0 (by decide), ho 2 1 (by decide), ho 2 3 (by decide), ho 2 4 (by decide), ho 2 5 (by decide), ho 2 6 (by decide), ho 2 7 (by decide)]; exact h2
  · rw [hs 3, ho 3 0 (by decide), ho 3 1 (by decide), ho 3 2 (by decide), ho 3 4 (by decide), ho 3 5 (by decide), ho 3 6 (by decide), ho 3 7 (by decide)]; exact h3
  · rw [hs 4, ho 4 0 (by decide), ho 4 1 (by decide), ho 4 2 (by decide), ho 4 3 (by decide), ho 4 5 (by decide), ho 4 6 (by decide), ho 4 7 (by decide)]; exact h4
  · rw [hs 5, ho 5 0 (by decide), ho 5 1 (by decide), ho 5 2 (by decide), ho 5 3 (by decide), ho 5 4 (by decide), ho 5 6 (by decide), ho 5 7 (by decide)]; exact h5
  · rw [hs 6, ho 6 0 (by decide), ho 6 1 (by decide), ho 6 2 (by decide), ho 6 3 (by decide), ho 6 4 (by decide), ho 6 5 (by decide), ho 6 7 (by decide)]; exact h6
  · rw [hs 7, ho 7 0 (by decide), ho 7 1 (by decide), ho 7 2 (by decide), ho 7 3 (by decide), ho 7 4 (by decide), ho 7 5 (by decide), ho 7 6 (by decide)]; exact h7

/-! ### a base -/
/-- Byte k of the flags. -/
def flagB (l : List Bool) (k : Nat) : Nat := byteOf (fun i => l.getD (8 * k + i) false)
theorem flagB_set {l : List Bool} {f : Nat} (hf : f < l.length) (k : Nat) : flagB (l.set f true) k = if k = f / 8 then flagB l k ||| 2 ^ (f % 8) else flagB l k := by
  have hg : ∀ x, (l.set f true).getD x false = if x = f then true else l.getD x false := fun x => by
    simp only [List.getD_eq_getElem?_getD, List.getElem?_set]
    by_cases e : x = f
    · subst e; simp [hf]
    · rw [if_neg (fun h => e h.symm), if_neg e]
  unfold flagB
  by_cases e : k = f / 8
  · rw [if_pos e, byteOf_or _ _ (Nat.mod_lt _ (by omega))]
    refine congrArg byteOf (funext fun i => ?_)
    rw [hg]
    unfold upd
    have h1 : (8 * k + i = f) ↔ (i = f % 8) := by omega
    by_cases c : i = f % 8
    · rw [if_pos (h1.2 c), if_pos c]
    · rw [if_neg (fun h => c (h1.1 h)), if_neg c]
  · rw [if_neg e]
    unfold byteOf
    have h1 : ∀ i, i < 8 → (l.set f true).getD (8 * k + i) false = l.getD (8 * k + i) false := fun i hi => by
      rw [hg, if_neg (by omega)]
    simp only [h1 0 (by omega), h1 1 (by omega), h1 2 (by omega), h1 3 (by omega), h1 4 (by omega), h1 5 (by omega), h1 6 (by omega), h1 7 (by omega)]
def flagsL (l : List Bool) : List Nat := (List.range 128).map (flagB l)
theorem flagsL_length (l : List Bool) : (flagsL l).length = 128 := by simp [flagsL]
theorem flagsL_getD (l : List Bool) (k : Nat) (hk : k < 128) : (flagsL l).getD k 0 = flagB l k := by simp [flagsL, hk]
theorem flagsL_set {l : List Bool} (hl : l.length = 1024) {f : Nat} (hf : f < 1024) : flagsL (l.set f true) = (flagsL l).set (f / 8) (flagB l (f / 8) ||| 2 ^ (f % 8)) := by
  refine List.ext_getElem (by simp [flagsL_length]) fun k h1 h2 => ?_
  have hk : k < 128 := by simpa [flagsL_length] using h1
  rw [List.getElem_set]
  simp only [flagsL, List.getElem_map, List.getElem_range]
  rw [flagB_set (by omega)]
  by_cases e : k = f / 8
  · subst e; simp
  · rw [if_neg e, if_neg (fun h => e h.symm)]
theorem flagsL_none : flagsL (List.replicate 1024 false) = List.replicate 128 0 := by decide +kernel
/-- A base. -/
def encR (m : MD) : List Nat := 1 :: (m.2 ++ flagsL m.1)
theorem encR_length {m : MD} (h : MdOk m) : (encR m).length = 161 := by simp [encR, h.st, flagsL_length]
theorem encR_byte {m : MD} (h : MdOk m) : ∀ y ∈ encR m, y < 256 := by
  intro y hy
  unfold encR at hy
  rcases List.mem_cons.1 hy with rfl | hy
  · omega
  · rcases List.mem_append.1 hy with hy | hy
    · have := h.low y hy; omega
    · obtain ⟨k, _, rfl⟩ := List.mem_map.1 hy
      exact byteOf_lt _
/-- Flag f of a base's bytes. -/
def flagAt (b : List Nat) (f : Nat) : Bool := decide (b.getD (33 + f / 8) 0 / 2 ^ (f % 8) % 2 = 1)
def flagsOf (b : List Nat) (k : Nat) : List Bool := (List.range 1024).map (fun f => decide (f < k) && flagAt b f)
theorem flagsOf_length (b : List Nat) (k : Nat) : (flagsOf b k).length = 1024 := by simp [flagsOf]
theorem flagsOf_getD (b : List Nat) (k f : Nat) (hf : f < 1024) : (flagsOf b k).getD f false = (decide (f < k) && flagAt b f) := by simp [flagsOf, hf]
set_option maxRecDepth 20000 in
theorem flagsOf_zero (b : List Nat) : flagsOf b 0 = List.replicate 1024 false := by
  refine List.ext_getElem (by rw [flagsOf_length, List.length_replicate]) fun k h1 h2 => ?_
  rw [List.getElem_replicate]
  simp only [flagsOf, List.getElem_map]
  simp
theorem flagsOf_yes {b : List Nat} {k : Nat} (hk : k < 1024) (h : flagAt b k = true) : flagsOf b (k + 1) = (flagsOf b k).set k true := by
  refine List.ext_getElem (by simp [flagsOf_length]) fun f h1 h2 => ?_
  have hf : f < 1024 := by simpa [flagsOf_length] using h1
  rw [List.getElem_set]
  simp only [flagsOf, List.getElem_map, List.getElem_range]
  by_cases e : k = f
  · subst e; simp [h]
  · rw [if_neg e, show decide (f < k + 1) = decide (f < k) from decide_eq_decide.2 (by omega)]
theorem flagsOf_no {b : List Nat} {k : Nat} (h : flagAt b k = false) : flagsOf b (k + 1) = flagsOf b k := by
  refine List.ext_getElem (by simp [flagsOf_length]) fun f h1 h2 => ?_
  simp only [flagsOf, List.getElem_map, List.getElem_range]
  by_cases e : k = f
  · subst e; simp [h]
  · rw [show decide (f < k + 1) = decide (f < k) from decide_eq_decide.2 (by omega)]
/-- What a base says. -/
def decB (b : List Nat) : Option MD :=
  if b = [] then some md0 else if b.length = 161 ∧ b.getD 0 0 = 1 ∧ ∀ s ∈ (b.drop 1).take 32, s ≤ 3 then some (flagsOf b 1024, (b.drop 1).take 32) else none
set_option maxRecDepth 20000 in
theorem decB_enc {m : MD} (h : MdOk m) : decB (encR m) = some m := by
  unfold decB
  rw [if_neg (by simp [encR])]
  have h2 : ((encR m).drop 1).take 32 = m.2 := by
    unfold encR
    rw [List.drop_one, List.tail_cons, List.take_append_of_le_length (by rw [h.st]; omega), List.take_of_length_le (by rw [h.st]; omega)]
  rw [if_pos ⟨encR_length h, rfl, by rw [h2]; exact h.low⟩, h2]
  refine congrArg some (Prod.ext ?_ rfl)
  refine getD_ext (by rw [flagsOf_length, h.bad]) fun f hf => ?_
  rw [flagsOf_length] at hf
  rw [flagsOf_getD _ _ _ hf]
  have h3 : (encR m).getD (33 + f / 8) 0 = flagB m.1 (f / 8) := by
    unfold encR
    rw [List.getD_eq_getElem?_getD, show 33 + f / 8 = (32 + f / 8) + 1 by omega, List.getElem?_cons_succ, List.getElem?_append_right (by rw [h.st]; omega), h.st, show 32 + f / 8 - 32 = f / 8 by omega, ← List.getD_eq_getElem?_getD]
    exact flagsL_getD _ _ (by omega)
  unfold flagAt
  rw [h3]
  unfold flagB
  rw [byteOf_bit _ _ (Nat.mod_lt _ (by omega)), show 8 * (f / 8) + f % 8 = f by omega]
  cases m.1.getD f false <;> simp [hf]
set_option maxRecDepth 20000 in
theorem decB_ok {b : List Nat} {m : MD} (h : decB b = some m) : MdOk m := by
  unfold decB at h
  split at h
  · injection h with h; subst h; exact md0_ok
  · split at h
    · rename_i c
      injection h with h
      subst h
      exact ⟨flagsOf_length _ _, by simp [c.1], c.2.2⟩
    · cases h
set_option maxRecDepth 20000 in
/-- A base that is one, and not none. -/
theorem decB_form {b : List Nat} {m : MD} (h : decB b = some m) (hb : b ≠ []) : b.length = 161 ∧ b.getD 0 0 = 1 ∧ (∀ s, s < 32 → b.getD (1 + s) 0 ≤ 3) ∧ m = (flagsOf b 1024, (b.drop 1).take 32) := by
  unfold decB at h
  rw [if_neg hb] at h
  split at h
  · rename_i c
    injection h with h
    refine ⟨c.1, c.2.1, fun s hs => c.2.2 _ ?_, h.symm⟩
    have hl : 1 + s < b.length := by omega
    have : b.getD (1 + s) 0 = ((b.drop 1).take 32)[s]'(by simp; omega) := by simp [hl, Nat.add_comm 1 s, show s + 1 < b.length by omega]
    rw [this]
    exact List.getElem_mem _
  · cases h

/-! ### a record -/
/-- The numbers in a record's bytes. -/
def numsOf (b : List Nat) (k : Nat) : List Nat := (List.range k).map (fun i => le (win b (2 * i) 2))
theorem numsOf_length (b : List Nat) (k : Nat) : (numsOf b k).length = k := by simp [numsOf]
theorem numsOf_succ (b : List Nat) (k : Nat) : numsOf b (k + 1) = numsOf b k ++ [le (win b (2 * k) 2)] := by simp [numsOf, List.range_succ]
/-- What a record says, where md was known. -/
def decX (m : MD) (x : List Nat) : Option MD :=
  match x with
  | [] => none
  | k :: b =>
    if k = 2 then (if b.length % 2 = 0 ∧ 0 < b.length ∧ b.length / 2 ≤ 20 ∧ ∀ f ∈ numsOf b (b.length / 2), f ≤ 1023 then some (addM m (numsOf b (b.length / 2))) else none)
    else if k = 3 then (if b.length = 2 ∧ b.getD 0 0 ≤ 31 ∧ b.getD 1 0 ≤ 3 then some (m.1, m.2.set (b.getD 0 0) (b.getD 1 0)) else none)
    else none
theorem decX_ok {m m' : MD} {x : List Nat} (h : decX m x = some m') (hm : MdOk m) : MdOk m' := by
  unfold decX at h
  split at h
  · cases h
  · split at h
    · split at h
      · injection h with h; subst h; exact hm.add _
      · cases h
    · split at h
      · split at h
        · rename_i c
          injection h with h; subst h; exact hm.set_st _ c.2.2
        · cases h
      · cases h
/-- All that is known: a base, and records. -/
def decR (nb : List Nat) (rs : List (List Nat)) : Option MD := rs.foldl (fun o x => o.bind (fun m => decX m x)) (decB nb)
theorem decR_snoc (nb : List Nat) (rs : List (List Nat)) (x : List Nat) : decR nb (rs ++ [x]) = (decR nb rs).bind (fun m => decX m x) := by
  unfold decR
  rw [List.foldl_append]
  rfl
theorem decR_none (rs : List (List Nat)) : rs.foldl (fun o x => o.bind (fun m => decX m x)) none = none := by
  induction rs with
  | nil => rfl
  | cons x rs ih => exact ih
theorem decR_ok {nb : List Nat} {rs : List (List Nat)} {m : MD} (h : decR nb rs = some m) : MdOk m := by
  unfold decR at h
  have key : ∀ (rs : List (List Nat)) (o : Option MD), (∀ y, o = some y → MdOk y) → ∀ m, rs.foldl (fun o x => o.bind (fun m => decX m x)) o = some m → MdOk m := by
    intro rs
    induction rs with
    | nil => intro o ho m h; exact ho m h
    | cons x rs ih =>
      intro o ho m h
      refine ih _ (fun y hy => ?_) m h
      cases o with
      | none => cases hy
      | some z => exact decX_ok hy (ho z rfl)
  exact key rs _ (fun y hy => decB_ok hy) m h
/-- The records ahead of any say something too. -/
theorem decR_take {nb : List Nat} {rs : List (List Nat)} {m : MD} (h : decR nb rs = some m) (k : Nat) : ∃ y, decR nb (rs.take k) = some y := by
  cases hy : decR nb (rs.take k) with
  | some y => exact ⟨y, rfl⟩
  | none =>
    exfalso
    have h2 : decR nb rs = (rs.drop k).foldl (fun o x => o.bind (fun m => decX m x)) (decR nb (rs.take k)) := by
      unfold decR
      rw [← List.foldl_append, List.take_append_drop]
    rw [h2, hy, decR_none] at h
    cases h
theorem dec_start : decR [] [] = some md0 := rfl
theorem dec_base {m : MD} (h : MdOk m) : decR (encR m) [] = some m := decB_enc h
theorem enc_start : decR (encR md0) [] = some md0 := dec_base md0_ok

/-! ### the records that a call writes -/
def recB (fs : List Nat) : List Nat := 2 :: fs.flatMap (fun f => numL f 2)
theorem recB_snoc (fs : List Nat) (f : Nat) : recB (fs ++ [f]) = recB fs ++ numL f 2 := by simp [recB]
theorem recB_length (fs : List Nat) : (recB fs).length = 1 + 2 * fs.length := by
  induction fs with
  | nil => rfl
  | cons f fs ih =>
    unfold recB at ih ⊢
    simp only [List.flatMap_cons, List.length_cons, List.length_append, numL_length] at ih ⊢
    omega
theorem recB_byte (fs : List Nat) : ∀ y ∈ recB fs, y < 256 := by
  intro y hy
  unfold recB at hy
  rcases List.mem_cons.1 hy with rfl | hy
  · omega
  · obtain ⟨f, _, hf⟩ := List.mem_flatMap.1 hy
    exact numL_byte _ _ y hf
theorem win_flat (fs : List Nat) : ∀ i, i < fs.length → win (fs.flatMap (fun f => numL f 2)) (2 * i) 2 = numL (fs.getD i 0) 2 := by
  induction fs with
  | nil => intro i hi; simp at hi
  | cons f fs ih =>
    intro i hi
    have hl : (numL f 2).length = 2 := numL_length _ _
    unfold win at ih ⊢
    rw [List.flatMap_cons]
    match i with
    | 0 => rw [Nat.mul_zero, List.drop_zero, List.take_append_of_le_length (by omega), List.take_of_length_le (by omega)]; rfl
    | i + 1 =>
      rw [show 2 * (i + 1) = (numL f 2).length + 2 * i by omega, List.drop_append, List.drop_of_length_le (Nat.le_add_right _ _), List.nil_append, Nat.add_sub_cancel_left]
      have := ih i (by simpa using hi)
      simpa using this
theorem numsOf_flat (fs : List Nat) (h : ∀ f ∈ fs, f ≤ 1023) : numsOf (fs.flatMap (fun f => numL f 2)) fs.length = fs := by
  refine List.ext_getElem (by simp [numsOf]) fun i h1 h2 => ?_
  simp only [numsOf, List.getElem_map, List.getElem_range]
  rw [win_flat _ _ h2]
  have e : fs.getD i 0 = fs[i] := by simp [h2]
  rw [e, le_numL_lt _ _ (by have := h fs[i] (List.getElem_mem _); omega)]
theorem decX_recB {m : MD} {fs : List Nat} (h0 : fs ≠ []) (h1 : fs.length ≤ 20) (h2 : ∀ f ∈ fs, f ≤ 1023) : decX m (recB fs) = some (addM m fs) := by
  have hl : (fs.flatMap (fun f => numL f 2)).length = 2 * fs.length := by
    have := recB_length fs
    unfold recB at this
    simp only [List.length_cons] at this
    omega
  have hp : 0 < fs.length := List.length_pos_iff.2 h0
  unfold decX recB
  simp only [if_true, hl, show 2 * fs.length / 2 = fs.length by omega, numsOf_flat fs h2]
  rw [if_pos ⟨by omega, by omega, h1, h2⟩]
def recS (s v : Nat) : List Nat := [3, s, v]
theorem decX_recS {m : MD} {s v : Nat} (h1 : s ≤ 31) (h2 : v ≤ 3) : decX m (recS s v) = some (m.1, m.2.set s v) := by
  unfold decX recS
  simp [h1, h2]
end Go.Proofs.Ytfnegbcpiejdaab

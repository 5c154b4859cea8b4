/-
  TreePages answers true for any two pages.
  Conditions: none beside the contracts of the tree.
-/
import Derived.Test.YtegoookllckhiaaTreL
namespace Go.Proofs.Ytegoookllckhiaa
open Go.RowKit
set_option linter.unusedVariables false
attribute [local irreducible] ps0 badU spanU

set_option maxRecDepth 20000 in
set_option maxHeartbeats 3200000 in
theorem treePages_any (a b : Int) (w : World) (ha : 0 ≤ a ∧ a ≤ 65535) (hb : 0 ≤ b ∧ b ≤ 65535) :
    Calls Try.prog 7 #[.int .u16 a, .int .u16 b] w fun e w' => e = .returned (.bool true) ∧ Below w.heap.size w w' := by
  obtain ⟨a, rfl⟩ := Int.eq_ofNat_of_zero_le ha.1
  obtain ⟨b, rfl⟩ := Int.eq_ofNat_of_zero_le hb.1
  obtain ⟨x, hx⟩ : ∃ x, x = a % 4096 := ⟨_, rfl⟩
  obtain ⟨y, hy⟩ : ∃ y, y = b % 4096 := ⟨_, rfl⟩
  have r1 : (a : Int).tmod 4096 = (x : Int) := by rw [Int.tmod_eq_emod_of_nonneg (by omega)]; omega
  have r1' : (a : Int) % 4096 = (x : Int) := by omega
  have r2 : (b : Int).tmod 4096 = (y : Int) := by rw [Int.tmod_eq_emod_of_nonneg (by omega)]; omega
  have r2' : (b : Int) % 4096 = (y : Int) := by omega
  have hx4 : x < 4096 := by omega
  have hy4 : y < 4096 := by omega
  clear ha hb hx hy
  obtain ⟨E0, hE0⟩ : ∃ E0, E0 = List.replicate 4096 en0 := ⟨_, rfl⟩
  have hl0 : E0.length = 4096 := by rw [hE0]; exact List.length_replicate
  have hp0 : ∀ q, ¬ q ∈ pagesOf E0 := fun q => by rw [hE0]; exact pages0 q
  have m1 := Lib.hid (show ∀ q, q ∈ pagesOf (E0.set x ⟨3, 0, false⟩) ↔ q ∈ [x] from fun q => by
    rw [pagesOf_set hl0 hx4, List.mem_singleton]
    exact ⟨fun h => h.elim (fun h => h.1) (fun h => absurd h.2 (hp0 q)), fun h => .inl ⟨h, by decide⟩⟩)
  have m2 := Lib.hid (show ∀ q, q ∈ pagesOf ((E0.set x ⟨3, 0, false⟩).set y ⟨1, 7, false⟩) ↔ q ∈ [x, y] from fun q => by
    rw [pagesOf_set (by rw [List.length_set]; exact hl0) hy4, m1.out q, List.mem_singleton, List.mem_cons, List.mem_singleton]
    constructor
    · rintro (⟨h, _⟩ | ⟨_, h⟩)
      · exact .inr h
      · exact .inl h
    · rintro (h | h)
      · by_cases c : q = y
        · exact .inl ⟨c, by decide⟩
        · exact .inr ⟨c, h⟩
      · exact .inl ⟨h, by decide⟩)
  obtain ⟨l3, hl3'⟩ : ∃ l3 : List Nat, l3 = if x = y then [] else [y] := ⟨_, rfl⟩
  have m3 := Lib.hid (show ∀ q, q ∈ pagesOf (((E0.set x ⟨3, 0, false⟩).set y ⟨1, 7, false⟩).set x ⟨0, 0, false⟩) ↔ q ∈ l3 from fun q => by
    rw [hl3']
    rw [pagesOf_set (by rw [List.length_set, List.length_set]; exact hl0) hx4, m2.out q, List.mem_cons, List.mem_singleton]
    constructor
    · rintro (⟨_, h⟩ | ⟨h1, h2 | h2⟩)
      · exact absurd rfl h
      · exact absurd h2 h1
      · rw [if_neg (fun e => h1 (h2.trans e.symm))]
        exact List.mem_singleton.2 h2
    · intro h
      by_cases c : x = y
      · rw [if_pos c] at h
        cases h
      · rw [if_neg c] at h
        have := List.mem_singleton.1 h
        exact .inr ⟨fun e => c (e.symm.trans this), .inr this⟩)
  have m4 := Lib.hid (show ∀ q, q ∈ pagesOf ((((E0.set x ⟨3, 0, false⟩).set y ⟨1, 7, false⟩).set x ⟨0, 0, false⟩).set y ⟨0, 0, false⟩) ↔ q ∈ ([] : List Nat) from fun q => by
    rw [pagesOf_set (by rw [List.length_set, List.length_set, List.length_set]; exact hl0) hy4, m3.out q, hl3']
    constructor
    · rintro (⟨_, h⟩ | ⟨h1, h2⟩)
      · exact absurd rfl h
      · by_cases c : x = y
        · rw [if_pos c] at h2
          exact h2
        · rw [if_neg c] at h2
          exact absurd (List.mem_singleton.1 h2) h1
    · intro h; cases h)
  obtain ⟨n2, hn2⟩ : ∃ n2, n2 = tablesN [x, y] := ⟨_, rfl⟩
  obtain ⟨n3, hn3⟩ : ∃ n3, n3 = tablesN l3 := ⟨_, rfl⟩
  have hn2l : n2 ≤ 7 := by have := tablesN_le [x, y]; simp at this; omega
  have hn3e : (x = y → n3 = 1) ∧ (x ≠ y → n3 = 4) := by
    constructor
    · intro h; rw [hn3, hl3', if_pos h]; exact tablesN_nil
    · intro h; rw [hn3, hl3', if_neg h]; exact tablesN_one y
  have hn2e : x = y → n2 = 4 := fun h => by
    rw [hn2, h]
    exact (tablesN_same (l' := [y]) (fun q => by simp)).trans (tablesN_one y)
  have HN2 := Lib.hid hn2
  have HN3 := Lib.hid hn3
  have HN2E := Lib.hid hn2e
  have HN3E := Lib.hid hn3e
  have HN2L := Lib.hid hn2l
  have HE0 := Lib.hid hE0
  clear hE0 hl0 hp0 hl3' hn2 hn3 hn2e hn3e hn2l
  go_enter Try.func7, Try.ntmps7
  go_wp2_with fail
  refine (parts_any 2 w w (by omega) (Below.refl _ _)).mono ?_
  rintro e w1 ⟨gR, gF, gP, p, rfl, hp, hon, hb1⟩
  have HN := Lib.hid (tn_new hp nobad0 hon.all (hon.first (by omega)))
  have HT := Lib.hid (Tot.new hon (by omega) (hon.first (by omega)))
  rw [← HE0.out] at HN HT
  clear hp hon hb1
  go_wp2_with fail
  refine HN.out.mono ?_
  rintro e w2 ⟨gT, rfl, h2⟩
  have HS := Lib.hid (tn_setok x 3 0 false [x] h2 HT.out hx4 (by decide) m1.out (by have := tablesN_le [x]; simp at this; omega))
  clear h2
  go_wp2_with fail
  refine HS.out.mono ?_
  rintro e w3 ⟨p3, s3, rfl, he3, ht3, hl3, h3⟩
  have HS4 := Lib.hid (tn_setok y 1 7 false [x, y] h3 ht3 hy4 (by decide) (by rw [he3]; exact m2.out) (by rw [← HN2.out]; have := HN2L.out; omega))
  rw [he3, ← HN2.out] at HS4
  clear he3 ht3 hl3 h3
  go_wp2_with fail
  refine HS4.out.mono ?_
  rintro e w4 ⟨p4, s4, rfl, he4, ht4, hl4, h4⟩
  have HL4 := Lib.hid hl4
  have H4 := Lib.hid h4
  have HE4 := Lib.hid he4
  have HT4 := Lib.hid ht4
  clear he4 ht4 hl4 h4
  go_wp2_with fail
  refine (tn_tables H4.out).mono ?_
  rintro e w5 ⟨v5, rfl, hi5, hb5⟩
  obtain ⟨A5, c5, rfl⟩ := hi5.len
  rw [asI_length, HL4.out]
  have H5 := Lib.hid (H4.out.fresh hb5)
  have HS6 := Lib.hid (tn_setok x 0 0 false l3 H5.out HT4.out hx4 (by decide) (by rw [HE4.out]; exact m3.out) (by
    rw [← HN3.out]
    have h := HN3E.out
    by_cases c : x = y
    · rw [h.1 c]; omega
    · rw [h.2 c]; omega))
  rw [HE4.out, ← HN3.out] at HS6
  clear hi5 hb5
  go_wp2_with fail
  refine HS6.out.mono ?_
  rintro e w6 ⟨p6, s6, rfl, he6, ht6, hl6, h6⟩
  have HL6 := Lib.hid hl6
  have H6 := Lib.hid h6
  have HE6 := Lib.hid he6
  have HT6 := Lib.hid ht6
  clear he6 ht6 hl6 h6
  go_wp2_with fail
  refine (tn_tables H6.out).mono ?_
  rintro e w7 ⟨v7, rfl, hi7, hb7⟩
  obtain ⟨A7, c7, rfl⟩ := hi7.len
  rw [asI_length, HL6.out]
  have H7 := Lib.hid (H6.out.fresh hb7)
  have HS8 := Lib.hid (tn_setok y 0 0 false [] H7.out HT6.out hy4 (by decide) (by rw [HE6.out]; exact m4.out) (by rw [tablesN_nil]; omega))
  clear hi7 hb7
  go_wp2_with fail
  refine HS8.out.mono ?_
  rintro e w8 ⟨p8, s8, rfl, he8, ht8, hl8, h8⟩
  rw [tablesN_nil] at hl8
  have HL8 := Lib.hid hl8
  have H8 := Lib.hid h8
  clear he8 ht8 hl8 h8
  have HRT := Lib.hid (fun (W : World) => (refTables_any (.slice (some ⟨W.heap.size, 0, none⟩) 2 2) [x, y] (W.alloc (.cells #[.int .i64 (x : Int), .int .i64 (y : Int)] 3)) (Its.of_lit (xs := [(x : Int), (y : Int)]) (Blk.new W _ _) (by simp [maxLen])) (by simp) (fun q hq => by
    rcases List.mem_cons.1 hq with rfl | hq
    · exact hx4
    · rw [List.mem_singleton.1 hq]; exact hy4)))
  rw [← HN2.out] at HRT
  have hn2l := HN2L.out
  by_cases hxy : x = y
  · have h2 := HN2E.out hxy
    have h3 := HN3E.out.1 hxy
    subst hxy h2 h3
    have e1 : ((x : Int) == (x : Int)) = true := by simp
    go_wp2_with fail
    refine (treAnswers_any _).mono ?_
    rintro e w9 ⟨rfl, hb9⟩
    have H9 := Lib.hid (H8.out.fresh hb9)
    clear hb9
    go_wp2_with fail
    refine (HRT.out _).mono ?_
    rintro e w10 ⟨rfl, hb10⟩
    have H10 := Lib.hid ((H9.out.fresh ((Below.refl _ _).alloc (Nat.le_refl _) _)).fresh hb10)
    clear hb10
    go_wp2_with fail
    refine (tn_tables H10.out).mono ?_
    rintro e w11 ⟨v11, rfl, hi11, hb11⟩
    obtain ⟨A11, c11, rfl⟩ := hi11.len
    rw [asI_length, HL8.out]
    have HB11 := Lib.hid (H10.out.fresh hb11).bel
    clear hi11 hb11
    go_wp2
    go_ret
    exact ⟨by simp, HB11.out⟩
  · have h3 := HN3E.out.2 hxy
    subst h3
    have e1 : ((x : Int) == (y : Int)) = false := by simp; omega
    clear hxy
    go_wp2_with fail
    refine (treAnswers_any _).mono ?_
    rintro e w9 ⟨rfl, hb9⟩
    have H9 := Lib.hid (H8.out.fresh hb9)
    clear hb9
    go_wp2_with fail
    refine (HRT.out _).mono ?_
    rintro e w10 ⟨rfl, hb10⟩
    have H10 := Lib.hid ((H9.out.fresh ((Below.refl _ _).alloc (Nat.le_refl _) _)).fresh hb10)
    clear hb10
    go_wp2_with fail
    refine (tn_tables H10.out).mono ?_
    rintro e w11 ⟨v11, rfl, hi11, hb11⟩
    obtain ⟨A11, c11, rfl⟩ := hi11.len
    rw [asI_length, HL8.out]
    have HB11 := Lib.hid (H10.out.fresh hb11).bel
    clear hi11 hb11
    go_wp2
    go_ret
    exact ⟨by simp, HB11.out⟩
end Go.Proofs.Ytegoookllckhiaa

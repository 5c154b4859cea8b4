/-
  The statements' own 'answers' of layer 12, and TreePages.
  Conditions: none beside the contracts of the tree.
-/
import Derived.Test.YtegoookllckhiaaTreT
import Derived.BigQuiet
namespace Go.Proofs.Ytegoookllckhiaa
open Go.RowKit
set_option linter.unusedVariables false
attribute [local irreducible] ps0 badU spanU

/-! ### counting -/
theorem cntU_add (u : List Nat) (v : Int) (a m : Nat) : ∀ n, cntU u v a (m + n) = cntU u v a m + cntU u v (a + m) n := by
  intro n
  induction n with
  | zero => rfl
  | succ n ih =>
    rw [← Nat.add_assoc, cntU_succ, ih, cntU_succ, show a + (m + n) = a + m + n by omega]
    omega
theorem freeU_cnt (u : List Nat) : ∀ k, freeU u k = cntU u 1 0 (32 * k) := by
  intro k
  induction k with
  | zero => rfl
  | succ k ih =>
    show freeU u k + cntU u 1 (32 * k) 32 = _
    rw [ih, show 32 * (k + 1) = 32 * k + 32 by omega, cntU_add, Nat.zero_add]
theorem cntU_take {u : List Nat} {r : Nat} (hr : r < u.length) (h1 : u.getD r 0 = 1) : ∀ n, cntU (u.set r 2) 1 0 n + (if r < n then 1 else 0) = cntU u 1 0 n := by
  intro n
  induction n with
  | zero => rfl
  | succ n ih =>
    rw [cntU_succ, cntU_succ, Nat.zero_add]
    by_cases c : n = r
    · subst c
      have i1 : (if n < n then 1 else 0) = 0 := if_neg (Nat.lt_irrefl n)
      have i2 : (if n < n + 1 then 1 else 0) = 1 := if_pos (Nat.lt_succ_self n)
      have i3 : (if ((2 : Nat) : Int) = 1 then 1 else 0) = 0 := rfl
      have i4 : (if ((1 : Nat) : Int) = 1 then 1 else 0) = 1 := rfl
      rw [getD_set_same _ _ _ _ hr, h1, i2, i3, i4]
      rw [i1] at ih
      omega
    · rw [getD_set_ne _ _ _ _ _ c]
      by_cases c2 : r < n
      · rw [if_pos c2] at ih
        rw [if_pos (by omega : r < n + 1)]
        omega
      · rw [if_neg c2] at ih
        rw [if_neg (by omega : ¬ r < n + 1)]
        omega
theorem freeU_take {u : List Nat} {r : Nat} (hr : r < 1024) (hl : u.length = 1024) (h1 : u.getD r 0 = 1) : freeU (u.set r 2) 32 + 1 = freeU u 32 := by
  have := cntU_take (u := u) (by rw [hl]; exact hr) h1 (32 * 32)
  rw [if_pos (by omega)] at this
  rw [freeU_cnt, freeU_cnt]
  exact this
theorem OnN.first {p : PS} {n : Nat} (h : OnN p n) (hn : 0 < n) : FirstF p 2 (2 ^ 0) (some 0) := by
  refine ⟨⟨rfl, by omega, by rw [h.z 0 (by omega), if_pos hn], h.i 0 (by omega), fun k h1 h2 => ?_⟩, fun g hg => absurd hg (by omega)⟩
  have : k = 0 := by
    have : k < 0 + 1 := h2
    omega
  subst this
  rw [h.u 0 (by omega), if_pos (by omega)]

/-! ### pages -/
theorem pagesOf_set {e : List En} {q : Nat} {x : En} (hl : e.length = 4096) (hq : q < 4096) (p : Nat) : p ∈ pagesOf (e.set q x) ↔ (p = q ∧ x.k ≠ 0) ∨ (p ≠ q ∧ p ∈ pagesOf e) := by
  rw [pagesOf_mem, pagesOf_mem]
  by_cases c : p = q
  · subst c
    rw [getD_set_same _ _ _ _ (by rw [hl]; exact hq)]
    constructor
    · rintro ⟨_, h⟩
      exact .inl ⟨rfl, h⟩
    · rintro (⟨_, h⟩ | ⟨h, _⟩)
      · exact ⟨hq, h⟩
      · exact absurd rfl h
  · rw [getD_set_ne _ _ _ _ _ c]
    constructor
    · exact fun h => .inr ⟨c, h⟩
    · rintro (⟨h, _⟩ | ⟨_, h⟩)
      · exact absurd h c
      · exact h
theorem pages0 (p : Nat) : ¬ p ∈ pagesOf (List.replicate 4096 en0) := by
  rw [pagesOf_mem]
  rintro ⟨h1, h2⟩
  rw [List.getD_eq_getElem?_getD, List.getElem?_replicate, if_pos h1] at h2
  exact h2 rfl
theorem tablesN_nil : tablesN [] = 1 := rfl
theorem tablesN_one (x : Nat) : tablesN [x] = 4 := rfl
theorem tablesN_le (l : List Nat) : tablesN l ≤ 1 + 3 * l.length := by
  have h : ∀ d, (distL (l.map (· / d))).length ≤ l.length := fun d => by
    have := distL_le (l.map (· / d))
    rwa [List.length_map] at this
  have h1 := h 512
  have h2 := h 64
  have h3 := h 8
  unfold tablesN
  omega

/-- What a statement holds that began with k sections: total frames. -/
structure Tot (p : PS) (s : TS) (n : Nat) : Prop where
  live : s.live = true
  el : s.e.length = 4096
  num : freeU p.u 32 + s.t.length = n
theorem Tot.step {p p' : PS} {s s' : TS} {n : Nat} (h : Tot p s n) (hs : Step s p s' p') (he : s'.e.length = 4096) (hl : s'.live = true) : Tot p' s' n := ⟨hl, he, by rw [hs.num]; exact h.num⟩
theorem Tot.new {p : PS} {k r : Nat} (h : OnN p k) (hk : k ≤ 32) (hr : FirstF p 2 (2 ^ 0) (some r)) : Tot ⟨p.u.set r 2, p.z, p.i⟩ ⟨List.replicate 4096 en0, [r], true⟩ (32 * k) := by
  refine ⟨rfl, List.length_replicate, ?_⟩
  have h1 : p.u.getD r 0 = 1 := hr.1.2.2.2.2 r (Nat.le_refl _) (by show r < r + 1; omega)
  show freeU (p.u.set r 2) 32 + 1 = _
  rw [freeU_take hr.1.2.1 h.ok.u h1, h.free hk]
theorem tn_setok {w0 w : World} {gT gP : Nat} {p : PS} {s : TS} {m : Nat} (page : Nat) (k n : Int) (b : Bool) (l : List Nat) (h : TreN w0 w gT gP p s) (ht : Tot p s m) (hp : page < 4096) (hx : EnOk ⟨k, n, b⟩) (hl : ∀ q, q ∈ pagesOf (s.e.set page ⟨k, n, b⟩) ↔ q ∈ l) (hn : tablesN l ≤ m) :
    Calls Try.prog 12 #[.pointer (some ⟨gT, 0, none⟩), .int .i64 (page : Int), .agg #[.int .i64 k, .int .i64 n, .bool b]] w fun e w' => ∃ (p' : PS) (s' : TS), e = .returned (.int .i64 0) ∧ s'.e = s.e.set page ⟨k, n, b⟩ ∧ Tot p' s' m ∧ s'.t.length = tablesN l ∧ TreN w0 w' gT gP p' s' := by
  have hh := h
  obtain ⟨_, _, _, _, _, _, hall⟩ := hh
  refine (tn_set (page : Int) k n b h ht.live).mono ?_
  rintro e w' ⟨er, p', s', rfl, hs, htn⟩
  obtain ⟨rfl, h1, h2, h3⟩ := hs.done hp hx hall (by rw [tablesN_same hl]; have := ht.num; omega)
  have ht' := ht.step h3 (by rw [h1, List.length_set]; exact ht.el) h2
  exact ⟨p', s', rfl, h1, ht', by rw [htn.ok.num h2, h1, tablesN_same hl], htn⟩
theorem Its.len {w : World} {B : Nat} {v : Value} {l : List Int} (h : Its w B v l) : ∃ A c, v = .slice A l.length c := by
  obtain ⟨A, n, c, rfl, h1, _⟩ := h
  exact ⟨A, c, by rw [h1]⟩
theorem nobad0 : NoBad (fun _ => false) := fun _ _ => rfl

set_option maxRecDepth 20000 in
set_option maxHeartbeats 1600000 in
theorem treAnswers_any (w : World) :
    Calls Try.prog 8 #[] w fun e w' => e = .returned (.bool true) ∧ Below w.heap.size w w' := by
  go_enter Try.func8, Try.ntmps8
  go_wp2_with fail
  refine (parts_any 1 w w (by omega) (Below.refl _ _)).mono ?_
  rintro e w1 ⟨gR, gF, gP, p, rfl, hp, hon, hb1⟩
  have HN := Lib.hid (tn_new hp nobad0 hon.all (hon.first (by omega)))
  have HT := Lib.hid (Tot.new hon (by omega) (hon.first (by omega)))
  clear hp hon hb1
  go_wp2_with fail
  refine HN.out.mono ?_
  rintro e w2 ⟨gT, rfl, h2⟩
  have HS := Lib.hid (tn_setok 9 2 5 false [9] h2 HT.out (by omega) (by decide) (fun q => by
    rw [pagesOf_set List.length_replicate (by omega)]
    constructor
    · rintro (⟨rfl, _⟩ | ⟨_, h⟩)
      · exact List.mem_singleton.2 rfl
      · exact absurd h (pages0 q)
    · exact fun h => .inl ⟨List.mem_singleton.1 h, by decide⟩) (by rw [tablesN_one]; omega))
  clear h2
  go_wp2_with fail
  refine HS.out.mono ?_
  rintro e w3 ⟨p3, s3, rfl, he3, ht3, hl3, h3⟩
  rw [tablesN_one] at hl3
  have HL3 := Lib.hid hl3
  have H3 := Lib.hid h3
  have HG := Lib.hid (tn_get 9 (by omega) h3 ht3.live)
  rw [he3, getD_set_same _ _ _ _ (by rw [List.length_replicate]; omega)] at HG
  clear he3 ht3 hl3 h3
  go_wp2_with fail
  refine HG.out.mono ?_
  rintro e w4 ⟨rfl, hb4⟩
  have H4 := Lib.hid ((H3.out.fresh hb4).fresh ((Below.refl _ _).alloc (Nat.le_refl _) (.cells (enV ⟨2, 5, false⟩) 35)))
  clear hb4
  unfold enV
  go_wp2_with fail
  refine (tn_tables H4.out).mono ?_
  rintro e w5 ⟨v, rfl, hi, hb5⟩
  obtain ⟨A, c, rfl⟩ := hi.len
  rw [asI_length, HL3.out]
  have HB5 := Lib.hid (H4.out.fresh hb5).bel
  clear hi hb5
  go_wp2
  go_ret
  exact ⟨by simp, HB5.out⟩
end Go.Proofs.Ytegoookllckhiaa

/-
  What Cut and Protect leave is a list, and which area has which page (nothing of the program).
  Conditions: none.
-/
import Derived.Test.YtpkgmmfnlifocaaArP
namespace Go.Proofs.Ytpkgmmfnlifocaa
open Go.RowKit
set_option linter.unusedVariables false

def hasA (a : Ar) (q : Int) : Prop := a.fr ≤ q ∧ q < a.fr + a.pg
theorem piece_mem {a x : Ar} {s e : Int} (h : x ∈ pieceA a s e) : (s ≤ x.fr ∧ a.fr ≤ x.fr ∧ x.fr + x.pg ≤ e ∧ x.fr + x.pg ≤ a.fr + a.pg ∧ 1 ≤ x.pg) ∧ x.w = a.w ∧ x.kd = a.kd ∧ x.fl = a.fl ∧ x.ofs = if a.kd = 1 then a.ofs else a.ofs + x.fr - a.fr := by
  unfold pieceA at h
  split at h
  · cases h
  · rename_i c
    rw [List.mem_singleton] at h
    subst h
    refine ⟨?_, rfl, rfl, rfl, rfl⟩
    simp only
    unfold maxI minI at *
    split at c <;> split at c <;> simp_all <;> omega
theorem piece_has {a : Ar} {s e q : Int} (h : hasA a q) (hs : s ≤ q) (he : q < e) : ∃ x ∈ pieceA a s e, hasA x q := by
  obtain ⟨h1, h2⟩ := h
  unfold pieceA
  rw [if_neg (by unfold maxI minI; split <;> split <;> omega)]
  refine ⟨_, List.mem_singleton.2 rfl, ?_⟩
  unfold hasA maxI minI
  simp only
  constructor
  · split <;> omega
  · split <;> split <;> omega
theorem piece_sound {a x : Ar} {s e : Int} (ha : soundA a) (h : x ∈ pieceA a s e) : soundA x := by
  obtain ⟨⟨h1, h2, h3, h4, h5⟩, -, hk, hf, ho⟩ := piece_mem h
  obtain ⟨⟨a1, a2, a3, a4, a5, a6⟩, a7⟩ := ha
  unfold soundA
  rw [hk, hf, ho]
  refine ⟨⟨a1, a2, by omega, h5, by omega, by omega⟩, ?_⟩
  rcases a7 with ⟨b1, b2, b3⟩ | ⟨b1, b2, b3, b4, b5, b6⟩
  · exact .inl ⟨b1, b2, by rw [if_pos b1]; exact b3⟩
  · rw [if_neg b1]
    exact .inr ⟨b1, b2, b3, by omega, by omega, by omega⟩
theorem mem_outA {l : List Ar} {f p : Int} {x : Ar} : x ∈ outA l f p ↔ ∃ a ∈ l, x ∈ pieceA a 0 f ∨ x ∈ pieceA a (f + p) 4096 := by
  unfold outA
  simp only [List.mem_flatMap, List.mem_append]
theorem mem_inA {l : List Ar} {f p : Int} {x : Ar} : x ∈ inA l f p ↔ ∃ a ∈ l, x ∈ pieceA a f (f + p) := by
  unfold inA
  simp only [List.mem_flatMap]
theorem piece_pair (a : Ar) (s e : Int) : (pieceA a s e).Pairwise (fun a b => a.fr + a.pg ≤ b.fr) := by
  unfold pieceA
  split
  · exact List.Pairwise.nil
  · exact List.pairwise_singleton _ _
theorem outA_list {l : List Ar} {f p : Int} (h : listA l) (hr : rightA f p) : listA (outA l f p) := by
  obtain ⟨r1, r2, r3, r4⟩ := hr
  refine ⟨fun x hx => ?_, ?_⟩
  · obtain ⟨a, ha, hx | hx⟩ := mem_outA.1 hx
    · exact piece_sound (h.1 a ha) hx
    · exact piece_sound (h.1 a ha) hx
  · unfold outA
    refine List.pairwise_flatMap.2 ⟨fun a _ => List.pairwise_append.2 ⟨piece_pair _ _ _, piece_pair _ _ _, fun x hx y hy => ?_⟩, h.2.imp fun {a b} hab x hx y hy => ?_⟩
    · have h1 := (piece_mem hx).1
      have h2 := (piece_mem hy).1
      omega
    · have k1 : x.fr + x.pg ≤ a.fr + a.pg := by
        rcases List.mem_append.1 hx with hx | hx
        · exact (piece_mem hx).1.2.2.2.1
        · exact (piece_mem hx).1.2.2.2.1
      have k2 : b.fr ≤ y.fr := by
        rcases List.mem_append.1 hy with hy | hy
        · exact (piece_mem hy).1.2.1
        · exact (piece_mem hy).1.2.1
      omega
theorem inA_list {l : List Ar} {f p : Int} (h : listA l) : listA (inA l f p) := by
  refine ⟨fun x hx => ?_, ?_⟩
  · obtain ⟨a, ha, hx⟩ := mem_inA.1 hx
    exact piece_sound (h.1 a ha) hx
  · unfold inA
    refine List.pairwise_flatMap.2 ⟨fun a _ => piece_pair _ _ _, h.2.imp fun {a b} hab x hx y hy => ?_⟩
    have h1 := (piece_mem hx).1
    have h2 := (piece_mem hy).1
    omega
/-- Which area has the page. -/
theorem findA_iff {l : List Ar} {q : Int} (h : listA l) {a : Ar} : findA l q = some a ↔ a ∈ l ∧ hasA a q := by
  unfold findA
  constructor
  · intro e
    exact ⟨List.mem_of_find?_eq_some e, by have := List.find?_some e; unfold hasA; simpa using this⟩
  · rintro ⟨hm, hq⟩
    cases e : l.find? (fun a => decide (a.fr ≤ q ∧ q < a.fr + a.pg)) with
    | none =>
      have := List.find?_eq_none.1 e a hm
      unfold hasA at hq
      simp [hq] at this
    | some b =>
      have hb := List.mem_of_find?_eq_some e
      have hbq : b.fr ≤ q ∧ q < b.fr + b.pg := by simpa using List.find?_some e
      obtain ⟨i, hi, rfl⟩ := List.getElem_of_mem hm
      obtain ⟨j, hj, rfl⟩ := List.getElem_of_mem hb
      have hp := List.pairwise_iff_getElem.1 h.2
      unfold hasA at hq
      rcases Nat.lt_trichotomy i j with c | c | c
      · have := hp i j hi hj c; omega
      · subst c; rfl
      · have := hp j i hj hi c; omega
theorem findA_none {l : List Ar} {q : Int} (h : ∀ a ∈ l, ¬ hasA a q) : findA l q = none := by
  unfold findA
  refine List.find?_eq_none.2 fun a ha => ?_
  have := h a ha
  unfold hasA at this
  simp only [decide_eq_true_eq]
  exact this
theorem findA_not {l : List Ar} {q : Int} (h : findA l q = none) : ∀ a ∈ l, ¬ hasA a q := by
  intro a ha
  have := List.find?_eq_none.1 h a ha
  unfold hasA
  simpa using this
/-- The same page of the same. -/
def sameA (a b : Ar) (q : Int) : Prop := b.kd = a.kd ∧ b.fl = a.fl ∧ b.w = a.w ∧ (a.kd = 1 ∨ a.ofs + q - a.fr = b.ofs + q - b.fr)
theorem out_in {l : List Ar} {f p q : Int} (hr : rightA f p) (h1 : f ≤ q) (h2 : q < f + p) : findA (outA l f p) q = none := findA_none fun x hx hq => by
  obtain ⟨q1, q2⟩ := hq
  obtain ⟨a, ha, hx | hx⟩ := mem_outA.1 hx
  · have := (piece_mem hx).1; omega
  · have := (piece_mem hx).1; omega
theorem out_out {l : List Ar} {f p q : Int} (h : listA l) (hr : rightA f p) (hq : 0 ≤ q ∧ q ≤ 4095) (hn : ¬ (f ≤ q ∧ q < f + p)) :
    (findA l q = none ∧ findA (outA l f p) q = none) ∨ ∃ a b, findA l q = some a ∧ findA (outA l f p) q = some b ∧ sameA a b q ∧ soundA a ∧ soundA b ∧ hasA a q ∧ hasA b q := by
  have hl := outA_list h hr
  cases e : findA l q with
  | none =>
    refine .inl ⟨rfl, findA_none fun x hx hxq => ?_⟩
    obtain ⟨a, ha, hp⟩ := mem_outA.1 hx
    have hno := findA_not e a ha
    obtain ⟨q1, q2⟩ := hxq
    rcases hp with hp | hp
    · have := (piece_mem hp).1
      exact hno ⟨by omega, by omega⟩
    · have := (piece_mem hp).1
      exact hno ⟨by omega, by omega⟩
  | some a =>
    obtain ⟨ha, haq⟩ := (findA_iff h).1 e
    have key : ∃ x, x ∈ outA l f p ∧ hasA x q ∧ ∃ s e, x ∈ pieceA a s e := by
      by_cases c : q < f
      · obtain ⟨x, hx, hxq⟩ := piece_has haq hq.1 c
        exact ⟨x, mem_outA.2 ⟨a, ha, .inl hx⟩, hxq, _, _, hx⟩
      · obtain ⟨x, hx, hxq⟩ := piece_has (s := f + p) (e := 4096) haq (by omega) (by omega)
        exact ⟨x, mem_outA.2 ⟨a, ha, .inr hx⟩, hxq, _, _, hx⟩
    obtain ⟨x, hx, hxq, s, e', hxp⟩ := key
    refine .inr ⟨a, x, rfl, (findA_iff hl).2 ⟨hx, hxq⟩, ?_, h.1 a ha, hl.1 x hx, haq, hxq⟩
    obtain ⟨-, k1, k2, k3, k4⟩ := piece_mem hxp
    refine ⟨k2, k3, k1, ?_⟩
    by_cases c : a.kd = 1
    · exact .inl c
    · rw [if_neg c] at k4
      exact .inr (by omega)
/-! ### Protect -/
theorem mem_insA {l : List Ar} {a x : Ar} : x ∈ insA l a ↔ x = a ∨ x ∈ l := by
  unfold insA
  rw [List.mem_append, List.mem_append, List.mem_singleton]
  have := List.take_append_drop (posA l a.fr) l
  constructor
  · rintro ((h | h) | h)
    · exact .inr (List.mem_of_mem_take h)
    · exact .inl h
    · exact .inr (List.mem_of_mem_drop h)
  · rintro (h | h)
    · exact .inl (.inr h)
    · rw [← this] at h
      rcases List.mem_append.1 h with h | h
      · exact .inl (.inl h)
      · exact .inr h
def apartA (a b : Ar) : Prop := a.fr + a.pg ≤ b.fr ∨ b.fr + b.pg ≤ a.fr
theorem insA_list {l : List Ar} {a : Ar} (h : listA l) (ha : soundA a) (hd : ∀ x ∈ l, apartA x a) : listA (insA l a) := by
  refine ⟨fun x hx => ?_, ?_⟩
  · rcases mem_insA.1 hx with rfl | hx
    · exact ha
    · exact h.1 x hx
  · have e := List.take_append_drop (posA l a.fr) l
    have hp := h.2
    rw [← e] at hp
    obtain ⟨p1, p2, p3⟩ := List.pairwise_append.1 hp
    have ha1 := ha.1.2.2.2.1
    have hlt : ∀ x ∈ l.take (posA l a.fr), x.fr + x.pg ≤ a.fr := fun x hx => by
      obtain ⟨i, hi, rfl⟩ := List.getElem_of_mem hx
      have hi' : i < posA l a.fr := by rw [List.length_take] at hi; omega
      obtain ⟨y, h1, h2⟩ := posA_lt hi'
      have : (l.take (posA l a.fr))[i]? = some y := by rw [List.getElem?_take_of_lt hi', h1]
      rw [List.getElem?_eq_getElem hi] at this
      injection this with this
      rw [this]
      rcases hd y (List.mem_of_getElem? h1) with c | c
      · exact c
      · omega
    have hge : ∀ x ∈ l.drop (posA l a.fr), a.fr + a.pg ≤ x.fr := fun x hx => by
      have key : ∀ m, l.drop (posA l a.fr) = m → ∀ x ∈ m, a.fr ≤ x.fr := by
        intro m hm
        cases m with
        | nil => intro x hx; cases hx
        | cons y t =>
          have hy : l[posA l a.fr]? = some y := by
            have := List.getElem?_drop (xs := l) (i := posA l a.fr) (j := 0)
            rw [hm] at this
            simpa using this.symm
          have h1 := posA_at hy
          rw [hm] at p2
          intro x hx
          rcases List.mem_cons.1 hx with rfl | hx
          · omega
          · have := (List.pairwise_cons.1 p2).1 x hx
            have := (h.1 y (List.mem_of_getElem? hy)).1.2.2.2.1
            omega
      have h1 := key _ rfl x hx
      have hxs := h.1 x (List.mem_of_mem_drop hx)
      rcases hd x (List.mem_of_mem_drop hx) with c | c
      · have := hxs.1.2.2.2.1; omega
      · exact c
    unfold insA
    refine List.pairwise_append.2 ⟨List.pairwise_append.2 ⟨p1, List.pairwise_singleton _ _, fun x hx y hy => ?_⟩, p2, fun x hx y hy => ?_⟩
    · rw [List.mem_singleton.1 hy]; exact hlt x hx
    · rcases List.mem_append.1 hx with hx | hx
      · exact p3 x hx y hy
      · rw [List.mem_singleton.1 hx]; exact hge y hy
theorem setW_sound {a : Ar} {b : Bool} (h : soundA a) : soundA (setW b a) := h
theorem fold_list {lo li : List Ar} {b : Bool} (h : listA lo) (hi : ∀ a ∈ li, soundA a) (hp : li.Pairwise apartA) (hd : ∀ x ∈ lo, ∀ a ∈ li, apartA x a) : listA ((li.map (setW b)).foldl insA lo) := by
  induction li generalizing lo with
  | nil => exact h
  | cons a li ih =>
    obtain ⟨p1, p2⟩ := List.pairwise_cons.1 hp
    rw [List.map_cons, List.foldl_cons]
    refine ih (insA_list h (setW_sound (hi a List.mem_cons_self)) (fun x hx => hd x hx a List.mem_cons_self)) (fun x hx => hi x (List.mem_cons_of_mem _ hx)) p2 (fun x hx y hy => ?_)
    rcases mem_insA.1 hx with rfl | hx
    · exact p1 y hy
    · exact hd x hx y (List.mem_cons_of_mem _ hy)
theorem mem_fold {lo li : List Ar} {b : Bool} {x : Ar} : x ∈ (li.map (setW b)).foldl insA lo ↔ x ∈ lo ∨ ∃ a ∈ li, x = setW b a := by
  induction li generalizing lo with
  | nil => simp
  | cons a li ih =>
    rw [List.map_cons, List.foldl_cons, ih, mem_insA]
    constructor
    · rintro ((h | h) | ⟨y, hy, h⟩)
      · exact .inr ⟨a, List.mem_cons_self, h⟩
      · exact .inl h
      · exact .inr ⟨y, List.mem_cons_of_mem _ hy, h⟩
    · rintro (h | ⟨y, hy, h⟩)
      · exact .inl (.inr h)
      · rcases List.mem_cons.1 hy with rfl | hy
        · exact .inl (.inl h)
        · exact .inr ⟨y, hy, h⟩
theorem protO_list {l : List Ar} {f p : Int} {b : Bool} (h : listA l) (hr : rightA f p) : listA (protO l f p b) := by
  have hi := inA_list (f := f) (p := p) h
  refine fold_list (outA_list h hr) hi.1 (hi.2.imp fun hab => .inl hab) (fun x hx a ha => ?_)
  obtain ⟨r1, r2, r3, r4⟩ := hr
  obtain ⟨y, hy, hx⟩ := mem_outA.1 hx
  obtain ⟨z, hz, ha⟩ := mem_inA.1 ha
  have h2 := (piece_mem ha).1
  rcases hx with hx | hx
  · have h1 := (piece_mem hx).1
    exact .inl (by omega)
  · have h1 := (piece_mem hx).1
    exact .inr (by omega)
theorem prot_find {l : List Ar} {f p q : Int} {b : Bool} (h : listA l) (hr : rightA f p) (hq : 0 ≤ q ∧ q ≤ 4095) :
    (findA l q = none ∧ findA (protO l f p b) q = none) ∨ ∃ a x, findA l q = some a ∧ findA (protO l f p b) q = some x ∧ x.kd = a.kd ∧ x.w = if f ≤ q ∧ q < f + p then b else a.w := by
  have hl := protO_list (b := b) h hr
  cases e : findA l q with
  | none =>
    refine .inl ⟨rfl, findA_none fun x hx hxq => ?_⟩
    obtain ⟨q1, q2⟩ := hxq
    rcases mem_fold.1 hx with hx | ⟨y, hy, rfl⟩
    · obtain ⟨a, ha, hp⟩ := mem_outA.1 hx
      have hno := findA_not e a ha
      rcases hp with hp | hp
      · have := (piece_mem hp).1
        exact hno ⟨by omega, by omega⟩
      · have := (piece_mem hp).1
        exact hno ⟨by omega, by omega⟩
    · obtain ⟨a, ha, hp⟩ := mem_inA.1 hy
      have hno := findA_not e a ha
      have := (piece_mem hp).1
      have q1' : y.fr ≤ q := q1
      have q2' : q < y.fr + y.pg := q2
      exact hno ⟨by omega, by omega⟩
  | some a =>
    obtain ⟨ha, haq⟩ := (findA_iff h).1 e
    by_cases c : f ≤ q ∧ q < f + p
    · obtain ⟨x, hx, hxq⟩ := piece_has haq c.1 c.2
      refine .inr ⟨a, setW b x, rfl, (findA_iff hl).2 ⟨mem_fold.2 (.inr ⟨x, mem_inA.2 ⟨a, ha, hx⟩, rfl⟩), hxq⟩, (piece_mem hx).2.2.1, by rw [if_pos c]; rfl⟩
    · rcases out_out h hr hq c with ⟨h1, _⟩ | ⟨a', x, h1, h2, h3, -⟩
      · rw [e] at h1; cases h1
      · rw [e] at h1
        injection h1 with h1
        subst h1
        obtain ⟨hx, hxq⟩ := (findA_iff (outA_list h hr)).1 h2
        exact .inr ⟨a, x, rfl, (findA_iff hl).2 ⟨mem_fold.2 (.inl hx), hxq⟩, h3.1, by rw [if_neg c]; exact h3.2.2.1⟩
theorem out_all {l : List Ar} (h : listA l) : outA l 0 4096 = [] := by
  cases e : outA l 0 4096 with
  | nil => rfl
  | cons x t =>
    have hx : x ∈ outA l 0 4096 := by rw [e]; exact List.mem_cons_self
    obtain ⟨a, ha, hp | hp⟩ := mem_outA.1 hx
    · have := (piece_mem hp).1
      have := (h.1 a ha).1.2.2.1
      omega
    · have := (piece_mem hp).1
      have := (h.1 a ha).1
      omega
end Go.Proofs.Ytpkgmmfnlifocaa

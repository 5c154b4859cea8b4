/-
  What lies ahead of some pages, in them and behind them: a list that is cut, changed or grown is these, one behind the other (nothing of the program).
  Conditions: none beside those that each line bears.
-/
import Derived.Test.YtpkgmmfnlifocaaArP
namespace Go.Proofs.Ytpkgmmfnlifocaa
set_option linter.unusedVariables false
/-- Has an area one of these pages? -/
def meetA (f p : Int) (a : Ar) : Bool := decide (maxI f a.fr < minI (f + p) (a.fr + a.pg))
theorem piece_meet (a : Ar) (f p : Int) : pieceA a f (f + p) = if meetA f p a then [⟨maxI f a.fr, minI (f + p) (a.fr + a.pg) - maxI f a.fr, a.w, a.kd, a.fl, if a.kd = 1 then a.ofs else a.ofs + maxI f a.fr - a.fr⟩] else [] := by
  unfold pieceA meetA
  by_cases c : maxI f a.fr < minI (f + p) (a.fr + a.pg)
  · rw [if_neg (by omega), if_pos (decide_eq_true c)]
  · rw [if_pos (by omega), if_neg (by simpa using c)]
theorem piece_nil {a : Ar} {f e : Int} (h : e ≤ a.fr ∨ a.fr + a.pg ≤ f) : pieceA a f e = [] := by
  unfold pieceA
  refine if_pos ?_
  unfold minI maxI
  split <;> split <;> omega
theorem piece_none {a : Ar} {f e : Int} (h : pieceA a f e = []) (he : f < e) (hp : 1 ≤ a.pg) : e ≤ a.fr ∨ a.fr + a.pg ≤ f := by
  unfold pieceA at h
  split at h
  · rename_i c
    unfold minI maxI at c
    split at c <;> split at c <;> omega
  · cases h
theorem piece_all {a : Ar} {f e : Int} (h1 : f ≤ a.fr) (h2 : a.fr + a.pg ≤ e) (hp : 1 ≤ a.pg) : pieceA a f e = [a] := by
  have e1 : maxI f a.fr = a.fr := by unfold maxI; split <;> omega
  have e2 : minI e (a.fr + a.pg) = a.fr + a.pg := by unfold minI; split <;> omega
  unfold pieceA
  rw [e1, e2, if_neg (by omega)]
  obtain ⟨fr, pg, w, kd, fl, ofs⟩ := a
  simp only [List.cons.injEq, Ar.mk.injEq, and_true, true_and]
  refine ⟨by omega, ?_⟩
  split <;> omega
theorem piece_inside {a x : Ar} {f e : Int} (h : x ∈ pieceA a f e) : f ≤ x.fr ∧ x.fr + x.pg ≤ e ∧ 1 ≤ x.pg ∧ a.fr ≤ x.fr ∧ x.fr + x.pg ≤ a.fr + a.pg := by
  unfold pieceA at h
  split at h
  · cases h
  · rename_i c
    rw [List.mem_singleton.1 h]
    show f ≤ maxI f a.fr ∧ maxI f a.fr + (minI e (a.fr + a.pg) - maxI f a.fr) ≤ e ∧ 1 ≤ minI e (a.fr + a.pg) - maxI f a.fr ∧ a.fr ≤ maxI f a.fr ∧ maxI f a.fr + (minI e (a.fr + a.pg) - maxI f a.fr) ≤ a.fr + a.pg
    unfold minI maxI at c ⊢
    split <;> split <;> (simp only [*, if_true, if_false] at c; omega)
theorem inA_cons (a : Ar) (l : List Ar) (f p : Int) : inA (a :: l) f p = pieceA a f (f + p) ++ inA l f p := rfl
theorem inA_mem {l : List Ar} {x : Ar} {f p : Int} (h : x ∈ inA l f p) : ∃ a ∈ l, x ∈ pieceA a f (f + p) := by
  obtain ⟨a, h1, h2⟩ := List.mem_flatMap.1 h
  exact ⟨a, h1, h2⟩
theorem inA_none {l : List Ar} {f p : Int} (h : ∀ x ∈ l, f + p ≤ x.fr ∨ x.fr + x.pg ≤ f) : inA l f p = [] := by
  induction l with
  | nil => rfl
  | cons a l ih => rw [inA_cons, piece_nil (h a List.mem_cons_self), ih fun x hx => h x (List.mem_cons_of_mem _ hx)]; rfl
theorem inA_all {l : List Ar} {f p : Int} (h : ∀ x ∈ l, f ≤ x.fr ∧ x.fr + x.pg ≤ f + p ∧ 1 ≤ x.pg) : inA l f p = l := by
  induction l with
  | nil => rfl
  | cons a l ih =>
    obtain ⟨h1, h2, h3⟩ := h a List.mem_cons_self
    rw [inA_cons, piece_all h1 h2 h3, ih fun x hx => h x (List.mem_cons_of_mem _ hx)]
    rfl
/-- What is left of a list is what lies ahead and what lies behind. -/
theorem out_eq {l : List Ar} (hl : listA l) (f p : Int) (hp : 1 ≤ p) : outA l f p = inA l 0 f ++ inA l (f + p) (4096 - (f + p)) := by
  have e0 : (0 : Int) + f = f := by omega
  have e1 : f + p + (4096 - (f + p)) = 4096 := by omega
  induction l with
  | nil => rfl
  | cons a l ih =>
    have hl' : listA l := ⟨fun x hx => hl.1 x (List.mem_cons_of_mem _ hx), (List.pairwise_cons.1 hl.2).2⟩
    have hb := (List.pairwise_cons.1 hl.2).1
    have hs := (hl.1 a List.mem_cons_self).1
    have ho : outA (a :: l) f p = (pieceA a 0 f ++ pieceA a (f + p) 4096) ++ outA l f p := rfl
    rw [ho, ih hl', inA_cons, inA_cons, e0, e1]
    by_cases c : a.fr + a.pg ≤ f + p
    · rw [piece_nil (a := a) (f := f + p) (.inr c), List.append_nil, List.nil_append, List.append_assoc]
    · have hn : inA l 0 f = [] := inA_none fun x hx => .inl (by have := hb x hx; omega)
      rw [hn, List.nil_append, List.append_nil, List.append_assoc]
theorem posA_mid (X B : List Ar) (f : Int) (hX : ∀ x ∈ X, x.fr < f) (hB : ∀ x ∈ B, ¬ x.fr < f) : posA (X ++ B) f = X.length := by
  induction X with
  | nil =>
    cases B with
    | nil => rfl
    | cons b B => show posA (b :: B) f = 0; unfold posA; rw [if_neg (hB b List.mem_cons_self)]
  | cons x X ih =>
    show posA (x :: (X ++ B)) f = _
    unfold posA
    rw [if_pos (hX x List.mem_cons_self), ih fun y hy => hX y (List.mem_cons_of_mem _ hy)]
    rfl
theorem ins_mid (X B : List Ar) (a : Ar) (hX : ∀ x ∈ X, x.fr < a.fr) (hB : ∀ x ∈ B, ¬ x.fr < a.fr) : insA (X ++ B) a = X ++ [a] ++ B := by
  unfold insA
  rw [posA_mid X B a.fr hX hB, List.take_left, List.drop_left]
theorem ins_all (M X B : List Ar) (hX : ∀ x ∈ X, ∀ m ∈ M, x.fr < m.fr) (hM : M.Pairwise (fun a b => a.fr < b.fr)) (hB : ∀ m ∈ M, ∀ b ∈ B, ¬ b.fr < m.fr) : M.foldl insA (X ++ B) = X ++ M ++ B := by
  induction M generalizing X with
  | nil => show X ++ B = X ++ [] ++ B; rw [List.append_nil]
  | cons m M ih =>
    have hm := List.pairwise_cons.1 hM
    show M.foldl insA (insA (X ++ B) m) = _
    rw [ins_mid X B m (fun x hx => hX x hx m List.mem_cons_self) (fun b hb => hB m List.mem_cons_self b hb), ih (X ++ [m]) (fun x hx y hy => ?_) hm.2 (fun y hy => hB y (List.mem_cons_of_mem _ hy))]
    · rw [List.append_assoc X [m] M]; rfl
    · rcases List.mem_append.1 hx with hx | hx
      · exact hX x hx y (List.mem_cons_of_mem _ hy)
      · rw [List.mem_singleton.1 hx]; exact hm.1 y hy
theorem inA_pair {l : List Ar} (hl : listA l) (f p : Int) : (inA l f p).Pairwise (fun a b => a.fr < b.fr) := by
  induction l with
  | nil => exact List.Pairwise.nil
  | cons a l ih =>
    have hl' : listA l := ⟨fun x hx => hl.1 x (List.mem_cons_of_mem _ hx), (List.pairwise_cons.1 hl.2).2⟩
    have hb := (List.pairwise_cons.1 hl.2).1
    rw [inA_cons]
    refine List.pairwise_append.2 ⟨?_, ih hl', fun x hx y hy => ?_⟩
    · have := pieceA_length a f (f + p)
      match pieceA a f (f + p), this with
      | [], _ => exact List.Pairwise.nil
      | [x], _ => exact List.pairwise_singleton _ _
      | x :: y :: _, h => simp at h
    · obtain ⟨b, h1, h2⟩ := inA_mem hy
      have k1 := piece_inside hx
      have k2 := piece_inside h2
      have k3 := hb b h1
      omega
/-- A list some of whose pages are written, or not: ahead, in, behind. -/
theorem prot_eq {l : List Ar} (hl : listA l) (f p : Int) (w : Bool) (hp : 1 ≤ p) : protO l f p w = inA l 0 f ++ (inA l f p).map (setW w) ++ inA l (f + p) (4096 - (f + p)) := by
  unfold protO
  rw [out_eq hl f p hp]
  refine ins_all _ _ _ (fun x hx m hm => ?_) (List.pairwise_map.2 (inA_pair hl f p)) (fun m hm b hb => ?_)
  · obtain ⟨a, _, h1⟩ := inA_mem hx
    obtain ⟨m', h2, rfl⟩ := List.mem_map.1 hm
    obtain ⟨b, _, h3⟩ := inA_mem h2
    have k1 := piece_inside h1
    have k2 := piece_inside h3
    show x.fr < m'.fr
    omega
  · obtain ⟨a, _, h1⟩ := inA_mem hb
    obtain ⟨m', h2, rfl⟩ := List.mem_map.1 hm
    obtain ⟨c, _, h3⟩ := inA_mem h2
    have k1 := piece_inside h1
    have k2 := piece_inside h3
    show ¬ b.fr < m'.fr
    omega
/-- A list with one more that meets none: ahead, it, behind. -/
theorem ins_eq {l : List Ar} (hl : listA l) (a : Ar) (hp : 1 ≤ a.pg) (hn : inA l a.fr a.pg = []) : insA l a = inA l 0 a.fr ++ [a] ++ inA l (a.fr + a.pg) (4096 - (a.fr + a.pg)) := by
  have hmid : ∃ X B, l = X ++ B ∧ (∀ x ∈ X, x.fr + x.pg ≤ a.fr) ∧ ∀ x ∈ B, a.fr + a.pg ≤ x.fr := by
    induction l with
    | nil => exact ⟨[], [], rfl, fun x h => absurd h List.not_mem_nil, fun x h => absurd h List.not_mem_nil⟩
    | cons x l ih =>
      have hl' : listA l := ⟨fun y hy => hl.1 y (List.mem_cons_of_mem _ hy), (List.pairwise_cons.1 hl.2).2⟩
      have hb := (List.pairwise_cons.1 hl.2).1
      have hs := (hl.1 x List.mem_cons_self).1
      rw [inA_cons] at hn
      obtain ⟨n1, n2⟩ := List.append_eq_nil_iff.1 hn
      rcases piece_none n1 (by omega) hs.2.2.2.1 with h | h
      · refine ⟨[], x :: l, rfl, fun y hy => absurd hy List.not_mem_nil, fun y hy => ?_⟩
        rcases List.mem_cons.1 hy with rfl | hy
        · exact h
        · have := hb y hy; omega
      · obtain ⟨X, B, rfl, h1, h2⟩ := ih hl' n2
        refine ⟨x :: X, B, rfl, fun y hy => ?_, h2⟩
        rcases List.mem_cons.1 hy with rfl | hy
        · exact h
        · exact h1 y hy
  obtain ⟨X, B, rfl, h1, h2⟩ := hmid
  have hs := fun x hx => (hl.1 x hx).1
  have hX : ∀ x ∈ X, x ∈ X ++ B := fun x hx => List.mem_append.2 (.inl hx)
  have hB : ∀ x ∈ B, x ∈ X ++ B := fun x hx => List.mem_append.2 (.inr hx)
  have ap : ∀ f p, inA (X ++ B) f p = inA X f p ++ inA B f p := fun f p => by unfold inA; rw [List.flatMap_append]
  rw [ins_mid X B a (fun x hx => by have := h1 x hx; have := hs x (hX x hx); omega) (fun x hx => by have := h2 x hx; omega), ap, ap,
    inA_all (l := X) (fun x hx => by have := h1 x hx; have := hs x (hX x hx); omega),
    inA_none (l := B) (f := 0) (fun x hx => .inl (by have := h2 x hx; omega)),
    inA_none (l := X) (fun x hx => .inr (by have := h1 x hx; omega)),
    inA_all (l := B) (fun x hx => by have := h2 x hx; have := hs x (hB x hx); omega), List.append_nil, List.nil_append]
/-- Which areas one asks for, and which one has a page. -/
theorem meet_any (l : List Ar) (f p : Int) : (∃ x ∈ l, meetA f p x = true) ↔ inA l f p ≠ [] := by
  induction l with
  | nil => exact ⟨fun ⟨x, h, _⟩ => absurd h List.not_mem_nil, fun h => absurd rfl h⟩
  | cons a l ih =>
    rw [inA_cons, piece_meet]
    cases hm : meetA f p a with
    | true => exact ⟨fun _ => by simp, fun _ => ⟨a, List.mem_cons_self, hm⟩⟩
    | false =>
      rw [if_neg (by simp), List.nil_append, ← ih]
      refine ⟨fun ⟨x, hx, hx2⟩ => ?_, fun ⟨x, hx, hx2⟩ => ⟨x, List.mem_cons_of_mem _ hx, hx2⟩⟩
      rcases List.mem_cons.1 hx with rfl | hx
      · rw [hm] at hx2; cases hx2
      · exact ⟨x, hx, hx2⟩
theorem meet_one {a : Ar} (h : 1 ≤ a.pg) (q : Int) : meetA q 1 a = decide (a.fr ≤ q ∧ q < a.fr + a.pg) := by
  unfold meetA maxI minI
  refine decide_eq_decide.2 ?_
  split <;> split <;> omega
end Go.Proofs.Ytpkgmmfnlifocaa

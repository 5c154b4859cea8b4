/-
  What a registry's journal has on a disk, whatever the form of its bases and records (enc, dec): what is known, what a crash may leave; each Append and each Rebase; what is found behind a crash that tears no sector.
  Conditions: none beside those that each line bears.
-/
import Derived.Test.YtfnegbcpiejdaabJouCl
import Derived.Test.YtfnegbcpiejdaabRegM
namespace Go.Proofs.Ytfnegbcpiejdaab
open Go.RowKit
set_option linter.unusedVariables false

/-- Known: md; a crash may leave one of cs. The journal has gen g and n records; br: its last Rebase was cut off. -/
def RInv (enc : MD → List Nat) (dec : List Nat → List (List Nat) → Option MD) (g : Nat) (md : MD) (cs : List MD) (n : Nat) (br : Bool) (S : Nat → List Nat) (L : Nat → Option (List Nat)) : Prop :=
  ∃ nb rs xs bs, JInv g nb rs xs bs S L ∧ JCl g bs S L ∧ (∀ b ∈ bs, b = enc md) ∧ (br = false → bs = []) ∧ rs.length = n ∧ dec nb rs = some md ∧ dec (enc md) [] = some md ∧ md ∈ cs ∧
    ∀ x ∈ xs, ∃ c ∈ cs, dec nb (rs ++ [x]) = some c
/-- That is found: a base, and records, that say md. -/
def Found (dec : List Nat → List (List Nat) → Option MD) (g : Nat) (md : MD) (F : Nat → List Nat) : Prop :=
  (loadR F).1 = g ∧ ∀ m, Stop F g m → dec (loadR F).2 (pays F m) = some md

section
variable {enc : MD → List Nat} {dec : List Nat → List (List Nat) → Option MD} {g n n' z : Nat} {md nx : MD} {cs : List MD} {br : Bool} {S S' : Nat → List Nat} {L L' : Nat → Option (List Nat)} {t t' : Tr} {x : List Nat}
theorem RInv.start (h0 : dec [] [] = some md0) (h1 : dec (enc md0) [] = some md0) : RInv enc dec 0 md0 [md0] 0 false (fun _ => zer) (fun _ => none) :=
  ⟨[], [], [], [], JInv.start, JCl.nil_, (fun b hb => by cases hb), fun _ => rfl, rfl, h0, h1, List.mem_singleton.2 rfl, fun x hx => by cases hx⟩
theorem RInv.few (h : RInv enc dec g md cs n br S L) : n ≤ 64 := by
  obtain ⟨_, _, _, _, h1, _, _, _, rfl, _⟩ := h
  exact h1.few
theorem RInv.mem (h : RInv enc dec g md cs n br S L) : md ∈ cs := by
  obtain ⟨_, _, _, _, _, _, _, _, _, _, _, h, _⟩ := h
  exact h
theorem RInv.more (h : RInv enc dec g md cs n br S L) {cs' : List MD} (hc : ∀ c ∈ cs, c ∈ cs') : RInv enc dec g md cs' n br S L := by
  obtain ⟨nb, rs, xs, bs, h1, h2, h3, h4, h5, h6, h7, h8, h9⟩ := h
  exact ⟨nb, rs, xs, bs, h1, h2, h3, h4, h5, h6, h7, hc _ h8, fun x hx => by obtain ⟨c, k1, k2⟩ := h9 x hx; exact ⟨c, hc _ k1, k2⟩⟩
/-- An Append of a record that says nx: done; refused (full, or cut off); failed. -/
theorem RInv.app (h : RInv enc dec g md cs n br S L) (hg : g < 4294967296) (hx : x.length ≤ 50) (hnx : ∀ nb rs, dec nb rs = some md → dec nb (rs ++ [x]) = some nx) (hen : dec (enc nx) [] = some nx) (hc : AppCase S L t g n br x z S' L' t' n') :
    (z = 0 ∧ br = false ∧ n < 64 ∧ n' = n + 1 ∧ RInv enc dec g nx [nx] n' false S' L' ∧ L' = fun _ => none) ∨
    (z = 4 ∧ (br = true ∨ n = 64) ∧ n' = n ∧ S' = S ∧ L' = L ∧ t' = t) ∨
    ((z = 6 ∨ z = 9) ∧ br = false ∧ n < 64 ∧ n' = n ∧ RInv enc dec g md (cs ++ [nx]) n false S' L') := by
  obtain ⟨nb, rs, xs, bs, h1, h2, h3, h4, rfl, h6, h7, h8, h9⟩ := h
  have few := h1.few
  have hcl := h2.app few hc
  rcases h1.app h4 hg hc with ⟨k1, k2, k3, k4, k5, k6⟩ | ⟨⟨k1, k2⟩ | ⟨k1, k2, k3⟩, k4, k5, k6, k7⟩ | ⟨k1, k2, k3, k4, k5, k6⟩
  · refine .inl ⟨k1, k4, k3, by rw [k5]; simp, ⟨nb, rs ++ [x], [], [], k6, JCl.nil_, (fun b hb => by cases hb), fun _ => rfl, by rw [k5], hnx _ _ h6, hen, List.mem_singleton.2 rfl, fun x hx => by cases hx⟩, ?_⟩
    rcases hc with ⟨_, c2, _⟩ | ⟨_, _, c3, _⟩ | ⟨_, _, _, ⟨c4, c5, _⟩ | ⟨_, c4, c5, _⟩ | ⟨_, _, _, _, c6, _⟩⟩
    · omega
    · omega
    · omega
    · omega
    · exact c6
  · omega
  · exact .inr (.inl ⟨k1, k3.imp id (fun h => by omega), k4, k5, k6, k7⟩)
  · refine .inr (.inr ⟨k1, k4, k3, k5, nb, rs, x :: xs, bs, k6, hcl, h3, fun _ => h4 k4, rfl, h6, h7, List.mem_append_left _ h8, fun y hy => ?_⟩)
    rcases List.mem_cons.1 hy with rfl | hy
    · exact ⟨nx, List.mem_append_right _ (List.mem_singleton.2 rfl), hnx _ _ h6⟩
    · obtain ⟨c, c1, c2⟩ := h9 y hy
      exact ⟨c, List.mem_append_left _ c1, c2⟩
/-- A Rebase to what is known: done; failed. -/
theorem RInv.reb {g' : Nat} {br' : Bool} (h : RInv enc dec g md cs n br S L) (hg : g + 1 < 4294967296) (hb : (enc md).length ≤ 960) (hc : RebCase S L t g n br (enc md) z S' L' t' g' n' br') :
    (z = 0 ∧ g' = g + 1 ∧ n' = 0 ∧ br' = false ∧ RInv enc dec (g + 1) md [md] 0 false S' L' ∧ L' = fun _ => none) ∨ ((z = 6 ∨ z = 9) ∧ g' = g ∧ n' = n ∧ br' = true ∧ RInv enc dec g md cs n true S' L') := by
  obtain ⟨nb, rs, xs, bs, h1, h2, h3, h4, h5, h6, h7, h8, h9⟩ := h
  rcases hc with ⟨k1, _⟩ | ⟨k1, k2, k3, k4, k5, k6⟩ | ⟨k1, k2, k3, k4, k5, k6⟩
  · omega
  · refine .inr ⟨k6.ans, k3, k4, k5, nb, rs, xs, enc md :: bs, h1.bad hb k6, h2.bad h1 h3 hb hg k6, fun b hm => ?_, (fun h => by cases h), h5, h6, h7, h8, h9⟩
    rcases List.mem_cons.1 hm with rfl | hm
    · rfl
    · exact h3 b hm
  · exact .inl ⟨k2, k3, k4, k5, ⟨enc md, [], [], [], h1.good hb hg k6, JCl.nil_, (fun b hb => by cases hb), fun _ => rfl, rfl, h7, h7, List.mem_singleton.2 rfl, fun x hx => by cases hx⟩, k6.2.2.1⟩
/-- Behind a crash that tears no sector. -/
theorem RInv.crash (h : RInv enc dec g md cs n br S L) (hg : g + 1 < 4294967296) {F : Nat → List Nat} (hF : ∀ f, f < 192 → Val S L f (F f)) (h64 : ∀ f, f < 192 → (F f).length = 64) : ∃ g' c, g' ≤ g + 1 ∧ c ∈ cs ∧ Found dec g' c F := by
  obtain ⟨nb, rs, xs, bs, h1, h2, h3, h4, h5, h6, h7, h8, h9⟩ := h
  rcases h1.load2 h2 hg hF h64 with e | ⟨b, hb, e⟩
  · obtain ⟨m, hm⟩ := Stop.exists_ F g
    rcases h1.recs (by omega) hF hm with r | ⟨x, hx, r⟩
    · refine ⟨g, md, by omega, h8, by rw [e], fun m' hm' => ?_⟩
      obtain rfl := hm.uniq hm' (fun j _ => rfl)
      rw [e, r]; exact h6
    · obtain ⟨c, c1, c2⟩ := h9 x hx
      refine ⟨g, c, by omega, c1, by rw [e], fun m' hm' => ?_⟩
      obtain rfl := hm.uniq hm' (fun j _ => rfl)
      rw [e, r]; exact c2
  · refine ⟨g + 1, md, Nat.le_refl _, h8, by rw [e], fun m' hm' => ?_⟩
    rw [e, h1.recs_next hg hF hm', h3 b hb]
    exact h7
/-- Nothing is loose: it is found as it is. -/
theorem RInv.found (h : RInv enc dec g md cs n br S (fun _ => none)) (hg : g + 1 < 4294967296) (h64 : ∀ f, f < 192 → (S f).length = 64) (hbr : br = false) (hcs : cs = [md]) : Found dec g md S := by
  obtain ⟨nb, rs, xs, bs, h1, h2, h3, h4, h5, h6, h7, h8, h9⟩ := h
  have e4 := h4 hbr
  subst e4
  rcases h1.load2 h2 hg (F := S) (fun f _ => .inl rfl) h64 with e | ⟨b, hb, e⟩
  · refine ⟨by rw [e], fun m hm => ?_⟩
    rcases h1.recs (by omega) (F := S) (fun f _ => .inl rfl) hm with r | ⟨x, hx, r⟩
    · rw [e, r]; exact h6
    · obtain ⟨c, c1, c2⟩ := h9 x hx
      rw [hcs, List.mem_singleton] at c1
      rw [e, r, c2, c1]
  · cases hb
end
/-- Behind a crash that tears no sector each sector is one of those that it may be. -/
theorem val_crash {S : Nat → List Nat} {L : Nat → Option (List Nat)} {K tn : Nat} (hS : ∀ f, f < 192 → (S f).length = 64) (hL : ∀ f y, L f = some y → y.length = 64) (ht : tn = 0 ∨ tn = 64) : ∀ f, f < 192 → Val S L f (crashL S L (keptL (keysL 192 L) K) tn f) := by
  intro f _
  rcases crash_or (K := K) hS hL ht f with h1 | ⟨y, h1, h2⟩
  · exact .inl h1
  · exact .inr (by rw [h2]; exact h1)
end Go.Proofs.Ytfnegbcpiejdaab

/-
  JournalNone and JournalBroken answer true for any bytes and any number, and write nothing that was there.
  Conditions: none beside the kinds' own ranges.
-/
import Derived.Test.YtckabekimdcdcaaJouB
import Derived.Test.YtckabekimdcdcaaOnce
import Derived.Test.YtckabekimdcdcaaRefB
namespace Go.Proofs.Ytckabekimdcdcaa
open Go.RowKit
set_option linter.unusedVariables false

set_option maxRecDepth 20000 in
set_option maxHeartbeats 800000 in
theorem journalNone_any (A : Option Addr) (l c : Nat) (w : World) :
    Calls Try.prog 5 #[.slice A l c] w fun e w' => e = .returned (.bool true) ∧ Below w.heap.size w w' := by
  go_enter Try.func5, Try.ntmps5
  go_wp2_with fail
  refine (jopen_nil _).mono ?_
  rintro e w1 ⟨rfl, rfl⟩
  go_wp2_with fail
  refine (jouAnswers_any _).mono ?_
  rintro e w1 ⟨rfl, hb⟩
  have HB := Lib.hid hb
  clear hb
  go_wp2_with fail
  refine (japp_nil _ _ _ _).mono ?_
  rintro e w2 ⟨rfl, rfl⟩
  go_wp2_with fail
  refine (jreb_nil _ _ _ _).mono ?_
  rintro e w2 ⟨rfl, rfl⟩
  go_wp2_with fail
  refine (jlen_nil _).mono ?_
  rintro e w2 ⟨rfl, rfl⟩
  go_wp2
  go_ret
  exact ⟨by simp, HB.out⟩

/-- Behind a crash that tears no sector the disk is one that the invariant bears. -/
theorem JInv.crashed {g : Nat} {nb : List Nat} {rs xs bs : List (List Nat)} {S F : Nat → List Nat} {L : Nat → Option (List Nat)} (h : JInv g nb rs xs bs S L) (hF : ∀ f, f < 192 → Val S L f (F f)) : JInv g nb rs xs bs F (fun _ => none) := by
  have hS : ∀ f, f < 192 → L f = none → F f = S f := by
    intro f hf hn
    rcases hF f hf with h | h
    · exact h
    · rw [hn] at h; cases h
  have few := h.few
  have hv : ∀ f y, f < 192 → Val F (fun _ => none) f y → Val S L f y := fun f y hf hy => by
    rw [hy.sure]
    exact hF f hf
  refine { h with
    logd := fun f hf => ⟨by rw [hS f (by omega) (h.logd f hf).2]; exact (h.logd f hf).1, rfl⟩
    next := fun y hy hn => h.next y (hv _ y (by omega) hy) hn
    behind := fun f y h1 h2 hy => h.behind f y h1 h2 (hv f y (by omega) hy)
    fresh := fun f y g' hf hy => h.fresh f y g' hf (hv f y (by omega) hy)
    own := ?_
    other := fun y hy => h.other y (hv _ y (by omega) hy) }
  rcases h.own with ⟨h1, h2, h3, h4⟩ | ⟨h1, h2, h3, h4, h5⟩
  · exact .inl ⟨h1, h2, by rw [hS 64 (by omega) h4]; exact h3, rfl⟩
  · refine .inr ⟨h1, h2, by rw [hS _ (by omega) (h5 _ (by omega) (by omega))]; exact h3, ?_, fun _ _ _ => rfl⟩
    rw [sloA_congr (F' := S) (fun f k1 k2 => hS f (by omega) (h5 f (by omega) (by omega)))]
    exact h4
theorem jc_crash (w wx : World) (g : Nat) (nb : List Nat) (rs : List (List Nat)) (K tn : Nat) (T : Int) (h : JDk w g nb rs wx) (hK : K < 18446744073709551616) (hT : Near64 T tn) (ht : tn = 0 ∨ tn = 64) :
    Calls Try.prog 13 #[.pointer (some ⟨w.heap.size + 2, 0, none⟩), .int .u64 (K : Int), .int .i64 T] wx fun e w' => e = .returned (.tuple #[]) ∧ JDk w g nb rs w' ∧ Turns (dk (w.heap.size + 2) w.heap.size (w.heap.size + 1)) wx w' := by
  obtain ⟨S, L, h1, h2, h3⟩ := h
  refine (dcrash_any _ _ _ _ S L _ K T tn wx h1 hK hT).mono ?_
  rintro e w' ⟨rfl, hd, ht'⟩
  exact ⟨rfl, ⟨_, _, hd, h2.crashed (h2.crash (fun f hf => (h1.long hf).1) (fun f y hy => (h1.loose_ hy).1) ht), ht'.fresh_ h3 (Nat.le_refl _) (by omega) (Nat.le_refl _) (by omega)⟩, ht'⟩

/-- A disk that fails once, in a Save. -/
theorem SavBad.once {S S' : Nat → List Nat} {L L' : Nat → Option (List Nat)} {a g z : Nat} {b : List Nat} {t' : Tr} (h : SavBad S L ⟨a, 1, false, 0, false⟩ g b z S' L' t') : z = 6 ∧ t' = Tr.none_ := by
  have one : ∀ j, (tn ⟨a, 1, false, 0, false⟩ j).ans ≠ 0 → j = a ∧ (tn ⟨a, 1, false, 0, false⟩ j).ans = 6 := by
    intro j hj
    rw [ans_once] at hj ⊢
    by_cases e : j = a
    · exact ⟨e, by rw [if_pos e]⟩
    · rw [if_neg e] at hj; exact absurd rfl hj
  rcases h with ⟨k, _, _, h1, h2, _, _, h3⟩ | ⟨_, ⟨h1, h2, _, _, h3⟩ | ⟨_, h1, h2, _, _, h3⟩⟩
  · obtain ⟨e1, e2⟩ := one _ h1
    exact ⟨by rw [h2, e2], by rw [h3, e1, once_done]⟩
  · obtain ⟨e1, e2⟩ := one _ h1
    exact ⟨by rw [h2, e2], by rw [h3, show nsec b + 2 = a + 1 by omega, once_done]⟩
  · obtain ⟨e1, e2⟩ := one _ h1
    exact ⟨by rw [h2, e2], by rw [h3, show nsec b + 3 = a + 1 by omega, once_done]⟩
theorem SavGood.once {S S' : Nat → List Nat} {L L' : Nat → Option (List Nat)} {a g : Nat} {b : List Nat} {t' : Tr} (h : SavGood S L ⟨a, 1, false, 0, false⟩ g b S' L' t') (ha : a < 3) : False := by
  have h1 := h.1 a (by omega)
  rw [ans_once, if_pos rfl] at h1
  omega

/-- A journal whose Rebase was cut off. -/
def JCut (w : World) (gJ : Nat) (a b : List Nat) (wx : World) : Prop :=
  ∃ S L, Jnl wx gJ (w.heap.size + 2) w.heap.size (w.heap.size + 1) S L Tr.none_ 0 1 true ∧ JInv 0 [] [a] [] [b] S L ∧ Below w.heap.size w wx ∧ w.heap.size ≤ gJ
/-- What the Rebase leaves that is cut off. -/
def JCutPost (w wx : World) (gJ : Nat) (a b : List Nat) (e : Ending) (w' : World) : Prop :=
  e = .returned (.int .i64 6) ∧ JCut w gJ a b w' ∧ Turns (jk gJ (w.heap.size + 2) w.heap.size (w.heap.size + 1)) wx w'
theorem jc_cut (w wx : World) (gJ x : Nat) (S : Nat → List Nat) (L : Nat → Option (List Nat)) (a b : List Nat) (v : Value) (h1 : Jnl wx gJ (w.heap.size + 2) w.heap.size (w.heap.size + 1) S L ⟨x, 1, false, 0, false⟩ 0 1 false) (h2 : JInv 0 [] [a] [] [] S L) (h3 : Below w.heap.size w wx) (h4 : w.heap.size ≤ gJ)
    (hx : Stay (w.heap.size + 2) w.heap.size (w.heap.size + 1) wx v b) (hl : b.length ≤ 960) (ha : x < 3) :
    Calls Try.prog 10 #[.pointer (some ⟨gJ, 0, none⟩), v] wx (JCutPost w wx gJ a b) := by
  refine (jreb_any gJ _ _ _ 0 1 S L _ false v b wx h1 hx (by omega)).mono ?_
  rintro e w' ⟨z, S', L', t', g', n', br', rfl, hj, ht, hc⟩
  rcases hc with ⟨c1, _⟩ | ⟨_, c1, rfl, rfl, rfl, c2⟩ | ⟨_, rfl, rfl, rfl, rfl, c2⟩
  · omega
  · obtain ⟨rfl, rfl⟩ := c2.once
    exact ⟨rfl, ⟨S', L', hj, h2.bad hl c2, h3.trans ((ht.below (jk_lo h4) h3.size)), h4⟩, ht⟩
  · exact (c2.once ha).elim
/-- An Append behind it. -/
theorem jc_full (w wx : World) (gJ : Nat) (a b : List Nat) (v : Value) (c : List Nat) (B : Nat) (h : JCut w gJ a b wx) (hx : Bts wx B v c) (hB : B ≤ wx.heap.size) (hl : c.length ≤ 50) :
    Calls Try.prog 11 #[.pointer (some ⟨gJ, 0, none⟩), v] wx fun e w' => e = .returned (.int .i64 4) ∧ JCut w gJ a b w' ∧ Turns (jk gJ (w.heap.size + 2) w.heap.size (w.heap.size + 1)) wx w' := by
  obtain ⟨S, L, h1, h2, h3, h4⟩ := h
  refine (japp_any gJ _ _ _ 0 1 S L _ true v c B wx h1 hx hB (by omega) (by omega)).mono ?_
  rintro e w' ⟨z, S', L', t', n', rfl, hj, ht, hc⟩
  rcases hc with ⟨c1, _⟩ | ⟨_, _, rfl, rfl, rfl, rfl, rfl⟩ | ⟨_, c1, _⟩
  · omega
  · exact ⟨rfl, ⟨S', L', hj, h2, h3.trans ((ht.below (jk_lo h4) h3.size)), h4⟩, ht⟩
  · cases c1
/-- A Rebase behind it. -/
theorem jc_mend (w wx : World) (gJ : Nat) (a b : List Nat) (v : Value) (c : List Nat) (h : JCut w gJ a b wx) (hx : Stay (w.heap.size + 2) w.heap.size (w.heap.size + 1) wx v c) (hl : c.length ≤ 960) :
    Calls Try.prog 10 #[.pointer (some ⟨gJ, 0, none⟩), v] wx (JCApp w wx gJ 1 c []) := by
  obtain ⟨S, L, h1, h2, h3, h4⟩ := h
  refine (jreb_any gJ _ _ _ 0 1 S L _ true v c wx h1 hx (by omega)).mono ?_
  rintro e w' ⟨z, S', L', t', g', n', br', rfl, hj, ht, hc⟩
  rcases hc with ⟨c1, _⟩ | ⟨_, c1, _, _, _, c2⟩ | ⟨_, rfl, rfl, rfl, rfl, c2⟩
  · omega
  · exfalso
    rcases c2 with ⟨k, _, _, c3, _⟩ | ⟨_, ⟨c3, _⟩ | ⟨_, c3, _⟩⟩
    · rw [tn_none] at c3; exact absurd none_ans c3
    · rw [tn_none] at c3; exact absurd none_ans c3
    · rw [tn_none] at c3; exact absurd none_ans c3
  · have htt : t' = Tr.none_ := by rw [c2.2.2.2, tn_none]
    subst htt
    exact ⟨rfl, ⟨S', L', hj, h2.good hl (by omega) c2, h3.trans ((ht.below (jk_lo h4) h3.size)), h4⟩, ht⟩
end Go.Proofs.Ytckabekimdcdcaa

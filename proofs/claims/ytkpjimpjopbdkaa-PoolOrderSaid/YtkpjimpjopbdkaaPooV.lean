/-
  PoolOrder answers true for any number and either way.
  Conditions: none beside the pool's contracts.
-/
import Derived.Test.YtkpjimpjopbdkaaPooU
namespace Go.Proofs.Ytkpjimpjopbdkaa
open Go.RowKit
set_option linter.unusedVariables false
attribute [local irreducible] ps0 badU spanU

/-- Sections 0 (Movable) and 1 (Normal) are on line; of the frames from b on i are used. -/
structure IsO (p : PS) (b i : Nat) : Prop where
  ul : p.u.length = 1024
  il : p.i.length = 32
  u : ∀ f, f < 1024 → p.u.getD f 0 = if (b ≤ f ∧ f < b + i) ∧ f < 64 then 3 else if f < 64 then 1 else 0
  z : ∀ t, p.z.getD t 0 = if t = 0 then 3 else if t = 1 then 2 else 0
  i0 : p.i.getD 0 false = false
  i1 : p.i.getD 1 false = false
theorem IsS.on0 {p p' : PS} {b e : Nat} (h : IsS p 1 2 0 0) (ho : onP p 0 3 [] = (e, p')) : e = 0 ∧ IsO p' b 0 := by
  have hon := onP_new (p := p) (s := 0) (z := 3) (bs := []) (by omega) (.inr rfl) (by rw [h.z, if_neg (by omega)])
  have hon2 : onP p 0 3 [] = (0, ⟨badU 0 (spanU freshG p.u (32 * 0) (32 * 0 + 32)) [], p.z.set 0 3, p.i.set 0 false⟩) := hon
  rw [hon2] at ho
  injection ho with h4 h5
  subst h4 h5
  refine ⟨rfl, ⟨by show (badU 0 (spanU freshG p.u (32 * 0) (32 * 0 + 32)) []).length = 1024; rw [badU_length, spanU_length, h.ul], by show (p.i.set 0 false).length = 32; rw [List.length_set, h.il], fun f hf => ?_, fun t => ?_, ?_, ?_⟩⟩
  · have e := on_clean (p := p) (s := 0) h.ul hf
    rw [h.u f hf, if_neg (by omega : ¬ (32 * 1 + 0 ≤ f ∧ f < 32 * 1 + 0))] at e
    refine e.trans ?_
    rw [if_neg (by omega : ¬ ((b ≤ f ∧ f < b + 0) ∧ f < 64))]
    by_cases c : f < 32
    · rw [if_pos (by omega), if_pos (by omega : f < 64), if_neg (by omega : ¬ (32 * 1 ≤ f ∧ f < 32 * 1 + 32))]
      unfold freshG
      rw [if_neg (by omega)]
    · rw [if_neg (by omega)]
      by_cases c2 : f < 64
      · rw [if_pos (by omega), if_pos c2]
      · rw [if_neg (by omega), if_neg c2]
  · show (p.z.set 0 3).getD t 0 = _
    by_cases c : t = 0
    · subst c
      rw [if_pos rfl, getD_set_same _ _ _ _ (by rw [h.zl]; omega)]
    · rw [if_neg c, getD_set_ne _ _ _ _ _ c, h.z]
  · show (p.i.set 0 false).getD 0 false = false
    rw [getD_set_same _ _ _ _ (by rw [h.il]; omega)]
  · show (p.i.set 0 false).getD 1 false = false
    rw [getD_set_ne _ _ _ _ _ (by omega), h.i]
theorem IsO.run3 {p : PS} {b i f : Nat} (h : IsO p b i) : RunF p 3 (2 ^ 0) f ↔ f < 32 ∧ ¬ (b ≤ f ∧ f < b + i) := by
  constructor
  · rintro ⟨_, hf, hz, hii, hk⟩
    rw [h.z] at hz
    have hs : f / 32 = 0 := by
      by_cases c : f / 32 = 0
      · exact c
      · rw [if_neg c] at hz
        split at hz <;> omega
    have := hk f (Nat.le_refl _) (by show f < f + 1; omega)
    rw [h.u f hf] at this
    refine ⟨by omega, fun c => ?_⟩
    rw [if_pos ⟨c, by omega⟩] at this
    omega
  · rintro ⟨h1, h3⟩
    have hs : f / 32 = 0 := by omega
    refine ⟨Nat.mod_one f, by omega, by rw [hs, h.z]; rfl, by rw [hs, h.i0], fun k k1 k2 => ?_⟩
    obtain rfl : k = f := by have : k < f + 1 := k2; omega
    rw [h.u k (by omega), if_neg (by omega), if_pos (by omega)]
theorem IsO.run2 {p : PS} {b i f : Nat} (h : IsO p b i) : RunF p 2 (2 ^ 0) f ↔ 32 ≤ f ∧ f < 64 ∧ ¬ (b ≤ f ∧ f < b + i) := by
  constructor
  · rintro ⟨_, hf, hz, hii, hk⟩
    rw [h.z] at hz
    have hs : f / 32 = 1 := by
      by_cases c : f / 32 = 0
      · rw [if_pos c] at hz; omega
      · rw [if_neg c] at hz
        by_cases c1 : f / 32 = 1
        · exact c1
        · rw [if_neg c1] at hz; omega
    have := hk f (Nat.le_refl _) (by show f < f + 1; omega)
    rw [h.u f hf] at this
    refine ⟨by omega, by omega, fun c => ?_⟩
    rw [if_pos ⟨c, by omega⟩] at this
    omega
  · rintro ⟨h1, h2, h3⟩
    have hs : f / 32 = 1 := by omega
    refine ⟨Nat.mod_one f, by omega, by rw [hs, h.z]; rfl, by rw [hs, h.i1], fun k k1 k2 => ?_⟩
    obtain rfl : k = f := by have : k < f + 1 := k2; omega
    rw [h.u k (by omega), if_neg (by omega), if_pos (by omega)]
theorem IsO.took {p : PS} {b i : Nat} (h : IsO p b i) (hi : b + i < 64) : IsO ⟨spanU (fun _ => 3) p.u (b + i) (b + i + 2 ^ 0), p.z, p.i⟩ b (i + 1) := by
  refine ⟨by show (spanU (fun _ => 3) p.u (b + i) (b + i + 1)).length = 1024; rw [spanU_length]; exact h.ul, h.il, fun f hf => ?_, h.z, h.i0, h.i1⟩
  show (spanU (fun _ => 3) p.u (b + i) (b + i + 1)).getD f 0 = _
  rw [spanU_getD _ _ _ _ _ (by rw [h.ul]; exact hf), h.u f hf]
  by_cases c : f = b + i
  · rw [if_pos (by omega), if_pos (by omega)]
  · rw [if_neg (by omega)]
    by_cases c2 : (b ≤ f ∧ f < b + i) ∧ f < 64
    · rw [if_pos c2, if_pos (show (b ≤ f ∧ f < b + (i + 1)) ∧ f < 64 by omega)]
    · rw [if_neg c2, if_neg (show ¬ ((b ≤ f ∧ f < b + (i + 1)) ∧ f < 64) by omega)]
theorem IsO.past {p : PS} {b i : Nat} (h : IsO p b i) (hi : 64 ≤ b + i) : IsO p b (i + 1) := ⟨h.ul, h.il, fun f hf => by
  rw [h.u f hf]
  by_cases c2 : (b ≤ f ∧ f < b + i) ∧ f < 64
  · rw [if_pos c2, if_pos (show (b ≤ f ∧ f < b + (i + 1)) ∧ f < 64 by omega)]
  · rw [if_neg c2, if_neg (show ¬ ((b ≤ f ∧ f < b + (i + 1)) ∧ f < 64) by omega)], h.z, h.i0, h.i1⟩
/-- Where movable frames are asked for, the Movable section comes first. -/
theorem IsO.mov {p p' : PS} {i f e : Nat} (h : IsO p 0 i) (ha : AllocIs p 3 0 true f e p') : (f = if i < 64 then i else 0) ∧ (e = if i < 64 then 0 else 4) ∧ IsO p' 0 (i + 1) := by
  by_cases c1 : i < 32
  · obtain ⟨rfl, rfl, rfl⟩ := ha.uniq (allocIs_3 (u := 3) (o := 0) (f := 0 + i) (by omega) (by omega) (h.run3.2 ⟨by omega, by omega⟩) fun x hx hr => by
      have := h.run3.1 hr
      omega)
    exact ⟨by rw [if_pos (by omega)]; omega, by rw [if_pos (by omega)], h.took (by omega)⟩
  · by_cases c2 : i < 64
    · obtain ⟨rfl, rfl, rfl⟩ := ha.uniq (allocIs_2 (u := 3) (o := 0) (f := 0 + i) (m := true) (by omega) (by omega) (fun _ x hx => by have := h.run3.1 hx; omega) (h.run2.2 ⟨by omega, by omega, by omega⟩) fun x hx hr => by
        have := h.run2.1 hr
        omega)
      exact ⟨by rw [if_pos c2]; omega, by rw [if_pos c2], h.took (by omega)⟩
    · obtain ⟨rfl, rfl, rfl⟩ := ha.uniq (allocIs_full (u := 3) (o := 0) (m := true) (by omega) (by omega) (fun _ x hx => by have := h.run3.1 hx; omega) (fun x hx => by have := h.run2.1 hx; omega))
      exact ⟨by rw [if_neg c2], by rw [if_neg c2], h.past (by omega)⟩
theorem IsO.nor {p p' : PS} {i f e : Nat} (h : IsO p 32 i) (ha : AllocIs p 3 0 false f e p') : (f = if i < 32 then 32 + i else 0) ∧ (e = if i < 32 then 0 else 4) ∧ IsO p' 32 (i + 1) := by
  by_cases c2 : i < 32
  · obtain ⟨rfl, rfl, rfl⟩ := ha.uniq (allocIs_2 (u := 3) (o := 0) (f := 32 + i) (m := false) (by omega) (by omega) (fun h => (by cases h)) (h.run2.2 ⟨by omega, by omega, by omega⟩) fun x hx hr => by
      have := h.run2.1 hr
      omega)
    exact ⟨by rw [if_pos c2], by rw [if_pos c2], h.took (by omega)⟩
  · obtain ⟨rfl, rfl, rfl⟩ := ha.uniq (allocIs_full (u := 3) (o := 0) (m := false) (by omega) (by omega) (fun h => (by cases h)) (fun x hx => by have := h.run2.1 hx; omega))
    exact ⟨by rw [if_neg c2], by rw [if_neg c2], h.past (by omega)⟩

set_option maxRecDepth 20000 in
set_option maxHeartbeats 3200000 in
theorem poolOrder_any (n : Nat) (m : Bool) (w : World) (hn : n < 256) :
    Calls Try.prog 7 #[.int .u8 (n : Int), .bool m] w fun e w' => e = .returned (.bool true) ∧ Below w.heap.size w w' := by
  obtain ⟨k, hk⟩ : ∃ k, k = n % 80 := ⟨_, rfl⟩
  have r2 : (n : Int).tmod 80 = (k : Int) := by rw [Int.tmod_eq_emod_of_nonneg (by omega)]; omega
  have r2' : (n : Int) % 80 = (k : Int) := by omega
  have hk4 : k < 80 := by omega
  obtain ⟨b, hb⟩ : ∃ b : Nat, b = if m then 0 else 32 := ⟨_, rfl⟩
  have HB := Lib.hid hb
  clear hk hb
  go_enter Try.func7, Try.ntmps7
  go_wp2_with fail
  refine (st_new (w0 := w) (Q := Is0) is0_new w (Below.refl _ _)).mono ?_
  rintro e w1 ⟨gS, rfl, h1⟩
  have H1 := Lib.hid h1
  clear h1
  go_wp2_with fail
  refine (st_online (R := fun p => IsS p 1 2 0 0) 0 1 2 H1.out (fun p hp => by
    obtain ⟨⟨er, p'⟩, h⟩ : ∃ r, onP p 1 2 [] = r := ⟨_, rfl⟩
    obtain ⟨rfl, h2⟩ := hp.on (s := 1) (z := 2) (by omega) (.inl rfl) h
    exact ⟨p', h, h2⟩)).mono ?_
  rintro e w2 ⟨rfl, h2⟩
  have H2 := Lib.hid h2
  clear h2
  go_wp2_with fail
  refine (st_online (R := fun p => IsO p b 0) 0 0 3 H2.out (fun p hp => by
    obtain ⟨⟨er, p'⟩, h⟩ : ∃ r, onP p 0 3 [] = r := ⟨_, rfl⟩
    obtain ⟨rfl, h2⟩ := hp.on0 (b := b) h
    exact ⟨p', h, h2⟩)).mono ?_
  rintro e w3 ⟨rfl, h3⟩
  have H3 := Lib.hid h3
  clear h3
  go_wp2_with fail
  go_loopg [7] k (fun gg s7 wx => ∃ i : Nat, i + gg = k ∧ s7 = .int .i64 (i : Int) ∧ St w wx gS (fun p => IsO p b i))
  case atStart => exact ⟨0, by omega, rfl, H3.out⟩
  case round =>
    obtain ⟨i, hig, rfl, h4⟩ := hrel
    have H4 := Lib.hid h4
    clear h4
    by_cases hlt : i < k
    · have t1 : decide ((i : Int) < (k : Int)) = true := decide_eq_true (by omega)
      cases m with
      | true =>
        obtain rfl : b = 0 := HB.out
        go_wp2_with fail
        refine (st_alloc (V := fun f er p => ((f = if i < 64 then i else 0) ∧ (er = if i < 64 then 0 else 4)) ∧ IsO p 0 (i + 1)) 3 0 true H4.out (fun p f er p' hp ha => ⟨⟨(hp.mov ha).1, (hp.mov ha).2.1⟩, (hp.mov ha).2.2⟩)).mono ?_
        rintro e w5 ⟨f, er, rfl, h5⟩
        obtain ⟨⟨e1, e2⟩, h6⟩ := h5.and_
        have H6 := Lib.hid h6
        clear h5 h6
        by_cases c : i < 64
        · rw [if_pos c] at e1 e2
          subst e1 e2
          have t2 : decide (64 ≤ (f : Int)) = false := decide_eq_false (by omega)
          clear c
          go_wp2_with fail
          go_roundg (k - (f + 1))
          case measure => omega
          case rel => exact ⟨f + 1, by omega, by go_num, H6.out⟩
        · rw [if_neg c] at e1 e2
          subst e1 e2
          have t2 : decide (64 ≤ (i : Int)) = true := decide_eq_true (by omega)
          clear c
          go_wp2_with fail
          go_roundg (k - (i + 1))
          case measure => omega
          case rel => exact ⟨i + 1, by omega, by go_num, H6.out⟩
      | false =>
        obtain rfl : b = 32 := HB.out
        go_wp2_with fail
        refine (st_alloc (V := fun f er p => ((f = if i < 32 then 32 + i else 0) ∧ (er = if i < 32 then 0 else 4)) ∧ IsO p 32 (i + 1)) 3 0 false H4.out (fun p f er p' hp ha => ⟨⟨(hp.nor ha).1, (hp.nor ha).2.1⟩, (hp.nor ha).2.2⟩)).mono ?_
        rintro e w5 ⟨f, er, rfl, h5⟩
        obtain ⟨⟨e1, e2⟩, h6⟩ := h5.and_
        have H6 := Lib.hid h6
        clear h5 h6
        by_cases c : i < 32
        · rw [if_pos c] at e1 e2
          subst e2
          have t2 : decide (32 ≤ (i : Int)) = false := decide_eq_false (by omega)
          have t3 : decide (64 ≤ (i : Int)) = false := decide_eq_false (by omega)
          have t4 : (32 : Int) + (i : Int) = (f : Int) := by omega
          clear c e1
          go_wp2_with fail
          go_roundg (k - (i + 1))
          case measure => omega
          case rel => exact ⟨i + 1, by omega, by go_num, H6.out⟩
        · rw [if_neg c] at e1 e2
          subst e1 e2
          have t2 : decide (32 ≤ (i : Int)) = true := decide_eq_true (by omega)
          clear c
          go_wp2_with fail
          go_roundg (k - (i + 1))
          case measure => omega
          case rel => exact ⟨i + 1, by omega, by go_num, H6.out⟩
    · obtain rfl : i = k := by omega
      have t1 : decide ((i : Int) < (i : Int)) = false := decide_eq_false (by omega)
      go_wp2_with fail
      refine (poolAnswers_any wr).mono ?_
      rintro e w11 ⟨rfl, hb11⟩
      have H11 := Lib.hid (H4.out.fresh hb11)
      clear hb11
      go_wp2
      go_ret
      exact ⟨rfl, H11.out.bel⟩
end Go.Proofs.Ytkpjimpjopbdkaa

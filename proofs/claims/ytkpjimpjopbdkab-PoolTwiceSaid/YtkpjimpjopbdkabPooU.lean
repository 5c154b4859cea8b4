/-
  A pool that a statement holds, of which a thing is known: its calls; PoolTwice's walk.
  Conditions: none beside the pool's contracts.
-/
import Derived.Test.YtkpjimpjopbdkabPooT
namespace Go.Proofs.Ytkpjimpjopbdkab
open Go.RowKit
set_option linter.unusedVariables false
attribute [local irreducible] ps0 badU spanU

/-- The pool in block gS was made since w0, and Q holds of it. -/
def St (w0 w : World) (gS : Nat) (Q : PS → Prop) : Prop := ∃ K p, PoolMem w gS K p ∧ Q p ∧ (∀ k, K k → w0.heap.size ≤ k) ∧ Below w0.heap.size w0 w
section
variable {w0 w w' : World} {gS : Nat} {Q R : PS → Prop}
theorem St.bel (h : St w0 w gS Q) : Below w0.heap.size w0 w := by obtain ⟨_, _, _, _, _, hb⟩ := h; exact hb
theorem St.fresh (h : St w0 w gS Q) (hb : Below w.heap.size w w') : St w0 w' gS Q := by
  obtain ⟨K, p, hm, hq, hk, hB⟩ := h
  exact ⟨K, p, hm.fresh hb, hq, hk, hB.trans (hb.mono hB.size)⟩
theorem St.post {K : Nat → Prop} {v : Value} {p' : PS} {e : Ending} (hk : ∀ k, K k → w0.heap.size ≤ k) (hB : Below w0.heap.size w0 w) (h : PoolPost w gS K v p' e w') (hr : R p') : e = .returned v ∧ St w0 w' gS R := by
  obtain ⟨K', rfl, hm, hk', ht⟩ := h
  exact ⟨rfl, K', p', hm, hr, fun k hk2 => (hk' k hk2).elim (hk k) (fun h => Nat.le_trans hB.size h), hB.trans (ht.below hk hB.size)⟩
theorem st_new (hq : Q ps0) (w : World) (hb : Below w0.heap.size w0 w) :
    Calls Try.prog 5 #[] w fun e w' => ∃ gS, e = .returned (.pointer (some ⟨gS, 0, none⟩)) ∧ St w0 w' gS Q := by
  refine (pool_new w).mono ?_
  rintro e w1 ⟨gS, K, rfl, hm, hk, hb1⟩
  exact ⟨gS, rfl, K, ps0, hm, hq, fun k h => Nat.le_trans hb.size (hk k h), hb.trans (hb1.mono hb.size)⟩
theorem st_online (er : Nat) (s z : Int) (h : St w0 w gS Q) (hq : ∀ p, Q p → ∃ p', onP p s z [] = (er, p') ∧ R p') :
    Calls Try.prog 6 #[.pointer (some ⟨gS, 0, none⟩), .int .i64 s, .int .i64 z, .slice none 0 0] w fun e w' => e = .returned (.int .i64 (er : Int)) ∧ St w0 w' gS R := by
  obtain ⟨K, p, hm, hp, hk, hB⟩ := h
  obtain ⟨p', e1, hr⟩ := hq p hp
  refine (pool_online gS K p s z (.slice none 0 0) [] w hm (Its.nil_ _ _) (fun b o s n c e => (by injection e with e; cases e))).mono ?_
  intro e w' hpost
  rw [e1] at hpost
  exact St.post hk hB hpost hr
theorem st_offline (er : Nat) (s : Int) (h : St w0 w gS Q) (hq : ∀ p, Q p → ∃ p', offP p s = (er, p') ∧ R p') :
    Calls Try.prog 11 #[.pointer (some ⟨gS, 0, none⟩), .int .i64 s] w fun e w' => e = .returned (.int .i64 (er : Int)) ∧ St w0 w' gS R := by
  obtain ⟨K, p, hm, hp, hk, hB⟩ := h
  obtain ⟨p', e1, hr⟩ := hq p hp
  refine (pool_offline gS K p s w hm).mono ?_
  intro e w' hpost
  rw [e1] at hpost
  exact St.post hk hB hpost hr
theorem st_alloc (use o : Int) (m : Bool) {V : Nat → Nat → PS → Prop} (h : St w0 w gS Q) (hq : ∀ p f er p', Q p → AllocIs p use o m f er p' → V f er p') :
    Calls Try.prog 7 #[.pointer (some ⟨gS, 0, none⟩), .int .i64 use, .int .i64 o, .bool m] w fun e w' => ∃ f er : Nat, e = .returned (.tuple #[.int .i64 (f : Int), .int .i64 (er : Int)]) ∧ St w0 w' gS (V f er) := by
  obtain ⟨K, p, hm, hp, hk, hB⟩ := h
  refine (pool_alloc gS K p use o m w hm).mono ?_
  rintro e w' ⟨f, er, p', ha, hpost⟩
  exact ⟨f, er, St.post hk hB hpost (hq p f er p' hp ha)⟩
theorem st_free (f : Int) {V : Bool → PS → Prop} (h : St w0 w gS Q) (hq : ∀ p, Q p → V (freeP p f).1 (freeP p f).2) :
    Calls Try.prog 9 #[.pointer (some ⟨gS, 0, none⟩), .int .i64 f] w fun e w' => ∃ b : Bool, e = .returned (.bool b) ∧ St w0 w' gS (V b) := by
  obtain ⟨K, p, hm, hp, hk, hB⟩ := h
  refine (pool_free gS K p f w hm).mono ?_
  intro e w' hpost
  exact ⟨_, St.post hk hB hpost (hq p hp)⟩
theorem st_spoil (f : Int) {V : Bool → PS → Prop} (h : St w0 w gS Q) (hq : ∀ p, Q p → V (spoilP p f).1 (spoilP p f).2) :
    Calls Try.prog 16 #[.pointer (some ⟨gS, 0, none⟩), .int .i64 f] w fun e w' => ∃ b : Bool, e = .returned (.bool b) ∧ St w0 w' gS (V b) := by
  obtain ⟨K, p, hm, hp, hk, hB⟩ := h
  refine (pool_spoil gS K p f w hm).mono ?_
  intro e w' hpost
  exact ⟨_, St.post hk hB hpost (hq p hp)⟩
theorem st_isolate (s : Int) (b : Bool) {V : Bool → PS → Prop} (h : St w0 w gS Q) (hq : ∀ p, Q p → V (isoP p s b).1 (isoP p s b).2) :
    Calls Try.prog 8 #[.pointer (some ⟨gS, 0, none⟩), .int .i64 s, .bool b] w fun e w' => ∃ b : Bool, e = .returned (.bool b) ∧ St w0 w' gS (V b) := by
  obtain ⟨K, p, hm, hp, hk, hB⟩ := h
  refine (pool_isolate gS K p s b w hm).mono ?_
  intro e w' hpost
  exact ⟨_, St.post hk hB hpost (hq p hp)⟩
theorem st_zone (z : Nat) (s : Int) (h : St w0 w gS Q) (hq : ∀ p, Q p → zoneP p s = z) :
    Calls Try.prog 12 #[.pointer (some ⟨gS, 0, none⟩), .int .i64 s] w fun e w' => e = .returned (.int .i64 (z : Int)) ∧ St w0 w' gS Q := by
  have h' := h
  obtain ⟨K, p, hm, hp, hk, hB⟩ := h
  refine (pool_zone gS K p s w hm).mono ?_
  rintro e w' ⟨rfl, hb⟩
  rw [hq p hp]
  exact ⟨rfl, h'.fresh hb⟩
theorem st_use (f : Int) {V : Nat → PS → Prop} (h : St w0 w gS Q) (hq : ∀ p, Q p → V (useP p f) p) :
    Calls Try.prog 21 #[.pointer (some ⟨gS, 0, none⟩), .int .i64 f] w fun e w' => ∃ y : Nat, e = .returned (.int .i64 (y : Int)) ∧ St w0 w' gS (V y) := by
  obtain ⟨K, p, hm, hp, hk, hB⟩ := h
  refine (pool_use gS K p f w hm).mono ?_
  rintro e w' ⟨rfl, hb⟩
  exact ⟨_, rfl, K, p, hm.fresh hb, hq p hp, hk, hB.trans (hb.mono hB.size)⟩
theorem st_count (s v : Int) {V : Nat → PS → Prop} (h : St w0 w gS Q) (hq : ∀ p, Q p → V (countP p s v) p) :
    Calls Try.prog 13 #[.pointer (some ⟨gS, 0, none⟩), .int .i64 s, .int .i64 v] w fun e w' => ∃ y : Nat, e = .returned (.int .i64 (y : Int)) ∧ St w0 w' gS (V y) := by
  obtain ⟨K, p, hm, hp, hk, hB⟩ := h
  refine (pool_count gS K p s v w hm).mono ?_
  rintro e w' ⟨rfl, hb⟩
  exact ⟨_, rfl, K, p, hm.fresh hb, hq p hp, hk, hB.trans (hb.mono hB.size)⟩
theorem St.weak (h : St w0 w gS Q) (hq : ∀ p, Q p → R p) : St w0 w gS R := by
  obtain ⟨K, p, hm, hp, hk, hB⟩ := h
  exact ⟨K, p, hm, hq p hp, hk, hB⟩
theorem St.and_ {P : Prop} (h : St w0 w gS (fun p => P ∧ Q p)) : P ∧ St w0 w gS Q := by
  obtain ⟨K, p, hm, hp, hk, hB⟩ := h
  exact ⟨hp.1, K, p, hm, hp.2, hk, hB⟩
end

set_option maxRecDepth 20000 in
set_option maxHeartbeats 3200000 in
theorem poolTwice_any (n m : Nat) (w : World) (hn : n < 256) (hm : m < 256) :
    Calls Try.prog 4 #[.int .u8 (n : Int), .int .u8 (m : Int)] w fun e w' => e = .returned (.bool true) ∧ Below w.heap.size w w' := by
  obtain ⟨s, hs⟩ : ∃ s, s = n % 32 := ⟨_, rfl⟩
  obtain ⟨k, hk⟩ : ∃ k, k = m % 5 := ⟨_, rfl⟩
  have r1 : (n : Int).tmod 32 = (s : Int) := by rw [Int.tmod_eq_emod_of_nonneg (by omega)]; omega
  have r1' : (n : Int) % 32 = (s : Int) := by omega
  have r2 : (m : Int).tmod 5 = (k : Int) := by rw [Int.tmod_eq_emod_of_nonneg (by omega)]; omega
  have r2' : (m : Int) % 5 = (k : Int) := by omega
  have hs32 : s < 32 := by omega
  have hk4 : k ≤ 4 := by omega
  clear hs hk
  go_enter Try.func4, Try.ntmps4
  go_wp2_with fail
  refine (st_new (w0 := w) (Q := Is0) is0_new w (Below.refl _ _)).mono ?_
  rintro e w1 ⟨gS, rfl, h1⟩
  have H1 := Lib.hid h1
  clear h1
  go_wp2_with fail
  refine (st_online (R := fun p => IsS p s 2 0 0) 0 (s : Int) 2 H1.out (fun p hp => by
    obtain ⟨⟨er, p'⟩, h⟩ : ∃ r, onP p (s : Int) 2 [] = r := ⟨_, rfl⟩
    obtain ⟨rfl, h2⟩ := hp.on (z := 2) hs32 (.inl rfl) h
    exact ⟨p', h, h2⟩)).mono ?_
  rintro e w2 ⟨rfl, h2⟩
  have H2 := Lib.hid h2
  clear h2
  go_wp2_with fail
  refine (st_online (R := fun p => IsS p s 2 0 0) 3 (s : Int) 3 H2.out (fun p hp => ⟨p, hp.there hs32 (by omega), hp⟩)).mono ?_
  rintro e w3 ⟨rfl, h3⟩
  have H3 := Lib.hid h3
  clear h3
  go_wp2_with fail
  go_loopg [10] k (fun gg s10 wx => ∃ i : Nat, i + gg = k ∧ s10 = .int .i64 (i : Int) ∧ St w wx gS (fun p => IsS p s 2 0 i))
  case atStart => exact ⟨0, by omega, rfl, H3.out⟩
  case round =>
    obtain ⟨i, hig, rfl, h4⟩ := hrel
    have H4 := Lib.hid h4
    clear h4
    by_cases hlt : i < k
    · have t1 : decide ((i : Int) < (k : Int)) = true := decide_eq_true (by omega)
      go_wp2_with fail
      refine (st_alloc (V := fun _ _ p => IsS p s 2 0 (i + 1)) 2 0 false H4.out (fun p f er p' hp ha => hp.take hs32 (by omega) ha)).mono ?_
      rintro e w5 ⟨f, er, rfl, h5⟩
      have H5 := Lib.hid h5
      clear h5
      go_wp2_with fail
      go_roundg (k - (i + 1))
      case measure => omega
      case rel => exact ⟨i + 1, by omega, by go_num, H5.out⟩
    · obtain rfl : i = k := by omega
      have t1 : decide ((i : Int) < (i : Int)) = false := decide_eq_false (by omega)
      by_cases hk0 : i = 0
      · subst hk0
        go_wp2_with fail
        refine (st_offline (R := Is0) 0 (s : Int) H4.out (fun p hp => by
          obtain ⟨⟨er, p'⟩, h⟩ : ∃ r, offP p (s : Int) = r := ⟨_, rfl⟩
          obtain ⟨rfl, h2⟩ := hp.off hs32 h
          exact ⟨p', h, h2⟩)).mono ?_
        rintro e w5 ⟨rfl, h5⟩
        have H5 := Lib.hid h5
        clear h5
        go_wp2_with fail
        go_loopg [12] 0 (fun gg s12 wx => s12 = .int .i64 0 ∧ St w wx gS Is0)
        case atStart => exact ⟨rfl, H5.out⟩
        case round =>
          obtain ⟨rfl, h6⟩ := hrel
          have H6 := Lib.hid h6
          clear h6
          go_wp2_with fail
          refine (st_offline (R := Is0) 2 (s : Int) H6.out (fun p hp => ⟨p, hp.off2 hs32, hp⟩)).mono ?_
          rintro e w9 ⟨rfl, h9⟩
          have H9 := Lib.hid h9
          clear h9
          go_wp2_with fail
          refine (st_online (R := fun p => IsS p s 3 0 0) 0 (s : Int) 3 H9.out (fun p hp => by
            obtain ⟨⟨er, p'⟩, h⟩ : ∃ r, onP p (s : Int) 3 [] = r := ⟨_, rfl⟩
            obtain ⟨rfl, h2⟩ := hp.on (z := 3) hs32 (.inr rfl) h
            exact ⟨p', h, h2⟩)).mono ?_
          rintro e w10 ⟨rfl, h10⟩
          have H10 := Lib.hid h10
          clear h10
          go_wp2_with fail
          refine (poolAnswers_any w10).mono ?_
          rintro e w11 ⟨rfl, hb11⟩
          have H11 := Lib.hid (H10.out.fresh hb11)
          clear hb11
          go_wp2_with fail
          refine (st_zone 3 (s : Int) H11.out (fun p hp => hp.zone hs32)).mono ?_
          rintro e w12 ⟨rfl, h12⟩
          have H12 := Lib.hid h12
          clear h12
          go_wp2_with fail
          refine (st_count (V := fun y _ => y = 32 ∧ True) (s : Int) 1 H12.out (fun p hp => ⟨hp.count hs32, trivial⟩)).mono ?_
          rintro e w13 ⟨y, rfl, h13⟩
          obtain ⟨rfl, h14⟩ := h13.and_
          have H14 := Lib.hid h14
          clear h13 h14
          go_wp2
          go_ret
          exact ⟨by simp, H14.out.bel⟩
      · have hk1 : 0 < i := by omega
        go_wp2_with fail
        refine (st_offline (R := fun p => IsS p s 2 0 i) 5 (s : Int) H4.out (fun p hp => ⟨p, hp.busy hs32 hk1 (by omega), hp⟩)).mono ?_
        rintro e w5 ⟨rfl, h5⟩
        have H5 := Lib.hid h5
        clear h5
        go_wp2_with fail
        go_loopg [12] i (fun gg s12 wx => ∃ j : Nat, j + gg = i ∧ s12 = .int .i64 (j : Int) ∧ St w wx gS (fun p => IsS p s 2 j i))
        case atStart => exact ⟨0, by omega, rfl, H5.out⟩
        case round =>
          obtain ⟨j, hjg, rfl, h6⟩ := hrel
          have H7 := Lib.hid h6
          clear h6
          by_cases hlt2 : j < i
          · have t2 : decide ((j : Int) < (i : Int)) = true := decide_eq_true (by omega)
            obtain ⟨f0, hf0⟩ : ∃ f0, f0 = 32 * s + j := ⟨_, rfl⟩
            have r3 : (32 : Int) * (s : Int) + (j : Int) = (f0 : Int) := by omega
            have HF0 := Lib.hid hf0
            clear hf0
            go_wp2_with fail
            refine (st_free (V := fun _ p => IsS p s 2 (j + 1) i) (f0 : Int) H7.out (fun p hp => by rw [HF0.out]; exact hp.free_ hs32 hlt2 (by omega))).mono ?_
            rintro e w8 ⟨b, rfl, h8⟩
            have H8 := Lib.hid h8
            clear h8
            go_wp2_with fail
            go_roundg (i - (j + 1))
            case measure => omega
            case rel => exact ⟨j + 1, by omega, by go_num, H8.out⟩
          · obtain rfl : j = i := by omega
            have t2 : decide ((j : Int) < (j : Int)) = false := decide_eq_false (by omega)
            have t3 : decide ((0 : Int) < (j : Int)) = true := decide_eq_true (by omega)
            go_wp2_with fail
            refine (st_offline (R := Is0) 0 (s : Int) H7.out (fun p hp => by
              obtain ⟨⟨er, p'⟩, h⟩ : ∃ r, offP p (s : Int) = r := ⟨_, rfl⟩
              obtain ⟨rfl, h2⟩ := hp.off hs32 h
              exact ⟨p', h, h2⟩)).mono ?_
            rintro e w6 ⟨rfl, h6⟩
            have H6 := Lib.hid h6
            clear h6
            go_wp2_with fail
            refine (st_offline (R := Is0) 2 (s : Int) H6.out (fun p hp => ⟨p, hp.off2 hs32, hp⟩)).mono ?_
            rintro e w9 ⟨rfl, h9⟩
            have H9 := Lib.hid h9
            clear h9
            go_wp2_with fail
            refine (st_online (R := fun p => IsS p s 3 0 0) 0 (s : Int) 3 H9.out (fun p hp => by
              obtain ⟨⟨er, p'⟩, h⟩ : ∃ r, onP p (s : Int) 3 [] = r := ⟨_, rfl⟩
              obtain ⟨rfl, h2⟩ := hp.on (z := 3) hs32 (.inr rfl) h
              exact ⟨p', h, h2⟩)).mono ?_
            rintro e w10 ⟨rfl, h10⟩
            have H10 := Lib.hid h10
            clear h10
            go_wp2_with fail
            refine (poolAnswers_any w10).mono ?_
            rintro e w11 ⟨rfl, hb11⟩
            have H11 := Lib.hid (H10.out.fresh hb11)
            clear hb11
            go_wp2_with fail
            refine (st_zone 3 (s : Int) H11.out (fun p hp => hp.zone hs32)).mono ?_
            rintro e w12 ⟨rfl, h12⟩
            have H12 := Lib.hid h12
            clear h12
            go_wp2_with fail
            refine (st_count (V := fun y _ => y = 32 ∧ True) (s : Int) 1 H12.out (fun p hp => ⟨hp.count hs32, trivial⟩)).mono ?_
            rintro e w13 ⟨y, rfl, h13⟩
            obtain ⟨rfl, h14⟩ := h13.and_
            have H14 := Lib.hid h14
            clear h13 h14
            go_wp2
            go_ret
            exact ⟨by simp, H14.out.bel⟩
end Go.Proofs.Ytkpjimpjopbdkab

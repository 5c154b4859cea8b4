/-
  PoolIsolated answers true for any number.
  Conditions: none beside the pool's contracts.
-/
import Derived.Test.YtkpjimpjopbdkabPooL
namespace Go.Proofs.Ytkpjimpjopbdkab
open Go.RowKit
set_option linter.unusedVariables false
attribute [local irreducible] ps0 badU

/-- Section 3 is on line, Movable; its frames from 96 + a up to 96 + i are used. -/
structure Is3 (p : PS) (a i : Nat) (iso : Bool) : Prop where
  ul : p.u.length = 1024
  il : p.i.length = 32
  u : ∀ f, f < 1024 → p.u.getD f 0 = if 96 + a ≤ f ∧ f < 96 + i then 3 else if 96 ≤ f ∧ f < 128 then 1 else 0
  z : ∀ s, p.z.getD s 0 = if s = 3 then 3 else 0
  i : p.i.getD 3 false = iso
theorem is3_new {e : Nat} {p : PS} (h : onP ps0 3 3 [] = (e, p)) : e = 0 ∧ Is3 p 0 0 false := by
  have h2 := onP_new (p := ps0) (s := 3) (z := 3) (bs := []) (by omega) (by omega) (ps0_z 3)
  have h3 : onP ps0 3 3 [] = (0, ⟨badU 3 (spanU freshG ps0.u (32 * 3) (32 * 3 + 32)) [], ps0.z.set 3 3, ps0.i.set 3 false⟩) := h2
  rw [h3] at h
  injection h with h4 h5
  subst h4 h5
  have hil : ps0.i.length = 32 := by rw [ps0]; exact List.length_replicate
  refine ⟨rfl, ⟨?_, by rw [List.length_set]; exact hil, fun f hf => ?_, fun s => ?_, ?_⟩⟩
  · rw [badU_length, spanU_length, ps0_ul]
  · have e := on_clean (p := ps0) (s := 3) ps0_ul hf
    rw [ps0_u] at e
    refine e.trans ?_
    rw [if_neg (by omega : ¬ (96 + 0 ≤ f ∧ f < 96 + 0))]
    by_cases c : 96 ≤ f ∧ f < 128
    · rw [if_pos (by omega), if_pos c]
      unfold freshG
      rw [if_neg (by omega)]
    · rw [if_neg (by omega), if_neg c]
  · show (ps0.z.set 3 3).getD s 0 = _
    by_cases c : s = 3
    · subst c
      rw [if_pos rfl, getD_set_same _ _ _ _ (by rw [ps0_ze, List.length_replicate]; omega)]
    · rw [if_neg c, getD_set_ne _ _ _ _ _ c, ps0_z]
  · show (ps0.i.set 3 false).getD 3 false = false
    rw [getD_set_same _ _ _ _ (by rw [hil]; omega)]
theorem Is3.run {p : PS} {a i f : Nat} {iso : Bool} (h : Is3 p a i iso) (hf : f < 1024) (hi : i ≤ 32) : RunF p 3 (2 ^ 0) f ↔ iso = false ∧ 96 ≤ f ∧ f < 128 ∧ ¬ (96 + a ≤ f ∧ f < 96 + i) := by
  constructor
  · rintro ⟨_, _, hz, hii, hk⟩
    rw [h.z] at hz
    have hs : f / 32 = 3 := by
      by_cases c : f / 32 = 3
      · exact c
      · rw [if_neg c] at hz; omega
    rw [hs, h.i] at hii
    have := hk f (Nat.le_refl _) (by show f < f + 1; omega)
    rw [h.u f hf] at this
    refine ⟨hii, by omega, by omega, fun c => ?_⟩
    rw [if_pos c] at this
    omega
  · rintro ⟨hi0, h1, h2, h3⟩
    have hs : f / 32 = 3 := by omega
    refine ⟨Nat.mod_one f, hf, by rw [hs, h.z]; rfl, by rw [hs, h.i]; exact hi0, fun k k1 k2 => ?_⟩
    obtain rfl : k = f := by have : k < f + 1 := k2; omega
    rw [h.u k hf, if_neg h3, if_pos ⟨h1, h2⟩]
theorem Is3.no2 {p : PS} {a i f : Nat} {iso : Bool} (h : Is3 p a i iso) : ¬ RunF p 2 (2 ^ 0) f := by
  rintro ⟨_, _, hz, _⟩
  rw [h.z] at hz
  split at hz <;> omega
/-- A frame is free: the first one is taken. -/
theorem Is3.take {p p' : PS} {i f e : Nat} (h : Is3 p 0 i false) (hi : i < 32) (ha : AllocIs p 3 0 true f e p') : e = 0 ∧ Is3 p' 0 (i + 1) false := by
  obtain ⟨rfl, rfl, rfl⟩ := ha.uniq (allocIs_3 (u := 3) (o := 0) (f := 96 + i) (by omega) (by omega) ((h.run (by omega) (by omega)).2 ⟨rfl, by omega, by omega, by omega⟩) fun x hx hr => by
    have := (h.run (by omega) (by omega)).1 hr
    omega)
  refine ⟨rfl, ⟨by show (spanU (fun _ => 3) p.u (96 + i) (96 + i + 1)).length = 1024; rw [spanU_length]; exact h.ul, h.il, fun f hf => ?_, h.z, h.i⟩⟩
  show (spanU (fun _ => 3) p.u (96 + i) (96 + i + 1)).getD f 0 = _
  rw [spanU_getD _ _ _ _ _ (by rw [h.ul]; exact hf), h.u f hf]
  by_cases c : f = 96 + i
  · rw [if_pos (by omega), if_pos (by omega)]
  · rw [if_neg (by omega)]
    by_cases c2 : 96 + 0 ≤ f ∧ f < 96 + i
    · rw [if_pos c2, if_pos (show 96 + 0 ≤ f ∧ f < 96 + (i + 1) by omega)]
    · rw [if_neg c2, if_neg (show ¬ (96 + 0 ≤ f ∧ f < 96 + (i + 1)) by omega)]
theorem Is3.iso_ {p : PS} {a i : Nat} {b c : Bool} (h : Is3 p a i b) : (isoP p 3 c).1 = true ∧ Is3 (isoP p 3 c).2 a i c := by
  have e : isoP p 3 c = (true, ⟨p.u, p.z, p.i.set 3 c⟩) := by
    have : zoneP p 3 = 3 := by rw [zoneP, if_pos ⟨by omega, by omega⟩, show (3 : Int).toNat = 3 from rfl, h.z]; rfl
    rw [isoP, if_pos (by rw [this]; omega)]
    rfl
  rw [e]
  refine ⟨rfl, ⟨h.ul, by show (p.i.set 3 c).length = 32; rw [List.length_set]; exact h.il, h.u, h.z, ?_⟩⟩
  show (p.i.set 3 c).getD 3 false = c
  rw [getD_set_same _ _ _ _ (by rw [h.il]; omega)]
theorem Is3.no4 {p : PS} {a i : Nat} {b c : Bool} (h : Is3 p a i b) : isoP p 4 c = (false, p) := by
  have : zoneP p 4 = 0 := by rw [zoneP, if_pos ⟨by omega, by omega⟩, show (4 : Int).toNat = 4 from rfl, h.z]; rfl
  rw [isoP, if_neg (by rw [this]; simp)]
theorem Is3.free_ {p : PS} {i : Nat} {b : Bool} (h : Is3 p 0 i b) (h1 : 1 ≤ i) (hi : i ≤ 32) : (freeP p 96).1 = true ∧ Is3 (freeP p 96).2 1 i b := by
  have hu : useP p 96 = 3 := by
    rw [show (96 : Int) = ((96 : Nat) : Int) from rfl, useP_in p (by omega), h.u 96 (by omega), if_pos (by omega)]
  have e : freeP p 96 = (true, ⟨p.u.set 96 1, p.z, p.i⟩) := by
    rw [freeP, if_pos (by rw [hu]; omega)]
    rfl
  rw [e]
  refine ⟨rfl, ⟨by show (p.u.set 96 1).length = 1024; rw [List.length_set]; exact h.ul, h.il, fun f hf => ?_, h.z, h.i⟩⟩
  show (p.u.set 96 1).getD f 0 = _
  by_cases c : f = 96
  · subst c
    rw [getD_set_same _ _ _ _ (by rw [h.ul]; omega), if_neg (by omega), if_pos (by omega)]
  · rw [getD_set_ne _ _ _ _ _ c, h.u f hf]
    by_cases c2 : 96 + 0 ≤ f ∧ f < 96 + i
    · rw [if_pos c2, if_pos (show 96 + 1 ≤ f ∧ f < 96 + i by omega)]
    · rw [if_neg c2, if_neg (show ¬ (96 + 1 ≤ f ∧ f < 96 + i) by omega)]
theorem Is3.full {p p' : PS} {a i f e : Nat} (h : Is3 p a i true) (hi : i ≤ 32) (ha : AllocIs p 3 0 true f e p') : f = 0 ∧ e = 4 ∧ p' = p :=
  ha.uniq (allocIs_full (u := 3) (o := 0) (by omega) (by omega) (fun _ x hx => by have := ((h.run hx.2.1 hi).1 hx).1; cases this) fun x hx => h.no2 hx)
theorem Is3.back {p p' : PS} {i f e : Nat} (h : Is3 p 1 i false) (hi : i ≤ 32) (ha : AllocIs p 3 0 true f e p') : f = 96 ∧ e = 0 := by
  obtain ⟨h1, h2, _⟩ := ha.uniq (allocIs_3 (u := 3) (o := 0) (f := 96) (by omega) (by omega) ((h.run (by omega) hi).2 ⟨rfl, by omega, by omega, by omega⟩) fun x hx hr => by
    have := (h.run (by omega) hi).1 hr
    omega)
  exact ⟨h1, h2⟩
theorem Is3.back4 {p p' : PS} {i f e : Nat} (h : Is3 p 1 i false) (hi : i ≤ 32) (ha : AllocIs p 3 0 true f e p') : zoneP p' 4 = 0 := by
  obtain ⟨_, _, rfl⟩ := ha.uniq (allocIs_3 (u := 3) (o := 0) (f := 96) (by omega) (by omega) ((h.run (by omega) hi).2 ⟨rfl, by omega, by omega, by omega⟩) fun x hx hr => by
    have := (h.run (by omega) hi).1 hr
    omega)
  rw [zoneP, if_pos ⟨by omega, by omega⟩, show (4 : Int).toNat = 4 from rfl]
  exact h.z 4

set_option maxRecDepth 20000 in
set_option maxHeartbeats 1600000 in
theorem poolIsolated_any (n : Nat) (w : World) (hn : n < 256) :
    Calls Try.prog 3 #[.int .u8 (n : Int)] w fun e w' => e = .returned (.bool true) ∧ Below w.heap.size w w' := by
  obtain ⟨m, hm⟩ : ∃ m, m = n % 32 := ⟨_, rfl⟩
  obtain ⟨k, hk⟩ : ∃ k, k = m + 1 := ⟨_, rfl⟩
  have r1 : (n : Int).tmod 32 = (m : Int) := by rw [Int.tmod_eq_emod_of_nonneg (by omega)]; omega
  have r1' : (n : Int) % 32 = (m : Int) := by omega
  have r2 : (m : Int) + 1 = (k : Int) := by omega
  have hm31 : m < 32 := by omega
  have hk32 : k ≤ 32 := by omega
  have hk1 : 1 ≤ k := by omega
  clear hm hk
  go_enter Try.func3, Try.ntmps3
  go_wp2_with fail
  refine (pool_new w).mono ?_
  rintro e w1 ⟨gS, K, rfl, hm1, hk1, hb1⟩
  have HM1 := Lib.hid hm1
  have HK1 := Lib.hid hk1
  have HB1 := Lib.hid hb1
  clear hm1 hk1 hb1
  go_wp2_with fail
  refine (pool_online gS K _ 3 3 (.slice none 0 0) [] w1 HM1.out (Its.nil_ _ _) (fun b o s n c e => (by injection e with e; cases e))).mono ?_
  rintro e w2 ⟨K2, rfl, hm2, hk2, ht2⟩
  obtain ⟨⟨er, p0⟩, hp0⟩ : ∃ r, onP ps0 3 3 [] = r := ⟨_, rfl⟩
  rw [hp0] at hm2
  have H0 := Lib.hid (is3_new hp0).2
  have HB2 := Lib.hid (HB1.out.trans (ht2.below HK1.out HB1.out.size))
  have HS2 := Lib.hid (show ∃ K p, PoolMem w2 gS K p ∧ Is3 p 0 0 false ∧ (∀ k, K k → w.heap.size ≤ k) ∧ Below w.heap.size w w2 from
    ⟨K2, p0, hm2, H0.out, fun k hk => (hk2 k hk).elim (HK1.out k) (fun h => Nat.le_trans HB1.out.size h), HB2.out⟩)
  clear hm2 hk2 ht2 hp0
  go_wp2_with fail
  go_loopg [5] k (fun gg s5 wx => ∃ i : Nat, i + gg = k ∧ s5 = .int .i64 (i : Int) ∧ ∃ K p, PoolMem wx gS K p ∧ Is3 p 0 i false ∧ (∀ k, K k → w.heap.size ≤ k) ∧ Below w.heap.size w wx)
  case atStart => exact ⟨0, by omega, rfl, HS2.out⟩
  case round =>
    obtain ⟨i, hig, rfl, K3, p, hm3, hi3, hk3, hb3⟩ := hrel
    have HM3 := Lib.hid hm3
    have HI3 := Lib.hid hi3
    have HK3 := Lib.hid hk3
    have HB3 := Lib.hid hb3
    clear hm3 hi3 hk3 hb3
    by_cases hlt : i < k
    · have t1 : decide ((i : Int) < (k : Int)) = true := decide_eq_true (by omega)
      go_wp2_with fail
      refine (pool_alloc gS K3 p 3 0 true wr HM3.out).mono ?_
      rintro e w4 ⟨f, er, p', ha, K4, rfl, hm4, hk4, ht4⟩
      have hi4 := (HI3.out.take (by omega) ha).2
      have HS4 := Lib.hid (show ∃ K p, PoolMem w4 gS K p ∧ Is3 p 0 (i + 1) false ∧ (∀ k, K k → w.heap.size ≤ k) ∧ Below w.heap.size w w4 from
        ⟨K4, p', hm4, hi4, fun k hk => (hk4 k hk).elim (HK3.out k) (fun h => Nat.le_trans HB3.out.size h), HB3.out.trans (ht4.below HK3.out HB3.out.size)⟩)
      clear ha hm4 hk4 ht4 hi4
      go_wp2_with fail
      go_roundg (k - (i + 1))
      case measure => omega
      case rel => exact ⟨i + 1, by omega, by go_num, HS4.out⟩
    · obtain rfl : i = k := by omega
      have t1 : decide ((i : Int) < (i : Int)) = false := decide_eq_false (by omega)
      go_wp2_with fail
      refine (pool_isolate gS K3 p 3 true wr HM3.out).mono ?_
      rintro e w4 ⟨K4, rfl, hm4, hk4, ht4⟩
      obtain ⟨e4, hi4⟩ := HI3.out.iso_ (c := true)
      rw [e4]
      obtain ⟨p4, hp4⟩ : ∃ p4, p4 = (isoP p 3 true).2 := ⟨_, rfl⟩
      rw [← hp4] at hm4 hi4
      have HM4 := Lib.hid hm4
      have HI4 := Lib.hid hi4
      have HB4 := Lib.hid (HB3.out.trans (ht4.below HK3.out HB3.out.size))
      have HK4 := Lib.hid (show ∀ k, K4 k → w.heap.size ≤ k from fun k hk => (hk4 k hk).elim (HK3.out k) (fun h => Nat.le_trans HB3.out.size h))
      clear hm4 hi4 hk4 ht4 hp4 e4
      go_wp2_with fail
      refine (pool_free gS K4 p4 96 w4 HM4.out).mono ?_
      rintro e w5 ⟨K5, rfl, hm5, hk5, ht5⟩
      obtain ⟨e5, hi5⟩ := HI4.out.free_ hk1 hk32
      rw [e5]
      obtain ⟨p5, hp5⟩ : ∃ p5, p5 = (freeP p4 96).2 := ⟨_, rfl⟩
      rw [← hp5] at hm5 hi5
      have HM5 := Lib.hid hm5
      have HI5 := Lib.hid hi5
      have HB5 := Lib.hid (HB4.out.trans (ht5.below HK4.out HB4.out.size))
      have HK5 := Lib.hid (show ∀ k, K5 k → w.heap.size ≤ k from fun k hk => (hk5 k hk).elim (HK4.out k) (fun h => Nat.le_trans HB4.out.size h))
      clear hm5 hi5 hk5 ht5 hp5 e5
      go_wp2_with fail
      refine (pool_alloc gS K5 p5 3 0 true w5 HM5.out).mono ?_
      rintro e w6 ⟨f, er, p', ha, K6, rfl, hm6, hk6, ht6⟩
      obtain ⟨rfl, rfl, rfl⟩ := HI5.out.full hk32 ha
      have HM6 := Lib.hid hm6
      have HB6 := Lib.hid (HB5.out.trans (ht6.below HK5.out HB5.out.size))
      have HK6 := Lib.hid (show ∀ k, K6 k → w.heap.size ≤ k from fun k hk => (hk6 k hk).elim (HK5.out k) (fun h => Nat.le_trans HB5.out.size h))
      clear ha hm6 hk6 ht6
      go_wp2_with fail
      refine (pool_isolate gS K6 _ 3 false w6 HM6.out).mono ?_
      rintro e w7 ⟨K7, rfl, hm7, hk7, ht7⟩
      obtain ⟨e7, hi7⟩ := HI5.out.iso_ (c := false)
      rw [e7]
      obtain ⟨p7, hp7⟩ : ∃ p7, p7 = (isoP p' 3 false).2 := ⟨_, rfl⟩
      rw [← hp7] at hm7 hi7
      have HM7 := Lib.hid hm7
      have HI7 := Lib.hid hi7
      have HB7 := Lib.hid (HB6.out.trans (ht7.below HK6.out HB6.out.size))
      have HK7 := Lib.hid (show ∀ k, K7 k → w.heap.size ≤ k from fun k hk => (hk7 k hk).elim (HK6.out k) (fun h => Nat.le_trans HB6.out.size h))
      clear hm7 hi7 hk7 ht7 hp7 e7
      go_wp2_with fail
      refine (pool_alloc gS K7 p7 3 0 true w7 HM7.out).mono ?_
      rintro e w8 ⟨f, er, p8, ha, K8, rfl, hm8, hk8, ht8⟩
      have HZ8 := Lib.hid (HI7.out.back4 hk32 ha)
      obtain ⟨rfl, rfl⟩ := HI7.out.back hk32 ha
      have HM8 := Lib.hid hm8
      have HB8 := Lib.hid (HB7.out.trans (ht8.below HK7.out HB7.out.size))
      have HK8 := Lib.hid (show ∀ k, K8 k → w.heap.size ≤ k from fun k hk => (hk8 k hk).elim (HK7.out k) (fun h => Nat.le_trans HB7.out.size h))
      clear ha hm8 hk8 ht8
      go_wp2_with fail
      refine (poolAnswers_any w8).mono ?_
      rintro e w9 ⟨rfl, hb9⟩
      have HM9 := Lib.hid (HM8.out.fresh hb9)
      have HB9 := Lib.hid (HB8.out.trans (hb9.mono HB8.out.size))
      clear hb9
      go_wp2_with fail
      refine (pool_isolate gS K8 p8 4 true w9 HM9.out).mono ?_
      rintro e w10 ⟨K10, rfl, hm10, hk10, ht10⟩
      have e10 : isoP p8 4 true = (false, p8) := by rw [isoP, if_neg (by rw [HZ8.out]; simp)]
      rw [e10]
      have HB10 := Lib.hid (HB9.out.trans (ht10.below HK8.out HB9.out.size))
      clear hm10 hk10 ht10 e10
      go_wp2
      go_ret
      exact ⟨by simp, HB10.out⟩
end Go.Proofs.Ytkpjimpjopbdkab

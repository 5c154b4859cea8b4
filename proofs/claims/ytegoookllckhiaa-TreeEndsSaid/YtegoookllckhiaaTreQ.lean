/-
  Memory and a pool side by side, with so many sections on line; how many frames are free.
  Conditions: none beside the pool's contracts.
-/
import Derived.Test.YtegoookllckhiaaPooU
import Derived.Test.YtegoookllckhiaaRam
import Derived.Test.YtegoookllckhiaaRefT
import Derived.Test.YtegoookllckhiaaTreS
import Derived.Deep.LoopGhost
namespace Go.Proofs.Ytegoookllckhiaa
open Go.RowKit
set_option linter.unusedVariables false
attribute [local irreducible] ps0 badU spanU

/-- The first sections are on line, Normal; all their frames are free. -/
structure OnN (p : PS) (n : Nat) : Prop where
  ok : PsOk p
  u : ∀ f, f < 1024 → p.u.getD f 0 = if f < 32 * n then 1 else 0
  z : ∀ s, s < 32 → p.z.getD s 0 = if s < n then 2 else 0
  i : ∀ s, s < 32 → p.i.getD s false = false
theorem OnN.zero : OnN ps0 0 := by
  refine ⟨ps0_ok, fun f _ => ?_, fun s _ => ?_, fun s hs => ?_⟩
  · rw [ps0_u, if_neg (by omega)]
  · rw [ps0_z, if_neg (by omega)]
  · have e : ps0.i = List.replicate 32 false := by rw [ps0]
    rw [e, List.getD_eq_getElem?_getD, List.getElem?_replicate]
    split <;> rfl
theorem OnN.on {p : PS} {n : Nat} (h : OnN p n) (hn : n < 32) : ∃ p', onP p (n : Int) 2 [] = (0, p') ∧ OnN p' (n + 1) := by
  have hz : p.z.getD n 0 = 0 := by rw [h.z n hn, if_neg (by omega)]
  have e := onP_new (p := p) (s := n) (z := 2) (bs := []) hn (.inl rfl) hz
  have hok := onP_ok h.ok (n : Int) ((2 : Nat) : Int) []
  rw [e] at hok
  refine ⟨_, e, hok, fun f hf => ?_, fun s hs => ?_, fun s hs => ?_⟩
  · refine (on_clean (p := p) (s := n) h.ok.u hf).trans ?_
    rw [h.u f hf]
    by_cases c : 32 * n ≤ f ∧ f < 32 * n + 32
    · rw [if_pos c, if_neg (by omega), if_pos (by omega)]
      rfl
    · rw [if_neg c]
      by_cases c2 : f < 32 * n
      · rw [if_pos c2, if_pos (by omega)]
      · rw [if_neg c2, if_neg (by omega)]
  · show (p.z.set n 2).getD s 0 = _
    by_cases c : s = n
    · subst c
      rw [getD_set_same _ _ _ _ (by rw [h.ok.z]; exact hs), if_pos (by omega)]
    · rw [getD_set_ne _ _ _ _ _ c, h.z s hs]
      by_cases c2 : s < n
      · rw [if_pos c2, if_pos (by omega)]
      · rw [if_neg c2, if_neg (by omega)]
  · show (p.i.set n false).getD s false = false
    by_cases c : s = n
    · subst c
      rw [getD_set_same _ _ _ _ (by rw [h.ok.i]; exact hs)]
    · rw [getD_set_ne _ _ _ _ _ c, h.i s hs]

theorem OnN.all {p : PS} {n : Nat} (h : OnN p n) : AllN p := by
  intro f hf h12
  have hu := h.u f hf
  by_cases c : f < 32 * n
  · exact ⟨by rw [h.z (f / 32) (by omega), if_pos (by omega)], h.i _ (by omega)⟩
  · rw [if_neg c] at hu
    omega
theorem freeU_on {u : List Nat} {n : Nat} (h : ∀ f, f < 1024 → u.getD f 0 = if f < 32 * n then 1 else 0) : ∀ k, k ≤ 32 → freeU u k = 32 * (if k < n then k else n) := by
  intro k
  induction k with
  | zero =>
    intro _
    split
    · rfl
    · show 0 = 32 * n
      omega
  | succ k ih =>
    intro hk
    show freeU u k + cntU u 1 (32 * k) 32 = _
    rw [ih (by omega)]
    by_cases c : k < n
    · rw [if_pos c, cntU_all (u := u) (v := 1) (a := 32 * k) 32 (fun j hj => by rw [h _ (by omega), if_pos (by omega)]; rfl)]
      split <;> omega
    · have h0 : ∀ m, m ≤ 32 → cntU u 1 (32 * k) m = 0 := by
        intro m
        induction m with
        | zero => intro _; rfl
        | succ m ih2 =>
          intro hm
          rw [cntU_succ, ih2 (by omega), h _ (by omega), if_neg (by omega : ¬ 32 * k + m < 32 * n)]
          rfl
      rw [if_neg c, h0 32 (by omega), if_neg (by omega)]
      omega
theorem OnN.free {p : PS} {n : Nat} (h : OnN p n) (hn : n ≤ 32) : freeU p.u 32 = 32 * n := by
  rw [freeU_on h.u 32 (by omega)]
  split <;> omega

set_option maxRecDepth 20000 in
set_option maxHeartbeats 800000 in
theorem free_any (gP : Nat) (K : Nat → Prop) (p : PS) (w : World) (h : PoolMem w gP K p) :
    Calls Try.prog 11 #[.pointer (some ⟨gP, 0, none⟩)] w fun e w' => e = .returned (.int .i64 ((freeU p.u 32 : Nat) : Int)) ∧ Below w.heap.size w w' := by
  have H := Lib.hid h
  clear h
  go_enter Try.func11, Try.ntmps11
  go_wp2_with fail
  go_loopg [3, 4] 32 (fun gg s3 s4 wx => ∃ k : Nat, k + gg = 32 ∧ s4 = .int .i64 (k : Int) ∧ s3 = .int .i64 ((freeU p.u k : Nat) : Int) ∧ Below w.heap.size w wx)
  case atStart => exact ⟨0, rfl, rfl, rfl, Below.refl _ _⟩
  case round =>
    obtain ⟨k, hkg, rfl, rfl, hb⟩ := hrel
    have HB := Lib.hid hb
    clear hb
    have FS := Lib.hid (show freeU p.u (k + 1) = freeU p.u k + cntU p.u 1 (32 * k) 32 from rfl)
    have hfl := freeU_le p.u k
    obtain ⟨q, hq⟩ : ∃ q, q = freeU p.u k := ⟨_, rfl⟩
    have HQ := Lib.hid hq
    rw [← hq] at FS hfl ⊢
    clear hq
    by_cases hk : k < 32
    · have t1 : decide ((k : Int) < 32) = true := decide_eq_true (by omega)
      have CC := Lib.hid (pool_count gP K p (k : Int) 1 wr (H.out.fresh HB.out))
      have hce : countP p (k : Int) 1 = cntU p.u 1 (32 * k) 32 := by
        unfold countP
        rw [if_pos ⟨by omega, by omega⟩, Int.toNat_natCast]
      rw [hce] at CC
      obtain ⟨c, hc⟩ : ∃ c, c = cntU p.u 1 (32 * k) 32 := ⟨_, rfl⟩
      have hcl : c ≤ 32 := by rw [hc]; exact cntU_le _ _ _ _
      rw [← hc] at CC FS
      clear hc hce
      go_wp2_with fail
      refine CC.out.mono ?_
      rintro e w1 ⟨rfl, hb1⟩
      have HB1 := Lib.hid (HB.out.trans (hb1.mono HB.out.size))
      clear hb1
      go_wp2_with fail
      go_roundg (32 - (k + 1))
      case measure => omega
      case rel => exact ⟨k + 1, by omega, by go_num, by rw [FS.out]; go_num, HB1.out⟩
    · obtain rfl : k = 32 := by omega
      go_wp2
      go_ret
      exact ⟨by rw [HQ.out]; rfl, HB.out⟩

/-- Memory and a pool, both made since w0. -/
def PartsT (w0 w : World) (gR gF gP : Nat) (F : Nat → List Nat) (bad : Nat → Bool) (p : PS) : Prop :=
  ∃ K, Mem w gR gF 1024 F bad ∧ PoolMem w gP K p ∧ ¬ K gR ∧ ¬ K gF ∧ (∀ k, K k → w0.heap.size ≤ k) ∧ w0.heap.size ≤ gR ∧ w0.heap.size ≤ gF ∧ Below w0.heap.size w0 w
section
variable {w0 w w' : World} {gR gF gP : Nat} {F : Nat → List Nat} {bad : Nat → Bool} {p : PS}
theorem PartsT.bel (h : PartsT w0 w gR gF gP F bad p) : Below w0.heap.size w0 w := by obtain ⟨_, _, _, _, _, _, _, _, h⟩ := h; exact h
theorem PartsT.fresh (h : PartsT w0 w gR gF gP F bad p) (hb : Below w.heap.size w w') : PartsT w0 w' gR gF gP F bad p := by
  obtain ⟨K, h1, h2, h3, h4, h5, h6, h7, h8⟩ := h
  exact ⟨K, h1.below hb h1.lt.1 h1.lt.2, h2.fresh hb, h3, h4, h5, h6, h7, h8.trans (hb.mono h8.size)⟩
theorem PartsT.ok (h : PartsT w0 w gR gF gP F bad p) : PsOk p := by
  obtain ⟨K, _, h, _⟩ := h
  exact h.ok
theorem pt_free (h : PartsT w0 w gR gF gP F bad p) :
    Calls Try.prog 11 #[.pointer (some ⟨gP, 0, none⟩)] w fun e w' => e = .returned (.int .i64 ((freeU p.u 32 : Nat) : Int)) ∧ Below w.heap.size w w' := by
  obtain ⟨K, _, h, _⟩ := h
  exact free_any gP K p w h
end
set_option maxRecDepth 20000 in
set_option maxHeartbeats 800000 in
theorem parts_any (n : Nat) (w0 w : World) (hn : n ≤ 32) (hB : Below w0.heap.size w0 w) :
    Calls Try.prog 9 #[.int .i64 (n : Int)] w fun e w' => ∃ gR gF gP p, e = .returned (.tuple #[.pointer (some ⟨gR, 0, none⟩), .pointer (some ⟨gP, 0, none⟩)]) ∧ PartsT w0 w' gR gF gP (fun _ => zer) (fun _ => false) p ∧ OnN p n ∧ Below w.heap.size w w' := by
  have HB := Lib.hid hB
  clear hB
  go_enter Try.func9, Try.ntmps9
  go_wp2_with fail
  refine (st_new (w0 := w) (Q := fun p => OnN p 0) OnN.zero w (Below.refl _ _)).mono ?_
  rintro e w1 ⟨gP, rfl, h1⟩
  have H1 := Lib.hid h1
  clear h1
  go_wp2_with fail
  go_loopg [5] n (fun gg s5 wx => ∃ i : Nat, i + gg = n ∧ s5 = .int .i64 (i : Int) ∧ St w wx gP (fun p => OnN p i))
  case atStart => exact ⟨0, by omega, rfl, H1.out⟩
  case round =>
    obtain ⟨i, hig, rfl, h2⟩ := hrel
    have H2 := Lib.hid h2
    clear h2
    by_cases hlt : i < n
    · have t1 : decide ((i : Int) < (n : Int)) = true := decide_eq_true (by omega)
      have t2 : decide ((i : Int) < 32) = true := decide_eq_true (by omega)
      go_wp2_with fail
      refine (st_online (R := fun p => OnN p (i + 1)) 0 (i : Int) 2 H2.out (fun p hp => hp.on (by omega))).mono ?_
      rintro e w3 ⟨rfl, h3⟩
      have H3 := Lib.hid h3
      clear h3
      go_wp2_with fail
      go_roundg (n - (i + 1))
      case measure => omega
      case rel => exact ⟨i + 1, by omega, by go_num, H3.out⟩
    · obtain rfl : i = n := by omega
      have t1 : decide ((i : Int) < (i : Int)) = false := decide_eq_false (by omega)
      go_wp2_with fail
      refine (new_any 1024 1024 _ (.inr (.inl ⟨by omega, rfl⟩))).mono ?_
      rintro e w4 ⟨rfl, hm, hb, hz⟩
      have HM := Lib.hid hm
      have HB4 := Lib.hid hb
      have H4 := Lib.hid (H2.out.fresh hb)
      clear hm hb hz
      go_wp2
      go_ret2
      obtain ⟨K, p, k1, k2, k3, k4⟩ := H2.out
      have hs0 := HB.out.size
      have hs1 := k4.size
      exact ⟨_, _, gP, p, rfl, ⟨K, HM.out, k1.fresh HB4.out, fun h => by have := k1.lt _ h; omega, fun h => by have := k1.lt _ h; omega, fun k h => by have := k3 k h; omega, by omega, by omega, HB.out.trans ((k4.trans (HB4.out.mono k4.size)).mono hs0)⟩, k2, k4.trans (HB4.out.mono k4.size)⟩
end Go.Proofs.Ytegoookllckhiaa

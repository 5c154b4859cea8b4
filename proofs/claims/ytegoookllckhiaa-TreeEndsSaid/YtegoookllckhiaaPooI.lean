/-
  The contracts of a pool's calls, as the statements' walks ask for them.
  Conditions: those that each line bears.
-/
import Derived.Test.YtegoookllckhiaaPoC
import Derived.Test.YtegoookllckhiaaPoD
import Derived.Test.YtegoookllckhiaaPoE
namespace Go.Proofs.Ytegoookllckhiaa
open Go.RowKit
set_option linter.unusedVariables false

theorem PoolMem.post {w w' : World} {gS : Nat} {K : Nat → Prop} {p p' : PS} {v : Value} {e : Ending} (h : PoolMem w gS K p) (he : e = .returned v) (h1 : PoolAt w' gS p') (h2 : Turns (fun j => j = gS) w w') (hi : PInv p') : PoolPost w gS K v p' e w' := by
  obtain ⟨rfl, _, _⟩ := h
  exact ⟨_, he, ⟨rfl, h1, hi⟩, fun k hk => .inl hk, h2⟩
theorem free_inv {p : PS} (ho : PsOk p) (hi : PInv p) (f : Int) : PInv (freeP p f).2 := by
  unfold freeP
  split
  · rename_i c
    by_cases hf : 0 ≤ f ∧ f < 1024
    · obtain ⟨k, rfl⟩ := Int.eq_ofNat_of_zero_le hf.1
      rw [Int.toNat_natCast]
      have hk : k < 1024 := by omega
      rw [useP_in p hk] at c
      refine hi.setOn ho hk (fun hz => ?_)
      have := (hi (k / 32) (by omega) hz).2 k (by omega) (by omega)
      omega
    · rw [show useP p f = 0 from if_neg hf] at c
      omega
  · exact hi
theorem spoil_inv {p : PS} (ho : PsOk p) (hi : PInv p) (f : Int) : PInv (spoilP p f).2 := by
  unfold spoilP
  split
  · rename_i c
    exact hi.set6 ho (by omega)
  · exact hi
theorem iso_inv {p : PS} (ho : PsOk p) (hi : PInv p) (s : Int) (b : Bool) : PInv (isoP p s b).2 := by
  unfold isoP
  split
  · rename_i c
    by_cases hs : 0 ≤ s ∧ s < 32
    · obtain ⟨k, rfl⟩ := Int.eq_ofNat_of_zero_le hs.1
      rw [Int.toNat_natCast]
      rw [zoneP_in p (by omega)] at c
      exact hi.iso ho b c
    · rw [show zoneP p s = 0 from if_neg hs] at c
      omega
  · exact hi
theorem pool_online (gS : Nat) (K : Nat → Prop) (p : PS) (s z : Int) (v : Value) (bs : List Int) (w : World) (h : PoolMem w gS K p) (hv : Its w w.heap.size v bs) (ho : Off K v) :
    Calls Try.prog 23 #[.pointer (some ⟨gS, 0, none⟩), .int .i64 s, .int .i64 z, v] w (PoolPost w gS K (.int .i64 (((onP p s z bs).1 : Nat) : Int)) (onP p s z bs).2) := by
  obtain ⟨e1, e2, e3⟩ := id h
  subst e1
  refine (pool_online_at gS p s z v bs w e2 e3 hv ho).mono ?_
  rintro e w' ⟨h0, h1, h2⟩
  exact h.post h0 h1 h2 (on_inv e2.ok e3 s z bs)
theorem pool_alloc (gS : Nat) (K : Nat → Prop) (p : PS) (use o : Int) (m : Bool) (w : World) (h : PoolMem w gS K p) :
    Calls Try.prog 48 #[.pointer (some ⟨gS, 0, none⟩), .int .i64 use, .int .i64 o, .bool m] w fun e w' => ∃ (f er : Nat) (p' : PS), AllocIs p use o m f er p' ∧ PoolPost w gS K (.tuple #[.int .i64 (f : Int), .int .i64 (er : Int)]) p' e w' := by
  obtain ⟨e1, e2, e3⟩ := id h
  refine (pool_alloc_at gS p use o m w e2).mono ?_
  rintro e w' ⟨f, er, p', hal, h0, h1, h2⟩
  exact ⟨f, er, p', hal, h.post h0 h1 h2 (alloc_inv e2.ok e3 hal)⟩
theorem pool_free (gS : Nat) (K : Nat → Prop) (p : PS) (f : Int) (w : World) (h : PoolMem w gS K p) :
    Calls Try.prog 59 #[.pointer (some ⟨gS, 0, none⟩), .int .i64 f] w (PoolPost w gS K (.bool (freeP p f).1) (freeP p f).2) := by
  obtain ⟨e1, e2, e3⟩ := id h
  refine (pool_free_at gS p f w e2).mono ?_
  rintro e w' ⟨h0, h1, h2⟩
  exact h.post h0 h1 h2 (free_inv e2.ok e3 f)
theorem pool_spoil (gS : Nat) (K : Nat → Prop) (p : PS) (f : Int) (w : World) (h : PoolMem w gS K p) :
    Calls Try.prog 19 #[.pointer (some ⟨gS, 0, none⟩), .int .i64 f] w (PoolPost w gS K (.bool (spoilP p f).1) (spoilP p f).2) := by
  obtain ⟨e1, e2, e3⟩ := id h
  refine (pool_spoil_at gS p f w e2).mono ?_
  rintro e w' ⟨h0, h1, h2⟩
  exact h.post h0 h1 h2 (spoil_inv e2.ok e3 f)
theorem pool_zone (gS : Nat) (K : Nat → Prop) (p : PS) (s : Int) (w : World) (h : PoolMem w gS K p) :
    Calls Try.prog 44 #[.pointer (some ⟨gS, 0, none⟩), .int .i64 s] w fun e w' => e = .returned (.int .i64 ((zoneP p s : Nat) : Int)) ∧ Below w.heap.size w w' := by
  refine (pool_zone_at gS p s w h.2.1).mono ?_
  rintro e w' ⟨h0, rfl⟩
  exact ⟨h0, Below.refl _ _⟩
theorem pool_use (gS : Nat) (K : Nat → Prop) (p : PS) (f : Int) (w : World) (h : PoolMem w gS K p) :
    Calls Try.prog 17 #[.pointer (some ⟨gS, 0, none⟩), .int .i64 f] w fun e w' => e = .returned (.int .i64 ((useP p f : Nat) : Int)) ∧ Below w.heap.size w w' := by
  refine (pool_use_at gS p f w h.2.1).mono ?_
  rintro e w' ⟨h0, rfl⟩
  exact ⟨h0, Below.refl _ _⟩
theorem pool_count (gS : Nat) (K : Nat → Prop) (p : PS) (s v : Int) (w : World) (h : PoolMem w gS K p) :
    Calls Try.prog 27 #[.pointer (some ⟨gS, 0, none⟩), .int .i64 s, .int .i64 v] w fun e w' => e = .returned (.int .i64 ((countP p s v : Nat) : Int)) ∧ Below w.heap.size w w' := by
  exact pool_count_at gS p s v w h.2.1
end Go.Proofs.Ytegoookllckhiaa

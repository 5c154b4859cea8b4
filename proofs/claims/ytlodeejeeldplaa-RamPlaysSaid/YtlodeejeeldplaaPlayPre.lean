/-
  A round's first part in RamPlays: the act is read, and whether its frame and its place are there.
  Conditions: the act is read in memory.
-/
import Derived.Test.YtlodeejeeldplaaPlayMem
import Derived.Test.YtlodeejeeldplaaPlayCuts
import Derived.WalkLawsBesides
namespace Go.Proofs.Ytlodeejeeldplaa
open Go.RowKit
set_option linter.unusedVariables false

def There (f : Int) (n : Nat) (th : Bool) (kk : Nat) : Prop := (th = true ∧ f = kk ∧ kk < n) ∨ (th = false ∧ kk = 0 ∧ (f < 0 ∨ (n : Int) ≤ f))
def InB (th : Bool) (p : Int) (inn : Bool) : Prop := (inn = true ∧ th = true ∧ 0 ≤ p ∧ p ≤ 64) ∨ (inn = false ∧ (th = false ∨ p < 0 ∨ 64 < p))
/-- What it leaves. -/
def PreP (v0 va vm vl vb : Value) (n k : Nat) (x : ActD) (w : World) (a' : Act) (w' : World) : Prop :=
  ∃ (th : Bool) (kk : Nat) (inn : Bool) (gA : Nat), PlayL1 a' v0 va vm (.int .i64 n) vl vb (.int .i64 k) (.pointer (some ⟨gA, 0, none⟩)) (.bool th) (.int .i64 kk) (.bool inn) (.int .i64 0) (.int .i64 x.what) ∧
    Below w.heap.size w w' ∧ w.heap.size ≤ gA ∧ Blk w' gA 33 #[.int .i64 x.what, .int .i64 x.f, .int .i64 x.at_, .int .i64 x.n, x.v] ∧ There x.f n th kk ∧ InB th x.at_ inn

set_option maxRecDepth 100000 in
set_option maxHeartbeats 1600000 in
theorem pre_low (v0 vm vl vb : Value) (n k b off mm cc B : Nat) (x : ActD) (a : Act) (w : World) (h : PlayL0 a v0 (.slice (some ⟨b, off, none⟩) mm cc) vm (.int .i64 n) vl vb (.int .i64 k)) (hk : k < mm) (hm : mm ≤ maxLen) (hx : ActAt w B b (off + k * 5) x) (hn : n ≤ 1024) (hlow : x.f < 0)
    {R : Act → World → Prop} (hR : ∀ a' w', PreP v0 (.slice (some ⟨b, off, none⟩) mm cc) vm vl vb n k x w a' w' → R a' w') :
    Runs Try.prog c12 a w (fun a w => Runs Try.prog c13 a w (fun a w => Runs Try.prog c14 a w (fun a w => Runs Try.prog c15 a w (fun a w => Runs Try.prog c17 a w (fun a w => Runs Try.prog c18 a w (fun a w => Runs Try.prog c19 a w R)))))) := by
  obtain ⟨u, rfl⟩ := h.open_
  unfold maxLen at hm
  obtain ⟨wh, f, p, q, v, xs⟩ := x
  obtain ⟨hb, h0, h1, h2, h3, h4, hv, hf64, hp64, hq64⟩ := hx
  unfold I64 at hf64 hp64 hq64
  simp only at hv
  obtain ⟨vA, vl_, vc, rfl, -⟩ := hv
  have HR := Lib.hid hR
  clear hR
  have hk2 : (k : Int) < (mm : Int) := by omega
  have hk0 : (0 : Int) ≤ (k : Int) := by omega
  simp only at h0 h1 h2 h3 h4 hf64 hp64 hq64 hlow
  have t1 : decide (0 ≤ f) = false := decide_eq_false (by omega)
  unfold Runs
  conv => arg 2; whnf
  go_wp2
  conv => arg 2; whnf
  go_wp2
  conv => arg 2; whnf
  go_wp2
  conv => arg 2; whnf
  go_wp2
  conv => arg 2; whnf
  go_wp2
  conv => arg 2; whnf
  go_wp2
  conv => arg 2; whnf
  go_wp2
  refine HR.out _ _ ⟨false, 0, false, w.heap.size, ⟨rfl, rfl, rfl, rfl, rfl, rfl, rfl, rfl, rfl, rfl, rfl, rfl, rfl, rfl, rfl⟩, (Below.refl _ _).alloc (Nat.le_refl _) _, Nat.le_refl _, Blk.new _ _ _, .inr ⟨rfl, rfl, .inl hlow⟩, .inr ⟨rfl, .inl rfl⟩⟩
set_option maxRecDepth 100000 in
set_option maxHeartbeats 1600000 in
theorem pre_high (v0 vm vl vb : Value) (n k b off mm cc B : Nat) (x : ActD) (a : Act) (w : World) (h : PlayL0 a v0 (.slice (some ⟨b, off, none⟩) mm cc) vm (.int .i64 n) vl vb (.int .i64 k)) (hk : k < mm) (hm : mm ≤ maxLen) (hx : ActAt w B b (off + k * 5) x) (hn : n ≤ 1024) (hlow : (n : Int) ≤ x.f)
    {R : Act → World → Prop} (hR : ∀ a' w', PreP v0 (.slice (some ⟨b, off, none⟩) mm cc) vm vl vb n k x w a' w' → R a' w') :
    Runs Try.prog c12 a w (fun a w => Runs Try.prog c13 a w (fun a w => Runs Try.prog c14 a w (fun a w => Runs Try.prog c15 a w (fun a w => Runs Try.prog c17 a w (fun a w => Runs Try.prog c18 a w (fun a w => Runs Try.prog c19 a w R)))))) := by
  obtain ⟨u, rfl⟩ := h.open_
  unfold maxLen at hm
  obtain ⟨wh, f, p, q, v, xs⟩ := x
  obtain ⟨hb, h0, h1, h2, h3, h4, hv, hf64, hp64, hq64⟩ := hx
  unfold I64 at hf64 hp64 hq64
  simp only at hv
  obtain ⟨vA, vl_, vc, rfl, -⟩ := hv
  have HR := Lib.hid hR
  clear hR
  have hk2 : (k : Int) < (mm : Int) := by omega
  have hk0 : (0 : Int) ≤ (k : Int) := by omega
  simp only at h0 h1 h2 h3 h4 hf64 hp64 hq64 hlow
  have t1 : decide (0 ≤ f) = true := decide_eq_true (by omega)
  have t2 : decide (f < (n : Int)) = false := decide_eq_false (by omega)
  unfold Runs
  conv => arg 2; whnf
  go_wp2
  conv => arg 2; whnf
  go_wp2
  conv => arg 2; whnf
  go_wp2
  conv => arg 2; whnf
  go_wp2
  conv => arg 2; whnf
  go_wp2
  conv => arg 2; whnf
  go_wp2
  conv => arg 2; whnf
  go_wp2
  refine HR.out _ _ ⟨false, 0, false, w.heap.size, ⟨rfl, rfl, rfl, rfl, rfl, rfl, rfl, rfl, rfl, rfl, rfl, rfl, rfl, rfl, rfl⟩, (Below.refl _ _).alloc (Nat.le_refl _) _, Nat.le_refl _, Blk.new _ _ _, .inr ⟨rfl, rfl, .inr hlow⟩, .inr ⟨rfl, .inl rfl⟩⟩
set_option maxRecDepth 100000 in
set_option maxHeartbeats 1600000 in
theorem pre_left (v0 vm vl vb : Value) (n k b off mm cc B : Nat) (x : ActD) (a : Act) (w : World) (h : PlayL0 a v0 (.slice (some ⟨b, off, none⟩) mm cc) vm (.int .i64 n) vl vb (.int .i64 k)) (hk : k < mm) (hm : mm ≤ maxLen) (hx : ActAt w B b (off + k * 5) x) (hn : n ≤ 1024) (hlow : 0 ≤ x.f ∧ x.f < n) (hp : x.at_ < 0)
    {R : Act → World → Prop} (hR : ∀ a' w', PreP v0 (.slice (some ⟨b, off, none⟩) mm cc) vm vl vb n k x w a' w' → R a' w') :
    Runs Try.prog c12 a w (fun a w => Runs Try.prog c13 a w (fun a w => Runs Try.prog c14 a w (fun a w => Runs Try.prog c15 a w (fun a w => Runs Try.prog c17 a w (fun a w => Runs Try.prog c18 a w (fun a w => Runs Try.prog c19 a w R)))))) := by
  obtain ⟨u, rfl⟩ := h.open_
  unfold maxLen at hm
  obtain ⟨wh, f, p, q, v, xs⟩ := x
  obtain ⟨hb, h0, h1, h2, h3, h4, hv, hf64, hp64, hq64⟩ := hx
  unfold I64 at hf64 hp64 hq64
  simp only at hv
  obtain ⟨vA, vl_, vc, rfl, -⟩ := hv
  have HR := Lib.hid hR
  clear hR
  have hk2 : (k : Int) < (mm : Int) := by omega
  have hk0 : (0 : Int) ≤ (k : Int) := by omega
  simp only at h0 h1 h2 h3 h4 hf64 hp64 hq64 hlow hp
  obtain ⟨g, rfl⟩ : ∃ g : Nat, f = g := Int.eq_ofNat_of_zero_le (by omega)
  have t1 : decide (0 ≤ (g : Int)) = true := decide_eq_true (by omega)
  have t2 : decide ((g : Int) < (n : Int)) = true := decide_eq_true (by omega)
  have t3 : decide (0 ≤ p) = false := decide_eq_false (by omega)
  unfold Runs
  conv => arg 2; whnf
  go_wp2
  conv => arg 2; whnf
  go_wp2
  conv => arg 2; whnf
  go_wp2
  conv => arg 2; whnf
  go_wp2
  conv => arg 2; whnf
  go_wp2
  conv => arg 2; whnf
  go_wp2
  conv => arg 2; whnf
  go_wp2
  refine HR.out _ _ ⟨true, g, false, w.heap.size, ⟨rfl, rfl, rfl, rfl, rfl, rfl, rfl, rfl, rfl, rfl, rfl, rfl, rfl, rfl, rfl⟩, (Below.refl _ _).alloc (Nat.le_refl _) _, Nat.le_refl _, Blk.new _ _ _, .inl ⟨rfl, rfl, by omega⟩, .inr ⟨rfl, .inr (.inl hp)⟩⟩
set_option maxRecDepth 100000 in
set_option maxHeartbeats 1600000 in
theorem pre_right (v0 vm vl vb : Value) (n k b off mm cc B : Nat) (x : ActD) (a : Act) (w : World) (h : PlayL0 a v0 (.slice (some ⟨b, off, none⟩) mm cc) vm (.int .i64 n) vl vb (.int .i64 k)) (hk : k < mm) (hm : mm ≤ maxLen) (hx : ActAt w B b (off + k * 5) x) (hn : n ≤ 1024) (hlow : 0 ≤ x.f ∧ x.f < n) (hp : 64 < x.at_)
    {R : Act → World → Prop} (hR : ∀ a' w', PreP v0 (.slice (some ⟨b, off, none⟩) mm cc) vm vl vb n k x w a' w' → R a' w') :
    Runs Try.prog c12 a w (fun a w => Runs Try.prog c13 a w (fun a w => Runs Try.prog c14 a w (fun a w => Runs Try.prog c15 a w (fun a w => Runs Try.prog c17 a w (fun a w => Runs Try.prog c18 a w (fun a w => Runs Try.prog c19 a w R)))))) := by
  obtain ⟨u, rfl⟩ := h.open_
  unfold maxLen at hm
  obtain ⟨wh, f, p, q, v, xs⟩ := x
  obtain ⟨hb, h0, h1, h2, h3, h4, hv, hf64, hp64, hq64⟩ := hx
  unfold I64 at hf64 hp64 hq64
  simp only at hv
  obtain ⟨vA, vl_, vc, rfl, -⟩ := hv
  have HR := Lib.hid hR
  clear hR
  have hk2 : (k : Int) < (mm : Int) := by omega
  have hk0 : (0 : Int) ≤ (k : Int) := by omega
  simp only at h0 h1 h2 h3 h4 hf64 hp64 hq64 hlow hp
  obtain ⟨g, rfl⟩ : ∃ g : Nat, f = g := Int.eq_ofNat_of_zero_le (by omega)
  have t1 : decide (0 ≤ (g : Int)) = true := decide_eq_true (by omega)
  have t2 : decide ((g : Int) < (n : Int)) = true := decide_eq_true (by omega)
  have t3 : decide (0 ≤ p) = true := decide_eq_true (by omega)
  have t4 : decide (p ≤ 64) = false := decide_eq_false (by omega)
  unfold Runs
  conv => arg 2; whnf
  go_wp2
  conv => arg 2; whnf
  go_wp2
  conv => arg 2; whnf
  go_wp2
  conv => arg 2; whnf
  go_wp2
  conv => arg 2; whnf
  go_wp2
  conv => arg 2; whnf
  go_wp2
  conv => arg 2; whnf
  go_wp2
  refine HR.out _ _ ⟨true, g, false, w.heap.size, ⟨rfl, rfl, rfl, rfl, rfl, rfl, rfl, rfl, rfl, rfl, rfl, rfl, rfl, rfl, rfl⟩, (Below.refl _ _).alloc (Nat.le_refl _) _, Nat.le_refl _, Blk.new _ _ _, .inl ⟨rfl, rfl, by omega⟩, .inr ⟨rfl, .inr (.inr hp)⟩⟩
set_option maxRecDepth 100000 in
set_option maxHeartbeats 1600000 in
theorem pre_in (v0 vm vl vb : Value) (n k b off mm cc B : Nat) (x : ActD) (a : Act) (w : World) (h : PlayL0 a v0 (.slice (some ⟨b, off, none⟩) mm cc) vm (.int .i64 n) vl vb (.int .i64 k)) (hk : k < mm) (hm : mm ≤ maxLen) (hx : ActAt w B b (off + k * 5) x) (hn : n ≤ 1024) (hlow : 0 ≤ x.f ∧ x.f < n) (hp : 0 ≤ x.at_ ∧ x.at_ ≤ 64)
    {R : Act → World → Prop} (hR : ∀ a' w', PreP v0 (.slice (some ⟨b, off, none⟩) mm cc) vm vl vb n k x w a' w' → R a' w') :
    Runs Try.prog c12 a w (fun a w => Runs Try.prog c13 a w (fun a w => Runs Try.prog c14 a w (fun a w => Runs Try.prog c15 a w (fun a w => Runs Try.prog c17 a w (fun a w => Runs Try.prog c18 a w (fun a w => Runs Try.prog c19 a w R)))))) := by
  obtain ⟨u, rfl⟩ := h.open_
  unfold maxLen at hm
  obtain ⟨wh, f, p, q, v, xs⟩ := x
  obtain ⟨hb, h0, h1, h2, h3, h4, hv, hf64, hp64, hq64⟩ := hx
  unfold I64 at hf64 hp64 hq64
  simp only at hv
  obtain ⟨vA, vl_, vc, rfl, -⟩ := hv
  have HR := Lib.hid hR
  clear hR
  have hk2 : (k : Int) < (mm : Int) := by omega
  have hk0 : (0 : Int) ≤ (k : Int) := by omega
  simp only at h0 h1 h2 h3 h4 hf64 hp64 hq64 hlow hp
  obtain ⟨g, rfl⟩ : ∃ g : Nat, f = g := Int.eq_ofNat_of_zero_le (by omega)
  have t1 : decide (0 ≤ (g : Int)) = true := decide_eq_true (by omega)
  have t2 : decide ((g : Int) < (n : Int)) = true := decide_eq_true (by omega)
  have t3 : decide (0 ≤ p) = true := decide_eq_true (by omega)
  have t4 : decide (p ≤ 64) = true := decide_eq_true (by omega)
  unfold Runs
  conv => arg 2; whnf
  go_wp2
  conv => arg 2; whnf
  go_wp2
  conv => arg 2; whnf
  go_wp2
  conv => arg 2; whnf
  go_wp2
  conv => arg 2; whnf
  go_wp2
  conv => arg 2; whnf
  go_wp2
  conv => arg 2; whnf
  go_wp2
  refine HR.out _ _ ⟨true, g, true, w.heap.size, ⟨rfl, rfl, rfl, rfl, rfl, rfl, rfl, rfl, rfl, rfl, rfl, rfl, rfl, rfl, rfl⟩, (Below.refl _ _).alloc (Nat.le_refl _) _, Nat.le_refl _, Blk.new _ _ _, .inl ⟨rfl, rfl, by omega⟩, .inl ⟨rfl, rfl, hp.1, hp.2⟩⟩
theorem pre_any (v0 vm vl vb : Value) (n k b off mm cc B : Nat) (x : ActD) (a : Act) (w : World) (h : PlayL0 a v0 (.slice (some ⟨b, off, none⟩) mm cc) vm (.int .i64 n) vl vb (.int .i64 k)) (hk : k < mm) (hm : mm ≤ maxLen) (hx : ActAt w B b (off + k * 5) x) (hn : n ≤ 1024)
    {R : Act → World → Prop} (hR : ∀ a' w', PreP v0 (.slice (some ⟨b, off, none⟩) mm cc) vm vl vb n k x w a' w' → R a' w') :
    Runs Try.prog c12 a w (fun a w => Runs Try.prog c13 a w (fun a w => Runs Try.prog c14 a w (fun a w => Runs Try.prog c15 a w (fun a w => Runs Try.prog c17 a w (fun a w => Runs Try.prog c18 a w (fun a w => Runs Try.prog c19 a w R)))))) := by
  by_cases c1 : x.f < 0
  · exact pre_low v0 vm vl vb n k b off mm cc B x a w h hk hm hx hn c1 hR
  · by_cases c2 : (n : Int) ≤ x.f
    · exact pre_high v0 vm vl vb n k b off mm cc B x a w h hk hm hx hn c2 hR
    · by_cases c3 : x.at_ < 0
      · exact pre_left v0 vm vl vb n k b off mm cc B x a w h hk hm hx hn ⟨by omega, by omega⟩ c3 hR
      · by_cases c4 : 64 < x.at_
        · exact pre_right v0 vm vl vb n k b off mm cc B x a w h hk hm hx hn ⟨by omega, by omega⟩ c4 hR
        · exact pre_in v0 vm vl vb n k b off mm cc B x a w h hk hm hx hn ⟨by omega, by omega⟩ ⟨by omega, by omega⟩ hR
end Go.Proofs.Ytlodeejeeldplaa

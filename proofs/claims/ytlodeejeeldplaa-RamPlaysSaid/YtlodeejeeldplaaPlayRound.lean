/-
  A round of RamPlays, whole: the act is carried out, and what the rounds keep is kept.
  Conditions: the acts are read in memory.
-/
import Derived.Test.YtlodeejeeldplaaPlayArmE
namespace Go.Proofs.Ytlodeejeeldplaa
open Go.RowKit
set_option linter.unusedVariables false

theorem arm_any (w0 : World) (v0 va : Value) (gL gA n k kk : Nat) (th inn : Bool) (F : Nat → List Nat) (c : Nat → Nat) (x : ActD) (a : Act) (w : World)
    (h : PlayL1 a v0 va (.pointer (some ⟨w0.heap.size + 1, 0, none⟩)) (.int .i64 n) (.pointer (some ⟨gL, 0, none⟩)) (.pointer (some ⟨gL + 1, 0, none⟩)) (.int .i64 k) (.pointer (some ⟨gA, 0, none⟩)) (.bool th) (.int .i64 kk) (.bool inn) (.int .i64 0) (.int .i64 x.what))
    (hs : St w0 gL n k F c w) (hk80 : k ≤ 1000) (hg : gL + 2 ≤ gA) (hb : Blk w gA 33 #[.int .i64 x.what, .int .i64 x.f, .int .i64 x.at_, .int .i64 x.n, x.v]) (hx : Bts w w0.heap.size x.v x.xs) (hi : I64 x.f ∧ I64 x.at_ ∧ I64 x.n)
    (ht : There x.f n th kk) (hn : InB th x.at_ inn) :
    Runs Try.prog cSw a w (ArmP w0 v0 va gL gA n k kk th x) := by
  by_cases e4 : x.what = 4
  · rcases ht with ⟨rfl, h1, h2⟩ | ⟨rfl, rfl, h1⟩
    · by_cases hc : c kk = 0
      · exact arm4_good w0 v0 va gL gA n k kk F c x a w inn h hs hk80 hg hb hx hi e4 h1 h2 hc
      · exact arm4_bad w0 v0 va gL gA n k kk F c x a w inn h hs hk80 hg hb hx hi e4 h1 h2 (by omega)
    · exact arm4_no w0 v0 va gL gA n k 0 F c x a w inn h hs hk80 hg hb hx hi e4 h1
  by_cases e3 : x.what = 3
  · rcases ht with ⟨rfl, h1, h2⟩ | ⟨rfl, rfl, h1⟩
    · by_cases hc : c kk = 0
      · exact arm3_good w0 v0 va gL gA n k kk F c x a w inn h hs hk80 hg hb hx hi e3 h1 h2 hc
      · exact arm3_bad w0 v0 va gL gA n k kk F c x a w inn h hs hk80 hg hb hx hi e3 h1 h2 (by omega)
    · exact arm3_no w0 v0 va gL gA n k 0 F c x a w inn h hs hk80 hg hb hx hi e3 h1
  by_cases e2 : x.what = 2
  · rcases ht with ⟨rfl, h1, h2⟩ | ⟨rfl, rfl, h1⟩
    · by_cases hq : x.n < 0 ∨ (n : Int) ≤ x.n
      · exact arm2_no2 w0 v0 va gL gA n k kk F c x a w inn h hs hk80 hg hb hx hi e2 h1 h2 hq
      · obtain ⟨t, ht⟩ := Int.eq_ofNat_of_zero_le (show 0 ≤ x.n by omega)
        by_cases hc : c kk = 0 ∧ c t = 0
        · exact arm2_good w0 v0 va gL gA n k kk F c x a w inn h hs hk80 hg hb hx hi t e2 h1 h2 ht (by omega) hc.1 hc.2
        · exact arm2_bad w0 v0 va gL gA n k kk F c x a w inn h hs hk80 hg hb hx hi t e2 h1 h2 ht (by omega) (by omega)
    · exact arm2_no1 w0 v0 va gL gA n k 0 F c x a w inn h hs hk80 hg hb hx hi e2 h1
  by_cases e1 : x.what = 1
  · rcases ht with ⟨rfl, h1, h2⟩ | ⟨rfl, rfl, h1⟩
    · rcases hn with ⟨rfl, _, hp0, hp1⟩ | ⟨rfl, hp⟩
      · obtain ⟨s, hs'⟩ := Int.eq_ofNat_of_zero_le hp0
        by_cases hl : 64 < s + x.xs.length
        · exact arm1_long w0 v0 va gL gA n k kk F c x a w h hs hk80 hg hb hx hi s e1 h1 h2 hs' (by omega) hl
        · by_cases hc : c kk = 0
          · exact arm1_good w0 v0 va gL gA n k kk F c x a w h hs hk80 hg hb hx hi s e1 h1 h2 hs' (by omega) hc
          · exact arm1_bad w0 v0 va gL gA n k kk F c x a w h hs hk80 hg hb hx hi s e1 h1 h2 hs' (by omega) (by omega)
      · exact arm1_out w0 v0 va gL gA n k kk F c x a w h hs hk80 hg hb hx hi e1 h1 h2 (by simpa using hp)
    · rcases hn with ⟨rfl, h0, _⟩ | ⟨rfl, hp⟩
      · cases h0
      · exact arm1_no w0 v0 va gL gA n k 0 F c x a w h hs hk80 hg hb hx hi e1 h1
  by_cases e0 : x.what = 0
  · rcases ht with ⟨rfl, h1, h2⟩ | ⟨rfl, rfl, h1⟩
    · rcases hn with ⟨rfl, _, hp0, hp1⟩ | ⟨rfl, hp⟩
      · obtain ⟨s, hs'⟩ := Int.eq_ofNat_of_zero_le hp0
        by_cases hq : x.n < 0
        · exact arm0_neg w0 v0 va gL gA n k kk F c x a w h hs hk80 hg hb hx hi s e0 h1 h2 hs' (by omega) hq
        · obtain ⟨r, hr⟩ := Int.eq_ofNat_of_zero_le (show 0 ≤ x.n by omega)
          by_cases hl : 64 < s + r
          · exact arm0_long w0 v0 va gL gA n k kk F c x a w h hs hk80 hg hb hx hi s r e0 h1 h2 hs' (by omega) hr hl
          · by_cases hc : c kk = 0
            · exact arm0_good w0 v0 va gL gA n k kk F c x a w h hs hk80 hg hb hx hi s r e0 h1 h2 hs' hr (by omega) hc
            · exact arm0_bad w0 v0 va gL gA n k kk F c x a w h hs hk80 hg hb hx hi s r e0 h1 h2 hs' hr (by omega) (by omega)
      · exact arm0_out w0 v0 va gL gA n k kk F c x a w h hs hk80 hg hb hx hi e0 h1 h2 (by simpa using hp)
    · rcases hn with ⟨rfl, h0, _⟩ | ⟨rfl, hp⟩
      · cases h0
      · exact arm0_no w0 v0 va gL gA n k 0 F c x a w h hs hk80 hg hb hx hi e0 h1
  exact arm_other w0 v0 va gL gA n k kk F c x a w th inn h hs hk80 hg hb hx hi ⟨e0, e1, e2, e3, e4⟩

theorem seq7 {P : Program} {c1 c2 c3 c4 c5 c6 c7 x y : Code} {a : Act} {w : World} {R : Act → World → Prop}
    (h : Runs P c1 a w (fun a w => Runs P c2 a w (fun a w => Runs P c3 a w (fun a w => Runs P c4 a w (fun a w => Runs P c5 a w (fun a w => Runs P c6 a w (fun a w => Runs P c7 a w (fun a w => Runs P x a w (fun a w => Runs P y a w R))))))))) :
    Runs P (.seq c1 (.seq c2 (.seq c3 (.seq c4 (.seq c5 (.seq c6 (.seq (.seq c7 x) y))))))) a w R :=
  Runs.seq (h.mono fun _ _ h => Runs.seq (h.mono fun _ _ h => Runs.seq (h.mono fun _ _ h => Runs.seq (h.mono fun _ _ h => Runs.seq (h.mono fun _ _ h => Runs.seq (h.mono fun _ _ h => Runs.seq (Runs.seq h)))))))

def KeptP (R : Act → Prop) (w : World) (a' : Act) (w' : World) : Prop := R a' ∧ w = w'
set_option maxRecDepth 100000 in
set_option maxHeartbeats 1600000 in
theorem head_on (v0 vm vn vl vb : Value) (A : Option Addr) (mm cc k : Nat) (a : Act) (w : World) (h : PlayL0 a v0 (.slice A mm cc) vm vn vl vb (.int .i64 k)) (hk : k < mm) (hm : mm ≤ maxLen) :
    Runs Try.prog cHead a w (KeptP (fun a' => PlayL0 a' v0 (.slice A mm cc) vm vn vl vb (.int .i64 k)) w) := by
  obtain ⟨u, rfl⟩ := h.open_
  clear h
  unfold maxLen at hm
  have t1 : decide ((k : Int) < (mm : Int)) = true := decide_eq_true (by omega)
  unfold Runs
  conv => arg 2; whnf
  go_wp2
  exact ⟨⟨rfl, rfl, rfl, rfl, rfl, rfl, rfl, rfl, rfl⟩, rfl⟩
set_option maxRecDepth 100000 in
set_option maxHeartbeats 1600000 in
theorem head_off (v0 vm vn vl vb : Value) (A : Option Addr) (mm cc : Nat) (a : Act) (w : World) (h : PlayL0 a v0 (.slice A mm cc) vm vn vl vb (.int .i64 mm)) (hm : mm ≤ maxLen) {K : Act → World → Prop} {Q : Exit → Act → World → Prop}
    (hQ : ∀ a', PlayL0 a' v0 (.slice A mm cc) vm vn vl vb (.int .i64 mm) → Q (.exit 0) a' w) :
    cHead.wp Try.prog (Exit.then K Q) a w := by
  obtain ⟨u, rfl⟩ := h.open_
  clear h
  unfold maxLen at hm
  have HQ := Lib.hid hQ
  clear hQ
  conv => arg 2; whnf
  go_wp2
  exact HQ.out _ ⟨rfl, rfl, rfl, rfl, rfl, rfl, rfl, rfl, rfl⟩
set_option maxRecDepth 100000 in
set_option maxHeartbeats 1600000 in
theorem inc_on (v0 va vm vn vl vb : Value) (k : Nat) (a : Act) (w : World) (h : PlayL0 a v0 va vm vn vl vb (.int .i64 k)) (hk : k ≤ 1000) :
    Runs Try.prog cInc a w (KeptP (fun a' => PlayL0 a' v0 va vm vn vl vb (.int .i64 ((k : Int) + 1))) w) := by
  obtain ⟨u, rfl⟩ := h.open_
  clear h
  have t1 : (k : Int) ≤ 1000 := by omega
  unfold Runs
  conv => arg 2; whnf
  go_wp2
  exact ⟨⟨rfl, rfl, rfl, rfl, rfl, rfl, rfl, rfl, rfl⟩, rfl⟩

/-- What holds at the loop's head. -/
def PlayI (w0 : World) (v0 va : Value) (gL n m : Nat) (a : Act) (w : World) : Prop :=
  ∃ (k : Nat) (F : Nat → List Nat) (c : Nat → Nat), k ≤ m ∧ PlayL0 a v0 va (.pointer (some ⟨w0.heap.size + 1, 0, none⟩)) (.int .i64 n) (.pointer (some ⟨gL, 0, none⟩)) (.pointer (some ⟨gL + 1, 0, none⟩)) (.int .i64 k) ∧ St w0 gL n k F c w
def playMu (m : Nat) (a : Act) (_ : World) : Nat := m - (intOf (a.tmps.getD 9 undef)).toNat
theorem PlayL0.at9 {a : Act} {x0 x1 x5 x6 x7 x8 x9 : Value} (h : PlayL0 a x0 x1 x5 x6 x7 x8 x9) : a.tmps.getD 9 undef = x9 := h.2.2.2.2.2.2.2.2

theorem play_round (w0 : World) (v0 va : Value) (gL n : Nat) (acts : List ActD) (a : Act) (w : World) (ha : Acts w0 w0.heap.size va acts) (hm : acts.length ≤ 80) (hn : n ≤ 1024) (hI : PlayI w0 v0 va gL n acts.length a w)
    {Q : Exit → Act → World → Prop}
    (hQ : ∀ a' w', Below w0.heap.size w0 w' → PlayL0 a' v0 va (.pointer (some ⟨w0.heap.size + 1, 0, none⟩)) (.int .i64 n) (.pointer (some ⟨gL, 0, none⟩)) (.pointer (some ⟨gL + 1, 0, none⟩)) (.int .i64 acts.length) → Q (.exit 0) a' w') :
    cLB.wp Try.prog (Exit.then (fun a' w' => PlayI w0 v0 va gL n acts.length a' w' ∧ playMu acts.length a' w' < playMu acts.length a w) Q) a w := by
  obtain ⟨k, F, c, hk, hL, hS⟩ := hI
  have h9 := hL.at9
  obtain ⟨A, m, cc, rfl, hl, hmm, hcell⟩ := ha.below hS.1
  rw [hl] at hk hm hQ ⊢
  rw [cLB_eq]
  by_cases hlt : k < m
  · refine Runs.wp (R := fun a' w' => PlayI w0 v0 (.slice A m cc) gL n m a' w' ∧ playMu m a' w' < playMu m a w) ?_ (fun a' w' h => h)
    refine Runs.seq ((head_on _ _ _ _ _ A m cc k a w hL hlt hmm).mono fun a1 w1 ⟨hL1, hw1⟩ => ?_)
    obtain rfl : w = w1 := hw1
    refine Runs.seq (Runs.block (seq7 ?_))
    obtain ⟨b, off, rfl, hact⟩ := hcell (by omega)
    have hkl : k < acts.length := by omega
    have hx := hact k acts[k] (List.getElem?_eq_getElem hkl)
    obtain ⟨x, hxe⟩ : ∃ x, x = acts[k] := ⟨_, rfl⟩
    rw [← hxe] at hx
    refine pre_any _ _ _ _ n k b off m cc w0.heap.size x a1 w hL1 hlt hmm hx hn fun a2 w2 hp => ?_
    obtain ⟨th, kk, inn, gA, hL2, hb2, hgA, hblk, hth, hin⟩ := hp
    have hS2 := hS.below hb2
    have hgL : gL + 2 ≤ gA := by have := hS.2.2.2.1.lt; omega
    obtain ⟨_, _, _, _, _, _, hv, hi1, hi2, hi3⟩ := hx
    refine Runs.block ((arm_any w0 _ _ gL gA n k kk th inn F c x a2 w2 hL2 hS2 (by omega) hgL hblk (hv.below (hb2.mono hS.1.size)) ⟨hi1, hi2, hi3⟩ hth hin).mono fun a3 w3 hp3 => ?_)
    obtain ⟨F', c', hL3, hS3, hblk3⟩ := hp3
    refine (tail_any w0 _ _ gL gA n k kk th F' c' x a3 w3 hL3 hS3 hblk3 hth).mono fun a4 w4 ⟨hL4, hw4⟩ => ?_
    obtain rfl : w3 = w4 := hw4
    refine (inc_on _ _ _ _ _ _ k a4 w3 hL4 (by omega)).mono fun a5 w5 ⟨hL5, hw5⟩ => ?_
    obtain rfl : w3 = w5 := hw5
    refine ⟨⟨k + 1, F', c', by omega, hL5, hS3⟩, ?_⟩
    unfold playMu
    rw [hL5.at9, h9]
    simp [intOf]
    omega
  · obtain rfl : k = m := by omega
    exact wp_seq (head_off _ _ _ _ _ A k cc a w hL hmm fun a' hL' => hQ a' w hS.1 hL')
end Go.Proofs.Ytlodeejeeldplaa

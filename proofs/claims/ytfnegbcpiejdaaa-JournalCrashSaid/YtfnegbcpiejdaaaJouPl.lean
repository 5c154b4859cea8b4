/-
  JournalNone, JournalBroken and JournalPlays answer true.
  Conditions: those that each line bears.
-/
import Derived.Test.YtfnegbcpiejdaaaJous
import Derived.Test.YtfnegbcpiejdaaaDsk
import Derived.Test.YtfnegbcpiejdaaaRefs
import Derived.Deep.LoopGhost

/-! ## JouBroken: JournalNone and JournalBroken answer true for any bytes and any number, and write nothing that was there.   Conditions: none beside the kinds' own ranges. -/
namespace Go.Proofs.Ytfnegbcpiejdaaa
open Go.RowKit
set_option linter.unusedVariables false

set_option maxRecDepth 20000 in
set_option maxHeartbeats 800000 in
theorem journalNone_any (A : Option Addr) (l c : Nat) (w : World) :
    Calls Try.prog 5 #[.slice A l c] w fun e w' => e = .returned (.bool true) ∧ Below w.heap.size w w' := by
  go_enter Try.func5, Try.ntmps5
  go_wp2_with fail
  refine (jopen_nil _).mono ?_
  rintro e w1 ⟨rfl, rfl⟩
  go_wp2_with fail
  refine (jouAnswers_any _).mono ?_
  rintro e w1 ⟨rfl, hb⟩
  have HB := Lib.hid hb
  clear hb
  go_wp2_with fail
  refine (japp_nil _ _ _ _).mono ?_
  rintro e w2 ⟨rfl, rfl⟩
  go_wp2_with fail
  refine (jreb_nil _ _ _ _).mono ?_
  rintro e w2 ⟨rfl, rfl⟩
  go_wp2_with fail
  refine (jlen_nil _).mono ?_
  rintro e w2 ⟨rfl, rfl⟩
  go_wp2
  go_ret
  exact ⟨by simp, HB.out⟩

/-- Behind a crash that tears no sector the disk is one that the invariant bears. -/
theorem JInv.crashed {g : Nat} {nb : List Nat} {rs xs bs : List (List Nat)} {S F : Nat → List Nat} {L : Nat → Option (List Nat)} (h : JInv g nb rs xs bs S L) (hF : ∀ f, f < 192 → Val S L f (F f)) : JInv g nb rs xs bs F (fun _ => none) := by
  have hS : ∀ f, f < 192 → L f = none → F f = S f := by
    intro f hf hn
    rcases hF f hf with h | h
    · exact h
    · rw [hn] at h; cases h
  have few := h.few
  have hv : ∀ f y, f < 192 → Val F (fun _ => none) f y → Val S L f y := fun f y hf hy => by
    rw [hy.sure]
    exact hF f hf
  refine { h with
    logd := fun f hf => ⟨by rw [hS f (by omega) (h.logd f hf).2]; exact (h.logd f hf).1, rfl⟩
    next := fun y hy hn => h.next y (hv _ y (by omega) hy) hn
    behind := fun f y h1 h2 hy => h.behind f y h1 h2 (hv f y (by omega) hy)
    fresh := fun f y g' hf hy => h.fresh f y g' hf (hv f y (by omega) hy)
    own := ?_
    other := fun y hy => h.other y (hv _ y (by omega) hy) }
  rcases h.own with ⟨h1, h2, h3, h4⟩ | ⟨h1, h2, h3, h4, h5⟩
  · exact .inl ⟨h1, h2, by rw [hS 64 (by omega) h4]; exact h3, rfl⟩
  · refine .inr ⟨h1, h2, by rw [hS _ (by omega) (h5 _ (by omega) (by omega))]; exact h3, ?_, fun _ _ _ => rfl⟩
    rw [sloA_congr (F' := S) (fun f k1 k2 => hS f (by omega) (h5 f (by omega) (by omega)))]
    exact h4
theorem jc_crash (w wx : World) (g : Nat) (nb : List Nat) (rs : List (List Nat)) (K tn : Nat) (T : Int) (h : JDk w g nb rs wx) (hK : K < 18446744073709551616) (hT : Near64 T tn) (ht : tn = 0 ∨ tn = 64) :
    Calls Try.prog 15 #[.pointer (some ⟨w.heap.size + 2, 0, none⟩), .int .u64 (K : Int), .int .i64 T] wx fun e w' => e = .returned (.tuple #[]) ∧ JDk w g nb rs w' ∧ Turns (dk (w.heap.size + 2) w.heap.size (w.heap.size + 1)) wx w' := by
  obtain ⟨S, L, h1, h2, h3, _⟩ := h
  refine (dcrash_any _ _ _ _ S L _ K T tn wx h1 hK hT).mono ?_
  rintro e w' ⟨rfl, hd, ht'⟩
  exact ⟨rfl, ⟨_, _, hd, h2.crashed (h2.crash (fun f hf => (h1.long hf).1) (fun f y hy => (h1.loose_ hy).1) ht), ht'.fresh_ h3 (Nat.le_refl _) (by omega) (Nat.le_refl _) (by omega), fun _ => rfl⟩, ht'⟩

/-- A disk that fails once, in a Save. -/
theorem SavBad.once {S S' : Nat → List Nat} {L L' : Nat → Option (List Nat)} {a g z : Nat} {b : List Nat} {t' : Tr} (h : SavBad S L ⟨a, 1, false, 0, false⟩ g b z S' L' t') : z = 6 ∧ t' = Tr.none_ := by
  have one : ∀ j, (tn ⟨a, 1, false, 0, false⟩ j).ans ≠ 0 → j = a ∧ (tn ⟨a, 1, false, 0, false⟩ j).ans = 6 := by
    intro j hj
    rw [ans_once] at hj ⊢
    by_cases e : j = a
    · exact ⟨e, by rw [if_pos e]⟩
    · rw [if_neg e] at hj; exact absurd rfl hj
  rcases h with ⟨k, _, _, h1, h2, _, _, h3⟩ | ⟨_, ⟨h1, h2, _, _, h3⟩ | ⟨_, h1, h2, _, _, h3⟩⟩
  · obtain ⟨e1, e2⟩ := one _ h1
    exact ⟨by rw [h2, e2], by rw [h3, e1, once_done]⟩
  · obtain ⟨e1, e2⟩ := one _ h1
    exact ⟨by rw [h2, e2], by rw [h3, show nsec b + 2 = a + 1 by omega, once_done]⟩
  · obtain ⟨e1, e2⟩ := one _ h1
    exact ⟨by rw [h2, e2], by rw [h3, show nsec b + 3 = a + 1 by omega, once_done]⟩
theorem SavGood.once {S S' : Nat → List Nat} {L L' : Nat → Option (List Nat)} {a g : Nat} {b : List Nat} {t' : Tr} (h : SavGood S L ⟨a, 1, false, 0, false⟩ g b S' L' t') (ha : a < 3) : False := by
  have h1 := h.1 a (by omega)
  rw [ans_once, if_pos rfl] at h1
  omega

/-- A journal whose Rebase was cut off. -/
def JCut (w : World) (gJ : Nat) (a b : List Nat) (wx : World) : Prop :=
  ∃ S L, Jnl wx gJ (w.heap.size + 2) w.heap.size (w.heap.size + 1) S L Tr.none_ 0 1 true ∧ JInv 0 [] [a] [] [b] S L ∧ Below w.heap.size w wx ∧ w.heap.size ≤ gJ
/-- What the Rebase leaves that is cut off. -/
def JCutPost (w wx : World) (gJ : Nat) (a b : List Nat) (e : Ending) (w' : World) : Prop :=
  e = .returned (.int .i64 6) ∧ JCut w gJ a b w' ∧ Turns (jk gJ (w.heap.size + 2) w.heap.size (w.heap.size + 1)) wx w'
theorem jc_cut (w wx : World) (gJ x : Nat) (S : Nat → List Nat) (L : Nat → Option (List Nat)) (a b : List Nat) (v : Value) (h1 : Jnl wx gJ (w.heap.size + 2) w.heap.size (w.heap.size + 1) S L ⟨x, 1, false, 0, false⟩ 0 1 false) (h2 : JInv 0 [] [a] [] [] S L) (h3 : Below w.heap.size w wx) (h4 : w.heap.size ≤ gJ)
    (hx : Stay (w.heap.size + 2) w.heap.size (w.heap.size + 1) wx v b) (hl : b.length ≤ 960) (ha : x < 3) :
    Calls Try.prog 12 #[.pointer (some ⟨gJ, 0, none⟩), v] wx (JCutPost w wx gJ a b) := by
  refine (jreb_any gJ _ _ _ 0 1 S L _ false v b wx h1 hx (by omega)).mono ?_
  rintro e w' ⟨z, S', L', t', g', n', br', rfl, hj, ht, hc⟩
  rcases hc with ⟨c1, _⟩ | ⟨_, c1, rfl, rfl, rfl, c2⟩ | ⟨_, rfl, rfl, rfl, rfl, c2⟩
  · omega
  · obtain ⟨rfl, rfl⟩ := c2.once
    exact ⟨rfl, ⟨S', L', hj, h2.bad hl c2, h3.trans ((ht.below (jk_lo h4) h3.size)), h4⟩, ht⟩
  · exact (c2.once ha).elim
/-- An Append behind it. -/
theorem jc_full (w wx : World) (gJ : Nat) (a b : List Nat) (v : Value) (c : List Nat) (B : Nat) (h : JCut w gJ a b wx) (hx : Bts wx B v c) (hB : B ≤ wx.heap.size) (hl : c.length ≤ 50) :
    Calls Try.prog 13 #[.pointer (some ⟨gJ, 0, none⟩), v] wx fun e w' => e = .returned (.int .i64 4) ∧ JCut w gJ a b w' ∧ Turns (jk gJ (w.heap.size + 2) w.heap.size (w.heap.size + 1)) wx w' := by
  obtain ⟨S, L, h1, h2, h3, h4⟩ := h
  refine (japp_any gJ _ _ _ 0 1 S L _ true v c B wx h1 hx hB (by omega) (by omega)).mono ?_
  rintro e w' ⟨z, S', L', t', n', rfl, hj, ht, hc⟩
  rcases hc with ⟨c1, _⟩ | ⟨_, _, rfl, rfl, rfl, rfl, rfl⟩ | ⟨_, c1, _⟩
  · omega
  · exact ⟨rfl, ⟨S', L', hj, h2, h3.trans ((ht.below (jk_lo h4) h3.size)), h4⟩, ht⟩
  · cases c1
/-- A Rebase behind it. -/
theorem jc_mend (w wx : World) (gJ : Nat) (a b : List Nat) (v : Value) (c : List Nat) (h : JCut w gJ a b wx) (hx : Stay (w.heap.size + 2) w.heap.size (w.heap.size + 1) wx v c) (hl : c.length ≤ 960) :
    Calls Try.prog 12 #[.pointer (some ⟨gJ, 0, none⟩), v] wx (JCApp w wx gJ 1 c []) := by
  obtain ⟨S, L, h1, h2, h3, h4⟩ := h
  refine (jreb_any gJ _ _ _ 0 1 S L _ true v c wx h1 hx (by omega)).mono ?_
  rintro e w' ⟨z, S', L', t', g', n', br', rfl, hj, ht, hc⟩
  rcases hc with ⟨c1, _⟩ | ⟨_, c1, _, _, _, c2⟩ | ⟨_, rfl, rfl, rfl, rfl, c2⟩
  · omega
  · exfalso
    rcases c2 with ⟨k, _, _, c3, _⟩ | ⟨_, ⟨c3, _⟩ | ⟨_, c3, _⟩⟩
    · rw [tn_none] at c3; exact absurd none_ans c3
    · rw [tn_none] at c3; exact absurd none_ans c3
    · rw [tn_none] at c3; exact absurd none_ans c3
  · have htt : t' = Tr.none_ := by rw [c2.2.2.2, tn_none]
    subst htt
    exact ⟨rfl, ⟨S', L', hj, h2.good hl (by omega) c2, h3.trans ((ht.below (jk_lo h4) h3.size)), h4, fun k => by rw [c2.2.2.1]⟩, ht⟩
end Go.Proofs.Ytfnegbcpiejdaaa

/-! ## JouBrokenB: JournalBroken answers true for any bytes and any number, and writes nothing that was there.   Conditions: none beside the kinds' own ranges. -/
namespace Go.Proofs.Ytfnegbcpiejdaaa
open Go.RowKit
set_option linter.unusedVariables false

set_option maxRecDepth 20000 in
set_option maxHeartbeats 800000 in
theorem journalBroken_edge (A1 A2 A3 : Option Addr) (l1 c1 l2 c2 l3 c3 : Nat) (p : Int) (w : World) (h : 50 < l1 ∨ 900 < l2 ∨ 50 < l3) :
    Calls Try.prog 6 #[.slice A1 l1 c1, .slice A2 l2 c2, .slice A3 l3 c3, .int .u8 p] w fun e w' => e = .returned (.bool true) ∧ Below w.heap.size w w' := by
  obtain ⟨d1, hd1⟩ : ∃ d, d = decide ((50 : Int) < (l1 : Int)) := ⟨_, rfl⟩
  obtain ⟨d2, hd2⟩ : ∃ d, d = decide ((900 : Int) < (l2 : Int)) := ⟨_, rfl⟩
  obtain ⟨d3, hd3⟩ : ∃ d, d = decide ((50 : Int) < (l3 : Int)) := ⟨_, rfl⟩
  have hor : d1 = true ∨ d2 = true ∨ d3 = true := by
    rw [hd1, hd2, hd3]
    simp only [decide_eq_true_eq]
    omega
  have e1 := hd1.symm
  have e2 := hd2.symm
  have e3 := hd3.symm
  clear hd1 hd2 hd3 h
  cases d1 <;> cases d2 <;> cases d3 <;> first
    | (exfalso; revert hor; decide)
    | (clear hor
       go_enter Try.func6, Try.ntmps6
       go_wp2_with fail
       refine (jouAnswers_any _).mono ?_
       rintro e w1 ⟨rfl, hb⟩
       go_wp2
       go_ret
       exact ⟨rfl, hb⟩)

theorem one_pts {w : World} {v : Value} {g : Nat} {t : TypeId} {B : Nat} {xs : List Nat} (h : Blk w g t #[v]) (hx : Bts w B v xs) (hB : B ≤ w.heap.size) : Pts w (.slice (some ⟨g, 0, none⟩) 1 1) [xs] :=
  ⟨_, 1, 1, rfl, rfl, Nat.le_refl _, by simp [maxLen], fun _ => ⟨g, 0, rfl, fun j hj => by
    obtain rfl : j = 0 := by omega
    exact ⟨v, by rw [h.cell]; rfl, hx.more hB⟩⟩⟩

set_option maxRecDepth 20000 in
set_option maxHeartbeats 1600000 in
theorem journalBroken_any (v1 v2 v3 : Value) (xs ys zs' : List Nat) (p : Nat) (w : World) (h1 : Bts w w.heap.size v1 xs) (h2 : Bts w w.heap.size v2 ys) (h3 : Bts w w.heap.size v3 zs') (hx : xs.length ≤ 50) (hy : ys.length ≤ 900) (hz : zs'.length ≤ 50) (hp : p < 256) :
    Calls Try.prog 6 #[v1, v2, v3, .int .u8 (p : Int)] w fun e w' => e = .returned (.bool true) ∧ Below w.heap.size w w' := by
  have H1 := Lib.hid h1
  have H2 := Lib.hid h2
  have H3 := Lib.hid h3
  have HL1 := Lib.hid hx
  have HL2 := Lib.hid hy
  have HL3 := Lib.hid hz
  obtain ⟨A1, l1, c1, rfl, e1, -⟩ := h1
  obtain ⟨A2, l2, c2, rfl, e2, -⟩ := h2
  obtain ⟨A3, l3, c3, rfl, e3, -⟩ := h3
  have t1 : decide ((50 : Int) < (l1 : Int)) = false := decide_eq_false (by omega)
  have t2 : decide ((900 : Int) < (l2 : Int)) = false := decide_eq_false (by omega)
  have t3 : decide ((50 : Int) < (l3 : Int)) = false := decide_eq_false (by omega)
  obtain ⟨a, ha, ha2⟩ : ∃ a : Nat, (p : Int) % 3 = (a : Int) ∧ a < 3 := ⟨p % 3, by omega, by omega⟩
  have HA := Lib.hid ha2
  have ST := Lib.hid (fun (v : Value) (x : List Nat) (hv : Bts w w.heap.size v x) (W : World) (hW : Below w.heap.size w W) => (show Stay (w.heap.size + 2) w.heap.size (w.heap.size + 1) W v x from Stay.below (hv.below hW) hW.size (dk_lo w)))
  clear hx hy hz e1 e2 e3 hp ha2
  go_enter Try.func6, Try.ntmps6
  go_wp2_with fail
  refine (dnew_any 192 192 w (by unfold NearD; omega)).mono ?_
  rintro e w1 ⟨rfl, hd1, hb1, hz1⟩
  have HJ1 := Lib.hid (JDk.start hd1 hb1)
  clear hd1 hb1 hz1
  go_wp2_with fail
  refine (jc_open w w1 0 [] [] HJ1.out (by omega)).mono ?_
  rintro e w2 ⟨gJ, v4, v5, rfl, ho2, hl2, hj2, _, _⟩
  obtain ⟨A4, c4, rfl⟩ := own_any ho2
  obtain ⟨A5, c5, rfl, -⟩ := hl2.shape
  have HJ2 := Lib.hid hj2
  clear ho2 hl2 hj2
  go_wp2_with fail
  refine (jc_app w _ gJ 0 [] [] _ xs _ HJ2.out (H1.out.below HJ2.out.below) HJ2.out.below.size HL1.out (by simp) (by omega)).mono ?_
  rintro e w3 ⟨rfl, hj3, _⟩
  obtain ⟨S3, L3, hn3, hi3, hb3, hg3, _⟩ := hj3
  have HJN := Lib.hid hn3
  have HI3 := Lib.hid hi3
  have HB3 := Lib.hid hb3
  have HG3 := Lib.hid hg3
  clear hn3 hi3 hb3 hg3
  go_wp2_with fail
  refine (fail_any _ _ _ _ _ _ _ a 1 _ HJN.out.2.1 (by have := HA.out; omega) (by omega)).mono ?_
  rintro e w4 ⟨rfl, hd4, ho4⟩
  have HT4 := Lib.hid (show Turns (jk gJ (w.heap.size + 2) w.heap.size (w.heap.size + 1)) w3 w4 from Turns.of_only ho4 (.inr (.inl rfl)))
  have HB4 := Lib.hid (HB3.out.trans (HT4.out.below (jk_lo HG3.out) HB3.out.size))
  have HJ4 := Lib.hid (show Jnl w4 gJ (w.heap.size + 2) w.heap.size (w.heap.size + 1) S3 L3 ⟨a, 1, false, 0, false⟩ 0 1 false from ⟨ho4.blk HJN.out.1 (fun e => HJN.out.2.2 (.inl e)), hd4, HJN.out.2.2⟩)
  clear hd4 ho4
  go_wp2_with fail
  refine (jc_cut w w4 gJ a S3 L3 xs ys _ HJ4.out HI3.out HB4.out HG3.out (ST.out _ _ H2.out _ HB4.out) (by have := HL2.out; omega) HA.out).mono ?_
  rintro e w5 ⟨rfl, hj5, _⟩
  have HJ5 := Lib.hid hj5
  have HB5 := Lib.hid (show Below w.heap.size w w5 by obtain ⟨_, _, _, _, h, _⟩ := hj5; exact h)
  clear hj5
  go_wp2_with fail
  refine (jc_full w w5 gJ xs ys _ zs' _ HJ5.out (H3.out.below HB5.out) HB5.out.size HL3.out).mono ?_
  rintro e w6 ⟨rfl, hj6, _⟩
  have HJ6 := Lib.hid hj6
  have HB6 := Lib.hid (show Below w.heap.size w w6 by obtain ⟨_, _, _, _, h, _⟩ := hj6; exact h)
  clear hj6
  go_wp2_with fail
  refine (jc_mend w w6 gJ xs ys _ ys HJ6.out (ST.out _ _ H2.out _ HB6.out) (by have := HL2.out; omega)).mono ?_
  rintro e w7 ⟨rfl, hj7, _⟩
  have HJ7 := Lib.hid hj7
  clear hj7
  go_wp2_with fail
  refine (jc_app w _ gJ 1 ys [] _ zs' _ HJ7.out (H3.out.below HJ7.out.below) HJ7.out.below.size HL3.out (by simp) (by omega)).mono ?_
  rintro e w8 ⟨rfl, hj8, _⟩
  have HJ8 := Lib.hid hj8
  clear hj8
  go_wp2_with fail
  refine (jc_crash w w8 1 ys ([] ++ [zs']) 0 0 0 HJ8.out.disk (by omega) (.inl ⟨by omega, rfl⟩) (.inl rfl)).mono ?_
  rintro e w9 ⟨rfl, hj9, _⟩
  have HJ9 := Lib.hid hj9
  clear hj9
  go_wp2_with fail
  refine (jc_open w w9 1 ys ([] ++ [zs']) HJ9.out (by omega)).mono ?_
  rintro e w10 ⟨gK, v10, u10, rfl, ho10, hl10, hj10, ht10, _⟩
  obtain ⟨A10, c10, rfl⟩ := own_any ho10
  have HP10 := Lib.hid hl10.pts
  obtain ⟨A11, c11, rfl, -⟩ := hl10.shape
  have HO10 := Lib.hid (Bts.of_own ho10 H2.out.byte)
  have HB10 := Lib.hid hj10.below
  clear ho10 hl10 hj10 ht10
  go_wp2_with fail
  refine (jouAnswers_any _).mono ?_
  rintro e w11 ⟨rfl, hb11⟩
  have HB11 := Lib.hid (HB10.out.trans (hb11.mono HB10.out.size))
  have HO11 := Lib.hid (HO10.out.below hb11)
  have HP11 := Lib.hid (HP10.out.below hb11)
  clear hb11
  go_wp2_with fail
  refine (same_any _ _ _ _ _ _ _ HO11.out (H2.out.below HB11.out)).mono ?_
  rintro e w12 ⟨rfl, q, rfl⟩
  rw [decide_eq_true rfl]
  have HA12 := Lib.hid (show Below w11.heap.size w11 ((w11.drewN q).alloc (.cells #[.slice A3 l3 c3] 27)) from (below_drewN (Below.refl _ w11) q).alloc (Nat.le_refl _) _)
  have HP12 := Lib.hid (one_pts (w := (w11.drewN q).alloc (.cells #[.slice A3 l3 c3] 27)) (Blk.new (w11.drewN q) _ _) ((H3.out.below HB11.out).below (HA12.out.mono HB11.out.size)) (Nat.le_trans HB11.out.size HA12.out.size))
  have HB12 := Lib.hid (HB11.out.trans (HA12.out.mono HB11.out.size))
  go_wp2_with fail
  refine (sameAll_any _ _ ([] ++ [zs']) _ _ (HP11.out.below HA12.out) HP12.out).mono ?_
  rintro e w13 ⟨rfl, q2, rfl⟩
  rw [decide_eq_true (show [] ++ [zs'] = [zs'] from rfl)]
  have HB13 := Lib.hid (below_drewN HB12.out q2)
  go_wp2
  go_ret
  exact ⟨by simp, HB13.out⟩
end Go.Proofs.Ytfnegbcpiejdaaa

/-! ## JouPlays: JournalPlays answers true for any acts, and writes nothing that was there.   Conditions: the acts are read in memory. -/
namespace Go.Proofs.Ytfnegbcpiejdaaa
open Go.RowKit
set_option linter.unusedVariables false

/-- An act: Rebase or Append, and its bytes. -/
structure ActJ where
  base : Bool
  v : Value
  xs : List Nat
def ActJAt (w : World) (b o : Nat) (x : ActJ) : Prop := b < w.heap.size ∧ w.cell? ⟨b, o, none⟩ = some (.bool x.base) ∧ w.cell? ⟨b, o + 1, none⟩ = some x.v ∧ Bts w w.heap.size x.v x.xs
def ActsJ (w : World) (v : Value) (ps : List ActJ) : Prop :=
  ∃ A n c, v = .slice A n c ∧ ps.length = n ∧ n ≤ maxLen ∧ (0 < n → ∃ b off, A = some ⟨b, off, none⟩ ∧ ∀ j x, ps[j]? = some x → ActJAt w b (off + j * 2) x)

/-- What an Append that is refused leaves. -/
theorem jc_app_arg (w wx : World) (gJ g : Nat) (nb : List Nat) (rs : List (List Nat)) (v : Value) (b : List Nat) (B : Nat) (h : JC w gJ g nb rs wx) (hx : Bts wx B v b) (hB : B ≤ wx.heap.size) (hl : 50 < b.length) (hg : g < 4294967296) :
    Calls Try.prog 13 #[.pointer (some ⟨gJ, 0, none⟩), v] wx fun e w' => e = .returned (.int .i64 1) ∧ JC w gJ g nb rs w' ∧ Turns (jk gJ (w.heap.size + 2) w.heap.size (w.heap.size + 1)) wx w' := by
  obtain ⟨S, L, h1, h2, h3, h4⟩ := h
  refine (japp_any gJ _ _ _ g rs.length S L _ false v b B wx h1 hx hB hg h2.few).mono ?_
  rintro e w' ⟨z, S', L', t', n', rfl, hj, ht, hc⟩
  rcases hc with ⟨_, rfl, rfl, rfl, rfl, rfl⟩ | ⟨c1, _⟩ | ⟨c1, _⟩
  · exact ⟨rfl, ⟨S', L', hj, h2, h3.trans ((ht.below (jk_lo h4.1) h3.size)), h4⟩, ht⟩
  · omega
  · omega
theorem jc_app_full (w wx : World) (gJ g : Nat) (nb : List Nat) (rs : List (List Nat)) (v : Value) (b : List Nat) (B : Nat) (h : JC w gJ g nb rs wx) (hx : Bts wx B v b) (hB : B ≤ wx.heap.size) (hl : b.length ≤ 50) (hn : 64 ≤ rs.length) (hg : g < 4294967296) :
    Calls Try.prog 13 #[.pointer (some ⟨gJ, 0, none⟩), v] wx fun e w' => e = .returned (.int .i64 4) ∧ JC w gJ g nb rs w' ∧ Turns (jk gJ (w.heap.size + 2) w.heap.size (w.heap.size + 1)) wx w' := by
  obtain ⟨S, L, h1, h2, h3, h4⟩ := h
  refine (japp_any gJ _ _ _ g rs.length S L _ false v b B wx h1 hx hB hg h2.few).mono ?_
  rintro e w' ⟨z, S', L', t', n', rfl, hj, ht, hc⟩
  rcases hc with ⟨c1, _⟩ | ⟨_, _, rfl, rfl, rfl, rfl, rfl⟩ | ⟨_, _, c1, _⟩
  · omega
  · exact ⟨rfl, ⟨S', L', hj, h2, h3.trans ((ht.below (jk_lo h4.1) h3.size)), h4⟩, ht⟩
  · omega
theorem jc_reb_arg (w wx : World) (gJ g : Nat) (nb : List Nat) (rs : List (List Nat)) (v : Value) (b : List Nat) (h : JC w gJ g nb rs wx) (hx : Stay (w.heap.size + 2) w.heap.size (w.heap.size + 1) wx v b) (hl : 960 < b.length) (hg : g + 1 < 4294967296) :
    Calls Try.prog 12 #[.pointer (some ⟨gJ, 0, none⟩), v] wx fun e w' => e = .returned (.int .i64 1) ∧ JC w gJ g nb rs w' ∧ Turns (jk gJ (w.heap.size + 2) w.heap.size (w.heap.size + 1)) wx w' := by
  obtain ⟨S, L, h1, h2, h3, h4⟩ := h
  refine (jreb_any gJ _ _ _ g rs.length S L _ false v b wx h1 hx hg).mono ?_
  rintro e w' ⟨z, S', L', t', g', n', br', rfl, hj, ht, hc⟩
  rcases hc with ⟨_, rfl, rfl, rfl, rfl, rfl, rfl, rfl⟩ | ⟨c1, _⟩ | ⟨c1, _⟩
  · exact ⟨rfl, ⟨S', L', hj, h2, h3.trans ((ht.below (jk_lo h4.1) h3.size)), h4⟩, ht⟩
  · omega
  · omega
theorem jc_len (w wx : World) (gJ g : Nat) (nb : List Nat) (rs : List (List Nat)) (h : JC w gJ g nb rs wx) :
    Calls Try.prog 14 #[.pointer (some ⟨gJ, 0, none⟩)] wx fun e w' => e = .returned (.int .i64 (rs.length : Int)) ∧ wx = w' := by
  obtain ⟨S, L, h1, _⟩ := h
  exact jlen_any _ _ _ _ _ _ _ _ _ _ _ h1
theorem JC.few {w wx : World} {gJ g : Nat} {nb : List Nat} {rs : List (List Nat)} (h : JC w gJ g nb rs wx) : rs.length ≤ 64 := by
  obtain ⟨S, L, _, h1, _⟩ := h
  exact h1.few

theorem JC.far {w wx wy : World} {gJ g B : Nat} {nb : List Nat} {rs : List (List Nat)} (h : JC w gJ g nb rs wx) (hb : Below B wx wy) (h1 : gJ < B) (h2 : w.heap.size + 3 ≤ B) : JC w gJ g nb rs wy := by
  obtain ⟨S, L, k1, k2, k3, k4⟩ := h
  exact ⟨S, L, ⟨k1.1.below hb h1, k1.2.1.below hb (by omega) (by omega) (by omega), k1.2.2⟩, k2, k3.trans (hb.mono (by omega)), k4⟩

set_option maxRecDepth 20000 in
set_option maxHeartbeats 400000 in
theorem journalPlays_edge (A : Option Addr) (l c : Nat) (w : World) (h : 150 < l) :
    Calls Try.prog 3 #[.slice A l c] w fun e w' => e = .returned (.bool true) ∧ Below w.heap.size w w' := by
  have t1 : decide ((150 : Int) < (l : Int)) = true := decide_eq_true (by omega)
  clear h
  go_enter Try.func3, Try.ntmps3
  go_wp2_with fail
  refine (jouAnswers_any _).mono ?_
  rintro e w1 ⟨rfl, hb⟩
  go_wp2
  go_ret
  exact ⟨rfl, hb⟩

/-- What holds ahead of round i. -/
def PlaysAt (w : World) (gJ i : Nat) (v8 v9 : Value) (wx : World) : Prop :=
  ∃ g nb rs, g ≤ i ∧ JC w gJ g nb rs wx ∧ Bts w w.heap.size v8 nb ∧ Lst wx (jk gJ (w.heap.size + 2) w.heap.size (w.heap.size + 1)) w.heap.size (gJ + 1) 27 v9 rs ∧ gJ < wx.heap.size

set_option maxRecDepth 20000 in
set_option maxHeartbeats 3200000 in
theorem journalPlays_any (v0 : Value) (acts : List ActJ) (w : World) (h0 : ActsJ w v0 acts) (hl : acts.length ≤ 150) :
    Calls Try.prog 3 #[v0] w fun e w' => e = .returned (.bool true) ∧ Below w.heap.size w w' := by
  obtain ⟨A, N, c, rfl, hN, hm, hz⟩ := h0
  have HZ := Lib.hid hz
  have HN := Lib.hid hN
  have hN150 : N ≤ 150 := by omega
  have t1 : decide ((150 : Int) < (N : Int)) = false := decide_eq_false (by omega)
  obtain ⟨i0, hi, hz0, hz1, hz2⟩ := info_parts Try.infoB
  have HI := Lib.hid hi
  have HZ0 := Lib.hid hz0
  have HZ1 := Lib.hid hz1
  have HZ2 := Lib.hid hz2
  have ST := Lib.hid (fun (v : Value) (x : List Nat) (hv : Bts w w.heap.size v x) (W : World) (hW : Below w.heap.size w W) => (show Stay (w.heap.size + 2) w.heap.size (w.heap.size + 1) W v x from Stay.below (hv.below hW) hW.size (dk_lo w)))
  clear hl hN hm hz hi hz0 hz1 hz2
  go_enter Try.func3, Try.ntmps3
  go_wp2_with fail
  refine (dnew_any 192 192 w (by unfold NearD; omega)).mono ?_
  rintro e w1 ⟨rfl, hd1, hb1, hz1⟩
  have HJ1 := Lib.hid (JDk.start hd1 hb1)
  have HZ1' := Lib.hid hz1
  clear hd1 hb1 hz1
  go_wp2_with fail
  refine (jc_open w w1 0 [] [] HJ1.out (by omega)).mono ?_
  rintro e w2 ⟨gJ, v4, v5, rfl, ho2, hl2, hj2, _, hgJ⟩
  obtain ⟨A4, c4, rfl⟩ := own_any ho2
  obtain ⟨A5, c5, rfl, -⟩ := hl2.shape
  have HJ2 := Lib.hid hj2
  have hgJ3 : w.heap.size + 3 ≤ gJ := by have := HZ1'.out; omega
  have HMB := Lib.hid (show ∀ q, jk gJ (w.heap.size + 2) w.heap.size (w.heap.size + 1) q → q < gJ + 1 from by
    rintro q (e | e)
    · omega
    · have := dk_base w q e; omega)
  have HML := Lib.hid (show ∀ q, jk gJ (w.heap.size + 2) w.heap.size (w.heap.size + 1) q → w.heap.size ≤ q from jk_lo (by omega))
  have HG2 := Lib.hid (show gJ < w2.heap.size by obtain ⟨_, _, h, _⟩ := hj2; exact h.1.lt)
  clear ho2 hl2 hj2
  go_wp2_with fail
  refine (jouAnswers_any _).mono ?_
  rintro e w3 ⟨rfl, hb3⟩
  have HS3 := Lib.hid (show PlaysAt w gJ 0 (.slice none 0 0) (.slice none 0 0) w3 from ⟨0, [], [], Nat.le_refl _, HJ2.out.fresh hb3, Bts.nil_ _ _, Lst.nil_ _ _ _ _ _, Nat.lt_of_lt_of_le HG2.out hb3.size⟩)
  clear hb3
  go_wp2_with fail
  go_loopg [8, 9, 10] N (fun gg s8 s9 s10 wx => ∃ i : Nat, i + gg = N ∧ s10 = .int .i64 (i : Int) ∧ PlaysAt w gJ i s8 s9 wx)
  case atStart => exact ⟨0, by omega, rfl, HS3.out⟩
  case round =>
    obtain ⟨i, hig, rfl, hr⟩ := hrel
    obtain ⟨g, nb, rs, hgi, hjc, hnb, hls, hgs⟩ := hr
    have HJ := Lib.hid hjc
    have HNB := Lib.hid hnb
    have HLS := Lib.hid hls
    have HGS := Lib.hid hgs
    have HGI := Lib.hid hgi
    have HFEW := Lib.hid hjc.few
    have HB := Lib.hid hjc.below
    obtain ⟨A8, n8, c8, rfl, -⟩ := hnb
    obtain ⟨A9, c9, rfl, -⟩ := hls.shape
    clear hjc hls hgs hgi
    by_cases hlt : i < N
    · have t4 : decide ((i : Int) < (N : Int)) = true := decide_eq_true (by omega)
      have t5 : (i : Int) < (N : Int) := by omega
      have t6 : (0 : Int) ≤ (i : Int) := by omega
      obtain ⟨b1, o1, rfl, hpa⟩ := HZ.out (by omega)
      obtain ⟨ac, hac⟩ : ∃ ac, acts[i]? = some ac := ⟨_, List.getElem?_eq_getElem (by rw [HN.out]; exact hlt)⟩
      obtain ⟨hbl, hc1, hc2, hxv⟩ := hpa i ac hac
      obtain ⟨bs, vv, xs⟩ := ac
      simp only at hc1 hc2 hxv
      have hcell1 : wr.cell? ⟨b1, o1 + i * 2, none⟩ = some (.bool bs) := (HB.out.cell hbl).trans hc1
      have hcell2 : wr.cell? ⟨b1, o1 + i * 2 + 1, none⟩ = some vv := (HB.out.cell hbl).trans hc2
      have HXV := Lib.hid hxv
      obtain ⟨A6, n6, c6, rfl, hn6, -⟩ := hxv
      have HN6 := Lib.hid hn6
      clear hpa hac hc1 hc2 hn6
      cases bs with
      | true =>
        by_cases k1 : 960 < n6
        · have d1 : decide ((960 : Int) < (n6 : Int)) = true := decide_eq_true (by omega)
          have W0B := Lib.hid (show Below wr.heap.size wr (wr.alloc (.cells #[.bool true, .slice A6 n6 c6] 33)) from (Below.refl _ _).alloc (Nat.le_refl _) _)
          have HJW := Lib.hid (HJ.out.fresh W0B.out)
          have HBW := Lib.hid (HB.out.trans (W0B.out.mono HB.out.size))
          have HXW := Lib.hid (HXV.out.below HBW.out)
          have HBL := Lib.hid (Blk.new wr 33 #[.bool true, .slice A6 n6 c6])
          have HLW := Lib.hid (HLS.out.alloc HMB.out (.cells #[.bool true, .slice A6 n6 c6] 33))
          go_wp2_with fail
          refine (jc_reb_arg w _ gJ g nb rs _ xs HJW.out (ST.out _ _ HXV.out _ HBW.out) (by have := HN6.out; omega) (by have := HGI.out; omega)).mono ?_
          rintro e w4 ⟨rfl, hj4, ht4⟩
          have HJ4 := Lib.hid hj4
          have HB4 := Lib.hid (ht4.blk HBL.out (by rintro (e | e | e | e) <;> (have := HGS.out; omega)))
          have hd0 : w4.cell? ⟨wr.heap.size, 0, none⟩ = some (.bool true) := by rw [HB4.out.cell]; rfl
          have hd1 : w4.cell? ⟨wr.heap.size, 1, none⟩ = some (.slice A6 n6 c6) := by rw [HB4.out.cell]; rfl
          have HL4 := Lib.hid (HLW.out.turns HMB.out ht4)
          have HS4 := Lib.hid (show gJ < w4.heap.size by have h1 := ht4.size; have h2 := HGS.out; simp at h1; omega)
          clear hj4 ht4
          go_wp2_with fail
          refine (jc_len _ _ _ _ _ _ HJ4.out).mono ?_
          rintro e w5 ⟨rfl, rfl⟩
          go_wp2_with fail
          go_roundg (N - (i + 1))
          case measure => omega
          case rel => exact ⟨i + 1, by omega, by go_num, g, nb, rs, by have := HGI.out; omega, HJ4.out, HNB.out, HL4.out, HS4.out⟩
        · have d1 : decide ((960 : Int) < (n6 : Int)) = false := decide_eq_false (by omega)
          have W0B := Lib.hid (show Below wr.heap.size wr (wr.alloc (.cells #[.bool true, .slice A6 n6 c6] 33)) from (Below.refl _ _).alloc (Nat.le_refl _) _)
          have HJW := Lib.hid (HJ.out.fresh W0B.out)
          have HBW := Lib.hid (HB.out.trans (W0B.out.mono HB.out.size))
          have HXW := Lib.hid (HXV.out.below HBW.out)
          have HBL := Lib.hid (Blk.new wr 33 #[.bool true, .slice A6 n6 c6])
          have HLW := Lib.hid (HLS.out.alloc HMB.out (.cells #[.bool true, .slice A6 n6 c6] 33))
          go_wp2_with fail
          refine (jc_reb w _ gJ g nb rs _ xs HJW.out (ST.out _ _ HXV.out _ HBW.out) (by have := HN6.out; omega) (by have := HGI.out; omega)).mono ?_
          rintro e w4 ⟨rfl, hj4, ht4⟩
          have HJ4 := Lib.hid hj4
          have HB4 := Lib.hid (ht4.blk HBL.out (by rintro (e | e | e | e) <;> (have := HGS.out; omega)))
          have hd0 : w4.cell? ⟨wr.heap.size, 0, none⟩ = some (.bool true) := by rw [HB4.out.cell]; rfl
          have hd1 : w4.cell? ⟨wr.heap.size, 1, none⟩ = some (.slice A6 n6 c6) := by rw [HB4.out.cell]; rfl
          have HL4 := Lib.hid (HLW.out.turns HMB.out ht4)
          have HS4 := Lib.hid (show gJ < w4.heap.size by have h1 := ht4.size; have h2 := HGS.out; simp at h1; omega)
          clear hj4 ht4
          go_wp2_with fail
          refine (jc_len _ _ _ _ _ _ HJ4.out).mono ?_
          rintro e w5 ⟨rfl, rfl⟩
          go_wp2_with fail
          go_roundg (N - (i + 1))
          case measure => omega
          case rel => exact ⟨i + 1, by omega, by go_num, g + 1, xs, [], by have := HGI.out; omega, HJ4.out, HXV.out, Lst.nil_ _ _ _ _ _, HS4.out⟩
      | false =>
        by_cases k1 : 50 < n6
        · have d1 : decide ((50 : Int) < (n6 : Int)) = true := decide_eq_true (by omega)
          have W0B := Lib.hid (show Below wr.heap.size wr (wr.alloc (.cells #[.bool false, .slice A6 n6 c6] 33)) from (Below.refl _ _).alloc (Nat.le_refl _) _)
          have HJW := Lib.hid (HJ.out.fresh W0B.out)
          have HBW := Lib.hid (HB.out.trans (W0B.out.mono HB.out.size))
          have HXW := Lib.hid (HXV.out.below HBW.out)
          have HBL := Lib.hid (Blk.new wr 33 #[.bool false, .slice A6 n6 c6])
          have HLW := Lib.hid (HLS.out.alloc HMB.out (.cells #[.bool false, .slice A6 n6 c6] 33))
          go_wp2_with fail
          refine (jc_app_arg w _ gJ g nb rs _ xs _ HJW.out HXW.out HBW.out.size (by have := HN6.out; omega) (by have := HGI.out; omega)).mono ?_
          rintro e w4 ⟨rfl, hj4, ht4⟩
          have HJ4 := Lib.hid hj4
          have HB4 := Lib.hid (ht4.blk HBL.out (by rintro (e | e | e | e) <;> (have := HGS.out; omega)))
          have hd0 : w4.cell? ⟨wr.heap.size, 0, none⟩ = some (.bool false) := by rw [HB4.out.cell]; rfl
          have hd1 : w4.cell? ⟨wr.heap.size, 1, none⟩ = some (.slice A6 n6 c6) := by rw [HB4.out.cell]; rfl
          have HL4 := Lib.hid (HLW.out.turns HMB.out ht4)
          have HS4 := Lib.hid (show gJ < w4.heap.size by have h1 := ht4.size; have h2 := HGS.out; simp at h1; omega)
          clear hj4 ht4
          go_wp2_with fail
          refine (jc_len _ _ _ _ _ _ HJ4.out).mono ?_
          rintro e w5 ⟨rfl, rfl⟩
          go_wp2_with fail
          go_roundg (N - (i + 1))
          case measure => omega
          case rel => exact ⟨i + 1, by omega, by go_num, g, nb, rs, by have := HGI.out; omega, HJ4.out, HNB.out, HL4.out, HS4.out⟩
        · have d1 : decide ((50 : Int) < (n6 : Int)) = false := decide_eq_false (by omega)
          by_cases k2 : 64 ≤ rs.length
          · have d2 : decide ((64 : Int) ≤ (rs.length : Int)) = true := decide_eq_true (by omega)
            have W0B := Lib.hid (show Below wr.heap.size wr (wr.alloc (.cells #[.bool false, .slice A6 n6 c6] 33)) from (Below.refl _ _).alloc (Nat.le_refl _) _)
            have HJW := Lib.hid (HJ.out.fresh W0B.out)
            have HBW := Lib.hid (HB.out.trans (W0B.out.mono HB.out.size))
            have HXW := Lib.hid (HXV.out.below HBW.out)
            have HBL := Lib.hid (Blk.new wr 33 #[.bool false, .slice A6 n6 c6])
            have HLW := Lib.hid (HLS.out.alloc HMB.out (.cells #[.bool false, .slice A6 n6 c6] 33))
            go_wp2_with fail
            refine (jc_app_full w _ gJ g nb rs _ xs _ HJW.out HXW.out HBW.out.size (by have := HN6.out; omega) k2 (by have := HGI.out; omega)).mono ?_
            rintro e w4 ⟨rfl, hj4, ht4⟩
            have HJ4 := Lib.hid hj4
            have HB4 := Lib.hid (ht4.blk HBL.out (by rintro (e | e | e | e) <;> (have := HGS.out; omega)))
            have hd0 : w4.cell? ⟨wr.heap.size, 0, none⟩ = some (.bool false) := by rw [HB4.out.cell]; rfl
            have hd1 : w4.cell? ⟨wr.heap.size, 1, none⟩ = some (.slice A6 n6 c6) := by rw [HB4.out.cell]; rfl
            have HL4 := Lib.hid (HLW.out.turns HMB.out ht4)
            have HS4 := Lib.hid (show gJ < w4.heap.size by have h1 := ht4.size; have h2 := HGS.out; simp at h1; omega)
            clear hj4 ht4
            go_wp2_with fail
            refine (jc_len _ _ _ _ _ _ HJ4.out).mono ?_
            rintro e w5 ⟨rfl, rfl⟩
            go_wp2_with fail
            go_roundg (N - (i + 1))
            case measure => omega
            case rel => exact ⟨i + 1, by omega, by go_num, g, nb, rs, by have := HGI.out; omega, HJ4.out, HNB.out, HL4.out, HS4.out⟩
          · have d2 : decide ((64 : Int) ≤ (rs.length : Int)) = false := decide_eq_false (by omega)
            have W0B := Lib.hid (show Below wr.heap.size wr (wr.alloc (.cells #[.bool false, .slice A6 n6 c6] 33)) from (Below.refl _ _).alloc (Nat.le_refl _) _)
            have HJW := Lib.hid (HJ.out.fresh W0B.out)
            have HBW := Lib.hid (HB.out.trans (W0B.out.mono HB.out.size))
            have HXW := Lib.hid (HXV.out.below HBW.out)
            have HBL := Lib.hid (Blk.new wr 33 #[.bool false, .slice A6 n6 c6])
            have HLW := Lib.hid (HLS.out.alloc HMB.out (.cells #[.bool false, .slice A6 n6 c6] 33))
            go_wp2_with fail
            refine (jc_app w _ gJ g nb rs _ xs _ HJW.out HXW.out HBW.out.size (by have := HN6.out; omega) (by omega) (by have := HGI.out; omega)).mono ?_
            rintro e w4 ⟨rfl, hj4, ht4⟩
            have HJ4 := Lib.hid hj4
            have HB4 := Lib.hid (ht4.blk HBL.out (by rintro (e | e | e | e) <;> (have := HGS.out; omega)))
            have hd0 : w4.cell? ⟨wr.heap.size, 0, none⟩ = some (.bool false) := by rw [HB4.out.cell]; rfl
            have hd1 : w4.cell? ⟨wr.heap.size, 1, none⟩ = some (.slice A6 n6 c6) := by rw [HB4.out.cell]; rfl
            have HL4 := Lib.hid (HLW.out.turns HMB.out ht4)
            have HS4 := Lib.hid (show gJ < w4.heap.size by have h1 := ht4.size; have h2 := HGS.out; simp at h1; omega)
            clear hj4 ht4
            have HL5 := Lib.hid (HL4.out.alloc HMB.out (.cells #[.slice A6 n6 c6] 27))
            have HK5 := Lib.hid (show Below w4.heap.size w4 (w4.alloc (.cells #[.slice A6 n6 c6] 27)) from (Below.refl _ _).alloc (Nat.le_refl _) _)
            have HJ5 := Lib.hid (HJ4.out.fresh HK5.out)
            have HE5 := Lib.hid (show ∀ j, j < 1 → ∃ u, ([Value.slice A6 n6 c6])[j]? = some u ∧ El (w4.alloc (.cells #[.slice A6 n6 c6] 27)) (jk gJ (w.heap.size + 2) w.heap.size (w.heap.size + 1)) w.heap.size 27 u (([xs]).getD j []) from by
              intro j hj
              obtain rfl : j = 0 := by omega
              exact ⟨_, rfl, El.of_bts (HXV.out.below HJ5.out.below) HML.out HJ5.out.below.size⟩)
            have HC5 := Lib.hid (one_cell (w := w4.alloc (.cells #[.slice A6 n6 c6] 27)) (g := w4.heap.size) (v := .slice A6 n6 c6) (by simp))
            have HFW := Lib.hid (show rs.length + 1 ≤ 1000000 by have := HFEW.out; omega)
            have HBS := Lib.hid (show gJ + 1 ≤ (w4.alloc (.cells #[.slice A6 n6 c6] 27)).heap.size by have := HS4.out; simp; omega)
            have HLO := Lib.hid (show w.heap.size ≤ gJ + 1 by omega)
            go_wp2_with (at_builtin; refine wpList_append_lst rfl (.tmp 101) (.tmp 104) 28 rfl (jk gJ (w.heap.size + 2) w.heap.size (w.heap.size + 1)) w.heap.size (gJ + 1) 27 i0 Try.underlying28 HI.out HZ0.out HZ1.out HZ2.out (.slice A9 rs.length c9) rs rfl HL5.out ⟨w4.heap.size, 0, none⟩ 1 1 [.slice A6 n6 c6] [xs] rfl rfl rfl HC5.out HE5.out HFW.out HBS.out HLO.out ?_; intro v6 w6 HL6 HK6)
            have HJ6 := Lib.hid (HJ5.out.far HK6.out (by omega) (by omega))
            have HS6 := Lib.hid (show gJ < w6.heap.size by have := HK6.out.size; have := HBS.out; omega)
            obtain ⟨A7, c7, rfl, -⟩ := HL6.out.shape
            have HL6' := Lib.hid (show Lst w6 (jk gJ (w.heap.size + 2) w.heap.size (w.heap.size + 1)) w.heap.size (gJ + 1) 27 (.slice A7 (rs.length + 1) c7) (rs ++ [xs]) from by
              have h := HL6.out
              rw [show (rs ++ [xs]).length = rs.length + 1 by simp] at h
              exact h)
            go_wp2_with fail
            refine (jc_len _ _ _ _ _ _ HJ6.out).mono ?_
            rintro e w7 ⟨rfl, rfl⟩
            go_wp2_with fail
            go_roundg (N - (i + 1))
            case measure => omega
            case rel => exact ⟨i + 1, by omega, by go_num, g, nb, rs ++ [xs], by have := HGI.out; omega, HJ6.out, HNB.out, HL6'.out, HS6.out⟩
    · obtain rfl : i = N := by omega
      have t4 : decide ((i : Int) < (i : Int)) = false := decide_eq_false (by omega)
      have hg1 : g + 1 < 4294967296 := by have := HGI.out; omega
      go_wp2_with fail
      refine (jc_crash w wr g nb rs 0 0 0 HJ.out.disk (by omega) (.inl ⟨by omega, rfl⟩) (.inl rfl)).mono ?_
      rintro e w4 ⟨rfl, hj4, ht4⟩
      have HJ4 := Lib.hid hj4
      have HL4 := Lib.hid (HLS.out.turns HMB.out (ht4.mono (fun k h => .inr h)))
      clear hj4 ht4
      go_wp2_with fail
      refine (jc_open w w4 g nb rs HJ4.out hg1).mono ?_
      rintro e w5 ⟨gK, v5, u5, rfl, ho5, hl5, hj5, ht5, _⟩
      obtain ⟨A5', c5', rfl⟩ := own_any ho5
      have HP5 := Lib.hid hl5.pts
      obtain ⟨B5, d5, rfl, -⟩ := hl5.shape
      have HO5 := Lib.hid (Bts.of_own ho5 HNB.out.byte)
      have HB5 := Lib.hid hj5.below
      have HJ5 := Lib.hid hj5
      have HQ5 := Lib.hid ((HL4.out.turns HMB.out (ht5.mono (fun k h => .inr h))).pts)
      have HX5 := Lib.hid (HNB.out.below hj5.below)
      clear ho5 hl5 hj5 ht5
      go_wp2_with fail
      refine (same_any _ _ _ _ _ _ _ HO5.out HX5.out).mono ?_
      rintro e w6 ⟨rfl, q, rfl⟩
      rw [decide_eq_true rfl]
      go_wp2_with fail
      refine (sameAll_any _ _ rs rs (w5.drewN q) HP5.out HQ5.out).mono ?_
      rintro e w7 ⟨rfl, q2, rfl⟩
      rw [decide_eq_true rfl]
      have HJ7 := Lib.hid (HJ5.out.fresh (below_drewN (Below.refl _ w5) (q + q2)))
      go_wp2_with fail
      refine (jc_len _ _ _ _ _ _ HJ7.out).mono ?_
      rintro e w8 ⟨rfl, rfl⟩
      go_wp2
      go_ret
      exact ⟨by simp, HJ7.out.below⟩
end Go.Proofs.Ytfnegbcpiejdaaa

/-
  Move of the back map over the landed code.
  Conditions: the frames that somebody has are few, and the two frames' places too.
-/
import Derived.Test.YtgbkpcmgfjdhdaaBkF
import Derived.Deep.LoopGhost
namespace Go.Proofs.Ytgbkpcmgfjdhdaa
open Go.RowKit
set_option linter.unusedVariables false

/-- Few frames, with room for one more. -/
def FewM (b : BS) : Prop := ∃ fs : List Int, fs.length ≤ 1000 ∧ ∀ g, b g ≠ [] → g ∈ fs
theorem FewM.few {b : BS} (h : FewM b) : FewF b := by
  obtain ⟨fs, h1, h2⟩ := h
  exact ⟨fs, by omega, h2⟩
/-- What it is behind j of the places. -/
def stM (b : BS) (f t : Int) (j : Nat) : BS := fun g => if g = f then (b f).drop j else if g = t then mrgP (b t) ((b f).take j) else b g
theorem stM_zero (b : BS) (f t : Int) : stM b f t 0 = b := by
  funext g
  unfold stM
  by_cases c : g = f
  · rw [if_pos c, c]; rfl
  · rw [if_neg c]
    by_cases d : g = t
    · rw [if_pos d, d]; rfl
    · rw [if_neg d]
theorem stM_f (b : BS) (f t : Int) (j : Nat) : stM b f t j f = (b f).drop j := if_pos rfl
theorem stM_t {b : BS} {f t : Int} (h : f ≠ t) (j : Nat) : stM b f t j t = mrgP (b t) ((b f).take j) := by
  unfold stM
  rw [if_neg (fun e => h e.symm), if_pos rfl]
theorem drop_at {l : List Pl} {j : Nat} {p : Pl} (h : l[j]? = some p) : l.drop j = p :: l.drop (j + 1) := by
  have hj : j < l.length := (List.getElem?_eq_some_iff.1 h).1
  rw [List.drop_eq_getElem_cons hj]
  congr 1
  exact (List.getElem?_eq_some_iff.1 h).2
theorem take_at {l : List Pl} {j : Nat} {p : Pl} (h : l[j]? = some p) : l.take (j + 1) = l.take j ++ [p] := by
  have hj : j < l.length := (List.getElem?_eq_some_iff.1 h).1
  rw [List.take_add_one, h]
  rfl
theorem stM_drop {b : BS} {f t : Int} {j : Nat} {p : Pl} (h : (b f)[j]? = some p) : (stM b f t j f).erase p = (b f).drop (j + 1) := by
  rw [stM_f, drop_at h, List.erase_cons_head]
theorem stM_succ {b : BS} {f t : Int} (hne : f ≠ t) {j : Nat} {p : Pl} (h : (b f)[j]? = some p) :
    updB (updB (stM b f t j) f ((b f).drop (j + 1))) t (putP (updB (stM b f t j) f ((b f).drop (j + 1)) t) p) = stM b f t (j + 1) := by
  funext g
  rw [updB_other _ _ _ (fun e => hne e.symm), stM_t hne]
  unfold updB stM
  by_cases c : g = t
  · rw [if_pos c, if_neg (fun e => hne (e.symm.trans c)), if_pos c, take_at h, mrgP_snoc]
  · rw [if_neg c]
    by_cases d : g = f
    · rw [if_pos d, if_pos d]
    · rw [if_neg d, if_neg d, if_neg d, if_neg c, if_neg c]
theorem stM_all {b : BS} {f t : Int} (hne : f ≠ t) (hl : b f ≠ []) : stM b f t (b f).length = movB b f t := by
  have e : movB b f t = updB (updB b t (mrgP (b t) (b f))) f [] := if_pos (And.intro hl hne)
  rw [e]
  funext g
  unfold stM updB
  by_cases c : g = f
  · rw [if_pos c, if_pos c, List.drop_length]
  · rw [if_neg c, if_neg c, List.take_length]
theorem FewM.at_ {b : BS} {f t : Int} (h : FewM b) (j : Nat) (l : List Pl) : FewF (updB (stM b f t j) f l) := by
  obtain ⟨fs, h1, h2⟩ := h
  refine ⟨f :: t :: fs, by simp only [List.length_cons]; omega, fun g hg => ?_⟩
  unfold updB stM at hg
  by_cases c : g = f
  · rw [c]; exact List.mem_cons_self
  · rw [if_neg c, if_neg c] at hg
    by_cases d : g = t
    · rw [d]; exact List.mem_cons_of_mem _ List.mem_cons_self
    · rw [if_neg d] at hg
      exact List.mem_cons_of_mem _ (List.mem_cons_of_mem _ (h2 g hg))
theorem Turns.more {K K' : Nat → Prop} {w1 W W' : World} (h : Turns K w1 W) (k : Turns K' W W') (hk : ∀ j, K' j → K j ∨ w1.heap.size ≤ j) : Turns K w1 W' :=
  ⟨k.os.trans h.os, k.tape.trans h.tape, k.output.trans h.output, Nat.le_trans h.size k.size, fun i hi hn => (k.block i (Nat.lt_of_lt_of_le hi h.size) (fun hk' => (hk i hk').elim hn (by omega))).trans (h.block i hi hn)⟩
/-- Between two rounds. -/
def MovAt (w1 : World) (gB : Nat) (K : Nat → Prop) (b : BS) (W : World) : Prop :=
  ∃ Kj, BackMem W gB Kj b ∧ (∀ k, Kj k → K k ∨ w1.heap.size ≤ k) ∧ Turns K w1 W
theorem MovAt.step {w1 : World} {gB : Nat} {K : Nat → Prop} {b' : BS} {W W' : World} {e : Ending} {v : Value} {Kj : Nat → Prop} (hk : ∀ k, Kj k → K k ∨ w1.heap.size ≤ k) (ht : Turns K w1 W) (h : BackPost W gB Kj v b' e W') : MovAt w1 gB K b' W' := by
  obtain ⟨K', _, h1, h2, h3⟩ := h
  have := ht.size
  exact ⟨K', h1, fun k hk' => (h2 k hk').elim (hk k) (fun h => .inr (by omega)), ht.more h3 hk⟩
theorem len_zero (l : List Pl) : ((l.length : Int) == 0) = decide (l = []) := by
  cases l with
  | nil => rfl
  | cons a l =>
    rw [decide_eq_false (by simp)]
    exact beq_eq_false_iff_ne.2 (by simp only [List.length_cons]; omega)
set_option maxRecDepth 20000 in
set_option maxHeartbeats 2000000 in
theorem move_yes (gB : Nat) (K : Nat → Prop) (b : BS) (w : World) (f t : Int) (h : BackMem w gB K b) (wf : W64 f) (wt : W64 t) (hl : (b f).length + (b t).length ≤ 100000) (hF : FewM b) (hne : f ≠ t) (hb : b f ≠ []) :
    Calls Try.prog 13 #[.pointer (some ⟨gB, 0, none⟩), .int .i64 f, .int .i64 t] w (BackPost w gB K (.bool true) (movB b f t)) := by
  have HO := Lib.hid (back_of gB K b w f h wf)
  have HB := Lib.hid h
  have HWF := Lib.hid wf
  have HWT := Lib.hid wt
  have hl' := Lib.hid hl
  have hF' := Lib.hid hF
  have HNE := Lib.hid hne
  have HBN := Lib.hid hb
  have tn : (f == t) = false := beq_eq_false_iff_ne.2 hne
  clear h wf wt hl hF hne hb
  go_enter Try.func13, Try.ntmps13
  go_wp2_with fail
  refine HO.out.mono ?_
  rintro e w1 ⟨v, rfl, hp, hnew, hbel⟩
  obtain ⟨A, n, c, rfl, hn, hc1, hc2, hc3, hc4⟩ := hp
  have hpos : 0 < n := by rw [← hn]; exact List.length_pos_iff.2 HBN.out
  obtain ⟨g, o, rfl, hg, hcell⟩ := hc4 hpos
  have hgn : w.heap.size ≤ g := hnew _ _ _ rfl hpos
  have tz : ((n : Int) == 0) = false := beq_eq_false_iff_ne.2 (by omega)
  have HN := Lib.hid hn
  have HCELL := Lib.hid hcell
  have HG := Lib.hid (And.intro hgn hg)
  have HC := Lib.hid (And.intro hc1 hc2)
  have HBEL := Lib.hid hbel
  have hn1 : n ≤ 100000 := by have := hl'.out; omega
  clear hn hc1 hc2 hc3 hc4 hcell hg hgn hnew hbel
  go_wp2_with fail
  go_loopg [23] n (fun gg s23 wr => ∃ j : Nat, j + gg = n ∧ s23 = .int .i64 (j : Int) ∧ MovAt w1 gB K (stM b f t j) wr)
  case atStart =>
    refine ⟨0, by omega, rfl, K, ?_, fun k hk => .inl hk, Turns.refl _ _⟩
    rw [stM_zero]
    exact HB.out.fresh HBEL.out
  case round =>
    obtain ⟨j, hjg, rfl, Kj, hm, hkj, htj⟩ := hrel
    by_cases hlt : j < n
    · have t1 : decide ((j : Int) < (n : Int)) = true := decide_eq_true (by omega)
      obtain ⟨p, hp⟩ : ∃ p, p = (b f).getD j pl0 := ⟨_, rfl⟩
      have hpj : (b f)[j]? = some p := by
        rw [hp, List.getD_eq_getElem?_getD, List.getElem?_eq_getElem (by rw [HN.out]; exact hlt)]
        rfl
      have hgK : ¬ K g := fun hk => by have := HB.out.lt g hk; have := HG.out; omega
      have hgb := htj.block g HG.out.2 hgK
      have e1 : wr.cell? ⟨g, o + j * 2, none⟩ = some (.int .i64 p.c) := by rw [cell_of_heap hgb, hp]; exact (HCELL.out j hlt).1
      have e2 : wr.cell? ⟨g, o + j * 2 + 1, none⟩ = some (.int .i64 p.g) := by rw [cell_of_heap hgb, hp]; exact (HCELL.out j hlt).2
      have hpm : p ∈ b f := List.mem_of_getElem? hpj
      have HWP := Lib.hid (HB.out.wp hpm)
      obtain ⟨W1, hW1⟩ : ∃ W1, wr.alloc (.cells #[.int .i64 p.c, .int .i64 p.g] 29) = W1 := ⟨_, rfl⟩
      have hbx : Blk W1 wr.heap.size 29 #[.int .i64 p.c, .int .i64 p.g] := by rw [← hW1]; exact Blk.new _ _ _
      have hb1 : Below wr.heap.size wr W1 := by rw [← hW1]; exact belAl (Below.refl _ wr) _
      have x1 : W1.cell? ⟨wr.heap.size, 0, none⟩ = some (.int .i64 p.c) := hbx.cell 0
      have x2 : W1.cell? ⟨wr.heap.size, 1, none⟩ = some (.int .i64 p.g) := hbx.cell 1
      have CD := Lib.hid (back_drop gB Kj _ W1 f p (hm.fresh hb1) HWF.out HWP.out)
      have HKJ := Lib.hid (And.intro hkj (And.intro hm.lt htj))
      have HBX := Lib.hid hbx
      have HB1 := Lib.hid hb1
      have HPJ := Lib.hid hpj
      clear hm hkj htj hgK hgb hpm hp hbx hb1 hpj
      go_wp2_with fail
      refine CD.out.mono ?_
      rintro e W2 ⟨K2, rfl, hm2, hk2, ht2⟩
      rw [stM_drop HPJ.out] at hm2
      have hx2 := ht2.blk HBX.out (fun hk => by have := HKJ.out.2.1 _ hk; omega)
      have y1 : W2.cell? ⟨wr.heap.size, 0, none⟩ = some (.int .i64 p.c) := hx2.cell 0
      have y2 : W2.cell? ⟨wr.heap.size, 1, none⟩ = some (.int .i64 p.g) := hx2.cell 1
      have hlen : ((updB (stM b f t j) f ((b f).drop (j + 1))) t).length ≤ 100000 := by
        rw [updB_other _ _ _ (fun e => HNE.out e.symm), stM_t HNE.out]
        have := mrgP_length (b t) ((b f).take j)
        rw [List.length_take] at this
        have := hl'.out
        omega
      have CA := Lib.hid (back_add gB K2 _ W2 t p hm2 HWT.out HWP.out hlen (hF'.out.at_ j _))
      have HT2 := Lib.hid (show (∀ k, K2 k → K k ∨ w1.heap.size ≤ k) ∧ Turns K w1 W2 from by
        have hs := HKJ.out.2.2.size
        refine ⟨fun k hk => ?_, (HKJ.out.2.2.trans (Turns.of_below HB1.out (Nat.le_refl _))).more ht2 HKJ.out.1⟩
        rcases hk2 k hk with h | h
        · exact HKJ.out.1 k h
        · have := HB1.out.size
          exact .inr (by omega))
      clear hm2 hk2 ht2 hx2 hlen
      go_wp2_with fail
      refine CA.out.mono ?_
      intro e W3 hP3
      have hst := MovAt.step HT2.out.1 HT2.out.2 hP3
      rw [stM_succ HNE.out HPJ.out] at hst
      obtain ⟨K3, rfl, -⟩ := hP3
      go_wp2_with fail
      go_roundg (n - (j + 1))
      case measure => omega
      case rel => exact ⟨j + 1, by omega, by go_num, hst⟩
    · obtain rfl : j = n := by omega
      have t1 : decide ((j : Int) < (j : Int)) = false := decide_eq_false (by omega)
      have HP := Lib.hid (show BackPost w gB K (.bool true) (movB b f t) (.returned (.bool true)) wr from by
        rw [show stM b f t j = movB b f t from by rw [← HN.out]; exact stM_all HNE.out HBN.out] at hm
        have hs := HBEL.out.size
        exact ⟨Kj, rfl, hm, fun k hk => (hkj k hk).imp id (fun h => by omega), (Turns.of_below HBEL.out (Nat.le_refl _)).trans htj⟩)
      clear hm hkj htj
      go_wp2_with fail
      go_ret
      exact HP.out
theorem move_no (gB : Nat) (K : Nat → Prop) (b : BS) (w : World) (f t : Int) (h : BackMem w gB K b) (wf : W64 f) (hno : b f = [] ∨ f = t) :
    Calls Try.prog 13 #[.pointer (some ⟨gB, 0, none⟩), .int .i64 f, .int .i64 t] w (BackPost w gB K (.bool false) b) := by
  have HO := Lib.hid (back_of gB K b w f h wf)
  have HB := Lib.hid h
  have HNO := Lib.hid hno
  clear h wf hno
  go_enter Try.func13, Try.ntmps13
  go_wp2_with fail
  refine HO.out.mono ?_
  rintro e w1 ⟨v, rfl, hp, hnew, hbel⟩
  obtain ⟨A, n, c, rfl, hn, hc1, hc2, hc3, hc4⟩ := hp
  have HP := Lib.hid (show BackPost w gB K (.bool false) b (.returned (.bool false)) w1 from ⟨K, rfl, HB.out.fresh hbel, fun k hk => .inl hk, Turns.of_below hbel (Nat.le_refl _)⟩)
  by_cases c0 : n = 0
  · subst c0
    clear hn hc1 hc2 hc3 hc4 hnew hbel
    go_wp2_with fail
    go_ret
    exact HP.out
  · have hft : f = t := HNO.out.resolve_left (fun e => by rw [e] at hn; exact c0 hn.symm)
    subst hft
    have tz : ((n : Int) == 0) = false := beq_eq_false_iff_ne.2 (by omega)
    have tn : (f == f) = true := by simp
    clear hn hc1 hc2 hc3 hc4 hnew hbel
    go_wp2_with fail
    go_ret
    exact HP.out
/-- Move. -/
theorem back_move (gB : Nat) (K : Nat → Prop) (b : BS) (w : World) (f t : Int) (h : BackMem w gB K b) (wf : W64 f) (wt : W64 t) (hl : (b f).length + (b t).length ≤ 100000) (hF : FewM b) :
    Calls Try.prog 13 #[.pointer (some ⟨gB, 0, none⟩), .int .i64 f, .int .i64 t] w (BackPost w gB K (.bool (decide (b f ≠ [] ∧ f ≠ t))) (movB b f t)) := by
  by_cases c : b f ≠ [] ∧ f ≠ t
  · rw [decide_eq_true c]
    exact move_yes gB K b w f t h wf wt hl hF c.2 c.1
  · rw [decide_eq_false c, show movB b f t = b from if_neg c]
    refine move_no gB K b w f t h wf ?_
    by_cases c1 : b f = []
    · exact .inl c1
    · exact .inr (Classical.byContradiction fun c2 => c ⟨c1, c2⟩)
theorem back_move_nil (w : World) (f t : Int) (wf : W64 f) : Calls Try.prog 13 #[.pointer none, .int .i64 f, .int .i64 t] w fun e w' => e = .returned (.bool false) ∧ Below w.heap.size w w' := by
  have HO := Lib.hid (back_of_nil w f wf)
  clear wf
  go_enter Try.func13, Try.ntmps13
  go_wp2_with fail
  refine HO.out.mono ?_
  rintro e w1 ⟨A, c, rfl, hbel⟩
  have HP := Lib.hid hbel
  clear hbel
  go_wp2_with fail
  go_ret
  exact ⟨rfl, HP.out⟩
end Go.Proofs.Ytgbkpcmgfjdhdaa

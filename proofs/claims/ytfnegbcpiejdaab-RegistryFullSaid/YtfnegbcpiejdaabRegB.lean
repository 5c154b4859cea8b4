/-
  The contracts of the registry's tests on numbers, and of the library's IndexFunc, ContainsFunc, Clone and DeleteFunc on integers, whatever the predicate may lay down.
  Conditions: the lists are read in memory; the predicate answers the same in any world in which nothing that was there has turned.
-/
import Derived.Test.YtfnegbcpiejdaabSlI
import Derived.Test.YtfnegbcpiejdaabVals
import Derived.Test.YtfnegbcpiejdaabInts
import Derived.Deep.LoopGhost
import Derived.BigQuiet
import Derived.Shelf.Abstract
import Derived.Lib.SliceRun
namespace Go.Proofs.Ytfnegbcpiejdaab
open Go.RowKit
set_option linter.unusedVariables false

set_option maxRecDepth 20000 in
set_option maxHeartbeats 400000 in
theorem isSect_any (s : Int) (w : World) :
    Calls Try.prog 43 #[.int .i64 s] w fun e w' => e = .returned (.bool (decide (0 ≤ s ∧ s ≤ 31))) ∧ w = w' := by
  by_cases h1 : 0 ≤ s
  · by_cases h2 : s ≤ 31
    · have t1 : decide (s < 32) = true := decide_eq_true (by omega)
      rw [decide_eq_true (show 0 ≤ s ∧ s ≤ 31 from ⟨h1, h2⟩)]
      go_enter Try.func43, Try.ntmps43
      go_wp2
      go_ret
      exact ⟨rfl, rfl⟩
    · have t1 : decide (s < 32) = false := decide_eq_false (by omega)
      rw [decide_eq_false (show ¬ (0 ≤ s ∧ s ≤ 31) from fun h => h2 h.2)]
      go_enter Try.func43, Try.ntmps43
      go_wp2
      go_ret
      exact ⟨rfl, rfl⟩
  · rw [decide_eq_false (show ¬ (0 ≤ s ∧ s ≤ 31) from fun h => h1 h.1)]
    go_enter Try.func43, Try.ntmps43
    go_wp2
    go_ret
    exact ⟨rfl, rfl⟩
set_option maxRecDepth 20000 in
set_option maxHeartbeats 400000 in
theorem mayState_any (s v : Int) (w : World) :
    Calls Try.prog 42 #[.int .i64 s, .int .i64 v] w fun e w' => e = .returned (.bool (decide (0 ≤ s ∧ s ≤ 31 ∧ 0 ≤ v ∧ v ≤ 3))) ∧ w = w' := by
  have IS := Lib.hid (isSect_any s)
  by_cases h1 : 0 ≤ s ∧ s ≤ 31
  · simp only [decide_eq_true h1] at IS
    by_cases h2 : 0 ≤ v
    · by_cases h3 : v ≤ 3
      · have t1 : decide (v ≤ 3) = true := decide_eq_true (by omega)
        rw [decide_eq_true (show 0 ≤ s ∧ s ≤ 31 ∧ 0 ≤ v ∧ v ≤ 3 from ⟨h1.1, h1.2, h2, h3⟩)]
        go_enter Try.func42, Try.ntmps42
        go_wp2_with (go_at_call 43; refine (IS.out _).mono ?_; rintro e w' ⟨rfl, rfl⟩)
        go_ret
        exact ⟨rfl, rfl⟩
      · have t1 : decide (v ≤ 3) = false := decide_eq_false (by omega)
        rw [decide_eq_false (show ¬ (0 ≤ s ∧ s ≤ 31 ∧ 0 ≤ v ∧ v ≤ 3) from fun h => h3 h.2.2.2)]
        go_enter Try.func42, Try.ntmps42
        go_wp2_with (go_at_call 43; refine (IS.out _).mono ?_; rintro e w' ⟨rfl, rfl⟩)
        go_ret
        exact ⟨rfl, rfl⟩
    · rw [decide_eq_false (show ¬ (0 ≤ s ∧ s ≤ 31 ∧ 0 ≤ v ∧ v ≤ 3) from fun h => h2 h.2.2.1)]
      go_enter Try.func42, Try.ntmps42
      go_wp2_with (go_at_call 43; refine (IS.out _).mono ?_; rintro e w' ⟨rfl, rfl⟩)
      go_ret
      exact ⟨rfl, rfl⟩
  · simp only [decide_eq_false h1] at IS
    rw [decide_eq_false (show ¬ (0 ≤ s ∧ s ≤ 31 ∧ 0 ≤ v ∧ v ≤ 3) from fun h => h1 ⟨h.1, h.2.1⟩)]
    clear h1
    go_enter Try.func42, Try.ntmps42
    go_wp2_with (go_at_call 43; refine (IS.out _).mono ?_; rintro e w' ⟨rfl, rfl⟩)
    go_ret
    exact ⟨rfl, rfl⟩

/-! ### mayBeBad -/
def offP (f : Int) : Bool := decide (f < 0) || decide (1024 ≤ f)
set_option maxRecDepth 20000 in
set_option maxHeartbeats 400000 in
theorem off_any (f : Int) (w : World) :
    Calls Try.prog 56 #[.int .i64 f] w fun e w' => e = .returned (.bool (offP f)) ∧ Below w.heap.size w w' := by
  unfold offP
  by_cases h1 : f < 0
  · rw [decide_eq_true h1]
    go_enter Try.func56, Try.ntmps56
    go_wp2
    go_ret
    exact ⟨by simp, Below.refl _ _⟩
  · by_cases h2 : 1024 ≤ f
    · rw [decide_eq_true h2]
      go_enter Try.func56, Try.ntmps56
      go_wp2
      go_ret
      exact ⟨by simp, Below.refl _ _⟩
    · rw [decide_eq_false h1, decide_eq_false h2]
      go_enter Try.func56, Try.ntmps56
      go_wp2
      go_ret
      exact ⟨by simp, Below.refl _ _⟩
def MayBad (fs : List Int) : Prop := fs.length ≤ 20 ∧ ∀ f ∈ fs, 0 ≤ f ∧ f ≤ 1023
instance (fs : List Int) : Decidable (MayBad fs) := by unfold MayBad; infer_instance
theorem off_all (fs : List Int) : fs.any offP = !decide (∀ f ∈ fs, 0 ≤ f ∧ f ≤ 1023) := by
  by_cases h : ∀ f ∈ fs, 0 ≤ f ∧ f ≤ 1023
  · rw [decide_eq_true h]
    refine List.any_eq_false.2 fun x hx => ?_
    have := h x hx
    unfold offP
    simp
    omega
  · rw [decide_eq_false h]
    refine List.any_eq_true.2 ?_
    apply Classical.byContradiction
    intro hn
    refine h fun f hf => ?_
    have := fun hp => hn ⟨f, hf, hp⟩
    unfold offP at this
    simp at this
    omega
theorem Try.egOff : ∀ args w, (callFunc 56 args).run Try.prog w = .ok (.enter 56 args) w := enters_of Try.func56 (by kernel_rfl) rfl
set_option maxRecDepth 20000 in
set_option maxHeartbeats 800000 in
theorem mayBad_any (v : Value) (fs : List Int) (w : World) (h : Its w w.heap.size v fs) :
    Calls Try.prog 38 #[v] w fun e w' => e = .returned (.bool (decide (MayBad fs))) ∧ Below w.heap.size w w' := by
  have HI := Lib.hid (containsFunc_any 56 #[] offP Try.egOff v fs w h (fun W x _ _ _ => off_any x W))
  rw [off_all] at HI
  obtain ⟨A, n, c, rfl, hl, -⟩ := id h
  have HL := Lib.hid hl
  clear h hl
  unfold MayBad
  by_cases h1 : n ≤ 20
  · by_cases h2 : ∀ f ∈ fs, 0 ≤ f ∧ f ≤ 1023
    · rw [decide_eq_true (show fs.length ≤ 20 ∧ ∀ f ∈ fs, 0 ≤ f ∧ f ≤ 1023 from ⟨by rw [HL.out]; exact h1, h2⟩)]
      simp only [decide_eq_true h2] at HI
      clear h2
      go_enter Try.func38, Try.ntmps38
      go_wp2_with fail
      refine HI.out.mono ?_
      rintro e w' ⟨rfl, hb⟩
      have HB := Lib.hid hb
      clear hb
      go_wp2
      go_ret
      exact ⟨rfl, HB.out⟩
    · rw [decide_eq_false (show ¬ (fs.length ≤ 20 ∧ ∀ f ∈ fs, 0 ≤ f ∧ f ≤ 1023) from fun h => h2 h.2)]
      simp only [decide_eq_false h2] at HI
      clear h2
      go_enter Try.func38, Try.ntmps38
      go_wp2_with fail
      refine HI.out.mono ?_
      rintro e w' ⟨rfl, hb⟩
      have HB := Lib.hid hb
      clear hb
      go_wp2
      go_ret
      exact ⟨rfl, HB.out⟩
  · rw [decide_eq_false (show ¬ (fs.length ≤ 20 ∧ ∀ f ∈ fs, 0 ≤ f ∧ f ≤ 1023) from fun h => h1 (by rw [← HL.out]; exact h.1))]
    go_enter Try.func38, Try.ntmps38
    go_wp2
    go_ret
    exact ⟨rfl, Below.refl _ _⟩

/-! ### Clone -/
theorem Try.infoI : (Try.prog.info? 3).map (fun i => (i.zero, i.size, i.bytes)) = some (some (.int .i64 0), 1, 8) := by kernel_rfl
set_option maxRecDepth 100000 in
set_option maxHeartbeats 2000000 in
theorem clone_any (v : Value) (xs : List Int) (w : World) (h : Its w w.heap.size v xs) (h20 : xs.length ≤ 20) :
    Calls Try.prog 58 #[v] w fun e w' => ∃ v', e = .returned v' ∧ w'.ownsRow w.heap.size 3 1 v' xs.length (xs.map (Value.int .i64)) ∧ Below w.heap.size w w' := by
  obtain ⟨A, n, c, rfl, hl, hlc, hm, hx⟩ := id h
  have HL := Lib.hid hl
  have HX := Lib.hid hx
  have HM := Lib.hid hm
  have H20 := Lib.hid h20
  clear h hl hx hm h20
  have q31 : ∀ (w : World) (a : Option Addr) (n c n' c' : Nat), (binOp .eql 29 (.slice a n c) (.slice none n' c')).run Try.prog w = .ok (.bool a.isNone) w := fun w a n c n' c' => Lib.run_eql_slice_nil w _ _ a n c n' c' Try.underlying29
  obtain ⟨i0, hi, hz0, hz1, hz2⟩ := info_parts Try.infoI
  cases A with
  | none =>
    have e0 : n = 0 := by
      rcases Nat.eq_zero_or_pos n with h | h
      · exact h
      · obtain ⟨b, off, e, _⟩ := HX.out h
        cases e
    subst e0
    go_enter Try.func58, Try.ntmps58
    go_wp2
    go_ret
    have e1 : xs = [] := List.eq_nil_of_length_eq_zero HL.out
    subst e1
    exact ⟨_, rfl, World.ownsRow_nil _ _ _ _, Below.refl _ _⟩
  | some ad =>
    go_enter Try.func58, Try.ntmps58
    go_wp2_with (at_builtin; refine wpList_append_own _ rfl _ _ 29 rfl w.heap.size 3 i0 (.int .i64 0) 1 8 Try.underlying29 hi hz0 hz1 hz2 rfl (by decide) _ _ _ rfl (World.ownsRow_made w #[] 0 (Nat.le_refl _) (Nat.zero_le _) rfl) ad n c (xs.map (Value.int .i64)) rfl ?qc1 ?qc2 ?qc3 ?qc4 ?qc5 ?qc6 ?_)
    case qc1 => simp [HL.out]
    case qc2 =>
      intro j u hj
      have hjn : j < xs.length := by
        have := (List.getElem?_eq_some_iff.1 hj).1
        simpa using this
      have hjn' : j < n := by rw [← HL.out]; exact hjn
      obtain ⟨b, off, e, _, hc⟩ := HX.out (by omega)
      injection e with e
      subst e
      rw [Addr.add_lit]
      refine Lib.cell?_alloc_some _ ?_
      rw [hc j hjn']
      rw [← hj]
      simp [hjn]
    case qc3 => intro u hu; obtain ⟨x, _, rfl⟩ := List.mem_map.1 hu; rfl
    case qc4 => have := H20.out; have := HL.out; unfold maxLen; omega
    case qc5 => have := H20.out; have := HL.out; omega
    case qc6 => simp
    intro v' w1 hown hgrow hnil
    go_wp2
    go_ret
    refine ⟨v', rfl, by simpa [HL.out] using hown, ?_⟩
    exact ((Below.refl _ w).alloc (Nat.le_refl _) _).grown hgrow (by simp) (by intro k hk; simp [Value.ownBlock] at hk; omega)

/-! ### DeleteFunc -/
/-- What the row has when i are kept of the first j. -/
structure KeptF (p : Int → Bool) (xs : List Int) (i j : Nat) (F : Nat → Int) : Prop where
  lt : i < j
  le : j ≤ xs.length
  kept : (List.range i).map F = (xs.take j).filter (fun x => !p x)
  rest : ∀ m, j ≤ m → F m = xs.getD m 0
theorem filter_none {p : Int → Bool} {xs : List Int} {j : Nat} (h : ∀ m, m < j → p (xs.getD m 0) = false) (hj : j ≤ xs.length) : (xs.take j).filter (fun x => !p x) = xs.take j := by
  refine List.filter_eq_self.2 fun x hx => ?_
  obtain ⟨m, hm, rfl⟩ := List.getElem_of_mem hx
  have hm' : m < j := by simp at hm; omega
  have := h m hm'
  have e : xs.getD m 0 = xs[m] := by simp [show m < xs.length by omega]
  rw [e] at this
  simp [this]
theorem range_take (xs : List Int) (j : Nat) (hj : j ≤ xs.length) : (List.range j).map (fun m => xs.getD m 0) = xs.take j := by
  refine List.ext_getElem (by simp; omega) fun m h1 h2 => ?_
  have : m < xs.length := by simp at h1; omega
  simp [this]
theorem take_snoc (xs : List Int) (j : Nat) (hj : j < xs.length) : xs.take (j + 1) = xs.take j ++ [xs.getD j 0] := by
  rw [List.take_succ_eq_append_getElem hj]
  simp [hj]
theorem KeptF.start {p : Int → Bool} {xs : List Int} {k : Nat} (hk : k < xs.length) (hp : p (xs.getD k 0) = true) (ha : ∀ m, m < k → p (xs.getD m 0) = false) : KeptF p xs k (k + 1) (fun m => xs.getD m 0) := by
  refine ⟨by omega, by omega, ?_, fun m _ => rfl⟩
  rw [take_snoc xs k hk, List.filter_append, filter_none ha (by omega), range_take _ _ (by omega)]
  rw [List.filter_cons_of_neg (by simp only [hp]; decide)]
  simp
theorem KeptF.keep {p : Int → Bool} {xs : List Int} {i j : Nat} {F : Nat → Int} (h : KeptF p xs i j F) (hj : j < xs.length) (hp : p (xs.getD j 0) = false) : KeptF p xs (i + 1) (j + 1) (upd F i (xs.getD j 0)) := by
  have hij := h.lt
  refine ⟨by omega, by omega, ?_, fun m hm => by rw [upd_other _ _ _ (by omega)]; exact h.rest m (by omega)⟩
  rw [take_snoc xs j hj, List.filter_append, ← h.kept, List.filter_cons_of_pos (by simp only [hp]; decide), List.filter_nil, List.range_succ, List.map_append]
  congr 1
  · refine List.map_congr_left fun m hm => ?_
    rw [List.mem_range] at hm
    exact upd_other _ _ _ (by omega)
  · simp [upd_same]
theorem KeptF.skip {p : Int → Bool} {xs : List Int} {i j : Nat} {F : Nat → Int} (h : KeptF p xs i j F) (hj : j < xs.length) (hp : p (xs.getD j 0) = true) : KeptF p xs i (j + 1) F := by
  refine ⟨by have := h.lt; omega, by omega, ?_, fun m hm => h.rest m (by omega)⟩
  rw [take_snoc xs j hj, List.filter_append, ← h.kept, List.filter_cons_of_neg (by simp only [hp]; decide), List.filter_nil, List.append_nil]
/-- The row in memory. -/
def RowF (w : World) (g n : Nat) (cs : Array Value) (F : Nat → Int) : Prop :=
  Blk w g 3 cs ∧ n ≤ cs.size ∧ ∀ m, m < n → cs[m]? = some (.int .i64 (F m))
theorem RowF.set_ {w : World} {g n : Nat} {cs : Array Value} {F : Nat → Int} (h : RowF w g n cs F) (i : Nat) (y : Int) (hi : i < n) : RowF (w.setCell ⟨g, i, none⟩ (.int .i64 y)) g n (cs.setIfInBounds i (.int .i64 y)) (upd F i y) := by
  refine ⟨h.1.set_ i _, by simpa using h.2.1, fun m hm => ?_⟩
  have hi' : i < cs.size := by have := h.2.1; omega
  rw [Array.getElem?_setIfInBounds]
  by_cases e : i = m
  · subst e; simp [hi', upd_same]
  · rw [if_neg e, upd_other _ _ _ (fun h => e h.symm)]; exact h.2.2 m hm
theorem RowF.below {w w' : World} {g n : Nat} {cs : Array Value} {F : Nat → Int} (h : RowF w g n cs F) (hb : Below w.heap.size w w') : RowF w' g n cs F := ⟨h.1.below hb h.1.lt, h.2⟩
set_option maxRecDepth 100000 in
set_option maxHeartbeats 2000000 in
theorem deleteFunc_any (g : Nat) (lb : Array Value) (p : Int → Bool) (eg : ∀ args w, (callFunc g args).run Try.prog w = .ok (.enter g args) w) (v : Value) (xs : List Int) (B : Nat) (w : World) (h : w.ownsRow B 3 1 v xs.length (xs.map (Value.int .i64))) (h20 : xs.length ≤ 20) (hB : B ≤ w.heap.size) (hp : PredB g lb p xs B w) :
    Calls Try.prog 57 #[v, .func (.func g) #[] lb] w fun e w' => ∃ v', e = .returned v' ∧ Its w' w'.heap.size v' (xs.filter (fun x => !p x)) ∧ Below B w w' := by
  have hit : Its w w.heap.size v xs := Its.of_own h
  have HP := Lib.hid hp
  have HIX := Lib.hid (indexFunc_any g lb p eg v xs w hit (fun W x hx hb hs => hp W x hx (hb.mono hB) hs))
  have HB0 := Lib.hid hB
  obtain ⟨A, n, c, rfl, hl, hlc, hm, -⟩ := id hit
  have HIT := Lib.hid hit
  have HL := Lib.hid hl
  have H20 := Lib.hid h20
  have HO := Lib.hid h
  unfold maxLen at hm
  clear hp hit hl h20 h hB
  go_enter Try.func57, Try.ntmps57
  go_wp2_with fail
  refine HIX.out.mono ?_
  rintro e w1 ⟨z, rfl, hz, hb1⟩
  have HB1 := Lib.hid (hb1.mono HB0.out)
  have HB1' := Lib.hid hb1
  rcases hz with ⟨rfl, ha⟩ | ⟨k, hk, rfl, hpk, ha⟩
  · have HE := Lib.hid (show xs.filter (fun x => !p x) = xs by
      have := filter_none ha (Nat.le_refl _)
      rwa [List.take_of_length_le (Nat.le_refl _)] at this)
    clear ha hb1
    go_wp2
    go_ret
    exact ⟨_, rfl, by rw [HE.out]; exact (HIT.out.below HB1'.out).more HB1'.out.size, HB1.out⟩
  · obtain ⟨gb, cap, cur, hv, hgB, hgb, r1, r2, r3, r4⟩ : ∃ gb cap cur, Value.slice A n c = .slice (some ⟨gb, 0, none⟩) xs.length cap ∧ B ≤ gb ∧ w.heap[gb]? = some (.cells cur 3 (0, 0)) ∧ xs.length ≤ cap ∧ cap ≤ maxLen ∧ cur.size = cap * 1 ∧ cur.toList.take (xs.length * 1) = xs.map (Value.int .i64) := by
      rcases HO.out.2 with ⟨h1, h2⟩ | ⟨gb, cap, cur, h1, h2, h3, h4, h5, h6, h7⟩
      · omega
      · exact ⟨gb, cap, cur, h1, h2, h3, h4, h5, h6, by simpa using h7⟩
    injection hv with hv1 hv2 hv3
    subst hv1 hv3
    have hrow : RowF w1 gb n cur (fun m => xs.getD m 0) := by
      have hb : Blk w gb 3 cur := hgb
      refine ⟨hb.below hb1 hb.lt, by omega, fun m hm => ?_⟩
      have h1 : (cur.toList.take (xs.length * 1))[m]? = (xs.map (Value.int .i64))[m]? := by rw [r4]
      rw [List.getElem?_take_of_lt (by omega), Array.getElem?_toList] at h1
      rw [h1]
      simp [show m < xs.length by omega]
    have HR := Lib.hid hrow
    have HK := Lib.hid (KeptF.start hk hpk ha)
    have HC := Lib.hid (show n ≤ cur.size by omega)
    have hk' : k < n := by omega
    have HGB := Lib.hid hgB
    have hne1 : ((k : Int) == -1) = false := beq_eq_false_iff_ne.2 (by omega)
    clear hrow hk hpk ha hgb r1 r2 r3 r4 hb1 hv2 hgB
    go_wp2_with fail
    go_loopg [5, 6, 7] n (fun gg s5 s6 _ wr => ∃ (i j : Nat) (F : Nat → Int) (cs : Array Value), n ≤ j + gg ∧ j ≤ n ∧ s5 = .int .i64 (i : Int) ∧ s6 = .int .i64 (j : Int) ∧ KeptF p xs i j F ∧ RowF wr gb n cs F ∧ Below B w wr ∧ w.heap.size ≤ wr.heap.size)
    case atStart => exact ⟨k, k + 1, _, cur, by omega, by omega, rfl, by go_num, HK.out, HR.out, HB1.out, HB1'.out.size⟩
    case round =>
      obtain ⟨i, j, F, cs, hjg, hjn', rfl, rfl, hkf, hrf, hbf, hsf⟩ := hrel
      have HKF := Lib.hid hkf
      have HRF := Lib.hid hrf
      have HBF := Lib.hid hbf
      have HSF := Lib.hid hsf
      have hij := hkf.lt
      by_cases hlt : j < n
      · have t1 : decide ((j : Int) < (n : Int)) = true := decide_eq_true (by omega)
        obtain ⟨y, hy⟩ : ∃ y, y = xs.getD j 0 := ⟨_, rfl⟩
        have cj : wr.cell? ⟨gb, j, none⟩ = some (.int .i64 y) := by
          rw [hrf.1.cell, hrf.2.2 j hlt, hkf.rest j (Nat.le_refl _), hy]
        have HY := Lib.hid hy
        have HCALL := Lib.hid (HP.out wr y (by rw [hy]; exact getD_mem (by have := HL.out; omega)) hbf hsf)
        clear hkf hrf hbf hsf hy
        cases hq : p y with
        | true =>
          rw [hq] at HCALL
          have HQ := Lib.hid hq
          clear hq
          go_wp2_with fail
          refine HCALL.out.mono ?_
          rintro e w2 ⟨rfl, hb2⟩
          have HB2 := Lib.hid hb2
          clear hb2 cj
          go_wp2
          go_roundg (n - (j + 1))
          case measure => omega
          case rel => exact ⟨i, j + 1, F, cs, by omega, by omega, rfl, by go_num, HKF.out.skip (by have := HL.out; omega) (by rw [← HY.out]; exact HQ.out), HRF.out.below HB2.out, HBF.out.trans (HB2.out.mono (Nat.le_trans HB0.out HSF.out)), Nat.le_trans HSF.out HB2.out.size⟩
        | false =>
          rw [hq] at HCALL
          have HQ := Lib.hid hq
          clear hq
          go_wp2_with fail
          refine HCALL.out.mono ?_
          rintro e w2 ⟨rfl, hb2⟩
          have HB2 := Lib.hid hb2
          have hr2 := HRF.out.below hb2
          have HR2 := Lib.hid hr2
          have ci : w2.cell? ⟨gb, i, none⟩ = some (.int .i64 (F i)) := by rw [hr2.1.cell, hr2.2.2 i (by omega)]
          have fi : w2.frozen? ⟨gb, i, none⟩ = false := hr2.1.frozen i
          obtain ⟨old, hold⟩ : ∃ old, old = F i := ⟨_, rfl⟩
          rw [← hold] at ci
          clear hb2 cj hr2 hold
          go_wp2
          go_roundg (n - (j + 1))
          case measure => omega
          case rel =>
            refine ⟨i + 1, j + 1, upd F i y, cs.setIfInBounds i (.int .i64 y), by omega, by omega, by go_num, by go_num, by rw [HY.out]; exact HKF.out.keep (by have := HL.out; omega) (by rw [← HY.out]; exact HQ.out), HR2.out.set_ i y (by omega), ?_, ?_⟩
            · exact (HBF.out.trans (HB2.out.mono (Nat.le_trans HB0.out HSF.out))).setCell (p := ⟨gb, i, none⟩) HGB.out _
            · exact Nat.le_trans (Nat.le_trans HSF.out HB2.out.size) (by simp [World.setCell])
      · have t1 : decide ((j : Int) < (n : Int)) = false := decide_eq_false (by omega)
        have hjn : j = n := by omega
        have hz0 : ∀ w, (zeroValue 3).run Try.prog w = .ok (.int .i64 0) w := fun w => by kernel_rfl
        have hcl : ∀ ty, (Builtin.clear_ #[29] ty #[.slice (some ⟨gb, i, none⟩) (n - i) (c - i)]).run Try.prog wr = .ok (.tuple #[]) (wr.setCells gb i (List.replicate (n - i) (.int .i64 0))) := fun ty =>
          Lib.run_clear_slice wr _ _ ty _ Try.underlying29 hz0 rfl rfl gb i _ _ (by omega) (fun m hm => by rw [hrf.1.cell, hrf.2.2 (i + m) (by omega)]; rfl) (fun m hm => hrf.1.frozen _)
        clear hkf hrf hbf hsf hz0
        go_wp2
        go_ret
        subst hjn
        have hk := HKF.out.kept
        rw [List.take_of_length_le (by have := HL.out; omega)] at hk
        have hlen : (xs.filter (fun x => !p x)).length = i := by rw [← hk]; simp
        have hbs := HBF.out.trans ((Only.setCells (List.replicate (j - i) (.int .i64 0)) i (Only.refl gb _)).below HGB.out (Nat.le_trans HB0.out HSF.out))
        obtain ⟨cur', b1, b2⟩ := Blk.setCells (List.replicate (j - i) (Value.int .i64 0)) i HRF.out.1 (by have := HRF.out.2.1; simp; omega)
        refine ⟨_, rfl, ⟨_, i, c, rfl, hlen, by omega, hm, fun hi => ⟨gb, 0, rfl, ?_, fun m hmi => ?_⟩⟩, hbs⟩
        · exact b1.lt
        · rw [b1.cell, b2.2, if_neg (by omega), Nat.zero_add, HRF.out.2.2 m (by omega), ← hk]
          simp [hmi]
end Go.Proofs.Ytfnegbcpiejdaab

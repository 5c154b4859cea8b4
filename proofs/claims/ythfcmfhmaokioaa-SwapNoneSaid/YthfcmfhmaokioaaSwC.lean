/-
  Take, Used, Slots over the landed code.
  Conditions: none beside those that each line bears.
-/
import Derived.Test.YthfcmfhmaokioaaSwB
import Derived.Shelf.Abstract
import Derived.RangeFuncSeq
namespace Go.Proofs.Ythfcmfhmaokioaa
open Go.RowKit Go.Maps Go.Shelf
set_option linter.unusedVariables false

theorem len_of {w : World} {K : Nat → Prop} {l : List Pl} {x : Option Nat} (h : OneS w K l x) (hs : SrtP l) : ∀ ty, (Builtin.len_ #[49] ty #[.map x]).run Try.prog w = .ok (.int .i64 (l.length : Int)) w := fun ty => by
  cases x with
  | none => rw [show l = [] from h]; exact Maps.len_nil Try.underlying49 ty
  | some k => obtain ⟨_, n, h1⟩ := h; exact h1.run_len Try.underlying49 (srt_nd hs) (fun x => setL_ne.symm) ty
theorem takeFn (w : World) (K : Nat → Prop) (l : List Pl) (x : Option Nat) (h : OneS w K l x) (hs : SrtP l) :
    Calls Try.prog 27 #[.map x] w fun e w' => e = .returned (.bool (decide (l = []))) ∧ w' = w := by
  have e2 := len_of h hs
  have t1 : ((l.length : Int) == 0) = decide (l = []) := by
    cases l with
    | nil => rfl
    | cons a l => exact beq_eq_false_iff_ne.2 (by simp only [List.length_cons]; omega)
  rw [← t1]
  clear h hs t1
  go_enter Try.func27, Try.ntmps27
  go_wp2_with fail
  go_ret
  exact ⟨rfl, rfl⟩
theorem usedFn (w : World) (K : Nat → Prop) (l : List Pl) (x : Option Nat) (h : OneS w K l x) (hs : SrtP l) :
    Calls Try.prog 28 #[.map x] w fun e w' => e = .returned (.bool (decide (l ≠ []))) ∧ w' = w := by
  have e2 := len_of h hs
  have t1 : decide (0 < l.length) = decide (l ≠ []) := by
    refine decide_eq_decide.2 ?_
    cases l with
    | nil => simp
    | cons a l => simp
  rw [← t1]
  clear h hs t1
  go_enter Try.func28, Try.ntmps28
  go_wp2_with fail
  go_ret
  exact ⟨rfl, rfl⟩
def encQ (p : Pl) : Value := .agg #[.int .i64 p.c, .int .i64 p.g]
/-- The least of the slots that are so. -/
theorem filtI_take (s : SS) : TakeIs s (match filtI (fun n => decide (s n = [])) 32 with | [] => none | z :: _ => some z.toNat) ∧ ∀ z l, filtI (fun n => decide (s n = [])) 32 = z :: l → 0 ≤ z := by
  unfold filtI
  have hp : ((List.range 32).filter (fun n => decide (s n = []))).Pairwise (fun a b => a < b) := List.pairwise_lt_range.filter _
  have hm : ∀ n, n ∈ (List.range 32).filter (fun n => decide (s n = [])) ↔ n < 32 ∧ s n = [] := fun n => by
    rw [List.mem_filter, List.mem_range]
    simp
  generalize (List.range 32).filter (fun n => decide (s n = [])) = q at hp hm
  cases q with
  | nil => exact ⟨fun m h e => absurd ((hm m).2 ⟨h, e⟩) List.not_mem_nil, fun z l h => by cases h⟩
  | cons a q =>
    simp only [List.map_cons, Int.toNat_natCast]
    refine ⟨⟨((hm a).1 List.mem_cons_self).1, ((hm a).1 List.mem_cons_self).2, fun m h e => ?_⟩, fun z l h => ?_⟩
    · have hlt := ((hm a).1 List.mem_cons_self).1
      rcases List.mem_cons.1 ((hm m).2 ⟨by omega, e⟩) with h1 | h1
      · omega
      · have := (List.pairwise_cons.1 hp).1 m h1
        omega
    · injection h with h _
      omega
section
variable (gS : Nat) (K : Nat → Prop) (s : SS) (w : World)
theorem egT : ∀ args w, (callFunc 27 args).run Try.prog w = .ok (.enter 27 args) w := enters_of Try.func27 (by kernel_rfl) rfl
theorem egU : ∀ args w, (callFunc 28 args).run Try.prog w = .ok (.enter 28 args) w := enters_of Try.func28 (by kernel_rfl) rfl
theorem egS : ∀ args w, (callFunc 29 args).run Try.prog w = .ok (.enter 29 args) w := enters_of Try.func29 (by kernel_rfl) rfl
set_option maxRecDepth 20000 in
theorem swap_take (h : SwpMem w gS K s) :
    Calls Try.prog 16 #[.pointer (some ⟨gS, 0, none⟩)] w fun e w' => ∃ r, e = .returned (takeV r) ∧ TakeIs s r ∧ Below w.heap.size w w' := by
  obtain ⟨mo, h1, h2, h3⟩ := h.at_
  have hok := h.ok
  have hlt := h.lt
  have HW := Lib.hid (where_any 27 #[] (fun n => decide (s n = [])) egT gS mo w h1 (fun W n hn hb hs =>
    (takeFn W K (s n) (mo n) ((h2 n hn).far (fun k hk => hb.block k (hlt k hk))) (hok n)).mono fun e w' ⟨he, hw⟩ => ⟨he, hw ▸ Below.refl _ _⟩))
  have HT := Lib.hid (filtI_take s)
  generalize filtI (fun n => decide (s n = [])) 32 = q at HW HT
  clear h h1 h2 h3 hok hlt
  cases q with
  | nil =>
    have T := Lib.hid HT.out.1
    clear HT
    go_enter Try.func16, Try.ntmps16
    go_wp2_with fail
    refine HW.out.mono ?_
    rintro e w1 ⟨v, rfl, hr, hb⟩
    obtain ⟨A, n, c, rfl, hn, -⟩ := Its.of_own (xs := []) hr
    obtain rfl : n = 0 := by rw [← hn]; rfl
    have HB := Lib.hid hb
    clear hr hb hn
    go_wp2_with fail
    go_ret2
    exact ⟨none, rfl, T.out, HB.out⟩
  | cons z l =>
    have T := Lib.hid HT.out.1
    have hz := HT.out.2 z l rfl
    obtain ⟨m, rfl⟩ := Int.eq_ofNat_of_zero_le hz
    simp only [Int.toNat_natCast] at T
    clear HT hz
    go_enter Try.func16, Try.ntmps16
    go_wp2_with fail
    refine HW.out.mono ?_
    rintro e w1 ⟨v, rfl, hr, hb⟩
    obtain ⟨A, n, c, rfl, hn, hnc, hmx, hx⟩ := Its.of_own (xs := (m : Int) :: l) hr
    have hn0 : 0 < n := by rw [← hn]; simp
    obtain ⟨b, o, rfl, _, hc⟩ := hx hn0
    have c0 : w1.cell? ⟨b, o, none⟩ = some (.int .i64 (m : Int)) := by simpa using hc 0 hn0
    have HB := Lib.hid hb
    have t1 : ((n : Int) == 0) = false := beq_eq_false_iff_ne.2 (by omega)
    clear hr hb hn hx hc
    go_wp2_with fail
    go_ret2
    exact ⟨some m, rfl, T.out, HB.out⟩
theorem swap_used (h : SwpMem w gS K s) :
    Calls Try.prog 17 #[.pointer (some ⟨gS, 0, none⟩)] w fun e w' => e = .returned (.int .i64 ((usedS s 32 : Nat) : Int)) ∧ Below w.heap.size w w' := by
  obtain ⟨mo, h1, h2, h3⟩ := h.at_
  have hok := h.ok
  have hlt := h.lt
  have HW := Lib.hid (where_any 28 #[] (fun n => decide (s n ≠ [])) egU gS mo w h1 (fun W n hn hb hs =>
    (usedFn W K (s n) (mo n) ((h2 n hn).far (fun k hk => hb.block k (hlt k hk))) (hok n)).mono fun e w' ⟨he, hw⟩ => ⟨he, hw ▸ Below.refl _ _⟩))
  have hu : (filtI (fun n => decide (s n ≠ [])) 32).length = usedS s 32 := by unfold filtI usedS; rw [List.length_map]
  rw [← hu]
  generalize filtI (fun n => decide (s n ≠ [])) 32 = q at HW
  clear h h1 h2 h3 hok hlt hu
  go_enter Try.func17, Try.ntmps17
  go_wp2_with fail
  refine HW.out.mono ?_
  rintro e w1 ⟨v, rfl, hr, hb⟩
  obtain ⟨A, n, c, rfl, hn, -⟩ := Its.of_own (xs := q) hr
  have HB := Lib.hid hb
  subst hn
  clear hr hb
  go_wp2_with fail
  go_ret
  exact ⟨rfl, HB.out⟩
/-- Some place of a set is of that process. -/
theorem procB_iff {l : List Pl} {c : Int} : procB l c = true ↔ ∃ p ∈ l, p.c = c := by
  unfold procB
  rw [List.any_eq_true]
  simp
set_option maxRecDepth 20000 in
set_option maxHeartbeats 2000000 in
theorem slotsFn (k n B : Nat) (l : List Pl) (c : Int) (w : World) (h : MapK EP w k n (setL l)) (hc : w.cell? ⟨B, 0, none⟩ = some (.int .i64 c)) (hB : B < w.heap.size) :
    Calls Try.prog 29 #[.map (some k), .pointer (some ⟨B, 0, none⟩)] w fun e w' => e = .returned (.bool (procB l c)) ∧ Below w.heap.size w w' := by
  obtain ⟨D, d1, d2, d3⟩ := h
  have HC := Lib.hid hc
  clear hc
  go_enter Try.func29, Try.ntmps29
  go_wp2_with (first
    | (at_range; refine wpList_range_own _ rfl _ 49 rfl 29 54 placeKeyed Try.underlying49 _ k n _ rfl d1 ?_; intro w0 hrg0 hg0 hs0)
    | fail)
  try go_frame
  go_loopw [4] (fun _ wr => ∃ (left : Lit → Bool) (cnt : Nat) (ss : List Pl), wr.ranges Try.prog 29 selfR k w.heap.size n D left cnt ∧ CollK EP D left ss ∧ (∀ p ∈ ss, p.c ≠ c) ∧ Below w.heap.size w wr)
    (fun _ wr => wr.rangeLeft k w.heap.size)
  case atStart =>
    exact ⟨_, _, [], hrg0, CollK.start EP D, fun p hp => absurd hp List.not_mem_nil, (Below.refl _ w).grown hg0 (Nat.le_refl _) (fun j e => by cases e)⟩
  case round =>
    obtain ⟨left, cnt, ss, hrg, hC, hno, hbel⟩ := hrel
    go_wp2_with (first
      | (at_next; refine wpList_next_ranges _ rfl _ rfl 29 placeKeyed selfR encQ id (fun key kl hk => by obtain ⟨x, _, hx, _⟩ := EP.inv key kl hk; exact ⟨x, hx⟩) (fun v _ _ => ⟨v, rfl⟩) k w.heap.size n _ _ _ rfl hrg ?_ ?_)
      | fail)
    · intro hc0 hl0
      have hall := hC.done d1 d2 d3 hl0
      have hB0 : procB l c = false := by
        cases hh : procB l c with
        | false => rfl
        | true =>
          obtain ⟨p, hp, hpc⟩ := procB_iff.1 hh
          exact absurd hpc (hno p ((hall p).2 (setL_ne.2 hp)))
      have HB0 := Lib.hid hB0
      have HP := Lib.hid hbel
      clear hrg hC hno hbel d1 d2 d3 hall hB0
      go_wp2
      go_ret
      exact ⟨by rw [HB0.out]; rfl, HP.out⟩
    · intro x v kl yd yp w2 cnt2 hkey hlk hv hat hrg2 hlt hg2 hs2 hen
      obtain ⟨x', hok, ex, rfl⟩ := EP.inv _ _ hkey
      obtain rfl : x = x' := EP.mkInj x x' ex
      have hxl : x ∈ l := by
        have hv' := selfR_inv hv
        have hyd : yd = .held (id v) := by injection hv'
        rw [hyd] at hat
        have h1 := look_held hat
        rw [d2 x hok] at h1
        exact setL_ne.1 (by rw [h1]; simp)
      have hB2 : Below w.heap.size w w2 := hbel.grown hg2 hbel.size (fun j e => by cases e; exact Nat.le_refl _)
      obtain ⟨w3, hw3⟩ : ∃ w3, w2.alloc (.cells #[.int .i64 x.c, .int .i64 x.g] 29) = w3 := ⟨_, rfl⟩
      have hblk : Blk w3 w2.heap.size 29 #[.int .i64 x.c, .int .i64 x.g] := by rw [← hw3]; exact Blk.new _ _ _
      have k1 : w3.cell? ⟨w2.heap.size, 0, none⟩ = some (.int .i64 x.c) := hblk.cell 0
      have k2 : w3.cell? ⟨w2.heap.size, 1, none⟩ = some (.int .i64 x.g) := hblk.cell 1
      have hB3 : Below w.heap.size w w3 := by rw [← hw3]; exact hB2.alloc hB2.size _
      have k3 : w3.cell? ⟨B, 0, none⟩ = some (.int .i64 c) := (hB3.cell (p := ⟨B, 0, none⟩) hB).trans HC.out
      have hrg3 := hrg2.of_walks (show KeepsWalks w2 w3 from by rw [← hw3]; exact KeepsWalks.alloc _ _)
      have HR3 := Lib.hid hrg3
      have HB3 := Lib.hid hB3
      have HCL := Lib.hid (hC.step hok hlk hat)
      have HNO := Lib.hid hno
      have HLT := Lib.hid (show cnt2 < wr.rangeLeft k w.heap.size from by rw [hrg.left_eq]; exact hlt)
      have HXL := Lib.hid hxl
      unfold encQ at hen
      unfold encQ
      clear hrg hC hno hbel hkey hlk hv hat hrg2 hlt hg2 hs2 hok hB2 hblk hB3 hrg3 ex hxl
      by_cases cc : x.c = c
      · have tc : (x.c == c) = true := by simpa using cc
        have HB1 := Lib.hid (show procB l c = true from procB_iff.2 ⟨x, HXL.out, cc⟩)
        clear cc
        go_wp2_with fail
        go_ret
        exact ⟨by rw [HB1.out]; rfl, HB3.out⟩
      · have tc : (x.c == c) = false := by simpa using cc
        have CC := Lib.hid cc
        clear cc
        go_wp2_with fail
        go_roundw
        case rel => exact ⟨_, cnt2, ss ++ [x], HR3.out, HCL.out, fun p hp => (List.mem_append.1 hp).elim (HNO.out p) (fun h => by simp at h; rw [h]; exact CC.out), HB3.out⟩
        case measure => rw [HR3.out.left_eq]; exact HLT.out
set_option maxRecDepth 20000 in
theorem slotsFn_nil (B : Nat) (w : World) :
    Calls Try.prog 29 #[.map none, .pointer (some ⟨B, 0, none⟩)] w fun e w' => e = .returned (.bool false) ∧ Below w.heap.size w w' := by
  have hrg := run_range_nilMap (P := Try.prog) w 49 29 54 Try.underlying49
  have hnx : ∀ ty, (Instr.next (.pointer (some ⟨w.heap.size, 0, none⟩)) false ty).run Try.prog (w.alloc (.mapIter none 0 #[] 0)) = _ := fun ty => run_next_nilMap _ ty 0 0 #[]
  have HP := Lib.hid (show Below w.heap.size w (w.alloc (.mapIter none 0 #[] 0)) from belAl (Below.refl _ w) _)
  go_enter Try.func29, Try.ntmps29
  go_wp2_with fail
  refine wp_loop_rounds 1 ?_
  rw [rounds_succ]
  go_wp2_with fail
  go_ret
  exact ⟨rfl, HP.out⟩
set_option maxRecDepth 20000 in
theorem swap_slots (c : Int) (h : SwpMem w gS K s) :
    Calls Try.prog 19 #[.pointer (some ⟨gS, 0, none⟩), .int .i64 c] w fun e w' => ∃ v, e = .returned v ∧ Its w' w'.heap.size v (slotsS s c 32) ∧ Below w.heap.size w w' := by
  obtain ⟨W0, hW0⟩ : ∃ W0, w.alloc (.cells #[.int .i64 c] 3) = W0 := ⟨_, rfl⟩
  have hb0 : Below w.heap.size w W0 := by rw [← hW0]; exact belAl (Below.refl _ w) _
  have hbx : Blk W0 w.heap.size 3 #[.int .i64 c] := by rw [← hW0]; exact Blk.new _ _ _
  obtain ⟨mo, h1, h2, h3⟩ := (h.fresh hb0).at_
  have hlt : ∀ k, K k → k < W0.heap.size := (h.fresh hb0).lt
  have HW := Lib.hid (where_any 29 #[.pointer (some ⟨w.heap.size, 0, none⟩)] (fun n => procB (s n) c) egS gS mo W0 h1 (fun W n hn hb hs => by
    have h4 := (h2 n hn).far (fun k hk => hb.block k (hlt k hk))
    have h5 : W.cell? ⟨w.heap.size, 0, none⟩ = some (.int .i64 c) := (hb.cell (p := ⟨w.heap.size, 0, none⟩) hbx.lt).trans (hbx.cell 0)
    cases hm : mo n with
    | none =>
      rw [hm] at h4
      have h7 : procB (s n) c = false := by rw [show s n = [] from h4]; rfl
      refine (slotsFn_nil w.heap.size W).mono fun e w' h8 => ?_
      simp only [h7]
      exact h8
    | some k =>
      rw [hm] at h4
      obtain ⟨_, m, h6⟩ := h4
      exact slotsFn k m w.heap.size (s n) c W h6 h5 (Nat.lt_of_lt_of_le hbx.lt hs)))
  have hu : slotsS s c 32 = filtI (fun n => procB (s n) c) 32 := rfl
  rw [hu]
  generalize filtI (fun n => procB (s n) c) 32 = q at HW
  have HB0 := Lib.hid hb0
  clear h h1 h2 h3 hlt hu hb0 hbx
  go_enter Try.func19, Try.ntmps19
  go_wp2_with fail
  refine HW.out.mono ?_
  rintro e w1 ⟨v, rfl, hr, hb⟩
  have HP := Lib.hid (And.intro (Its.of_own hr) (HB0.out.trans (hb.mono HB0.out.size)))
  clear hr hb
  go_wp2_with fail
  go_ret
  exact ⟨v, rfl, HP.out.1, HP.out.2⟩
end
theorem swap_take_nil (w : World) : Calls Try.prog 16 #[.pointer none] w fun e w' => e = .returned (.tuple #[.int .i64 0, .bool false]) ∧ Below w.heap.size w w' := by
  go_enter Try.func16, Try.ntmps16
  go_wp2_with fail
  refine (where_nil _ _ w).mono ?_
  rintro e w' ⟨rfl, hw⟩
  have hw' := hw.symm
  subst hw'
  clear hw
  go_wp2_with fail
  go_ret2
  exact ⟨rfl, Below.refl _ _⟩
theorem swap_used_nil (w : World) : Calls Try.prog 17 #[.pointer none] w fun e w' => e = .returned (.int .i64 0) ∧ Below w.heap.size w w' := by
  go_enter Try.func17, Try.ntmps17
  go_wp2_with fail
  refine (where_nil _ _ w).mono ?_
  rintro e w' ⟨rfl, hw⟩
  have hw' := hw.symm
  subst hw'
  clear hw
  go_wp2_with fail
  go_ret
  exact ⟨rfl, Below.refl _ _⟩
theorem swap_slots_nil (w : World) (c : Int) : Calls Try.prog 19 #[.pointer none, .int .i64 c] w fun e w' => ∃ A c, e = .returned (.slice A 0 c) ∧ Below w.heap.size w w' := by
  have HB := Lib.hid (belAl (Below.refl w.heap.size w) (.cells #[.int .i64 c] 3))
  go_enter Try.func19, Try.ntmps19
  go_wp2_with fail
  refine (where_nil _ _ _).mono ?_
  rintro e w' ⟨rfl, hw⟩
  have hw' := hw.symm
  subst hw'
  clear hw
  go_wp2_with fail
  go_ret
  exact ⟨none, 0, rfl, HB.out⟩
end Go.Proofs.Ythfcmfhmaokioaa

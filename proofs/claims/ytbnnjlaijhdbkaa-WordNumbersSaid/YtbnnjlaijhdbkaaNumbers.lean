/-
  WordNumbers answers true for any bytes, any place, any count and any number, and writes nothing that was there.
  Conditions: none beside the kinds' own ranges.
-/
import Derived.Test.YtbnnjlaijhdbkaaAnswers
import Derived.Deep.RegionHeld3
import Derived.Deep.DrawnRows
import Derived.Laws.CopyOwn
namespace Go.Proofs.Ytbnnjlaijhdbkaa
open Go.RowKit
set_option linter.unusedVariables false
attribute [local go_sem ↓] Go.wp_at_zero Go.wp_at_succ

set_option maxHeartbeats 400000 in
theorem numbers_big (A : Option Addr) (l cp : Nat) (a n v : Int) (w : World) (hm : l ≤ maxLen) (h : 1000 < l) :
    Calls Try.prog 3 #[.slice A l cp, .int .i64 a, .int .i64 n, .int .u64 v] w fun e w' => e = .returned (.bool true) ∧ Below w.heap.size w w' := by
  have h3 : decide ((1000 : Int) < (l : Int)) = true := by simp; omega
  go_enter Try.func3, Try.ntmps3
  go_wp2_with (go_at_call 8; refine (answers_any _).mono ?_; rintro e w1 ⟨rfl, hb1⟩)
  go_ret
  exact ⟨rfl, hb1⟩

/-- An owned copy of bytes, as a slice value. -/
theorem own_bts {w : World} {base l : Nat} {v : Value} {xs : List Nat} (h : w.ownsRow base 5 1 v (0 + xs.length) (([] ++ xs).map bv)) (hl : xs.length = l) (hb : ∀ y ∈ xs, y < 256) :
    ∃ A c, v = .slice A l c ∧ Bts w w.heap.size (.slice A l c) xs := by
  rw [Nat.zero_add, List.nil_append] at h
  have hx := Bts.of_own h hb
  have hx2 := hx
  obtain ⟨A, n, c, hv, hn, -⟩ := hx2
  obtain rfl : n = l := by omega
  rw [hv] at hx
  exact ⟨A, c, hv, hx⟩

set_option maxHeartbeats 800000 in
theorem numbers_no (v0 : Value) (xs : List Nat) (a n : Int) (V : Nat) (w : World) (h0 : Bts w w.heap.size v0 xs) (hl2 : xs.length ≤ 1000) (ha : -9223372036854775808 ≤ a) (hf : NoFit xs.length a n) :
    Calls Try.prog 3 #[v0, .int .i64 a, .int .i64 n, .int .u64 (V : Int)] w fun e w' => e = .returned (.bool true) ∧ Below w.heap.size w w' := by
  have H0 := Lib.hid h0
  obtain ⟨A0, l0, c0, rfl, e0, -⟩ := h0
  have E0 := Lib.hid e0
  rw [e0] at hl2 hf
  clear e0
  have lm : l0 ≤ maxLen := by unfold maxLen; omega
  have HG := Lib.hid (get_no A0 l0 c0 a n w lm hf)
  have HR := Lib.hid (refGet_no A0 l0 c0 a n w lm ha hf)
  have HP := Lib.hid (fun A c w' => put_no A l0 c V a n w' lm hf)
  clear hf lm ha
  obtain ⟨i0, hi, hz0, hz1, hz2⟩ := info_parts Try.info5
  have HI := Lib.hid hi
  have HZ0 := Lib.hid hz0
  have HZ1 := Lib.hid hz1
  have HZ2 := Lib.hid hz2
  clear hi hz0 hz1 hz2
  have HN := Lib.hid (own_empty w 5)
  have HB := Lib.hid (show Below w.heap.size w (w.alloc (.cells #[] 5)) from (Below.refl _ _).alloc (Nat.le_refl _) _)
  have t2 : decide ((1000 : Int) < (l0 : Int)) = false := by simp; omega
  go_enter Try.func3, Try.ntmps3
  go_wp2_with fail
  refine HG.out.mono ?_
  rintro e w1 ⟨rfl, rfl⟩
  go_wp2_with fail
  refine HR.out.mono ?_
  rintro e w1 ⟨rfl, rfl⟩
  go_wp2_with (at_builtin; refine wpList_append_bts rfl (.tmp 34) (.tmp 35) 22 rfl w.heap.size 5 i0 Try.underlying22 HI.out HZ0.out HZ1.out HZ2.out _ 0 [] rfl HN.out _ xs rfl w.heap.size (H0.out.below HB.out) (by have := E0.out; omega) HB.out.size ?_; intro v3 w3 O3 B3; obtain ⟨A3, c3, hv3, hx3⟩ := own_bts O3.out E0.out H0.out.byte; subst hv3; have HX3 := Lib.hid hx3; clear hx3)
  refine (HP.out A3 c3 _).mono ?_
  rintro e w4 ⟨rfl, rfl⟩
  have B4 := Lib.hid (HB.out.trans B3.out)
  go_wp2_with fail
  refine (answers_any _).mono ?_
  rintro e w5 ⟨rfl, hb5⟩
  have B5 := Lib.hid (B4.out.trans (hb5.mono B4.out.size))
  have HX5 := Lib.hid (HX3.out.below hb5)
  have Z5 := Lib.hid hb5.size
  have HN5 := Lib.hid (own_empty w5 5)
  have HB5 := Lib.hid (show Below w5.heap.size w5 (w5.alloc (.cells #[] 5)) from (Below.refl _ _).alloc (Nat.le_refl _) _)
  clear hb5
  go_wp2_with (at_builtin; refine wpList_append_bts rfl (.tmp 59) (.tmp 60) 22 rfl w5.heap.size 5 i0 Try.underlying22 HI.out HZ0.out HZ1.out HZ2.out _ 0 [] rfl HN5.out _ xs rfl w.heap.size ((H0.out.below B5.out).below (HB5.out.mono B5.out.size)) (by have := E0.out; omega) HB5.out.size ?_; intro v6 w6 O6 B6; obtain ⟨A6, c6, hv6, hx6⟩ := own_bts O6.out E0.out H0.out.byte; subst hv6; have HX6 := Lib.hid hx6; clear hx6)
  refine (same_yes _ _ xs w3.heap.size w6.heap.size w6 ((HX5.out.below (HB5.out.mono Z5.out)).below (B6.out.mono Z5.out)) HX6.out).mono ?_
  rintro e w7 ⟨rfl, m, rfl⟩
  go_wp2
  go_ret
  exact ⟨rfl, below_drewN (B5.out.trans ((HB5.out.trans B6.out).mono B5.out.size)) m⟩

/-! ### where the place may be -/

theorem cap_of {w : World} {B l c : Nat} {A : Option Addr} {xs : List Nat} (h : Bts w B (.slice A l c) xs) : l ≤ c ∧ c ≤ maxLen := by
  obtain ⟨A', n, c', hv, _, _, ⟨h1, _⟩, h2, _⟩ := h
  cases hv
  exact ⟨h1, h2⟩

theorem step_copy_zero {P : Program} {ops : Array Oper} {o : Oper} {a : Act} {w : World} {K : Act → World → Prop} {Q : Exit → Act → World → Prop} {E : Prop} (hgd : o.guard = none) (d s : Operand) (dT sT : TypeId)
    (ho : o.op = .call { callee := .builtin .copy, args := #[d, s], argTypes := #[dT, sT] }) (elem : TypeId) (hu : P.underlying dT = some (.slice elem)) (hsz : (P.info? elem).map (·.size) = some 1)
    (dp sp : Option Addr) (dLen dCap sLen sCap : Nat) (hd : a.eval d = .slice dp dLen dCap) (hs : a.eval s = .slice sp sLen sCap) (hn : Nat.min sLen dLen = 0)
    (h : K (a.put o.dst (goInt 0)) w) : if Region.wanted o (yielded ops a.tmps) = true then Oper.wp P o a w K Q else E := by
  have hw : Region.wanted o (yielded ops a.tmps) = true := by simp [Region.wanted, hgd]
  rw [if_pos hw]
  have hrun := run_copy_none (P := P) w dT sT o.type elem dp sp dLen dCap sLen sCap hu hsz hn
  unfold Oper.wp
  simp [execOp, ho, resolve, invoke, builtin, hd, hs, hrun, Result.andThen]
  exact h
theorem Try.size5 : (Try.prog.info? 5).map (·.size) = some 1 := by kernel_rfl

/-- What Num leaves. -/
def NumPost (v n : Nat) (w : World) (e : Ending) (w' : World) : Prop :=
  ∃ A c, e = .returned (.slice A n c) ∧ Bts w' w'.heap.size (.slice A n c) (numL v n) ∧ Below w.heap.size w w'
theorem num_post (v n : Nat) (w : World) (hv : v < 18446744073709551616) (h8 : n ≤ 8) : Calls Try.prog 12 #[.int .u64 (v : Int), .int .i64 (n : Int)] w (NumPost v n w) := by
  refine (num_any v n w hv (by omega) (by omega)).mono ?_
  rintro e w' ⟨r, rfl, hown, hb⟩
  rw [Int.toNat_natCast] at hown
  have hx := Bts.of_own hown (numL_byte v n)
  have hx2 := hx
  obtain ⟨A, m, c, rfl, hm, -⟩ := hx2
  obtain rfl : m = n := by rw [← hm, numL_length]
  exact ⟨A, c, rfl, hx, hb⟩

set_option maxHeartbeats 800000 in
theorem numbers_zero (v0 : Value) (xs : List Nat) (a : Nat) (V : Nat) (w : World) (h0 : Bts w w.heap.size v0 xs) (hl2 : xs.length ≤ 1000) (ha : a ≤ xs.length) (hV : V < 18446744073709551616) :
    Calls Try.prog 3 #[v0, .int .i64 (a : Int), .int .i64 0, .int .u64 (V : Int)] w fun e w' => e = .returned (.bool true) ∧ Below w.heap.size w w' := by
  have H0 := Lib.hid h0
  have hg := get_yes v0 xs w.heap.size a 0 w h0 (by unfold Fit; omega)
  have hr := refGet_yes v0 xs w.heap.size a 0 w h0 (by unfold Fit; omega)
  obtain ⟨G, hG⟩ : ∃ G, G = getV xs a 0 := ⟨_, rfl⟩
  rw [← hG] at hg hr
  clear hG
  obtain ⟨A0, l0, c0, rfl, e0, -⟩ := h0
  have E0 := Lib.hid e0
  rw [e0] at hl2 ha
  clear e0
  have lm : l0 ≤ maxLen := by unfold maxLen; omega
  have HG := Lib.hid hg
  have HR := Lib.hid hr
  clear hg hr
  have HP := Lib.hid (fun A c w' => put_zero A l0 c V a w' lm (by unfold Fit; omega))
  have HV := Lib.hid hV
  clear lm hV
  obtain ⟨i0, hi, hz0, hz1, hz2⟩ := info_parts Try.info5
  have HI := Lib.hid hi
  have HZ0 := Lib.hid hz0
  have HZ1 := Lib.hid hz1
  have HZ2 := Lib.hid hz2
  clear hi hz0 hz1 hz2
  have HN := Lib.hid (own_empty w 5)
  have HB := Lib.hid (show Below w.heap.size w (w.alloc (.cells #[] 5)) from (Below.refl _ _).alloc (Nat.le_refl _) _)
  have t2 : decide ((1000 : Int) < (l0 : Int)) = false := by simp; omega
  have t3 : (0 : Int) ≤ (a : Int) := by omega
  have t4 : (a : Int) ≤ (l0 : Int) := by omega
  go_enter Try.func3, Try.ntmps3
  go_wp2_with fail
  refine HG.out.mono ?_
  rintro e w1 ⟨rfl, rfl⟩
  go_wp2_with fail
  refine HR.out.mono ?_
  rintro e w1 ⟨rfl, rfl⟩
  go_wp2_with (at_builtin; refine wpList_append_bts rfl (.tmp 34) (.tmp 35) 22 rfl w.heap.size 5 i0 Try.underlying22 HI.out HZ0.out HZ1.out HZ2.out _ 0 [] rfl HN.out _ xs rfl w.heap.size (H0.out.below HB.out) (by have := E0.out; omega) HB.out.size ?_; intro v3 w3 O3 B3; obtain ⟨A3, c3, hv3, hx3⟩ := own_bts O3.out E0.out H0.out.byte; subst hv3; have HX3 := Lib.hid hx3; clear hx3)
  refine (HP.out A3 c3 _).mono ?_
  rintro e w4 ⟨rfl, rfl⟩
  have B4 := Lib.hid (HB.out.trans B3.out)
  go_wp2_with fail
  refine (answers_any _).mono ?_
  rintro e w5 ⟨rfl, hb5⟩
  have B5 := Lib.hid (B4.out.trans (hb5.mono B4.out.size))
  have HX5 := Lib.hid (HX3.out.below hb5)
  have Z5 := Lib.hid hb5.size
  have HN5 := Lib.hid (own_empty w5 5)
  have HB5 := Lib.hid (show Below w5.heap.size w5 (w5.alloc (.cells #[] 5)) from (Below.refl _ _).alloc (Nat.le_refl _) _)
  clear hb5
  go_wp2_with (at_builtin; refine wpList_append_bts rfl (.tmp 59) (.tmp 60) 22 rfl w5.heap.size 5 i0 Try.underlying22 HI.out HZ0.out HZ1.out HZ2.out _ 0 [] rfl HN5.out _ xs rfl w.heap.size ((H0.out.below B5.out).below (HB5.out.mono B5.out.size)) (by have := E0.out; omega) HB5.out.size ?_; intro v6 w6 O6 B6; obtain ⟨A6, c6, hv6, hx6⟩ := own_bts O6.out E0.out H0.out.byte; subst hv6; have HX6 := Lib.hid hx6; clear hx6)
  obtain ⟨hc6, hm6⟩ := cap_of HX6.out
  have hc7 : (l0 : Int) ≤ (c6 : Int) := by omega
  have hc8 : (a : Int) ≤ (c6 : Int) := by omega
  unfold maxLen at hm6
  by_cases hca : c6 = a
  · subst hca
    go_region_held3 (fun _ => True) (trivial)
      (first
        | (go_at_call 12; refine (num_post V 0 _ HV.out (by omega)).mono ?_; rintro e w8 ⟨A8, c8, rfl, hx8, hb8⟩; have HX8 := Lib.hid hx8; have HB8 := Lib.hid hb8; clear hx8 hb8)
        | ((refine step_copy_zero (by rfl) (.tmp 65) (.tmp 68) 22 22 (by rfl) 5 Try.underlying22 Try.size5 _ _ _ _ _ _ (by rfl) (by rfl) (by simp) ?_)))
    go_wp2_with fail
    have B8 : Below w6.heap.size w6 w8 := ((Below.refl _ _).drew).trans HB8.out
    have Z6 : w5.heap.size ≤ w6.heap.size := (HB5.out.trans B6.out).size
    refine (same_yes _ _ xs w3.heap.size w6.heap.size _ (((HX5.out.below (HB5.out.mono Z5.out)).below (B6.out.mono Z5.out)).below (B8.mono (Nat.le_trans Z5.out Z6))) (HX6.out.below B8)).mono ?_
    rintro e w9 ⟨rfl, m, rfl⟩
    go_wp2
    go_ret
    exact ⟨rfl, below_drewN ((B5.out.trans ((HB5.out.trans B6.out).mono B5.out.size)).trans (B8.mono (Nat.le_trans B5.out.size Z6))) m⟩
  · go_region_held3 (fun _ => True) (trivial)
      (first
        | (go_at_call 12; refine (num_post V 0 _ HV.out (by omega)).mono ?_; rintro e w8 ⟨A8, c8, rfl, hx8, hb8⟩; have HX8 := Lib.hid hx8; have HB8 := Lib.hid hb8; clear hx8 hb8)
        | ((refine step_copy_zero (by rfl) (.tmp 65) (.tmp 68) 22 22 (by rfl) 5 Try.underlying22 Try.size5 _ _ _ _ _ _ (by rfl) (by rfl) (by simp) ?_)))
    go_wp2_with fail
    have B8 : Below w6.heap.size w6 w8 := ((Below.refl _ _).drew).trans HB8.out
    have Z6 : w5.heap.size ≤ w6.heap.size := (HB5.out.trans B6.out).size
    refine (same_yes _ _ xs w3.heap.size w6.heap.size _ (((HX5.out.below (HB5.out.mono Z5.out)).below (B6.out.mono Z5.out)).below (B8.mono (Nat.le_trans Z5.out Z6))) (HX6.out.below B8)).mono ?_
    rintro e w9 ⟨rfl, m, rfl⟩
    go_wp2
    go_ret
    exact ⟨rfl, below_drewN ((B5.out.trans ((HB5.out.trans B6.out).mono B5.out.size)).trans (B8.mono (Nat.le_trans B5.out.size Z6))) m⟩

/-! ### some bytes at a place that may be -/

theorem step_copy_bts {P : Program} {ops : Array Oper} {o : Oper} {a : Act} {w : World} {K : Act → World → Prop} {Q : Exit → Act → World → Prop} {E : Prop} (hgd : o.guard = none) (d s : Operand) (dT sT : TypeId)
    (ho : o.op = .call { callee := .builtin .copy, args := #[d, s], argTypes := #[dT, sT] }) (elem : TypeId) (hu : P.underlying dT = some (.slice elem)) (hsz : (P.info? elem).map (·.size) = some 1)
    (g off : Nat) (sp : Option Addr) (dLen dCap sLen sCap : Nat) (hd : a.eval d = .slice (some ⟨g, off, none⟩) dLen dCap) (hs : a.eval s = .slice sp sLen sCap)
    (t : TypeId) (cur : Array Value) (hg : Blk w g t cur) (ys : List Nat) (B' : Nat) (hr : Bts w B' (.slice sp sLen sCap) ys) (hn : ys.length ≤ dLen) (hfit : off + ys.length ≤ cur.size) (B : Nat) (hB : B ≤ g)
    (h : ∀ w', Hid (Blk w' g t (splice cur.toList off (ys.map bv)).toArray) → Hid (Below B w w') → K (a.put o.dst (goInt (ys.map bv).length)) w') : if Region.wanted o (yielded ops a.tmps) = true then Oper.wp P o a w K Q else E := by
  obtain ⟨A, m, c, hv, hl, hm, ⟨hc, hnn⟩, hcm, hb, hcell⟩ := hr
  injection hv with e1 e2 e3
  subst e1 e2 e3
  refine step_copy_splice hgd d s dT sT ho elem hu hsz _ _ dLen dCap sLen sCap hd hs g off cur.toList t (by unfold Blk at hg; simpa using hg) (ys.map bv) ?_ ?_ (by simpa using hfit) (map_bv_one ys) B w (Below.refl _ _) hB ?_
  · simp only [List.length_map, hl]
    exact (Nat.min_eq_left (by omega)).symm
  · intro h0
    simp only [List.length_map] at h0
    obtain ⟨b, off', he, _, hc'⟩ := hcell (by omega)
    refine ⟨rfl, _, he, fun j v hv => ?_⟩
    have hj : j < ys.length := by
      have := (List.getElem?_eq_some_iff.1 hv).1
      simpa using this
    have hcj := hc' j (by omega)
    simp [hj] at hv hcj
    subst hv
    have e2 : (Addr.mk b off' none).add j = ⟨b, off' + j, none⟩ := by unfold Addr.add; split <;> simp_all
    rw [e2, hcj]
    rfl
  · intro w' h1 h2
    exact h w' h1 h2

/-- An owned copy of bytes, as a block. -/
theorem own_blk {w : World} {base l : Nat} {v : Value} {xs : List Nat} (h : w.ownsRow base 5 1 v (0 + xs.length) (([] ++ xs).map bv)) (hl : xs.length = l) (h0 : 0 < l) :
    ∃ g c cur, v = .slice (some ⟨g, 0, none⟩) l c ∧ Blk w g 5 cur ∧ cur.size = c ∧ l ≤ c ∧ c ≤ maxLen ∧ base ≤ g ∧ ∀ j, j < l → cur[j]? = some (bv (xs.getD j 0)) := by
  rw [Nat.zero_add, List.nil_append, hl] at h
  obtain ⟨g, c, rfl⟩ := own_shape h (by omega)
  obtain ⟨cur, h1, h2, h3, h4, h5⟩ := Blk.of_own h
  refine ⟨g, c, cur, rfl, h1, h2, h3, h4, (h.lt g rfl).1, fun j hj => ?_⟩
  have hj' : j < xs.length := by omega
  rw [h5 j hj]
  simp [hj']

theorem put_bts {w : World} {g l c a N V : Nat} {cur : Array Value} {xs : List Nat} (h : Blk w g 5 (putV cur a V N)) (hl : xs.length = l) (hc : cur.size = c) (hlc : l ≤ c) (hcm : c ≤ maxLen) (hb : ∀ y ∈ xs, y < 256) (haN : a + N ≤ l)
    (hx : ∀ j, j < l → cur[j]? = some (bv (xs.getD j 0))) : Bts w w.heap.size (.slice (some ⟨g, 0, none⟩) l c) (over xs a (numL V N)) := by
  have ho := over_getD xs a (numL V N) (by rw [numL_length, hl]; exact haN)
  rw [numL_length] at ho
  refine Bts.of_blk h h.lt (by rw [over_length _ _ _ (by rw [numL_length]; omega), hl]) hlc hcm (fun j hj => ?_) (fun j hj => ?_)
  · rw [ho]
    split
    · rw [numL_getD _ _ _ (by omega)]; exact dig_lt _ _
    · have hj' : j < xs.length := by omega
      have := hb _ (List.getElem_mem hj')
      simpa [hj'] using this
  · rw [Nat.zero_add, putV_at _ _ _ _ _ (by omega), ho]
    split
    · rw [numL_getD _ _ _ (by omega)]
    · exact hx j hj

theorem splice_bts {w : World} {g l c a : Nat} {cur : Array Value} {xs ys : List Nat} (h : Blk w g 5 (splice cur.toList a (ys.map bv)).toArray) (hl : xs.length = l) (hc : cur.size = c) (hlc : l ≤ c) (hcm : c ≤ maxLen) (hb : ∀ y ∈ xs, y < 256) (hy : ∀ y ∈ ys, y < 256) (haN : a + ys.length ≤ l)
    (hx : ∀ j, j < l → cur[j]? = some (bv (xs.getD j 0))) : Bts w w.heap.size (.slice (some ⟨g, 0, none⟩) l c) (over xs a ys) := by
  have ho := over_getD xs a ys (by omega)
  have hyb : ∀ j, j < ys.length → ys.getD j 0 < 256 := fun j hj => by
    have := hy _ (List.getElem_mem hj)
    simpa [hj] using this
  refine Bts.of_blk h h.lt (by rw [over_length _ _ _ (by omega), hl]) hlc hcm (fun j hj => ?_) (fun j hj => ?_)
  · rw [ho]
    split
    · exact hyb _ (by omega)
    · have hj' : j < xs.length := by omega
      have := hb _ (List.getElem_mem hj')
      simpa [hj'] using this
  · have hta : (cur.toList.take a).length = a := by simp; omega
    rw [Nat.zero_add, ho, List.getElem?_toArray, splice]
    by_cases h1 : j < a
    · rw [if_neg (by omega), List.getElem?_append_left (by omega), List.getElem?_take, if_pos h1]
      have := hx j hj
      simpa using this
    · rw [List.getElem?_append_right (by omega), hta]
      by_cases h2 : j < a + ys.length
      · rw [if_pos ⟨by omega, h2⟩, List.getElem?_append_left (by simp; omega)]
        have h3 : j - a < ys.length := by omega
        simp [h3]
      · rw [if_neg (by omega), List.getElem?_append_right (by simp; omega), List.length_map, List.getElem?_drop, show a + ys.length + (j - a - ys.length) = j by omega]
        have := hx j hj
        simpa using this

set_option maxHeartbeats 800000 in
theorem numbers_yes (v0 : Value) (xs : List Nat) (a N : Nat) (V : Nat) (w : World) (h0 : Bts w w.heap.size v0 xs) (hl2 : xs.length ≤ 1000) (h0N : 0 < N) (hN8 : N ≤ 8) (ha : a + N ≤ xs.length) (hV : V < 18446744073709551616) :
    Calls Try.prog 3 #[v0, .int .i64 (a : Int), .int .i64 (N : Int), .int .u64 (V : Int)] w fun e w' => e = .returned (.bool true) ∧ Below w.heap.size w w' := by
  have H0 := Lib.hid h0
  have hg := get_yes v0 xs w.heap.size a N w h0 (by unfold Fit; omega)
  have hr := refGet_yes v0 xs w.heap.size a N w h0 (by unfold Fit; omega)
  obtain ⟨G, hG⟩ : ∃ G, G = getV xs a N := ⟨_, rfl⟩
  rw [← hG] at hg hr
  clear hG
  obtain ⟨A0, l0, c0, rfl, e0, -⟩ := h0
  have E0 := Lib.hid e0
  rw [e0] at hl2 ha
  clear e0
  have lm : l0 ≤ maxLen := by unfold maxLen; omega
  have HG := Lib.hid hg
  have HR := Lib.hid hr
  clear hg hr
  have HP := Lib.hid (fun g c cur w' (hb : Blk w' g 5 cur) (hs : 0 + l0 ≤ cur.size) => put_yes g 0 l0 c V 5 cur a N w' lm (by unfold Fit; omega) hb hs)
  have HV := Lib.hid hV
  clear lm hV
  obtain ⟨i0, hi, hz0, hz1, hz2⟩ := info_parts Try.info5
  have HI := Lib.hid hi
  have HZ0 := Lib.hid hz0
  have HZ1 := Lib.hid hz1
  have HZ2 := Lib.hid hz2
  clear hi hz0 hz1 hz2
  have HN := Lib.hid (own_empty w 5)
  have HB := Lib.hid (show Below w.heap.size w (w.alloc (.cells #[] 5)) from (Below.refl _ _).alloc (Nat.le_refl _) _)
  have t2 : decide ((1000 : Int) < (l0 : Int)) = false := by simp; omega
  have t3 : (0 : Int) ≤ (a : Int) := by omega
  have t4 : (a : Int) ≤ (l0 : Int) := by omega
  have hl0 : 0 < l0 := by omega
  go_enter Try.func3, Try.ntmps3
  go_wp2_with fail
  refine HG.out.mono ?_
  rintro e w1 ⟨rfl, rfl⟩
  go_wp2_with fail
  refine HR.out.mono ?_
  rintro e w1 ⟨rfl, rfl⟩
  go_wp2_with (at_builtin; refine wpList_append_bts rfl (.tmp 34) (.tmp 35) 22 rfl w.heap.size 5 i0 Try.underlying22 HI.out HZ0.out HZ1.out HZ2.out _ 0 [] rfl HN.out _ xs rfl w.heap.size (H0.out.below HB.out) (by have := E0.out; omega) HB.out.size ?_; intro v3 w3 O3 B3; obtain ⟨g3, c3, cur3, hv3, hblk3, hs3, hlc3, hcm3, hbg3, hx3⟩ := own_blk O3.out E0.out hl0; subst hv3; have HBL3 := Lib.hid hblk3; have HS3 := Lib.hid hs3; have HX3 := Lib.hid hx3; clear hblk3 hs3 hx3)
  refine (HP.out g3 c3 cur3 _ HBL3.out (by rw [HS3.out]; omega)).mono ?_
  rintro e w4 ⟨rfl, hp4⟩
  simp only [Int.toNat_natCast, Nat.zero_add] at hp4
  have HX4 := Lib.hid (put_bts hp4.1 E0.out HS3.out hlc3 hcm3 H0.out.byte ha HX3.out)
  have B4 := Lib.hid ((HB.out.trans B3.out).trans (hp4.below hbg3 (HB.out.trans B3.out).size))
  clear hp4
  go_wp2_with fail
  refine (answers_any _).mono ?_
  rintro e w5 ⟨rfl, hb5⟩
  have B5 := Lib.hid (B4.out.trans (hb5.mono B4.out.size))
  have HX5 := Lib.hid (HX4.out.below hb5)
  have Z5 := Lib.hid hb5.size
  have HN5 := Lib.hid (own_empty w5 5)
  have HB5 := Lib.hid (show Below w5.heap.size w5 (w5.alloc (.cells #[] 5)) from (Below.refl _ _).alloc (Nat.le_refl _) _)
  clear hb5
  go_wp2_with (at_builtin; refine wpList_append_bts rfl (.tmp 59) (.tmp 60) 22 rfl w5.heap.size 5 i0 Try.underlying22 HI.out HZ0.out HZ1.out HZ2.out _ 0 [] rfl HN5.out _ xs rfl w.heap.size ((H0.out.below B5.out).below (HB5.out.mono B5.out.size)) (by have := E0.out; omega) HB5.out.size ?_; intro v6 w6 O6 B6; obtain ⟨g6, c6, cur6, hv6, hblk6, hs6, hlc6, hcm6, hbg6, hx6⟩ := own_blk O6.out E0.out hl0; subst hv6; have HBL6 := Lib.hid hblk6; have HS6 := Lib.hid hs6; have HX6 := Lib.hid hx6; clear hblk6 hs6 hx6)
  have hc7 : (l0 : Int) ≤ (c6 : Int) := by omega
  have hc8 : (a : Int) ≤ (c6 : Int) := by omega
  have hca : ¬ c6 = a := by omega
  have HM6 := Lib.hid hcm6
  unfold maxLen at hcm6
  go_region_held3 (fun _ => True) (trivial)
    (first
      | (go_at_call 12; refine (num_post V N _ HV.out hN8).mono ?_; rintro e w8 ⟨A8, c8, rfl, hx8, hb8⟩; have HX8 := Lib.hid hx8; have B8 := Lib.hid (show Below w6.heap.size w6 w8 from ((Below.refl _ _).drew).trans hb8); have HBL8 := Lib.hid (HBL6.out.below B8.out HBL6.out.lt); clear hx8 hb8)
      | ((refine step_copy_bts (by rfl) (.tmp 65) (.tmp 68) 22 22 (by rfl) 5 Try.underlying22 Try.size5 g6 a A8 _ _ _ _ (by rfl) (by rfl) 5 cur6 HBL8.out (numL V N) _ HX8.out (by rw [numL_length]; omega) (by rw [numL_length, HS6.out]; omega) w5.heap.size hbg6 ?_; intro w9 HBL9 B9)))
  go_wp2_with fail
  have Z6 : w5.heap.size ≤ w6.heap.size := (HB5.out.trans B6.out).size
  have HX9 := splice_bts HBL9.out E0.out HS6.out hlc6 HM6.out H0.out.byte (numL_byte V N) (by rw [numL_length]; exact ha) HX6.out
  have HC9 := (((HX5.out.below (HB5.out.mono Z5.out)).below (B6.out.mono Z5.out)).below (B8.out.mono (Nat.le_trans Z5.out Z6))).below (B9.out.mono Z5.out)
  refine (same_yes _ _ _ _ _ _ HC9 HX9).mono ?_
  rintro e w10 ⟨rfl, m, rfl⟩
  go_wp2
  go_ret
  exact ⟨rfl, below_drewN (((B5.out.trans ((HB5.out.trans B6.out).mono B5.out.size)).trans (B8.out.mono (Nat.le_trans B5.out.size Z6))).trans (B9.out.mono B5.out.size)) m⟩
end Go.Proofs.Ytbnnjlaijhdbkaa

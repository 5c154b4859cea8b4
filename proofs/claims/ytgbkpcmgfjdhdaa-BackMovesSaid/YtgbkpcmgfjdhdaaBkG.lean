/-
  Frames of the back map over the landed code: which frames places of a process have, rising.
  Conditions: the frames that somebody has are few.
-/
import Derived.Test.YtgbkpcmgfjdhdaaBkF
import Derived.Test.YtgbkpcmgfjdhdaaShelf
import Derived.Maps.RangeWalk
import Derived.LoopN
import Derived.RangeFuncSeq
import Derived.Test.YtgbkpcmgfjdhdaaSortNil
import Derived.Test.YtgbkpcmgfjdhdaaVals
namespace Go.Proofs.Ytgbkpcmgfjdhdaa
open Go.RowKit Go.Maps
set_option linter.unusedVariables false

theorem wantP (B : Nat) (c : Int) (p : Pl) (w : World) (hc : w.cell? ⟨B, 0, none⟩ = some (.int .i64 c)) (hB : B < w.heap.size) :
    Calls Try.prog 21 #[.agg #[.int .i64 p.c, .int .i64 p.g], .pointer (some ⟨B, 0, none⟩)] w fun e w' => e = .returned (.bool (p.c == c)) ∧ Below w.heap.size w w' := by
  obtain ⟨W, hW⟩ : ∃ W, w.alloc (.cells #[.int .i64 p.c, .int .i64 p.g] 29) = W := ⟨_, rfl⟩
  have hbel : Below w.heap.size w W := by rw [← hW]; exact belAl (Below.refl _ w) _
  have hkp : Blk W w.heap.size 29 #[.int .i64 p.c, .int .i64 p.g] := by rw [← hW]; exact Blk.new _ _ _
  have k1 : W.cell? ⟨w.heap.size, 0, none⟩ = some (.int .i64 p.c) := hkp.cell 0
  have k2 : W.cell? ⟨B, 0, none⟩ = some (.int .i64 c) := (hbel.cell (p := ⟨B, 0, none⟩) hB).trans hc
  have HP := Lib.hid hbel
  clear hbel hkp hc
  go_enter Try.func21, Try.ntmps21
  go_wp2
  go_ret
  exact ⟨rfl, HP.out⟩
/-- Some place of a set is of that process. -/
def anyC (l : List Pl) (c : Int) : Bool := l.any (fun p => p.c == c)
theorem anyC_iff {l : List Pl} {c : Int} : anyC l c = true ↔ ∃ p ∈ l, p.c = c := by
  unfold anyC
  rw [List.any_eq_true]
  simp
theorem walks_below {B : Nat} {w w' : World} (h : Below B w w') (hB : w.heap.size ≤ B) : KeepsWalks w w' :=
  ⟨h.size, fun k o hk _ => (h.block k (Nat.lt_of_lt_of_le (Array.getElem?_eq_some_iff.1 hk).1 hB)).trans hk⟩
set_option maxRecDepth 20000 in
set_option maxHeartbeats 2000000 in
theorem some_any (k n B : Nat) (l : List Pl) (c : Int) (w : World) (h : MapK EP w k n (setL l)) (hc : w.cell? ⟨B, 0, none⟩ = some (.int .i64 c)) (hB : B < w.heap.size) :
    Calls Try.prog 20 #[.map (some k), .func (.func 21) #[] #[.pointer (some ⟨B, 0, none⟩)]] w fun e w' => e = .returned (.bool (anyC l c)) ∧ Below w.heap.size w w' := by
  obtain ⟨D, d1, d2, d3⟩ := h
  have HC := Lib.hid hc
  clear hc
  go_enter Try.func20, Try.ntmps20
  go_wp2_with (first
    | (at_range; refine wpList_range_own _ rfl _ 49 rfl 29 50 placeKeyed Try.underlying49 _ k n _ rfl d1 ?_; intro w0 hrg0 hg0 hs0)
    | fail)
  try go_frame
  go_loopw [4] (fun s4 wr => s4 = .bool false ∧ ∃ (left : Lit → Bool) (cnt : Nat) (ss : List Pl), wr.ranges Try.prog 29 selfR k w.heap.size n D left cnt ∧ CollK EP D left ss ∧ (∀ p ∈ ss, p.c ≠ c) ∧ Below w.heap.size w wr)
    (fun _ wr => wr.rangeLeft k w.heap.size)
  case atStart =>
    exact ⟨rfl, _, _, [], hrg0, CollK.start EP D, fun p hp => absurd hp List.not_mem_nil, (Below.refl _ w).grown hg0 (Nat.le_refl _) (fun j e => by cases e)⟩
  case round =>
    obtain ⟨rfl, left, cnt, ss, hrg, hC, hno, hbel⟩ := hrel
    go_wp2_with (first
      | (at_next; refine wpList_next_ranges _ rfl _ rfl 29 placeKeyed selfR encP id (fun key kl hk => by obtain ⟨x, _, hx, _⟩ := EP.inv key kl hk; exact ⟨x, hx⟩) (fun v _ _ => ⟨v, rfl⟩) k w.heap.size n _ _ _ rfl hrg ?_ ?_)
      | fail)
    · intro hc0 hl0
      have hall := hC.done d1 d2 d3 hl0
      have hB0 : anyC l c = false := by
        cases hh : anyC l c with
        | false => rfl
        | true =>
          obtain ⟨p, hp, hpc⟩ := anyC_iff.1 hh
          exact absurd hpc (hno p ((hall p).2 (setL_ne.2 hp)))
      have HB0 := Lib.hid hB0
      have HP := Lib.hid hbel
      clear hrg hC hno hbel d1 d2 d3 hall hB0
      go_wp2
      go_ret
      exact ⟨by rw [HB0.out]; rfl, HP.out⟩
    · intro x v kl yd yp w2 cnt2 hkey hlk hv hat hrg2 hlt hg2 hs2 hen
      obtain ⟨x', hok, ex, rfl⟩ := EP.inv _ _ hkey
      obtain rfl : x = x' := EP.mkInj x x' ex
      have hxl : x ∈ l := by
        have hv' := selfR_inv hv
        have hyd : yd = .held (id v) := by injection hv'
        rw [hyd] at hat
        have h1 := look_held hat
        rw [d2 x hok] at h1
        exact setL_ne.1 (by rw [h1]; simp)
      have hB2 : Below w.heap.size w w2 := hbel.grown hg2 hbel.size (fun j e => by cases e; exact Nat.le_refl _)
      obtain ⟨w3, hw3⟩ : ∃ w3, w2.alloc (.cells #[.int .i64 x.c, .int .i64 x.g] 29) = w3 := ⟨_, rfl⟩
      have hblk : Blk w3 w2.heap.size 29 #[.int .i64 x.c, .int .i64 x.g] := by rw [← hw3]; exact Blk.new _ _ _
      have k1 : w3.cell? ⟨w2.heap.size, 0, none⟩ = some (.int .i64 x.c) := hblk.cell 0
      have k2 : w3.cell? ⟨w2.heap.size, 1, none⟩ = some (.int .i64 x.g) := hblk.cell 1
      have hB3 : Below w.heap.size w w3 := by rw [← hw3]; exact hB2.alloc hB2.size _
      have hrg3 := hrg2.of_walks (show KeepsWalks w2 w3 from by rw [← hw3]; exact KeepsWalks.alloc _ _)
      have CW := Lib.hid (wantP B c x w3 ((hB3.cell (p := ⟨B, 0, none⟩) hB).trans HC.out) (Nat.lt_of_lt_of_le hB hB3.size))
      have HR3 := Lib.hid hrg3
      have HB3 := Lib.hid hB3
      have HCL := Lib.hid (hC.step hok hlk hat)
      have HNO := Lib.hid hno
      have HLT := Lib.hid (show cnt2 < wr.rangeLeft k w.heap.size from by rw [hrg.left_eq]; exact hlt)
      have HXL := Lib.hid hxl
      unfold encP at hen
      unfold encP
      clear hrg hC hno hbel hkey hlk hv hat hrg2 hlt hg2 hs2 hok hB2 hblk hB3 hrg3 ex hxl
      by_cases cc : x.c = c
      · have tc : (x.c == c) = true := by simpa using cc
        rw [tc] at CW
        have HB1 := Lib.hid (show anyC l c = true from anyC_iff.2 ⟨x, HXL.out, cc⟩)
        clear cc tc
        go_wp2_with fail
        refine CW.out.mono ?_
        rintro e w4 ⟨rfl, hb4⟩
        have HB4 := Lib.hid (HB3.out.trans (hb4.mono HB3.out.size))
        clear hb4
        go_wp2_with fail
        go_ret
        exact ⟨by rw [HB1.out]; rfl, HB4.out⟩
      · have tc : (x.c == c) = false := by simpa using cc
        rw [tc] at CW
        have CC := Lib.hid cc
        clear cc tc
        go_wp2_with fail
        refine CW.out.mono ?_
        rintro e w4 ⟨rfl, hb4⟩
        have HB4 := Lib.hid (HB3.out.trans (hb4.mono HB3.out.size))
        have hrg4 := HR3.out.of_walks (walks_below hb4 (Nat.le_refl _))
        clear hb4
        go_wp2_with fail
        go_roundw
        case rel => exact ⟨rfl, _, cnt2, ss ++ [x], hrg4, HCL.out, fun p hp => (List.mem_append.1 hp).elim (HNO.out p) (fun h => by simp at h; rw [h]; exact CC.out), HB4.out⟩
        case measure => rw [hrg4.left_eq]; exact HLT.out
/-- The library's sort of integers, in a row of the call's own. -/
theorem sortI_any (base : Nat) (v : Value) (ss : List Int) (w : World) (h : w.ownsRow base 3 1 v ss.length (ss.map (Value.int .i64))) (hn : ss.length ≤ 1000000) :
    Calls Try.prog 22 #[v] w fun e w' => e = .returned (.tuple #[]) ∧ w'.ownsRow base 3 1 v ss.length ((ss.mergeSort (fun x y => decide (x ≤ y))).map (Value.int .i64)) ∧ (base ≤ w.heap.size → Below base w w') := by
  rcases h.2 with ⟨rfl, h0⟩ | ⟨g, cap, cur, rfl, hbase, hb, r1, r2, r3, r4⟩
  · obtain rfl : ss = [] := List.eq_nil_of_length_eq_zero h0
    refine (sort_nil none 0 w).mono ?_
    rintro e w' ⟨rfl, rfl⟩
    exact ⟨rfl, by simpa using h, fun _ => Below.refl _ _⟩
  · have hH : Go.Sort.Holds encZ w g 0 ss.toArray := holds_of_block_i hb (by simpa using r4)
    have hgl : g < w.heap.size := (Array.getElem?_eq_some_iff.1 hb).1
    refine (Try.slices_Sort_int g 0 cap ss w hH hgl (by omega)).mono ?_
    rintro e w' ⟨rfl, nn, os, rfl⟩
    exact ⟨rfl, ownsRow_sorted_i (by simp) hbase hb r1 r2 r3, fun hB => (Below.refl base w).grown (grownBy_sorted_i _) hB (fun j hj => by cases hj; exact hbase)⟩
theorem Try.infoIK : (Try.prog.info? 3).map (fun i => (i.zero, i.size, i.bytes)) = some (some (.int .i64 0), 1, 8) := by kernel_rfl
theorem own_fresh {w w' : World} {base n size : Nat} {e : TypeId} {v : Value} {xs : List Value} (h : w.ownsRow base e size v n xs) (hb : Below w.heap.size w w') : w'.ownsRow base e size v n xs := by
  rcases h.2 with ⟨rfl, h0⟩ | ⟨g, cap, cur, rfl, hbase, hgb, r1, r2, r3, r4⟩
  · exact ⟨h.1, .inl ⟨rfl, h0⟩⟩
  · exact ⟨h.1, .inr ⟨g, cap, cur, rfl, hbase, (hb.block g (Array.getElem?_eq_some_iff.1 hgb).1).trans hgb, r1, r2, r3, r4⟩⟩
theorem own_walk {w w' : World} {base n size r : Nat} {e : TypeId} {v : Value} {xs : List Value} (h : w.ownsRow base e size v n xs) (hg : w.grownBy w' (some r)) (ho : ∃ o, w.heap[r]? = some o ∧ o.isWalk = true) : w'.ownsRow base e size v n xs := by
  obtain ⟨o, ho, hw⟩ := ho
  rcases h.2 with ⟨rfl, h0⟩ | ⟨g, cap, cur, rfl, hbase, hgb, r1, r2, r3, r4⟩
  · exact ⟨h.1, .inl ⟨rfl, h0⟩⟩
  · refine ⟨h.1, .inr ⟨g, cap, cur, rfl, hbase, (hg.block g (Array.getElem?_eq_some_iff.1 hgb).1 (fun e => ?_)).trans hgb, r1, r2, r3, r4⟩⟩
    injection e with e
    rw [← e, hgb] at ho
    cases ho
    cases hw
theorem msort_lt {l : List Int} (hn : l.Nodup) : (l.mergeSort (fun x y => decide (x ≤ y))).Pairwise (fun x y => x < y) := by
  have hd : (l.mergeSort (fun x y => decide (x ≤ y))).Nodup := (List.mergeSort_perm l _).nodup_iff.2 hn
  have hp : (l.mergeSort (fun x y => decide (x ≤ y))).Pairwise (fun a b => decide (a ≤ b) = true) :=
    List.pairwise_mergeSort (fun a b c h1 h2 => by have := of_decide_eq_true h1; have := of_decide_eq_true h2; exact decide_eq_true (by omega)) (fun a b => by
      rcases Int.le_total a b with h | h <;> simp [h]) l
  refine (hp.and hd).imp fun {a b} h => ?_
  have h1 := of_decide_eq_true h.1
  have h2 := h.2
  omega
set_option maxRecDepth 20000 in
set_option maxHeartbeats 4000000 in
theorem frames_some (gB m : Nat) (K : Nat → Prop) (b : BS) (bk : Int → Nat) (c : Int) (w : World) (hB : Blk w gB 47 #[.map (some m)]) (hI : InMap w K b m bk) (hlt : ∀ k, K k → k < w.heap.size) (hF : FewF b) :
    Calls Try.prog 17 #[.pointer (some ⟨gB, 0, none⟩), .int .i64 c] w fun e w' => ∃ (v : Value) (l : List Int), e = .returned v ∧ Its w' w'.heap.size v l ∧ l.Pairwise (fun x y => x < y) ∧ (∀ f, f ∈ l ↔ ∃ p ∈ b f, p.c = c) ∧ Below w.heap.size w w' := by
  obtain ⟨i0, hi, hz0, hz1, hz2⟩ := info_parts Try.infoIK
  obtain ⟨js, j1, j2, j3⟩ := hF.list
  obtain ⟨W0, hW0⟩ : ∃ W0, w.alloc (.cells #[.int .i64 c] 3) = W0 := ⟨_, rfl⟩
  have hb0 : Below w.heap.size w W0 := by rw [← hW0]; exact belAl (Below.refl _ w) _
  have hs0 : W0.heap.size = w.heap.size + 1 := by rw [← hW0]; simp
  have hbx : Blk W0 w.heap.size 3 #[.int .i64 c] := by rw [← hW0]; exact Blk.new _ _ _
  have hI0 : InMap W0 K b m bk := hI.far fun k hk => hb0.block k (hlt k hk)
  have hB0 : Blk W0 gB 47 #[.map (some m)] := hB.below hb0 hB.lt
  obtain ⟨n0, hM⟩ := hI0.out
  obtain ⟨D, d1, dsz, d2, d3⟩ := hM.tight j1 (fun x => (j3 x).trans outL_ne.symm)
  have c1 : W0.cell? ⟨gB, 0, none⟩ = some (.map (some m)) := hB0.cell 0
  have HA := Lib.hid (all_any gB (some m) W0 c1)
  have HI0 := Lib.hid hI0
  have HK := Lib.hid (show ∀ k, K k → k < W0.heap.size from fun k hk => Nat.lt_of_lt_of_le (hlt k hk) hb0.size)
  have HBX := Lib.hid hbx
  have HD := Lib.hid (And.intro dsz (And.intro d2 d3))
  have HJ := Lib.hid (And.intro j2 j3)
  have HB0 := Lib.hid (And.intro hb0 hs0)
  clear hB hI hlt hF j1 j2 j3 hb0 hs0 hbx hI0 hB0 hM dsz d2 d3
  go_enter Try.func17, Try.ntmps17
  go_wp2_with fail
  refine HA.out.mono ?_
  rintro e w' ⟨rfl, hw⟩
  have hw' := hw.symm
  subst hw'
  clear hw
  go_wp2_with (first
    | (at_range; refine wpList_range_own _ rfl _ 45 rfl 3 49 EI.K Try.underlying45 _ m js.length _ rfl d1 ?_; intro w0 hrg0 hg0 hs0)
    | fail)
  try go_frame
  go_loopw [5] (fun v wr => ∃ (left : Lit → Bool) (cnt : Nat) (ss : List Int), wr.ranges Try.prog 3 selfR m W0.heap.size js.length D left cnt ∧ ss.length + cnt ≤ Maps.size D ∧ CollK EI D left ss ∧
      wr.ownsRow W0.heap.size 3 1 v (ss.filter (fun f => anyC (b f) c)).length ((ss.filter (fun f => anyC (b f) c)).map (Value.int .i64)) ∧ Below W0.heap.size W0 wr)
    (fun _ wr => wr.rangeLeft m W0.heap.size)
  case atStart =>
    exact ⟨_, _, [], hrg0, by simp, CollK.start EI D, World.ownsRow_nil _ _ _ _, (Below.refl _ W0).grown hg0 (Nat.le_refl _) (fun j e => by cases e)⟩
  case round =>
    obtain ⟨left, cnt, ss, hrg, hcs, hC, hrow, hbel⟩ := hrel
    go_wp2_with (first
      | (at_next; refine wpList_next_ranges _ rfl _ rfl 3 EI.K selfR (Value.int .i64) id (fun key kl hk => by obtain ⟨x, _, hx, _⟩ := EI.inv key kl hk; exact ⟨x, hx⟩) (fun v _ _ => ⟨v, rfl⟩) m W0.heap.size js.length _ _ _ rfl hrg ?_ ?_)
      | fail)
    · intro hc0 hl0
      have hall := hC.done d1 HD.out.2.1 HD.out.2.2 hl0
      have hsl : (ss.filter (fun f => anyC (b f) c)).length ≤ ss.length := List.length_filter_le _ _
      have hn : (ss.filter (fun f => anyC (b f) c)).length ≤ 1000000 := by
        have := HD.out.1
        have := HJ.out.1
        omega
      have HS := Lib.hid (sortI_any W0.heap.size _ _ wr hrow hn)
      have HP := Lib.hid (show ∀ w', w'.ownsRow W0.heap.size 3 1 u5 (ss.filter (fun f => anyC (b f) c)).length (((ss.filter (fun f => anyC (b f) c)).mergeSort (fun x y => decide (x ≤ y))).map (Value.int .i64)) → (W0.heap.size ≤ wr.heap.size → Below W0.heap.size wr w') → ∃ (v : Value) (l : List Int), Ending.returned u5 = .returned v ∧ Its w' w'.heap.size v l ∧ l.Pairwise (fun x y => x < y) ∧ (∀ f, f ∈ l ↔ ∃ p ∈ b f, p.c = c) ∧ Below w.heap.size w w' from by
        intro w' hr hb
        refine ⟨u5, (ss.filter (fun f => anyC (b f) c)).mergeSort (fun x y => decide (x ≤ y)), rfl, ?_, ?_, fun f => ?_, ?_⟩
        · refine Its.of_own (base := W0.heap.size) (e := 3) ?_
          rw [List.length_mergeSort]
          exact hr
        · exact msort_lt (hC.nd.filter _)
        · rw [List.mem_mergeSort, List.mem_filter, anyC_iff]
          constructor
          · exact fun h => h.2
          · rintro ⟨p, hp, hpc⟩
            refine ⟨(hall f).2 (outL_ne.2 (fun e => ?_)), p, hp, hpc⟩
            rw [e] at hp
            exact absurd hp List.not_mem_nil
        · exact HB0.out.1.trans (((hbel.trans (hb hbel.size)).mono (by have := HB0.out.2; omega)))
        )
      clear hrg hC hrow hbel hall hsl hn hcs
      go_wp2_with fail
      refine HS.out.mono ?_
      rintro e w' ⟨rfl, hr, hb⟩
      have HQ := Lib.hid (HP.out w' hr hb)
      clear hr hb
      go_wp2_with fail
      go_ret
      exact HQ.out
    · intro x v kl yd yp w2 cnt2 hkey hlk hv hat hrg2 hlt hg2 hs2 hen
      obtain ⟨x', hok, ex, rfl⟩ := EI.inv _ _ hkey
      obtain rfl : x = x' := EI.mkInj x x' ex
      have hv' : outL b bk x = some v := by
        have hv' := selfR_inv hv
        have hyd : yd = .held (id v) := by injection hv'
        rw [hyd] at hat
        have h1 := look_held hat
        rw [HD.out.2.1 x hok] at h1
        exact h1
      have hbx : b x ≠ [] := outL_ne.1 (by rw [hv']; simp)
      have hvv : v = .map (some (bk x)) := by
        rw [show outL b bk x = some (.map (some (bk x))) from if_neg hbx] at hv'
        injection hv' with hv'
        exact hv'.symm
      subst hvv
      have hB2 : Below W0.heap.size W0 w2 := hbel.grown hg2 hbel.size (fun j e => by cases e; exact Nat.le_refl _)
      obtain ⟨hkx, _, nx, hMx⟩ := HI0.out.inn x hbx
      have hMx2 : MapK EP w2 (bk x) nx (setL (b x)) := hMx.far (hB2.block _ (HK.out _ hkx))
      have hcx : w2.cell? ⟨w.heap.size, 0, none⟩ = some (.int .i64 c) := (hB2.cell (p := ⟨w.heap.size, 0, none⟩) HBX.out.lt).trans (HBX.out.cell 0)
      have CS := Lib.hid (some_any (bk x) nx w.heap.size (b x) c w2 hMx2 hcx (Nat.lt_of_lt_of_le HBX.out.lt hB2.size))
      have hrow2 : w2.ownsRow W0.heap.size 3 1 u5 (ss.filter (fun f => anyC (b f) c)).length ((ss.filter (fun f => anyC (b f) c)).map (Value.int .i64)) := own_walk hrow hg2 hrg.iter_walk
      have HR2 := Lib.hid hrg2
      have HRW := Lib.hid hrow2
      have HB2 := Lib.hid hB2
      have HCL := Lib.hid (hC.step hok hlk hat)
      have HLT := Lib.hid (show cnt2 < wr.rangeLeft m W0.heap.size from by rw [hrg.left_eq]; exact hlt)
      have HCS := Lib.hid (show (ss ++ [x]).length + cnt2 ≤ Maps.size D from by simp; omega)
      have hfl : (ss.filter (fun f => anyC (b f) c)).length ≤ 100000 := by
        have h1 : (ss.filter (fun f => anyC (b f) c)).length ≤ ss.length := List.length_filter_le _ _
        have := HD.out.1
        have := HJ.out.1
        omega
      have hap : (ss ++ [x]).filter (fun f => anyC (b f) c) = ss.filter (fun f => anyC (b f) c) ++ (if anyC (b x) c then [x] else []) := by
        rw [List.filter_append]
        congr 1
        by_cases h : anyC (b x) c = true
        · simp [h]
        · simp [h]
      have HAP := Lib.hid hap
      obtain ⟨q, hq⟩ : ∃ q, q = ss.filter (fun f => anyC (b f) c) := ⟨_, rfl⟩
      rw [← hq] at HRW HAP hfl
      clear hrg hC hrow hbel hkey hlk hv hat hrg2 hlt hg2 hs2 hok hB2 ex hv' hbx hkx hMx hMx2 hcx hrow2 hcs hap hq
      cases hh : anyC (b x) c with
      | false =>
        rw [hh] at CS HAP
        go_wp2_with fail
        refine CS.out.mono ?_
        rintro e w4 ⟨rfl, hb4⟩
        have hrg4 := HR2.out.of_walks (walks_below hb4 (Nat.le_refl _))
        have hrow4 := own_fresh HRW.out hb4
        have HB4 := Lib.hid (HB2.out.trans (hb4.mono HB2.out.size))
        clear hb4
        go_wp2_with fail
        go_roundw
        case rel =>
          refine ⟨_, cnt2, ss ++ [x], hrg4, HCS.out, HCL.out, ?_, HB4.out⟩
          rw [HAP.out]
          simpa using hrow4
        case measure => rw [hrg4.left_eq]; exact HLT.out
      | true =>
        rw [hh] at CS HAP
        go_wp2_with fail
        refine CS.out.mono ?_
        rintro e w4 ⟨rfl, hb4⟩
        have HR4 := Lib.hid (HR2.out.of_walks (walks_below hb4 (Nat.le_refl _)))
        have HRW4 := Lib.hid (own_fresh HRW.out hb4)
        have HB4 := Lib.hid (HB2.out.trans (hb4.mono HB2.out.size))
        clear hb4
        go_wp2_with (at_builtin; (refine wpList_append_own _ rfl _ _ 40 rfl W0.heap.size 3 i0 (.int .i64 0) 1 8 Try.underlying40 hi hz0 hz1 hz2 rfl (by decide) _ _ _ rfl (HRW4.out.alloc _) ⟨w4.heap.size, 0, none⟩ 1 1 [.int .i64 x] rfl rfl (cell_one_new _ _ _) (by simp [Value.oneCell']) (by unfold maxLen; omega) (by omega) (Nat.le_trans HB4.out.size (by simp)) ?_; intro v' w5 hown' hgrow' _; have HO5 := Lib.hid hown'; have HG5 := Lib.hid hgrow'; clear hown' hgrow'; obtain ⟨g5, cap5, rfl⟩ := own_shape HO5.out (by simp)))
        go_wp2_with fail
        have hrg5 := (HR4.out.of_walks (KeepsWalks.alloc w4 (.cells #[.int .i64 x] 3))).of_walks (KeepsWalks.of_grownBy HG5.out (ownsRow_not_walk_a (HRW4.out.alloc _)))
        go_roundw
        case rel =>
          refine ⟨_, cnt2, ss ++ [x], hrg5, HCS.out, HCL.out, ?_, (HB4.out.alloc HB4.out.size _).grown HG5.out (Nat.le_trans HB4.out.size (by simp)) (fun k hk => (HRW4.out.lt k hk).1)⟩
          rw [HAP.out]
          simpa using HO5.out
        case measure => rw [hrg5.left_eq]; exact HLT.out
set_option maxRecDepth 20000 in
set_option maxHeartbeats 1000000 in
/-- Where there is no map. -/
theorem frames_none (v : Value) (c : Int) (w : World) (hA : ∀ W, Below w.heap.size w W → Calls Try.prog 18 #[v] W fun e w' => e = .returned (.map none) ∧ w' = W) :
    Calls Try.prog 17 #[v, .int .i64 c] w fun e w' => e = .returned (.slice none 0 0) ∧ Below w.heap.size w w' := by
  obtain ⟨W0, hW0⟩ : ∃ W0, w.alloc (.cells #[.int .i64 c] 3) = W0 := ⟨_, rfl⟩
  have hb0 : Below w.heap.size w W0 := by rw [← hW0]; exact belAl (Below.refl _ w) _
  have HA := Lib.hid (hA W0 hb0)
  have hrg := run_range_nilMap (P := Try.prog) W0 45 3 49 Try.underlying45
  have hnx : ∀ ty, (Instr.next (.pointer (some ⟨W0.heap.size, 0, none⟩)) false ty).run Try.prog (W0.alloc (.mapIter none 0 #[] 0)) = _ := fun ty => run_next_nilMap _ ty 0 0 #[]
  have HP := Lib.hid (show Below w.heap.size w (W0.alloc (.mapIter none 0 #[] 0)) from hb0.alloc hb0.size _)
  clear hA hb0
  go_enter Try.func17, Try.ntmps17
  go_wp2_with fail
  refine HA.out.mono ?_
  rintro e w' ⟨rfl, hw⟩
  have hw' := hw.symm
  subst hw'
  clear hw
  go_wp2_with fail
  refine wp_loop_rounds 1 ?_
  rw [rounds_succ]
  go_wp2_with fail
  refine (sort_nil none 0 _).mono ?_
  rintro e w' ⟨rfl, rfl⟩
  go_wp2_with fail
  go_ret
  exact ⟨rfl, HP.out⟩
/-- Frames. -/
theorem back_frames (gB : Nat) (K : Nat → Prop) (b : BS) (w : World) (c : Int) (h : BackMem w gB K b) (hF : FewF b) :
    Calls Try.prog 17 #[.pointer (some ⟨gB, 0, none⟩), .int .i64 c] w fun e w' => ∃ v l, e = .returned v ∧ Its w' w'.heap.size v l ∧ l.Pairwise (fun x y => x < y) ∧ (∀ f, f ∈ l ↔ ∃ p ∈ b f, p.c = c) ∧ Below w.heap.size w w' := by
  obtain ⟨mo, h1, h2⟩ := h.at_
  cases mo with
  | none =>
    refine (frames_none _ c w (fun W hb => all_any gB none W ((h1.below hb h1.lt).cell 0))).mono ?_
    rintro e w' ⟨rfl, hb⟩
    refine ⟨_, [], rfl, Its.nil_ _ _, List.Pairwise.nil, fun f => ?_, hb⟩
    rw [h2 f]
    simp
  | some m =>
    obtain ⟨bk, hI⟩ := h2
    exact frames_some gB m K b bk c w h1 hI h.lt hF
theorem back_frames_nil (w : World) (c : Int) : Calls Try.prog 17 #[.pointer none, .int .i64 c] w fun e w' => ∃ A c, e = .returned (.slice A 0 c) ∧ Below w.heap.size w w' := by
  refine (frames_none _ c w (fun W _ => all_nil W)).mono ?_
  rintro e w' ⟨rfl, hb⟩
  exact ⟨none, 0, rfl, hb⟩
end Go.Proofs.Ytgbkpcmgfjdhdaa

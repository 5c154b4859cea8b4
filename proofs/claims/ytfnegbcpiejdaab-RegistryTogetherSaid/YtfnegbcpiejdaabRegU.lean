/-
  The contract of the registry's base: all that is known, as bytes, in memory of its own.
  Conditions: the registry is in memory.
-/
import Derived.Test.YtfnegbcpiejdaabRegK
import Derived.Test.YtfnegbcpiejdaabRegD
import Derived.Laws.BitsAllLaws
namespace Go.Proofs.Ytfnegbcpiejdaab
open Go.RowKit Go.Shelf Go.Maps Go.Sort
set_option linter.unusedVariables false
attribute [local go_sem] Oper.semAt_some

theorem blk_own {β : Type} (B : Nat) (t : TypeId) (f : β → Array Value) : Own (fun s W => Blk W B t (f s)) := by
  intro s X Y row hs hg hrow
  refine (hg.block B hs.lt (fun e => ?_)).trans hs
  obtain ⟨o, ho, hc⟩ := hrow B e.symm
  have hs' : X.heap[B]? = _ := hs
  rw [ho] at hs'
  injection hs' with hs'
  rw [hs'] at hc
  cases hc
/-- The states, as cells. -/
def stV (sts : List Nat) : List Value := sts.map (fun s => Value.int .i64 ((s : Nat) : Int))
theorem Try.sizeSts : (Try.prog.info? 72).map (·.size) = some 32 := by kernel_rfl
theorem RegAt.range_ {w : World} {gR gB gJ : Nat} {md : MD} (h : RegAt w gR gB gJ md) : w.rangeAt gR 2 (stV md.2) := by
  intro j v hv
  have hj : j < 32 := by
    have := (List.getElem?_eq_some_iff.1 hv).1
    simpa [stV, h.ok.st] using this
  rw [h.cellS hj]
  have hj' : j < md.2.length := by rw [h.ok.st]; exact hj
  simpa [stV, hj'] using hv
theorem wpListIn_of {F : Fence} {n : Nat} {P : Program} {ops : Array Oper} {rest : List Oper} {o : Oper} {a : Act} {w : World} {Q : Exit → Act → World → Prop} (hgd : o.guard = none) (hp : plainOp o = true) (h : ∀ K : Act → World → Prop, (∀ a w, wpListIn F n P ops Q rest a w → K a w) → o.wp P a w K Q) : wpListIn F n P ops Q (o :: rest) a w := by
  refine wpListIn_plain hgd fun K hK => ⟨fun f hf => (by rw [plain_about hp] at hf; cases hf), ?_⟩
  rw [Oper.semAt_eq _ _ _ (plain_defer hp)]
  exact upon_in (plain_res hp) (h K hK)
theorem wpListIn_load_mid {F : Fence} {n : Nat} {P : Program} {ops : Array Oper} {rest : List Oper} {o : Oper} {a : Act} {w : World} {Q : Exit → Act → World → Prop} (hgd : o.guard = none) (ty : TypeId) (x : Operand) (ho : o.op = .load ty x)
    (b off : Nat) (hx : a.eval x = .pointer (some ⟨b, off, none⟩)) (cs : List Value) (d : TypeDesc) (hc : w.rangeAt b off cs)
    (hu : P.underlying ty = some d) (hd : d.isRow = true) (hi : (P.info? ty).map (·.size) = some cs.length)
    (h : wpListIn F n P ops Q rest (a.put o.dst (.agg cs.toArray)) w) : wpListIn F n P ops Q (o :: rest) a w :=
  wpListIn_of hgd (by unfold plainOp; rw [ho]) fun K hK => wp_load_mid ty x ho b off hx cs d hc hu hd hi (hK _ _ h)
theorem idx_sts (cs : Array Value) (k : Nat) (y : Int) (hk : k < 32) (hc : cs[k]? = some (.int .i64 y)) (w : World) : (Instr.index 72 (.agg cs) (.int .i64 (k : Int))).run Try.prog w = .ok (.int .i64 y) w := by
  have h1 : (0 : Int) ≤ (k : Int) ∧ (k : Int) < 32 := by omega
  simp [Instr.index, run_underlying Try.underlying72, asIntOf, h1, hc, go_sem, Try.isAgg3, Try.sizeOf3]
  intro h
  exact absurd h (by omega)
theorem pow8 (R : Nat) (h : R < 8) : IntKind.u8.wrap ((2 : Int) ^ R) = ((2 ^ R : Nat) : Int) := by
  rcases eight R h with rfl | rfl | rfl | rfl | rfl | rfl | rfl | rfl <;> rfl
theorem pow8_lt (R : Nat) (h : R < 8) : 2 ^ R < 256 := by
  rcases eight R h with rfl | rfl | rfl | rfl | rfl | rfl | rfl | rfl <;> decide
theorem cellsL_set (xs : List Nat) (i q : Nat) : (cellsL xs).setIfInBounds i (bv q) = cellsL (xs.set i q) := by
  simp [cellsL, List.map_set]
theorem flags_all {md : MD} (ok : MdOk md) {xs : List Fr} (h : (frZ xs).Perm (badI md)) : addB (List.replicate 1024 false) (xs.map (fun j => j.1)) = md.1 := by
  refine getD_ext (by rw [addB_length, List.length_replicate, ok.bad]) fun x hx => ?_
  rw [addB_length, List.length_replicate] at hx
  rw [addB_getD _ _ _ (by rw [List.length_replicate]; exact hx)]
  have h0 : (List.replicate 1024 false).getD x false = false := by
    rw [List.getD_eq_getElem?_getD, List.getElem?_replicate, if_pos hx]
    rfl
  rw [h0, Bool.false_or]
  have h1 : x ∈ xs.map (fun j => j.1) ↔ md.1.getD x false = true := by
    have h2 : ((x : Nat) : Int) ∈ frZ xs ↔ ((x : Nat) : Int) ∈ badI md := h.mem_iff
    have h3 : x ∈ xs.map (fun j => j.1) ↔ ((x : Nat) : Int) ∈ frZ xs := by
      unfold frZ
      constructor
      · intro hm
        obtain ⟨j, hj, rfl⟩ := List.mem_map.1 hm
        exact List.mem_map.2 ⟨j, hj, rfl⟩
      · intro hm
        obtain ⟨j, hj, e⟩ := List.mem_map.1 hm
        exact List.mem_map.2 ⟨j, hj, by omega⟩
    have h4 : ((x : Nat) : Int) ∈ badI md ↔ md.1.getD x false = true := by
      unfold badI
      constructor
      · intro hm
        obtain ⟨j, hj, e⟩ := List.mem_map.1 hm
        obtain rfl : j = x := by omega
        exact (bads_lt hj).2
      · intro hm
        exact List.mem_map.2 ⟨x, mem_bads hx hm, rfl⟩
    exact h3.trans (h2.trans h4)
  cases hg : md.1.getD x false with
  | true => exact decide_eq_true (h1.2 hg)
  | false => exact decide_eq_false (fun hm => by rw [h1.1 hm] at hg; cases hg)
set_option maxRecDepth 100000 in
set_option maxHeartbeats 2000000 in
theorem base_any (gR gB gJ : Nat) (md : MD) (w : World) (h : RegAt w gR gB gJ md) :
    Calls Try.prog 74 #[.pointer (some ⟨gR, 0, none⟩)] w fun e w' => e = .returned (.slice (some ⟨w.heap.size, 0, none⟩) 161 161) ∧ Bts w' w'.heap.size (.slice (some ⟨w.heap.size, 0, none⟩) 161 161) (encR md) ∧ Below w.heap.size w w' := by
  have HR := Lib.hid h
  obtain ⟨D, hown, hsz, hperm, hinx⟩ := h.bad.perm_in Try.underlying3 (js := bads md.1 1024) ((bads_sorted _ _).imp fun {a b} hab => by omega) (mem_bads_iff h.ok.bad)
  have HINX := Lib.hid hinx
  clear hinx
  have HO := Lib.hid hown
  have HP := Lib.hid hperm
  have HIN0 := Lib.hid (show ∀ x, Maps.has D (.int .i64 x) = true → ∃ j : Nat, j < 1024 ∧ x = (j : Int) from by
    intro x hx
    exact HINX.out x hx)
  have HS := Lib.hid hsz
  obtain ⟨i0, hi, hz0, hz1, hz2⟩ := info_parts Try.infoU8
  have hmk : ∀ w : World, (Instr.makeSlice 35 (.int .i64 161) (.int .i64 161)).run Try.prog w = .ok (.slice (some ⟨w.heap.size, 0, none⟩) 161 161) (w.alloc (.cells (zs 161) 5)) := fun w => run_make_zs _ _ i0 Try.underlying35 hi hz0 hz1 hz2 161 (by omega) w
  obtain ⟨Z, hZ⟩ : ∃ Z, Z = (zs 161) := ⟨_, rfl⟩
  rw [← hZ] at hmk
  have hz : Z[0]? = some (.int .u8 0) := by rw [hZ]; rfl
  have B1 := Lib.hid (show Below w.heap.size w ((w.alloc (.cells (Z.setIfInBounds 0 (.int .u8 1)) 5)).alloc (.cells #[.slice (some ⟨w.heap.size, 0, none⟩) 161 161] 35)) from ((Below.refl _ w).alloc (Nat.le_refl _) _).alloc (by simp) _)
  have HR1 := Lib.hid (HR.out.fresh B1.out)
  have RNG := Lib.hid HR1.out.range_
  have SL := Lib.hid (show some 32 = some (stV md.2).length from by simp [stV, HR.out.ok.st])
  have HZ := Lib.hid hZ
  clear hown hperm hsz h hZ
  refine (callsIn_wide (n := 8)).1 ?_
  have hro : Fence.wide.round = none := rfl
  refine callsIn_of_wp_marks Try.func74 rfl trivial ?_ hro
  simp only [Try.ntmps74, List.size_toArray, List.length_cons, List.length_nil, Nat.reduceAdd, Nat.reduceSub, Array.replicate_succ, Array.replicate_zero, List.push_toArray, List.append_toArray, List.nil_append, List.cons_append]
  gi_wp2_with (refine wpListIn_load_mid rfl 72 _ rfl gR 2 rfl (stV md.2) _ RNG.out Try.underlying72 rfl (by rw [Try.sizeSts]; exact SL.out) ?_)
  have C1 := Lib.hid (show Blk ((w.alloc (.cells (Z.setIfInBounds 0 (.int .u8 1)) 5)).alloc (.cells #[.slice (some ⟨w.heap.size, 0, none⟩) 161 161] 35)) w.heap.size 5 (cellsL (zn ([1] ++ md.2.take 0) (160 - 0))) from by
    have e : Z.setIfInBounds 0 (bv 1) = cellsL (zn [1] 160) := by rw [HZ.out, zs_cells]; exact set_next [] 0 161 1 rfl (by omega)
    have e2 : [1] ++ md.2.take 0 = [1] := rfl
    rw [e2, ← e]
    exact (Blk.new w _ _).al _)
  have C2 := Lib.hid (show Blk ((w.alloc (.cells (Z.setIfInBounds 0 (.int .u8 1)) 5)).alloc (.cells #[.slice (some ⟨w.heap.size, 0, none⟩) 161 161] 35)) (w.heap.size + 1) 35 #[.slice (some ⟨w.heap.size, 0, none⟩) 161 161] from Blk.new1 w _ _ _)
  gi_loopg [4, 5, 14] 32 (fun gg _ _ s14 wr => ∃ k : Nat, k + gg = 32 ∧ s14 = .int .i64 (k : Int) ∧ Blk wr w.heap.size 5 (cellsL (zn ([1] ++ md.2.take k) (160 - k))) ∧ Blk wr (w.heap.size + 1) 35 #[.slice (some ⟨w.heap.size, 0, none⟩) 161 161] ∧ Below w.heap.size w wr)
  case atStart => exact ⟨0, by omega, rfl, C1.out, C2.out, B1.out⟩
  case round =>
    obtain ⟨k, hkg, rfl, hb, hx, hw⟩ := hrel
    have HB := Lib.hid hb
    have HX := Lib.hid hx
    have HW := Lib.hid hw
    have cx : wr.cell? ⟨w.heap.size + 1, 0, none⟩ = some (.slice (some ⟨w.heap.size, 0, none⟩) 161 161) := by rw [hx.cell]; rfl
    by_cases hlt : k < 32
    · have t1 : decide ((k : Int) < 32) = true := decide_eq_true (by omega)
      obtain ⟨y, hy⟩ : ∃ y, y = md.2.getD k 0 := ⟨_, rfl⟩
      have hk' : k < md.2.length := by rw [HR.out.ok.st]; exact hlt
      have hy3 : y ≤ 3 := by
        have e : md.2.getD k 0 = md.2[k] := by simp [hk']
        rw [hy, e]
        exact HR.out.ok.low _ (List.getElem_mem _)
      have HIX := idx_sts (stV md.2).toArray k (y : Int) hlt (by rw [hy]; simp [stV, hk'])
      have c1 : IntKind.u8.wrap (y : Int) = (y : Int) := by rw [IntKind.wrap_u8']; omega
      have cb : wr.cell? ⟨w.heap.size, 1 + k, none⟩ = some (.int .u8 0) := by
        rw [hb.cell, cellsL_at _ _ (by simp [zn]; omega)]
        unfold zn
        rw [getD_append_right _ _ _ (by simp; omega), getD_zeros]
        rfl
      have fb : wr.frozen? ⟨w.heap.size, 1 + k, none⟩ = false := hb.frozen _
      have HY := Lib.hid hy
      clear hb hx hw hy
      gi_wp2
      go_roundg (32 - (k + 1))
      case measure => omega
      case rel =>
        refine ⟨k + 1, by omega, by go_num, ?_, ?_, HW.out.setCell (p := ⟨w.heap.size, 1 + k, none⟩) (Nat.le_refl _) _⟩
        · have h2 := HB.out.set_ (1 + k) (bv y)
          rw [set_next _ (1 + k) _ y (by simp; omega) (by omega), List.append_assoc, HY.out, ← natTake _ _ hk', show 160 - k - 1 = 160 - (k + 1) by omega, ← HY.out] at h2
          exact h2
        · exact ((Only.refl w.heap.size _).setCell (1 + k) (.int .u8 (y : Int))).blk HX.out (by omega)
    · obtain rfl : k = 32 := by omega
      have t1 : decide (((32 : Nat) : Int) < 32) = false := rfl
      have HR2 := Lib.hid (HR.out.fresh hw)
      have cR := HR2.out.cell1
      have cK : ∀ mb W, CallsIn Fence.wide 7 Try.prog 36 #[.map mb] W fun e w' => e = .returned (.func (.func 55) #[] #[.pointer (some ⟨W.heap.size, 0, none⟩)]) ∧ w' = W.alloc (.cells #[.map mb] 71) := fun mb W => AnyZI.keys_in Try.keysM36 Fence.wide 7 trivial rfl mb W
      have hfK : Fence.wide.fn 36 := trivial
      clear hb hx hw hlt
      gi_wp2_with (gi_at_call 36; refine (cK _ _).mono ?_; rintro e w' ⟨rfl, rfl⟩)
      have hown1 : (wr.alloc (.cells #[.map (some gB)] 71)).ownsMap Try.prog 3 valR gB 1024 D := by
        obtain ⟨es, clock, hb, Ft, hs, hD⟩ := HO.out
        have hlt : gB < w.heap.size := (Array.getElem?_eq_some_iff.1 hb).1
        exact ⟨es, clock, ((HW.out.trans ((Below.refl _ wr).alloc HW.out.size _)).block gB hlt).trans hb, Ft, hs, hD⟩
      have HIN := Lib.hid HIN0.out
      have HE : Below w.heap.size w (wr.alloc (.cells #[.map (some gB)] 71)) := HW.out.trans ((Below.refl _ wr).alloc HW.out.size _)
      refine wpIn_rangeFunc_ownG hro (by omega) (gf := 55) (lb := #[.pointer (some ⟨wr.heap.size, 0, none⟩)]) rfl trivial (enters_of Try.func55 (by kernel_rfl) rfl)
        (encs := fun x : Fr => #[encF x]) (Kp := KeepsWalks) (keysF_any (n := 7) (by omega) wr.heap.size gB (badF md.1) D _ (by simp) (Boxed.new wr _ _).cell hown1 HIN.out) walksK_t walksK_b (Below.refl _ _) (fun _ => rfl)
        (fun pre W => (Blk W w.heap.size 5 (cellsL ([1] ++ (md.2 ++ flagsL (addB (List.replicate 1024 false) (pre.map (fun j => j.1)))))) ∧ Blk W (w.heap.size + 1) 35 #[.slice (some ⟨w.heap.size, 0, none⟩) 161 161]) ∧ Below w.heap.size w W)
        (fun _ _ _ => False)
        (OwnFrom.and (OwnFrom.and (Own.from (blk_own w.heap.size 5 (fun pre : List Fr => cellsL ([1] ++ (md.2 ++ flagsL (addB (List.replicate 1024 false) (pre.map (fun j => j.1))))))) _) (Own.from (blk_own (w.heap.size + 1) 35 (fun _ : List Fr => #[.slice (some ⟨w.heap.size, 0, none⟩) 161 161])) _)) (ownFrom_below (Nat.le_refl _) HE.size))
        (fun _ _ _ _ _ hs _ _ => hs)
        ⟨⟨?h00, HX.out.al _⟩, HE⟩
        (fun x => { tmps := #[.pointer (some ⟨gR, 0, none⟩), undef, .slice none 0 0, .pointer (some ⟨w.heap.size + 1, 0, none⟩), u4, u5, encF x, .slice (some ⟨w.heap.size, 0, none⟩) 161 161, .slice (some ⟨w.heap.size, 0, none⟩) 161 161, .pointer (some ⟨w.heap.size, 0, none⟩), .pointer (some ⟨gR, 0, none⟩), .pointer (some ⟨gR, 0, none⟩), .pointer (some ⟨gR, 2, none⟩), .agg (stV md.2).toArray, .int .i64 32, .bool false, u16, u17, u18, u19, u20, u21, u22, u23, u24, .pointer (some ⟨gR, 0, none⟩), .pointer (some ⟨gR, 0, none⟩), .pointer (some ⟨gR, 1, none⟩), .map (some gB), .func (.func 55) #[] #[.pointer (some ⟨wr.heap.size, 0, none⟩)], encF x, undef, undef, undef, undef, undef, undef, undef, undef, undef, undef, undef, undef], defers := [] }) ?assign ?body ?done ?stop
      case h00 =>
        have h2 := HB.out
        rw [List.take_of_length_le (by rw [HR.out.ok.st]; exact Nat.le_refl _)] at h2
        have e : zn ([1] ++ md.2) (160 - 32) = [1] ++ (md.2 ++ flagsL (addB (List.replicate 1024 false) (([] : List Fr).map (fun j => j.1)))) := by
          show _ = [1] ++ (md.2 ++ flagsL (List.replicate 1024 false))
          rw [flagsL_none]
          unfold zn
          rw [List.append_assoc]
        rw [e] at h2
        exact h2.al _
      case assign =>
        intro l x W K hK
        gi_wp2
        exact hK
      case body =>
        rintro l pre ⟨f, hf⟩ W ⟨⟨hb, hx⟩, hB⟩ hlt
        have HB3 := Lib.hid hb
        have HX3 := Lib.hid hx
        have HW3 := Lib.hid hB
        obtain ⟨FL, hFL⟩ : ∃ FL, FL = addB (List.replicate 1024 false) (pre.map (fun j => j.1)) := ⟨_, rfl⟩
        obtain ⟨Dv, hDv⟩ : ∃ D, D = f / 8 := ⟨_, rfl⟩
        obtain ⟨R, hRm⟩ : ∃ R, R = f % 8 := ⟨_, rfl⟩
        have d1 : (f : Int).tdiv 8 = (Dv : Int) := by rw [Int.tdiv_eq_ediv_of_nonneg (by omega)]; omega
        have d2 : (f : Int).tmod 8 = (R : Int) := by rw [Int.tmod_eq_emod_of_nonneg (by omega)]; omega
        have hD1 : Dv < 128 := by omega
        have hR1 : R < 8 := by omega
        obtain ⟨y, hy⟩ : ∃ y, y = flagB FL Dv := ⟨_, rfl⟩
        have i1 : IntKind.i64.wrap (Dv : Int) = (Dv : Int) := by rw [IntKind.wrap_i64]; omega
        obtain ⟨E, hE⟩ : ∃ E, E = 33 + Dv := ⟨_, rfl⟩
        have i2 : IntKind.i64.wrap (33 + (Dv : Int)) = (E : Int) := by rw [IntKind.wrap_i64]; omega
        have i3 : (0 : Int) ≤ (E : Int) := by omega
        have i4 : (E : Int) < 161 := by omega
        have hst := HR.out.ok.st
        have cb : W.cell? ⟨w.heap.size, E, none⟩ = some (.int .u8 (y : Int)) := by
          rw [hE, hb.cell, ← hFL, cellsL_at _ _ (by simp [flagsL_length, hst]; omega), getD_append_right _ _ _ (by simp; omega), getD_append_right _ _ _ (by simp [hst])]
          rw [show 33 + Dv - [1].length - md.2.length = Dv by simp [hst], flagsL_getD _ _ hD1, hy]
          rfl
        have fb : W.frozen? ⟨w.heap.size, E, none⟩ = false := hb.frozen _
        have cx : W.cell? ⟨w.heap.size + 1, 0, none⟩ = some (.slice (some ⟨w.heap.size, 0, none⟩) 161 161) := by rw [hx.cell]; rfl
        obtain ⟨pw, hpw⟩ : ∃ pw, pw = 2 ^ R := ⟨_, rfl⟩
        obtain ⟨q, hq⟩ : ∃ q, q = y ||| pw := ⟨_, rfl⟩
        have o0 : IntKind.u8.wrap ((2 : Int) ^ R) = (pw : Int) := by rw [hpw]; exact pow8 R hR1
        have o1 : bits .or .u8 (y : Int) (pw : Int) = (q : Int) := by
          rw [hq]
          exact u8_or_nat y pw (by rw [hy]; exact byteOf_lt _) (by rw [hpw]; exact pow8_lt R hR1)
        have HPW := Lib.hid hpw
        have HQ := Lib.hid hq
        clear hpw hq
        have HDV := Lib.hid hDv
        have HRM := Lib.hid hRm
        have HY := Lib.hid hy
        have HFL := Lib.hid hFL
        have HEE := Lib.hid hE
        clear hb hx hB hFL hDv hRm hy hst hE
        unfold encF
        refine wpIn_block ?_
        refine wpIn_region_tail 11 (by kernel_rfl) (by kernel_rfl) (by kernel_rfl) ?_
        simp only [List.take_succ_cons, List.take_zero, List.drop_succ_cons, List.drop_zero]
        repeat still_step
        try refine wpStill_nil ?_
        obtain ⟨W2, hW2⟩ : ∃ W2, W2 = W.drew := ⟨_, rfl⟩
        change wpList _ _ _ _ _ W.drew
        rw [← hW2]
        have cb2 : W2.cell? ⟨w.heap.size, E, none⟩ = some (.int .u8 (y : Int)) := by rw [hW2]; exact cb
        have fb2 : W2.frozen? ⟨w.heap.size, E, none⟩ = false := by rw [hW2]; exact fb
        have HW2 := Lib.hid (show Blk W2 w.heap.size 5 (cellsL ([1] ++ (md.2 ++ flagsL (addB (List.replicate 1024 false) (pre.map (fun j => j.1)))))) ∧ Blk W2 (w.heap.size + 1) 35 #[.slice (some ⟨w.heap.size, 0, none⟩) 161 161] ∧ Below w.heap.size w W2 ∧ KeepsOthers W W2 from by
          rw [hW2]
          exact ⟨HB3.out, HX3.out, HW3.out.drew, ⟨Nat.le_refl _, fun _ _ h _ => h⟩⟩)
        clear hW2 cb fb cx
        go_wp2
        refine OnlyNormal.mk ?_
        have hko := HW2.out.2.2.2.trans (KeepsOthers.setCell W2 ⟨w.heap.size, E, none⟩ (.int .u8 (q : Int)))
        refine ⟨hko.from _, hko.walks, ⟨?_, ((Only.refl w.heap.size W2).setCell E (.int .u8 (q : Int))).blk HW2.out.2.1 (by omega)⟩, HW2.out.2.2.1.setCell (p := ⟨w.heap.size, E, none⟩) (Nat.le_refl _) _⟩
        have h2 := HW2.out.1.set_ E (bv q)
        rw [← HFL.out, cellsL_set] at h2
        have e1 : addB (List.replicate 1024 false) ((pre ++ [(⟨f, hf⟩ : Fr)]).map (fun j : Fr => j.1)) = FL.set f true := by
          rw [List.map_append, HFL.out]
          exact addB_snoc _ _ _
        have e2 : ([1] ++ (md.2 ++ flagsL FL)).set E q = [1] ++ (md.2 ++ flagsL (FL.set f true)) := by
          have hl : FL.length = 1024 := by rw [HFL.out, addB_length, List.length_replicate]
          rw [flagsL_set hl hf, ← HDV.out, ← HRM.out, ← HY.out, ← HPW.out, ← HQ.out, HEE.out, List.set_append_right _ _ (by simp; omega), List.set_append_right _ _ (by simp [HR.out.ok.st])]
          congr 3
          simp [HR.out.ok.st]
        rw [e1, ← e2]
        exact h2
      case done =>
        rintro Dd xs W hD hS ⟨⟨hb, hx⟩, hB⟩ hK
        have cx : W.cell? ⟨w.heap.size + 1, 0, none⟩ = some (.slice (some ⟨w.heap.size, 0, none⟩) 161 161) := by rw [hx.cell]; rfl
        have HB4 := Lib.hid hb
        have HW4 := Lib.hid hB
        have HF := Lib.hid (flags_all HR.out.ok (hS.trans HP.out.symm))
        clear hb hx hB
        gi_wp2
        refine ⟨by simp, .inl ⟨_, _, rfl, run_takeDeferred hK, ?_⟩⟩
        have hne : w.heap.size ≠ Dd := by
          rintro rfl
          have h1 : W.heap[w.heap.size]? = _ := HB4.out
          rw [hK] at h1
          cases h1
        have hblk : Blk (W.putObj Dd (.deferred none)) w.heap.size 5 (cellsL (encR md)) := by
          have h1 := ((grownBy_putObj' W Dd (.deferred none)).block w.heap.size HB4.out.lt (fun e => hne (by injection e))).trans HB4.out
          rw [HF.out] at h1
          exact h1
        exact ⟨_, results_tmp rfl _ _ _, rfl, Bts.of_whole hblk (encR_length HR.out.ok) (by unfold maxLen; omega) (encR_byte HR.out.ok), HW4.out.trans (belowK_b (w := w) (Nat.le_refl _) _ Dd _ _ (by have := HE.size; omega) hK rfl rfl)⟩
      case stop =>
        rintro D c pre W _ _ h _
        exact h.elim
end Go.Proofs.Ytfnegbcpiejdaab

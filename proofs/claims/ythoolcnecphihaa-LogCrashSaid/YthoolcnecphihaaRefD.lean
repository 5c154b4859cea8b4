/-
  The contract of the document's own Records: of the sectors of a log the records of that gen, from the first one on.
  Conditions: there are at least 64 sectors, each of 64 bytes; they are read in memory.
-/
import Derived.Test.YthoolcnecphihaaRefC
import Derived.Test.YthoolcnecphihaaLogD
import Derived.Deep.RegionHeld3
namespace Go.Proofs.Ythoolcnecphihaa
open Go.RowKit
set_option linter.unusedVariables false

/-- What holds while a sector is held against the document's own. -/
def RecS (w : World) (v : Value) (s : List Nat) (w' : World) : Prop := Bts w' w.heap.size v s ∧ Below w.heap.size w w'
theorem RecS.next {w w' w'' : World} {v : Value} {s : List Nat} (h : RecS w v s w') (hb : Below w'.heap.size w' w'') : RecS w v s w'' :=
  ⟨h.1.below (hb.mono h.2.size), h.2.trans (hb.mono h.2.size)⟩
theorem RecS.drew {w w' : World} {v : Value} {s : List Nat} (h : RecS w v s w') : RecS w v s w'.drew := ⟨h.1, h.2.drew⟩
theorem RecS.bts {w w' : World} {v : Value} {s : List Nat} (h : RecS w v s w') : Bts w' w.heap.size v s := h.1
theorem RecS.below {w w' : World} {v : Value} {s : List Nat} (h : RecS w v s w') : Below w.heap.size w w' := h.2
theorem RecS.drewN {w w' : World} {v : Value} {s : List Nat} (h : RecS w v s w') (q : Nat) : RecS w v s (w'.drewN q) := ⟨h.1, below_drewN h.2 q⟩
theorem Bts.cut {w : World} {B b off n c : Nat} {s : List Nat} (h : Bts w B (.slice (some ⟨b, off, none⟩) n c) s) {a k c' : Nat} (ha : a + k ≤ n) (hk : k ≤ c') (hc' : c' ≤ maxLen) : Bts w B (.slice (some ⟨b, off + a, none⟩) k c') (win s a k) := by
  obtain ⟨A', n', c1, hv, hl, hm, ⟨hnc, hA⟩, hc, hb, hx⟩ := h
  injection hv with e1 e2 e3
  subst e1 e2 e3
  have hg := fun j (hj : j < k) => win_getD s a k j hj
  refine ⟨_, k, c', rfl, win_length _ _ _ (by omega), by omega, ⟨hk, fun h => by cases h⟩, hc', fun j hj => by rw [hg j hj]; exact hb _ (by omega), fun h0 => ?_⟩
  obtain ⟨b', off', h1, h2, h3⟩ := hx (by omega)
  injection h1 with h1
  injection h1 with h1 h1' _
  subst h1 h1'
  exact ⟨_, _, rfl, h2, fun j hj => by rw [hg j hj, Nat.add_assoc]; exact h3 _ (by omega)⟩

theorem Pts.at_ {w : World} {b off N c : Nat} {xss : List (List Nat)} (h : Pts w (.slice (some ⟨b, off, none⟩) N c) xss) {j : Nat} (hj : j < xss.length) : ∃ u, w.cell? ⟨b, off + j, none⟩ = some u ∧ Bts w w.heap.size u (xss.getD j []) := by
  obtain ⟨b', off', c', u, e, _, h1, h2⟩ := h.get hj
  injection e with e _ _
  injection e with e
  injection e with e1 e2 _
  subst e1 e2
  exact ⟨u, h1, h2⟩
/-- What holds ahead of round k. -/
def RecsAt (w : World) (F : Nat → List Nat) (gen k : Nat) (v : Value) (wx : World) : Prop :=
  (∀ j, j < k → IsRec (F j) gen j) ∧ Lst wx (fun _ => False) w.heap.size w.heap.size 29 v (pays F k) ∧ Below w.heap.size w wx
/-- What it leaves. -/
def RecsPost (w : World) (F : Nat → List Nat) (gen : Nat) (e : Ending) (w' : World) : Prop :=
  ∃ m v, Stop F gen m ∧ e = .returned v ∧ Lst w' (fun _ => False) w.heap.size w.heap.size 29 v (pays F m) ∧ Below w.heap.size w w'

set_option maxRecDepth 20000 in
set_option maxHeartbeats 3200000 in
theorem records_any (v : Value) (xss : List (List Nat)) (gen : Nat) (w : World) (h : Pts w v xss) (hn : 64 ≤ xss.length) (hs : ∀ j, j < 64 → (xss.getD j []).length = 64) (hg : gen < 4294967296) :
    Calls Try.prog 13 #[v, .int .u32 (gen : Int)] w (RecsPost w (fun j => xss.getD j []) gen) := by
  have HP := Lib.hid h
  have HS := Lib.hid hs
  have HG := Lib.hid hg
  obtain ⟨A, N, c, rfl, hN, hNc, hcm, hz⟩ := h
  obtain ⟨b, off, rfl, -⟩ := hz (by omega)
  have h64 : 64 ≤ N := by omega
  have HN := Lib.hid hN
  obtain ⟨i0, hi, hz0, hz1, hz2⟩ := info_parts Try.infoB
  have HI := Lib.hid hi
  have HZ0 := Lib.hid hz0
  have HZ1 := Lib.hid hz1
  have HZ2 := Lib.hid hz2
  unfold maxLen at hcm
  clear hi hz0 hz1 hz2 hs hg hn hN
  go_enter Try.func13, Try.ntmps13
  go_wp2_with fail
  go_loopg [5, 6] 64 (fun g s5 s6 wx => ∃ k : Nat, k + g = 64 ∧ s6 = .int .i64 k ∧ RecsAt w (fun j => xss.getD j []) gen k s5 wx)
  case atStart => exact ⟨0, rfl, rfl, fun j hj => absurd hj (by omega), Lst.nil_ _ _ _ _ _, Below.refl _ _⟩
  case round =>
    obtain ⟨k, hkg, rfl, hr⟩ := hrel
    have HR := Lib.hid hr
    clear hr
    by_cases hk : k < 64
    · have t1 : decide ((k : Int) < (N : Int)) = true := decide_eq_true (by omega)
      have t2 : decide ((k : Int) < 64) = true := decide_eq_true (by omega)
      have t3 : (k : Int) < (N : Int) := by omega
      have t4 : (0 : Int) ≤ (k : Int) := by omega
      obtain ⟨u, hcell0, hu⟩ := HP.out.at_ (j := k) (by rw [HN.out]; omega)
      obtain ⟨s, hse⟩ : ∃ s, s = xss.getD k [] := ⟨_, rfl⟩
      rw [← hse] at hu
      have HSE := Lib.hid hse
      have hl : s.length = 64 := by rw [hse]; exact HS.out k hk
      have HL := Lib.hid hl
      clear hse
      have HU := Lib.hid hu
      have HBY := Lib.hid hu.byte
      have hux := hu
      obtain ⟨A2, n2, c2, rfl, hl2, _, ⟨hn2c, _⟩, hc2m, _, hx2⟩ := hux
      obtain rfl : n2 = 64 := by omega
      obtain ⟨b2, off2, rfl, hb2, _⟩ := hx2 (by omega)
      unfold maxLen at hc2m
      obtain ⟨x, hx⟩ : ∃ x, x = s.getD 8 0 := ⟨_, rfl⟩
      have HXE := Lib.hid hx
      have hx256 : x < 256 := by rw [hx]; exact byte_at HBY.out 8
      have hcell : wr.cell? ⟨b, off + k, none⟩ = some (.slice (some ⟨b2, off2, none⟩) 64 c2) := (HR.out.2.2.cell (World.block_lt_of_cell? w _ hcell0)).trans hcell0
      have HRS := Lib.hid (show RecS wr (.slice (some ⟨b2, off2, none⟩) 64 c2) s wr from ⟨(HU.out.below HR.out.2.2).more HR.out.2.2.size, Below.refl _ _⟩)
      have hc8 : wr.cell? ⟨b2, off2 + 8, none⟩ = some (.int .u8 (x : Int)) := by
        obtain ⟨A', n', c', e1, _, _, _, _, _, h5⟩ := HRS.out.1
        injection e1 with e1 e2 e3
        subst e1 e2 e3
        obtain ⟨b', off', e1, _, h6⟩ := h5 (by omega)
        injection e1 with e1
        injection e1 with e1 e2 _
        subst e1 e2
        rw [hx]
        exact h6 8 (by omega)
      have HCL := Lib.hid (show ∀ w', Below wr.heap.size wr w' → w'.cell? ⟨b, off + k, none⟩ = some (.slice (some ⟨b2, off2, none⟩) 64 c2) from fun w' hw' => (hw'.cell (World.block_lt_of_cell? wr _ hcell)).trans hcell)
      have h8 : (8 : Int) < 64 := by omega
      have hc2 : (64 : Int) ≤ (c2 : Int) := by omega
      clear hx hu hx2 hb2 hcell0 hl hl2 hn2c
      by_cases c3 : 50 < x
      · have t5 : decide ((50 : Int) < (x : Int)) = true := decide_eq_true (by omega)
        go_wp2_with fail
        refine wp_region_noPanic ?_
        refine wp_region_any (by kernel_rfl) ?_
        try (change wpAny _ _ _ _ _ _ _ (World.drew _))
        refine wpAny_take (i := 0) (v := ?v1) rfl (by kernel_rfl) (by kernel_rfl) (by kernel_rfl) (fun _ _ _ h => h) (Or.inl ⟨by rfl, ?hy1⟩) ?rest1
        case hy1 => (intro w; go_simp; try with_reducible rfl)
        try simp only [Act.put, List.getElem_toArray, List.getElem_cons_succ, List.getElem_cons_zero, List.setIfInBounds_toArray, List.set_cons_zero, List.set_cons_succ]
        refine wpAny_take (i := 1) (v := ?v2) rfl (by kernel_rfl) (by kernel_rfl) (by kernel_rfl) (fun _ _ _ h => h) (Or.inl ⟨by rfl, ?hy2⟩) ?rest2
        case hy2 => (intro w; go_simp; try with_reducible rfl)
        try simp only [Act.put, List.getElem_toArray, List.getElem_cons_succ, List.getElem_cons_zero, List.setIfInBounds_toArray, List.set_cons_zero, List.set_cons_succ]
        refine wpAny_take (i := 2) (v := ?v3) rfl (by kernel_rfl) (by kernel_rfl) (by kernel_rfl) (fun _ _ _ h => h) (Or.inl ⟨by rfl, ?hy3⟩) ?rest3
        case hy3 => (intro w; go_simp; try with_reducible rfl)
        try simp only [Act.put, List.getElem_toArray, List.getElem_cons_succ, List.getElem_cons_zero, List.setIfInBounds_toArray, List.set_cons_zero, List.set_cons_succ]
        refine wpAny_take (i := 3) (v := undef) rfl (by kernel_rfl) (by kernel_rfl) (by kernel_rfl) (fun _ _ _ h => h) (Or.inr ⟨by rfl, rfl⟩) ?_
        try simp only [Act.put, List.getElem_toArray, List.getElem_cons_succ, List.getElem_cons_zero, List.setIfInBounds_toArray, List.set_cons_zero, List.set_cons_succ]
        refine wpAny_take (i := 4) (v := undef) rfl (by kernel_rfl) (by kernel_rfl) (by kernel_rfl) (fun _ _ _ h => h) (Or.inr ⟨by rfl, rfl⟩) ?_
        try simp only [Act.put, List.getElem_toArray, List.getElem_cons_succ, List.getElem_cons_zero, List.setIfInBounds_toArray, List.set_cons_zero, List.set_cons_succ]
        refine wpAny_take (i := 5) (v := undef) rfl (by kernel_rfl) (by kernel_rfl) (by kernel_rfl) (fun _ _ _ h => h) (Or.inr ⟨by rfl, rfl⟩) ?_
        try simp only [Act.put, List.getElem_toArray, List.getElem_cons_succ, List.getElem_cons_zero, List.setIfInBounds_toArray, List.set_cons_zero, List.set_cons_succ]
        refine wpAny_take (i := 6) (v := undef) rfl (by kernel_rfl) (by kernel_rfl) (by kernel_rfl) (fun _ _ _ h => h) (Or.inr ⟨by rfl, rfl⟩) ?_
        try simp only [Act.put, List.getElem_toArray, List.getElem_cons_succ, List.getElem_cons_zero, List.setIfInBounds_toArray, List.set_cons_zero, List.set_cons_succ]
        refine wpAny_take (i := 7) (v := undef) rfl (by kernel_rfl) (by kernel_rfl) (by kernel_rfl) (fun _ _ _ h => h) (Or.inr ⟨by rfl, rfl⟩) ?_
        try simp only [Act.put, List.getElem_toArray, List.getElem_cons_succ, List.getElem_cons_zero, List.setIfInBounds_toArray, List.set_cons_zero, List.set_cons_succ]
        refine wpAny_take (i := 8) (v := undef) rfl (by kernel_rfl) (by kernel_rfl) (by kernel_rfl) (fun _ _ _ h => h) (Or.inr ⟨by rfl, rfl⟩) ?_
        try simp only [Act.put, List.getElem_toArray, List.getElem_cons_succ, List.getElem_cons_zero, List.setIfInBounds_toArray, List.set_cons_zero, List.set_cons_succ]
        refine wpAny_take (i := 9) (v := undef) rfl (by kernel_rfl) (by kernel_rfl) (by kernel_rfl) (fun _ _ _ h => h) (Or.inr ⟨by rfl, rfl⟩) ?_
        try simp only [Act.put, List.getElem_toArray, List.getElem_cons_succ, List.getElem_cons_zero, List.setIfInBounds_toArray, List.set_cons_zero, List.set_cons_succ]
        refine wpAny_take (i := 10) (v := undef) rfl (by kernel_rfl) (by kernel_rfl) (by kernel_rfl) (fun _ _ _ h => h) (Or.inr ⟨by rfl, rfl⟩) ?_
        try simp only [Act.put, List.getElem_toArray, List.getElem_cons_succ, List.getElem_cons_zero, List.setIfInBounds_toArray, List.set_cons_zero, List.set_cons_succ]
        refine wpAny_take (i := 11) (v := undef) rfl (by kernel_rfl) (by kernel_rfl) (by kernel_rfl) (fun _ _ _ h => h) (Or.inr ⟨by rfl, rfl⟩) ?_
        try simp only [Act.put, List.getElem_toArray, List.getElem_cons_succ, List.getElem_cons_zero, List.setIfInBounds_toArray, List.set_cons_zero, List.set_cons_succ]
        refine wpAny_take (i := 13) (v := undef) rfl (by kernel_rfl) (by kernel_rfl) (by kernel_rfl) (fun _ _ _ h => h) (Or.inr ⟨by rfl, rfl⟩) ?_
        try simp only [Act.put, List.getElem_toArray, List.getElem_cons_succ, List.getElem_cons_zero, List.setIfInBounds_toArray, List.set_cons_zero, List.set_cons_succ]
        refine wpAny_take (i := 14) (v := undef) rfl (by kernel_rfl) (by kernel_rfl) (by kernel_rfl) (fun _ _ _ h => h) (Or.inr ⟨by rfl, rfl⟩) ?_
        try simp only [Act.put, List.getElem_toArray, List.getElem_cons_succ, List.getElem_cons_zero, List.setIfInBounds_toArray, List.set_cons_zero, List.set_cons_succ]
        refine wpAny_take (i := 15) (v := undef) rfl (by kernel_rfl) (by kernel_rfl) (by kernel_rfl) (fun _ _ _ h => h) (Or.inr ⟨by rfl, rfl⟩) ?_
        try simp only [Act.put, List.getElem_toArray, List.getElem_cons_succ, List.getElem_cons_zero, List.setIfInBounds_toArray, List.set_cons_zero, List.set_cons_succ]
        refine wpAny_take (i := 16) (v := undef) rfl (by kernel_rfl) (by kernel_rfl) (by kernel_rfl) (fun _ _ _ h => h) (Or.inr ⟨by rfl, rfl⟩) ?_
        try simp only [Act.put, List.getElem_toArray, List.getElem_cons_succ, List.getElem_cons_zero, List.setIfInBounds_toArray, List.set_cons_zero, List.set_cons_succ]
        refine wpAny_ready (rs := [12]) (by kernel_rfl) (by simp) ?_
        refine AllReady.cons rfl (fun K hK => ?_) ?_
        · go_simp
          try (refine hK _ _ ?_)
          try (clear hK K)
          refine wpAny_ready (rs := [17]) (by kernel_rfl) (by simp) ?_
          refine AllReady.cons rfl (fun K hK => ?_) ?_
          · go_simp
            try (refine hK _ _ ?_)
            try (clear hK K)
            refine wpAny_take (i := 18) (v := undef) rfl (by kernel_rfl) (by kernel_rfl) (by kernel_rfl) (fun _ _ _ h => h) (Or.inr ⟨by rfl, rfl⟩) ?_
            try simp only [Act.put, List.getElem_toArray, List.getElem_cons_succ, List.getElem_cons_zero, List.setIfInBounds_toArray, List.set_cons_zero, List.set_cons_succ]
            refine wpAny_take (i := 19) (v := ?v4) rfl (by kernel_rfl) (by kernel_rfl) (by kernel_rfl) (fun _ _ _ h => h) (Or.inl ⟨by rfl, ?hy4⟩) ?rest4
            case hy4 => (intro w; go_simp; try with_reducible rfl)
            try simp only [Act.put, List.getElem_toArray, List.getElem_cons_succ, List.getElem_cons_zero, List.setIfInBounds_toArray, List.set_cons_zero, List.set_cons_succ]
            refine wpAny_done (by kernel_rfl) ?_ _
            refine NoPanic.normal ?_
            go_simp
            go_wp2
            go_ret
            exact ⟨k, _, ⟨by omega, HR.out.1, fun _ hrec => absurd hrec.1 (by show ¬ (xss.getD k []).getD 8 0 ≤ 50; rw [← HSE.out, ← HXE.out]; omega)⟩, rfl, HR.out.2.1.turns (fun _ h => h.elim) (Turns.refl _ _).drew, HR.out.2.2.drew⟩
          exact AllReady.nil
        exact AllReady.nil
      · have t5 : decide ((50 : Int) < (x : Int)) = false := decide_eq_false (by omega)
        have t6 : (x : Int) ≤ 50 := by omega
        have t7 : (0 : Int) ≤ (x : Int) := by omega
        have n1 : (9 : Int) + (x : Int) ≤ (c2 : Int) := by omega
        have n2 : (9 : Int) ≤ (9 : Int) + (x : Int) := by omega
        have n3 : ¬ (c2 = 9) := by omega
        have n4 : IntKind.i64.wrap (9 + (x : Int)) = 9 + (x : Int) := by rw [IntKind.wrap_i64]; omega
        have n5 : 9 ≤ c2 := by omega
        have n6 : 9 + x ≤ c2 := by omega
        have n7 : ((9 : Int) + (x : Int)).toNat - 9 = x := by omega
        have hw : (win s 9 x).length = x := win_length _ _ _ (by rw [HL.out]; omega)
        have CUT := Lib.hid (fun (W : World) (h : RecS wr (.slice (some ⟨b2, off2, none⟩) 64 c2) s W) => refSector_any gen k (.slice (some ⟨b2, off2 + 9, none⟩) x (c2 - 9)) (win s 9 x) wr.heap.size W (h.1.cut (by omega) (by omega) (by unfold maxLen; omega)) h.2.size (by omega) HG.out (by omega))
        have SB := Lib.hid (secL_byte gen k (win s 9 x) (by omega) (win_byte _ _ _ (fun j _ => byte_at HBY.out j)))
        obtain ⟨T, hT⟩ : ∃ T, T = decide (secL gen k (win s 9 x) = s) := ⟨_, rfl⟩
        have SAM := Lib.hid (fun (W : World) (bs : Nat) (r : Value) (ho : W.ownsRow bs 5 1 r 64 ((secL gen k (win s 9 x)).map bv)) (h : RecS wr (.slice (some ⟨b2, off2, none⟩) 64 c2) s W) => same_any r (.slice (some ⟨b2, off2, none⟩) 64 c2) (secL gen k (win s 9 x)) s _ _ W (Bts.of_own ho SB.out) h.1)
        rw [← hT] at SAM
        have HT := Lib.hid hT
        clear hw hT
        cases T with
        | true =>
          go_wp2_with fail
          go_region_held3 (fun w' => w'.cell? ⟨b, off + k, none⟩ = some (.slice (some ⟨b2, off2, none⟩) 64 c2) ∧ RecS wr (.slice (some ⟨b2, off2, none⟩) 64 c2) s w')
            (first | assumption | exact ⟨HCL.out _ HRS.out.drew.below, HRS.out.drew⟩ | exact ⟨HCL.out _ (RecS.below (RecS.next (by assumption) hb)), RecS.next (by assumption) hb⟩ | exact ⟨HCL.out _ (RecS.below (RecS.next (And.right (by assumption)) hb)), RecS.next (And.right (by assumption)) hb⟩ | exact ⟨HCL.out _ (RecS.below (RecS.drewN (by assumption) _)), RecS.drewN (by assumption) _⟩ | exact ⟨HCL.out _ (RecS.below (RecS.drewN (And.right (by assumption)) _)), RecS.drewN (And.right (by assumption)) _⟩)
            (first
              | (go_at_call 18; refine (CUT.out _ ?_).mono ?_; (first | assumption | exact And.right (by assumption)); rintro e w' ⟨r, rfl, ho, hb⟩)
              | (go_at_call 17; refine (SAM.out _ _ _ (by assumption) ?_).mono ?_; (first | assumption | exact And.right (by assumption)); rintro e w' ⟨rfl, q, rfl⟩))
          have hS : (w'.drewN q).cell? ⟨b, off + k, none⟩ = some (.slice (some ⟨b2, off2, none⟩) 64 c2) ∧ RecS wr (.slice (some ⟨b2, off2, none⟩) 64 c2) s (w'.drewN q) := by assumption
          obtain ⟨W, hW⟩ : ∃ W, W = w'.drewN q := ⟨_, rfl⟩
          rw [← hW] at hS ⊢
          obtain ⟨hcW, hRW⟩ := hS
          have HRW := Lib.hid hRW
          have KW := Lib.hid (HR.out.2.2.trans (hRW.2.mono HR.out.2.2.size))
          have HLW := Lib.hid ((HR.out.2.1.turns (fun _ h => h.elim) (Turns.of_below hRW.2 (Nat.le_refl _))).alloc (fun _ h => h.elim) (.cells #[.slice (some ⟨b2, off2 + 9, none⟩) x (c2 - 9)] 29))
          have HB4 := Lib.hid (show w.heap.size ≤ (W.alloc (.cells #[.slice (some ⟨b2, off2 + 9, none⟩) x (c2 - 9)] 29)).heap.size from Nat.le_trans KW.out.size (by simp))
          have HE4 := Lib.hid (show ∀ j, j < 1 → ∃ u, ([Value.slice (some ⟨b2, off2 + 9, none⟩) x (c2 - 9)])[j]? = some u ∧ El (W.alloc (.cells #[.slice (some ⟨b2, off2 + 9, none⟩) x (c2 - 9)] 29)) (fun _ => False) w.heap.size 29 u (([pay (fun j => xss.getD j []) k]).getD j []) from by
            intro j hj
            obtain rfl : j = 0 := by omega
            refine ⟨_, rfl, ?_⟩
            have h1 : Bts (W.alloc (.cells #[.slice (some ⟨b2, off2 + 9, none⟩) x (c2 - 9)] 29)) w.heap.size (.slice (some ⟨b2, off2, none⟩) 64 c2) s := HU.out.below (KW.out.alloc KW.out.size _)
            have h2 := h1.cut (a := 9) (k := x) (c' := c2 - 9) (by omega) (by omega) (by unfold maxLen; omega)
            have h3 : win s 9 x = pay (fun j => xss.getD j []) k := by
              show win s 9 x = win (xss.getD k []) 9 ((xss.getD k []).getD 8 0)
              rw [← HSE.out, HXE.out]
            rw [h3] at h2
            exact El.of_bts h2 (fun _ h => h.elim) HB4.out)
          have HC4 := Lib.hid (one_cell (w := W.alloc (.cells #[.slice (some ⟨b2, off2 + 9, none⟩) x (c2 - 9)] 29)) (g := W.heap.size) (v := .slice (some ⟨b2, off2 + 9, none⟩) x (c2 - 9)) (by simp))
          have HFW := Lib.hid (show (pays (fun j => xss.getD j []) k).length + 1 ≤ 1000000 by rw [pays_length]; omega)
          clear hRW hW
          go_wp2_with (at_builtin; refine wpList_append_lst rfl (.tmp 45) (.tmp 53) 22 rfl (fun _ => False) w.heap.size w.heap.size 29 i0 Try.underlying22 HI.out HZ0.out HZ1.out HZ2.out u5 (pays (fun j => xss.getD j []) k) rfl HLW.out ⟨W.heap.size, 0, none⟩ 1 1 [.slice (some ⟨b2, off2 + 9, none⟩) x (c2 - 9)] [pay (fun j => xss.getD j []) k] rfl rfl rfl HC4.out HE4.out HFW.out HB4.out (Nat.le_refl _) ?_; intro v5 w5 HL5 HK5)
          go_roundg (63 - k)
          case measure => omega
          case rel =>
            refine ⟨k + 1, by omega, by go_num, fun j hj => ?_, ?_, (KW.out.alloc KW.out.size _).trans HK5.out⟩
            · by_cases e : j = k
              · subst e
                refine ⟨by simp only; rw [← HSE.out, ← HXE.out]; omega, ?_⟩
                simp only
                rw [← HSE.out, ← HXE.out]
                exact of_decide_eq_true HT.out.symm
              · exact HR.out.1 j (by omega)
            · rw [pays_succ]
              exact HL5.out
        | false =>
          go_wp2_with fail
          go_region_held3 (fun w' => w'.cell? ⟨b, off + k, none⟩ = some (.slice (some ⟨b2, off2, none⟩) 64 c2) ∧ RecS wr (.slice (some ⟨b2, off2, none⟩) 64 c2) s w')
            (first | assumption | exact ⟨HCL.out _ HRS.out.drew.below, HRS.out.drew⟩ | exact ⟨HCL.out _ (RecS.below (RecS.next (by assumption) hb)), RecS.next (by assumption) hb⟩ | exact ⟨HCL.out _ (RecS.below (RecS.next (And.right (by assumption)) hb)), RecS.next (And.right (by assumption)) hb⟩ | exact ⟨HCL.out _ (RecS.below (RecS.drewN (by assumption) _)), RecS.drewN (by assumption) _⟩ | exact ⟨HCL.out _ (RecS.below (RecS.drewN (And.right (by assumption)) _)), RecS.drewN (And.right (by assumption)) _⟩)
            (first
              | (go_at_call 18; refine (CUT.out _ ?_).mono ?_; (first | assumption | exact And.right (by assumption)); rintro e w' ⟨r, rfl, ho, hb⟩)
              | (go_at_call 17; refine (SAM.out _ _ _ (by assumption) ?_).mono ?_; (first | assumption | exact And.right (by assumption)); rintro e w' ⟨rfl, q, rfl⟩))
          have hS : (w'.drewN q).cell? ⟨b, off + k, none⟩ = some (.slice (some ⟨b2, off2, none⟩) 64 c2) ∧ RecS wr (.slice (some ⟨b2, off2, none⟩) 64 c2) s (w'.drewN q) := by assumption
          go_wp2
          go_ret
          refine ⟨k, _, ⟨by omega, HR.out.1, fun _ hrec => ?_⟩, rfl, HR.out.2.1.turns (fun _ h => h.elim) (Turns.of_below hS.2.2 (Nat.le_refl _)), HR.out.2.2.trans (hS.2.2.mono HR.out.2.2.size)⟩
          refine of_decide_eq_false HT.out.symm ?_
          have h := hrec.2
          simp only at h
          rw [← HSE.out, ← HXE.out] at h
          exact h
    · obtain rfl : k = 64 := by omega
      have t2 : decide ((64 : Int) < 64) = false := by decide
      by_cases c1 : 64 < N
      · have t3 : decide (((64 : Nat) : Int) < (N : Int)) = true := decide_eq_true (by omega)
        have t3' : decide ((64 : Int) < (N : Int)) = true := decide_eq_true (by omega)
        go_wp2
        go_ret
        exact ⟨64, _, ⟨Nat.le_refl _, HR.out.1, fun h => absurd h (by omega)⟩, rfl, HR.out.2.1, HR.out.2.2⟩
      · have t3 : decide (((64 : Nat) : Int) < (N : Int)) = false := decide_eq_false (by omega)
        have t3' : decide ((64 : Int) < (N : Int)) = false := decide_eq_false (by omega)
        go_wp2
        go_ret
        exact ⟨64, _, ⟨Nat.le_refl _, HR.out.1, fun h => absurd h (by omega)⟩, rfl, HR.out.2.1, HR.out.2.2⟩
end Go.Proofs.Ythoolcnecphihaa

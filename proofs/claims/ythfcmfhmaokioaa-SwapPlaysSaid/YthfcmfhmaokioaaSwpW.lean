/-
  SwapPlays answers true for any acts and any process.
  Conditions: the acts are read in memory; the process is an int.
-/
import Derived.Test.YthfcmfhmaokioaaSwpQ
import Derived.Test.YthfcmfhmaokioaaRwa
import Derived.Deep.CutRange
import Derived.Deep.CutBlock
import Derived.StillTailTactics
namespace Go.Proofs.Ythfcmfhmaokioaa
open Go.RowKit
set_option linter.unusedVariables false

set_option maxRecDepth 20000 in
set_option maxHeartbeats 1000000 in
theorem swapPlays_edge (A : Option Addr) (l c : Nat) (proc : Int) (w : World) (h : 100 < l) :
    Calls Try.prog 3 #[.slice A l c, .int .i64 proc] w fun e w' => e = .returned (.bool true) ∧ Below w.heap.size w w' := by
  have t1 : decide ((100 : Int) < (l : Int)) = true := decide_eq_true (by omega)
  go_enter Try.func3, Try.ntmps3
  go_wp2_with fail
  refine (swpAnswers_any _).mono ?_
  rintro e w1 ⟨rfl, hb⟩
  go_wp2
  go_ret
  exact ⟨rfl, hb⟩
theorem zero_arrS : ∃ Z : Array Value, Z = arrS (fun _ => .slice none 0 0) ∧ ∀ w, (zeroValue 27).run Try.prog w = .ok (.agg Z) w := ⟨_, rfl, fun w => by kernel_rfl⟩
theorem Try.infoInt16 : (Try.prog.info? 3).map (fun i => (i.zero, i.size, i.bytes)) = some (some (.int .i64 0), 1, 8) := by kernel_rfl
theorem RowAt.its {w : World} {base : Nat} {v : Value} {xs : List Int} (h : RowAt w base 1 v xs.length (xs.map (fun z => Value.int .i64 z))) : Its w w.heap.size v xs := by
  obtain ⟨h1, h2, ⟨rfl, h0⟩ | ⟨g, o, cap, rfl, h3, h4, h5, h6, h7, h8⟩⟩ := h
  · obtain rfl : xs = [] := List.eq_nil_of_length_eq_zero h0
    exact ⟨none, 0, 0, rfl, rfl, Nat.le_refl _, by simp [maxLen], fun h => absurd h (Nat.lt_irrefl _)⟩
  · refine ⟨some ⟨g, o, none⟩, xs.length, cap, rfl, rfl, h3, h4, fun h0 => ⟨g, o, rfl, h6, fun j hj => h7 j _ ?_⟩⟩
    simp [hj]
theorem hold_outS (s : SS) (p : Pl) {n : Int} (h : ¬ isSlot n) : holdS s n p = s := if_neg h
theorem rel_outS (s : SS) (p : Pl) {n : Int} (h : ¬ isSlot n) : relS s n p = s := if_neg h
theorem in_outS (s : SS) (p : Pl) {n : Int} (h : ¬ isSlot n) : inS s n p = false := by unfold inS; rw [decide_eq_false h]; rfl
/-- The first of the n slots that nobody holds. -/
def firstS (b : SS) (n : Nat) : Option Nat := (List.range n).find? (fun k => decide (b k = []))
def firV (r : Option Nat) : Int := match r with | none => -1 | some k => (k : Int)
theorem firstS_some {b : SS} {n k : Nat} (h : firstS b n = some k) : firstS b (n + 1) = some k := by
  unfold firstS at h ⊢
  rw [List.range_succ, List.find?_append, h]
  rfl
theorem firstS_new {b : SS} {n : Nat} (h : firstS b n = none) (hb : b n = []) : firstS b (n + 1) = some n := by
  unfold firstS at h ⊢
  rw [List.range_succ, List.find?_append, h, Option.none_or]
  exact List.find?_cons_of_pos (by simp [hb])
theorem firstS_not {b : SS} {n : Nat} (h : firstS b n = none) (hb : b n ≠ []) : firstS b (n + 1) = none := by
  unfold firstS at h ⊢
  rw [List.range_succ, List.find?_append, h, Option.none_or, List.find?_cons_of_neg (by simp [hb])]
  rfl
theorem firstS_lt {b : SS} {n k : Nat} (h : firstS b n = some k) : k < n := by
  unfold firstS at h
  exact List.mem_range.1 (List.mem_of_find?_eq_some h)
theorem firstS_is (b : SS) : TakeIs b (firstS b 32) := by
  cases h : firstS b 32 with
  | none =>
    intro m hm
    unfold firstS at h
    have := List.find?_eq_none.1 h m (List.mem_range.2 hm)
    simpa using this
  | some n =>
    refine ⟨firstS_lt h, ?_, ?_⟩
    · unfold firstS at h
      simpa using List.find?_some h
    · intro m hm e
      have key : ∀ k, m < k → ∀ r, firstS b k = some r → r ≤ m := by
        intro k
        induction k with
        | zero => intro h; omega
        | succ k ih =>
          intro hk r hr
          by_cases c : m < k
          · cases h' : firstS b k with
            | some q =>
              rw [firstS_some h'] at hr
              injection hr with hr
              exact hr ▸ ih c q h'
            | none =>
              unfold firstS at h'
              have := List.find?_eq_none.1 h' m (List.mem_range.2 c)
              simp [e] at this
          · obtain rfl : m = k := by omega
            cases h' : firstS b m with
            | some q =>
              rw [firstS_some h'] at hr
              injection hr with hr
              have := firstS_lt h'
              omega
            | none =>
              rw [firstS_new h' e] at hr
              injection hr with hr
              omega
      have := key 32 (by have := firstS_lt h; omega) n h
      omega
/-- What holds at each act. -/
def SwI (w : World) (gS gL : Nat) (P : List Pl) (W : World) : Prop := ∃ (b : SS) (ls : Nat → List Pl) (vs : Nat → Value), SwV w gS gL (fun _ => False) b ls vs W ∧ SubS b P ∧ ∀ f, f < 32 → ls f = b f
theorem SwI.fresh {w W W' : World} {gS gL : Nat} {P : List Pl} (h : SwI w gS gL P W) (hb : Below W.heap.size W W') : SwI w gS gL P W' := by
  obtain ⟨b, ls, vs, h1, h2, h3⟩ := h
  exact ⟨b, ls, vs, h1.fresh hb, h2, h3⟩
theorem SwI.bel {w W : World} {gS gL : Nat} {P : List Pl} (h : SwI w gS gL P W) : Below w.heap.size w W := by
  obtain ⟨b, ls, vs, h1, h2, h3⟩ := h
  exact h1.bel
theorem swI_store {w W : World} {gS gL x : Nat} {P : List Pl} {X : Nat → Prop} {b : SS} {ls : Nat → List Pl} {vs : Nat → Value} {v : Value} {l : List Pl} (h : SwV w gS gL X (updS b x l) (upd ls 32 l) (upd vs 32 v) W) (hx : x < 32) (hE : ∀ f, f < 32 → ls f = b f) (hS : SubS (updS b x l) P) : SwI w gS gL P (W.setCell ⟨gL, x, none⟩ v) := by
  have h1 := (h.store hx).drop
  rw [upd_same, upd_same] at h1
  refine ⟨_, _, _, h1, hS, fun f hf => ?_⟩
  by_cases c : f = x
  · subst c
    rw [upd_same, updS_same]
  · rw [upd_other _ _ _ c, upd_other _ _ _ (by omega), updS_other _ _ _ c, hE f hf]
theorem swI_drop {w W : World} {gS gL x : Nat} {P : List Pl} {X : Nat → Prop} {b : SS} {ls : Nat → List Pl} {vs : Nat → Value} {l m : List Pl} (h : SwV w gS gL X (updS b x l) (upd (upd ls 32 m) x l) vs W) (hx : x < 32) (hE : ∀ f, f < 32 → ls f = b f) (hS : SubS (updS b x l) P) : SwI w gS gL P W := by
  refine ⟨_, _, _, h.drop, hS, fun f hf => ?_⟩
  by_cases c : f = x
  · subst c
    rw [upd_same, updS_same]
  · rw [upd_other _ _ _ c, upd_other _ _ _ (by omega), updS_other _ _ _ c, hE f hf]
set_option maxRecDepth 20000 in
set_option maxHeartbeats 6400000 in
theorem swapPlays_any (v : Value) (la : List Act16) (proc : Int) (w : World) (h1 : Acts16 w v la) (hw : ∀ x ∈ la, WPl x.p) (hl : la.length ≤ 100) :
    Calls Try.prog 3 #[v, .int .i64 proc] w fun e w' => e = .returned (.bool true) ∧ Below w.heap.size w w' := by
  obtain ⟨A1, N1, c1, rfl, hN1, hm1, hz1⟩ := h1
  have HZ1 := Lib.hid hz1
  have HN1 := Lib.hid hN1
  have hN8 : N1 ≤ 100 := by omega
  have t1 : decide ((100 : Int) < (N1 : Int)) = false := decide_eq_false (by omega)
  obtain ⟨P, hP⟩ : ∃ P, P = la.map Act16.p := ⟨_, rfl⟩
  have HPL := Lib.hid (show P.length ≤ 100 from by rw [hP, List.length_map]; exact hl)
  have HPM := Lib.hid (show ∀ (j : Nat) (x : Act16), la[j]? = some x → x.p ∈ P from fun j x h => by rw [hP]; exact List.mem_map.2 ⟨x, List.mem_of_getElem? h, rfl⟩)
  have HWA := Lib.hid (show ∀ (j : Nat) (x : Act16), la[j]? = some x → WPl x.p from fun j x h => hw x (List.mem_of_getElem? h))
  obtain ⟨Z, hZ, hzr⟩ := zero_arrS
  have HZZ := Lib.hid hZ
  clear hz1 hN1 hP hl hm1 hZ hw
  go_enter Try.func3, Try.ntmps3
  go_wp2_with fail
  refine (sw_new w w (Below.refl _ _) (fun _ => False) (noZs w)).mono ?_
  rintro e w1 ⟨gS, rfl, h1, -⟩
  have H0 := Lib.hid (show SwI w gS w1.heap.size P (w1.alloc (.cells Z 27)) from by
    refine ⟨ss0, fun _ => [], fun _ => .slice none 0 0, ⟨fun k => k = w1.heap.size, SwpT.widen h1 (belAl (Below.refl _ _) _) (fun k hk => .inr (by rw [hk]; exact Nat.le_refl _)), (fun k hk => by rw [hk]; simp), ⟨rfl, fun k hk => hk.elim⟩, h1.bel.size, by rw [HZZ.out]; exact Blk.new w1 _ _, fun f _ => ⟨Pls.nil_ _ _, ⟨_, _, _, rfl, .inl rfl⟩, (fun a n c e => by cases e), (fun a n c e => by cases e)⟩⟩, SubS.zero P, fun f _ => rfl⟩)
  clear h1
  go_wp2_with fail
  obtain ⟨gL, hgL⟩ : ∃ gL, gL = w1.heap.size := ⟨_, rfl⟩
  rw [← hgL] at H0 ⊢
  clear hgL hzr HZZ
  go_loopg [7] N1 (fun gg s7 wx => ∃ i : Nat, i + gg = N1 ∧ s7 = .int .i64 (i : Int) ∧ SwI w gS gL P wx)
  case atStart => exact ⟨0, by omega, rfl, H0.out⟩
  case round =>
    obtain ⟨i, hig, rfl, hI⟩ := hrel
    have I := Lib.hid hI
    clear hI H0
    obtain ⟨G, rfl⟩ : ∃ G, G = gk := ⟨_, rfl⟩
    by_cases hlt : i < N1
    · have t4 : decide ((i : Int) < (N1 : Int)) = true := decide_eq_true (by omega)
      have t5 : (i : Int) < (N1 : Int) := by omega
      have t6 : (0 : Int) ≤ (i : Int) := by omega
      obtain ⟨b1, o1, rfl, hpa⟩ := HZ1.out (by omega)
      obtain ⟨ac, hac⟩ : ∃ ac, la[i]? = some ac := ⟨_, List.getElem?_eq_getElem (by rw [HN1.out]; exact hlt)⟩
      obtain ⟨hbl, c0, c1', c2, c3⟩ := hpa i ac hac
      have HIN := Lib.hid (HPM.out i ac hac)
      have WP0 := Lib.hid (HWA.out i ac hac)
      obtain ⟨hd, an, ⟨pc, pg⟩⟩ := ac
      simp only at c0 c1' c2 c3
      have WP := Lib.hid (show WPl ⟨pc, pg⟩ from WP0.out)
      clear WP0
      have d0 : wr.cell? ⟨b1, o1 + i * 4, none⟩ = some (.bool hd) := (I.out.bel.cell hbl).trans c0
      have d1 : wr.cell? ⟨b1, o1 + i * 4 + 1, none⟩ = some (.int .i64 an) := (I.out.bel.cell hbl).trans c1'
      have d2 : wr.cell? ⟨b1, o1 + i * 4 + 2, none⟩ = some (.int .i64 pc) := (I.out.bel.cell hbl).trans c2
      have d3 : wr.cell? ⟨b1, o1 + i * 4 + 3, none⟩ = some (.int .i64 pg) := (I.out.bel.cell hbl).trans c3
      clear c0 c1' c2 c3 hpa hac hbl
      have hb6 := belAl (Below.refl wr.heap.size wr) (.cells #[.bool hd, .int .i64 an, .int .i64 pc, .int .i64 pg] 31)
      have KA := Lib.hid (Blk.new wr 31 #[.bool hd, .int .i64 an, .int .i64 pc, .int .i64 pg])
      have hb6s := hb6
      go_upto_region 9 with fail
      obtain ⟨W6, hW6⟩ : ∃ W6, W6 = wr.alloc (.cells #[.bool hd, .int .i64 an, .int .i64 pc, .int .i64 pg] 31) := ⟨_, rfl⟩
      rw [← hW6] at KA hb6s ⊢
      have hga : wr.heap.size < W6.heap.size := by rw [hW6]; simp
      obtain ⟨ga, hgA⟩ : ∃ ga, ga = wr.heap.size := ⟨_, rfl⟩
      have I7 := Lib.hid (show ∃ (b : SS) (ls : Nat → List Pl) (vs : Nat → Value), SwV w gS gL (fun k => k = ga) b ls vs W6 ∧ SubS b P ∧ ∀ f, f < 32 → ls f = b f from by
        obtain ⟨b, ls, vs, k1, k2, k3⟩ := I.out
        exact ⟨b, ls, vs, by rw [hgA]; exact k1.mark hb6s (Nat.le_refl _) hga, k2, k3⟩)
      rw [← hgA] at KA ⊢
      have HGA := Lib.hid (show ga ≠ gL from by
        obtain ⟨b, ls, vs, ⟨Z, k1, k2, k3, k4, k5, k6⟩, _⟩ := I.out
        have := k5.lt
        omega)
      clear hb6s hga hgA hW6 hb6 d0 d1 d2 d3 I
      have a0 := KA.out.cell 0
      have a1 := KA.out.cell 1
      have a2 := KA.out.cell 2
      have a3 := KA.out.cell 3
      obtain ⟨b, ls, vs, hV, hS, hE⟩ := I7.out
      have HV := Lib.hid hV
      have HS := Lib.hid hS
      have HE := Lib.hid hE
      have HLB := Lib.hid (show ∀ f, (b f).length ≤ 100 from fun f => Nat.le_trans (hS.le hV.srt f) HPL.out)
      clear hV hS hE I7
      by_cases z0 : 0 ≤ an ∧ an < 32
      · obtain ⟨x, rfl⟩ := Int.eq_ofNat_of_zero_le z0.1
        have hx8 : x < 32 := by omega
        have x1 : (0 : Int) ≤ (x : Int) := by omega
        have x2 : (x : Int) < 32 := by omega
        have u0 : decide ((0 : Int) ≤ (x : Int)) = true := decide_eq_true x1
        have u1 : decide ((x : Int) < 32) = true := decide_eq_true x2
        have HXE := Lib.hid (HE.out x hx8)
        clear z0
        cases hd with
        | true =>
          have CA := Lib.hid (HV.out.post (fun Z k1 k2 => sw_hold k1 k2 (x : Int) ⟨pc, pg⟩ WP.out (by have := HLB.out (x : Int).toNat; omega)))
          rw [isSlot_in hx8, hold_in hx8] at CA
          go_wp2_with fail
          refine CA.out.mono ?_
          rintro e w7 ⟨rfl, h7, h7k⟩
          have V7 := Lib.hid h7
          have K7 := Lib.hid (show Blk w7 ga 31 #[.bool true, .int .i64 (x : Int), .int .i64 pc, .int .i64 pg] from (h7k ga (.inr rfl)).trans KA.out)
          clear h7 h7k a0 a1 a2 a3
          go_upto_region 14 with fail
          have l0 := V7.out.cell hx8
          have CP := Lib.hid (fun (W : World) (hW : Below w7.heap.size w7 W) => (V7.out.fresh hW).put hx8 ⟨pc, pg⟩ (by rw [HXE.out]; have := HLB.out x; omega))
          have KP := Lib.hid (fun (W : World) (hW : Blk W ga 31 #[.bool true, .int .i64 (x : Int), .int .i64 pc, .int .i64 pg]) => (⟨hW.cell 1, hW.cell 2, hW.cell 3⟩ : W.cell? ⟨ga, 1, none⟩ = some (.int .i64 (x : Int)) ∧ W.cell? ⟨ga, 2, none⟩ = some (.int .i64 pc) ∧ W.cell? ⟨ga, 3, none⟩ = some (.int .i64 pg)))
          have BR := Lib.hid (Below.refl w7.heap.size w7).drew
          have KD := Lib.hid (show Blk w7.drew ga 31 #[.bool true, .int .i64 (x : Int), .int .i64 pc, .int .i64 pg] from K7.out)
          go_upto_region 14 with fail
          refine wp_region_noPanic ?_
          refine wp_region_held_drew (S := (fun w' => w'.cell? ⟨ga, 1, none⟩ = some (.int .i64 (x : Int)) ∧ w'.cell? ⟨ga, 2, none⟩ = some (.int .i64 pc) ∧ w'.cell? ⟨ga, 3, none⟩ = some (.int .i64 pg))) (by kernel_rfl) ?_ (fun hHeld => ?_)
          · try dsimp only
            exact KP.out _ KD.out
          refine wpAnyH_take (i := 0) (v := ?v1) rfl (by kernel_rfl) (by kernel_rfl) (by kernel_rfl) (fun _ _ _ h => h) (Or.inl ⟨by rfl, ?hy1⟩) (by assumption) ?rest1
          case hy1 => (intro w hSw; (try dsimp only at hSw); go_simp; try with_reducible rfl)
          try simp only [Act.put, List.getElem_toArray, List.getElem_cons_succ, List.getElem_cons_zero, List.setIfInBounds_toArray, List.set_cons_zero, List.set_cons_succ]
          refine wpAnyH_take (i := 1) (v := ?v2) rfl (by kernel_rfl) (by kernel_rfl) (by kernel_rfl) (fun _ _ _ h => h) (Or.inl ⟨by rfl, ?hy2⟩) (by assumption) ?rest2
          case hy2 => (intro w hSw; (try dsimp only at hSw); go_simp; try with_reducible rfl)
          try simp only [Act.put, List.getElem_toArray, List.getElem_cons_succ, List.getElem_cons_zero, List.setIfInBounds_toArray, List.set_cons_zero, List.set_cons_succ]
          refine wpAnyH_take (i := 2) (v := ?v3) rfl (by kernel_rfl) (by kernel_rfl) (by kernel_rfl) (fun _ _ _ h => h) (Or.inl ⟨by rfl, ?hy3⟩) (by assumption) ?rest3
          case hy3 => (intro w hSw; (try dsimp only at hSw); go_simp; try with_reducible rfl)
          try simp only [Act.put, List.getElem_toArray, List.getElem_cons_succ, List.getElem_cons_zero, List.setIfInBounds_toArray, List.set_cons_zero, List.set_cons_succ]
          refine wpAnyH_take (i := 3) (v := ?v4) rfl (by kernel_rfl) (by kernel_rfl) (by kernel_rfl) (fun _ _ _ h => h) (Or.inl ⟨by rfl, ?hy4⟩) (by assumption) ?rest4
          case hy4 => (intro w hSw; (try dsimp only at hSw); go_simp; try with_reducible rfl)
          try simp only [Act.put, List.getElem_toArray, List.getElem_cons_succ, List.getElem_cons_zero, List.setIfInBounds_toArray, List.set_cons_zero, List.set_cons_succ]
          refine wpAnyH_take (i := 4) (v := ?v5) rfl (by kernel_rfl) (by kernel_rfl) (by kernel_rfl) (fun _ _ _ h => h) (Or.inl ⟨by rfl, ?hy5⟩) (by assumption) ?rest5
          case hy5 => (intro w hSw; (try dsimp only at hSw); go_simp; try with_reducible rfl)
          try simp only [Act.put, List.getElem_toArray, List.getElem_cons_succ, List.getElem_cons_zero, List.setIfInBounds_toArray, List.set_cons_zero, List.set_cons_succ]
          refine wpAnyH_take (i := 6) (v := ?v6) rfl (by kernel_rfl) (by kernel_rfl) (by kernel_rfl) (fun _ _ _ h => h) (Or.inl ⟨by rfl, ?hy6⟩) (by assumption) ?rest6
          case hy6 => (intro w hSw; (try dsimp only at hSw); go_simp; try with_reducible rfl)
          try simp only [Act.put, List.getElem_toArray, List.getElem_cons_succ, List.getElem_cons_zero, List.setIfInBounds_toArray, List.set_cons_zero, List.set_cons_succ]
          refine wpAnyH_take (i := 7) (v := ?v7) rfl (by kernel_rfl) (by kernel_rfl) (by kernel_rfl) (fun _ _ _ h => h) (Or.inl ⟨by rfl, ?hy7⟩) (by assumption) ?rest7
          case hy7 => (intro w hSw; (try dsimp only at hSw); go_simp; try with_reducible rfl)
          try simp only [Act.put, List.getElem_toArray, List.getElem_cons_succ, List.getElem_cons_zero, List.setIfInBounds_toArray, List.set_cons_zero, List.set_cons_succ]
          refine wpAnyH_ready (rs := [5]) (by kernel_rfl) (by simp) ?_
          refine AllReadyH.cons rfl (fun K hK => ?_) ?_
          · go_simp
            refine hK.out _ _ ?_ (fun hHeld => ?_)
            · try dsimp only
              exact KP.out _ KD.out
            clear hK K
            try simp only [Act.put, List.getElem_toArray, List.getElem_cons_succ, List.getElem_cons_zero, List.setIfInBounds_toArray, List.set_cons_zero, List.set_cons_succ]
            refine wpAnyH_ready (rs := [8]) (by kernel_rfl) (by simp) ?_
            refine AllReadyH.cons rfl (fun K hK => ?_) ?_
            · go_simp
              refine (CP.out _ BR.out).mono ?_
              rintro e w8 ⟨v8, rfl, h8, hb8⟩
              have k8 := KD.out.below (hb8.mono (Nat.le_refl _)) KD.out.lt
              have l1 := h8.cell hx8
              have l2 := h8.frozen x
              rw [upd_other _ _ _ (by omega : x ≠ 32)] at l1
              obtain ⟨A8, n8, c8, hv8, -⟩ := h8.pls (f := 32) (by omega)
              rw [upd_same] at hv8
              subst hv8
              rw [HXE.out] at h8
              go_wp2_with fail
              refine hK.out _ _ ?_ (fun hHeld => ?_)
              · try dsimp only
                exact KP.out _ k8
              clear hK K
              try simp only [Act.put, List.getElem_toArray, List.getElem_cons_succ, List.getElem_cons_zero, List.setIfInBounds_toArray, List.set_cons_zero, List.set_cons_succ]
              refine wpAnyH_take (i := 9) (v := ?v8) rfl (by kernel_rfl) (by kernel_rfl) (by kernel_rfl) (fun _ _ _ h => h) (Or.inl ⟨by rfl, ?hy8⟩) (by assumption) ?rest8
              case hy8 => (intro w hSw; (try dsimp only at hSw); go_simp; try with_reducible rfl)
              try simp only [Act.put, List.getElem_toArray, List.getElem_cons_succ, List.getElem_cons_zero, List.setIfInBounds_toArray, List.set_cons_zero, List.set_cons_succ]
              refine wpAnyH_ready (rs := [10]) (by kernel_rfl) (by simp) ?_
              refine AllReadyH.cons rfl (fun K hK => ?_) ?_
              · go_simp
                refine hK.out _ _ ?_ (fun hHeld => ?_)
                · try dsimp only
                  exact KP.out _ (((Only.refl gL _).setCell _ _).blk k8 HGA.out)
                clear hK K
                try simp only [Act.put, List.getElem_toArray, List.getElem_cons_succ, List.getElem_cons_zero, List.setIfInBounds_toArray, List.set_cons_zero, List.set_cons_succ]
                refine wpAnyH_done (by kernel_rfl) ?_ _
                refine NoPanic.normal ?_
                have V9 := Lib.hid h8
                clear h8 hb8 l1 l2 k8 l0 hHeld
                go_simp
                go_wp2_with fail
                go_roundg (N1 - (i + 1))
                case measure => omega
                case rel => exact ⟨i + 1, by omega, by go_num, swI_store V9.out hx8 HE.out (HS.out.put HIN.out)⟩
              exact AllReadyH.nil
            exact AllReadyH.nil
          exact AllReadyH.nil
        | false =>
          obtain ⟨BB, hBB⟩ : ∃ BB, BB = decide ((⟨pc, pg⟩ : Pl) ∈ b x) := ⟨_, rfl⟩
          have HBB := Lib.hid hBB
          have l0 := HV.out.cell hx8
          have CP := Lib.hid (fun (W : World) (hW : Below W6.heap.size W6 W) => (by
            have h := (HV.out.fresh hW).out hx8 ⟨pc, pg⟩ (by rw [HXE.out]; have := HLB.out x; omega)
            rw [HXE.out, ← HBB.out] at h
            exact h : Calls Try.prog 12 #[vs x, .agg #[.int .i64 pc, .int .i64 pg]] W fun e w' => ∃ v', e = .returned (.tuple #[v', .bool BB]) ∧ SwV w gS gL (fun k => k = ga) b (upd ls 32 ((b x).erase ⟨pc, pg⟩)) (upd vs 32 v') w' ∧ Below W.heap.size W w'))
          have KP := Lib.hid (fun (W : World) (hW : Blk W ga 31 #[.bool false, .int .i64 (x : Int), .int .i64 pc, .int .i64 pg]) => (⟨hW.cell 1, hW.cell 2, hW.cell 3⟩ : W.cell? ⟨ga, 1, none⟩ = some (.int .i64 (x : Int)) ∧ W.cell? ⟨ga, 2, none⟩ = some (.int .i64 pc) ∧ W.cell? ⟨ga, 3, none⟩ = some (.int .i64 pg)))
          have BR := Lib.hid (Below.refl W6.heap.size W6).drew
          have KD := Lib.hid (show Blk W6.drew ga 31 #[.bool false, .int .i64 (x : Int), .int .i64 pc, .int .i64 pg] from KA.out)
          clear hBB
          go_upto_region 17 with fail
          refine wp_region_noPanic ?_
          refine wp_region_held_drew (S := (fun w' => w'.cell? ⟨ga, 1, none⟩ = some (.int .i64 (x : Int)) ∧ w'.cell? ⟨ga, 2, none⟩ = some (.int .i64 pc) ∧ w'.cell? ⟨ga, 3, none⟩ = some (.int .i64 pg))) (by kernel_rfl) ?_ (fun hHeld => ?_)
          · try dsimp only
            exact KP.out _ KD.out
          refine wpAnyH_take (i := 0) (v := ?v9) rfl (by kernel_rfl) (by kernel_rfl) (by kernel_rfl) (fun _ _ _ h => h) (Or.inl ⟨by rfl, ?hy9⟩) (by assumption) ?rest9
          case hy9 => (intro w hSw; (try dsimp only at hSw); go_simp; try with_reducible rfl)
          try simp only [Act.put, List.getElem_toArray, List.getElem_cons_succ, List.getElem_cons_zero, List.setIfInBounds_toArray, List.set_cons_zero, List.set_cons_succ]
          refine wpAnyH_take (i := 1) (v := ?v10) rfl (by kernel_rfl) (by kernel_rfl) (by kernel_rfl) (fun _ _ _ h => h) (Or.inl ⟨by rfl, ?hy10⟩) (by assumption) ?rest10
          case hy10 => (intro w hSw; (try dsimp only at hSw); go_simp; try with_reducible rfl)
          try simp only [Act.put, List.getElem_toArray, List.getElem_cons_succ, List.getElem_cons_zero, List.setIfInBounds_toArray, List.set_cons_zero, List.set_cons_succ]
          refine wpAnyH_take (i := 2) (v := ?v11) rfl (by kernel_rfl) (by kernel_rfl) (by kernel_rfl) (fun _ _ _ h => h) (Or.inl ⟨by rfl, ?hy11⟩) (by assumption) ?rest11
          case hy11 => (intro w hSw; (try dsimp only at hSw); go_simp; try with_reducible rfl)
          try simp only [Act.put, List.getElem_toArray, List.getElem_cons_succ, List.getElem_cons_zero, List.setIfInBounds_toArray, List.set_cons_zero, List.set_cons_succ]
          refine wpAnyH_take (i := 3) (v := ?v12) rfl (by kernel_rfl) (by kernel_rfl) (by kernel_rfl) (fun _ _ _ h => h) (Or.inl ⟨by rfl, ?hy12⟩) (by assumption) ?rest12
          case hy12 => (intro w hSw; (try dsimp only at hSw); go_simp; try with_reducible rfl)
          try simp only [Act.put, List.getElem_toArray, List.getElem_cons_succ, List.getElem_cons_zero, List.setIfInBounds_toArray, List.set_cons_zero, List.set_cons_succ]
          refine wpAnyH_take (i := 4) (v := ?v13) rfl (by kernel_rfl) (by kernel_rfl) (by kernel_rfl) (fun _ _ _ h => h) (Or.inl ⟨by rfl, ?hy13⟩) (by assumption) ?rest13
          case hy13 => (intro w hSw; (try dsimp only at hSw); go_simp; try with_reducible rfl)
          try simp only [Act.put, List.getElem_toArray, List.getElem_cons_succ, List.getElem_cons_zero, List.setIfInBounds_toArray, List.set_cons_zero, List.set_cons_succ]
          refine wpAnyH_take (i := 6) (v := ?v14) rfl (by kernel_rfl) (by kernel_rfl) (by kernel_rfl) (fun _ _ _ h => h) (Or.inl ⟨by rfl, ?hy14⟩) (by assumption) ?rest14
          case hy14 => (intro w hSw; (try dsimp only at hSw); go_simp; try with_reducible rfl)
          try simp only [Act.put, List.getElem_toArray, List.getElem_cons_succ, List.getElem_cons_zero, List.setIfInBounds_toArray, List.set_cons_zero, List.set_cons_succ]
          refine wpAnyH_take (i := 7) (v := ?v15) rfl (by kernel_rfl) (by kernel_rfl) (by kernel_rfl) (fun _ _ _ h => h) (Or.inl ⟨by rfl, ?hy15⟩) (by assumption) ?rest15
          case hy15 => (intro w hSw; (try dsimp only at hSw); go_simp; try with_reducible rfl)
          try simp only [Act.put, List.getElem_toArray, List.getElem_cons_succ, List.getElem_cons_zero, List.setIfInBounds_toArray, List.set_cons_zero, List.set_cons_succ]
          refine wpAnyH_ready (rs := [5]) (by kernel_rfl) (by simp) ?_
          refine AllReadyH.cons rfl (fun K hK => ?_) ?_
          · go_simp
            refine hK.out _ _ ?_ (fun hHeld => ?_)
            · try dsimp only
              exact KP.out _ KD.out
            clear hK K
            try simp only [Act.put, List.getElem_toArray, List.getElem_cons_succ, List.getElem_cons_zero, List.setIfInBounds_toArray, List.set_cons_zero, List.set_cons_succ]
            refine wpAnyH_ready (rs := [8]) (by kernel_rfl) (by simp) ?_
            refine AllReadyH.cons rfl (fun K hK => ?_) ?_
            · go_simp
              refine (CP.out _ BR.out).mono ?_
              rintro e w8 ⟨v8, rfl, h8, hb8⟩
              have k8 := KD.out.below (hb8.mono (Nat.le_refl _)) KD.out.lt
              have l1 := h8.cell hx8
              have l2 := h8.frozen x
              rw [upd_other _ _ _ (by omega : x ≠ 32)] at l1
              obtain ⟨A8, n8, c8, hv8, -⟩ := h8.pls (f := 32) (by omega)
              rw [upd_same] at hv8
              subst hv8
              go_wp2_with fail
              refine hK.out _ _ ?_ (fun hHeld => ?_)
              · try dsimp only
                exact KP.out _ k8
              clear hK K
              try simp only [Act.put, List.getElem_toArray, List.getElem_cons_succ, List.getElem_cons_zero, List.setIfInBounds_toArray, List.set_cons_zero, List.set_cons_succ]
              refine wpAnyH_take (i := 9) (v := ?v16) rfl (by kernel_rfl) (by kernel_rfl) (by kernel_rfl) (fun _ _ _ h => h) (Or.inl ⟨by rfl, ?hy16⟩) (by assumption) ?rest16
              case hy16 => (intro w hSw; (try dsimp only at hSw); go_simp; try with_reducible rfl)
              try simp only [Act.put, List.getElem_toArray, List.getElem_cons_succ, List.getElem_cons_zero, List.setIfInBounds_toArray, List.set_cons_zero, List.set_cons_succ]
              refine wpAnyH_take (i := 10) (v := ?v17) rfl (by kernel_rfl) (by kernel_rfl) (by kernel_rfl) (fun _ _ _ h => h) (Or.inl ⟨by rfl, ?hy17⟩) (by assumption) ?rest17
              case hy17 => (intro w hSw; (try dsimp only at hSw); go_simp; try with_reducible rfl)
              try simp only [Act.put, List.getElem_toArray, List.getElem_cons_succ, List.getElem_cons_zero, List.setIfInBounds_toArray, List.set_cons_zero, List.set_cons_succ]
              refine wpAnyH_take (i := 11) (v := ?v18) rfl (by kernel_rfl) (by kernel_rfl) (by kernel_rfl) (fun _ _ _ h => h) (Or.inl ⟨by rfl, ?hy18⟩) (by assumption) ?rest18
              case hy18 => (intro w hSw; (try dsimp only at hSw); go_simp; try with_reducible rfl)
              try simp only [Act.put, List.getElem_toArray, List.getElem_cons_succ, List.getElem_cons_zero, List.setIfInBounds_toArray, List.set_cons_zero, List.set_cons_succ]
              refine wpAnyH_take (i := 12) (v := ?v19) rfl (by kernel_rfl) (by kernel_rfl) (by kernel_rfl) (fun _ _ _ h => h) (Or.inl ⟨by rfl, ?hy19⟩) (by assumption) ?rest19
              case hy19 => (intro w hSw; (try dsimp only at hSw); go_simp; try with_reducible rfl)
              try simp only [Act.put, List.getElem_toArray, List.getElem_cons_succ, List.getElem_cons_zero, List.setIfInBounds_toArray, List.set_cons_zero, List.set_cons_succ]
              refine wpAnyH_ready (rs := [13]) (by kernel_rfl) (by simp) ?_
              refine AllReadyH.cons rfl (fun K hK => ?_) ?_
              · go_simp
                refine hK.out _ _ ?_ (fun hHeld => ?_)
                · try dsimp only
                  exact KP.out _ (((Only.refl gL _).setCell _ _).blk k8 HGA.out)
                clear hK K
                try simp only [Act.put, List.getElem_toArray, List.getElem_cons_succ, List.getElem_cons_zero, List.setIfInBounds_toArray, List.set_cons_zero, List.set_cons_succ]
                refine wpAnyH_take (i := 14) (v := ?v20) rfl (by kernel_rfl) (by kernel_rfl) (by kernel_rfl) (fun _ _ _ h => h) (Or.inl ⟨by rfl, ?hy20⟩) (by assumption) ?rest20
                case hy20 => (intro w hSw; (try dsimp only at hSw); go_simp; try with_reducible rfl)
                try simp only [Act.put, List.getElem_toArray, List.getElem_cons_succ, List.getElem_cons_zero, List.setIfInBounds_toArray, List.set_cons_zero, List.set_cons_succ]
                refine wpAnyH_done (by kernel_rfl) ?_ _
                refine NoPanic.normal ?_
                have hst := h8.store hx8
                rw [upd_same, upd_same] at hst
                have V9 := Lib.hid hst
                clear hst
                have K9 := Lib.hid (show Blk (w8.setCell ⟨gL, x, none⟩ (.slice A8 n8 c8)) ga 31 #[.bool false, .int .i64 (x : Int), .int .i64 pc, .int .i64 pg] from ((Only.refl gL w8).setCell x _).blk k8 HGA.out)
                clear h8 hb8 l1 l2 k8 l0 hHeld a0 a1 a2 a3
                have a1 := K9.out.cell 1
                have a2 := K9.out.cell 2
                have a3 := K9.out.cell 3
                have CA := Lib.hid (V9.out.post (fun Z k1 k2 => sw_release k1 k2 (x : Int) ⟨pc, pg⟩ WP.out))
                rw [in_in hx8, rel_in hx8, ← HBB.out] at CA
                have e0 : (BB != BB) = false := by simp
                go_simp
                go_wp2_with fail
                refine CA.out.mono ?_
                rintro e w9 ⟨rfl, h9, -⟩
                have VA := Lib.hid h9
                clear h9 a1 a2 a3
                go_wp2_with fail
                go_roundg (N1 - (i + 1))
                case measure => omega
                case rel => exact ⟨i + 1, by omega, by go_num, swI_drop VA.out hx8 HE.out HS.out.out⟩
              exact AllReadyH.nil
            exact AllReadyH.nil
          exact AllReadyH.nil
      · have HNS := Lib.hid (show ¬ isSlot an from z0)
        have hor : (decide (0 ≤ an) = false ∧ an < 0) ∨ (decide (0 ≤ an) = true ∧ decide (an < 32) = false ∧ 0 ≤ an ∧ 32 ≤ an) := by
          by_cases c : 0 ≤ an
          · exact .inr ⟨decide_eq_true c, decide_eq_false (by omega), c, by omega⟩
          · exact .inl ⟨decide_eq_false c, by omega⟩
        clear z0
        cases hd with
        | true =>
          have CA := Lib.hid (HV.out.post (fun Z k1 k2 => sw_hold k1 k2 an ⟨pc, pg⟩ WP.out (by have := HLB.out an.toNat; omega)))
          rw [decide_eq_false HNS.out, hold_outS _ _ HNS.out] at CA
          rcases hor with ⟨u0, u1⟩ | ⟨u0, u1, u2, u3⟩
          all_goals
            go_wp2_with fail
            refine CA.out.mono ?_
            rintro e w7 ⟨rfl, h7, -⟩
            have V7 := Lib.hid h7.drop
            clear h7 a0 a1 a2 a3
            go_wp2_with fail
            go_roundg (N1 - (i + 1))
            case measure => omega
            case rel => exact ⟨i + 1, by omega, by go_num, _, _, _, V7.out, HS.out, HE.out⟩
        | false =>
          have CA := Lib.hid (HV.out.post (fun Z k1 k2 => sw_release k1 k2 an ⟨pc, pg⟩ WP.out))
          rw [in_outS _ _ HNS.out, rel_outS _ _ HNS.out] at CA
          rcases hor with ⟨u0, u1⟩ | ⟨u0, u1, u2, u3⟩
          all_goals
            go_wp2_with fail
            refine CA.out.mono ?_
            rintro e w7 ⟨rfl, h7, -⟩
            have V7 := Lib.hid h7.drop
            clear h7 a0 a1 a2 a3
            go_wp2_with fail
            go_roundg (N1 - (i + 1))
            case measure => omega
            case rel => exact ⟨i + 1, by omega, by go_num, _, _, _, V7.out, HS.out, HE.out⟩
    · obtain rfl : i = N1 := by omega
      have t4 : decide ((i : Int) < (i : Int)) = false := decide_eq_false (by omega)
      have t5 : ¬ ((i : Int) < (i : Int)) := by omega
      clear HZ1 HN1 HPM
      obtain ⟨W9, rfl⟩ : ∃ W9, W9 = wr := ⟨_, rfl⟩
      obtain ⟨b, ls, vs, hV, hS, hE⟩ := I.out
      have V := Lib.hid hV
      have HS := Lib.hid hS
      have HE := Lib.hid hE
      have HLE := Lib.hid (show ∀ f, (b f).length ≤ 100 from fun f => Nat.le_trans (hS.le hV.srt f) HPL.out)
      obtain ⟨iI, hiI, hiz0, hiz1, hiz2⟩ := info_parts Try.infoInt16
      have HII := Lib.hid hiI
      have HI0 := Lib.hid hiz0
      have HI1 := Lib.hid hiz1
      have HI2 := Lib.hid hiz2
      clear hV hS hE hiI hiz0 hiz1 hiz2
      go_wp2_with fail
      go_loopg [11, 12, 13, 14] 32 (fun gg s11 s12 s13 s14 wx => ∃ f : Nat, f + gg = 32 ∧ s14 = .int .i64 (f : Int) ∧ s11 = .int .i64 ((usedS b f : Nat) : Int) ∧ s12 = .int .i64 (firV (firstS b f)) ∧ RowAt wx W9.heap.size 1 s13 (slotsS b proc f).length ((slotsS b proc f).map (fun z => Value.int .i64 z)) ∧ Below W9.heap.size W9 wx)
      case atStart => exact ⟨0, by omega, rfl, rfl, rfl, RowAt.nil_ _ _ _, Below.refl _ _⟩
      case round =>
        obtain ⟨f, hf, rfl, rfl, rfl, hrow, hb⟩ := hrel
        have HB := Lib.hid hb
        have HROW := Lib.hid hrow
        obtain ⟨A5, c5, rfl, hN5⟩ := hrow.len
        obtain ⟨G2, rfl⟩ : ∃ G2, G2 = gk := ⟨_, rfl⟩
        obtain ⟨us, hus⟩ : ∃ us, us = usedS b f := ⟨_, rfl⟩
        have hus1 : us ≤ f := hus ▸ usedS_le b f
        rw [← hus]
        have HUS := Lib.hid hus
        obtain ⟨fi, hfi⟩ : ∃ fi, fi = firstS b f := ⟨_, rfl⟩
        rw [← hfi]
        have HFI := Lib.hid hfi
        obtain ⟨sl, hsl⟩ : ∃ sl, sl = slotsS b proc f := ⟨_, rfl⟩
        have hsl1 : sl.length ≤ f := hsl ▸ slotsS_le b proc f
        rw [← hsl] at HROW hN5 ⊢
        have HSL := Lib.hid hsl
        obtain ⟨nl, hnl⟩ : ∃ nl, nl = sl.length := ⟨_, rfl⟩
        rw [← hnl] at HROW hsl1 hN5 ⊢
        have HNL := Lib.hid hnl
        clear hrow hb hus hfi hsl hnl
        by_cases hf8 : f < 32
        · have v1 : decide ((f : Int) < 32) = true := decide_eq_true (by omega)
          have v2 : (0 : Int) ≤ (f : Int) := by omega
          have v3 : (f : Int) < 32 := by omega
          have VW := Lib.hid (V.out.fresh HB.out)
          have VD := Lib.hid (VW.out.fresh (Below.refl wr.heap.size wr).drew)
          have HEF := Lib.hid (HE.out f hf8)
          have BR := Lib.hid (Below.refl wr.heap.size wr).drew
          have CO := Lib.hid (VD.out.of hf8)
          have CP := Lib.hid (fun (W : World) (v' : Value) (h1 : Below wr.heap.size wr W) (h2 : Pls W W.heap.size v' (b f)) => (VW.out.fresh h1).places hf8 (by rw [HEF.out]; exact h2))
          have KC := Lib.hid (fun (W : World) (h1 : Below wr.heap.size wr W) => (VW.out.fresh h1).cell hf8)
          obtain ⟨A6, n6, c6, hv6, -⟩ := VW.out.pls (f := f) (by omega)
          rw [hv6] at CP KC
          have HV6 := Lib.hid hv6
          clear hv6
          go_wp2_with fail
          go_region_held3 (fun w' => w'.cell? ⟨gL, f, none⟩ = some (.slice A6 n6 c6))
            (first
              | assumption
              | exact KC.out _ BR.out
              | (with_reducible exact KC.out _ (by assumption)))
            (first
              | (go_at_call 15; refine CO.out.mono ?_; rintro e w7 ⟨v7, rfl, h7, hb7⟩; have hb8 := BR.out.trans (hb7.mono (Nat.le_refl _)))
              | (go_at_call 14; refine (CP.out _ _ hb8 h7).mono ?_; rintro e w8 ⟨rfl, hb9⟩; have hba := hb8.trans (hb9.mono hb8.size)))
          have HBA := Lib.hid (HB.out.trans (hba.mono HB.out.size))
          have HR8 := Lib.hid (HROW.out.fresh hba)
          clear h7 hb7 hb8 hb9 hba CO CP KC VD
          obtain ⟨W5, rfl⟩ : ∃ W5, W5 = w8 := ⟨_, rfl⟩
          have V8 := Lib.hid (V.out.fresh HBA.out)
          obtain ⟨A6', n6', c6', hv6, hn6, _, _, _, hce6⟩ := V8.out.pls (f := f) (by omega)
          rw [HV6.out] at hv6
          injection hv6 with hv7 hv8 hv9
          subst hv7 hv8 hv9
          rw [HEF.out] at hn6
          have HN6 := Lib.hid hn6
          have HCE := Lib.hid hce6
          have lf := V8.out.cell hf8
          rw [HV6.out] at lf
          have hn80 : n6 ≤ 100 := by have := HLE.out f; omega
          have hpc : ((0 < n6 ∧ b f ≠ []) ∧ usedS b (f + 1) = us + 1 ∧ firstS b (f + 1) = fi) ∨ ((n6 = 0 ∧ b f = []) ∧ usedS b (f + 1) = us ∧ (fi = none ∧ firstS b (f + 1) = some f ∨ ∃ q, fi = some q ∧ firstS b (f + 1) = some q)) := by
            by_cases c : b f = []
            · refine .inr ⟨⟨by rw [← hn6, c]; rfl, c⟩, by rw [usedS_succ, HUS.out, if_neg (by simp [c])]; rfl, ?_⟩
              cases h : fi with
              | none => exact .inl ⟨rfl, firstS_new (HFI.out ▸ h) c⟩
              | some q => exact .inr ⟨q, rfl, firstS_some (HFI.out ▸ h)⟩
            · refine .inl ⟨⟨by rw [← hn6]; exact List.length_pos_iff.2 c, c⟩, by rw [usedS_succ, HUS.out, if_pos c], ?_⟩
              cases h : fi with
              | none => exact firstS_not (HFI.out ▸ h) c
              | some q => exact firstS_some (HFI.out ▸ h)
          have LF := Lib.hid lf
          have HQ3 := Lib.hid (show W9.heap.size ≤ (W5.alloc (.cells #[Value.int .i64 (f : Int)] 3)).heap.size from by have := HBA.out.size; simp; omega)
          have RA := Lib.hid (show RowAt (W5.alloc (.cells #[Value.int .i64 (f : Int)] 3)) W9.heap.size 1 (.slice A5 nl c5) nl (sl.map (fun z => Value.int .i64 z)) from HR8.out.fresh (belAl (Below.refl _ _) _))
          have HONE := Lib.hid (show ∀ u ∈ [Value.int .i64 (f : Int)], u.oneCell' = true from fun u hu => by rw [List.mem_singleton.1 hu]; rfl)
          have HQ1 := Lib.hid (show nl + 1 ≤ maxLen from by unfold maxLen; omega)
          have HQ2 := Lib.hid (show (nl + 1) * 8 ≤ 140737488355328 from by omega)
          have CN := Lib.hid (cells_new W5 3 [Value.int .i64 (f : Int)])
          have HNX := Lib.hid (show slotsS b proc (f + 1) = sl ++ if procB (b f) proc then [(f : Int)] else [] from by rw [slotsS_succ, HSL.out])
          clear hn6 hce6 lf VW
          rcases hpc with ⟨⟨p1, p2⟩, p3, p4⟩ | ⟨⟨p1, p2⟩, p3, ⟨p4, p5⟩ | ⟨q, p4, p5⟩⟩
          · have e1 : decide ((0 : Int) < (n6 : Int)) = true := decide_eq_true (by omega)
            have HU := Lib.hid (show usedS b (f + 1) = us + 1 from p3)
            have HF := Lib.hid p4
            clear p2 p3 p4
            have lf := LF.out
            go_wp2_with fail
            go_loopg [15, 16] n6 (fun gg s15 s16 wx => ∃ k : Nat, k + gg = n6 ∧ s16 = .int .i64 (k : Int) ∧ s15 = .bool (((b f).take k).any (fun q => decide (q.c = proc))) ∧ wx = W5)
            case atStart => exact ⟨0, by omega, rfl, rfl, rfl⟩
            case round =>
              obtain ⟨k, hk, rfl, rfl, rfl⟩ := hrel
              by_cases hkn : k < n6
              · have w1 : decide ((k : Int) < (n6 : Int)) = true := decide_eq_true (by omega)
                have w2 : (k : Int) < (n6 : Int) := by omega
                have w3 : (0 : Int) ≤ (k : Int) := by omega
                obtain ⟨bb, oo, rfl, hbb, hce⟩ := HCE.out (by omega)
                obtain ⟨d0, d1⟩ := hce k hkn
                obtain ⟨⟨e1, e2⟩, hee⟩ : ∃ q, q = (ls f).getD k pl0 := ⟨_, rfl⟩
                rw [← hee] at d0 d1
                have hge : (b f)[k]? = some ⟨e1, e2⟩ := by
                  rw [HE.out f hf8] at hee
                  rw [List.getElem?_eq_getElem (by have := HN6.out; omega), hee, List.getD_eq_getElem?_getD, List.getElem?_eq_getElem (by have := HN6.out; omega)]
                  rfl
                have HTK := Lib.hid (show ((b f).take (k + 1)).any (fun q => decide (q.c = proc)) = (((b f).take k).any (fun q => decide (q.c = proc)) || decide (e1 = proc)) from by
                  rw [List.take_add_one, hge, List.any_append]
                  simp)
                clear hce hee hge hbb d1
                obtain ⟨B, hB⟩ : ∃ B, B = ((b f).take k).any (fun q => decide (q.c = proc)) := ⟨_, rfl⟩
                rw [← hB] at HTK ⊢
                clear hB
                cases B
                · by_cases hp : e1 = proc
                  · subst hp
                    go_wp2_with fail
                    go_roundg (n6 - (k + 1))
                    case measure => omega
                    case rel => exact ⟨k + 1, by omega, by go_num, by rw [HTK.out]; simp, rfl⟩
                  · have w4 : (e1 == proc) = false := by simp [hp]
                    go_wp2_with fail
                    go_roundg (n6 - (k + 1))
                    case measure => omega
                    case rel => exact ⟨k + 1, by omega, by go_num, by rw [HTK.out]; simp [hp], rfl⟩
                · go_wp2_with fail
                  go_roundg (n6 - (k + 1))
                  case measure => omega
                  case rel => exact ⟨k + 1, by omega, by go_num, by rw [HTK.out]; simp, rfl⟩
              · obtain rfl : k = n6 := by omega
                have w1 : decide ((k : Int) < (k : Int)) = false := decide_eq_false (by omega)
                rw [List.take_of_length_le (by rw [HN6.out]; exact Nat.le_refl _)]
                obtain ⟨T, hT⟩ : ∃ T, T = (b f).any (fun q => decide (q.c = proc)) := ⟨_, rfl⟩
                rw [← hT]
                have HT := Lib.hid (show procB (b f) proc = T from hT.symm)
                clear hT
                cases T
                · go_wp2_with fail
                  go_roundg (32 - (f + 1))
                  case measure => omega
                  case rel => exact ⟨f + 1, by omega, by go_num, by first | (rw [HU.out]; done) | (rw [HU.out]; first | rfl | go_num), by first | (rw [HF.out]; done) | (rw [HF.out]; rfl), by rw [HNX.out, HT.out, if_neg (by decide), List.append_nil, ← HNL.out]; exact HR8.out, HBA.out⟩
                · go_wp2_with (refine wpList_append_at rfl (.tmp 128) (.tmp 130) 36 rfl W9.heap.size 3 iI (.int .i64 0) 1 8 Try.underlying36 HII.out HI0.out HI1.out HI2.out rfl (by decide) _ _ _ rfl RA.out ⟨wr.heap.size, 0, none⟩ 1 [Value.int .i64 (f : Int)] rfl rfl CN.out HONE.out HQ1.out HQ2.out HQ3.out ?_; intro v9 w9 hr9 hg9 ho9; have R9 := Lib.hid hr9; have G9 := Lib.hid hg9; clear hr9 hg9 ho9)
                  have HB4' := Lib.hid ((HBA.out.alloc HBA.out.size (.cells #[Value.int .i64 (f : Int)] 3)).grown G9.out HQ3.out (fun j hj => (RA.out.lt j hj).1))
                  go_roundg (32 - (f + 1))
                  case measure => omega
                  case rel =>
                    refine ⟨f + 1, by omega, by go_num, by first | (rw [HU.out]; done) | (rw [HU.out]; first | rfl | go_num), by first | (rw [HF.out]; done) | (rw [HF.out]; rfl), ?_, HB4'.out⟩
                    rw [HNX.out, HT.out, if_pos rfl, List.length_append, List.map_append, ← HNL.out]
                    exact R9.out
          · subst p4
            rw [show firV none = -1 from rfl]
            have HU := Lib.hid p3
            have HF := Lib.hid p5
            have e1 : decide ((0 : Int) < (n6 : Int)) = false := decide_eq_false (by omega)
            have p1' : ¬ 0 < n6 := by omega
            clear p1 p2 p3 p5
            have lf := LF.out
            go_wp2_with fail
            go_loopg [15, 16] n6 (fun gg s15 s16 wx => ∃ k : Nat, k + gg = n6 ∧ s16 = .int .i64 (k : Int) ∧ s15 = .bool (((b f).take k).any (fun q => decide (q.c = proc))) ∧ wx = W5)
            case atStart => exact ⟨0, by omega, rfl, rfl, rfl⟩
            case round =>
              obtain ⟨k, hk, rfl, rfl, rfl⟩ := hrel
              by_cases hkn : k < n6
              · exact absurd hkn (by omega)
              · obtain rfl : k = n6 := by omega
                have w1 : decide ((k : Int) < (k : Int)) = false := decide_eq_false (by omega)
                rw [List.take_of_length_le (by rw [HN6.out]; exact Nat.le_refl _)]
                obtain ⟨T, hT⟩ : ∃ T, T = (b f).any (fun q => decide (q.c = proc)) := ⟨_, rfl⟩
                rw [← hT]
                have HT := Lib.hid (show procB (b f) proc = T from hT.symm)
                clear hT
                cases T
                · go_wp2_with fail
                  go_roundg (32 - (f + 1))
                  case measure => omega
                  case rel => exact ⟨f + 1, by omega, by go_num, by first | (rw [HU.out]; done) | (rw [HU.out]; first | rfl | go_num), by first | (rw [HF.out]; done) | (rw [HF.out]; rfl), by rw [HNX.out, HT.out, if_neg (by decide), List.append_nil, ← HNL.out]; exact HR8.out, HBA.out⟩
                · go_wp2_with (refine wpList_append_at rfl (.tmp 128) (.tmp 130) 36 rfl W9.heap.size 3 iI (.int .i64 0) 1 8 Try.underlying36 HII.out HI0.out HI1.out HI2.out rfl (by decide) _ _ _ rfl RA.out ⟨wr.heap.size, 0, none⟩ 1 [Value.int .i64 (f : Int)] rfl rfl CN.out HONE.out HQ1.out HQ2.out HQ3.out ?_; intro v9 w9 hr9 hg9 ho9; have R9 := Lib.hid hr9; have G9 := Lib.hid hg9; clear hr9 hg9 ho9)
                  have HB4' := Lib.hid ((HBA.out.alloc HBA.out.size (.cells #[Value.int .i64 (f : Int)] 3)).grown G9.out HQ3.out (fun j hj => (RA.out.lt j hj).1))
                  go_roundg (32 - (f + 1))
                  case measure => omega
                  case rel =>
                    refine ⟨f + 1, by omega, by go_num, by first | (rw [HU.out]; done) | (rw [HU.out]; first | rfl | go_num), by first | (rw [HF.out]; done) | (rw [HF.out]; rfl), ?_, HB4'.out⟩
                    rw [HNX.out, HT.out, if_pos rfl, List.length_append, List.map_append, ← HNL.out]
                    exact R9.out
          · subst p4
            rw [show firV (some q) = (q : Int) from rfl]
            have e2 : decide ((q : Int) < 0) = false := decide_eq_false (by omega)
            have HU := Lib.hid p3
            have HF := Lib.hid p5
            have e1 : decide ((0 : Int) < (n6 : Int)) = false := decide_eq_false (by omega)
            have p1' : ¬ 0 < n6 := by omega
            clear p1 p2 p3 p5
            have lf := LF.out
            go_wp2_with fail
            go_loopg [15, 16] n6 (fun gg s15 s16 wx => ∃ k : Nat, k + gg = n6 ∧ s16 = .int .i64 (k : Int) ∧ s15 = .bool (((b f).take k).any (fun q => decide (q.c = proc))) ∧ wx = W5)
            case atStart => exact ⟨0, by omega, rfl, rfl, rfl⟩
            case round =>
              obtain ⟨k, hk, rfl, rfl, rfl⟩ := hrel
              by_cases hkn : k < n6
              · exact absurd hkn (by omega)
              · obtain rfl : k = n6 := by omega
                have w1 : decide ((k : Int) < (k : Int)) = false := decide_eq_false (by omega)
                rw [List.take_of_length_le (by rw [HN6.out]; exact Nat.le_refl _)]
                obtain ⟨T, hT⟩ : ∃ T, T = (b f).any (fun q => decide (q.c = proc)) := ⟨_, rfl⟩
                rw [← hT]
                have HT := Lib.hid (show procB (b f) proc = T from hT.symm)
                clear hT
                cases T
                · go_wp2_with fail
                  go_roundg (32 - (f + 1))
                  case measure => omega
                  case rel => exact ⟨f + 1, by omega, by go_num, by first | (rw [HU.out]; done) | (rw [HU.out]; first | rfl | go_num), by first | (rw [HF.out]; done) | (rw [HF.out]; rfl), by rw [HNX.out, HT.out, if_neg (by decide), List.append_nil, ← HNL.out]; exact HR8.out, HBA.out⟩
                · go_wp2_with (refine wpList_append_at rfl (.tmp 128) (.tmp 130) 36 rfl W9.heap.size 3 iI (.int .i64 0) 1 8 Try.underlying36 HII.out HI0.out HI1.out HI2.out rfl (by decide) _ _ _ rfl RA.out ⟨wr.heap.size, 0, none⟩ 1 [Value.int .i64 (f : Int)] rfl rfl CN.out HONE.out HQ1.out HQ2.out HQ3.out ?_; intro v9 w9 hr9 hg9 ho9; have R9 := Lib.hid hr9; have G9 := Lib.hid hg9; clear hr9 hg9 ho9)
                  have HB4' := Lib.hid ((HBA.out.alloc HBA.out.size (.cells #[Value.int .i64 (f : Int)] 3)).grown G9.out HQ3.out (fun j hj => (RA.out.lt j hj).1))
                  go_roundg (32 - (f + 1))
                  case measure => omega
                  case rel =>
                    refine ⟨f + 1, by omega, by go_num, by first | (rw [HU.out]; done) | (rw [HU.out]; first | rfl | go_num), by first | (rw [HF.out]; done) | (rw [HF.out]; rfl), ?_, HB4'.out⟩
                    rw [HNX.out, HT.out, if_pos rfl, List.length_append, List.map_append, ← HNL.out]
                    exact R9.out
        · obtain rfl : f = 32 := by omega
          have v1 : decide (((32 : Nat) : Int) < 32) = false := rfl
          have VW := Lib.hid (V.out.fresh HB.out)
          have HTI := Lib.hid (show TakeIs b fi from HFI.out ▸ firstS_is b)
          have HITS := Lib.hid (show Its wr wr.heap.size (.slice A5 nl c5) sl from RowAt.its (by rw [← HNL.out]; exact HROW.out))
          have CT := Lib.hid (VW.out.take HTI.out)
          cases fi with
          | none =>
            rw [show takeV none = .tuple #[.int .i64 0, .bool false] from rfl] at CT
            rw [show firV none = -1 from rfl]
            go_wp2_with fail
            refine CT.out.mono ?_
            rintro e wt ⟨rfl, ha⟩
            have VT := Lib.hid (VW.out.fresh ha)
            have IT := Lib.hid ((HITS.out.below ha).more ha.size)
            clear ha
            go_wp2_with fail
            refine (swpAnswers_any _).mono ?_
            rintro e wa ⟨rfl, ha⟩
            have VA := Lib.hid (VT.out.fresh ha)
            have IA := Lib.hid ((IT.out.below ha).more ha.size)
            have CU := Lib.hid VA.out.used
            rw [← HUS.out] at CU
            clear ha
            go_wp2_with fail
            refine CU.out.mono ?_
            rintro e wu ⟨rfl, ha⟩
            have VU := Lib.hid (VA.out.fresh ha)
            have IU := Lib.hid ((IA.out.below ha).more ha.size)
            have CS := Lib.hid (VU.out.slots proc)
            rw [← HSL.out] at CS
            have e5 : ((us : Int) == (us : Int)) = true := by simp
            clear ha
            go_wp2_with fail
            refine CS.out.mono ?_
            rintro e wb ⟨vb, rfl, h1, hb⟩
            have VB := Lib.hid (VU.out.fresh hb)
            have CI := Lib.hid (show Calls Try.prog 18 #[vb, .slice A5 nl c5] wb fun e w' => e = .returned (.bool true) ∧ Below wb.heap.size wb w' from (ints_any vb (.slice A5 nl c5) _ _ _ _ wb h1 (IU.out.below hb)).mono fun e w' ⟨he, hd⟩ => ⟨by rw [he, decide_eq_true rfl], drew_below hd⟩)
            clear hb h1
            go_wp2_with fail
            refine CI.out.mono ?_
            rintro e wc ⟨rfl, hd⟩
            have VC := Lib.hid (VB.out.fresh hd)
            clear hd
            go_wp2
            go_ret
            exact ⟨rfl, VC.out.bel⟩
          | some q =>
            rw [show takeV (some q) = .tuple #[.int .i64 (q : Int), .bool true] from rfl] at CT
            rw [show firV (some q) = (q : Int) from rfl]
            have e2 : decide ((0 : Int) ≤ (q : Int)) = true := decide_eq_true (by omega)
            have e3 : ((q : Int) == (q : Int)) = true := by simp
            go_wp2_with fail
            refine CT.out.mono ?_
            rintro e wt ⟨rfl, ha⟩
            have VT := Lib.hid (VW.out.fresh ha)
            have IT := Lib.hid ((HITS.out.below ha).more ha.size)
            clear ha
            go_wp2_with fail
            refine (swpAnswers_any _).mono ?_
            rintro e wa ⟨rfl, ha⟩
            have VA := Lib.hid (VT.out.fresh ha)
            have IA := Lib.hid ((IT.out.below ha).more ha.size)
            have CU := Lib.hid VA.out.used
            rw [← HUS.out] at CU
            clear ha
            go_wp2_with fail
            refine CU.out.mono ?_
            rintro e wu ⟨rfl, ha⟩
            have VU := Lib.hid (VA.out.fresh ha)
            have IU := Lib.hid ((IA.out.below ha).more ha.size)
            have CS := Lib.hid (VU.out.slots proc)
            rw [← HSL.out] at CS
            have e5 : ((us : Int) == (us : Int)) = true := by simp
            clear ha
            go_wp2_with fail
            refine CS.out.mono ?_
            rintro e wb ⟨vb, rfl, h1, hb⟩
            have VB := Lib.hid (VU.out.fresh hb)
            have CI := Lib.hid (show Calls Try.prog 18 #[vb, .slice A5 nl c5] wb fun e w' => e = .returned (.bool true) ∧ Below wb.heap.size wb w' from (ints_any vb (.slice A5 nl c5) _ _ _ _ wb h1 (IU.out.below hb)).mono fun e w' ⟨he, hd⟩ => ⟨by rw [he, decide_eq_true rfl], drew_below hd⟩)
            clear hb h1
            go_wp2_with fail
            refine CI.out.mono ?_
            rintro e wc ⟨rfl, hd⟩
            have VC := Lib.hid (VB.out.fresh hd)
            clear hd
            go_wp2
            go_ret
            exact ⟨rfl, VC.out.bel⟩
end Go.Proofs.Ythfcmfhmaokioaa

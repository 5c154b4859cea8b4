/-
  BackPlays answers true for any acts and any process.
  Conditions: the acts are read in memory; the process is an int.
-/
import Derived.Test.YtgbkpcmgfjdhdaaBkQ
import Derived.Deep.CutRange
import Derived.Deep.CutBlock
import Derived.StillTailTactics
namespace Go.Proofs.Ytgbkpcmgfjdhdaa
open Go.RowKit
set_option linter.unusedVariables false

set_option maxRecDepth 20000 in
set_option maxHeartbeats 1000000 in
theorem backPlays_edge (A : Option Addr) (l c : Nat) (proc : Int) (w : World) (h : 80 < l) :
    Calls Try.prog 3 #[.slice A l c, .int .i64 proc] w fun e w' => e = .returned (.bool true) ∧ Below w.heap.size w w' := by
  have t1 : decide ((80 : Int) < (l : Int)) = true := decide_eq_true (by omega)
  go_enter Try.func3, Try.ntmps3
  go_wp2_with fail
  refine (bkAnswers_any _).mono ?_
  rintro e w1 ⟨rfl, hb⟩
  go_wp2
  go_ret
  exact ⟨rfl, hb⟩
theorem zero_arrP : ∃ Z : Array Value, Z = arrP (fun _ => .slice none 0 0) ∧ ∀ w, (zeroValue 27).run Try.prog w = .ok (.agg Z) w := ⟨_, rfl, fun w => by kernel_rfl⟩
/-- The frames below k that places of proc have. -/
def hasB (b : BS) (proc : Int) (f : Nat) : Bool := (b (f : Int)).any (fun q => decide (q.c = proc))
def frmB (b : BS) (proc : Int) (k : Nat) : List Nat := (List.range k).filter (fun f => hasB b proc f)
theorem frmB_yes {b : BS} {proc : Int} {k : Nat} (h : hasB b proc k = true) : frmB b proc (k + 1) = frmB b proc k ++ [k] := by
  unfold frmB
  rw [List.range_succ, List.filter_append]
  congr 1
  exact List.filter_cons_of_pos h
theorem frmB_no {b : BS} {proc : Int} {k : Nat} (h : hasB b proc k = false) : frmB b proc (k + 1) = frmB b proc k := by
  unfold frmB
  rw [List.range_succ, List.filter_append]
  have : List.filter (fun f => hasB b proc f) [k] = [] := List.filter_cons_of_neg (by rw [h]; decide)
  rw [this, List.append_nil]
theorem frmB_le (b : BS) (proc : Int) (k : Nat) : (frmB b proc k).length ≤ k := by
  have := List.length_filter_le (fun f => hasB b proc f) (List.range k)
  rwa [List.length_range] at this
def asN (l : List Nat) : List Int := l.map (fun (x : Nat) => (x : Int))
theorem asN_length (l : List Nat) : (asN l).length = l.length := by unfold asN; exact List.length_map _
theorem int_ext {l m : List Int} (h : l.Pairwise (fun a b => a < b)) (k : m.Pairwise (fun a b => a < b)) (he : ∀ q, q ∈ l ↔ q ∈ m) : l = m := by
  induction l generalizing m with
  | nil =>
    cases m with
    | nil => rfl
    | cons y m => exact absurd ((he y).2 List.mem_cons_self) List.not_mem_nil
  | cons x l ih =>
    cases m with
    | nil => exact absurd ((he x).1 List.mem_cons_self) List.not_mem_nil
    | cons y m =>
      obtain ⟨h1, h2⟩ := List.pairwise_cons.1 h
      obtain ⟨k1, k2⟩ := List.pairwise_cons.1 k
      have exy : x = y := by
        rcases List.mem_cons.1 ((he x).1 List.mem_cons_self) with e | e
        · exact e
        · rcases List.mem_cons.1 ((he y).2 List.mem_cons_self) with e' | e'
          · exact e'.symm
          · have := h1 y e'
            have := k1 x e
            omega
      subst exy
      congr 1
      refine ih h2 k2 fun q => ?_
      constructor
      · intro hq
        rcases List.mem_cons.1 ((he q).1 (List.mem_cons_of_mem _ hq)) with e | e
        · have := h1 q hq
          omega
        · exact e
      · intro hq
        rcases List.mem_cons.1 ((he q).2 (List.mem_cons_of_mem _ hq)) with e | e
        · have := k1 q hq
          omega
        · exact e
theorem frmB_all {b : BS} {P : List Pl} {proc : Int} {l : List Int} (hS : SubB b P) (h1 : l.Pairwise (fun x y => x < y)) (h2 : ∀ f, f ∈ l ↔ ∃ p ∈ b f, p.c = proc) : l = asN (frmB b proc 8) := by
  refine int_ext h1 ?_ fun z => ?_
  · unfold asN frmB
    rw [List.pairwise_map]
    exact List.Pairwise.imp (fun {a c} (h : a < c) => by omega) (List.pairwise_lt_range.filter _)
  · rw [h2]
    unfold asN frmB
    rw [List.mem_map]
    constructor
    · rintro ⟨p, hp, hc⟩
      have hz : 0 ≤ z ∧ z ≤ 7 := by
        by_cases c : z < 0 ∨ 7 < z
        · rw [hS.2 z c] at hp
          exact absurd hp List.not_mem_nil
        · omega
      obtain ⟨n, rfl⟩ := Int.eq_ofNat_of_zero_le hz.1
      refine ⟨n, List.mem_filter.2 ⟨List.mem_range.2 (by omega), ?_⟩, rfl⟩
      unfold hasB
      exact List.any_eq_true.2 ⟨p, hp, decide_eq_true hc⟩
    · rintro ⟨n, hn, rfl⟩
      obtain ⟨_, h4⟩ := List.mem_filter.1 hn
      unfold hasB at h4
      obtain ⟨p, hp, hc⟩ := List.any_eq_true.1 h4
      exact ⟨p, hp, of_decide_eq_true hc⟩
theorem Try.infoInt13 : (Try.prog.info? 3).map (fun i => (i.zero, i.size, i.bytes)) = some (some (.int .i64 0), 1, 8) := by kernel_rfl
/-- What holds at each act. -/
def PlI (w : World) (gB gL : Nat) (P : List Pl) (W : World) : Prop := ∃ (b : BS) (ls : Nat → List Pl) (vs : Nat → Value), PlV w gB gL (fun _ => False) b ls vs W ∧ SubB b P ∧ ∀ f, f < 8 → ls f = b (f : Int)
theorem PlI.fresh {w W W' : World} {gB gL : Nat} {P : List Pl} (h : PlI w gB gL P W) (hb : Below W.heap.size W W') : PlI w gB gL P W' := by
  obtain ⟨b, ls, vs, h1, h2, h3⟩ := h
  exact ⟨b, ls, vs, h1.fresh hb, h2, h3⟩
theorem PlI.bel {w W : World} {gB gL : Nat} {P : List Pl} (h : PlI w gB gL P W) : Below w.heap.size w W := by
  obtain ⟨b, ls, vs, h1, h2, h3⟩ := h
  exact h1.bel
theorem plI_store {w W : World} {gB gL x : Nat} {P : List Pl} {X : Nat → Prop} {b : BS} {ls : Nat → List Pl} {vs : Nat → Value} {v : Value} {l : List Pl} (h : PlV w gB gL X (updB b (x : Int) l) (upd ls 8 l) (upd vs 8 v) W) (hx : x < 8) (hE : ∀ f, f < 8 → ls f = b (f : Int)) (hS : SubB (updB b (x : Int) l) P) : PlI w gB gL P (W.setCell ⟨gL, x, none⟩ v) := by
  have h1 := (h.store hx).drop
  rw [upd_same, upd_same] at h1
  refine ⟨_, _, _, h1, hS, fun f hf => ?_⟩
  by_cases c : f = x
  · subst c
    rw [upd_same, updB_same]
  · rw [upd_other _ _ _ c, upd_other _ _ _ (by omega), updB_other _ _ _ (by omega), hE f hf]
set_option maxRecDepth 20000 in
set_option maxHeartbeats 6400000 in
theorem backPlays_any (v : Value) (la : List Act13) (proc : Int) (w : World) (h1 : Acts13 w v la) (wc : W64 proc) (hl : la.length ≤ 80) :
    Calls Try.prog 3 #[v, .int .i64 proc] w fun e w' => e = .returned (.bool true) ∧ Below w.heap.size w w' := by
  obtain ⟨A1, N1, c1, rfl, hN1, hm1, hz1⟩ := h1
  have HZ1 := Lib.hid hz1
  have HN1 := Lib.hid hN1
  have WC := Lib.hid wc
  have hN8 : N1 ≤ 80 := by omega
  have t1 : decide ((80 : Int) < (N1 : Int)) = false := decide_eq_false (by omega)
  obtain ⟨P, hP⟩ : ∃ P, P = la.map Act13.p := ⟨_, rfl⟩
  have HPL := Lib.hid (show P.length ≤ 80 from by rw [hP, List.length_map]; exact hl)
  have HPM := Lib.hid (show ∀ (j : Nat) (x : Act13), la[j]? = some x → x.p ∈ P from fun j x h => by rw [hP]; exact List.mem_map.2 ⟨x, List.mem_of_getElem? h, rfl⟩)
  obtain ⟨Z, hZ, hzr⟩ := zero_arrP
  have HZZ := Lib.hid hZ
  clear hz1 hN1 wc hP hl hm1 hZ
  go_enter Try.func3, Try.ntmps3
  go_wp2_with fail
  refine (bk_new w (fun _ => False) (noZ w)).mono ?_
  rintro e w1 ⟨gB, rfl, h1⟩
  have H0 := Lib.hid (show PlI w gB w1.heap.size P (w1.alloc (.cells Z 27)) from by
    refine ⟨bs0, fun _ => [], fun _ => .slice none 0 0, ⟨fun k => k = w1.heap.size, BkT.widen h1 (belAl (Below.refl _ _) _) (fun k hk => .inr (by rw [hk]; exact Nat.le_refl _)), (fun k hk => by rw [hk]; simp), ⟨rfl, fun k hk => hk.elim⟩, h1.bel.size, by rw [HZZ.out]; exact Blk.new w1 _ _, fun f _ => ⟨Pls.nil_ _ _, ⟨_, _, _, rfl, .inl rfl⟩, (fun a n c e => by cases e), (fun a n c e => by cases e)⟩⟩, SubB.zero P, fun f _ => rfl⟩)
  clear h1
  go_wp2_with fail
  obtain ⟨gL, hgL⟩ : ∃ gL, gL = w1.heap.size := ⟨_, rfl⟩
  rw [← hgL] at H0 ⊢
  clear hgL hzr HZZ
  go_loopg [7] N1 (fun gg s7 wx => ∃ i : Nat, i + gg = N1 ∧ s7 = .int .i64 (i : Int) ∧ PlI w gB gL P wx)
  case atStart => exact ⟨0, by omega, rfl, H0.out⟩
  case round =>
    obtain ⟨i, hig, rfl, hI⟩ := hrel
    have I := Lib.hid hI
    clear hI H0
    obtain ⟨G, rfl⟩ : ∃ G, G = gk := ⟨_, rfl⟩
    by_cases hlt : i < N1
    · have t4 : decide ((i : Int) < (N1 : Int)) = true := decide_eq_true (by omega)
      have t5 : (i : Int) < (N1 : Int) := by omega
      have t6 : (0 : Int) ≤ (i : Int) := by omega
      obtain ⟨b1, o1, rfl, hpa⟩ := HZ1.out (by omega)
      obtain ⟨ac, hac⟩ : ∃ ac, la[i]? = some ac := ⟨_, List.getElem?_eq_getElem (by rw [HN1.out]; exact hlt)⟩
      obtain ⟨hbl, c0, c1', c2, c3, c4, hwp⟩ := hpa i ac hac
      have HIN := Lib.hid (HPM.out i ac hac)
      obtain ⟨wh, af, at_, ⟨pc, pg⟩⟩ := ac
      simp only at c0 c1' c2 c3 c4
      have WP := Lib.hid hwp
      have d0 : wr.cell? ⟨b1, o1 + i * 5, none⟩ = some (.int .i64 wh) := (I.out.bel.cell hbl).trans c0
      have d1 : wr.cell? ⟨b1, o1 + i * 5 + 1, none⟩ = some (.int .i64 af) := (I.out.bel.cell hbl).trans c1'
      have d2 : wr.cell? ⟨b1, o1 + i * 5 + 2, none⟩ = some (.int .i64 at_) := (I.out.bel.cell hbl).trans c2
      have d3 : wr.cell? ⟨b1, o1 + i * 5 + 3, none⟩ = some (.int .i64 pc) := (I.out.bel.cell hbl).trans c3
      have d4 : wr.cell? ⟨b1, o1 + i * 5 + 4, none⟩ = some (.int .i64 pg) := (I.out.bel.cell hbl).trans c4
      clear c0 c1' c2 c3 c4 hpa hac hbl hwp
      have hb6 := belAl (Below.refl wr.heap.size wr) (.cells #[.int .i64 wh, .int .i64 af, .int .i64 at_, .int .i64 pc, .int .i64 pg] 31)
      have I6 := Lib.hid (I.out.fresh hb6)
      have KA := Lib.hid (Blk.new wr 31 #[.int .i64 wh, .int .i64 af, .int .i64 at_, .int .i64 pc, .int .i64 pg])
      have hnL := I.out
      have hb6s := hb6
      go_upto_region 9 with fail
      obtain ⟨W6, hW6⟩ : ∃ W6, W6 = wr.alloc (.cells #[.int .i64 wh, .int .i64 af, .int .i64 at_, .int .i64 pc, .int .i64 pg] 31) := ⟨_, rfl⟩
      rw [← hW6] at I6 KA hb6s ⊢
      have hga : wr.heap.size < W6.heap.size := by rw [hW6]; simp
      obtain ⟨ga, hgA⟩ : ∃ ga, ga = wr.heap.size := ⟨_, rfl⟩
      have I7 := Lib.hid (show ∃ (b : BS) (ls : Nat → List Pl) (vs : Nat → Value), PlV w gB gL (fun k => k = ga) b ls vs W6 ∧ SubB b P ∧ ∀ f, f < 8 → ls f = b (f : Int) from by
        obtain ⟨b, ls, vs, k1, k2, k3⟩ := I.out
        exact ⟨b, ls, vs, by rw [hgA]; exact k1.mark hb6s (Nat.le_refl _) hga, k2, k3⟩)
      rw [← hgA] at KA ⊢
      have HGA := Lib.hid (show ga ≠ gL from by
        obtain ⟨b, ls, vs, ⟨Z, k1, k2, k3, k4, k5, k6⟩, _⟩ := I.out
        have := k5.lt
        omega)
      clear hb6s hga hgA hW6 hb6 hnL d0 d1 d2 d3 d4
      have a0 := KA.out.cell 0
      have a1 := KA.out.cell 1
      have a2 := KA.out.cell 2
      have a3 := KA.out.cell 3
      have a4 := KA.out.cell 4
      go_cut [50] from 23 to 160 (fun sx wx => (¬ (0 ≤ af ∧ af ≤ 7 ∧ 0 ≤ at_ ∧ at_ ≤ 7) ∧ sx = .bool true ∨ (0 ≤ af ∧ af ≤ 7 ∧ 0 ≤ at_ ∧ at_ ≤ 7) ∧ sx = .bool false) ∧ wx = W6)
      case first =>
        by_cases z0 : af < 0
        · have u0 : decide (af < 0) = true := decide_eq_true z0
          go_wp2_with fail
          go_meet
          exact ⟨.inl ⟨by omega, rfl⟩, rfl⟩
        · have u0 : decide (af < 0) = false := decide_eq_false z0
          by_cases z1 : 7 < af
          · have u1 : decide (7 < af) = true := decide_eq_true z1
            go_wp2_with fail
            go_meet
            exact ⟨.inl ⟨by omega, rfl⟩, rfl⟩
          · have u1 : decide (7 < af) = false := decide_eq_false z1
            by_cases z2 : at_ < 0
            · have u2 : decide (at_ < 0) = true := decide_eq_true z2
              go_wp2_with fail
              go_meet
              exact ⟨.inl ⟨by omega, rfl⟩, rfl⟩
            · have u2 : decide (at_ < 0) = false := decide_eq_false z2
              by_cases z3 : 7 < at_
              · have u3 : decide (7 < at_) = true := decide_eq_true z3
                go_wp2_with fail
                go_meet
                exact ⟨.inl ⟨by omega, rfl⟩, rfl⟩
              · have u3 : decide (7 < at_) = false := decide_eq_false z3
                go_wp2_with fail
                go_meet
                exact ⟨.inr ⟨by omega, rfl⟩, rfl⟩
      case rest =>
        obtain ⟨hor, rfl⟩ := hcut
        rcases hor with ⟨hbad, rfl⟩ | ⟨hok, rfl⟩
        · clear I7
          go_wp2_with fail
          go_roundg (N1 - (i + 1))
          case measure => omega
          case rel => exact ⟨i + 1, by omega, by go_num, I6.out⟩
        · clear I6 I
          obtain ⟨h7a, h7b, h7c, h7d⟩ := hok
          obtain ⟨x, rfl⟩ := Int.eq_ofNat_of_zero_le h7a
          obtain ⟨y, rfl⟩ := Int.eq_ofNat_of_zero_le h7c
          have hx8 : x < 8 := by omega
          have hy8 : y < 8 := by omega
          have x1 : (0 : Int) ≤ (x : Int) := by omega
          have x2 : (x : Int) < 8 := by omega
          have y1 : (0 : Int) ≤ (y : Int) := by omega
          have y2 : (y : Int) < 8 := by omega
          clear h7a h7b h7c h7d
          obtain ⟨wc9, rfl⟩ : ∃ wc9, wc9 = wc := ⟨_, rfl⟩
          go_upto_block 2 with fail
          go_cut [8] from 23 to 160 (fun s8 wx => s8 = .pointer (some ⟨ga, 0, none⟩) ∧ PlI w gB gL P wx)
          case first =>
            obtain ⟨b, ls, vs, hV, hS, hE⟩ := I7.out
            have HV := Lib.hid hV
            have HS := Lib.hid hS
            have HE := Lib.hid hE
            have HXE := Lib.hid (hE x hx8)
            have HLX := Lib.hid (show (b (x : Int)).length ≤ 80 from Nat.le_trans (hS.le hV.srt x) HPL.out)
            have HLY := Lib.hid (show (b (y : Int)).length ≤ 80 from Nat.le_trans (hS.le hV.srt y) HPL.out)
            have WX := Lib.hid (show W64 (x : Int) from WalkArith.wf_i64 (by omega))
            have WY := Lib.hid (show W64 (y : Int) from WalkArith.wf_i64 (by omega))
            clear hV hS hE I7
            by_cases w0 : wh = 0
            · subst w0
              have CA := Lib.hid (HV.out.post (fun Z k1 k2 => bk_add k1 k2 x ⟨pc, pg⟩ WX.out WP.out (by have := HLX.out; omega) HS.out.few))
              go_wp2_with fail
              refine CA.out.mono ?_
              rintro e w7 ⟨rfl, h7, h7k⟩
              have V7 := Lib.hid h7
              have K7 := Lib.hid (show Blk w7 ga 31 #[.int .i64 0, .int .i64 x, .int .i64 y, .int .i64 pc, .int .i64 pg] from (h7k ga (.inr rfl)).trans KA.out)
              clear h7 h7k a0 a1 a2 a3 a4
              go_upto_region 13 with fail
              have l0 := V7.out.cell hx8
              have CP := Lib.hid (fun (W : World) (hW : Below w7.heap.size w7 W) => (V7.out.fresh hW).put hx8 ⟨pc, pg⟩ (by rw [HXE.out]; have := HLX.out; omega))
              have KP := Lib.hid (fun (W : World) (hW : Blk W ga 31 #[.int .i64 0, .int .i64 x, .int .i64 y, .int .i64 pc, .int .i64 pg]) => (⟨hW.cell 1, hW.cell 3, hW.cell 4⟩ : W.cell? ⟨ga, 1, none⟩ = some (.int .i64 (x : Int)) ∧ W.cell? ⟨ga, 3, none⟩ = some (.int .i64 pc) ∧ W.cell? ⟨ga, 4, none⟩ = some (.int .i64 pg)))
              have BR := Lib.hid (Below.refl w7.heap.size w7).drew
              have KD := Lib.hid (show Blk w7.drew ga 31 #[.int .i64 0, .int .i64 x, .int .i64 y, .int .i64 pc, .int .i64 pg] from K7.out)
              go_upto_region 13 with fail
              refine wp_region_noPanic ?_
              refine wp_region_held_drew (S := (fun w' => w'.cell? ⟨ga, 1, none⟩ = some (.int .i64 (x : Int)) ∧ w'.cell? ⟨ga, 3, none⟩ = some (.int .i64 pc) ∧ w'.cell? ⟨ga, 4, none⟩ = some (.int .i64 pg))) (by kernel_rfl) ?_ (fun hHeld => ?_)
              · try dsimp only
                exact KP.out _ KD.out
              refine wpAnyH_take (i := 0) (v := ?v1) rfl (by kernel_rfl) (by kernel_rfl) (by kernel_rfl) (fun _ _ _ h => h) (Or.inl ⟨by rfl, ?hy1⟩) (by assumption) ?rest1
              case hy1 => (intro w hSw; (try dsimp only at hSw); go_simp; try with_reducible rfl)
              try simp only [Act.put, List.getElem_toArray, List.getElem_cons_succ, List.getElem_cons_zero, List.setIfInBounds_toArray, List.set_cons_zero, List.set_cons_succ]
              refine wpAnyH_take (i := 1) (v := ?v2) rfl (by kernel_rfl) (by kernel_rfl) (by kernel_rfl) (fun _ _ _ h => h) (Or.inl ⟨by rfl, ?hy2⟩) (by assumption) ?rest2
              case hy2 => (intro w hSw; (try dsimp only at hSw); go_simp; try with_reducible rfl)
              try simp only [Act.put, List.getElem_toArray, List.getElem_cons_succ, List.getElem_cons_zero, List.setIfInBounds_toArray, List.set_cons_zero, List.set_cons_succ]
              refine wpAnyH_take (i := 2) (v := ?v3) rfl (by kernel_rfl) (by kernel_rfl) (by kernel_rfl) (fun _ _ _ h => h) (Or.inl ⟨by rfl, ?hy3⟩) (by assumption) ?rest3
              case hy3 => (intro w hSw; (try dsimp only at hSw); go_simp; try with_reducible rfl)
              try simp only [Act.put, List.getElem_toArray, List.getElem_cons_succ, List.getElem_cons_zero, List.setIfInBounds_toArray, List.set_cons_zero, List.set_cons_succ]
              refine wpAnyH_take (i := 3) (v := ?v4) rfl (by kernel_rfl) (by kernel_rfl) (by kernel_rfl) (fun _ _ _ h => h) (Or.inl ⟨by rfl, ?hy4⟩) (by assumption) ?rest4
              case hy4 => (intro w hSw; (try dsimp only at hSw); go_simp; try with_reducible rfl)
              try simp only [Act.put, List.getElem_toArray, List.getElem_cons_succ, List.getElem_cons_zero, List.setIfInBounds_toArray, List.set_cons_zero, List.set_cons_succ]
              refine wpAnyH_take (i := 4) (v := ?v5) rfl (by kernel_rfl) (by kernel_rfl) (by kernel_rfl) (fun _ _ _ h => h) (Or.inl ⟨by rfl, ?hy5⟩) (by assumption) ?rest5
              case hy5 => (intro w hSw; (try dsimp only at hSw); go_simp; try with_reducible rfl)
              try simp only [Act.put, List.getElem_toArray, List.getElem_cons_succ, List.getElem_cons_zero, List.setIfInBounds_toArray, List.set_cons_zero, List.set_cons_succ]
              refine wpAnyH_take (i := 6) (v := ?v6) rfl (by kernel_rfl) (by kernel_rfl) (by kernel_rfl) (fun _ _ _ h => h) (Or.inl ⟨by rfl, ?hy6⟩) (by assumption) ?rest6
              case hy6 => (intro w hSw; (try dsimp only at hSw); go_simp; try with_reducible rfl)
              try simp only [Act.put, List.getElem_toArray, List.getElem_cons_succ, List.getElem_cons_zero, List.setIfInBounds_toArray, List.set_cons_zero, List.set_cons_succ]
              refine wpAnyH_take (i := 7) (v := ?v7) rfl (by kernel_rfl) (by kernel_rfl) (by kernel_rfl) (fun _ _ _ h => h) (Or.inl ⟨by rfl, ?hy7⟩) (by assumption) ?rest7
              case hy7 => (intro w hSw; (try dsimp only at hSw); go_simp; try with_reducible rfl)
              try simp only [Act.put, List.getElem_toArray, List.getElem_cons_succ, List.getElem_cons_zero, List.setIfInBounds_toArray, List.set_cons_zero, List.set_cons_succ]
              refine wpAnyH_ready (rs := [5]) (by kernel_rfl) (by simp) ?_
              refine AllReadyH.cons rfl (fun K hK => ?_) ?_
              · go_simp
                refine hK.out _ _ ?_ (fun hHeld => ?_)
                · try dsimp only
                  exact KP.out _ KD.out
                clear hK K
                try simp only [Act.put, List.getElem_toArray, List.getElem_cons_succ, List.getElem_cons_zero, List.setIfInBounds_toArray, List.set_cons_zero, List.set_cons_succ]
                refine wpAnyH_ready (rs := [8]) (by kernel_rfl) (by simp) ?_
                refine AllReadyH.cons rfl (fun K hK => ?_) ?_
                · go_simp
                  refine (CP.out _ BR.out).mono ?_
                  rintro e w8 ⟨v8, rfl, h8, hb8⟩
                  have k8 := KD.out.below (hb8.mono (Nat.le_refl _)) KD.out.lt
                  have l1 := h8.cell hx8
                  have l2 := h8.frozen x
                  rw [upd_other _ _ _ (by omega : x ≠ 8)] at l1
                  obtain ⟨A8, n8, c8, hv8, -⟩ := h8.pls (f := 8) (by omega)
                  rw [upd_same] at hv8
                  subst hv8
                  rw [HXE.out] at h8
                  go_wp2_with fail
                  refine hK.out _ _ ?_ (fun hHeld => ?_)
                  · try dsimp only
                    exact KP.out _ k8
                  clear hK K
                  try simp only [Act.put, List.getElem_toArray, List.getElem_cons_succ, List.getElem_cons_zero, List.setIfInBounds_toArray, List.set_cons_zero, List.set_cons_succ]
                  refine wpAnyH_take (i := 9) (v := ?v8) rfl (by kernel_rfl) (by kernel_rfl) (by kernel_rfl) (fun _ _ _ h => h) (Or.inl ⟨by rfl, ?hy8⟩) (by assumption) ?rest8
                  case hy8 => (intro w hSw; (try dsimp only at hSw); go_simp; try with_reducible rfl)
                  try simp only [Act.put, List.getElem_toArray, List.getElem_cons_succ, List.getElem_cons_zero, List.setIfInBounds_toArray, List.set_cons_zero, List.set_cons_succ]
                  refine wpAnyH_ready (rs := [10]) (by kernel_rfl) (by simp) ?_
                  refine AllReadyH.cons rfl (fun K hK => ?_) ?_
                  · go_simp
                    refine hK.out _ _ ?_ (fun hHeld => ?_)
                    · try dsimp only
                      exact KP.out _ (((Only.refl gL _).setCell _ _).blk k8 HGA.out)
                    clear hK K
                    try simp only [Act.put, List.getElem_toArray, List.getElem_cons_succ, List.getElem_cons_zero, List.setIfInBounds_toArray, List.set_cons_zero, List.set_cons_succ]
                    refine wpAnyH_done (by kernel_rfl) ?_ _
                    refine NoPanic.normal ?_
                    have V9 := Lib.hid h8
                    clear h8 hb8 l1 l2 k8 l0 hHeld
                    go_simp
                    go_wp2_with fail
                    go_meet
                    exact ⟨rfl, plI_store V9.out hx8 HE.out (HS.out.put (by omega) HIN.out)⟩
                  exact AllReadyH.nil
                exact AllReadyH.nil
              exact AllReadyH.nil
            · have u0 : (wh == 0) = false := by simp [w0]
              by_cases w1 : wh = 1
              · subst w1
                have l0 := HV.out.cell hx8
                have CO := Lib.hid (fun (W : World) (hW : Below wc9.heap.size wc9 W) => ((HV.out.fresh hW).out hx8 ⟨pc, pg⟩ (by rw [HXE.out]; have := HLX.out; omega)))
                have KP := Lib.hid (fun (W : World) (hW : Below wc9.heap.size wc9 W) => (⟨(hW.cell (p := ⟨ga, 1, none⟩) KA.out.lt).trans a1, (hW.cell (p := ⟨ga, 3, none⟩) KA.out.lt).trans a3, (hW.cell (p := ⟨ga, 4, none⟩) KA.out.lt).trans a4, (HV.out.fresh hW).cell hx8⟩ : W.cell? ⟨ga, 1, none⟩ = some (.int .i64 (x : Int)) ∧ W.cell? ⟨ga, 3, none⟩ = some (.int .i64 pc) ∧ W.cell? ⟨ga, 4, none⟩ = some (.int .i64 pg) ∧ W.cell? ⟨gL, x, none⟩ = some (vs x)))
                have BR := Lib.hid (Below.refl wc9.heap.size wc9)
                go_upto_region 15 with fail
                go_region_held3 (fun w' => w'.cell? ⟨ga, 1, none⟩ = some (.int .i64 (x : Int)) ∧ w'.cell? ⟨ga, 3, none⟩ = some (.int .i64 pc) ∧ w'.cell? ⟨ga, 4, none⟩ = some (.int .i64 pg) ∧ w'.cell? ⟨gL, x, none⟩ = some (vs x))
                  (first
                    | assumption
                    | exact KP.out _ BR.out.drew
                    | exact KP.out _ (by assumption))
                  (first
                    | (go_at_call 11; refine (CO.out _ BR.out.drew).mono ?_; rintro e w7 ⟨v7, rfl, h7, hb7⟩; have hb8 := BR.out.drew.trans (hb7.mono BR.out.drew.size)))
                have V7 := Lib.hid h7
                have K7 := Lib.hid (KA.out.below hb8 KA.out.lt)
                obtain ⟨A8, n8, c8, hv8, -⟩ := h7.pls (f := 8) (by omega)
                rw [upd_same] at hv8
                subst hv8
                rw [HXE.out] at V7
                rw [HXE.out]
                have l1 := V7.out.cell hx8
                have l2 := V7.out.frozen x
                rw [upd_other _ _ _ (by omega : x ≠ 8)] at l1
                have V8 := Lib.hid (show PlV w gB gL (fun k => k = ga) b (upd (upd ls 8 ((b (x : Int)).erase ⟨pc, pg⟩)) x ((b (x : Int)).erase ⟨pc, pg⟩)) (upd (upd vs 8 (.slice A8 n8 c8)) x (.slice A8 n8 c8)) (w7.setCell ⟨gL, x, none⟩ (.slice A8 n8 c8)) from by
                  have h := V7.out.store hx8
                  rw [upd_same, upd_same] at h
                  exact h)
                have K8 := Lib.hid (show Blk (w7.setCell ⟨gL, x, none⟩ (.slice A8 n8 c8)) ga 31 #[.int .i64 1, .int .i64 x, .int .i64 y, .int .i64 pc, .int .i64 pg] from ((Only.refl gL w7).setCell x _).blk K7.out HGA.out)
                have a1 := K7.out.cell 1
                obtain ⟨th, hth⟩ : ∃ th, th = decide ((⟨pc, pg⟩ : Pl) ∈ b (x : Int)) := ⟨_, rfl⟩
                rw [← hth]
                have ht1 : (th != th) = false := by simp
                have CD := Lib.hid (V8.out.post (fun Z k1 k2 => bk_drop k1 k2 x ⟨pc, pg⟩ WX.out WP.out))
                rw [← hth] at CD
                clear a0 a2 a3 a4 l0 h7 hb7 hb8 hth
                go_upto_region 17 with fail
                obtain ⟨W8, hW8⟩ : ∃ W8, W8 = w7.setCell ⟨gL, x, none⟩ (.slice A8 n8 c8) := ⟨_, rfl⟩
                rw [← hW8] at V8 K8 CD ⊢
                clear a1 l1 l2 hW8
                have a1 := K8.out.cell 1
                have a3 := K8.out.cell 3
                have a4 := K8.out.cell 4
                go_wp2_with fail
                refine CD.out.mono ?_
                rintro e w9 ⟨rfl, h9, -⟩
                have V9 := Lib.hid h9
                clear h9 a1 a3 a4
                go_wp2_with fail
                go_meet
                refine ⟨rfl, _, _, _, V9.out.drop, HS.out.out (by omega), fun f hf => ?_⟩
                by_cases c : f = x
                · subst c
                  rw [upd_same, updB_same]
                · rw [upd_other _ _ _ c, upd_other _ _ _ (by omega), updB_other _ _ _ (by omega), HE.out f hf]
              · have u1 : (wh == 1) = false := by simp [w1]
                by_cases w2 : wh = 2
                · subst w2
                  obtain ⟨Ax, nn, cc, hvx, hnn, -⟩ := HV.out.pls (f := x) (by omega)
                  rw [HXE.out] at hnn
                  have HNN := Lib.hid hnn
                  have CM := Lib.hid (HV.out.post (fun Z k1 k2 => bk_move k1 k2 x y WX.out WY.out (by have := HLX.out; have := HLY.out; omega) HS.out.few))
                  have lx := HV.out.cell hx8
                  rw [hvx] at lx
                  have hnb : nn ≤ 80 := by have := HLX.out; omega
                  clear hvx hnn
                  by_cases hok : b (x : Int) ≠ [] ∧ (x : Int) ≠ (y : Int)
                  · have hxy : x ≠ y := fun e => hok.2 (by rw [e])
                    have hne : nn ≠ 0 := fun e => hok.1 (List.eq_nil_of_length_eq_zero (by have := HNN.out; omega))
                    have g1 : decide ((0 : Int) < (nn : Int)) = true := decide_eq_true (by omega)
                    have g2 : ((x : Int) != (y : Int)) = true := by simp; omega
                    have HXY := Lib.hid hxy
                    have HOK := Lib.hid hok
                    rw [decide_eq_true hok] at CM
                    clear hxy hok
                    go_wp2_with fail
                    refine CM.out.mono ?_
                    rintro e w7 ⟨rfl, h7, h7k⟩
                    have V7 := Lib.hid h7
                    have K7 := Lib.hid (show Blk w7 ga 31 #[.int .i64 2, .int .i64 x, .int .i64 y, .int .i64 pc, .int .i64 pg] from (h7k ga (.inr rfl)).trans KA.out)
                    clear h7 h7k a0 a1 a2 a3 a4 lx
                    go_wp2_with fail
                    go_loopg [12] nn (fun gg s12 wx => ∃ (k : Nat) (ls9 : Nat → List Pl) (vs9 : Nat → Value), k + gg = nn ∧ s12 = .int .i64 (k : Int) ∧ PlV w gB gL (fun k => k = ga) (movB b x y) ls9 vs9 wx ∧ Blk wx ga 31 #[.int .i64 2, .int .i64 x, .int .i64 y, .int .i64 pc, .int .i64 pg] ∧ ∀ f, f < 8 → ls9 f = if f = y then mrgP (b (y : Int)) ((b (x : Int)).take k) else b (f : Int))
                    case atStart => exact ⟨0, ls, vs, by omega, rfl, V7.out, K7.out, fun f hf => by
                      by_cases c : f = y
                      · rw [if_pos c, c]
                        exact HE.out y hy8
                      · rw [if_neg c]
                        exact HE.out f hf⟩
                    case round =>
                      obtain ⟨k, ls9, vs9, hk, rfl, h1, h2, h3⟩ := hrel
                      have H3 := Lib.hid h3
                      have VR := Lib.hid h1
                      have KR := Lib.hid h2
                      have a1 := h2.cell 1
                      have a2 := h2.cell 2
                      obtain ⟨A9, n9, cc9, hvx9, hn9, _, _, _, hce9⟩ := h1.pls (f := x) (by omega)
                      rw [h3 x hx8, if_neg HXY.out, HNN.out] at hn9
                      subst hn9
                      have HVX := Lib.hid hvx9
                      have HLX2 := Lib.hid (show ls9 x = b (x : Int) from (h3 x hx8).trans (if_neg HXY.out))
                      have lx := h1.cell hx8
                      rw [hvx9] at lx
                      clear hvx9 h1 h2 V7 K7
                      by_cases hkn : k < nn
                      · obtain ⟨bb, oo, rfl, hbb, hce⟩ := hce9 (by omega)
                        obtain ⟨d0, d1⟩ := hce k hkn
                        obtain ⟨⟨e1, e2⟩, hee⟩ : ∃ q, q = (ls9 x).getD k pl0 := ⟨_, rfl⟩
                        rw [← hee] at d0 d1
                        have hge : (b (x : Int))[k]? = some ⟨e1, e2⟩ := by
                          rw [HLX2.out] at hee
                          rw [List.getElem?_eq_getElem (by have := HNN.out; omega), hee, List.getD_eq_getElem?_getD, List.getElem?_eq_getElem (by have := HNN.out; omega)]
                          rfl
                        have HGE := Lib.hid hge
                        have v1 : decide ((k : Int) < (nn : Int)) = true := decide_eq_true (by omega)
                        have v2 : (k : Int) < (nn : Int) := by omega
                        have v3 : (0 : Int) ≤ (k : Int) := by omega
                        have ly := VR.out.cell hy8
                        have VD := Lib.hid (VR.out.fresh (Below.refl wr.heap.size wr).drew)
                        have KD := Lib.hid (show Blk wr.drew ga 31 #[.int .i64 2, .int .i64 x, .int .i64 y, .int .i64 pc, .int .i64 pg] from KR.out)
                        have hll : (ls9 y).length ≤ 100000 := by
                          rw [h3 y hy8, if_pos rfl]
                          have := mrgP_length (b (y : Int)) ((b (x : Int)).take k)
                          have h9 : ((b (x : Int)).take k).length ≤ (b (x : Int)).length := List.length_take_le' k _
                          have := HLX.out
                          have := HLY.out
                          omega
                        have CP := Lib.hid (VD.out.put hy8 ⟨e1, e2⟩ hll)
                        have NXT := Lib.hid (show ∀ f, f < 8 → upd (upd ls9 8 (putP (ls9 y) ⟨e1, e2⟩)) y (putP (ls9 y) ⟨e1, e2⟩) f = if f = y then mrgP (b (y : Int)) ((b (x : Int)).take (k + 1)) else b (f : Int) from fun f hf => by
                          by_cases c : f = y
                          · subst c
                            rw [upd_same, if_pos rfl, H3.out f hf, if_pos rfl, mrg_take' HGE.out]
                          · rw [upd_other _ _ _ c, upd_other _ _ _ (by omega), if_neg c, H3.out f hf, if_neg c])
                        have KP := Lib.hid (fun (W : World) (ls' : Nat → List Pl) (vs' : Nat → Value) (hV : PlV w gB gL (fun k => k = ga) (movB b x y) ls' vs' W) (hB : Blk W ga 31 #[.int .i64 2, .int .i64 x, .int .i64 y, .int .i64 pc, .int .i64 pg]) (hv : vs' x = .slice (some ⟨bb, oo, none⟩) nn cc9) (hq : ls' x = b (x : Int)) => (show W.cell? ⟨ga, 1, none⟩ = some (.int .i64 (x : Int)) ∧ W.cell? ⟨ga, 2, none⟩ = some (.int .i64 (y : Int)) ∧ W.cell? ⟨gL, x, none⟩ = some (.slice (some ⟨bb, oo, none⟩) nn cc9) ∧ W.cell? ⟨bb, oo + k * 2, none⟩ = some (.int .i64 e1) ∧ W.cell? ⟨bb, oo + k * 2 + 1, none⟩ = some (.int .i64 e2) from by
                          obtain ⟨A, n, c, q1, q2, _, _, _, q7⟩ := hV.pls (f := x) (by omega)
                          rw [hv] at q1
                          injection q1 with q3 q4 q5
                          subst q4
                          obtain ⟨b', o', q8, _, q9⟩ := q7 (by omega)
                          rw [← q3] at q8
                          injection q8 with q8
                          injection q8 with q10 q11
                          subst q10 q11
                          have hx1 := hV.cell hx8
                          rw [hv] at hx1
                          have hq9 := q9 k hkn
                          rw [hq, List.getD_eq_getElem?_getD, HGE.out] at hq9
                          exact ⟨hB.cell 1, hB.cell 2, hx1, hq9.1, hq9.2⟩))
                        clear hce9 hce hee hge hll hbb h3
                        go_wp2_with fail
                        refine wp_region_noPanic ?_
                        refine wp_region_held_drew (S := (fun w' => w'.cell? ⟨ga, 1, none⟩ = some (.int .i64 (x : Int)) ∧ w'.cell? ⟨ga, 2, none⟩ = some (.int .i64 (y : Int)) ∧ w'.cell? ⟨gL, x, none⟩ = some (.slice (some ⟨bb, oo, none⟩) nn cc9) ∧ w'.cell? ⟨bb, oo + k * 2, none⟩ = some (.int .i64 e1) ∧ w'.cell? ⟨bb, oo + k * 2 + 1, none⟩ = some (.int .i64 e2))) (by kernel_rfl) ?_ (fun hHeld => ?_)
                        · try dsimp only
                          exact KP.out _ _ _ VD.out KD.out HVX.out HLX2.out
                        refine wpAnyH_take (i := 0) (v := ?v9) rfl (by kernel_rfl) (by kernel_rfl) (by kernel_rfl) (fun _ _ _ h => h) (Or.inl ⟨by rfl, ?hy9⟩) (by assumption) ?rest9
                        case hy9 => (intro w hSw; (try dsimp only at hSw); go_simp; try with_reducible rfl)
                        try simp only [Act.put, List.getElem_toArray, List.getElem_cons_succ, List.getElem_cons_zero, List.setIfInBounds_toArray, List.set_cons_zero, List.set_cons_succ]
                        refine wpAnyH_take (i := 1) (v := ?v10) rfl (by kernel_rfl) (by kernel_rfl) (by kernel_rfl) (fun _ _ _ h => h) (Or.inl ⟨by rfl, ?hy10⟩) (by assumption) ?rest10
                        case hy10 => (intro w hSw; (try dsimp only at hSw); go_simp; try with_reducible rfl)
                        try simp only [Act.put, List.getElem_toArray, List.getElem_cons_succ, List.getElem_cons_zero, List.setIfInBounds_toArray, List.set_cons_zero, List.set_cons_succ]
                        refine wpAnyH_take (i := 2) (v := ?v11) rfl (by kernel_rfl) (by kernel_rfl) (by kernel_rfl) (fun _ _ _ h => h) (Or.inl ⟨by rfl, ?hy11⟩) (by assumption) ?rest11
                        case hy11 => (intro w hSw; (try dsimp only at hSw); go_simp; try with_reducible rfl)
                        try simp only [Act.put, List.getElem_toArray, List.getElem_cons_succ, List.getElem_cons_zero, List.setIfInBounds_toArray, List.set_cons_zero, List.set_cons_succ]
                        refine wpAnyH_take (i := 3) (v := ?v12) rfl (by kernel_rfl) (by kernel_rfl) (by kernel_rfl) (fun _ _ _ h => h) (Or.inl ⟨by rfl, ?hy12⟩) (by assumption) ?rest12
                        case hy12 => (intro w hSw; (try dsimp only at hSw); go_simp; try with_reducible rfl)
                        try simp only [Act.put, List.getElem_toArray, List.getElem_cons_succ, List.getElem_cons_zero, List.setIfInBounds_toArray, List.set_cons_zero, List.set_cons_succ]
                        refine wpAnyH_take (i := 4) (v := ?v13) rfl (by kernel_rfl) (by kernel_rfl) (by kernel_rfl) (fun _ _ _ h => h) (Or.inl ⟨by rfl, ?hy13⟩) (by assumption) ?rest13
                        case hy13 => (intro w hSw; (try dsimp only at hSw); go_simp; try with_reducible rfl)
                        try simp only [Act.put, List.getElem_toArray, List.getElem_cons_succ, List.getElem_cons_zero, List.setIfInBounds_toArray, List.set_cons_zero, List.set_cons_succ]
                        refine wpAnyH_take (i := 6) (v := ?v14) rfl (by kernel_rfl) (by kernel_rfl) (by kernel_rfl) (fun _ _ _ h => h) (Or.inl ⟨by rfl, ?hy14⟩) (by assumption) ?rest14
                        case hy14 => (intro w hSw; (try dsimp only at hSw); go_simp; try with_reducible rfl)
                        try simp only [Act.put, List.getElem_toArray, List.getElem_cons_succ, List.getElem_cons_zero, List.setIfInBounds_toArray, List.set_cons_zero, List.set_cons_succ]
                        refine wpAnyH_take (i := 7) (v := ?v15) rfl (by kernel_rfl) (by kernel_rfl) (by kernel_rfl) (fun _ _ _ h => h) (Or.inl ⟨by rfl, ?hy15⟩) (by assumption) ?rest15
                        case hy15 => (intro w hSw; (try dsimp only at hSw); go_simp; try with_reducible rfl)
                        try simp only [Act.put, List.getElem_toArray, List.getElem_cons_succ, List.getElem_cons_zero, List.setIfInBounds_toArray, List.set_cons_zero, List.set_cons_succ]
                        refine wpAnyH_take (i := 8) (v := ?v16) rfl (by kernel_rfl) (by kernel_rfl) (by kernel_rfl) (fun _ _ _ h => h) (Or.inl ⟨by rfl, ?hy16⟩) (by assumption) ?rest16
                        case hy16 => (intro w hSw; (try dsimp only at hSw); go_simp; try with_reducible rfl)
                        try simp only [Act.put, List.getElem_toArray, List.getElem_cons_succ, List.getElem_cons_zero, List.setIfInBounds_toArray, List.set_cons_zero, List.set_cons_succ]
                        refine wpAnyH_take (i := 9) (v := ?v17) rfl (by kernel_rfl) (by kernel_rfl) (by kernel_rfl) (fun _ _ _ h => h) (Or.inl ⟨by rfl, ?hy17⟩) (by assumption) ?rest17
                        case hy17 => (intro w hSw; (try dsimp only at hSw); go_simp; try with_reducible rfl)
                        try simp only [Act.put, List.getElem_toArray, List.getElem_cons_succ, List.getElem_cons_zero, List.setIfInBounds_toArray, List.set_cons_zero, List.set_cons_succ]
                        refine wpAnyH_take (i := 10) (v := ?v18) rfl (by kernel_rfl) (by kernel_rfl) (by kernel_rfl) (fun _ _ _ h => h) (Or.inl ⟨by rfl, ?hy18⟩) (by assumption) ?rest18
                        case hy18 => (intro w hSw; (try dsimp only at hSw); go_simp; try with_reducible rfl)
                        try simp only [Act.put, List.getElem_toArray, List.getElem_cons_succ, List.getElem_cons_zero, List.setIfInBounds_toArray, List.set_cons_zero, List.set_cons_succ]
                        refine wpAnyH_take (i := 11) (v := ?v19) rfl (by kernel_rfl) (by kernel_rfl) (by kernel_rfl) (fun _ _ _ h => h) (Or.inl ⟨by rfl, ?hy19⟩) (by assumption) ?rest19
                        case hy19 => (intro w hSw; (try dsimp only at hSw); go_simp; try with_reducible rfl)
                        try simp only [Act.put, List.getElem_toArray, List.getElem_cons_succ, List.getElem_cons_zero, List.setIfInBounds_toArray, List.set_cons_zero, List.set_cons_succ]
                        refine wpAnyH_take (i := 12) (v := ?v20) rfl (by kernel_rfl) (by kernel_rfl) (by kernel_rfl) (fun _ _ _ h => h) (Or.inl ⟨by rfl, ?hy20⟩) (by assumption) ?rest20
                        case hy20 => (intro w hSw; (try dsimp only at hSw); go_simp; try with_reducible rfl)
                        try simp only [Act.put, List.getElem_toArray, List.getElem_cons_succ, List.getElem_cons_zero, List.setIfInBounds_toArray, List.set_cons_zero, List.set_cons_succ]
                        refine wpAnyH_ready (rs := [5]) (by kernel_rfl) (by simp) ?_
                        refine AllReadyH.cons rfl (fun K hK => ?_) ?_
                        · go_simp
                          refine hK.out _ _ ?_ (fun hHeld => ?_)
                          · try dsimp only
                            exact KP.out _ _ _ VD.out KD.out HVX.out HLX2.out
                          clear hK K
                          try simp only [Act.put, List.getElem_toArray, List.getElem_cons_succ, List.getElem_cons_zero, List.setIfInBounds_toArray, List.set_cons_zero, List.set_cons_succ]
                          refine wpAnyH_ready (rs := [13]) (by kernel_rfl) (by simp) ?_
                          refine AllReadyH.cons rfl (fun K hK => ?_) ?_
                          · go_simp
                            refine (CP.out).mono ?_
                            rintro e w8 ⟨v8, rfl, h8, hb8⟩
                            have k8 := KD.out.below hb8 KD.out.lt
                            have l1 := h8.cell hy8
                            have l2 := h8.frozen y
                            rw [upd_other _ _ _ (by omega : y ≠ 8)] at l1
                            obtain ⟨A8, n8, c8, hv8, -⟩ := h8.pls (f := 8) (by omega)
                            rw [upd_same] at hv8
                            subst hv8
                            go_wp2_with fail
                            refine hK.out _ _ ?_ (fun hHeld => ?_)
                            · try dsimp only
                              exact KP.out _ _ _ h8 k8 ((upd_other _ _ _ (by omega : x ≠ 8)).trans HVX.out) ((upd_other _ _ _ (by omega : x ≠ 8)).trans HLX2.out)
                            clear hK K
                            try simp only [Act.put, List.getElem_toArray, List.getElem_cons_succ, List.getElem_cons_zero, List.setIfInBounds_toArray, List.set_cons_zero, List.set_cons_succ]
                            refine wpAnyH_take (i := 14) (v := ?v21) rfl (by kernel_rfl) (by kernel_rfl) (by kernel_rfl) (fun _ _ _ h => h) (Or.inl ⟨by rfl, ?hy21⟩) (by assumption) ?rest21
                            case hy21 => (intro w hSw; (try dsimp only at hSw); go_simp; try with_reducible rfl)
                            try simp only [Act.put, List.getElem_toArray, List.getElem_cons_succ, List.getElem_cons_zero, List.setIfInBounds_toArray, List.set_cons_zero, List.set_cons_succ]
                            refine wpAnyH_ready (rs := [15]) (by kernel_rfl) (by simp) ?_
                            refine AllReadyH.cons rfl (fun K hK => ?_) ?_
                            · go_simp
                              refine hK.out _ _ ?_ (fun hHeld => ?_)
                              · try dsimp only
                                have hst := h8.store hy8
                                rw [upd_same, upd_same] at hst
                                exact KP.out _ _ _ hst (((Only.refl gL _).setCell _ _).blk k8 HGA.out) ((upd_other _ _ _ HXY.out).trans ((upd_other _ _ _ (by omega : x ≠ 8)).trans HVX.out)) ((upd_other _ _ _ HXY.out).trans ((upd_other _ _ _ (by omega : x ≠ 8)).trans HLX2.out))
                              clear hK K
                              try simp only [Act.put, List.getElem_toArray, List.getElem_cons_succ, List.getElem_cons_zero, List.setIfInBounds_toArray, List.set_cons_zero, List.set_cons_succ]
                              refine wpAnyH_done (by kernel_rfl) ?_ _
                              refine NoPanic.normal ?_
                              have hst := h8.store hy8
                              rw [upd_same, upd_same] at hst
                              have V9 := Lib.hid hst
                              clear hst
                              have K9 := Lib.hid (show Blk (w8.setCell ⟨gL, y, none⟩ (.slice A8 n8 c8)) ga 31 #[.int .i64 2, .int .i64 x, .int .i64 y, .int .i64 pc, .int .i64 pg] from ((Only.refl gL w8).setCell y _).blk k8 HGA.out)
                              clear h8 hb8 l1 l2 k8 ly hHeld
                              go_simp
                              go_wp2_with fail
                              go_roundg (nn - (k + 1))
                              case measure => omega
                              case rel => exact ⟨k + 1, _, _, by omega, by go_num, V9.out, K9.out, NXT.out⟩
                            exact AllReadyH.nil
                          exact AllReadyH.nil
                        exact AllReadyH.nil
                      · obtain rfl : k = nn := by omega
                        have v1 : decide ((k : Int) < (k : Int)) = false := decide_eq_false (by omega)
                        have fx := VR.out.frozen x
                        have VS := Lib.hid (show PlI w gB gL P (wr.setCell ⟨gL, x, none⟩ (.slice none 0 0)) from by
                          have hst := (VR.out.nil_.store hx8).drop
                          rw [upd_same, upd_same] at hst
                          refine ⟨_, _, _, hst, HS.out.mov (by omega) (by omega), fun f hf => ?_⟩
                          unfold movB
                          rw [if_pos HOK.out]
                          by_cases c : f = x
                          · subst c
                            rw [upd_same, updB_same]
                          · rw [upd_other _ _ _ c, upd_other _ _ _ (by omega), updB_other _ _ _ (by omega), H3.out f hf]
                            by_cases c2 : f = y
                            · subst c2
                              rw [if_pos rfl, updB_same, List.take_of_length_le (by rw [HNN.out]; exact Nat.le_refl _)]
                            · rw [if_neg c2, updB_other _ _ _ (by omega)])
                        clear hce9 h3
                        go_wp2_with fail
                        go_meet
                        exact ⟨rfl, VS.out⟩
                  · have hmb : movB b x y = b := if_neg hok
                    rw [decide_eq_false hok, hmb] at CM
                    by_cases hn0 : nn = 0
                    · subst hn0
                      clear hok hmb
                      go_wp2_with fail
                      refine CM.out.mono ?_
                      rintro e w7 ⟨rfl, h7, -⟩
                      have V7 := Lib.hid h7
                      clear h7 a0 a1 a2 a3 a4 lx
                      go_wp2_with fail
                      go_loopg [12] 1 (fun gg s12 wx => s12 = .int .i64 0 ∧ wx = w7 ∧ gg = 1)
                      case atStart => exact ⟨rfl, rfl, rfl⟩
                      case round =>
                        obtain ⟨rfl, rfl, hgg⟩ := hrel
                        go_wp2_with fail
                        go_meet
                        exact ⟨rfl, b, ls, vs, V7.out.drop, HS.out, HE.out⟩
                    · have g1 : decide ((0 : Int) < (nn : Int)) = true := decide_eq_true (by omega)
                      have hxy : x = y := by
                        by_cases c : x = y
                        · exact c
                        · exact absurd ⟨fun e => hn0 (by have := HNN.out; rw [e] at this; exact this.symm), by omega⟩ hok
                      clear hok hmb
                      subst hxy
                      have g2 : ((x : Int) != (x : Int)) = false := by simp
                      go_wp2_with fail
                      refine CM.out.mono ?_
                      rintro e w7 ⟨rfl, h7, -⟩
                      have V7 := Lib.hid h7
                      clear h7 a0 a1 a2 a3 a4 lx
                      go_wp2_with fail
                      go_loopg [12] 1 (fun gg s12 wx => s12 = .int .i64 0 ∧ wx = w7 ∧ gg = 1)
                      case atStart => exact ⟨rfl, rfl, rfl⟩
                      case round =>
                        obtain ⟨rfl, rfl, hgg⟩ := hrel
                        go_wp2_with fail
                        go_meet
                        exact ⟨rfl, b, ls, vs, V7.out.drop, HS.out, HE.out⟩
                · have u2 : (wh == 2) = false := by simp [w2]
                  go_wp2_with fail
                  go_meet
                  exact ⟨rfl, b, ls, vs, HV.out.drop, HS.out, HE.out⟩
          case rest =>
            obtain ⟨rfl, hI8⟩ := hcut
            have I8 := Lib.hid hI8
            clear hI8 I7
            go_wp2_with fail
            go_loopg [13] 8 (fun gg s13 wx => ∃ f : Nat, f + gg = 8 ∧ s13 = .int .i64 (f : Int) ∧ PlI w gB gL P wx)
            case atStart => exact ⟨0, by omega, rfl, I8.out⟩
            case round =>
              obtain ⟨f, hf, rfl, hI9⟩ := hrel
              have I9 := Lib.hid hI9
              clear hI9 I8
              by_cases hf8 : f < 8
              · obtain ⟨b, ls, vs, hV, hS, hE⟩ := I9.out
                have v1 : decide ((f : Int) < 8) = true := decide_eq_true (by omega)
                have v2 : (0 : Int) ≤ (f : Int) := by omega
                have v3 : (f : Int) < 8 := by omega
                have VD := Lib.hid (hV.fresh (Below.refl wr.heap.size wr).drew)
                have HEF := Lib.hid (hE f hf8)
                have BR := Lib.hid (Below.refl wr.heap.size wr).drew
                have CO := Lib.hid (VD.out.of (f : Int) (WalkArith.wf_i64 (by omega)))
                have CP := Lib.hid (fun (W : World) (v' : Value) (h1 : Below wr.heap.size wr W) (h2 : Pls W W.heap.size v' (b (f : Int))) => (hV.fresh h1).places hf8 (by rw [HEF.out]; exact h2))
                have KC := Lib.hid (fun (W : World) (h1 : Below wr.heap.size wr W) => (hV.fresh h1).cell hf8)
                clear hV hS hE
                go_wp2_with fail
                go_region_held3 (fun w' => w'.cell? ⟨gL, f, none⟩ = some (vs f))
                  (first
                    | assumption
                    | exact KC.out _ BR.out
                    | (with_reducible exact KC.out _ (by assumption)))
                  (first
                    | (go_at_call 15; refine CO.out.mono ?_; rintro e w7 ⟨v7, rfl, h7, hb7⟩; have hb8 := BR.out.trans (hb7.mono (Nat.le_refl _)))
                    | (go_at_call 14; refine (CP.out _ _ hb8 h7).mono ?_; rintro e w8 ⟨rfl, hb9⟩; have hba := hb8.trans (hb9.mono hb8.size)))
                have IA := Lib.hid (I9.out.fresh hba)
                clear h7 hb7 hb8 hb9 hba
                go_wp2_with fail
                go_roundg (8 - (f + 1))
                case measure => omega
                case rel => exact ⟨f + 1, by omega, by go_num, IA.out⟩
              · obtain rfl : f = 8 := by omega
                go_wp2_with fail
                go_roundg (N1 - (i + 1))
                case measure => omega
                case rel => exact ⟨i + 1, by omega, by go_num, I9.out⟩
    · obtain rfl : i = N1 := by omega
      have t4 : decide ((i : Int) < (i : Int)) = false := decide_eq_false (by omega)
      have t5 : ¬ ((i : Int) < (i : Int)) := by omega
      clear HZ1 HN1 HPM
      obtain ⟨W9, rfl⟩ : ∃ W9, W9 = wr := ⟨_, rfl⟩
      obtain ⟨b, ls, vs, hV, hS, hE⟩ := I.out
      have V := Lib.hid hV
      have HS := Lib.hid hS
      have HE := Lib.hid hE
      have HLE := Lib.hid (show ∀ f, (b f).length ≤ 80 from fun f => Nat.le_trans (hS.le hV.srt f) HPL.out)
      obtain ⟨iI, hiI, hiz0, hiz1, hiz2⟩ := info_parts Try.infoInt13
      have HII := Lib.hid hiI
      have HI0 := Lib.hid hiz0
      have HI1 := Lib.hid hiz1
      have HI2 := Lib.hid hiz2
      clear hV hS hE hiI hiz0 hiz1 hiz2
      go_wp2_with fail
      go_loopg [14, 15] 8 (fun gg s14 s15 wx => ∃ f : Nat, f + gg = 8 ∧ s15 = .int .i64 (f : Int) ∧ wx.ownsRow W9.heap.size 3 1 s14 (asN (frmB b proc f)).length ((asN (frmB b proc f)).map (fun z => Value.int .i64 z)) ∧ Below W9.heap.size W9 wx)
      case atStart => exact ⟨0, by omega, rfl, World.ownsRow_nil _ _ _ _, Below.refl _ _⟩
      case round =>
        obtain ⟨f, hf, rfl, hrow, hb⟩ := hrel
        have HB := Lib.hid hb
        have HROW := Lib.hid hrow
        have HITS := Lib.hid (Its.of_own hrow)
        obtain ⟨A5, N5, c5, rfl, hN5, -⟩ := Its.of_own hrow
        have HN5 := Lib.hid hN5
        clear hrow hb hN5
        obtain ⟨G2, rfl⟩ : ∃ G2, G2 = gk := ⟨_, rfl⟩
        by_cases hf8 : f < 8
        · have v1 : decide ((f : Int) < 8) = true := decide_eq_true (by omega)
          have v2 : (0 : Int) ≤ (f : Int) := by omega
          have v3 : (f : Int) < 8 := by omega
          have VW := Lib.hid (V.out.fresh HB.out)
          obtain ⟨A6, n6, c6, hv6, hn6, _, _, _, hce6⟩ := VW.out.pls (f := f) (by omega)
          rw [HE.out f hf8] at hn6
          have HN6 := Lib.hid hn6
          have HCE := Lib.hid hce6
          have lf := VW.out.cell hf8
          rw [hv6] at lf
          have hn80 : n6 ≤ 80 := by have := HLE.out f; omega
          clear hv6 hn6 hce6
          obtain ⟨W5, rfl⟩ : ∃ W5, W5 = wr := ⟨_, rfl⟩
          go_wp2_with fail
          go_loopg [16, 17] n6 (fun gg s16 s17 wx => ∃ k : Nat, k + gg = n6 ∧ s17 = .int .i64 (k : Int) ∧ s16 = .bool (((b (f : Int)).take k).any (fun q => decide (q.c = proc))) ∧ wx = W5)
          case atStart => exact ⟨0, by omega, rfl, rfl, rfl⟩
          case round =>
            obtain ⟨k, hk, rfl, rfl, rfl⟩ := hrel
            by_cases hkn : k < n6
            · have w1 : decide ((k : Int) < (n6 : Int)) = true := decide_eq_true (by omega)
              have w2 : (k : Int) < (n6 : Int) := by omega
              have w3 : (0 : Int) ≤ (k : Int) := by omega
              obtain ⟨bb, oo, rfl, hbb, hce⟩ := HCE.out (by omega)
              obtain ⟨d0, d1⟩ := hce k hkn
              obtain ⟨⟨e1, e2⟩, hee⟩ : ∃ q, q = (ls f).getD k pl0 := ⟨_, rfl⟩
              rw [← hee] at d0 d1
              have hge : (b (f : Int))[k]? = some ⟨e1, e2⟩ := by
                rw [HE.out f hf8] at hee
                rw [List.getElem?_eq_getElem (by have := HN6.out; omega), hee, List.getD_eq_getElem?_getD, List.getElem?_eq_getElem (by have := HN6.out; omega)]
                rfl
              have HTK := Lib.hid (show ((b (f : Int)).take (k + 1)).any (fun q => decide (q.c = proc)) = (((b (f : Int)).take k).any (fun q => decide (q.c = proc)) || decide (e1 = proc)) from by
                rw [List.take_add_one, hge, List.any_append]
                simp)
              clear hce hee hge hbb d1
              obtain ⟨B, hB⟩ : ∃ B, B = ((b (f : Int)).take k).any (fun q => decide (q.c = proc)) := ⟨_, rfl⟩
              rw [← hB] at HTK ⊢
              clear hB
              cases B
              · by_cases hp : e1 = proc
                · subst hp
                  go_wp2_with fail
                  go_roundg (n6 - (k + 1))
                  case measure => omega
                  case rel => exact ⟨k + 1, by omega, by go_num, by rw [HTK.out]; simp, rfl⟩
                · have w4 : (e1 == proc) = false := by simp [hp]
                  go_wp2_with fail
                  go_roundg (n6 - (k + 1))
                  case measure => omega
                  case rel => exact ⟨k + 1, by omega, by go_num, by rw [HTK.out]; simp [hp], rfl⟩
              · go_wp2_with fail
                go_roundg (n6 - (k + 1))
                case measure => omega
                case rel => exact ⟨k + 1, by omega, by go_num, by rw [HTK.out]; simp, rfl⟩
            · obtain rfl : k = n6 := by omega
              have w1 : decide ((k : Int) < (k : Int)) = false := decide_eq_false (by omega)
              rw [List.take_of_length_le (by rw [HN6.out]; exact Nat.le_refl _)]
              obtain ⟨T, hT⟩ : ∃ T, T = (b (f : Int)).any (fun q => decide (q.c = proc)) := ⟨_, rfl⟩
              rw [← hT]
              obtain ⟨D, hD⟩ : ∃ D, D = frmB b proc f := ⟨_, rfl⟩
              have hDl : D.length ≤ f := hD ▸ frmB_le b proc f
              cases T
              · have TK := Lib.hid (show frmB b proc (f + 1) = D from hD ▸ frmB_no (k := f) (by unfold hasB; exact hT.symm))
                rw [← hD] at HROW
                clear hD hT
                go_wp2_with fail
                go_roundg (8 - (f + 1))
                case measure => omega
                case rel => exact ⟨f + 1, by omega, by go_num, by rw [TK.out]; exact HROW.out, HB.out⟩
              · have TK := Lib.hid (show frmB b proc (f + 1) = D ++ [f] from hD ▸ frmB_yes (k := f) (by unfold hasB; exact hT.symm))
                rw [← hD] at HROW HITS HN5
                clear hD hT
                have HONE := Lib.hid (show ∀ u ∈ [Value.int .i64 (f : Int)], u.oneCell' = true from fun u hu => by rw [List.mem_singleton.1 hu]; rfl)
                have HQ1 := Lib.hid (show (asN D).length + 1 ≤ maxLen from by rw [asN_length]; unfold maxLen; omega)
                have HQ2 := Lib.hid (show ((asN D).length + 1) * 8 ≤ 140737488355328 from by rw [asN_length]; omega)
                have HQ3 := Lib.hid (show W9.heap.size ≤ (wr.alloc (.cells #[Value.int .i64 (f : Int)] 3)).heap.size from by have := HB.out.size; simp; omega)
                have HROW' := Lib.hid (show wr.ownsRow W9.heap.size 3 1 (.slice A5 N5 c5) (asN D).length ((asN D).map (fun z => Value.int .i64 z)) from HROW.out)
                go_wp2_with (refine wpList_append_own _ rfl _ _ 40 rfl W9.heap.size 3 iI (.int .i64 0) 1 8 Try.underlying40 HII.out HI0.out HI1.out HI2.out rfl (by decide) _ _ _ rfl (HROW'.out.alloc _) ⟨wr.heap.size, 0, none⟩ 1 1 [Value.int .i64 (f : Int)] rfl rfl (cell_one_new _ _ _) HONE.out HQ1.out HQ2.out HQ3.out ?_; intro v' w4 hown4 hg4 hnil4; have HOWN4 := Lib.hid hown4; have HG4 := Lib.hid hg4; clear hown4 hg4 hnil4)
                have HB4' := Lib.hid ((HB.out.alloc HB.out.size (.cells #[Value.int .i64 (f : Int)] 3)).grown HG4.out HQ3.out (fun j hj => (HROW'.out.lt j hj).1))
                go_roundg (8 - (f + 1))
                case measure => omega
                case rel =>
                  refine ⟨f + 1, by omega, by go_num, ?_, HB4'.out⟩
                  have h9 := HOWN4.out
                  rw [TK.out]
                  show World.ownsRow _ _ _ _ _ (asN (D ++ [f])).length ((asN (D ++ [f])).map _)
                  rw [show asN (D ++ [f]) = asN D ++ [(f : Int)] from by simp [asN], List.length_append, List.map_append]
                  exact h9
        · obtain rfl : f = 8 := by omega
          have VW := Lib.hid (V.out.fresh HB.out)
          go_wp2_with fail
          refine (bkAnswers_any _).mono ?_
          rintro e wa ⟨rfl, ha⟩
          have VA := Lib.hid (VW.out.fresh ha)
          have IA := Lib.hid ((HITS.out.below ha).more ha.size)
          clear ha
          go_wp2_with fail
          refine (VA.out.frames proc WC.out HS.out.few).mono ?_
          rintro e wb ⟨vb, lb, rfl, h1, h2, h3, hb⟩
          obtain rfl : lb = asN (frmB b proc 8) := frmB_all HS.out h2 h3
          have VB := Lib.hid (VA.out.fresh hb)
          have CI := Lib.hid (show Calls Try.prog 16 #[vb, .slice A5 N5 c5] wb fun e w' => e = .returned (.bool true) ∧ Below wb.heap.size wb w' from (ints_any vb (.slice A5 N5 c5) _ _ _ _ wb h1 (IA.out.below hb)).mono fun e w' ⟨he, hd⟩ => ⟨by rw [he, decide_eq_true rfl], drew_below hd⟩)
          clear hb h1 h2 h3
          go_wp2_with fail
          refine CI.out.mono ?_
          rintro e wc ⟨rfl, hd⟩
          have VC := Lib.hid (VB.out.fresh hd)
          clear hd
          go_wp2
          go_ret
          exact ⟨rfl, VC.out.bel⟩
end Go.Proofs.Ytgbkpcmgfjdhdaa

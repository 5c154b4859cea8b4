/-
  BackMoves answers true for any places.
  Conditions: the places are read in memory.
-/
import Derived.Test.YtgbkpcmgfjdhdaaBkL
namespace Go.Proofs.Ytgbkpcmgfjdhdaa
open Go.RowKit
set_option linter.unusedVariables false

theorem mrg_take {l : List Pl} {i : Nat} {p : Pl} (h : l[i]? = some p) : mrgP [] (l.take (i + 1)) = putP (mrgP [] (l.take i)) p := by
  rw [List.take_add_one, h]
  exact mrgP_snoc _ _ _
theorem mrg_take' {a l : List Pl} {i : Nat} {p : Pl} (h : l[i]? = some p) : mrgP a (l.take (i + 1)) = putP (mrgP a (l.take i)) p := by
  rw [List.take_add_one, h]
  exact mrgP_snoc _ _ _
theorem mrg_nil_length (l : List Pl) (i : Nat) (h : l.length ≤ 40) : (mrgP [] (l.take i)).length ≤ 40 := by
  have := mrgP_length [] (l.take i)
  have h3 : (l.take i).length ≤ l.length := List.length_take_le' i l
  simp only [List.length_nil] at this
  omega
theorem mrg_two (a b : List Pl) : mrgP (mrgP [] b) (mrgP [] a) = mrgP (mrgP [] a) b := by
  refine srt_ext (srt_mrgP (srt_mrgP List.Pairwise.nil)) (srt_mrgP (srt_mrgP List.Pairwise.nil)) fun q => ?_
  rw [mem_mrgP, mem_mrgP, mem_mrgP, mem_mrgP, mem_mrgP]
  constructor
  · rintro ((h | h) | (h | h))
    · exact absurd h List.not_mem_nil
    · exact .inr h
    · exact absurd h List.not_mem_nil
    · exact .inl (.inr h)
  · rintro ((h | h) | h)
    · exact absurd h List.not_mem_nil
    · exact .inr (.inr h)
    · exact .inl (.inr h)
theorem updB_twice (b : BS) (f : Int) (l m : List Pl) : updB (updB b f l) f m = updB b f m := by
  funext k
  by_cases h : k = f
  · subst h
    rw [updB_same, updB_same]
  · rw [updB_other _ _ _ h, updB_other _ _ _ h, updB_other _ _ _ h]
theorem updB_id (b : BS) (f : Int) : updB b f (b f) = b := by
  funext k
  by_cases h : k = f
  · subst h
    exact updB_same _ _ _
  · exact updB_other _ _ _ h
set_option maxRecDepth 20000 in
set_option maxHeartbeats 1000000 in
theorem backMoves_edge (A A' : Option Addr) (l c l' c' : Nat) (w : World) (h : l = 0 ∨ 40 < l ∨ 40 < l') :
    Calls Try.prog 6 #[.slice A l c, .slice A' l' c'] w fun e w' => e = .returned (.bool true) ∧ Below w.heap.size w w' := by
  by_cases h0 : l = 0
  · subst h0
    go_enter Try.func6, Try.ntmps6
    go_wp2_with fail
    refine (bkAnswers_any _).mono ?_
    rintro e w1 ⟨rfl, hb⟩
    go_wp2
    go_ret
    exact ⟨rfl, hb⟩
  · have t0 : ((l : Int) == 0) = false := by simp; omega
    by_cases h1 : 40 < l
    · have t1 : decide ((40 : Int) < (l : Int)) = true := decide_eq_true (by omega)
      clear h
      go_enter Try.func6, Try.ntmps6
      go_wp2_with fail
      refine (bkAnswers_any _).mono ?_
      rintro e w1 ⟨rfl, hb⟩
      go_wp2
      go_ret
      exact ⟨rfl, hb⟩
    · have t1 : decide ((40 : Int) < (l : Int)) = false := decide_eq_false (by omega)
      have t2 : decide ((40 : Int) < (l' : Int)) = true := decide_eq_true (by omega)
      clear h
      go_enter Try.func6, Try.ntmps6
      go_wp2_with fail
      refine (bkAnswers_any _).mono ?_
      rintro e w1 ⟨rfl, hb⟩
      go_wp2
      go_ret
      exact ⟨rfl, hb⟩
/-- A back map of the call's own, and a list beside it. -/
def MvAt (w : World) (gB : Nat) (b : BS) (v : Value) (l : List Pl) (W : World) : Prop := ∃ Z, BkT w W gB b Z ∧ (∀ k, Z k → k < W.heap.size) ∧ InZ Z v ∧ Pls W W.heap.size v l ∧ Shp v
section
variable {w W W' : World} {gB : Nat} {b : BS} {v : Value} {l : List Pl}
theorem MvAt.bel (h : MvAt w gB b v l W) : Below w.heap.size w W := by
  obtain ⟨Z, h1, _⟩ := h
  exact h1.bel
theorem MvAt.fresh (h : MvAt w gB b v l W) (hb : Below W.heap.size W W') : MvAt w gB b v l W' := by
  obtain ⟨Z, h1, h2, h3, h4, h5⟩ := h
  exact ⟨Z, h1.fresh hb, fun k hk => Nat.lt_of_lt_of_le (h2 k hk) hb.size, h3, h4.fresh hb, h5⟩
theorem MvAt.add (h : MvAt w gB b v l W) (f : Int) (p : Pl) (wf : W64 f) (wp : WPl p) (hl : (b f).length ≤ 100000) (hM : FewM b) :
    Calls Try.prog 9 #[.pointer (some ⟨gB, 0, none⟩), .int .i64 f, .agg #[.int .i64 p.c, .int .i64 p.g]] W fun e w' => e = .returned (.tuple #[]) ∧ MvAt w gB (updB b f (putP (b f) p)) v l w' ∧ ∀ k, k < w.heap.size → w'.heap[k]? = W.heap[k]? := by
  obtain ⟨Z, h1, h2, h3, h4, h5⟩ := h
  exact (bk_add h1 h2 f p wf wp hl hM).mono fun e w' ⟨he, k1, k2, k3, k4⟩ => ⟨he, ⟨Z, k1, fun k hk => Nat.lt_of_lt_of_le (h2 k hk) k4, h3, h4.keepZ h3 k2 k4, h5⟩, k3⟩
theorem MvAt.move (h : MvAt w gB b v l W) (f t : Int) (wf : W64 f) (wt : W64 t) (hl : (b f).length + (b t).length ≤ 100000) (hM : FewM b) :
    Calls Try.prog 13 #[.pointer (some ⟨gB, 0, none⟩), .int .i64 f, .int .i64 t] W fun e w' => e = .returned (.bool (decide (b f ≠ [] ∧ f ≠ t))) ∧ MvAt w gB (movB b f t) v l w' := by
  obtain ⟨Z, h1, h2, h3, h4, h5⟩ := h
  exact (bk_move h1 h2 f t wf wt hl hM).mono fun e w' ⟨he, k1, k2, k3, k4⟩ => ⟨he, ⟨Z, k1, fun k hk => Nat.lt_of_lt_of_le (h2 k hk) k4, h3, h4.keepZ h3 k2 k4, h5⟩⟩
theorem MvAt.of (h : MvAt w gB b v l W) (f : Int) (wf : W64 f) :
    Calls Try.prog 15 #[.pointer (some ⟨gB, 0, none⟩), .int .i64 f] W fun e w' => ∃ v', e = .returned v' ∧ Pls w' w'.heap.size v' (b f) ∧ MvAt w gB b v l w' := by
  have h' := h
  obtain ⟨Z, h1, h2, h3, h4, h5⟩ := h
  exact (bk_of h1 f wf).mono fun e w' ⟨v', he, hp, _, hb⟩ => ⟨v', he, hp, h'.fresh hb⟩
theorem MvAt.put (h : MvAt w gB b v l W) (p : Pl) (hl : l.length ≤ 100000) :
    Calls Try.prog 10 #[v, .agg #[.int .i64 p.c, .int .i64 p.g]] W fun e w' => ∃ v', e = .returned v' ∧ MvAt w gB b v' (putP l p) w' := by
  obtain ⟨Z, h1, h2, h3, h4, h5⟩ := h
  exact (refPut_any v l p W h4 h5 hl).mono fun e w' ⟨v', he, ⟨k1, k2, k3⟩, k4⟩ => ⟨v', he, ⟨_, h1.widen k4 (fun k hk => hk.imp id (fun h => h.1)), fun k hk => hk.elim (fun h => Nat.lt_of_lt_of_le (h2 k h) k4.size) (fun h => h.2), k1.newZ k3 h3, k1, k2⟩⟩
theorem MvAt.places (h : MvAt w gB b v l W) {v' : Value} (hp : Pls W W.heap.size v' l) :
    Calls Try.prog 14 #[v', v] W fun e w' => e = .returned (.bool true) ∧ MvAt w gB b v l w' := by
  have h' := h
  obtain ⟨Z, h1, h2, h3, h4, h5⟩ := h
  exact (refPlaces_any v' v l l _ _ W hp h4).mono fun e w' ⟨he, hd⟩ => ⟨by rw [he, decide_eq_true rfl], h'.fresh (drew_below hd)⟩
end
set_option maxRecDepth 20000 in
set_option maxHeartbeats 3200000 in
theorem backMoves_any (v1 v2 : Value) (la lb : List Pl) (w : World) (h1 : Pls w w.heap.size v1 la) (h2 : Pls w w.heap.size v2 lb) (wa : ∀ p ∈ la, WPl p) (wb : ∀ p ∈ lb, WPl p) (ha0 : la ≠ []) (ha : la.length ≤ 40) (hb : lb.length ≤ 40) :
    Calls Try.prog 6 #[v1, v2] w fun e w' => e = .returned (.bool true) ∧ Below w.heap.size w w' := by
  obtain ⟨A1, n1, c1, rfl, hn1, _, hc1, _, hx1⟩ := h1
  obtain ⟨A2, n2, c2, rfl, hn2, _, hc2, _, hx2⟩ := h2
  have HX1 := Lib.hid hx1
  have HX2 := Lib.hid hx2
  have HN1 := Lib.hid hn1
  have HN2 := Lib.hid hn2
  have WA := Lib.hid wa
  have WB := Lib.hid wb
  have HA := Lib.hid ha
  have HBL := Lib.hid hb
  have HA0 := Lib.hid ha0
  have hn0 : n1 ≠ 0 := fun e => ha0 (List.eq_nil_of_length_eq_zero (by omega))
  have hl1 : n1 ≤ 40 := by omega
  have hl2 : n2 ≤ 40 := by omega
  have t0 : ((n1 : Int) == 0) = false := by simp; omega
  have t1 : decide ((40 : Int) < (n1 : Int)) = false := decide_eq_false (by omega)
  have t2 : decide ((40 : Int) < (n2 : Int)) = false := decide_eq_false (by omega)
  clear hx1 hx2 hn1 hn2 wa wb ha hb ha0 hc1 hc2
  go_enter Try.func6, Try.ntmps6
  go_wp2_with fail
  refine (bk_new w (fun _ => False) (noZ w)).mono ?_
  rintro e w1 ⟨gB, rfl, h1⟩
  have M1 := Lib.hid (show MvAt w gB (updB bs0 1 (mrgP [] (la.take 0))) (.slice none 0 0) (mrgP [] (la.take 0)) w1 from ⟨_, by
    rw [show updB bs0 1 (mrgP [] (la.take 0)) = bs0 from updB_id bs0 1]
    exact h1, noZ w1, (fun a n c e => by cases e), Pls.nil_ _ _, ⟨_, _, _, rfl, .inl rfl⟩⟩)
  clear h1
  go_wp2_with fail
  go_loopg [6, 7] n1 (fun gg s6 s7 wx => ∃ i : Nat, i + gg = n1 ∧ s7 = .int .i64 (i : Int) ∧ MvAt w gB (updB bs0 1 (mrgP [] (la.take i))) s6 (mrgP [] (la.take i)) wx)
  case atStart => exact ⟨0, by omega, rfl, M1.out⟩
  case round =>
    obtain ⟨i, hi, rfl, hm⟩ := hrel
    have M := Lib.hid hm
    clear hm M1
    by_cases hlt : i < n1
    · have u1 : decide ((i : Int) < (n1 : Int)) = true := decide_eq_true (by omega)
      have u2 : (i : Int) < (n1 : Int) := by omega
      have u3 : (0 : Int) ≤ (i : Int) := by omega
      obtain ⟨bb, oo, rfl, hbl, hce⟩ := HX1.out (by omega)
      obtain ⟨d0, d1⟩ := hce i hlt
      obtain ⟨⟨x1, x2⟩, hxx⟩ : ∃ x, x = la.getD i pl0 := ⟨_, rfl⟩
      rw [← hxx] at d0 d1
      have hge : la[i]? = some ⟨x1, x2⟩ := by
        rw [List.getElem?_eq_getElem (by have := HN1.out; omega), hxx, List.getD_eq_getElem?_getD, List.getElem?_eq_getElem (by have := HN1.out; omega)]
        rfl
      have MT := Lib.hid (mrg_take hge)
      have MT2 := Lib.hid (mrg_take' (a := []) hge)
      have hw := WA.out _ (List.mem_of_getElem? hge)
      have hbw := M.out.bel
      replace d0 : wr.cell? ⟨bb, oo + i * 2, none⟩ = some (.int .i64 x1) := (hbw.cell (p := ⟨bb, oo + i * 2, none⟩) hbl).trans d0
      replace d1 : wr.cell? ⟨bb, oo + i * 2 + 1, none⟩ = some (.int .i64 x2) := (hbw.cell (p := ⟨bb, oo + i * 2 + 1, none⟩) hbl).trans d1
      have HBla := Lib.hid hbl
      have HBD := Lib.hid (mrg_nil_length la i HA.out)
      have HBD2 := Lib.hid (mrg_nil_length la i HA.out)
      have CA := Lib.hid (M.out.add 1 ⟨x1, x2⟩ (by decide) hw (by rw [updB_same]; have := HBD.out; omega) (few1 _ _))
      rw [updB_same, updB_twice, ← MT.out] at CA
      clear hce hxx hge hw hbw hbl
      go_wp2_with fail
      refine CA.out.mono ?_
      rintro e w3 ⟨rfl, h4, h5⟩
      have M3 := Lib.hid h4
      replace d0 : w3.cell? ⟨bb, oo + i * 2, none⟩ = some (.int .i64 x1) := (cell_of_heap (h5 bb HBla.out)).trans d0
      replace d1 : w3.cell? ⟨bb, oo + i * 2 + 1, none⟩ = some (.int .i64 x2) := (cell_of_heap (h5 bb HBla.out)).trans d1
      clear h4 h5
      have CP := Lib.hid (M3.out.put ⟨x1, x2⟩ (by have := HBD2.out; omega))
      rw [← MT.out] at CP
      go_wp2_with fail
      refine CP.out.mono ?_
      rintro e w4 ⟨v4, rfl, h6⟩
      have M4 := Lib.hid h6
      clear h6 d0 d1
      go_wp2_with fail
      go_roundg (n1 - (i + 1))
      case measure => omega
      case rel => exact ⟨i + 1, by omega, by go_num, M4.out⟩
    · obtain rfl : i = n1 := by omega
      have u1 : decide ((i : Int) < (i : Int)) = false := decide_eq_false (by omega)
      obtain ⟨G, rfl⟩ : ∃ G, G = gk := ⟨_, rfl⟩
      obtain ⟨LA, hLA⟩ : ∃ LA, LA = mrgP [] la := ⟨_, rfl⟩
      have M2 := Lib.hid (show MvAt w gB (updB (updB bs0 1 LA) 2 (mrgP [] (lb.take 0))) u6 (mrgP LA (lb.take 0)) wr from by
        have h := M.out
        rw [List.take_of_length_le (by rw [HN1.out]; exact Nat.le_refl _), ← hLA] at h
        rw [show updB (updB bs0 1 LA) 2 (mrgP [] (lb.take 0)) = updB bs0 1 LA from updB_id (updB bs0 1 LA) 2]
        exact h)
      have HLA := Lib.hid hLA
      have HLL := Lib.hid (show LA.length ≤ 40 from by rw [hLA]; have := mrgP_length [] la; have := HA.out; simp only [List.length_nil] at *; omega)
      have HLN := Lib.hid (show LA ≠ [] from fun e => by
        obtain ⟨x, hx⟩ := List.exists_mem_of_ne_nil la HA0.out
        have : x ∈ LA := by rw [hLA]; exact mem_mrgP.2 (.inr hx)
        rw [e] at this
        exact absurd this List.not_mem_nil)
      clear hLA M
      go_wp2_with fail
      go_loopg [6, 8] n2 (fun gg s6 s8 wx => ∃ i : Nat, i + gg = n2 ∧ s8 = .int .i64 (i : Int) ∧ MvAt w gB (updB (updB bs0 1 LA) 2 (mrgP [] (lb.take i))) s6 (mrgP LA (lb.take i)) wx)
      case atStart => exact ⟨0, by omega, rfl, M2.out⟩
      case round =>
        obtain ⟨j, hj, rfl, hm⟩ := hrel
        have M := Lib.hid hm
        clear hm M2
        by_cases hlt2 : j < n2
        · have u1 : decide ((j : Int) < (n2 : Int)) = true := decide_eq_true (by omega)
          have u2 : (j : Int) < (n2 : Int) := by omega
          have u3 : (0 : Int) ≤ (j : Int) := by omega
          obtain ⟨bb, oo, rfl, hbl, hce⟩ := HX2.out (by omega)
          obtain ⟨d0, d1⟩ := hce j hlt2
          obtain ⟨⟨x1, x2⟩, hxx⟩ : ∃ x, x = lb.getD j pl0 := ⟨_, rfl⟩
          rw [← hxx] at d0 d1
          have hge : lb[j]? = some ⟨x1, x2⟩ := by
            rw [List.getElem?_eq_getElem (by have := HN2.out; omega), hxx, List.getD_eq_getElem?_getD, List.getElem?_eq_getElem (by have := HN2.out; omega)]
            rfl
          have MT := Lib.hid (mrg_take hge)
          have MT2 := Lib.hid (mrg_take' (a := LA) hge)
          have hw := WB.out _ (List.mem_of_getElem? hge)
          have hbw := M.out.bel
          replace d0 : wr.cell? ⟨bb, oo + j * 2, none⟩ = some (.int .i64 x1) := (hbw.cell (p := ⟨bb, oo + j * 2, none⟩) hbl).trans d0
          replace d1 : wr.cell? ⟨bb, oo + j * 2 + 1, none⟩ = some (.int .i64 x2) := (hbw.cell (p := ⟨bb, oo + j * 2 + 1, none⟩) hbl).trans d1
          have HBlb := Lib.hid hbl
          have HBD := Lib.hid (mrg_nil_length lb j HBL.out)
          have HBD2 := Lib.hid (show (mrgP LA (lb.take j)).length ≤ 80 from by have := mrgP_length LA (lb.take j); have h9 : (lb.take j).length ≤ lb.length := List.length_take_le' j lb; have := HLL.out; have := HBL.out; omega)
          have CA := Lib.hid (M.out.add 2 ⟨x1, x2⟩ (by decide) hw (by rw [updB_same]; have := HBD.out; omega) (few2 _ _ _ _))
          rw [updB_same, updB_twice, ← MT.out] at CA
          clear hce hxx hge hw hbw hbl
          go_wp2_with fail
          refine CA.out.mono ?_
          rintro e w3 ⟨rfl, h4, h5⟩
          have M3 := Lib.hid h4
          replace d0 : w3.cell? ⟨bb, oo + j * 2, none⟩ = some (.int .i64 x1) := (cell_of_heap (h5 bb HBlb.out)).trans d0
          replace d1 : w3.cell? ⟨bb, oo + j * 2 + 1, none⟩ = some (.int .i64 x2) := (cell_of_heap (h5 bb HBlb.out)).trans d1
          clear h4 h5
          have CP := Lib.hid (M3.out.put ⟨x1, x2⟩ (by have := HBD2.out; omega))
          rw [← MT2.out] at CP
          go_wp2_with fail
          refine CP.out.mono ?_
          rintro e w4 ⟨v4, rfl, h6⟩
          have M4 := Lib.hid h6
          clear h6 d0 d1
          go_wp2_with fail
          go_roundg (n2 - (j + 1))
          case measure => omega
          case rel => exact ⟨j + 1, by omega, by go_num, M4.out⟩
        · obtain rfl : j = n2 := by omega
          have v1 : decide ((j : Int) < (j : Int)) = false := decide_eq_false (by omega)
          obtain ⟨LB, hLB⟩ : ∃ LB, LB = mrgP [] lb := ⟨_, rfl⟩
          have M3 := Lib.hid (show MvAt w gB (updB (updB bs0 1 LA) 2 LB) u6 (mrgP LA lb) wr from by
            have h := M.out
            rw [List.take_of_length_le (by rw [HN2.out]; exact Nat.le_refl _), ← hLB] at h
            exact h)
          have e1 : updB (updB bs0 1 LA) 2 LB 1 = LA := by rw [updB_other _ _ _ (by decide), updB_same]
          have e2 : updB (updB bs0 1 LA) 2 LB 2 = LB := updB_same _ _ _
          have e3 : movB (updB (updB bs0 1 LA) 2 LB) 1 2 = updB (updB bs0 1 []) 2 (mrgP LA lb) := by
            unfold movB
            rw [e1, e2, if_pos ⟨HLN.out, by decide⟩, updB_twice]
            have : mrgP LB LA = mrgP LA lb := by rw [hLB, HLA.out]; exact mrg_two la lb
            rw [this]
            funext k
            by_cases h1 : k = 1
            · subst h1
              rw [updB_same, updB_other _ _ _ (by decide), updB_same]
            · rw [updB_other _ _ _ h1]
              by_cases h2 : k = 2
              · subst h2
                rw [updB_same, updB_same]
              · rw [updB_other _ _ _ h2, updB_other _ _ _ h2, updB_other _ _ _ h1, updB_other _ _ _ h1]
          have f1 : updB (updB bs0 1 []) 2 (mrgP LA lb) 1 = [] := by rw [updB_other _ _ _ (by decide), updB_same]
          have f2 : updB (updB bs0 1 []) 2 (mrgP LA lb) 2 = mrgP LA lb := updB_same _ _ _
          have f3 : movB (updB (updB bs0 1 []) 2 (mrgP LA lb)) 1 2 = updB (updB bs0 1 []) 2 (mrgP LA lb) := if_neg fun h => h.1 f1
          have f4 : movB (updB (updB bs0 1 []) 2 (mrgP LA lb)) 2 2 = updB (updB bs0 1 []) 2 (mrgP LA lb) := if_neg fun h => h.2 rfl
          have hml : (mrgP LA lb).length ≤ 80 := by have := mrgP_length LA lb; have := HLL.out; have := HBL.out; omega
          have hlb : LB.length ≤ 40 := by rw [hLB]; have := mrgP_length [] lb; have := HBL.out; simp only [List.length_nil] at *; omega
          obtain ⟨B1, hB1⟩ : ∃ B1, B1 = updB (updB bs0 1 LA) 2 LB := ⟨_, rfl⟩
          obtain ⟨B2, hB2⟩ : ∃ B2, B2 = updB (updB bs0 1 []) 2 (mrgP LA lb) := ⟨_, rfl⟩
          have FB1 := Lib.hid (show FewM B1 from by rw [hB1]; exact few2 _ _ _ _)
          have FB2 := Lib.hid (show FewM B2 from by rw [hB2]; exact few2 _ _ _ _)
          rw [← hB1] at M3 e1 e2 e3
          rw [← hB2] at e3 f1 f2 f3 f4
          have E1 := Lib.hid e1
          have E2 := Lib.hid e2
          have E3 := Lib.hid e3
          have F1 := Lib.hid f1
          have F2 := Lib.hid f2
          have F3 := Lib.hid f3
          have F4 := Lib.hid f4
          have HML := Lib.hid hml
          have HLB := Lib.hid hlb
          clear e1 e2 e3 f1 f2 f3 f4 hml hlb hB1 hB2 hLB M
          go_wp2_with fail
          refine (bkAnswers_any _).mono ?_
          rintro e wa ⟨rfl, ha⟩
          have MA := Lib.hid (M3.out.fresh ha)
          clear ha
          go_wp2_with fail
          refine (MA.out.move 1 2 (by decide) (by decide) (by rw [E1.out, E2.out]; have := HLL.out; have := HLB.out; omega) FB1.out).mono ?_
          rintro e wb ⟨rfl, hb⟩
          rw [E3.out] at hb
          rw [decide_eq_true (show B1 1 ≠ [] ∧ (1 : Int) ≠ 2 from ⟨by rw [E1.out]; exact HLN.out, by decide⟩)]
          have MB := Lib.hid hb
          clear hb
          go_wp2_with fail
          refine (MB.out.of 2 (by decide)).mono ?_
          rintro e wc ⟨vc, rfl, hc1, hc2⟩
          rw [F2.out] at hc1
          have MC := Lib.hid hc2
          have PC := Lib.hid hc1
          clear hc1 hc2
          go_wp2_with fail
          refine (MC.out.places PC.out).mono ?_
          rintro e wd ⟨rfl, hd⟩
          have MD := Lib.hid hd
          clear hd
          go_wp2_with fail
          refine (MD.out.of 1 (by decide)).mono ?_
          rintro e we ⟨ve, rfl, he1, he2⟩
          rw [F1.out] at he1
          obtain ⟨Ae, ne, ce, rfl, hne, -⟩ := he1
          obtain rfl : ne = 0 := by rw [← hne]; rfl
          have ME := Lib.hid he2
          clear he2 hne
          go_wp2_with fail
          refine (ME.out.move 1 2 (by decide) (by decide) (by rw [F1.out, F2.out]; have := HML.out; simp only [List.length_nil]; omega) FB2.out).mono ?_
          rintro e wf ⟨rfl, hf⟩
          rw [F3.out] at hf
          rw [decide_eq_false (show ¬ (B2 1 ≠ [] ∧ (1 : Int) ≠ 2) from fun h => h.1 F1.out)]
          have MF := Lib.hid hf
          clear hf
          go_wp2_with fail
          refine (MF.out.move 2 2 (by decide) (by decide) (by rw [F2.out]; have := HML.out; omega) FB2.out).mono ?_
          rintro e wg ⟨rfl, hg⟩
          rw [decide_eq_false (show ¬ (B2 2 ≠ [] ∧ (2 : Int) ≠ 2) from fun h => h.2 rfl)]
          have MG := Lib.hid hg
          clear hg
          go_wp2
          go_ret
          exact ⟨rfl, MG.out.bel⟩
end Go.Proofs.Ytgbkpcmgfjdhdaa

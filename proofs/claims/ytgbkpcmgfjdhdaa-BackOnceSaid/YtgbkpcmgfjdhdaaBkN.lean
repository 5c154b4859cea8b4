/-
  BackOnce answers true for any place, any frame and any number.
  Conditions: the numbers are an int's.
-/
import Derived.Test.YtgbkpcmgfjdhdaaBkL
namespace Go.Proofs.Ytgbkpcmgfjdhdaa
open Go.RowKit
set_option linter.unusedVariables false

/-- What holds while the answer is found. -/
structure OnS (w0 : World) (gB g3 gL o : Nat) (c g : Int) (b : BS) (W : World) : Prop where
  t : BkT w0 W gB b (fun k => k = g3 ∨ k = gL)
  l3 : g3 < W.heap.size
  lL : gL < W.heap.size
  c0 : W.cell? ⟨g3, 0, none⟩ = some (.int .i64 c)
  c1 : W.cell? ⟨g3, 1, none⟩ = some (.int .i64 g)
  d0 : W.cell? ⟨gL, o, none⟩ = some (.int .i64 c)
  d1 : W.cell? ⟨gL, o + 1, none⟩ = some (.int .i64 g)
section
variable {w0 W W' : World} {gB g3 gL o : Nat} {c g : Int} {b b' : BS}
theorem OnS.fresh (h : OnS w0 gB g3 gL o c g b W) (hb : Below W.heap.size W W') : OnS w0 gB g3 gL o c g b W' :=
  ⟨h.t.fresh hb, Nat.lt_of_lt_of_le h.l3 hb.size, Nat.lt_of_lt_of_le h.lL hb.size, (hb.cell (p := ⟨g3, 0, none⟩) h.l3).trans h.c0, (hb.cell (p := ⟨g3, 1, none⟩) h.l3).trans h.c1, (hb.cell (p := ⟨gL, o, none⟩) h.lL).trans h.d0, (hb.cell (p := ⟨gL, o + 1, none⟩) h.lL).trans h.d1⟩
theorem OnS.cells (h : OnS w0 gB g3 gL o c g b W) : W.cell? ⟨g3, 0, none⟩ = some (.int .i64 c) ∧ W.cell? ⟨g3, 1, none⟩ = some (.int .i64 g) ∧ W.cell? ⟨gL, o, none⟩ = some (.int .i64 c) ∧ W.cell? ⟨gL, o + 1, none⟩ = some (.int .i64 g) := ⟨h.c0, h.c1, h.d0, h.d1⟩
theorem cell_same {w w' : World} {k i : Nat} (h : w'.heap[k]? = w.heap[k]?) : w'.cell? ⟨k, i, none⟩ = w.cell? ⟨k, i, none⟩ := by
  unfold World.cell?
  simp only [h]
theorem OnS.post (h : OnS w0 gB g3 gL o c g b W) {v : Value} {e : Ending} (hp : BkPost w0 W gB v b' (fun k => k = g3 ∨ k = gL) e W') : e = .returned v ∧ OnS w0 gB g3 gL o c g b' W' := by
  obtain ⟨he, h1, h2, _, h4⟩ := hp
  have k3 := h2 g3 h.l3 (.inl rfl)
  have kL := h2 gL h.lL (.inr rfl)
  exact ⟨he, h1, Nat.lt_of_lt_of_le h.l3 h4, Nat.lt_of_lt_of_le h.lL h4, (cell_same k3).trans h.c0, (cell_same k3).trans h.c1, (cell_same kL).trans h.d0, (cell_same kL).trans h.d1⟩
theorem OnS.z (h : OnS w0 gB g3 gL o c g b W) : ∀ k, (k = g3 ∨ k = gL) → k < W.heap.size := by
  rintro k (rfl | rfl)
  · exact h.l3
  · exact h.lL
end
theorem upd_once (f : Int) (p : Pl) : updB bs0 f (putP (bs0 f) p) = updB bs0 f [p] := rfl
theorem upd_twice (f : Int) (p : Pl) : updB (updB bs0 f [p]) f (putP (updB bs0 f [p] f) p) = updB bs0 f [p] := by
  funext k
  rw [updB_same]
  by_cases h : k = f
  · subst h
    rw [updB_same, updB_same]
    exact putP_in (List.pairwise_singleton _ _) List.mem_cons_self
  · rw [updB_other _ _ _ h]
theorem upd_out (f : Int) (p : Pl) : updB (updB bs0 f [p]) f ((updB bs0 f [p] f).erase p) = bs0 := by
  funext k
  rw [updB_same]
  by_cases h : k = f
  · subst h
    rw [updB_same, List.erase_cons_head]
    rfl
  · rw [updB_other _ _ _ h, updB_other _ _ _ h]
theorem upd_none (f : Int) (p : Pl) : updB bs0 f ((bs0 f).erase p) = bs0 := by
  funext k
  by_cases h : k = f
  · subst h
    rw [updB_same]
    rfl
  · rw [updB_other _ _ _ h]
theorem frames_one {l : List Int} {f : Int} {p : Pl} (h1 : l.Pairwise (fun x y => x < y)) (h2 : ∀ k, k ∈ l ↔ ∃ q ∈ updB bs0 f [p] k, q.c = p.c) : l = [f] := by
  have hm : ∀ k, k ∈ l ↔ k = f := fun k => by
    rw [h2]
    by_cases h : k = f
    · subst h
      rw [updB_same]
      exact ⟨fun _ => rfl, fun _ => ⟨p, List.mem_cons_self, rfl⟩⟩
    · rw [updB_other _ _ _ h]
      exact ⟨fun ⟨q, hq, _⟩ => absurd hq List.not_mem_nil, fun e => absurd e h⟩
  match l, h1, hm with
  | [], _, hm => exact absurd ((hm f).2 rfl) List.not_mem_nil
  | [x], _, hm => rw [(hm x).1 List.mem_cons_self]
  | x :: y :: l, h1, hm =>
    have e1 := (hm x).1 List.mem_cons_self
    have e2 := (hm y).1 (List.mem_cons_of_mem _ List.mem_cons_self)
    have := (List.pairwise_cons.1 h1).1 y List.mem_cons_self
    omega
theorem mov_none (f t : Int) : movB bs0 f t = bs0 := if_neg fun h => h.1 rfl
set_option maxRecDepth 20000 in
set_option maxHeartbeats 3200000 in
theorem backOnce_any (c g f : Int) (n : Nat) (w : World) (hn : n < 256) (wc : W64 c) (wg : W64 g) (wf : W64 f) :
    Calls Try.prog 5 #[.agg #[.int .i64 c, .int .i64 g], .int .i64 f, .int .u8 n] w fun e w' => e = .returned (.bool true) ∧ Below w.heap.size w w' := by
  obtain ⟨r, hr⟩ : ∃ r, r = n % 5 := ⟨_, rfl⟩
  have r1 : (n : Int).tmod 5 = (r : Int) := by rw [Int.tmod_eq_emod_of_nonneg (by omega)]; omega
  have r2 : (n : Int) % 5 = (r : Int) := by omega
  have hr5 : r < 5 := by omega
  have WC := Lib.hid wc
  have WG := Lib.hid wg
  have WF := Lib.hid wf
  have HB := Lib.hid (belAl (Below.refl w.heap.size w) (.cells #[.int .i64 c, .int .i64 g] 29))
  have HK := Lib.hid (Blk.new w 29 #[.int .i64 c, .int .i64 g])
  obtain ⟨g3, hg3⟩ : ∃ g3, g3 = w.heap.size := ⟨_, rfl⟩
  clear hr wc wg wf
  go_enter Try.func5, Try.ntmps5
  go_wp2_with fail
  obtain ⟨W1, hW1⟩ : ∃ W1, W1 = w.alloc (.cells #[.int .i64 c, .int .i64 g] 29) := ⟨_, rfl⟩
  rw [← hW1] at HB HK ⊢
  rw [← hg3] at HK ⊢
  have HG := Lib.hid hg3
  clear hW1 hg3
  refine (bk_new W1 (fun k => k = g3) (fun k hk => by rw [hk]; exact HK.out.lt)).mono ?_
  rintro e w2 ⟨gB, rfl, h2⟩
  have H2 := Lib.hid h2
  have K2 := Lib.hid (HK.out.below h2.bel HK.out.lt)
  clear h2
  go_wp2_with fail
  go_loopg [8] (r + 1) (fun gg s8 wx => ∃ i b, i + gg = r + 1 ∧ s8 = .int .i64 (i : Int) ∧ BkT W1 wx gB b (fun k => k = g3) ∧ Blk wx g3 29 #[.int .i64 c, .int .i64 g] ∧ (b = bs0 ∧ i = 0 ∨ b = updB bs0 f [⟨c, g⟩] ∧ 0 < i))
  case atStart => exact ⟨0, bs0, by omega, rfl, H2.out, K2.out, .inl ⟨rfl, rfl⟩⟩
  case round =>
    obtain ⟨i, b, hi, rfl, h1, h2, h3⟩ := hrel
    have H := Lib.hid h1
    have K := Lib.hid h2
    have k0 := h2.cell 0
    have k1 := h2.cell 1
    clear h1 h2 H2 K2
    by_cases hlt : i < r + 1
    · have u1 : decide ((i : Int) ≤ (r : Int)) = true := decide_eq_true (by omega)
      have hu : updB b f (putP (b f) ⟨c, g⟩) = updB bs0 f [⟨c, g⟩] := by
        rcases h3 with ⟨rfl, _⟩ | ⟨rfl, _⟩
        · exact upd_once f _
        · exact upd_twice f _
      have hl : (b f).length ≤ 100000 := by
        rcases h3 with ⟨rfl, _⟩ | ⟨rfl, _⟩
        · exact Nat.zero_le _
        · rw [updB_same]; simp
      have hM : FewM b := by
        rcases h3 with ⟨rfl, _⟩ | ⟨rfl, _⟩
        · exact few0
        · exact few1 _ _
      have HA := Lib.hid (bk_add H.out (fun k hk => by rw [hk]; exact K.out.lt) f ⟨c, g⟩ WF.out ⟨WC.out, WG.out⟩ hl hM)
      rw [hu] at HA
      clear hu hl h3 hM
      go_wp2_with fail
      refine HA.out.mono ?_
      rintro e w3 ⟨rfl, h4, h5, -, h6⟩
      have K3 := Lib.hid (show Blk w3 g3 29 #[.int .i64 c, .int .i64 g] from (h5 g3 K.out.lt rfl).trans K.out)
      have H3 := Lib.hid h4
      clear h4 h5 h6 k0 k1
      go_wp2_with fail
      go_roundg (r + 1 - (i + 1))
      case measure => omega
      case rel => exact ⟨i + 1, _, by omega, by go_num, H3.out, K3.out, .inr ⟨rfl, by omega⟩⟩
    · obtain rfl : i = r + 1 := by omega
      have u1 : decide (((r + 1 : Nat) : Int) ≤ (r : Int)) = false := decide_eq_false (by omega)
      have u2 : decide ((r : Int) + 1 ≤ (r : Int)) = false := decide_eq_false (by omega)
      rcases h3 with ⟨_, h3⟩ | ⟨rfl, _⟩
      · omega
      go_wp2_with fail
      refine (bk_of H.out f WF.out).mono ?_
      rintro e w4 ⟨v, rfl, h4, hnv, hb4⟩
      rw [updB_same] at h4
      obtain ⟨A4, n4, c4, rfl, hn4, hnc4, hm4, hA4, hx4⟩ := h4
      obtain rfl : n4 = 1 := by rw [← hn4]; rfl
      obtain ⟨gL, o, rfl, hgL, hce⟩ := hx4 (by omega)
      obtain ⟨d0, d1⟩ := hce 0 (by omega)
      have hgN := hnv _ _ _ rfl (by omega)
      have S4 := Lib.hid (show OnS W1 gB g3 gL o c g (updB bs0 f [⟨c, g⟩]) w4 from ⟨H.out.widen hb4 (fun k hk => by
        rcases hk with hk | hk
        · exact .inl hk
        · exact .inr (by rw [hk]; exact hgN)), Nat.lt_of_lt_of_le K.out.lt hb4.size, hgL, (K.out.below hb4 K.out.lt).cell 0, (K.out.below hb4 K.out.lt).cell 1, d0, d1⟩)
      have k0 := S4.out.c0
      clear d0 d1 hce hx4 hn4 hnc4 hm4 hA4 hnv hgN hgL hb4 k1
      go_wp2_with fail
      refine (bk_frames S4.out.t c WC.out (few1 _ _)).mono ?_
      rintro e w5 ⟨v5, l5, rfl, h5, h5s, h5m, hb5⟩
      obtain rfl : l5 = [f] := frames_one h5s h5m
      have S5 := Lib.hid (S4.out.fresh hb5)
      have I5 := Lib.hid h5
      obtain ⟨A5, n5, c5, rfl, hn5, -⟩ := h5
      obtain rfl : n5 = 1 := by rw [← hn5]; rfl
      clear hb5 h5s h5m hn5 k0
      have hu1 := upd_out f ⟨c, g⟩
      have hu2 := upd_none f ⟨c, g⟩
      have CA := Lib.hid (fun (W : World) (h : OnS W1 gB g3 gL o c g (updB bs0 f [⟨c, g⟩]) W ∧ Below w5.heap.size w5 W) => (show Calls Try.prog 7 #[] W fun e w' => e = .returned (.bool true) ∧ OnS W1 gB g3 gL o c g (updB bs0 f [⟨c, g⟩]) w' ∧ Below w5.heap.size w5 w' from
        (bkAnswers_any W).mono fun e w' ⟨he, hb⟩ => ⟨he, h.1.fresh hb, h.2.trans (hb.mono h.2.size)⟩))
      have CI := Lib.hid (fun (W : World) (h : OnS W1 gB g3 gL o c g (updB bs0 f [⟨c, g⟩]) W ∧ Below w5.heap.size w5 W) => (show Calls Try.prog 16 #[.slice A5 1 c5, .slice (some ⟨W.heap.size, 0, none⟩) 1 1] (W.alloc (.cells #[.int .i64 f] 3)) fun e w' => e = .returned (.bool true) ∧ OnS W1 gB g3 gL o c g (updB bs0 f [⟨c, g⟩]) w' from
        (ints_any _ _ [f] [f] _ _ _ (I5.out.below (h.2.alloc h.2.size _)) (Its.of_lit (xs := [f]) (Blk.new W 3 #[.int .i64 f]) (by simp [maxLen]))).mono fun e w' ⟨he, hd⟩ => ⟨by rw [he, decide_eq_true rfl], (h.1.fresh (belAl (Below.refl _ _) _)).fresh (drew_below hd)⟩))
      have CL := Lib.hid (fun (W : World) (h : OnS W1 gB g3 gL o c g (updB bs0 f [⟨c, g⟩]) W) => (h.fresh (belAl (Below.refl _ _) (.cells #[.int .i64 f] 3))).cells)
      have C1 := Lib.hid (fun (W : World) (h : OnS W1 gB g3 gL o c g (updB bs0 f [⟨c, g⟩]) W) => (show Calls Try.prog 12 #[.pointer (some ⟨gB, 0, none⟩), .int .i64 f, .agg #[.int .i64 c, .int .i64 g]] W fun e w' => e = .returned (.bool true) ∧ OnS W1 gB g3 gL o c g bs0 w' from by
        have hd := bk_drop h.t h.z f ⟨c, g⟩ WF.out ⟨WC.out, WG.out⟩
        rw [hu1, decide_eq_true (by rw [updB_same]; exact List.mem_cons_self)] at hd
        exact hd.mono fun e w' hp => h.post hp))
      have C2 := Lib.hid (fun (W : World) (h : OnS W1 gB g3 gL o c g bs0 W) => (show Calls Try.prog 12 #[.pointer (some ⟨gB, 0, none⟩), .int .i64 f, .agg #[.int .i64 c, .int .i64 g]] W fun e w' => e = .returned (.bool false) ∧ OnS W1 gB g3 gL o c g bs0 w' from by
        have hd := bk_drop h.t h.z f ⟨c, g⟩ WF.out ⟨WC.out, WG.out⟩
        rw [hu2, decide_eq_false (show (⟨c, g⟩ : Pl) ∉ bs0 f from List.not_mem_nil)] at hd
        exact hd.mono fun e w' hp => h.post hp))
      have C3 := Lib.hid (fun (W : World) (h : OnS W1 gB g3 gL o c g bs0 W) => (show Calls Try.prog 15 #[.pointer (some ⟨gB, 0, none⟩), .int .i64 f] W fun e w' => ∃ A c', e = .returned (.slice A 0 c') ∧ OnS W1 gB g3 gL o c g bs0 w' from
        (bk_of h.t f WF.out).mono fun e w' ⟨v, he, hp, _, hb⟩ => by
          obtain ⟨A, n, c', rfl, hn, _⟩ := hp
          obtain rfl : n = 0 := by rw [← hn]; rfl
          exact ⟨A, c', he, h.fresh hb⟩))
      have C4 := Lib.hid (fun (W : World) (h : OnS W1 gB g3 gL o c g bs0 W) => (show Calls Try.prog 17 #[.pointer (some ⟨gB, 0, none⟩), .int .i64 c] W fun e w' => ∃ A c', e = .returned (.slice A 0 c') ∧ OnS W1 gB g3 gL o c g bs0 w' from
        (bk_frames h.t c WC.out few0).mono fun e w' ⟨v, l, he, hp, _, hm, hb⟩ => by
          have hl : l = [] := List.eq_nil_iff_forall_not_mem.2 fun k hk => by
            obtain ⟨q, hq, _⟩ := (hm k).1 hk
            exact absurd hq List.not_mem_nil
          subst hl
          obtain ⟨A, n, c', rfl, hn, _⟩ := hp
          obtain rfl : n = 0 := by rw [← hn]; rfl
          exact ⟨A, c', he, h.fresh hb⟩))
      have C5 := Lib.hid (fun (W : World) (h : OnS W1 gB g3 gL o c g bs0 W) => (show Calls Try.prog 13 #[.pointer (some ⟨gB, 0, none⟩), .int .i64 f, .int .i64 (IntKind.i64.wrap (f + 1))] W fun e w' => e = .returned (.bool false) ∧ OnS W1 gB g3 gL o c g bs0 w' from by
        have hd := bk_move h.t h.z f (IntKind.i64.wrap (f + 1)) WF.out (by show (Lit.int .i64 (IntKind.i64.wrap (f + 1))).wf = true; rw [IntKind.wrap_i64]; exact WalkArith.wf_i64 (by omega)) (by show ([] : List Pl).length + ([] : List Pl).length ≤ 100000; simp) few0
        rw [mov_none, decide_eq_false (fun h => h.1 rfl)] at hd
        exact hd.mono fun e w' hp => h.post hp))
      have SC := Lib.hid (fun (W : World) (b : BS) (h : OnS W1 gB g3 gL o c g b W) => h.cells)
      have S0 := Lib.hid (show OnS W1 gB g3 gL o c g (updB bs0 f [⟨c, g⟩]) w5.drew ∧ Below w5.heap.size w5 w5.drew from ⟨S5.out.fresh (Below.refl _ _).drew, (Below.refl _ _).drew⟩)
      clear hu1 hu2
      have S00 := SC.out _ _ S0.out.1
      generalize updB bs0 f [⟨c, g⟩] = b1 at CA CI CL C1 S0
      generalize bs0 = b0 at C1 C2 C3 C4 C5
      go_wp2_with fail
      go_region_held3 (fun w' => w'.cell? ⟨g3, 0, none⟩ = some (.int .i64 c) ∧ w'.cell? ⟨g3, 1, none⟩ = some (.int .i64 g) ∧ w'.cell? ⟨gL, o, none⟩ = some (.int .i64 c) ∧ w'.cell? ⟨gL, o + 1, none⟩ = some (.int .i64 g))
        (first
          | assumption
          | (with_reducible exact CL.out _ (by assumption)))
        (first
          | (go_at_call 7; refine (CA.out _ S0.out).mono ?_; rintro e w' ⟨rfl, h1, h1b⟩; have s1 := SC.out _ _ h1)
          | (go_at_call 16; with_reducible refine (CI.out _ ⟨by assumption, by assumption⟩).mono ?_; rintro e w' ⟨rfl, h2⟩; have s2 := SC.out _ _ h2)
          | (go_at_call 12; with_reducible refine (C1.out _ (by assumption)).mono ?_; rintro e w' ⟨rfl, h3⟩; have s3 := SC.out _ _ h3)
          | (go_at_call 12; with_reducible refine (C2.out _ (by assumption)).mono ?_; rintro e w' ⟨rfl, h4⟩; have s4 := SC.out _ _ h4)
          | (go_at_call 15; with_reducible refine (C3.out _ (by assumption)).mono ?_; rintro e w' ⟨A6, c6, rfl, h5⟩; have s5 := SC.out _ _ h5)
          | (go_at_call 17; with_reducible refine (C4.out _ (by assumption)).mono ?_; rintro e w' ⟨A7, c7, rfl, h6⟩; have s6 := SC.out _ _ h6)
          | (go_at_call 13; with_reducible refine (C5.out _ (by assumption)).mono ?_; rintro e w' ⟨rfl, h7⟩; have s7 := SC.out _ _ h7))
      go_wp2
      go_ret
      exact ⟨rfl, HB.out.trans (h7.t.bel.mono HB.out.size)⟩
end Go.Proofs.Ytgbkpcmgfjdhdaa

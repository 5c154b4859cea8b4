/-
  SwapOnce answers true for any place, any slot and any number.
  Conditions: none beside swap's contracts.
-/
import Derived.Test.YthfcmfhmaokioaaSwpA
import Derived.Test.YthfcmfhmaokioaaInts
namespace Go.Proofs.Ythfcmfhmaokioaa
open Go.RowKit
set_option linter.unusedVariables false

/-- What holds while the answer is found. -/
structure OnW (w0 : World) (gS g3 gL o : Nat) (c g : Int) (s : SS) (W : World) : Prop where
  t : SwpT w0 W gS s (fun k => k = g3 ∨ k = gL)
  l3 : g3 < W.heap.size
  lL : gL < W.heap.size
  c0 : W.cell? ⟨g3, 0, none⟩ = some (.int .i64 c)
  c1 : W.cell? ⟨g3, 1, none⟩ = some (.int .i64 g)
  d0 : W.cell? ⟨gL, o, none⟩ = some (.int .i64 c)
  d1 : W.cell? ⟨gL, o + 1, none⟩ = some (.int .i64 g)
section
variable {w0 W W' : World} {gS g3 gL o : Nat} {c g : Int} {s s' : SS}
theorem OnW.fresh (h : OnW w0 gS g3 gL o c g s W) (hb : Below W.heap.size W W') : OnW w0 gS g3 gL o c g s W' :=
  ⟨h.t.fresh hb, Nat.lt_of_lt_of_le h.l3 hb.size, Nat.lt_of_lt_of_le h.lL hb.size, (hb.cell (p := ⟨g3, 0, none⟩) h.l3).trans h.c0, (hb.cell (p := ⟨g3, 1, none⟩) h.l3).trans h.c1, (hb.cell (p := ⟨gL, o, none⟩) h.lL).trans h.d0, (hb.cell (p := ⟨gL, o + 1, none⟩) h.lL).trans h.d1⟩
theorem OnW.cells (h : OnW w0 gS g3 gL o c g s W) : W.cell? ⟨g3, 0, none⟩ = some (.int .i64 c) ∧ W.cell? ⟨g3, 1, none⟩ = some (.int .i64 g) ∧ W.cell? ⟨gL, o, none⟩ = some (.int .i64 c) ∧ W.cell? ⟨gL, o + 1, none⟩ = some (.int .i64 g) := ⟨h.c0, h.c1, h.d0, h.d1⟩
theorem OnW.post (h : OnW w0 gS g3 gL o c g s W) {v : Value} {e : Ending} (hp : SPost w0 W gS v s' (fun k => k = g3 ∨ k = gL) e W') : e = .returned v ∧ OnW w0 gS g3 gL o c g s' W' := by
  obtain ⟨he, h1, h2, _, h4⟩ := hp
  have k3 := h2 g3 h.l3 (.inl rfl)
  have kL := h2 gL h.lL (.inr rfl)
  exact ⟨he, h1, Nat.lt_of_lt_of_le h.l3 h4, Nat.lt_of_lt_of_le h.lL h4, (cell_of_heap k3).trans h.c0, (cell_of_heap k3).trans h.c1, (cell_of_heap kL).trans h.d0, (cell_of_heap kL).trans h.d1⟩
theorem OnW.z (h : OnW w0 gS g3 gL o c g s W) : ∀ k, (k = g3 ∨ k = gL) → k < W.heap.size := by
  rintro k (rfl | rfl)
  · exact h.l3
  · exact h.lL
end
theorem hold_once {k : Nat} (hk : k < 32) (p : Pl) : holdS ss0 (k : Int) p = updS ss0 k [p] := by rw [hold_in hk]; rfl
theorem hold_twice {k : Nat} (hk : k < 32) (p : Pl) : holdS (updS ss0 k [p]) (k : Int) p = updS ss0 k [p] := by
  rw [hold_in hk, updS_same]
  funext j
  by_cases h : j = k
  · subst h
    rw [updS_same, updS_same]
    exact putP_in (List.pairwise_singleton _ _) List.mem_cons_self
  · rw [updS_other _ _ _ h]
theorem rel_once {k : Nat} (hk : k < 32) (p : Pl) : relS (updS ss0 k [p]) (k : Int) p = ss0 := by
  rw [rel_in hk, updS_same, List.erase_cons_head]
  funext j
  by_cases h : j = k
  · subst h
    rw [updS_same]
    rfl
  · rw [updS_other _ _ _ h, updS_other _ _ _ h]
theorem rel_zero {k : Nat} (hk : k < 32) (p : Pl) : relS ss0 (k : Int) p = ss0 := by
  rw [rel_in hk]
  funext j
  by_cases h : j = k
  · subst h
    rw [updS_same]
    rfl
  · rw [updS_other _ _ _ h]
theorem slots_one {k : Nat} (hk : k < 32) (p : Pl) : slotsS (updS ss0 k [p]) p.c 32 = [(k : Int)] := by
  have key : ∀ n, slotsS (updS ss0 k [p]) p.c n = if k < n then [(k : Int)] else [] := by
    intro n
    induction n with
    | zero => rw [if_neg (Nat.not_lt_zero _)]; rfl
    | succ n ih =>
      rw [slotsS_succ, ih]
      by_cases c : n = k
      · subst c
        rw [updS_same, if_neg (Nat.lt_irrefl _), if_pos (Nat.lt_succ_self _)]
        simp [procB]
      · rw [updS_other _ _ _ c]
        rcases Nat.lt_or_ge k n with h | h
        · rw [if_pos h, if_pos (show k < n + 1 by omega)]
          simp [procB, ss0]
        · rw [if_neg (show ¬ k < n by omega), if_neg (show ¬ k < n + 1 by omega)]
          simp [procB, ss0]
  rw [key, if_pos hk]
theorem used_zero : usedS ss0 32 = 0 := by decide
theorem hold_out (s : SS) (p : Pl) {n : Int} (h : ¬ isSlot n) : holdS s n p = s := if_neg h
set_option maxRecDepth 20000 in
set_option maxHeartbeats 3200000 in
theorem swapOnce_any (c g : Int) (x n : Nat) (w : World) (hx : x < 256) (hn : n < 256) (wp : WPl ⟨c, g⟩) :
    Calls Try.prog 7 #[.agg #[.int .i64 c, .int .i64 g], .int .u8 (x : Int), .int .u8 (n : Int)] w fun e w' => e = .returned (.bool true) ∧ Below w.heap.size w w' := by
  obtain ⟨r, hr⟩ : ∃ r, r = n % 4 := ⟨_, rfl⟩
  have r1 : (n : Int).tmod 4 = (r : Int) := by rw [Int.tmod_eq_emod_of_nonneg (by omega)]; omega
  have r2 : (n : Int) % 4 = (r : Int) := by omega
  have hr4 : r < 4 := by omega
  obtain ⟨f, hf⟩ : ∃ f, f = x % 32 := ⟨_, rfl⟩
  have r3 : (x : Int).tmod 32 = (f : Int) := by rw [Int.tmod_eq_emod_of_nonneg (by omega)]; omega
  have r4 : (x : Int) % 32 = (f : Int) := by omega
  have hf32 : f < 32 := by omega
  have HB := Lib.hid (belAl (Below.refl w.heap.size w) (.cells #[.int .i64 c, .int .i64 g] 29))
  have HK := Lib.hid (Blk.new w 29 #[.int .i64 c, .int .i64 g])
  obtain ⟨g3, hg3⟩ : ∃ g3, g3 = w.heap.size := ⟨_, rfl⟩
  have HF := Lib.hid hf32
  have WP := Lib.hid wp
  clear hr hf wp
  go_enter Try.func7, Try.ntmps7
  go_wp2_with fail
  obtain ⟨W1, hW1⟩ : ∃ W1, W1 = w.alloc (.cells #[.int .i64 c, .int .i64 g] 29) := ⟨_, rfl⟩
  rw [← hW1] at HB HK ⊢
  rw [← hg3] at HK ⊢
  have HG := Lib.hid hg3
  clear hW1 hg3
  refine (sw_new W1 W1 (Below.refl _ _) (fun k => k = g3) (fun k hk => by rw [hk]; exact HK.out.lt)).mono ?_
  rintro e w2 ⟨gS, rfl, h2, -⟩
  have H2 := Lib.hid h2
  have K2 := Lib.hid (HK.out.below h2.bel HK.out.lt)
  clear h2
  go_wp2_with fail
  go_loopg [9] (r + 1) (fun gg s9 wx => ∃ i s, i + gg = r + 1 ∧ s9 = .int .i64 (i : Int) ∧ SwpT W1 wx gS s (fun k => k = g3) ∧ Blk wx g3 29 #[.int .i64 c, .int .i64 g] ∧ (s = ss0 ∧ i = 0 ∨ s = updS ss0 f [⟨c, g⟩] ∧ 0 < i))
  case atStart => exact ⟨0, ss0, by omega, rfl, H2.out, K2.out, .inl ⟨rfl, rfl⟩⟩
  case round =>
    obtain ⟨i, s, hi, rfl, h1, h2, h3⟩ := hrel
    have H := Lib.hid h1
    have K := Lib.hid h2
    have k0 := h2.cell 0
    have k1 := h2.cell 1
    clear h1 h2 H2 K2
    by_cases hlt : i < r + 1
    · have u1 : decide ((i : Int) ≤ (r : Int)) = true := decide_eq_true (by omega)
      have hu : holdS s (f : Int) ⟨c, g⟩ = updS ss0 f [⟨c, g⟩] := by
        rcases h3 with ⟨rfl, _⟩ | ⟨rfl, _⟩
        · exact hold_once HF.out _
        · exact hold_twice HF.out _
      have hl : (s ((f : Int)).toNat).length ≤ 100000 := by
        rw [Int.toNat_natCast]
        rcases h3 with ⟨rfl, _⟩ | ⟨rfl, _⟩
        · exact Nat.zero_le _
        · rw [updS_same]; simp
      have HA := Lib.hid (sw_hold H.out (fun k hk => by rw [hk]; exact K.out.lt) (f : Int) ⟨c, g⟩ WP.out hl)
      rw [hu, isSlot_in HF.out] at HA
      clear hu hl h3
      go_wp2_with fail
      refine HA.out.mono ?_
      rintro e w3 ⟨rfl, h4, h5, -, h6⟩
      have K3 := Lib.hid (show Blk w3 g3 29 #[.int .i64 c, .int .i64 g] from (h5 g3 K.out.lt rfl).trans K.out)
      have H3 := Lib.hid h4
      clear h4 h5 h6 k0 k1
      go_wp2_with fail
      go_roundg (r + 1 - (i + 1))
      case measure => omega
      case rel => exact ⟨i + 1, _, by omega, by go_num, H3.out, K3.out, .inr ⟨rfl, by omega⟩⟩
    · obtain rfl : i = r + 1 := by omega
      have u1 : decide (((r + 1 : Nat) : Int) ≤ (r : Int)) = false := decide_eq_false (by omega)
      have u2 : decide ((r : Int) + 1 ≤ (r : Int)) = false := decide_eq_false (by omega)
      rcases h3 with ⟨_, h3⟩ | ⟨rfl, _⟩
      · omega
      go_wp2_with fail
      refine (sw_of H.out f HF.out).mono ?_
      rintro e w4 ⟨v, rfl, h4, hnv, hb4⟩
      rw [updS_same] at h4
      obtain ⟨A4, n4, c4, rfl, hn4, hnc4, hm4, hA4, hx4⟩ := h4
      obtain rfl : n4 = 1 := by rw [← hn4]; rfl
      obtain ⟨gL, o, rfl, hgL, hce⟩ := hx4 (by omega)
      obtain ⟨d0, d1⟩ := hce 0 (by omega)
      have hgN := hnv _ _ _ rfl (by omega)
      have S4 := Lib.hid (show OnW W1 gS g3 gL o c g (updS ss0 f [⟨c, g⟩]) w4 from ⟨H.out.widen hb4 (fun k hk => by
        rcases hk with hk | hk
        · exact .inl hk
        · exact .inr (by rw [hk]; exact hgN)), Nat.lt_of_lt_of_le K.out.lt hb4.size, hgL, (K.out.below hb4 K.out.lt).cell 0, (K.out.below hb4 K.out.lt).cell 1, d0, d1⟩)
      have k0 := S4.out.c0
      clear d0 d1 hce hx4 hn4 hnc4 hm4 hA4 hnv hgN hgL hb4 k1
      go_wp2_with fail
      refine (sw_slots S4.out.t c).mono ?_
      rintro e w5 ⟨v5, rfl, h5, hb5⟩
      rw [show slotsS (updS ss0 f [⟨c, g⟩]) c 32 = [(f : Int)] from slots_one HF.out ⟨c, g⟩] at h5
      have S5 := Lib.hid (S4.out.fresh hb5)
      have I5 := Lib.hid h5
      obtain ⟨A5, n5, c5, rfl, hn5, -⟩ := h5
      obtain rfl : n5 = 1 := by rw [← hn5]; rfl
      clear hb5 hn5 k0
      have hu1 := rel_once HF.out ⟨c, g⟩
      have hu2 := rel_zero HF.out ⟨c, g⟩
      have CA := Lib.hid (fun (W : World) (h : OnW W1 gS g3 gL o c g (updS ss0 f [⟨c, g⟩]) W ∧ Below w5.heap.size w5 W) => (show Calls Try.prog 8 #[] W fun e w' => e = .returned (.bool true) ∧ OnW W1 gS g3 gL o c g (updS ss0 f [⟨c, g⟩]) w' ∧ Below w5.heap.size w5 w' from
        (swpAnswers_any W).mono fun e w' ⟨he, hb⟩ => ⟨he, h.1.fresh hb, h.2.trans (hb.mono h.2.size)⟩))
      have CI := Lib.hid (fun (W : World) (h : OnW W1 gS g3 gL o c g (updS ss0 f [⟨c, g⟩]) W ∧ Below w5.heap.size w5 W) => (show Calls Try.prog 18 #[.slice A5 1 c5, .slice (some ⟨W.heap.size, 0, none⟩) 1 1] (W.alloc (.cells #[.int .i64 (f : Int)] 3)) fun e w' => e = .returned (.bool true) ∧ OnW W1 gS g3 gL o c g (updS ss0 f [⟨c, g⟩]) w' from
        (ints_any _ _ [(f : Int)] [(f : Int)] _ _ _ (I5.out.below (h.2.alloc h.2.size _)) (Its.of_lit (xs := [(f : Int)]) (Blk.new W 3 #[.int .i64 (f : Int)]) (by simp [maxLen]))).mono fun e w' ⟨he, hd⟩ => ⟨by rw [he, decide_eq_true rfl], (h.1.fresh (belAl (Below.refl _ _) _)).fresh (drew_below hd)⟩))
      have CL := Lib.hid (fun (W : World) (h : OnW W1 gS g3 gL o c g (updS ss0 f [⟨c, g⟩]) W) => (h.fresh (belAl (Below.refl _ _) (.cells #[.int .i64 (f : Int)] 3))).cells)
      have C1 := Lib.hid (fun (W : World) (h : OnW W1 gS g3 gL o c g (updS ss0 f [⟨c, g⟩]) W) => (show Calls Try.prog 13 #[.pointer (some ⟨gS, 0, none⟩), .int .i64 (f : Int), .agg #[.int .i64 c, .int .i64 g]] W fun e w' => e = .returned (.bool true) ∧ OnW W1 gS g3 gL o c g ss0 w' from by
        have hd := sw_release h.t h.z (f : Int) ⟨c, g⟩ WP.out
        rw [hu1, in_in HF.out, decide_eq_true (by rw [updS_same]; exact List.mem_cons_self)] at hd
        exact hd.mono fun e w' hp => h.post hp))
      have C2 := Lib.hid (fun (W : World) (h : OnW W1 gS g3 gL o c g ss0 W) => (show Calls Try.prog 13 #[.pointer (some ⟨gS, 0, none⟩), .int .i64 (f : Int), .agg #[.int .i64 c, .int .i64 g]] W fun e w' => e = .returned (.bool false) ∧ OnW W1 gS g3 gL o c g ss0 w' from by
        have hd := sw_release h.t h.z (f : Int) ⟨c, g⟩ WP.out
        rw [hu2, in_in HF.out, decide_eq_false (show (⟨c, g⟩ : Pl) ∉ ss0 f from List.not_mem_nil)] at hd
        exact hd.mono fun e w' hp => h.post hp))
      have C3 := Lib.hid (fun (W : World) (h : OnW W1 gS g3 gL o c g ss0 W) => (show Calls Try.prog 17 #[.pointer (some ⟨gS, 0, none⟩)] W fun e w' => e = .returned (.int .i64 0) ∧ OnW W1 gS g3 gL o c g ss0 w' from
        (sw_used h.t).mono fun e w' ⟨he, hb⟩ => ⟨by rw [he, used_zero]; rfl, h.fresh hb⟩))
      have C4 := Lib.hid (fun (W : World) (h : OnW W1 gS g3 gL o c g ss0 W) => (show Calls Try.prog 10 #[.pointer (some ⟨gS, 0, none⟩), .int .i64 32, .agg #[.int .i64 c, .int .i64 g]] W fun e w' => e = .returned (.bool false) ∧ OnW W1 gS g3 gL o c g ss0 w' from by
        have hd := sw_hold h.t h.z 32 ⟨c, g⟩ WP.out (Nat.zero_le _)
        rw [hold_out _ _ (by decide), show decide (isSlot 32) = false from rfl] at hd
        exact hd.mono fun e w' hp => h.post hp))
      have C5 := Lib.hid (fun (W : World) (h : OnW W1 gS g3 gL o c g ss0 W) => (show Calls Try.prog 10 #[.pointer (some ⟨gS, 0, none⟩), .int .i64 (-1), .agg #[.int .i64 c, .int .i64 g]] W fun e w' => e = .returned (.bool false) ∧ OnW W1 gS g3 gL o c g ss0 w' from by
        have hd := sw_hold h.t h.z (-1) ⟨c, g⟩ WP.out (Nat.zero_le _)
        rw [hold_out _ _ (by decide), show decide (isSlot (-1)) = false from rfl] at hd
        exact hd.mono fun e w' hp => h.post hp))
      have SC := Lib.hid (fun (W : World) (b : SS) (h : OnW W1 gS g3 gL o c g b W) => h.cells)
      have S0 := Lib.hid (show OnW W1 gS g3 gL o c g (updS ss0 f [⟨c, g⟩]) w5.drew ∧ Below w5.heap.size w5 w5.drew from ⟨S5.out.fresh (Below.refl _ _).drew, (Below.refl _ _).drew⟩)
      clear hu1 hu2
      have S00 := SC.out _ _ S0.out.1
      generalize updS ss0 f [⟨c, g⟩] = b1 at CA CI CL C1 S0
      generalize ss0 = b0 at C1 C2 C3 C4 C5
      go_wp2_with fail
      go_region_held3 (fun w' => w'.cell? ⟨g3, 0, none⟩ = some (.int .i64 c) ∧ w'.cell? ⟨g3, 1, none⟩ = some (.int .i64 g) ∧ w'.cell? ⟨gL, o, none⟩ = some (.int .i64 c) ∧ w'.cell? ⟨gL, o + 1, none⟩ = some (.int .i64 g))
        (first
          | assumption
          | (with_reducible exact CL.out _ (by assumption)))
        (first
          | (go_at_call 8; refine (CA.out _ S0.out).mono ?_; rintro e w' ⟨rfl, h1, h1b⟩; have s1 := SC.out _ _ h1)
          | (go_at_call 18; with_reducible refine (CI.out _ ⟨by assumption, by assumption⟩).mono ?_; rintro e w' ⟨rfl, h2⟩; have s2 := SC.out _ _ h2)
          | (go_at_call 13; with_reducible refine (C1.out _ (by assumption)).mono ?_; rintro e w' ⟨rfl, h3⟩; have s3 := SC.out _ _ h3)
          | (go_at_call 13; with_reducible refine (C2.out _ (by assumption)).mono ?_; rintro e w' ⟨rfl, h4⟩; have s4 := SC.out _ _ h4)
          | (go_at_call 17; with_reducible refine (C3.out _ (by assumption)).mono ?_; rintro e w' ⟨rfl, h5⟩; have s5 := SC.out _ _ h5)
          | (go_at_call 10; with_reducible refine (C4.out _ (by assumption)).mono ?_; rintro e w' ⟨rfl, h6⟩; have s6 := SC.out _ _ h6)
          | (go_at_call 10; with_reducible refine (C5.out _ (by assumption)).mono ?_; rintro e w' ⟨rfl, h7⟩; have s7 := SC.out _ _ h7))
      go_wp2
      go_ret
      exact ⟨rfl, HB.out.trans (h7.t.bel.mono HB.out.size)⟩
end Go.Proofs.Ythfcmfhmaokioaa

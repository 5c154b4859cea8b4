/-
  The document's own Entry and Number; EntryBack, EntryReads, EntryApart and EntryWrite answer true.
  Conditions: none beside the contracts of Encode and Decode.
-/
import Derived.Test.YtcoppldljmnoiaaEntI
import Derived.Test.YtcoppldljmnoiaaRefE
import Derived.BigQuiet
import Derived.Deep.RegionHeld3
namespace Go.Proofs.Ytcoppldljmnoiaa
open Go.RowKit
set_option linter.unusedVariables false

set_option maxRecDepth 20000 in
set_option maxHeartbeats 800000 in
theorem refNumber_any (k n : Int) (b : Bool) (w : World) (h : EnOk ⟨k, n, b⟩) :
    Calls Try.prog 11 #[.agg #[.int .i64 k, .int .i64 n, .bool b]] w fun e w' => e = .returned (.int .u64 ((numE ⟨k, n, b⟩ : Nat) : Int)) ∧ Below w.heap.size w w' := by
  have HB := Lib.hid ((Below.refl w.heap.size w).alloc (Nat.le_refl _) (.cells #[.int .i64 k, .int .i64 n, .bool b] 23))
  have hn := numE_int h
  have hl := h.lo
  obtain ⟨k, rfl⟩ := Int.eq_ofNat_of_zero_le hl.1
  obtain ⟨n, rfl⟩ := Int.eq_ofNat_of_zero_le hl.2.2.1
  obtain ⟨h1, h2, h3, h4⟩ := hl
  simp only at h1 h2 h3 h4 hn
  rw [hn]
  clear hn h
  cases b
  all_goals
    go_enter Try.func11, Try.ntmps11
    go_wp2
    go_ret
    refine ⟨?_, HB.out⟩
    first
      | rfl
      | simp

theorem EncIs.of {x : En} {v er : Nat} (h : EncIs x v er) (hx : EnOk x) : er = 0 ∧ v = numE x := by
  rcases h with ⟨_, h1, h2⟩ | ⟨h1, _⟩
  · exact ⟨h1, h2⟩
  · exact absurd hx h1
theorem EncIs.no {x : En} {v er : Nat} (h : EncIs x v er) (hx : ¬ EnOk x) : er = 8 ∧ v = 0 := by
  rcases h with ⟨h1, _⟩ | ⟨_, h1, h2⟩
  · exact absurd h1 hx
  · exact ⟨h1, h2⟩
theorem DecIs.of {x y : En} {v er : Nat} (h : DecIs v y er) (hx : EnOk x) (hv : numE x = v) : er = 0 ∧ y = x := by
  rcases h with ⟨h1, h2, h3⟩ | ⟨_, _, h1⟩
  · exact ⟨h1, numE_inj h2 hx (h3.trans hv.symm)⟩
  · exact absurd hv (h1 x hx)
theorem DecIs.no {y : En} {v er : Nat} (h : DecIs v y er) (hv : ∀ x, EnOk x → numE x ≠ v) : er = 8 ∧ y = ⟨0, 0, false⟩ := by
  rcases h with ⟨_, h2, h3⟩ | ⟨h1, h2, _⟩
  · exact absurd h3 (hv y h2)
  · exact ⟨h1, h2⟩
theorem ok13 : EnOk ⟨1, 3, false⟩ := by decide
theorem ok13w : EnOk ⟨1, 3, true⟩ := by decide
set_option maxRecDepth 20000 in
set_option maxHeartbeats 800000 in
theorem entAnswers_any (w : World) :
    Calls Try.prog 9 #[] w fun e w' => e = .returned (.bool true) ∧ Below w.heap.size w w' := by
  go_enter Try.func9, Try.ntmps9
  go_wp2_with fail
  refine (enc_any 1 3 false _).mono ?_
  rintro e w1 ⟨v, er, rfl, hv, hb1⟩
  obtain ⟨rfl, rfl⟩ := hv.of ok13
  have HB1 := Lib.hid hb1
  clear hb1 hv
  rw [show numE ⟨1, 3, false⟩ = 13 from rfl]
  go_wp2_with fail
  refine (dec_any 1099511627789 _ (by omega)).mono ?_
  rintro e w2 ⟨k, n, b, er, rfl, hd, hb2⟩
  obtain ⟨rfl, hy⟩ := hd.of ok13w rfl
  injection hy with e1 e2 e3
  subst e1 e2 e3
  have HB2 := Lib.hid (HB1.out.trans (hb2.mono HB1.out.size))
  clear hb2 hd
  go_wp2
  go_ret
  exact ⟨by simp, HB2.out.alloc HB2.out.size _⟩

/-- An entry in block g. -/
def EnAt (w : World) (g : Nat) (x : En) : Prop := Blk w g 23 (enV x)
theorem EnAt.new (w : World) (x : En) : EnAt (w.alloc (.cells (enV x) 23)) w.heap.size x := Blk.new w _ _
theorem EnAt.fresh {w w' : World} {g : Nat} {x : En} (h : EnAt w g x) (hb : Below w.heap.size w w') : EnAt w' g x := h.below hb h.lt
theorem EnAt.cells {w : World} {g : Nat} {k n : Int} {b : Bool} (h : EnAt w g ⟨k, n, b⟩) : w.cell? ⟨g, 0, none⟩ = some (.int .i64 k) ∧ w.cell? ⟨g, 1, none⟩ = some (.int .i64 n) ∧ w.cell? ⟨g, 2, none⟩ = some (.bool b) := ⟨h.cell 0, h.cell 1, h.cell 2⟩
theorem bel_al {w W : World} (h : Below w.heap.size w W) (o : Obj) : Below w.heap.size w (W.alloc o) := h.alloc h.size o
theorem bel_tr {w W W' : World} (h : Below w.heap.size w W) (k : Below W.heap.size W W') : Below w.heap.size w W' := h.trans (k.mono h.size)

set_option maxRecDepth 20000 in
set_option maxHeartbeats 1600000 in
theorem entryBack_any (k n : Int) (b : Bool) (w : World) :
    Calls Try.prog 3 #[.agg #[.int .i64 k, .int .i64 n, .bool b]] w fun e w' => e = .returned (.bool true) ∧ Below w.heap.size w w' := by
  have HA := Lib.hid (bel_al (Below.refl w.heap.size w) (.cells #[.int .i64 k, .int .i64 n, .bool b] 23))
  have HX := Lib.hid (EnAt.new w ⟨k, n, b⟩)
  go_enter Try.func3, Try.ntmps3
  go_wp2_with fail
  refine (enc_any k n b _).mono ?_
  rintro e w1 ⟨v, er, rfl, hv, hb1⟩
  have HX1 := Lib.hid (HX.out.fresh hb1)
  have HB1 := Lib.hid (bel_tr HA.out hb1)
  obtain ⟨a0, a1, a2⟩ := HX1.out.cells
  clear hb1
  go_wp2_with fail
  refine (refEntry_any k n b w1).mono ?_
  rintro e w2 ⟨rfl, hb2⟩
  have HX2 := Lib.hid (HX1.out.fresh hb2)
  have HB2 := Lib.hid (bel_tr HB1.out hb2)
  clear hb2 a0 a1 a2
  by_cases hok : EnOk ⟨k, n, b⟩
  · obtain ⟨rfl, rfl⟩ := hv.of hok
    rw [decide_eq_true hok]
    have hlt := numE_lt hok
    obtain ⟨v, hv'⟩ : ∃ v, v = numE ⟨k, n, b⟩ := ⟨_, rfl⟩
    rw [← hv'] at hlt ⊢
    have HV := Lib.hid hv'
    have HOK := Lib.hid hok
    have DE := Lib.hid (dec_any v w2 (by omega))
    clear hv hok hlt hv'
    go_wp2_with fail
    refine DE.out.mono ?_
    rintro e w3 ⟨k', n', b', er, rfl, hd, hb3⟩
    obtain ⟨rfl, hy⟩ := hd.of HOK.out HV.out.symm
    injection hy with e1 e2 e3
    subst e1 e2 e3
    have HX3 := Lib.hid ((HX2.out.fresh hb3).fresh (bel_al (Below.refl _ w3) (.cells #[.int .i64 k', .int .i64 n', .bool b'] 23)))
    have HY3 := Lib.hid (EnAt.new w3 ⟨k', n', b'⟩)
    have HB3 := Lib.hid (bel_al (bel_tr HB2.out hb3) (.cells #[.int .i64 k', .int .i64 n', .bool b'] 23))
    clear hb3 hd
    go_wp2_with fail
    refine (entAnswers_any _).mono ?_
    rintro e w4 ⟨rfl, hb4⟩
    have HX4 := Lib.hid (HX3.out.fresh hb4)
    have HY4 := Lib.hid (HY3.out.fresh hb4)
    have HB4 := Lib.hid (bel_tr HB3.out hb4)
    obtain ⟨a0, a1, a2⟩ := HX4.out.cells
    have NU := Lib.hid (refNumber_any k' n' b' w4 HOK.out)
    rw [← HV.out] at NU
    clear hb4
    go_wp2_with (go_at_call 11; refine NU.out.mono ?_; rintro e w5 ⟨rfl, hb5⟩; obtain ⟨p0, p1, p2⟩ := (HX4.out.fresh hb5).cells; obtain ⟨q0, q1, q2⟩ := (HY4.out.fresh hb5).cells; have HB5 := Lib.hid (bel_tr HB4.out hb5))
    go_ret
    exact ⟨rfl, HB5.out⟩
  · obtain ⟨rfl, rfl⟩ := hv.no hok
    rw [decide_eq_false hok]
    clear hv hok
    go_wp2_with fail
    refine (entAnswers_any _).mono ?_
    rintro e w3 ⟨rfl, hb3⟩
    have HB3 := Lib.hid (bel_tr HB2.out hb3)
    clear hb3
    go_wp2
    go_ret
    exact ⟨rfl, HB3.out⟩

set_option maxRecDepth 20000 in
set_option maxHeartbeats 1600000 in
theorem entryReads_any (v : Nat) (w : World) (hv : v < 18446744073709551616) :
    Calls Try.prog 4 #[.int .u64 (v : Int)] w fun e w' => e = .returned (.bool true) ∧ Below w.heap.size w w' := by
  have DE := Lib.hid (dec_any v w hv)
  obtain ⟨m, hm⟩ : ∃ m, m = v % 1099511627776 := ⟨_, rfl⟩
  obtain ⟨q, hq⟩ : ∃ q, q = v / 1099511627776 := ⟨_, rfl⟩
  obtain ⟨r, hr⟩ : ∃ r, r = m % 4 := ⟨_, rfl⟩
  obtain ⟨s, hs⟩ : ∃ s, s = m / 4 := ⟨_, rfl⟩
  have EO := Lib.hid (show enOf v = ⟨(r : Int), (s : Int), decide (q = 1)⟩ from by unfold enOf; rw [hr, hs, hm, hq])
  have NO := Lib.hid (fun (h1 : q ≤ 1) (h2 : EnOk (enOf v)) => numE_of (by omega) h2)
  have m1 : (v : Int) % 1099511627776 = (m : Int) := by omega
  have m1' : (v : Int).tmod 1099511627776 = (m : Int) := by rw [Int.tmod_eq_emod_of_nonneg (by omega)]; omega
  have m2 : (m : Int) % 4 = (r : Int) := by omega
  have m2' : (m : Int).tmod 4 = (r : Int) := by rw [Int.tmod_eq_emod_of_nonneg (by omega)]; omega
  have m3 : (m : Int) / 4 = (s : Int) := by omega
  have m3' : (m : Int).tdiv 4 = (s : Int) := by rw [Int.tdiv_eq_ediv_of_nonneg (by omega)]; omega
  have m4 : (v : Int) / 1099511627776 = (q : Int) := by omega
  have m4' : (v : Int).tdiv 1099511627776 = (q : Int) := by rw [Int.tdiv_eq_ediv_of_nonneg (by omega)]; omega
  have b1 : r < 4 := by omega
  have b2 : s < 274877906944 := by omega
  have b3 : q < 16777216 := by omega
  have b4 : m < 1099511627776 := by omega
  clear hm hq hr hs hv
  go_enter Try.func4, Try.ntmps4
  go_wp2_with fail
  refine DE.out.mono ?_
  rintro e w1 ⟨k, n, b, er, rfl, hd, hb1⟩
  have HX1 := Lib.hid (EnAt.new w1 ⟨k, n, b⟩)
  have HB1 := Lib.hid (bel_al hb1 (.cells #[.int .i64 k, .int .i64 n, .bool b] 23))
  clear hb1
  rcases hd with ⟨rfl, h2, h3⟩ | ⟨rfl, h2, h3⟩
  · have EN := Lib.hid (fun (W : World) => refEntry_any k n b W)
    rw [decide_eq_true h2] at EN
    have NU := Lib.hid (fun (W : World) => refNumber_any k n b W h2)
    rw [h3] at NU
    clear h2 h3 m1 m1' m2 m2' m3 m3' m4 m4'
    go_wp2_with fail
    refine (entAnswers_any _).mono ?_
    rintro e w2 ⟨rfl, hb2⟩
    have HX2 := Lib.hid (HX1.out.fresh hb2)
    have HB2 := Lib.hid (bel_tr HB1.out hb2)
    obtain ⟨a0, a1, a2⟩ := HX2.out.cells
    clear hb2
    go_wp2_with (first
      | (go_at_call 8; refine (EN.out _).mono ?_; rintro e w3 ⟨rfl, hb3⟩; have HX3 := Lib.hid (HX2.out.fresh hb3); obtain ⟨p0, p1, p2⟩ := HX3.out.cells; have HB3 := Lib.hid (bel_tr HB2.out hb3))
      | (go_at_call 11; refine (NU.out _).mono ?_; rintro e w4 ⟨rfl, hb4⟩; have HB4 := Lib.hid (bel_tr HB3.out hb4)))
    go_ret
    exact ⟨by simp, HB4.out⟩
  · injection h2 with e1 e2 e3
    subst e1 e2 e3
    have EN := Lib.hid (fun (W : World) => refEntry_any (r : Int) (s : Int) (decide (q = 1)) W)
    have HNE := Lib.hid (fun (h : q ≤ 1) => show decide (EnOk ⟨(r : Int), (s : Int), decide (q = 1)⟩) = false from decide_eq_false (fun h2 => h3 _ (EO.out ▸ h2) (NO.out h (EO.out ▸ h2))))
    clear h3
    by_cases hq : 1 < q
    · have t1 : decide (1 < (q : Int)) = true := decide_eq_true (by omega)
      have t2 : ((q : Int) == 1) = false := by simp; omega
      clear HNE EN
      have HY1 := Lib.hid (show EnAt ((w1.alloc (.cells #[.int .i64 0, .int .i64 0, .bool false] 23)).alloc (.cells #[.int .i64 (r : Int), .int .i64 (s : Int), .bool false] 23)) (w1.heap.size + 1) ⟨(r : Int), (s : Int), false⟩ from Blk.new1 w1 _ _ _)
      have HX0 := Lib.hid (HX1.out.fresh (bel_al (Below.refl _ _) (.cells #[.int .i64 (r : Int), .int .i64 (s : Int), .bool false] 23)))
      have HB0 := Lib.hid (bel_al HB1.out (.cells #[.int .i64 (r : Int), .int .i64 (s : Int), .bool false] 23))
      go_wp2_with fail
      refine (entAnswers_any _).mono ?_
      rintro e w2 ⟨rfl, hb2⟩
      obtain ⟨a0, a1, a2⟩ := (HX0.out.fresh hb2).cells
      obtain ⟨c0, c1, c2⟩ := (HY1.out.fresh hb2).cells
      have HB2 := Lib.hid (bel_tr HB0.out hb2)
      clear hb2
      go_wp2
      go_ret
      exact ⟨by simp, HB2.out⟩
    · have t1 : decide (1 < (q : Int)) = false := decide_eq_false (by omega)
      have hne := HNE.out (by omega)
      rw [hne] at EN
      have hq2 : q = 0 ∨ q = 1 := by omega
      clear hne HNE hq NO EO
      rcases hq2 with rfl | rfl
      · have EN := Lib.hid (fun (W : World) => show Calls Try.prog 8 #[.agg #[.int .i64 (r : Int), .int .i64 (s : Int), .bool false]] W fun e w' => e = .returned (.bool false) ∧ Below W.heap.size W w' from EN.out W)
        have HY1 := Lib.hid (show EnAt ((w1.alloc (.cells #[.int .i64 0, .int .i64 0, .bool false] 23)).alloc (.cells #[.int .i64 (r : Int), .int .i64 (s : Int), .bool false] 23)) (w1.heap.size + 1) ⟨(r : Int), (s : Int), false⟩ from Blk.new1 w1 _ _ _)
        have HX0 := Lib.hid (HX1.out.fresh (bel_al (Below.refl _ _) (.cells #[.int .i64 (r : Int), .int .i64 (s : Int), .bool false] 23)))
        have HB0 := Lib.hid (bel_al HB1.out (.cells #[.int .i64 (r : Int), .int .i64 (s : Int), .bool false] 23))
        go_wp2_with fail
        refine (entAnswers_any _).mono ?_
        rintro e w2 ⟨rfl, hb2⟩
        obtain ⟨a0, a1, a2⟩ := (HX0.out.fresh hb2).cells
        obtain ⟨c0, c1, c2⟩ := (HY1.out.fresh hb2).cells
        have HB2 := Lib.hid (bel_tr HB0.out hb2)
        clear hb2
        go_wp2_with (go_at_call 8; refine (EN.out _).mono ?_; rintro e w3 ⟨rfl, hb3⟩; have HB3 := Lib.hid (bel_tr HB2.out hb3))
        go_ret
        exact ⟨by simp, HB3.out⟩
      · have EN := Lib.hid (fun (W : World) => show Calls Try.prog 8 #[.agg #[.int .i64 (r : Int), .int .i64 (s : Int), .bool true]] W fun e w' => e = .returned (.bool false) ∧ Below W.heap.size W w' from EN.out W)
        have HY1 := Lib.hid (show EnAt ((w1.alloc (.cells #[.int .i64 0, .int .i64 0, .bool false] 23)).alloc (.cells #[.int .i64 (r : Int), .int .i64 (s : Int), .bool true] 23)) (w1.heap.size + 1) ⟨(r : Int), (s : Int), true⟩ from Blk.new1 w1 _ _ _)
        have HX0 := Lib.hid (HX1.out.fresh (bel_al (Below.refl _ _) (.cells #[.int .i64 (r : Int), .int .i64 (s : Int), .bool true] 23)))
        have HB0 := Lib.hid (bel_al HB1.out (.cells #[.int .i64 (r : Int), .int .i64 (s : Int), .bool true] 23))
        go_wp2_with fail
        refine (entAnswers_any _).mono ?_
        rintro e w2 ⟨rfl, hb2⟩
        obtain ⟨a0, a1, a2⟩ := (HX0.out.fresh hb2).cells
        obtain ⟨c0, c1, c2⟩ := (HY1.out.fresh hb2).cells
        have HB2 := Lib.hid (bel_tr HB0.out hb2)
        clear hb2
        go_wp2_with (go_at_call 8; refine (EN.out _).mono ?_; rintro e w3 ⟨rfl, hb3⟩; have HB3 := Lib.hid (bel_tr HB2.out hb3))
        go_ret
        exact ⟨by simp, HB3.out⟩

set_option maxRecDepth 20000 in
set_option maxHeartbeats 1600000 in
theorem entryApart_any (k n k' n' : Int) (b b' : Bool) (w : World) :
    Calls Try.prog 5 #[.agg #[.int .i64 k, .int .i64 n, .bool b], .agg #[.int .i64 k', .int .i64 n', .bool b']] w fun e w' => e = .returned (.bool true) ∧ Below w.heap.size w w' := by
  have HA := Lib.hid (bel_al (bel_al (Below.refl w.heap.size w) (.cells #[.int .i64 k, .int .i64 n, .bool b] 23)) (.cells #[.int .i64 k', .int .i64 n', .bool b'] 23))
  have HX := Lib.hid ((EnAt.new w ⟨k, n, b⟩).fresh (bel_al (Below.refl _ _) (.cells #[.int .i64 k', .int .i64 n', .bool b'] 23)))
  have HY := Lib.hid (show EnAt ((w.alloc (.cells #[.int .i64 k, .int .i64 n, .bool b] 23)).alloc (.cells #[.int .i64 k', .int .i64 n', .bool b'] 23)) (w.heap.size + 1) ⟨k', n', b'⟩ from Blk.new1 w _ _ _)
  go_enter Try.func5, Try.ntmps5
  go_wp2_with fail
  refine (enc_any k n b _).mono ?_
  rintro e w1 ⟨v, er, rfl, hv, hb1⟩
  have HX1 := Lib.hid (HX.out.fresh hb1)
  have HY1 := Lib.hid (HY.out.fresh hb1)
  have HB1 := Lib.hid (bel_tr HA.out hb1)
  obtain ⟨a0, a1, a2⟩ := HY1.out.cells
  clear hb1
  go_wp2_with fail
  refine (enc_any k' n' b' _).mono ?_
  rintro e w2 ⟨v', er', rfl, hv', hb2⟩
  have HX2 := Lib.hid (HX1.out.fresh hb2)
  have HY2 := Lib.hid (HY1.out.fresh hb2)
  have HB2 := Lib.hid (bel_tr HB1.out hb2)
  clear hb2 a0 a1 a2
  by_cases h1 : EnOk ⟨k, n, b⟩
  · obtain ⟨rfl, rfl⟩ := hv.of h1
    by_cases h2 : EnOk ⟨k', n', b'⟩
    · obtain ⟨rfl, rfl⟩ := hv'.of h2
      have hz := numE_zero h1
      have hinj : numE ⟨k, n, b⟩ = numE ⟨k', n', b'⟩ ↔ (⟨k, n, b⟩ : En) = ⟨k', n', b'⟩ := ⟨numE_inj h1 h2, fun h => by rw [h]⟩
      obtain ⟨v, hvv⟩ : ∃ v, v = numE ⟨k, n, b⟩ := ⟨_, rfl⟩
      obtain ⟨v', hvv'⟩ : ∃ v', v' = numE ⟨k', n', b'⟩ := ⟨_, rfl⟩
      rw [← hvv, ← hvv'] at hinj
      rw [← hvv] at hz
      rw [← hvv, ← hvv']
      clear hv hv' h1 h2 hvv hvv'
      by_cases hE : (⟨k, n, b⟩ : En) = ⟨k', n', b'⟩
      · obtain rfl := hinj.2 hE
        injection hE with e1 e2 e3
        subst e1 e2 e3
        have e1 : ((v : Int) == (v : Int)) = true := by simp
        by_cases hZ : (⟨k, n, b⟩ : En) = ⟨0, 0, false⟩
        · obtain rfl := hz.2 hZ
          injection hZ with e1 e2 e3
          subst e1 e2 e3
          clear hz hinj
          go_wp2_with fail
          refine (entAnswers_any _).mono ?_
          rintro e w3 ⟨rfl, hb3⟩
          obtain ⟨a0, a1, a2⟩ := (HX2.out.fresh hb3).cells
          obtain ⟨c0, c1, c2⟩ := (HY2.out.fresh hb3).cells
          have HB3 := Lib.hid (bel_tr HB2.out hb3)
          clear hb3
          go_wp2
          all_goals
            first
              | (go_ret; refine ⟨?_, HB3.out⟩; first | rfl | (simp; done) | (simp_all; done))
        · have hv0 : v ≠ 0 := fun h => hZ (hz.1 h)
          have e2 : ((v : Int) == 0) = false := by simp; omega
          have HZ := Lib.hid hZ
          clear hZ hz hinj hv0
          go_wp2_with fail
          refine (entAnswers_any _).mono ?_
          rintro e w3 ⟨rfl, hb3⟩
          obtain ⟨a0, a1, a2⟩ := (HX2.out.fresh hb3).cells
          obtain ⟨c0, c1, c2⟩ := (HY2.out.fresh hb3).cells
          have HB3 := Lib.hid (bel_tr HB2.out hb3)
          clear hb3
          go_wp2
          all_goals
            first
              | exact absurd rfl HZ.out
              | (exfalso; refine HZ.out ?_; rw [En.mk.injEq]; refine ⟨?_, ?_, ?_⟩ <;> first | omega | (simp_all; done))
              | (go_ret; refine ⟨?_, HB3.out⟩; first | rfl | (simp; done) | (simp_all; done))
      · have hvv : v ≠ v' := fun h => hE (hinj.1 h)
        have e1 : ((v : Int) == (v' : Int)) = false := by simp; omega
        have HE := Lib.hid hE
        clear hE hinj
        by_cases hZ : (⟨k, n, b⟩ : En) = ⟨0, 0, false⟩
        · obtain rfl := hz.2 hZ
          injection hZ with e1 e2 e3
          subst e1 e2 e3
          have e3 : ((v' : Int) == 0) = false := by simp; omega
          have e4 : ((0 : Int) == (v' : Int)) = false := by simp; omega
          clear hz hvv
          go_wp2_with fail
          refine (entAnswers_any _).mono ?_
          rintro e w3 ⟨rfl, hb3⟩
          obtain ⟨a0, a1, a2⟩ := (HX2.out.fresh hb3).cells
          obtain ⟨c0, c1, c2⟩ := (HY2.out.fresh hb3).cells
          have HB3 := Lib.hid (bel_tr HB2.out hb3)
          clear hb3
          go_wp2
          all_goals
            first
              | exact absurd rfl HE.out
              | (exfalso; refine HE.out ?_; rw [En.mk.injEq]; refine ⟨?_, ?_, ?_⟩ <;> first | omega | (simp_all; done))
              | (go_ret; refine ⟨?_, HB3.out⟩; first | rfl | (simp; done) | (simp_all; done))
        · have hv0 : v ≠ 0 := fun h => hZ (hz.1 h)
          have e2 : ((v : Int) == 0) = false := by simp; omega
          have HZ := Lib.hid hZ
          clear hZ hz hvv hv0
          go_wp2_with fail
          refine (entAnswers_any _).mono ?_
          rintro e w3 ⟨rfl, hb3⟩
          obtain ⟨a0, a1, a2⟩ := (HX2.out.fresh hb3).cells
          obtain ⟨c0, c1, c2⟩ := (HY2.out.fresh hb3).cells
          have HB3 := Lib.hid (bel_tr HB2.out hb3)
          clear hb3
          go_wp2
          all_goals
            first
              | exact absurd rfl HE.out
              | (exfalso; refine HE.out ?_; rw [En.mk.injEq]; refine ⟨?_, ?_, ?_⟩ <;> first | omega | (simp_all; done))
              | exact absurd rfl HZ.out
              | (exfalso; refine HZ.out ?_; rw [En.mk.injEq]; refine ⟨?_, ?_, ?_⟩ <;> first | omega | (simp_all; done))
              | (go_ret; refine ⟨?_, HB3.out⟩; first | rfl | (simp; done) | (simp_all; done))
    · obtain ⟨rfl, rfl⟩ := hv'.no h2
      clear hv hv' h1 h2
      go_wp2_with fail
      refine (entAnswers_any _).mono ?_
      rintro e w3 ⟨rfl, hb3⟩
      have HB3 := Lib.hid (bel_tr HB2.out hb3)
      clear hb3
      go_wp2
      go_ret
      exact ⟨rfl, HB3.out⟩
  · obtain ⟨rfl, rfl⟩ := hv.no h1
    clear hv hv' h1
    go_wp2_with fail
    all_goals
      refine (entAnswers_any _).mono ?_
      rintro e w3 ⟨rfl, hb3⟩
      have HB3 := Lib.hid (bel_tr HB2.out hb3)
      clear hb3
      go_wp2
      go_ret
      exact ⟨rfl, HB3.out⟩

set_option maxRecDepth 20000 in
set_option maxHeartbeats 1600000 in
theorem entryWrite_any (f : Int) (w : World) (hf : 0 ≤ f ∧ f ≤ 65535) :
    Calls Try.prog 6 #[.int .u16 f] w fun e w' => e = .returned (.bool true) ∧ Below w.heap.size w w' := by
  obtain ⟨f, rfl⟩ := Int.eq_ofNat_of_zero_le hf.1
  obtain ⟨k, hk⟩ : ∃ k, k = f % 1024 := ⟨_, rfl⟩
  have r1 : (f : Int).tmod 1024 = (k : Int) := by rw [Int.tmod_eq_emod_of_nonneg (by omega)]; omega
  have r1' : (f : Int) % 1024 = (k : Int) := by omega
  have hk1 : k < 1024 := by omega
  have ok1 : EnOk ⟨1, (k : Int), false⟩ := .inl ⟨rfl, by show (0 : Int) ≤ (k : Int); omega, by show (k : Int) < 1024; omega⟩
  have ok2 : EnOk ⟨1, (k : Int), true⟩ := .inl ⟨rfl, by show (0 : Int) ≤ (k : Int); omega, by show (k : Int) < 1024; omega⟩
  have n1 : numE ⟨1, (k : Int), false⟩ = 1 + 4 * k := by
    have := numE_int ok1
    simp at this
    omega
  have n2 : numE ⟨1, (k : Int), true⟩ = 1 + 4 * k + 1099511627776 := by
    have := numE_int ok2
    simp at this
    omega
  clear hf hk
  go_enter Try.func6, Try.ntmps6
  go_wp2_with fail
  refine (enc_any 1 (k : Int) false _).mono ?_
  rintro e w1 ⟨v, er, rfl, hv, hb1⟩
  obtain ⟨rfl, hvv⟩ := hv.of ok1
  rw [n1] at hvv
  have HV := Lib.hid hvv
  have HB1 := Lib.hid hb1
  clear hb1 hv hvv
  go_wp2_with fail
  refine (enc_any 1 (k : Int) true _).mono ?_
  rintro e w2 ⟨v2, er, rfl, hv, hb2⟩
  obtain ⟨rfl, hvv⟩ := hv.of ok2
  rw [n2] at hvv
  have HV2 := Lib.hid hvv
  have HB2 := Lib.hid (bel_tr HB1.out hb2)
  clear hb2 hv hvv
  go_wp2_with fail
  refine (dec_any v2 _ (by have := HV2.out; omega)).mono ?_
  rintro e w3 ⟨k', n', b', er, rfl, hd, hb3⟩
  obtain ⟨rfl, hy⟩ := hd.of ok2 (by rw [n2, HV2.out])
  injection hy with e1 e2 e3
  subst e1 e2 e3
  have HB3 := Lib.hid (bel_tr HB2.out hb3)
  clear hb3 hd
  have HN := Lib.hid (show ∀ x, EnOk x → numE x ≠ 2199023255552 + v from fun x hx h => by
    have := numE_lt hx
    omega)
  have DE := Lib.hid (fun (W : World) => (dec_any (2199023255552 + v) W (by have := HV.out; omega)).mono (fun e w' h => (by
    obtain ⟨k, n, b, er, h1, h2, h3⟩ := h
    obtain ⟨rfl, h4⟩ := h2.no HN.out
    injection h4 with e1 e2 e3
    subst e1 e2 e3
    exact ⟨h1, h3⟩ : e = .returned (.tuple #[.agg #[.int .i64 0, .int .i64 0, .bool false], .int .i64 8]) ∧ Below W.heap.size W w')))
  have ev : ((2199023255552 + v : Nat) : Int) = 2199023255552 + (v : Int) := by omega
  rw [ev] at DE
  have hvl : v < 4098 := by have := HV.out; omega
  clear ev n1 n2 ok1 ok2 HN
  go_wp2_with fail
  refine (DE.out _).mono ?_
  rintro e w4 ⟨rfl, hb4⟩
  have HX4 := Lib.hid (((EnAt.new w3 ⟨1, (k : Int), true⟩).fresh hb4).fresh (bel_al (Below.refl w4.heap.size w4) (.cells #[.int .i64 0, .int .i64 0, .bool false] 23)))
  have HB4 := Lib.hid (bel_al (bel_tr (bel_al HB3.out (.cells (enV ⟨1, (k : Int), true⟩) 23)) hb4) (.cells #[.int .i64 0, .int .i64 0, .bool false] 23))
  have hq : ((v2 : Int) == (v : Int) + 1099511627776) = true := by rw [beq_iff_eq]; have := HV.out; have := HV2.out; omega
  clear hb4
  go_wp2_with fail
  refine (entAnswers_any _).mono ?_
  rintro e w5 ⟨rfl, hb5⟩
  obtain ⟨a0, a1, a2⟩ := (HX4.out.fresh hb5).cells
  have HB5 := Lib.hid (bel_tr HB4.out hb5)
  clear hb5
  go_wp2
  go_ret
  exact ⟨by simp, HB5.out⟩
end Go.Proofs.Ytcoppldljmnoiaa

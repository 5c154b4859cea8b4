/-
  The document's own piece and Cut of layer 17.
  Conditions: the areas are read in memory, and their numbers are those of a list's.
-/
import Derived.Test.YtpkgmmfnlifocaaArR
namespace Go.Proofs.Ytpkgmmfnlifocaa
open Go.RowKit
set_option linter.unusedVariables false
set_option maxRecDepth 20000
set_option maxHeartbeats 1600000

/-- What a list's area's numbers are. -/
def InA (a : Ar) : Prop := 0 ≤ a.fr ∧ 1 ≤ a.pg ∧ a.fr ≤ 4095 ∧ a.pg ≤ 4096 - a.fr ∧ 0 ≤ a.ofs ∧ a.ofs ≤ 16
theorem soundA_in {a : Ar} (h : soundA a) : InA a := by
  obtain ⟨⟨h1, h2, h3, h4, h5, h6⟩, h7⟩ := h
  exact ⟨h3, h4, h5, h6, by omega, by omega⟩
theorem Try.infoAreaT : (Try.prog.info? 23).map (fun i => (i.zero, i.size, i.bytes)) = some (some (.agg (arL ar0).toArray), 6, 48) := by kernel_rfl
theorem flatA_single (a : Ar) : flatA [a] = arL a := rfl
theorem blkA {W : World} {g : Nat} {t : TypeId} {b : Ar} (h : Blk W g t (arL b).toArray) : ∀ j x, (arL b)[j]? = some x → W.cell? ⟨g, j, none⟩ = some x := fun j x hj => by
  rw [h.cell j]
  simpa using hj
theorem blk3 (w : World) (o1 o2 : Obj) (t : TypeId) (cs : Array Value) : Blk (((w.alloc o1).alloc o2).alloc (.cells cs t)) (w.heap.size + 1 + 1) t cs := by
  have h := Blk.new ((w.alloc o1).alloc o2) t cs
  rwa [show ((w.alloc o1).alloc o2).heap.size = w.heap.size + 1 + 1 by simp] at h
theorem pc_none (w : World) : Pc w 6 (.slice none 0 0) ([] : List Ar).length (flatA []) := .inl ⟨rfl, rfl, rfl⟩
theorem pc_one {W : World} {g : Nat} {t : TypeId} {b : Ar} (h : Blk W g t (arL b).toArray) : Pc W 6 (.slice (some ⟨g, 0, none⟩) 1 1) [b].length (flatA [b]) :=
  .inr ⟨g, 1, rfl, rfl, rfl, fun x hx => flatA_one [b] x hx, fun j x hj => blkA h j x hj⟩
theorem refPiece_any (a : Ar) (f e : Int) (w : World) (ha : InA a) (hf : 0 ≤ f ∧ f ≤ 4096) (he : 0 ≤ e ∧ e ≤ 4096) :
    Calls Try.prog 25 #[.agg #[.int .i64 a.fr, .int .i64 a.pg, .bool a.w, .int .i64 a.kd, .int .i64 a.fl, .int .i64 a.ofs], .int .i64 f, .int .i64 e] w fun e' w' => ∃ v, e' = .returned v ∧ Pc w' 6 v (pieceA a f e).length (flatA (pieceA a f e)) ∧ Below w.heap.size w w' := by
  obtain ⟨fr, pg, w0, kd, fl, ofs⟩ := a
  obtain ⟨h1, h2, h3, h4, h5, h6⟩ := ha
  simp only at h1 h2 h3 h4 h5 h6
  obtain ⟨f1, f2⟩ := hf
  obtain ⟨e1, e2⟩ := he
  have HB := Lib.hid (belAr (Below.refl w.heap.size w) (.cells #[.int .i64 fr, .int .i64 pg, .bool w0, .int .i64 kd, .int .i64 fl, .int .i64 ofs] 23))
  by_cases c1 : f < fr
  · have d1 : decide (f < fr) = true := decide_eq_true c1
    by_cases c2 : fr + pg < e
    · have d2 : decide (fr + pg < e) = true := decide_eq_true c2
      have EX : maxI f fr = fr := if_pos c1
      have EY : minI e (fr + pg) = fr + pg := if_pos c2
      by_cases c3 : fr + pg ≤ fr
      · exact absurd c3 (by omega)
      · have d3 : decide (fr + pg ≤ fr) = false := decide_eq_false c3
        by_cases c4 : kd = 1
        · subst c4
          have PE := Lib.hid (show pieceA ⟨fr, pg, w0, 1, fl, ofs⟩ f e = [⟨fr, fr + pg - (fr), w0, 1, fl, ofs⟩] from by unfold pieceA; simp only; rw [EX, EY, if_neg c3, if_pos trivial])
          clear EX EY
          go_enter Try.func25, Try.ntmps25
          go_wp2
          go_ret
          refine ⟨_, rfl, ?_, belAr (belAr HB.out _) _⟩
          rw [PE.out]
          exact pc_one (t := 23) (blk3 _ _ _ _ _)
        · have e4 : (kd == 1) = false := by simp [c4]
          have e5 : (kd != 1) = true := by simp [c4]
          have PE := Lib.hid (show pieceA ⟨fr, pg, w0, kd, fl, ofs⟩ f e = [⟨fr, fr + pg - (fr), w0, kd, fl, ofs + (fr) - fr⟩] from by unfold pieceA; simp only; rw [EX, EY, if_neg c3, if_neg c4])
          rw [show ofs + fr - fr = ofs by omega] at PE
          clear EX EY c4
          go_enter Try.func25, Try.ntmps25
          go_wp2
          go_ret
          refine ⟨_, rfl, ?_, belAr (belAr HB.out _) _⟩
          rw [PE.out]
          exact pc_one (t := 23) (blk3 _ _ _ _ _)
    · have d2 : decide (fr + pg < e) = false := decide_eq_false c2
      have EX : maxI f fr = fr := if_pos c1
      have EY : minI e (fr + pg) = e := if_neg c2
      by_cases c3 : e ≤ fr
      · have d3 : decide (e ≤ fr) = true := decide_eq_true c3
        have PE := Lib.hid (show pieceA ⟨fr, pg, w0, kd, fl, ofs⟩ f e = [] from by unfold pieceA; simp only; rw [EX, EY, if_pos c3])
        clear EX EY
        go_enter Try.func25, Try.ntmps25
        go_wp2
        go_ret
        exact ⟨_, rfl, by rw [PE.out]; exact pc_none _, HB.out⟩
      · have d3 : decide (e ≤ fr) = false := decide_eq_false c3
        by_cases c4 : kd = 1
        · subst c4
          have PE := Lib.hid (show pieceA ⟨fr, pg, w0, 1, fl, ofs⟩ f e = [⟨fr, e - (fr), w0, 1, fl, ofs⟩] from by unfold pieceA; simp only; rw [EX, EY, if_neg c3, if_pos trivial])
          clear EX EY
          go_enter Try.func25, Try.ntmps25
          go_wp2
          go_ret
          refine ⟨_, rfl, ?_, belAr (belAr HB.out _) _⟩
          rw [PE.out]
          exact pc_one (t := 23) (blk3 _ _ _ _ _)
        · have e4 : (kd == 1) = false := by simp [c4]
          have e5 : (kd != 1) = true := by simp [c4]
          have PE := Lib.hid (show pieceA ⟨fr, pg, w0, kd, fl, ofs⟩ f e = [⟨fr, e - (fr), w0, kd, fl, ofs + (fr) - fr⟩] from by unfold pieceA; simp only; rw [EX, EY, if_neg c3, if_neg c4])
          rw [show ofs + fr - fr = ofs by omega] at PE
          clear EX EY c4
          go_enter Try.func25, Try.ntmps25
          go_wp2
          go_ret
          refine ⟨_, rfl, ?_, belAr (belAr HB.out _) _⟩
          rw [PE.out]
          exact pc_one (t := 23) (blk3 _ _ _ _ _)
  · have d1 : decide (f < fr) = false := decide_eq_false c1
    by_cases c2 : fr + pg < e
    · have d2 : decide (fr + pg < e) = true := decide_eq_true c2
      have EX : maxI f fr = f := if_neg c1
      have EY : minI e (fr + pg) = fr + pg := if_pos c2
      by_cases c3 : fr + pg ≤ f
      · have d3 : decide (fr + pg ≤ f) = true := decide_eq_true c3
        have PE := Lib.hid (show pieceA ⟨fr, pg, w0, kd, fl, ofs⟩ f e = [] from by unfold pieceA; simp only; rw [EX, EY, if_pos c3])
        clear EX EY
        go_enter Try.func25, Try.ntmps25
        go_wp2
        go_ret
        exact ⟨_, rfl, by rw [PE.out]; exact pc_none _, HB.out⟩
      · have d3 : decide (fr + pg ≤ f) = false := decide_eq_false c3
        by_cases c4 : kd = 1
        · subst c4
          have PE := Lib.hid (show pieceA ⟨fr, pg, w0, 1, fl, ofs⟩ f e = [⟨f, fr + pg - (f), w0, 1, fl, ofs⟩] from by unfold pieceA; simp only; rw [EX, EY, if_neg c3, if_pos trivial])
          clear EX EY
          go_enter Try.func25, Try.ntmps25
          go_wp2
          go_ret
          refine ⟨_, rfl, ?_, belAr (belAr HB.out _) _⟩
          rw [PE.out]
          exact pc_one (t := 23) (blk3 _ _ _ _ _)
        · have e4 : (kd == 1) = false := by simp [c4]
          have e5 : (kd != 1) = true := by simp [c4]
          have PE := Lib.hid (show pieceA ⟨fr, pg, w0, kd, fl, ofs⟩ f e = [⟨f, fr + pg - (f), w0, kd, fl, ofs + (f) - fr⟩] from by unfold pieceA; simp only; rw [EX, EY, if_neg c3, if_neg c4])
          clear EX EY c4
          go_enter Try.func25, Try.ntmps25
          go_wp2
          go_ret
          refine ⟨_, rfl, ?_, belAr (belAr HB.out _) _⟩
          rw [PE.out]
          exact pc_one (t := 23) (blk3 _ _ _ _ _)
    · have d2 : decide (fr + pg < e) = false := decide_eq_false c2
      have EX : maxI f fr = f := if_neg c1
      have EY : minI e (fr + pg) = e := if_neg c2
      by_cases c3 : e ≤ f
      · have d3 : decide (e ≤ f) = true := decide_eq_true c3
        have PE := Lib.hid (show pieceA ⟨fr, pg, w0, kd, fl, ofs⟩ f e = [] from by unfold pieceA; simp only; rw [EX, EY, if_pos c3])
        clear EX EY
        go_enter Try.func25, Try.ntmps25
        go_wp2
        go_ret
        exact ⟨_, rfl, by rw [PE.out]; exact pc_none _, HB.out⟩
      · have d3 : decide (e ≤ f) = false := decide_eq_false c3
        by_cases c4 : kd = 1
        · subst c4
          have PE := Lib.hid (show pieceA ⟨fr, pg, w0, 1, fl, ofs⟩ f e = [⟨f, e - (f), w0, 1, fl, ofs⟩] from by unfold pieceA; simp only; rw [EX, EY, if_neg c3, if_pos trivial])
          clear EX EY
          go_enter Try.func25, Try.ntmps25
          go_wp2
          go_ret
          refine ⟨_, rfl, ?_, belAr (belAr HB.out _) _⟩
          rw [PE.out]
          exact pc_one (t := 23) (blk3 _ _ _ _ _)
        · have e4 : (kd == 1) = false := by simp [c4]
          have e5 : (kd != 1) = true := by simp [c4]
          have PE := Lib.hid (show pieceA ⟨fr, pg, w0, kd, fl, ofs⟩ f e = [⟨f, e - (f), w0, kd, fl, ofs + (f) - fr⟩] from by unfold pieceA; simp only; rw [EX, EY, if_neg c3, if_neg c4])
          clear EX EY c4
          go_enter Try.func25, Try.ntmps25
          go_wp2
          go_ret
          refine ⟨_, rfl, ?_, belAr (belAr HB.out _) _⟩
          rw [PE.out]
          exact pc_one (t := 23) (blk3 _ _ _ _ _)
/-- Two rows of the call's own, apart. -/
structure TwoR (w W : World) (v1 : Value) (l1 : List Ar) (v2 : Value) (l2 : List Ar) : Prop where
  r1 : RowAt W w.heap.size 6 v1 l1.length (flatA l1)
  r2 : RowAt W w.heap.size 6 v2 l2.length (flatA l2)
  ne : ∀ k, v1.ownBlock = some k → v2.ownBlock ≠ some k
  bel : Below w.heap.size w W
section
variable {w W W' : World} {v1 v2 v' : Value} {l1 l2 l' : List Ar}
theorem TwoR.fresh (h : TwoR w W v1 l1 v2 l2) (hb : Below W.heap.size W W') : TwoR w W' v1 l1 v2 l2 := ⟨h.r1.fresh hb, h.r2.fresh hb, h.ne, h.bel.trans (hb.mono h.bel.size)⟩
theorem TwoR.app1 (h : TwoR w W v1 l1 v2 l2) (hr : RowAt W' w.heap.size 6 v' (l1.length + l'.length) (flatA l1 ++ flatA l')) (hg : W.grownBy W' v1.ownBlock) (ho : v'.ownBlock = v1.ownBlock ∨ ∀ k, v'.ownBlock = some k → W.heap.size ≤ k) : TwoR w W' v' (l1 ++ l') v2 l2 := by
  refine ⟨by rw [flatA_append, List.length_append]; exact hr, h.r2.grown hg (fun k hk e => h.ne k e hk), fun k hk e => ?_, h.bel.grown hg h.bel.size (fun k hk => (h.r1.lt k hk).1)⟩
  rcases ho with ho | ho
  · exact h.ne k (ho ▸ hk) e
  · have := ho k hk
    have := (h.r2.lt k e).2
    omega
theorem TwoR.app2 (h : TwoR w W v1 l1 v2 l2) (hr : RowAt W' w.heap.size 6 v' (l2.length + l'.length) (flatA l2 ++ flatA l')) (hg : W.grownBy W' v2.ownBlock) (ho : v'.ownBlock = v2.ownBlock ∨ ∀ k, v'.ownBlock = some k → W.heap.size ≤ k) : TwoR w W' v1 l1 v' (l2 ++ l') := by
  refine ⟨h.r1.grown hg (fun k hk => h.ne k hk), by rw [flatA_append, List.length_append]; exact hr, fun k hk e => ?_, h.bel.grown hg h.bel.size (fun k hk => (h.r2.lt k hk).1)⟩
  rcases ho with ho | ho
  · exact h.ne k hk (ho ▸ e)
  · have := ho k e
    have := (h.r1.lt k hk).2
    omega
end
theorem RowAt.ars {w : World} {base : Nat} {v : Value} {l : List Ar} (h : RowAt w base 6 v l.length (flatA l)) : Ars w w.heap.size v l := by
  obtain ⟨h1, h2, ⟨rfl, h0⟩ | ⟨g, o, cap, rfl, h3, h4, h5, h6, h7, h8⟩⟩ := h
  · obtain rfl : l = [] := List.eq_nil_of_length_eq_zero h0
    exact Gs.nil_ _ _
  · refine ⟨some ⟨g, o, none⟩, l.length, cap, rfl, rfl, h3, h4, fun _ => ⟨g, o, rfl⟩, fun h0 => ⟨g, o, rfl, h6, fun j p hj i u hu => ?_⟩⟩
    rw [Nat.add_assoc]
    exact h7 _ _ (flatA_at hj i u hu)
theorem refCut_any (v : Value) (l : List Ar) (f p : Int) (w : World) (h : Ars w w.heap.size v l) (hl : ∀ a ∈ l, InA a) (hn : l.length ≤ 4096) (hf : 0 ≤ f ∧ f ≤ 4095) (hp : 1 ≤ p ∧ p ≤ 4096 - f) :
    Calls Try.prog 13 #[v, .int .i64 f, .int .i64 p] w fun e w' => ∃ v1 v2, e = .returned (.tuple #[v1, v2]) ∧ TwoR w w' v1 (outA l f p) v2 (inA l f p) := by
  have HX := Lib.hid h
  obtain ⟨A, n, c, rfl, hnl, hnc, hm, _, -⟩ := h
  have HN := Lib.hid hnl
  have HL := Lib.hid hl
  have hn1 : n ≤ 4096 := by omega
  obtain ⟨f1, f2⟩ := hf
  obtain ⟨p1, p2⟩ := hp
  obtain ⟨iA, hiA, hia0, hia1, hia2⟩ := info_parts Try.infoAreaT
  have HIA := Lib.hid hiA
  have HA0 := Lib.hid hia0
  have HA1 := Lib.hid hia1
  have HA2 := Lib.hid hia2
  clear hnl hl hn hm hiA hia0 hia1 hia2
  go_enter Try.func13, Try.ntmps13
  go_wp2
  go_loopg [8, 9, 10] n (fun gg s8 s9 s10 wx => ∃ k : Nat, k + gg = n ∧ s10 = .int .i64 (k : Int) ∧ TwoR w wx s8 (outA (l.take k) f p) s9 (inA (l.take k) f p))
  case atStart => exact ⟨0, by omega, rfl, RowAt.nil_ _ _ _, RowAt.nil_ _ _ _, (fun k hk => by cases hk), Below.refl _ _⟩
  case round =>
    obtain ⟨k, hk, rfl, hT⟩ := hrel
    have TR := Lib.hid hT
    clear hT
    by_cases hlt : k < n
    · have t4 : decide ((k : Int) < (n : Int)) = true := decide_eq_true (by omega)
      have t5 : (k : Int) < (n : Int) := by omega
      have t6 : (0 : Int) ≤ (k : Int) := by omega
      obtain ⟨b1, o1, rfl, hbl, hcc⟩ := HX.out.at_ (by omega)
      obtain ⟨⟨fr, pg, w0, kd, fl, ofs⟩, hg, c0, c1, c2, c3, c4, c5⟩ := hcc k hlt
      simp only at c0 c1 c2 c3 c4 c5
      have HT1 := Lib.hid (show l.take (k + 1) = l.take k ++ [⟨fr, pg, w0, kd, fl, ofs⟩] from by rw [List.take_add_one, hg]; rfl)
      have IA := HL.out _ (List.mem_of_getElem? hg)
      have KC := Lib.hid (fun (W : World) (hW : Below w.heap.size w W) => (⟨(hW.cell hbl).trans c0, (hW.cell hbl).trans c1, (hW.cell hbl).trans c2, (hW.cell hbl).trans c3, (hW.cell hbl).trans c4, (hW.cell hbl).trans c5⟩ : W.cell? ⟨b1, o1 + k * 6, none⟩ = some (.int .i64 fr) ∧ W.cell? ⟨b1, o1 + k * 6 + 1, none⟩ = some (.int .i64 pg) ∧ W.cell? ⟨b1, o1 + k * 6 + 2, none⟩ = some (.bool w0) ∧ W.cell? ⟨b1, o1 + k * 6 + 3, none⟩ = some (.int .i64 kd) ∧ W.cell? ⟨b1, o1 + k * 6 + 4, none⟩ = some (.int .i64 fl) ∧ W.cell? ⟨b1, o1 + k * 6 + 5, none⟩ = some (.int .i64 ofs)))
      have P1 := Lib.hid (fun W => refPiece_any ⟨fr, pg, w0, kd, fl, ofs⟩ 0 f W IA ⟨by omega, by omega⟩ ⟨by omega, by omega⟩)
      have P2 := Lib.hid (fun W => refPiece_any ⟨fr, pg, w0, kd, fl, ofs⟩ f (f + p) W IA ⟨by omega, by omega⟩ ⟨by omega, by omega⟩)
      have P3 := Lib.hid (fun W => refPiece_any ⟨fr, pg, w0, kd, fl, ofs⟩ (f + p) 4096 W IA ⟨by omega, by omega⟩ ⟨by omega, by omega⟩)
      obtain ⟨q1, hq1⟩ : ∃ q, q = pieceA ⟨fr, pg, w0, kd, fl, ofs⟩ 0 f := ⟨_, rfl⟩
      obtain ⟨q2, hq2⟩ : ∃ q, q = pieceA ⟨fr, pg, w0, kd, fl, ofs⟩ f (f + p) := ⟨_, rfl⟩
      obtain ⟨q3, hq3⟩ : ∃ q, q = pieceA ⟨fr, pg, w0, kd, fl, ofs⟩ (f + p) 4096 := ⟨_, rfl⟩
      rw [← hq1] at P1
      rw [← hq2] at P2
      rw [← hq3] at P3
      have HO := Lib.hid (show outA (l.take (k + 1)) f p = outA (l.take k) f p ++ q1 ++ q3 from by rw [HT1.out, outA_snoc, hq1, hq3])
      have HI := Lib.hid (show inA (l.take (k + 1)) f p = inA (l.take k) f p ++ q2 from by rw [HT1.out, inA_snoc, hq2])
      obtain ⟨lo, hlo⟩ : ∃ lo, lo = outA (l.take k) f p := ⟨_, rfl⟩
      obtain ⟨li, hli⟩ : ∃ li, li = inA (l.take k) f p := ⟨_, rfl⟩
      have hlo1 : lo.length ≤ 8192 := by rw [hlo]; have := outA_length (l.take k) f p; have := List.length_take_le k l; have := HN.out; omega
      have hli1 : li.length ≤ 4096 := by rw [hli]; have := inA_length (l.take k) f p; have := List.length_take_le k l; have := HN.out; omega
      have hq1l : q1.length ≤ 1 := by rw [hq1]; exact pieceA_length _ _ _
      rw [← hlo, ← hli] at TR
      rw [← hlo] at HO
      rw [← hli] at HI
      have HQ1 := Lib.hid (show lo.length + 1 ≤ maxLen from by unfold maxLen; omega)
      have HQ2 := Lib.hid (show (lo.length + 1) * 48 ≤ 140737488355328 from by omega)
      have HQ3 := Lib.hid (show li.length + 1 ≤ maxLen from by unfold maxLen; omega)
      have HQ4 := Lib.hid (show (li.length + 1) * 48 ≤ 140737488355328 from by omega)
      have HQ5 := Lib.hid (show (lo ++ q1).length + 1 ≤ maxLen from by rw [List.length_append]; unfold maxLen; omega)
      have HQ6 := Lib.hid (show ((lo ++ q1).length + 1) * 48 ≤ 140737488355328 from by rw [List.length_append]; omega)
      have k0 := KC.out _ TR.out.bel
      obtain ⟨k0, k1, k2, k3, k4, k5⟩ := k0
      clear hcc c0 c1 c2 c3 c4 c5 hg IA hq1 hq2 hq3 hlo hli hlo1 hli1 hq1l
      go_wp2_with fail
      refine (P1.out _).mono ?_
      rintro e w1 ⟨u1, rfl, hp1, hb1⟩
      have T1 := Lib.hid (TR.out.fresh hb1)
      have PC1 := Lib.hid hp1
      have RA1 := Lib.hid T1.out.r1
      have HS1 := Lib.hid T1.out.bel.size
      clear hp1 hb1 k0 k1 k2 k3 k4 k5
      go_wp2_with (refine wpList_append_pc rfl (.tmp 17) (.tmp 23) 26 rfl w.heap.size 23 iA (.agg (arL ar0).toArray) 6 48 Try.underlying26 HIA.out HA0.out HA1.out HA2.out rfl (by decide) _ _ _ rfl RA1.out _ _ _ rfl PC1.out HQ1.out HQ2.out HS1.out ?_; intro v8 w8 hr8 hg8 ho8; have T2 := Lib.hid (T1.out.app1 hr8 hg8 ho8); clear hr8 hg8 ho8; obtain ⟨k0, k1, k2, k3, k4, k5⟩ := KC.out _ T2.out.bel)
      refine (P2.out _).mono ?_
      rintro e w2 ⟨u2, rfl, hp1, hb1⟩
      have T3 := Lib.hid (T2.out.fresh hb1)
      have PC2 := Lib.hid hp1
      have RA2 := Lib.hid T3.out.r2
      have HS2 := Lib.hid T3.out.bel.size
      clear hp1 hb1 k0 k1 k2 k3 k4 k5
      go_wp2_with (refine wpList_append_pc rfl (.tmp 25) (.tmp 34) 26 rfl w.heap.size 23 iA (.agg (arL ar0).toArray) 6 48 Try.underlying26 HIA.out HA0.out HA1.out HA2.out rfl (by decide) _ _ _ rfl RA2.out _ _ _ rfl PC2.out HQ3.out HQ4.out HS2.out ?_; intro v9 w9 hr8 hg8 ho8; have T4 := Lib.hid (T3.out.app2 hr8 hg8 ho8); clear hr8 hg8 ho8; obtain ⟨k0, k1, k2, k3, k4, k5⟩ := KC.out _ T4.out.bel)
      refine (P3.out _).mono ?_
      rintro e w3 ⟨u3, rfl, hp1, hb1⟩
      have T5 := Lib.hid (T4.out.fresh hb1)
      have PC3 := Lib.hid hp1
      have RA3 := Lib.hid T5.out.r1
      have HS3 := Lib.hid T5.out.bel.size
      clear hp1 hb1 k0 k1 k2 k3 k4 k5
      go_wp2_with (refine wpList_append_pc rfl (.tmp 36) (.tmp 44) 26 rfl w.heap.size 23 iA (.agg (arL ar0).toArray) 6 48 Try.underlying26 HIA.out HA0.out HA1.out HA2.out rfl (by decide) _ _ _ rfl RA3.out _ _ _ rfl PC3.out HQ5.out HQ6.out HS3.out ?_; intro va wa hr8 hg8 ho8; have T6 := Lib.hid (T5.out.app1 hr8 hg8 ho8); clear hr8 hg8 ho8)
      go_roundg (n - (k + 1))
      case measure => omega
      case rel => exact ⟨k + 1, by omega, by go_num, by rw [HO.out, HI.out]; exact T6.out⟩
    · obtain rfl : k = n := by omega
      have t4 : decide ((k : Int) < (k : Int)) = false := decide_eq_false (by omega)
      have h9 := TR.out
      rw [List.take_of_length_le (by rw [HN.out]; exact Nat.le_refl _)] at h9
      go_wp2
      go_ret2
      exact ⟨_, _, rfl, h9⟩
end Go.Proofs.Ytpkgmmfnlifocaa

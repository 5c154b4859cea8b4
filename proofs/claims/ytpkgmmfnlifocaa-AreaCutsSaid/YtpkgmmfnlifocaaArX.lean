/-
  AreaCuts answers true.
  Conditions: the list is read in memory; the numbers are an int's.
-/
import Derived.Test.YtpkgmmfnlifocaaArS
import Derived.Test.YtpkgmmfnlifocaaArN
namespace Go.Proofs.Ytpkgmmfnlifocaa
open Go.RowKit
set_option linter.unusedVariables false

theorem RowAt.setA {w : World} {base n g o cap i : Nat} {xs : List Value} {u : Value} (h : RowAt w base 6 (.slice (some ⟨g, o, none⟩) n cap) n xs) (hi : i < xs.length) (hu : u.oneCell' = true) :
    RowAt (w.setCell ⟨g, o + i, none⟩ u) base 6 (.slice (some ⟨g, o, none⟩) n cap) n (xs.set i u) := by
  obtain ⟨h1, h2, ⟨h, _⟩ | ⟨g', o', cap', he, h3, h4, h5, h6, h7, h8⟩⟩ := h
  · cases h
  · cases he
    have hc6 : i < cap * 6 := by omega
    have hsome : ∀ j, j < [u].length → (w.cell? ⟨g, o + i + j, none⟩).isSome = true := fun j hj => by
      obtain rfl : j = 0 := by simpa using hj
      exact (h8 i hc6).1
    have e : w.setCell ⟨g, o + i, none⟩ u = w.setCells g (o + i) [u] := rfl
    rw [e]
    refine ⟨by rw [List.length_set, h1], fun x hx => ?_, .inr ⟨g, o, cap, rfl, h3, h4, h5, ?_, fun j x hj => ?_, fun j hj => ⟨?_, (World.frozen?_setCells g _ _ _ _).trans (h8 j hj).2⟩⟩⟩
    · rcases List.mem_or_eq_of_mem_set hx with hx | rfl
      · exact h2 x hx
      · exact hu
    · have := (Only.setCells [u] (o + i) (Only.refl g w)).1.size
      omega
    · by_cases c : j = i
      · subst c
        rw [List.getElem?_set_self hi] at hj
        injection hj with hj
        subst hj
        exact World.cell?_setCells_in g [u] (o + j) w hsome 0 (by simp)
      · rw [List.getElem?_set_ne (fun e => c e.symm)] at hj
        rw [World.cell?_setCells_out g _ _ _ _ (fun _ _ => (by show o + j < o + i ∨ o + i + 1 ≤ o + j; omega))]
        exact h7 j x hj
    · by_cases c : j = i
      · subst c
        have := World.cell?_setCells_in g [u] (o + j) w hsome 0 (by simp)
        rw [Nat.add_zero] at this
        rw [this]; rfl
      · rw [World.cell?_setCells_out g _ _ _ _ (fun _ _ => (by show o + j < o + i ∨ o + i + 1 ≤ o + j; omega))]
        exact (h8 j hj).1
theorem flatA_set (l1 l2 : List Ar) (a : Ar) (b : Bool) : (flatA (l1 ++ a :: l2)).set (l1.length * 6 + 2) (.bool b) = flatA (l1 ++ setW b a :: l2) := by
  rw [flatA_append, flatA_append, List.set_append_right _ _ (by rw [flatA_length]; omega), flatA_length, show l1.length * 6 + 2 - l1.length * 6 = 2 by omega]
  rfl
/-- A list whose cells lie in other blocks than g. -/
def OutV (W : World) (g : Nat) (v : Value) (l : List Ar) : Prop := Ars W W.heap.size v l ∧ ∀ a n c, v = .slice (some a) n c → a.block ≠ g
theorem OutV.only {W W' : World} {g : Nat} {v : Value} {l : List Ar} (h : OutV W g v l) (ho : Only g W W') : OutV W' g v l := by
  obtain ⟨⟨A, n, c, rfl, h2, h3, h4, h5, h6⟩, hne⟩ := h
  refine ⟨⟨A, n, c, rfl, h2, h3, h4, h5, fun h0 => ?_⟩, hne⟩
  obtain ⟨b, o, rfl, hb, hc⟩ := h6 h0
  have hg : b ≠ g := hne _ _ _ rfl
  have hh := ho.1.block b hb (fun e => hg (by injection e))
  exact ⟨b, o, rfl, by rw [ho.2]; exact hb, fun j p hj i u hu => (World.cell?_of_block (a := ⟨b, o + j * 6 + i, none⟩) hh).trans (hc j p hj i u hu)⟩
/-- What stands in the second list when k of it are turned. -/
def inK (li : List Ar) (b : Bool) (k : Nat) : List Ar := (li.take k).map (setW b) ++ li.drop k
theorem inK_at {li : List Ar} {b : Bool} {k : Nat} {a : Ar} (h : li[k]? = some a) : (inK li b k)[k]? = some a := by
  have hk : k < li.length := (List.getElem?_eq_some_iff.1 h).1
  unfold inK
  rw [List.getElem?_append_right (by rw [List.length_map, List.length_take]; omega), List.length_map, List.length_take, Nat.min_eq_left (by omega), Nat.sub_self, List.getElem?_drop]
  exact h
theorem inK_next {li : List Ar} {b : Bool} {k : Nat} {a : Ar} (h : li[k]? = some a) : (flatA (inK li b k)).set (k * 6 + 2) (.bool b) = flatA (inK li b (k + 1)) := by
  have hk : k < li.length := (List.getElem?_eq_some_iff.1 h).1
  have hd : li.drop k = a :: li.drop (k + 1) := by
    rw [List.drop_eq_getElem_cons hk]
    congr 1
    rw [List.getElem?_eq_getElem hk] at h
    injection h
  have hl : ((li.take k).map (setW b)).length = k := by rw [List.length_map, List.length_take]; omega
  have := flatA_set ((li.take k).map (setW b)) (li.drop (k + 1)) a b
  rw [hl] at this
  unfold inK
  rw [hd, this, List.take_add_one, h, Option.toList_some, List.map_append, List.append_assoc]
  rfl
theorem inK_length (li : List Ar) (b : Bool) (k : Nat) : (inK li b k).length = li.length := by
  unfold inK
  rw [List.length_append, List.length_map, List.length_take, List.length_drop]
  omega
theorem foldK_next {lo li : List Ar} {b : Bool} {k : Nat} {a : Ar} (h : li[k]? = some a) : ((li.take (k + 1)).map (setW b)).foldl insA lo = insA (((li.take k).map (setW b)).foldl insA lo) (setW b a) := by
  rw [List.take_add_one, h, Option.toList_some, List.map_append, List.foldl_append]
  rfl
theorem foldK_length (lo li : List Ar) : (li.foldl insA lo).length = lo.length + li.length := by
  induction li generalizing lo with
  | nil => rfl
  | cons a li ih =>
    rw [List.foldl_cons, ih, insA_length, List.length_cons]
    omega
set_option maxRecDepth 20000
set_option maxHeartbeats 3200000
theorem areaCuts_edge (A : Option Addr) (l c : Nat) (f p : Int) (b : Bool) (w : World) (h : 16 < l) :
    Calls Try.prog 5 #[.slice A l c, .int .i64 f, .int .i64 p, .bool b] w fun e w' => e = .returned (.bool true) ∧ Below w.heap.size w w' := by
  have t1 : decide ((16 : Int) < (l : Int)) = true := decide_eq_true (by omega)
  clear h
  go_enter Try.func5, Try.ntmps5
  go_wp2_with fail
  refine (areaAnswers_any _).mono ?_
  rintro e w1 ⟨rfl, hb⟩
  go_wp2
  go_ret
  exact ⟨rfl, hb⟩
theorem areaCuts_any (v0 : Value) (l : List Ar) (f p : Int) (b : Bool) (w : World) (h : Ars w w.heap.size v0 l) (wf : (Lit.int .i64 f).wf = true) (wp : (Lit.int .i64 p).wf = true) (hl : l.length ≤ 16) :
    Calls Try.prog 5 #[v0, .int .i64 f, .int .i64 p, .bool b] w fun e w' => e = .returned (.bool true) ∧ Below w.heap.size w w' := by
  have HX := Lib.hid h
  have WF := Lib.hid wf
  have WP := Lib.hid wp
  obtain ⟨A, n, c, rfl, hn, hnc, hc, -, -⟩ := h
  have HN := Lib.hid hn
  have hn1 : n ≤ 16 := by omega
  unfold maxLen at hc
  have t1 : decide ((16 : Int) < (n : Int)) = false := decide_eq_false (by omega)
  have CL := Lib.hid (refList_any _ l w HX.out)
  have HNL := Lib.hid hl
  clear hn hl wf wp
  by_cases hli : listA l
  · rw [decide_eq_true hli] at CL
    have LI := Lib.hid hli
    have LIN := Lib.hid (fun x hx => soundA_in (hli.1 x hx))
    clear hli
    by_cases hr : rightA f p
    · by_cases hb1 : 16 < (outA l f p).length
      · by_cases hin : inA l f p = []
        · have hE : cutE l f p = 4 := by unfold cutE; rw [if_pos hr, if_pos hb1]
          have hL : cutL l f p = [] := by unfold cutL; rw [hE]; exact if_neg (by decide)
          have hF : protE l f p b = 2 := by unfold protE; rw [if_pos hr, if_pos hin]
          have hM : protL l f p b = [] := by unfold protL; rw [hF]; exact if_neg (by decide)
          have HR := Lib.hid hr
          have HB1 := Lib.hid hb1
          have HIN := Lib.hid hin
          go_enter Try.func5, Try.ntmps5
          go_wp2_with fail
          refine CL.out.mono ?_
          rintro e w1 ⟨rfl, hb⟩
          have B1 := Lib.hid hb
          have X1 := Lib.hid (HX.out.fresh hb)
          have CA := Lib.hid (area_cut w1 _ l f p WF.out WP.out X1.out LI.out (by have := HNL.out; omega))
          rw [hE, hL] at CA
          clear hb hE hL
          go_wp2_with fail
          refine CA.out.mono ?_
          rintro e w2 ⟨v9, rfl, hm, hb⟩
          have B2 := Lib.hid (B1.out.trans (hb.mono B1.out.size))
          have X2 := Lib.hid (X1.out.fresh hb)
          have M2 := Lib.hid hm
          obtain ⟨A9, n9, c9, rfl, hn9, -⟩ := hm
          have HN9 := Lib.hid hn9
          have CB := Lib.hid (area_protect w2 _ l f p b WF.out WP.out X2.out LI.out (by have := HNL.out; omega))
          rw [hF, hM] at CB
          clear hb hF hM hn9
          go_wp2_with fail
          refine CB.out.mono ?_
          rintro e w3 ⟨vb, rfl, hm, hb⟩
          have B3 := Lib.hid (B2.out.trans (hb.mono B2.out.size))
          have X3 := Lib.hid (X2.out.fresh hb)
          have M3 := Lib.hid (M2.out.fresh hb)
          have P3 := Lib.hid hm
          obtain ⟨Ab, nb, cb, rfl, hnb, -⟩ := hm
          have HNB := Lib.hid hnb
          have CR := Lib.hid (refRight_any f p w3)
          rw [decide_eq_true hr] at CR
          clear hb hnb hr hb1 hin
          go_wp2_with (go_at_call 18; refine CR.out.mono ?_; rintro e w' ⟨rfl, rfl⟩)
          obtain ⟨r1, r2, r3, r4⟩ := HR.out
          refine (refCut_any _ l f p w3 X3.out LIN.out (by have := HNL.out; omega) ⟨r1, r3⟩ ⟨r2, r4⟩).mono ?_
          rintro e w4 ⟨vo, vi, rfl, hT⟩
          have T4 := Lib.hid hT
          obtain ⟨Ao, co, rfl, -⟩ := hT.r1.len
          obtain ⟨Ai, ci, rfl, -⟩ := hT.r2.len
          obtain ⟨lo, hlo⟩ : ∃ lo, lo = outA l f p := ⟨_, rfl⟩
          obtain ⟨li, hli⟩ : ∃ li, li = inA l f p := ⟨_, rfl⟩
          rw [← hlo, ← hli] at T4 ⊢
          have HLO := Lib.hid hlo
          have HLI := Lib.hid hli
          obtain ⟨no, hno⟩ : ∃ no, no = lo.length := ⟨_, rfl⟩
          obtain ⟨ni, hni⟩ : ∃ ni, ni = li.length := ⟨_, rfl⟩
          rw [← hno, ← hni]
          have HNO := Lib.hid hno
          have HNI := Lib.hid hni
          have hno2 : no ≤ 32 := by rw [hno, hlo]; have := outA_length l f p; have := HNL.out; omega
          have hni2 : ni ≤ 16 := by rw [hni, hli]; have := inA_length l f p; have := HNL.out; omega
          have u1 : decide ((16 : Int) < (no : Int)) = true := decide_eq_true (by have := HB1.out; rw [← hlo, ← hno] at this; omega)
          have u2 : ((ni : Int) == 0) = true := by rw [hni, hli, HIN.out]; rfl
          obtain rfl : n9 = 0 := HN9.out.symm
          clear hT hlo hli hno hni
          go_wp2_with fail
          have T5 := T4
          have P5 := Lib.hid (P3.out.fresh T4.out.bel)
          obtain ⟨w5, rfl⟩ : ∃ w5, w5 = w4 := ⟨_, rfl⟩
          have B5 := Lib.hid (B3.out.trans (T5.out.bel.mono B3.out.size))
          obtain rfl : nb = 0 := HNB.out.symm
          refine (areaAnswers_any _).mono ?_
          rintro e wz ⟨rfl, hb⟩
          have BZ := Lib.hid (B5.out.trans (hb.mono B5.out.size))
          clear hb
          go_wp2
          go_ret
          exact ⟨rfl, BZ.out⟩
        · by_cases hb2 : 16 < (protO l f p b).length
          · have hE : cutE l f p = 4 := by unfold cutE; rw [if_pos hr, if_pos hb1]
            have hL : cutL l f p = [] := by unfold cutL; rw [hE]; exact if_neg (by decide)
            have hF : protE l f p b = 4 := by unfold protE; rw [if_pos hr, if_neg hin, if_pos hb2]
            have hM : protL l f p b = [] := by unfold protL; rw [hF]; exact if_neg (by decide)
            have HR := Lib.hid hr
            have HB1 := Lib.hid hb1
            have HIN := Lib.hid hin
            have HB2 := Lib.hid hb2
            go_enter Try.func5, Try.ntmps5
            go_wp2_with fail
            refine CL.out.mono ?_
            rintro e w1 ⟨rfl, hb⟩
            have B1 := Lib.hid hb
            have X1 := Lib.hid (HX.out.fresh hb)
            have CA := Lib.hid (area_cut w1 _ l f p WF.out WP.out X1.out LI.out (by have := HNL.out; omega))
            rw [hE, hL] at CA
            clear hb hE hL
            go_wp2_with fail
            refine CA.out.mono ?_
            rintro e w2 ⟨v9, rfl, hm, hb⟩
            have B2 := Lib.hid (B1.out.trans (hb.mono B1.out.size))
            have X2 := Lib.hid (X1.out.fresh hb)
            have M2 := Lib.hid hm
            obtain ⟨A9, n9, c9, rfl, hn9, -⟩ := hm
            have HN9 := Lib.hid hn9
            have CB := Lib.hid (area_protect w2 _ l f p b WF.out WP.out X2.out LI.out (by have := HNL.out; omega))
            rw [hF, hM] at CB
            clear hb hF hM hn9
            go_wp2_with fail
            refine CB.out.mono ?_
            rintro e w3 ⟨vb, rfl, hm, hb⟩
            have B3 := Lib.hid (B2.out.trans (hb.mono B2.out.size))
            have X3 := Lib.hid (X2.out.fresh hb)
            have M3 := Lib.hid (M2.out.fresh hb)
            have P3 := Lib.hid hm
            obtain ⟨Ab, nb, cb, rfl, hnb, -⟩ := hm
            have HNB := Lib.hid hnb
            have CR := Lib.hid (refRight_any f p w3)
            rw [decide_eq_true hr] at CR
            clear hb hnb hr hb1 hin hb2
            go_wp2_with (go_at_call 18; refine CR.out.mono ?_; rintro e w' ⟨rfl, rfl⟩)
            obtain ⟨r1, r2, r3, r4⟩ := HR.out
            refine (refCut_any _ l f p w3 X3.out LIN.out (by have := HNL.out; omega) ⟨r1, r3⟩ ⟨r2, r4⟩).mono ?_
            rintro e w4 ⟨vo, vi, rfl, hT⟩
            have T4 := Lib.hid hT
            obtain ⟨Ao, co, rfl, -⟩ := hT.r1.len
            obtain ⟨Ai, ci, rfl, -⟩ := hT.r2.len
            obtain ⟨lo, hlo⟩ : ∃ lo, lo = outA l f p := ⟨_, rfl⟩
            obtain ⟨li, hli⟩ : ∃ li, li = inA l f p := ⟨_, rfl⟩
            rw [← hlo, ← hli] at T4 ⊢
            have HLO := Lib.hid hlo
            have HLI := Lib.hid hli
            obtain ⟨no, hno⟩ : ∃ no, no = lo.length := ⟨_, rfl⟩
            obtain ⟨ni, hni⟩ : ∃ ni, ni = li.length := ⟨_, rfl⟩
            rw [← hno, ← hni]
            have HNO := Lib.hid hno
            have HNI := Lib.hid hni
            have hno2 : no ≤ 32 := by rw [hno, hlo]; have := outA_length l f p; have := HNL.out; omega
            have hni2 : ni ≤ 16 := by rw [hni, hli]; have := inA_length l f p; have := HNL.out; omega
            have u1 : decide ((16 : Int) < (no : Int)) = true := decide_eq_true (by have := HB1.out; rw [← hlo, ← hno] at this; omega)
            have hni0 : 0 < ni := by rw [hni, hli]; exact List.length_pos_iff.2 HIN.out
            have u2 : ((ni : Int) == 0) = false := by simp; omega
            obtain rfl : n9 = 0 := HN9.out.symm
            clear hT hlo hli hno hni
            go_wp2_with fail
            have T5 := T4
            have P5 := Lib.hid (P3.out.fresh T4.out.bel)
            obtain ⟨w5, rfl⟩ : ∃ w5, w5 = w4 := ⟨_, rfl⟩
            have B5 := Lib.hid (B3.out.trans (T5.out.bel.mono B3.out.size))
            have hr1 := T5.out.r1
            have hr2 := T5.out.r2
            rw [← HNO.out] at hr1
            rw [← HNI.out] at hr2
            obtain ⟨g2, o2, ci2, he2, -, -⟩ := hr2.some_ hni0
            injection he2 with he3 he4 he5
            subst he3 he5
            have R5 := Lib.hid (show RowAt w5 w3.heap.size 6 (.slice (some ⟨g2, o2, none⟩) ni ci) ni (flatA (inK li b 0)) from hr2)
            have O5 := Lib.hid (show OutV w5 g2 (.slice Ao no co) lo from ⟨(by have h := T5.out.r1.ars; rw [← HNO.out] at h; exact h), fun a n c e => by
              have h := T5.out.ne a.block (by injection e with e1 e2 e3; rw [e1]; rfl)
              intro e'
              exact h (by rw [e']; rfl)⟩)
            have G2 := Lib.hid (show w3.heap.size ≤ g2 ∧ g2 < w5.heap.size from hr2.lt g2 rfl)
            clear hr1 hr2
            go_loopg [13, 15] ni (fun gg s13 s15 wx => ∃ (k : Nat) (lk : List Ar), k + gg = ni ∧ s15 = .int .i64 (k : Int) ∧ lk = ((li.take k).map (setW b)).foldl insA lo ∧ OutV wx g2 s13 lk ∧ RowAt wx w3.heap.size 6 (.slice (some ⟨g2, o2, none⟩) ni ci) ni (flatA (inK li b k)) ∧ Below w3.heap.size w3 wx)
            case atStart => exact ⟨0, lo, by omega, rfl, rfl, O5.out, R5.out, T5.out.bel⟩
            case round =>
              obtain ⟨k, lk, hk, rfl, hlk, ho, hr, hb⟩ := hrel
              have OV := Lib.hid ho
              have RV := Lib.hid hr
              have BV := Lib.hid hb
              have HLK := Lib.hid hlk
              have hlk2 : lk.length ≤ 64 := by
                rw [hlk, foldK_length, List.length_map, List.length_take, ← HNO.out, ← HNI.out]
                omega
              obtain ⟨Ak, nk, ck, rfl, hnk, -⟩ := ho.1
              have HNK := Lib.hid hnk
              clear hlk hr hb hnk O5 R5
              by_cases hkn : k < ni
              · have x1 : decide ((k : Int) < (ni : Int)) = true := decide_eq_true (by omega)
                have x2 : (k : Int) < (ni : Int) := by omega
                have x3 : (0 : Int) ≤ (k : Int) := by omega
                obtain ⟨⟨fr, pg, w0, kd, fl, ofs⟩, hg⟩ : ∃ a, li[k]? = some a := ⟨_, List.getElem?_eq_getElem (by rw [← HNI.out]; exact hkn)⟩
                have HG := Lib.hid hg
                obtain ⟨g2', o2', ci2', he2, -, hce⟩ := RV.out.some_ hni0
                cases he2
                have hlen : k * 6 + 2 < (flatA (inK li b k)).length := by rw [flatA_length, inK_length, ← HNI.out]; omega
                have RS := Lib.hid (show RowAt (wr.setCell ⟨g2, o2 + k * 6 + 2, none⟩ (.bool b)) w3.heap.size 6 (.slice (some ⟨g2, o2, none⟩) ni ci) ni (flatA (inK li b (k + 1))) from by
                  have h := RV.out.setA hlen (u := .bool b) rfl
                  rw [inK_next hg, ← Nat.add_assoc] at h
                  exact h)
                have c2 : wr.cell? ⟨g2, o2 + k * 6 + 2, none⟩ = some (.bool w0) := by rw [Nat.add_assoc]; exact hce _ _ (flatA_at (inK_at hg) 2 _ rfl)
                have fz : wr.frozen? ⟨g2, o2 + k * 6 + 2, none⟩ = false := by
                  obtain ⟨-, -, ⟨h, _⟩ | ⟨g', o', cap', he, h3, -, -, -, -, h8⟩⟩ := RV.out
                  · cases h
                  · cases he
                    rw [Nat.add_assoc]
                    exact (h8 _ (by omega)).2
                obtain ⟨g2', o2', ci2', he2, -, hcs⟩ := RS.out.some_ hni0
                cases he2
                have hat : (inK li b (k + 1))[k]? = some ⟨fr, pg, b, kd, fl, ofs⟩ := by
                  unfold inK
                  have hkl : k < li.length := by rw [← HNI.out]; exact hkn
                  rw [List.getElem?_append_left (by rw [List.length_map, List.length_take]; omega), List.getElem?_map, List.getElem?_take_of_lt (by omega), hg]
                  rfl
                have KC := Lib.hid (show (wr.setCell ⟨g2, o2 + k * 6 + 2, none⟩ (.bool b)).cell? ⟨g2, o2 + k * 6, none⟩ = some (.int .i64 fr) ∧ (wr.setCell ⟨g2, o2 + k * 6 + 2, none⟩ (.bool b)).cell? ⟨g2, o2 + k * 6 + 1, none⟩ = some (.int .i64 pg) ∧ (wr.setCell ⟨g2, o2 + k * 6 + 2, none⟩ (.bool b)).cell? ⟨g2, o2 + k * 6 + 2, none⟩ = some (.bool b) ∧ (wr.setCell ⟨g2, o2 + k * 6 + 2, none⟩ (.bool b)).cell? ⟨g2, o2 + k * 6 + 3, none⟩ = some (.int .i64 kd) ∧ (wr.setCell ⟨g2, o2 + k * 6 + 2, none⟩ (.bool b)).cell? ⟨g2, o2 + k * 6 + 4, none⟩ = some (.int .i64 fl) ∧ (wr.setCell ⟨g2, o2 + k * 6 + 2, none⟩ (.bool b)).cell? ⟨g2, o2 + k * 6 + 5, none⟩ = some (.int .i64 ofs) from ⟨by exact hcs _ _ (flatA_at hat 0 _ rfl), by rw [Nat.add_assoc]; exact hcs _ _ (flatA_at hat 1 _ rfl), by rw [Nat.add_assoc o2]; exact hcs _ _ (flatA_at hat 2 _ rfl), by rw [Nat.add_assoc o2 (k * 6) 3]; exact hcs _ _ (flatA_at hat 3 _ rfl), by rw [Nat.add_assoc o2 (k * 6) 4]; exact hcs _ _ (flatA_at hat 4 _ rfl), by rw [Nat.add_assoc o2 (k * 6) 5]; exact hcs _ _ (flatA_at hat 5 _ rfl)⟩)
                obtain ⟨k0, k1, k2, k3, k4, k5⟩ := KC.out
                obtain ⟨W6, hW6⟩ : ∃ W6, W6 = wr.setCell ⟨g2, o2 + k * 6 + 2, none⟩ (.bool b) := ⟨_, rfl⟩
                have HO6 := Lib.hid (show Only g2 wr W6 from by rw [hW6]; exact (Only.refl g2 wr).setCell _ _)
                rw [← hW6] at RS
                have OV6 := Lib.hid (OV.out.only HO6.out)
                have BV6 := Lib.hid (BV.out.trans (HO6.out.below G2.out.1 BV.out.size))
                have CI := Lib.hid (refInsert_any _ lk ⟨fr, pg, b, kd, fl, ofs⟩ W6 OV6.out.1 (by omega))
                have H5 := Lib.hid (show insA lk ⟨fr, pg, b, kd, fl, ofs⟩ = ((li.take (k + 1)).map (setW b)).foldl insA lo from by rw [foldK_next hg, ← HLK.out]; rfl)
                have HG6 := Lib.hid (show g2 < W6.heap.size from (RS.out.lt g2 rfl).2)
                clear hce hcs hat hlen hg
                go_wp2_with fail
                rw [← hW6]
                clear hW6 k0 k1 k2 k3 k4 k5 c2 fz
                refine CI.out.mono ?_
                rintro e w7 ⟨v7, rfl, ⟨hi1, hi2⟩, hb7⟩
                have OV7 := Lib.hid (show OutV w7 g2 v7 _ from ⟨hi1, fun a n c e => by have := hi2 a n c e; have := HG6.out; omega⟩)
                have RV7 := Lib.hid (RS.out.fresh hb7)
                have BV7 := Lib.hid (BV6.out.trans (hb7.mono BV6.out.size))
                clear hi1 hi2 hb7
                go_wp2_with fail
                go_roundg (ni - (k + 1))
                case measure => omega
                case rel => exact ⟨k + 1, _, by omega, by go_num, H5.out, OV7.out, RV7.out, BV7.out⟩
              · obtain rfl : k = ni := by omega
                have x1 : decide ((k : Int) < (k : Int)) = false := decide_eq_false (by omega)
                have HPO := Lib.hid (show lk = protO l f p b from by rw [HLK.out, List.take_of_length_le (by rw [← HNI.out]; exact Nat.le_refl _), HLO.out, HLI.out]; rfl)
                have BX := Lib.hid (B3.out.trans (BV.out.mono B3.out.size))
                have PX := Lib.hid (P3.out.fresh BV.out)
                have y1 : decide ((16 : Int) < (nk : Int)) = true := decide_eq_true (by have h := HB2.out; rw [← HPO.out, HNK.out] at h; omega)
                obtain rfl : nb = 0 := HNB.out.symm
                go_wp2_with fail
                refine (areaAnswers_any _).mono ?_
                rintro e wz ⟨rfl, hb⟩
                have BZ := Lib.hid (BX.out.trans (hb.mono BX.out.size))
                clear hb
                go_wp2
                go_ret
                exact ⟨rfl, BZ.out⟩
          · have hE : cutE l f p = 4 := by unfold cutE; rw [if_pos hr, if_pos hb1]
            have hL : cutL l f p = [] := by unfold cutL; rw [hE]; exact if_neg (by decide)
            have hF : protE l f p b = 0 := by unfold protE; rw [if_pos hr, if_neg hin, if_neg hb2]
            have hM : protL l f p b = protO l f p b := by unfold protL; rw [hF]; exact if_pos rfl
            have HR := Lib.hid hr
            have HB1 := Lib.hid hb1
            have HIN := Lib.hid hin
            have HB2 := Lib.hid hb2
            go_enter Try.func5, Try.ntmps5
            go_wp2_with fail
            refine CL.out.mono ?_
            rintro e w1 ⟨rfl, hb⟩
            have B1 := Lib.hid hb
            have X1 := Lib.hid (HX.out.fresh hb)
            have CA := Lib.hid (area_cut w1 _ l f p WF.out WP.out X1.out LI.out (by have := HNL.out; omega))
            rw [hE, hL] at CA
            clear hb hE hL
            go_wp2_with fail
            refine CA.out.mono ?_
            rintro e w2 ⟨v9, rfl, hm, hb⟩
            have B2 := Lib.hid (B1.out.trans (hb.mono B1.out.size))
            have X2 := Lib.hid (X1.out.fresh hb)
            have M2 := Lib.hid hm
            obtain ⟨A9, n9, c9, rfl, hn9, -⟩ := hm
            have HN9 := Lib.hid hn9
            have CB := Lib.hid (area_protect w2 _ l f p b WF.out WP.out X2.out LI.out (by have := HNL.out; omega))
            rw [hF, hM] at CB
            clear hb hF hM hn9
            go_wp2_with fail
            refine CB.out.mono ?_
            rintro e w3 ⟨vb, rfl, hm, hb⟩
            have B3 := Lib.hid (B2.out.trans (hb.mono B2.out.size))
            have X3 := Lib.hid (X2.out.fresh hb)
            have M3 := Lib.hid (M2.out.fresh hb)
            have P3 := Lib.hid hm
            obtain ⟨Ab, nb, cb, rfl, hnb, -⟩ := hm
            have HNB := Lib.hid hnb
            have CR := Lib.hid (refRight_any f p w3)
            rw [decide_eq_true hr] at CR
            clear hb hnb hr hb1 hin hb2
            go_wp2_with (go_at_call 18; refine CR.out.mono ?_; rintro e w' ⟨rfl, rfl⟩)
            obtain ⟨r1, r2, r3, r4⟩ := HR.out
            refine (refCut_any _ l f p w3 X3.out LIN.out (by have := HNL.out; omega) ⟨r1, r3⟩ ⟨r2, r4⟩).mono ?_
            rintro e w4 ⟨vo, vi, rfl, hT⟩
            have T4 := Lib.hid hT
            obtain ⟨Ao, co, rfl, -⟩ := hT.r1.len
            obtain ⟨Ai, ci, rfl, -⟩ := hT.r2.len
            obtain ⟨lo, hlo⟩ : ∃ lo, lo = outA l f p := ⟨_, rfl⟩
            obtain ⟨li, hli⟩ : ∃ li, li = inA l f p := ⟨_, rfl⟩
            rw [← hlo, ← hli] at T4 ⊢
            have HLO := Lib.hid hlo
            have HLI := Lib.hid hli
            obtain ⟨no, hno⟩ : ∃ no, no = lo.length := ⟨_, rfl⟩
            obtain ⟨ni, hni⟩ : ∃ ni, ni = li.length := ⟨_, rfl⟩
            rw [← hno, ← hni]
            have HNO := Lib.hid hno
            have HNI := Lib.hid hni
            have hno2 : no ≤ 32 := by rw [hno, hlo]; have := outA_length l f p; have := HNL.out; omega
            have hni2 : ni ≤ 16 := by rw [hni, hli]; have := inA_length l f p; have := HNL.out; omega
            have u1 : decide ((16 : Int) < (no : Int)) = true := decide_eq_true (by have := HB1.out; rw [← hlo, ← hno] at this; omega)
            have hni0 : 0 < ni := by rw [hni, hli]; exact List.length_pos_iff.2 HIN.out
            have u2 : ((ni : Int) == 0) = false := by simp; omega
            obtain rfl : n9 = 0 := HN9.out.symm
            clear hT hlo hli hno hni
            go_wp2_with fail
            have T5 := T4
            have P5 := Lib.hid (P3.out.fresh T4.out.bel)
            obtain ⟨w5, rfl⟩ : ∃ w5, w5 = w4 := ⟨_, rfl⟩
            have B5 := Lib.hid (B3.out.trans (T5.out.bel.mono B3.out.size))
            have hr1 := T5.out.r1
            have hr2 := T5.out.r2
            rw [← HNO.out] at hr1
            rw [← HNI.out] at hr2
            obtain ⟨g2, o2, ci2, he2, -, -⟩ := hr2.some_ hni0
            injection he2 with he3 he4 he5
            subst he3 he5
            have R5 := Lib.hid (show RowAt w5 w3.heap.size 6 (.slice (some ⟨g2, o2, none⟩) ni ci) ni (flatA (inK li b 0)) from hr2)
            have O5 := Lib.hid (show OutV w5 g2 (.slice Ao no co) lo from ⟨(by have h := T5.out.r1.ars; rw [← HNO.out] at h; exact h), fun a n c e => by
              have h := T5.out.ne a.block (by injection e with e1 e2 e3; rw [e1]; rfl)
              intro e'
              exact h (by rw [e']; rfl)⟩)
            have G2 := Lib.hid (show w3.heap.size ≤ g2 ∧ g2 < w5.heap.size from hr2.lt g2 rfl)
            clear hr1 hr2
            go_loopg [13, 15] ni (fun gg s13 s15 wx => ∃ (k : Nat) (lk : List Ar), k + gg = ni ∧ s15 = .int .i64 (k : Int) ∧ lk = ((li.take k).map (setW b)).foldl insA lo ∧ OutV wx g2 s13 lk ∧ RowAt wx w3.heap.size 6 (.slice (some ⟨g2, o2, none⟩) ni ci) ni (flatA (inK li b k)) ∧ Below w3.heap.size w3 wx)
            case atStart => exact ⟨0, lo, by omega, rfl, rfl, O5.out, R5.out, T5.out.bel⟩
            case round =>
              obtain ⟨k, lk, hk, rfl, hlk, ho, hr, hb⟩ := hrel
              have OV := Lib.hid ho
              have RV := Lib.hid hr
              have BV := Lib.hid hb
              have HLK := Lib.hid hlk
              have hlk2 : lk.length ≤ 64 := by
                rw [hlk, foldK_length, List.length_map, List.length_take, ← HNO.out, ← HNI.out]
                omega
              obtain ⟨Ak, nk, ck, rfl, hnk, -⟩ := ho.1
              have HNK := Lib.hid hnk
              clear hlk hr hb hnk O5 R5
              by_cases hkn : k < ni
              · have x1 : decide ((k : Int) < (ni : Int)) = true := decide_eq_true (by omega)
                have x2 : (k : Int) < (ni : Int) := by omega
                have x3 : (0 : Int) ≤ (k : Int) := by omega
                obtain ⟨⟨fr, pg, w0, kd, fl, ofs⟩, hg⟩ : ∃ a, li[k]? = some a := ⟨_, List.getElem?_eq_getElem (by rw [← HNI.out]; exact hkn)⟩
                have HG := Lib.hid hg
                obtain ⟨g2', o2', ci2', he2, -, hce⟩ := RV.out.some_ hni0
                cases he2
                have hlen : k * 6 + 2 < (flatA (inK li b k)).length := by rw [flatA_length, inK_length, ← HNI.out]; omega
                have RS := Lib.hid (show RowAt (wr.setCell ⟨g2, o2 + k * 6 + 2, none⟩ (.bool b)) w3.heap.size 6 (.slice (some ⟨g2, o2, none⟩) ni ci) ni (flatA (inK li b (k + 1))) from by
                  have h := RV.out.setA hlen (u := .bool b) rfl
                  rw [inK_next hg, ← Nat.add_assoc] at h
                  exact h)
                have c2 : wr.cell? ⟨g2, o2 + k * 6 + 2, none⟩ = some (.bool w0) := by rw [Nat.add_assoc]; exact hce _ _ (flatA_at (inK_at hg) 2 _ rfl)
                have fz : wr.frozen? ⟨g2, o2 + k * 6 + 2, none⟩ = false := by
                  obtain ⟨-, -, ⟨h, _⟩ | ⟨g', o', cap', he, h3, -, -, -, -, h8⟩⟩ := RV.out
                  · cases h
                  · cases he
                    rw [Nat.add_assoc]
                    exact (h8 _ (by omega)).2
                obtain ⟨g2', o2', ci2', he2, -, hcs⟩ := RS.out.some_ hni0
                cases he2
                have hat : (inK li b (k + 1))[k]? = some ⟨fr, pg, b, kd, fl, ofs⟩ := by
                  unfold inK
                  have hkl : k < li.length := by rw [← HNI.out]; exact hkn
                  rw [List.getElem?_append_left (by rw [List.length_map, List.length_take]; omega), List.getElem?_map, List.getElem?_take_of_lt (by omega), hg]
                  rfl
                have KC := Lib.hid (show (wr.setCell ⟨g2, o2 + k * 6 + 2, none⟩ (.bool b)).cell? ⟨g2, o2 + k * 6, none⟩ = some (.int .i64 fr) ∧ (wr.setCell ⟨g2, o2 + k * 6 + 2, none⟩ (.bool b)).cell? ⟨g2, o2 + k * 6 + 1, none⟩ = some (.int .i64 pg) ∧ (wr.setCell ⟨g2, o2 + k * 6 + 2, none⟩ (.bool b)).cell? ⟨g2, o2 + k * 6 + 2, none⟩ = some (.bool b) ∧ (wr.setCell ⟨g2, o2 + k * 6 + 2, none⟩ (.bool b)).cell? ⟨g2, o2 + k * 6 + 3, none⟩ = some (.int .i64 kd) ∧ (wr.setCell ⟨g2, o2 + k * 6 + 2, none⟩ (.bool b)).cell? ⟨g2, o2 + k * 6 + 4, none⟩ = some (.int .i64 fl) ∧ (wr.setCell ⟨g2, o2 + k * 6 + 2, none⟩ (.bool b)).cell? ⟨g2, o2 + k * 6 + 5, none⟩ = some (.int .i64 ofs) from ⟨by exact hcs _ _ (flatA_at hat 0 _ rfl), by rw [Nat.add_assoc]; exact hcs _ _ (flatA_at hat 1 _ rfl), by rw [Nat.add_assoc o2]; exact hcs _ _ (flatA_at hat 2 _ rfl), by rw [Nat.add_assoc o2 (k * 6) 3]; exact hcs _ _ (flatA_at hat 3 _ rfl), by rw [Nat.add_assoc o2 (k * 6) 4]; exact hcs _ _ (flatA_at hat 4 _ rfl), by rw [Nat.add_assoc o2 (k * 6) 5]; exact hcs _ _ (flatA_at hat 5 _ rfl)⟩)
                obtain ⟨k0, k1, k2, k3, k4, k5⟩ := KC.out
                obtain ⟨W6, hW6⟩ : ∃ W6, W6 = wr.setCell ⟨g2, o2 + k * 6 + 2, none⟩ (.bool b) := ⟨_, rfl⟩
                have HO6 := Lib.hid (show Only g2 wr W6 from by rw [hW6]; exact (Only.refl g2 wr).setCell _ _)
                rw [← hW6] at RS
                have OV6 := Lib.hid (OV.out.only HO6.out)
                have BV6 := Lib.hid (BV.out.trans (HO6.out.below G2.out.1 BV.out.size))
                have CI := Lib.hid (refInsert_any _ lk ⟨fr, pg, b, kd, fl, ofs⟩ W6 OV6.out.1 (by omega))
                have H5 := Lib.hid (show insA lk ⟨fr, pg, b, kd, fl, ofs⟩ = ((li.take (k + 1)).map (setW b)).foldl insA lo from by rw [foldK_next hg, ← HLK.out]; rfl)
                have HG6 := Lib.hid (show g2 < W6.heap.size from (RS.out.lt g2 rfl).2)
                clear hce hcs hat hlen hg
                go_wp2_with fail
                rw [← hW6]
                clear hW6 k0 k1 k2 k3 k4 k5 c2 fz
                refine CI.out.mono ?_
                rintro e w7 ⟨v7, rfl, ⟨hi1, hi2⟩, hb7⟩
                have OV7 := Lib.hid (show OutV w7 g2 v7 _ from ⟨hi1, fun a n c e => by have := hi2 a n c e; have := HG6.out; omega⟩)
                have RV7 := Lib.hid (RS.out.fresh hb7)
                have BV7 := Lib.hid (BV6.out.trans (hb7.mono BV6.out.size))
                clear hi1 hi2 hb7
                go_wp2_with fail
                go_roundg (ni - (k + 1))
                case measure => omega
                case rel => exact ⟨k + 1, _, by omega, by go_num, H5.out, OV7.out, RV7.out, BV7.out⟩
              · obtain rfl : k = ni := by omega
                have x1 : decide ((k : Int) < (k : Int)) = false := decide_eq_false (by omega)
                have HPO := Lib.hid (show lk = protO l f p b from by rw [HLK.out, List.take_of_length_le (by rw [← HNI.out]; exact Nat.le_refl _), HLO.out, HLI.out]; rfl)
                have BX := Lib.hid (B3.out.trans (BV.out.mono B3.out.size))
                have PX := Lib.hid (P3.out.fresh BV.out)
                have y1 : decide ((16 : Int) < (nk : Int)) = false := decide_eq_false (by have h := HB2.out; rw [← HPO.out, HNK.out] at h; omega)
                go_wp2_with fail
                refine (areaAnswers_any _).mono ?_
                rintro e wz ⟨rfl, hb⟩
                have BZ := Lib.hid (BX.out.trans (hb.mono BX.out.size))
                have PZ := Lib.hid (PX.out.fresh hb)
                have OZ := Lib.hid (OV.out.1.fresh hb)
                clear hb
                have CF := Lib.hid (refAreas_any _ _ _ _ _ _ wz PZ.out OZ.out)
                rw [show decide (protO l f p b = lk) = true from decide_eq_true HPO.out.symm] at CF
                go_wp2_with fail
                refine CF.out.mono ?_
                rintro e wy ⟨rfl, hd⟩
                have BY := Lib.hid (BZ.out.trans ((drew_below hd).mono BZ.out.size))
                clear hd
                go_wp2
                go_ret
                exact ⟨rfl, BY.out⟩
      · by_cases hin : inA l f p = []
        · have hE : cutE l f p = 0 := by unfold cutE; rw [if_pos hr, if_neg hb1]
          have hL : cutL l f p = outA l f p := by unfold cutL; rw [hE]; exact if_pos rfl
          have hF : protE l f p b = 2 := by unfold protE; rw [if_pos hr, if_pos hin]
          have hM : protL l f p b = [] := by unfold protL; rw [hF]; exact if_neg (by decide)
          have HR := Lib.hid hr
          have HB1 := Lib.hid hb1
          have HIN := Lib.hid hin
          go_enter Try.func5, Try.ntmps5
          go_wp2_with fail
          refine CL.out.mono ?_
          rintro e w1 ⟨rfl, hb⟩
          have B1 := Lib.hid hb
          have X1 := Lib.hid (HX.out.fresh hb)
          have CA := Lib.hid (area_cut w1 _ l f p WF.out WP.out X1.out LI.out (by have := HNL.out; omega))
          rw [hE, hL] at CA
          clear hb hE hL
          go_wp2_with fail
          refine CA.out.mono ?_
          rintro e w2 ⟨v9, rfl, hm, hb⟩
          have B2 := Lib.hid (B1.out.trans (hb.mono B1.out.size))
          have X2 := Lib.hid (X1.out.fresh hb)
          have M2 := Lib.hid hm
          obtain ⟨A9, n9, c9, rfl, hn9, -⟩ := hm
          have HN9 := Lib.hid hn9
          have CB := Lib.hid (area_protect w2 _ l f p b WF.out WP.out X2.out LI.out (by have := HNL.out; omega))
          rw [hF, hM] at CB
          clear hb hF hM hn9
          go_wp2_with fail
          refine CB.out.mono ?_
          rintro e w3 ⟨vb, rfl, hm, hb⟩
          have B3 := Lib.hid (B2.out.trans (hb.mono B2.out.size))
          have X3 := Lib.hid (X2.out.fresh hb)
          have M3 := Lib.hid (M2.out.fresh hb)
          have P3 := Lib.hid hm
          obtain ⟨Ab, nb, cb, rfl, hnb, -⟩ := hm
          have HNB := Lib.hid hnb
          have CR := Lib.hid (refRight_any f p w3)
          rw [decide_eq_true hr] at CR
          clear hb hnb hr hb1 hin
          go_wp2_with (go_at_call 18; refine CR.out.mono ?_; rintro e w' ⟨rfl, rfl⟩)
          obtain ⟨r1, r2, r3, r4⟩ := HR.out
          refine (refCut_any _ l f p w3 X3.out LIN.out (by have := HNL.out; omega) ⟨r1, r3⟩ ⟨r2, r4⟩).mono ?_
          rintro e w4 ⟨vo, vi, rfl, hT⟩
          have T4 := Lib.hid hT
          obtain ⟨Ao, co, rfl, -⟩ := hT.r1.len
          obtain ⟨Ai, ci, rfl, -⟩ := hT.r2.len
          obtain ⟨lo, hlo⟩ : ∃ lo, lo = outA l f p := ⟨_, rfl⟩
          obtain ⟨li, hli⟩ : ∃ li, li = inA l f p := ⟨_, rfl⟩
          rw [← hlo, ← hli] at T4 ⊢
          have HLO := Lib.hid hlo
          have HLI := Lib.hid hli
          obtain ⟨no, hno⟩ : ∃ no, no = lo.length := ⟨_, rfl⟩
          obtain ⟨ni, hni⟩ : ∃ ni, ni = li.length := ⟨_, rfl⟩
          rw [← hno, ← hni]
          have HNO := Lib.hid hno
          have HNI := Lib.hid hni
          have hno2 : no ≤ 32 := by rw [hno, hlo]; have := outA_length l f p; have := HNL.out; omega
          have hni2 : ni ≤ 16 := by rw [hni, hli]; have := inA_length l f p; have := HNL.out; omega
          have u1 : decide ((16 : Int) < (no : Int)) = false := decide_eq_false (by have := HB1.out; rw [← hlo, ← hno] at this; omega)
          have u2 : ((ni : Int) == 0) = true := by rw [hni, hli, HIN.out]; rfl
          have M4 := Lib.hid (M3.out.fresh T4.out.bel)
          have CQ := Lib.hid (refAreas_any _ _ _ lo _ _ w4 M4.out T4.out.r1.ars)
          rw [show decide (outA l f p = lo) = true from decide_eq_true HLO.out.symm] at CQ
          rw [← hno] at CQ
          clear hT hlo hli hno hni
          go_wp2_with fail
          refine CQ.out.mono ?_
          rintro e w5 ⟨rfl, hd⟩
          have T5 := Lib.hid (T4.out.fresh (drew_below hd))
          have P5 := Lib.hid ((P3.out.fresh T4.out.bel).fresh (drew_below hd))
          clear hd
          go_wp2_with fail
          have B5 := Lib.hid (B3.out.trans (T5.out.bel.mono B3.out.size))
          obtain rfl : nb = 0 := HNB.out.symm
          refine (areaAnswers_any _).mono ?_
          rintro e wz ⟨rfl, hb⟩
          have BZ := Lib.hid (B5.out.trans (hb.mono B5.out.size))
          clear hb
          go_wp2
          go_ret
          exact ⟨rfl, BZ.out⟩
        · by_cases hb2 : 16 < (protO l f p b).length
          · have hE : cutE l f p = 0 := by unfold cutE; rw [if_pos hr, if_neg hb1]
            have hL : cutL l f p = outA l f p := by unfold cutL; rw [hE]; exact if_pos rfl
            have hF : protE l f p b = 4 := by unfold protE; rw [if_pos hr, if_neg hin, if_pos hb2]
            have hM : protL l f p b = [] := by unfold protL; rw [hF]; exact if_neg (by decide)
            have HR := Lib.hid hr
            have HB1 := Lib.hid hb1
            have HIN := Lib.hid hin
            have HB2 := Lib.hid hb2
            go_enter Try.func5, Try.ntmps5
            go_wp2_with fail
            refine CL.out.mono ?_
            rintro e w1 ⟨rfl, hb⟩
            have B1 := Lib.hid hb
            have X1 := Lib.hid (HX.out.fresh hb)
            have CA := Lib.hid (area_cut w1 _ l f p WF.out WP.out X1.out LI.out (by have := HNL.out; omega))
            rw [hE, hL] at CA
            clear hb hE hL
            go_wp2_with fail
            refine CA.out.mono ?_
            rintro e w2 ⟨v9, rfl, hm, hb⟩
            have B2 := Lib.hid (B1.out.trans (hb.mono B1.out.size))
            have X2 := Lib.hid (X1.out.fresh hb)
            have M2 := Lib.hid hm
            obtain ⟨A9, n9, c9, rfl, hn9, -⟩ := hm
            have HN9 := Lib.hid hn9
            have CB := Lib.hid (area_protect w2 _ l f p b WF.out WP.out X2.out LI.out (by have := HNL.out; omega))
            rw [hF, hM] at CB
            clear hb hF hM hn9
            go_wp2_with fail
            refine CB.out.mono ?_
            rintro e w3 ⟨vb, rfl, hm, hb⟩
            have B3 := Lib.hid (B2.out.trans (hb.mono B2.out.size))
            have X3 := Lib.hid (X2.out.fresh hb)
            have M3 := Lib.hid (M2.out.fresh hb)
            have P3 := Lib.hid hm
            obtain ⟨Ab, nb, cb, rfl, hnb, -⟩ := hm
            have HNB := Lib.hid hnb
            have CR := Lib.hid (refRight_any f p w3)
            rw [decide_eq_true hr] at CR
            clear hb hnb hr hb1 hin hb2
            go_wp2_with (go_at_call 18; refine CR.out.mono ?_; rintro e w' ⟨rfl, rfl⟩)
            obtain ⟨r1, r2, r3, r4⟩ := HR.out
            refine (refCut_any _ l f p w3 X3.out LIN.out (by have := HNL.out; omega) ⟨r1, r3⟩ ⟨r2, r4⟩).mono ?_
            rintro e w4 ⟨vo, vi, rfl, hT⟩
            have T4 := Lib.hid hT
            obtain ⟨Ao, co, rfl, -⟩ := hT.r1.len
            obtain ⟨Ai, ci, rfl, -⟩ := hT.r2.len
            obtain ⟨lo, hlo⟩ : ∃ lo, lo = outA l f p := ⟨_, rfl⟩
            obtain ⟨li, hli⟩ : ∃ li, li = inA l f p := ⟨_, rfl⟩
            rw [← hlo, ← hli] at T4 ⊢
            have HLO := Lib.hid hlo
            have HLI := Lib.hid hli
            obtain ⟨no, hno⟩ : ∃ no, no = lo.length := ⟨_, rfl⟩
            obtain ⟨ni, hni⟩ : ∃ ni, ni = li.length := ⟨_, rfl⟩
            rw [← hno, ← hni]
            have HNO := Lib.hid hno
            have HNI := Lib.hid hni
            have hno2 : no ≤ 32 := by rw [hno, hlo]; have := outA_length l f p; have := HNL.out; omega
            have hni2 : ni ≤ 16 := by rw [hni, hli]; have := inA_length l f p; have := HNL.out; omega
            have u1 : decide ((16 : Int) < (no : Int)) = false := decide_eq_false (by have := HB1.out; rw [← hlo, ← hno] at this; omega)
            have hni0 : 0 < ni := by rw [hni, hli]; exact List.length_pos_iff.2 HIN.out
            have u2 : ((ni : Int) == 0) = false := by simp; omega
            have M4 := Lib.hid (M3.out.fresh T4.out.bel)
            have CQ := Lib.hid (refAreas_any _ _ _ lo _ _ w4 M4.out T4.out.r1.ars)
            rw [show decide (outA l f p = lo) = true from decide_eq_true HLO.out.symm] at CQ
            rw [← hno] at CQ
            clear hT hlo hli hno hni
            go_wp2_with fail
            refine CQ.out.mono ?_
            rintro e w5 ⟨rfl, hd⟩
            have T5 := Lib.hid (T4.out.fresh (drew_below hd))
            have P5 := Lib.hid ((P3.out.fresh T4.out.bel).fresh (drew_below hd))
            clear hd
            go_wp2_with fail
            have B5 := Lib.hid (B3.out.trans (T5.out.bel.mono B3.out.size))
            have hr1 := T5.out.r1
            have hr2 := T5.out.r2
            rw [← HNO.out] at hr1
            rw [← HNI.out] at hr2
            obtain ⟨g2, o2, ci2, he2, -, -⟩ := hr2.some_ hni0
            injection he2 with he3 he4 he5
            subst he3 he5
            have R5 := Lib.hid (show RowAt w5 w3.heap.size 6 (.slice (some ⟨g2, o2, none⟩) ni ci) ni (flatA (inK li b 0)) from hr2)
            have O5 := Lib.hid (show OutV w5 g2 (.slice Ao no co) lo from ⟨(by have h := T5.out.r1.ars; rw [← HNO.out] at h; exact h), fun a n c e => by
              have h := T5.out.ne a.block (by injection e with e1 e2 e3; rw [e1]; rfl)
              intro e'
              exact h (by rw [e']; rfl)⟩)
            have G2 := Lib.hid (show w3.heap.size ≤ g2 ∧ g2 < w5.heap.size from hr2.lt g2 rfl)
            clear hr1 hr2
            go_loopg [13, 15] ni (fun gg s13 s15 wx => ∃ (k : Nat) (lk : List Ar), k + gg = ni ∧ s15 = .int .i64 (k : Int) ∧ lk = ((li.take k).map (setW b)).foldl insA lo ∧ OutV wx g2 s13 lk ∧ RowAt wx w3.heap.size 6 (.slice (some ⟨g2, o2, none⟩) ni ci) ni (flatA (inK li b k)) ∧ Below w3.heap.size w3 wx)
            case atStart => exact ⟨0, lo, by omega, rfl, rfl, O5.out, R5.out, T5.out.bel⟩
            case round =>
              obtain ⟨k, lk, hk, rfl, hlk, ho, hr, hb⟩ := hrel
              have OV := Lib.hid ho
              have RV := Lib.hid hr
              have BV := Lib.hid hb
              have HLK := Lib.hid hlk
              have hlk2 : lk.length ≤ 64 := by
                rw [hlk, foldK_length, List.length_map, List.length_take, ← HNO.out, ← HNI.out]
                omega
              obtain ⟨Ak, nk, ck, rfl, hnk, -⟩ := ho.1
              have HNK := Lib.hid hnk
              clear hlk hr hb hnk O5 R5
              by_cases hkn : k < ni
              · have x1 : decide ((k : Int) < (ni : Int)) = true := decide_eq_true (by omega)
                have x2 : (k : Int) < (ni : Int) := by omega
                have x3 : (0 : Int) ≤ (k : Int) := by omega
                obtain ⟨⟨fr, pg, w0, kd, fl, ofs⟩, hg⟩ : ∃ a, li[k]? = some a := ⟨_, List.getElem?_eq_getElem (by rw [← HNI.out]; exact hkn)⟩
                have HG := Lib.hid hg
                obtain ⟨g2', o2', ci2', he2, -, hce⟩ := RV.out.some_ hni0
                cases he2
                have hlen : k * 6 + 2 < (flatA (inK li b k)).length := by rw [flatA_length, inK_length, ← HNI.out]; omega
                have RS := Lib.hid (show RowAt (wr.setCell ⟨g2, o2 + k * 6 + 2, none⟩ (.bool b)) w3.heap.size 6 (.slice (some ⟨g2, o2, none⟩) ni ci) ni (flatA (inK li b (k + 1))) from by
                  have h := RV.out.setA hlen (u := .bool b) rfl
                  rw [inK_next hg, ← Nat.add_assoc] at h
                  exact h)
                have c2 : wr.cell? ⟨g2, o2 + k * 6 + 2, none⟩ = some (.bool w0) := by rw [Nat.add_assoc]; exact hce _ _ (flatA_at (inK_at hg) 2 _ rfl)
                have fz : wr.frozen? ⟨g2, o2 + k * 6 + 2, none⟩ = false := by
                  obtain ⟨-, -, ⟨h, _⟩ | ⟨g', o', cap', he, h3, -, -, -, -, h8⟩⟩ := RV.out
                  · cases h
                  · cases he
                    rw [Nat.add_assoc]
                    exact (h8 _ (by omega)).2
                obtain ⟨g2', o2', ci2', he2, -, hcs⟩ := RS.out.some_ hni0
                cases he2
                have hat : (inK li b (k + 1))[k]? = some ⟨fr, pg, b, kd, fl, ofs⟩ := by
                  unfold inK
                  have hkl : k < li.length := by rw [← HNI.out]; exact hkn
                  rw [List.getElem?_append_left (by rw [List.length_map, List.length_take]; omega), List.getElem?_map, List.getElem?_take_of_lt (by omega), hg]
                  rfl
                have KC := Lib.hid (show (wr.setCell ⟨g2, o2 + k * 6 + 2, none⟩ (.bool b)).cell? ⟨g2, o2 + k * 6, none⟩ = some (.int .i64 fr) ∧ (wr.setCell ⟨g2, o2 + k * 6 + 2, none⟩ (.bool b)).cell? ⟨g2, o2 + k * 6 + 1, none⟩ = some (.int .i64 pg) ∧ (wr.setCell ⟨g2, o2 + k * 6 + 2, none⟩ (.bool b)).cell? ⟨g2, o2 + k * 6 + 2, none⟩ = some (.bool b) ∧ (wr.setCell ⟨g2, o2 + k * 6 + 2, none⟩ (.bool b)).cell? ⟨g2, o2 + k * 6 + 3, none⟩ = some (.int .i64 kd) ∧ (wr.setCell ⟨g2, o2 + k * 6 + 2, none⟩ (.bool b)).cell? ⟨g2, o2 + k * 6 + 4, none⟩ = some (.int .i64 fl) ∧ (wr.setCell ⟨g2, o2 + k * 6 + 2, none⟩ (.bool b)).cell? ⟨g2, o2 + k * 6 + 5, none⟩ = some (.int .i64 ofs) from ⟨by exact hcs _ _ (flatA_at hat 0 _ rfl), by rw [Nat.add_assoc]; exact hcs _ _ (flatA_at hat 1 _ rfl), by rw [Nat.add_assoc o2]; exact hcs _ _ (flatA_at hat 2 _ rfl), by rw [Nat.add_assoc o2 (k * 6) 3]; exact hcs _ _ (flatA_at hat 3 _ rfl), by rw [Nat.add_assoc o2 (k * 6) 4]; exact hcs _ _ (flatA_at hat 4 _ rfl), by rw [Nat.add_assoc o2 (k * 6) 5]; exact hcs _ _ (flatA_at hat 5 _ rfl)⟩)
                obtain ⟨k0, k1, k2, k3, k4, k5⟩ := KC.out
                obtain ⟨W6, hW6⟩ : ∃ W6, W6 = wr.setCell ⟨g2, o2 + k * 6 + 2, none⟩ (.bool b) := ⟨_, rfl⟩
                have HO6 := Lib.hid (show Only g2 wr W6 from by rw [hW6]; exact (Only.refl g2 wr).setCell _ _)
                rw [← hW6] at RS
                have OV6 := Lib.hid (OV.out.only HO6.out)
                have BV6 := Lib.hid (BV.out.trans (HO6.out.below G2.out.1 BV.out.size))
                have CI := Lib.hid (refInsert_any _ lk ⟨fr, pg, b, kd, fl, ofs⟩ W6 OV6.out.1 (by omega))
                have H5 := Lib.hid (show insA lk ⟨fr, pg, b, kd, fl, ofs⟩ = ((li.take (k + 1)).map (setW b)).foldl insA lo from by rw [foldK_next hg, ← HLK.out]; rfl)
                have HG6 := Lib.hid (show g2 < W6.heap.size from (RS.out.lt g2 rfl).2)
                clear hce hcs hat hlen hg
                go_wp2_with fail
                rw [← hW6]
                clear hW6 k0 k1 k2 k3 k4 k5 c2 fz
                refine CI.out.mono ?_
                rintro e w7 ⟨v7, rfl, ⟨hi1, hi2⟩, hb7⟩
                have OV7 := Lib.hid (show OutV w7 g2 v7 _ from ⟨hi1, fun a n c e => by have := hi2 a n c e; have := HG6.out; omega⟩)
                have RV7 := Lib.hid (RS.out.fresh hb7)
                have BV7 := Lib.hid (BV6.out.trans (hb7.mono BV6.out.size))
                clear hi1 hi2 hb7
                go_wp2_with fail
                go_roundg (ni - (k + 1))
                case measure => omega
                case rel => exact ⟨k + 1, _, by omega, by go_num, H5.out, OV7.out, RV7.out, BV7.out⟩
              · obtain rfl : k = ni := by omega
                have x1 : decide ((k : Int) < (k : Int)) = false := decide_eq_false (by omega)
                have HPO := Lib.hid (show lk = protO l f p b from by rw [HLK.out, List.take_of_length_le (by rw [← HNI.out]; exact Nat.le_refl _), HLO.out, HLI.out]; rfl)
                have BX := Lib.hid (B3.out.trans (BV.out.mono B3.out.size))
                have PX := Lib.hid (P3.out.fresh BV.out)
                have y1 : decide ((16 : Int) < (nk : Int)) = true := decide_eq_true (by have h := HB2.out; rw [← HPO.out, HNK.out] at h; omega)
                obtain rfl : nb = 0 := HNB.out.symm
                go_wp2_with fail
                refine (areaAnswers_any _).mono ?_
                rintro e wz ⟨rfl, hb⟩
                have BZ := Lib.hid (BX.out.trans (hb.mono BX.out.size))
                clear hb
                go_wp2
                go_ret
                exact ⟨rfl, BZ.out⟩
          · have hE : cutE l f p = 0 := by unfold cutE; rw [if_pos hr, if_neg hb1]
            have hL : cutL l f p = outA l f p := by unfold cutL; rw [hE]; exact if_pos rfl
            have hF : protE l f p b = 0 := by unfold protE; rw [if_pos hr, if_neg hin, if_neg hb2]
            have hM : protL l f p b = protO l f p b := by unfold protL; rw [hF]; exact if_pos rfl
            have HR := Lib.hid hr
            have HB1 := Lib.hid hb1
            have HIN := Lib.hid hin
            have HB2 := Lib.hid hb2
            go_enter Try.func5, Try.ntmps5
            go_wp2_with fail
            refine CL.out.mono ?_
            rintro e w1 ⟨rfl, hb⟩
            have B1 := Lib.hid hb
            have X1 := Lib.hid (HX.out.fresh hb)
            have CA := Lib.hid (area_cut w1 _ l f p WF.out WP.out X1.out LI.out (by have := HNL.out; omega))
            rw [hE, hL] at CA
            clear hb hE hL
            go_wp2_with fail
            refine CA.out.mono ?_
            rintro e w2 ⟨v9, rfl, hm, hb⟩
            have B2 := Lib.hid (B1.out.trans (hb.mono B1.out.size))
            have X2 := Lib.hid (X1.out.fresh hb)
            have M2 := Lib.hid hm
            obtain ⟨A9, n9, c9, rfl, hn9, -⟩ := hm
            have HN9 := Lib.hid hn9
            have CB := Lib.hid (area_protect w2 _ l f p b WF.out WP.out X2.out LI.out (by have := HNL.out; omega))
            rw [hF, hM] at CB
            clear hb hF hM hn9
            go_wp2_with fail
            refine CB.out.mono ?_
            rintro e w3 ⟨vb, rfl, hm, hb⟩
            have B3 := Lib.hid (B2.out.trans (hb.mono B2.out.size))
            have X3 := Lib.hid (X2.out.fresh hb)
            have M3 := Lib.hid (M2.out.fresh hb)
            have P3 := Lib.hid hm
            obtain ⟨Ab, nb, cb, rfl, hnb, -⟩ := hm
            have HNB := Lib.hid hnb
            have CR := Lib.hid (refRight_any f p w3)
            rw [decide_eq_true hr] at CR
            clear hb hnb hr hb1 hin hb2
            go_wp2_with (go_at_call 18; refine CR.out.mono ?_; rintro e w' ⟨rfl, rfl⟩)
            obtain ⟨r1, r2, r3, r4⟩ := HR.out
            refine (refCut_any _ l f p w3 X3.out LIN.out (by have := HNL.out; omega) ⟨r1, r3⟩ ⟨r2, r4⟩).mono ?_
            rintro e w4 ⟨vo, vi, rfl, hT⟩
            have T4 := Lib.hid hT
            obtain ⟨Ao, co, rfl, -⟩ := hT.r1.len
            obtain ⟨Ai, ci, rfl, -⟩ := hT.r2.len
            obtain ⟨lo, hlo⟩ : ∃ lo, lo = outA l f p := ⟨_, rfl⟩
            obtain ⟨li, hli⟩ : ∃ li, li = inA l f p := ⟨_, rfl⟩
            rw [← hlo, ← hli] at T4 ⊢
            have HLO := Lib.hid hlo
            have HLI := Lib.hid hli
            obtain ⟨no, hno⟩ : ∃ no, no = lo.length := ⟨_, rfl⟩
            obtain ⟨ni, hni⟩ : ∃ ni, ni = li.length := ⟨_, rfl⟩
            rw [← hno, ← hni]
            have HNO := Lib.hid hno
            have HNI := Lib.hid hni
            have hno2 : no ≤ 32 := by rw [hno, hlo]; have := outA_length l f p; have := HNL.out; omega
            have hni2 : ni ≤ 16 := by rw [hni, hli]; have := inA_length l f p; have := HNL.out; omega
            have u1 : decide ((16 : Int) < (no : Int)) = false := decide_eq_false (by have := HB1.out; rw [← hlo, ← hno] at this; omega)
            have hni0 : 0 < ni := by rw [hni, hli]; exact List.length_pos_iff.2 HIN.out
            have u2 : ((ni : Int) == 0) = false := by simp; omega
            have M4 := Lib.hid (M3.out.fresh T4.out.bel)
            have CQ := Lib.hid (refAreas_any _ _ _ lo _ _ w4 M4.out T4.out.r1.ars)
            rw [show decide (outA l f p = lo) = true from decide_eq_true HLO.out.symm] at CQ
            rw [← hno] at CQ
            clear hT hlo hli hno hni
            go_wp2_with fail
            refine CQ.out.mono ?_
            rintro e w5 ⟨rfl, hd⟩
            have T5 := Lib.hid (T4.out.fresh (drew_below hd))
            have P5 := Lib.hid ((P3.out.fresh T4.out.bel).fresh (drew_below hd))
            clear hd
            go_wp2_with fail
            have B5 := Lib.hid (B3.out.trans (T5.out.bel.mono B3.out.size))
            have hr1 := T5.out.r1
            have hr2 := T5.out.r2
            rw [← HNO.out] at hr1
            rw [← HNI.out] at hr2
            obtain ⟨g2, o2, ci2, he2, -, -⟩ := hr2.some_ hni0
            injection he2 with he3 he4 he5
            subst he3 he5
            have R5 := Lib.hid (show RowAt w5 w3.heap.size 6 (.slice (some ⟨g2, o2, none⟩) ni ci) ni (flatA (inK li b 0)) from hr2)
            have O5 := Lib.hid (show OutV w5 g2 (.slice Ao no co) lo from ⟨(by have h := T5.out.r1.ars; rw [← HNO.out] at h; exact h), fun a n c e => by
              have h := T5.out.ne a.block (by injection e with e1 e2 e3; rw [e1]; rfl)
              intro e'
              exact h (by rw [e']; rfl)⟩)
            have G2 := Lib.hid (show w3.heap.size ≤ g2 ∧ g2 < w5.heap.size from hr2.lt g2 rfl)
            clear hr1 hr2
            go_loopg [13, 15] ni (fun gg s13 s15 wx => ∃ (k : Nat) (lk : List Ar), k + gg = ni ∧ s15 = .int .i64 (k : Int) ∧ lk = ((li.take k).map (setW b)).foldl insA lo ∧ OutV wx g2 s13 lk ∧ RowAt wx w3.heap.size 6 (.slice (some ⟨g2, o2, none⟩) ni ci) ni (flatA (inK li b k)) ∧ Below w3.heap.size w3 wx)
            case atStart => exact ⟨0, lo, by omega, rfl, rfl, O5.out, R5.out, T5.out.bel⟩
            case round =>
              obtain ⟨k, lk, hk, rfl, hlk, ho, hr, hb⟩ := hrel
              have OV := Lib.hid ho
              have RV := Lib.hid hr
              have BV := Lib.hid hb
              have HLK := Lib.hid hlk
              have hlk2 : lk.length ≤ 64 := by
                rw [hlk, foldK_length, List.length_map, List.length_take, ← HNO.out, ← HNI.out]
                omega
              obtain ⟨Ak, nk, ck, rfl, hnk, -⟩ := ho.1
              have HNK := Lib.hid hnk
              clear hlk hr hb hnk O5 R5
              by_cases hkn : k < ni
              · have x1 : decide ((k : Int) < (ni : Int)) = true := decide_eq_true (by omega)
                have x2 : (k : Int) < (ni : Int) := by omega
                have x3 : (0 : Int) ≤ (k : Int) := by omega
                obtain ⟨⟨fr, pg, w0, kd, fl, ofs⟩, hg⟩ : ∃ a, li[k]? = some a := ⟨_, List.getElem?_eq_getElem (by rw [← HNI.out]; exact hkn)⟩
                have HG := Lib.hid hg
                obtain ⟨g2', o2', ci2', he2, -, hce⟩ := RV.out.some_ hni0
                cases he2
                have hlen : k * 6 + 2 < (flatA (inK li b k)).length := by rw [flatA_length, inK_length, ← HNI.out]; omega
                have RS := Lib.hid (show RowAt (wr.setCell ⟨g2, o2 + k * 6 + 2, none⟩ (.bool b)) w3.heap.size 6 (.slice (some ⟨g2, o2, none⟩) ni ci) ni (flatA (inK li b (k + 1))) from by
                  have h := RV.out.setA hlen (u := .bool b) rfl
                  rw [inK_next hg, ← Nat.add_assoc] at h
                  exact h)
                have c2 : wr.cell? ⟨g2, o2 + k * 6 + 2, none⟩ = some (.bool w0) := by rw [Nat.add_assoc]; exact hce _ _ (flatA_at (inK_at hg) 2 _ rfl)
                have fz : wr.frozen? ⟨g2, o2 + k * 6 + 2, none⟩ = false := by
                  obtain ⟨-, -, ⟨h, _⟩ | ⟨g', o', cap', he, h3, -, -, -, -, h8⟩⟩ := RV.out
                  · cases h
                  · cases he
                    rw [Nat.add_assoc]
                    exact (h8 _ (by omega)).2
                obtain ⟨g2', o2', ci2', he2, -, hcs⟩ := RS.out.some_ hni0
                cases he2
                have hat : (inK li b (k + 1))[k]? = some ⟨fr, pg, b, kd, fl, ofs⟩ := by
                  unfold inK
                  have hkl : k < li.length := by rw [← HNI.out]; exact hkn
                  rw [List.getElem?_append_left (by rw [List.length_map, List.length_take]; omega), List.getElem?_map, List.getElem?_take_of_lt (by omega), hg]
                  rfl
                have KC := Lib.hid (show (wr.setCell ⟨g2, o2 + k * 6 + 2, none⟩ (.bool b)).cell? ⟨g2, o2 + k * 6, none⟩ = some (.int .i64 fr) ∧ (wr.setCell ⟨g2, o2 + k * 6 + 2, none⟩ (.bool b)).cell? ⟨g2, o2 + k * 6 + 1, none⟩ = some (.int .i64 pg) ∧ (wr.setCell ⟨g2, o2 + k * 6 + 2, none⟩ (.bool b)).cell? ⟨g2, o2 + k * 6 + 2, none⟩ = some (.bool b) ∧ (wr.setCell ⟨g2, o2 + k * 6 + 2, none⟩ (.bool b)).cell? ⟨g2, o2 + k * 6 + 3, none⟩ = some (.int .i64 kd) ∧ (wr.setCell ⟨g2, o2 + k * 6 + 2, none⟩ (.bool b)).cell? ⟨g2, o2 + k * 6 + 4, none⟩ = some (.int .i64 fl) ∧ (wr.setCell ⟨g2, o2 + k * 6 + 2, none⟩ (.bool b)).cell? ⟨g2, o2 + k * 6 + 5, none⟩ = some (.int .i64 ofs) from ⟨by exact hcs _ _ (flatA_at hat 0 _ rfl), by rw [Nat.add_assoc]; exact hcs _ _ (flatA_at hat 1 _ rfl), by rw [Nat.add_assoc o2]; exact hcs _ _ (flatA_at hat 2 _ rfl), by rw [Nat.add_assoc o2 (k * 6) 3]; exact hcs _ _ (flatA_at hat 3 _ rfl), by rw [Nat.add_assoc o2 (k * 6) 4]; exact hcs _ _ (flatA_at hat 4 _ rfl), by rw [Nat.add_assoc o2 (k * 6) 5]; exact hcs _ _ (flatA_at hat 5 _ rfl)⟩)
                obtain ⟨k0, k1, k2, k3, k4, k5⟩ := KC.out
                obtain ⟨W6, hW6⟩ : ∃ W6, W6 = wr.setCell ⟨g2, o2 + k * 6 + 2, none⟩ (.bool b) := ⟨_, rfl⟩
                have HO6 := Lib.hid (show Only g2 wr W6 from by rw [hW6]; exact (Only.refl g2 wr).setCell _ _)
                rw [← hW6] at RS
                have OV6 := Lib.hid (OV.out.only HO6.out)
                have BV6 := Lib.hid (BV.out.trans (HO6.out.below G2.out.1 BV.out.size))
                have CI := Lib.hid (refInsert_any _ lk ⟨fr, pg, b, kd, fl, ofs⟩ W6 OV6.out.1 (by omega))
                have H5 := Lib.hid (show insA lk ⟨fr, pg, b, kd, fl, ofs⟩ = ((li.take (k + 1)).map (setW b)).foldl insA lo from by rw [foldK_next hg, ← HLK.out]; rfl)
                have HG6 := Lib.hid (show g2 < W6.heap.size from (RS.out.lt g2 rfl).2)
                clear hce hcs hat hlen hg
                go_wp2_with fail
                rw [← hW6]
                clear hW6 k0 k1 k2 k3 k4 k5 c2 fz
                refine CI.out.mono ?_
                rintro e w7 ⟨v7, rfl, ⟨hi1, hi2⟩, hb7⟩
                have OV7 := Lib.hid (show OutV w7 g2 v7 _ from ⟨hi1, fun a n c e => by have := hi2 a n c e; have := HG6.out; omega⟩)
                have RV7 := Lib.hid (RS.out.fresh hb7)
                have BV7 := Lib.hid (BV6.out.trans (hb7.mono BV6.out.size))
                clear hi1 hi2 hb7
                go_wp2_with fail
                go_roundg (ni - (k + 1))
                case measure => omega
                case rel => exact ⟨k + 1, _, by omega, by go_num, H5.out, OV7.out, RV7.out, BV7.out⟩
              · obtain rfl : k = ni := by omega
                have x1 : decide ((k : Int) < (k : Int)) = false := decide_eq_false (by omega)
                have HPO := Lib.hid (show lk = protO l f p b from by rw [HLK.out, List.take_of_length_le (by rw [← HNI.out]; exact Nat.le_refl _), HLO.out, HLI.out]; rfl)
                have BX := Lib.hid (B3.out.trans (BV.out.mono B3.out.size))
                have PX := Lib.hid (P3.out.fresh BV.out)
                have y1 : decide ((16 : Int) < (nk : Int)) = false := decide_eq_false (by have h := HB2.out; rw [← HPO.out, HNK.out] at h; omega)
                go_wp2_with fail
                refine (areaAnswers_any _).mono ?_
                rintro e wz ⟨rfl, hb⟩
                have BZ := Lib.hid (BX.out.trans (hb.mono BX.out.size))
                have PZ := Lib.hid (PX.out.fresh hb)
                have OZ := Lib.hid (OV.out.1.fresh hb)
                clear hb
                have CF := Lib.hid (refAreas_any _ _ _ _ _ _ wz PZ.out OZ.out)
                rw [show decide (protO l f p b = lk) = true from decide_eq_true HPO.out.symm] at CF
                go_wp2_with fail
                refine CF.out.mono ?_
                rintro e wy ⟨rfl, hd⟩
                have BY := Lib.hid (BZ.out.trans ((drew_below hd).mono BZ.out.size))
                clear hd
                go_wp2
                go_ret
                exact ⟨rfl, BY.out⟩
    · have hE : cutE l f p = 1 := by unfold cutE; rw [if_neg hr]
      have hL : cutL l f p = [] := by unfold cutL; rw [hE]; exact if_neg (by decide)
      have hF : protE l f p b = 1 := by unfold protE; rw [if_neg hr]
      have hM : protL l f p b = [] := by unfold protL; rw [hF]; exact if_neg (by decide)
      have HR := Lib.hid hr
      go_enter Try.func5, Try.ntmps5
      go_wp2_with fail
      refine CL.out.mono ?_
      rintro e w1 ⟨rfl, hb⟩
      have B1 := Lib.hid hb
      have X1 := Lib.hid (HX.out.fresh hb)
      have CA := Lib.hid (area_cut w1 _ l f p WF.out WP.out X1.out LI.out (by have := HNL.out; omega))
      rw [hE, hL] at CA
      clear hb hE hL
      go_wp2_with fail
      refine CA.out.mono ?_
      rintro e w2 ⟨v9, rfl, hm, hb⟩
      have B2 := Lib.hid (B1.out.trans (hb.mono B1.out.size))
      have X2 := Lib.hid (X1.out.fresh hb)
      have M2 := Lib.hid hm
      obtain ⟨A9, n9, c9, rfl, hn9, -⟩ := hm
      have HN9 := Lib.hid hn9
      have CB := Lib.hid (area_protect w2 _ l f p b WF.out WP.out X2.out LI.out (by have := HNL.out; omega))
      rw [hF, hM] at CB
      clear hb hF hM hn9
      go_wp2_with fail
      refine CB.out.mono ?_
      rintro e w3 ⟨vb, rfl, hm, hb⟩
      have B3 := Lib.hid (B2.out.trans (hb.mono B2.out.size))
      have X3 := Lib.hid (X2.out.fresh hb)
      have M3 := Lib.hid (M2.out.fresh hb)
      have P3 := Lib.hid hm
      obtain ⟨Ab, nb, cb, rfl, hnb, -⟩ := hm
      have HNB := Lib.hid hnb
      have CR := Lib.hid (refRight_any f p w3)
      rw [decide_eq_false hr] at CR
      clear hb hnb hr
      go_wp2_with (go_at_call 18; refine CR.out.mono ?_; rintro e w' ⟨rfl, rfl⟩)
      obtain rfl : n9 = 0 := HN9.out.symm
      obtain rfl : nb = 0 := HNB.out.symm
      refine (areaAnswers_any _).mono ?_
      rintro e wz ⟨rfl, hb⟩
      have BZ := Lib.hid (B3.out.trans (hb.mono B3.out.size))
      clear hb
      go_wp2
      go_ret
      exact ⟨rfl, BZ.out⟩
  · rw [decide_eq_false hli] at CL
    clear hli
    go_enter Try.func5, Try.ntmps5
    go_wp2_with fail
    refine CL.out.mono ?_
    rintro e w1 ⟨rfl, hb⟩
    have B1 := Lib.hid hb
    clear hb
    go_wp2_with fail
    refine (areaAnswers_any _).mono ?_
    rintro e w2 ⟨rfl, hb⟩
    have B2 := Lib.hid (B1.out.trans (hb.mono B1.out.size))
    clear hb
    go_wp2
    go_ret
    exact ⟨rfl, B2.out⟩
end Go.Proofs.Ytpkgmmfnlifocaa

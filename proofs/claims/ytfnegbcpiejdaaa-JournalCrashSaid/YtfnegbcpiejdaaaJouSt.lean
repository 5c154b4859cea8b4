/-
  The contracts of the statements' own 'one' and 'clash': whether some bytes and a list of bytes are one of some states; whether a base has the sum of another one of some states.
  Conditions: the states lie in memory; at most 100,000 bytes of a base.
-/
import Derived.Test.YtfnegbcpiejdaaaRefs
import Derived.Deep.LoopGhost
namespace Go.Proofs.Ytfnegbcpiejdaaa
open Go.RowKit
set_option linter.unusedVariables false

/-- A base and a list. -/
abbrev StD := List Nat × List (List Nat)
/-- States that lie in memory, one behind the other. -/
def StsR (w : World) (v : Value) (sts : List StD) : Prop :=
  ∃ A n c, v = .slice A n c ∧ sts.length = n ∧ n ≤ c ∧ c ≤ maxLen ∧
    (0 < n → ∃ b off, A = some ⟨b, off, none⟩ ∧ ∀ j, j < n → ∃ u v2, w.cell? ⟨b, off + j * 2, none⟩ = some u ∧ w.cell? ⟨b, off + j * 2 + 1, none⟩ = some v2 ∧ Bts w w.heap.size u (sts.getD j ([], [])).1 ∧ Pts w v2 (sts.getD j ([], [])).2)
theorem Pts.drewN_ {w : World} {v : Value} {xss : List (List Nat)} (h : Pts w v xss) (n : Nat) : Pts (w.drewN n) v xss := h
theorem StsR.below {w w' : World} {v : Value} {sts : List StD} (h : StsR w v sts) (hb : Below w.heap.size w w') : StsR w' v sts := by
  obtain ⟨A, n, c, hv, hl, h1, h2, h3⟩ := h
  refine ⟨A, n, c, hv, hl, h1, h2, fun hn => ?_⟩
  obtain ⟨b, off, hA, h4⟩ := h3 hn
  refine ⟨b, off, hA, fun j hj => ?_⟩
  obtain ⟨u, v2, h5, h6, h7, h8⟩ := h4 j hj
  exact ⟨u, v2, (hb.cell (World.block_lt_of_cell? w _ h5)).trans h5, (hb.cell (World.block_lt_of_cell? w _ h6)).trans h6, (h7.below hb).more hb.size, h8.below hb⟩

/-- Is that one of some? -/
def oneB (b : List Nat) (l : List (List Nat)) (sts : List StD) : Bool := decide (∃ st ∈ sts, b = st.1 ∧ l = st.2)
theorem mem_getD {sts : List StD} {k : Nat} (h : k < sts.length) : sts.getD k ([], []) ∈ sts := by
  rw [List.getD_eq_getElem?_getD, List.getElem?_eq_getElem h]
  exact List.getElem_mem _
theorem oneB_yes {b : List Nat} {l : List (List Nat)} {sts : List StD} {k : Nat} (h : k < sts.length) (h1 : b = (sts.getD k ([], [])).1) (h2 : l = (sts.getD k ([], [])).2) : oneB b l sts = true :=
  decide_eq_true ⟨_, mem_getD h, h1, h2⟩
theorem oneB_no {b : List Nat} {l : List (List Nat)} {sts : List StD} (h : ∀ j, j < sts.length → ¬ (b = (sts.getD j ([], [])).1 ∧ l = (sts.getD j ([], [])).2)) : oneB b l sts = false := by
  refine decide_eq_false ?_
  rintro ⟨st, hm, h1⟩
  obtain ⟨j, hj, rfl⟩ := List.getElem_of_mem hm
  refine h j hj ?_
  rw [List.getD_eq_getElem?_getD, List.getElem?_eq_getElem hj]
  exact h1

set_option maxRecDepth 20000 in
set_option maxHeartbeats 1600000 in
theorem one_any (vb vl vs : Value) (b : List Nat) (l : List (List Nat)) (sts : List StD) (B : Nat) (w : World) (hb : Bts w B vb b) (hl : Pts w vl l) (hs : StsR w vs sts) :
    Calls Try.prog 22 #[vb, vl, vs] w fun e w' => e = .returned (.bool (oneB b l sts)) ∧ Drew w w' := by
  have HB := Lib.hid hb
  have HL := Lib.hid hl
  obtain ⟨Ab, nb, cb, rfl, -⟩ := hb
  obtain ⟨Al, nl, cl, rfl, -⟩ := hl
  obtain ⟨A, n, c, rfl, hn, hnc, hcm, hz⟩ := hs
  have HN := Lib.hid hn
  have HZ := Lib.hid hz
  unfold maxLen at hcm
  clear hn hz
  go_enter Try.func22, Try.ntmps22
  go_wp2_with fail
  go_loopg [7] n (fun g s7 wx => ∃ k m : Nat, k + g = n ∧ s7 = .int .i64 (k : Int) ∧ wx = w.drewN m ∧ ∀ j, j < k → ¬ (b = (sts.getD j ([], [])).1 ∧ l = (sts.getD j ([], [])).2))
  case atStart => exact ⟨0, 0, by omega, rfl, rfl, fun j hj => absurd hj (by omega)⟩
  case round =>
    obtain ⟨k, m, hkg, rfl, rfl, hr⟩ := hrel
    have HR := Lib.hid hr
    clear hr
    by_cases hk : k < n
    · have t1 : decide ((k : Int) < (n : Int)) = true := decide_eq_true (by omega)
      have t2 : (k : Int) < (n : Int) := by omega
      have t3 : (0 : Int) ≤ (k : Int) := by omega
      obtain ⟨b1, off, rfl, hc⟩ := HZ.out (by omega)
      obtain ⟨u, v2, hc1, hc2, hu, hv⟩ := hc k hk
      have hcell1 : (w.drewN m).cell? ⟨b1, off + k * 2, none⟩ = some u := hc1
      have hcell2 : ∀ q, (w.drewN q).cell? ⟨b1, off + k * 2 + 1, none⟩ = some v2 := fun _ => hc2
      have HU := Lib.hid hu
      have HV := Lib.hid hv
      obtain ⟨Au, nu, cu, rfl, -⟩ := hu
      obtain ⟨Av, nv, cv, rfl, -⟩ := hv
      obtain ⟨T1, hT1⟩ : ∃ T1, T1 = decide (b = (sts.getD k ([], [])).1) := ⟨_, rfl⟩
      obtain ⟨T2, hT2⟩ : ∃ T2, T2 = decide (l = (sts.getD k ([], [])).2) := ⟨_, rfl⟩
      have S1 := Lib.hid (same_any _ _ b _ _ _ (w.drewN m) (HB.out.drewN (n := m)) (HU.out.drewN (n := m)))
      rw [← hT1] at S1
      have HT1 := Lib.hid hT1
      have HT2 := Lib.hid hT2
      clear hc hc1 hc2 hT1
      cases T1 with
      | true =>
        have HE1 := Lib.hid (of_decide_eq_true HT1.out.symm)
        go_wp2_with fail
        refine S1.out.mono ?_
        rintro e w1 ⟨rfl, q, rfl⟩
        have hcell3 := hcell2 (m + q)
        have S2 := Lib.hid (sameAll_any _ _ l _ (w.drewN (m + q)) (HL.out.drewN_ (m + q)) (HV.out.drewN_ (m + q)))
        rw [← hT2] at S2
        clear hT2
        cases T2 with
        | true =>
          have HE2 := Lib.hid (of_decide_eq_true HT2.out.symm)
          clear HT2
          go_wp2_with fail
          refine S2.out.mono ?_
          rintro e w2 ⟨rfl, q2, rfl⟩
          have HF := Lib.hid (oneB_yes (sts := sts) (k := k) (by rw [HN.out]; exact hk) HE1.out HE2.out)
          go_wp2
          go_ret
          exact ⟨by rw [HF.out]; rfl, ⟨m + q + q2, by simp [Nat.add_assoc]⟩⟩
        | false =>
          have HE2 := Lib.hid (of_decide_eq_false HT2.out.symm)
          clear HT2
          go_wp2_with fail
          refine S2.out.mono ?_
          rintro e w2 ⟨rfl, q2, rfl⟩
          go_wp2_with fail
          go_roundg (n - (k + 1))
          case measure => omega
          case rel =>
            refine ⟨k + 1, m + q + q2, by omega, by go_num, by simp [Nat.add_assoc], fun j hj => ?_⟩
            by_cases e : j = k
            · subst e
              exact fun h => HE2.out h.2
            · exact HR.out j (by omega)
      | false =>
        have HE1 := Lib.hid (of_decide_eq_false HT1.out.symm)
        clear HT1 hT2
        go_wp2_with fail
        refine S1.out.mono ?_
        rintro e w1 ⟨rfl, q, rfl⟩
        go_wp2_with fail
        go_roundg (n - (k + 1))
        case measure => omega
        case rel =>
          refine ⟨k + 1, m + q, by omega, by go_num, by simp, fun j hj => ?_⟩
          by_cases e : j = k
          · subst e
            exact fun h => HE1.out h.1
          · exact HR.out j (by omega)
    · obtain rfl : k = n := by omega
      have t1 : decide ((k : Int) < (k : Int)) = false := decide_eq_false (by omega)
      have HF := Lib.hid (oneB_no (b := b) (l := l) (sts := sts) (fun j hj => HR.out j (by rw [← HN.out]; exact hj)))
      go_wp2
      go_ret
      exact ⟨by rw [HF.out]; rfl, ⟨m, rfl⟩⟩

/-- Has a base the sum of another one of some? -/
def clsB (g : Nat) (b : List Nat) (sts : List StD) : Bool := decide (∃ st ∈ sts, b.length = st.1.length ∧ b ≠ st.1 ∧ hedL g b = hedL g st.1)
theorem clsB_yes {g : Nat} {b : List Nat} {sts : List StD} {k : Nat} (h : k < sts.length) (h0 : b.length = (sts.getD k ([], [])).1.length) (h1 : b ≠ (sts.getD k ([], [])).1) (h2 : hedL g b = hedL g (sts.getD k ([], [])).1) : clsB g b sts = true :=
  decide_eq_true ⟨_, mem_getD h, h0, h1, h2⟩
theorem clsB_no {g : Nat} {b : List Nat} {sts : List StD} (h : ∀ j, j < sts.length → ¬ (b.length = (sts.getD j ([], [])).1.length ∧ b ≠ (sts.getD j ([], [])).1 ∧ hedL g b = hedL g (sts.getD j ([], [])).1)) : clsB g b sts = false := by
  refine decide_eq_false ?_
  rintro ⟨st, hm, h1⟩
  obtain ⟨j, hj, rfl⟩ := List.getElem_of_mem hm
  refine h j hj ?_
  rw [List.getD_eq_getElem?_getD, List.getElem?_eq_getElem hj]
  exact h1

set_option maxRecDepth 20000 in
set_option maxHeartbeats 1600000 in
theorem clash_any (g : Nat) (vb vs : Value) (b : List Nat) (sts : List StD) (w : World) (hb : Bts w w.heap.size vb b) (hs : StsR w vs sts) (hg : g < 4294967296) (hbl : b.length ≤ 100000) :
    Calls Try.prog 23 #[.int .u32 (g : Int), vb, vs] w fun e w' => e = .returned (.bool (clsB g b sts)) ∧ Below w.heap.size w w' := by
  have HB := Lib.hid hb
  have HBL := Lib.hid hbl
  have HG := Lib.hid hg
  obtain ⟨Ab, nb, cb, rfl, hnb, -⟩ := hb
  have HNB := Lib.hid hnb
  obtain ⟨A, n, c, rfl, hn, hnc, hcm, hz⟩ := hs
  have HN := Lib.hid hn
  have HZ := Lib.hid hz
  unfold maxLen at hcm
  clear hn hz hnb hg hbl
  go_enter Try.func23, Try.ntmps23
  go_wp2_with fail
  go_loopg [7] n (fun gg s7 wx => ∃ k : Nat, k + gg = n ∧ s7 = .int .i64 (k : Int) ∧ Below w.heap.size w wx ∧ ∀ j, j < k → ¬ (b.length = (sts.getD j ([], [])).1.length ∧ b ≠ (sts.getD j ([], [])).1 ∧ hedL g b = hedL g (sts.getD j ([], [])).1))
  case atStart => exact ⟨0, by omega, rfl, Below.refl _ _, fun j hj => absurd hj (by omega)⟩
  case round =>
    obtain ⟨k, hkg, rfl, hbe, hr⟩ := hrel
    have HR := Lib.hid hr
    have HBE := Lib.hid hbe
    clear hr hbe
    by_cases hk : k < n
    · have t1 : decide ((k : Int) < (n : Int)) = true := decide_eq_true (by omega)
      have t2 : (k : Int) < (n : Int) := by omega
      have t3 : (0 : Int) ≤ (k : Int) := by omega
      obtain ⟨b1, off, rfl, hc⟩ := HZ.out (by omega)
      obtain ⟨u, v2, hc1, -, hu, -⟩ := hc k hk
      have hcell1 : wr.cell? ⟨b1, off + k * 2, none⟩ = some u := (HBE.out.cell (World.block_lt_of_cell? w _ hc1)).trans hc1
      obtain ⟨cc, hcc⟩ : ∃ cc, cc = (sts.getD k ([], [])).1 := ⟨_, rfl⟩
      rw [← hcc] at hu
      have HCC := Lib.hid hcc
      have HU := Lib.hid (hu.below HBE.out)
      have HBW := Lib.hid (HB.out.below HBE.out)
      have HX := Lib.hid hu
      obtain ⟨Au, nu, cu, rfl, hnu, -⟩ := hu
      have HNU := Lib.hid hnu
      clear hc hc1 hcc hnu
      by_cases c0 : nb = nu
      · have d0 : ((nb : Int) == (nu : Int)) = true := by simp [c0]
        have C0 := Lib.hid c0
        clear c0
        obtain ⟨T1, hT1⟩ : ∃ T1, T1 = decide (b = cc) := ⟨_, rfl⟩
        have S1 := Lib.hid (same_any _ _ b _ _ _ wr HBW.out HU.out)
        rw [← hT1] at S1
        have HT1 := Lib.hid hT1
        clear hT1
        cases T1 with
        | true =>
          have HE1 := Lib.hid (of_decide_eq_true HT1.out.symm)
          clear HT1
          go_wp2_with fail
          refine S1.out.mono ?_
          rintro e w1 ⟨rfl, q, rfl⟩
          go_wp2_with fail
          go_roundg (n - (k + 1))
          case measure => omega
          case rel =>
            refine ⟨k + 1, by omega, by go_num, below_drewN HBE.out q, fun j hj => ?_⟩
            by_cases e : j = k
            · subst e
              exact fun h => h.2.1 (by rw [← HCC.out]; exact HE1.out)
            · exact HR.out j (by omega)
        | false =>
          have HE1 := Lib.hid (of_decide_eq_false HT1.out.symm)
          clear HT1
          have H1 := Lib.hid (fun q => refHead_any g _ b w.heap.size (wr.drewN q) (HBW.out.drewN (n := q)) HBE.out.size HBL.out HG.out)
          go_wp2_with fail
          refine S1.out.mono ?_
          rintro e w1 ⟨rfl, q, rfl⟩
          go_wp2_with fail
          refine (H1.out q).mono ?_
          rintro e w2 ⟨r2, rfl, ho2, hb2⟩
          obtain ⟨g2, cap2, rfl⟩ := own_shape ho2 (by omega)
          have HO2 := Lib.hid ho2
          have K2 := Lib.hid (show Below w.heap.size w w2 from (below_drewN HBE.out q).trans (hb2.mono HBE.out.size))
          have HU2 := Lib.hid (HX.out.below K2.out)
          clear ho2 hb2
          go_wp2_with fail
          refine (refHead_any g _ cc w.heap.size w2 HU2.out K2.out.size (by have := HBL.out; have := HNB.out; have := HNU.out; have := C0.out; omega) HG.out).mono ?_
          rintro e w3 ⟨r3, rfl, ho3, hb3⟩
          obtain ⟨g3, cap3, rfl⟩ := own_shape ho3 (by omega)
          have HO3 := Lib.hid (Bts.of_own ho3 (hedL_byte g cc))
          have HO2' := Lib.hid ((Bts.of_own HO2.out (hedL_byte g b)).below hb3)
          have K3 := Lib.hid (K2.out.trans (hb3.mono K2.out.size))
          clear ho3 hb3
          obtain ⟨T2, hT2⟩ : ∃ T2, T2 = decide (hedL g b = hedL g cc) := ⟨_, rfl⟩
          have S2 := Lib.hid (same_any _ _ _ _ _ _ w3 HO2'.out HO3.out)
          rw [← hT2] at S2
          have HT2 := Lib.hid hT2
          clear hT2
          cases T2 with
          | true =>
            have HE2 := Lib.hid (of_decide_eq_true HT2.out.symm)
            clear HT2
            have HF := Lib.hid (clsB_yes (g := g) (b := b) (sts := sts) (k := k) (by rw [HN.out]; exact hk) (by rw [← HCC.out]; have := HNB.out; have := HNU.out; have := C0.out; omega) (by rw [← HCC.out]; exact HE1.out) (by rw [← HCC.out]; exact HE2.out))
            go_wp2_with fail
            refine S2.out.mono ?_
            rintro e w4 ⟨rfl, q4, rfl⟩
            go_wp2
            go_ret
            exact ⟨by rw [HF.out]; rfl, below_drewN K3.out q4⟩
          | false =>
            have HE2 := Lib.hid (of_decide_eq_false HT2.out.symm)
            clear HT2
            go_wp2_with fail
            refine S2.out.mono ?_
            rintro e w4 ⟨rfl, q4, rfl⟩
            go_wp2_with fail
            go_roundg (n - (k + 1))
            case measure => omega
            case rel =>
              refine ⟨k + 1, by omega, by go_num, below_drewN K3.out q4, fun j hj => ?_⟩
              by_cases e : j = k
              · subst e
                exact fun h => HE2.out (by rw [HCC.out]; exact h.2.2)
              · exact HR.out j (by omega)
      · have d0 : ((nb : Int) == (nu : Int)) = false := by simp; omega
        have C0 := Lib.hid c0
        clear c0
        go_wp2_with fail
        go_roundg (n - (k + 1))
        case measure => omega
        case rel =>
          refine ⟨k + 1, by omega, by go_num, HBE.out, fun j hj => ?_⟩
          by_cases e : j = k
          · subst e
            exact fun h => C0.out (by rw [← HNB.out, ← HNU.out, HCC.out]; exact h.1)
          · exact HR.out j (by omega)
    · obtain rfl : k = n := by omega
      have t1 : decide ((k : Int) < (k : Int)) = false := decide_eq_false (by omega)
      have HF := Lib.hid (clsB_no (g := g) (b := b) (sts := sts) (fun j hj => HR.out j (by rw [← HN.out]; exact hj)))
      go_wp2
      go_ret
      exact ⟨by rw [HF.out]; rfl, HBE.out⟩
end Go.Proofs.Ytfnegbcpiejdaaa

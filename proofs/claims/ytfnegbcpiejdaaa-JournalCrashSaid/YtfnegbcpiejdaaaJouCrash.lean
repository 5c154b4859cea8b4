/-
  JournalCrash answers true for any acts, any Fail and Fuse, any bits and any tear, and writes nothing that was there.
  Conditions: the acts are read in memory.
-/
import Derived.Test.YtfnegbcpiejdaaaJouPl
import Derived.Test.YtfnegbcpiejdaaaJouCand
import Derived.Test.YtfnegbcpiejdaaaStOApp
import Derived.Deep.RegionHeld3
import Derived.Deep.LoopGhost
import Derived.Deep.CutRange
import Derived.Deep.CutBlock
namespace Go.Proofs.Ytfnegbcpiejdaaa
open Go.RowKit
set_option linter.unusedVariables false

set_option maxRecDepth 20000 in
set_option maxHeartbeats 400000 in
theorem journalCrash_edge (A : Option Addr) (l c : Nat) (f n u K T : Int) (w : World) (h : 100 < l) :
    Calls Try.prog 4 #[.slice A l c, .int .i64 f, .int .i64 n, .int .i64 u, .int .u64 K, .int .i64 T] w fun e w' => e = .returned (.bool true) ∧ Below w.heap.size w w' := by
  have t1 : decide ((100 : Int) < (l : Int)) = true := decide_eq_true (by omega)
  clear h
  go_enter Try.func4, Try.ntmps4
  go_wp2_with fail
  refine (jouAnswers_any _).mono ?_
  rintro e w1 ⟨rfl, hb⟩
  go_wp2
  go_ret
  exact ⟨rfl, hb⟩

/-- What holds ahead of each round. -/
def CrjAt (w : World) (gJ i : Nat) (v : Value) (wx : World) : Prop :=
  ∃ S L t g nb rs xs bs br sts, Jnl wx gJ (w.heap.size + 2) w.heap.size (w.heap.size + 1) S L t g rs.length br ∧ JInv g nb rs xs bs S L ∧ (br = false → bs = []) ∧ g ≤ i ∧
    StO w wx (gJ + 1) 44 27 v sts ∧ Cands nb rs xs bs sts ∧ sts.length ≤ i + 1 ∧ Below w.heap.size w wx

/-- What holds ahead of each read of the hundred sectors. -/
def RdAt (w : World) (gD gS gM n : Nat) (S : Nat → List Nat) (L : Nat → Option (List Nat)) (k : Nat) (v : Value) (wx : World) : Prop :=
  Dsk wx gD gS gM n S L Tr.none_ ∧ Lst wx (dk gD gS gM) 0 w.heap.size 27 v (firsts (last S L) k) ∧ Turns (dk gD gS gM) w wx
theorem Try.infoS : (Try.prog.info? 44).map (fun i => (i.zero, i.size, i.bytes)) = some (some (.agg #[.slice none 0 0, .slice none 0 0]), 2, 48) := by kernel_rfl
theorem Jnl.keep {w w' : World} {gJ gD gS gM g n B : Nat} {S : Nat → List Nat} {L : Nat → Option (List Nat)} {t : Tr} {br : Bool} (h : Jnl w gJ gD gS gM S L t g n br) (hb : Below B w w') (h0 : gJ < B) (h1 : gD < B) (h2 : gS < B) (h3 : gM < B) : Jnl w' gJ gD gS gM S L t g n br := ⟨h.1.below hb h0, h.2.1.below hb h1 h2 h3, h.2.2⟩
theorem StsR.drewN_ {w : World} {v : Value} {sts : List StD} (h : StsR w v sts) (n : Nat) : StsR (w.drewN n) v sts := h
theorem loadR_few {F : Nat → List Nat} (h : ∀ f, f < 96 → (F f).length = 64) : (loadR F).2.length ≤ 100000 := by
  have h1 : ∀ w, w < 2 → (sloB F w).length ≤ 100000 := fun w hw => by
    unfold sloB
    rw [List.length_take, sloA_length w (fun f k1 k2 => h f (by omega))]
    omega
  have h2 : ∀ x, x ≤ 2 → (loadN F x).2.length ≤ 100000 := by
    intro x
    induction x with
    | zero => intro _; simp [loadN]
    | succ x ih =>
      intro hx
      unfold loadN
      split
      · exact h1 x (by omega)
      · exact ih (by omega)
  exact h2 2 (Nat.le_refl _)

set_option maxRecDepth 20000 in
set_option maxHeartbeats 20000000 in
theorem journalCrash_any (v0 : Value) (acts : List ActJ) (f n u : Int) (fa na ua K : Nat) (T : Int) (tn : Nat) (w : World) (h0 : ActsJ w v0 acts) (hl : acts.length ≤ 100) (hf : PosI f fa) (hn : PosI n na) (hu : PosI u ua) (hfa : fa ≤ 9223372036854775807) (hna : na ≤ 9223372036854775807) (hua : ua ≤ 9223372036854775807) (hK : K < 18446744073709551616) (hT : Near64 T tn) :
    Calls Try.prog 4 #[v0, .int .i64 f, .int .i64 n, .int .i64 u, .int .u64 (K : Int), .int .i64 T] w fun e w' => e = .returned (.bool true) ∧ Below w.heap.size w w' := by
  obtain ⟨A, N, c, rfl, hN, hm, hz⟩ := h0
  have HZ := Lib.hid hz
  have HN := Lib.hid hN
  have HK := Lib.hid hK
  have HT := Lib.hid hT
  have HF := Lib.hid hf
  have HNN := Lib.hid hn
  have HU := Lib.hid hu
  have HFA := Lib.hid hfa
  have HNA := Lib.hid hna
  have HUA := Lib.hid hua
  have hN100 : N ≤ 100 := by omega
  have t1 : decide ((100 : Int) < (N : Int)) = false := decide_eq_false (by omega)
  obtain ⟨i0, hi, hz0, hz1, hz2⟩ := info_parts Try.infoB
  obtain ⟨iS, his, his0, his1, his2⟩ := info_parts Try.infoS
  have HIS := Lib.hid his
  have HIS0 := Lib.hid his0
  have HIS1 := Lib.hid his1
  have HIS2 := Lib.hid his2
  have HI := Lib.hid hi
  have HZ0 := Lib.hid hz0
  have HZ1 := Lib.hid hz1
  have HZ2 := Lib.hid hz2
  have ST := Lib.hid (fun (v : Value) (x : List Nat) (hv : Bts w w.heap.size v x) (W : World) (hW : Below w.heap.size w W) => (show Stay (w.heap.size + 2) w.heap.size (w.heap.size + 1) W v x from Stay.below (hv.below hW) hW.size (dk_lo w)))
  clear his his0 his1 his2
  clear hl hN hm hz hi hz0 hz1 hz2 hf hn hu hfa hna hua hK hT
  go_enter Try.func4, Try.ntmps4
  go_wp2_with fail
  refine (dnew_any 192 192 w (by unfold NearD; omega)).mono ?_
  rintro e w1 ⟨rfl, hd1, hb1, hz1⟩
  have HJ1 := Lib.hid (JDk.start hd1 hb1)
  have HZ1' := Lib.hid hz1
  clear hd1 hb1 hz1
  go_wp2_with fail
  refine (jc_open w w1 0 [] [] HJ1.out (by omega)).mono ?_
  rintro e w2 ⟨gJ, v4, v5, rfl, ho2, hl2, hj2, _, hgJ⟩
  obtain ⟨A4, c4, rfl⟩ := own_any ho2
  obtain ⟨A5, c5, rfl, -⟩ := hl2.shape
  obtain ⟨S2, L2, hn2, hi2, hb2, hg2⟩ := hj2
  have HJ2 := Lib.hid hn2
  have HI2 := Lib.hid hi2
  have HB2 := Lib.hid hb2
  have hgJ3 : w.heap.size + 3 ≤ gJ := by have := HZ1'.out; omega
  have HMB := Lib.hid (show ∀ q, jk gJ (w.heap.size + 2) w.heap.size (w.heap.size + 1) q → q < gJ + 1 from by
    rintro q (e | e)
    · omega
    · have := dk_base w q e; omega)
  have HML := Lib.hid (show ∀ q, jk gJ (w.heap.size + 2) w.heap.size (w.heap.size + 1) q → w.heap.size ≤ q from jk_lo (by omega))
  clear ho2 hl2 hn2 hi2 hb2 hg2
  go_wp2_with fail
  refine (fail_int _ _ _ _ _ _ _ f n fa na w2 HJ2.out.2.1 HF.out HNN.out HFA.out HNA.out).mono ?_
  rintro e w3 ⟨rfl, hd3, ho3⟩
  have HT3 := Lib.hid (show Turns (jk gJ (w.heap.size + 2) w.heap.size (w.heap.size + 1)) w2 w3 from Turns.of_only ho3 (.inr (.inl rfl)))
  have HJ3 := Lib.hid (show Jnl w3 gJ (w.heap.size + 2) w.heap.size (w.heap.size + 1) S2 L2 ⟨fa, na, false, 0, false⟩ 0 0 false from ⟨ho3.blk HJ2.out.1 (fun e => HJ2.out.2.2 (.inl e)), hd3, HJ2.out.2.2⟩)
  have HB3 := Lib.hid (HB2.out.trans (HT3.out.below HML.out HB2.out.size))
  clear hd3 ho3
  go_wp2_with fail
  refine (fuse_int _ _ _ _ _ _ _ u ua w3 HJ3.out.2.1 HU.out HUA.out).mono ?_
  rintro e w4 ⟨rfl, hd4, ho4⟩
  have HT4 := Lib.hid (show Turns (jk gJ (w.heap.size + 2) w.heap.size (w.heap.size + 1)) w3 w4 from Turns.of_only ho4 (.inr (.inl rfl)))
  have HJ4 := Lib.hid (show Jnl w4 gJ (w.heap.size + 2) w.heap.size (w.heap.size + 1) S2 L2 ⟨fa, na, true, ua, false⟩ 0 0 false from ⟨ho4.blk HJ3.out.1 (fun e => HJ3.out.2.2 (.inl e)), hd4, HJ3.out.2.2⟩)
  have HB4 := Lib.hid (HB3.out.trans (HT4.out.below HML.out HB3.out.size))
  clear hd4 ho4
  have HS4 := Lib.hid (show CrjAt w gJ 0 (.slice (some ⟨w4.heap.size, 0, none⟩) 1 1) (w4.alloc (.cells #[.slice none 0 0, .slice none 0 0] 44)) from by
    have hk := (Below.refl w4.heap.size w4).alloc (Nat.le_refl _) (.cells #[.slice none 0 0, .slice none 0 0] 44)
    refine ⟨_, _, _, 0, [], [], [], [], false, [([], [])], HJ4.out.fresh hk, HI2.out, fun _ => rfl, Nat.le_refl _, StO.one (Blk.new w4 _ _) (by have := HJ4.out.1.lt; omega) (Bts.nil_ _ _) (LsO.nil_ _ _ _ _), ⟨rfl, by simp, (fun x hx => by cases hx), (fun x hx => by cases hx)⟩, by simp, HB4.out.alloc HB4.out.size _⟩)
  go_upto_block 0 with fail
  go_cut [18, 19] from 20 to 110 (fun s18 s19 wx => ∃ i : Nat, i ≤ 100 ∧ CrjAt w gJ i s18 wx)
  case first =>
    go_wp2_with fail
    go_loopg [18, 19] N (fun gg s18 s19 wx => ∃ i : Nat, i + gg = N ∧ s19 = .int .i64 (i : Int) ∧ CrjAt w gJ i s18 wx)
    case atStart => exact ⟨0, by omega, rfl, HS4.out⟩
    case round =>
      obtain ⟨i, hig, rfl, hr⟩ := hrel
      have HRR := Lib.hid hr
      obtain ⟨S, L, t, g, nb, rs, xs, bs, br, sts, hjn, hji, hbr, hgi, hst, hca, hsl, hbe⟩ := hr
      have HJN := Lib.hid hjn
      have HJI := Lib.hid hji
      have HBR := Lib.hid hbr
      have HGI := Lib.hid hgi
      have HST := Lib.hid hst
      have HCA := Lib.hid hca
      have HSL := Lib.hid hsl
      have HB := Lib.hid hbe
      have HFEW := Lib.hid hji.few
      obtain ⟨g18, cap18, u0, l0, rfl, hs0, hs1, hu0, hl0⟩ := hst.at_ (j := 0) hca.2.1
      rw [hca.1] at hu0 hl0
      have HU0 := Lib.hid hu0
      have HL0 := Lib.hid hl0
      obtain ⟨Au, nu, cu, rfl, -⟩ := hu0
      obtain ⟨Al, cl, rfl, -⟩ := hl0.shape
      clear hjn hji hbr hgi hst hsl hl0
      by_cases hlt : i < N
      · have t4 : decide ((i : Int) < (N : Int)) = true := decide_eq_true (by omega)
        have t5 : (i : Int) < (N : Int) := by omega
        have t6 : (0 : Int) ≤ (i : Int) := by omega
        obtain ⟨b1, o1, rfl, hpa⟩ := HZ.out (by omega)
        obtain ⟨ac, hac⟩ : ∃ ac, acts[i]? = some ac := ⟨_, List.getElem?_eq_getElem (by rw [HN.out]; exact hlt)⟩
        obtain ⟨hbl, hc1, hc2, hxv⟩ := hpa i ac hac
        obtain ⟨bs', vv, x⟩ := ac
        simp only at hc1 hc2 hxv
        have hcell1 : wr.cell? ⟨b1, o1 + i * 2, none⟩ = some (.bool bs') := (HB.out.cell hbl).trans hc1
        have hcell2 : wr.cell? ⟨b1, o1 + i * 2 + 1, none⟩ = some vv := (HB.out.cell hbl).trans hc2
        have HXV := Lib.hid hxv
        obtain ⟨A6, n6, c6, rfl, hn6, -⟩ := hxv
        have HN6 := Lib.hid hn6
        have hpos : 0 < sts.length := hca.2.1
        simp only [Nat.zero_mul, Nat.zero_add] at hs0 hs1
        have hg18 : g18 < wr.heap.size := World.block_lt_of_cell? wr _ hs0
        clear hpa hac hc1 hc2 hn6 hca
        by_cases k1 : 50 < n6
        · have d1 : decide ((50 : Int) < (n6 : Int)) = true := decide_eq_true (by omega)
          have W0B := Lib.hid (show Below wr.heap.size wr (wr.alloc (.cells #[.bool bs', .slice A6 n6 c6] 33)) from (Below.refl _ _).alloc (Nat.le_refl _) _)
          go_wp2_with fail
          refine (jouAnswers_any _).mono ?_
          rintro e w5 ⟨rfl, hb5⟩
          go_wp2
          go_ret
          exact ⟨rfl, (HB.out.trans (W0B.out.mono HB.out.size)).trans (hb5.mono (Nat.le_trans HB.out.size W0B.out.size))⟩
        · have d1 : decide ((50 : Int) < (n6 : Int)) = false := decide_eq_false (by omega)
          go_wp2_with fail
          obtain ⟨WB, hWB⟩ : ∃ WB, WB = (wr.alloc (.cells #[.bool bs', .slice A6 n6 c6] 33)).alloc (.cells #[.slice Au nu cu, .slice Al rs.length cl] 44) := ⟨_, rfl⟩
          rw [← hWB]
          have hk0 : Below wr.heap.size wr WB := by rw [hWB]; exact ((Below.refl _ _).alloc (Nat.le_refl _) _).alloc (by simp) _
          have KB := Lib.hid hk0
          have WSZ := Lib.hid (show WB.heap.size = wr.heap.size + 2 by rw [hWB]; simp)
          have BKA := Lib.hid (show Blk WB wr.heap.size 33 #[.bool bs', .slice A6 n6 c6] by rw [hWB]; exact (Blk.new wr _ _).al _)
          have BKN := Lib.hid (show Blk WB (wr.heap.size + 1) 44 #[.slice Au nu cu, .slice Al rs.length cl] by rw [hWB]; exact Blk.new1 _ _ _ _)
          have HLB := Lib.hid (show LsO w WB (gJ + 1) 27 (.slice Al rs.length cl) rs from HL0.out.below hk0)
          have hlen : (rs ++ [x]).length = rs.length + 1 := by simp
          have hgb : gJ + 1 ≤ WB.heap.size := by have h1 := WSZ.out; have h2 := HJN.out.1.lt; omega
          have HFW := Lib.hid (show rs.length ≤ 900000 by have := HFEW.out; omega)
          have KEEP := Lib.hid (show ∀ w', Below WB.heap.size WB w' → w'.cell? ⟨wr.heap.size, 1, none⟩ = some (.slice A6 n6 c6) ∧ w'.cell? ⟨wr.heap.size + 1, 0, none⟩ = some (.slice Au nu cu) ∧ w'.cell? ⟨wr.heap.size + 1, 1, none⟩ = some (.slice Al rs.length cl) ∧ Below WB.heap.size WB w' from fun w' hb => by
            have hz := WSZ.out
            refine ⟨?_, ?_, ?_, hb⟩
            · rw [hb.cell (p := ⟨wr.heap.size, 1, none⟩) (by show wr.heap.size < WB.heap.size; omega), BKA.out.cell]; rfl
            · rw [hb.cell (p := ⟨wr.heap.size + 1, 0, none⟩) (by show wr.heap.size + 1 < WB.heap.size; omega), BKN.out.cell]; rfl
            · rw [hb.cell (p := ⟨wr.heap.size + 1, 1, none⟩) (by show wr.heap.size + 1 < WB.heap.size; omega), BKN.out.cell]; rfl)
          have BR0 := Lib.hid (Below.refl WB.heap.size WB)
          have PB := Lib.hid (show ∀ w', (w'.cell? ⟨wr.heap.size, 1, none⟩ = some (.slice A6 n6 c6) ∧ w'.cell? ⟨wr.heap.size + 1, 0, none⟩ = some (.slice Au nu cu) ∧ w'.cell? ⟨wr.heap.size + 1, 1, none⟩ = some (.slice Al rs.length cl) ∧ Below WB.heap.size WB w') → Below WB.heap.size WB w' from fun w' h => h.2.2.2)
          clear hWB hk0 hcell1 hcell2 hs0 hs1
          have bl_A := Lib.hid (show Below WB.heap.size WB (WB.alloc (.cells #[] 27)).drew from ((Below.refl WB.heap.size WB).alloc ((Below.refl WB.heap.size WB)).size _).drew)
          have ba_A := Lib.hid (show Blk (WB.alloc (.cells #[] 27)).drew (WB.heap.size) 27 #[] from (Blk.new WB 27 #[]))
          obtain ⟨v_A, w_A, r1_A, l1_A, b1_A, z1_A, k1_A⟩ := lap1 (P := Try.prog) (w0 := w) (WB := WB) 28 28 27 i0 Try.underlying28 HI.out HZ0.out HZ1.out HZ2.out (gJ + 1) (.slice Al rs.length cl) rs HLB.out HFW.out (W := (WB.alloc (.cells #[] 27)).drew) (gl := WB.heap.size) bl_A.out ba_A.out (by omega)
          have Hr1_A := Lib.hid r1_A
          have Hl1_A := Lib.hid l1_A
          have Hb1_A := Lib.hid b1_A
          have Hz1_A := Lib.hid z1_A
          have Hk1_A := Lib.hid k1_A
          clear r1_A l1_A b1_A z1_A k1_A
          have bl_A_X := Lib.hid (show Below WB.heap.size WB (w_A.alloc (.cells #[.slice A6 n6 c6] 27)) from (Hb1_A.out.alloc (Hb1_A.out).size _))
          have bx_A_X := Lib.hid (show Blk (w_A.alloc (.cells #[.slice A6 n6 c6] 27)) (w_A.heap.size) 27 #[.slice A6 n6 c6] from (Blk.new w_A 27 #[.slice A6 n6 c6]))
          have ll_A_X := Lib.hid (show LsO w (w_A.alloc (.cells #[.slice A6 n6 c6] 27)) WB.heap.size 27 v_A rs from (Hl1_A.out.alloc _))
          obtain ⟨v8_A_X, w8_A_X, r8_A_X, l8_A_X, b8_A_X, z8_A_X, g8_A_X⟩ := lap2 (P := Try.prog) (w0 := w) (WB := WB) 28 28 27 i0 Try.underlying28 HI.out HZ0.out HZ1.out HZ2.out rs HFW.out (W := (w_A.alloc (.cells #[.slice A6 n6 c6] 27))) (gx := w_A.heap.size) (v2 := v_A) (u := .slice A6 n6 c6) (x := x) HXV.out ll_A_X.out bl_A_X.out bx_A_X.out
          obtain ⟨va_A_X, vc_A_X, rfl, -⟩ := l8_A_X.shape
          rw [hlen] at r8_A_X l8_A_X
          have Hr8_A_X := Lib.hid r8_A_X
          have Hl8_A_X := Lib.hid l8_A_X
          have Hb8_A_X := Lib.hid b8_A_X
          have Hz8_A_X := Lib.hid z8_A_X
          have Hg8_A_X := Lib.hid g8_A_X
          clear r8_A_X l8_A_X b8_A_X z8_A_X g8_A_X
          have bl_A_XN := Lib.hid (show Below WB.heap.size WB ((w_A.alloc (.cells #[.slice A6 n6 c6] 27)).alloc (.cells #[.slice none 0 0, .slice none 0 0] 44)) from ((Hb1_A.out.alloc (Hb1_A.out).size _).alloc ((Hb1_A.out.alloc (Hb1_A.out).size _)).size _))
          have bx_A_XN := Lib.hid (show Blk ((w_A.alloc (.cells #[.slice A6 n6 c6] 27)).alloc (.cells #[.slice none 0 0, .slice none 0 0] 44)) (w_A.heap.size) 27 #[.slice A6 n6 c6] from ((Blk.new w_A 27 #[.slice A6 n6 c6]).al _))
          have ll_A_XN := Lib.hid (show LsO w ((w_A.alloc (.cells #[.slice A6 n6 c6] 27)).alloc (.cells #[.slice none 0 0, .slice none 0 0] 44)) WB.heap.size 27 v_A rs from ((Hl1_A.out.alloc _).alloc _))
          obtain ⟨v8_A_XN, w8_A_XN, r8_A_XN, l8_A_XN, b8_A_XN, z8_A_XN, g8_A_XN⟩ := lap2 (P := Try.prog) (w0 := w) (WB := WB) 28 28 27 i0 Try.underlying28 HI.out HZ0.out HZ1.out HZ2.out rs HFW.out (W := ((w_A.alloc (.cells #[.slice A6 n6 c6] 27)).alloc (.cells #[.slice none 0 0, .slice none 0 0] 44))) (gx := w_A.heap.size) (v2 := v_A) (u := .slice A6 n6 c6) (x := x) HXV.out ll_A_XN.out bl_A_XN.out bx_A_XN.out
          obtain ⟨va_A_XN, vc_A_XN, rfl, -⟩ := l8_A_XN.shape
          rw [hlen] at r8_A_XN l8_A_XN
          have Hr8_A_XN := Lib.hid r8_A_XN
          have Hl8_A_XN := Lib.hid l8_A_XN
          have Hb8_A_XN := Lib.hid b8_A_XN
          have Hz8_A_XN := Lib.hid z8_A_XN
          have Hg8_A_XN := Lib.hid g8_A_XN
          clear r8_A_XN l8_A_XN b8_A_XN z8_A_XN g8_A_XN
          have bn_A_XN := Lib.hid (show Blk w8_A_XN (w_A.heap.size + 1) 44 #[.slice none 0 0, .slice none 0 0] from blk_grown (show Blk ((w_A.alloc (.cells #[.slice A6 n6 c6] 27)).alloc (.cells #[.slice none 0 0, .slice none 0 0] 44)) (w_A.heap.size + 1) _ _ from (Blk.new1 w_A (.cells #[.slice A6 n6 c6] 27) 44 #[.slice none 0 0, .slice none 0 0])) Hg8_A_XN.out ll_A_XN.out (by decide))
          have hf_A_XN := Lib.hid (show w8_A_XN.frozen? ⟨w_A.heap.size + 1, 0, none⟩ = false ∧ w8_A_XN.frozen? ⟨w_A.heap.size + 1, 1, none⟩ = false ∧ w8_A_XN.cell? ⟨w_A.heap.size + 1, 0, none⟩ = some (.slice none 0 0) ∧ w8_A_XN.cell? ⟨w_A.heap.size + 1, 1, none⟩ = some (.slice none 0 0) from ⟨bn_A_XN.out.frozen 0, bn_A_XN.out.frozen 1, by rw [bn_A_XN.out.cell]; rfl, by rw [bn_A_XN.out.cell]; rfl⟩)
          have bl_A_NX := Lib.hid (show Below WB.heap.size WB ((w_A.alloc (.cells #[.slice none 0 0, .slice none 0 0] 44)).alloc (.cells #[.slice A6 n6 c6] 27)) from ((Hb1_A.out.alloc (Hb1_A.out).size _).alloc ((Hb1_A.out.alloc (Hb1_A.out).size _)).size _))
          have bx_A_NX := Lib.hid (show Blk ((w_A.alloc (.cells #[.slice none 0 0, .slice none 0 0] 44)).alloc (.cells #[.slice A6 n6 c6] 27)) (w_A.heap.size + 1) 27 #[.slice A6 n6 c6] from (Blk.new1 w_A (.cells #[.slice none 0 0, .slice none 0 0] 44) 27 #[.slice A6 n6 c6]))
          have ll_A_NX := Lib.hid (show LsO w ((w_A.alloc (.cells #[.slice none 0 0, .slice none 0 0] 44)).alloc (.cells #[.slice A6 n6 c6] 27)) WB.heap.size 27 v_A rs from ((Hl1_A.out.alloc _).alloc _))
          obtain ⟨v8_A_NX, w8_A_NX, r8_A_NX, l8_A_NX, b8_A_NX, z8_A_NX, g8_A_NX⟩ := lap2 (P := Try.prog) (w0 := w) (WB := WB) 28 28 27 i0 Try.underlying28 HI.out HZ0.out HZ1.out HZ2.out rs HFW.out (W := ((w_A.alloc (.cells #[.slice none 0 0, .slice none 0 0] 44)).alloc (.cells #[.slice A6 n6 c6] 27))) (gx := w_A.heap.size + 1) (v2 := v_A) (u := .slice A6 n6 c6) (x := x) HXV.out ll_A_NX.out bl_A_NX.out bx_A_NX.out
          obtain ⟨va_A_NX, vc_A_NX, rfl, -⟩ := l8_A_NX.shape
          rw [hlen] at r8_A_NX l8_A_NX
          have Hr8_A_NX := Lib.hid r8_A_NX
          have Hl8_A_NX := Lib.hid l8_A_NX
          have Hb8_A_NX := Lib.hid b8_A_NX
          have Hz8_A_NX := Lib.hid z8_A_NX
          have Hg8_A_NX := Lib.hid g8_A_NX
          clear r8_A_NX l8_A_NX b8_A_NX z8_A_NX g8_A_NX
          have bn_A_NX := Lib.hid (show Blk w8_A_NX (w_A.heap.size) 44 #[.slice none 0 0, .slice none 0 0] from blk_grown (show Blk ((w_A.alloc (.cells #[.slice none 0 0, .slice none 0 0] 44)).alloc (.cells #[.slice A6 n6 c6] 27)) (w_A.heap.size) _ _ from ((Blk.new w_A 44 #[.slice none 0 0, .slice none 0 0]).al _)) Hg8_A_NX.out ll_A_NX.out (by decide))
          have hf_A_NX := Lib.hid (show w8_A_NX.frozen? ⟨w_A.heap.size, 0, none⟩ = false ∧ w8_A_NX.frozen? ⟨w_A.heap.size, 1, none⟩ = false ∧ w8_A_NX.cell? ⟨w_A.heap.size, 0, none⟩ = some (.slice none 0 0) ∧ w8_A_NX.cell? ⟨w_A.heap.size, 1, none⟩ = some (.slice none 0 0) from ⟨bn_A_NX.out.frozen 0, bn_A_NX.out.frozen 1, by rw [bn_A_NX.out.cell]; rfl, by rw [bn_A_NX.out.cell]; rfl⟩)
          have bl_AX := Lib.hid (show Below WB.heap.size WB ((WB.alloc (.cells #[] 27)).alloc (.cells #[.slice A6 n6 c6] 27)).drew from (((Below.refl WB.heap.size WB).alloc ((Below.refl WB.heap.size WB)).size _).alloc (((Below.refl WB.heap.size WB).alloc ((Below.refl WB.heap.size WB)).size _)).size _).drew)
          have ba_AX := Lib.hid (show Blk ((WB.alloc (.cells #[] 27)).alloc (.cells #[.slice A6 n6 c6] 27)).drew (WB.heap.size) 27 #[] from ((Blk.new WB 27 #[]).al _))
          obtain ⟨v_AX, w_AX, r1_AX, l1_AX, b1_AX, z1_AX, k1_AX⟩ := lap1 (P := Try.prog) (w0 := w) (WB := WB) 28 28 27 i0 Try.underlying28 HI.out HZ0.out HZ1.out HZ2.out (gJ + 1) (.slice Al rs.length cl) rs HLB.out HFW.out (W := ((WB.alloc (.cells #[] 27)).alloc (.cells #[.slice A6 n6 c6] 27)).drew) (gl := WB.heap.size) bl_AX.out ba_AX.out (by omega)
          have Hr1_AX := Lib.hid r1_AX
          have Hl1_AX := Lib.hid l1_AX
          have Hb1_AX := Lib.hid b1_AX
          have Hz1_AX := Lib.hid z1_AX
          have Hk1_AX := Lib.hid k1_AX
          clear r1_AX l1_AX b1_AX z1_AX k1_AX
          have bx_AX := Lib.hid (show Blk w_AX (WB.heap.size + 1) 27 #[.slice A6 n6 c6] from (Hk1_AX.out _ (by simp; try omega) (by omega)).trans (Blk.new1 WB (.cells #[] 27) 27 #[.slice A6 n6 c6]))
          have bl_AX_0 := Lib.hid (show Below WB.heap.size WB w_AX from Hb1_AX.out)
          have bx_AX_0 := Lib.hid (show Blk w_AX (WB.heap.size + 1) 27 #[.slice A6 n6 c6] from bx_AX.out)
          have ll_AX_0 := Lib.hid (show LsO w w_AX WB.heap.size 27 v_AX rs from Hl1_AX.out)
          obtain ⟨v8_AX_0, w8_AX_0, r8_AX_0, l8_AX_0, b8_AX_0, z8_AX_0, g8_AX_0⟩ := lap2 (P := Try.prog) (w0 := w) (WB := WB) 28 28 27 i0 Try.underlying28 HI.out HZ0.out HZ1.out HZ2.out rs HFW.out (W := w_AX) (gx := WB.heap.size + 1) (v2 := v_AX) (u := .slice A6 n6 c6) (x := x) HXV.out ll_AX_0.out bl_AX_0.out bx_AX_0.out
          obtain ⟨va_AX_0, vc_AX_0, rfl, -⟩ := l8_AX_0.shape
          rw [hlen] at r8_AX_0 l8_AX_0
          have Hr8_AX_0 := Lib.hid r8_AX_0
          have Hl8_AX_0 := Lib.hid l8_AX_0
          have Hb8_AX_0 := Lib.hid b8_AX_0
          have Hz8_AX_0 := Lib.hid z8_AX_0
          have Hg8_AX_0 := Lib.hid g8_AX_0
          clear r8_AX_0 l8_AX_0 b8_AX_0 z8_AX_0 g8_AX_0
          have bl_AX_N := Lib.hid (show Below WB.heap.size WB (w_AX.alloc (.cells #[.slice none 0 0, .slice none 0 0] 44)) from (Hb1_AX.out.alloc (Hb1_AX.out).size _))
          have bx_AX_N := Lib.hid (show Blk (w_AX.alloc (.cells #[.slice none 0 0, .slice none 0 0] 44)) (WB.heap.size + 1) 27 #[.slice A6 n6 c6] from (bx_AX.out.al _))
          have ll_AX_N := Lib.hid (show LsO w (w_AX.alloc (.cells #[.slice none 0 0, .slice none 0 0] 44)) WB.heap.size 27 v_AX rs from (Hl1_AX.out.alloc _))
          obtain ⟨v8_AX_N, w8_AX_N, r8_AX_N, l8_AX_N, b8_AX_N, z8_AX_N, g8_AX_N⟩ := lap2 (P := Try.prog) (w0 := w) (WB := WB) 28 28 27 i0 Try.underlying28 HI.out HZ0.out HZ1.out HZ2.out rs HFW.out (W := (w_AX.alloc (.cells #[.slice none 0 0, .slice none 0 0] 44))) (gx := WB.heap.size + 1) (v2 := v_AX) (u := .slice A6 n6 c6) (x := x) HXV.out ll_AX_N.out bl_AX_N.out bx_AX_N.out
          obtain ⟨va_AX_N, vc_AX_N, rfl, -⟩ := l8_AX_N.shape
          rw [hlen] at r8_AX_N l8_AX_N
          have Hr8_AX_N := Lib.hid r8_AX_N
          have Hl8_AX_N := Lib.hid l8_AX_N
          have Hb8_AX_N := Lib.hid b8_AX_N
          have Hz8_AX_N := Lib.hid z8_AX_N
          have Hg8_AX_N := Lib.hid g8_AX_N
          clear r8_AX_N l8_AX_N b8_AX_N z8_AX_N g8_AX_N
          have bn_AX_N := Lib.hid (show Blk w8_AX_N (w_AX.heap.size) 44 #[.slice none 0 0, .slice none 0 0] from blk_grown (show Blk (w_AX.alloc (.cells #[.slice none 0 0, .slice none 0 0] 44)) (w_AX.heap.size) _ _ from (Blk.new w_AX 44 #[.slice none 0 0, .slice none 0 0])) Hg8_AX_N.out ll_AX_N.out (by decide))
          have hf_AX_N := Lib.hid (show w8_AX_N.frozen? ⟨w_AX.heap.size, 0, none⟩ = false ∧ w8_AX_N.frozen? ⟨w_AX.heap.size, 1, none⟩ = false ∧ w8_AX_N.cell? ⟨w_AX.heap.size, 0, none⟩ = some (.slice none 0 0) ∧ w8_AX_N.cell? ⟨w_AX.heap.size, 1, none⟩ = some (.slice none 0 0) from ⟨bn_AX_N.out.frozen 0, bn_AX_N.out.frozen 1, by rw [bn_AX_N.out.cell]; rfl, by rw [bn_AX_N.out.cell]; rfl⟩)
          have bl_AN := Lib.hid (show Below WB.heap.size WB ((WB.alloc (.cells #[] 27)).alloc (.cells #[.slice none 0 0, .slice none 0 0] 44)).drew from (((Below.refl WB.heap.size WB).alloc ((Below.refl WB.heap.size WB)).size _).alloc (((Below.refl WB.heap.size WB).alloc ((Below.refl WB.heap.size WB)).size _)).size _).drew)
          have ba_AN := Lib.hid (show Blk ((WB.alloc (.cells #[] 27)).alloc (.cells #[.slice none 0 0, .slice none 0 0] 44)).drew (WB.heap.size) 27 #[] from ((Blk.new WB 27 #[]).al _))
          obtain ⟨v_AN, w_AN, r1_AN, l1_AN, b1_AN, z1_AN, k1_AN⟩ := lap1 (P := Try.prog) (w0 := w) (WB := WB) 28 28 27 i0 Try.underlying28 HI.out HZ0.out HZ1.out HZ2.out (gJ + 1) (.slice Al rs.length cl) rs HLB.out HFW.out (W := ((WB.alloc (.cells #[] 27)).alloc (.cells #[.slice none 0 0, .slice none 0 0] 44)).drew) (gl := WB.heap.size) bl_AN.out ba_AN.out (by omega)
          have Hr1_AN := Lib.hid r1_AN
          have Hl1_AN := Lib.hid l1_AN
          have Hb1_AN := Lib.hid b1_AN
          have Hz1_AN := Lib.hid z1_AN
          have Hk1_AN := Lib.hid k1_AN
          clear r1_AN l1_AN b1_AN z1_AN k1_AN
          have bn_AN := Lib.hid (show Blk w_AN (WB.heap.size + 1) 44 #[.slice none 0 0, .slice none 0 0] from (Hk1_AN.out _ (by simp; try omega) (by omega)).trans (Blk.new1 WB (.cells #[] 27) 44 #[.slice none 0 0, .slice none 0 0]))
          have bl_AN_X := Lib.hid (show Below WB.heap.size WB (w_AN.alloc (.cells #[.slice A6 n6 c6] 27)) from (Hb1_AN.out.alloc (Hb1_AN.out).size _))
          have bx_AN_X := Lib.hid (show Blk (w_AN.alloc (.cells #[.slice A6 n6 c6] 27)) (w_AN.heap.size) 27 #[.slice A6 n6 c6] from (Blk.new w_AN 27 #[.slice A6 n6 c6]))
          have ll_AN_X := Lib.hid (show LsO w (w_AN.alloc (.cells #[.slice A6 n6 c6] 27)) WB.heap.size 27 v_AN rs from (Hl1_AN.out.alloc _))
          obtain ⟨v8_AN_X, w8_AN_X, r8_AN_X, l8_AN_X, b8_AN_X, z8_AN_X, g8_AN_X⟩ := lap2 (P := Try.prog) (w0 := w) (WB := WB) 28 28 27 i0 Try.underlying28 HI.out HZ0.out HZ1.out HZ2.out rs HFW.out (W := (w_AN.alloc (.cells #[.slice A6 n6 c6] 27))) (gx := w_AN.heap.size) (v2 := v_AN) (u := .slice A6 n6 c6) (x := x) HXV.out ll_AN_X.out bl_AN_X.out bx_AN_X.out
          obtain ⟨va_AN_X, vc_AN_X, rfl, -⟩ := l8_AN_X.shape
          rw [hlen] at r8_AN_X l8_AN_X
          have Hr8_AN_X := Lib.hid r8_AN_X
          have Hl8_AN_X := Lib.hid l8_AN_X
          have Hb8_AN_X := Lib.hid b8_AN_X
          have Hz8_AN_X := Lib.hid z8_AN_X
          have Hg8_AN_X := Lib.hid g8_AN_X
          clear r8_AN_X l8_AN_X b8_AN_X z8_AN_X g8_AN_X
          have bn_AN_X := Lib.hid (show Blk w8_AN_X (WB.heap.size + 1) 44 #[.slice none 0 0, .slice none 0 0] from blk_grown (show Blk (w_AN.alloc (.cells #[.slice A6 n6 c6] 27)) (WB.heap.size + 1) _ _ from (bn_AN.out.al _)) Hg8_AN_X.out ll_AN_X.out (by decide))
          have hf_AN_X := Lib.hid (show w8_AN_X.frozen? ⟨WB.heap.size + 1, 0, none⟩ = false ∧ w8_AN_X.frozen? ⟨WB.heap.size + 1, 1, none⟩ = false ∧ w8_AN_X.cell? ⟨WB.heap.size + 1, 0, none⟩ = some (.slice none 0 0) ∧ w8_AN_X.cell? ⟨WB.heap.size + 1, 1, none⟩ = some (.slice none 0 0) from ⟨bn_AN_X.out.frozen 0, bn_AN_X.out.frozen 1, by rw [bn_AN_X.out.cell]; rfl, by rw [bn_AN_X.out.cell]; rfl⟩)
          have bl_XA := Lib.hid (show Below WB.heap.size WB ((WB.alloc (.cells #[.slice A6 n6 c6] 27)).alloc (.cells #[] 27)).drew from (((Below.refl WB.heap.size WB).alloc ((Below.refl WB.heap.size WB)).size _).alloc (((Below.refl WB.heap.size WB).alloc ((Below.refl WB.heap.size WB)).size _)).size _).drew)
          have ba_XA := Lib.hid (show Blk ((WB.alloc (.cells #[.slice A6 n6 c6] 27)).alloc (.cells #[] 27)).drew (WB.heap.size + 1) 27 #[] from (Blk.new1 WB (.cells #[.slice A6 n6 c6] 27) 27 #[]))
          obtain ⟨v_XA, w_XA, r1_XA, l1_XA, b1_XA, z1_XA, k1_XA⟩ := lap1 (P := Try.prog) (w0 := w) (WB := WB) 28 28 27 i0 Try.underlying28 HI.out HZ0.out HZ1.out HZ2.out (gJ + 1) (.slice Al rs.length cl) rs HLB.out HFW.out (W := ((WB.alloc (.cells #[.slice A6 n6 c6] 27)).alloc (.cells #[] 27)).drew) (gl := WB.heap.size + 1) bl_XA.out ba_XA.out (by omega)
          have Hr1_XA := Lib.hid r1_XA
          have Hl1_XA := Lib.hid l1_XA
          have Hb1_XA := Lib.hid b1_XA
          have Hz1_XA := Lib.hid z1_XA
          have Hk1_XA := Lib.hid k1_XA
          clear r1_XA l1_XA b1_XA z1_XA k1_XA
          have bx_XA := Lib.hid (show Blk w_XA (WB.heap.size) 27 #[.slice A6 n6 c6] from (Hk1_XA.out _ (by simp; try omega) (by omega)).trans ((Blk.new WB 27 #[.slice A6 n6 c6]).al _))
          have bl_XA_0 := Lib.hid (show Below WB.heap.size WB w_XA from Hb1_XA.out)
          have bx_XA_0 := Lib.hid (show Blk w_XA (WB.heap.size) 27 #[.slice A6 n6 c6] from bx_XA.out)
          have ll_XA_0 := Lib.hid (show LsO w w_XA WB.heap.size 27 v_XA rs from Hl1_XA.out)
          obtain ⟨v8_XA_0, w8_XA_0, r8_XA_0, l8_XA_0, b8_XA_0, z8_XA_0, g8_XA_0⟩ := lap2 (P := Try.prog) (w0 := w) (WB := WB) 28 28 27 i0 Try.underlying28 HI.out HZ0.out HZ1.out HZ2.out rs HFW.out (W := w_XA) (gx := WB.heap.size) (v2 := v_XA) (u := .slice A6 n6 c6) (x := x) HXV.out ll_XA_0.out bl_XA_0.out bx_XA_0.out
          obtain ⟨va_XA_0, vc_XA_0, rfl, -⟩ := l8_XA_0.shape
          rw [hlen] at r8_XA_0 l8_XA_0
          have Hr8_XA_0 := Lib.hid r8_XA_0
          have Hl8_XA_0 := Lib.hid l8_XA_0
          have Hb8_XA_0 := Lib.hid b8_XA_0
          have Hz8_XA_0 := Lib.hid z8_XA_0
          have Hg8_XA_0 := Lib.hid g8_XA_0
          clear r8_XA_0 l8_XA_0 b8_XA_0 z8_XA_0 g8_XA_0
          have bl_XA_N := Lib.hid (show Below WB.heap.size WB (w_XA.alloc (.cells #[.slice none 0 0, .slice none 0 0] 44)) from (Hb1_XA.out.alloc (Hb1_XA.out).size _))
          have bx_XA_N := Lib.hid (show Blk (w_XA.alloc (.cells #[.slice none 0 0, .slice none 0 0] 44)) (WB.heap.size) 27 #[.slice A6 n6 c6] from (bx_XA.out.al _))
          have ll_XA_N := Lib.hid (show LsO w (w_XA.alloc (.cells #[.slice none 0 0, .slice none 0 0] 44)) WB.heap.size 27 v_XA rs from (Hl1_XA.out.alloc _))
          obtain ⟨v8_XA_N, w8_XA_N, r8_XA_N, l8_XA_N, b8_XA_N, z8_XA_N, g8_XA_N⟩ := lap2 (P := Try.prog) (w0 := w) (WB := WB) 28 28 27 i0 Try.underlying28 HI.out HZ0.out HZ1.out HZ2.out rs HFW.out (W := (w_XA.alloc (.cells #[.slice none 0 0, .slice none 0 0] 44))) (gx := WB.heap.size) (v2 := v_XA) (u := .slice A6 n6 c6) (x := x) HXV.out ll_XA_N.out bl_XA_N.out bx_XA_N.out
          obtain ⟨va_XA_N, vc_XA_N, rfl, -⟩ := l8_XA_N.shape
          rw [hlen] at r8_XA_N l8_XA_N
          have Hr8_XA_N := Lib.hid r8_XA_N
          have Hl8_XA_N := Lib.hid l8_XA_N
          have Hb8_XA_N := Lib.hid b8_XA_N
          have Hz8_XA_N := Lib.hid z8_XA_N
          have Hg8_XA_N := Lib.hid g8_XA_N
          clear r8_XA_N l8_XA_N b8_XA_N z8_XA_N g8_XA_N
          have bn_XA_N := Lib.hid (show Blk w8_XA_N (w_XA.heap.size) 44 #[.slice none 0 0, .slice none 0 0] from blk_grown (show Blk (w_XA.alloc (.cells #[.slice none 0 0, .slice none 0 0] 44)) (w_XA.heap.size) _ _ from (Blk.new w_XA 44 #[.slice none 0 0, .slice none 0 0])) Hg8_XA_N.out ll_XA_N.out (by decide))
          have hf_XA_N := Lib.hid (show w8_XA_N.frozen? ⟨w_XA.heap.size, 0, none⟩ = false ∧ w8_XA_N.frozen? ⟨w_XA.heap.size, 1, none⟩ = false ∧ w8_XA_N.cell? ⟨w_XA.heap.size, 0, none⟩ = some (.slice none 0 0) ∧ w8_XA_N.cell? ⟨w_XA.heap.size, 1, none⟩ = some (.slice none 0 0) from ⟨bn_XA_N.out.frozen 0, bn_XA_N.out.frozen 1, by rw [bn_XA_N.out.cell]; rfl, by rw [bn_XA_N.out.cell]; rfl⟩)
          have bl_NA := Lib.hid (show Below WB.heap.size WB ((WB.alloc (.cells #[.slice none 0 0, .slice none 0 0] 44)).alloc (.cells #[] 27)).drew from (((Below.refl WB.heap.size WB).alloc ((Below.refl WB.heap.size WB)).size _).alloc (((Below.refl WB.heap.size WB).alloc ((Below.refl WB.heap.size WB)).size _)).size _).drew)
          have ba_NA := Lib.hid (show Blk ((WB.alloc (.cells #[.slice none 0 0, .slice none 0 0] 44)).alloc (.cells #[] 27)).drew (WB.heap.size + 1) 27 #[] from (Blk.new1 WB (.cells #[.slice none 0 0, .slice none 0 0] 44) 27 #[]))
          obtain ⟨v_NA, w_NA, r1_NA, l1_NA, b1_NA, z1_NA, k1_NA⟩ := lap1 (P := Try.prog) (w0 := w) (WB := WB) 28 28 27 i0 Try.underlying28 HI.out HZ0.out HZ1.out HZ2.out (gJ + 1) (.slice Al rs.length cl) rs HLB.out HFW.out (W := ((WB.alloc (.cells #[.slice none 0 0, .slice none 0 0] 44)).alloc (.cells #[] 27)).drew) (gl := WB.heap.size + 1) bl_NA.out ba_NA.out (by omega)
          have Hr1_NA := Lib.hid r1_NA
          have Hl1_NA := Lib.hid l1_NA
          have Hb1_NA := Lib.hid b1_NA
          have Hz1_NA := Lib.hid z1_NA
          have Hk1_NA := Lib.hid k1_NA
          clear r1_NA l1_NA b1_NA z1_NA k1_NA
          have bn_NA := Lib.hid (show Blk w_NA (WB.heap.size) 44 #[.slice none 0 0, .slice none 0 0] from (Hk1_NA.out _ (by simp; try omega) (by omega)).trans ((Blk.new WB 44 #[.slice none 0 0, .slice none 0 0]).al _))
          have bl_NA_X := Lib.hid (show Below WB.heap.size WB (w_NA.alloc (.cells #[.slice A6 n6 c6] 27)) from (Hb1_NA.out.alloc (Hb1_NA.out).size _))
          have bx_NA_X := Lib.hid (show Blk (w_NA.alloc (.cells #[.slice A6 n6 c6] 27)) (w_NA.heap.size) 27 #[.slice A6 n6 c6] from (Blk.new w_NA 27 #[.slice A6 n6 c6]))
          have ll_NA_X := Lib.hid (show LsO w (w_NA.alloc (.cells #[.slice A6 n6 c6] 27)) WB.heap.size 27 v_NA rs from (Hl1_NA.out.alloc _))
          obtain ⟨v8_NA_X, w8_NA_X, r8_NA_X, l8_NA_X, b8_NA_X, z8_NA_X, g8_NA_X⟩ := lap2 (P := Try.prog) (w0 := w) (WB := WB) 28 28 27 i0 Try.underlying28 HI.out HZ0.out HZ1.out HZ2.out rs HFW.out (W := (w_NA.alloc (.cells #[.slice A6 n6 c6] 27))) (gx := w_NA.heap.size) (v2 := v_NA) (u := .slice A6 n6 c6) (x := x) HXV.out ll_NA_X.out bl_NA_X.out bx_NA_X.out
          obtain ⟨va_NA_X, vc_NA_X, rfl, -⟩ := l8_NA_X.shape
          rw [hlen] at r8_NA_X l8_NA_X
          have Hr8_NA_X := Lib.hid r8_NA_X
          have Hl8_NA_X := Lib.hid l8_NA_X
          have Hb8_NA_X := Lib.hid b8_NA_X
          have Hz8_NA_X := Lib.hid z8_NA_X
          have Hg8_NA_X := Lib.hid g8_NA_X
          clear r8_NA_X l8_NA_X b8_NA_X z8_NA_X g8_NA_X
          have bn_NA_X := Lib.hid (show Blk w8_NA_X (WB.heap.size) 44 #[.slice none 0 0, .slice none 0 0] from blk_grown (show Blk (w_NA.alloc (.cells #[.slice A6 n6 c6] 27)) (WB.heap.size) _ _ from (bn_NA.out.al _)) Hg8_NA_X.out ll_NA_X.out (by decide))
          have hf_NA_X := Lib.hid (show w8_NA_X.frozen? ⟨WB.heap.size, 0, none⟩ = false ∧ w8_NA_X.frozen? ⟨WB.heap.size, 1, none⟩ = false ∧ w8_NA_X.cell? ⟨WB.heap.size, 0, none⟩ = some (.slice none 0 0) ∧ w8_NA_X.cell? ⟨WB.heap.size, 1, none⟩ = some (.slice none 0 0) from ⟨bn_NA_X.out.frozen 0, bn_NA_X.out.frozen 1, by rw [bn_NA_X.out.cell]; rfl, by rw [bn_NA_X.out.cell]; rfl⟩)
          have bl_AXN := Lib.hid (show Below WB.heap.size WB (((WB.alloc (.cells #[] 27)).alloc (.cells #[.slice A6 n6 c6] 27)).alloc (.cells #[.slice none 0 0, .slice none 0 0] 44)).drew from ((((Below.refl WB.heap.size WB).alloc ((Below.refl WB.heap.size WB)).size _).alloc (((Below.refl WB.heap.size WB).alloc ((Below.refl WB.heap.size WB)).size _)).size _).alloc ((((Below.refl WB.heap.size WB).alloc ((Below.refl WB.heap.size WB)).size _).alloc (((Below.refl WB.heap.size WB).alloc ((Below.refl WB.heap.size WB)).size _)).size _)).size _).drew)
          have ba_AXN := Lib.hid (show Blk (((WB.alloc (.cells #[] 27)).alloc (.cells #[.slice A6 n6 c6] 27)).alloc (.cells #[.slice none 0 0, .slice none 0 0] 44)).drew (WB.heap.size) 27 #[] from (((Blk.new WB 27 #[]).al _).al _))
          obtain ⟨v_AXN, w_AXN, r1_AXN, l1_AXN, b1_AXN, z1_AXN, k1_AXN⟩ := lap1 (P := Try.prog) (w0 := w) (WB := WB) 28 28 27 i0 Try.underlying28 HI.out HZ0.out HZ1.out HZ2.out (gJ + 1) (.slice Al rs.length cl) rs HLB.out HFW.out (W := (((WB.alloc (.cells #[] 27)).alloc (.cells #[.slice A6 n6 c6] 27)).alloc (.cells #[.slice none 0 0, .slice none 0 0] 44)).drew) (gl := WB.heap.size) bl_AXN.out ba_AXN.out (by omega)
          have Hr1_AXN := Lib.hid r1_AXN
          have Hl1_AXN := Lib.hid l1_AXN
          have Hb1_AXN := Lib.hid b1_AXN
          have Hz1_AXN := Lib.hid z1_AXN
          have Hk1_AXN := Lib.hid k1_AXN
          clear r1_AXN l1_AXN b1_AXN z1_AXN k1_AXN
          have bx_AXN := Lib.hid (show Blk w_AXN (WB.heap.size + 1) 27 #[.slice A6 n6 c6] from (Hk1_AXN.out _ (by simp; try omega) (by omega)).trans ((Blk.new1 WB (.cells #[] 27) 27 #[.slice A6 n6 c6]).al _))
          have bn_AXN := Lib.hid (show Blk w_AXN (WB.heap.size + 2) 44 #[.slice none 0 0, .slice none 0 0] from (Hk1_AXN.out _ (by simp; try omega) (by omega)).trans (Blk.new2 WB (.cells #[] 27) (.cells #[.slice A6 n6 c6] 27) 44 #[.slice none 0 0, .slice none 0 0]))
          have bl_AXN_0 := Lib.hid (show Below WB.heap.size WB w_AXN from Hb1_AXN.out)
          have bx_AXN_0 := Lib.hid (show Blk w_AXN (WB.heap.size + 1) 27 #[.slice A6 n6 c6] from bx_AXN.out)
          have ll_AXN_0 := Lib.hid (show LsO w w_AXN WB.heap.size 27 v_AXN rs from Hl1_AXN.out)
          obtain ⟨v8_AXN_0, w8_AXN_0, r8_AXN_0, l8_AXN_0, b8_AXN_0, z8_AXN_0, g8_AXN_0⟩ := lap2 (P := Try.prog) (w0 := w) (WB := WB) 28 28 27 i0 Try.underlying28 HI.out HZ0.out HZ1.out HZ2.out rs HFW.out (W := w_AXN) (gx := WB.heap.size + 1) (v2 := v_AXN) (u := .slice A6 n6 c6) (x := x) HXV.out ll_AXN_0.out bl_AXN_0.out bx_AXN_0.out
          obtain ⟨va_AXN_0, vc_AXN_0, rfl, -⟩ := l8_AXN_0.shape
          rw [hlen] at r8_AXN_0 l8_AXN_0
          have Hr8_AXN_0 := Lib.hid r8_AXN_0
          have Hl8_AXN_0 := Lib.hid l8_AXN_0
          have Hb8_AXN_0 := Lib.hid b8_AXN_0
          have Hz8_AXN_0 := Lib.hid z8_AXN_0
          have Hg8_AXN_0 := Lib.hid g8_AXN_0
          clear r8_AXN_0 l8_AXN_0 b8_AXN_0 z8_AXN_0 g8_AXN_0
          have bn_AXN_0 := Lib.hid (show Blk w8_AXN_0 (WB.heap.size + 2) 44 #[.slice none 0 0, .slice none 0 0] from blk_grown (show Blk w_AXN (WB.heap.size + 2) _ _ from bn_AXN.out) Hg8_AXN_0.out ll_AXN_0.out (by decide))
          have hf_AXN_0 := Lib.hid (show w8_AXN_0.frozen? ⟨WB.heap.size + 2, 0, none⟩ = false ∧ w8_AXN_0.frozen? ⟨WB.heap.size + 2, 1, none⟩ = false ∧ w8_AXN_0.cell? ⟨WB.heap.size + 2, 0, none⟩ = some (.slice none 0 0) ∧ w8_AXN_0.cell? ⟨WB.heap.size + 2, 1, none⟩ = some (.slice none 0 0) from ⟨bn_AXN_0.out.frozen 0, bn_AXN_0.out.frozen 1, by rw [bn_AXN_0.out.cell]; rfl, by rw [bn_AXN_0.out.cell]; rfl⟩)
          have bl_ANX := Lib.hid (show Below WB.heap.size WB (((WB.alloc (.cells #[] 27)).alloc (.cells #[.slice none 0 0, .slice none 0 0] 44)).alloc (.cells #[.slice A6 n6 c6] 27)).drew from ((((Below.refl WB.heap.size WB).alloc ((Below.refl WB.heap.size WB)).size _).alloc (((Below.refl WB.heap.size WB).alloc ((Below.refl WB.heap.size WB)).size _)).size _).alloc ((((Below.refl WB.heap.size WB).alloc ((Below.refl WB.heap.size WB)).size _).alloc (((Below.refl WB.heap.size WB).alloc ((Below.refl WB.heap.size WB)).size _)).size _)).size _).drew)
          have ba_ANX := Lib.hid (show Blk (((WB.alloc (.cells #[] 27)).alloc (.cells #[.slice none 0 0, .slice none 0 0] 44)).alloc (.cells #[.slice A6 n6 c6] 27)).drew (WB.heap.size) 27 #[] from (((Blk.new WB 27 #[]).al _).al _))
          obtain ⟨v_ANX, w_ANX, r1_ANX, l1_ANX, b1_ANX, z1_ANX, k1_ANX⟩ := lap1 (P := Try.prog) (w0 := w) (WB := WB) 28 28 27 i0 Try.underlying28 HI.out HZ0.out HZ1.out HZ2.out (gJ + 1) (.slice Al rs.length cl) rs HLB.out HFW.out (W := (((WB.alloc (.cells #[] 27)).alloc (.cells #[.slice none 0 0, .slice none 0 0] 44)).alloc (.cells #[.slice A6 n6 c6] 27)).drew) (gl := WB.heap.size) bl_ANX.out ba_ANX.out (by omega)
          have Hr1_ANX := Lib.hid r1_ANX
          have Hl1_ANX := Lib.hid l1_ANX
          have Hb1_ANX := Lib.hid b1_ANX
          have Hz1_ANX := Lib.hid z1_ANX
          have Hk1_ANX := Lib.hid k1_ANX
          clear r1_ANX l1_ANX b1_ANX z1_ANX k1_ANX
          have bx_ANX := Lib.hid (show Blk w_ANX (WB.heap.size + 2) 27 #[.slice A6 n6 c6] from (Hk1_ANX.out _ (by simp; try omega) (by omega)).trans (Blk.new2 WB (.cells #[] 27) (.cells #[.slice none 0 0, .slice none 0 0] 44) 27 #[.slice A6 n6 c6]))
          have bn_ANX := Lib.hid (show Blk w_ANX (WB.heap.size + 1) 44 #[.slice none 0 0, .slice none 0 0] from (Hk1_ANX.out _ (by simp; try omega) (by omega)).trans ((Blk.new1 WB (.cells #[] 27) 44 #[.slice none 0 0, .slice none 0 0]).al _))
          have bl_ANX_0 := Lib.hid (show Below WB.heap.size WB w_ANX from Hb1_ANX.out)
          have bx_ANX_0 := Lib.hid (show Blk w_ANX (WB.heap.size + 2) 27 #[.slice A6 n6 c6] from bx_ANX.out)
          have ll_ANX_0 := Lib.hid (show LsO w w_ANX WB.heap.size 27 v_ANX rs from Hl1_ANX.out)
          obtain ⟨v8_ANX_0, w8_ANX_0, r8_ANX_0, l8_ANX_0, b8_ANX_0, z8_ANX_0, g8_ANX_0⟩ := lap2 (P := Try.prog) (w0 := w) (WB := WB) 28 28 27 i0 Try.underlying28 HI.out HZ0.out HZ1.out HZ2.out rs HFW.out (W := w_ANX) (gx := WB.heap.size + 2) (v2 := v_ANX) (u := .slice A6 n6 c6) (x := x) HXV.out ll_ANX_0.out bl_ANX_0.out bx_ANX_0.out
          obtain ⟨va_ANX_0, vc_ANX_0, rfl, -⟩ := l8_ANX_0.shape
          rw [hlen] at r8_ANX_0 l8_ANX_0
          have Hr8_ANX_0 := Lib.hid r8_ANX_0
          have Hl8_ANX_0 := Lib.hid l8_ANX_0
          have Hb8_ANX_0 := Lib.hid b8_ANX_0
          have Hz8_ANX_0 := Lib.hid z8_ANX_0
          have Hg8_ANX_0 := Lib.hid g8_ANX_0
          clear r8_ANX_0 l8_ANX_0 b8_ANX_0 z8_ANX_0 g8_ANX_0
          have bn_ANX_0 := Lib.hid (show Blk w8_ANX_0 (WB.heap.size + 1) 44 #[.slice none 0 0, .slice none 0 0] from blk_grown (show Blk w_ANX (WB.heap.size + 1) _ _ from bn_ANX.out) Hg8_ANX_0.out ll_ANX_0.out (by decide))
          have hf_ANX_0 := Lib.hid (show w8_ANX_0.frozen? ⟨WB.heap.size + 1, 0, none⟩ = false ∧ w8_ANX_0.frozen? ⟨WB.heap.size + 1, 1, none⟩ = false ∧ w8_ANX_0.cell? ⟨WB.heap.size + 1, 0, none⟩ = some (.slice none 0 0) ∧ w8_ANX_0.cell? ⟨WB.heap.size + 1, 1, none⟩ = some (.slice none 0 0) from ⟨bn_ANX_0.out.frozen 0, bn_ANX_0.out.frozen 1, by rw [bn_ANX_0.out.cell]; rfl, by rw [bn_ANX_0.out.cell]; rfl⟩)
          have bl_XAN := Lib.hid (show Below WB.heap.size WB (((WB.alloc (.cells #[.slice A6 n6 c6] 27)).alloc (.cells #[] 27)).alloc (.cells #[.slice none 0 0, .slice none 0 0] 44)).drew from ((((Below.refl WB.heap.size WB).alloc ((Below.refl WB.heap.size WB)).size _).alloc (((Below.refl WB.heap.size WB).alloc ((Below.refl WB.heap.size WB)).size _)).size _).alloc ((((Below.refl WB.heap.size WB).alloc ((Below.refl WB.heap.size WB)).size _).alloc (((Below.refl WB.heap.size WB).alloc ((Below.refl WB.heap.size WB)).size _)).size _)).size _).drew)
          have ba_XAN := Lib.hid (show Blk (((WB.alloc (.cells #[.slice A6 n6 c6] 27)).alloc (.cells #[] 27)).alloc (.cells #[.slice none 0 0, .slice none 0 0] 44)).drew (WB.heap.size + 1) 27 #[] from ((Blk.new1 WB (.cells #[.slice A6 n6 c6] 27) 27 #[]).al _))
          obtain ⟨v_XAN, w_XAN, r1_XAN, l1_XAN, b1_XAN, z1_XAN, k1_XAN⟩ := lap1 (P := Try.prog) (w0 := w) (WB := WB) 28 28 27 i0 Try.underlying28 HI.out HZ0.out HZ1.out HZ2.out (gJ + 1) (.slice Al rs.length cl) rs HLB.out HFW.out (W := (((WB.alloc (.cells #[.slice A6 n6 c6] 27)).alloc (.cells #[] 27)).alloc (.cells #[.slice none 0 0, .slice none 0 0] 44)).drew) (gl := WB.heap.size + 1) bl_XAN.out ba_XAN.out (by omega)
          have Hr1_XAN := Lib.hid r1_XAN
          have Hl1_XAN := Lib.hid l1_XAN
          have Hb1_XAN := Lib.hid b1_XAN
          have Hz1_XAN := Lib.hid z1_XAN
          have Hk1_XAN := Lib.hid k1_XAN
          clear r1_XAN l1_XAN b1_XAN z1_XAN k1_XAN
          have bx_XAN := Lib.hid (show Blk w_XAN (WB.heap.size) 27 #[.slice A6 n6 c6] from (Hk1_XAN.out _ (by simp; try omega) (by omega)).trans (((Blk.new WB 27 #[.slice A6 n6 c6]).al _).al _))
          have bn_XAN := Lib.hid (show Blk w_XAN (WB.heap.size + 2) 44 #[.slice none 0 0, .slice none 0 0] from (Hk1_XAN.out _ (by simp; try omega) (by omega)).trans (Blk.new2 WB (.cells #[.slice A6 n6 c6] 27) (.cells #[] 27) 44 #[.slice none 0 0, .slice none 0 0]))
          have bl_XAN_0 := Lib.hid (show Below WB.heap.size WB w_XAN from Hb1_XAN.out)
          have bx_XAN_0 := Lib.hid (show Blk w_XAN (WB.heap.size) 27 #[.slice A6 n6 c6] from bx_XAN.out)
          have ll_XAN_0 := Lib.hid (show LsO w w_XAN WB.heap.size 27 v_XAN rs from Hl1_XAN.out)
          obtain ⟨v8_XAN_0, w8_XAN_0, r8_XAN_0, l8_XAN_0, b8_XAN_0, z8_XAN_0, g8_XAN_0⟩ := lap2 (P := Try.prog) (w0 := w) (WB := WB) 28 28 27 i0 Try.underlying28 HI.out HZ0.out HZ1.out HZ2.out rs HFW.out (W := w_XAN) (gx := WB.heap.size) (v2 := v_XAN) (u := .slice A6 n6 c6) (x := x) HXV.out ll_XAN_0.out bl_XAN_0.out bx_XAN_0.out
          obtain ⟨va_XAN_0, vc_XAN_0, rfl, -⟩ := l8_XAN_0.shape
          rw [hlen] at r8_XAN_0 l8_XAN_0
          have Hr8_XAN_0 := Lib.hid r8_XAN_0
          have Hl8_XAN_0 := Lib.hid l8_XAN_0
          have Hb8_XAN_0 := Lib.hid b8_XAN_0
          have Hz8_XAN_0 := Lib.hid z8_XAN_0
          have Hg8_XAN_0 := Lib.hid g8_XAN_0
          clear r8_XAN_0 l8_XAN_0 b8_XAN_0 z8_XAN_0 g8_XAN_0
          have bn_XAN_0 := Lib.hid (show Blk w8_XAN_0 (WB.heap.size + 2) 44 #[.slice none 0 0, .slice none 0 0] from blk_grown (show Blk w_XAN (WB.heap.size + 2) _ _ from bn_XAN.out) Hg8_XAN_0.out ll_XAN_0.out (by decide))
          have hf_XAN_0 := Lib.hid (show w8_XAN_0.frozen? ⟨WB.heap.size + 2, 0, none⟩ = false ∧ w8_XAN_0.frozen? ⟨WB.heap.size + 2, 1, none⟩ = false ∧ w8_XAN_0.cell? ⟨WB.heap.size + 2, 0, none⟩ = some (.slice none 0 0) ∧ w8_XAN_0.cell? ⟨WB.heap.size + 2, 1, none⟩ = some (.slice none 0 0) from ⟨bn_XAN_0.out.frozen 0, bn_XAN_0.out.frozen 1, by rw [bn_XAN_0.out.cell]; rfl, by rw [bn_XAN_0.out.cell]; rfl⟩)
          have bl_XNA := Lib.hid (show Below WB.heap.size WB (((WB.alloc (.cells #[.slice A6 n6 c6] 27)).alloc (.cells #[.slice none 0 0, .slice none 0 0] 44)).alloc (.cells #[] 27)).drew from ((((Below.refl WB.heap.size WB).alloc ((Below.refl WB.heap.size WB)).size _).alloc (((Below.refl WB.heap.size WB).alloc ((Below.refl WB.heap.size WB)).size _)).size _).alloc ((((Below.refl WB.heap.size WB).alloc ((Below.refl WB.heap.size WB)).size _).alloc (((Below.refl WB.heap.size WB).alloc ((Below.refl WB.heap.size WB)).size _)).size _)).size _).drew)
          have ba_XNA := Lib.hid (show Blk (((WB.alloc (.cells #[.slice A6 n6 c6] 27)).alloc (.cells #[.slice none 0 0, .slice none 0 0] 44)).alloc (.cells #[] 27)).drew (WB.heap.size + 2) 27 #[] from (Blk.new2 WB (.cells #[.slice A6 n6 c6] 27) (.cells #[.slice none 0 0, .slice none 0 0] 44) 27 #[]))
          obtain ⟨v_XNA, w_XNA, r1_XNA, l1_XNA, b1_XNA, z1_XNA, k1_XNA⟩ := lap1 (P := Try.prog) (w0 := w) (WB := WB) 28 28 27 i0 Try.underlying28 HI.out HZ0.out HZ1.out HZ2.out (gJ + 1) (.slice Al rs.length cl) rs HLB.out HFW.out (W := (((WB.alloc (.cells #[.slice A6 n6 c6] 27)).alloc (.cells #[.slice none 0 0, .slice none 0 0] 44)).alloc (.cells #[] 27)).drew) (gl := WB.heap.size + 2) bl_XNA.out ba_XNA.out (by omega)
          have Hr1_XNA := Lib.hid r1_XNA
          have Hl1_XNA := Lib.hid l1_XNA
          have Hb1_XNA := Lib.hid b1_XNA
          have Hz1_XNA := Lib.hid z1_XNA
          have Hk1_XNA := Lib.hid k1_XNA
          clear r1_XNA l1_XNA b1_XNA z1_XNA k1_XNA
          have bx_XNA := Lib.hid (show Blk w_XNA (WB.heap.size) 27 #[.slice A6 n6 c6] from (Hk1_XNA.out _ (by simp; try omega) (by omega)).trans (((Blk.new WB 27 #[.slice A6 n6 c6]).al _).al _))
          have bn_XNA := Lib.hid (show Blk w_XNA (WB.heap.size + 1) 44 #[.slice none 0 0, .slice none 0 0] from (Hk1_XNA.out _ (by simp; try omega) (by omega)).trans ((Blk.new1 WB (.cells #[.slice A6 n6 c6] 27) 44 #[.slice none 0 0, .slice none 0 0]).al _))
          have bl_XNA_0 := Lib.hid (show Below WB.heap.size WB w_XNA from Hb1_XNA.out)
          have bx_XNA_0 := Lib.hid (show Blk w_XNA (WB.heap.size) 27 #[.slice A6 n6 c6] from bx_XNA.out)
          have ll_XNA_0 := Lib.hid (show LsO w w_XNA WB.heap.size 27 v_XNA rs from Hl1_XNA.out)
          obtain ⟨v8_XNA_0, w8_XNA_0, r8_XNA_0, l8_XNA_0, b8_XNA_0, z8_XNA_0, g8_XNA_0⟩ := lap2 (P := Try.prog) (w0 := w) (WB := WB) 28 28 27 i0 Try.underlying28 HI.out HZ0.out HZ1.out HZ2.out rs HFW.out (W := w_XNA) (gx := WB.heap.size) (v2 := v_XNA) (u := .slice A6 n6 c6) (x := x) HXV.out ll_XNA_0.out bl_XNA_0.out bx_XNA_0.out
          obtain ⟨va_XNA_0, vc_XNA_0, rfl, -⟩ := l8_XNA_0.shape
          rw [hlen] at r8_XNA_0 l8_XNA_0
          have Hr8_XNA_0 := Lib.hid r8_XNA_0
          have Hl8_XNA_0 := Lib.hid l8_XNA_0
          have Hb8_XNA_0 := Lib.hid b8_XNA_0
          have Hz8_XNA_0 := Lib.hid z8_XNA_0
          have Hg8_XNA_0 := Lib.hid g8_XNA_0
          clear r8_XNA_0 l8_XNA_0 b8_XNA_0 z8_XNA_0 g8_XNA_0
          have bn_XNA_0 := Lib.hid (show Blk w8_XNA_0 (WB.heap.size + 1) 44 #[.slice none 0 0, .slice none 0 0] from blk_grown (show Blk w_XNA (WB.heap.size + 1) _ _ from bn_XNA.out) Hg8_XNA_0.out ll_XNA_0.out (by decide))
          have hf_XNA_0 := Lib.hid (show w8_XNA_0.frozen? ⟨WB.heap.size + 1, 0, none⟩ = false ∧ w8_XNA_0.frozen? ⟨WB.heap.size + 1, 1, none⟩ = false ∧ w8_XNA_0.cell? ⟨WB.heap.size + 1, 0, none⟩ = some (.slice none 0 0) ∧ w8_XNA_0.cell? ⟨WB.heap.size + 1, 1, none⟩ = some (.slice none 0 0) from ⟨bn_XNA_0.out.frozen 0, bn_XNA_0.out.frozen 1, by rw [bn_XNA_0.out.cell]; rfl, by rw [bn_XNA_0.out.cell]; rfl⟩)
          have bl_NAX := Lib.hid (show Below WB.heap.size WB (((WB.alloc (.cells #[.slice none 0 0, .slice none 0 0] 44)).alloc (.cells #[] 27)).alloc (.cells #[.slice A6 n6 c6] 27)).drew from ((((Below.refl WB.heap.size WB).alloc ((Below.refl WB.heap.size WB)).size _).alloc (((Below.refl WB.heap.size WB).alloc ((Below.refl WB.heap.size WB)).size _)).size _).alloc ((((Below.refl WB.heap.size WB).alloc ((Below.refl WB.heap.size WB)).size _).alloc (((Below.refl WB.heap.size WB).alloc ((Below.refl WB.heap.size WB)).size _)).size _)).size _).drew)
          have ba_NAX := Lib.hid (show Blk (((WB.alloc (.cells #[.slice none 0 0, .slice none 0 0] 44)).alloc (.cells #[] 27)).alloc (.cells #[.slice A6 n6 c6] 27)).drew (WB.heap.size + 1) 27 #[] from ((Blk.new1 WB (.cells #[.slice none 0 0, .slice none 0 0] 44) 27 #[]).al _))
          obtain ⟨v_NAX, w_NAX, r1_NAX, l1_NAX, b1_NAX, z1_NAX, k1_NAX⟩ := lap1 (P := Try.prog) (w0 := w) (WB := WB) 28 28 27 i0 Try.underlying28 HI.out HZ0.out HZ1.out HZ2.out (gJ + 1) (.slice Al rs.length cl) rs HLB.out HFW.out (W := (((WB.alloc (.cells #[.slice none 0 0, .slice none 0 0] 44)).alloc (.cells #[] 27)).alloc (.cells #[.slice A6 n6 c6] 27)).drew) (gl := WB.heap.size + 1) bl_NAX.out ba_NAX.out (by omega)
          have Hr1_NAX := Lib.hid r1_NAX
          have Hl1_NAX := Lib.hid l1_NAX
          have Hb1_NAX := Lib.hid b1_NAX
          have Hz1_NAX := Lib.hid z1_NAX
          have Hk1_NAX := Lib.hid k1_NAX
          clear r1_NAX l1_NAX b1_NAX z1_NAX k1_NAX
          have bx_NAX := Lib.hid (show Blk w_NAX (WB.heap.size + 2) 27 #[.slice A6 n6 c6] from (Hk1_NAX.out _ (by simp; try omega) (by omega)).trans (Blk.new2 WB (.cells #[.slice none 0 0, .slice none 0 0] 44) (.cells #[] 27) 27 #[.slice A6 n6 c6]))
          have bn_NAX := Lib.hid (show Blk w_NAX (WB.heap.size) 44 #[.slice none 0 0, .slice none 0 0] from (Hk1_NAX.out _ (by simp; try omega) (by omega)).trans (((Blk.new WB 44 #[.slice none 0 0, .slice none 0 0]).al _).al _))
          have bl_NAX_0 := Lib.hid (show Below WB.heap.size WB w_NAX from Hb1_NAX.out)
          have bx_NAX_0 := Lib.hid (show Blk w_NAX (WB.heap.size + 2) 27 #[.slice A6 n6 c6] from bx_NAX.out)
          have ll_NAX_0 := Lib.hid (show LsO w w_NAX WB.heap.size 27 v_NAX rs from Hl1_NAX.out)
          obtain ⟨v8_NAX_0, w8_NAX_0, r8_NAX_0, l8_NAX_0, b8_NAX_0, z8_NAX_0, g8_NAX_0⟩ := lap2 (P := Try.prog) (w0 := w) (WB := WB) 28 28 27 i0 Try.underlying28 HI.out HZ0.out HZ1.out HZ2.out rs HFW.out (W := w_NAX) (gx := WB.heap.size + 2) (v2 := v_NAX) (u := .slice A6 n6 c6) (x := x) HXV.out ll_NAX_0.out bl_NAX_0.out bx_NAX_0.out
          obtain ⟨va_NAX_0, vc_NAX_0, rfl, -⟩ := l8_NAX_0.shape
          rw [hlen] at r8_NAX_0 l8_NAX_0
          have Hr8_NAX_0 := Lib.hid r8_NAX_0
          have Hl8_NAX_0 := Lib.hid l8_NAX_0
          have Hb8_NAX_0 := Lib.hid b8_NAX_0
          have Hz8_NAX_0 := Lib.hid z8_NAX_0
          have Hg8_NAX_0 := Lib.hid g8_NAX_0
          clear r8_NAX_0 l8_NAX_0 b8_NAX_0 z8_NAX_0 g8_NAX_0
          have bn_NAX_0 := Lib.hid (show Blk w8_NAX_0 (WB.heap.size) 44 #[.slice none 0 0, .slice none 0 0] from blk_grown (show Blk w_NAX (WB.heap.size) _ _ from bn_NAX.out) Hg8_NAX_0.out ll_NAX_0.out (by decide))
          have hf_NAX_0 := Lib.hid (show w8_NAX_0.frozen? ⟨WB.heap.size, 0, none⟩ = false ∧ w8_NAX_0.frozen? ⟨WB.heap.size, 1, none⟩ = false ∧ w8_NAX_0.cell? ⟨WB.heap.size, 0, none⟩ = some (.slice none 0 0) ∧ w8_NAX_0.cell? ⟨WB.heap.size, 1, none⟩ = some (.slice none 0 0) from ⟨bn_NAX_0.out.frozen 0, bn_NAX_0.out.frozen 1, by rw [bn_NAX_0.out.cell]; rfl, by rw [bn_NAX_0.out.cell]; rfl⟩)
          have bl_NXA := Lib.hid (show Below WB.heap.size WB (((WB.alloc (.cells #[.slice none 0 0, .slice none 0 0] 44)).alloc (.cells #[.slice A6 n6 c6] 27)).alloc (.cells #[] 27)).drew from ((((Below.refl WB.heap.size WB).alloc ((Below.refl WB.heap.size WB)).size _).alloc (((Below.refl WB.heap.size WB).alloc ((Below.refl WB.heap.size WB)).size _)).size _).alloc ((((Below.refl WB.heap.size WB).alloc ((Below.refl WB.heap.size WB)).size _).alloc (((Below.refl WB.heap.size WB).alloc ((Below.refl WB.heap.size WB)).size _)).size _)).size _).drew)
          have ba_NXA := Lib.hid (show Blk (((WB.alloc (.cells #[.slice none 0 0, .slice none 0 0] 44)).alloc (.cells #[.slice A6 n6 c6] 27)).alloc (.cells #[] 27)).drew (WB.heap.size + 2) 27 #[] from (Blk.new2 WB (.cells #[.slice none 0 0, .slice none 0 0] 44) (.cells #[.slice A6 n6 c6] 27) 27 #[]))
          obtain ⟨v_NXA, w_NXA, r1_NXA, l1_NXA, b1_NXA, z1_NXA, k1_NXA⟩ := lap1 (P := Try.prog) (w0 := w) (WB := WB) 28 28 27 i0 Try.underlying28 HI.out HZ0.out HZ1.out HZ2.out (gJ + 1) (.slice Al rs.length cl) rs HLB.out HFW.out (W := (((WB.alloc (.cells #[.slice none 0 0, .slice none 0 0] 44)).alloc (.cells #[.slice A6 n6 c6] 27)).alloc (.cells #[] 27)).drew) (gl := WB.heap.size + 2) bl_NXA.out ba_NXA.out (by omega)
          have Hr1_NXA := Lib.hid r1_NXA
          have Hl1_NXA := Lib.hid l1_NXA
          have Hb1_NXA := Lib.hid b1_NXA
          have Hz1_NXA := Lib.hid z1_NXA
          have Hk1_NXA := Lib.hid k1_NXA
          clear r1_NXA l1_NXA b1_NXA z1_NXA k1_NXA
          have bx_NXA := Lib.hid (show Blk w_NXA (WB.heap.size + 1) 27 #[.slice A6 n6 c6] from (Hk1_NXA.out _ (by simp; try omega) (by omega)).trans ((Blk.new1 WB (.cells #[.slice none 0 0, .slice none 0 0] 44) 27 #[.slice A6 n6 c6]).al _))
          have bn_NXA := Lib.hid (show Blk w_NXA (WB.heap.size) 44 #[.slice none 0 0, .slice none 0 0] from (Hk1_NXA.out _ (by simp; try omega) (by omega)).trans (((Blk.new WB 44 #[.slice none 0 0, .slice none 0 0]).al _).al _))
          have bl_NXA_0 := Lib.hid (show Below WB.heap.size WB w_NXA from Hb1_NXA.out)
          have bx_NXA_0 := Lib.hid (show Blk w_NXA (WB.heap.size + 1) 27 #[.slice A6 n6 c6] from bx_NXA.out)
          have ll_NXA_0 := Lib.hid (show LsO w w_NXA WB.heap.size 27 v_NXA rs from Hl1_NXA.out)
          obtain ⟨v8_NXA_0, w8_NXA_0, r8_NXA_0, l8_NXA_0, b8_NXA_0, z8_NXA_0, g8_NXA_0⟩ := lap2 (P := Try.prog) (w0 := w) (WB := WB) 28 28 27 i0 Try.underlying28 HI.out HZ0.out HZ1.out HZ2.out rs HFW.out (W := w_NXA) (gx := WB.heap.size + 1) (v2 := v_NXA) (u := .slice A6 n6 c6) (x := x) HXV.out ll_NXA_0.out bl_NXA_0.out bx_NXA_0.out
          obtain ⟨va_NXA_0, vc_NXA_0, rfl, -⟩ := l8_NXA_0.shape
          rw [hlen] at r8_NXA_0 l8_NXA_0
          have Hr8_NXA_0 := Lib.hid r8_NXA_0
          have Hl8_NXA_0 := Lib.hid l8_NXA_0
          have Hb8_NXA_0 := Lib.hid b8_NXA_0
          have Hz8_NXA_0 := Lib.hid z8_NXA_0
          have Hg8_NXA_0 := Lib.hid g8_NXA_0
          clear r8_NXA_0 l8_NXA_0 b8_NXA_0 z8_NXA_0 g8_NXA_0
          have bn_NXA_0 := Lib.hid (show Blk w8_NXA_0 (WB.heap.size) 44 #[.slice none 0 0, .slice none 0 0] from blk_grown (show Blk w_NXA (WB.heap.size) _ _ from bn_NXA.out) Hg8_NXA_0.out ll_NXA_0.out (by decide))
          have hf_NXA_0 := Lib.hid (show w8_NXA_0.frozen? ⟨WB.heap.size, 0, none⟩ = false ∧ w8_NXA_0.frozen? ⟨WB.heap.size, 1, none⟩ = false ∧ w8_NXA_0.cell? ⟨WB.heap.size, 0, none⟩ = some (.slice none 0 0) ∧ w8_NXA_0.cell? ⟨WB.heap.size, 1, none⟩ = some (.slice none 0 0) from ⟨bn_NXA_0.out.frozen 0, bn_NXA_0.out.frozen 1, by rw [bn_NXA_0.out.cell]; rfl, by rw [bn_NXA_0.out.cell]; rfl⟩)
          have bl_X := Lib.hid (show Below WB.heap.size WB (WB.alloc (.cells #[.slice A6 n6 c6] 27)).drew from ((Below.refl WB.heap.size WB).alloc ((Below.refl WB.heap.size WB)).size _).drew)
          have bl_N := Lib.hid (show Below WB.heap.size WB (WB.alloc (.cells #[.slice none 0 0, .slice none 0 0] 44)).drew from ((Below.refl WB.heap.size WB).alloc ((Below.refl WB.heap.size WB)).size _).drew)
          have bl_XN := Lib.hid (show Below WB.heap.size WB ((WB.alloc (.cells #[.slice A6 n6 c6] 27)).alloc (.cells #[.slice none 0 0, .slice none 0 0] 44)).drew from (((Below.refl WB.heap.size WB).alloc ((Below.refl WB.heap.size WB)).size _).alloc (((Below.refl WB.heap.size WB).alloc ((Below.refl WB.heap.size WB)).size _)).size _).drew)
          have bl_NX := Lib.hid (show Below WB.heap.size WB ((WB.alloc (.cells #[.slice none 0 0, .slice none 0 0] 44)).alloc (.cells #[.slice A6 n6 c6] 27)).drew from (((Below.refl WB.heap.size WB).alloc ((Below.refl WB.heap.size WB)).size _).alloc (((Below.refl WB.heap.size WB).alloc ((Below.refl WB.heap.size WB)).size _)).size _).drew)
          have zz_NXA : WB.heap.size ≤ w_NXA.heap.size := Hb1_NXA.out.size
          have zz_NAX : WB.heap.size ≤ w_NAX.heap.size := Hb1_NAX.out.size
          have zz_XNA : WB.heap.size ≤ w_XNA.heap.size := Hb1_XNA.out.size
          have zz_XAN : WB.heap.size ≤ w_XAN.heap.size := Hb1_XAN.out.size
          have zz_ANX : WB.heap.size ≤ w_ANX.heap.size := Hb1_ANX.out.size
          have zz_AXN : WB.heap.size ≤ w_AXN.heap.size := Hb1_AXN.out.size
          have zz_NA : WB.heap.size ≤ w_NA.heap.size := Hb1_NA.out.size
          have zz_XA : WB.heap.size ≤ w_XA.heap.size := Hb1_XA.out.size
          have zz_AN : WB.heap.size ≤ w_AN.heap.size := Hb1_AN.out.size
          have zz_AX : WB.heap.size ≤ w_AX.heap.size := Hb1_AX.out.size
          have zz_A : WB.heap.size ≤ w_A.heap.size := Hb1_A.out.size
          have BLS := Lib.hid (And.intro bl_A.out (And.intro bl_X.out (And.intro bl_N.out (And.intro bl_AX.out (And.intro bl_AN.out (And.intro bl_XA.out (And.intro bl_XN.out (And.intro bl_NA.out (And.intro bl_NX.out (And.intro bl_AXN.out (And.intro bl_ANX.out (And.intro bl_XAN.out (And.intro bl_XNA.out (And.intro bl_NAX.out bl_NXA.out))))))))))))))
          have RUNS := Lib.hid (And.intro Hr1_A.out (And.intro Hr1_AX.out (And.intro Hr1_AN.out (And.intro Hr1_XA.out (And.intro Hr1_NA.out (And.intro Hr1_AXN.out (And.intro Hr1_ANX.out (And.intro Hr1_XAN.out (And.intro Hr1_XNA.out (And.intro Hr1_NAX.out (And.intro Hr1_NXA.out (And.intro Hr8_A_X.out (And.intro Hr8_A_XN.out (And.intro Hr8_A_NX.out (And.intro Hr8_AX_0.out (And.intro Hr8_AX_N.out (And.intro Hr8_AN_X.out (And.intro Hr8_XA_0.out (And.intro Hr8_XA_N.out (And.intro Hr8_NA_X.out (And.intro Hr8_AXN_0.out (And.intro Hr8_ANX_0.out (And.intro Hr8_XAN_0.out (And.intro Hr8_XNA_0.out (And.intro Hr8_NAX_0.out Hr8_NXA_0.out)))))))))))))))))))))))))
          have BELS := Lib.hid (And.intro Hb1_A.out (And.intro Hb1_AX.out (And.intro Hb1_AN.out (And.intro Hb1_XA.out (And.intro Hb1_NA.out (And.intro Hb1_AXN.out (And.intro Hb1_ANX.out (And.intro Hb1_XAN.out (And.intro Hb1_XNA.out (And.intro Hb1_NAX.out (And.intro Hb1_NXA.out (And.intro Hb8_A_X.out (And.intro Hb8_A_XN.out (And.intro Hb8_A_NX.out (And.intro Hb8_AX_0.out (And.intro Hb8_AX_N.out (And.intro Hb8_AN_X.out (And.intro Hb8_XA_0.out (And.intro Hb8_XA_N.out (And.intro Hb8_NA_X.out (And.intro Hb8_AXN_0.out (And.intro Hb8_ANX_0.out (And.intro Hb8_XAN_0.out (And.intro Hb8_XNA_0.out (And.intro Hb8_NAX_0.out Hb8_NXA_0.out)))))))))))))))))))))))))
          have LSS := Lib.hid (And.intro Hl8_A_X.out (And.intro Hl8_A_XN.out (And.intro Hl8_A_NX.out (And.intro Hl8_AX_0.out (And.intro Hl8_AX_N.out (And.intro Hl8_AN_X.out (And.intro Hl8_XA_0.out (And.intro Hl8_XA_N.out (And.intro Hl8_NA_X.out (And.intro Hl8_AXN_0.out (And.intro Hl8_ANX_0.out (And.intro Hl8_XAN_0.out (And.intro Hl8_XNA_0.out (And.intro Hl8_NAX_0.out Hl8_NXA_0.out))))))))))))))
          have HFS := Lib.hid (And.intro hf_A_XN.out (And.intro hf_A_NX.out (And.intro hf_AX_N.out (And.intro hf_AN_X.out (And.intro hf_XA_N.out (And.intro hf_NA_X.out (And.intro hf_AXN_0.out (And.intro hf_ANX_0.out (And.intro hf_XAN_0.out (And.intro hf_XNA_0.out (And.intro hf_NAX_0.out hf_NXA_0.out)))))))))))
          have BNS := Lib.hid (And.intro bn_A_XN.out (And.intro bn_A_NX.out (And.intro bn_AX_N.out (And.intro bn_AN_X.out (And.intro bn_XA_N.out (And.intro bn_NA_X.out (And.intro bn_AXN_0.out (And.intro bn_ANX_0.out (And.intro bn_XAN_0.out (And.intro bn_XNA_0.out (And.intro bn_NAX_0.out bn_NXA_0.out)))))))))))
          clear bl_A ba_A Hr1_A Hl1_A Hb1_A Hz1_A Hk1_A bl_AX ba_AX Hr1_AX Hl1_AX Hb1_AX Hz1_AX Hk1_AX bx_AX bl_AN ba_AN Hr1_AN Hl1_AN Hb1_AN Hz1_AN Hk1_AN bn_AN bl_XA ba_XA Hr1_XA Hl1_XA Hb1_XA Hz1_XA Hk1_XA bx_XA bl_NA ba_NA Hr1_NA Hl1_NA Hb1_NA Hz1_NA Hk1_NA bn_NA bl_AXN ba_AXN Hr1_AXN Hl1_AXN Hb1_AXN Hz1_AXN Hk1_AXN bx_AXN bn_AXN bl_ANX ba_ANX Hr1_ANX Hl1_ANX Hb1_ANX Hz1_ANX Hk1_ANX bx_ANX bn_ANX bl_XAN ba_XAN Hr1_XAN Hl1_XAN Hb1_XAN Hz1_XAN Hk1_XAN bx_XAN bn_XAN bl_XNA ba_XNA Hr1_XNA Hl1_XNA Hb1_XNA Hz1_XNA Hk1_XNA bx_XNA bn_XNA bl_NAX ba_NAX Hr1_NAX Hl1_NAX Hb1_NAX Hz1_NAX Hk1_NAX bx_NAX bn_NAX bl_NXA ba_NXA Hr1_NXA Hl1_NXA Hb1_NXA Hz1_NXA Hk1_NXA bx_NXA bn_NXA bl_A_X bx_A_X ll_A_X Hr8_A_X Hl8_A_X Hb8_A_X Hz8_A_X Hg8_A_X bl_A_XN bx_A_XN ll_A_XN Hr8_A_XN Hl8_A_XN Hb8_A_XN Hz8_A_XN Hg8_A_XN bn_A_XN hf_A_XN bl_A_NX bx_A_NX ll_A_NX Hr8_A_NX Hl8_A_NX Hb8_A_NX Hz8_A_NX Hg8_A_NX bn_A_NX hf_A_NX bl_AX_0 bx_AX_0 ll_AX_0 Hr8_AX_0 Hl8_AX_0 Hb8_AX_0 Hz8_AX_0 Hg8_AX_0 bl_AX_N bx_AX_N ll_AX_N Hr8_AX_N Hl8_AX_N Hb8_AX_N Hz8_AX_N Hg8_AX_N bn_AX_N hf_AX_N bl_AN_X bx_AN_X ll_AN_X Hr8_AN_X Hl8_AN_X Hb8_AN_X Hz8_AN_X Hg8_AN_X bn_AN_X hf_AN_X bl_XA_0 bx_XA_0 ll_XA_0 Hr8_XA_0 Hl8_XA_0 Hb8_XA_0 Hz8_XA_0 Hg8_XA_0 bl_XA_N bx_XA_N ll_XA_N Hr8_XA_N Hl8_XA_N Hb8_XA_N Hz8_XA_N Hg8_XA_N bn_XA_N hf_XA_N bl_NA_X bx_NA_X ll_NA_X Hr8_NA_X Hl8_NA_X Hb8_NA_X Hz8_NA_X Hg8_NA_X bn_NA_X hf_NA_X bl_AXN_0 bx_AXN_0 ll_AXN_0 Hr8_AXN_0 Hl8_AXN_0 Hb8_AXN_0 Hz8_AXN_0 Hg8_AXN_0 bn_AXN_0 hf_AXN_0 bl_ANX_0 bx_ANX_0 ll_ANX_0 Hr8_ANX_0 Hl8_ANX_0 Hb8_ANX_0 Hz8_ANX_0 Hg8_ANX_0 bn_ANX_0 hf_ANX_0 bl_XAN_0 bx_XAN_0 ll_XAN_0 Hr8_XAN_0 Hl8_XAN_0 Hb8_XAN_0 Hz8_XAN_0 Hg8_XAN_0 bn_XAN_0 hf_XAN_0 bl_XNA_0 bx_XNA_0 ll_XNA_0 Hr8_XNA_0 Hl8_XNA_0 Hb8_XNA_0 Hz8_XNA_0 Hg8_XNA_0 bn_XNA_0 hf_XNA_0 bl_NAX_0 bx_NAX_0 ll_NAX_0 Hr8_NAX_0 Hl8_NAX_0 Hb8_NAX_0 Hz8_NAX_0 Hg8_NAX_0 bn_NAX_0 hf_NAX_0 bl_NXA_0 bx_NXA_0 ll_NXA_0 Hr8_NXA_0 Hl8_NXA_0 Hb8_NXA_0 Hz8_NXA_0 Hg8_NXA_0 bn_NXA_0 hf_NXA_0 hlen bl_X bl_N bl_XN bl_NX
          go_cut [22] from 57 to 110 (fun s22 wx => ∃ gn l8, s22 = .pointer (some ⟨gn, 0, none⟩) ∧ Blk wx gn 44 #[.slice Au nu cu, l8] ∧ LsO w wx (gJ + 1) 27 l8 (rs ++ [x]) ∧ Below WB.heap.size WB wx ∧ WB.heap.size ≤ gn)
          case first =>
            go_region_held3 (fun w' => w'.cell? ⟨wr.heap.size, 1, none⟩ = some (.slice A6 n6 c6) ∧ w'.cell? ⟨wr.heap.size + 1, 0, none⟩ = some (.slice Au nu cu) ∧ w'.cell? ⟨wr.heap.size + 1, 1, none⟩ = some (.slice Al rs.length cl) ∧ Below WB.heap.size WB w')
              (first
                | assumption
                | with_reducible exact KEEP.out _ BR0.out.drew
                | with_reducible exact KEEP.out _ ((PB.out _ (by assumption)).alloc (PB.out _ (by assumption)).size _)
                | with_reducible exact KEEP.out _ (PB.out _ (by assumption)).drew
                | with_reducible exact KEEP.out _ BLS.out.1
                | with_reducible exact KEEP.out _ BLS.out.2.1
                | with_reducible exact KEEP.out _ BLS.out.2.2.1
                | with_reducible exact KEEP.out _ BLS.out.2.2.2.1
                | with_reducible exact KEEP.out _ BLS.out.2.2.2.2.1
                | with_reducible exact KEEP.out _ BLS.out.2.2.2.2.2.1
                | with_reducible exact KEEP.out _ BLS.out.2.2.2.2.2.2.1
                | with_reducible exact KEEP.out _ BLS.out.2.2.2.2.2.2.2.1
                | with_reducible exact KEEP.out _ BLS.out.2.2.2.2.2.2.2.2.1
                | with_reducible exact KEEP.out _ BLS.out.2.2.2.2.2.2.2.2.2.1
                | with_reducible exact KEEP.out _ BLS.out.2.2.2.2.2.2.2.2.2.2.1
                | with_reducible exact KEEP.out _ BLS.out.2.2.2.2.2.2.2.2.2.2.2.1
                | with_reducible exact KEEP.out _ BLS.out.2.2.2.2.2.2.2.2.2.2.2.2.1
                | with_reducible exact KEEP.out _ BLS.out.2.2.2.2.2.2.2.2.2.2.2.2.2.1
                | with_reducible exact KEEP.out _ BLS.out.2.2.2.2.2.2.2.2.2.2.2.2.2.2
                | with_reducible exact KEEP.out _ BELS.out.1
                | with_reducible exact KEEP.out _ BELS.out.2.2.2.2.2.2.2.2.2.2.2.1
                | with_reducible exact KEEP.out _ BELS.out.2.2.2.2.2.2.2.2.2.2.2.2.1
                | with_reducible exact KEEP.out _ BELS.out.2.2.2.2.2.2.2.2.2.2.2.2.2.1
                | with_reducible exact KEEP.out _ BELS.out.2.1
                | with_reducible exact KEEP.out _ BELS.out.2.2.2.2.2.2.2.2.2.2.2.2.2.2.1
                | with_reducible exact KEEP.out _ BELS.out.2.2.2.2.2.2.2.2.2.2.2.2.2.2.2.1
                | with_reducible exact KEEP.out _ BELS.out.2.2.1
                | with_reducible exact KEEP.out _ BELS.out.2.2.2.2.2.2.2.2.2.2.2.2.2.2.2.2.1
                | with_reducible exact KEEP.out _ BELS.out.2.2.2.1
                | with_reducible exact KEEP.out _ BELS.out.2.2.2.2.2.2.2.2.2.2.2.2.2.2.2.2.2.1
                | with_reducible exact KEEP.out _ BELS.out.2.2.2.2.2.2.2.2.2.2.2.2.2.2.2.2.2.2.1
                | with_reducible exact KEEP.out _ BELS.out.2.2.2.2.1
                | with_reducible exact KEEP.out _ BELS.out.2.2.2.2.2.2.2.2.2.2.2.2.2.2.2.2.2.2.2.1
                | with_reducible exact KEEP.out _ BELS.out.2.2.2.2.2.1
                | with_reducible exact KEEP.out _ BELS.out.2.2.2.2.2.2.2.2.2.2.2.2.2.2.2.2.2.2.2.2.1
                | with_reducible exact KEEP.out _ BELS.out.2.2.2.2.2.2.1
                | with_reducible exact KEEP.out _ BELS.out.2.2.2.2.2.2.2.2.2.2.2.2.2.2.2.2.2.2.2.2.2.1
                | with_reducible exact KEEP.out _ BELS.out.2.2.2.2.2.2.2.1
                | with_reducible exact KEEP.out _ BELS.out.2.2.2.2.2.2.2.2.2.2.2.2.2.2.2.2.2.2.2.2.2.2.1
                | with_reducible exact KEEP.out _ BELS.out.2.2.2.2.2.2.2.2.1
                | with_reducible exact KEEP.out _ BELS.out.2.2.2.2.2.2.2.2.2.2.2.2.2.2.2.2.2.2.2.2.2.2.2.1
                | with_reducible exact KEEP.out _ BELS.out.2.2.2.2.2.2.2.2.2.1
                | with_reducible exact KEEP.out _ BELS.out.2.2.2.2.2.2.2.2.2.2.2.2.2.2.2.2.2.2.2.2.2.2.2.2.1
                | with_reducible exact KEEP.out _ BELS.out.2.2.2.2.2.2.2.2.2.2.1
                | with_reducible exact KEEP.out _ BELS.out.2.2.2.2.2.2.2.2.2.2.2.2.2.2.2.2.2.2.2.2.2.2.2.2.2
                | with_reducible exact KEEP.out _ (fin_all BELS.out.2.2.2.2.2.2.2.2.2.2.2.1)
                | with_reducible exact KEEP.out _ (fin_set BELS.out.2.2.2.2.2.2.2.2.2.2.2.2.1 (by omega))
                | with_reducible exact KEEP.out _ (fin_set BELS.out.2.2.2.2.2.2.2.2.2.2.2.2.2.1 (by omega))
                | with_reducible exact KEEP.out _ (fin_all BELS.out.2.2.2.2.2.2.2.2.2.2.2.2.2.2.1)
                | with_reducible exact KEEP.out _ (fin_set BELS.out.2.2.2.2.2.2.2.2.2.2.2.2.2.2.2.1 (by omega))
                | with_reducible exact KEEP.out _ (fin_set BELS.out.2.2.2.2.2.2.2.2.2.2.2.2.2.2.2.2.1 (by omega))
                | with_reducible exact KEEP.out _ (fin_all BELS.out.2.2.2.2.2.2.2.2.2.2.2.2.2.2.2.2.2.1)
                | with_reducible exact KEEP.out _ (fin_set BELS.out.2.2.2.2.2.2.2.2.2.2.2.2.2.2.2.2.2.2.1 (by omega))
                | with_reducible exact KEEP.out _ (fin_set BELS.out.2.2.2.2.2.2.2.2.2.2.2.2.2.2.2.2.2.2.2.1 (by omega))
                | with_reducible exact KEEP.out _ (fin_set BELS.out.2.2.2.2.2.2.2.2.2.2.2.2.2.2.2.2.2.2.2.2.1 (by omega))
                | with_reducible exact KEEP.out _ (fin_set BELS.out.2.2.2.2.2.2.2.2.2.2.2.2.2.2.2.2.2.2.2.2.2.1 (by omega))
                | with_reducible exact KEEP.out _ (fin_set BELS.out.2.2.2.2.2.2.2.2.2.2.2.2.2.2.2.2.2.2.2.2.2.2.1 (by omega))
                | with_reducible exact KEEP.out _ (fin_set BELS.out.2.2.2.2.2.2.2.2.2.2.2.2.2.2.2.2.2.2.2.2.2.2.2.1 (by omega))
                | with_reducible exact KEEP.out _ (fin_set BELS.out.2.2.2.2.2.2.2.2.2.2.2.2.2.2.2.2.2.2.2.2.2.2.2.2.1 (by omega))
                | with_reducible exact KEEP.out _ (fin_set BELS.out.2.2.2.2.2.2.2.2.2.2.2.2.2.2.2.2.2.2.2.2.2.2.2.2.2 (by omega)))
              (first
                | (with_reducible refine step_append_run rfl (.tmp 77) (.tmp 79) 28 rfl (.slice (some ⟨WB.heap.size, 0, none⟩) 0 0) (.slice Al rs.length cl) rfl rfl _ _ RUNS.out.1 ?_)
                | (with_reducible refine step_append_run rfl (.tmp 80) (.tmp 83) 28 rfl v_A (.slice (some ⟨w_A.heap.size, 0, none⟩) 1 1) rfl rfl _ _ RUNS.out.2.2.2.2.2.2.2.2.2.2.2.1 ?_)
                | (with_reducible refine step_append_run rfl (.tmp 80) (.tmp 83) 28 rfl v_A (.slice (some ⟨w_A.heap.size, 0, none⟩) 1 1) rfl rfl _ _ RUNS.out.2.2.2.2.2.2.2.2.2.2.2.2.1 ?_; obtain ⟨f0, f1, d0, d1⟩ := HFS.out.1)
                | (with_reducible refine step_append_run rfl (.tmp 80) (.tmp 83) 28 rfl v_A (.slice (some ⟨w_A.heap.size + 1, 0, none⟩) 1 1) rfl rfl _ _ RUNS.out.2.2.2.2.2.2.2.2.2.2.2.2.2.1 ?_; obtain ⟨f0, f1, d0, d1⟩ := HFS.out.2.1)
                | (with_reducible refine step_append_run rfl (.tmp 77) (.tmp 79) 28 rfl (.slice (some ⟨WB.heap.size, 0, none⟩) 0 0) (.slice Al rs.length cl) rfl rfl _ _ RUNS.out.2.1 ?_)
                | (with_reducible refine step_append_run rfl (.tmp 80) (.tmp 83) 28 rfl v_AX (.slice (some ⟨WB.heap.size + 1, 0, none⟩) 1 1) rfl rfl _ _ RUNS.out.2.2.2.2.2.2.2.2.2.2.2.2.2.2.1 ?_)
                | (with_reducible refine step_append_run rfl (.tmp 80) (.tmp 83) 28 rfl v_AX (.slice (some ⟨WB.heap.size + 1, 0, none⟩) 1 1) rfl rfl _ _ RUNS.out.2.2.2.2.2.2.2.2.2.2.2.2.2.2.2.1 ?_; obtain ⟨f0, f1, d0, d1⟩ := HFS.out.2.2.1)
                | (with_reducible refine step_append_run rfl (.tmp 77) (.tmp 79) 28 rfl (.slice (some ⟨WB.heap.size, 0, none⟩) 0 0) (.slice Al rs.length cl) rfl rfl _ _ RUNS.out.2.2.1 ?_)
                | (with_reducible refine step_append_run rfl (.tmp 80) (.tmp 83) 28 rfl v_AN (.slice (some ⟨w_AN.heap.size, 0, none⟩) 1 1) rfl rfl _ _ RUNS.out.2.2.2.2.2.2.2.2.2.2.2.2.2.2.2.2.1 ?_; obtain ⟨f0, f1, d0, d1⟩ := HFS.out.2.2.2.1)
                | (with_reducible refine step_append_run rfl (.tmp 77) (.tmp 79) 28 rfl (.slice (some ⟨WB.heap.size + 1, 0, none⟩) 0 0) (.slice Al rs.length cl) rfl rfl _ _ RUNS.out.2.2.2.1 ?_)
                | (with_reducible refine step_append_run rfl (.tmp 80) (.tmp 83) 28 rfl v_XA (.slice (some ⟨WB.heap.size, 0, none⟩) 1 1) rfl rfl _ _ RUNS.out.2.2.2.2.2.2.2.2.2.2.2.2.2.2.2.2.2.1 ?_)
                | (with_reducible refine step_append_run rfl (.tmp 80) (.tmp 83) 28 rfl v_XA (.slice (some ⟨WB.heap.size, 0, none⟩) 1 1) rfl rfl _ _ RUNS.out.2.2.2.2.2.2.2.2.2.2.2.2.2.2.2.2.2.2.1 ?_; obtain ⟨f0, f1, d0, d1⟩ := HFS.out.2.2.2.2.1)
                | (with_reducible refine step_append_run rfl (.tmp 77) (.tmp 79) 28 rfl (.slice (some ⟨WB.heap.size + 1, 0, none⟩) 0 0) (.slice Al rs.length cl) rfl rfl _ _ RUNS.out.2.2.2.2.1 ?_)
                | (with_reducible refine step_append_run rfl (.tmp 80) (.tmp 83) 28 rfl v_NA (.slice (some ⟨w_NA.heap.size, 0, none⟩) 1 1) rfl rfl _ _ RUNS.out.2.2.2.2.2.2.2.2.2.2.2.2.2.2.2.2.2.2.2.1 ?_; obtain ⟨f0, f1, d0, d1⟩ := HFS.out.2.2.2.2.2.1)
                | (with_reducible refine step_append_run rfl (.tmp 77) (.tmp 79) 28 rfl (.slice (some ⟨WB.heap.size, 0, none⟩) 0 0) (.slice Al rs.length cl) rfl rfl _ _ RUNS.out.2.2.2.2.2.1 ?_)
                | (with_reducible refine step_append_run rfl (.tmp 80) (.tmp 83) 28 rfl v_AXN (.slice (some ⟨WB.heap.size + 1, 0, none⟩) 1 1) rfl rfl _ _ RUNS.out.2.2.2.2.2.2.2.2.2.2.2.2.2.2.2.2.2.2.2.2.1 ?_; obtain ⟨f0, f1, d0, d1⟩ := HFS.out.2.2.2.2.2.2.1)
                | (with_reducible refine step_append_run rfl (.tmp 77) (.tmp 79) 28 rfl (.slice (some ⟨WB.heap.size, 0, none⟩) 0 0) (.slice Al rs.length cl) rfl rfl _ _ RUNS.out.2.2.2.2.2.2.1 ?_)
                | (with_reducible refine step_append_run rfl (.tmp 80) (.tmp 83) 28 rfl v_ANX (.slice (some ⟨WB.heap.size + 2, 0, none⟩) 1 1) rfl rfl _ _ RUNS.out.2.2.2.2.2.2.2.2.2.2.2.2.2.2.2.2.2.2.2.2.2.1 ?_; obtain ⟨f0, f1, d0, d1⟩ := HFS.out.2.2.2.2.2.2.2.1)
                | (with_reducible refine step_append_run rfl (.tmp 77) (.tmp 79) 28 rfl (.slice (some ⟨WB.heap.size + 1, 0, none⟩) 0 0) (.slice Al rs.length cl) rfl rfl _ _ RUNS.out.2.2.2.2.2.2.2.1 ?_)
                | (with_reducible refine step_append_run rfl (.tmp 80) (.tmp 83) 28 rfl v_XAN (.slice (some ⟨WB.heap.size, 0, none⟩) 1 1) rfl rfl _ _ RUNS.out.2.2.2.2.2.2.2.2.2.2.2.2.2.2.2.2.2.2.2.2.2.2.1 ?_; obtain ⟨f0, f1, d0, d1⟩ := HFS.out.2.2.2.2.2.2.2.2.1)
                | (with_reducible refine step_append_run rfl (.tmp 77) (.tmp 79) 28 rfl (.slice (some ⟨WB.heap.size + 2, 0, none⟩) 0 0) (.slice Al rs.length cl) rfl rfl _ _ RUNS.out.2.2.2.2.2.2.2.2.1 ?_)
                | (with_reducible refine step_append_run rfl (.tmp 80) (.tmp 83) 28 rfl v_XNA (.slice (some ⟨WB.heap.size, 0, none⟩) 1 1) rfl rfl _ _ RUNS.out.2.2.2.2.2.2.2.2.2.2.2.2.2.2.2.2.2.2.2.2.2.2.2.1 ?_; obtain ⟨f0, f1, d0, d1⟩ := HFS.out.2.2.2.2.2.2.2.2.2.1)
                | (with_reducible refine step_append_run rfl (.tmp 77) (.tmp 79) 28 rfl (.slice (some ⟨WB.heap.size + 1, 0, none⟩) 0 0) (.slice Al rs.length cl) rfl rfl _ _ RUNS.out.2.2.2.2.2.2.2.2.2.1 ?_)
                | (with_reducible refine step_append_run rfl (.tmp 80) (.tmp 83) 28 rfl v_NAX (.slice (some ⟨WB.heap.size + 2, 0, none⟩) 1 1) rfl rfl _ _ RUNS.out.2.2.2.2.2.2.2.2.2.2.2.2.2.2.2.2.2.2.2.2.2.2.2.2.1 ?_; obtain ⟨f0, f1, d0, d1⟩ := HFS.out.2.2.2.2.2.2.2.2.2.2.1)
                | (with_reducible refine step_append_run rfl (.tmp 77) (.tmp 79) 28 rfl (.slice (some ⟨WB.heap.size + 2, 0, none⟩) 0 0) (.slice Al rs.length cl) rfl rfl _ _ RUNS.out.2.2.2.2.2.2.2.2.2.2.1 ?_)
                | (with_reducible refine step_append_run rfl (.tmp 80) (.tmp 83) 28 rfl v_NXA (.slice (some ⟨WB.heap.size + 1, 0, none⟩) 1 1) rfl rfl _ _ RUNS.out.2.2.2.2.2.2.2.2.2.2.2.2.2.2.2.2.2.2.2.2.2.2.2.2.2 ?_; obtain ⟨f0, f1, d0, d1⟩ := HFS.out.2.2.2.2.2.2.2.2.2.2.2))
            · go_wp2_with fail
              go_meet
              exact ⟨w8_A_X.heap.size, .slice va_A_X (rs.length + 1) vc_A_X, rfl, Blk.new _ _ _, ((LSS.out.1.alloc _).lower (by omega)), fin_all BELS.out.2.2.2.2.2.2.2.2.2.2.2.1, BELS.out.2.2.2.2.2.2.2.2.2.2.2.1.size⟩
            · go_wp2_with fail
              go_meet
              exact ⟨w_A.heap.size + 1, .slice va_A_XN (rs.length + 1) vc_A_XN, rfl, fin_blk BNS.out.1, ((fin_lso LSS.out.2.1 BNS.out.1 (by decide)).lower (by omega)), fin_set BELS.out.2.2.2.2.2.2.2.2.2.2.2.2.1 (by omega), by omega⟩
            · go_wp2_with fail
              go_meet
              exact ⟨w_A.heap.size, .slice va_A_NX (rs.length + 1) vc_A_NX, rfl, fin_blk BNS.out.2.1, ((fin_lso LSS.out.2.2.1 BNS.out.2.1 (by decide)).lower (by omega)), fin_set BELS.out.2.2.2.2.2.2.2.2.2.2.2.2.2.1 (by omega), by omega⟩
            · go_wp2_with fail
              go_meet
              exact ⟨w8_AX_0.heap.size, .slice va_AX_0 (rs.length + 1) vc_AX_0, rfl, Blk.new _ _ _, ((LSS.out.2.2.2.1.alloc _).lower (by omega)), fin_all BELS.out.2.2.2.2.2.2.2.2.2.2.2.2.2.2.1, BELS.out.2.2.2.2.2.2.2.2.2.2.2.2.2.2.1.size⟩
            · go_wp2_with fail
              go_meet
              exact ⟨w_AX.heap.size, .slice va_AX_N (rs.length + 1) vc_AX_N, rfl, fin_blk BNS.out.2.2.1, ((fin_lso LSS.out.2.2.2.2.1 BNS.out.2.2.1 (by decide)).lower (by omega)), fin_set BELS.out.2.2.2.2.2.2.2.2.2.2.2.2.2.2.2.1 (by omega), by omega⟩
            · go_wp2_with fail
              go_meet
              exact ⟨WB.heap.size + 2, .slice va_AXN_0 (rs.length + 1) vc_AXN_0, rfl, fin_blk BNS.out.2.2.2.2.2.2.1, ((fin_lso LSS.out.2.2.2.2.2.2.2.2.2.1 BNS.out.2.2.2.2.2.2.1 (by decide)).lower (by omega)), fin_set BELS.out.2.2.2.2.2.2.2.2.2.2.2.2.2.2.2.2.2.2.2.2.1 (by omega), by omega⟩
            · go_wp2_with fail
              go_meet
              exact ⟨WB.heap.size + 1, .slice va_AN_X (rs.length + 1) vc_AN_X, rfl, fin_blk BNS.out.2.2.2.1, ((fin_lso LSS.out.2.2.2.2.2.1 BNS.out.2.2.2.1 (by decide)).lower (by omega)), fin_set BELS.out.2.2.2.2.2.2.2.2.2.2.2.2.2.2.2.2.1 (by omega), by omega⟩
            · go_wp2_with fail
              go_meet
              exact ⟨WB.heap.size + 1, .slice va_ANX_0 (rs.length + 1) vc_ANX_0, rfl, fin_blk BNS.out.2.2.2.2.2.2.2.1, ((fin_lso LSS.out.2.2.2.2.2.2.2.2.2.2.1 BNS.out.2.2.2.2.2.2.2.1 (by decide)).lower (by omega)), fin_set BELS.out.2.2.2.2.2.2.2.2.2.2.2.2.2.2.2.2.2.2.2.2.2.1 (by omega), by omega⟩
            · go_wp2_with fail
              go_meet
              exact ⟨w8_XA_0.heap.size, .slice va_XA_0 (rs.length + 1) vc_XA_0, rfl, Blk.new _ _ _, ((LSS.out.2.2.2.2.2.2.1.alloc _).lower (by omega)), fin_all BELS.out.2.2.2.2.2.2.2.2.2.2.2.2.2.2.2.2.2.1, BELS.out.2.2.2.2.2.2.2.2.2.2.2.2.2.2.2.2.2.1.size⟩
            · go_wp2_with fail
              go_meet
              exact ⟨w_XA.heap.size, .slice va_XA_N (rs.length + 1) vc_XA_N, rfl, fin_blk BNS.out.2.2.2.2.1, ((fin_lso LSS.out.2.2.2.2.2.2.2.1 BNS.out.2.2.2.2.1 (by decide)).lower (by omega)), fin_set BELS.out.2.2.2.2.2.2.2.2.2.2.2.2.2.2.2.2.2.2.1 (by omega), by omega⟩
            · go_wp2_with fail
              go_meet
              exact ⟨WB.heap.size + 2, .slice va_XAN_0 (rs.length + 1) vc_XAN_0, rfl, fin_blk BNS.out.2.2.2.2.2.2.2.2.1, ((fin_lso LSS.out.2.2.2.2.2.2.2.2.2.2.2.1 BNS.out.2.2.2.2.2.2.2.2.1 (by decide)).lower (by omega)), fin_set BELS.out.2.2.2.2.2.2.2.2.2.2.2.2.2.2.2.2.2.2.2.2.2.2.1 (by omega), by omega⟩
            · go_wp2_with fail
              go_meet
              exact ⟨WB.heap.size + 1, .slice va_XNA_0 (rs.length + 1) vc_XNA_0, rfl, fin_blk BNS.out.2.2.2.2.2.2.2.2.2.1, ((fin_lso LSS.out.2.2.2.2.2.2.2.2.2.2.2.2.1 BNS.out.2.2.2.2.2.2.2.2.2.1 (by decide)).lower (by omega)), fin_set BELS.out.2.2.2.2.2.2.2.2.2.2.2.2.2.2.2.2.2.2.2.2.2.2.2.1 (by omega), by omega⟩
            · go_wp2_with fail
              go_meet
              exact ⟨WB.heap.size, .slice va_NA_X (rs.length + 1) vc_NA_X, rfl, fin_blk BNS.out.2.2.2.2.2.1, ((fin_lso LSS.out.2.2.2.2.2.2.2.2.1 BNS.out.2.2.2.2.2.1 (by decide)).lower (by omega)), fin_set BELS.out.2.2.2.2.2.2.2.2.2.2.2.2.2.2.2.2.2.2.2.1 (by omega), by omega⟩
            · go_wp2_with fail
              go_meet
              exact ⟨WB.heap.size, .slice va_NAX_0 (rs.length + 1) vc_NAX_0, rfl, fin_blk BNS.out.2.2.2.2.2.2.2.2.2.2.1, ((fin_lso LSS.out.2.2.2.2.2.2.2.2.2.2.2.2.2.1 BNS.out.2.2.2.2.2.2.2.2.2.2.1 (by decide)).lower (by omega)), fin_set BELS.out.2.2.2.2.2.2.2.2.2.2.2.2.2.2.2.2.2.2.2.2.2.2.2.2.1 (by omega), by omega⟩
            · go_wp2_with fail
              go_meet
              exact ⟨WB.heap.size, .slice va_NXA_0 (rs.length + 1) vc_NXA_0, rfl, fin_blk BNS.out.2.2.2.2.2.2.2.2.2.2.2, ((fin_lso LSS.out.2.2.2.2.2.2.2.2.2.2.2.2.2.2 BNS.out.2.2.2.2.2.2.2.2.2.2.2 (by decide)).lower (by omega)), fin_set BELS.out.2.2.2.2.2.2.2.2.2.2.2.2.2.2.2.2.2.2.2.2.2.2.2.2.2 (by omega), by omega⟩
          case rest =>
            obtain ⟨gn, l8, rfl, hbn, hl8, hbw, hgn⟩ := hcut
            obtain ⟨A8, c8, rfl, -⟩ := hl8.shape
            rw [show (rs ++ [x]).length = rs.length + 1 by simp] at hbn hl8
            have HBNC := Lib.hid hbn
            have HL8 := Lib.hid hl8
            have HBC := Lib.hid hbw
            have HGN := Lib.hid hgn
            have HGB := Lib.hid hgb
            have HX50 := Lib.hid (show x.length ≤ 50 by have := HN6.out; omega)
            clear hbn hl8 hbw hgn hgb
            cases bs' with
            | true =>
              have HBS := Lib.hid (show Below WB.heap.size WB ((wc.setCell ⟨gn, 0, none⟩ (.slice A6 n6 c6)).setCell ⟨gn, 1, none⟩ (.slice none 0 0)) from fin_set HBC.out HGN.out)
              have HBN := Lib.hid (show Blk ((wc.setCell ⟨gn, 0, none⟩ (.slice A6 n6 c6)).setCell ⟨gn, 1, none⟩ (.slice none 0 0)) gn 44 #[.slice A6 n6 c6, .slice none 0 0] from fin_blk HBNC.out)
              have HJW := Lib.hid ((HJN.out.fresh KB.out).fresh HBS.out)
              have HSW := Lib.hid ((HST.out.below KB.out).below HBS.out)
              have HBW := Lib.hid (HB.out.trans ((KB.out.trans (HBS.out.mono KB.out.size)).mono HB.out.size))
              have HAW := Lib.hid (BKA.out.below HBS.out BKA.out.lt)
              have q0 : wc.cell? ⟨wr.heap.size, 1, none⟩ = some (.slice A6 n6 c6) := by
                have h := HBC.out.cell (p := ⟨wr.heap.size, 1, none⟩) (by show wr.heap.size < WB.heap.size; have := WSZ.out; omega)
                rw [h, BKA.out.cell]; rfl
              have q00 : wc.cell? ⟨wr.heap.size, 0, none⟩ = some (.bool true) := by
                have h := HBC.out.cell (p := ⟨wr.heap.size, 0, none⟩) (by show wr.heap.size < WB.heap.size; have := WSZ.out; omega)
                rw [h, BKA.out.cell]; rfl
              have q1 : wc.frozen? ⟨gn, 0, none⟩ = false := HBNC.out.frozen 0
              have q2 : wc.frozen? ⟨gn, 1, none⟩ = false := HBNC.out.frozen 1
              have q3 : wc.cell? ⟨gn, 0, none⟩ = some (.slice Au nu cu) := by rw [HBNC.out.cell]; rfl
              have q4 : wc.cell? ⟨gn, 1, none⟩ = some (.slice A8 (rs.length + 1) c8) := by rw [HBNC.out.cell]; rfl
              have q5 : ((wc.setCell ⟨gn, 0, none⟩ (.slice A6 n6 c6)).setCell ⟨gn, 1, none⟩ (.slice none 0 0)).cell? ⟨wr.heap.size, 1, none⟩ = some (.slice A6 n6 c6) := by rw [HAW.out.cell]; rfl
              go_wp2_with fail
              refine (jreb_any gJ _ _ _ g rs.length S L t br _ x _ HJW.out (ST.out _ _ HXV.out _ HBW.out) (by have := HGI.out; omega)).mono ?_
              rintro e w4 ⟨z, S', L', t', g', n', br', rfl, hj4, ht4, hc4⟩
              have HBN4 := Lib.hid (ht4.blk HBN.out (fun h => by have h1 := HMB.out _ h; have h2 := HGN.out; have h3 := HGB.out; omega))
              have ST4 := Lib.hid (HSW.out.turns HMB.out ht4)
              have HB4 := Lib.hid (HBW.out.trans (ht4.below HML.out HBW.out.size))
              have r0 : w4.cell? ⟨gn, 0, none⟩ = some (.slice A6 n6 c6) := by rw [HBN4.out.cell]; rfl
              have r1 : w4.cell? ⟨gn, 1, none⟩ = some (.slice none 0 0) := by rw [HBN4.out.cell]; rfl
              clear ht4
              rcases hc4 with ⟨h1, _⟩ | ⟨h1, h2, rfl, rfl, rfl, h3⟩ | ⟨h1, rfl, rfl, rfl, rfl, h3⟩
              · exact absurd h1 (by have := HX50.out; omega)
              · have HJ4 := Lib.hid hj4
                have HZ := Lib.hid h3.ans
                have HJI4 := Lib.hid (HJI.out.bad h1 h3)
                have t7 : ((z : Int) == 0) = false := by have := HZ.out; simp; omega
                have t8 : ((z : Int) != 4) = true := by have := HZ.out; rw [bne_iff_ne]; omega
                clear hj4 h1 h2 h3
                by_cases z9 : z = 9
                · have t9 : ((z : Int) == 9) = true := by simp [z9]
                  clear z9
                  have A5 := Lib.hid (show Below w4.heap.size w4 (w4.alloc (.cells #[.slice A6 n6 c6, .slice none 0 0] 44)) from (Below.refl _ _).alloc (Nat.le_refl _) _)
                  have BK5 := Lib.hid (Blk.new w4 44 #[.slice A6 n6 c6, .slice none 0 0])
                  have HL5 := Lib.hid (show StO w (w4.alloc (.cells #[.slice A6 n6 c6, .slice none 0 0] 44)) (gJ + 1) 44 27 (.slice (some ⟨g18, 0, none⟩) sts.length cap18) sts from ST4.out.below A5.out)
                  have HU5 := Lib.hid (show Bts w w.heap.size (.slice A6 n6 c6) ((x, []) : StD).1 from HXV.out)
                  have HLL5 := Lib.hid (show LsO w (w4.alloc (.cells #[.slice A6 n6 c6, .slice none 0 0] 44)) (gJ + 1) 27 (.slice none 0 0) ((x, []) : StD).2 from LsO.nil_ _ _ _ _)
                  have HFE5 := Lib.hid (show sts.length + 1 ≤ 1000000 by have := HSL.out; omega)
                  have HBA5 := Lib.hid (show gJ + 1 ≤ (w4.alloc (.cells #[.slice A6 n6 c6, .slice none 0 0] 44)).heap.size by have h1 := HJ4.out.1.lt; simp; omega)
                  go_wp2_with (at_builtin; refine wpList_append_sto rfl (.tmp 105) (.tmp 107) 45 rfl (gJ + 1) 44 27 iS Try.underlying45 HIS.out HIS0.out HIS1.out HIS2.out (by decide) (.slice (some ⟨g18, 0, none⟩) sts.length cap18) sts rfl HL5.out w4.heap.size (.slice A6 n6 c6) (.slice none 0 0) ((x, [])) rfl BK5.out HU5.out HLL5.out HFE5.out HBA5.out ?_; intro v6 w6 HS6 HK6)
                  have HC6 := Lib.hid (show CrjAt w gJ (i + 1) v6 w6 from by
                    have hj5 := HJ4.out.fresh A5.out
                    have hk := HK6.out
                    refine ⟨S', L', t', g', nb, rs, xs, (x :: bs), true, sts ++ [(x, [])], Jnl.keep hj5 hk (by omega) (by omega) (by omega) (by omega), HJI4.out, (fun h => by cases h), by have := HGI.out; omega, HS6.out, HCA.out.reb x, by have := HSL.out; simp; omega, ?_⟩
                    exact (HB4.out.trans (A5.out.mono HB4.out.size)).trans (hk.mono (by omega)))
                  go_wp2_with fail
                  go_meet
                  exact ⟨i + 1, by omega, HC6.out⟩
                · have t9 : ((z : Int) == 9) = false := by simp; omega
                  clear z9
                  have A5 := Lib.hid (show Below w4.heap.size w4 (w4.alloc (.cells #[.slice A6 n6 c6, .slice none 0 0] 44)) from (Below.refl _ _).alloc (Nat.le_refl _) _)
                  have BK5 := Lib.hid (Blk.new w4 44 #[.slice A6 n6 c6, .slice none 0 0])
                  have HL5 := Lib.hid (show StO w (w4.alloc (.cells #[.slice A6 n6 c6, .slice none 0 0] 44)) (gJ + 1) 44 27 (.slice (some ⟨g18, 0, none⟩) sts.length cap18) sts from ST4.out.below A5.out)
                  have HU5 := Lib.hid (show Bts w w.heap.size (.slice A6 n6 c6) ((x, []) : StD).1 from HXV.out)
                  have HLL5 := Lib.hid (show LsO w (w4.alloc (.cells #[.slice A6 n6 c6, .slice none 0 0] 44)) (gJ + 1) 27 (.slice none 0 0) ((x, []) : StD).2 from LsO.nil_ _ _ _ _)
                  have HFE5 := Lib.hid (show sts.length + 1 ≤ 1000000 by have := HSL.out; omega)
                  have HBA5 := Lib.hid (show gJ + 1 ≤ (w4.alloc (.cells #[.slice A6 n6 c6, .slice none 0 0] 44)).heap.size by have h1 := HJ4.out.1.lt; simp; omega)
                  go_wp2_with (at_builtin; refine wpList_append_sto rfl (.tmp 105) (.tmp 107) 45 rfl (gJ + 1) 44 27 iS Try.underlying45 HIS.out HIS0.out HIS1.out HIS2.out (by decide) (.slice (some ⟨g18, 0, none⟩) sts.length cap18) sts rfl HL5.out w4.heap.size (.slice A6 n6 c6) (.slice none 0 0) ((x, [])) rfl BK5.out HU5.out HLL5.out HFE5.out HBA5.out ?_; intro v6 w6 HS6 HK6)
                  have HC6 := Lib.hid (show CrjAt w gJ (i + 1) v6 w6 from by
                    have hj5 := HJ4.out.fresh A5.out
                    have hk := HK6.out
                    refine ⟨S', L', t', g', nb, rs, xs, (x :: bs), true, sts ++ [(x, [])], Jnl.keep hj5 hk (by omega) (by omega) (by omega) (by omega), HJI4.out, (fun h => by cases h), by have := HGI.out; omega, HS6.out, HCA.out.reb x, by have := HSL.out; simp; omega, ?_⟩
                    exact (HB4.out.trans (A5.out.mono HB4.out.size)).trans (hk.mono (by omega)))
                  go_wp2_with fail
                  go_roundg (N - (i + 1))
                  case measure => omega
                  case rel => exact ⟨i + 1, by omega, by go_num, HC6.out⟩
              · have HJ4 := Lib.hid hj4
                have HJI4 := Lib.hid (HJI.out.good h1 (by have := HGI.out; omega) h3)
                clear hj4 h1 h3
                have A5 := Lib.hid (show Below w4.heap.size w4 (w4.alloc (.cells #[.slice A6 n6 c6, .slice none 0 0] 44)) from (Below.refl _ _).alloc (Nat.le_refl _) _)
                have HC5 := Lib.hid (show CrjAt w gJ (i + 1) (.slice (some ⟨w4.heap.size, 0, none⟩) 1 1) (w4.alloc (.cells #[.slice A6 n6 c6, .slice none 0 0] 44)) from by
                  refine ⟨S', L', t', (g + 1), x, [], [], [], false, [(x, [])], HJ4.out.fresh A5.out, HJI4.out, fun _ => rfl, by have := HGI.out; omega, StO.one (Blk.new w4 _ _) (by have h1 := HJ4.out.1.lt; omega) (HXV.out) (LsO.nil_ _ _ _ _), Cands.fresh _ _, by simp, ?_⟩
                  exact HB4.out.trans (A5.out.mono HB4.out.size))
                go_wp2_with fail
                go_roundg (N - (i + 1))
                case measure => omega
                case rel => exact ⟨i + 1, by omega, by go_num, HC5.out⟩
            | false =>
              have HBS := Lib.hid (show Below WB.heap.size WB wc from HBC.out)
              have HBN := Lib.hid (show Blk wc gn 44 #[.slice Au nu cu, .slice A8 (rs.length + 1) c8] from HBNC.out)
              have HJW := Lib.hid ((HJN.out.fresh KB.out).fresh HBS.out)
              have HSW := Lib.hid ((HST.out.below KB.out).below HBS.out)
              have HBW := Lib.hid (HB.out.trans ((KB.out.trans (HBS.out.mono KB.out.size)).mono HB.out.size))
              have HAW := Lib.hid (BKA.out.below HBS.out BKA.out.lt)
              have q00 : wc.cell? ⟨wr.heap.size, 0, none⟩ = some (.bool false) := by rw [HAW.out.cell]; rfl
              have q0 : wc.cell? ⟨wr.heap.size, 1, none⟩ = some (.slice A6 n6 c6) := by rw [HAW.out.cell]; rfl
              go_wp2_with fail
              refine (japp_any gJ _ _ _ g rs.length S L t br _ x w.heap.size wc HJW.out (HXV.out.below HBW.out) HBW.out.size (by have := HGI.out; omega) HFEW.out).mono ?_
              rintro e w4 ⟨z, S', L', t', n', rfl, hj4, ht4, hc4⟩
              have HBN4 := Lib.hid (ht4.blk HBN.out (fun h => by have h1 := HMB.out _ h; have h2 := HGN.out; have h3 := HGB.out; omega))
              have ST4 := Lib.hid (HSW.out.turns HMB.out ht4)
              have HB4 := Lib.hid (HBW.out.trans (ht4.below HML.out HBW.out.size))
              have r0 : w4.cell? ⟨gn, 0, none⟩ = some (.slice Au nu cu) := by rw [HBN4.out.cell]; rfl
              have r1 : w4.cell? ⟨gn, 1, none⟩ = some (.slice A8 (rs.length + 1) c8) := by rw [HBN4.out.cell]; rfl
              have HL84 := Lib.hid (HL8.out.turns HMB.out ht4)
              clear ht4
              rcases HJI.out.app HBR.out (by have := HGI.out; omega) hc4 with ⟨rfl, h1, h2, rfl, rfl, h3⟩ | ⟨⟨rfl, h1⟩ | ⟨rfl, h1, h2⟩, rfl, rfl, rfl, rfl⟩ | ⟨h0, h1, h2, rfl, rfl, h3⟩
              · have HJ4 := Lib.hid hj4
                have HJI4 := Lib.hid h3
                clear hj4 hc4 h1 h2 h3
                have A5 := Lib.hid (show Below w4.heap.size w4 (w4.alloc (.cells #[.slice Au nu cu, .slice A8 (rs.length + 1) c8] 44)) from (Below.refl _ _).alloc (Nat.le_refl _) _)
                have HC5 := Lib.hid (show CrjAt w gJ (i + 1) (.slice (some ⟨w4.heap.size, 0, none⟩) 1 1) (w4.alloc (.cells #[.slice Au nu cu, .slice A8 (rs.length + 1) c8] 44)) from by
                  refine ⟨S', L', t', g, nb, (rs ++ [x]), [], [], false, [(nb, rs ++ [x])], HJ4.out.fresh A5.out, HJI4.out, fun _ => rfl, by have := HGI.out; omega, StO.one (Blk.new w4 _ _) (by have h1 := HJ4.out.1.lt; omega) (HU0.out) (HL84.out.below A5.out), Cands.fresh _ _, by simp, ?_⟩
                  exact HB4.out.trans (A5.out.mono HB4.out.size))
                go_wp2_with fail
                go_roundg (N - (i + 1))
                case measure => omega
                case rel => exact ⟨i + 1, by omega, by go_num, HC5.out⟩
              · exact absurd h1 (by have := HX50.out; omega)
              · have HJ4 := Lib.hid hj4
                have HC5 := Lib.hid (show CrjAt w gJ (i + 1) (.slice (some ⟨g18, 0, none⟩) sts.length cap18) w4 from ⟨S', L', t', g, nb, rs, xs, bs, br, sts, HJ4.out, HJI.out, HBR.out, by have := HGI.out; omega, ST4.out, HCA.out, by have := HSL.out; omega, HB4.out⟩)
                clear hj4 hc4 h1 h2
                go_wp2_with fail
                go_roundg (N - (i + 1))
                case measure => omega
                case rel => exact ⟨i + 1, by omega, by go_num, HC5.out⟩
              · have HJ4 := Lib.hid hj4
                have HZ := Lib.hid h0
                have HJI4 := Lib.hid h3
                have t7 : ((z : Int) == 0) = false := by have := HZ.out; simp; omega
                have t8 : ((z : Int) != 4) = true := by have := HZ.out; rw [bne_iff_ne]; omega
                clear hj4 hc4 h0 h1 h2 h3
                by_cases z9 : z = 9
                · have t9 : ((z : Int) == 9) = true := by simp [z9]
                  clear z9
                  have A5 := Lib.hid (show Below w4.heap.size w4 (w4.alloc (.cells #[.slice Au nu cu, .slice A8 (rs.length + 1) c8] 44)) from (Below.refl _ _).alloc (Nat.le_refl _) _)
                  have BK5 := Lib.hid (Blk.new w4 44 #[.slice Au nu cu, .slice A8 (rs.length + 1) c8])
                  have HL5 := Lib.hid (show StO w (w4.alloc (.cells #[.slice Au nu cu, .slice A8 (rs.length + 1) c8] 44)) (gJ + 1) 44 27 (.slice (some ⟨g18, 0, none⟩) sts.length cap18) sts from ST4.out.below A5.out)
                  have HU5 := Lib.hid (show Bts w w.heap.size (.slice Au nu cu) ((nb, rs ++ [x]) : StD).1 from HU0.out)
                  have HLL5 := Lib.hid (show LsO w (w4.alloc (.cells #[.slice Au nu cu, .slice A8 (rs.length + 1) c8] 44)) (gJ + 1) 27 (.slice A8 (rs.length + 1) c8) ((nb, rs ++ [x]) : StD).2 from HL84.out.below A5.out)
                  have HFE5 := Lib.hid (show sts.length + 1 ≤ 1000000 by have := HSL.out; omega)
                  have HBA5 := Lib.hid (show gJ + 1 ≤ (w4.alloc (.cells #[.slice Au nu cu, .slice A8 (rs.length + 1) c8] 44)).heap.size by have h1 := HJ4.out.1.lt; simp; omega)
                  go_wp2_with (at_builtin; refine wpList_append_sto rfl (.tmp 105) (.tmp 107) 45 rfl (gJ + 1) 44 27 iS Try.underlying45 HIS.out HIS0.out HIS1.out HIS2.out (by decide) (.slice (some ⟨g18, 0, none⟩) sts.length cap18) sts rfl HL5.out w4.heap.size (.slice Au nu cu) (.slice A8 (rs.length + 1) c8) ((nb, rs ++ [x])) rfl BK5.out HU5.out HLL5.out HFE5.out HBA5.out ?_; intro v6 w6 HS6 HK6)
                  have HC6 := Lib.hid (show CrjAt w gJ (i + 1) v6 w6 from by
                    have hj5 := HJ4.out.fresh A5.out
                    have hk := HK6.out
                    refine ⟨S', L', t', g, nb, rs, (x :: xs), bs, false, sts ++ [(nb, rs ++ [x])], Jnl.keep hj5 hk (by omega) (by omega) (by omega) (by omega), HJI4.out, (fun _ => by have h := HBR.out; first | exact h rfl | exact h trivial), by have := HGI.out; omega, HS6.out, HCA.out.app x, by have := HSL.out; simp; omega, ?_⟩
                    exact (HB4.out.trans (A5.out.mono HB4.out.size)).trans (hk.mono (by omega)))
                  go_wp2_with fail
                  go_meet
                  exact ⟨i + 1, by omega, HC6.out⟩
                · have t9 : ((z : Int) == 9) = false := by simp; omega
                  clear z9
                  have A5 := Lib.hid (show Below w4.heap.size w4 (w4.alloc (.cells #[.slice Au nu cu, .slice A8 (rs.length + 1) c8] 44)) from (Below.refl _ _).alloc (Nat.le_refl _) _)
                  have BK5 := Lib.hid (Blk.new w4 44 #[.slice Au nu cu, .slice A8 (rs.length + 1) c8])
                  have HL5 := Lib.hid (show StO w (w4.alloc (.cells #[.slice Au nu cu, .slice A8 (rs.length + 1) c8] 44)) (gJ + 1) 44 27 (.slice (some ⟨g18, 0, none⟩) sts.length cap18) sts from ST4.out.below A5.out)
                  have HU5 := Lib.hid (show Bts w w.heap.size (.slice Au nu cu) ((nb, rs ++ [x]) : StD).1 from HU0.out)
                  have HLL5 := Lib.hid (show LsO w (w4.alloc (.cells #[.slice Au nu cu, .slice A8 (rs.length + 1) c8] 44)) (gJ + 1) 27 (.slice A8 (rs.length + 1) c8) ((nb, rs ++ [x]) : StD).2 from HL84.out.below A5.out)
                  have HFE5 := Lib.hid (show sts.length + 1 ≤ 1000000 by have := HSL.out; omega)
                  have HBA5 := Lib.hid (show gJ + 1 ≤ (w4.alloc (.cells #[.slice Au nu cu, .slice A8 (rs.length + 1) c8] 44)).heap.size by have h1 := HJ4.out.1.lt; simp; omega)
                  go_wp2_with (at_builtin; refine wpList_append_sto rfl (.tmp 105) (.tmp 107) 45 rfl (gJ + 1) 44 27 iS Try.underlying45 HIS.out HIS0.out HIS1.out HIS2.out (by decide) (.slice (some ⟨g18, 0, none⟩) sts.length cap18) sts rfl HL5.out w4.heap.size (.slice Au nu cu) (.slice A8 (rs.length + 1) c8) ((nb, rs ++ [x])) rfl BK5.out HU5.out HLL5.out HFE5.out HBA5.out ?_; intro v6 w6 HS6 HK6)
                  have HC6 := Lib.hid (show CrjAt w gJ (i + 1) v6 w6 from by
                    have hj5 := HJ4.out.fresh A5.out
                    have hk := HK6.out
                    refine ⟨S', L', t', g, nb, rs, (x :: xs), bs, false, sts ++ [(nb, rs ++ [x])], Jnl.keep hj5 hk (by omega) (by omega) (by omega) (by omega), HJI4.out, (fun _ => by have h := HBR.out; first | exact h rfl | exact h trivial), by have := HGI.out; omega, HS6.out, HCA.out.app x, by have := HSL.out; simp; omega, ?_⟩
                    exact (HB4.out.trans (A5.out.mono HB4.out.size)).trans (hk.mono (by omega)))
                  go_wp2_with fail
                  go_roundg (N - (i + 1))
                  case measure => omega
                  case rel => exact ⟨i + 1, by omega, by go_num, HC6.out⟩
      · obtain rfl : i = N := by omega
        have t4 : decide ((i : Int) < (i : Int)) = false := decide_eq_false (by omega)
        go_wp2_with fail
        go_meet
        exact ⟨i, hN100, HRR.out⟩
  case rest =>
    obtain ⟨i, hi100, S, L, t, g, nb, rs, xs, bs, br, sts, hjn, hji, hbr, hgi, hst, hca, hsl, hbe⟩ := hcut
    have HJN := Lib.hid hjn
    have HJI := Lib.hid hji
    have HCA := Lib.hid hca
    have HST := Lib.hid hst
    have HB := Lib.hid hbe
    obtain ⟨Ast, cst, rfl, -⟩ := hst.shape
    have hg1 : g + 1 < 4294967296 := by omega
    clear hjn hji hbr hgi hst hca hsl hbe
    go_wp2_with fail
    refine (dcrash_any _ _ _ _ _ _ _ K T tn _ HJN.out.2.1 HK.out HT.out).mono ?_
    rintro e w5 ⟨rfl, hd5, ht5⟩
    obtain ⟨FF, hff⟩ : ∃ FF, FF = crashL S L (keptL (keysL 192 L) K) tn := ⟨_, rfl⟩
    rw [← hff] at hd5
    have HFF := Lib.hid hff
    have HD5 := Lib.hid hd5
    have HB5 := Lib.hid (HB.out.trans (ht5.below (dk_lo w) HB.out.size))
    have HDM := Lib.hid (show ∀ q, dk (w.heap.size + 2) w.heap.size (w.heap.size + 1) q → q < gJ + 1 from fun q h => by have := dk_base w q h; omega)
    have HST5 := Lib.hid (HST.out.turns HDM.out ht5)
    have HFB := Lib.hid (fun f (hf : f < 192) => HD5.out.long hf)
    have HD3 := Lib.hid (show w.heap.size + 3 ≤ w5.heap.size by have := hd5.lt.1; omega)
    clear hd5 ht5 hff
    go_wp2_with fail
    refine (jopen_ok _ _ _ FF (fun _ => none) w5 HD5.out (fun _ => rfl)).mono ?_
    rintro e w6 ⟨gK, v6, u6, m, rfl, hm6, ho6, hl6, hj6, hgK, ht6⟩
    rw [last_none] at hm6 ho6 hl6 hj6
    have FOUND := Lib.hid (show (oneB (loadR FF).2 (pays FF m) sts = true ∨ clsB (loadR FF).1 (loadR FF).2 sts = true) ∨ (0 < T ∧ T < 64) from by
      have near := HT.out
      unfold Near64 at near
      by_cases c : tn = 0 ∨ tn = 64
      · refine .inl (HCA.out.found HJI.out hg1 ?_ (fun f hf => (HFB.out f hf).1) hm6)
        rw [HFF.out]
        exact HJI.out.crash (fun f hf => (HJN.out.2.1.long hf).1) (fun f y hy => (HJN.out.2.1.loose_ hy).1) c
      · refine .inr ⟨?_, ?_⟩ <;> omega)
    have HBYT := Lib.hid (show ∀ y ∈ (loadR FF).2, y < 256 from loadR_byte (fun f hf => (HFB.out f (by omega)).2))
    have HBL := Lib.hid (show (loadR FF).2.length ≤ 100000 from loadR_few (fun f hf => (HFB.out f (by omega)).1))
    have hGlt : (loadR FF).1 < 4294967296 := loadN_lt (F := FF) (fun x hx => sloG_lt (HFB.out (64 + 16 * x) (by omega)).2) 2 (Nat.le_refl _)
    obtain ⟨G, hG⟩ : ∃ G, G = (loadR FF).1 := ⟨_, rfl⟩
    obtain ⟨B, hB⟩ : ∃ B, B = (loadR FF).2 := ⟨_, rfl⟩
    rw [← hB] at ho6 HBYT HBL FOUND
    rw [← hG] at hm6 hj6 hGlt FOUND
    have HGE := Lib.hid hG
    have HBE := Lib.hid hB
    obtain ⟨A6, c6, rfl⟩ := own_any ho6
    obtain ⟨A7, c7, rfl, -⟩ := hl6.shape
    have HM6 := Lib.hid hm6
    have HO6 := Lib.hid (own_lower (base' := w.heap.size + 3) ho6 HD3.out)
    have HL6 := Lib.hid (hl6.lower HD3.out)
    have HD6 := Lib.hid hj6.2.1
    have HB6 := Lib.hid (HB5.out.trans (ht6.below (dk_lo w) HB5.out.size))
    have HST6 := Lib.hid (HST5.out.turns HDM.out ht6)
    rw [hB] at HO6
    rw [← hB] at HO6
    clear hm6 ho6 hl6 hj6 hgK ht6 hG hB
    go_wp2_with fail
    go_loopg [28, 29] 100 (fun gg s28 s29 wx => ∃ k : Nat, k + gg = 100 ∧ s29 = .int .i64 k ∧ RdAt w6 (w.heap.size + 2) w.heap.size (w.heap.size + 1) 192 FF (fun _ => none) k s28 wx)
    case atStart => exact ⟨0, rfl, rfl, HD6.out, Lst.nil_ _ _ _ _ _, Turns.refl _ _⟩
    case round =>
      obtain ⟨k, hkg, rfl, hr⟩ := hrel
      have HR := Lib.hid hr
      obtain ⟨A9, c9, hs9, -⟩ := hr.2.1.shape
      rw [firsts_length] at hs9
      subst hs9
      clear hr
      by_cases hk : k < 100
      · have t1 : decide ((k : Int) < 100) = true := decide_eq_true (by omega)
        go_wp2_with fail
        refine (dread_yes _ _ _ _ _ _ _ k _ HR.out.1 (by omega) none_ans).mono ?_
        rintro e w2 ⟨rfl, hb2, hd2, ht2, hs2⟩
        rw [none_next] at hd2
        have hlen := hd2.last_ (show k < 192 by omega)
        have HLE := Lib.hid hlen.1
        have HBY := Lib.hid hlen.2
        have BK2 := Lib.hid hb2
        have HD2 := Lib.hid hd2
        have HT2 := Lib.hid (HR.out.2.2.trans ht2)
        have HM2 := Lib.hid (show ∀ q, dk (w.heap.size + 2) w.heap.size (w.heap.size + 1) q → q < w6.heap.size from dk_lt HD6.out)
        have HL2 := Lib.hid (HR.out.2.1.turns HM2.out ht2)
        have A4 := Lib.hid (show Below w2.heap.size w2 (w2.alloc (.cells #[.slice (some ⟨wr.heap.size + 1, 0, none⟩) 64 64] 27)) from (Below.refl _ _).alloc (Nat.le_refl _) _)
        have HL4 := Lib.hid (HL2.out.alloc HM2.out (.cells #[.slice (some ⟨wr.heap.size + 1, 0, none⟩) 64 64] 27))
        have BK4 := Lib.hid (BK2.out.below A4.out BK2.out.lt)
        have HB4 := Lib.hid (show w6.heap.size ≤ (w2.alloc (.cells #[.slice (some ⟨wr.heap.size + 1, 0, none⟩) 64 64] 27)).heap.size from Nat.le_trans HT2.out.size A4.out.size)
        have HE4 := Lib.hid (show ∀ j, j < 1 → ∃ u, ([Value.slice (some ⟨wr.heap.size + 1, 0, none⟩) 64 64])[j]? = some u ∧ El (w2.alloc (.cells #[.slice (some ⟨wr.heap.size + 1, 0, none⟩) 64 64] 27)) (dk (w.heap.size + 2) w.heap.size (w.heap.size + 1)) 0 27 u (([last FF (fun _ => none) k]).getD j []) from by
          intro j hj
          obtain rfl : j = 0 := by omega
          refine ⟨_, rfl, ?_⟩
          exact El.of_blk (off := 0) (xs := last FF (fun _ => none) k) BK4.out (by rintro (e | e | e) <;> (have := HD6.out.lt; have := HR.out.2.2.size; omega)) (by decide) HLE.out (Nat.le_refl _) (by simp [maxLen]) (fun j _ => byte_at HBY.out j) (fun j hj => by rw [Nat.zero_add]; exact cellsL_at _ j (by rw [HLE.out]; exact hj)))
        have HC4 := Lib.hid (one_cell (w := w2.alloc (.cells #[.slice (some ⟨wr.heap.size + 1, 0, none⟩) 64 64] 27)) (g := w2.heap.size) (v := .slice (some ⟨wr.heap.size + 1, 0, none⟩) 64 64) (by simp))
        have HFW := Lib.hid (show (firsts (last FF (fun _ => none)) k).length + 1 ≤ 1000000 by rw [firsts_length]; omega)
        clear hb2 hd2 ht2 hs2 hlen
        go_wp2_with (at_builtin; refine wpList_append_lst rfl (.tmp 132) (.tmp 134) 28 rfl (dk (w.heap.size + 2) w.heap.size (w.heap.size + 1)) 0 w6.heap.size 27 i0 Try.underlying28 HI.out HZ0.out HZ1.out HZ2.out _ (firsts (last FF (fun _ => none)) k) rfl HL4.out ⟨w2.heap.size, 0, none⟩ 1 1 [.slice (some ⟨wr.heap.size + 1, 0, none⟩) 64 64] [last FF (fun _ => none) k] rfl rfl rfl HC4.out HE4.out HFW.out HB4.out (Nat.zero_le _) ?_; intro v5 w5' HL5 HK5)
        have HT5 := Lib.hid ((HT2.out.trans (show Turns (dk (w.heap.size + 2) w.heap.size (w.heap.size + 1)) w2 (w2.alloc (.cells #[.slice (some ⟨wr.heap.size + 1, 0, none⟩) 64 64] 27)) from Turns.of_below A4.out (Nat.le_refl _))).below_ HK5.out)
        have HD5' := Lib.hid ((HD2.out.alloc (.cells #[.slice (some ⟨wr.heap.size + 1, 0, none⟩) 64 64] 27)).below HK5.out HD6.out.lt.1 HD6.out.lt.2.1 HD6.out.lt.2.2)
        go_roundg (99 - k)
        case measure => omega
        case rel =>
          refine ⟨k + 1, by omega, by go_num, HD5'.out, ?_, HT5.out⟩
          rw [firsts_succ]
          exact HL5.out
      · obtain rfl : k = 100 := by omega
        have t1 : decide (((100 : Nat) : Int) < 100) = false := by decide
        have hl7 := HR.out.2.1
        rw [last_none] at hl7
        have ht7 := HR.out.2.2
        have HD7 := Lib.hid HR.out.1
        have HP7 := Lib.hid hl7.pts
        have HO7 := Lib.hid (own_turns HO6.out (dk_base w) ht7)
        have HL7 := Lib.hid (HL6.out.turns (dk_base w) ht7)
        have HST7 := Lib.hid (HST6.out.turns HDM.out ht7)
        have HB7 := Lib.hid (HB6.out.trans (ht7.below (dk_lo w) HB6.out.size))
        clear hl7 ht7 HR
        go_wp2_with fail
        refine (refLoad_any _ (firsts FF 100) FF wr HP7.out (firsts_length _ _) (fun j hj => firsts_getD _ _ _ hj) (fun j hj => (HFB.out j (by omega)).1) (fun j hj => (HFB.out j (by omega)).2)).mono ?_
        rintro e w8 ⟨hb8, v8, rfl, hx8⟩
        rw [← HGE.out]
        rw [← HBE.out] at hx8
        obtain ⟨A8, n8, c8, rfl, -⟩ := id hx8
        have HX8 := Lib.hid hx8
        have HB8 := Lib.hid (HB7.out.trans (hb8.mono HB7.out.size))
        have HR8 := Lib.hid (Bts.of_own (own_below HO7.out hb8 (Nat.le_refl _)) HBYT.out)
        have HP8 := Lib.hid (HP7.out.below hb8)
        have HL8 := Lib.hid (HL7.out.pts.below hb8)
        have HS8 := Lib.hid ((HST7.out.below hb8).read HB8.out)
        clear hx8 hb8
        go_wp2_with fail
        refine (jouAnswers_any _).mono ?_
        rintro e w9 ⟨rfl, hb9⟩
        have HX9 := Lib.hid ((HX8.out.below hb9).more hb9.size)
        have HR9 := Lib.hid ((HR8.out.below hb9).more hb9.size)
        have HP9 := Lib.hid (HP8.out.below hb9)
        have HL9 := Lib.hid (HL8.out.below hb9)
        have HS9 := Lib.hid (HS8.out.below hb9)
        have HB9 := Lib.hid (HB8.out.trans (hb9.mono HB8.out.size))
        clear hb9
        obtain ⟨O, hO⟩ : ∃ O, O = oneB B (pays FF m) sts := ⟨_, rfl⟩
        obtain ⟨C, hC⟩ : ∃ C, C = clsB G B sts := ⟨_, rfl⟩
        have ONE := Lib.hid (one_any _ _ _ B (pays FF m) sts _ w9 HR9.out HL9.out HS9.out)
        rw [← hO] at ONE
        have HCE := Lib.hid hC
        have KNOWN := Lib.hid (show O = true ∨ C = true ∨ (0 < T ∧ T < 64) from by
          rcases FOUND.out with (h | h) | h
          · exact .inl (hO.trans h)
          · exact .inr (.inl (hC.trans h))
          · exact .inr (.inr h))
        clear hO hC
        cases O with
        | true =>
          go_wp2_with fail
          refine ONE.out.mono ?_
          rintro e w10 ⟨rfl, q0, rfl⟩
          have KF := Lib.hid (show Below w9.heap.size w9 (w9.drewN q0) from below_drewN (Below.refl _ _) q0)
          go_wp2_with fail
          refine (same_any _ _ B _ _ _ _ (HR9.out.below KF.out) (HX9.out.below KF.out)).mono ?_
          rintro e wa ⟨rfl, qa, rfl⟩
          rw [decide_eq_true rfl]
          have KA := Lib.hid (show Below w9.heap.size w9 (w9.drewN (q0 + qa)) from below_drewN (Below.refl _ _) (q0 + qa))
          go_wp2_with fail
          refine (records_any _ (firsts FF 100) G _ (HP9.out.below KA.out) (by rw [firsts_length]; omega) (fun j hj => by rw [firsts_getD _ _ _ (by omega)]; exact (HFB.out j (by omega)).1) hGlt).mono ?_
          rintro e wb ⟨mg, vg, hsg, rfl, hlg, hbg⟩
          obtain rfl : mg = m := hsg.uniq HM6.out (fun j hj => firsts_getD _ _ _ (by omega))
          rw [pays_congr (F' := FF) (fun j hj => firsts_getD FF 100 j (by have := HM6.out.1; omega))] at hlg
          obtain ⟨Ag, cg, rfl, -⟩ := hlg.shape
          have HPg := Lib.hid hlg.pts
          have KG := Lib.hid (KA.out.trans (hbg.mono KA.out.size))
          have HQg := Lib.hid (HL9.out.below KG.out)
          clear hsg hlg hbg
          go_wp2_with fail
          refine (sameAll_any _ _ _ _ _ HQg.out HPg.out).mono ?_
          rintro e wh ⟨rfl, qh, rfl⟩
          rw [decide_eq_true (rfl : pays FF mg = pays FF mg)]
          go_wp2
          go_ret
          exact ⟨by simp, below_drewN (HB9.out.trans (KG.out.mono HB9.out.size)) qh⟩
        | false =>
          by_cases k1 : 0 < T
          · have t9 : decide ((0 : Int) < T) = true := decide_eq_true k1
            by_cases k2 : T < 64
            · have t10 : decide (T < (64 : Int)) = true := decide_eq_true k2
              go_wp2_with fail
              refine ONE.out.mono ?_
              rintro e w10 ⟨rfl, q0, rfl⟩
              have KF := Lib.hid (show Below w9.heap.size w9 (w9.drewN q0) from below_drewN (Below.refl _ _) q0)
              go_wp2_with fail
              refine (same_any _ _ B _ _ _ _ (HR9.out.below KF.out) (HX9.out.below KF.out)).mono ?_
              rintro e wa ⟨rfl, qa, rfl⟩
              rw [decide_eq_true rfl]
              have KA := Lib.hid (show Below w9.heap.size w9 (w9.drewN (q0 + qa)) from below_drewN (Below.refl _ _) (q0 + qa))
              go_wp2_with fail
              refine (records_any _ (firsts FF 100) G _ (HP9.out.below KA.out) (by rw [firsts_length]; omega) (fun j hj => by rw [firsts_getD _ _ _ (by omega)]; exact (HFB.out j (by omega)).1) hGlt).mono ?_
              rintro e wb ⟨mg, vg, hsg, rfl, hlg, hbg⟩
              obtain rfl : mg = m := hsg.uniq HM6.out (fun j hj => firsts_getD _ _ _ (by omega))
              rw [pays_congr (F' := FF) (fun j hj => firsts_getD FF 100 j (by have := HM6.out.1; omega))] at hlg
              obtain ⟨Ag, cg, rfl, -⟩ := hlg.shape
              have HPg := Lib.hid hlg.pts
              have KG := Lib.hid (KA.out.trans (hbg.mono KA.out.size))
              have HQg := Lib.hid (HL9.out.below KG.out)
              clear hsg hlg hbg
              go_wp2_with fail
              refine (sameAll_any _ _ _ _ _ HQg.out HPg.out).mono ?_
              rintro e wh ⟨rfl, qh, rfl⟩
              rw [decide_eq_true (rfl : pays FF mg = pays FF mg)]
              go_wp2
              go_ret
              exact ⟨by simp, below_drewN (HB9.out.trans (KG.out.mono HB9.out.size)) qh⟩
            · have t10 : decide (T < (64 : Int)) = false := decide_eq_false k2
              go_wp2_with fail
              refine ONE.out.mono ?_
              rintro e w10 ⟨rfl, q0, rfl⟩
              have HCT := Lib.hid (show C = true from by
                rcases KNOWN.out with h | h | h
                · exact absurd h (by decide)
                · exact h
                · omega)
              have CLS := Lib.hid (clash_any G _ _ B sts (w9.drewN q0) (HR9.out.drewN (n := q0)) (HS9.out.drewN_ q0) hGlt HBL.out)
              rw [← HCE.out, HCT.out] at CLS
              go_wp2_with fail
              refine CLS.out.mono ?_
              rintro e w11 ⟨rfl, hb11⟩
              have KF := Lib.hid (show Below w9.heap.size w9 w11 from (below_drewN (Below.refl _ _) q0).trans hb11)
              go_wp2_with fail
              refine (same_any _ _ B _ _ _ _ (HR9.out.below KF.out) (HX9.out.below KF.out)).mono ?_
              rintro e wa ⟨rfl, qa, rfl⟩
              rw [decide_eq_true rfl]
              have KA := Lib.hid (show Below w9.heap.size w9 (w11.drewN qa) from below_drewN KF.out qa)
              go_wp2_with fail
              refine (records_any _ (firsts FF 100) G _ (HP9.out.below KA.out) (by rw [firsts_length]; omega) (fun j hj => by rw [firsts_getD _ _ _ (by omega)]; exact (HFB.out j (by omega)).1) hGlt).mono ?_
              rintro e wb ⟨mg, vg, hsg, rfl, hlg, hbg⟩
              obtain rfl : mg = m := hsg.uniq HM6.out (fun j hj => firsts_getD _ _ _ (by omega))
              rw [pays_congr (F' := FF) (fun j hj => firsts_getD FF 100 j (by have := HM6.out.1; omega))] at hlg
              obtain ⟨Ag, cg, rfl, -⟩ := hlg.shape
              have HPg := Lib.hid hlg.pts
              have KG := Lib.hid (KA.out.trans (hbg.mono KA.out.size))
              have HQg := Lib.hid (HL9.out.below KG.out)
              clear hsg hlg hbg
              go_wp2_with fail
              refine (sameAll_any _ _ _ _ _ HQg.out HPg.out).mono ?_
              rintro e wh ⟨rfl, qh, rfl⟩
              rw [decide_eq_true (rfl : pays FF mg = pays FF mg)]
              go_wp2
              go_ret
              exact ⟨by simp, below_drewN (HB9.out.trans (KG.out.mono HB9.out.size)) qh⟩
          · have t9 : decide ((0 : Int) < T) = false := decide_eq_false k1
            go_wp2_with fail
            refine ONE.out.mono ?_
            rintro e w10 ⟨rfl, q0, rfl⟩
            have HCT := Lib.hid (show C = true from by
              rcases KNOWN.out with h | h | h
              · exact absurd h (by decide)
              · exact h
              · omega)
            have CLS := Lib.hid (clash_any G _ _ B sts (w9.drewN q0) (HR9.out.drewN (n := q0)) (HS9.out.drewN_ q0) hGlt HBL.out)
            rw [← HCE.out, HCT.out] at CLS
            go_wp2_with fail
            refine CLS.out.mono ?_
            rintro e w11 ⟨rfl, hb11⟩
            have KF := Lib.hid (show Below w9.heap.size w9 w11 from (below_drewN (Below.refl _ _) q0).trans hb11)
            go_wp2_with fail
            refine (same_any _ _ B _ _ _ _ (HR9.out.below KF.out) (HX9.out.below KF.out)).mono ?_
            rintro e wa ⟨rfl, qa, rfl⟩
            rw [decide_eq_true rfl]
            have KA := Lib.hid (show Below w9.heap.size w9 (w11.drewN qa) from below_drewN KF.out qa)
            go_wp2_with fail
            refine (records_any _ (firsts FF 100) G _ (HP9.out.below KA.out) (by rw [firsts_length]; omega) (fun j hj => by rw [firsts_getD _ _ _ (by omega)]; exact (HFB.out j (by omega)).1) hGlt).mono ?_
            rintro e wb ⟨mg, vg, hsg, rfl, hlg, hbg⟩
            obtain rfl : mg = m := hsg.uniq HM6.out (fun j hj => firsts_getD _ _ _ (by omega))
            rw [pays_congr (F' := FF) (fun j hj => firsts_getD FF 100 j (by have := HM6.out.1; omega))] at hlg
            obtain ⟨Ag, cg, rfl, -⟩ := hlg.shape
            have HPg := Lib.hid hlg.pts
            have KG := Lib.hid (KA.out.trans (hbg.mono KA.out.size))
            have HQg := Lib.hid (HL9.out.below KG.out)
            clear hsg hlg hbg
            go_wp2_with fail
            refine (sameAll_any _ _ _ _ _ HQg.out HPg.out).mono ?_
            rintro e wh ⟨rfl, qh, rfl⟩
            rw [decide_eq_true (rfl : pays FF mg = pays FF mg)]
            go_wp2
            go_ret
            exact ⟨by simp, below_drewN (HB9.out.trans (KG.out.mono HB9.out.size)) qh⟩
end Go.Proofs.Ytfnegbcpiejdaaa

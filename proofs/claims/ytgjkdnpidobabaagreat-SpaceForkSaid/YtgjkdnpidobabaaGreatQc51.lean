/-
  The statements' beginning: processes over so many sections of each zone.
  Processes of which it is known what they have: the short way to walk.
  Conditions: those that each line bears.
-/
import Derived.Test.YtgjkdnpidobabaaGreatQc48
import Derived.Test.YtgjkdnpidobabaaGreatQc50
import Derived.Deep.RegionHeld3
import Derived.Deep.DrawnRows
import Derived.Deep.QuietTactic
import Derived.BigQuiet
import Derived.Test.YtgjkdnpidobabaaGreatQc03
set_option linter.unusedSimpArgs false
set_option linter.unusedSectionVars false
set_option linter.unusedVariables false
namespace Go.Proofs.YtgjkdnpidobabaaGreat
open Go.RowKit
set_option linter.unusedVariables false

theorem own_off {w w' : World} {base n size : Nat} {e : TypeId} {v : Value} {xs : List Value} (h : w.ownsRow base e size v n xs) (hk : ∀ g, base ≤ g → g < w.heap.size → w'.heap[g]? = w.heap[g]?) : w'.ownsRow base e size v n xs := by
  obtain ⟨hl, h2⟩ := h
  refine ⟨hl, ?_⟩
  rcases h2 with h2 | ⟨g, cap, cur, h1, h3, h4, h5⟩
  · exact .inl h2
  · exact .inr ⟨g, cap, cur, h1, h3, (hk g h3 (Array.getElem?_eq_some_iff.1 h4).1).trans h4, h5⟩
def FrA (w : World) (d gP i j : Nat) (wx : World) : Prop :=
  ∃ p S L F, PoolMem wx gP (fun k => k = gP) p ∧ OnS p i j ∧ Dsk wx (d + 2) d (d + 1) 192 S L Tr.none_ ∧ WldAt wx (d + 3) F ∧ Below w.heap.size w wx ∧ w.heap.size ≤ gP ∧ gP < d
section
variable {w wx wy : World} {d gP i j : Nat}
theorem FrA.far (h : FrA w d gP i j wx) (hb : Below wx.heap.size wx wy) : FrA w d gP i j wy := by
  obtain ⟨p, S, L, F, h1, h2, h3, h4, h5, h6, h7⟩ := h
  exact ⟨p, S, L, F, h1.fresh hb, h2, h3.fresh hb, h4.below hb h4.lt, h5.trans (hb.mono h5.size), h6, h7⟩
theorem FrA.set_ (h : FrA w d gP i j wx) {k y : Nat} (hk : k < 8192) (hy : y < 256) : FrA w d gP i j (wx.setCell ⟨d + 3, k + 2, none⟩ (.int .u8 (y : Int))) := by
  obtain ⟨p, S, L, F, h1, h2, h3, h4, h5, h6, h7⟩ := h
  have ho : Only (d + 3) wx (wx.setCell ⟨d + 3, k + 2, none⟩ (.int .u8 (y : Int))) := (Only.refl _ _).setCell _ _
  refine ⟨p, S, L, _, h1.only ho (by omega), h2, ?_, h4.set_ hk hy, h5.trans (ho.below (by omega) h5.size), h6, h7⟩
  have hl := h3.lt
  exact h3.far (ho.1.block _ hl.1 (fun e => by injection e with e; omega)) (ho.1.block _ hl.2.1 (fun e => by injection e with e; omega)) (ho.1.block _ hl.2.2 (fun e => by injection e with e; omega))
theorem FrA.cells (h : FrA w d gP i j wx) {a b : Nat} (ha : a + 64 ≤ 8192) (hb : b = a + 2) {ys : List Nat} (hl : ys.length = 64) (hy : ∀ y ∈ ys, y < 256) : FrA w d gP i j (wx.setCells (d + 3) b (ys.map bv)) := by
  obtain ⟨p, S, L, F, h1, h2, h3, h4, h5, h6, h7⟩ := h
  obtain ⟨F', hF⟩ := h4.cells ha hb hl hy
  have ho : Only (d + 3) wx (wx.setCells (d + 3) b (ys.map bv)) := Only.setCells _ _ (Only.refl _ _)
  refine ⟨p, S, L, _, h1.only ho (by omega), h2, ?_, hF, h5.trans (ho.below (by omega) h5.size), h6, h7⟩
  have hl := h3.lt
  exact h3.far (ho.1.block _ hl.1 (fun e => by injection e with e; omega)) (ho.1.block _ hl.2.1 (fun e => by injection e with e; omega)) (ho.1.block _ hl.2.2 (fun e => by injection e with e; omega))
end
theorem row_keeps (g a b : Nat) (cs : List Value) (hl : cs.length = 64) (hab : a + 64 ≤ b) (W : World) (h2 : W.rangeAt g a cs) (h3 : W.there g b 64) :
    (W.setCells g b cs).rangeAt g a cs ∧ (W.setCells g b cs).there g b 64 :=
  ⟨World.rangeAt_setCells_apart h2 _ _ _ (by omega), World.there_setCells h3 _ _ _⟩
def FreshPost (w : World) (nr mv : Nat) (e : Ending) (w' : World) : Prop :=
  ∃ (gS gW : Nat) (K : Nat → Prop) (fl : Nat → Nat → Nat), e = .returned (.tuple #[.pointer (some ⟨gS, 0, none⟩), .pointer (some ⟨gW, 0, none⟩)]) ∧ SpcMem w' gS K (uw0 fl) nr mv 0 ∧ (∀ k, K k → w.heap.size ≤ k) ∧ Below w.heap.size w w'
set_option maxRecDepth 20000 in
set_option maxHeartbeats 4000000 in
theorem fresh_any (a b : Nat) (ha : a ≤ 4) (hb : b ≤ 4) (w : World) : Calls Tryz.prog 10 #[.int .i64 (a : Int), .int .i64 (b : Int)] w (FreshPost w (32 * a) (32 * b)) := by
  obtain ⟨ZW, hZW, hzr⟩ := zero_wld
  have HZW := Lib.hid hZW
  clear hZW
  go_enter Tryz.func10, Tryz.ntmps10
  go_wp2_with fail
  refine (pool_new w).mono ?_
  rintro e w1 ⟨gP, KP, rfl, hm1, hk1, hb1⟩
  have HM1 := Lib.hid hm1
  have HK1 := Lib.hid hk1
  have HB1 := Lib.hid hb1
  clear hm1 hk1 hb1
  go_wp2_with fail
  go_loopg [7] a (fun gg s7 wx => ∃ (i : Nat) (K : Nat → Prop) (p : PS), i + gg = a ∧ s7 = .int .i64 (i : Int) ∧ PoolMem wx gP K p ∧ OnS p i 0 ∧ (∀ k, K k → w.heap.size ≤ k) ∧ Below w.heap.size w wx)
  case atStart => exact ⟨0, KP, ps0, by omega, rfl, HM1.out, onS_new, HK1.out, HB1.out⟩
  case round =>
    obtain ⟨i, K2, p, hig, rfl, hm2, ho2, hk2, hb2⟩ := hrel
    have HM2 := Lib.hid hm2
    have HO2 := Lib.hid ho2
    have HK2 := Lib.hid hk2
    have HB2 := Lib.hid hb2
    clear hm2 ho2 hk2 hb2
    by_cases hlt : i < a
    · have t1 : decide ((i : Int) < (a : Int)) = true := decide_eq_true (by omega)
      obtain ⟨p', hp', ho'⟩ := HO2.out.normal (by omega)
      have HO' := Lib.hid ho'
      have HP' := Lib.hid hp'
      clear hp' ho'
      go_wp2_with fail
      refine (pool_online gP K2 p (i : Int) 2 (.slice none 0 0) [] wr HM2.out (Its.nil_ _ _) (fun b o s n c e => (by injection e with e; cases e))).mono ?_
      rintro e w4 ⟨K4, rfl, hm4, hk4, ht4⟩
      rw [show onP p (i : Int) 2 [] = (0, p') from HP'.out] at hm4 ⊢
      have HS4 := Lib.hid (show ∃ K p, PoolMem w4 gP K p ∧ OnS p (i + 1) 0 ∧ (∀ k, K k → w.heap.size ≤ k) ∧ Below w.heap.size w w4 from
        ⟨K4, p', hm4, HO'.out, fun k hk => (hk4 k hk).elim (HK2.out k) (fun h => Nat.le_trans HB2.out.size h), HB2.out.trans (ht4.below HK2.out HB2.out.size)⟩)
      clear hm4 hk4 ht4
      go_wp2_with fail
      go_roundg (a - (i + 1))
      case measure => omega
      case rel =>
        obtain ⟨K, p, h1, h2, h3, h4⟩ := HS4.out
        exact ⟨i + 1, K, p, by omega, by go_num, h1, h2, h3, h4⟩
    · obtain rfl : i = a := by omega
      have t1 : decide ((i : Int) < (i : Int)) = false := decide_eq_false (by omega)
      obtain ⟨wA, rfl⟩ : ∃ wA, wA = wr := ⟨_, rfl⟩
      obtain ⟨gA, rfl⟩ : ∃ gA, gA = gk := ⟨_, rfl⟩
      go_wp2_with fail
      go_loopg [8] b (fun gg s8 wx => ∃ (j : Nat) (K : Nat → Prop) (p : PS), j + gg = b ∧ s8 = .int .i64 (j : Int) ∧ PoolMem wx gP K p ∧ OnS p i j ∧ (∀ k, K k → w.heap.size ≤ k) ∧ Below w.heap.size w wx)
      case atStart => exact ⟨0, K2, p, by omega, rfl, HM2.out, HO2.out, HK2.out, HB2.out⟩
      case round =>
        obtain ⟨j, K3, p3, hjg, rfl, hm3, ho3, hk3, hb3⟩ := hrel
        have HM3 := Lib.hid hm3
        have HO3 := Lib.hid ho3
        have HK3 := Lib.hid hk3
        have HB3 := Lib.hid hb3
        clear hm3 ho3 hk3 hb3
        by_cases hlt2 : j < b
        · have t2 : decide ((j : Int) < (b : Int)) = true := decide_eq_true (by omega)
          obtain ⟨p', hp', ho'⟩ := HO3.out.movable (by omega) (by omega)
          have HO' := Lib.hid ho'
          have HP' := Lib.hid hp'
          clear hp' ho'
          have e16 : (16 : Int) + (j : Int) = ((16 + j : Nat) : Int) := by omega
          have E16 := Lib.hid e16
          clear e16
          go_wp2_with fail
          rw [E16.out]
          refine (pool_online gP K3 p3 ((16 + j : Nat) : Int) 3 (.slice none 0 0) [] wr HM3.out (Its.nil_ _ _) (fun b o s n c e => (by injection e with e; cases e))).mono ?_
          rintro e w4 ⟨K4, rfl, hm4, hk4, ht4⟩
          rw [show onP p3 ((16 + j : Nat) : Int) 3 [] = (0, p') from HP'.out] at hm4 ⊢
          have HS4 := Lib.hid (show ∃ K p, PoolMem w4 gP K p ∧ OnS p i (j + 1) ∧ (∀ k, K k → w.heap.size ≤ k) ∧ Below w.heap.size w w4 from
            ⟨K4, p', hm4, HO'.out, fun k hk => (hk4 k hk).elim (HK3.out k) (fun h => Nat.le_trans HB3.out.size h), HB3.out.trans (ht4.below HK3.out HB3.out.size)⟩)
          clear hm4 hk4 ht4
          go_wp2_with fail
          go_roundg (b - (j + 1))
          case measure => omega
          case rel =>
            obtain ⟨K, p, h1, h2, h3, h4⟩ := HS4.out
            exact ⟨j + 1, K, p, by omega, by go_num, h1, h2, h3, h4⟩
        · obtain rfl : j = b := by omega
          have t2 : decide ((j : Int) < (j : Int)) = false := decide_eq_false (by omega)
          obtain ⟨wB, rfl⟩ : ∃ wB, wB = wr := ⟨_, rfl⟩
          obtain ⟨gB, rfl⟩ : ∃ gB, gB = gk := ⟨_, rfl⟩
          go_wp2_with fail
          refine (dnew_any 192 192 wB (by unfold NearD; omega)).mono ?_
          rintro e w5 ⟨rfl, hd5, hb5, hz5⟩
          obtain ⟨gD1, hgD⟩ : ∃ gD1, gD1 = wB.heap.size := ⟨_, rfl⟩
          rw [← hgD] at hd5 hz5 ⊢
          have lP := HM3.out.lt gP (by rw [HM3.out.1])
          have hKP := HM3.out.1
          rw [← hgD] at lP
          have HM5 := Lib.hid (HM3.out.fresh hb5)
          have HB5 := Lib.hid (HB3.out.trans (hb5.mono HB3.out.size))
          have HD5 := Lib.hid hd5
          have HKP := Lib.hid hKP
          have HLP := Lib.hid lP
          have HZ5 := Lib.hid hz5
          have HGD := Lib.hid hgD
          clear hd5 hb5 hz5 lP hKP hgD
          have HF5 := Lib.hid (show FrA w gD1 gP i j (w5.alloc (.cells ZW 73)) from by
            have hz := HZ5.out
            refine ⟨p3, _, _, fun _ => 0, ?_, HO3.out, HD5.out.alloc _, ⟨ZW, ?_, HZW.out.1, fun k hk => ⟨HZW.out.2 k hk, Nat.zero_lt_succ _⟩⟩, HB5.out.alloc (HB5.out.size) _, HK3.out gP (by rw [HKP.out]), HLP.out⟩
            · have := HM5.out.fresh ((Below.refl w5.heap.size w5).alloc (Nat.le_refl _) (.cells ZW 73))
              rwa [HKP.out] at this
            · rw [← hz]; exact Blk.new w5 _ _)
          have e5 : w5.heap.size = gD1 + 3 := HZ5.out
          have E5 := Lib.hid e5
          clear e5
          go_wp2_with fail
          rw [E5.out]
          go_loopg [11, 12] 64 (fun gg s11 _ wx => ∃ k : Nat, k + gg = 64 ∧ s11 = .int .i64 (k : Int) ∧ FrA w gD1 gP i j wx)
          case atStart => exact ⟨0, by omega, rfl, HF5.out⟩
          case round =>
            obtain ⟨k, hkg, rfl, hf6⟩ := hrel
            have HF6 := Lib.hid hf6
            clear hf6
            by_cases hlt3 : k < 64
            · have t3 : decide ((k : Int) < 64) = true := decide_eq_true (by omega)
              obtain ⟨wC, rfl⟩ : ∃ wC, wC = wr := ⟨_, rfl⟩
              obtain ⟨gC, rfl⟩ : ∃ gC, gC = gk := ⟨_, rfl⟩
              go_wp2_with fail
              go_loopg [12] 64 (fun gg s12 wx => ∃ l : Nat, l + gg = 64 ∧ s12 = .int .i64 (l : Int) ∧ FrA w gD1 gP i j wx)
              case atStart => exact ⟨0, by omega, rfl, HF6.out⟩
              case round =>
                obtain ⟨l, hlg, rfl, hf7⟩ := hrel
                have HF7 := Lib.hid hf7
                clear hf7
                by_cases hlt4 : l < 64
                · have t4 : decide ((l : Int) < 64) = true := decide_eq_true (by omega)
                  obtain ⟨q, hq⟩ : ∃ q : Nat, q = 2 + k * 64 + l := ⟨_, rfl⟩
                  obtain ⟨y, hy⟩ : ∃ y : Nat, y = 3 * k + l := ⟨_, rfl⟩
                  have hcf : wr.cell? ⟨gD1 + 3, 2 + k * 64 + l, none⟩ ≠ none ∧ wr.frozen? ⟨gD1 + 3, 2 + k * 64 + l, none⟩ = false := by
                    obtain ⟨p, S, L, F, h1, h2, h3, h4, h5, h6, h7⟩ := HF7.out
                    refine ⟨?_, h4.fz _⟩
                    rw [show 2 + k * 64 + l = k * 64 + l + 2 by omega, h4.at_ (by omega)]
                    exact fun e => by cases e
                  obtain ⟨hc, hfz⟩ := hcf
                  obtain ⟨u0, hc0⟩ := Option.ne_none_iff_exists'.1 hc
                  clear hc
                  have ey : (3 : Int) * (k : Int) + (l : Int) = (y : Int) := by omega
                  have hy2 : y < 256 := by omega
                  have HS7 := Lib.hid (HF7.out.set_ (k := k * 64 + l) (y := y) (by omega) hy2)
                  have HQ := Lib.hid hq
                  have HY := Lib.hid hy
                  clear hq hy
                  go_wp2_with fail
                  go_roundg (64 - (l + 1))
                  case measure => omega
                  case rel =>
                    refine ⟨l + 1, by omega, by go_num, ?_⟩
                    have := HS7.out
                    rwa [show k * 64 + l + 2 = 2 + k * 64 + l by omega] at this
                · obtain rfl : l = 64 := by omega
                  have t4 : decide ((64 : Int) < 64) = false := rfl
                  have hR := HF7.out
                  obtain ⟨p7, S7, L7, F7, a1, a2, a3, a4, a5, a6, a7⟩ := id hR
                  have hrow := rowF_length F7 (k * 64)
                  have hrb := a4.byte (a := k * 64) (by omega)
                  have hrg := a4.range_ (a := k * 64) (b := 2 + k * 64) (by omega) (by omega)
                  have hth := a4.there_ (a := 4096 + k * 64) (b := 4098 + k * 64) (by omega) (by omega)
                  have HC7 := Lib.hid ((hR.far ((Below.refl _ wr).drew)).cells (a := 4096 + k * 64) (b := 4098 + k * 64) (by omega) (by omega) hrow hrb)
                  obtain ⟨cs, hcs⟩ : ∃ cs, cs = (rowF F7 (k * 64)).map bv := ⟨_, rfl⟩
                  rw [← hcs] at hrg HC7
                  have hcl : cs.length = 64 := by rw [hcs, List.length_map, hrow]
                  have h1 : ∀ u ∈ cs, u.oneCell' = true := by rw [hcs]; exact map_bv_one _
                  have HK := Lib.hid (row_keeps (gD1 + 3) (2 + k * 64) (4098 + k * 64) cs hcl (by omega))
                  have hu := Tryz.underlying70
                  have hi : (Tryz.prog.info? 70).map (·.size) = some cs.length := by rw [Tryz.size64, hcl]
                  have t5 : (k : Int) < 64 := by omega
                  have t6 : (0 : Int) ≤ (k : Int) := by omega
                  clear hcs hR a1 a2 a3 a4 a5 a6 a7 hrow hrb
                  go_wp2_with fail
                  go_region_held3 (fun w' => w'.rangeAt (gD1 + 3) (2 + k * 64) cs ∧ w'.there (gD1 + 3) (4098 + k * 64) 64) (first | (go_split_ands; refine HK.out _ ?_ ?_ <;> first | assumption | (simp only [World.rangeAt_drew, World.there_drew, World.cell?_drew]; assumption)) | go_keep_ranges) (fail)
                  obtain ⟨W8, hW8⟩ : ∃ W8, W8 = wr.drew.setCells (gD1 + 3) (4098 + k * 64) cs := ⟨_, rfl⟩
                  rw [← hW8]
                  have HF8 := Lib.hid (show FrA w gD1 gP i j W8 from by rw [hW8]; exact HC7.out)
                  clear hW8 hrg hth hcl h1 hi
                  obtain ⟨p8, S8, L8, F8, b1, b2, b3, b4, b5, b6, b7⟩ := id HF8.out
                  have HX8 := Lib.hid (b4.bts (a := k * 64) (b := 2 + k * 64) (by omega) (by omega))
                  have HY8 := Lib.hid (b4.byte (a := k * 64) (by omega))
                  have hlt8 : gD1 + 3 < W8.heap.size := b4.lt
                  have HL8 := Lib.hid hlt8
                  have HE8 := Lib.hid (rowF_length F8 (k * 64))
                  obtain ⟨xs, hxs⟩ : ∃ xs, xs = rowF F8 (k * 64) := ⟨_, rfl⟩
                  rw [← hxs] at HX8 HY8 HE8
                  clear hxs b1 b2 b3 b4 b5 b6 b7 hlt8
                  obtain ⟨i0, hi, hz0, hz1, hz2⟩ := info_parts Tryz.info8
                  have HI := Lib.hid hi
                  have HZ0 := Lib.hid hz0
                  have HZ1 := Lib.hid hz1
                  have HZ2 := Lib.hid hz2
                  clear hi hz0 hz1 hz2
                  have HN8 := Lib.hid (own_empty W8 5)
                  have HC8 := Lib.hid (show Below W8.heap.size W8 (W8.alloc (.cells #[] 5)) from (Below.refl _ _).alloc (Nat.le_refl _) _)
                  have e96 : (96 : Int) + (k : Int) = ((96 + k : Nat) : Int) := by omega
                  have E96 := Lib.hid e96
                  clear e96
                  go_wp2_with (at_builtin; refine wpList_append_bts rfl (.tmp 69) (.tmp 75) 22 rfl W8.heap.size 5 i0 Tryz.underlying22 HI.out HZ0.out HZ1.out HZ2.out _ 0 [] rfl HN8.out _ xs rfl (gD1 + 3 + 1) (HX8.out.below (HC8.out.mono (by have := HL8.out; omega))) (by have := HE8.out; omega) HC8.out.size ?_; intro v9 w9 O9 B9)
                  rw [E96.out]
                  have HB9 := Lib.hid (HC8.out.trans B9.out)
                  have HF9 := Lib.hid (HF8.out.far HB9.out)
                  obtain ⟨p9, S9, L9, F9, b1, b2, b3, b4, b5, b6, b7⟩ := id HF9.out
                  have hsz : gD1 + 2 < W8.heap.size := by have := HL8.out; omega
                  refine (dwrite_yes _ _ _ _ _ _ _ (96 + k) v9 xs w9 b3 (by omega) none_ans (fun w' ho => ⟨w'.heap.size, ?_, ?_⟩) HE8.out).mono ?_
                  · exact Bts.of_own (own_off (by simpa using O9.out) (fun g hg hl => ho.1.block g hl (fun e => by injection e with e; omega))) HY8.out
                  · rw [ho.2]; exact Nat.le_refl _
                  rintro e w10 ⟨rfl, hd, ht, hz⟩
                  have HF10 := Lib.hid (show FrA w gD1 gP i j w10 from by
                    have hnd : ∀ q, dk (gD1 + 2) gD1 (gD1 + 1) q → gD1 ≤ q ∧ q ≤ gD1 + 2 := by
                      rintro q (rfl | rfl | rfl) <;> omega
                    refine ⟨p9, _, _, F9, b1.far (fun q hq => ?_), b2, by rw [none_next] at hd; exact hd, b4.far (ht.block _ b4.lt (fun hq => by have := hnd _ hq; omega)), b5.trans (ht.below (fun q hq => by have := hnd q hq; omega) b5.size), b6, b7⟩
                    subst hq
                    exact ht.block _ (b1.lt _ rfl) (fun hq => by have := hnd _ hq; omega))
                  clear b1 b2 b3 b4 b5 b6 b7 hd ht hz hsz O9 B9
                  go_wp2_with fail
                  go_roundg (64 - (k + 1))
                  case measure => omega
                  case rel => exact ⟨k + 1, by omega, by go_num, HF10.out⟩
            · obtain rfl : k = 64 := by omega
              have t3 : decide ((64 : Int) < 64) = false := rfl
              obtain ⟨p8, S8, L8, F8, b1, b2, b3, b4, b5, b6, b7⟩ := HF6.out
              have H1 := Lib.hid b1
              have H2 := Lib.hid b2
              have H3 := Lib.hid b3
              have H4 := Lib.hid b4
              have H5 := Lib.hid b5
              have H6 := Lib.hid b6
              have H7 := Lib.hid b7
              clear b1 b2 b3 b4 b5 b6 b7
              go_wp2_with fail
              refine (dflush_yes _ _ _ _ _ _ _ wr H3.out none_ans).mono ?_
              rintro e w11 ⟨rfl, hd, ht⟩
              rw [none_next] at hd
              have hnd : ∀ q, dk (gD1 + 2) gD1 (gD1 + 1) q → gD1 ≤ q ∧ q ≤ gD1 + 2 := by
                rintro q (rfl | rfl | rfl) <;> omega
              have HN := Lib.hid hnd
              have HP11 := Lib.hid (H1.out.far (fun q hq => by subst hq; exact ht.block _ (H1.out.lt _ rfl) (fun hq => by have := hnd _ hq; have := H7.out; omega)))
              have HB11 := Lib.hid (H5.out.trans (ht.below (fun q hq => by have := hnd q hq; have := H6.out; have := H7.out; omega) H5.out.size))
              have HD11 := Lib.hid hd
              clear hd ht hnd
              go_wp2_with fail
              refine (new_any 1024 1024 w11 (by unfold Near; omega)).mono ?_
              rintro e w12 ⟨rfl, hm, hb, hz⟩
              have HP12 := Lib.hid (HP11.out.fresh hb)
              have HD12 := Lib.hid (HD11.out.fresh hb)
              have HB12 := Lib.hid (HB11.out.trans (hb.mono HB11.out.size))
              have HM12 := Lib.hid hm
              have hl11 := HD11.out.lt
              have HL11 := Lib.hid hl11
              clear hm hb hz hl11
              go_wp2_with fail
              refine (space_new (32 * i) (32 * j) w12 (w11.heap.size + 1) w11.heap.size (gD1 + 2) gD1 (gD1 + 1) gP _ _ _ _ _ HM12.out HD12.out HP12.out ?_ ?_ (by rw [H2.out.cnt2 ha hb]; exact Nat.le_refl _) (by rw [H2.out.cnt3 ha hb]; exact Nat.le_refl _)).mono ?_
              · have h7 := H7.out
                have hl := HL11.out
                intro q hq
                refine ⟨fun hd => ?_, fun hp => ?_⟩
                · have := HN.out q hd
                  omega
                · subst hp
                  omega
              · intro q hq hp
                have := HN.out q hq
                have := H7.out
                subst hp
                omega
              rintro e w13 ⟨gS, K, rfl, hs, hk, hb⟩
              have HS13 := Lib.hid hs
              have HK13 := Lib.hid (show ∀ q, K q → w.heap.size ≤ q from fun q hq => by
                have h5 := HB11.out.size
                have h6 := H6.out
                have h7 := H7.out
                have h8 := HB12.out.size
                rcases hk q hq with r | r | r | r | r
                · omega
                · omega
                · have := HN.out q r
                  omega
                · subst r
                  omega
                · omega)
              have HB13 := Lib.hid (HB12.out.trans (hb.mono HB12.out.size))
              clear hs hk hb
              go_wp2_with fail
              go_ret2
              exact ⟨gS, _, K, _, rfl, HS13.out, HK13.out, HB13.out⟩
end Go.Proofs.YtgjkdnpidobabaaGreat

namespace Go.Proofs.YtgjkdnpidobabaaGreat
open Go.RowKit
set_option linter.unusedVariables false

def SpT (w wx : World) (gS : Nat) (W : UW) (nr mv u : Nat) (H : List (Value × List Nat)) (L : List (Nat × TypeId × Array Value)) : Prop :=
  ∃ K : Nat → Prop, SpcMem wx gS K W nr mv u ∧ (∀ k, K k → w.heap.size ≤ k) ∧ Below w.heap.size w wx ∧ (∀ x ∈ H, Bts wx wx.heap.size x.1 x.2 ∧ Off K x.1) ∧ ∀ y ∈ L, Blk wx y.1 y.2.1 y.2.2 ∧ ¬ K y.1
def TPost (w : World) (gS : Nat) (v : Value) (W' : UW) (nr mv u : Nat) (H : List (Value × List Nat)) (L : List (Nat × TypeId × Array Value)) (e : Ending) (w' : World) : Prop := e = .returned v ∧ SpT w w' gS W' nr mv u H L
theorem Bts.keepK {wx w' : World} {K K' : Nat → Prop} {v : Value} {b : List Nat} (h : Bts wx wx.heap.size v b) (ho : Off K v) (ht : Turns K wx w') (hk : ∀ k, K' k → K k ∨ wx.heap.size ≤ k) : Bts w' w'.heap.size v b ∧ Off K' v := by
  obtain ⟨A, n, c, rfl, hl, h1, h2, h3, h4, h5⟩ := h
  constructor
  · refine ⟨A, n, c, rfl, hl, h1, h2, h3, h4, fun hn => ?_⟩
    obtain ⟨bk, off, rfl, hb, hc⟩ := h5 hn
    refine ⟨bk, off, rfl, Nat.lt_of_lt_of_le hb ht.size, fun j hj => ?_⟩
    rw [World.cell?_of_block (ht.block bk hb (ho bk off none n c rfl hn))]
    exact hc j hj
  · intro bk o s n' c' e hn hK
    injection e with e1 e2 e3
    subst e1 e2 e3
    obtain ⟨bk', off, e4, hb, hc⟩ := h5 hn
    injection e4 with e4
    injection e4 with e5 e6 e7
    subst e5 e6 e7
    rcases hk _ hK with r | r
    · exact ho _ _ _ _ _ rfl hn r
    · omega
theorem Bts.off {w : World} {B : Nat} {v : Value} {b : List Nat} {K : Nat → Prop} (h : Bts w B v b) (hK : ∀ k, K k → B ≤ k) : Off K v := by
  intro bk o s n c e hn hk
  have h1 := hK bk hk
  obtain ⟨A', n', c2, e2, _, _, _, _, _, h2⟩ := h
  rw [e] at e2
  injection e2 with e3 e4 e5
  subst e4
  obtain ⟨bk', off, e6, hb, hc⟩ := h2 hn
  rw [e6] at e3
  injection e3 with e3
  injection e3 with e7 e8 e9
  omega
theorem Blk.keepK {wx w' : World} {K K' : Nat → Prop} {g : Nat} {t : TypeId} {cs : Array Value} (h : Blk wx g t cs) (ho : ¬ K g) (ht : Turns K wx w') (hk : ∀ k, K' k → K k ∨ wx.heap.size ≤ k) : Blk w' g t cs ∧ ¬ K' g := by
  refine ⟨ht.blk h ho, fun hg => ?_⟩
  have := h.lt
  rcases hk _ hg with r | r
  · exact ho r
  · omega
section
variable {w wx wy : World} {gS : Nat} {W W' : UW} {nr mv u nr' mv' u' : Nat} {H : List (Value × List Nat)} {L : List (Nat × TypeId × Array Value)} {v : Value} {b ys : List Nat}
theorem SpT.below (h : SpT w wx gS W nr mv u H L) : Below w.heap.size w wx := by
  obtain ⟨K, _, _, h3, _⟩ := h
  exact h3
theorem SpT.bts (h : SpT w wx gS W nr mv u H L) {x : Value × List Nat} (hx : x ∈ H) : Bts wx wx.heap.size x.1 x.2 := by
  obtain ⟨K, _, _, _, h4, _⟩ := h
  exact (h4 x hx).1
theorem SpT.blk (h : SpT w wx gS W nr mv u H L) {g : Nat} {t : TypeId} {cs : Array Value} (hx : (g, t, cs) ∈ L) : Blk wx g t cs := by
  obtain ⟨K, _, _, _, _, h5⟩ := h
  exact (h5 _ hx).1
theorem SpT.fresh (h : SpT w wx gS W nr mv u H L) (hb : Below wx.heap.size wx wy) : SpT w wy gS W nr mv u H L := by
  obtain ⟨K, h1, h2, h3, h4, h5⟩ := h
  exact ⟨K, h1.fresh hb, h2, h3.trans (hb.mono h3.size), fun x hx => ⟨((h4 x hx).1.below hb).more hb.size, (h4 x hx).2⟩, fun y hy => ⟨(h5 y hy).1.below hb (h5 y hy).1.lt, (h5 y hy).2⟩⟩
theorem SpT.made (h : SpT w wx gS W nr mv u H L) (t : TypeId) (cs : Array Value) : SpT w (wx.alloc (.cells cs t)) gS W nr mv u H ((wx.heap.size, t, cs) :: L) := by
  have hl : ∀ K, SpcMem wx gS K W nr mv u → ¬ K wx.heap.size := fun K h1 hk => Nat.lt_irrefl _ (h1.lt _ hk)
  obtain ⟨K, h1, h2, h3, h4, h5⟩ := h.fresh ((Below.refl wx.heap.size wx).alloc (Nat.le_refl _) (.cells cs t))
  obtain ⟨K0, k1, k2, k3, k4, k5⟩ := h
  have hb := (Below.refl wx.heap.size wx).alloc (Nat.le_refl _) (.cells cs t)
  refine ⟨K0, k1.fresh hb, k2, k3.trans (hb.mono k3.size), fun x hx => ⟨((k4 x hx).1.below hb).more hb.size, (k4 x hx).2⟩, fun y hy => ?_⟩
  rcases List.mem_cons.1 hy with rfl | hy
  · exact ⟨Blk.new wx t cs, hl _ k1⟩
  · exact ⟨(k5 y hy).1.below hb (k5 y hy).1.lt, (k5 y hy).2⟩
theorem SpT.of_post {K : Nat → Prop} {e : Ending} (h1 : SpcMem wx gS K W nr mv u) (h2 : ∀ k, K k → w.heap.size ≤ k) (h3 : Below w.heap.size w wx) (h4 : ∀ x ∈ H, Bts wx wx.heap.size x.1 x.2 ∧ Off K x.1) (h5 : ∀ y ∈ L, Blk wx y.1 y.2.1 y.2.2 ∧ ¬ K y.1)
    (hp : SpPost wx gS K v W' nr' mv' u' e wy) : TPost w gS v W' nr' mv' u' H L e wy := by
  obtain ⟨K', rfl, k1, k2, k3⟩ := hp
  exact ⟨rfl, K', k1, fun k hk => (k2 k hk).elim (h2 k) (fun r => Nat.le_trans h3.size r), h3.trans (k3.below h2 h3.size), fun x hx => (h4 x hx).1.keepK (h4 x hx).2 k3 k2, fun y hy => (h5 y hy).1.keepK (h5 y hy).2 k3 k2⟩
theorem t_of {P : Program} {f : FuncId} {args : Array Value} (h : SpT w wx gS W nr mv u H L) (c : ∀ K, SpcMem wx gS K W nr mv u → Calls P f args wx (SpPost wx gS K v W' nr' mv' u')) :
    Calls P f args wx (TPost w gS v W' nr' mv' u' H L) := by
  obtain ⟨K, h1, h2, h3, h4, h5⟩ := h
  exact (c K h1).mono fun e w' hp => SpT.of_post h1 h2 h3 h4 h5 hp
theorem t_in {P : Program} {f : FuncId} {args : Array Value} {vb : Value} (h : SpT w wx gS W nr mv u H L) (hb : Bts w w.heap.size vb b) (c : ∀ K, SpcMem wx gS K W nr mv u → Bts wx wx.heap.size vb b → Off K vb → Calls P f args wx (SpPost wx gS K v W' nr' mv' u')) :
    Calls P f args wx (TPost w gS v W' nr' mv' u' H L) := by
  obtain ⟨K, h1, h2, h3, h4, h5⟩ := h
  exact (c K h1 ((hb.below h3).more h3.size) (hb.off h2)).mono fun e w' hp => SpT.of_post h1 h2 h3 h4 h5 hp
theorem t_new {P : Program} {f : FuncId} {args : Array Value} {vb : Value} (h : SpT w wx gS W nr mv u H L) (hy : Below wx.heap.size wx wy) (hb : Bts wy wy.heap.size vb b) (hn : ∀ bk o s n c, vb = .slice (some ⟨bk, o, s⟩) n c → wx.heap.size ≤ bk)
    (c : ∀ K, SpcMem wy gS K W nr mv u → Bts wy wy.heap.size vb b → Off K vb → Calls P f args wy (SpPost wy gS K v W' nr' mv' u')) :
    Calls P f args wy (TPost w gS v W' nr' mv' u' H L) := by
  obtain ⟨K, h1, h2, h3, h4, h5⟩ := h
  have k := h1.lt
  refine (c K (h1.fresh hy) hb (fun bk o s n c e _ hk => ?_)).mono fun e w' hp => SpT.of_post (h1.fresh hy) h2 (h3.trans (hy.mono h3.size)) (fun x hx => ⟨((h4 x hx).1.below hy).more hy.size, (h4 x hx).2⟩) (fun y hy' => ⟨(h5 y hy').1.below hy (h5 y hy').1.lt, (h5 y hy').2⟩) hp
  have := hn _ _ _ _ _ e
  have := k _ hk
  omega
def TLoad (w : World) (gS : Nat) (ys : List Nat) (W' : UW) (nr mv u : Nat) (H : List (Value × List Nat)) (L : List (Nat × TypeId × Array Value)) (e : Ending) (w' : World) : Prop := ∃ v, e = .returned (.tuple #[v, .int .i64 0]) ∧ SpT w w' gS W' nr mv u ((v, ys) :: H) L
theorem t_load {P : Program} {f : FuncId} {args : Array Value} (h : SpT w wx gS W nr mv u H L) (c : ∀ K, SpcMem wx gS K W nr mv u → Calls P f args wx (SpLoad wx gS K ys W' nr' mv' u')) :
    Calls P f args wx (TLoad w gS ys W' nr' mv' u' H L) := by
  obtain ⟨K, h1, h2, h3, h4, h5⟩ := h
  refine (c K h1).mono fun e w' hp => ?_
  obtain ⟨v, K', rfl, k1, k2, k3, k4, k5⟩ := hp
  refine ⟨v, rfl, K', k1, fun k hk => (k2 k hk).elim (h2 k) (fun r => Nat.le_trans h3.size r), h3.trans (k3.below h2 h3.size), fun x hx => ?_, fun y hy => (h5 y hy).1.keepK (h5 y hy).2 k3 k2⟩
  rcases List.mem_cons.1 hx with rfl | hx
  · exact ⟨k4, k5⟩
  · exact (h4 x hx).1.keepK (h4 x hx).2 k3 k2
theorem SpT.begin {e : Ending} (h : FreshPost w nr mv e wx) : ∃ (gS gW : Nat) (fl : Nat → Nat → Nat), e = .returned (.tuple #[.pointer (some ⟨gS, 0, none⟩), .pointer (some ⟨gW, 0, none⟩)]) ∧ SpT w wx gS (uw0 fl) nr mv 0 [] [] := by
  obtain ⟨gS, gW, K, fl, rfl, h1, h2, h3⟩ := h
  exact ⟨gS, gW, fl, rfl, K, h1, h2, h3, fun x hx => absurd hx List.not_mem_nil, fun x hx => absurd hx List.not_mem_nil⟩
end
theorem wf64 {n : Int} (h1 : -9223372036854775808 ≤ n) (h2 : n ≤ 9223372036854775807) : (Lit.int .i64 n).wf = true := by
  simp only [Lit.wf, Bool.and_eq_true, decide_eq_true_eq]
  constructor
  · simp only [IntKind.min, IntKind.signed, IntKind.bits]
    simp
    omega
  · simp only [IntKind.max, IntKind.signed, IntKind.bits]
    simp
    omega
theorem uw0_pr (fl : Nat → Nat → Nat) (n : Nat) : (uw0 fl).pr n = none := rfl
theorem spawn_pr (W : UW) (n : Nat) : (spawnU W n).pr n = some ⟨[], []⟩ := upd_same _ _ _
theorem ars_pr {W : UW} {n : Nat} {p : Prc} (h : W.pr n = some p) (l : List Ar) : (arsU W n l).pr n = some ⟨l, p.sg⟩ := by
  unfold arsU
  simp only [h, Option.map_some]
  exact upd_same _ _ _
theorem ars_ne (W : UW) {n m : Nat} (l : List Ar) (h : m ≠ n) : (arsU W n l).pr m = W.pr m := upd_other _ _ _ h
theorem ars_one {W : UW} {n : Nat} {p : Prc} (h : W.pr n = some p) (a : Ar) : One (arsU W n [a]) n a := ⟨_, ars_pr h _, rfl⟩
theorem space_map1 {w : World} {gS : Nat} {K : Nat → Prop} {W : UW} {nr mv u : Nat} (n : Nat) (s : List Int) (a : Ar) (wa : WAr' a) (hs : soundA a) (hp : W.pr n = some ⟨[], s⟩) (h : SpcMem w gS K W nr mv u) :
    Calls Tryz.prog 12 #[.pointer (some ⟨gS, 0, none⟩), .int .i64 (n : Int), .agg (arL a).toArray] w (SpPost w gS K (.int .i64 0) (arsU W n [a]) nr mv u) := by
  have e : addE ([] : List Ar) a = 0 := by
    unfold addE
    rw [if_pos hs, if_neg, if_neg]
    · simp
    · simp [inA]
  have := space_map gS K W nr mv u w n _ a wa hp h
  simp only [e, if_true] at this
  exact this
end Go.Proofs.YtgjkdnpidobabaaGreat


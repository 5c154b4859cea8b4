/-
  TreeTwo answers true: two trees over one pool have nothing in common.
  Conditions: the acts are read in memory.
-/
import Derived.Test.YtegoookllckhiaaTreB
import Derived.StillTailTactics
namespace Go.Proofs.Ytegoookllckhiaa
open Go.RowKit
set_option linter.unusedVariables false
attribute [local irreducible] ps0 badU spanU

theorem first1 {p : PS} {n : Nat} (h : OnN p n) (hn : 0 < n) : FirstF ⟨p.u.set 0 2, p.z, p.i⟩ 2 (2 ^ 0) (some 1) := by
  refine ⟨⟨rfl, by omega, by show p.z.getD (1 / 32) 0 = 2; rw [h.z _ (by omega), if_pos (by omega)], h.i _ (by omega), fun k h1 h2 => ?_⟩, fun g hg hr => ?_⟩
  · have : k = 1 := by
      have : k < 1 + 1 := h2
      omega
    subst this
    show (p.u.set 0 2).getD 1 0 = 1
    rw [getD_set_ne _ _ _ _ _ (by omega), h.u 1 (by omega), if_pos (by omega)]
  · have : g = 0 := by omega
    subst this
    have := hr.2.2.2.2 0 (Nat.le_refl _) (by show 0 < 0 + 1; omega)
    rw [show (PS.u ⟨p.u.set 0 2, p.z, p.i⟩) = p.u.set 0 2 from rfl, getD_set_same _ _ _ _ (by rw [h.ok.u]; omega)] at this
    omega
theorem two_new {w0 w : World} {gT gR gF gP r : Nat} {F : Nat → List Nat} {bad : Nat → Bool} {p : PS} {s : TS} (h : TreT w0 w gT gR gF gP F bad p s) (hb : NoBad bad) (hl : s.live = true) (hr : FirstF p 2 (2 ^ 0) (some r)) :
    Calls Try.prog 10 #[.pointer (some ⟨gR, 0, none⟩), .pointer (some ⟨gP, 0, none⟩)] w fun e w' => ∃ gU p', e = .returned (.tuple #[.pointer (some ⟨gU, 0, none⟩), .int .i64 0]) ∧ TwoT w0 w' gT gU p' s ⟨List.replicate 4096 en0, [r], true⟩ w'.heap.size w'.heap.size := by
  obtain ⟨K, KT, h1, h2, h3, h4, h5, h6, h7, h8, h9⟩ := h
  refine (tree_new gR gF gP K F bad p w h1 h2 h4.1 h4.2.1 hb).mono ?_
  rintro e w' ⟨r', hr', hp⟩
  obtain rfl := hr'.uniq hr
  obtain ⟨gU, F', K', KU, rfl, k1, k2, k3, k4, k5, k6, k7, k8⟩ := hp
  have hrl : r < 1024 := hr.1.2.1
  have hru : p.u.getD r 0 = 1 := hr.1.2.2.2.2 r (Nat.le_refl _) (by show r < r + 1; omega)
  have hnr : ∀ f ∈ s.t, f ≠ r := fun f hf e => by
    have := h9 f hf
    rw [e, hru] at this
    omega
  have hs0 := h8.size
  have hT : TreeMem w' gT KT gR gP F' s := (h3.frames (fun f hf => k7 f (hnr f hf))).far (fun q hq => k8.block q (h3.lt q hq) (by
    rintro (hk | hk)
    · exact h4.2.2.2.2 q hk hq
    · exact h4.2.2.2.1 (hk ▸ hq)))
  refine ⟨gU, ⟨p.u.set r 2, p.z, p.i⟩, rfl, gR, gF, gP, F', bad, K', KT, KU, k1, k2, hT, k3, ⟨k4.1, k4.2.1, h4.2.2.1, h4.2.2.2.1, fun q hq hq2 => ?_⟩, k4, fun q hq hq2 => ?_, fun q hq => ?_, h8.trans (k8.below (fun q hq => ?_) hs0), fun f hf => ?_, fun f hf => ?_, fun f hf hf2 => hnr f hf (List.mem_singleton.1 hf2), hb, hl, rfl, Nat.le_refl _⟩
  · rcases k5 q hq with h | h
    · exact h4.2.2.2.2 q h hq2
    · have := h3.lt q hq2; omega
  · have := h3.lt q hq
    have := k6 q hq2
    omega
  · refine ⟨?_, by omega⟩
    rcases hq with hq | hq | hq | hq
    · rcases k5 q hq with h | h
      · exact h5 q (.inl h)
      · omega
    · exact h5 q (.inr hq)
    · have := k6 q hq; omega
    · rcases hq with hq | hq
      · rw [hq]; exact h7
      · rw [hq]; exact h6
  · rcases hq with hq | hq
    · exact h5 q (.inl hq)
    · rw [hq]; exact h7
  · show (p.u.set r 2).getD f 0 = 2
    rw [getD_set_ne _ _ _ _ _ (hnr f hf)]
    exact h9 f hf
  · show (p.u.set r 2).getD f 0 = 2
    rw [List.mem_singleton.1 hf, getD_set_same _ _ _ _ (by rw [h2.ok.u]; exact hrl)]
theorem TwoT.mid {w0 w w' : World} {gT gU : Nat} {p : PS} {s u : TS} {B B' : Nat} (h : TwoT w0 w gT gU p s u B B') (hb : Below w.heap.size w w') : TwoT w0 w' gT gU p s u w.heap.size w'.heap.size := by
  have hf := h.fresh hb
  obtain ⟨gR, gF, gP, F, bad, K, KT, KU, h1, h2, h3, h4, h5, h6, h7, h8, h9, h10⟩ := h
  refine ⟨gR, gF, gP, F, bad, K, KT, KU, h1.below hb h1.lt.1 h1.lt.2, h2.fresh hb, h3.fresh hb, h4.fresh hb, h5, h6, h7, fun k hk => ⟨(h8 k hk).1, .inl ?_⟩, h9.trans (hb.mono h9.size), h10.1, h10.2.1, h10.2.2.1, h10.2.2.2.1, h10.2.2.2.2.1, h10.2.2.2.2.2.1, Nat.le_refl _⟩
  rcases hk with hk | hk | hk | hk
  · exact h2.lt k hk
  · exact h3.lt k hk
  · exact h4.lt k hk
  · rcases hk with hk | hk
    · rw [hk]; exact h1.lt.2
    · rw [hk]; exact h1.lt.1
theorem TwoT.arr {w0 w : World} {gT gU g : Nat} {p : PS} {s u : TS} {B0 B1 : Nat} (h : TwoT w0 w gT gU p s u B0 B1) (hg0 : B0 ≤ g) (hg1 : g < B1) (hg2 : w0.heap.size ≤ g) (i : Nat) (v : Value) : TwoT w0 (w.setCell ⟨g, i, none⟩ v) gT gU p s u B0 B1 := by
  have ho := (Only.refl g w).setCell i v
  obtain ⟨gR, gF, gP, F, bad, K, KT, KU, h1, h2, h3, h4, h5, h6, h7, h8, h9, h10⟩ := h
  have hn : ∀ k, K k ∨ KT k ∨ KU k ∨ k = gF ∨ k = gR → k ≠ g := fun k hk e => by have := (h8 k hk).2; omega
  have hfar : ∀ k, k ≠ g → k < w.heap.size → (w.setCell ⟨g, i, none⟩ v).heap[k]? = w.heap[k]? := fun k hk hl => ho.1.block k hl (fun e => hk (Option.some.inj e))
  exact ⟨gR, gF, gP, F, bad, K, KT, KU, h1.far (hfar _ (hn gR (.inr (.inr (.inr (.inr rfl))))) h1.lt.1) (hfar _ (hn gF (.inr (.inr (.inr (.inl rfl))))) h1.lt.2), h2.far (fun k hk => hfar k (hn k (.inl hk)) (h2.lt k hk)), h3.far (fun k hk => hfar k (hn k (.inr (.inl hk))) (h3.lt k hk)), h4.far (fun k hk => hfar k (hn k (.inr (.inr (.inl hk)))) (h4.lt k hk)), h5, h6, h7, h8, h9.setCell (p := ⟨g, i, none⟩) hg2 v, h10.1, h10.2.1, h10.2.2.1, h10.2.2.2.1, h10.2.2.2.2.1, h10.2.2.2.2.2.1, by have := h10.2.2.2.2.2.2; simpa using this⟩
theorem TwoT.dis {w0 w : World} {gT gU : Nat} {p : PS} {s u : TS} {B0 B1 : Nat} (h : TwoT w0 w gT gU p s u B0 B1) : ∀ f ∈ s.t, f ∉ u.t := by
  obtain ⟨gR, gF, gP, F, bad, K, KT, KU, h1, h2, h3, h4, h5, h6, h7, h8, h9, h10, h11, h12, h13⟩ := h
  exact h12
theorem ArrE.cut_ {w : World} {g g' i : Nat} {v : Value} {e : List En} (h : ArrE w g e) (hg : g ≠ g') : ArrE (w.setCell ⟨g', i, none⟩ v) g e :=
  h.far (((Only.refl g' w).setCell i v).1.block g h.lt (fun e => hg (Option.some.inj e)))
/-- Both arrays, and the trees that have just what they have. -/
def Pair (w0 w : World) (gT gU gX gY : Nat) : Prop := ∃ p s u, TwoT w0 w gT gU p s u gX (gX + 2) ∧ gY = gX + 1 ∧ w0.heap.size ≤ gX ∧ ArrE w gX s.e ∧ ArrE w gY u.e
set_option maxRecDepth 20000 in
set_option maxHeartbeats 400000 in
theorem treeTwo_edge (A A' : Option Addr) (l c l' c' : Nat) (w : World) (h : 20 < l ∨ 20 < l') :
    Calls Try.prog 5 #[.slice A l c, .slice A' l' c'] w fun e w' => e = .returned (.bool true) ∧ Below w.heap.size w w' := by
  by_cases h1 : 20 < l
  · have t1 : decide ((20 : Int) < (l : Int)) = true := decide_eq_true (by omega)
    clear h
    go_enter Try.func5, Try.ntmps5
    go_wp2_with fail
    refine (treAnswers_any _).mono ?_
    rintro e w1 ⟨rfl, hb⟩
    go_wp2
    go_ret
    exact ⟨rfl, hb⟩
  · have t1 : decide ((20 : Int) < (l : Int)) = false := decide_eq_false (by omega)
    have t2 : decide ((20 : Int) < (l' : Int)) = true := decide_eq_true (by omega)
    clear h
    go_enter Try.func5, Try.ntmps5
    go_wp2_with fail
    refine (treAnswers_any _).mono ?_
    rintro e w1 ⟨rfl, hb⟩
    go_wp2
    go_ret
    exact ⟨rfl, hb⟩
set_option maxRecDepth 20000 in
set_option maxHeartbeats 6400000 in
theorem treeTwo_any (v1 v2 : Value) (la lb : List Act12) (w : World) (h1 : Acts12 w v1 la) (h2 : Acts12 w v2 lb) (hl1 : la.length ≤ 20) (hl2 : lb.length ≤ 20) :
    Calls Try.prog 5 #[v1, v2] w fun e w' => e = .returned (.bool true) ∧ Below w.heap.size w w' := by
  obtain ⟨A1, N1, c1, rfl, hN1, -, hz1⟩ := h1
  obtain ⟨A2, N2, c2, rfl, hN2, -, hz2⟩ := h2
  have HZ1 := Lib.hid hz1
  have HZ2 := Lib.hid hz2
  have HN1 := Lib.hid hN1
  have HN2 := Lib.hid hN2
  have hN20 : N1 ≤ 20 := by omega
  have hN21 : N2 ≤ 20 := by omega
  have t1 : decide ((20 : Int) < (N1 : Int)) = false := decide_eq_false (by omega)
  have t2 : decide ((20 : Int) < (N2 : Int)) = false := decide_eq_false (by omega)
  obtain ⟨Z, hZ, hzr⟩ := zero_arr
  have HZZ := Lib.hid hZ
  clear hl1 hl2 hN1 hN2 hz1 hz2 hZ
  go_enter Try.func5, Try.ntmps5
  go_wp2_with fail
  refine (parts_any 8 w w (by omega) (Below.refl _ _)).mono ?_
  rintro e w1 ⟨gR, gF, gP, p0, rfl, hp, hon, hb1⟩
  have HON := Lib.hid hon
  have HN0 := Lib.hid (tt_new hp nobad0 hon.all (hon.first (by omega)))
  clear hp hon hb1
  go_wp2_with fail
  refine HN0.out.mono ?_
  rintro e w2 ⟨gT, F', rfl, h2, _⟩
  have HN3 := Lib.hid (two_new h2 nobad0 rfl (first1 HON.out (by omega)))
  clear h2
  go_wp2_with fail
  refine HN3.out.mono ?_
  rintro e w3 ⟨gU, p3, rfl, h3⟩
  have hs3 : w.heap.size ≤ w3.heap.size := h3.bel.size
  have hm4 := h3.mid ((Below.refl w3.heap.size w3).alloc (Nat.le_refl _) (.cells Z 36))
  have hb4 := bel_al (bel_al (Below.refl w3.heap.size w3) (.cells Z 36)) (.cells Z 36)
  have hm5 := h3.mid hb4
  have hsz5 : ((w3.alloc (.cells Z 36)).alloc (.cells Z 36)).heap.size = w3.heap.size + 2 := by simp
  rw [hsz5] at hm5
  obtain ⟨gX, hgX⟩ : ∃ gX, gX = w3.heap.size := ⟨_, rfl⟩
  have H5 := Lib.hid (show Pair w ((w3.alloc (.cells Z 36)).alloc (.cells Z 36)) gT gU w3.heap.size (w3.heap.size + 1) from ⟨_, _, _, hm5, rfl, hs3, (ArrE.new HZZ.out w3).fresh (bel_al (Below.refl _ _) _), by
    have h := ArrE.new HZZ.out (w3.alloc (.cells Z 36))
    rwa [show (w3.alloc (.cells Z 36)).heap.size = w3.heap.size + 1 by simp] at h⟩)
  clear hgX hm4 hb4 hm5 hsz5 h3
  go_wp2_with fail
  go_loopg [13] 20 (fun gg s13 wx => ∃ i : Nat, i + gg = 20 ∧ s13 = .int .i64 (i : Int) ∧ Pair w wx gT gU w3.heap.size (w3.heap.size + 1))
  case atStart => exact ⟨0, by omega, rfl, H5.out⟩
  case round =>
    obtain ⟨i, hig, rfl, p, s, u, hT, _, hgX, hX, hY⟩ := hrel
    have T := Lib.hid hT
    have X := Lib.hid hX
    have Y := Lib.hid hY
    clear hT hX hY
    obtain ⟨gX, hgX2⟩ : ∃ gX, gX = w3.heap.size := ⟨_, rfl⟩
    by_cases hex : i < N1 ∨ i < N2
    · have hi20 : i < 20 := by omega
      by_cases hA : i < N1
      · have tA1 : decide ((i : Int) < (N1 : Int)) = true := decide_eq_true (by omega)
        have tA2 : (i : Int) < (N1 : Int) := by omega
        obtain ⟨bA, oA, rfl, hpa⟩ := HZ1.out (by omega)
        obtain ⟨ac, hac⟩ : ∃ ac, la[i]? = some ac := ⟨_, List.getElem?_eq_getElem (by rw [HN1.out]; exact hA)⟩
        obtain ⟨hbl, c0, c1, c2, c3⟩ := hpa i ac hac
        obtain ⟨pgA, kA, nA, onA⟩ := ac
        simp only at c0 c1 c2 c3
        have KPA := Lib.hid (fun (W : World) (hW : Below w.heap.size w W) => (⟨(hW.cell (p := ⟨bA, oA + i * 4, none⟩) hbl).trans c0, (hW.cell (p := ⟨bA, oA + i * 4 + 1, none⟩) hbl).trans c1, (hW.cell (p := ⟨bA, oA + i * 4 + 2, none⟩) hbl).trans c2, (hW.cell (p := ⟨bA, oA + i * 4 + 3, none⟩) hbl).trans c3⟩ : W.cell? ⟨bA, oA + i * 4, none⟩ = some (.int .i64 pgA) ∧ W.cell? ⟨bA, oA + i * 4 + 1, none⟩ = some (.int .i64 kA) ∧ W.cell? ⟨bA, oA + i * 4 + 2, none⟩ = some (.int .i64 nA) ∧ W.cell? ⟨bA, oA + i * 4 + 3, none⟩ = some (.bool onA)))
        have STA := Lib.hid (two_set pgA kA nA onA (T.out.fresh (Below.refl _ _).drew))
        clear c0 c1 c2 c3 hpa hac hbl
        go_wp2_with fail
        go_region_held3 (fun w' => w'.cell? ⟨bA, oA + i * 4, none⟩ = some (.int .i64 pgA) ∧ w'.cell? ⟨bA, oA + i * 4 + 1, none⟩ = some (.int .i64 kA) ∧ w'.cell? ⟨bA, oA + i * 4 + 2, none⟩ = some (.int .i64 nA) ∧ w'.cell? ⟨bA, oA + i * 4 + 3, none⟩ = some (.bool onA))
          (first | assumption | exact KPA.out _ T.out.bel | exact KPA.out _ T.out.bel.drew | exact KPA.out _ (TwoT.bel (by assumption)))
          ((go_at_call 12; refine STA.out.mono ?_; rintro e wA_ ⟨erA, pA_, sA_, rfl, hs, h5, hmid, hsz⟩))
        have X_ := Lib.hid (X.out.far (hmid _ (by omega) (by omega)))
        have Y_ := Lib.hid (Y.out.far (hmid _ (by omega) (by omega)))
        have T_ := Lib.hid (h5)
        clear h5 hmid hsz
        rcases hs with ⟨rfl, hpg, hse⟩ | ⟨hne, hse⟩
        · obtain ⟨zA, rfl⟩ := Int.eq_ofNat_of_zero_le hpg.1
          have hz4A : zA < 4096 := by omega
          have hz0A : (0 : Int) ≤ (zA : Int) := by omega
          have hz1A : (zA : Int) < 4096 := by omega
          rw [Int.toNat_natCast] at hse
          have HSEA := Lib.hid hse
          clear hpg hse
          go_wp2_with fail
          go_still_tail 11, (by kernel_rfl)
          obtain ⟨W2, hW2⟩ : ∃ W2, W2 = wA_.drew := ⟨_, rfl⟩
          change wpList _ _ _ _ _ wA_.drew
          rw [← hW2]
          have HT_ := Lib.hid (show TwoT _ W2 _ _ _ _ _ _ _ from by rw [hW2]; exact T_.out.fresh (Below.refl _ _).drew)
          have HA_ := Lib.hid (show ArrE W2 _ _ from by rw [hW2]; exact X_.out.fresh (Below.refl _ _).drew)
          have HO_ := Lib.hid (show ArrE W2 _ _ from by rw [hW2]; exact Y_.out.fresh (Below.refl _ _).drew)
          clear hW2
          obtain ⟨q0, q1, q2⟩ := HA_.out.at_ hz4A
          have y0 := HA_.out.frozen (zA * 3)
          have y1 := HA_.out.frozen (zA * 3 + 1)
          have y2 := HA_.out.frozen (zA * 3 + 2)
          go_wp2_with fail
          have XA := Lib.hid (show ArrE (((W2.setCell ⟨w3.heap.size, zA * 3, none⟩ (.int .i64 kA)).setCell ⟨w3.heap.size, zA * 3 + 1, none⟩ (.int .i64 nA)).setCell ⟨w3.heap.size, zA * 3 + 2, none⟩ (.bool onA)) w3.heap.size (sA_.e) from HSEA.out ▸ HA_.out.set_ ⟨kA, nA, onA⟩ hz4A)
          have TA := Lib.hid (((HT_.out.arr (g := w3.heap.size) (by omega) (by omega) (by omega) (zA * 3) (.int .i64 kA)).arr (g := w3.heap.size) (by omega) (by omega) (by omega) (zA * 3 + 1) (.int .i64 nA)).arr (g := w3.heap.size) (by omega) (by omega) (by omega) (zA * 3 + 2) (.bool onA))
          have YA := Lib.hid (((HO_.out.cut_ (i := zA * 3) (v := .int .i64 kA) (g' := w3.heap.size) (by omega)).cut_ (i := zA * 3 + 1) (v := .int .i64 nA) (g' := w3.heap.size) (by omega)).cut_ (i := zA * 3 + 2) (v := .bool onA) (g' := w3.heap.size) (by omega))
          generalize ((W2.setCell ⟨w3.heap.size, zA * 3, none⟩ (.int .i64 kA)).setCell ⟨w3.heap.size, zA * 3 + 1, none⟩ (.int .i64 nA)).setCell ⟨w3.heap.size, zA * 3 + 2, none⟩ (.bool onA) = WA at TA XA YA ⊢
          clear HA_ HO_ HT_ q0 q1 q2 y0 y1 y2
          by_cases hB : i < N2
          · have tB1 : decide ((i : Int) < (N2 : Int)) = true := decide_eq_true (by omega)
            have tB2 : (i : Int) < (N2 : Int) := by omega
            obtain ⟨bB, oB, rfl, hpa⟩ := HZ2.out (by omega)
            obtain ⟨ac, hac⟩ : ∃ ac, lb[i]? = some ac := ⟨_, List.getElem?_eq_getElem (by rw [HN2.out]; exact hB)⟩
            obtain ⟨hbl, c0, c1, c2, c3⟩ := hpa i ac hac
            obtain ⟨pgB, kB, nB, onB⟩ := ac
            simp only at c0 c1 c2 c3
            have KPB := Lib.hid (fun (W : World) (hW : Below w.heap.size w W) => (⟨(hW.cell (p := ⟨bB, oB + i * 4, none⟩) hbl).trans c0, (hW.cell (p := ⟨bB, oB + i * 4 + 1, none⟩) hbl).trans c1, (hW.cell (p := ⟨bB, oB + i * 4 + 2, none⟩) hbl).trans c2, (hW.cell (p := ⟨bB, oB + i * 4 + 3, none⟩) hbl).trans c3⟩ : W.cell? ⟨bB, oB + i * 4, none⟩ = some (.int .i64 pgB) ∧ W.cell? ⟨bB, oB + i * 4 + 1, none⟩ = some (.int .i64 kB) ∧ W.cell? ⟨bB, oB + i * 4 + 2, none⟩ = some (.int .i64 nB) ∧ W.cell? ⟨bB, oB + i * 4 + 3, none⟩ = some (.bool onB)))
            have STB := Lib.hid (two_set pgB kB nB onB (TA.out.swap.fresh (Below.refl _ _).drew))
            clear c0 c1 c2 c3 hpa hac hbl
            go_wp2_with fail
            go_region_held3 (fun w' => w'.cell? ⟨bB, oB + i * 4, none⟩ = some (.int .i64 pgB) ∧ w'.cell? ⟨bB, oB + i * 4 + 1, none⟩ = some (.int .i64 kB) ∧ w'.cell? ⟨bB, oB + i * 4 + 2, none⟩ = some (.int .i64 nB) ∧ w'.cell? ⟨bB, oB + i * 4 + 3, none⟩ = some (.bool onB))
              (first | assumption | exact KPB.out _ TA.out.bel | exact KPB.out _ TA.out.bel.drew | exact KPB.out _ (TwoT.bel (by assumption)))
              ((go_at_call 12; refine STB.out.mono ?_; rintro e wB_ ⟨erB, pB_, sB_, rfl, hs, h5, hmid, hsz⟩))
            have YA_ := Lib.hid (YA.out.far (hmid _ (by omega) (by omega)))
            have XA_ := Lib.hid (XA.out.far (hmid _ (by omega) (by omega)))
            have TA_ := Lib.hid (h5.swap)
            clear h5 hmid hsz
            rcases hs with ⟨rfl, hpg, hse⟩ | ⟨hne, hse⟩
            · obtain ⟨zB, rfl⟩ := Int.eq_ofNat_of_zero_le hpg.1
              have hz4B : zB < 4096 := by omega
              have hz0B : (0 : Int) ≤ (zB : Int) := by omega
              have hz1B : (zB : Int) < 4096 := by omega
              rw [Int.toNat_natCast] at hse
              have HSEB := Lib.hid hse
              clear hpg hse
              go_wp2_with fail
              go_still_tail 11, (by kernel_rfl)
              obtain ⟨W2, hW2⟩ : ∃ W2, W2 = wB_.drew := ⟨_, rfl⟩
              change wpList _ _ _ _ _ wB_.drew
              rw [← hW2]
              have HT_ := Lib.hid (show TwoT _ W2 _ _ _ _ _ _ _ from by rw [hW2]; exact TA_.out.fresh (Below.refl _ _).drew)
              have HA_ := Lib.hid (show ArrE W2 _ _ from by rw [hW2]; exact YA_.out.fresh (Below.refl _ _).drew)
              have HO_ := Lib.hid (show ArrE W2 _ _ from by rw [hW2]; exact XA_.out.fresh (Below.refl _ _).drew)
              clear hW2
              obtain ⟨q0, q1, q2⟩ := HA_.out.at_ hz4B
              have y0 := HA_.out.frozen (zB * 3)
              have y1 := HA_.out.frozen (zB * 3 + 1)
              have y2 := HA_.out.frozen (zB * 3 + 2)
              go_wp2_with fail
              have YAB := Lib.hid (show ArrE (((W2.setCell ⟨(w3.heap.size + 1), zB * 3, none⟩ (.int .i64 kB)).setCell ⟨(w3.heap.size + 1), zB * 3 + 1, none⟩ (.int .i64 nB)).setCell ⟨(w3.heap.size + 1), zB * 3 + 2, none⟩ (.bool onB)) (w3.heap.size + 1) (sB_.e) from HSEB.out ▸ HA_.out.set_ ⟨kB, nB, onB⟩ hz4B)
              have TAB := Lib.hid (((HT_.out.arr (g := (w3.heap.size + 1)) (by omega) (by omega) (by omega) (zB * 3) (.int .i64 kB)).arr (g := (w3.heap.size + 1)) (by omega) (by omega) (by omega) (zB * 3 + 1) (.int .i64 nB)).arr (g := (w3.heap.size + 1)) (by omega) (by omega) (by omega) (zB * 3 + 2) (.bool onB))
              have XAB := Lib.hid (((HO_.out.cut_ (i := zB * 3) (v := .int .i64 kB) (g' := (w3.heap.size + 1)) (by omega)).cut_ (i := zB * 3 + 1) (v := .int .i64 nB) (g' := (w3.heap.size + 1)) (by omega)).cut_ (i := zB * 3 + 2) (v := .bool onB) (g' := (w3.heap.size + 1)) (by omega))
              generalize ((W2.setCell ⟨(w3.heap.size + 1), zB * 3, none⟩ (.int .i64 kB)).setCell ⟨(w3.heap.size + 1), zB * 3 + 1, none⟩ (.int .i64 nB)).setCell ⟨(w3.heap.size + 1), zB * 3 + 2, none⟩ (.bool onB) = WB at TAB YAB XAB ⊢
              clear HA_ HO_ HT_ q0 q1 q2 y0 y1 y2
              go_roundg (20 - (i + 1))
              case measure => omega
              case rel => exact ⟨i + 1, by omega, by go_num, _, _, _, TAB.out, rfl, hs3, XAB.out, YAB.out⟩
            · have hne' : ((erB : Int) == 0) = false := by simp; omega
              have HNEB := Lib.hid hne
              have TAB := TA_
              have YAB := Lib.hid (show ArrE wB_ (w3.heap.size + 1) (sB_.e) from by rw [hse]; exact YA_.out)
              have XAB := XA_
              clear hne hse
              go_wp2_with fail
              go_roundg (20 - (i + 1))
              case measure => omega
              case rel => exact ⟨i + 1, by omega, by go_num, _, _, _, TAB.out, rfl, hs3, XAB.out, YAB.out⟩
          · have tB1 : decide ((i : Int) < (N2 : Int)) = false := decide_eq_false (by omega)
            have tB2 : ¬ ((i : Int) < (N2 : Int)) := by omega
            go_wp2_with fail
            go_quiet (fail)
            have TAB := Lib.hid (TA.out.fresh (below_drewN (Below.refl _ _) nq))
            have YAB := Lib.hid (YA.out.fresh (below_drewN (Below.refl _ _) nq))
            have XAB := Lib.hid (XA.out.fresh (below_drewN (Below.refl _ _) nq))
            generalize World.drewN _ nq = WB at TAB YAB XAB ⊢
            go_wp2_with fail
            go_roundg (20 - (i + 1))
            case measure => omega
            case rel => exact ⟨i + 1, by omega, by go_num, _, _, _, TAB.out, rfl, hs3, XAB.out, YAB.out⟩
        · have hne' : ((erA : Int) == 0) = false := by simp; omega
          have HNEA := Lib.hid hne
          have TA := T_
          have XA := Lib.hid (show ArrE wA_ w3.heap.size (sA_.e) from by rw [hse]; exact X_.out)
          have YA := Y_
          clear hne hse
          go_wp2_with fail
          by_cases hB : i < N2
          · have tB1 : decide ((i : Int) < (N2 : Int)) = true := decide_eq_true (by omega)
            have tB2 : (i : Int) < (N2 : Int) := by omega
            obtain ⟨bB, oB, rfl, hpa⟩ := HZ2.out (by omega)
            obtain ⟨ac, hac⟩ : ∃ ac, lb[i]? = some ac := ⟨_, List.getElem?_eq_getElem (by rw [HN2.out]; exact hB)⟩
            obtain ⟨hbl, c0, c1, c2, c3⟩ := hpa i ac hac
            obtain ⟨pgB, kB, nB, onB⟩ := ac
            simp only at c0 c1 c2 c3
            have KPB := Lib.hid (fun (W : World) (hW : Below w.heap.size w W) => (⟨(hW.cell (p := ⟨bB, oB + i * 4, none⟩) hbl).trans c0, (hW.cell (p := ⟨bB, oB + i * 4 + 1, none⟩) hbl).trans c1, (hW.cell (p := ⟨bB, oB + i * 4 + 2, none⟩) hbl).trans c2, (hW.cell (p := ⟨bB, oB + i * 4 + 3, none⟩) hbl).trans c3⟩ : W.cell? ⟨bB, oB + i * 4, none⟩ = some (.int .i64 pgB) ∧ W.cell? ⟨bB, oB + i * 4 + 1, none⟩ = some (.int .i64 kB) ∧ W.cell? ⟨bB, oB + i * 4 + 2, none⟩ = some (.int .i64 nB) ∧ W.cell? ⟨bB, oB + i * 4 + 3, none⟩ = some (.bool onB)))
            have STB := Lib.hid (two_set pgB kB nB onB (TA.out.swap.fresh (Below.refl _ _).drew))
            clear c0 c1 c2 c3 hpa hac hbl
            go_wp2_with fail
            go_region_held3 (fun w' => w'.cell? ⟨bB, oB + i * 4, none⟩ = some (.int .i64 pgB) ∧ w'.cell? ⟨bB, oB + i * 4 + 1, none⟩ = some (.int .i64 kB) ∧ w'.cell? ⟨bB, oB + i * 4 + 2, none⟩ = some (.int .i64 nB) ∧ w'.cell? ⟨bB, oB + i * 4 + 3, none⟩ = some (.bool onB))
              (first | assumption | exact KPB.out _ TA.out.bel | exact KPB.out _ TA.out.bel.drew | exact KPB.out _ (TwoT.bel (by assumption)))
              ((go_at_call 12; refine STB.out.mono ?_; rintro e wB_ ⟨erB, pB_, sB_, rfl, hs, h5, hmid, hsz⟩))
            have YA_ := Lib.hid (YA.out.far (hmid _ (by omega) (by omega)))
            have XA_ := Lib.hid (XA.out.far (hmid _ (by omega) (by omega)))
            have TA_ := Lib.hid (h5.swap)
            clear h5 hmid hsz
            rcases hs with ⟨rfl, hpg, hse⟩ | ⟨hne, hse⟩
            · obtain ⟨zB, rfl⟩ := Int.eq_ofNat_of_zero_le hpg.1
              have hz4B : zB < 4096 := by omega
              have hz0B : (0 : Int) ≤ (zB : Int) := by omega
              have hz1B : (zB : Int) < 4096 := by omega
              rw [Int.toNat_natCast] at hse
              have HSEB := Lib.hid hse
              clear hpg hse
              go_wp2_with fail
              go_still_tail 11, (by kernel_rfl)
              obtain ⟨W2, hW2⟩ : ∃ W2, W2 = wB_.drew := ⟨_, rfl⟩
              change wpList _ _ _ _ _ wB_.drew
              rw [← hW2]
              have HT_ := Lib.hid (show TwoT _ W2 _ _ _ _ _ _ _ from by rw [hW2]; exact TA_.out.fresh (Below.refl _ _).drew)
              have HA_ := Lib.hid (show ArrE W2 _ _ from by rw [hW2]; exact YA_.out.fresh (Below.refl _ _).drew)
              have HO_ := Lib.hid (show ArrE W2 _ _ from by rw [hW2]; exact XA_.out.fresh (Below.refl _ _).drew)
              clear hW2
              obtain ⟨q0, q1, q2⟩ := HA_.out.at_ hz4B
              have y0 := HA_.out.frozen (zB * 3)
              have y1 := HA_.out.frozen (zB * 3 + 1)
              have y2 := HA_.out.frozen (zB * 3 + 2)
              go_wp2_with fail
              have YAB := Lib.hid (show ArrE (((W2.setCell ⟨(w3.heap.size + 1), zB * 3, none⟩ (.int .i64 kB)).setCell ⟨(w3.heap.size + 1), zB * 3 + 1, none⟩ (.int .i64 nB)).setCell ⟨(w3.heap.size + 1), zB * 3 + 2, none⟩ (.bool onB)) (w3.heap.size + 1) (sB_.e) from HSEB.out ▸ HA_.out.set_ ⟨kB, nB, onB⟩ hz4B)
              have TAB := Lib.hid (((HT_.out.arr (g := (w3.heap.size + 1)) (by omega) (by omega) (by omega) (zB * 3) (.int .i64 kB)).arr (g := (w3.heap.size + 1)) (by omega) (by omega) (by omega) (zB * 3 + 1) (.int .i64 nB)).arr (g := (w3.heap.size + 1)) (by omega) (by omega) (by omega) (zB * 3 + 2) (.bool onB))
              have XAB := Lib.hid (((HO_.out.cut_ (i := zB * 3) (v := .int .i64 kB) (g' := (w3.heap.size + 1)) (by omega)).cut_ (i := zB * 3 + 1) (v := .int .i64 nB) (g' := (w3.heap.size + 1)) (by omega)).cut_ (i := zB * 3 + 2) (v := .bool onB) (g' := (w3.heap.size + 1)) (by omega))
              generalize ((W2.setCell ⟨(w3.heap.size + 1), zB * 3, none⟩ (.int .i64 kB)).setCell ⟨(w3.heap.size + 1), zB * 3 + 1, none⟩ (.int .i64 nB)).setCell ⟨(w3.heap.size + 1), zB * 3 + 2, none⟩ (.bool onB) = WB at TAB YAB XAB ⊢
              clear HA_ HO_ HT_ q0 q1 q2 y0 y1 y2
              go_roundg (20 - (i + 1))
              case measure => omega
              case rel => exact ⟨i + 1, by omega, by go_num, _, _, _, TAB.out, rfl, hs3, XAB.out, YAB.out⟩
            · have hne' : ((erB : Int) == 0) = false := by simp; omega
              have HNEB := Lib.hid hne
              have TAB := TA_
              have YAB := Lib.hid (show ArrE wB_ (w3.heap.size + 1) (sB_.e) from by rw [hse]; exact YA_.out)
              have XAB := XA_
              clear hne hse
              go_wp2_with fail
              go_roundg (20 - (i + 1))
              case measure => omega
              case rel => exact ⟨i + 1, by omega, by go_num, _, _, _, TAB.out, rfl, hs3, XAB.out, YAB.out⟩
          · have tB1 : decide ((i : Int) < (N2 : Int)) = false := decide_eq_false (by omega)
            have tB2 : ¬ ((i : Int) < (N2 : Int)) := by omega
            go_wp2_with fail
            go_quiet (fail)
            have TAB := Lib.hid (TA.out.fresh (below_drewN (Below.refl _ _) nq))
            have YAB := Lib.hid (YA.out.fresh (below_drewN (Below.refl _ _) nq))
            have XAB := Lib.hid (XA.out.fresh (below_drewN (Below.refl _ _) nq))
            generalize World.drewN _ nq = WB at TAB YAB XAB ⊢
            go_wp2_with fail
            go_roundg (20 - (i + 1))
            case measure => omega
            case rel => exact ⟨i + 1, by omega, by go_num, _, _, _, TAB.out, rfl, hs3, XAB.out, YAB.out⟩
      · have tA1 : decide ((i : Int) < (N1 : Int)) = false := decide_eq_false (by omega)
        have tA2 : ¬ ((i : Int) < (N1 : Int)) := by omega
        go_wp2_with fail
        go_quiet (fail)
        have TA := Lib.hid (T.out.fresh (below_drewN (Below.refl _ _) nq))
        have XA := Lib.hid (X.out.fresh (below_drewN (Below.refl _ _) nq))
        have YA := Lib.hid (Y.out.fresh (below_drewN (Below.refl _ _) nq))
        generalize World.drewN _ nq = WA at TA XA YA ⊢
        go_wp2_with fail
        by_cases hB : i < N2
        · have tB1 : decide ((i : Int) < (N2 : Int)) = true := decide_eq_true (by omega)
          have tB2 : (i : Int) < (N2 : Int) := by omega
          obtain ⟨bB, oB, rfl, hpa⟩ := HZ2.out (by omega)
          obtain ⟨ac, hac⟩ : ∃ ac, lb[i]? = some ac := ⟨_, List.getElem?_eq_getElem (by rw [HN2.out]; exact hB)⟩
          obtain ⟨hbl, c0, c1, c2, c3⟩ := hpa i ac hac
          obtain ⟨pgB, kB, nB, onB⟩ := ac
          simp only at c0 c1 c2 c3
          have KPB := Lib.hid (fun (W : World) (hW : Below w.heap.size w W) => (⟨(hW.cell (p := ⟨bB, oB + i * 4, none⟩) hbl).trans c0, (hW.cell (p := ⟨bB, oB + i * 4 + 1, none⟩) hbl).trans c1, (hW.cell (p := ⟨bB, oB + i * 4 + 2, none⟩) hbl).trans c2, (hW.cell (p := ⟨bB, oB + i * 4 + 3, none⟩) hbl).trans c3⟩ : W.cell? ⟨bB, oB + i * 4, none⟩ = some (.int .i64 pgB) ∧ W.cell? ⟨bB, oB + i * 4 + 1, none⟩ = some (.int .i64 kB) ∧ W.cell? ⟨bB, oB + i * 4 + 2, none⟩ = some (.int .i64 nB) ∧ W.cell? ⟨bB, oB + i * 4 + 3, none⟩ = some (.bool onB)))
          have STB := Lib.hid (two_set pgB kB nB onB (TA.out.swap.fresh (Below.refl _ _).drew))
          clear c0 c1 c2 c3 hpa hac hbl
          go_wp2_with fail
          go_region_held3 (fun w' => w'.cell? ⟨bB, oB + i * 4, none⟩ = some (.int .i64 pgB) ∧ w'.cell? ⟨bB, oB + i * 4 + 1, none⟩ = some (.int .i64 kB) ∧ w'.cell? ⟨bB, oB + i * 4 + 2, none⟩ = some (.int .i64 nB) ∧ w'.cell? ⟨bB, oB + i * 4 + 3, none⟩ = some (.bool onB))
            (first | assumption | exact KPB.out _ TA.out.bel | exact KPB.out _ TA.out.bel.drew | exact KPB.out _ (TwoT.bel (by assumption)))
            ((go_at_call 12; refine STB.out.mono ?_; rintro e wB_ ⟨erB, pB_, sB_, rfl, hs, h5, hmid, hsz⟩))
          have YA_ := Lib.hid (YA.out.far (hmid _ (by omega) (by omega)))
          have XA_ := Lib.hid (XA.out.far (hmid _ (by omega) (by omega)))
          have TA_ := Lib.hid (h5.swap)
          clear h5 hmid hsz
          rcases hs with ⟨rfl, hpg, hse⟩ | ⟨hne, hse⟩
          · obtain ⟨zB, rfl⟩ := Int.eq_ofNat_of_zero_le hpg.1
            have hz4B : zB < 4096 := by omega
            have hz0B : (0 : Int) ≤ (zB : Int) := by omega
            have hz1B : (zB : Int) < 4096 := by omega
            rw [Int.toNat_natCast] at hse
            have HSEB := Lib.hid hse
            clear hpg hse
            go_wp2_with fail
            go_still_tail 11, (by kernel_rfl)
            obtain ⟨W2, hW2⟩ : ∃ W2, W2 = wB_.drew := ⟨_, rfl⟩
            change wpList _ _ _ _ _ wB_.drew
            rw [← hW2]
            have HT_ := Lib.hid (show TwoT _ W2 _ _ _ _ _ _ _ from by rw [hW2]; exact TA_.out.fresh (Below.refl _ _).drew)
            have HA_ := Lib.hid (show ArrE W2 _ _ from by rw [hW2]; exact YA_.out.fresh (Below.refl _ _).drew)
            have HO_ := Lib.hid (show ArrE W2 _ _ from by rw [hW2]; exact XA_.out.fresh (Below.refl _ _).drew)
            clear hW2
            obtain ⟨q0, q1, q2⟩ := HA_.out.at_ hz4B
            have y0 := HA_.out.frozen (zB * 3)
            have y1 := HA_.out.frozen (zB * 3 + 1)
            have y2 := HA_.out.frozen (zB * 3 + 2)
            go_wp2_with fail
            have YAB := Lib.hid (show ArrE (((W2.setCell ⟨(w3.heap.size + 1), zB * 3, none⟩ (.int .i64 kB)).setCell ⟨(w3.heap.size + 1), zB * 3 + 1, none⟩ (.int .i64 nB)).setCell ⟨(w3.heap.size + 1), zB * 3 + 2, none⟩ (.bool onB)) (w3.heap.size + 1) (sB_.e) from HSEB.out ▸ HA_.out.set_ ⟨kB, nB, onB⟩ hz4B)
            have TAB := Lib.hid (((HT_.out.arr (g := (w3.heap.size + 1)) (by omega) (by omega) (by omega) (zB * 3) (.int .i64 kB)).arr (g := (w3.heap.size + 1)) (by omega) (by omega) (by omega) (zB * 3 + 1) (.int .i64 nB)).arr (g := (w3.heap.size + 1)) (by omega) (by omega) (by omega) (zB * 3 + 2) (.bool onB))
            have XAB := Lib.hid (((HO_.out.cut_ (i := zB * 3) (v := .int .i64 kB) (g' := (w3.heap.size + 1)) (by omega)).cut_ (i := zB * 3 + 1) (v := .int .i64 nB) (g' := (w3.heap.size + 1)) (by omega)).cut_ (i := zB * 3 + 2) (v := .bool onB) (g' := (w3.heap.size + 1)) (by omega))
            generalize ((W2.setCell ⟨(w3.heap.size + 1), zB * 3, none⟩ (.int .i64 kB)).setCell ⟨(w3.heap.size + 1), zB * 3 + 1, none⟩ (.int .i64 nB)).setCell ⟨(w3.heap.size + 1), zB * 3 + 2, none⟩ (.bool onB) = WB at TAB YAB XAB ⊢
            clear HA_ HO_ HT_ q0 q1 q2 y0 y1 y2
            go_roundg (20 - (i + 1))
            case measure => omega
            case rel => exact ⟨i + 1, by omega, by go_num, _, _, _, TAB.out, rfl, hs3, XAB.out, YAB.out⟩
          · have hne' : ((erB : Int) == 0) = false := by simp; omega
            have HNEB := Lib.hid hne
            have TAB := TA_
            have YAB := Lib.hid (show ArrE wB_ (w3.heap.size + 1) (sB_.e) from by rw [hse]; exact YA_.out)
            have XAB := XA_
            clear hne hse
            go_wp2_with fail
            go_roundg (20 - (i + 1))
            case measure => omega
            case rel => exact ⟨i + 1, by omega, by go_num, _, _, _, TAB.out, rfl, hs3, XAB.out, YAB.out⟩
        · exact absurd hex (by omega)
    · have tA1 : decide ((i : Int) < (N1 : Int)) = false := decide_eq_false (by omega)
      have tB1 : decide ((i : Int) < (N2 : Int)) = false := decide_eq_false (by omega)
      have tA2 : ¬ ((i : Int) < (N1 : Int)) := by omega
      have tB2 : ¬ ((i : Int) < (N2 : Int)) := by omega
      clear hex
      obtain ⟨G, rfl⟩ : ∃ G, G = gk := ⟨_, rfl⟩
      go_wp2_with fail
      go_loopg [14] 4096 (fun gg s14 wx => ∃ k : Nat, k + gg = 4096 ∧ s14 = .int .i64 (k : Int) ∧ TwoT w wx gT gU p s u w3.heap.size (w3.heap.size + 2) ∧ ArrE wx w3.heap.size s.e ∧ ArrE wx (w3.heap.size + 1) u.e)
      case atStart => exact ⟨0, by omega, rfl, T.out, X.out, Y.out⟩
      case round =>
        obtain ⟨k, hkg, rfl, h5, h6, h7⟩ := hrel
        have T5 := Lib.hid h5
        have X5 := Lib.hid h6
        have Y5 := Lib.hid h7
        clear h5 h6 h7
        by_cases hk : k < 4096
        · have v1 : decide ((k : Int) < 4096) = true := decide_eq_true (by omega)
          have v2 : (k : Int) < 4096 := by omega
          have v3 : (0 : Int) ≤ (k : Int) := by omega
          obtain ⟨G2, rfl⟩ : ∃ G2, G2 = gk := ⟨_, rfl⟩
          obtain ⟨⟨ek, em, ew⟩, hE⟩ : ∃ v, v = s.e.getD k en0 := ⟨_, rfl⟩
          obtain ⟨⟨fk, fm, fw⟩, hF⟩ : ∃ v, v = u.e.getD k en0 := ⟨_, rfl⟩
          have hGA := two_get k hk T5.out
          have hGB := fun (W : World) (hW : Below wr.heap.size wr W) => two_get k hk (T5.out.swap.fresh hW)
          have hCA := fun (W : World) (hW : Below wr.heap.size wr W) => (X5.out.fresh hW).at_ hk
          have hCB := fun (W : World) (hW : Below wr.heap.size wr W) => (Y5.out.fresh hW).at_ hk
          rw [← hE] at hGA hCA
          rw [← hF] at hGB hCB
          simp only [enV] at hGA hGB hCA hCB
          have GA := Lib.hid hGA
          have GB := Lib.hid hGB
          have CA := Lib.hid hCA
          have CB := Lib.hid hCB
          clear hGA hGB hCA hCB hE hF
          go_wp2_with fail
          refine GA.out.mono ?_
          rintro e w5 ⟨rfl, hb5⟩
          have HB5 := Lib.hid hb5
          clear hb5
          go_wp2_with fail
          have HB5a := Lib.hid (HB5.out.trans ((bel_al (Below.refl w5.heap.size w5) (.cells #[.int .i64 ek, .int .i64 em, .bool ew] 35)).mono HB5.out.size))
          have KC := Lib.hid (Blk.new w5 35 #[.int .i64 ek, .int .i64 em, .bool ew])
          refine (GB.out _ HB5a.out).mono ?_
          rintro e w6 ⟨rfl, hb6⟩
          have HB6 := Lib.hid (HB5a.out.trans (hb6.mono HB5a.out.size))
          have KD := Lib.hid (KC.out.below hb6 KC.out.lt)
          clear hb6 KC
          go_wp2_with fail
          have HB7 := Lib.hid (HB6.out.trans ((bel_al (Below.refl w6.heap.size w6) (.cells #[.int .i64 fk, .int .i64 fm, .bool fw] 35)).mono HB6.out.size))
          have KE := Lib.hid (KD.out.below (bel_al (Below.refl w6.heap.size w6) (.cells #[.int .i64 fk, .int .i64 fm, .bool fw] 35)) KD.out.lt)
          have KF := Lib.hid (Blk.new w6 35 #[.int .i64 fk, .int .i64 fm, .bool fw])
          generalize (w6.alloc (.cells #[.int .i64 fk, .int .i64 fm, .bool fw] 35)) = W7 at HB7 KE KF ⊢
          obtain ⟨ga, hga⟩ : ∃ ga, ga = w5.heap.size := ⟨_, rfl⟩
          obtain ⟨gb, hgb⟩ : ∃ gb, gb = w6.heap.size := ⟨_, rfl⟩
          rw [← hga] at KE
          rw [← hgb] at KF
          simp only [← hga, ← hgb]
          clear hga hgb KD
          obtain ⟨q0, q1, q2⟩ := CA.out _ HB7.out
          obtain ⟨r0, r1, r2⟩ := CB.out _ HB7.out
          have y0 : W7.cell? ⟨ga, 0, none⟩ = some (.int .i64 ek) := KE.out.cell 0
          have y1 : W7.cell? ⟨ga, 1, none⟩ = some (.int .i64 em) := KE.out.cell 1
          have y2 : W7.cell? ⟨ga, 2, none⟩ = some (.bool ew) := KE.out.cell 2
          have x0 : W7.cell? ⟨gb, 0, none⟩ = some (.int .i64 fk) := KF.out.cell 0
          have x1 : W7.cell? ⟨gb, 1, none⟩ = some (.int .i64 fm) := KF.out.cell 1
          have x2 : W7.cell? ⟨gb, 2, none⟩ = some (.bool fw) := KF.out.cell 2
          go_quiet (fail)
          have HB8 := Lib.hid (HB7.out.trans (below_drewN (Below.refl _ _) nq))
          go_wp2_with fail
          go_roundg (4096 - (k + 1))
          case measure => omega
          case rel => exact ⟨k + 1, by omega, by go_num, T5.out.fresh HB8.out, X5.out.fresh HB8.out, Y5.out.fresh HB8.out⟩
        · have v1 : decide ((k : Int) < 4096) = false := decide_eq_false (by omega)
          have v2 : ¬ ((k : Int) < 4096) := by omega
          obtain ⟨G2, rfl⟩ : ∃ G2, G2 = gk := ⟨_, rfl⟩
          have TT := Lib.hid (two_tables T5.out)
          have HD := Lib.hid T5.out.dis
          go_wp2_with fail
          refine TT.out.mono ?_
          rintro e w8 ⟨v, rfl, hits, hb8⟩
          have T8 := Lib.hid (T5.out.fresh hb8)
          obtain ⟨A8, n8, c8, rfl, hn8, hnc8, hcm8, hz8⟩ := hits
          have hn8m : n8 ≤ 9223372036854775807 := by
            unfold maxLen at hcm8
            omega
          clear hnc8 hcm8
          have HN8 := Lib.hid hn8
          have HZ8 := Lib.hid hz8
          clear hn8 hz8 hb8 TT
          go_wp2_with fail
          go_loopg [20] n8 (fun gg s20 wx => ∃ j : Nat, j + gg = n8 ∧ s20 = .int .i64 (j : Int) ∧ TwoT w wx gT gU p s u w3.heap.size (w3.heap.size + 2) ∧ Below w8.heap.size w8 wx)
          case atStart => exact ⟨0, by omega, rfl, T8.out, Below.refl _ _⟩
          case round =>
            obtain ⟨j, hjg, rfl, h9, hb9⟩ := hrel
            have T9 := Lib.hid h9
            have HB9 := Lib.hid hb9
            clear h9 hb9
            by_cases hj : j < n8
            · have x1 : decide ((j : Int) < (n8 : Int)) = true := decide_eq_true (by omega)
              have x2 : (j : Int) < (n8 : Int) := by omega
              have x3 : (0 : Int) ≤ (j : Int) := by omega
              obtain ⟨b8, o8, rfl, hbl8, hce8⟩ := HZ8.out (by omega)
              have hjs : j < s.t.length := by
                have := HN8.out
                rw [asI_length] at this
                omega
              obtain ⟨f, hf⟩ : ∃ f : Nat, f = s.t[j] := ⟨_, rfl⟩
              have hfm : f ∈ s.t := hf ▸ List.getElem_mem _
              have hfv : (asI s.t).getD j 0 = (f : Int) := by
                unfold asI
                rw [List.getD_eq_getElem?_getD, List.getElem?_map, List.getElem?_eq_getElem hjs, ← hf]
                rfl
              have d0 : wr.cell? ⟨b8, o8 + j, none⟩ = some (.int .i64 (f : Int)) := (HB9.out.cell hbl8).trans (hfv ▸ hce8 j hj)
              have how := two_owns (f : Int) T9.out.swap
              rw [decide_eq_false (fun h => HD.out f hfm (asI_mem.1 h))] at how
              have OW := Lib.hid how
              clear how hf hfm hfv hce8 hbl8 hjs
              go_wp2_with fail
              refine OW.out.mono ?_
              rintro e w10 ⟨rfl, hb10⟩
              have HB10 := Lib.hid hb10
              clear hb10
              go_wp2_with fail
              go_roundg (n8 - (j + 1))
              case measure => omega
              case rel => exact ⟨j + 1, by omega, by go_num, T9.out.fresh HB10.out, HB9.out.trans (HB10.out.mono HB9.out.size)⟩
            · obtain rfl : j = n8 := by omega
              have x1 : decide ((j : Int) < (j : Int)) = false := decide_eq_false (by omega)
              have x2 : ¬ ((j : Int) < (j : Int)) := by omega
              obtain ⟨G3, rfl⟩ : ∃ G3, G3 = gk := ⟨_, rfl⟩
              go_wp2_with fail
              refine (treAnswers_any _).mono ?_
              rintro e w10 ⟨rfl, hb10⟩
              have HB10 := Lib.hid (T9.out.bel.trans (hb10.mono T9.out.bel.size))
              clear hb10
              go_wp2
              go_ret
              exact ⟨rfl, HB10.out⟩
end Go.Proofs.Ytegoookllckhiaa

/-
  TreeNone answers true.
  Conditions: none beside the contracts of the tree.
-/
import Derived.Test.YtegoookllckhiaaTreL
namespace Go.Proofs.Ytegoookllckhiaa
open Go.RowKit
set_option linter.unusedVariables false
attribute [local irreducible] ps0 badU spanU

theorem first0 : FirstF ps0 2 (2 ^ 0) none := by
  intro g hg
  have := hg.2.2.1
  rw [ps0_z] at this
  omega
theorem nt_new {w0 w : World} {gR gF gP gQ : Nat} {F : Nat → List Nat} {bad : Nat → Bool} {p : PS} {KQ : Nat → Prop} (h : PartsT w0 w gR gF gP F bad p) (W : World) (hb : Below w.heap.size w W) (hq : PoolMem W gQ KQ ps0) (hk : ∀ k, KQ k → w.heap.size ≤ k) (hn : NoBad bad) :
    Calls Try.prog 10 #[.pointer (some ⟨gR, 0, none⟩), .pointer (some ⟨gQ, 0, none⟩)] W fun e w' => e = .returned (.tuple #[.pointer none, .int .i64 4]) ∧ Below w.heap.size w w' := by
  obtain ⟨K, h1, h2, h3, h4, h5, h6, h7, h8⟩ := h
  have hm := h1.below hb h1.lt.1 h1.lt.2
  refine (tree_new gR gF gQ KQ F bad ps0 W hm hq (fun e => by have := hk _ e; have := h1.lt.1; omega) (fun e => by have := hk _ e; have := h1.lt.2; omega) hn).mono ?_
  rintro e w' ⟨r, hr, hp⟩
  obtain rfl := hr.uniq first0
  obtain ⟨rfl, K', _, _, _, _, _, ht⟩ := hp
  exact ⟨rfl, hb.trans (ht.below hk hb.size)⟩
/-- A tree with a root alone that is poisoned. -/
def TreB (w0 w : World) (gT : Nat) : Prop := ∃ gR gF gP F bad p s r K KT, Mem w gR gF 1024 F bad ∧ PoolMem w gP K p ∧ TreeMem w gT KT gR gP F s ∧ Apart gR gF K KT ∧ (∀ k, K k ∨ KT k → w0.heap.size ≤ k) ∧ w0.heap.size ≤ gF ∧ Below w0.heap.size w0 w ∧ s.t = [r] ∧ bad r = true ∧ s.live = true
section
variable {w0 w w' : World} {gT : Nat}
theorem TreB.fresh (h : TreB w0 w gT) (hb : Below w.heap.size w w') : TreB w0 w' gT := by
  obtain ⟨gR, gF, gP, F, bad, p, s, r, K, KT, h1, h2, h3, h4, h5, h6, h7, h8⟩ := h
  exact ⟨gR, gF, gP, F, bad, p, s, r, K, KT, h1.below hb h1.lt.1 h1.lt.2, h2.fresh hb, h3.fresh hb, h4, h5, h6, h7.trans (hb.mono h7.size), h8⟩
theorem TreB.bel (h : TreB w0 w gT) : Below w0.heap.size w0 w := by
  obtain ⟨_, _, _, _, _, _, _, _, _, _, _, _, _, _, _, _, h, _⟩ := h
  exact h
theorem tb_get (page : Nat) (hp : page < 4096) (h : TreB w0 w gT) :
    Calls Try.prog 18 #[.pointer (some ⟨gT, 0, none⟩), .int .i64 (page : Int)] w fun e w' => e = .returned (.tuple #[.agg (enV en0), .int .i64 7]) ∧ Below w.heap.size w w' := by
  obtain ⟨gR, gF, gP, F, bad, p, s, r, K, KT, h1, h2, h3, h4, h5, h6, h7, h8, h9, h10⟩ := h
  exact tree_get_poison gT gR gF gP KT F bad s w page r hp h1 h3 h8 h9 h10
theorem tb_set (page : Nat) (k n : Int) (b : Bool) (hp : page < 4096) (hx : EnOk ⟨k, n, b⟩) (h : TreB w0 w gT) :
    Calls Try.prog 12 #[.pointer (some ⟨gT, 0, none⟩), .int .i64 (page : Int), .agg #[.int .i64 k, .int .i64 n, .bool b]] w fun e w' => e = .returned (.int .i64 7) ∧ Below w0.heap.size w0 w' := by
  obtain ⟨gR, gF, gP, F, bad, p, s, r, K, KT, h1, h2, h3, h4, h5, h6, h7, h8, h9, h10⟩ := h
  refine (tree_set_poison gT gR gF gP K KT F bad p s w page r k n b hp hx h1 h2 h3 h4 h8 h9 h10).mono ?_
  rintro e w' ⟨rfl, ht⟩
  refine ⟨rfl, h7.trans (ht.below ?_ h7.size)⟩
  rintro k (hk | hk | rfl)
  · exact h5 k (.inl hk)
  · exact h5 k (.inr hk)
  · exact h6
/-- A tree's root is poisoned. -/
theorem tb_poison {gR gF gP r : Nat} {F : Nat → List Nat} {bad : Nat → Bool} {p : PS} {s : TS} (h : TreT w0 w gT gR gF gP F bad p s) (hb : NoBad bad) (hr : s.t = [r]) (hl : s.live = true) :
    Calls Try.prog 22 #[.pointer (some ⟨gR, 0, none⟩), .int .i64 (r : Int)] w fun e w' => e = .returned (.bool true) ∧ TreB w0 w' gT := by
  obtain ⟨K, KT, h1, h2, h3, h4, h5, h6, h7, h8, h9⟩ := h
  have hrl : r < 1024 := h3.ok.tlt r (by rw [hr]; exact List.mem_singleton.2 rfl)
  refine (poison_yes gR gF 1024 F bad r w h1 hrl (hb r hrl)).mono ?_
  rintro e w' ⟨rfl, hm, ho⟩
  have ht : Turns (fun k => k = gF) w w' := Turns.of_only ho rfl
  refine ⟨rfl, gR, gF, gP, F, _, p, s, r, K, KT, hm, h2.far (fun k hk => ht.block k (h2.lt k hk) (fun e => h4.2.1 (e ▸ hk))), h3.far (fun k hk => ht.block k (h3.lt k hk) (fun e => h4.2.2.2.1 (e ▸ hk))), h4, h5, h7, h8.trans (ht.below (fun k e => e ▸ h7) h8.size), hr, ?_, hl⟩
  show upd bad r true r = true
  simp [upd]
end

set_option maxRecDepth 20000 in
set_option maxHeartbeats 3200000 in
theorem treeNone_any (a : Int) (w : World) (ha : 0 ≤ a ∧ a ≤ 65535) :
    Calls Try.prog 6 #[.int .u16 a] w fun e w' => e = .returned (.bool true) ∧ Below w.heap.size w w' := by
  obtain ⟨a, rfl⟩ := Int.eq_ofNat_of_zero_le ha.1
  obtain ⟨x, hx⟩ : ∃ x, x = a % 4096 := ⟨_, rfl⟩
  have r1 : (a : Int).tmod 4096 = (x : Int) := by rw [Int.tmod_eq_emod_of_nonneg (by omega)]; omega
  have r1' : (a : Int) % 4096 = (x : Int) := by omega
  have hx4 : x < 4096 := by omega
  have ha2 : a < 65536 := by omega
  clear ha hx
  go_enter Try.func6, Try.ntmps6
  go_wp2_with fail
  refine (tree_get_nil w (a : Int)).mono ?_
  rintro e wg ⟨rfl, hbg⟩
  have HBG := Lib.hid hbg
  clear hbg
  have HX := Lib.hid (show Blk (wg.alloc (.cells (enV en0) 35)) wg.heap.size 35 (enV en0) from Blk.new wg _ _)
  unfold enV en0 at *
  go_wp2_with fail
  obtain ⟨W0, hW0⟩ : ∃ W0, W0 = wg.alloc (.cells #[.int .i64 0, .int .i64 0, .bool false] 35) := ⟨_, rfl⟩
  rw [← hW0] at HX
  have HW0 := Lib.hid (show Below w.heap.size w W0 from by rw [hW0]; exact HBG.out.alloc HBG.out.size _)
  refine (parts_any 1 _ _ (by omega) (Below.refl _ _)).mono ?_
  rw [← hW0]
  clear hW0
  rintro e w1 ⟨gR, gF, gP, p, rfl, hp, hon, hb1⟩
  have HP := Lib.hid hp
  have HON := Lib.hid hon
  clear hp hon hb1
  go_wp2_with fail
  refine (tree_new_nil1 w1 _).mono ?_
  rintro e w2 ⟨rfl, rfl⟩
  go_wp2_with fail
  refine (tree_new_nil2 w1 _).mono ?_
  rintro e w2 ⟨rfl, rfl⟩
  go_wp2_with fail
  refine (pool_new w1).mono ?_
  rintro e w2 ⟨gQ, KQ, rfl, hq, hkq, hb2⟩
  have NN := Lib.hid (nt_new HP.out w2 hb2 hq hkq nobad0)
  clear hq hkq hb2
  go_wp2_with fail
  refine NN.out.mono ?_
  rintro e w3 ⟨rfl, hb3⟩
  have HP3 := Lib.hid (HP.out.fresh hb3)
  clear hb3
  go_wp2_with fail
  refine (tree_close_nil w3).mono ?_
  rintro e w4 ⟨rfl, rfl⟩
  have HN := Lib.hid (tt_new HP3.out nobad0 HON.out.all (HON.out.first (by omega)))
  go_wp2_with fail
  refine HN.out.mono ?_
  rintro e w4 ⟨gT, F', rfl, h4, _⟩
  have H4 := Lib.hid h4
  clear h4
  go_wp2_with fail
  refine (tt_tables H4.out).mono ?_
  rintro e w5 ⟨v5, rfl, hi5, hb5⟩
  obtain ⟨A5, c5, rfl⟩ := hi5.len
  have H5 := Lib.hid (H4.out.fresh hb5)
  rw [show (asI (TS.t ⟨List.replicate 4096 en0, [0], true⟩)).length = 1 from rfl]
  clear hi5 hb5
  go_wp2_with fail
  refine (tt_tables H5.out).mono ?_
  rintro e w6 ⟨v6, rfl, hi6, hb6⟩
  have H6 := Lib.hid (H5.out.fresh hb6)
  obtain ⟨A6, n6, c6, rfl, hn6, _, _, hc6⟩ := hi6
  obtain rfl : 1 = n6 := hn6
  obtain ⟨b6, o6, rfl, _, hcc⟩ := hc6 (by omega)
  have hcell : w6.cell? ⟨b6, o6, none⟩ = some (.int .i64 0) := hcc 0 (by omega)
  have HPO := Lib.hid (tb_poison H6.out nobad0 rfl rfl)
  clear hcc hb6 hc6
  go_wp2_with fail
  refine HPO.out.mono ?_
  rintro e w7 ⟨rfl, h7⟩
  have H7 := Lib.hid h7
  clear h7
  go_wp2_with fail
  refine (tb_get x hx4 H7.out).mono ?_
  rintro e w8 ⟨rfl, hb8⟩
  have H8 := Lib.hid ((H7.out.fresh hb8).fresh ((Below.refl _ _).alloc (Nat.le_refl _) (.cells (enV en0) 35)))
  clear hb8
  unfold enV en0 at *
  go_wp2_with fail
  refine (treAnswers_any _).mono ?_
  rintro e w9 ⟨rfl, hb9⟩
  have H9 := Lib.hid (H8.out.fresh hb9)
  have HX9 := Lib.hid (HX.out.below H9.out.bel HX.out.lt)
  have a0 : w9.cell? ⟨wg.heap.size, 0, none⟩ = some (.int .i64 0) := HX9.out.cell 0
  have a1 : w9.cell? ⟨wg.heap.size, 1, none⟩ = some (.int .i64 0) := HX9.out.cell 1
  have a2 : w9.cell? ⟨wg.heap.size, 2, none⟩ = some (.bool false) := HX9.out.cell 2
  clear hb9
  go_wp2_with fail
  refine (tree_tables_nil w9).mono ?_
  rintro e w10 ⟨rfl, rfl⟩
  go_wp2_with fail
  refine (tree_owns_nil w9 (a : Int)).mono ?_
  rintro e w10 ⟨rfl, rfl⟩
  go_wp2_with fail
  refine (tree_set_nil w9 (a : Int) 0 0 false).mono ?_
  rintro e w10 ⟨rfl, hb10⟩
  have H10 := Lib.hid (H9.out.fresh hb10)
  clear hb10
  go_wp2_with fail
  refine (tb_set x 3 0 false hx4 (by decide) H10.out).mono ?_
  rintro e w11 ⟨rfl, hb11⟩
  have HB11 := Lib.hid (HW0.out.trans (hb11.mono HW0.out.size))
  clear hb11
  go_wp2
  go_ret
  exact ⟨by simp, HB11.out⟩
end Go.Proofs.Ytegoookllckhiaa

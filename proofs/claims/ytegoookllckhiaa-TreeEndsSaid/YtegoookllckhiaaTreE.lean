/-
  TreeEnds answers true: a tree that is closed has nothing, and its tables are free.
  Conditions: the acts are read in memory.
-/
import Derived.Test.YtegoookllckhiaaTreL
import Derived.Test.YtegoookllckhiaaTreAct
import Derived.Deep.RegionHeld3
namespace Go.Proofs.Ytegoookllckhiaa
open Go.RowKit
set_option linter.unusedVariables false
attribute [local irreducible] ps0 badU spanU

/-- A tree behind Tables (w5), whatever uses its tables have now; what Tables made is as it was. -/
def TreX (w0 w5 w : World) (gT gP : Nat) (p : PS) (s : TS) (B0 B1 : Nat) : Prop :=
  ∃ gR F K KT, PoolMem w gP K p ∧ TreeMem w gT KT gR gP F s ∧ (∀ k, K k → ¬ KT k) ∧ (∀ k, K k ∨ KT k → w0.heap.size ≤ k ∧ (k < B0 ∨ B1 ≤ k)) ∧ Below w0.heap.size w0 w ∧ B1 ≤ w.heap.size ∧ (∀ k, B0 ≤ k → k < B1 → w.heap[k]? = w5.heap[k]?)
section
variable {w0 w5 w w' : World} {gT gP B0 B1 : Nat} {p : PS} {s : TS}
theorem TreX.bel (h : TreX w0 w5 w gT gP p s B0 B1) : Below w0.heap.size w0 w := by
  obtain ⟨_, _, _, _, _, _, _, _, h, _⟩ := h
  exact h
theorem TreX.row (h : TreX w0 w5 w gT gP p s B0 B1) {g i : Nat} (h0 : B0 ≤ g) (h1 : g < B1) : w.cell? ⟨g, i, none⟩ = w5.cell? ⟨g, i, none⟩ := by
  obtain ⟨_, _, _, _, _, _, _, _, _, _, h⟩ := h
  exact World.cell?_of_block (h g h0 h1)
theorem TreX.fresh (h : TreX w0 w5 w gT gP p s B0 B1) (hb : Below w.heap.size w w') : TreX w0 w5 w' gT gP p s B0 B1 := by
  obtain ⟨gR, F, K, KT, h1, h2, h3, h4, h5, h6, h7⟩ := h
  exact ⟨gR, F, K, KT, h1.fresh hb, h2.fresh hb, h3, h4, h5.trans (hb.mono h5.size), Nat.le_trans h6 hb.size, fun k k0 k1 => (hb.block k (by omega)).trans (h7 k k0 k1)⟩
theorem tx_of (h : TreN w0 w gT gP p s) (hb : Below w.heap.size w w') : TreX w0 w' w' gT gP p s w.heap.size w'.heap.size := by
  obtain ⟨gR, gF, F, bad, ⟨K, KT, h1, h2, h3, h4, h5, h6, h7, h8, h9⟩, _, _⟩ := h
  refine ⟨gR, F, K, KT, h2.fresh hb, h3.fresh hb, h4.2.2.2.2, fun k hk => ⟨h5 k hk, .inl ?_⟩, h8.trans (hb.mono h8.size), Nat.le_refl _, fun k _ _ => rfl⟩
  rcases hk with hk | hk
  · exact h2.lt k hk
  · exact h3.lt k hk
theorem TreX.turned {K KT K' KT' : Nat → Prop} {gR : Nat} {F : Nat → List Nat} {p' : PS} {s' : TS} (h4 : ∀ k, K k ∨ KT k → w0.heap.size ≤ k ∧ (k < B0 ∨ B1 ≤ k)) (h5 : Below w0.heap.size w0 w) (h6 : B1 ≤ w.heap.size) (h7 : ∀ k, B0 ≤ k → k < B1 → w.heap[k]? = w5.heap[k]?)
    (k1 : PoolMem w' gP K' p') (k2 : TreeMem w' gT KT' gR gP F s') (k3 : ∀ k, K' k → ¬ KT' k) (k4 : NewK w K K') (k5 : NewK w KT KT') (ht : Turns (fun k => K k ∨ KT k) w w') : TreX w0 w5 w' gT gP p' s' B0 B1 := by
  have hs := h5.size
  refine ⟨gR, F, K', KT', k1, k2, k3, fun k hk => ?_, h5.trans (ht.below (fun k hk => (h4 k hk).1) hs), Nat.le_trans h6 ht.size, fun k j0 j1 => (ht.block k (by omega) (fun hk => by have := (h4 k hk).2; omega)).trans (h7 k j0 j1)⟩
  rcases hk with hk | hk
  · rcases k4 k hk with h | h
    · exact h4 k (.inl h)
    · exact ⟨by omega, .inr (by omega)⟩
  · rcases k5 k hk with h | h
    · exact h4 k (.inr h)
    · exact ⟨by omega, .inr (by omega)⟩
theorem tx_spoil (f : Nat) (hf : f < 1024) (hu : p.u.getD f 0 = 2) (h : TreX w0 w5 w gT gP p s B0 B1) :
    Calls Try.prog 19 #[.pointer (some ⟨gP, 0, none⟩), .int .i64 (f : Int)] w fun e w' => e = .returned (.bool true) ∧ TreX w0 w5 w' gT gP ⟨p.u.set f 6, p.z, p.i⟩ s B0 B1 := by
  obtain ⟨gR, F, K, KT, h1, h2, h3, h4, h5, h6, h7⟩ := h
  have e : spoilP p (f : Int) = (true, ⟨p.u.set f 6, p.z, p.i⟩) := by
    unfold spoilP
    rw [useP_in p hf, hu, if_pos ⟨⟨by omega, by omega⟩, by omega⟩, Int.toNat_natCast]
  refine (pool_spoil gP K p (f : Int) w h1).mono ?_
  rw [e]
  rintro e w' ⟨K', rfl, k1, k2, k3⟩
  refine ⟨rfl, TreX.turned h4 h5 h6 h7 k1 (h2.far (fun k hk => k3.block k (h2.lt k hk) (fun h => h3 k h hk))) (fun k hk hk2 => ?_) k2 (fun k hk => .inl hk) (k3.mono (fun k hk => .inl hk))⟩
  rcases k2 k hk with h | h
  · exact h3 k h hk2
  · have := h2.lt k hk2; omega
theorem tx_close (hu : ∀ f ∈ s.t, p.u.getD f 0 = 2 ∨ p.u.getD f 0 = 6) (h : TreX w0 w5 w gT gP p s B0 B1) :
    Calls Try.prog 20 #[.pointer (some ⟨gT, 0, none⟩)] w fun e w' => ∃ p', e = .returned (.tuple #[]) ∧ ClosedIs s p p' ∧ TreX w0 w5 w' gT gP p' ⟨s.e, [], false⟩ B0 B1 := by
  obtain ⟨gR, F, K, KT, h1, h2, h3, h4, h5, h6, h7⟩ := h
  refine (tree_close gT gR gP K KT F p s w h1 h2 h3 hu).mono ?_
  rintro e w' ⟨K', KT', p', rfl, k1, k2, k3, k4, k5, k6, k7⟩
  exact ⟨p', rfl, k3, TreX.turned h4 h5 h6 h7 k1 k2 k6 k4 k5 k7⟩
theorem tx_get (h : TreX w0 w5 w gT gP p s B0 B1) (hl : s.live = false) (page : Nat) (hp : page < 4096) :
    Calls Try.prog 18 #[.pointer (some ⟨gT, 0, none⟩), .int .i64 (page : Int)] w fun e w' => e = .returned (.tuple #[.agg (enV en0), .int .i64 2]) ∧ Below w.heap.size w w' := by
  obtain ⟨gR, F, K, KT, h1, h2, h3, h4, h5, h6, h7⟩ := h
  exact tree_get_dead gT gR gP KT F s w page hp h2 hl
theorem tx_set (h : TreX w0 w5 w gT gP p s B0 B1) (hl : s.live = false) (page : Nat) (k n : Int) (b : Bool) (hp : page < 4096) (hx : EnOk ⟨k, n, b⟩) :
    Calls Try.prog 12 #[.pointer (some ⟨gT, 0, none⟩), .int .i64 (page : Int), .agg #[.int .i64 k, .int .i64 n, .bool b]] w fun e w' => e = .returned (.int .i64 2) ∧ Below w.heap.size w w' := by
  obtain ⟨gR, F, K, KT, h1, h2, h3, h4, h5, h6, h7⟩ := h
  exact tree_set_dead gT gR gP KT F s w page k n b hp hx h2 hl
theorem tx_tables (h : TreX w0 w5 w gT gP p s B0 B1) :
    Calls Try.prog 15 #[.pointer (some ⟨gT, 0, none⟩)] w fun e w' => ∃ v, e = .returned v ∧ Its w' w'.heap.size v (asI s.t) ∧ Below w.heap.size w w' := by
  obtain ⟨gR, F, K, KT, h1, h2, h3, h4, h5, h6, h7⟩ := h
  refine (tree_tables gT gR gP KT F s w h2).mono ?_
  rintro e w' ⟨v, rfl, k1, k2⟩
  exact ⟨v, rfl, Its.of_own k1, k2⟩
theorem tx_owns (f : Int) (h : TreX w0 w5 w gT gP p s B0 B1) :
    Calls Try.prog 16 #[.pointer (some ⟨gT, 0, none⟩), .int .i64 f] w fun e w' => e = .returned (.bool (decide (f ∈ asI s.t))) ∧ Below w.heap.size w w' := by
  obtain ⟨gR, F, K, KT, h1, h2, h3, h4, h5, h6, h7⟩ := h
  exact tree_owns gT gR gP KT F s w f h2
theorem tx_free (h : TreX w0 w5 w gT gP p s B0 B1) :
    Calls Try.prog 11 #[.pointer (some ⟨gP, 0, none⟩)] w fun e w' => e = .returned (.int .i64 ((freeU p.u 32 : Nat) : Int)) ∧ Below w.heap.size w w' := by
  obtain ⟨gR, F, K, KT, h1, h2, h3, h4, h5, h6, h7⟩ := h
  exact free_any gP K p w h1
end
theorem tn_own {w0 w : World} {gT gP : Nat} {p : PS} {s : TS} (h : TreN w0 w gT gP p s) :
    Calls Try.prog 15 #[.pointer (some ⟨gT, 0, none⟩)] w fun e w' => ∃ v, e = .returned v ∧ ownR w' w.heap.size v (asI s.t) ∧ Below w.heap.size w w' := by
  obtain ⟨gR, gF, F, bad, ⟨K, KT, h1, h2, h3, h4, h5, h6, h7, h8, h9⟩, hb, ha⟩ := h
  exact tree_tables gT gR gP KT F s w h3
/-- A Set of whatever. -/
theorem Tot.set {p p' : PS} {s s' : TS} {n : Nat} {page : Int} {x : En} {er : Nat} (h : Tot p s n) (hs : SetIs s p page x er s' p') : Tot p' s' n := by
  rcases hs with ⟨_, _, rfl, rfl⟩ | ⟨_, ⟨_, _, rfl, rfl⟩ | ⟨_, _, rfl, rfl, _⟩ | ⟨_, _, h1, h2, h3⟩⟩
  · exact h
  · exact h
  · exact h
  · exact h.step h3 (by rw [h1, List.length_set]; exact h.el) h2
theorem freeU_spoil {u : List Nat} {r : Nat} (hr : r < u.length) (h1 : u.getD r 0 = 2) : freeU (u.set r 6) 32 = freeU u 32 := by
  rw [freeU_cnt, freeU_cnt]
  have h : ∀ n, cntU (u.set r 6) 1 0 n = cntU u 1 0 n := by
    intro n
    induction n with
    | zero => rfl
    | succ n ih =>
      rw [cntU_succ, cntU_succ, ih, Nat.zero_add]
      by_cases c : n = r
      · subst c
        rw [getD_set_same _ _ _ _ hr, h1]
        rfl
      · rw [getD_set_ne _ _ _ _ _ c]
  exact h _
theorem filter_all {l : List Nat} {P : Nat → Bool} (h : ∀ x ∈ l, P x = true) : (l.filter P).length = l.length := by rw [List.filter_eq_self.2 h]
/-- One of them is not so. -/
theorem filter_one {l : List Nat} {r : Nat} {P : Nat → Bool} (hs : l.Pairwise (fun a b => a < b)) (hr : r ∈ l) (h : ∀ x ∈ l, x ≠ r → P x = true) (h0 : P r = false) : (l.filter P).length + 1 = l.length := by
  induction l with
  | nil => cases hr
  | cons a l ih =>
    rw [List.pairwise_cons] at hs
    rcases List.mem_cons.1 hr with rfl | hr
    · rw [List.filter_cons_of_neg (by rw [h0]; decide), filter_all (fun x hx => h x (List.mem_cons_of_mem _ hx) (by have := hs.1 x hx; omega))]
      rfl
    · rw [List.filter_cons_of_pos (h a List.mem_cons_self (by have := hs.1 r hr; omega))]
      show (l.filter P).length + 1 + 1 = l.length + 1
      rw [ih hs.2 hr (fun x hx => h x (List.mem_cons_of_mem _ hx))]
/-- An entry in block g. -/
def EnAt (w : World) (g : Nat) (x : En) : Prop := Blk w g 35 (enV x)
theorem EnAt.new (w : World) (x : En) : EnAt (w.alloc (.cells (enV x) 35)) w.heap.size x := Blk.new w _ _
theorem EnAt.fresh {w w' : World} {g : Nat} {x : En} (h : EnAt w g x) (hb : Below w.heap.size w w') : EnAt w' g x := h.below hb h.lt
theorem EnAt.cells {w : World} {g : Nat} {k n : Int} {b : Bool} (h : EnAt w g ⟨k, n, b⟩) : w.cell? ⟨g, 0, none⟩ = some (.int .i64 k) ∧ w.cell? ⟨g, 1, none⟩ = some (.int .i64 n) ∧ w.cell? ⟨g, 2, none⟩ = some (.bool b) := ⟨h.cell 0, h.cell 1, h.cell 2⟩
theorem bel_al {w W : World} (h : Below w.heap.size w W) (o : Obj) : Below w.heap.size w (W.alloc o) := h.alloc h.size o
set_option maxRecDepth 20000 in
set_option maxHeartbeats 400000 in
theorem treeEnds_edge (A : Option Addr) (l c : Nat) (b : Int) (w : World) (h : 40 < l) :
    Calls Try.prog 4 #[.slice A l c, .int .u8 b] w fun e w' => e = .returned (.bool true) ∧ Below w.heap.size w w' := by
  have t1 : decide ((40 : Int) < (l : Int)) = true := decide_eq_true (by omega)
  clear h
  go_enter Try.func4, Try.ntmps4
  go_wp2_with fail
  refine (treAnswers_any _).mono ?_
  rintro e w1 ⟨rfl, hb⟩
  go_wp2
  go_ret
  exact ⟨rfl, hb⟩
set_option maxRecDepth 20000 in
set_option maxHeartbeats 3200000 in
theorem treeEnds_any (v0 : Value) (acts : List Act12) (b : Int) (w : World) (h0 : Acts12 w v0 acts) (hl : acts.length ≤ 40) (hb : 0 ≤ b ∧ b ≤ 255) :
    Calls Try.prog 4 #[v0, .int .u8 b] w fun e w' => e = .returned (.bool true) ∧ Below w.heap.size w w' := by
  obtain ⟨A, N, c, rfl, hN, hm, hz⟩ := h0
  obtain ⟨b, rfl⟩ := Int.eq_ofNat_of_zero_le hb.1
  have HZ := Lib.hid hz
  have HN := Lib.hid hN
  have hN40 : N ≤ 40 := by omega
  have hb255 : b ≤ 255 := by omega
  have t1 : decide ((40 : Int) < (N : Int)) = false := decide_eq_false (by omega)
  clear hl hN hm hz hb
  go_enter Try.func4, Try.ntmps4
  go_wp2_with fail
  refine (parts_any 4 w w (by omega) (Below.refl _ _)).mono ?_
  rintro e w1 ⟨gR, gF, gP, p0, rfl, hp, hon, hb1⟩
  have HP := Lib.hid hp
  have HON := Lib.hid hon
  have FR0 := Lib.hid (pt_free hp)
  rw [hon.free (by omega)] at FR0
  clear hp hon hb1
  go_wp2_with fail
  refine FR0.out.mono ?_
  rintro e w2 ⟨rfl, hb2⟩
  have HN0 := Lib.hid (tn_new (HP.out.fresh hb2) nobad0 HON.out.all (HON.out.first (by omega)))
  have HT0 := Lib.hid (Tot.new HON.out (by omega) (HON.out.first (by omega)))
  clear hb2
  go_wp2_with fail
  refine HN0.out.mono ?_
  rintro e w3 ⟨gT, rfl, h3⟩
  have H3 := Lib.hid h3
  clear h3
  go_wp2_with fail
  go_loopg [10] N (fun gg s10 wx => ∃ (i : Nat) (p : PS) (s : TS), i + gg = N ∧ s10 = .int .i64 (i : Int) ∧ TreN w wx gT gP p s ∧ Tot p s 128)
  case atStart => exact ⟨0, _, _, by omega, rfl, H3.out, HT0.out⟩
  case round =>
    obtain ⟨i, p, s, hig, rfl, h4, ht4⟩ := hrel
    have H4 := Lib.hid h4
    have HTOT := Lib.hid ht4
    clear h4 ht4
    by_cases hlt : i < N
    · have t4 : decide ((i : Int) < (N : Int)) = true := decide_eq_true (by omega)
      have t5 : (i : Int) < (N : Int) := by omega
      have t6 : (0 : Int) ≤ (i : Int) := by omega
      obtain ⟨b1, o1, rfl, hpa⟩ := HZ.out (by omega)
      obtain ⟨ac, hac⟩ : ∃ ac, acts[i]? = some ac := ⟨_, List.getElem?_eq_getElem (by rw [HN.out]; exact hlt)⟩
      obtain ⟨hbl, c0, c1, c2, c3⟩ := hpa i ac hac
      obtain ⟨pg, k, n, on⟩ := ac
      simp only at c0 c1 c2 c3
      have KP := Lib.hid (fun (W : World) (hW : Below w.heap.size w W) => (⟨(hW.cell (p := ⟨b1, o1 + i * 4, none⟩) hbl).trans c0, (hW.cell (p := ⟨b1, o1 + i * 4 + 1, none⟩) hbl).trans c1, (hW.cell (p := ⟨b1, o1 + i * 4 + 2, none⟩) hbl).trans c2, (hW.cell (p := ⟨b1, o1 + i * 4 + 3, none⟩) hbl).trans c3⟩ : W.cell? ⟨b1, o1 + i * 4, none⟩ = some (.int .i64 pg) ∧ W.cell? ⟨b1, o1 + i * 4 + 1, none⟩ = some (.int .i64 k) ∧ W.cell? ⟨b1, o1 + i * 4 + 2, none⟩ = some (.int .i64 n) ∧ W.cell? ⟨b1, o1 + i * 4 + 3, none⟩ = some (.bool on)))
      have HW := Lib.hid H4.out.bel
      have ST := Lib.hid (tn_set pg k n on (H4.out.fresh (Below.refl _ _).drew) HTOT.out.live)
      clear c0 c1 c2 c3 hpa hac
      go_wp2_with fail
      go_region_held3 (fun w' => w'.cell? ⟨b1, o1 + i * 4, none⟩ = some (.int .i64 pg) ∧ w'.cell? ⟨b1, o1 + i * 4 + 1, none⟩ = some (.int .i64 k) ∧ w'.cell? ⟨b1, o1 + i * 4 + 2, none⟩ = some (.int .i64 n) ∧ w'.cell? ⟨b1, o1 + i * 4 + 3, none⟩ = some (.bool on))
        (first | assumption | exact KP.out _ HW.out | exact KP.out _ HW.out.drew | exact KP.out _ (TreN.bel (by assumption)))
        ((go_at_call 12; refine ST.out.mono ?_; rintro e w' ⟨er, p', s', rfl, hs, h5⟩))
      have H5 := Lib.hid h5
      have HT5 := Lib.hid (HTOT.out.set hs)
      clear h5 hs
      go_wp2_with fail
      go_roundg (N - (i + 1))
      case measure => omega
      case rel => exact ⟨i + 1, p', s', by omega, by go_num, H5.out, HT5.out⟩
    · obtain rfl : i = N := by omega
      have t4 : decide ((i : Int) < (i : Int)) = false := decide_eq_false (by omega)
      have HTS := Lib.hid H4.out.ok
      have HTU := Lib.hid (show ∀ f ∈ s.t, p.u.getD f 0 = 2 from by
        obtain ⟨_, _, _, _, ⟨_, _, _, _, _, _, _, _, _, _, h⟩, _⟩ := H4.out
        exact h)
      have HPO := Lib.hid (show PsOk p from by
        obtain ⟨_, _, _, _, ⟨_, _, _, h, _⟩, _⟩ := H4.out
        exact h.ok)
      go_wp2_with fail
      refine (tn_own H4.out).mono ?_
      rintro e w5 ⟨v5, rfl, ho5, hb5⟩
      have HX5 := Lib.hid (tx_of H4.out hb5)
      have hlen : 1 ≤ s.t.length := by
        rw [HTS.out.num HTOT.out.live]
        unfold tablesN
        omega
      have ho := ho5
      unfold ownR at ho
      obtain ⟨n, hn⟩ : ∃ n, n = s.t.length := ⟨_, rfl⟩
      rw [asI_length, ← hn] at ho
      obtain ⟨g, cap, cur, rfl, hgb, hgc, hgl⟩ : ∃ g cap cur, v5 = .slice (some ⟨g, 0, none⟩) n cap ∧ wr.heap.size ≤ g ∧ w5.heap[g]? = some (.cells cur 3 (0, 0)) ∧ n ≤ cap := by
        rcases ho.2 with ⟨_, h0⟩ | ⟨g, cap, cur, h1, h2, h3, h4, h5⟩
        · omega
        · exact ⟨g, cap, cur, h1, h2, h3, by simpa using h4⟩
      have HG0 := Lib.hid hgb
      have HG1 := Lib.hid (show g < w5.heap.size from (Array.getElem?_eq_some_iff.1 hgc).1)
      have HC := Lib.hid (show ∀ j, j < n → w5.cell? ⟨g, j, none⟩ = some (.int .i64 ((s.t.getD j 0 : Nat) : Int)) from fun j hj => by
        have hjl : j < s.t.length := by omega
        rw [ho.cellAt j (by simpa [asI, hn] using hj)]
        simp [asI, hjl])
      obtain ⟨f0, hf0⟩ : ∃ f0, f0 = s.t.getD 0 0 := ⟨_, rfl⟩
      have HC0 := Lib.hid (show w5.cell? ⟨g, 0, none⟩ = some (.int .i64 (f0 : Int)) from by rw [hf0]; exact HC.out 0 (by omega))
      have hn1 : 1 ≤ n := by omega
      have hn24 : n ≤ 1024 := by
        have h1 := HTS.out.num HTOT.out.live
        have h2 := HTOT.out.num
        omega
      have HNL := Lib.hid hn
      have tn0 : ((n : Int) == 0) = false := by simp; omega
      clear ho ho5 hb5 hgb hgc hf0 hn hlen
      by_cases hodd : b % 2 = 1
      · have u1 : (b : Int) % 2 = 1 := by omega
        have u1' : (b : Int).tmod 2 = 1 := by rw [Int.tmod_eq_emod_of_nonneg (by omega)]; omega
        obtain ⟨j, hj⟩ : ∃ j, j = b % n := ⟨_, rfl⟩
        have hjn : j < n := by rw [hj]; exact Nat.mod_lt _ (by omega)
        have u2 : (b : Int) % (n : Int) = (j : Int) := by rw [hj]; exact (Int.natCast_emod _ _).symm
        have u2' : (b : Int).tmod (n : Int) = (j : Int) := by rw [Int.tmod_eq_emod_of_nonneg (by omega)]; exact u2
        obtain ⟨f, hf⟩ : ∃ f, f = s.t.getD j 0 := ⟨_, rfl⟩
        have hfm : f ∈ s.t := by rw [hf]; exact getD_mem_or _ _ _ (by rw [← HNL.out]; exact hjn)
        have hfl : f < 1024 := HTS.out.tlt f hfm
        have hcj : w5.cell? ⟨g, j, none⟩ = some (.int .i64 (f : Int)) := by rw [hf]; exact HC.out j hjn
        have hj0 : (0 : Int) ≤ (j : Int) := by omega
        have hj1 : (j : Int) < (n : Int) := by omega
        have hnz : (n : Int) ≠ 0 := by omega
        have SP := Lib.hid (tx_spoil f hfl (HTU.out f hfm) HX5.out)
        clear hodd hj hf
        go_wp2_with fail
        refine SP.out.mono ?_
        rintro e w6 ⟨rfl, h6⟩
        have HX6 := Lib.hid h6
        clear h6
        go_wp2_with fail
        refine (tx_close (fun x hx => by
          by_cases c : x = f
          · rw [c, getD_set_same _ _ _ _ (by rw [HPO.out.u]; exact hfl)]
            exact .inr rfl
          · rw [getD_set_ne _ _ _ _ _ c]
            exact .inl (HTU.out x hx)) HX6.out).mono ?_
        rintro e w7 ⟨p7, rfl, hc7, h7⟩
        have hfr : freeU p7.u 32 = 127 := by
          rw [hc7.num]
          have h1 := filter_one (l := s.t) (r := f) (P := fun x => decide ((p.u.set f 6).getD x 0 = 2)) HTS.out.sorted hfm (fun x hx hne => by rw [decide_eq_true_iff, getD_set_ne _ _ _ _ _ hne]; exact HTU.out x hx) (by rw [getD_set_same _ _ _ _ (by rw [HPO.out.u]; exact hfl)]; rfl)
          have h2 := HTOT.out.num
          have h3 := freeU_spoil (u := p.u) (r := f) (by rw [HPO.out.u]; exact hfl) (HTU.out f hfm)
          show freeU (p.u.set f 6) 32 + (s.t.filter (fun x => decide ((p.u.set f 6).getD x 0 = 2))).length = 127
          omega
        have HFR := Lib.hid hfr
        have H7 := Lib.hid h7
        clear hc7 h7 hfr
        go_wp2_with fail
        refine (tx_get H7.out rfl 0 (by omega)).mono ?_
        rintro e w8 ⟨rfl, hb8⟩
        have HE8 := Lib.hid (EnAt.new w8 en0)
        have H8 := Lib.hid ((H7.out.fresh hb8).fresh (bel_al (Below.refl _ _) (.cells (enV en0) 35)))
        clear hb8
        unfold enV en0 at *
        go_wp2_with fail
        refine (treAnswers_any _).mono ?_
        rintro e w9 ⟨rfl, hb9⟩
        have HE9 := Lib.hid (HE8.out.fresh hb9)
        have H9 := Lib.hid (H8.out.fresh hb9)
        have FR := Lib.hid (tx_free H9.out)
        rw [HFR.out] at FR
        clear hb9
        go_wp2_with fail
        refine FR.out.mono ?_
        rintro e w10 ⟨rfl, hb10⟩
        have HE10 := Lib.hid (HE9.out.fresh hb10)
        have H10 := Lib.hid (H9.out.fresh hb10)
        clear hb10
        go_wp2_with fail
        refine (tx_tables H10.out).mono ?_
        rintro e w11 ⟨v11, rfl, hi11, hb11⟩
        obtain ⟨A11, c11, rfl⟩ := hi11.len
        rw [show (asI ([] : List Nat)).length = 0 from rfl]
        have HE11 := Lib.hid (HE10.out.fresh hb11)
        have H11 := Lib.hid (H10.out.fresh hb11)
        have hg0 : w11.cell? ⟨g, 0, none⟩ = some (.int .i64 (f0 : Int)) := (H11.out.row HG0.out HG1.out).trans HC0.out
        have hlen0 : (0 : Int) < (n : Int) := by omega
        clear hi11 hb11
        go_wp2_with fail
        refine (tx_owns (f0 : Int) H11.out).mono ?_
        rintro e w12 ⟨rfl, hb12⟩
        rw [show decide ((f0 : Int) ∈ asI (TS.t ⟨s.e, [], false⟩)) = false from rfl]
        have H12 := Lib.hid (H11.out.fresh hb12)
        obtain ⟨a0, a1, a2⟩ := (HE11.out.fresh hb12).cells
        clear hb12
        go_wp2_with fail
        refine (tx_set H12.out rfl 0 0 0 false (by omega) (by decide)).mono ?_
        rintro e w13 ⟨rfl, hb13⟩
        have HB13 := Lib.hid (H12.out.fresh hb13).bel
        clear hb13
        go_wp2
        go_ret
        exact ⟨by simp, HB13.out⟩
      · have u1 : (b : Int) % 2 = 0 := by omega
        have u1' : (b : Int).tmod 2 = 0 := by rw [Int.tmod_eq_emod_of_nonneg (by omega)]; omega
        have HX6 := Lib.hid HX5.out
        clear hodd
        go_wp2_with fail
        refine (tx_close (fun x hx => .inl (HTU.out x hx)) HX6.out).mono ?_
        rintro e w7 ⟨p7, rfl, hc7, h7⟩
        have hfr : freeU p7.u 32 = 128 := by
          rw [hc7.num]
          rw [filter_all (fun x hx => by rw [decide_eq_true_iff]; exact HTU.out x hx)]
          have := HTOT.out.num
          omega
        have HFR := Lib.hid hfr
        have H7 := Lib.hid h7
        clear hc7 h7 hfr
        go_wp2_with fail
        refine (tx_get H7.out rfl 0 (by omega)).mono ?_
        rintro e w8 ⟨rfl, hb8⟩
        have HE8 := Lib.hid (EnAt.new w8 en0)
        have H8 := Lib.hid ((H7.out.fresh hb8).fresh (bel_al (Below.refl _ _) (.cells (enV en0) 35)))
        clear hb8
        unfold enV en0 at *
        go_wp2_with fail
        refine (treAnswers_any _).mono ?_
        rintro e w9 ⟨rfl, hb9⟩
        have HE9 := Lib.hid (HE8.out.fresh hb9)
        have H9 := Lib.hid (H8.out.fresh hb9)
        have FR := Lib.hid (tx_free H9.out)
        rw [HFR.out] at FR
        clear hb9
        go_wp2_with fail
        refine FR.out.mono ?_
        rintro e w10 ⟨rfl, hb10⟩
        have HE10 := Lib.hid (HE9.out.fresh hb10)
        have H10 := Lib.hid (H9.out.fresh hb10)
        clear hb10
        go_wp2_with fail
        refine (tx_tables H10.out).mono ?_
        rintro e w11 ⟨v11, rfl, hi11, hb11⟩
        obtain ⟨A11, c11, rfl⟩ := hi11.len
        rw [show (asI ([] : List Nat)).length = 0 from rfl]
        have HE11 := Lib.hid (HE10.out.fresh hb11)
        have H11 := Lib.hid (H10.out.fresh hb11)
        have hg0 : w11.cell? ⟨g, 0, none⟩ = some (.int .i64 (f0 : Int)) := (H11.out.row HG0.out HG1.out).trans HC0.out
        have hlen0 : (0 : Int) < (n : Int) := by omega
        clear hi11 hb11
        go_wp2_with fail
        refine (tx_owns (f0 : Int) H11.out).mono ?_
        rintro e w12 ⟨rfl, hb12⟩
        rw [show decide ((f0 : Int) ∈ asI (TS.t ⟨s.e, [], false⟩)) = false from rfl]
        have H12 := Lib.hid (H11.out.fresh hb12)
        obtain ⟨a0, a1, a2⟩ := (HE11.out.fresh hb12).cells
        clear hb12
        go_wp2_with fail
        refine (tx_set H12.out rfl 0 0 0 false (by omega) (by decide)).mono ?_
        rintro e w13 ⟨rfl, hb13⟩
        have HB13 := Lib.hid (H12.out.fresh hb13).bel
        clear hb13
        go_wp2
        go_ret
        exact ⟨by simp, HB13.out⟩
end Go.Proofs.Ytegoookllckhiaa

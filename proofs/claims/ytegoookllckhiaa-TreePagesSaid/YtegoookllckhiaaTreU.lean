/-
  What a Set makes of the tables: it has those that the way lacks, and goes back up it. Nothing of the program is named here.
  Conditions: none beside those that each line bears.
-/
import Derived.Test.YtegoookllckhiaaTreM
namespace Go.Proofs.Ytegoookllckhiaa
open Go.RowKit
set_option linter.unusedVariables false

theorem gaL (a b : List Nat) (j : Nat) (h : j < a.length) : (a ++ b).getD j 0 = a.getD j 0 := by
  simp only [List.getD_eq_getElem?_getD, List.getElem?_append_left h]
theorem gaR (a b : List Nat) (j : Nat) (h : a.length ≤ j) : (a ++ b).getD j 0 = b.getD (j - a.length) 0 := by
  simp only [List.getD_eq_getElem?_getD, List.getElem?_append_right h]
/-- Frames, pool, which frames are tables, and the number that is told next. -/
structure PutS where
  F : Nat → List Nat
  p : PS
  b : List Bool
  v : Nat
/-- A frame's numbers with one in them. -/
def wrF (F : Nat → List Nat) (f d v : Nat) : Nat → List Nat := upd F f (over (F f) (8 * d) (numL v 8))
def emptyB (xs : List Nat) : Bool := (List.range 8).all (fun j => decide (numJ xs j = 0))
theorem emptyB_iff {xs : List Nat} : emptyB xs = true ↔ ∀ j, j < 8 → numJ xs j = 0 := by
  unfold emptyB
  rw [List.all_eq_true]
  constructor
  · intro h j hj
    exact of_decide_eq_true (h j (List.mem_range.2 hj))
  · intro h j hj
    exact decide_eq_true (h j (List.mem_range.1 hj))
def putStep (way : List Nat) (page : Nat) (s : PutS) (i : Nat) : PutS :=
  if (decide (0 < i) && emptyB (wrF s.F (way.getD i 0) (page / dv (i + 1) % 8) s.v (way.getD i 0))) = true then
    ⟨wrF s.F (way.getD i 0) (page / dv (i + 1) % 8) s.v, (freeP s.p ((way.getD i 0 : Nat) : Int)).2, putB s.b false [((way.getD i 0 : Nat) : Int)], 0⟩
  else ⟨wrF s.F (way.getD i 0) (page / dv (i + 1) % 8) s.v, s.p, s.b, way.getD i 0 + 1⟩

/-- The first k tables of the way are still to be gone through. -/
structure Going (t0 : Nat → Prop) (r0 : Nat) (g4 : Nat → Nat) (way : List Nat) (page : Nat) (p0 : PS) (F0 : Nat → List Nat) (k : Nat) (s : PutS) (g : Nat → Nat → Nat) (t : Nat → Prop) : Prop where
  nod : Nod g t page k
  con : Con g s.F page k
  v : s.v = g k (page / dv k)
  vlt : s.v < 18446744073709551616
  way : ∀ l, l < k → g l (page / dv l) = way.getD l 0 + 1
  mem : ∀ f, t f ↔ s.b.getD f false = true
  len : s.b.length = 1024
  four : ∀ q, g 4 q = g4 q
  root : g 0 0 = r0
  sub : ∀ f, t f → t0 f
  z : s.p.z = p0.z
  i : s.p.i = p0.i
  ok : PsOk s.p
  u2 : ∀ f, t f → s.p.u.getD f 0 = 2
  u1 : ∀ f, t0 f → ¬ t f → s.p.u.getD f 0 = 1
  u0 : ∀ f, ¬ t0 f → s.p.u.getD f 0 = p0.u.getD f 0
  F : ∀ f, ¬ t0 f → s.F f = F0 f
  long : ∀ f, f < 1024 → (s.F f).length = 64
theorem free_2 {p : PS} {f : Nat} (hf : f < 1024) (h : p.u.getD f 0 = 2) : (freeP p (f : Int)).2 = ⟨p.u.set f 1, p.z, p.i⟩ := by
  unfold freeP
  have e : useP p (f : Int) = 2 := by rw [useP_in p hf]; exact h
  rw [e, if_pos (by omega), Int.toNat_natCast]
set_option maxHeartbeats 800000 in
theorem Going.step {t0 : Nat → Prop} {r0 : Nat} {g4 : Nat → Nat} {way : List Nat} {page : Nat} {p0 : PS} {F0 : Nat → List Nat} {k : Nat} {s : PutS} {g : Nat → Nat → Nat} {t : Nat → Prop}
    (h : Going t0 r0 g4 way page p0 F0 (k + 1) s g t) (hk : k < 4) (hp : page < 4096) : ∃ g' t', Going t0 r0 g4 way page p0 F0 k (putStep way page s k) g' t' := by
  obtain ⟨f, hf⟩ : ∃ f, f = way.getD k 0 := ⟨_, rfl⟩
  obtain ⟨q, hq⟩ : ∃ q, q = page / dv k := ⟨_, rfl⟩
  obtain ⟨d, hd⟩ : ∃ d, d = page / dv (k + 1) % 8 := ⟨_, rfl⟩
  have hd8 : d < 8 := by rw [hd]; omega
  have hdq : 8 * q + d = page / dv (k + 1) := by rw [hd, hq]; exact way_digit page hk
  have hgf : g k q = f + 1 := by rw [hf, hq]; exact h.way k (by omega)
  have htf : t f := (h.nod.mem f).2 ⟨k, q, hk, hgf⟩
  have hf' : f < 1024 := h.nod.lt htf
  have hlen := h.long f hf'
  have hwl : ∀ x, x < 1024 → (wrF s.F f d s.v x).length = 64 := fun x hx => by
    unfold wrF
    by_cases c : x = f
    · rw [c, upd_same, over_length _ _ _ (by rw [numL_length]; omega)]; exact hlen
    · rw [upd_other _ _ _ c]; exact h.long x hx
  have hcon : Con g (wrF s.F f d s.v) page k := by
    intro l q' f' j hl hg hj hx
    unfold wrF
    by_cases c : f' = f
    · subst c
      obtain ⟨rfl, rfl⟩ := h.nod.inj l q' k q hl hk (hg.trans hgf.symm) (by omega)
      rw [upd_same, numJ_over hlen hd8 h.vlt hj]
      by_cases cj : j = d
      · rw [if_pos cj, cj, hdq, h.v]
      · rw [if_neg cj]
        exact h.con l q' f' j hl hg hj (fun _ e => cj (by omega))
    · rw [upd_other _ _ _ c]
      refine h.con l q' f' j hl hg hj (fun hlk e => ?_)
      by_cases cl : l < k
      · exact hx cl e
      · obtain rfl : l = k := by omega
        have := way_child page hl hj e
        rw [← hq] at this
        rw [this] at hg
        omega
  have hemp : emptyB (wrF s.F f d s.v f) = true ↔ ∀ j, j < 8 → g (k + 1) (8 * q + j) = 0 := by
    rw [emptyB_iff]
    constructor
    · intro e j hj
      rw [← hcon k q f j hk hgf hj (fun hh => by omega)]
      exact e j hj
    · intro e j hj
      rw [hcon k q f j hk hgf hj (fun hh => by omega)]
      exact e j hj
  have hF : ∀ x, ¬ t0 x → wrF s.F f d s.v x = F0 x := fun x hx => by
    unfold wrF
    rw [upd_other _ _ _ (fun e => hx (h.sub x (by rw [e]; exact htf)))]
    exact h.F x hx
  unfold putStep
  rw [← hf, ← hd]
  by_cases c : 0 < k ∧ emptyB (wrF s.F f d s.v f) = true
  · obtain ⟨c1, c2⟩ := c
    rw [if_pos (by rw [c2, decide_eq_true c1]; rfl)]
    have hz := hemp.1 c2
    refine ⟨fun l x => if l = k ∧ x = q then 0 else g l x, fun x => t x ∧ x ≠ f, ?_⟩
    have hg' : ∀ l x, (if l = k ∧ x = q then 0 else g l x) ≠ 0 → g l x ≠ 0 ∧ (if l = k ∧ x = q then 0 else g l x) = g l x ∧ ¬ (l = k ∧ x = q) := fun l x hh => by
      by_cases e : l = k ∧ x = q
      · rw [if_pos e] at hh; exact absurd rfl hh
      · rw [if_neg e] at hh ⊢; exact ⟨hh, rfl, e⟩
    rw [free_2 hf' (h.u2 f htf)]
    have hul : s.p.u.length = 1024 := h.ok.u
    refine { nod := ?_, con := ?_, v := ?_, vlt := by show (0 : Nat) < 18446744073709551616; omega, way := ?_, mem := ?_, len := ?_, four := ?_, root := ?_, sub := fun x hx => h.sub x hx.1, z := h.z, i := h.i, ok := h.ok.setU f 1 (by omega), u2 := ?_, u1 := ?_, u0 := ?_, F := hF, long := hwl }
    · refine { root := ?_, out := ?_, le := ?_, mem := ?_, inj := ?_, up := ?_, some := ?_ }
      · show (if 0 = k ∧ 0 = q then 0 else g 0 0) ≠ 0
        rw [if_neg (by omega)]
        exact h.nod.root
      · intro x hx
        exact h.nod.out x (hg' 0 x hx).1
      · intro l x hl
        show (if l = k ∧ x = q then 0 else g l x) ≤ 1024
        split
        · omega
        · exact h.nod.le l x hl
      · intro x
        constructor
        · rintro ⟨hx, hne⟩
          obtain ⟨l, y, hl, e⟩ := (h.nod.mem x).1 hx
          refine ⟨l, y, hl, ?_⟩
          show (if l = k ∧ y = q then 0 else g l y) = x + 1
          rw [if_neg (fun hh => hne (by obtain ⟨rfl, rfl⟩ := hh; omega))]
          exact e
        · rintro ⟨l, y, hl, e⟩
          have e0 : (if l = k ∧ y = q then 0 else g l y) = x + 1 := e
          obtain ⟨a1, a2, a3⟩ := hg' l y (fun hh => by rw [hh] at e0; omega)
          have e2 : g l y = x + 1 := a2.symm.trans e
          refine ⟨(h.nod.mem x).2 ⟨l, y, hl, e2⟩, fun hx => a3 ?_⟩
          subst hx
          exact h.nod.inj l y k q hl hk (e2.trans hgf.symm) a1
      · intro l x l' x' hl hl' e hne
        obtain ⟨a1, a2, a3⟩ := hg' l x hne
        obtain ⟨b1, b2, b3⟩ := hg' l' x' (fun hh => hne (e.trans hh))
        exact h.nod.inj l x l' x' hl hl' (a2.symm.trans (e.trans b2)) a1
      · intro l x hl hne
        obtain ⟨a1, a2, a3⟩ := hg' (l + 1) x hne
        show (if l = k ∧ x / 8 = q then 0 else g l (x / 8)) ≠ 0
        rw [if_neg]
        · exact h.nod.up l x hl a1
        · rintro ⟨rfl, e⟩
          have := hz (x % 8) (by omega)
          rw [show 8 * q + x % 8 = x by omega] at this
          exact a1 this
      · intro l x hl0 hl hne hx
        obtain ⟨a1, a2, a3⟩ := hg' l x hne
        obtain ⟨j, hj, hj2⟩ := h.nod.some l x hl0 hl a1 (fun hh => by
          by_cases cl : l < k
          · exact hx ⟨cl, hh.2⟩
          · exact a3 ⟨by omega, by rw [hq, show k = l by omega]; exact hh.2⟩)
        refine ⟨j, hj, ?_⟩
        show (if l + 1 = k ∧ 8 * x + j = q then 0 else g (l + 1) (8 * x + j)) ≠ 0
        rw [if_neg]
        · exact hj2
        · rintro ⟨rfl, e⟩
          exact hx ⟨by omega, way_child page hl hj (e.trans hq)⟩
    · intro l x y j hl hg hj hx
      have hg0 : (if l = k ∧ x = q then 0 else g l x) = y + 1 := hg
      obtain ⟨a1, a2, a3⟩ := hg' l x (fun hh => by rw [hh] at hg0; omega)
      show _ = if l + 1 = k ∧ 8 * x + j = q then 0 else g (l + 1) (8 * x + j)
      rw [if_neg]
      · exact hcon l x y j hl (a2.symm.trans hg) hj hx
      · rintro ⟨rfl, e⟩
        exact hx (by omega) (e.trans hq)
    · show 0 = if k = k ∧ page / dv k = q then 0 else g k (page / dv k)
      rw [if_pos ⟨rfl, hq.symm⟩]
    · intro l hl
      show (if l = k ∧ page / dv l = q then 0 else g l (page / dv l)) = _
      rw [if_neg (by omega)]
      exact h.way l (by omega)
    · intro x
      show _ ↔ (putB s.b false [(f : Int)]).getD x false = true
      have e : putB s.b false [(f : Int)] = s.b.set f false := by
        show (if 0 ≤ (f : Int) ∧ (f : Int) < (s.b.length : Int) then s.b.set ((f : Int).toNat) false else s.b) = _
        rw [if_pos (by rw [h.len]; omega), Int.toNat_natCast]
      rw [e]
      by_cases cx : x = f
      · subst cx
        rw [getD_set_same _ _ _ _ (by rw [h.len]; exact hf')]
        simp
      · rw [getD_set_ne _ _ _ _ _ cx, ← h.mem x]
        exact ⟨fun hh => hh.1, fun hh => ⟨hh, cx⟩⟩
    · show (putB s.b false [(f : Int)]).length = 1024
      rw [putB_length]
      exact h.len
    · intro x
      show (if 4 = k ∧ x = q then 0 else g 4 x) = _
      rw [if_neg (by omega)]
      exact h.four x
    · show (if 0 = k ∧ 0 = q then 0 else g 0 0) = _
      rw [if_neg (by omega)]
      exact h.root
    · rintro x ⟨hx, hne⟩
      show (s.p.u.set f 1).getD x 0 = 2
      rw [getD_set_ne _ _ _ _ _ hne]
      exact h.u2 x hx
    · intro x hx hn
      show (s.p.u.set f 1).getD x 0 = 1
      by_cases cx : x = f
      · rw [cx, getD_set_same _ _ _ _ (by rw [hul]; exact hf')]
      · rw [getD_set_ne _ _ _ _ _ cx]
        exact h.u1 x hx (fun hh => hn ⟨hh, cx⟩)
    · intro x hx
      show (s.p.u.set f 1).getD x 0 = _
      rw [getD_set_ne _ _ _ _ _ (fun e => hx (h.sub x (by rw [e]; exact htf)))]
      exact h.u0 x hx
  · rw [if_neg (fun hh => c (by
      cases hb : emptyB (wrF s.F f d s.v f) with
      | true => rw [hb, Bool.and_true] at hh; exact ⟨of_decide_eq_true hh, rfl⟩
      | false => rw [hb, Bool.and_false] at hh; cases hh))]
    refine ⟨g, t, ?_⟩
    refine { nod := ?_, con := hcon, v := by rw [← hq, hgf], vlt := by show f + 1 < _; omega, way := fun l hl => h.way l (by omega), mem := h.mem, len := h.len, four := h.four, root := h.root, sub := h.sub, z := h.z, i := h.i, ok := h.ok, u2 := h.u2, u1 := h.u1, u0 := h.u0, F := hF, long := hwl }
    refine { root := h.nod.root, out := h.nod.out, le := h.nod.le, mem := h.nod.mem, inj := h.nod.inj, up := h.nod.up, some := ?_ }
    intro l x hl0 hl hne hx
    by_cases cl : l = k ∧ x = q
    · obtain ⟨rfl, rfl⟩ := cl
      have hno : ¬ emptyB (wrF s.F f d s.v f) = true := fun hh => c ⟨hl0, hh⟩
      rw [hemp] at hno
      rcases Classical.em (∃ j, j < 8 ∧ g (l + 1) (8 * x + j) ≠ 0) with hh | hh
      · exact hh
      · exact absurd (fun j hj => Classical.byContradiction fun hne => hh ⟨j, hj, hne⟩) hno
    · exact h.nod.some l x hl0 hl hne (fun hh => by
        by_cases cl2 : l < k
        · exact hx ⟨cl2, hh.2⟩
        · obtain rfl : l = k := by omega
          exact cl ⟨rfl, hh.2.trans hq.symm⟩)
theorem Going.all {t0 : Nat → Prop} {r0 : Nat} {g4 : Nat → Nat} {way : List Nat} {page : Nat} {p0 : PS} {F0 : Nat → List Nat} {s : PutS} {g : Nat → Nat → Nat} {t : Nat → Prop}
    (h : Going t0 r0 g4 way page p0 F0 4 s g t) (hp : page < 4096) : ∃ g' t', Going t0 r0 g4 way page p0 F0 0 (([3, 2, 1, 0] : List Nat).foldl (putStep way page) s) g' t' := by
  obtain ⟨g3, t3, h3⟩ := h.step (by omega) hp
  obtain ⟨g2, t2, h2⟩ := h3.step (by omega) hp
  obtain ⟨g1, t1, h1⟩ := h2.step (by omega) hp
  exact h1.step (by omega) hp
/-- The way is whole: those that it lacks are there, and have nothing. -/
theorem Nod.fill {g : Nat → Nat → Nat} {t : Nat → Prop} {page L : Nat} {F F0 : Nat → List Nat} {b : List Bool} {p p0 : PS} {m : List Nat} {v : Nat} (h : Nod g t page 0) (hc : Con g F page 0) (hp : page < 4096)
    (h1 : 1 ≤ L) (h4 : L ≤ 4) (hy : ∀ l, l < L → g l (page / dv l) ≠ 0) (hn : ∀ l, L ≤ l → l < 4 → g l (page / dv l) = 0) (hm : m.length = 4 - L) (hnd : m.Nodup) (hmt : ∀ f ∈ m, ¬ t f) (hm1 : ∀ f ∈ m, f < 1024)
    (hv : v < 18446744073709551616) (hF : ∀ f, f ∉ m → F0 f = F f) (hF0 : ∀ f ∈ m, F0 f = zer) (hl : ∀ f, f < 1024 → (F0 f).length = 64)
    (hb : ∀ f, (t f ∨ f ∈ m) ↔ b.getD f false = true) (hbl : b.length = 1024) (ok : PsOk p) (hz : p.z = p0.z) (hi : p.i = p0.i) (hu2 : ∀ f, t f ∨ f ∈ m → p.u.getD f 0 = 2) (hu0 : ∀ f, ¬ (t f ∨ f ∈ m) → p.u.getD f 0 = p0.u.getD f 0) :
    ∃ g', Going (fun f => t f ∨ f ∈ m) (g 0 0) (fun q => if q = page then v else g 4 q) ((List.range L).map (fun l => g l (page / dv l) - 1) ++ m) page p0 F 4 ⟨F0, p, b, v⟩ g' (fun f => t f ∨ f ∈ m) := by
  have hmL : ∀ i, i < 4 - L → m.getD i 0 ∈ m := fun i hi => getD_mem_or _ _ _ (by omega)
  have hinj : ∀ i j, i < 4 - L → j < 4 - L → m.getD i 0 = m.getD j 0 → i = j := fun i j hi hj e => by
    have e1 : m.getD i 0 = m[i]'(by omega) := by simp [show i < m.length by omega]
    have e2 : m.getD j 0 = m[j]'(by omega) := by simp [show j < m.length by omega]
    rw [e1, e2] at e
    exact (List.getElem_inj hnd).1 e
  obtain ⟨G, hG⟩ : ∃ G : Nat → Nat → Nat, G = fun l q => if l = 4 then (if q = page then v else g 4 q) else if L ≤ l ∧ q = page / dv l then m.getD (l - L) 0 + 1 else g l q := ⟨_, rfl⟩
  have G4 : ∀ q, G 4 q = if q = page then v else g 4 q := fun q => by rw [hG]; exact if_pos rfl
  have Gm : ∀ l, l < 4 → L ≤ l → G l (page / dv l) = m.getD (l - L) 0 + 1 := fun l hl hL => by rw [hG]; show (if l = 4 then _ else if L ≤ l ∧ page / dv l = page / dv l then _ else _) = _; rw [if_neg (by omega), if_pos ⟨hL, rfl⟩]
  have Go : ∀ l q, l < 4 → ¬ (L ≤ l ∧ q = page / dv l) → G l q = g l q := fun l q hl hx => by rw [hG]; simp only; rw [if_neg (by omega), if_neg hx]
  have Gw : ∀ l, l < L → G l (page / dv l) = g l (page / dv l) := fun l hl => Go l _ (by omega) (by omega)
  have Gt : ∀ l q, l < 4 → G l q ≠ 0 → ∃ f, G l q = f + 1 ∧ (t f ∨ f ∈ m) := fun l q hl hx => by
    by_cases c : L ≤ l ∧ q = page / dv l
    · rw [c.2, Gm l hl c.1]
      exact ⟨_, rfl, .inr (hmL _ (by omega))⟩
    · rw [Go l q hl c] at hx ⊢
      exact ⟨g l q - 1, by omega, .inl ((h.mem _).2 ⟨l, q, hl, by omega⟩)⟩
  have Gway : ∀ l, l < 4 → G l (page / dv l) ≠ 0 := fun l hl => by
    by_cases c : L ≤ l
    · rw [Gm l hl c]; omega
    · rw [Gw l (by omega)]; exact hy l (by omega)
  have Goff : ∀ l x, l < 4 → x ≠ page / dv (l + 1) → G (l + 1) x = g (l + 1) x := fun l x hl hx => by
    by_cases c : l = 3
    · subst c
      rw [G4, if_neg (by rw [dv4] at hx; exact hx)]
    · exact Go _ _ (by omega) (fun hh => hx hh.2)
  have hsmall : ∀ f, t f ∨ f ∈ m → f < 1024 := fun f hf => hf.elim (fun hh => h.lt hh) (hm1 f)
  refine ⟨G, ?_⟩
  refine { nod := ?_, con := ?_, v := ?_, vlt := hv, way := ?_, mem := hb, len := hbl, four := G4, root := ?_, sub := fun f hf => hf, z := hz, i := hi, ok := ok, u2 := hu2, u1 := fun f a b => absurd a b, u0 := hu0, F := fun f hf => hF f (fun hh => hf (.inr hh)), long := hl }
  · refine { root := ?_, out := ?_, le := ?_, mem := ?_, inj := ?_, up := ?_, some := ?_ }
    · rw [Go 0 0 (by omega) (by omega)]; exact h.root
    · intro q hq
      rw [Go 0 q (by omega) (by omega)] at hq
      exact h.out q hq
    · intro l q hl
      rcases Nat.eq_zero_or_pos (G l q) with e | e
      · omega
      · obtain ⟨f, e1, e2⟩ := Gt l q hl (by omega)
        have := hsmall f e2
        omega
    · intro f
      constructor
      · rintro (hf | hf)
        · obtain ⟨l, q, hl, e⟩ := (h.mem f).1 hf
          refine ⟨l, q, hl, ?_⟩
          rw [Go l q hl (fun hh => ?_)]
          · exact e
          · have := hn l hh.1 hl
            rw [← hh.2] at this
            omega
        · obtain ⟨i, hi, e⟩ := List.getElem_of_mem hf
          refine ⟨L + i, page / dv (L + i), by omega, ?_⟩
          rw [Gm (L + i) (by omega) (by omega), Nat.add_sub_cancel_left]
          simp [hi, e]
      · rintro ⟨l, q, hl, e⟩
        obtain ⟨f', e1, e2⟩ := Gt l q hl (by omega)
        rw [show f = f' by omega]
        exact e2
    · intro l q l' q' hl hl' e hne
      by_cases c : L ≤ l ∧ q = page / dv l
      · by_cases c' : L ≤ l' ∧ q' = page / dv l'
        · rw [c.2, c'.2, Gm l hl c.1, Gm l' hl' c'.1] at e
          have := hinj (l - L) (l' - L) (by omega) (by omega) (by omega)
          obtain rfl : l = l' := by omega
          exact ⟨rfl, c.2.trans c'.2.symm⟩
        · rw [c.2, Gm l hl c.1, Go l' q' hl' c'] at e
          exact absurd ((h.mem _).2 ⟨l', q', hl', e.symm⟩) (hmt _ (hmL _ (by omega)))
      · by_cases c' : L ≤ l' ∧ q' = page / dv l'
        · rw [c'.2, Gm l' hl' c'.1, Go l q hl c] at e
          exact absurd ((h.mem _).2 ⟨l, q, hl, e⟩) (hmt _ (hmL _ (by omega)))
        · rw [Go l q hl c] at e hne
          rw [Go l' q' hl' c'] at e
          exact h.inj l q l' q' hl hl' e hne
    · intro l q hl hne
      by_cases c : q = page / dv (l + 1)
      · rw [c, ← dv_div page hl]
        exact Gway l hl
      · rw [Goff l q hl c] at hne
        have := h.up l q hl hne
        by_cases c2 : L ≤ l ∧ q / 8 = page / dv l
        · have := hn l c2.1 hl
          rw [← c2.2] at this
          contradiction
        · rw [Go l _ hl c2]
          exact this
    · intro l q hl0 hl hne hx
      have hq : q ≠ page / dv l := fun e => hx ⟨hl, e⟩
      rw [Go l q hl (fun hh => hq hh.2)] at hne
      obtain ⟨j, hj, hh⟩ := h.some l q hl0 hl hne (by omega)
      refine ⟨j, hj, ?_⟩
      rw [Goff l _ hl (fun e => hq (way_child page hl hj e))]
      exact hh
  · intro l q f j hl hg hj hx
    have hx' := hx hl
    rw [Goff l _ hl hx']
    by_cases c : L ≤ l ∧ q = page / dv l
    · rw [c.2, Gm l hl c.1] at hg
      have hf : f ∈ m := by rw [show f = m.getD (l - L) 0 by omega]; exact hmL _ (by omega)
      show numJ (F0 f) j = _
      rw [hF0 f hf, numJ_zer j hj]
      rcases Nat.eq_zero_or_pos (g (l + 1) (8 * q + j)) with e | e
      · exact e.symm
      · have := h.up l _ hl (Nat.pos_iff_ne_zero.1 e)
        rw [show (8 * q + j) / 8 = q by omega, c.2] at this
        exact absurd (hn l c.1 hl) this
    · rw [Go l q hl c] at hg
      have hf : t f := (h.mem f).2 ⟨l, q, hl, hg⟩
      show numJ (F0 f) j = _
      rw [hF f (fun hh => hmt f hh hf)]
      exact hc l q f j hl hg hj (by omega)
  · show v = G 4 (page / dv 4)
    rw [G4, dv4, if_pos rfl]
  · intro l hl
    by_cases c : L ≤ l
    · rw [Gm l hl c, gaR _ _ _ (by simp; omega)]
      simp
    · rw [Gw l (by omega), gaL _ _ _ (by simp; omega)]
      have := hy l (by omega)
      have e : ((List.range L).map (fun l => g l (page / dv l) - 1)).getD l 0 = g l (page / dv l) - 1 := by
        simp [show l < L by omega]
      rw [e]
      omega
  · exact Go 0 0 (by omega) (by omega)

/-! ### how many frames are free -/
def freeL (u : List Nat) (n : Nat) : List Nat := (List.range n).filter (fun f => decide (u.getD f 0 = 1))
theorem cntU_freeL (u : List Nat) (a n : Nat) : (freeL u (a + n)).length = (freeL u a).length + cntU u 1 a n := by
  induction n with
  | zero => simp [cntU]
  | succ n ih =>
    rw [cntU_succ, ← Nat.add_assoc]
    unfold freeL at ih ⊢
    rw [List.range_succ, List.filter_append, List.length_append, ih, Nat.add_assoc]
    congr 2
    by_cases c : u.getD (a + n) 0 = 1
    · rw [if_pos (by omega), List.filter_cons_of_pos (by simpa using c)]; rfl
    · rw [if_neg (by omega), List.filter_cons_of_neg (by simpa using c)]; rfl
theorem freeU_freeL (u : List Nat) : ∀ k, freeU u k = (freeL u (32 * k)).length := by
  intro k
  induction k with
  | zero => rfl
  | succ k ih =>
    show freeU u k + cntU u 1 (32 * k) 32 = _
    rw [ih, show 32 * (k + 1) = 32 * k + 32 by omega, cntU_freeL]
theorem mem_freeL {u : List Nat} {n f : Nat} : f ∈ freeL u n ↔ f < n ∧ u.getD f 0 = 1 := by
  unfold freeL
  rw [List.mem_filter, List.mem_range, decide_eq_true_iff]
theorem freeL_nodup (u : List Nat) (n : Nat) : (freeL u n).Nodup := List.Pairwise.filter _ List.nodup_range
/-- Frames came and went: what is free and what is a table are together as many as before. -/
theorem free_step {u u' : List Nat} {t t' : List Nat} (ht : t.Nodup) (ht' : t'.Nodup) (hl : ∀ f ∈ t, f < 1024) (hl' : ∀ f ∈ t', f < 1024) (h2 : ∀ f ∈ t, u.getD f 0 = 2) (hn : ∀ f, f ∈ t' → f ∉ t → u.getD f 0 = 1)
    (hu : ∀ f, f < 1024 → u'.getD f 0 = if f ∈ t' then 2 else if f ∈ t then 1 else u.getD f 0) : freeU u' 32 + t'.length = freeU u 32 + t.length := by
  rw [freeU_freeL, freeU_freeL, ← List.length_append, ← List.length_append]
  refine (List.perm_ext_iff_of_nodup ?_ ?_).2 (fun f => ?_) |>.length_eq
  · rw [List.nodup_append]
    refine ⟨freeL_nodup _ _, ht', fun a ha b hb e => ?_⟩
    subst e
    obtain ⟨h1, h3⟩ := mem_freeL.1 ha
    rw [hu a h1, if_pos hb] at h3
    omega
  · rw [List.nodup_append]
    refine ⟨freeL_nodup _ _, ht, fun a ha b hb e => ?_⟩
    subst e
    obtain ⟨h1, h3⟩ := mem_freeL.1 ha
    rw [h2 a hb] at h3
    omega
  · rw [List.mem_append, List.mem_append, mem_freeL, mem_freeL]
    by_cases cf : f < 1024
    · rw [hu f cf]
      by_cases c' : f ∈ t'
      · rw [if_pos c']
        by_cases c : f ∈ t
        · simp [c, c']
        · exact ⟨fun _ => .inl ⟨cf, hn f c' c⟩, fun _ => .inr c'⟩
      · rw [if_neg c']
        by_cases c : f ∈ t
        · rw [if_pos c]; simp [c]; omega
        · rw [if_neg c]; simp [c, c']
    · constructor
      · rintro (⟨h1, _⟩ | h1)
        · omega
        · exact absurd (hl' f h1) cf
      · rintro (⟨h1, _⟩ | h1)
        · omega
        · exact absurd (hl f h1) cf

/-! ### frames had from the pool, one by one -/
/-- What the pool is when so many frames were had. -/
def hadP (p : PS) (m : List Nat) : PS := ⟨m.foldl (fun u f => u.set f 2) p.u, p.z, p.i⟩
/-- Each was the first that was free. -/
def Took (p : PS) (m : List Nat) : Prop := ∀ j, j < m.length → FirstF (hadP p (m.take j)) 2 (2 ^ 0) (some (m.getD j 0))
theorem hadP_snoc (p : PS) (m : List Nat) (f : Nat) : hadP p (m ++ [f]) = ⟨(hadP p m).u.set f 2, p.z, p.i⟩ := by
  unfold hadP
  rw [List.foldl_append]
  rfl
theorem hadP_len (p : PS) (m : List Nat) : (hadP p m).u.length = p.u.length := by
  refine snoc_ind (P := fun m => (hadP p m).u.length = p.u.length) rfl ?_ m
  intro l x ih
  rw [hadP_snoc]
  show ((hadP p l).u.set x 2).length = _
  rw [List.length_set, ih]
theorem hadP_u (p : PS) (m : List Nat) (hl : ∀ f ∈ m, f < p.u.length) (x : Nat) : (hadP p m).u.getD x 0 = if x ∈ m then 2 else p.u.getD x 0 := by
  revert hl
  refine snoc_ind (P := fun m => (∀ f ∈ m, f < p.u.length) → (hadP p m).u.getD x 0 = if x ∈ m then 2 else p.u.getD x 0) ?_ ?_ m
  · intro _
    rw [if_neg (by simp)]
    rfl
  · intro l y ih hl
    rw [hadP_snoc]
    show ((hadP p l).u.set y 2).getD x 0 = _
    by_cases c : x = y
    · subst c
      rw [getD_set_same _ _ _ _ (by rw [hadP_len]; exact hl x (by simp)), if_pos (by simp)]
    · rw [getD_set_ne _ _ _ _ _ c, ih (fun f hf => hl f (by simp [hf]))]
      by_cases c2 : x ∈ l
      · rw [if_pos c2, if_pos (by simp [c2])]
      · rw [if_neg c2, if_neg (by simp [c, c2])]
theorem hadP_ok {p : PS} (h : PsOk p) (m : List Nat) : PsOk (hadP p m) := by
  refine snoc_ind (P := fun m => PsOk (hadP p m)) h ?_ m
  intro l x ih
  rw [hadP_snoc]
  exact ih.setU x 2 (by omega)
theorem Took.nil (p : PS) : Took p [] := fun j hj => by simp at hj
theorem Took.snoc {p : PS} {m : List Nat} {f : Nat} (h : Took p m) (hf : FirstF (hadP p m) 2 (2 ^ 0) (some f)) : Took p (m ++ [f]) := by
  intro j hj
  rw [List.length_append] at hj
  by_cases c : j < m.length
  · rw [List.take_append_of_le_length (by omega), gaL _ _ _ c]
    exact h j c
  · have e : j = m.length := by simp at hj; omega
    rw [e, List.take_left, gaR _ _ _ (Nat.le_refl _), Nat.sub_self]
    exact hf
theorem Took.take {p : PS} {m : List Nat} (h : Took p m) (k : Nat) : Took p (m.take k) := by
  intro j hj
  rw [List.length_take] at hj
  have e : (m.take k).getD j 0 = m.getD j 0 := by
    rw [List.getD_eq_getElem?_getD, List.getD_eq_getElem?_getD, List.getElem?_take, if_pos (by omega)]
  rw [List.take_take, Nat.min_eq_left (by omega), e]
  exact h j (by omega)
/-- They are free ones, and no two the same. -/
theorem Took.all {p : PS} (hp : PsOk p) : ∀ m : List Nat, Took p m → m.Nodup ∧ ∀ f ∈ m, f < 1024 ∧ p.u.getD f 0 = 1 := by
  intro m
  refine snoc_ind (P := fun m => Took p m → m.Nodup ∧ ∀ f ∈ m, f < 1024 ∧ p.u.getD f 0 = 1) ?_ ?_ m
  · intro _
    exact ⟨List.nodup_nil, fun f hf => by simp at hf⟩
  · intro l y ih h
    have hl : Took p l := by
      have := h.take l.length
      rwa [List.take_left] at this
    obtain ⟨h1, h2⟩ := ih hl
    have hy := h l.length (by simp)
    rw [List.take_left, gaR _ _ _ (Nat.le_refl _), Nat.sub_self] at hy
    obtain ⟨⟨_, hy1, _, _, hy2⟩, _⟩ := hy
    have hy3 := hy2 _ (Nat.le_refl _) (by omega)
    have hy1' : y < 1024 := hy1
    have hy3' : (hadP p l).u.getD y 0 = 1 := hy3
    rw [hadP_u p l (fun f hf => by rw [hp.u]; exact (h2 f hf).1)] at hy3'
    have hn : y ∉ l := fun hh => by rw [if_pos hh] at hy3'; omega
    rw [if_neg hn] at hy3'
    refine ⟨?_, fun f hf => ?_⟩
    · rw [List.nodup_append]
      exact ⟨h1, by simp, fun a ha b hb e => hn (by rw [List.mem_singleton] at hb; rw [← hb, ← e]; exact ha)⟩
    · rw [List.mem_append, List.mem_singleton] at hf
      rcases hf with hf | rfl
      · exact h2 f hf
      · exact ⟨hy1', hy3'⟩
/-- Where there is no further one, and each free frame may be had, those that were had are all. -/
theorem Took.full {p : PS} (hp : PsOk p) {m : List Nat} (h : Took p m) (hn : FirstF (hadP p m) 2 (2 ^ 0) none) (ha : AllN p) : freeU p.u 32 ≤ m.length := by
  obtain ⟨h1, h2⟩ := h.all hp
  rw [freeU_freeL]
  have hsub : ∀ f ∈ freeL p.u (32 * 32), f ∈ m := by
    intro f hf
    obtain ⟨hf1, hf2⟩ := mem_freeL.1 hf
    rcases Classical.em (f ∈ m) with c | c
    · exact c
    · refine absurd ?_ (hn f)
      obtain ⟨z1, z2⟩ := ha f hf1 (.inl hf2)
      refine ⟨Nat.mod_one f, hf1, z1, z2, fun k k1 k2 => ?_⟩
      obtain rfl : k = f := by omega
      rw [hadP_u p m (fun f hf => by rw [hp.u]; exact (h2 f hf).1), if_neg c]
      exact hf2
  exact List.Nodup.length_le_of_subset (freeL_nodup _ _) hsub
/-- Those that were had, let go of again. -/
def freeAll (p : PS) (m : List Nat) : PS := m.foldl (fun p (f : Nat) => (freeP p (f : Int)).2) p
theorem freeAll_snoc (p : PS) (m : List Nat) (f : Nat) : freeAll p (m ++ [f]) = (freeP (freeAll p m) (f : Int)).2 := by
  unfold freeAll
  rw [List.foldl_append]
  rfl
theorem freeAll_ok {p : PS} (h : PsOk p) (m : List Nat) : PsOk (freeAll p m) := by
  refine snoc_ind (P := fun m => PsOk (freeAll p m)) h ?_ m
  intro l x ih
  rw [freeAll_snoc]
  exact freeP_ok ih _
/-- Each that was a table is free then; Bad ones stay so. -/
theorem freeAll_at {p : PS} (hp : PsOk p) : ∀ m : List Nat, (∀ f ∈ m, f < 1024) → (∀ f ∈ m, p.u.getD f 0 = 2 ∨ p.u.getD f 0 = 6) → (freeAll p m).z = p.z ∧ (freeAll p m).i = p.i ∧ ∀ x, (freeAll p m).u.getD x 0 = if x ∈ m ∧ p.u.getD x 0 = 2 then 1 else p.u.getD x 0 := by
  intro m
  refine snoc_ind (P := fun m => (∀ f ∈ m, f < 1024) → (∀ f ∈ m, p.u.getD f 0 = 2 ∨ p.u.getD f 0 = 6) → (freeAll p m).z = p.z ∧ (freeAll p m).i = p.i ∧ ∀ x, (freeAll p m).u.getD x 0 = if x ∈ m ∧ p.u.getD x 0 = 2 then 1 else p.u.getD x 0) ?_ ?_ m
  · intro _ _
    exact ⟨rfl, rfl, fun x => by rw [if_neg (by simp)]; rfl⟩
  · intro l y ih hl h2
    obtain ⟨i1, i2, i3⟩ := ih (fun f hf => hl f (by simp [hf])) (fun f hf => h2 f (by simp [hf]))
    have hy := hl y (by simp)
    have hok := freeAll_ok hp l
    have hyu := i3 y
    rw [freeAll_snoc]
    unfold freeP
    rw [useP_in _ hy, Int.toNat_natCast]
    by_cases c : 2 ≤ (freeAll p l).u.getD y 0 ∧ (freeAll p l).u.getD y 0 ≤ 5
    · rw [if_pos c]
      refine ⟨i1, i2, fun x => ?_⟩
      show ((freeAll p l).u.set y 1).getD x 0 = _
      by_cases cx : x = y
      · subst cx
        rw [getD_set_same _ _ _ _ (by rw [hok.u]; exact hy)]
        have hx2 : p.u.getD x 0 = 2 := by
          rcases h2 x (by simp) with e | e
          · exact e
          · by_cases c3 : x ∈ l ∧ p.u.getD x 0 = 2
            · exact c3.2
            · rw [if_neg c3] at hyu; omega
        rw [if_pos ⟨by simp, hx2⟩]
      · rw [getD_set_ne _ _ _ _ _ cx, i3 x]
        simp [cx]
    · rw [if_neg c]
      refine ⟨i1, i2, fun x => ?_⟩
      show (freeAll p l).u.getD x 0 = _
      by_cases cx : x = y
      · subst cx
        rw [hyu] at c ⊢
        by_cases c3 : x ∈ l ∧ p.u.getD x 0 = 2
        · rw [if_pos c3, if_pos ⟨by simp, c3.2⟩]
        · rw [if_neg c3] at c ⊢
          rcases h2 x (by simp) with e | e
          · rw [e] at c; omega
          · rw [if_neg (by omega)]
      · rw [i3 x]
        simp [cx]
/-- Had and let go of: nothing has changed. -/
theorem had_freed {p : PS} (hp : PsOk p) {m : List Nat} (h : Took p m) : freeAll (hadP p m) m = p := by
  obtain ⟨h1, h2⟩ := h.all hp
  have hu := hadP_u p m (fun f hf => by rw [hp.u]; exact (h2 f hf).1)
  obtain ⟨a, b, c⟩ := freeAll_at (hadP_ok hp m) m (fun f hf => (h2 f hf).1) (fun f hf => .inl (by rw [hu, if_pos hf]))
  have hl := (freeAll_ok (hadP_ok hp m) m).u
  obtain ⟨U, Z, I⟩ := p
  have e : freeAll (hadP ⟨U, Z, I⟩ m) m = ⟨U, Z, I⟩ := by
    generalize hX : freeAll (hadP ⟨U, Z, I⟩ m) m = X at a b c hl
    obtain ⟨U', Z', I'⟩ := X
    simp only at a b c hl
    have e1 : U' = U := listN_ext (hl.trans hp.u.symm) fun x hx => by
      rw [c x, hu x]
      by_cases cm : x ∈ m
      · rw [if_pos cm, if_pos ⟨cm, rfl⟩]
        exact (h2 x cm).2.symm
      · rw [if_neg cm, if_neg (fun hh => cm hh.1)]
    have a' : Z' = Z := a
    have b' : I' = I := b
    rw [e1, a', b']
  exact e
theorem putB_out {b : List Bool} {c : Bool} : ∀ {m : List Nat}, (∀ f ∈ m, b.getD f false = c) → putB b c (m.map (fun (f : Nat) => (f : Int))) = b := by
  intro m
  induction m with
  | nil => intro _; rfl
  | cons f m ih =>
    intro h
    show putB (if 0 ≤ (f : Int) ∧ (f : Int) < (b.length : Int) then b.set ((f : Int).toNat) c else b) c _ = b
    have e : (if 0 ≤ (f : Int) ∧ (f : Int) < (b.length : Int) then b.set ((f : Int).toNat) c else b) = b := by
      split
      · rename_i hh
        rw [Int.toNat_natCast]
        refine getD_ext (by simp) fun x hx => ?_
        by_cases cx : x = f
        · subst cx
          rw [getD_set_same _ _ _ _ (by omega)]
          exact (h x (by simp)).symm
        · rw [getD_set_ne _ _ _ _ _ cx]
      · rfl
    rw [e]
    exact ih fun g hg => h g (by simp [hg])
theorem putB_at {b : List Bool} {c : Bool} : ∀ {m : List Nat}, (∀ f ∈ m, f < b.length) → ∀ x, (putB b c (m.map (fun (f : Nat) => (f : Int)))).getD x false = if x ∈ m then c else b.getD x false := by
  intro m
  refine snoc_ind (P := fun m => (∀ f ∈ m, f < b.length) → ∀ x, (putB b c (m.map (fun (f : Nat) => (f : Int)))).getD x false = if x ∈ m then c else b.getD x false) ?_ ?_ m
  · intro _ x
    rw [if_neg (by simp)]
    rfl
  · intro l y ih hl x
    rw [List.map_append, List.map_cons, List.map_nil, putB_snoc, if_pos (by have := hl y (by simp); omega), Int.toNat_natCast]
    by_cases cx : x = y
    · subst cx
      rw [getD_set_same _ _ _ _ (by rw [putB_length]; exact hl x (by simp)), if_pos (by simp)]
    · rw [getD_set_ne _ _ _ _ _ cx, ih (fun f hf => hl f (by simp [hf]))]
      simp [cx]
end Go.Proofs.Ytegoookllckhiaa

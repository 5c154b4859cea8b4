/-
  The contracts of a tree, as the statements' walks ask for them.
  Conditions: those that each line bears.
-/
import Derived.Test.YtegoookllckhiaaTreQ
import Derived.Test.YtegoookllckhiaaTreb
namespace Go.Proofs.Ytegoookllckhiaa
open Go.RowKit
set_option linter.unusedVariables false

theorem mem_bads10 {bl : List Bool} (h : bl.length = 1024) {f : Nat} : f ∈ bads bl 1024 ↔ bl.getD f false = true := by
  constructor
  · exact fun hf => (bads_lt hf).2
  · intro hf
    rcases Nat.lt_or_ge f 1024 with c | c
    · exact mem_bads c hf
    · rw [List.getD_eq_getElem?_getD, List.getElem?_eq_none (by omega)] at hf
      cases hf
theorem bads_pw (l : List Bool) (k : Nat) : (bads l k).Pairwise (fun a b => a < b) := (List.pairwise_lt_range (n := k)).filter _
theorem bads_nodup (l : List Bool) (k : Nat) : (bads l k).Nodup := (bads_pw l k).imp fun {a b} h => by omega
theorem Nod.zero {g : Nat → Nat → Nat} {t : Nat → Prop} {page : Nat} (h : Nod g t page 0) (pg : Nat) : Nod g t pg 0 :=
  ⟨h.root, h.out, h.le, h.mem, h.inj, h.up, fun l q h0 h4 hn _ => h.some l q h0 h4 hn (by omega)⟩
theorem Con.zero {g : Nat → Nat → Nat} {F : Nat → List Nat} {page : Nat} (h : Con g F page 0) (pg : Nat) : Con g F pg 0 :=
  fun l q f j hl hg hj _ => h l q f j hl hg hj (by omega)
theorem numE_ne {x : En} (h : EnOk x) : numE x ≠ 0 ↔ x.k ≠ 0 := by
  rw [Ne, numE_zero h]
  constructor
  · intro hn hk
    refine hn ?_
    obtain ⟨k, n, w⟩ := x
    unfold EnOk at h
    simp only at h hk
    subst hk
    obtain ⟨h1, h2⟩ : n = 0 ∧ w = false := by
      rcases h with h | h | ⟨_, h⟩
      · omega
      · omega
      · exact h
    rw [h1, h2]
  · rintro hn rfl
    exact hn rfl
theorem pages_iff {e : List En} (he : ∀ x ∈ e, EnOk x) (hl : e.length = 4096) {g4 : Nat → Nat} (hg : ∀ q, g4 q = numE (e.getD q en0)) (q : Nat) : q ∈ pagesOf e ↔ g4 q ≠ 0 := by
  rw [pagesOf_mem, hg, numE_ne (getE_ok he q)]
  constructor
  · exact fun h => h.2
  · intro h
    refine ⟨?_, h⟩
    rcases Nat.lt_or_ge q 4096 with c | c
    · exact c
    · rw [List.getD_eq_getElem?_getD, List.getElem?_eq_none (by omega)] at h
      exact absurd rfl h
theorem ts_ok_ {w : World} {gT gR gP r gS gL : Nat} {F : Nat → List Nat} {bl : List Bool} {g : Nat → Nat → Nat} {e : List En} (h : TreeG w gT gR gP r gS gL F bl g e) {T : List Nat} (h1 : T.Pairwise (fun a b => a < b)) (h2 : ∀ f ∈ T, f < 1024) (h3 : ∀ f, f ∈ T ↔ bl.getD f false = true) : TsOk ⟨e, T, true⟩ := by
  refine ⟨h.el, h.eok, h1, h2, fun _ => ?_, fun h => by cases h⟩
  have hn : Nod g (· ∈ T) 0 0 := by
    have e : (fun f => f ∈ T) = fun f => bl.getD f false = true := funext fun f => propext (h3 f)
    rw [e]
    exact h.nod
  exact hn.count (h1.imp fun {a b} h => by omega) (fun q => pages_iff h.eok h.el h.pg q)
theorem ts_ok {w : World} {gT gR gP r gS gL : Nat} {F : Nat → List Nat} {bl : List Bool} {g : Nat → Nat → Nat} {e : List En} (h : TreeG w gT gR gP r gS gL F bl g e) : TsOk ⟨e, bads bl 1024, true⟩ :=
  ts_ok_ h (bads_pw bl 1024) (fun f hf => (bads_lt hf).1) (fun f => mem_bads10 h.st.2.2.2)
attribute [local irreducible] bads
/-- A tree in block gT, over the memory in gR and the pool in gP; KT: its own blocks. -/
def TreeMem (w : World) (gT : Nat) (KT : Nat → Prop) (gR gP : Nat) (F : Nat → List Nat) (s : TS) : Prop :=
  TsOk s ∧ ((s.live = true ∧ ∃ gS gL r bl g, KT = (fun k => k = gT ∨ k = gS ∨ k = gL) ∧ Dif gT gP gS gL ∧ s.t = bads bl 1024 ∧ TreeG w gT gR gP r gS gL F bl g s.e) ∨
    (s.live = false ∧ KT = (fun k => k = gT) ∧ Blk w gT 59 treeD ∧ s.t = []))
section
variable {w w' : World} {gT gR gP : Nat} {KT : Nat → Prop} {F F' : Nat → List Nat} {s : TS}
theorem TreeMem.lt (h : TreeMem w gT KT gR gP F s) : ∀ k, KT k → k < w.heap.size := by
  obtain ⟨_, ⟨_, gS, gL, r, bl, g, rfl, _, _, hG⟩ | ⟨_, rfl, hB, _⟩⟩ := h
  · rintro k (rfl | rfl | rfl)
    · exact Blk.lt hG.tr
    · exact hG.st.lt.1
    · exact hG.st.lt.2
  · rintro k rfl
    exact hB.lt
theorem TreeMem.ok (h : TreeMem w gT KT gR gP F s) : TsOk s := h.1
theorem TreeMem.far (h : TreeMem w gT KT gR gP F s) (hk : ∀ k, KT k → w'.heap[k]? = w.heap[k]?) : TreeMem w' gT KT gR gP F s := by
  obtain ⟨h0, ⟨hl, gS, gL, r, bl, g, rfl, hD, ht, hG⟩ | ⟨hl, rfl, hB, ht⟩⟩ := h
  · exact ⟨h0, .inl ⟨hl, gS, gL, r, bl, g, rfl, hD, ht, { tr := (hk gT (.inl rfl)).trans hG.tr, st := hG.st.far (hk gS (.inr (.inl rfl))) (hk gL (.inr (.inr rfl))), nod := hG.nod, con := hG.con, root := hG.root, pg := hG.pg, el := hG.el, eok := hG.eok }⟩⟩
  · exact ⟨h0, .inr ⟨hl, rfl, (hk gT rfl).trans hB, ht⟩⟩
theorem TreeMem.frames (h : TreeMem w gT KT gR gP F s) (hF : ∀ f, f ∈ s.t → F' f = F f) : TreeMem w gT KT gR gP F' s := by
  obtain ⟨h0, ⟨hl, gS, gL, r, bl, g, rfl, hD, ht, hG⟩ | ⟨hl, rfl, hB, ht⟩⟩ := h
  · refine ⟨h0, .inl ⟨hl, gS, gL, r, bl, g, rfl, hD, ht, { tr := hG.tr, st := hG.st, nod := hG.nod, con := ?_, root := hG.root, pg := hG.pg, el := hG.el, eok := hG.eok }⟩⟩
    intro l q f j hl4 hg hj hx
    rw [hF f (by rw [ht]; exact (mem_bads10 hG.st.2.2.2).2 ((hG.nod.mem f).2 ⟨l, q, hl4, hg⟩))]
    exact hG.con l q f j hl4 hg hj hx
  · exact ⟨h0, .inr ⟨hl, rfl, hB, ht⟩⟩
theorem TreeMem.fresh (h : TreeMem w gT KT gR gP F s) (hb : Below w.heap.size w w') : TreeMem w' gT KT gR gP F s := h.far fun k hk => hb.block k (h.lt k hk)
end
def Apart (gR gF : Nat) (K KT : Nat → Prop) : Prop := ¬ K gR ∧ ¬ K gF ∧ ¬ KT gR ∧ ¬ KT gF ∧ ∀ k, K k → ¬ KT k
def NewK (w : World) (K K' : Nat → Prop) : Prop := ∀ k, K' k → K k ∨ w.heap.size ≤ k
/-- What Close makes of the pool. -/
structure ClosedIs (s : TS) (p p' : PS) : Prop where
  z : p'.z = p.z
  i : p'.i = p.i
  u : ∀ f, f < 1024 → p'.u.getD f 0 = if f ∈ s.t ∧ p.u.getD f 0 = 2 then 1 else p.u.getD f 0
  num : freeU p'.u 32 = freeU p.u 32 + (s.t.filter (fun f => decide (p.u.getD f 0 = 2))).length
def NoBad (bad : Nat → Bool) : Prop := ∀ f, f < 1024 → bad f = false
/-- What a call that turns a tree leaves. -/
def TreePost (w : World) (gT gR gF gP : Nat) (K KT : Nat → Prop) (F : Nat → List Nat) (bad : Nat → Bool) (p : PS) (s : TS) (F' : Nat → List Nat) (p' : PS) (s' : TS) (w' : World) : Prop :=
  ∃ K' KT', Mem w' gR gF 1024 F' bad ∧ PoolMem w' gP K' p' ∧ TreeMem w' gT KT' gR gP F' s' ∧ Apart gR gF K' KT' ∧ NewK w K K' ∧ NewK w KT KT' ∧ (∀ f, f ∉ s.t → p.u.getD f 0 ≠ 1 → F' f = F f) ∧ Turns (fun k => K k ∨ KT k ∨ k = gF) w w'
theorem closed_num {u u' : List Nat} {t : List Nat} (ht : t.Nodup) (hl : ∀ f ∈ t, f < 1024) (hu : ∀ f, f < 1024 → u'.getD f 0 = if f ∈ t ∧ u.getD f 0 = 2 then 1 else u.getD f 0) : freeU u' 32 = freeU u 32 + (t.filter (fun f => decide (u.getD f 0 = 2))).length := by
  rw [freeU_freeL, freeU_freeL, ← List.length_append]
  refine ((List.perm_ext_iff_of_nodup (freeL_nodup _ _) ?_).2 fun f => ?_).length_eq
  · rw [List.nodup_append]
    refine ⟨freeL_nodup _ _, List.Pairwise.filter _ ht, fun a ha b hb e => ?_⟩
    subst e
    have h1 := (mem_freeL.1 ha).2
    have h2 := of_decide_eq_true (List.mem_filter.1 hb).2
    omega
  · rw [List.mem_append, mem_freeL, mem_freeL, List.mem_filter, decide_eq_true_iff]
    constructor
    · rintro ⟨h1, h2⟩
      rw [hu f h1] at h2
      by_cases c : f ∈ t ∧ u.getD f 0 = 2
      · exact .inr c
      · rw [if_neg c] at h2
        exact .inl ⟨h1, h2⟩
    · rintro (⟨h1, h2⟩ | h)
      · refine ⟨h1, ?_⟩
        rw [hu f h1]
        split
        · rfl
        · exact h2
      · refine ⟨hl f h.1, ?_⟩
        rw [hu f (hl f h.1), if_pos h]
theorem set_same {l : List En} {k : Nat} {x : En} (hk : k < l.length) (h : l.getD k en0 = x) : l.set k x = l := by
  refine List.ext_getElem (by simp) fun i h1 h2 => ?_
  by_cases c : i = k
  · subst c
    rw [List.getElem_set_self]
    rw [← h]
    simp [h2]
  · rw [List.getElem_set_ne (fun e => c e.symm)]
theorem fin_fold (way : List Nat) (page : Nat) (s : PutS) : goPut way page s (downs 4) = ([3, 2, 1, 0] : List Nat).foldl (putStep way page) s := rfl
/-- A tree that is new. -/
theorem new_G {w : World} {gT gR gP gS gL f : Nat} {F : Nat → List Nat} {bl : List Bool} (hf : f < 1024) (h1 : TreeB w gT gR gP f gS) (h2 : SetAt w gS gL bl) (h3 : ∀ x, bl.getD x false = true ↔ x = f) (h4 : F f = zer) :
    TreeG w gT gR gP f gS gL F bl (fun l q => if l = 0 ∧ q = 0 then f + 1 else 0) (List.replicate 4096 en0) := by
  have hr : ∀ q, (List.replicate 4096 en0).getD q en0 = en0 := fun q => by
    rw [List.getD_eq_getElem?_getD, List.getElem?_replicate]
    split <;> rfl
  refine { tr := h1, st := h2, nod := ?_, con := ?_, root := rfl, pg := fun q => ?_, el := List.length_replicate, eok := fun x hx => ?_ }
  · refine { root := by simp, out := ?_, le := ?_, mem := ?_, inj := ?_, up := ?_, some := ?_ }
    · intro q hq
      by_cases c : q = 0
      · exact c
      · exact absurd (if_neg (fun h => c h.2)) hq
    · intro l q _
      show (if l = 0 ∧ q = 0 then f + 1 else 0) ≤ 1024
      split <;> omega
    · intro x
      rw [h3 x]
      constructor
      · rintro rfl
        exact ⟨0, 0, by omega, rfl⟩
      · rintro ⟨l, q, _, e⟩
        have e' : (if l = 0 ∧ q = 0 then f + 1 else 0) = x + 1 := e
        split at e' <;> omega
    · intro l q l' q' _ _ e hne
      have e' : (if l = 0 ∧ q = 0 then f + 1 else 0) = if l' = 0 ∧ q' = 0 then f + 1 else 0 := e
      have hne' : (if l = 0 ∧ q = 0 then f + 1 else 0) ≠ 0 := hne
      split at e'
      · split at e'
        · omega
        · omega
      · rename_i c
        rw [if_neg c] at hne'
        exact absurd rfl hne'
    · intro l q _ hne
      exact absurd (if_neg (by omega)) hne
    · intro l q h0 _ hne
      exact absurd (if_neg (by omega)) hne
  · intro l q x j _ hg hj _
    have e' : (if l = 0 ∧ q = 0 then f + 1 else 0) = x + 1 := hg
    split at e'
    · obtain rfl : x = f := by omega
      rw [h4, numJ_zer j hj]
      exact (if_neg (by omega)).symm
    · omega
  · show (if 4 = 0 ∧ q = 0 then f + 1 else 0) = _
    rw [if_neg (by omega), hr q]
    rfl
  · rw [List.eq_of_mem_replicate hx]
    exact en0_ok
theorem bads_one {bl : List Bool} {f : Nat} (hl : bl.length = 1024) (h : ∀ x, bl.getD x false = true ↔ x = f) : bads bl 1024 = [f] := by
  refine List.perm_singleton.1 ((List.perm_ext_iff_of_nodup (bads_nodup _ _) (by simp)).2 fun x => ?_)
  rw [mem_bads10 hl, List.mem_singleton]
  exact h x
theorem one_mem {f : Nat} (hf : f < 1024) (x : Nat) : (putB (List.replicate 1024 false) true (zI [f])).getD x false = true ↔ x = f := by
  have h := putB_at (b := List.replicate 1024 false) (c := true) (m := [f]) (fun y hy => by rw [List.mem_singleton.1 hy, List.length_replicate]; exact hf) x
  have e : zI [f] = [f].map (fun (f : Nat) => (f : Int)) := rfl
  rw [e, h]
  by_cases c : x = f
  · rw [if_pos (by simp [c])]
    simp [c]
  · rw [if_neg (by simp [c]), List.getD_eq_getElem?_getD, List.getElem?_replicate]
    split <;> simp [c]
section
variable (gT gR gF gP : Nat) (K KT : Nat → Prop) (F : Nat → List Nat) (bad : Nat → Bool) (p : PS) (s : TS) (w : World)
theorem tree_new (hM : Mem w gR gF 1024 F bad) (hP : PoolMem w gP K p) (h1 : ¬ K gR) (h2 : ¬ K gF) (hb : NoBad bad) :
    Calls Try.prog 10 #[.pointer (some ⟨gR, 0, none⟩), .pointer (some ⟨gP, 0, none⟩)] w fun e w' => ∃ r, FirstF p 2 (2 ^ 0) r ∧
      match r with
      | none => e = .returned (.tuple #[.pointer none, .int .i64 4]) ∧ ∃ K', Mem w' gR gF 1024 F bad ∧ PoolMem w' gP K' p ∧ NewK w K K' ∧ ¬ K' gR ∧ ¬ K' gF ∧ Turns K w w'
      | some r => ∃ gT F' K' KT', e = .returned (.tuple #[.pointer (some ⟨gT, 0, none⟩), .int .i64 0]) ∧ Mem w' gR gF 1024 F' bad ∧ PoolMem w' gP K' ⟨p.u.set r 2, p.z, p.i⟩ ∧ TreeMem w' gT KT' gR gP F' ⟨List.replicate 4096 en0, [r], true⟩ ∧ Apart gR gF K' KT' ∧ NewK w K K' ∧ (∀ k, KT' k → w.heap.size ≤ k) ∧ (∀ f, f ≠ r → F' f = F f) ∧ Turns (fun k => K k ∨ k = gF) w w' := by
  obtain ⟨hP', rfl⟩ := PoolIn.of hP
  refine (tnew_any gR gF gP F bad p w hM hP' h1 h2 hb).mono ?_
  rintro e w' (⟨gT, gS, gL, f, F', rfl, k1, k2, k3, k4, k5, k6, k7, k8, k9, k10⟩ | ⟨k1, rfl, k2, k3⟩)
  · have hf : f < 1024 := k1.1.2.1
    have h3 := one_mem hf
    have hG := new_G hf k2 k3 h3 k5
    have ht := bads_one k3.2.2.2 h3
    have hlt := hM.lt
    refine ⟨some f, k1, gT, F', _, _, rfl, k4, k7, ⟨?_, .inl ⟨rfl, gS, gL, f, _, _, rfl, k9, ht.symm, hG⟩⟩, ⟨h1, h2, ?_, ?_, ?_⟩, fun k hk => .inl hk, ?_, k6, k10⟩
    · have := ts_ok hG
      rw [ht] at this
      exact this
    · rintro (e | e | e) <;> omega
    · rintro (e | e | e) <;> omega
    · rintro k rfl (e | e | e)
      · exact k9.tP e.symm
      · exact k9.pS e
      · exact k9.pL e
    · rintro k (e | e | e) <;> omega
  · exact ⟨none, k1, rfl, _, hM.turns k3 h1 h2, k2, fun k hk => .inl hk, h1, h2, k3⟩
/-- What Set leaves, from what it comes to. -/
theorem tree_set (page k n : Int) (b : Bool) (hM : Mem w gR gF 1024 F bad) (hP : PoolMem w gP K p) (hT : TreeMem w gT KT gR gP F s) (hd : Apart gR gF K KT) (hb : NoBad bad) (hu : ∀ f ∈ s.t, p.u.getD f 0 = 2) (hl : s.live = true) :
    Calls Try.prog 12 #[.pointer (some ⟨gT, 0, none⟩), .int .i64 page, .agg #[.int .i64 k, .int .i64 n, .bool b]] w fun e w' => ∃ (er : Nat) (F' : Nat → List Nat) (p' : PS) (s' : TS), e = .returned (.int .i64 (er : Int)) ∧ SetIs s p page ⟨k, n, b⟩ er s' p' ∧ TreePost w gT gR gF gP K KT F bad p s F' p' s' w' := by
  obtain ⟨hP', rfl⟩ := PoolIn.of hP
  obtain ⟨hok, hT0⟩ := id hT
  rcases hT0 with ⟨_, gS, gL, r, bl, g, rfl, hD, ht, hG⟩ | ⟨h, _⟩
  rotate_left
  · rw [hl] at h; cases h
  obtain ⟨a1, a2, a3, a4, a5⟩ := id hd
  have same : ∀ w', Below w.heap.size w w' → TreePost w gT gR gF gP (fun k => k = gP) (fun k => k = gT ∨ k = gS ∨ k = gL) F bad p s F p s w' := fun w' hb' =>
    ⟨_, _, hM.below hb' hM.lt.1 hM.lt.2, hP.fresh hb', hT.fresh hb', hd, fun k hk => .inl hk, fun k hk => .inl hk, fun f _ _ => rfl, Turns.of_below hb' (Nat.le_refl _)⟩
  by_cases hp : page < 0 ∨ 4095 < page
  · refine (tset_no _ page 1 k n b w (by omega) (fun W hW => tmay_out gT gR gP r gS page W (Blk.below hG.tr hW (Blk.lt hG.tr)) hp)).mono ?_
    rintro e w' ⟨rfl, h2⟩
    exact ⟨1, F, p, s, rfl, .inl ⟨hp, rfl, rfl, rfl⟩, same w' h2⟩
  · have hp' : 0 ≤ page ∧ page ≤ 4095 := by omega
    obtain ⟨pg, rfl⟩ := Int.eq_ofNat_of_zero_le hp'.1
    have hpg : pg < 4096 := by omega
    by_cases hx : EnOk ⟨k, n, b⟩
    rotate_left
    · refine (tset_bad gT gR gP r gS pg k n b w hG.tr hpg hx).mono ?_
      rintro e w' ⟨rfl, h2⟩
      exact ⟨8, F, p, s, rfl, .inr ⟨hp', .inl ⟨hx, rfl, rfl, rfl⟩⟩, same w' h2⟩
    have hD2 : Dif2 gT gR gF gP gS gL := ⟨hD, fun e => a1 e, fun e => a3 (.inr (.inl e)), fun e => a3 (.inr (.inr e)), fun e => a2 e, fun e => a4 (.inr (.inl e)), fun e => a4 (.inr (.inr e)), fun e => a4 (.inl e)⟩
    refine (tset_live gT gR gF gP r gS gL pg k n b F bad p bl g s.e w hG hM hb hP' hD2 hpg hx).mono ?_
    have hbl := hG.st.2.2.2
    have hul : p.u.length = 1024 := hP'.ok.u
    have htu : ∀ f, bl.getD f false = true → p.u.getD f 0 = 2 := fun f hf => hu f (by rw [ht]; exact (mem_bads10 hbl).2 hf)
    obtain ⟨v, hv⟩ : ∃ v, v = numE ⟨k, n, b⟩ := ⟨_, rfl⟩
    rw [← hv]
    have hvl : v < 18446744073709551616 := by have := numE_lt hx; omega
    have hx0 : (⟨k, n, b⟩ : En).k ≠ 0 ↔ v ≠ 0 := by rw [hv, numE_ne hx]
    have hsl : pg < s.e.length := by rw [hG.el]; exact hpg
    have hge : ∀ q, (s.e.set pg ⟨k, n, b⟩).getD q en0 = if q = pg then ⟨k, n, b⟩ else s.e.getD q en0 := fun q => by
      by_cases c : q = pg
      · rw [c, if_pos rfl, getD_set_same _ _ _ _ hsl]
      · rw [if_neg c, getD_set_ne _ _ _ _ _ c]
    rintro e w' ⟨L, hL1, hL4, hLy, hLn, ⟨hL, hv0, rfl, h2⟩ | ⟨m, hno, hml, htk, hfn, rfl, h1, h2, h3⟩ | ⟨m, F', s', hno, hml, htk, hz, hF, hlen, rfl, hs', h1, h2, h3, h4⟩⟩
    · -- nothing to say, and nowhere to say it
      have hz : g 4 pg = 0 := by
        obtain ⟨j, rfl⟩ : ∃ j, L = j + 1 := ⟨L - 1, by omega⟩
        exact hG.nod.down (by omega) (hLn hL)
      have hx1 : (⟨k, n, b⟩ : En) = en0 := (numE_zero hx).1 (hv.symm.trans hv0)
      have he : s.e.set pg ⟨k, n, b⟩ = s.e := by
        refine set_same hsl ?_
        rw [hx1]
        refine (numE_zero (getE_ok hG.eok pg)).1 ?_
        rw [← hG.pg pg]
        exact hz
      refine ⟨0, F, p, s, rfl, .inr ⟨hp', .inr (.inr ⟨hx, rfl, ?_, hl, ⟨rfl, rfl, fun f hf => ?_, fun f hf hn => absurd hf hn, rfl⟩⟩)⟩, same w' h2⟩
      · rw [Int.toNat_natCast]; exact he.symm
      · by_cases c : f ∈ s.t
        · rw [if_pos c]; exact hu f c
        · rw [if_neg c, if_neg c]
    · -- there are not as many frames as it wants
      have hta := htk.all hP'.ok
      have hL : L < 4 := by omega
      have hv0 : v ≠ 0 := fun h => hno ⟨hL, h⟩
      have hm : ∀ f ∈ m, bl.getD f false = false := fun f hf => by
        cases hc : bl.getD f false with
        | false => rfl
        | true => have h5 := htu f hc; have h6 := (hta.2 f hf).2; omega
      rw [show putB bl false (zI m) = bl from putB_out hm] at h2
      refine ⟨4, F, p, s, rfl, .inr ⟨hp', .inr (.inl ⟨hx, rfl, rfl, rfl, fun hall => ?_⟩)⟩, ?_⟩
      · have hfu := htk.full hP'.ok hfn hall
        have hn : Nod g (· ∈ s.t) pg 0 := by
          have e : (fun f => f ∈ s.t) = fun f => bl.getD f false = true := funext fun f => propext (by rw [ht]; exact mem_bads10 hbl)
          rw [e]
          exact hG.nod.zero pg
        have hc := hn.count_more (ps := pagesOf s.e) (ps' := pagesOf (s.e.set (Int.toNat (pg : Int)) ⟨k, n, b⟩)) (L := L) (hok.sorted.imp fun {a b} h => by omega) (fun q => pages_iff hG.eok hG.el hG.pg q) (fun q => ?_) hL1 hL4 hLy (fun l h5 h6 => ?_)
        · rw [hc]; omega
        · rw [Int.toNat_natCast, pagesOf_mem, hge q]
          by_cases c : q = pg
          · rw [if_pos c]
            simp only [c, or_true, iff_true]
            exact ⟨hpg, hx0.2 hv0⟩
          · rw [if_neg c]
            simp only [c, or_false]
            rw [← pagesOf_mem]
            exact pages_iff hG.eok hG.el hG.pg q
        · have hz : ∀ j, j ≤ 3 - L → g (L + j) (pg / dv (L + j)) = 0 := by
            intro j
            induction j with
            | zero => intro _; exact hLn hL
            | succ j ih =>
              intro hj
              exact hG.nod.zero pg |>.up_ (l := L + j) (by omega) (ih (by omega))
          have := hz (l - L) (by omega)
          rwa [show L + (l - L) = l by omega] at this
      · refine ⟨_, _, hM.turns h3 (by rintro (e | e | e); exact hD2.rP e; exact hD2.rS e; exact hD2.rL e) (by rintro (e | e | e); exact hD2.fP e; exact hD2.fS e; exact hD2.fL e), h1, ⟨hok, .inl ⟨hl, gS, gL, r, bl, g, rfl, hD, ht, ?_⟩⟩, hd, fun k hk => .inl hk, fun k hk => .inl hk, fun f _ _ => rfl, h3.mono fun k hk => ?_⟩
        · exact { tr := h3.blk hG.tr (by rintro (e | e | e); exact hD.tP e; exact hD.tS e; exact hD.tL e), st := h2, nod := hG.nod, con := hG.con, root := hG.root, pg := hG.pg, el := hG.el, eok := hG.eok }
        · rcases hk with h | h | h
          · exact .inl h
          · exact .inr (.inl (.inr (.inl h)))
          · exact .inr (.inl (.inr (.inr h)))
    · -- it is said
      have hta := htk.all hP'.ok
      have hmt : ∀ f ∈ m, ¬ bl.getD f false = true := fun f hf h => by have h5 := htu f h; have h6 := (hta.2 f hf).2; omega
      have hLz : ∀ l, L ≤ l → l < 4 → g l (pg / dv l) = 0 := fun l h5 h6 => by
        have hz : ∀ j, L + j < 4 → g (L + j) (pg / dv (L + j)) = 0 := by
          intro j
          induction j with
          | zero => intro hj; exact hLn hj
          | succ j ih =>
            intro hj
            exact hG.nod.zero pg |>.up_ (l := L + j) (by omega) (ih (by omega))
        have := hz (l - L) (by omega)
        rwa [show L + (l - L) = l by omega] at this
      have hpb := putB_at (b := bl) (c := true) (m := m) (fun f hf => by rw [hbl]; exact (hta.2 f hf).1)
      have hhad := hadP_u p m (fun f hf => by rw [hul]; exact (hta.2 f hf).1)
      obtain ⟨g0, hg0⟩ := (hG.nod.zero pg).fill (F := F) (F0 := F') (b := putB bl true (zI m)) (p := hadP p m) (p0 := p) (m := m) (v := v) (hG.con.zero pg) hpg hL1 hL4 hLy hLz hml hta.1 hmt (fun f hf => (hta.2 f hf).1) hvl hF hz hlen
        (fun f => by
          show _ ↔ (putB bl true (m.map (fun (f : Nat) => (f : Int)))).getD f false = true
          rw [hpb f]
          by_cases c : f ∈ m
          · rw [if_pos c]; simp [c]
          · rw [if_neg c]; simp only [c, or_false])
        (by rw [putB_length]; exact hbl) (hadP_ok hP'.ok m) rfl rfl
        (fun f hf => by
          rw [hhad f]
          by_cases c : f ∈ m
          · rw [if_pos c]
          · rw [if_neg c]; exact htu f (hf.resolve_right c))
        (fun f hf => by rw [hhad f, if_neg (fun c => hf (.inr c))])
      obtain ⟨g', t', hgo⟩ := hg0.all hpg
      have hs2 : s' = ([3, 2, 1, 0] : List Nat).foldl (putStep (wayF g pg L ++ m) pg) ⟨F', hadP p m, putB bl true (zI m), v⟩ := hs'
      rw [show (List.map (fun l => g l (pg / dv l) - 1) (List.range L)) = wayF g pg L from rfl, ← hs2] at hgo
      have het : t' = fun f => s'.b.getD f false = true := funext fun f => propext (hgo.mem f)
      have hmem : ∀ f, f ∈ bads s'.b 1024 ↔ t' f := fun f => (mem_bads10 hgo.len).trans (hgo.mem f).symm
      have hT' : TreeB w' gT gR gP r gS := h4.blk hG.tr (by rintro (e | e | e | e); exact hD.tP e; exact hD.tS e; exact hD.tL e; exact hD2.fT e.symm)
      have hG' : TreeG w' gT gR gP r gS gL s'.F s'.b g' (s.e.set pg ⟨k, n, b⟩) :=
        { tr := hT', st := h3, nod := het ▸ hgo.nod.zero 0, con := hgo.con.zero 0, root := hgo.root.trans hG.root, pg := fun q => by
            rw [hgo.four q, hge q]
            by_cases c : q = pg
            · rw [if_pos c, if_pos c]; exact hv
            · rw [if_neg c, if_neg c]; exact hG.pg q, el := by rw [List.length_set]; exact hG.el, eok := fun x hx' => by
            rcases List.mem_or_eq_of_mem_set hx' with h | h
            · exact hG.eok x h
            · rw [h]; exact hx }
      have hst : ∀ f, f ∈ s.t ↔ bl.getD f false = true := fun f => by rw [ht]; exact mem_bads10 hbl
      have hu' : ∀ f, f < 1024 → s'.p.u.getD f 0 = if f ∈ bads s'.b 1024 then 2 else if f ∈ s.t then 1 else p.u.getD f 0 := fun f hf => by
        by_cases c : t' f
        · rw [if_pos ((hmem f).2 c)]; exact hgo.u2 f c
        · rw [if_neg (fun h => c ((hmem f).1 h))]
          by_cases c2 : f ∈ s.t
          · rw [if_pos c2]; exact hgo.u1 f (.inl ((hst f).1 c2)) c
          · rw [if_neg c2]
            by_cases c3 : f ∈ m
            · rw [hgo.u1 f (.inr c3) c, (hta.2 f c3).2]
            · exact hgo.u0 f (fun h => h.elim (fun h => c2 ((hst f).2 h)) c3)
      have hnew : ∀ f, f ∈ bads s'.b 1024 → f ∉ s.t → p.u.getD f 0 = 1 := fun f hf hn => by
        rcases hgo.sub f ((hmem f).1 hf) with h | h
        · exact absurd ((hst f).2 h) hn
        · exact (hta.2 f h).2
      refine ⟨0, s'.F, s'.p, ⟨s.e.set pg ⟨k, n, b⟩, bads s'.b 1024, true⟩, rfl, .inr ⟨hp', .inr (.inr ⟨hx, rfl, by rw [Int.toNat_natCast], rfl, ⟨hgo.z, hgo.i, hu', hnew, ?_⟩⟩)⟩, ?_⟩
      · exact free_step (hok.sorted.imp fun {a b} h => by omega) (bads_nodup _ _) hok.tlt (fun f hf => (bads_lt hf).1) hu hnew hu'
      · refine ⟨_, _, h1, h2, ⟨ts_ok hG', .inl ⟨rfl, gS, gL, r, s'.b, g', rfl, hD, rfl, hG'⟩⟩, hd, fun k hk => .inl hk, fun k hk => .inl hk, fun f hf hn => ?_, h4.mono fun k hk => ?_⟩
        · exact hgo.F f (fun h => h.elim (fun h => hf ((hst f).2 h)) (fun h => hn (hta.2 f h).2))
        · rcases hk with h | h | h | h
          · exact .inl h
          · exact .inr (.inl (.inr (.inl h)))
          · exact .inr (.inl (.inr (.inr h)))
          · exact .inr (.inr h)
theorem tree_get (page : Nat) (hp : page < 4096) (hM : Mem w gR gF 1024 F bad) (hT : TreeMem w gT KT gR gP F s) (hb : NoBad bad) (hl : s.live = true) :
    Calls Try.prog 18 #[.pointer (some ⟨gT, 0, none⟩), .int .i64 (page : Int)] w fun e w' => e = .returned (.tuple #[.agg (enV (s.e.getD page en0)), .int .i64 0]) ∧ Below w.heap.size w w' := by
  obtain ⟨_, ⟨_, gS, gL, r, bl, g, rfl, hD, ht, hG⟩ | ⟨h, _⟩⟩ := hT
  · exact tget_live gT gR gF gP r gS gL page F bad bl g s.e w hG hM hb hp
  · rw [hl] at h; cases h
theorem tree_get_out (page : Int) (hp : page < 0 ∨ 4095 < page) (hT : TreeMem w gT KT gR gP F s) (hl : s.live = true) :
    Calls Try.prog 18 #[.pointer (some ⟨gT, 0, none⟩), .int .i64 page] w fun e w' => e = .returned (.tuple #[.agg (enV en0), .int .i64 1]) ∧ Below w.heap.size w w' := by
  obtain ⟨_, ⟨_, gS, gL, r, bl, g, rfl, hD, ht, hG⟩ | ⟨h, _⟩⟩ := hT
  · exact tget_no _ page 1 w (by omega) (fun W hW => tmay_out gT gR gP r gS page W (Blk.below hG.tr hW (Blk.lt hG.tr)) hp)
  · rw [hl] at h; cases h
theorem tree_tables (hT : TreeMem w gT KT gR gP F s) :
    Calls Try.prog 15 #[.pointer (some ⟨gT, 0, none⟩)] w fun e w' => ∃ v, e = .returned v ∧ ownR w' w.heap.size v (asI s.t) ∧ Below w.heap.size w w' := by
  obtain ⟨_, ⟨_, gS, gL, r, bl, g, rfl, hD, ht, hG⟩ | ⟨_, rfl, hB, ht⟩⟩ := hT
  · refine (ttables_at gT gS gL bl w (Blk.cell hG.tr 3) hG.st).mono ?_
    rintro e w' ⟨v, rfl, h1, h2⟩
    rw [hG.st.2.2.2] at h1
    refine ⟨v, rfl, ?_, h2⟩
    rw [ht]
    exact h1
  · refine (ttables_dead gT w hB).mono ?_
    rintro e w' ⟨rfl, rfl⟩
    refine ⟨_, rfl, ?_, Below.refl _ _⟩
    rw [ht]
    exact World.ownsRow_nil _ _ _ _
theorem tree_owns (f : Int) (hT : TreeMem w gT KT gR gP F s) :
    Calls Try.prog 16 #[.pointer (some ⟨gT, 0, none⟩), .int .i64 f] w fun e w' => e = .returned (.bool (decide (f ∈ asI s.t))) ∧ Below w.heap.size w w' := by
  obtain ⟨_, ⟨_, gS, gL, r, bl, g, rfl, hD, ht, hG⟩ | ⟨_, rfl, hB, ht⟩⟩ := hT
  · refine (towns_at gT gS gL bl f w (Blk.cell hG.tr 3) hG.st).mono ?_
    rintro e w' ⟨rfl, h2⟩
    refine ⟨?_, h2⟩
    have hl := hG.st.2.2.2
    congr 2
    rw [ht, hl]
    by_cases c : 0 ≤ f ∧ f < ((1024 : Nat) : Int)
    · obtain ⟨x, rfl⟩ := Int.eq_ofNat_of_zero_le c.1
      rw [decide_eq_true c, Bool.true_and, Int.toNat_natCast]
      by_cases c2 : bl.getD x false = true
      · rw [c2, decide_eq_true (asI_mem.2 ((mem_bads10 hl).2 c2))]
      · rw [decide_eq_false (fun h => c2 ((mem_bads10 hl).1 (asI_mem.1 h)))]
        simpa using c2
    · rw [decide_eq_false c, Bool.false_and]
      refine (decide_eq_false (fun h => c ?_)).symm
      obtain ⟨x, hx, rfl⟩ := List.mem_map.1 h
      have := (bads_lt hx).1
      omega
  · refine (towns_dead gT f w hB).mono ?_
    rintro e w' ⟨rfl, rfl⟩
    refine ⟨?_, Below.refl _ _⟩
    rw [ht]
    rfl
theorem tree_get_poison (page r : Nat) (hp : page < 4096) (hM : Mem w gR gF 1024 F bad) (hT : TreeMem w gT KT gR gP F s) (hr : s.t = [r]) (hb : bad r = true) (hl : s.live = true) :
    Calls Try.prog 18 #[.pointer (some ⟨gT, 0, none⟩), .int .i64 (page : Int)] w fun e w' => e = .returned (.tuple #[.agg (enV en0), .int .i64 7]) ∧ Below w.heap.size w w' := by
  obtain ⟨_, ⟨_, gS, gL, r', bl, g, rfl, hD, ht, hG⟩ | ⟨h, _⟩⟩ := hT
  · have hm : r' ∈ bads bl 1024 := (mem_bads10 hG.st.2.2.2).2 ((hG.nod.mem r').2 ⟨0, 0, by omega, hG.root⟩)
    have hr' : r' < 1024 := (bads_lt hm).1
    rw [← ht, hr, List.mem_singleton] at hm
    subst hm
    exact tget_bad gT gR gF gP r' gS page F bad w hG.tr hM hr' hb hp
  · rw [hl] at h; cases h
theorem tree_set_poison (page r : Nat) (k n : Int) (b : Bool) (hp : page < 4096) (hx : EnOk ⟨k, n, b⟩) (hM : Mem w gR gF 1024 F bad) (hP : PoolMem w gP K p) (hT : TreeMem w gT KT gR gP F s) (hd : Apart gR gF K KT) (hr : s.t = [r]) (hb : bad r = true) (hl : s.live = true) :
    Calls Try.prog 12 #[.pointer (some ⟨gT, 0, none⟩), .int .i64 (page : Int), .agg #[.int .i64 k, .int .i64 n, .bool b]] w fun e w' => e = .returned (.int .i64 7) ∧ Turns (fun k => K k ∨ KT k ∨ k = gF) w w' := by
  obtain ⟨_, ⟨_, gS, gL, r', bl, g, rfl, hD, ht, hG⟩ | ⟨h, _⟩⟩ := hT
  · have hm : r' ∈ bads bl 1024 := (mem_bads10 hG.st.2.2.2).2 ((hG.nod.mem r').2 ⟨0, 0, by omega, hG.root⟩)
    have hr' : r' < 1024 := (bads_lt hm).1
    rw [← ht, hr, List.mem_singleton] at hm
    subst hm
    refine (tset_poison gT gR gF gP r' gS page k n b F bad w hG.tr hM hr' hb hp hx).mono ?_
    rintro e w' ⟨rfl, h2⟩
    exact ⟨rfl, Turns.of_below h2 (Nat.le_refl _)⟩
  · rw [hl] at h; cases h
theorem tree_close (hP : PoolMem w gP K p) (hT : TreeMem w gT KT gR gP F s) (hd : ∀ k, K k → ¬ KT k) (hu : ∀ f ∈ s.t, p.u.getD f 0 = 2 ∨ p.u.getD f 0 = 6) :
    Calls Try.prog 20 #[.pointer (some ⟨gT, 0, none⟩)] w fun e w' => ∃ (K' KT' : Nat → Prop) (p' : PS), e = .returned (.tuple #[]) ∧ PoolMem w' gP K' p' ∧ TreeMem w' gT KT' gR gP F ⟨s.e, [], false⟩ ∧ ClosedIs s p p' ∧ NewK w K K' ∧ NewK w KT KT' ∧ (∀ k, K' k → ¬ KT' k) ∧ Turns (fun k => K k ∨ KT k) w w' := by
  obtain ⟨hP', rfl⟩ := PoolIn.of hP
  obtain ⟨hok, hT⟩ := hT
  have hok' : TsOk ⟨s.e, [], false⟩ := ⟨hok.el, hok.eok, List.Pairwise.nil, fun f hf => (by simp at hf), fun h => (by cases h), fun _ => rfl⟩
  rcases hT with ⟨_, gS, gL, r, bl, g, rfl, hD, ht, hG⟩ | ⟨_, rfl, hB, ht⟩
  · refine (tclose_live gT gR gP r gS gL p bl w hG.tr hP' hG.st hD).mono ?_
    rintro e w' ⟨rfl, h1, h2, h3⟩
    rw [← ht] at h1
    obtain ⟨a, b, c⟩ := freeAll_at hP'.ok s.t hok.tlt hu
    refine ⟨_, _, _, rfl, h1, ⟨hok', .inr ⟨rfl, rfl, h2, rfl⟩⟩, ⟨a, b, fun f _ => c f, closed_num (hok.sorted.imp fun {a b} h => by omega) hok.tlt (fun f _ => c f)⟩, fun k hk => .inl hk, fun k hk => .inl (.inl hk), ?_, ?_⟩
    · rintro k rfl e
      exact hD.tP e.symm
    · exact h3.mono fun k hk => by
        rcases hk with h | h | h | h
        · exact .inl h
        · exact .inr (.inl h)
        · exact .inr (.inr (.inl h))
        · exact .inr (.inr (.inr h))
  · refine (tclose_dead gT w hB).mono ?_
    rintro e w' ⟨rfl, h2, h3⟩
    have hne : gP ≠ gT := fun e => hd gP rfl e
    refine ⟨_, _, p, rfl, hP'.turns h3 hne, ⟨hok', .inr ⟨rfl, rfl, h2, rfl⟩⟩, ⟨rfl, rfl, fun f _ => ?_, ?_⟩, fun k hk => .inl hk, fun k hk => .inl hk, hd, h3.mono fun k hk => .inr hk⟩
    · rw [ht, if_neg (by simp)]
    · rw [ht]; rfl
theorem tree_get_dead (page : Nat) (hp : page < 4096) (hT : TreeMem w gT KT gR gP F s) (hl : s.live = false) :
    Calls Try.prog 18 #[.pointer (some ⟨gT, 0, none⟩), .int .i64 (page : Int)] w fun e w' => e = .returned (.tuple #[.agg (enV en0), .int .i64 2]) ∧ Below w.heap.size w w' := by
  obtain ⟨_, ⟨h, _⟩ | ⟨_, rfl, hB, ht⟩⟩ := hT
  · rw [hl] at h; cases h
  · exact tget_no _ page 2 w (by omega) (fun W hW => tmay_dead gT page W (hB.below hW hB.lt))
theorem tree_set_dead (page : Nat) (k n : Int) (b : Bool) (hp : page < 4096) (hx : EnOk ⟨k, n, b⟩) (hT : TreeMem w gT KT gR gP F s) (hl : s.live = false) :
    Calls Try.prog 12 #[.pointer (some ⟨gT, 0, none⟩), .int .i64 (page : Int), .agg #[.int .i64 k, .int .i64 n, .bool b]] w fun e w' => e = .returned (.int .i64 2) ∧ Below w.heap.size w w' := by
  obtain ⟨_, ⟨h, _⟩ | ⟨_, rfl, hB, ht⟩⟩ := hT
  · rw [hl] at h; cases h
  · exact tset_no _ page 2 k n b w (by omega) (fun W hW => tmay_dead gT page W (hB.below hW hB.lt))
theorem tree_new_nil1 (a : Option Addr) : Calls Try.prog 10 #[.pointer none, .pointer a] w fun e w' => e = .returned (.tuple #[.pointer none, .int .i64 1]) ∧ w = w' := tnew_nil1 a w
theorem tree_new_nil2 (a : Option Addr) : Calls Try.prog 10 #[.pointer a, .pointer none] w fun e w' => e = .returned (.tuple #[.pointer none, .int .i64 1]) ∧ w = w' := tnew_nil2 a w
theorem tree_get_nil (page : Int) : Calls Try.prog 18 #[.pointer none, .int .i64 page] w fun e w' => e = .returned (.tuple #[.agg (enV en0), .int .i64 1]) ∧ Below w.heap.size w w' := tget_no none page 1 w (by omega) (fun W _ => tmay_nil page W)
theorem tree_set_nil (page k n : Int) (b : Bool) : Calls Try.prog 12 #[.pointer none, .int .i64 page, .agg #[.int .i64 k, .int .i64 n, .bool b]] w fun e w' => e = .returned (.int .i64 1) ∧ Below w.heap.size w w' := tset_no none page 1 k n b w (by omega) (fun W _ => tmay_nil page W)
theorem tree_tables_nil : Calls Try.prog 15 #[.pointer none] w fun e w' => e = .returned (.slice none 0 0) ∧ w = w' := ttables_nil w
theorem tree_owns_nil (f : Int) : Calls Try.prog 16 #[.pointer none, .int .i64 f] w fun e w' => e = .returned (.bool false) ∧ w = w' := towns_nil f w
theorem tree_close_nil : Calls Try.prog 20 #[.pointer none] w fun e w' => e = .returned (.tuple #[]) ∧ w = w' := tclose_nil w
end
end Go.Proofs.Ytegoookllckhiaa

/-
  New and Spawn, as users see them.
  Space's contracts, as users see them: what the statements' walks ask for.
  share: the pages that a tree has are put into another process.
  Fork, walked.
  Unmap, walked.
  Unmap, as users see it.
  Fork, as users see it.
  Conditions: those that each line bears.
-/
import Derived.Test.YtgjkdnpidobabaaGreatQc46
import Derived.Test.YtgjkdnpidobabaaGreatQc47
import Derived.Test.YtgjkdnpidobabaaGreatQc38
import Derived.Deep.RegionHeld3
set_option linter.unusedSimpArgs false
set_option linter.unusedSectionVars false
set_option linter.unusedVariables false
namespace Go.Proofs.YtgjkdnpidobabaaGreat
open Go.RowKit
set_option linter.unusedVariables false
section
variable {m : SpM} {n r : Nat} {F' : Nat → List Nat} {W : UW} {nr mv u : Nat}
theorem spawn_ent (hx : m.x n = none) (n' q : Nat) : entM (spawnM m n r F') n' q = entM m n' q := by
  by_cases c : n' = n
  · subst c
    rw [entM_none hx, entM_some (m := spawnM m n' r F') (y := ⟨t0 r, [], []⟩) (upd_same _ _ _)]
    show (List.replicate 4096 en0).getD q en0 = en0
    rw [List.getD_eq_getElem?_getD, List.getElem?_replicate]
    split <;> rfl
  · have e : (spawnM m n r F').x n' = m.x n' := upd_other _ _ _ c
    unfold entM
    rw [e]
theorem spawn_ar (hx : m.x n = none) : arM (spawnM m n r F') = arM m := by
  funext n' q
  by_cases c : n' = n
  · subst c
    rw [arM_some (m := spawnM m n' r F') (y := ⟨t0 r, [], []⟩) (upd_same _ _ _)]
    unfold arM
    rw [hx]
    rfl
  · have e : (spawnM m n r F').x n' = m.x n' := upd_other _ _ _ c
    unfold arM
    rw [e]
theorem spawn_case {n' : Nat} {y : SpX} (h : (spawnM m n r F').x n' = some y) : (n' = n ∧ y = ⟨t0 r, [], []⟩) ∨ (n' ≠ n ∧ m.x n' = some y) := by
  have h' : upd m.x n (some ⟨t0 r, [], []⟩) n' = some y := h
  by_cases c : n' = n
  · subst c
    rw [upd_same] at h'
    exact .inl ⟨rfl, by injection h' with h'; exact h'.symm⟩
  · rw [upd_other _ _ _ c] at h'
    exact .inr ⟨c, h'⟩
theorem spawn_use (hr : m.p.u.getD r 0 = 1) (f : Nat) : (spawnM m n r F').p.u.getD f 0 = if f = r then 2 else m.p.u.getD f 0 := by
  show (m.p.u.set r 2).getD f 0 = _
  by_cases c : f = r
  · subst c
    rw [if_pos rfl]
    refine getD_set_same _ _ _ _ ?_
    by_cases l : f < m.p.u.length
    · exact l
    · rw [List.getD_eq_getElem?_getD, List.getElem?_eq_none (by omega)] at hr
      cases hr
  · rw [if_neg c, getD_set_ne _ _ _ _ _ c]
set_option maxRecDepth 100000 in
theorem Inv.spawn {A : Nat → Nat → Option Ar} (hi : Inv A m) (hn : n < 8) (hx : m.x n = none) (hr : FirstF m.p 2 (2 ^ 0) (some r)) (ht : TsOk (t0 r)) : Inv A (spawnM m n r F') := by
  obtain ⟨r1, r2, r3, r4⟩ := first_run hr
  have hu := spawn_use (n := n) (F' := F') r2
  have ho : ∀ f, f ≠ r → (spawnM m n r F').p.u.getD f 0 = m.p.u.getD f 0 := fun f c => by rw [hu, if_neg c]
  have hne : ∀ f, m.p.u.getD f 0 ≠ 1 → f ≠ r := fun f c e => c (e ▸ r2)
  have hent := spawn_ent (r := r) (F' := F') hx
  refine ⟨⟨hi.tabs.bad, ?_, ?_, ?_⟩, ?_, ?_, ?_, ?_, fun n' q => ?_, fun f q => ?_, hi.srt, hi.slot, hi.cok, fun e he => ?_, hi.tr⟩
  · intro n' y e
    rcases spawn_case e with ⟨rfl, rfl⟩ | ⟨c, e⟩
    · rfl
    · exact hi.tabs.live _ _ e
  · intro n' y e f hf
    rcases spawn_case e with ⟨rfl, rfl⟩ | ⟨c, e⟩
    · have hf' : f ∈ [r] := hf
      rw [List.mem_singleton] at hf'
      rw [hu, if_pos hf']
    · have h2 := hi.tabs.use _ _ e f hf
      rw [ho f (hne f (by omega))]
      exact h2
  · intro n1 y1 n2 y2 e1 e2 hd f hf2 hf1
    rcases spawn_case e1 with ⟨rfl, rfl⟩ | ⟨c1, d1⟩ <;> rcases spawn_case e2 with ⟨rfl, rfl⟩ | ⟨c2, d2⟩
    · exact hd rfl
    · have h2 := hi.tabs.use _ _ d2 f hf2
      have hf' : f ∈ [r] := hf1
      rw [List.mem_singleton] at hf'
      rw [hf'] at h2
      omega
    · have h1 := hi.tabs.use _ _ d1 f hf1
      have hf' : f ∈ [r] := hf2
      rw [List.mem_singleton] at hf'
      rw [hf'] at h1
      omega
    · exact hi.tabs.two _ _ _ _ d1 d2 hd f hf2 hf1
  · intro n' y e f hf
    rcases spawn_case e with ⟨rfl, rfl⟩ | ⟨c, e⟩
    · have hf' : f ∈ [r] := hf
      rw [List.mem_singleton] at hf'
      rw [hf']
      exact ⟨r3, r4⟩
    · exact hi.zone _ _ e f hf
  · intro n' y e
    rcases spawn_case e with ⟨rfl, rfl⟩ | ⟨c, e⟩
    · exact ht
    · exact hi.tok _ _ e
  · intro n' y e
    rcases spawn_case e with ⟨rfl, rfl⟩ | ⟨c, e⟩
    · exact hn
    · exact hi.x8 _ _ e
  · intro n' y e
    rcases spawn_case e with ⟨rfl, rfl⟩ | ⟨c, e⟩
    · exact ⟨listA_nil, Nat.zero_le _⟩
    · exact hi.ars _ _ e
  · rw [hent]
    rcases hi.good n' q with c | ⟨f, c, hf, d, hd, h⟩
    · exact .inl c
    · refine .inr ⟨f, c, hf, d, hd, ?_⟩
      rw [ho f (hne f (by rcases h with h | h <;> omega))]
      exact h
  · rw [show (spawnM m n r F').b = m.b from rfl, hi.back]
    constructor
    · rintro ⟨n', q', e1, e2⟩; exact ⟨n', q', e1, (hent n' q').trans e2⟩
    · rintro ⟨n', q', e1, e2⟩; exact ⟨n', q', e1, (hent n' q').symm.trans e2⟩
  · obtain ⟨c1, f, c2, c3, c4⟩ := hi.ckey e he
    exact ⟨c1, f, c2, c3, (ho f (hne f (by omega))).trans c4⟩
theorem spawn_file {A : Nat → Nat → Option Ar} (hi : Inv A m) (hr : m.p.u.getD r 0 = 1) (hF : ∀ f, f ≠ r → F' f = m.F f) (i j : Nat) : fileM (spawnM m n r F') i j = fileM m i j := by
  unfold fileM
  show (match frameC m.c (keyI i) with | some f => (F' f.toNat).getD j 0 | none => _) = _
  cases e : frameC m.c (keyI i) with
  | none => rfl
  | some g =>
    obtain ⟨g', rfl, _, hu⟩ := hi.key_use e
    simp only [Int.toNat_natCast]
    rw [hF g' (by rintro rfl; omega)]
theorem spawn_page {A : Nat → Nat → Option Ar} (hi : Inv A m) (hx : m.x n = none) (hr : m.p.u.getD r 0 = 1) (hF : ∀ f, f ≠ r → F' f = m.F f) (n' q j : Nat) : pageM (spawnM m n r F') n' q j = pageM m n' q j := by
  have hent := spawn_ent (r := r) (F' := F') hx n' q
  rcases hi.ent_cases n' q with e | ⟨f, e, _, d, _, h⟩
  · unfold pageM
    rw [hent, e, if_neg (by decide), if_neg (by decide), spawn_ar hx]
    cases arM m n' q with
    | none => rfl
    | some d => simp only [spawn_file hi hr hF]
  · rw [pageM_in e, pageM_in (hent.trans e)]
    show (F' f).getD j 0 = _
    rw [hF f (by rintro rfl; rcases h with h | h <;> omega)]
theorem spawn_anon {A : Nat → Nat → Option Ar} (hi : Inv A m) (hx : m.x n = none) (hr : m.p.u.getD r 0 = 1) (n' q : Nat) : hasAnon (spawnM m n r F') n' q ↔ hasAnon m n' q := by
  have hent := spawn_ent (r := r) (F' := F') hx n' q
  rcases hi.ent_cases n' q with e | ⟨f, e, _, d, _, h⟩
  · exact ⟨fun c => absurd c (hasAnon_no (hent.trans e)), fun c => absurd c (hasAnon_no e)⟩
  · rw [hasAnon_in e, hasAnon_in (hent.trans e), spawn_use hr, if_neg (by rintro rfl; rcases h with h | h <;> omega)]
theorem Sees.spawn (hs : Sees (fun _ _ => False) m W) {A : Nat → Nat → Option Ar} (hi : Inv A m) (hx : m.x n = none) (hr : m.p.u.getD r 0 = 1) (hF : ∀ f, f ≠ r → F' f = m.F f) : Sees (fun _ _ => False) (spawnM m n r F') (spawnU W n) := by
  have hpr : ∀ n', (spawnU W n).pr n' = if n' = n then some ⟨[], []⟩ else W.pr n' := by
    intro n'
    show upd W.pr n _ n' = _
    by_cases c : n' = n
    · subst c; rw [upd_same, if_pos rfl]
    · rw [upd_other _ _ _ c, if_neg c]
  have hpn : W.pr n = none := by rw [hs.pr, hx]; rfl
  have har : ∀ n' q, (spawnU W n).area n' q = W.area n' q := by
    intro n' q
    unfold UW.area
    rw [hpr]
    by_cases c : n' = n
    · rw [if_pos c, c, hpn]; rfl
    · rw [if_neg c]
  refine ⟨fun n' => ?_, fun n' y e => ?_, fun i j h1 h2 => (hs.fl i j h1 h2).trans (spawn_file hi hr hF i j).symm, fun n' q j hj ha => ?_, fun n' q d hd hk hne => ?_, fun n' q ha => ?_⟩
  · rw [hpr]
    show _ = Option.map _ (upd m.x n _ n')
    by_cases c : n' = n
    · subst c; rw [if_pos rfl, upd_same]; rfl
    · rw [if_neg c, upd_other _ _ _ c]; exact hs.pr n'
  · rcases spawn_case e with ⟨rfl, rfl⟩ | ⟨c, e⟩
    · intro p hp; exact absurd hp List.not_mem_nil
    · exact hs.qc n' y e
  · rw [har] at ha
    rw [spawn_page hi hx hr hF]
    refine Eq.trans ?_ (hs.page n' q j hj ha)
    unfold UW.page
    rw [har]
    rfl
  · rw [har] at hd
    rw [spawn_anon hi hx hr]
    exact hs.own n' q d hd hk id
  · rw [har] at ha
    exact hs.out n' q ha
theorem spawn_cnt (hr : FirstF m.p 2 (2 ^ 0) (some r)) : cntF (spawnM m n r F').p 2 + 1 = cntF m.p 2 ∧ cntF (spawnM m n r F').p 3 = cntF m.p 3 := by
  obtain ⟨r1, r2, r3, r4⟩ := first_run hr
  have hu := spawn_use (n := n) (F' := F') r2
  constructor
  · unfold cntF
    refine filter_drop r1 (decide_eq_true ⟨r2, r3, r4⟩) (decide_eq_false ?_) fun x hx => decide_eq_decide.2 ?_
    · rintro ⟨h, _⟩
      rw [hu, if_pos rfl] at h
      cases h
    · rw [hu, if_neg hx]
      exact Iff.rfl
  · unfold cntF
    refine filter_same fun x hx => decide_eq_decide.2 ?_
    rw [hu]
    by_cases c : x = r
    · subst c
      rw [if_pos rfl]
      constructor
      · rintro ⟨h, _⟩; cases h
      · rintro ⟨_, h, _⟩
        omega
    · rw [if_neg c]
      exact Iff.rfl
end
section
variable (gS : Nat) (K : Nat → Prop) (W : UW) (nr mv u : Nat) (w : World)
theorem space_spawn (n : Nat) (hn : n < 8) (hp : W.pr n = none) (h : SpcMem w gS K W (nr + 1) mv u) :
    Calls Tryz.prog 11 #[.pointer (some ⟨gS, 0, none⟩), .int .i64 (n : Int)] w (SpPost w gS K (.int .i64 0) (spawnU W n) nr mv (u + 1)) := by
  obtain ⟨a, k, m, h1, h2⟩ := h
  have hx : m.x n = none := by
    have := h2.sees.pr n
    rw [hp] at this
    exact Option.map_eq_none_iff.1 this.symm
  have hnr := h2.nr
  refine (spawn_go gS a k K m w n hn h1 h2.inv.tabs hx (by omega)).mono ?_
  rintro e w' ⟨k', r, F', hr, hF, h3, -⟩
  obtain ⟨r1, r2, r3, r4⟩ := first_run hr
  have hc := spawn_cnt (n := n) (F' := F') hr
  have htk : TsOk (t0 r) := by
    obtain ⟨_, K', h4, _⟩ := id h3
    exact h4.tsok gS a k' K' _ w' (n := n) (y := ⟨t0 r, [], []⟩) (upd_same _ _ _)
  refine h3.post ⟨?_, h2.sees.spawn h2.inv hx r2 hF, by omega, by have := h2.mv; omega, fun n' y e => ?_⟩
  · rw [spawn_ar hx]
    exact h2.inv.spawn hn hx hr htk
  · rcases spawn_case e with ⟨rfl, rfl⟩ | ⟨c, e⟩
    · show [r].length ≤ u + 1
      simp
    · have := h2.tb n' y e
      omega
theorem space_new (gR gF gD gD1 gD2 gP : Nat) (F : Nat → List Nat) (S : Nat → List Nat) (L : Nat → Option (List Nat)) (KP : Nat → Prop) (p : PS)
    (hR : Mem w gR gF 1024 F (fun _ => false)) (hD : Dsk w gD gD1 gD2 192 S L Tr.none_) (hP : PoolMem w gP KP p)
    (h1 : ∀ k, k = gR ∨ k = gF → ¬ dk gD gD1 gD2 k ∧ ¬ KP k) (h2 : ∀ k, dk gD gD1 gD2 k → ¬ KP k)
    (hn : nr ≤ cntF p 2) (hm : mv ≤ cntF p 3) :
    Calls Tryz.prog 31 #[.pointer (some ⟨gR, 0, none⟩), .pointer (some ⟨gD, 0, none⟩), .pointer (some ⟨gP, 0, none⟩)] w fun e w' => ∃ gS K, e = .returned (.pointer (some ⟨gS, 0, none⟩)) ∧ SpcMem w' gS K (uw0 fun i j => (last S L (96 + i)).getD j 0) nr mv 0 ∧ (∀ k, K k → k = gR ∨ k = gF ∨ dk gD gD1 gD2 k ∨ KP k ∨ w.heap.size ≤ k) ∧ Below w.heap.size w w' := by
  refine (spnew_go w gR gF gD gD1 gD2 gP F (fun _ => false) S L Tr.none_ KP p hR hD hP h1 h2).mono ?_
  rintro e w' ⟨gS, a, k, K, rfl, h3, h4, h5⟩
  have hent : ∀ n q, entM ⟨F, fun _ => false, S, L, Tr.none_, p, bs0, [], ss0, fun _ => none⟩ n q = en0 := fun _ _ => rfl
  refine ⟨gS, K, rfl, ⟨a, k, _, h3, ⟨⟨fun _ _ => rfl, fun n y e => (by cases e), fun n y e => (by cases e), fun n y _ _ e => (by cases e)⟩, fun n y e => (by cases e), fun n y e => (by cases e), fun n y e => (by cases e), fun n y e => (by cases e), fun n q => .inl rfl, fun f q => ⟨fun hq => absurd hq List.not_mem_nil, fun ⟨n, q', _, e⟩ => ?_⟩, fun f => List.Pairwise.nil, fun _ => rfl, List.Pairwise.nil, fun e he => absurd he List.not_mem_nil, rfl⟩, ⟨fun n => rfl, fun n y e => (by cases e), fun i j _ _ => rfl, fun n q j _ ha => absurd rfl ha, fun n q r hr => (by cases hr), fun _ _ _ => rfl⟩, hn, hm, fun n y e => (by cases e)⟩, h4, h5⟩
  rw [hent] at e
  exact absurd e.symm (en_ne _)
end
end Go.Proofs.YtgjkdnpidobabaaGreat

namespace Go.Proofs.YtgjkdnpidobabaaGreat
open Go.RowKit
end Go.Proofs.YtgjkdnpidobabaaGreat

namespace Go.Proofs.YtgjkdnpidobabaaGreat
open Go.RowKit
set_option linter.unusedVariables false

theorem flatH_at {l : List (Nat × En)} {j : Nat} {p : Nat × En} (h : l[j]? = some p) (i : Nat) (u : Value) (hu : (hldL p)[i]? = some u) : (flatH l)[j * 4 + i]? = some u := by
  induction l generalizing j with
  | nil => cases h
  | cons q l ih =>
    have e : flatH (q :: l) = hldL q ++ flatH l := rfl
    have hlen : (hldL q).length = 4 := rfl
    rw [e]
    cases j with
    | zero =>
      simp only [List.getElem?_cons_zero, Option.some.injEq] at h
      subst h
      have hi : i < 4 := (List.getElem?_eq_some_iff.1 hu).1
      rw [List.getElem?_append_left (by omega), Nat.zero_mul, Nat.zero_add]
      exact hu
    | succ j =>
      have := ih (by simpa using h)
      rw [List.getElem?_append_right (by omega), hlen, show (j + 1) * 4 + i - 4 = j * 4 + i by omega]
      exact this
theorem row_went4 {w0 w w' : World} {K K' : Nat → Prop} {v : Value} {n : Nat} {xs : List Value} (h : RowAt w w0.heap.size 4 v n xs) (ho : ∀ j, v.ownBlock = some j → ¬ K j) (g : Went w K w' K') : RowAt w' w0.heap.size 4 v n xs ∧ ∀ j, v.ownBlock = some j → ¬ K' j :=
  ⟨h.keep (fun b hb => g.tr.block b (h.lt b hb).2 (ho b hb)) g.tr.size, fun j hj hk => by
    rcases g.nk j hk with c1 | c1
    · exact ho j hj c1
    · have := (h.lt j hj).2; omega⟩
section
variable (gS : Nat) (a : SpA) (k : SpK) (K : Nat → Prop) (m : SpM) (w : World)
def PutAt (w : World) (gS : Nat) (a : SpA) (k : SpK) (K : Nat → Prop) (J : Nat → SpM → Prop) (l : List (Nat × En)) (row : Value) (i : Nat) (wr : World) : Prop :=
  ∃ m' K', J i m' ∧ SpMem wr gS a k K' m' ∧ Went w K wr K' ∧ RowAt wr w.heap.size 4 row l.length (flatH l) ∧ ∀ j, row.ownBlock = some j → ¬ K' j
set_option maxRecDepth 100000 in
set_option maxHeartbeats 4000000 in
theorem share_go (J : Nat → SpM → Prop) (n0 n : Nat) (y0 : SpX) (h : SpMem w gS a k K m) (hy0 : m.x n0 = some y0) (hb : NoBad m.bad) (hl : y0.t.live = true) (h0 : J 0 m)
    (hstep : ∀ (i q : Nat) (ek en : Int) (ew : Bool) (m' : SpM) (V : World) (K' : Nat → Prop), (havesT y0.t.e 0 4096)[i]? = some (q, ⟨ek, en, ew⟩) → J i m' → SpMem V gS a k K' m' → Calls Tryz.prog 25 #[.pointer (some ⟨gS, 0, none⟩), .agg #[.int .i64 (n : Int), .int .i64 (q : Int)], .agg #[.int .i64 ek, .int .i64 en, .bool ew]] V fun e w' => ∃ m'', J (i + 1) m'' ∧ SpEnd V gS a k K' (.int .i64 0) m'' e w') :
    Calls Tryz.prog 44 #[.pointer (some ⟨gS, 0, none⟩), .pointer (some ⟨k.T n0, 0, none⟩), .int .i64 (n : Int)] w fun e w' => ∃ m', J (havesT y0.t.e 0 4096).length m' ∧ SpEnd w gS a k K (.int .i64 0) m' e w' := by
  obtain ⟨l, hle⟩ : ∃ l, l = havesT y0.t.e 0 4096 := ⟨_, rfl⟩
  obtain ⟨KP, KT, hM, hP, hT, hAp, -⟩ := h.treeP hy0
  have HV := Lib.hid (show Calls Tryz.prog 48 #[.pointer (some ⟨k.T n0, 0, none⟩), .int .i64 0, .int .i64 4096] w fun e w' => ∃ v, e = .returned (.tuple #[v, .int .i64 0]) ∧ PutAt w gS a k K J l v 0 w' from
    (having_go (k.T n0) a.R a.F a.P KT m.F m.bad y0.t w 0 4096 (by omega) hM hT hb hl).mono (by
      rintro e w' ⟨v, rfl, h1, h2⟩
      rw [← hle] at h1
      refine ⟨v, rfl, m, K, h0, h.fresh h2, Went.of_below h2, h1, fun j hj hk => ?_⟩
      have := (h1.lt j hj).1
      have := h.lt j hk
      omega))
  have hlen : l.length ≤ 4096 := by rw [hle]; exact havesT_length _ _ _
  obtain ⟨N, hN⟩ : ∃ N, N = l.length := ⟨_, rfl⟩
  rw [← hle] at hstep ⊢
  have HST := Lib.hid hstep
  have HN := Lib.hid (And.intro hN (show N ≤ 4096 from by omega))
  clear h hy0 hb hl h0 hstep hle hM hP hT hAp hlen hN
  go_enter Tryz.func44, Tryz.ntmps44
  go_wp2_with fail
  refine HV.out.mono ?_
  rintro e w2 ⟨v, rfl, hp0⟩
  obtain ⟨A2, c2, hv2, hc2⟩ : ∃ A c, v = .slice A N c ∧ N ≤ c := by
    obtain ⟨_, _, _, _, _, h1, _⟩ := hp0
    obtain ⟨A, c, e1, e2⟩ := h1.len
    exact ⟨A, c, by rw [HN.out.1]; exact e1, by rw [HN.out.1]; exact e2⟩
  subst hv2
  have P0 := Lib.hid hp0
  clear hp0
  go_wp2_with fail
  go_loopg [22] N (fun gg s22 wr => ∃ i : Nat, i + gg = N ∧ s22 = .int .i64 (i : Int) ∧ PutAt w gS a k K J l (.slice A2 N c2) i wr)
  case atStart => exact ⟨0, by omega, rfl, P0.out⟩
  case round =>
    obtain ⟨i, hig, rfl, hst⟩ := hrel
    by_cases hlt : i < N
    · obtain ⟨⟨q, ek, en, ew⟩, hp⟩ : ∃ p, l[i]? = some p := ⟨_, List.getElem?_eq_getElem (by have := HN.out.1; omega)⟩
      obtain ⟨mi, Ki, hj, h1, g1, hrow, hoff⟩ := hst
      obtain ⟨g, o, cap, hvv, hcc, hat⟩ := hrow.some_ (by have := HN.out.1; omega)
      injection hvv with q1 q2 q3
      subst q1
      subst q3
      clear q2
      have hgl : g < wr.heap.size := (hrow.lt g rfl).2
      have a0 : wr.cell? ⟨g, o + i * 4, none⟩ = some (.int .i64 (q : Int)) := hat (i * 4 + 0) _ (flatH_at hp 0 _ rfl)
      have a1 : wr.cell? ⟨g, o + i * 4 + 1, none⟩ = some (.int .i64 ek) := by rw [Nat.add_assoc]; exact hat (i * 4 + 1) _ (flatH_at hp 1 _ rfl)
      have a2 : wr.cell? ⟨g, o + i * 4 + 2, none⟩ = some (.int .i64 en) := by rw [Nat.add_assoc]; exact hat (i * 4 + 2) _ (flatH_at hp 2 _ rfl)
      have a3 : wr.cell? ⟨g, o + i * 4 + 3, none⟩ = some (.bool ew) := by rw [Nat.add_assoc]; exact hat (i * 4 + 3) _ (flatH_at hp 3 _ rfl)
      have t4 : decide ((i : Int) < (N : Int)) = true := decide_eq_true (by omega)
      have t5 : (i : Int) < (N : Int) := by omega
      have t6 : (0 : Int) ≤ (i : Int) := by omega
      have hbW : Below wr.heap.size wr (wr.alloc (.cells #[.int .i64 (q : Int), .int .i64 ek, .int .i64 en, .bool ew] 115)) := belAl (Below.refl _ _) _
      have bx : Blk (wr.alloc (.cells #[.int .i64 (q : Int), .int .i64 ek, .int .i64 en, .bool ew] 115)) wr.heap.size 115 #[.int .i64 (q : Int), .int .i64 ek, .int .i64 en, .bool ew] := Blk.new wr _ _
      have x0 : (wr.alloc (.cells #[.int .i64 (q : Int), .int .i64 ek, .int .i64 en, .bool ew] 115)).cell? ⟨wr.heap.size, 0, none⟩ = some (.int .i64 (q : Int)) := bx.cell 0
      have x1 : (wr.alloc (.cells #[.int .i64 (q : Int), .int .i64 ek, .int .i64 en, .bool ew] 115)).cell? ⟨wr.heap.size, 1, none⟩ = some (.int .i64 ek) := bx.cell 1
      have x2 : (wr.alloc (.cells #[.int .i64 (q : Int), .int .i64 ek, .int .i64 en, .bool ew] 115)).cell? ⟨wr.heap.size, 2, none⟩ = some (.int .i64 en) := bx.cell 2
      have x3 : (wr.alloc (.cells #[.int .i64 (q : Int), .int .i64 ek, .int .i64 en, .bool ew] 115)).cell? ⟨wr.heap.size, 3, none⟩ = some (.bool ew) := bx.cell 3
      have PC := Lib.hid (show Calls Tryz.prog 25 #[.pointer (some ⟨gS, 0, none⟩), .agg #[.int .i64 (n : Int), .int .i64 (q : Int)], .agg #[.int .i64 ek, .int .i64 en, .bool ew]] (wr.alloc (.cells #[.int .i64 (q : Int), .int .i64 ek, .int .i64 en, .bool ew] 115)) fun e w' => e = .returned (.int .i64 0) ∧ PutAt w gS a k K J l (.slice (some ⟨g, o, none⟩) N c2) (i + 1) w' from
        (HST.out i q ek en ew mi _ Ki hp hj (h1.fresh hbW)).mono (by
          rintro e w' ⟨m'', hj2, rfl, K2, h2, g2⟩
          have gw : Went wr Ki w' K2 := (Went.of_below hbW).trans g2
          obtain ⟨r1, r2⟩ := row_went4 hrow hoff gw
          exact ⟨rfl, m'', K2, hj2, h2, g1.trans gw, r1, r2⟩))
      clear hp hj h1 g1 hrow hoff hat hbW bx
      go_wp2_with fail
      refine PC.out.mono ?_
      rintro e w5 ⟨rfl, hp5⟩
      have P5 := Lib.hid hp5
      clear hp5
      go_wp2_with fail
      go_roundg (N - (i + 1))
      case measure => omega
      case rel => exact ⟨i + 1, by omega, congrArg (Value.int .i64) (by have := HN.out.2; first | omega | (simp only [wrap64]; omega)), P5.out⟩
    · have hin : i = N := by omega
      have t4 : decide ((i : Int) < (N : Int)) = false := decide_eq_false (by omega)
      have PE := Lib.hid (show PutAt w gS a k K J l (.slice A2 N c2) N wr from hin ▸ hst)
      clear hst
      go_wp2_with fail
      go_ret
      obtain ⟨m', K', h1, h2, h3, _, _⟩ := PE.out
      rw [HN.out.1] at h1
      exact ⟨m', h1, rfl, K', h2, h3⟩
end
end Go.Proofs.YtgjkdnpidobabaaGreat

namespace Go.Proofs.YtgjkdnpidobabaaGreat
open Go.RowKit
set_option linter.unusedVariables false

theorem Tryz.infoAreaU : (Tryz.prog.info? 29).map (fun i => (i.zero, i.size, i.bytes)) = some (some (.agg (arL ar0).toArray), 6, 48) := by kernel_rfl
set_option maxRecDepth 100000 in
set_option maxHeartbeats 2000000 in
theorem areaClone (v : Value) (l : List Ar) (w : World) (h : Ars w w.heap.size v l) (hn : l.length ≤ 4096) :
    Calls Tryz.prog 45 #[v] w fun e w' => ∃ (A : Option Addr) (i c : Nat), e = .returned (.slice A i c) ∧ Ars w' w'.heap.size (.slice A i c) l ∧ NewA w w' (.slice A i c) ∧ Below w.heap.size w w' := by
  obtain ⟨A, n, c, rfl, hl, hlc, hm, hx⟩ := id h
  have HL := Lib.hid hl
  have HX := Lib.hid hx
  have HNN := Lib.hid hn
  have q31 : ∀ (w : World) (a : Option Addr) (n c n' c' : Nat), (binOp .eql 50 (.slice a n c) (.slice none n' c')).run Tryz.prog w = .ok (.bool a.isNone) w := fun w a n c n' c' => Lib.run_eql_slice_nil w _ _ a n c n' c' Tryz.underlying50
  obtain ⟨iA, hiA, hz0, hz1, hz2⟩ := info_parts Tryz.infoAreaU
  cases A with
  | none =>
    have e0 : n = 0 := by
      rcases Nat.eq_zero_or_pos n with h | h
      · exact h
      · obtain ⟨b, off, e, _⟩ := HX.out.2 h
        cases e
    have e1 : l = [] := List.eq_nil_of_length_eq_zero (by rw [HL.out]; exact e0)
    clear h hl hx hn hm hlc
    go_enter Tryz.func45, Tryz.ntmps45
    go_wp2
    go_ret
    subst e1
    exact ⟨none, 0, 0, rfl, Gs.nil_ _ _, newA_nil _ _, Below.refl _ _⟩
  | some ad =>
    have OWN0 := Lib.hid (show (w.alloc (.cells #[] 29)).ownsRow w.heap.size 29 6 (.slice (some ⟨w.heap.size, 0, none⟩) 0 0) 0 [] from World.ownsRow_lit w #[] 0 (Nat.le_refl _) (by simp [maxLen]) (by simp))
    have RD0 := Lib.hid (show Rd (w.alloc (.cells #[] 29)) 6 (.slice (some ad) n c) n (flatA l) from (h.fresh (belAr (Below.refl _ _) (.cells #[] 29))).rd)
    have HQ1 := Lib.hid (show 0 + n ≤ maxLen from by have := HL.out; unfold maxLen; omega)
    have HQ2 := Lib.hid (show (0 + n) * 48 ≤ 140737488355328 from by have := HL.out; omega)
    have HQ3 := Lib.hid (show w.heap.size ≤ (w.alloc (.cells #[] 29)).heap.size from by simp)
    have HIA := Lib.hid (And.intro hiA (And.intro hz0 (And.intro hz1 hz2)))
    clear h hl hx hn hm hlc hiA hz0 hz1 hz2
    go_enter Tryz.func45, Tryz.ntmps45
    go_wp2_with (refine wpList_app rfl (.tmp 5) (.tmp 6) 50 rfl w.heap.size 29 iA (.agg (arL ar0).toArray) 6 48 Tryz.underlying50 HIA.out.1 HIA.out.2.1 HIA.out.2.2.1 HIA.out.2.2.2 rfl (by decide) _ _ _ rfl OWN0.out _ _ _ rfl RD0.out HQ1.out HQ2.out HQ3.out ?_; intro v5 w2 ho5 hg5; have O5 := Lib.hid ho5; have G5 := Lib.hid hg5; clear ho5 hg5)
    go_ret
    have hO : OwnA w2 w.heap.size v5 l := by
      have h := O5.out
      rw [Nat.zero_add, List.nil_append] at h
      unfold OwnA
      rw [HL.out]
      exact h
    have hb : Below w.heap.size w w2 := (belAr (Below.refl w.heap.size w) (.cells #[] 29)).grown G5.out HQ3.out (fun k hk => (OWN0.out.lt k hk).1)
    have hA : Ars w2 w2.heap.size v5 l := by
      have h := O5.out
      rw [Nat.zero_add, List.nil_append] at h
      exact Gs.of_own h HL.out
    obtain ⟨A', i', c', rfl, -⟩ := id hA
    exact ⟨A', i', c', rfl, hA, newA hO (Nat.le_refl _), hb⟩
section
variable (gS : Nat) (a : SpA) (k : SpK) (K : Nat → Prop) (m : SpM) (w : World)
set_option maxRecDepth 100000 in
set_option maxHeartbeats 4000000 in
theorem fork_go (n0 n : Nat) (hne : n0 ≠ n) (y0 : SpX) (Q1 : SpM → Prop) (Q2 : SpM → Prop) (h : SpMem w gS a k K m) (hy0 : m.x n0 = some y0) (hal : y0.a.length ≤ 4096)
    (hsp : Calls Tryz.prog 11 #[.pointer (some ⟨gS, 0, none⟩), .int .i64 (n : Int)] w fun e w1 => ∃ k1 m1, Q1 m1 ∧ k1.X n0 = k.X n0 ∧ m1.x n0 = some y0 ∧ SpEnd w gS a k1 K (.int .i64 0) m1 e w1)
    (hsh : ∀ k1 m1 K1 w1, Q1 m1 → m1.x n0 = some y0 → SpMem w1 gS a k1 K1 m1 → Calls Tryz.prog 44 #[.pointer (some ⟨gS, 0, none⟩), .pointer (some ⟨k1.T n0, 0, none⟩), .int .i64 (n : Int)] w1 fun e w2 => ∃ m2, Q2 m2 ∧ (∃ y0', m2.x n0 = some y0' ∧ y0'.a = y0.a) ∧ (∃ y, m2.x n = some y) ∧ SpEnd w1 gS a k1 K1 (.int .i64 0) m2 e w2) :
    Calls Tryz.prog 14 #[.pointer (some ⟨gS, 0, none⟩), .int .i64 (n0 : Int), .int .i64 (n : Int)] w fun e w' => ∃ k' m2 y, Q2 m2 ∧ m2.x n = some y ∧ SpEnd w gS a k' K (.int .i64 0) (m2.setX n (some ⟨y.t, y0.a, y.q⟩)) e w' := by
  have LQ := (SpMem.look_ gS a k K m w h hy0).look
  have HA := Lib.hid (all_sp gS w k.M (h.cells.cell 6))
  have HS := Lib.hid hsp
  have HH := Lib.hid (And.intro hsh hal)
  clear h hy0 hsp hsh hal
  go_enter Tryz.func14, Tryz.ntmps14
  go_wp2_with fail
  refine HA.out.mono ?_
  rintro e w' ⟨rfl, hw⟩
  subst w'
  go_wp2_with fail
  refine HS.out.mono ?_
  rintro e w1 ⟨k1, m1, hq1, hX0, hx0, rfl, K1, h1, g1⟩
  have c0 : w1.cell? ⟨k.X n0, 0, none⟩ = some (.pointer (some ⟨k1.T n0, 0, none⟩)) := by
    rw [← hX0]
    exact (h1.proc hx0).1.cell 0
  have SH := Lib.hid (HH.out.1 k1 m1 K1 w1 hq1 hx0 h1)
  have R1 := Lib.hid (And.intro hX0 g1)
  clear hq1 hX0 hx0 h1 g1
  go_wp2_with fail
  refine SH.out.mono ?_
  rintro e w2 ⟨m2, hq2, ⟨y0', hy0', hya⟩, ⟨y, hy⟩, rfl, K2, h2, g2⟩
  have hp := (h2.proc hy0')
  obtain ⟨A_, l_, c_, hv, -⟩ := id hp.2.2.1
  have hAr := hp.2.2.1
  rw [hv, hya] at hAr
  have cx : w2.cell? ⟨k.X n0, 1, none⟩ = some (.slice A_ l_ c_) := by rw [← R1.out.1, ← hv]; exact hp.1.cell 1
  have lx : k.X n0 < w2.heap.size := by rw [← R1.out.1]; exact hp.1.lt
  have c6 : w2.cell? ⟨gS, 6, none⟩ = some (.map k1.M) := h2.cells.cell 6
  have l6 := h2.cells.lt
  have hpn := (h2.proc hy).1
  have KEEP := Lib.hid (fun (V : World) (hV : Below w2.heap.size w2 V) => (⟨(hV.cell (p := ⟨k.X n0, 1, none⟩) lx).trans cx, (hV.cell (p := ⟨gS, 6, none⟩) l6).trans c6, (SpMem.look_ gS a k1 K2 m2 V (h2.fresh hV) hy).look⟩ : V.cell? ⟨k.X n0, 1, none⟩ = some (.slice A_ l_ c_) ∧ V.cell? ⟨gS, 6, none⟩ = some (.map k1.M) ∧ (Instr.lookup 82 (.map k1.M) (.int .i64 (n : Int)) false).run Tryz.prog V = .ok (.pointer (some ⟨k1.X n, 0, none⟩)) V))
  have BR := Lib.hid (Below.refl w2.heap.size w2)
  have CL := Lib.hid (show Calls Tryz.prog 45 #[.slice A_ l_ c_] w2.drew fun e w' => ∃ (A : Option Addr) (i c : Nat), e = .returned (.slice A i c) ∧ Below w2.heap.size w2 w' ∧ (∃ k', SpGo w gS a k' K (m2.setX n (some ⟨y.t, y0.a, y.q⟩)) (w'.setCell ⟨k1.X n, 1, none⟩ (.slice A i c))) ∧ w'.cell? ⟨k1.X n, 1, none⟩ = some (k1.v n) ∧ w'.frozen? ⟨k1.X n, 1, none⟩ = false ∧ ((w'.setCell ⟨k1.X n, 1, none⟩ (.slice A i c)).cell? ⟨k.X n0, 1, none⟩ = some (.slice A_ l_ c_) ∧ (w'.setCell ⟨k1.X n, 1, none⟩ (.slice A i c)).cell? ⟨gS, 6, none⟩ = some (.map k1.M) ∧ (Instr.lookup 82 (.map k1.M) (.int .i64 (n : Int)) false).run Tryz.prog (w'.setCell ⟨k1.X n, 1, none⟩ (.slice A i c)) = .ok (.pointer (some ⟨k1.X n, 0, none⟩)) (w'.setCell ⟨k1.X n, 1, none⟩ (.slice A i c))) from
    (areaClone (.slice A_ l_ c_) y0.a w2.drew (hAr.fresh (Below.refl _ w2).drew) HH.out.2).mono (by
      rintro e w' ⟨A, i, c, rfl, q1, q2, q3⟩
      have hb := (Below.refl w2.heap.size w2).drew.trans q3
      have hm := h2.fresh hb
      have hoff : ∀ j, IsBlk (.slice A i c) j → ¬ K2 j ∧ w.heap.size ≤ j ∧ j < w'.heap.size := fun j hj => by
        obtain ⟨ad, n', c', e1, e2⟩ := hj
        have q5 := q2 ad n' c' e1
        have q6 : w2.heap.size ≤ ad.block := q5.1
        have q7 := (R1.out.2.trans g2).tr.size
        exact ⟨fun hk => by have := h2.lt j hk; omega, by omega, by omega⟩
      have hgo := hm.areaP hy q1 hoff ((R1.out.2.trans g2).below hb)
      obtain ⟨K5, h5, g5⟩ := id hgo
      have x5n : (m2.setX n (some ⟨y.t, y0.a, y.q⟩)).x n = some ⟨y.t, y0.a, y.q⟩ := upd_same _ _ _
      have x50 : (m2.setX n (some ⟨y.t, y0.a, y.q⟩)).x n0 = some y0' := (upd_other _ _ _ hne).trans hy0'
      have p5 := (h5.proc x50).1.cell 1
      have e5 : (k1.setV n (.slice A i c)).v n0 = .slice A_ l_ c_ := (upd_other _ _ _ hne).trans hv
      refine ⟨A, i, c, rfl, hb, ⟨_, hgo⟩, (hm.proc hy).1.cell 1, (hm.proc hy).1.frozen 1, ?_, h5.cells.cell 6, (SpMem.look_ gS a (k1.setV n (.slice A i c)) K5 _ _ h5 x5n).look⟩
      rw [← R1.out.1]
      have p5' : (w'.setCell ⟨k1.X n, 1, none⟩ (.slice A i c)).cell? ⟨k1.X n0, 1, none⟩ = some ((k1.setV n (.slice A i c)).v n0) := p5
      rw [p5', e5]))
  have R2 := Lib.hid (And.intro hq2 hy)
  clear hq2 hy0' hya hy h2 g2 hp hv hAr cx lx c6 l6 hpn hne
  go_wp2_with fail
  go_region_held3 (fun w' => w'.cell? ⟨k.X n0, 1, none⟩ = some (.slice A_ l_ c_) ∧ w'.cell? ⟨gS, 6, none⟩ = some (.map k1.M) ∧ (Instr.lookup 82 (.map k1.M) (.int .i64 (n : Int)) false).run Tryz.prog w' = .ok (.pointer (some ⟨k1.X n, 0, none⟩)) w')
    (first | with_reducible assumption | with_reducible exact KEEP.out _ BR.out.drew | with_reducible exact KEEP.out _ (by with_reducible assumption))
    ((go_at_call 45; refine CL.out.mono ?_; rintro e w5 ⟨A, i, c, rfl, hb5, hg5, hc5, hf5, hS5⟩))
  all_goals
    have R5 := Lib.hid hg5
    clear hg5
    try go_wp2_with fail
    go_ret
    obtain ⟨k', h9⟩ := R5.out
    exact ⟨k', m2, y, R2.out.1, R2.out.2, rfl, h9⟩
end
end Go.Proofs.YtgjkdnpidobabaaGreat

namespace Go.Proofs.YtgjkdnpidobabaaGreat
open Go.RowKit
set_option linter.unusedVariables false
section
variable (gS : Nat) (a : SpA) (k : SpK) (K : Nat → Prop) (m : SpM) (w : World)
def UAt (w : World) (gS : Nat) (a : SpA) (k : SpK) (K : Nat → Prop) (J : Nat → SpM → Prop) (l : List (Nat × En)) (row left : Value) (Al : List Ar) (g3 g4 n : Nat) (i : Nat) (wr : World) : Prop :=
  ∃ m' K', J i m' ∧ SpMem wr gS a k K' m' ∧ Went w K wr K' ∧ RowAt wr w.heap.size 4 row l.length (flatH l) ∧ (∀ j, row.ownBlock = some j → ¬ K' j) ∧ Ars wr wr.heap.size left Al ∧ (∀ j, IsBlk left j → ¬ K' j ∧ w.heap.size ≤ j ∧ j < wr.heap.size) ∧
    (Blk wr g3 24 #[.pointer (some ⟨gS, 0, none⟩)] ∧ ¬ K' g3) ∧ (Blk wr g4 3 #[.int .i64 (n : Int)] ∧ ¬ K' g4)
end
end Go.Proofs.YtgjkdnpidobabaaGreat

namespace Go.Proofs.YtgjkdnpidobabaaGreat
open Go.RowKit
set_option linter.unusedVariables false

theorem havesT_page {l : List En} {f c i q : Nat} {e : En} (h : (havesT l f c)[i]? = some (q, e)) : f ≤ q ∧ q < f + c ∧ e = l.getD q en0 ∧ e ≠ en0 := by
  have hm : (q, e) ∈ havesT l f c := List.mem_of_getElem? h
  clear h
  induction c with
  | zero => exact absurd hm List.not_mem_nil
  | succ c ih =>
    have hm' : (q, e) ∈ havesT l f c ++ (if l.getD (f + c) en0 = en0 then [] else [(f + c, l.getD (f + c) en0)]) := hm
    rcases List.mem_append.1 hm' with d | d
    · obtain ⟨a1, a2, a3⟩ := ih d
      exact ⟨a1, by omega, a3⟩
    · split at d
      · exact absurd d List.not_mem_nil
      · rename_i hne
        rw [List.mem_singleton] at d
        injection d with d1 d2
        subst d1 d2
        exact ⟨by omega, by omega, rfl, hne⟩
theorem havesT_all {l : List En} {f c q : Nat} (h1 : f ≤ q) (h2 : q < f + c) (h3 : l.getD q en0 ≠ en0) : (q, l.getD q en0) ∈ havesT l f c := by
  induction c with
  | zero => omega
  | succ c ih =>
    show _ ∈ havesT l f c ++ (if l.getD (f + c) en0 = en0 then [] else [(f + c, l.getD (f + c) en0)])
    by_cases d : q = f + c
    · subst d
      rw [if_neg h3]
      exact List.mem_append_right _ List.mem_cons_self
    · exact List.mem_append_left _ (ih (by omega))
theorem havesT_lt {l : List En} {f c : Nat} : ((havesT l f c).map Prod.fst).Pairwise (· < ·) := by
  induction c with
  | zero => exact List.Pairwise.nil
  | succ c ih =>
    show ((havesT l f c ++ (if l.getD (f + c) en0 = en0 then [] else [(f + c, l.getD (f + c) en0)])).map Prod.fst).Pairwise (· < ·)
    rw [List.map_append]
    refine List.pairwise_append.2 ⟨ih, ?_, fun x hx y hy => ?_⟩
    · split
      · exact List.Pairwise.nil
      · exact List.pairwise_singleton _ _
    · obtain ⟨⟨q, e⟩, hq, rfl⟩ := List.mem_map.1 hx
      obtain ⟨i, hi, e1⟩ := List.mem_iff_getElem.1 hq
      have h1 := havesT_page (i := i) (by rw [List.getElem?_eq_getElem hi, e1])
      split at hy
      · exact absurd hy List.not_mem_nil
      · rw [List.map_singleton, List.mem_singleton] at hy
        subst hy
        exact h1.2.1
def amongL (l : List (Nat × En)) (i q : Nat) : Prop := ∃ j, j < i ∧ ∃ e, l[j]? = some (q, e)
noncomputable instance (l : List (Nat × En)) (i q : Nat) : Decidable (amongL l i q) := Classical.propDecidable _
theorem among_next {l : List (Nat × En)} {i q : Nat} {e : En} (h : l[i]? = some (q, e)) (q' : Nat) : amongL l (i + 1) q' ↔ q' = q ∨ amongL l i q' := by
  constructor
  · rintro ⟨j, h1, e', h2⟩
    by_cases c : j = i
    · subst c
      rw [h] at h2
      injection h2 with h2
      injection h2 with h2
      exact .inl h2.symm
    · exact .inr ⟨j, by omega, e', h2⟩
  · rintro (rfl | ⟨j, h1, e', h2⟩)
    · exact ⟨i, by omega, e, h⟩
    · exact ⟨j, by omega, e', h2⟩
theorem among_none (l : List (Nat × En)) (q : Nat) : ¬ amongL l 0 q := fun ⟨j, h, _⟩ => absurd h (Nat.not_lt_zero j)
theorem among_fresh {l : List En} {f c i q : Nat} {e : En} (h : (havesT l f c)[i]? = some (q, e)) : ¬ amongL (havesT l f c) i q := by
  rintro ⟨j, h1, e', h2⟩
  have hp := List.pairwise_iff_getElem.1 (havesT_lt (l := l) (f := f) (c := c))
  obtain ⟨hi, e1⟩ := List.getElem?_eq_some_iff.1 h
  obtain ⟨hj, e2⟩ := List.getElem?_eq_some_iff.1 h2
  have := hp j i (by rw [List.length_map]; exact hj) (by rw [List.length_map]; exact hi) h1
  rw [List.getElem_map, List.getElem_map, e1, e2] at this
  exact Nat.lt_irrefl _ this
theorem among_end {l : List En} {f c q : Nat} (h1 : f ≤ q) (h2 : q < f + c) (h3 : l.getD q en0 ≠ en0) : amongL (havesT l f c) (havesT l f c).length q := by
  obtain ⟨i, hi, e⟩ := List.mem_iff_getElem.1 (havesT_all h1 h2 h3)
  exact ⟨i, hi, _, by rw [List.getElem?_eq_getElem hi, e]⟩
structure GoneJ (m0 : SpM) (n f c i : Nat) (l : List (Nat × En)) (m : SpM) : Prop where
  inv : Inv (arM m) m
  xs : ∀ n', (m.x n').map (fun y => (y.a, y.q)) = (m0.x n').map (fun y => (y.a, y.q))
  ent : ∀ n' q, entM m n' q = if n' = n ∧ amongL l i q then en0 else entM m0 n' q
  frm : ∀ n' q (g : Nat), entM m n' q = ⟨1, (g : Int), false⟩ → m.F g = m0.F g ∧ m.p.u.getD g 0 = m0.p.u.getD g 0
  fil : ∀ i j, fileM m i j = fileM m0 i j
  cost : Cost 0 0 0 m0 m
section
variable (gS : Nat) (K : Nat → Prop) (W : UW) (nr mv u : Nat) (w : World)
end
section
variable (gS : Nat) (a : SpA) (k : SpK) (K : Nat → Prop) (m : SpM) (w : World)
structure UBox (w : World) (gS n : Nat) (f p : Int) (W : World) : Prop where
  bel : Below w.heap.size w W
  s : Blk W w.heap.size 24 #[.pointer (some ⟨gS, 0, none⟩)]
  n : Blk W (w.heap.size + 1) 3 #[.int .i64 (n : Int)]
  f : Blk W (w.heap.size + 1 + 1) 3 #[.int .i64 f]
  p : Blk W (w.heap.size + 1 + 1 + 1) 3 #[.int .i64 p]
end
section
variable (gS : Nat) (K : Nat → Prop) (W : UW) (nr mv u : Nat) (w : World)
end
end Go.Proofs.YtgjkdnpidobabaaGreat

namespace Go.Proofs.YtgjkdnpidobabaaGreat
open Go.RowKit
set_option linter.unusedVariables false

theorem Inv.area_mono {A A' : Nat → Nat → Option Ar} {m : SpM} (hi : Inv A m) (h : ∀ n q, entM m n q ≠ en0 → A' n q = A n q) : Inv A' m := by
  refine ⟨hi.tabs, hi.zone, hi.tok, hi.x8, hi.ars, fun n q => ?_, hi.back, hi.srt, hi.slot, hi.cok, hi.ckey, hi.tr⟩
  rcases hi.good n q with c | ⟨f, c, hf, r, hr, d⟩
  · exact .inl c
  · exact .inr ⟨f, c, hf, r, by rw [h n q (by rw [c]; exact en_ne _)]; exact hr, d⟩
def forkA (m1 : SpM) (n : Nat) (l : List Ar) (n' q : Nat) : Option Ar := if n' = n then findA l (q : Int) else arM m1 n' q
structure ForkJ (m1 : SpM) (n0 n : Nat) (al : List Ar) (l : List (Nat × En)) (i : Nat) (m : SpM) : Prop where
  inv : Inv (forkA m1 n al) m
  xs : ∀ n', (m.x n').map (fun y => (y.a, y.q)) = (m1.x n').map (fun y => (y.a, y.q))
  ent : ∀ n' q, entM m n' q = if n' = n ∧ amongL l i q then entM m1 n0 q else entM m1 n' q
  frm : ∀ g : Nat, g < 1024 → (m1.p.u.getD g 0 = 3 ∨ m1.p.u.getD g 0 = 4) → m.F g = m1.F g ∧ m.p.u.getD g 0 = m1.p.u.getD g 0
  fil : ∀ i j, fileM m i j = fileM m1 i j
  c2 : ∀ z, m.x n = some z → cntF m1.p 2 + 1 ≤ cntF m.p 2 + z.t.t.length
  c3 : cntF m1.p 3 ≤ cntF m.p 3
  tt : ∀ n' z, n' ≠ n → m.x n' = some z → m1.x n' = some z
  c : m.c = m1.c
section
variable {m1 m : SpM} {n0 n : Nat} {y0 : SpX} {l : List (Nat × En)} {i : Nat}
theorem ForkJ.proc {z1 : SpX} (h : ForkJ m1 n0 n y0.a l i m) (hx : m1.x n = some z1) : ∃ z, m.x n = some z ∧ z.q = z1.q := by
  have := h.xs n
  rw [hx, Option.map_some] at this
  obtain ⟨z, e1, e2⟩ := Option.map_eq_some_iff.1 this
  injection e2 with e3 e4
  exact ⟨z, e1, e4⟩
theorem ForkJ.few {z : SpX} (hne : n0 ≠ n) (hi1 : Inv (arM m1) m1) (hy0 : m1.x n0 = some y0) (hno : ∀ q, entM m1 n q = en0) (h : ForkJ m1 n0 n y0.a l i m) (hz : m.x n = some z) : z.t.t.length ≤ y0.t.t.length := by
  rw [(h.inv.tok n z hz).num (h.inv.tabs.live n z hz), (hi1.tok n0 y0 hy0).num (hi1.tabs.live n0 y0 hy0)]
  refine tablesN_subU fun q hq => ?_
  rw [pagesOf_mem] at hq ⊢
  refine ⟨hq.1, ?_⟩
  have e := h.ent n q
  rw [entM_some hz] at e
  by_cases c : amongL l i q
  · rw [if_pos ⟨rfl, c⟩, entM_some hy0] at e
    rw [← e]
    exact hq.2
  · rw [if_neg (fun d => c d.2), hno] at e
    rw [e] at hq
    exact absurd rfl hq.2
theorem ForkJ.start (hne : n0 ≠ n) (hi1 : Inv (arM m1) m1) (hy0 : m1.x n0 = some y0) (hno : ∀ q, entM m1 n q = en0) (h1 : ∀ z, m1.x n = some z → z.t.t.length = 1) : ForkJ m1 n0 n y0.a l 0 m1 := by
  refine ⟨hi1.area_mono fun n' q hq => ?_, fun _ => rfl, fun n' q => (if_neg fun d => among_none l q d.2).symm, fun _ _ _ => ⟨rfl, rfl⟩, fun _ _ => rfl, fun z hz => by rw [h1 z hz]; exact Nat.le_refl _, Nat.le_refl _, fun _ _ _ e => e, rfl⟩
  unfold forkA
  by_cases c : n' = n
  · subst c
    exact absurd (hno q) hq
  · rw [if_neg c]
set_option maxRecDepth 100000 in
theorem ForkJ.step {f c q : Nat} {e : En} {z : SpX} {F' : Nat → List Nat} {p' : PS} {t' : TS} (hne : n0 ≠ n) (hi1 : Inv (arM m1) m1) (hy0 : m1.x n0 = some y0) (hno : ∀ q, entM m1 n q = en0)
    (h : ForkJ m1 n0 n y0.a (havesT y0.t.e 0 4096) i m) (hl : (havesT y0.t.e 0 4096)[i]? = some (q, e)) (hz : m.x n = some z) (hd : SetDone m z q e F' p' t') :
    ForkJ m1 n0 n y0.a (havesT y0.t.e 0 4096) (i + 1) (putM m n z q e 0 F' p' t') := by
  obtain ⟨_, hq, he, hne0⟩ := havesT_page hl
  have he0 : e = entM m1 n0 q := by rw [entM_some hy0]; exact he
  rw [he0] at hne0
  rcases hi1.ent_cases n0 q with c | ⟨g, c, hg, r, hr, d⟩
  · exact absurd c hne0
  have hold : entM m n q = en0 := by
    rw [h.ent, if_neg (fun d => among_fresh hl d.2)]
    exact hno q
  have hef : e = ⟨1, (g : Int), false⟩ := he0.trans c
  have hgu : m1.p.u.getD g 0 = 3 ∨ m1.p.u.getD g 0 = 4 := by
    rcases d with d | d
    · exact .inl d.1
    · exact .inr d.1
  have hgood : Good (forkA m1 n y0.a) m n q e := by
    refine .inr ⟨g, hef, hg, r, ?_, ?_⟩
    · unfold forkA
      rw [if_pos rfl, ← arM_some hy0]
      exact hr
    · rw [(h.frm g hg hgu).2, h.c]
      exact d
  have hp := putIs (n := n) (y := z) (pg := q) (x := e) (F' := F') (p' := p') (t' := t') h.inv hz (.inr ⟨(g : Int), hef⟩)
  have hiv := h.inv.put hz (by omega) hd hgood hp
  have hent := hp.ent hd hz (h.inv.tok n z hz).el (by omega)
  have hxs := hp.xs
  have hcnt := hp.cnt hd h.inv hz
  refine ⟨hiv, fun n' => (hp.xs' hz n').trans (h.xs n'), fun n' q' => ?_, fun g' hg' hu' => ?_, fun a b => (hp.fil hd h.inv hz a b).trans (h.fil a b), fun z' hz' => ?_, Nat.le_trans h.c3 hcnt.2.1, fun n' z' hn' hz' => ?_, hp.rest.c.trans h.c⟩
  · rw [hent, h.ent]
    by_cases c1 : n' = n
    · by_cases c2 : q' = q
      · rw [if_pos ⟨c1, c2⟩, if_pos ⟨c1, (among_next hl q').2 (.inl c2)⟩, c2]
        exact he0
      · rw [if_neg (fun d => c2 d.2)]
        by_cases c3 : amongL (havesT y0.t.e 0 4096) i q'
        · rw [if_pos ⟨c1, c3⟩, if_pos ⟨c1, (among_next hl q').2 (.inr c3)⟩]
        · rw [if_neg (fun d => c3 d.2), if_neg (fun d => ((among_next hl q').1 d.2).elim c2 c3)]
    · rw [if_neg (fun d => c1 d.1), if_neg (fun d => c1 d.1), if_neg (fun d => c1 d.1)]
  · obtain ⟨b1, b2⟩ := h.frm g' hg' hu'
    have hu2 : m.p.u.getD g' 0 = 3 ∨ m.p.u.getD g' 0 = 4 := by rw [b2]; exact hu'
    refine ⟨(hp.byt hd h.inv hz hu2).trans b1, ?_⟩
    rcases (hp.use hd h.inv hz hg' hu2).2 with c5 | ⟨_, _, _, c5⟩
    · exact c5.trans b2
    · rw [hold] at c5
      exact absurd c5.symm (en_ne _)
  · rw [hxs, upd_same] at hz'
    injection hz' with hz'
    subst hz'
    have := h.c2 z hz
    have := hcnt.1
    show _ ≤ _ + t'.t.length
    omega
  · rw [hxs, upd_other _ _ _ hn'] at hz'
    exact h.tt n' z' hn' hz'
end
section
variable {m m2 : SpM} {W : UW} {n0 n r : Nat} {F' : Nat → List Nat} {y0 y : SpX}
def forkS (n0 n n' : Nat) : Nat := if n' = n then n0 else n'
theorem fork_area (W : UW) (n0 n n' q : Nat) : (forkU W n0 n).area n' q = W.area (forkS n0 n n') q := by
  unfold UW.area forkS
  show (match upd W.pr n ((W.pr n0).map fun p => ⟨p.ars, []⟩) n' with | some p => findA p.ars (q : Int) | none => none) = _
  by_cases c : n' = n
  · subst c
    rw [upd_same, if_pos rfl]
    cases W.pr n0 <;> rfl
  · rw [upd_other _ _ _ c, if_neg c]
    cases W.pr n' <;> rfl
theorem fork_own (W : UW) (n0 n n' q : Nat) : (forkU W n0 n).own n' q = W.own (forkS n0 n n') q := by
  show (if n' = n then W.own n0 q else W.own n' q) = _
  unfold forkS
  by_cases c : n' = n
  · rw [if_pos c, if_pos c]
  · rw [if_neg c, if_neg c]
theorem Sees.fork (hne : n0 ≠ n) (hi : Inv (arM m) m) (hs : Sees (fun _ _ => False) m W) (hx : m.x n = none) (hy0 : m.x n0 = some y0) (hr : m.p.u.getD r 0 = 1) (hF : ∀ f, f ≠ r → F' f = m.F f)
    (hJ : ForkJ (spawnM m n r F') n0 n y0.a (havesT y0.t.e 0 4096) (havesT y0.t.e 0 4096).length m2) (hy : m2.x n = some y) :
    Inv (arM (m2.setX n (some ⟨y.t, y0.a, y.q⟩))) (m2.setX n (some ⟨y.t, y0.a, y.q⟩)) ∧ Sees (fun _ _ => False) (m2.setX n (some ⟨y.t, y0.a, y.q⟩)) (forkU W n0 n) := by
  have hyq : y.q = [] := by
    have := hJ.xs n
    rw [hy, show (spawnM m n r F').x n = some ⟨t0 r, [], []⟩ from upd_same _ _ _] at this
    injection this with this
    injection this
  have hent2 : ∀ n' q, entM m2 n' q = entM m (forkS n0 n n') q := by
    intro n' q
    rw [hJ.ent, spawn_ent hx, spawn_ent hx]
    unfold forkS
    by_cases c : n' = n
    · rw [if_pos c]
      by_cases d : amongL (havesT y0.t.e 0 4096) (havesT y0.t.e 0 4096).length q
      · rw [if_pos ⟨c, d⟩]
      · rw [if_neg (fun e => d e.2), c, entM_none hx]
        by_cases e0 : entM m n0 q = en0
        · exact e0.symm
        · have hq := (hi.ent_cases n0 q).resolve_left e0
          obtain ⟨f, e1, _⟩ := hq
          have := (hi.at_ e1).2.1
          rw [entM_some hy0] at e0
          exact absurd (among_end (Nat.zero_le q) (by omega) e0) d
    · rw [if_neg (fun e => c e.1), if_neg c]
  have hent := fun n' q => (entM_setX (m := m2) (y' := ⟨y.t, y0.a, y.q⟩) hy rfl n' q).trans (hent2 n' q)
  have har : ∀ n' q, arM (m2.setX n (some ⟨y.t, y0.a, y.q⟩)) n' q = arM m (forkS n0 n n') q := by
    intro n' q
    rw [arM_setX hy]
    unfold forkS
    by_cases c : n' = n
    · rw [if_pos c, if_pos c, arM_some hy0]
    · rw [if_neg c, if_neg c, arM_of hJ.xs, spawn_ar hx]
  have hA : arM (m2.setX n (some ⟨y.t, y0.a, y.q⟩)) = forkA (spawnM m n r F') n y0.a := by
    funext n' q
    rw [har]
    unfold forkA forkS
    by_cases c : n' = n
    · rw [if_pos c, if_pos c, arM_some hy0]
    · rw [if_neg c, if_neg c, spawn_ar hx]
  have hl0 := hi.ars n0 y0 hy0
  have hfr : ∀ g : Nat, g < 1024 → (m.p.u.getD g 0 = 3 ∨ m.p.u.getD g 0 = 4) → m2.F g = m.F g ∧ m2.p.u.getD g 0 = m.p.u.getD g 0 := by
    intro g hg hu
    have hgr : g ≠ r := by rintro rfl; omega
    have e1 : (spawnM m n r F').p.u.getD g 0 = m.p.u.getD g 0 := by rw [spawn_use hr, if_neg hgr]
    obtain ⟨b1, b2⟩ := hJ.frm g hg (by rw [e1]; exact hu)
    exact ⟨b1.trans (hF g hgr), b2.trans e1⟩
  have hfil : ∀ i j, fileM (m2.setX n (some ⟨y.t, y0.a, y.q⟩)) i j = fileM m i j := fun i j => (hJ.fil i j).trans (spawn_file hi hr hF i j)
  have hpg : ∀ n' q j, pageM (m2.setX n (some ⟨y.t, y0.a, y.q⟩)) n' q j = pageM m (forkS n0 n n') q j := by
    intro n' q j
    rcases hi.ent_cases (forkS n0 n n') q with e | ⟨g, e, hg, d, _, hu⟩
    · unfold pageM
      rw [hent, e, if_neg (by decide), if_neg (by decide), har]
      cases arM m (forkS n0 n n') q with
      | none => rfl
      | some d => simp only [hfil]
    · rw [pageM_in e, pageM_in ((hent n' q).trans e)]
      show (m2.F g).getD j 0 = _
      rw [(hfr g hg (by rcases hu with hu | hu; exact .inl hu.1; exact .inr hu.1)).1]
  have hanon : ∀ n' q, hasAnon (m2.setX n (some ⟨y.t, y0.a, y.q⟩)) n' q ↔ hasAnon m (forkS n0 n n') q := by
    intro n' q
    rcases hi.ent_cases (forkS n0 n n') q with e | ⟨g, e, hg, d, _, hu⟩
    · exact ⟨fun c => absurd c (hasAnon_no ((hent n' q).trans e)), fun c => absurd c (hasAnon_no e)⟩
    · rw [hasAnon_in e, hasAnon_in ((hent n' q).trans e)]
      show m2.p.u.getD g 0 = 3 ↔ _
      rw [(hfr g hg (by rcases hu with hu | hu; exact .inl hu.1; exact .inr hu.1)).2]
  refine ⟨?_, ⟨fun n' => ?_, fun n' z e => ?_, fun i j h1 h2 => ?_, fun n' q j hj ha => ?_, fun n' q d hd hk hno => ?_, fun n' q ha => ?_⟩⟩
  · rw [hA]
    exact hJ.inv.setX hy rfl hl0 hJ.inv.good
  · show upd W.pr n ((W.pr n0).map fun p => ⟨p.ars, []⟩) n' = Option.map _ (upd m2.x n _ n')
    by_cases c : n' = n
    · subst c
      rw [upd_same, upd_same, hs.pr, hy0, Option.map_some, Option.map_some, Option.map_some, hyq]
      rfl
    · rw [upd_other _ _ _ c, upd_other _ _ _ c, hs.pr]
      have := hJ.xs n'
      rw [show (spawnM m n r F').x n' = m.x n' from upd_other _ _ _ c] at this
      cases e : m.x n' with
      | none =>
        rw [e, Option.map_none, Option.map_eq_none_iff] at this
        rw [this]
      | some z =>
        rw [e, Option.map_some, Option.map_eq_some_iff] at this
        obtain ⟨z', h1, h2⟩ := this
        injection h2 with h2 h3
        rw [h1, Option.map_some, Option.map_some, h2, h3]
  · have e' : upd m2.x n (some ⟨y.t, y0.a, y.q⟩) n' = some z := e
    by_cases c : n' = n
    · subst c
      rw [upd_same] at e'
      injection e' with e'
      subst e'
      intro p hp
      have hp' : p ∈ y.q := hp
      rw [hyq] at hp'
      exact absurd hp' List.not_mem_nil
    · rw [upd_other _ _ _ c] at e'
      have := hJ.tt n' z c e'
      rw [show (spawnM m n r F').x n' = m.x n' from upd_other _ _ _ c] at this
      exact hs.qc n' z this
  · exact (hs.fl i j h1 h2).trans (hfil i j).symm
  · rw [fork_area] at ha
    rw [hpg, ← hs.page _ _ _ hj ha]
    unfold UW.page
    rw [fork_own, fork_area]
    rfl
  · rw [fork_area] at hd
    rw [fork_own, hanon]
    exact hs.own _ q d hd hk id
  · rw [fork_area] at ha
    rw [fork_own]
    exact hs.out _ q ha
end
section
variable (gS : Nat) (K : Nat → Prop) (W : UW) (nr mv u : Nat) (w : World)
set_option maxRecDepth 100000 in
theorem space_fork (n0 n : Nat) (hp : W.pr n0 ≠ none) (hn : n < 8) (hq : W.pr n = none) (h : SpcMem w gS K W (nr + 3 + u) mv u) :
    Calls Tryz.prog 14 #[.pointer (some ⟨gS, 0, none⟩), .int .i64 (n0 : Int), .int .i64 (n : Int)] w (SpPost w gS K (.int .i64 0) (forkU W n0 n) (nr + 3) mv (u + u)) := by
  obtain ⟨a, k, m, h1, h2⟩ := h
  obtain ⟨y0, hy0, -⟩ := h2.sees.proc hp
  have hx : m.x n = none := by
    have := h2.sees.pr n
    rw [hq] at this
    exact Option.map_eq_none_iff.1 this.symm
  have hne : n0 ≠ n := by rintro rfl; exact hp hq
  have hnr := h2.nr
  have hmv := h2.mv
  have htb := h2.tb n0 y0 hy0
  refine (fork_go gS a k K m w n0 n hne y0 (fun m1 => ∃ r F', FirstF m.p 2 (2 ^ 0) (some r) ∧ (∀ f, f ≠ r → F' f = m.F f) ∧ TsOk (t0 r) ∧ m1 = spawnM m n r F') (fun m2 => ∃ r F', FirstF m.p 2 (2 ^ 0) (some r) ∧ (∀ f, f ≠ r → F' f = m.F f) ∧ ForkJ (spawnM m n r F') n0 n y0.a (havesT y0.t.e 0 4096) (havesT y0.t.e 0 4096).length m2) h1 hy0 (by have := (h2.inv.ars n0 y0 hy0).2; omega) ?_ ?_).mono ?_
  · refine (spawn_go gS a k K m w n hn h1 h2.inv.tabs hx (by omega)).mono ?_
    rintro e w1 ⟨k', r, F', hr, hF, h3, h4⟩
    refine ⟨k', _, ⟨r, F', hr, hF, ?_, rfl⟩, h4 n0 hne, (upd_other _ _ _ hne).trans hy0, h3⟩
    obtain ⟨_, K', h5, _⟩ := h3
    exact h5.tsok gS a k' K' _ w1 (n := n) (y := ⟨t0 r, [], []⟩) (upd_same _ _ _)
  · rintro k1 m1 K1 w1 ⟨r, F', hr, hF, htk, rfl⟩ hx0 h3
    obtain ⟨r1, r2, r3, r4⟩ := first_run hr
    have hi1 : Inv (arM (spawnM m n r F')) (spawnM m n r F') := by rw [spawn_ar hx]; exact h2.inv.spawn hn hx hr htk
    have hno : ∀ q, entM (spawnM m n r F') n q = en0 := fun q => by rw [spawn_ent hx, entM_none hx]
    have hxn : (spawnM m n r F').x n = some ⟨t0 r, [], []⟩ := upd_same _ _ _
    have hsc := spawn_cnt (n := n) (F' := F') hr
    refine (share_go gS a k1 K1 (spawnM m n r F') w1 (fun i m' => ForkJ (spawnM m n r F') n0 n y0.a (havesT y0.t.e 0 4096) i m') n0 n y0 h3 hx0 hi1.tabs.bad (hi1.tabs.live n0 y0 hx0) (ForkJ.start hne hi1 hx0 hno fun z hz => ?_) ?_).mono ?_
    · rw [hxn] at hz
      injection hz with hz
      subst hz
      rfl
    · intro i q ek en ew m' V K' hl hJ hV
      obtain ⟨z, hz, _⟩ := hJ.proc hxn
      obtain ⟨_, hq4, he, hne0⟩ := havesT_page hl
      have hfew := hJ.few hne hi1 hx0 hno hz
      have hc2 := hJ.c2 z hz
      have hek : EnOk ⟨ek, en, ew⟩ := by
        rw [he]
        rcases hi1.ent_cases n0 q with c | ⟨g, c, hg, _⟩
        · rw [entM_some hx0] at c
          rw [he, c] at hne0
          exact absurd rfl hne0
        · rw [entM_some hx0] at c
          rw [c]
          exact .inl ⟨rfl, by show (0 : Int) ≤ (g : Int); omega, by show (g : Int) < 1024; omega⟩
      refine (put_ok gS a k1 K' m' V n z q ⟨ek, en, ew⟩ hV hz (by omega) hJ.inv.tabs hJ.inv.few hek (by omega)).mono ?_
      rintro e w' ⟨F2, p2, t2, hd, hE⟩
      exact ⟨_, ForkJ.step (f := 0) (c := 0) hne hi1 hx0 hno hJ hl hz hd, hE⟩
    · rintro e w2 ⟨m2, hJ, hE⟩
      have hx2 := hJ.xs n0
      rw [hx0, Option.map_some] at hx2
      obtain ⟨y0', e1, e2⟩ := Option.map_eq_some_iff.1 hx2
      injection e2 with e3 e4
      obtain ⟨z, hz, _⟩ := hJ.proc hxn
      exact ⟨m2, ⟨r, F', hr, hF, hJ⟩, ⟨y0', e1, e3⟩, ⟨z, hz⟩, hE⟩
  · rintro e w' ⟨k', m2, y, ⟨r, F', hr, hF, hJ⟩, hy, hE⟩
    obtain ⟨r1, r2, r3, r4⟩ := first_run hr
    obtain ⟨g1, g2⟩ := Sees.fork hne h2.inv h2.sees hx hy0 r2 hF hJ hy
    have hsc := spawn_cnt (n := n) (F' := F') hr
    have hc2 := hJ.c2 y hy
    have hc3 := hJ.c3
    have hfew : y.t.t.length ≤ y0.t.t.length := by
      rw [(hJ.inv.tok n y hy).num (hJ.inv.tabs.live n y hy), (h2.inv.tok n0 y0 hy0).num (h2.inv.tabs.live n0 y0 hy0)]
      refine tablesN_subU fun q hq => ?_
      rw [pagesOf_mem] at hq ⊢
      refine ⟨hq.1, ?_⟩
      have e := hJ.ent n q
      rw [entM_some hy, spawn_ent hx, spawn_ent hx] at e
      by_cases c : amongL (havesT y0.t.e 0 4096) (havesT y0.t.e 0 4096).length q
      · rw [if_pos ⟨rfl, c⟩, entM_some hy0] at e
        rw [← e]
        exact hq.2
      · rw [if_neg (fun d => c d.2), entM_none hx] at e
        rw [e] at hq
        exact absurd rfl hq.2
    refine hE.post ⟨g1, g2, by show _ ≤ cntF m2.p 2; omega, by show _ ≤ cntF m2.p 3; omega, fun n' z e => ?_⟩
    have e' : upd m2.x n (some ⟨y.t, y0.a, y.q⟩) n' = some z := e
    by_cases c : n' = n
    · subst c
      rw [upd_same] at e'
      injection e' with e'
      subst e'
      show y.t.t.length ≤ u + u
      omega
    · rw [upd_other _ _ _ c] at e'
      have := hJ.tt n' z c e'
      rw [show (spawnM m n r F').x n' = m.x n' from upd_other _ _ _ c] at this
      have := h2.tb n' z this
      omega
end
end Go.Proofs.YtgjkdnpidobabaaGreat


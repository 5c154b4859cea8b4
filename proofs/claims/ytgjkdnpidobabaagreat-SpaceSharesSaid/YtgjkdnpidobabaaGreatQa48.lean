/-
  New and Spawn, as users see them.
  Space's contracts, as users see them: what the statements' walks ask for.
  Conditions: those that each line bears.
-/
import Derived.Test.YtgjkdnpidobabaaGreatQa46
import Derived.Test.YtgjkdnpidobabaaGreatQa47
import Derived.Test.YtgjkdnpidobabaaGreatQa38
set_option linter.unusedSimpArgs false
set_option linter.unusedSectionVars false
set_option linter.unusedVariables false
namespace Go.Proofs.YtgjkdnpidobabaaGreat
open Go.RowKit
set_option linter.unusedVariables false
section
variable {m : SpM} {n r : Nat} {F' : Nat → List Nat} {W : UW} {nr mv u : Nat}
theorem spawn_ent (hx : m.x n = none) (n' q : Nat) : entM (spawnM m n r F') n' q = entM m n' q := by
  by_cases c : n' = n
  · subst c
    rw [entM_none hx, entM_some (m := spawnM m n' r F') (y := ⟨t0 r, [], []⟩) (upd_same _ _ _)]
    show (List.replicate 4096 en0).getD q en0 = en0
    rw [List.getD_eq_getElem?_getD, List.getElem?_replicate]
    split <;> rfl
  · have e : (spawnM m n r F').x n' = m.x n' := upd_other _ _ _ c
    unfold entM
    rw [e]
theorem spawn_ar (hx : m.x n = none) : arM (spawnM m n r F') = arM m := by
  funext n' q
  by_cases c : n' = n
  · subst c
    rw [arM_some (m := spawnM m n' r F') (y := ⟨t0 r, [], []⟩) (upd_same _ _ _)]
    unfold arM
    rw [hx]
    rfl
  · have e : (spawnM m n r F').x n' = m.x n' := upd_other _ _ _ c
    unfold arM
    rw [e]
theorem spawn_case {n' : Nat} {y : SpX} (h : (spawnM m n r F').x n' = some y) : (n' = n ∧ y = ⟨t0 r, [], []⟩) ∨ (n' ≠ n ∧ m.x n' = some y) := by
  have h' : upd m.x n (some ⟨t0 r, [], []⟩) n' = some y := h
  by_cases c : n' = n
  · subst c
    rw [upd_same] at h'
    exact .inl ⟨rfl, by injection h' with h'; exact h'.symm⟩
  · rw [upd_other _ _ _ c] at h'
    exact .inr ⟨c, h'⟩
theorem spawn_use (hr : m.p.u.getD r 0 = 1) (f : Nat) : (spawnM m n r F').p.u.getD f 0 = if f = r then 2 else m.p.u.getD f 0 := by
  show (m.p.u.set r 2).getD f 0 = _
  by_cases c : f = r
  · subst c
    rw [if_pos rfl]
    refine getD_set_same _ _ _ _ ?_
    by_cases l : f < m.p.u.length
    · exact l
    · rw [List.getD_eq_getElem?_getD, List.getElem?_eq_none (by omega)] at hr
      cases hr
  · rw [if_neg c, getD_set_ne _ _ _ _ _ c]
set_option maxRecDepth 100000 in
theorem Inv.spawn {A : Nat → Nat → Option Ar} (hi : Inv A m) (hn : n < 8) (hx : m.x n = none) (hr : FirstF m.p 2 (2 ^ 0) (some r)) (ht : TsOk (t0 r)) : Inv A (spawnM m n r F') := by
  obtain ⟨r1, r2, r3, r4⟩ := first_run hr
  have hu := spawn_use (n := n) (F' := F') r2
  have ho : ∀ f, f ≠ r → (spawnM m n r F').p.u.getD f 0 = m.p.u.getD f 0 := fun f c => by rw [hu, if_neg c]
  have hne : ∀ f, m.p.u.getD f 0 ≠ 1 → f ≠ r := fun f c e => c (e ▸ r2)
  have hent := spawn_ent (r := r) (F' := F') hx
  refine ⟨⟨hi.tabs.bad, ?_, ?_, ?_⟩, ?_, ?_, ?_, ?_, fun n' q => ?_, fun f q => ?_, hi.srt, hi.slot, hi.cok, fun e he => ?_, hi.tr⟩
  · intro n' y e
    rcases spawn_case e with ⟨rfl, rfl⟩ | ⟨c, e⟩
    · rfl
    · exact hi.tabs.live _ _ e
  · intro n' y e f hf
    rcases spawn_case e with ⟨rfl, rfl⟩ | ⟨c, e⟩
    · have hf' : f ∈ [r] := hf
      rw [List.mem_singleton] at hf'
      rw [hu, if_pos hf']
    · have h2 := hi.tabs.use _ _ e f hf
      rw [ho f (hne f (by omega))]
      exact h2
  · intro n1 y1 n2 y2 e1 e2 hd f hf2 hf1
    rcases spawn_case e1 with ⟨rfl, rfl⟩ | ⟨c1, d1⟩ <;> rcases spawn_case e2 with ⟨rfl, rfl⟩ | ⟨c2, d2⟩
    · exact hd rfl
    · have h2 := hi.tabs.use _ _ d2 f hf2
      have hf' : f ∈ [r] := hf1
      rw [List.mem_singleton] at hf'
      rw [hf'] at h2
      omega
    · have h1 := hi.tabs.use _ _ d1 f hf1
      have hf' : f ∈ [r] := hf2
      rw [List.mem_singleton] at hf'
      rw [hf'] at h1
      omega
    · exact hi.tabs.two _ _ _ _ d1 d2 hd f hf2 hf1
  · intro n' y e f hf
    rcases spawn_case e with ⟨rfl, rfl⟩ | ⟨c, e⟩
    · have hf' : f ∈ [r] := hf
      rw [List.mem_singleton] at hf'
      rw [hf']
      exact ⟨r3, r4⟩
    · exact hi.zone _ _ e f hf
  · intro n' y e
    rcases spawn_case e with ⟨rfl, rfl⟩ | ⟨c, e⟩
    · exact ht
    · exact hi.tok _ _ e
  · intro n' y e
    rcases spawn_case e with ⟨rfl, rfl⟩ | ⟨c, e⟩
    · exact hn
    · exact hi.x8 _ _ e
  · intro n' y e
    rcases spawn_case e with ⟨rfl, rfl⟩ | ⟨c, e⟩
    · exact ⟨listA_nil, Nat.zero_le _⟩
    · exact hi.ars _ _ e
  · rw [hent]
    rcases hi.good n' q with c | ⟨f, c, hf, d, hd, h⟩
    · exact .inl c
    · refine .inr ⟨f, c, hf, d, hd, ?_⟩
      rw [ho f (hne f (by rcases h with h | h <;> omega))]
      exact h
  · rw [show (spawnM m n r F').b = m.b from rfl, hi.back]
    constructor
    · rintro ⟨n', q', e1, e2⟩; exact ⟨n', q', e1, (hent n' q').trans e2⟩
    · rintro ⟨n', q', e1, e2⟩; exact ⟨n', q', e1, (hent n' q').symm.trans e2⟩
  · obtain ⟨c1, f, c2, c3, c4⟩ := hi.ckey e he
    exact ⟨c1, f, c2, c3, (ho f (hne f (by omega))).trans c4⟩
theorem spawn_file {A : Nat → Nat → Option Ar} (hi : Inv A m) (hr : m.p.u.getD r 0 = 1) (hF : ∀ f, f ≠ r → F' f = m.F f) (i j : Nat) : fileM (spawnM m n r F') i j = fileM m i j := by
  unfold fileM
  show (match frameC m.c (keyI i) with | some f => (F' f.toNat).getD j 0 | none => _) = _
  cases e : frameC m.c (keyI i) with
  | none => rfl
  | some g =>
    obtain ⟨g', rfl, _, hu⟩ := hi.key_use e
    simp only [Int.toNat_natCast]
    rw [hF g' (by rintro rfl; omega)]
theorem spawn_page {A : Nat → Nat → Option Ar} (hi : Inv A m) (hx : m.x n = none) (hr : m.p.u.getD r 0 = 1) (hF : ∀ f, f ≠ r → F' f = m.F f) (n' q j : Nat) : pageM (spawnM m n r F') n' q j = pageM m n' q j := by
  have hent := spawn_ent (r := r) (F' := F') hx n' q
  rcases hi.ent_cases n' q with e | ⟨f, e, _, d, _, h⟩
  · unfold pageM
    rw [hent, e, if_neg (by decide), if_neg (by decide), spawn_ar hx]
    cases arM m n' q with
    | none => rfl
    | some d => simp only [spawn_file hi hr hF]
  · rw [pageM_in e, pageM_in (hent.trans e)]
    show (F' f).getD j 0 = _
    rw [hF f (by rintro rfl; rcases h with h | h <;> omega)]
theorem spawn_anon {A : Nat → Nat → Option Ar} (hi : Inv A m) (hx : m.x n = none) (hr : m.p.u.getD r 0 = 1) (n' q : Nat) : hasAnon (spawnM m n r F') n' q ↔ hasAnon m n' q := by
  have hent := spawn_ent (r := r) (F' := F') hx n' q
  rcases hi.ent_cases n' q with e | ⟨f, e, _, d, _, h⟩
  · exact ⟨fun c => absurd c (hasAnon_no (hent.trans e)), fun c => absurd c (hasAnon_no e)⟩
  · rw [hasAnon_in e, hasAnon_in (hent.trans e), spawn_use hr, if_neg (by rintro rfl; rcases h with h | h <;> omega)]
theorem Sees.spawn (hs : Sees (fun _ _ => False) m W) {A : Nat → Nat → Option Ar} (hi : Inv A m) (hx : m.x n = none) (hr : m.p.u.getD r 0 = 1) (hF : ∀ f, f ≠ r → F' f = m.F f) : Sees (fun _ _ => False) (spawnM m n r F') (spawnU W n) := by
  have hpr : ∀ n', (spawnU W n).pr n' = if n' = n then some ⟨[], []⟩ else W.pr n' := by
    intro n'
    show upd W.pr n _ n' = _
    by_cases c : n' = n
    · subst c; rw [upd_same, if_pos rfl]
    · rw [upd_other _ _ _ c, if_neg c]
  have hpn : W.pr n = none := by rw [hs.pr, hx]; rfl
  have har : ∀ n' q, (spawnU W n).area n' q = W.area n' q := by
    intro n' q
    unfold UW.area
    rw [hpr]
    by_cases c : n' = n
    · rw [if_pos c, c, hpn]; rfl
    · rw [if_neg c]
  refine ⟨fun n' => ?_, fun n' y e => ?_, fun i j h1 h2 => (hs.fl i j h1 h2).trans (spawn_file hi hr hF i j).symm, fun n' q j hj ha => ?_, fun n' q d hd hk hne => ?_, fun n' q ha => ?_⟩
  · rw [hpr]
    show _ = Option.map _ (upd m.x n _ n')
    by_cases c : n' = n
    · subst c; rw [if_pos rfl, upd_same]; rfl
    · rw [if_neg c, upd_other _ _ _ c]; exact hs.pr n'
  · rcases spawn_case e with ⟨rfl, rfl⟩ | ⟨c, e⟩
    · intro p hp; exact absurd hp List.not_mem_nil
    · exact hs.qc n' y e
  · rw [har] at ha
    rw [spawn_page hi hx hr hF]
    refine Eq.trans ?_ (hs.page n' q j hj ha)
    unfold UW.page
    rw [har]
    rfl
  · rw [har] at hd
    rw [spawn_anon hi hx hr]
    exact hs.own n' q d hd hk id
  · rw [har] at ha
    exact hs.out n' q ha
theorem spawn_cnt (hr : FirstF m.p 2 (2 ^ 0) (some r)) : cntF (spawnM m n r F').p 2 + 1 = cntF m.p 2 ∧ cntF (spawnM m n r F').p 3 = cntF m.p 3 := by
  obtain ⟨r1, r2, r3, r4⟩ := first_run hr
  have hu := spawn_use (n := n) (F' := F') r2
  constructor
  · unfold cntF
    refine filter_drop r1 (decide_eq_true ⟨r2, r3, r4⟩) (decide_eq_false ?_) fun x hx => decide_eq_decide.2 ?_
    · rintro ⟨h, _⟩
      rw [hu, if_pos rfl] at h
      cases h
    · rw [hu, if_neg hx]
      exact Iff.rfl
  · unfold cntF
    refine filter_same fun x hx => decide_eq_decide.2 ?_
    rw [hu]
    by_cases c : x = r
    · subst c
      rw [if_pos rfl]
      constructor
      · rintro ⟨h, _⟩; cases h
      · rintro ⟨_, h, _⟩
        omega
    · rw [if_neg c]
      exact Iff.rfl
end
section
variable (gS : Nat) (K : Nat → Prop) (W : UW) (nr mv u : Nat) (w : World)
theorem space_spawn (n : Nat) (hn : n < 8) (hp : W.pr n = none) (h : SpcMem w gS K W (nr + 1) mv u) :
    Calls Tryz.prog 11 #[.pointer (some ⟨gS, 0, none⟩), .int .i64 (n : Int)] w (SpPost w gS K (.int .i64 0) (spawnU W n) nr mv (u + 1)) := by
  obtain ⟨a, k, m, h1, h2⟩ := h
  have hx : m.x n = none := by
    have := h2.sees.pr n
    rw [hp] at this
    exact Option.map_eq_none_iff.1 this.symm
  have hnr := h2.nr
  refine (spawn_go gS a k K m w n hn h1 h2.inv.tabs hx (by omega)).mono ?_
  rintro e w' ⟨k', r, F', hr, hF, h3⟩
  obtain ⟨r1, r2, r3, r4⟩ := first_run hr
  have hc := spawn_cnt (n := n) (F' := F') hr
  have htk : TsOk (t0 r) := by
    obtain ⟨_, K', h4, _⟩ := id h3
    exact h4.tsok gS a k' K' _ w' (n := n) (y := ⟨t0 r, [], []⟩) (upd_same _ _ _)
  refine h3.post ⟨?_, h2.sees.spawn h2.inv hx r2 hF, by omega, by have := h2.mv; omega, fun n' y e => ?_⟩
  · rw [spawn_ar hx]
    exact h2.inv.spawn hn hx hr htk
  · rcases spawn_case e with ⟨rfl, rfl⟩ | ⟨c, e⟩
    · show [r].length ≤ u + 1
      simp
    · have := h2.tb n' y e
      omega
theorem space_new (gR gF gD gD1 gD2 gP : Nat) (F : Nat → List Nat) (S : Nat → List Nat) (L : Nat → Option (List Nat)) (KP : Nat → Prop) (p : PS)
    (hR : Mem w gR gF 1024 F (fun _ => false)) (hD : Dsk w gD gD1 gD2 192 S L Tr.none_) (hP : PoolMem w gP KP p)
    (h1 : ∀ k, k = gR ∨ k = gF → ¬ dk gD gD1 gD2 k ∧ ¬ KP k) (h2 : ∀ k, dk gD gD1 gD2 k → ¬ KP k)
    (hn : nr ≤ cntF p 2) (hm : mv ≤ cntF p 3) :
    Calls Tryz.prog 31 #[.pointer (some ⟨gR, 0, none⟩), .pointer (some ⟨gD, 0, none⟩), .pointer (some ⟨gP, 0, none⟩)] w fun e w' => ∃ gS K, e = .returned (.pointer (some ⟨gS, 0, none⟩)) ∧ SpcMem w' gS K (uw0 fun i j => (last S L (96 + i)).getD j 0) nr mv 0 ∧ (∀ k, K k → k = gR ∨ k = gF ∨ dk gD gD1 gD2 k ∨ KP k ∨ w.heap.size ≤ k) ∧ Below w.heap.size w w' := by
  refine (spnew_go w gR gF gD gD1 gD2 gP F (fun _ => false) S L Tr.none_ KP p hR hD hP h1 h2).mono ?_
  rintro e w' ⟨gS, a, k, K, rfl, h3, h4, h5⟩
  have hent : ∀ n q, entM ⟨F, fun _ => false, S, L, Tr.none_, p, bs0, [], ss0, fun _ => none⟩ n q = en0 := fun _ _ => rfl
  refine ⟨gS, K, rfl, ⟨a, k, _, h3, ⟨⟨fun _ _ => rfl, fun n y e => (by cases e), fun n y e => (by cases e), fun n y _ _ e => (by cases e)⟩, fun n y e => (by cases e), fun n y e => (by cases e), fun n y e => (by cases e), fun n y e => (by cases e), fun n q => .inl rfl, fun f q => ⟨fun hq => absurd hq List.not_mem_nil, fun ⟨n, q', _, e⟩ => ?_⟩, fun f => List.Pairwise.nil, fun _ => rfl, List.Pairwise.nil, fun e he => absurd he List.not_mem_nil, rfl⟩, ⟨fun n => rfl, fun n y e => (by cases e), fun i j _ _ => rfl, fun n q j _ ha => absurd rfl ha, fun n q r hr => (by cases hr), fun _ _ _ => rfl⟩, hn, hm, fun n y e => (by cases e)⟩, h4, h5⟩
  rw [hent] at e
  exact absurd e.symm (en_ne _)
end
end Go.Proofs.YtgjkdnpidobabaaGreat

namespace Go.Proofs.YtgjkdnpidobabaaGreat
open Go.RowKit
end Go.Proofs.YtgjkdnpidobabaaGreat


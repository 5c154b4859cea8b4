/-
  New and Spawn, as users see them.
  Space's contracts, as users see them: what the statements' walks ask for.
  share: the pages that a tree has are put into another process.
  Unmap, walked.
  Unmap, as users see it.
  Conditions: those that each line bears.
-/
import Derived.Test.YtgjkdnpidobabaaGreatQb46
import Derived.Test.YtgjkdnpidobabaaGreatQb47
import Derived.Test.YtgjkdnpidobabaaGreatQb38
import Derived.Deep.RegionHeld3
set_option linter.unusedSimpArgs false
set_option linter.unusedSectionVars false
set_option linter.unusedVariables false
namespace Go.Proofs.YtgjkdnpidobabaaGreat
open Go.RowKit
set_option linter.unusedVariables false
section
variable {m : SpM} {n r : Nat} {F' : Nat → List Nat} {W : UW} {nr mv u : Nat}
theorem spawn_ent (hx : m.x n = none) (n' q : Nat) : entM (spawnM m n r F') n' q = entM m n' q := by
  by_cases c : n' = n
  · subst c
    rw [entM_none hx, entM_some (m := spawnM m n' r F') (y := ⟨t0 r, [], []⟩) (upd_same _ _ _)]
    show (List.replicate 4096 en0).getD q en0 = en0
    rw [List.getD_eq_getElem?_getD, List.getElem?_replicate]
    split <;> rfl
  · have e : (spawnM m n r F').x n' = m.x n' := upd_other _ _ _ c
    unfold entM
    rw [e]
theorem spawn_ar (hx : m.x n = none) : arM (spawnM m n r F') = arM m := by
  funext n' q
  by_cases c : n' = n
  · subst c
    rw [arM_some (m := spawnM m n' r F') (y := ⟨t0 r, [], []⟩) (upd_same _ _ _)]
    unfold arM
    rw [hx]
    rfl
  · have e : (spawnM m n r F').x n' = m.x n' := upd_other _ _ _ c
    unfold arM
    rw [e]
theorem spawn_case {n' : Nat} {y : SpX} (h : (spawnM m n r F').x n' = some y) : (n' = n ∧ y = ⟨t0 r, [], []⟩) ∨ (n' ≠ n ∧ m.x n' = some y) := by
  have h' : upd m.x n (some ⟨t0 r, [], []⟩) n' = some y := h
  by_cases c : n' = n
  · subst c
    rw [upd_same] at h'
    exact .inl ⟨rfl, by injection h' with h'; exact h'.symm⟩
  · rw [upd_other _ _ _ c] at h'
    exact .inr ⟨c, h'⟩
theorem spawn_use (hr : m.p.u.getD r 0 = 1) (f : Nat) : (spawnM m n r F').p.u.getD f 0 = if f = r then 2 else m.p.u.getD f 0 := by
  show (m.p.u.set r 2).getD f 0 = _
  by_cases c : f = r
  · subst c
    rw [if_pos rfl]
    refine getD_set_same _ _ _ _ ?_
    by_cases l : f < m.p.u.length
    · exact l
    · rw [List.getD_eq_getElem?_getD, List.getElem?_eq_none (by omega)] at hr
      cases hr
  · rw [if_neg c, getD_set_ne _ _ _ _ _ c]
set_option maxRecDepth 100000 in
theorem Inv.spawn {A : Nat → Nat → Option Ar} (hi : Inv A m) (hn : n < 8) (hx : m.x n = none) (hr : FirstF m.p 2 (2 ^ 0) (some r)) (ht : TsOk (t0 r)) : Inv A (spawnM m n r F') := by
  obtain ⟨r1, r2, r3, r4⟩ := first_run hr
  have hu := spawn_use (n := n) (F' := F') r2
  have ho : ∀ f, f ≠ r → (spawnM m n r F').p.u.getD f 0 = m.p.u.getD f 0 := fun f c => by rw [hu, if_neg c]
  have hne : ∀ f, m.p.u.getD f 0 ≠ 1 → f ≠ r := fun f c e => c (e ▸ r2)
  have hent := spawn_ent (r := r) (F' := F') hx
  refine ⟨⟨hi.tabs.bad, ?_, ?_, ?_⟩, ?_, ?_, ?_, ?_, fun n' q => ?_, fun f q => ?_, hi.srt, hi.slot, hi.cok, fun e he => ?_, hi.tr⟩
  · intro n' y e
    rcases spawn_case e with ⟨rfl, rfl⟩ | ⟨c, e⟩
    · rfl
    · exact hi.tabs.live _ _ e
  · intro n' y e f hf
    rcases spawn_case e with ⟨rfl, rfl⟩ | ⟨c, e⟩
    · have hf' : f ∈ [r] := hf
      rw [List.mem_singleton] at hf'
      rw [hu, if_pos hf']
    · have h2 := hi.tabs.use _ _ e f hf
      rw [ho f (hne f (by omega))]
      exact h2
  · intro n1 y1 n2 y2 e1 e2 hd f hf2 hf1
    rcases spawn_case e1 with ⟨rfl, rfl⟩ | ⟨c1, d1⟩ <;> rcases spawn_case e2 with ⟨rfl, rfl⟩ | ⟨c2, d2⟩
    · exact hd rfl
    · have h2 := hi.tabs.use _ _ d2 f hf2
      have hf' : f ∈ [r] := hf1
      rw [List.mem_singleton] at hf'
      rw [hf'] at h2
      omega
    · have h1 := hi.tabs.use _ _ d1 f hf1
      have hf' : f ∈ [r] := hf2
      rw [List.mem_singleton] at hf'
      rw [hf'] at h1
      omega
    · exact hi.tabs.two _ _ _ _ d1 d2 hd f hf2 hf1
  · intro n' y e f hf
    rcases spawn_case e with ⟨rfl, rfl⟩ | ⟨c, e⟩
    · have hf' : f ∈ [r] := hf
      rw [List.mem_singleton] at hf'
      rw [hf']
      exact ⟨r3, r4⟩
    · exact hi.zone _ _ e f hf
  · intro n' y e
    rcases spawn_case e with ⟨rfl, rfl⟩ | ⟨c, e⟩
    · exact ht
    · exact hi.tok _ _ e
  · intro n' y e
    rcases spawn_case e with ⟨rfl, rfl⟩ | ⟨c, e⟩
    · exact hn
    · exact hi.x8 _ _ e
  · intro n' y e
    rcases spawn_case e with ⟨rfl, rfl⟩ | ⟨c, e⟩
    · exact ⟨listA_nil, Nat.zero_le _⟩
    · exact hi.ars _ _ e
  · rw [hent]
    rcases hi.good n' q with c | ⟨f, c, hf, d, hd, h⟩
    · exact .inl c
    · refine .inr ⟨f, c, hf, d, hd, ?_⟩
      rw [ho f (hne f (by rcases h with h | h <;> omega))]
      exact h
  · rw [show (spawnM m n r F').b = m.b from rfl, hi.back]
    constructor
    · rintro ⟨n', q', e1, e2⟩; exact ⟨n', q', e1, (hent n' q').trans e2⟩
    · rintro ⟨n', q', e1, e2⟩; exact ⟨n', q', e1, (hent n' q').symm.trans e2⟩
  · obtain ⟨c1, f, c2, c3, c4⟩ := hi.ckey e he
    exact ⟨c1, f, c2, c3, (ho f (hne f (by omega))).trans c4⟩
theorem spawn_file {A : Nat → Nat → Option Ar} (hi : Inv A m) (hr : m.p.u.getD r 0 = 1) (hF : ∀ f, f ≠ r → F' f = m.F f) (i j : Nat) : fileM (spawnM m n r F') i j = fileM m i j := by
  unfold fileM
  show (match frameC m.c (keyI i) with | some f => (F' f.toNat).getD j 0 | none => _) = _
  cases e : frameC m.c (keyI i) with
  | none => rfl
  | some g =>
    obtain ⟨g', rfl, _, hu⟩ := hi.key_use e
    simp only [Int.toNat_natCast]
    rw [hF g' (by rintro rfl; omega)]
theorem spawn_page {A : Nat → Nat → Option Ar} (hi : Inv A m) (hx : m.x n = none) (hr : m.p.u.getD r 0 = 1) (hF : ∀ f, f ≠ r → F' f = m.F f) (n' q j : Nat) : pageM (spawnM m n r F') n' q j = pageM m n' q j := by
  have hent := spawn_ent (r := r) (F' := F') hx n' q
  rcases hi.ent_cases n' q with e | ⟨f, e, _, d, _, h⟩
  · unfold pageM
    rw [hent, e, if_neg (by decide), if_neg (by decide), spawn_ar hx]
    cases arM m n' q with
    | none => rfl
    | some d => simp only [spawn_file hi hr hF]
  · rw [pageM_in e, pageM_in (hent.trans e)]
    show (F' f).getD j 0 = _
    rw [hF f (by rintro rfl; rcases h with h | h <;> omega)]
theorem spawn_anon {A : Nat → Nat → Option Ar} (hi : Inv A m) (hx : m.x n = none) (hr : m.p.u.getD r 0 = 1) (n' q : Nat) : hasAnon (spawnM m n r F') n' q ↔ hasAnon m n' q := by
  have hent := spawn_ent (r := r) (F' := F') hx n' q
  rcases hi.ent_cases n' q with e | ⟨f, e, _, d, _, h⟩
  · exact ⟨fun c => absurd c (hasAnon_no (hent.trans e)), fun c => absurd c (hasAnon_no e)⟩
  · rw [hasAnon_in e, hasAnon_in (hent.trans e), spawn_use hr, if_neg (by rintro rfl; rcases h with h | h <;> omega)]
theorem Sees.spawn (hs : Sees (fun _ _ => False) m W) {A : Nat → Nat → Option Ar} (hi : Inv A m) (hx : m.x n = none) (hr : m.p.u.getD r 0 = 1) (hF : ∀ f, f ≠ r → F' f = m.F f) : Sees (fun _ _ => False) (spawnM m n r F') (spawnU W n) := by
  have hpr : ∀ n', (spawnU W n).pr n' = if n' = n then some ⟨[], []⟩ else W.pr n' := by
    intro n'
    show upd W.pr n _ n' = _
    by_cases c : n' = n
    · subst c; rw [upd_same, if_pos rfl]
    · rw [upd_other _ _ _ c, if_neg c]
  have hpn : W.pr n = none := by rw [hs.pr, hx]; rfl
  have har : ∀ n' q, (spawnU W n).area n' q = W.area n' q := by
    intro n' q
    unfold UW.area
    rw [hpr]
    by_cases c : n' = n
    · rw [if_pos c, c, hpn]; rfl
    · rw [if_neg c]
  refine ⟨fun n' => ?_, fun n' y e => ?_, fun i j h1 h2 => (hs.fl i j h1 h2).trans (spawn_file hi hr hF i j).symm, fun n' q j hj ha => ?_, fun n' q d hd hk hne => ?_, fun n' q ha => ?_⟩
  · rw [hpr]
    show _ = Option.map _ (upd m.x n _ n')
    by_cases c : n' = n
    · subst c; rw [if_pos rfl, upd_same]; rfl
    · rw [if_neg c, upd_other _ _ _ c]; exact hs.pr n'
  · rcases spawn_case e with ⟨rfl, rfl⟩ | ⟨c, e⟩
    · intro p hp; exact absurd hp List.not_mem_nil
    · exact hs.qc n' y e
  · rw [har] at ha
    rw [spawn_page hi hx hr hF]
    refine Eq.trans ?_ (hs.page n' q j hj ha)
    unfold UW.page
    rw [har]
    rfl
  · rw [har] at hd
    rw [spawn_anon hi hx hr]
    exact hs.own n' q d hd hk id
  · rw [har] at ha
    exact hs.out n' q ha
theorem spawn_cnt (hr : FirstF m.p 2 (2 ^ 0) (some r)) : cntF (spawnM m n r F').p 2 + 1 = cntF m.p 2 ∧ cntF (spawnM m n r F').p 3 = cntF m.p 3 := by
  obtain ⟨r1, r2, r3, r4⟩ := first_run hr
  have hu := spawn_use (n := n) (F' := F') r2
  constructor
  · unfold cntF
    refine filter_drop r1 (decide_eq_true ⟨r2, r3, r4⟩) (decide_eq_false ?_) fun x hx => decide_eq_decide.2 ?_
    · rintro ⟨h, _⟩
      rw [hu, if_pos rfl] at h
      cases h
    · rw [hu, if_neg hx]
      exact Iff.rfl
  · unfold cntF
    refine filter_same fun x hx => decide_eq_decide.2 ?_
    rw [hu]
    by_cases c : x = r
    · subst c
      rw [if_pos rfl]
      constructor
      · rintro ⟨h, _⟩; cases h
      · rintro ⟨_, h, _⟩
        omega
    · rw [if_neg c]
      exact Iff.rfl
end
section
variable (gS : Nat) (K : Nat → Prop) (W : UW) (nr mv u : Nat) (w : World)
theorem space_spawn (n : Nat) (hn : n < 8) (hp : W.pr n = none) (h : SpcMem w gS K W (nr + 1) mv u) :
    Calls Tryz.prog 11 #[.pointer (some ⟨gS, 0, none⟩), .int .i64 (n : Int)] w (SpPost w gS K (.int .i64 0) (spawnU W n) nr mv (u + 1)) := by
  obtain ⟨a, k, m, h1, h2⟩ := h
  have hx : m.x n = none := by
    have := h2.sees.pr n
    rw [hp] at this
    exact Option.map_eq_none_iff.1 this.symm
  have hnr := h2.nr
  refine (spawn_go gS a k K m w n hn h1 h2.inv.tabs hx (by omega)).mono ?_
  rintro e w' ⟨k', r, F', hr, hF, h3, -⟩
  obtain ⟨r1, r2, r3, r4⟩ := first_run hr
  have hc := spawn_cnt (n := n) (F' := F') hr
  have htk : TsOk (t0 r) := by
    obtain ⟨_, K', h4, _⟩ := id h3
    exact h4.tsok gS a k' K' _ w' (n := n) (y := ⟨t0 r, [], []⟩) (upd_same _ _ _)
  refine h3.post ⟨?_, h2.sees.spawn h2.inv hx r2 hF, by omega, by have := h2.mv; omega, fun n' y e => ?_⟩
  · rw [spawn_ar hx]
    exact h2.inv.spawn hn hx hr htk
  · rcases spawn_case e with ⟨rfl, rfl⟩ | ⟨c, e⟩
    · show [r].length ≤ u + 1
      simp
    · have := h2.tb n' y e
      omega
theorem space_new (gR gF gD gD1 gD2 gP : Nat) (F : Nat → List Nat) (S : Nat → List Nat) (L : Nat → Option (List Nat)) (KP : Nat → Prop) (p : PS)
    (hR : Mem w gR gF 1024 F (fun _ => false)) (hD : Dsk w gD gD1 gD2 192 S L Tr.none_) (hP : PoolMem w gP KP p)
    (h1 : ∀ k, k = gR ∨ k = gF → ¬ dk gD gD1 gD2 k ∧ ¬ KP k) (h2 : ∀ k, dk gD gD1 gD2 k → ¬ KP k)
    (hn : nr ≤ cntF p 2) (hm : mv ≤ cntF p 3) :
    Calls Tryz.prog 31 #[.pointer (some ⟨gR, 0, none⟩), .pointer (some ⟨gD, 0, none⟩), .pointer (some ⟨gP, 0, none⟩)] w fun e w' => ∃ gS K, e = .returned (.pointer (some ⟨gS, 0, none⟩)) ∧ SpcMem w' gS K (uw0 fun i j => (last S L (96 + i)).getD j 0) nr mv 0 ∧ (∀ k, K k → k = gR ∨ k = gF ∨ dk gD gD1 gD2 k ∨ KP k ∨ w.heap.size ≤ k) ∧ Below w.heap.size w w' := by
  refine (spnew_go w gR gF gD gD1 gD2 gP F (fun _ => false) S L Tr.none_ KP p hR hD hP h1 h2).mono ?_
  rintro e w' ⟨gS, a, k, K, rfl, h3, h4, h5⟩
  have hent : ∀ n q, entM ⟨F, fun _ => false, S, L, Tr.none_, p, bs0, [], ss0, fun _ => none⟩ n q = en0 := fun _ _ => rfl
  refine ⟨gS, K, rfl, ⟨a, k, _, h3, ⟨⟨fun _ _ => rfl, fun n y e => (by cases e), fun n y e => (by cases e), fun n y _ _ e => (by cases e)⟩, fun n y e => (by cases e), fun n y e => (by cases e), fun n y e => (by cases e), fun n y e => (by cases e), fun n q => .inl rfl, fun f q => ⟨fun hq => absurd hq List.not_mem_nil, fun ⟨n, q', _, e⟩ => ?_⟩, fun f => List.Pairwise.nil, fun _ => rfl, List.Pairwise.nil, fun e he => absurd he List.not_mem_nil, rfl⟩, ⟨fun n => rfl, fun n y e => (by cases e), fun i j _ _ => rfl, fun n q j _ ha => absurd rfl ha, fun n q r hr => (by cases hr), fun _ _ _ => rfl⟩, hn, hm, fun n y e => (by cases e)⟩, h4, h5⟩
  rw [hent] at e
  exact absurd e.symm (en_ne _)
end
end Go.Proofs.YtgjkdnpidobabaaGreat

namespace Go.Proofs.YtgjkdnpidobabaaGreat
open Go.RowKit
end Go.Proofs.YtgjkdnpidobabaaGreat

namespace Go.Proofs.YtgjkdnpidobabaaGreat
open Go.RowKit
set_option linter.unusedVariables false

theorem flatH_at {l : List (Nat × En)} {j : Nat} {p : Nat × En} (h : l[j]? = some p) (i : Nat) (u : Value) (hu : (hldL p)[i]? = some u) : (flatH l)[j * 4 + i]? = some u := by
  induction l generalizing j with
  | nil => cases h
  | cons q l ih =>
    have e : flatH (q :: l) = hldL q ++ flatH l := rfl
    have hlen : (hldL q).length = 4 := rfl
    rw [e]
    cases j with
    | zero =>
      simp only [List.getElem?_cons_zero, Option.some.injEq] at h
      subst h
      have hi : i < 4 := (List.getElem?_eq_some_iff.1 hu).1
      rw [List.getElem?_append_left (by omega), Nat.zero_mul, Nat.zero_add]
      exact hu
    | succ j =>
      have := ih (by simpa using h)
      rw [List.getElem?_append_right (by omega), hlen, show (j + 1) * 4 + i - 4 = j * 4 + i by omega]
      exact this
theorem row_went4 {w0 w w' : World} {K K' : Nat → Prop} {v : Value} {n : Nat} {xs : List Value} (h : RowAt w w0.heap.size 4 v n xs) (ho : ∀ j, v.ownBlock = some j → ¬ K j) (g : Went w K w' K') : RowAt w' w0.heap.size 4 v n xs ∧ ∀ j, v.ownBlock = some j → ¬ K' j :=
  ⟨h.keep (fun b hb => g.tr.block b (h.lt b hb).2 (ho b hb)) g.tr.size, fun j hj hk => by
    rcases g.nk j hk with c1 | c1
    · exact ho j hj c1
    · have := (h.lt j hj).2; omega⟩
section
variable (gS : Nat) (a : SpA) (k : SpK) (K : Nat → Prop) (m : SpM) (w : World)
def PutAt (w : World) (gS : Nat) (a : SpA) (k : SpK) (K : Nat → Prop) (J : Nat → SpM → Prop) (l : List (Nat × En)) (row : Value) (i : Nat) (wr : World) : Prop :=
  ∃ m' K', J i m' ∧ SpMem wr gS a k K' m' ∧ Went w K wr K' ∧ RowAt wr w.heap.size 4 row l.length (flatH l) ∧ ∀ j, row.ownBlock = some j → ¬ K' j
end
end Go.Proofs.YtgjkdnpidobabaaGreat

namespace Go.Proofs.YtgjkdnpidobabaaGreat
open Go.RowKit
set_option linter.unusedVariables false

theorem enters_unmap : ∀ args w, (callFunc 46 args).run Tryz.prog w = .ok (.enter 46 args) w := enters_of Tryz.func46 (by kernel_rfl) rfl
theorem ars_went {w0 w w' : World} {K K' : Nat → Prop} {v : Value} {l : List Ar} (h : Ars w w.heap.size v l) (ho : ∀ j, IsBlk v j → ¬ K j ∧ w0.heap.size ≤ j ∧ j < w.heap.size) (g : Went w K w' K') : Ars w' w'.heap.size v l ∧ ∀ j, IsBlk v j → ¬ K' j ∧ w0.heap.size ≤ j ∧ j < w'.heap.size := by
  refine ⟨(Gs.kept (Ki := IsBlk v) h (fun a n c e => ⟨a, n, c, e, rfl⟩) fun j hj => g.tr.block j (ho j hj).2.2 (ho j hj).1).more g.tr.size, fun j hj => ⟨fun hk => ?_, (ho j hj).2.1, Nat.lt_of_lt_of_le (ho j hj).2.2 g.tr.size⟩⟩
  rcases g.nk j hk with c | c
  · exact (ho j hj).1 c
  · have := (ho j hj).2.2; omega
theorem blk_went {w w' : World} {K K' : Nat → Prop} {g : Nat} {t : TypeId} {cs : Array Value} (h : Blk w g t cs) (ho : ¬ K g) (gw : Went w K w' K') : Blk w' g t cs ∧ ¬ K' g := by
  refine ⟨gw.tr.blk h ho, fun hk => ?_⟩
  rcases gw.nk g hk with c | c
  · exact ho c
  · have := h.lt; omega
section
variable (gS : Nat) (a : SpA) (k : SpK) (K : Nat → Prop) (m : SpM) (w : World)
theorem change_any (g : Nat) (pre post : Array Value) (eg : ∀ args w, (callFunc g args).run Tryz.prog w = .ok (.enter g args) w) (n : Nat) (y : SpX) (l : List Ar) (P : SpM → SpX → Prop) (h : SpMem w gS a k K m) (hy : m.x n = some y)
    (hcl : Calls Tryz.prog g (pre.push (.pointer (some ⟨k.X n, 0, none⟩)) ++ post) w fun e w' => ∃ m' y', P m' y' ∧ NewArs w gS a k K n 0 l m' y' e w') :
    Calls Tryz.prog 35 #[.pointer (some ⟨gS, 0, none⟩), .int .i64 (n : Int), .func (.func g) pre post] w fun e w' => ∃ k' m' y', P m' y' ∧ m'.x n = some y' ∧ SpEnd w gS a k' K (.int .i64 0) (m'.setX n (some ⟨y'.t, l, y'.q⟩)) e w' := by
  have LQ := (SpMem.look_ gS a k K m w h hy).look
  have HA := Lib.hid (all_sp gS w k.M (h.cells.cell 6))
  have HC := Lib.hid hcl
  clear h hy hcl
  go_enter Tryz.func35, Tryz.ntmps35
  go_wp2_with fail
  refine HA.out.mono ?_
  rintro e w' ⟨rfl, hw⟩
  subst w'
  go_wp2_with fail
  refine HC.out.mono ?_
  rintro e w2 ⟨m', y', hP, A, i, c, K2, rfl, h2, hy2, g2, hA2, ho2⟩
  have hp := (h2.proc hy2).1
  have c1 : w2.cell? ⟨k.X n, 1, none⟩ = some (k.v n) := hp.cell 1
  have f1 : w2.frozen? ⟨k.X n, 1, none⟩ = false := hp.frozen 1
  have R := Lib.hid (And.intro hP (And.intro hy2 (h2.areaP hy2 hA2 ho2 g2)))
  clear h2 hy2 g2 hA2 ho2 hp hP
  go_wp2_with fail
  go_ret
  exact ⟨_, m', y', R.out.1, R.out.2.1, rfl, R.out.2.2⟩
def UAt (w : World) (gS : Nat) (a : SpA) (k : SpK) (K : Nat → Prop) (J : Nat → SpM → Prop) (l : List (Nat × En)) (row left : Value) (Al : List Ar) (g3 g4 n : Nat) (i : Nat) (wr : World) : Prop :=
  ∃ m' K', J i m' ∧ SpMem wr gS a k K' m' ∧ Went w K wr K' ∧ RowAt wr w.heap.size 4 row l.length (flatH l) ∧ (∀ j, row.ownBlock = some j → ¬ K' j) ∧ Ars wr wr.heap.size left Al ∧ (∀ j, IsBlk left j → ¬ K' j ∧ w.heap.size ≤ j ∧ j < wr.heap.size) ∧
    (Blk wr g3 24 #[.pointer (some ⟨gS, 0, none⟩)] ∧ ¬ K' g3) ∧ (Blk wr g4 3 #[.int .i64 (n : Int)] ∧ ¬ K' g4)
set_option maxRecDepth 100000 in
set_option maxHeartbeats 4000000 in
theorem unmap_no_fn (n : Nat) (y : SpX) (g1 g2 g3 g4 : Nat) (f p er : Int) (wf : (Lit.int .i64 f).wf = true) (wp : (Lit.int .i64 p).wf = true) (h : SpMem w gS a k K m) (hy : m.x n = some y) (hl : listA y.a) (hn : y.a.length ≤ 4096) (b0 : Blk w g1 3 #[.int .i64 f]) (b1 : Blk w g2 3 #[.int .i64 p]) (hce : cutE y.a f p = er) (he : er ≠ 0) :
    Calls Tryz.prog 46 #[.pointer (some ⟨k.X n, 0, none⟩), .pointer (some ⟨g1, 0, none⟩), .pointer (some ⟨g2, 0, none⟩), .pointer (some ⟨g3, 0, none⟩), .pointer (some ⟨g4, 0, none⟩)] w (NewArs w gS a k K n er [] m y) := by
  have hp := h.proc hy
  obtain ⟨A_, l_, c_, hv, -⟩ := id hp.2.2.1
  have cx : w.cell? ⟨k.X n, 1, none⟩ = some (.slice A_ l_ c_) := by rw [← hv]; exact hp.1.cell 1
  have hA := hp.2.2.1
  rw [hv] at hA
  have lx := hp.1.lt
  have lb0 := b0.lt
  have z0_0 : w.cell? ⟨g1, 0, none⟩ = some (.int .i64 f) := b0.cell 0
  have lb1 := b1.lt
  have z1_0 : w.cell? ⟨g2, 0, none⟩ = some (.int .i64 p) := b1.cell 0
  have KEEP := Lib.hid (fun (V : World) (hV : Below w.heap.size w V) => (⟨(hV.cell (p := ⟨k.X n, 1, none⟩) lx).trans cx, (hV.cell (p := ⟨g1, 0, none⟩) lb0).trans z0_0, (hV.cell (p := ⟨g2, 0, none⟩) lb1).trans z1_0⟩ : V.cell? ⟨k.X n, 1, none⟩ = some (.slice A_ l_ c_) ∧ V.cell? ⟨g1, 0, none⟩ = some (.int .i64 f) ∧ V.cell? ⟨g2, 0, none⟩ = some (.int .i64 p)))
  have BR := Lib.hid (Below.refl w.heap.size w)
  have HC := Lib.hid (show Calls Tryz.prog 47 #[.slice A_ l_ c_, .int .i64 f, .int .i64 p] w.drew fun e w' => ∃ (A : Option Addr) (i c : Nat), e = .returned (.tuple #[.slice A i c, .int .i64 er]) ∧ Below w.heap.size w w' from (area_cutN w.drew (.slice A_ l_ c_) y.a f p wf wp (hA.fresh (Below.refl w.heap.size w).drew) hl hn).mono (by
    rintro e w' ⟨v', rfl, ⟨h1, h2⟩, h3⟩
    obtain ⟨A, i, c, rfl, -⟩ := id h1
    exact ⟨A, i, c, by rw [hce], (Below.refl w.heap.size w).drew.trans h3⟩))
  have H := Lib.hid (And.intro h hy)
  have t1 : (er == 0) = false := beq_eq_false_iff_ne.2 he
  clear h hy hl hn hp hv cx hA lx b0 lb0 z0_0 b1 lb1 z1_0 hce he
  go_enter Tryz.func46, Tryz.ntmps46
  go_wp2_with fail
  go_region_held3 (fun w' => w'.cell? ⟨k.X n, 1, none⟩ = some (.slice A_ l_ c_) ∧ w'.cell? ⟨g1, 0, none⟩ = some (.int .i64 f) ∧ w'.cell? ⟨g2, 0, none⟩ = some (.int .i64 p))
    (first | with_reducible assumption | with_reducible exact KEEP.out _ BR.out.drew | with_reducible exact KEEP.out _ (by with_reducible assumption))
    ((go_at_call 47; refine HC.out.mono ?_; rintro e w' ⟨A, i, c, rfl, hb⟩))
  have R := Lib.hid (newArs (er := er) (v := .slice none 0 0) H.out.1 H.out.2 rfl (Gs.nil_ _ _) (newA_nil _ _) hb)
  clear hb
  go_wp2_with fail
  go_ret2
  exact R.out
set_option maxRecDepth 100000 in
set_option maxHeartbeats 8000000 in
theorem unmap_fn (J : Nat → SpM → Prop) (n : Nat) (y : SpX) (g1 g2 g3 g4 : Nat) (f p : Nat) (hfp : f + p ≤ 4096) (h : SpMem w gS a k K m) (hy : m.x n = some y) (hb : NoBad m.bad) (hlv : y.t.live = true) (hl : listA y.a) (hn : y.a.length ≤ 4096) (b0 : Blk w g1 3 #[.int .i64 (f : Int)]) (b1 : Blk w g2 3 #[.int .i64 (p : Int)])
    (b2 : Blk w g3 24 #[.pointer (some ⟨gS, 0, none⟩)]) (b3 : Blk w g4 3 #[.int .i64 (n : Int)]) (n3 : ¬ K g3) (n4 : ¬ K g4) (hce : cutE y.a f p = 0) (h0 : J 0 m) (hJ : ∀ i m', J i m' → ∃ y', m'.x n = some y')
    (hstep : ∀ (i q : Nat) (e : En) (m' : SpM) (V : World) (K' : Nat → Prop), (havesT y.t.e f p)[i]? = some (q, e) → J i m' → SpMem V gS a k K' m' → Calls Tryz.prog 25 #[.pointer (some ⟨gS, 0, none⟩), .agg #[.int .i64 (n : Int), .int .i64 (q : Int)], .agg #[.int .i64 0, .int .i64 0, .bool false]] V fun e w' => ∃ m'', J (i + 1) m'' ∧ SpEnd V gS a k K' (.int .i64 0) m'' e w') :
    Calls Tryz.prog 46 #[.pointer (some ⟨k.X n, 0, none⟩), .pointer (some ⟨g1, 0, none⟩), .pointer (some ⟨g2, 0, none⟩), .pointer (some ⟨g3, 0, none⟩), .pointer (some ⟨g4, 0, none⟩)] w fun e w' => ∃ m' y', J (havesT y.t.e f p).length m' ∧ NewArs w gS a k K n 0 (outA y.a f p) m' y' e w' := by
  obtain ⟨l, hle⟩ : ∃ l, l = havesT y.t.e f p := ⟨_, rfl⟩
  have hlen : l.length ≤ 4096 := by rw [hle]; have := havesT_length y.t.e f p; omega
  obtain ⟨N, hN⟩ : ∃ N, N = l.length := ⟨_, rfl⟩
  have hcl : cutL y.a f p = outA y.a f p := by unfold cutL; rw [if_pos hce]
  have hpr := h.proc hy
  obtain ⟨A_, l_, c_, hv, -⟩ := id hpr.2.2.1
  have cx : w.cell? ⟨k.X n, 1, none⟩ = some (.slice A_ l_ c_) := by rw [← hv]; exact hpr.1.cell 1
  have hA := hpr.2.2.1
  rw [hv] at hA
  have lx := hpr.1.lt
  have lb0 := b0.lt
  have z0_0 : w.cell? ⟨g1, 0, none⟩ = some (.int .i64 (f : Int)) := b0.cell 0
  have lb1 := b1.lt
  have z1_0 : w.cell? ⟨g2, 0, none⟩ = some (.int .i64 (p : Int)) := b1.cell 0
  have wf : (Lit.int .i64 (f : Int)).wf = true := WalkArith.wf_i64 (by omega)
  have wp : (Lit.int .i64 (p : Int)).wf = true := WalkArith.wf_i64 (by omega)
  have KEEP := Lib.hid (fun (V : World) (hV : Below w.heap.size w V) => (⟨(hV.cell (p := ⟨k.X n, 1, none⟩) lx).trans cx, (hV.cell (p := ⟨g1, 0, none⟩) lb0).trans z0_0, (hV.cell (p := ⟨g2, 0, none⟩) lb1).trans z1_0⟩ : V.cell? ⟨k.X n, 1, none⟩ = some (.slice A_ l_ c_) ∧ V.cell? ⟨g1, 0, none⟩ = some (.int .i64 (f : Int)) ∧ V.cell? ⟨g2, 0, none⟩ = some (.int .i64 (p : Int))))
  have BR := Lib.hid (Below.refl w.heap.size w)
  have HC := Lib.hid (show Calls Tryz.prog 47 #[.slice A_ l_ c_, .int .i64 (f : Int), .int .i64 (p : Int)] w.drew fun e w' => ∃ (A : Option Addr) (i c : Nat), e = .returned (.tuple #[.slice A i c, .int .i64 0]) ∧ Below w.heap.size w w' ∧ Ars w' w'.heap.size (.slice A i c) (outA y.a f p) ∧ NewA w w' (.slice A i c) from (area_cutN w.drew (.slice A_ l_ c_) y.a f p wf wp (hA.fresh (Below.refl w.heap.size w).drew) hl hn).mono (by
    rintro e w' ⟨v', rfl, ⟨h1, h2⟩, h3⟩
    rw [hcl] at h1
    obtain ⟨A, i, c, rfl, -⟩ := id h1
    exact ⟨A, i, c, by rw [hce], (Below.refl w.heap.size w).drew.trans h3, h1, h2⟩))
  have HV := Lib.hid (fun (V W : World) (left : Value) (hV : Below w.heap.size w V) (hW : Below V.heap.size V W) (hAl : Ars V V.heap.size left (outA y.a f p)) (hNl : NewA w V left) => (show Calls Tryz.prog 48 #[.pointer (some ⟨k.T n, 0, none⟩), .int .i64 (f : Int), .int .i64 (p : Int)] W fun e w' => ∃ v, e = .returned (.tuple #[v, .int .i64 0]) ∧ UAt w gS a k K J l v left (outA y.a f p) g3 g4 n 0 w' ∧ Below V.heap.size V w' from by
    have hVW := hV.trans (hW.mono hV.size)
    obtain ⟨KP, KT, hM, hP, hT, hAp, -⟩ := (h.fresh hVW).treeP hy
    refine (having_go (k.T n) a.R a.F a.P KT m.F m.bad y.t W f p hfp hM hT hb hlv).mono ?_
    rintro e w' ⟨v, rfl, h1, h2⟩
    rw [← hle] at h1
    have hbel := hVW.trans (h2.mono hVW.size)
    have hg : Went w K w' K := Went.of_below hbel
    refine ⟨v, rfl, ⟨m, K, h0, h.fresh hbel, hg, ⟨h1.1, h1.2.1, h1.2.2.imp id fun ⟨g, o, cap, e1, e2, e3, e4, e5⟩ => ⟨g, o, cap, e1, e2, e3, Nat.le_trans hVW.size e4, e5⟩⟩, fun j hj hk => ?_, (hAl.fresh (hW.trans (h2.mono hW.size))), fun j hj => ?_, blk_went b2 n3 hg, blk_went b3 n4 hg⟩, hW.trans (h2.mono hW.size)⟩
    · have := (h1.lt j hj).1
      have := h.lt j hk
      have := hVW.size
      omega
    · obtain ⟨A, i, c, e1, e2⟩ := hj
      have := hNl A i c e1
      have := hW.size
      have := h2.size
      exact ⟨fun hk => by have := h.lt j hk; omega, by omega, by omega⟩))
  have cT : w.cell? ⟨k.X n, 0, none⟩ = some (.pointer (some ⟨k.T n, 0, none⟩)) := hpr.1.cell 0
  have KEEP2 := Lib.hid (fun (V : World) (hV : Below w.heap.size w V) => (⟨(hV.cell (p := ⟨k.X n, 0, none⟩) lx).trans cT, (hV.cell (p := ⟨g1, 0, none⟩) lb0).trans z0_0, (hV.cell (p := ⟨g2, 0, none⟩) lb1).trans z1_0⟩ : V.cell? ⟨k.X n, 0, none⟩ = some (.pointer (some ⟨k.T n, 0, none⟩)) ∧ V.cell? ⟨g1, 0, none⟩ = some (.int .i64 (f : Int)) ∧ V.cell? ⟨g2, 0, none⟩ = some (.int .i64 (p : Int))))
  rw [← hle] at hstep ⊢
  have HST := Lib.hid (And.intro hstep hJ)
  have HN := Lib.hid (And.intro hN (show N ≤ 4096 from by omega))
  clear h hy hb hlv hl hn hpr hv cx hA lx b0 lb0 z0_0 b1 lb1 z1_0 b2 b3 n3 n4 hce h0 hJ hstep hle hlen hN hcl wf wp cT hfp
  go_enter Tryz.func46, Tryz.ntmps46
  go_wp2_with fail
  go_region_held3 (fun w' => w'.cell? ⟨k.X n, 1, none⟩ = some (.slice A_ l_ c_) ∧ w'.cell? ⟨g1, 0, none⟩ = some (.int .i64 (f : Int)) ∧ w'.cell? ⟨g2, 0, none⟩ = some (.int .i64 (p : Int)))
    (first | with_reducible assumption | with_reducible exact KEEP.out _ BR.out.drew | with_reducible exact KEEP.out _ (by with_reducible assumption))
    ((go_at_call 47; refine HC.out.mono ?_; rintro e w2 ⟨A, i, c, rfl, hb2, hA2, hn2⟩))
  have BR2 := Lib.hid (Below.refl w2.heap.size w2)
  have B2 := Lib.hid hb2
  have HV2 := Lib.hid (HV.out w2 w2.drew (.slice A i c) hb2 (Below.refl w2.heap.size w2).drew hA2 hn2)
  have KEEP3 := Lib.hid (fun (V : World) (hV : Below w2.heap.size w2 V) => KEEP2.out V (hb2.trans (hV.mono hb2.size)))
  clear hb2 hA2 hn2
  go_wp2_with fail
  go_region_held3 (fun w' => w'.cell? ⟨k.X n, 0, none⟩ = some (.pointer (some ⟨k.T n, 0, none⟩)) ∧ w'.cell? ⟨g1, 0, none⟩ = some (.int .i64 (f : Int)) ∧ w'.cell? ⟨g2, 0, none⟩ = some (.int .i64 (p : Int)))
    (first | with_reducible assumption | with_reducible exact KEEP3.out _ BR2.out.drew | with_reducible exact KEEP3.out _ (by with_reducible assumption))
    ((go_at_call 48; refine HV2.out.mono ?_; rintro e w3 ⟨v, rfl, hp0, hb3⟩))
  obtain ⟨A2, c2, hv2, hc2⟩ : ∃ A c, v = .slice A N c ∧ N ≤ c := by
    obtain ⟨_, _, _, _, _, h1, _⟩ := hp0
    obtain ⟨A, c, e1, e2⟩ := h1.len
    exact ⟨A, c, by rw [HN.out.1]; exact e1, by rw [HN.out.1]; exact e2⟩
  subst hv2
  have P0 := Lib.hid hp0
  clear hp0 hb3
  go_wp2_with fail
  go_loopg [38] N (fun gg s38 wr => ∃ i' : Nat, i' + gg = N ∧ s38 = .int .i64 (i' : Int) ∧ UAt w gS a k K J l (.slice A2 N c2) (.slice A i c) (outA y.a f p) g3 g4 n i' wr)
  case atStart => exact ⟨0, by omega, rfl, P0.out⟩
  case round =>
    obtain ⟨i', hig, rfl, hst⟩ := hrel
    by_cases hlt : i' < N
    · obtain ⟨⟨q, ek, en, ew⟩, hp⟩ : ∃ p, l[i']? = some p := ⟨_, List.getElem?_eq_getElem (by have := HN.out.1; omega)⟩
      obtain ⟨mi, Ki, hj, h1, gw1, hrow, hoff, hAl, hAo, hs, hn_⟩ := hst
      obtain ⟨g, o, cap, hvv, hcc, hat⟩ := hrow.some_ (by have := HN.out.1; omega)
      injection hvv with q1 q2 q3
      subst q1
      subst q3
      clear q2
      have hgl : g < wr.heap.size := (hrow.lt g rfl).2
      have a0 : wr.cell? ⟨g, o + i' * 4, none⟩ = some (.int .i64 (q : Int)) := hat (i' * 4 + 0) _ (flatH_at hp 0 _ rfl)
      have a1 : wr.cell? ⟨g, o + i' * 4 + 1, none⟩ = some (.int .i64 ek) := by rw [Nat.add_assoc]; exact hat (i' * 4 + 1) _ (flatH_at hp 1 _ rfl)
      have a2 : wr.cell? ⟨g, o + i' * 4 + 2, none⟩ = some (.int .i64 en) := by rw [Nat.add_assoc]; exact hat (i' * 4 + 2) _ (flatH_at hp 2 _ rfl)
      have a3 : wr.cell? ⟨g, o + i' * 4 + 3, none⟩ = some (.bool ew) := by rw [Nat.add_assoc]; exact hat (i' * 4 + 3) _ (flatH_at hp 3 _ rfl)
      have t4 : decide ((i' : Int) < (N : Int)) = true := decide_eq_true (by omega)
      have t5 : (i' : Int) < (N : Int) := by omega
      have t6 : (0 : Int) ≤ (i' : Int) := by omega
      have hbW : Below wr.heap.size wr (wr.alloc (.cells #[.int .i64 (q : Int), .int .i64 ek, .int .i64 en, .bool ew] 115)) := belAl (Below.refl _ _) _
      have bx : Blk (wr.alloc (.cells #[.int .i64 (q : Int), .int .i64 ek, .int .i64 en, .bool ew] 115)) wr.heap.size 115 #[.int .i64 (q : Int), .int .i64 ek, .int .i64 en, .bool ew] := Blk.new wr _ _
      have x0 : (wr.alloc (.cells #[.int .i64 (q : Int), .int .i64 ek, .int .i64 en, .bool ew] 115)).cell? ⟨wr.heap.size, 0, none⟩ = some (.int .i64 (q : Int)) := bx.cell 0
      have s0 : (wr.alloc (.cells #[.int .i64 (q : Int), .int .i64 ek, .int .i64 en, .bool ew] 115)).cell? ⟨g3, 0, none⟩ = some (.pointer (some ⟨gS, 0, none⟩)) := (hs.1.al _).cell 0
      have s1 : (wr.alloc (.cells #[.int .i64 (q : Int), .int .i64 ek, .int .i64 en, .bool ew] 115)).cell? ⟨g4, 0, none⟩ = some (.int .i64 (n : Int)) := (hn_.1.al _).cell 0
      have PC := Lib.hid (show Calls Tryz.prog 25 #[.pointer (some ⟨gS, 0, none⟩), .agg #[.int .i64 (n : Int), .int .i64 (q : Int)], .agg #[.int .i64 0, .int .i64 0, .bool false]] (wr.alloc (.cells #[.int .i64 (q : Int), .int .i64 ek, .int .i64 en, .bool ew] 115)) fun e w' => e = .returned (.int .i64 0) ∧ UAt w gS a k K J l (.slice (some ⟨g, o, none⟩) N c2) (.slice A i c) (outA y.a f p) g3 g4 n (i' + 1) w' from
        (HST.out.1 i' q ⟨ek, en, ew⟩ mi _ Ki hp hj (h1.fresh hbW)).mono (by
          rintro e w' ⟨m'', hj2, rfl, K2, h2, g2⟩
          have gw : Went wr Ki w' K2 := (Went.of_below hbW).trans g2
          obtain ⟨r1, r2⟩ := row_went4 hrow hoff gw
          obtain ⟨r3, r4⟩ := ars_went hAl hAo gw
          exact ⟨rfl, m'', K2, hj2, h2, gw1.trans gw, r1, r2, r3, r4, blk_went hs.1 hs.2 gw, blk_went hn_.1 hn_.2 gw⟩))
      clear hp hj h1 gw1 hrow hoff hat hbW bx hAl hAo hs hn_
      go_wp2_with fail
      refine PC.out.mono ?_
      rintro e w5 ⟨rfl, hp5⟩
      have P5 := Lib.hid hp5
      clear hp5
      go_wp2_with fail
      go_roundg (N - (i' + 1))
      case measure => omega
      case rel => exact ⟨i' + 1, by omega, congrArg (Value.int .i64) (by have := HN.out.2; first | omega | (simp only [wrap64]; omega)), P5.out⟩
    · have hin : i' = N := by omega
      have t4 : decide ((i' : Int) < (N : Int)) = false := decide_eq_false (by omega)
      have PE := Lib.hid (show UAt w gS a k K J l (.slice A2 N c2) (.slice A i c) (outA y.a f p) g3 g4 n N wr from hin ▸ hst)
      clear hst
      go_wp2_with fail
      go_ret2
      obtain ⟨m', K', h1, h2, h3, _, _, h4, h5, _, _⟩ := PE.out
      obtain ⟨y', hy'⟩ := HST.out.2 _ _ h1
      rw [HN.out.1] at h1
      exact ⟨m', y', h1, A, i, c, K', rfl, h2, hy', h3, h4, h5⟩
end
end Go.Proofs.YtgjkdnpidobabaaGreat

namespace Go.Proofs.YtgjkdnpidobabaaGreat
open Go.RowKit
set_option linter.unusedVariables false

theorem havesT_page {l : List En} {f c i q : Nat} {e : En} (h : (havesT l f c)[i]? = some (q, e)) : f ≤ q ∧ q < f + c ∧ e = l.getD q en0 ∧ e ≠ en0 := by
  have hm : (q, e) ∈ havesT l f c := List.mem_of_getElem? h
  clear h
  induction c with
  | zero => exact absurd hm List.not_mem_nil
  | succ c ih =>
    have hm' : (q, e) ∈ havesT l f c ++ (if l.getD (f + c) en0 = en0 then [] else [(f + c, l.getD (f + c) en0)]) := hm
    rcases List.mem_append.1 hm' with d | d
    · obtain ⟨a1, a2, a3⟩ := ih d
      exact ⟨a1, by omega, a3⟩
    · split at d
      · exact absurd d List.not_mem_nil
      · rename_i hne
        rw [List.mem_singleton] at d
        injection d with d1 d2
        subst d1 d2
        exact ⟨by omega, by omega, rfl, hne⟩
theorem havesT_all {l : List En} {f c q : Nat} (h1 : f ≤ q) (h2 : q < f + c) (h3 : l.getD q en0 ≠ en0) : (q, l.getD q en0) ∈ havesT l f c := by
  induction c with
  | zero => omega
  | succ c ih =>
    show _ ∈ havesT l f c ++ (if l.getD (f + c) en0 = en0 then [] else [(f + c, l.getD (f + c) en0)])
    by_cases d : q = f + c
    · subst d
      rw [if_neg h3]
      exact List.mem_append_right _ List.mem_cons_self
    · exact List.mem_append_left _ (ih (by omega))
def amongL (l : List (Nat × En)) (i q : Nat) : Prop := ∃ j, j < i ∧ ∃ e, l[j]? = some (q, e)
noncomputable instance (l : List (Nat × En)) (i q : Nat) : Decidable (amongL l i q) := Classical.propDecidable _
theorem among_next {l : List (Nat × En)} {i q : Nat} {e : En} (h : l[i]? = some (q, e)) (q' : Nat) : amongL l (i + 1) q' ↔ q' = q ∨ amongL l i q' := by
  constructor
  · rintro ⟨j, h1, e', h2⟩
    by_cases c : j = i
    · subst c
      rw [h] at h2
      injection h2 with h2
      injection h2 with h2
      exact .inl h2.symm
    · exact .inr ⟨j, by omega, e', h2⟩
  · rintro (rfl | ⟨j, h1, e', h2⟩)
    · exact ⟨i, by omega, e, h⟩
    · exact ⟨j, by omega, e', h2⟩
theorem among_none (l : List (Nat × En)) (q : Nat) : ¬ amongL l 0 q := fun ⟨j, h, _⟩ => absurd h (Nat.not_lt_zero j)
theorem among_end {l : List En} {f c q : Nat} (h1 : f ≤ q) (h2 : q < f + c) (h3 : l.getD q en0 ≠ en0) : amongL (havesT l f c) (havesT l f c).length q := by
  obtain ⟨i, hi, e⟩ := List.mem_iff_getElem.1 (havesT_all h1 h2 h3)
  exact ⟨i, hi, _, by rw [List.getElem?_eq_getElem hi, e]⟩
structure GoneJ (m0 : SpM) (n f c i : Nat) (l : List (Nat × En)) (m : SpM) : Prop where
  inv : Inv (arM m) m
  xs : ∀ n', (m.x n').map (fun y => (y.a, y.q)) = (m0.x n').map (fun y => (y.a, y.q))
  ent : ∀ n' q, entM m n' q = if n' = n ∧ amongL l i q then en0 else entM m0 n' q
  frm : ∀ n' q (g : Nat), entM m n' q = ⟨1, (g : Int), false⟩ → m.F g = m0.F g ∧ m.p.u.getD g 0 = m0.p.u.getD g 0
  fil : ∀ i j, fileM m i j = fileM m0 i j
  cost : Cost 0 0 0 m0 m
theorem GoneJ.start {m0 : SpM} {n f c : Nat} {l : List (Nat × En)} (hi : Inv (arM m0) m0) : GoneJ m0 n f c 0 l m0 :=
  ⟨hi, fun _ => rfl, fun n' q => (if_neg fun h => among_none l q h.2).symm, fun _ _ _ _ => ⟨rfl, rfl⟩, fun _ _ => rfl, Cost.refl m0⟩
theorem GoneJ.step {m0 m : SpM} {n f c i q : Nat} {e : En} {l : List (Nat × En)} {y : SpX} {F' : Nat → List Nat} {p' : PS} {t' : TS} (h : GoneJ m0 n f c i l m) (hl : l[i]? = some (q, e)) (hy : m.x n = some y) (hq : q < 4096) (hd : SetDone m y q en0 F' p' t') :
    GoneJ m0 n f c (i + 1) l (putM m n y q en0 0 F' p' t') := by
  have hp := putIs (n := n) (y := y) (pg := q) (x := en0) (F' := F') (p' := p') (t' := t') h.inv hy (.inl rfl)
  have hiv := h.inv.put hy hq hd (.inl rfl) hp
  have s := Stp.put hp hd h.inv hy hq (.inl rfl) (fun f e _ => absurd e.symm (en_ne _))
  have hent := hp.ent hd hy (h.inv.tok n y hy).el hq
  have hc := (Cost.put hp hd h.inv hy).2 (.inr rfl)
  refine ⟨by rw [s.ar]; exact hiv, fun n' => (s.xs n').trans (h.xs n'), fun n' q' => ?_, fun n' q' g e' => ?_, fun a b => (s.fil a b).trans (h.fil a b), (h.cost.trans hc).le (by omega) (by omega) (by omega)⟩
  · rw [hent, h.ent]
    by_cases c1 : n' = n
    · by_cases c2 : q' = q
      · rw [if_pos ⟨c1, c2⟩, if_pos ⟨c1, (among_next hl q').2 (.inl c2)⟩]
      · rw [if_neg (fun d => c2 d.2)]
        by_cases c3 : amongL l i q'
        · rw [if_pos ⟨c1, c3⟩, if_pos ⟨c1, (among_next hl q').2 (.inr c3)⟩]
        · rw [if_neg (fun d => c3 d.2), if_neg (fun d => ((among_next hl q').1 d.2).elim c2 c3)]
    · rw [if_neg (fun d => c1 d.1), if_neg (fun d => c1 d.1), if_neg (fun d => c1 d.1)]
  · have c : ¬ (n' = n ∧ q' = q) := fun c => by
      rw [hent, if_pos c] at e'
      exact absurd e'.symm (en_ne _)
    have e2 := (s.ent n' q' c).symm.trans e'
    obtain ⟨a1, a2, _⟩ := s.frm n' q' g c e2
    obtain ⟨b1, b2⟩ := h.frm n' q' g e2
    exact ⟨a1.trans b1, a2.trans b2⟩
section
variable (gS : Nat) (K : Nat → Prop) (W : UW) (nr mv u : Nat) (w : World)
theorem Sees.gone {m0 m : SpM} {n f c : Nat} {y : SpX} (hi : Inv (arM m0) m0) (hs : Sees (fun _ _ => False) m0 W) (hy : m0.x n = some y) (hfc : f + c ≤ 4096) (h : GoneJ m0 n f c (havesT y.t.e f c).length (havesT y.t.e f c) m) :
    (∀ n' q, entM m n' q = if n' = n ∧ f ≤ q ∧ q < f + c then en0 else entM m0 n' q) := by
  intro n' q
  rw [h.ent]
  by_cases c1 : n' = n
  · subst c1
    by_cases c2 : f ≤ q ∧ q < f + c
    · have e2 : (if n' = n' ∧ f ≤ q ∧ q < f + c then en0 else entM m0 n' q) = en0 := if_pos ⟨rfl, c2⟩
      rw [e2]
      by_cases c3 : amongL (havesT y.t.e f c) (havesT y.t.e f c).length q
      · exact if_pos ⟨rfl, c3⟩
      · rw [if_neg (fun d => c3 d.2), entM_some hy]
        by_cases c4 : y.t.e.getD q en0 = en0
        · exact c4
        · exact absurd (among_end c2.1 c2.2 c4) c3
    · have e2 : (if n' = n' ∧ f ≤ q ∧ q < f + c then en0 else entM m0 n' q) = entM m0 n' q := if_neg (fun d => c2 d.2)
      rw [e2]
      refine if_neg ?_
      rintro ⟨_, j, _, e, hj⟩
      obtain ⟨h1, h2, _⟩ := havesT_page hj
      exact c2 ⟨h1, h2⟩
  · rw [if_neg (fun d => c1 d.1), if_neg (fun d => c1 d.1)]
theorem Sees.unmap {m0 m : SpM} {n f c : Nat} {y y' : SpX} {l : List Ar} (hi : Inv (arM m0) m0) (hs : Sees (fun _ _ => False) m0 W) (hy : m0.x n = some y) (hy' : m.x n = some y') (hinv : Inv (arM m) m)
    (xs : ∀ n', (m.x n').map (fun y => (y.a, y.q)) = (m0.x n').map (fun y => (y.a, y.q))) (ent : ∀ n' q, entM m n' q = if n' = n ∧ f ≤ q ∧ q < f + c then en0 else entM m0 n' q)
    (frm : ∀ n' q (g : Nat), entM m n' q = ⟨1, (g : Int), false⟩ → m.F g = m0.F g ∧ m.p.u.getD g 0 = m0.p.u.getD g 0) (fil : ∀ i j, fileM m i j = fileM m0 i j)
    (hl : listA l) (hK : ∀ q : Nat, ¬ (f ≤ q ∧ q < f + c) → ∀ r, findA y.a (q : Int) = some r → ∃ r', findA l (q : Int) = some r' ∧ samePg r r' q) (hout : ∀ q : Nat, f ≤ q ∧ q < f + c → findA l (q : Int) = none) :
    Inv (arM (m.setX n (some ⟨y'.t, l, y'.q⟩))) (m.setX n (some ⟨y'.t, l, y'.q⟩)) → Sees (fun _ _ => False) (m.setX n (some ⟨y'.t, l, y'.q⟩)) (goneU (arsU W n l) n (f : Int) (c : Int)) := by
  intro hi3
  have eaq : y'.a = y.a ∧ y'.q = y.q := by
    have := xs n
    rw [hy', hy] at this
    injection this with this
    injection this with h1 h2
    exact ⟨h1, h2⟩
  have hent3 := entM_setX (m := m) (y' := ⟨y'.t, l, y'.q⟩) hy' rfl
  have har0 : ∀ n' q, arM m n' q = arM m0 n' q := fun n' q => by rw [arM_of xs]
  have hpn : W.pr n = some ⟨y.a, y.q.map (·.g)⟩ := by rw [hs.pr, hy]; rfl
  have hpr : ∀ n', (goneU (arsU W n l) n (f : Int) (c : Int)).pr n' = if n' = n then some ⟨l, y.q.map (·.g)⟩ else W.pr n' := by
    intro n'
    show upd W.pr n ((W.pr n).map fun p => ⟨l, p.sg⟩) n' = _
    by_cases d : n' = n
    · subst d; rw [upd_same, if_pos rfl, hpn]; rfl
    · rw [upd_other _ _ _ d, if_neg d]
  have har : ∀ n' q, (goneU (arsU W n l) n (f : Int) (c : Int)).area n' q = if n' = n then findA l (q : Int) else W.area n' q := by
    intro n' q
    unfold UW.area
    rw [hpr]
    by_cases d : n' = n
    · rw [if_pos d, if_pos d]
    · rw [if_neg d, if_neg d]
  have hown : ∀ n' q, (goneU (arsU W n l) n (f : Int) (c : Int)).own n' q = if n' = n ∧ f ≤ q ∧ q < f + c then none else W.own n' q := by
    intro n' q
    show (if n' = n ∧ (f : Int) ≤ (q : Int) ∧ (q : Int) < (f : Int) + (c : Int) then none else W.own n' q) = _
    by_cases d : n' = n ∧ f ≤ q ∧ q < f + c
    · rw [if_pos d, if_pos ⟨d.1, by omega, by omega⟩]
    · rw [if_neg d, if_neg (fun e => d ⟨e.1, by omega, by omega⟩)]
  have hfl : (goneU (arsU W n l) n (f : Int) (c : Int)).fl = W.fl := rfl
  -- pages that stay
  have stay : ∀ n' q j, ¬ (n' = n ∧ f ≤ q ∧ q < f + c) → pageM m n' q j = pageM m0 n' q j := by
    intro n' q j d
    have e1 := ent n' q
    rw [if_neg d] at e1
    rcases hi.ent_cases n' q with e | ⟨g, e, _⟩
    · unfold pageM
      rw [e1, e, if_neg (by decide), if_neg (by decide), har0]
      cases arM m0 n' q with
      | none => rfl
      | some r => simp only [fil]
    · rw [pageM_in e, pageM_in (e1.trans e), (frm n' q g (e1.trans e)).1]
  have anon : ∀ n' q, ¬ (n' = n ∧ f ≤ q ∧ q < f + c) → (hasAnon (m.setX n (some ⟨y'.t, l, y'.q⟩)) n' q ↔ hasAnon m0 n' q) := by
    intro n' q d
    have e1 := ent n' q
    rw [if_neg d] at e1
    rcases hi.ent_cases n' q with e | ⟨g, e, _⟩
    · exact ⟨fun c => absurd c (hasAnon_no ((hent3 n' q).trans (e1.trans e))), fun c => absurd c (hasAnon_no e)⟩
    · rw [hasAnon_in e, hasAnon_in ((hent3 n' q).trans (e1.trans e))]
      show m.p.u.getD g 0 = 3 ↔ _
      rw [(frm n' q g (e1.trans e)).2]
  refine ⟨fun n' => ?_, fun n' z e => ?_, fun i j h1 h2 => ?_, fun n' q j hj ha => ?_, fun n' q r hr hk hne => ?_, fun n' q ha => ?_⟩
  · rw [hpr]
    show _ = Option.map _ (upd m.x n _ n')
    by_cases d : n' = n
    · subst d; rw [if_pos rfl, upd_same, Option.map_some]; rw [eaq.2]
    · rw [if_neg d, upd_other _ _ _ d, hs.pr]
      have := xs n'
      cases e : m0.x n' with
      | none =>
        rw [e, Option.map_none, Option.map_eq_none_iff] at this
        rw [this]
      | some z =>
        rw [e, Option.map_some, Option.map_eq_some_iff] at this
        obtain ⟨z', h1, h2⟩ := this
        injection h2 with h2 h3
        rw [h1, Option.map_some, Option.map_some, h2, h3]
  · have e' : upd m.x n (some ⟨y'.t, l, y'.q⟩) n' = some z := e
    by_cases d : n' = n
    · subst d
      rw [upd_same] at e'
      injection e' with e'
      subst e'
      intro p hp
      exact hs.qc n' y hy p (by rw [← eaq.2]; exact hp)
    · rw [upd_other _ _ _ d] at e'
      have := xs n'
      rw [e', Option.map_some] at this
      obtain ⟨z0, h1, h2⟩ := Option.map_eq_some_iff.1 this.symm
      injection h2 with h2 h3
      rw [← h3]
      exact hs.qc n' z0 h1
  · rw [hfl, hs.fl i j h1 h2]
    exact (fil i j).symm
  · by_cases d : n' = n ∧ f ≤ q ∧ q < f + c
    · obtain ⟨rfl, d⟩ := d
      rw [har, if_pos rfl, hout q d] at ha
      exact absurd rfl ha
    · have eown := hown n' q
      rw [if_neg d] at eown
      by_cases d2 : n' = n
      · subst d2
        have d3 : ¬ (f ≤ q ∧ q < f + c) := fun e => d ⟨rfl, e⟩
        rw [har, if_pos rfl] at ha
        obtain ⟨r', hr'⟩ := Option.ne_none_iff_exists'.1 ha
        cases e0 : findA y.a (q : Int) with
        | none =>
          have hm0 : arM m0 n' q = none := (arM_some hy q).trans e0
          have hw0 : W.own n' q = none := hs.out n' q ((hs.area n' q).trans hm0)
          have he0 : entM m0 n' q = en0 := by
            rcases hi.ent_cases n' q with e | ⟨g, _, _, r, hr, _⟩
            · exact e
            · rw [hm0] at hr; cases hr
          have he : entM m n' q = en0 := by rw [ent, if_neg d]; exact he0
          have hm' := (findA_iff hl).1 hr'
          unfold UW.page
          rw [eown, hw0, har, if_pos rfl, hr']
          unfold pageM
          rw [hent3, he, if_neg (by decide), arM_setX hy', if_pos rfl, hr']
          simp only
          by_cases hk : r'.kd = 1
          · rw [if_pos hk, if_pos hk]
          · rw [if_neg hk, if_neg hk, hfl]
            obtain ⟨h1, -, h2⟩ := key_ix (hl.1 _ hm'.1) hm'.2 hk
            rw [hs.fl _ _ (by omega) hj]
            exact (fil _ _).symm
        | some r =>
          obtain ⟨r2, h2, h3⟩ := hK q d3 r e0
          rw [hr'] at h2
          injection h2 with h2
          subst h2
          have ha0 : W.area n' q = some r := by rw [hs.area, arM_some hy]; exact e0
          have hm := (findA_iff (hi.ars n' y hy).1).1 e0
          have hm' := (findA_iff hl).1 hr'
          have ix : r.kd ≠ 1 → fileIx r' q = fileIx r q := fun hk => ix_same ((hi.ars n' y hy).1.1 _ hm.1) (hl.1 _ hm'.1) hm.2 hm'.2 hk h3
          have e1 : (goneU (arsU W n' l) n' (f : Int) (c : Int)).page n' q j = W.page n' q j := by
            unfold UW.page
            rw [eown, har, if_pos rfl, hr', ha0, hfl]
            cases W.own n' q with
            | some b => rfl
            | none =>
              show (if r'.kd = 1 then (fun _ => 0) else W.fl (fileIx r' q)) j = (if r.kd = 1 then (fun _ => 0) else W.fl (fileIx r q)) j
              rw [h3.1]
              by_cases hk : r.kd = 1
              · rw [if_pos hk, if_pos hk]
              · rw [if_neg hk, if_neg hk, ix hk]
          rw [e1, hs.page _ _ _ hj (by rw [ha0]; simp), ← stay n' q j d]
          rcases hinv.ent_cases n' q with e | ⟨g, e, _⟩
          · unfold pageM
            rw [hent3, e, if_neg (by decide), if_neg (by decide), arM_setX hy', if_pos rfl, hr', har0, arM_some hy, e0]
            simp only
            rw [h3.1]
            by_cases hk : r.kd = 1
            · rw [if_pos hk, if_pos hk]
            · rw [if_neg hk, if_neg hk, ix hk]
              rfl
          · rw [pageM_in e, pageM_in ((hent3 n' q).trans e)]
            rfl
      · rw [har, if_neg d2] at ha
        have e1 : (goneU (arsU W n l) n (f : Int) (c : Int)).page n' q j = W.page n' q j := by
          unfold UW.page
          rw [eown, har, if_neg d2, hfl]
        rw [e1, hs.page _ _ _ hj ha, ← stay n' q j d]
        unfold pageM
        rw [hent3, arM_setX hy', if_neg d2]
        rfl
  · by_cases d : n' = n ∧ f ≤ q ∧ q < f + c
    · obtain ⟨rfl, d⟩ := d
      rw [har, if_pos rfl, hout q d] at hr
      cases hr
    · rw [hown, if_neg d, anon n' q d]
      by_cases d2 : n' = n
      · subst d2
        have d3 : ¬ (f ≤ q ∧ q < f + c) := fun e => d ⟨rfl, e⟩
        rw [har, if_pos rfl] at hr
        cases e0 : findA y.a (q : Int) with
        | none =>
          have hm0 : arM m0 n' q = none := (arM_some hy q).trans e0
          have he0 : entM m0 n' q = en0 := by
            rcases hi.ent_cases n' q with e | ⟨g, _, _, r, hr, _⟩
            · exact e
            · rw [hm0] at hr; cases hr
          exact ⟨fun _ => hasAnon_no he0, fun _ => hs.out n' q ((hs.area n' q).trans hm0)⟩
        | some r0 =>
          obtain ⟨r2, h2, h3⟩ := hK q d3 r0 e0
          rw [hr] at h2
          injection h2 with h2
          subst h2
          exact hs.own n' q r0 (by rw [hs.area, arM_some hy]; exact e0) (by rw [← h3.1]; exact hk) id
      · rw [har, if_neg d2] at hr
        exact hs.own n' q r hr hk id
  · rw [hown]
    by_cases d : n' = n ∧ f ≤ q ∧ q < f + c
    · rw [if_pos d]
    · rw [if_neg d]
      rw [har] at ha
      by_cases d2 : n' = n
      · subst d2
        rw [if_pos rfl] at ha
        refine hs.out n' q ?_
        rw [hs.area, arM_some hy]
        cases e0 : findA y.a (q : Int) with
        | none => rfl
        | some r =>
          obtain ⟨r2, h2, _⟩ := hK q (fun e => d ⟨rfl, e⟩) r e0
          rw [ha] at h2
          cases h2
      · rw [if_neg d2] at ha
        exact hs.out n' q ha
end
section
variable (gS : Nat) (a : SpA) (k : SpK) (K : Nat → Prop) (m : SpM) (w : World)
theorem fourth (w : World) (o1 o2 o3 : Obj) (t : TypeId) (cs : Array Value) : Blk ((((w.alloc o1).alloc o2).alloc o3).alloc (.cells cs t)) (w.heap.size + 1 + 1 + 1) t cs := by
  have e : (((w.alloc o1).alloc o2).alloc o3).heap.size = w.heap.size + 1 + 1 + 1 := by rw [World.size_alloc, World.size_alloc, World.size_alloc]
  rw [← e]
  exact Blk.new _ _ _
structure UBox (w : World) (gS n : Nat) (f p : Int) (W : World) : Prop where
  bel : Below w.heap.size w W
  s : Blk W w.heap.size 24 #[.pointer (some ⟨gS, 0, none⟩)]
  n : Blk W (w.heap.size + 1) 3 #[.int .i64 (n : Int)]
  f : Blk W (w.heap.size + 1 + 1) 3 #[.int .i64 f]
  p : Blk W (w.heap.size + 1 + 1 + 1) 3 #[.int .i64 p]
theorem uBox (w : World) (gS n : Nat) (f p : Int) : UBox w gS n f p ((((w.alloc (.cells #[.pointer (some ⟨gS, 0, none⟩)] 24)).alloc (.cells #[.int .i64 (n : Int)] 3)).alloc (.cells #[.int .i64 f] 3)).alloc (.cells #[.int .i64 p] 3)) :=
  ⟨belAl (belAl (belAl (belAl (Below.refl _ w) _) _) _) _, (((Blk.new w _ _).al _).al _).al _, ((Blk.new1 w _ _ _).al _).al _, (Blk.new2 w _ _ _ _).al _, fourth w _ _ _ _ _⟩
set_option maxRecDepth 100000 in
set_option maxHeartbeats 2000000 in
theorem unmap_via (n : Nat) (f p er : Int) (P : SpM → Prop)
    (hc : Calls Tryz.prog 35 #[.pointer (some ⟨gS, 0, none⟩), .int .i64 (n : Int), .func (.func 46) #[] #[.pointer (some ⟨w.heap.size + 1 + 1, 0, none⟩), .pointer (some ⟨w.heap.size + 1 + 1 + 1, 0, none⟩), .pointer (some ⟨w.heap.size, 0, none⟩), .pointer (some ⟨w.heap.size + 1, 0, none⟩)]] ((((w.alloc (.cells #[.pointer (some ⟨gS, 0, none⟩)] 24)).alloc (.cells #[.int .i64 (n : Int)] 3)).alloc (.cells #[.int .i64 f] 3)).alloc (.cells #[.int .i64 p] 3)) fun e w' => ∃ k' m', P m' ∧ SpEnd ((((w.alloc (.cells #[.pointer (some ⟨gS, 0, none⟩)] 24)).alloc (.cells #[.int .i64 (n : Int)] 3)).alloc (.cells #[.int .i64 f] 3)).alloc (.cells #[.int .i64 p] 3)) gS a k' K (.int .i64 er) m' e w') :
    Calls Tryz.prog 17 #[.pointer (some ⟨gS, 0, none⟩), .int .i64 (n : Int), .int .i64 f, .int .i64 p] w fun e w' => ∃ k' m', P m' ∧ SpEnd w gS a k' K (.int .i64 er) m' e w' := by
  have HC := Lib.hid hc
  have G := Lib.hid (Went.of_below (K := K) (uBox w gS n f p).bel)
  clear hc
  go_enter Tryz.func17, Tryz.ntmps17
  go_wp2_with fail
  refine HC.out.mono ?_
  rintro e w2 ⟨k', m', hP, rfl, h2⟩
  have R := Lib.hid (And.intro hP (h2.from_ G.out))
  clear h2 hP
  go_wp2_with fail
  go_ret
  exact ⟨k', m', R.out.1, rfl, R.out.2⟩
end
section
variable (gS : Nat) (K : Nat → Prop) (W : UW) (nr mv u : Nat) (w : World)
set_option maxRecDepth 100000 in
theorem space_unmap (n : Nat) (P : Prc) (f p : Int) (wf : (Lit.int .i64 f).wf = true) (wp : (Lit.int .i64 p).wf = true) (hp : W.pr n = some P) (h : SpcMem w gS K W (nr + 3) mv u) :
    Calls Tryz.prog 17 #[.pointer (some ⟨gS, 0, none⟩), .int .i64 (n : Int), .int .i64 f, .int .i64 p] w (SpPost w gS K (.int .i64 (cutE P.ars f p)) (if cutE P.ars f p = 0 then goneU (arsU W n (outA P.ars f p)) n f p else W) (nr + 3) mv u) := by
  obtain ⟨sa, k, m, h1, h2⟩ := h
  obtain ⟨y, hy, hpy⟩ := h2.sees.proc (n := n) (by rw [hp]; simp)
  rw [hp] at hpy
  injection hpy with hpy
  subst hpy
  obtain ⟨l1, l2⟩ := h2.inv.ars n y hy
  have ub := uBox w gS n f p
  have hlt := h1.lt
  by_cases c : cutE y.a f p = 0
  · obtain ⟨⟨r1, r2, r3, r4⟩, g1, g2, g3⟩ := cut_ok l1 c
    obtain ⟨f, rfl⟩ := Int.eq_ofNat_of_zero_le r1
    obtain ⟨p, rfl⟩ := Int.eq_ofNat_of_zero_le (show 0 ≤ p by omega)
    rw [c, if_pos rfl]
    refine (unmap_via gS sa K w n (f : Int) (p : Int) 0 (fun m' => ∃ m1 y', (GoneJ m n f p (havesT y.t.e f p).length (havesT y.t.e f p) m1 ∧ m1.x n = some y') ∧ m' = m1.setX n (some ⟨y'.t, outA y.a f p, y'.q⟩)) ?_).mono ?_
    · refine (change_any gS sa k K m _ 46 #[] #[.pointer (some ⟨w.heap.size + 1 + 1, 0, none⟩), .pointer (some ⟨w.heap.size + 1 + 1 + 1, 0, none⟩), .pointer (some ⟨w.heap.size, 0, none⟩), .pointer (some ⟨w.heap.size + 1, 0, none⟩)] enters_unmap n y (outA y.a f p) (fun m1 y' => GoneJ m n f p (havesT y.t.e f p).length (havesT y.t.e f p) m1) (h1.fresh ub.bel) hy ?_).mono ?_
      · refine unmap_fn gS sa k K m _ (fun i m1 => GoneJ m n f p i (havesT y.t.e f p) m1) n y (w.heap.size + 1 + 1) (w.heap.size + 1 + 1 + 1) w.heap.size (w.heap.size + 1) f p (by omega) (h1.fresh ub.bel) hy h2.inv.tabs.bad (h2.inv.tabs.live n y hy) l1 (by omega) ub.f ub.p ub.s ub.n (fun hk => by have := hlt _ hk; omega) (fun hk => by have := hlt _ hk; omega) c (GoneJ.start h2.inv) (fun i m' hJ => ?_) (fun i q e m' V K' hl hJ hV => ?_)
        · have := hJ.xs n
          rw [hy, Option.map_some] at this
          obtain ⟨y', e1, _⟩ := Option.map_eq_some_iff.1 this
          exact ⟨y', e1⟩
        · have := hJ.xs n
          rw [hy, Option.map_some] at this
          obtain ⟨y', e1, _⟩ := Option.map_eq_some_iff.1 this
          have hq := havesT_page hl
          have c2 := hJ.cost.c2
          have hnr := h2.nr
          refine (put_ok gS sa k K' m' V n y' q en0 hV e1 (by omega) hJ.inv.tabs hJ.inv.few (.inr (.inr ⟨.inl rfl, rfl, rfl⟩)) (by omega)).mono ?_
          rintro e w' ⟨F', p', t', hd, hE⟩
          exact ⟨_, hJ.step hl e1 (by omega) hd, hE⟩
      · rintro e w' ⟨k', m1, y', hJ, hy', hE⟩
        exact ⟨k', _, ⟨m1, y', ⟨hJ, hy'⟩, rfl⟩, hE⟩
    · rintro e w' ⟨k', _, ⟨m1, y', ⟨hJ, hy'⟩, rfl⟩, hE⟩
      have ent := Sees.gone W h2.inv h2.sees hy (by omega) hJ
      have eaq : y'.a = y.a := by
        have := hJ.xs n
        rw [hy', hy] at this
        injection this with this
        injection this
      have hK : ∀ q : Nat, ¬ (f ≤ q ∧ q < f + p) → ∀ r, findA y.a (q : Int) = some r → ∃ r', findA (outA y.a f p) (q : Int) = some r' ∧ samePg r r' q := by
        intro q hq r hr
        obtain ⟨hm, hh⟩ := (findA_iff l1).1 hr
        have hs := (l1.1 r hm).1
        unfold hasA at hh
        exact g3 q r (by omega) (by omega) (by omega) hr
      have hi3 : Inv (arM (m1.setX n (some ⟨y'.t, outA y.a f p, y'.q⟩))) (m1.setX n (some ⟨y'.t, outA y.a f p, y'.q⟩)) := by
        refine hJ.inv.areas hy' g1 g2 fun q => ?_
        by_cases d : f ≤ q ∧ q < f + p
        · right
          rw [ent, if_pos ⟨rfl, d⟩]
        · cases e0 : findA y.a (q : Int) with
          | none =>
            right
            rw [ent, if_neg (fun e => d e.2)]
            rcases h2.inv.ent_cases n q with e | ⟨g, _, _, r, hr, _⟩
            · exact e
            · rw [arM_some hy, e0] at hr; cases hr
          | some r =>
            obtain ⟨r', e1, e2⟩ := hK q d r e0
            exact .inl ⟨r, r', by rw [eaq]; exact e0, e1, e2⟩
      have c2 := hJ.cost.c2
      have c3 := hJ.cost.c3
      have hnr := h2.nr
      have hmv := h2.mv
      refine hE.post ⟨hi3, Sees.unmap W h2.inv h2.sees hy hy' hJ.inv hJ.xs ent hJ.frm hJ.fil g1 hK (fun q hq => out_in ⟨r1, r2, r3, r4⟩ (by omega) (by omega)) hi3, by show _ ≤ cntF m1.p 2; omega, by show _ ≤ cntF m1.p 3; omega, fun n' z e => ?_⟩
      have e' : upd m1.x n (some ⟨y'.t, outA y.a f p, y'.q⟩) n' = some z := e
      by_cases d : n' = n
      · subst d
        rw [upd_same] at e'
        injection e' with e'
        subst e'
        obtain ⟨y0, e0, l0⟩ := hJ.cost.tt n' y' hy'
        have := h2.tb n' y0 e0
        show y'.t.t.length ≤ u
        omega
      · rw [upd_other _ _ _ d] at e'
        obtain ⟨y0, e0, l0⟩ := hJ.cost.tt n' z e'
        have := h2.tb n' y0 e0
        omega
  · rw [if_neg c]
    obtain ⟨er, her⟩ : ∃ er, cutE y.a f p = er := ⟨_, rfl⟩
    rw [her] at c
    have hr : SpPost w gS K (.int .i64 (cutE y.a f p)) W (nr + 3) mv u = SpPost w gS K (.int .i64 er) W (nr + 3) mv u := by rw [her]
    show Calls _ _ _ _ (SpPost w gS K (.int .i64 (cutE y.a f p)) W (nr + 3) mv u)
    rw [hr]
    refine (unmap_via gS sa K w n f p er (fun m' => m' = m) ?_).mono ?_
    · refine (change_go gS sa k K m _ 46 #[] #[.pointer (some ⟨w.heap.size + 1 + 1, 0, none⟩), .pointer (some ⟨w.heap.size + 1 + 1 + 1, 0, none⟩), .pointer (some ⟨w.heap.size, 0, none⟩), .pointer (some ⟨w.heap.size + 1, 0, none⟩)] enters_unmap n y y er [] m (h1.fresh ub.bel) hy (unmap_no_fn gS sa k K m _ n y (w.heap.size + 1 + 1) (w.heap.size + 1 + 1 + 1) w.heap.size (w.heap.size + 1) f p er wf wp (h1.fresh ub.bel) hy l1 (by omega) ub.f ub.p her c)).mono ?_
      rintro e w' ⟨k', hE⟩
      rw [if_neg c] at hE
      exact ⟨k', m, rfl, hE⟩
    · rintro e w' ⟨k', m', rfl, hE⟩
      exact hE.post h2
end
end Go.Proofs.YtgjkdnpidobabaaGreat


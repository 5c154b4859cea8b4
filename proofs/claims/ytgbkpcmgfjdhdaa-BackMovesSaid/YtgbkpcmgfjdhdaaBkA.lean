/-
  The back map in memory, a map of frames each of which has a map of its places; New; all.
  Conditions: none beside those that each line bears.
-/
import Derived.Test.YtgbkpcmgfjdhdaaPlK
import Derived.Lib.Hide
namespace Go.Proofs.Ytgbkpcmgfjdhdaa
open Go.RowKit
set_option linter.unusedVariables false

/-- Who has which frame. -/
abbrev BS := Int → List Pl
def bs0 : BS := fun _ => []
def updB (b : BS) (f : Int) (l : List Pl) : BS := fun k => if k = f then l else b k
theorem updB_same (b : BS) (f : Int) (l : List Pl) : updB b f l f = l := if_pos rfl
theorem updB_other (b : BS) (f : Int) (l : List Pl) {k : Int} (h : k ≠ f) : updB b f l k = b k := if_neg h
/-- What is answered is in memory of its own. -/
def NewV (w : World) (v : Value) : Prop := ∀ a n c, v = .slice (some a) n c → 0 < n → w.heap.size ≤ a.block
/-- What Move makes of it. -/
def movB (b : BS) (f t : Int) : BS := if b f ≠ [] ∧ f ≠ t then updB (updB b t (mrgP (b t) (b f))) f [] else b
/-- The frames that somebody has are few. -/
def FewF (b : BS) : Prop := ∃ fs : List Int, fs.length ≤ 100000 ∧ ∀ g, b g ≠ [] → g ∈ fs
/-- A frame's places, as a set. -/
def setL (l : List Pl) (p : Pl) : Option Value := if p ∈ l then some (.agg #[]) else none
/-- The frames that somebody has, each with its own set. -/
def outL (b : BS) (bk : Int → Nat) (f : Int) : Option Value := if b f = [] then none else some (.map (some (bk f)))
theorem setL_ne {l : List Pl} {p : Pl} : setL l p ≠ none ↔ p ∈ l := by
  unfold setL
  by_cases h : p ∈ l
  · rw [if_pos h]; simp [h]
  · rw [if_neg h]; simp [h]
theorem outL_ne {b : BS} {bk : Int → Nat} {f : Int} : outL b bk f ≠ none ↔ b f ≠ [] := by
  unfold outL
  by_cases h : b f = []
  · rw [if_pos h]; simp [h]
  · rw [if_neg h]; simp [h]
structure InMap (w : World) (K : Nat → Prop) (b : BS) (m : Nat) (bk : Int → Nat) : Prop where
  kM : K m
  out : ∃ n, MapK EI w m n (outL b bk)
  inn : ∀ f, b f ≠ [] → K (bk f) ∧ bk f ≠ m ∧ ∃ n, MapK EP w (bk f) n (setL (b f))
  inj : ∀ f g, b f ≠ [] → b g ≠ [] → bk f = bk g → f = g
def BackMaps (w : World) (K : Nat → Prop) (b : BS) : Option Nat → Prop
  | none => ∀ f, b f = []
  | some m => ∃ bk, InMap w K b m bk
/-- A back map in memory, in block gB; K: the blocks that its work turns. -/
structure BackMem (w : World) (gB : Nat) (K : Nat → Prop) (b : BS) : Prop where
  lt : ∀ k, K k → k < w.heap.size
  srt : ∀ f, SrtP (b f)
  len : ∀ f, (b f).length ≤ 200000
  kB : K gB
  at_ : ∃ mo, Blk w gB 47 #[.map mo] ∧ BackMaps w K b mo
section
variable {w w' : World} {gB m : Nat} {K : Nat → Prop} {b : BS} {bk : Int → Nat}
theorem InMap.far (h : InMap w K b m bk) (hk : ∀ k, K k → w'.heap[k]? = w.heap[k]?) : InMap w' K b m bk := by
  obtain ⟨n, h1⟩ := h.out
  refine ⟨h.kM, ⟨n, h1.far (hk m h.kM)⟩, fun f hf => ?_, h.inj⟩
  obtain ⟨h2, h3, n', h4⟩ := h.inn f hf
  exact ⟨h2, h3, n', h4.far (hk _ h2)⟩
theorem BackMaps.far {mo : Option Nat} (h : BackMaps w K b mo) (hk : ∀ k, K k → w'.heap[k]? = w.heap[k]?) : BackMaps w' K b mo := by
  cases mo with
  | none => exact h
  | some m => obtain ⟨bk, h1⟩ := h; exact ⟨bk, h1.far hk⟩
theorem BackMem.far (h : BackMem w gB K b) (hk : ∀ k, K k → w'.heap[k]? = w.heap[k]?) : BackMem w' gB K b := by
  obtain ⟨mo, h1, h2⟩ := h.at_
  refine ⟨fun k hk' => ?_, h.srt, h.len, h.kB, mo, ?_, h2.far hk⟩
  · have e := hk k hk'
    rw [Array.getElem?_eq_getElem (h.lt k hk')] at e
    exact (Array.getElem?_eq_some_iff.1 e).1
  · unfold Blk at *
    rw [hk gB h.kB]
    exact h1
theorem BackMem.fresh (h : BackMem w gB K b) (hb : Below w.heap.size w w') : BackMem w' gB K b := h.far fun k hk => hb.block k (h.lt k hk)
theorem BackMem.only (h : BackMem w gB K b) {g : Nat} (ho : Only g w w') (hg : ¬ K g) : BackMem w' gB K b := h.far fun k hk => ho.1.block k (h.lt k hk) (fun e => hg (by injection e with e; exact e ▸ hk))
theorem InMap.wf (h : InMap w K b m bk) {f : Int} (hf : b f ≠ []) : W64 f := by
  obtain ⟨n, h1⟩ := h.out
  exact h1.ok (E := EI) (outL_ne.2 hf)
theorem InMap.wp (h : InMap w K b m bk) {f : Int} {p : Pl} (hp : p ∈ b f) : WPl p := by
  obtain ⟨_, _, n, h1⟩ := h.inn f (fun e => by rw [e] at hp; exact absurd hp List.not_mem_nil)
  exact h1.ok (E := EP) (setL_ne.2 hp)
theorem BackMem.wp (h : BackMem w gB K b) {f : Int} {p : Pl} (hp : p ∈ b f) : WPl p := by
  obtain ⟨mo, _, h2⟩ := h.at_
  cases mo with
  | none => rw [h2 f] at hp; exact absurd hp List.not_mem_nil
  | some m => obtain ⟨bk, h1⟩ := h2; exact h1.wp hp
theorem InMap.ltM (h : InMap w K b m bk) : m < w.heap.size := by
  obtain ⟨n, h1⟩ := h.out
  exact h1.blk
theorem InMap.ltI (h : InMap w K b m bk) {f : Int} (hf : b f ≠ []) : bk f < w.heap.size := by
  obtain ⟨_, _, n, h1⟩ := h.inn f hf
  exact h1.blk
/-- A map's block is no block of cells. -/
theorem Blk.noMap {w : World} {g k : Nat} {t : TypeId} {cs : Array Value} (h : Blk w g t cs) (hm : ∃ es clock, w.heap[k]? = some (.map es clock)) : k ≠ g := by
  rintro rfl
  obtain ⟨es, clock, e⟩ := hm
  unfold Blk at h
  rw [h] at e
  cases e
theorem InMap.neM (h : InMap w K b m bk) {g : Nat} {t : TypeId} {cs : Array Value} (hb : Blk w g t cs) : m ≠ g := by
  obtain ⟨n, h1⟩ := h.out
  exact hb.noMap h1.isMap
theorem InMap.neI (h : InMap w K b m bk) {f : Int} (hf : b f ≠ []) {g : Nat} {t : TypeId} {cs : Array Value} (hb : Blk w g t cs) : bk f ≠ g := by
  obtain ⟨_, _, n, h1⟩ := h.inn f hf
  exact hb.noMap h1.isMap
theorem srt_nd {l : List Pl} (h : SrtP l) : l.Nodup := List.Pairwise.imp (fun h => h.ne) h
/-- The set of a frame's places is just as great. -/
theorem InMap.tightI (h : InMap w K b m bk) (hs : ∀ f, SrtP (b f)) {f : Int} (hf : b f ≠ []) : MapK EP w (bk f) (b f).length (setL (b f)) := by
  obtain ⟨_, _, n, h1⟩ := h.inn f hf
  obtain ⟨D, d1, _, d2, d3⟩ := h1.tight (srt_nd (hs f)) (fun x => setL_ne.symm)
  exact ⟨D, d1, d2, d3⟩
theorem nodup_le {α : Type} [DecidableEq α] : ∀ {l l' : List α}, l.Nodup → (∀ x, x ∈ l → x ∈ l') → l.length ≤ l'.length
  | [], _, _, _ => Nat.zero_le _
  | a :: l, l', hn, hs => by
    obtain ⟨h1, h2⟩ := List.nodup_cons.1 hn
    have hm : a ∈ l' := hs a List.mem_cons_self
    have h3 : l.length ≤ (l'.erase a).length := nodup_le h2 fun x hx => by
      have hne : x ≠ a := fun e => h1 (e ▸ hx)
      exact (List.mem_erase_of_ne hne).2 (hs x (List.mem_cons_of_mem _ hx))
    have h4 := List.length_erase_of_mem hm
    have h5 : 0 < l'.length := List.length_pos_of_mem hm
    rw [List.length_cons]
    omega
def dedI : List Int → List Int
  | [] => []
  | a :: l => if a ∈ dedI l then dedI l else a :: dedI l
theorem mem_of_dedI {l : List Int} {x : Int} (h : x ∈ dedI l) : x ∈ l := by
  induction l with
  | nil => exact h
  | cons a l ih =>
    unfold dedI at h
    split at h
    · exact List.mem_cons_of_mem _ (ih h)
    · rcases List.mem_cons.1 h with e | h
      · rw [e]; exact List.mem_cons_self
      · exact List.mem_cons_of_mem _ (ih h)
theorem mem_dedI {l : List Int} {x : Int} : x ∈ dedI l ↔ x ∈ l := by
  induction l with
  | nil => exact Iff.rfl
  | cons a l ih =>
    unfold dedI
    split
    · rename_i h
      rw [ih, List.mem_cons]
      constructor
      · exact Or.inr
      · intro h'
        by_cases hx : x ∈ l
        · exact hx
        · rcases h' with e | h'
          · exfalso
            subst e
            exact hx (mem_of_dedI h)
          · exact h'
    · rw [List.mem_cons, List.mem_cons, ih]
theorem nd_dedI (l : List Int) : (dedI l).Nodup := by
  induction l with
  | nil => exact List.nodup_nil
  | cons a l ih =>
    unfold dedI
    split
    · exact ih
    · rename_i h
      exact List.nodup_cons.2 ⟨h, ih⟩
/-- As many frames as somebody has. -/
theorem FewF.list {b : BS} (h : FewF b) : ∃ js : List Int, js.Nodup ∧ js.length ≤ 100000 ∧ ∀ f, f ∈ js ↔ b f ≠ [] := by
  obtain ⟨fs, h1, h2⟩ := h
  refine ⟨(dedI fs).filter (fun f => decide (b f ≠ [])), (nd_dedI fs).filter _, ?_, fun f => ?_⟩
  · refine Nat.le_trans (nodup_le (l' := fs) ((nd_dedI fs).filter _) fun x hx => ?_) h1
    exact mem_dedI.1 (List.mem_filter.1 hx).1
  · rw [List.mem_filter, mem_dedI]
    constructor
    · exact fun h => of_decide_eq_true h.2
    · exact fun h => ⟨h2 f h, decide_eq_true h⟩
theorem InMap.tightM (h : InMap w K b m bk) (hf : FewF b) : ∃ n, n ≤ 100000 ∧ MapK EI w m n (outL b bk) := by
  obtain ⟨n, h1⟩ := h.out
  obtain ⟨js, j1, j2, j3⟩ := hf.list
  obtain ⟨D, d1, _, d2, d3⟩ := h1.tight j1 (fun x => (j3 x).trans outL_ne.symm)
  exact ⟨js.length, j2, D, d1, d2, d3⟩
end
/-- What a call that turns it leaves. -/
def BackPost (w : World) (gB : Nat) (K : Nat → Prop) (v : Value) (b' : BS) (e : Ending) (w' : World) : Prop :=
  ∃ K' : Nat → Prop, e = .returned v ∧ BackMem w' gB K' b' ∧ (∀ k, K' k → K k ∨ w.heap.size ≤ k) ∧ Turns K w w'
theorem back_new (w : World) : Calls Try.prog 8 #[] w fun e w' => ∃ gB K, e = .returned (.pointer (some ⟨gB, 0, none⟩)) ∧ BackMem w' gB K bs0 ∧ (∀ k, K k → w.heap.size ≤ k) ∧ Below w.heap.size w w' := by
  go_enter Try.func8, Try.ntmps8
  go_wp2
  go_ret
  refine ⟨w.heap.size, fun k => k = w.heap.size, rfl, ⟨fun k e => ?_, fun f => List.Pairwise.nil, fun f => Nat.zero_le _, rfl, none, Blk.new _ _ _, fun f => rfl⟩, fun k e => by rw [e]; exact Nat.le_refl _, belAl (Below.refl _ w) _⟩
  rw [e]
  simp
theorem all_nil (w : World) : Calls Try.prog 18 #[.pointer none] w fun e w' => e = .returned (.map none) ∧ w' = w := by
  go_enter Try.func18, Try.ntmps18
  go_wp2
  go_ret
  exact ⟨rfl, rfl⟩
theorem all_any (gB : Nat) (mo : Option Nat) (w : World) (hc : w.cell? ⟨gB, 0, none⟩ = some (.map mo)) : Calls Try.prog 18 #[.pointer (some ⟨gB, 0, none⟩)] w fun e w' => e = .returned (.map mo) ∧ w' = w := by
  go_enter Try.func18, Try.ntmps18
  go_wp2
  go_ret
  exact ⟨rfl, rfl⟩
end Go.Proofs.Ytgbkpcmgfjdhdaa

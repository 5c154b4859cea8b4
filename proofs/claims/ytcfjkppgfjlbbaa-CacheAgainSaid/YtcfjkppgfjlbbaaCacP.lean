/-
  A cache as a list: pages, where they stand, what is dirty (nothing of the program).
  Conditions: none.
-/
import Derived.Test.YtcfjkppgfjlbbaaBkP
namespace Go.Proofs.Ytcfjkppgfjlbbaa
open Go.RowKit
set_option linter.unusedVariables false

structure Ce where
  k : Pl
  f : Int
  d : Bool
abbrev CS := List Ce
/-- Each page stands once, and each frame has one page. -/
abbrev CsOk (es : CS) : Prop := es.Pairwise (fun a b => a.k ≠ b.k ∧ a.f ≠ b.f)
def hasC (es : CS) (k : Pl) : Bool := es.any (fun e => decide (e.k = k))
def busyC (es : CS) (f : Int) : Bool := es.any (fun e => decide (e.f = f))
/-- May k be put into f? -/
def freeC (es : CS) (k : Pl) (f : Int) : Bool := !hasC es k && !busyC es f
def putC (es : CS) (k : Pl) (f : Int) : CS := if freeC es k f then es ++ [⟨k, f, false⟩] else es
def markC (es : CS) (k : Pl) (d : Bool) : CS := es.map (fun e => if e.k = k then ⟨e.k, e.f, d⟩ else e)
def dropC (es : CS) (k : Pl) : CS := es.filter (fun e => !decide (e.k = k))
def frameC (es : CS) (k : Pl) : Option Int := (es.find? (fun e => decide (e.k = k))).map (·.f)
def pageC (es : CS) (f : Int) : Option Pl := (es.find? (fun e => decide (e.f = f))).map (·.k)
def dirtyC (es : CS) (k : Pl) : Bool := es.any (fun e => decide (e.k = k) && e.d)
/-- What Keys answers. -/
def KeysC (es : CS) (file : Int) (l : List Pl) : Prop := SrtP l ∧ ∀ k, k ∈ l ↔ (∃ e ∈ es, e.k = k) ∧ (file < 0 ∨ k.c = file)
def frV15 (r : Option Int) : Value := match r with | some f => .tuple #[.int .i64 f, .bool true] | none => .tuple #[.int .i64 0, .bool false]
def pgV15 (r : Option Pl) : Value := match r with | some k => .tuple #[.agg #[.int .i64 k.c, .int .i64 k.g], .bool true] | none => .tuple #[.agg #[.int .i64 0, .int .i64 0], .bool false]
theorem hasC_iff {es : CS} {k : Pl} : hasC es k = true ↔ ∃ e ∈ es, e.k = k := by
  unfold hasC
  rw [List.any_eq_true]
  constructor
  · rintro ⟨e, h1, h2⟩; exact ⟨e, h1, of_decide_eq_true h2⟩
  · rintro ⟨e, h1, h2⟩; exact ⟨e, h1, decide_eq_true h2⟩
theorem busyC_iff {es : CS} {f : Int} : busyC es f = true ↔ ∃ e ∈ es, e.f = f := by
  unfold busyC
  rw [List.any_eq_true]
  constructor
  · rintro ⟨e, h1, h2⟩; exact ⟨e, h1, of_decide_eq_true h2⟩
  · rintro ⟨e, h1, h2⟩; exact ⟨e, h1, decide_eq_true h2⟩
theorem csOk_put {es : CS} {k : Pl} {f : Int} (h : CsOk es) : CsOk (putC es k f) := by
  unfold putC
  split
  · rename_i c
    unfold freeC at c
    rw [Bool.and_eq_true, Bool.not_eq_true', Bool.not_eq_true'] at c
    refine List.pairwise_append.2 ⟨h, List.pairwise_singleton _ _, fun e he x hx => ?_⟩
    rw [List.mem_singleton] at hx
    subst hx
    refine ⟨fun e1 => ?_, fun e1 => ?_⟩
    · rw [hasC_iff.2 ⟨e, he, e1⟩] at c; exact absurd c.1 (by simp)
    · rw [busyC_iff.2 ⟨e, he, e1⟩] at c; exact absurd c.2 (by simp)
  · exact h
theorem csOk_drop {es : CS} {k : Pl} (h : CsOk es) : CsOk (dropC es k) := h.filter _
theorem csOk_mark {es : CS} {k : Pl} {d : Bool} (h : CsOk es) : CsOk (markC es k d) := by
  unfold markC
  refine List.pairwise_map.2 (h.imp fun {a b} hab => ?_)
  have ek : ∀ x : Ce, (if x.k = k then (⟨x.k, x.f, d⟩ : Ce) else x).k = x.k := fun x => by split <;> rfl
  have ef : ∀ x : Ce, (if x.k = k then (⟨x.k, x.f, d⟩ : Ce) else x).f = x.f := fun x => by split <;> rfl
  rw [ek, ek, ef, ef]
  exact hab
theorem putC_length (es : CS) (k : Pl) (f : Int) : (putC es k f).length ≤ es.length + 1 := by unfold putC; split <;> simp
/-- As many as there are members, where each stands once. -/
theorem nodupC_le {α : Type} [DecidableEq α] {l : List α} : ∀ {m : List α}, l.Nodup → (∀ x ∈ l, x ∈ m) → l.length ≤ m.length := by
  induction l with
  | nil => intro m _ _; exact Nat.zero_le _
  | cons x l ih =>
    intro m hn hs
    obtain ⟨h1, h2⟩ := List.nodup_cons.1 hn
    have hx := hs x List.mem_cons_self
    have := ih (m := m.erase x) h2 (fun y hy => (List.mem_erase_of_ne (fun e => h1 (by rw [← e]; exact hy))).2 (hs y (List.mem_cons_of_mem _ hy)))
    rw [List.length_erase_of_mem hx] at this
    have hp := List.length_pos_of_mem hx
    simp only [List.length_cons]
    omega
theorem srt_nodup {l : List Pl} (h : SrtP l) : l.Nodup := h.imp fun hab => hab.ne
theorem keys_nodup {es : CS} (h : CsOk es) : (es.map (·.k)).Nodup := List.pairwise_map.2 (h.imp fun hab => hab.1)
/-- All pages of the file, each once. -/
theorem keysC_length {es : CS} {file : Int} {l : List Pl} (h : CsOk es) (hk : KeysC es file l) : l.length = ((es.map (·.k)).filter (fun k => decide (file < 0 ∨ k.c = file))).length := by
  obtain ⟨h1, h2⟩ := hk
  refine Nat.le_antisymm (nodupC_le (srt_nodup h1) fun x hx => ?_) (nodupC_le ((keys_nodup h).filter _) fun x hx => ?_)
  · obtain ⟨⟨e, he, rfl⟩, h4⟩ := (h2 x).1 hx
    exact List.mem_filter.2 ⟨List.mem_map.2 ⟨e, he, rfl⟩, decide_eq_true h4⟩
  · obtain ⟨h3, h4⟩ := List.mem_filter.1 hx
    obtain ⟨e, he, rfl⟩ := List.mem_map.1 h3
    exact (h2 _).2 ⟨⟨e, he, rfl⟩, of_decide_eq_true h4⟩
end Go.Proofs.Ytcfjkppgfjlbbaa

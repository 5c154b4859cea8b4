/-
  RamPlays: for every input the statement's function answers true, and every argument reads behind the call as it read before.
  Conditions: none.
-/
import Derived.Test.YtlodeejeeldplaaRows
import Derived.WalkKit
import Derived.ProofKit
import Derived.OpenShut
import Derived.ChangeOld
import Derived.Below
import Derived.Test.YtlodeejeeldplaaRamPlays
import Derived.Test.YtlodeejeeldplaaStructRow
namespace Go.Proofs.Ytlodeejeeldplaa.ramPlays
open Go.ChangeShapes Go.WideShapes Go.ChangeAt Go.RowKit Go.Deep
set_option linter.unusedVariables false

theorem own : ownKnob Try.prog.godebug = none := by kernel_rfl
theorem laidOut : laidOutB Try.prog = true := by kernel_rfl
theorem cellsAct : Try.prog.cellsOf 33 = 5 := by kernel_rfl

/-- An integer field. -/
theorem int_field {H : Type} {enc : TypeId × Value → H} {w : World} {b o k : Nat} {y : DataW H × List MemPlace} {v : Value} {base : Nat} {sp : Nat → Bool} {hd : Bool} (hc : w.cell? ⟨b, o, none⟩ = some v)
    (ht : DataW.trod enc Try.prog w base sp hd k 3 [v] = some y) : ∃ n, w.cell? ⟨b, o, none⟩ = some (.int .i64 n) ∧ I64 n := by
  obtain ⟨n, h1, _, hw⟩ := DataW.trod_int Try.underlying3 ht
  simp only [List.cons.injEq, and_true] at h1
  subst h1
  have := bounds_i64 hw
  exact ⟨n, hc, this.1, this.2⟩
/-- A field that is a slice of bytes. -/
theorem bytes_field {H : Type} {enc : TypeId × Value → H} {w : World} {k base : Nat} {y : DataW H × List MemPlace} {v : Value} {hd : Bool} (ht : DataW.trod enc Try.prog w base (fun _ => true) hd k 31 [v] = some y) : ∃ xs, Bts w w.heap.size v xs := by
  rcases open_ints Try.underlying31 Try.underlying5 (by kernel_rfl) ht with ⟨hcs, _⟩ | ⟨x, l, c, zs, hcs, _, hl, hm, hz, _, hcell, hwz⟩
  · simp only [List.cons.injEq, and_true] at hcs
    subst hcs
    exact ⟨[], Bts.nil_ _ _⟩
  · simp only [List.cons.injEq, and_true] at hcs
    subst hcs
    obtain ⟨xs, _, h⟩ := Bts.of_row (w := w) (a := some x) (len := l) (cap := c) (zs := zs) (.inr ⟨x, rfl, hl, hm, by simpa using hz, hcell, hwz⟩)
    exact ⟨xs, h⟩
/-- The acts that came in. -/
theorem acts_of {H : Type} {enc : TypeId × Value → H} {w : World} {fuel l c base : Nat} {A : Option Addr} {x : DataW H × List MemPlace} {hd : Bool} (h : DataW.trod enc Try.prog w base (fun _ => true) hd fuel 22 [.slice A l c] = some x) (hlm : l ≤ maxLen) :
    ∃ acts, Acts w w.heap.size (.slice A l c) acts ∧ acts.length = l := by
  by_cases hl : l = 0
  · subst hl
    exact ⟨[], ⟨A, 0, c, rfl, rfl, by simp [maxLen], fun h => absurd h (by omega)⟩, rfl⟩
  · rcases StructRow.of_trod Try.underlying22 Try.underlying33 (by kernel_rfl) cellsAct (by decide) h (fun _ => .inl hl) with ⟨_, h0, _⟩ | ⟨b, off, rfl, hlc, hcm, hrow⟩
    · exact absurd h0 hl
    · have hx : ∀ i, i < l → ∃ x : ActD, ActAt w w.heap.size b (off + i * 5) x := by
        intro i hi
        obtain ⟨hb, hf⟩ := hrow i hi
        obtain ⟨v0, y0, k0, c0, r0⟩ := hf 0 _ rfl
        obtain ⟨v1, y1, k1, c1, r1⟩ := hf 1 _ rfl
        obtain ⟨v2, y2, k2, c2, r2⟩ := hf 2 _ rfl
        obtain ⟨v3, y3, k3, c3, r3⟩ := hf 3 _ rfl
        obtain ⟨v4, y4, k4, c4, r4⟩ := hf 4 _ rfl
        obtain ⟨n0, d0, i0⟩ := int_field c0 r0
        obtain ⟨n1, d1, i1⟩ := int_field c1 r1
        obtain ⟨n2, d2, i2⟩ := int_field c2 r2
        obtain ⟨n3, d3, i3⟩ := int_field c3 r3
        obtain ⟨xs, d4⟩ := bytes_field r4
        refine ⟨⟨n0, n1, n2, n3, v4, xs⟩, hb, ?_, ?_, ?_, ?_, ?_, d4, i1, i2, i3⟩
        · exact d0
        · exact d1
        · exact d2
        · exact d3
        · exact c4
      refine ⟨(List.range l).map (fun i => if hi : i < l then Classical.choose (hx i hi) else ⟨0, 0, 0, 0, .slice none 0 0, []⟩), ⟨_, l, c, rfl, by simp, hlm, fun _ => ⟨b, off, rfl, fun j x hj => ?_⟩⟩, by simp⟩
      have hjl : j < l := by
        have := (List.getElem?_eq_some_iff.1 hj).1
        simpa using this
      simp only [List.getElem?_map, List.getElem?_range hjl, Option.map_some, Option.some.injEq] at hj
      rw [dif_pos hjl] at hj
      rw [← hj]
      exact Classical.choose_spec (hx j hjl)

/-! ### the walk -/
theorem walk (a0 : Int) (A : Option Addr) (l c : Nat) (acts : List ActD) (w : World) (w0 : (Lit.int .i64 a0).wf = true) (w1 : Acts w w.heap.size (.slice A l c) acts) (hl : acts.length = l) (hlm : l ≤ maxLen) :
    Calls Try.prog 3 #[.int .i64 a0, .slice A l c] w fun e w' => e = .returned (.bool true) ∧ Below w.heap.size w w' := by
  by_cases h : 80 < l
  · exact ramPlays_edge a0 A l c w hlm h
  · by_cases h1 : a0 ≤ 0
    · exact ramPlays_any a0 0 _ acts w (.inl ⟨h1, rfl⟩) w1 (by omega)
    · by_cases h2 : 1024 ≤ a0
      · exact ramPlays_any a0 1024 _ acts w (.inr (.inl ⟨h2, rfl⟩)) w1 (by omega)
      · obtain ⟨n, hn⟩ := Int.eq_ofNat_of_zero_le (show 0 ≤ a0 by omega)
        exact ramPlays_any a0 n _ acts w (.inr (.inr ⟨by omega, by omega, hn⟩)) w1 (by omega)

/-! ### the row's step -/
set_option maxRecDepth 100000 in
theorem lifted (os : Os) (started : os.Started) (H : Type) (enc : TypeId × Value → H) :
    ReturnsInHanded {} Try.checked os 3 .any (Rows.ramPlaysSpec.pre6 enc Try.prog Try.f3 Rows.ramPlaysRow.domain false) (Rows.ramPlaysSpec.post enc Try.prog Try.f3 false true false false) := by
  refine returnsInHanded_of_change (C := Try.checked) own started (by kernel_rfl) Try.func3
    (ChangeSpec.witness6 (enc := enc) (C := Try.checked) false ⟨#[], #[.int .i64 0, .slice none 0 0], []⟩ 8 (by kernel_rfl) (by kernel_rfl) (by kernel_rfl) (by kernel_rfl)) ?_
  intro W base args ds gs before hval0 hW hcnd _
  have hval : ∀ (j : Nat) t v, Try.f3.params[j]? = some t → args[j]? = some v → Value.okWide Try.prog W .any base t v := hval0
  have hW' := hW
  obtain ⟨p, q, hA0, hV, rfl, hfz, hnd⟩ := hW
  have hA : DataW.TrodAll enc Try.prog W 0 (fun _ => true) true Try.f3.params.toList args.toList ds p := hA0
  rw [Try.params3] at hA hval
  obtain ⟨v0, vs0, d0, ds0, p0, q0, hargs, rfl, rfl, h0, r0⟩ := trodAll_cons hA
  obtain ⟨v1, vs1, d1, ds1, p1, q1, rfl, rfl, rfl, h1, r1⟩ := trodAll_cons r0
  obtain ⟨rfl, rfl, rfl⟩ := trodAll_nil r1
  obtain rfl : args = #[v0, v1] := by cases args; simp_all
  obtain ⟨rfl, rfl⟩ := trodVars_none hV
  obtain ⟨a0, rfl, rfl, rfl, w0⟩ := open_int Try.underlying3 (hval 0 3 v0 rfl rfl) h0
  obtain ⟨a1, len1, cap1, rfl⟩ := okWide_slice Try.underlying22 (hval 1 22 v1 rfl rfl)
  have k1 := h1
  have lt1 : ∀ x ∈ p1, x.block < W.heap.size := by obtain ⟨m, hm⟩ := k1; exact DataW.trod_lt m _ _ _ hm
  have hlm : len1 ≤ maxLen := by
    obtain ⟨fuel, hf⟩ := k1
    simp only [Value.cells] at hf
    rcases open_slice Try.underlying22 hf with ⟨hcs, _⟩ | ⟨a, len, cap, m, n, D, Pl, hcs, _, hl, hm, _⟩
    · simp at hcs
      omega
    · simp at hcs
      omega
  obtain ⟨acts, w1, hl1⟩ : ∃ acts, Acts W W.heap.size (.slice a1 len1 cap1) acts ∧ acts.length = len1 := by
    obtain ⟨fuel, hf⟩ := h1
    simp only [Value.cells] at hf
    exact acts_of hf hlm
  clear hA0 hval0
  refine (walk a0 a1 len1 cap1 acts W w0 w1 hl1 hlm).mono fun e W' ⟨he, bel⟩ => ?_
  subst he
  exact ⟨_, rfl, _, _, _, [], _, [], hW', trodAll_mk1 (shut_bool Try.underlying4 _), (trodAll_cons_mk (shut_int Try.underlying3 w0) (trodAll_cons_mk (Below.trod laidOut (by kernel_rfl) (of_decide_eq_true (by kernel_rfl)) k1 bel lt1) trodAll_mk0)), rfl, bel.frame _, fun h => by cases h⟩

theorem over : Rows.ramPlaysRow.holds Try.pinned (OpenSpec.ofChange Rows.ramPlaysSpec) :=
  OpenClaim.holds_of_wide 3 Try.f3 rfl rfl rfl rfl rfl rfl rfl ⟨rfl, rfl, rfl, rfl, rfl⟩ rfl rfl rfl rfl rfl (by kernel_rfl) Try.func3 (by kernel_rfl)
    (of_decide_eq_true (by kernel_rfl)) (by unfold Func.isWrapper; first | (rw [if_pos (by decide +kernel)]; kernel_rfl) | (rw [if_neg (by decide +kernel)]; exact ⟨rfl, rfl⟩))
    (fun os started H enc _ => lifted os started H enc)

/-- The statement. -/
theorem proved : Rows.RamPlaysSaid := over
#print axioms proved
end Go.Proofs.Ytlodeejeeldplaa.ramPlays

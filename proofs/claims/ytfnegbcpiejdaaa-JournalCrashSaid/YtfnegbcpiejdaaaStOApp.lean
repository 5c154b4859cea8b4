/-
  One state more behind a call's own list of states; such a list as it is read. Nothing of the program is named here but how 'one' and 'clash' read states.
  Conditions: none beside those that each line bears.
-/
import Derived.Test.YtfnegbcpiejdaaaBas
import Derived.Test.YtfnegbcpiejdaaaJouSt
namespace Go.Proofs.Ytfnegbcpiejdaaa
open Go.RowKit
set_option linter.unusedVariables false

theorem agg_two (u l : Value) : (Value.agg #[u, l]).cells = #[u, l] := rfl
/-- 'append(some, next)'. -/
theorem wpList_append_sto {P : Program} {w0 w : World} {ops : Array Oper} {rest : List Oper} {o : Oper} {a : Act} {Q : Exit → Act → World → Prop} (hgd : o.guard = none) (s x : Operand) (t : TypeId) (ho : o.op = .call { callee := .builtin .append, args := #[s, x], argTypes := #[t, t] })
    (base : Nat) (eS e : TypeId) (i : TypeInfo) (ht : P.underlying t = some (.slice eS)) (hi : P.info? eS = some i) (hz : i.zero = some (.agg #[.slice none 0 0, .slice none 0 0])) (hsize : i.size = 2) (hby : i.bytes = 48) (hne : eS ≠ e)
    (v : Value) (sts : List StD) (hs : a.eval s = v) (hl : StO w0 w base eS e v sts) (gl : Nat) (u l : Value) (st : StD) (hx : a.eval x = .slice (some ⟨gl, 0, none⟩) 1 1) (hb : Blk w gl eS #[u, l]) (hu : Bts w0 w0.heap.size u st.1) (hls : LsO w0 w base e l st.2)
    (hfew : sts.length + 1 ≤ 1000000) (hbase : base ≤ w.heap.size)
    (h : ∀ v' w', Hid (StO w0 w' base eS e v' (sts ++ [st])) → Hid (Below base w w') → wpList P ops Q rest (a.put o.dst v') w') : wpList P ops Q (o :: rest) a w := by
  obtain ⟨vs, hown, h3⟩ := hl
  have hvl : vs.length = sts.length * 2 := hown.1
  obtain ⟨Al, cl, rfl, -⟩ := hls.shape
  have hnews : ∀ j u', [u, Value.slice Al st.2.length cl][j]? = some u' → w.cell? ((⟨gl, 0, none⟩ : Addr).add j) = some u' := by
    intro j u' hj
    match j, hj with
    | 0, hj =>
      simp at hj
      subst hj
      have := hb.cell 0
      simpa [Addr.add] using this
    | 1, hj =>
      simp at hj
      subst hj
      have := hb.cell 1
      simpa [Addr.add] using this
  have h1 : ∀ u' ∈ [u, Value.slice Al st.2.length cl], u'.oneCell' = true := by
    intro u' hm
    simp only [List.mem_cons, List.not_mem_nil, or_false] at hm
    rcases hm with rfl | rfl
    · exact bts_oneCell hu
    · rfl
  refine wpList_append_own w hgd s x t ho base eS i _ 2 48 ht hi hz hsize hby rfl (by omega) v _ vs hs hown ⟨gl, 0, none⟩ 1 1 [u, .slice Al st.2.length cl] hx rfl hnews h1 (by unfold maxLen; omega) (by omega) hbase ?_
  intro v' w' h4 h5 _
  have hbel : Below base w w' := (Below.refl base w).grown h5 hbase (fun k hk => (hown.lt k hk).1)
  refine h v' w' ⟨vs ++ [u, .slice Al st.2.length cl], by rw [List.length_append]; exact h4, fun j hj => ?_⟩ hbel
  rw [List.length_append] at hj
  simp only [List.length_cons, List.length_nil] at hj
  by_cases hjl : j < sts.length
  · obtain ⟨u', l', a1, a2, a3, a4⟩ := h3 j hjl
    refine ⟨u', l', by rw [List.getElem?_append_left (by omega)]; exact a1, by rw [List.getElem?_append_left (by omega)]; exact a2, ?_, ?_⟩
    · rw [List.getD_eq_getElem?_getD, List.getElem?_append_left hjl, ← List.getD_eq_getElem?_getD]; exact a3
    · rw [List.getD_eq_getElem?_getD, List.getElem?_append_left hjl, ← List.getD_eq_getElem?_getD]; exact a4.grown h5 hown hne
  · obtain rfl : j = sts.length := by omega
    refine ⟨u, .slice Al st.2.length cl, ?_, ?_, ?_, ?_⟩
    · rw [List.getElem?_append_right (by omega), hvl]; simp
    · rw [List.getElem?_append_right (by omega), hvl]; simp
    · rw [List.getD_eq_getElem?_getD, List.getElem?_append_right (Nat.le_refl _)]; simpa using hu
    · rw [List.getD_eq_getElem?_getD, List.getElem?_append_right (Nat.le_refl _)]; simpa using hls.grown h5 hown hne
/-- States as they are read. -/
theorem StO.read {w0 w : World} {base : Nat} {eS e : TypeId} {v : Value} {sts : List StD} (h : StO w0 w base eS e v sts) (hb : Below w0.heap.size w0 w) : StsR w v sts := by
  obtain ⟨A, c, hv, h1, h2⟩ := h.shape
  refine ⟨A, sts.length, c, hv, rfl, h1, h2, fun hn => ?_⟩
  obtain ⟨g, cap, u, l, hv', _⟩ := h.at_ (j := 0) hn
  rw [hv] at hv'
  injection hv' with e1 _ e3
  refine ⟨g, 0, e1, fun j hj => ?_⟩
  obtain ⟨g2, cap2, u2, l2, hv2, k1, k2, k3, k4⟩ := h.at_ (j := j) hj
  rw [hv] at hv2
  injection hv2 with e4 _ _
  rw [e1] at e4
  injection e4 with e4
  injection e4 with e4 _ _
  subst e4
  exact ⟨u2, l2, by rw [Nat.zero_add]; exact k1, by rw [Nat.zero_add]; exact k2, (k3.below hb).more hb.size, k4.pts hb⟩
end Go.Proofs.Ytfnegbcpiejdaaa

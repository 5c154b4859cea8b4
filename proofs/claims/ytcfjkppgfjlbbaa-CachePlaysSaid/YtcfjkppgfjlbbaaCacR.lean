/-
  Three lists beside a cache: an element put behind each, in whatever order; one taken out of each. Nothing of the program but its types' numbers is named here.
  Conditions: none beside those that each line bears.
-/
import Derived.Test.YtcfjkppgfjlbbaaCacQ
namespace Go.Proofs.Ytcfjkppgfjlbbaa
open Go.RowKit
set_option linter.unusedVariables false

theorem Try.infoKey15 : (Try.prog.info? 30).map (fun i => (i.zero, i.size, i.bytes)) = some (some (.agg (plV pl0)), 2, 16) := by kernel_rfl
theorem Try.infoInt15 : (Try.prog.info? 3).map (fun i => (i.zero, i.size, i.bytes)) = some (some (.int .i64 0), 1, 8) := by kernel_rfl
theorem Try.infoBool15 : (Try.prog.info? 4).map (fun i => (i.zero, i.size, i.bytes)) = some (some (.bool false), 1, 1) := by kernel_rfl
def Apt (u v : Value) : Prop := ∀ k, u.ownBlock = some k → v.ownBlock ≠ some k
theorem Apt.symm {u v : Value} (h : Apt u v) : Apt v u := fun k hk e => h k e hk
/-- The block of u' is that of u, or a new one. -/
def OnNew (W : World) (u' u : Value) : Prop := u'.ownBlock = u.ownBlock ∨ ∀ k, u'.ownBlock = some k → W.heap.size ≤ k
def Own3 (v6 v7 v8 : Value) (k : Nat) : Prop := v6.ownBlock = some k ∨ v7.ownBlock = some k ∨ v8.ownBlock = some k
/-- A row that was just appended to is apart from one of the others. -/
theorem Apt.new_ {W0 W : World} {v' v u z : Value} (hv' : OnNew W v' v) (hu : OnNew W0 u z) (hlt : ∀ k, u.ownBlock = some k → k < W.heap.size) (hvz : Apt v z) (hv : ∀ k, v.ownBlock = some k → k < W0.heap.size) : Apt v' u := by
  intro k hk e
  rcases hv' with hv' | hv'
  · rw [hv'] at hk
    rcases hu with hu | hu
    · rw [hu] at e
      exact hvz k hk e
    · have := hu k e
      have := hv k hk
      omega
  · have := hv' k hk
    have := hlt k e
    omega
section
variable {w W W' : World} {gC : Nat} {es ls : CS} {X : Nat → Prop} {v6 v7 v8 u6 u7 u8 : Value}
/-- The lists are others now; the cache has not been touched. -/
theorem St.rows (h : St w W gC es ls X v6 v7 v8) (T : Turns (Own3 v6 v7 v8) W W') {ls' : CS} (r6 : RowAt W' w.heap.size 2 u6 ls'.length (kL ls')) (r7 : RowAt W' w.heap.size 1 u7 ls'.length (fL ls')) (r8 : RowAt W' w.heap.size 1 u8 ls'.length (dL ls'))
    (o6 : OnNew W u6 v6) (o7 : OnNew W u7 v7) (o8 : OnNew W u8 v8) (n67 : Apt u6 u7) (n68 : Apt u6 u8) (n78 : Apt u7 u8) : St w W' gC es ls' (fun _ => False) u6 u7 u8 := by
  refine ⟨?_, r6, r7, r8, n67, n68, n78, fun k hk => hk.elim⟩
  obtain ⟨⟨K, h1, h2⟩, h3⟩ := h.t
  refine ⟨⟨K, h1.far (fun k hk => T.block k (h1.lt k hk) ?_), fun k hk => ⟨(h2 k hk).1, ?_⟩⟩, h3.trans (T.below ?_ h3.size)⟩
  · rintro (e | e | e)
    · exact (h2 k hk).2 (.inl e)
    · exact (h2 k hk).2 (.inr (.inl e))
    · exact (h2 k hk).2 (.inr (.inr (.inl e)))
  · have hlt := h1.lt k hk
    rintro (e | e | e | e)
    · rcases o6 with o | o
      · exact (h2 k hk).2 (.inl (o ▸ e))
      · have := o k e; omega
    · rcases o7 with o | o
      · exact (h2 k hk).2 (.inr (.inl (o ▸ e)))
      · have := o k e; omega
    · rcases o8 with o | o
      · exact (h2 k hk).2 (.inr (.inr (.inl (o ▸ e))))
      · have := o k e; omega
    · exact e
  · rintro k (e | e | e)
    · exact (h.r6.lt k e).1
    · exact (h.r7.lt k e).1
    · exact (h.r8.lt k e).1
end
theorem markC_no {es : CS} {k : Pl} {d : Bool} (h : hasC es k = false) : markC es k d = es := by
  unfold markC
  refine (List.map_congr_left (fun x hx => if_neg (fun e => ?_))).trans (List.map_id' _)
  rw [hasC_iff.2 ⟨x, hx, e⟩] at h
  cases h
theorem dropC_no {es : CS} {k : Pl} (h : hasC es k = false) : dropC es k = es := by
  unfold dropC
  refine List.filter_eq_self.2 fun x hx => ?_
  cases c : decide (x.k = k) with
  | false => rfl
  | true => rw [hasC_iff.2 ⟨x, hx, of_decide_eq_true c⟩] at h; cases h
theorem putC_no {es : CS} {k : Pl} {f : Int} (h : freeC es k f = false) : putC es k f = es := by unfold putC; rw [h]; rfl
theorem putC_yes {es : CS} {k : Pl} {f : Int} (h : freeC es k f = true) : putC es k f = es ++ [⟨k, f, false⟩] := by unfold putC; rw [h]; rfl
theorem WCs.snoc {es : CS} {k : Pl} {f : Int} {d : Bool} (h : WCs es) (wk : WPlc k) (wf : W64c f) : WCs (es ++ [⟨k, f, d⟩]) := by
  intro e he
  rcases List.mem_append.1 he with he | he
  · exact h e he
  · rw [List.mem_singleton.1 he]; exact ⟨wk, wf⟩
theorem WCs.set_ {es : CS} {i : Nat} {e : Ce} {d : Bool} (h : WCs es) (hi : es[i]? = some e) : WCs (es.set i ⟨e.k, e.f, d⟩) := by
  intro x hx
  rcases List.mem_or_eq_of_mem_set hx with hx | rfl
  · exact h x hx
  · exact h e (List.mem_of_getElem? hi)
theorem WCs.out_ {es : CS} {i j : Nat} (h : WCs es) : WCs (es.take i ++ es.drop j) := by
  intro x hx
  rcases List.mem_append.1 hx with hx | hx
  · exact h x (List.mem_of_mem_take hx)
  · exact h x (List.mem_of_mem_drop hx)
theorem kL_append (l m : CS) : kL (l ++ m) = kL l ++ kL m := by unfold kL; rw [List.map_append, flatP_append]
theorem fL_append (l m : CS) : fL (l ++ m) = fL l ++ fL m := List.map_append
theorem dL_append (l m : CS) : dL (l ++ m) = dL l ++ dL m := List.map_append
theorem flatP_take_drop (l : List Pl) : ∀ i, (flatP l).take (i * 2) = flatP (l.take i) ∧ (flatP l).drop (i * 2) = flatP (l.drop i) := by
  induction l with
  | nil => intro i; simp [flatP]
  | cons p l ih =>
    intro i
    cases i with
    | zero => simp [flatP]
    | succ i =>
      obtain ⟨h1, h2⟩ := ih i
      rw [show (i + 1) * 2 = i * 2 + 1 + 1 by omega]
      exact ⟨by rw [List.take_succ_cons]; show (_ :: _ :: flatP l).take _ = _; rw [List.take_succ_cons, List.take_succ_cons, h1]; rfl, by rw [List.drop_succ_cons]; show (_ :: _ :: flatP l).drop _ = _; rw [List.drop_succ_cons, List.drop_succ_cons, h2]⟩
theorem kL_take (l : CS) (i : Nat) : (kL l).take (i * 2) = kL (l.take i) := by unfold kL; rw [(flatP_take_drop _ _).1, List.map_take]
theorem kL_drop (l : CS) (i : Nat) : (kL l).drop (i * 2) = kL (l.drop i) := by unfold kL; rw [(flatP_take_drop _ _).2, List.map_drop]
theorem kL_mark {es : CS} {i : Nat} {e : Ce} (h : es[i]? = some e) (d : Bool) : kL (es.set i ⟨e.k, e.f, d⟩) = kL es := by
  unfold kL
  rw [List.map_set]
  congr 1
  obtain ⟨hl, he⟩ := List.getElem?_eq_some_iff.1 h
  apply List.ext_getElem (by simp)
  intro j h1 h2
  rw [List.getElem_set]
  split
  · rename_i e1
    subst e1
    simp [he]
  · rfl
theorem fL_mark {es : CS} {i : Nat} {e : Ce} (h : es[i]? = some e) (d : Bool) : fL (es.set i ⟨e.k, e.f, d⟩) = fL es := by
  unfold fL
  rw [List.map_set]
  obtain ⟨hl, he⟩ := List.getElem?_eq_some_iff.1 h
  apply List.ext_getElem (by simp)
  intro j h1 h2
  rw [List.getElem_set]
  split
  · rename_i e1
    subst e1
    simp [he]
  · rfl
theorem dL_mark (es : CS) (i : Nat) (e : Ce) : dL (es.set i e) = (dL es).set i (.bool e.d) := by
  unfold dL
  rw [List.map_set]
theorem St.store {w W : World} {gC : Nat} {es' es : CS} {X : Nat → Prop} {v6 v7 : Value} {g o n c i : Nat} {e : Ce} (h : St w W gC es' es X v6 v7 (.slice (some ⟨g, o, none⟩) n c)) (hi : es[i]? = some e) (d : Bool) :
    St w (W.setCell ⟨g, o + i, none⟩ (.bool d)) gC es' (es.set i ⟨e.k, e.f, d⟩) (fun _ => False) v6 v7 (.slice (some ⟨g, o, none⟩) n c) := by
  have hl := (List.getElem?_eq_some_iff.1 hi).1
  obtain ⟨A, c', hA, hc'⟩ := h.r8.len
  injection hA with q1 q2 q3
  have hO : Only g W (W.setCell ⟨g, o + i, none⟩ (.bool d)) := (Only.refl g W).setCell _ _
  have hr := h.r8
  rw [← q2] at hr
  refine h.rows (Turns.of_only hO (.inr (.inr rfl))) ?_ ?_ ?_ (.inl rfl) (.inl rfl) (.inl rfl) h.n67 h.n68 h.n78
  · rw [kL_mark hi, List.length_set]
    exact h.r6.grown hO.1 (fun k hk e => h.n68 k hk (by injection e with e; rw [e]; rfl))
  · rw [fL_mark hi, List.length_set]
    exact h.r7.grown hO.1 (fun k hk e => h.n78 k hk (by injection e with e; rw [e]; rfl))
  · rw [dL_mark, List.length_set, ← q2]
    exact hr.store_ (by omega) _ rfl
theorem St.rows_ {w W W1 W2 W3 : World} {gC : Nat} {es' es : CS} {X : Nat → Prop} {v6 v7 v8 y6 y7 y8 : Value} {i k1 r : Nat} (h : St w W gC es' es X v6 v7 v8) (hk : k1 = i + 1) (b6 : Below W.heap.size W W1) (b7 : Below W1.heap.size W1 W2) (b8 : Below W2.heap.size W2 W3)
    (r6 : RowAt W1 W.heap.size 2 y6 (i + r) ((kL es).take (i * 2) ++ (kL es).drop (k1 * 2))) (r7 : RowAt W2 W1.heap.size 1 y7 (i + r) ((fL es).take (i * 1) ++ (fL es).drop (k1 * 1))) (r8 : RowAt W3 W2.heap.size 1 y8 (i + r) ((dL es).take (i * 1) ++ (dL es).drop (k1 * 1))) (hl : (es.take i ++ es.drop k1).length = i + r) :
    St w W3 gC es' (es.take i ++ es.drop k1) (fun _ => False) y6 y7 y8 := by
  have s6 := b6.size
  have s7 := b7.size
  have s8 := b8.size
  have b78 : Below W1.heap.size W1 W3 := b7.trans (b8.mono s7)
  have b68 : Below W.heap.size W W3 := b6.trans (b78.mono s6)
  have hw := h.t.bel.size
  rw [Nat.mul_one, Nat.mul_one] at r7 r8
  refine h.rows (Turns.of_below b68 (Nat.le_refl _)) ?_ ?_ ?_ (.inr fun k hk => (r6.lt k hk).1) (.inr fun k hk => Nat.le_trans s6 (r7.lt k hk).1) (.inr fun k hk => Nat.le_trans (Nat.le_trans s6 s7) (r8.lt k hk).1) ?_ ?_ ?_
  · rw [hl, kL_append, ← kL_take, ← kL_drop]
    exact (r6.fresh b78).mono hw
  · rw [hl, fL_append]
    have h2 := (r7.fresh b8).mono (Nat.le_trans hw s6)
    unfold fL at h2 ⊢
    rwa [← List.map_take, ← List.map_drop] at h2
  · rw [hl, dL_append]
    have h2 := r8.mono (Nat.le_trans hw (Nat.le_trans s6 s7))
    unfold dL at h2 ⊢
    rwa [← List.map_take, ← List.map_drop] at h2
  · intro k hk e
    have := (r6.lt k hk).2
    have := (r7.lt k e).1
    omega
  · intro k hk e
    have := (r6.lt k hk).2
    have := (r8.lt k e).1
    omega
  · intro k hk e
    have := (r7.lt k hk).2
    have := (r8.lt k e).1
    omega
theorem Rd.zero_ (w : World) (A : Option Addr) (c size : Nat) : Rd w size (.slice A 0 c) 0 [] := ⟨A, c, rfl, by simp, fun u h => absurd h List.not_mem_nil, fun h => absurd h (Nat.lt_irrefl _)⟩
/-- One element out of a row: 'append(append([]T{}, l[:k]...), l[k+1:]...)'. -/
theorem erase_run {P : Program} {W : World} (t ty ty' e : TypeId) (i : TypeInfo) (z : Value) (size bytes : Nat) (ht : P.underlying t = some (.slice e)) (hi : P.info? e = some i) (hz : i.zero = some z)
    (hsize : i.size = size) (hby : i.bytes = bytes) (hzs : z.cells.size = size) (hsz : 0 < size) (k r : Nat) (nv nu : Value) (xs ys : List Value) (h1 : ∀ W', Below W.heap.size W W' → Rd W' size nv k xs) (h2 : ∀ W', Below W.heap.size W W' → Rd W' size nu r ys) (h63 : k + r + 1 ≤ maxLen) (hbytes : (k + r + 1) * bytes ≤ 140737488355328) :
    ∃ v2 w2 v9 w9, (Builtin.append_ #[t, t] ty #[.slice (some ⟨W.heap.size, 0, none⟩) 0 0, nv]).run P (W.alloc (.cells #[] e)).drew = .ok v2 w2 ∧ (Builtin.append_ #[t, t] ty' #[v2, nu]).run P w2 = .ok v9 w9 ∧
      Below W.heap.size W w2 ∧ Below W.heap.size W w9 ∧ RowAt w9 W.heap.size size v9 (k + r) (xs ++ ys) := by
  have BR := Below.refl W.heap.size W
  have o1 : (W.alloc (.cells #[] e)).drew.ownsRow W.heap.size e size (.slice (some ⟨W.heap.size, 0, none⟩) 0 0) 0 [] := World.ownsRow_lit W #[] 0 (Nat.le_refl _) (by simp [maxLen]) (by simp)
  have hk1 : (k + 1) * bytes ≤ 140737488355328 := Nat.le_trans (Nat.mul_le_mul_right _ (by omega)) hbytes
  obtain ⟨v2, w2, r2, b2, o2, g2⟩ := app_first (P := P) (wr := W) t ty e i z size bytes ht hi hz hsize hby hzs hsz k xs (by omega) hk1 nv h1 (BR.alloc (Nat.le_refl _) _).drew o1
  have hk2 : (k + r) * bytes ≤ 140737488355328 := Nat.le_trans (Nat.mul_le_mul_right _ (by omega)) hbytes
  obtain ⟨v9, w9, r9, l9, g9⟩ := run_app (P := P) W.heap.size t ty' e i z size bytes ht hi hz hsize hby hzs hsz _ _ _ o2 _ _ _ (h2 _ b2) (by omega) hk2 b2.size
  have hone : ∀ u ∈ xs ++ ys, u.oneCell' = true := fun u hu => by
    rcases List.mem_append.1 hu with hu | hu
    · obtain ⟨_, _, _, _, ho, _⟩ := h1 W BR; exact ho u hu
    · obtain ⟨_, _, _, _, ho, _⟩ := h2 W BR; exact ho u hu
  exact ⟨v2, w2, v9, w9, r2, r9, b2, b2.trans (own_below o2 g9 b2.size), RowAt.of_own l9 hone⟩
/-! ### Region 24: three literals and three appends, in whatever order -/
theorem put_size (a : Act) (d : Option Tmp) (v : Value) : (a.put d v).tmps.size = a.tmps.size := by
  cases d <;> simp [Act.put]
def bn (b : Bool) : Nat := if b then 0 else 1
def Tri (a0 : Act) (u3 u4 u8 u9 ub uc : Value) : Act := (((((a0.put (some 87) u3).put (some 88) u4).put (some 92) u8).put (some 93) u9).put (some 95) ub).put (some 96) uc
section
variable (a0 : Act) (u3 u4 u8 u9 ub uc v : Value)
theorem tri_own : Tri a0 (a0.tmps.getD 87 undef) (a0.tmps.getD 88 undef) (a0.tmps.getD 92 undef) (a0.tmps.getD 93 undef) (a0.tmps.getD 95 undef) (a0.tmps.getD 96 undef) = a0 := by
  unfold Tri
  simp only [put_own]
theorem tri_87 : (Tri a0 u3 u4 u8 u9 ub uc).put (some 87) v = Tri a0 v u4 u8 u9 ub uc := by
  unfold Tri
  rw [put_swap _ (by decide : 96 ≠ 87), put_swap _ (by decide : 95 ≠ 87), put_swap _ (by decide : 93 ≠ 87), put_swap _ (by decide : 92 ≠ 87), put_swap _ (by decide : 88 ≠ 87), put_put]
theorem tri_88 : (Tri a0 u3 u4 u8 u9 ub uc).put (some 88) v = Tri a0 u3 v u8 u9 ub uc := by
  unfold Tri
  rw [put_swap _ (by decide : 96 ≠ 88), put_swap _ (by decide : 95 ≠ 88), put_swap _ (by decide : 93 ≠ 88), put_swap _ (by decide : 92 ≠ 88), put_put]
theorem tri_92 : (Tri a0 u3 u4 u8 u9 ub uc).put (some 92) v = Tri a0 u3 u4 v u9 ub uc := by
  unfold Tri
  rw [put_swap _ (by decide : 96 ≠ 92), put_swap _ (by decide : 95 ≠ 92), put_swap _ (by decide : 93 ≠ 92), put_put]
theorem tri_93 : (Tri a0 u3 u4 u8 u9 ub uc).put (some 93) v = Tri a0 u3 u4 u8 v ub uc := by
  unfold Tri
  rw [put_swap _ (by decide : 96 ≠ 93), put_swap _ (by decide : 95 ≠ 93), put_put]
theorem tri_95 : (Tri a0 u3 u4 u8 u9 ub uc).put (some 95) v = Tri a0 u3 u4 u8 u9 v uc := by
  unfold Tri
  rw [put_swap _ (by decide : 96 ≠ 95), put_put]
theorem tri_96 : (Tri a0 u3 u4 u8 u9 ub uc).put (some 96) v = Tri a0 u3 u4 u8 u9 ub v := by
  unfold Tri
  rw [put_put]
theorem tri_eval {t : Tmp} (h : t ≠ 87 ∧ t ≠ 88 ∧ t ≠ 92 ∧ t ≠ 93 ∧ t ≠ 95 ∧ t ≠ 96) : (Tri a0 u3 u4 u8 u9 ub uc).eval (.tmp t) = a0.eval (.tmp t) := by
  unfold Tri
  obtain ⟨h1, h2, h3, h4, h5, h6⟩ := h
  rw [eval_put _ h6.symm, eval_put _ h5.symm, eval_put _ h4.symm, eval_put _ h3.symm, eval_put _ h2.symm, eval_put _ h1.symm]
variable (hs : 96 < a0.tmps.size)
include hs
theorem tri_eval_87 : (Tri a0 u3 u4 u8 u9 ub uc).eval (.tmp 87) = u3 := by
  unfold Tri
  rw [eval_put _ (by decide), eval_put _ (by decide), eval_put _ (by decide), eval_put _ (by decide), eval_put _ (by decide), eval_put_self]
  exact Nat.lt_trans (by decide) hs
theorem tri_eval_92 : (Tri a0 u3 u4 u8 u9 ub uc).eval (.tmp 92) = u8 := by
  unfold Tri
  rw [eval_put _ (by decide), eval_put _ (by decide), eval_put _ (by decide), eval_put_self]
  simp only [put_size]
  exact Nat.lt_trans (by decide) hs
theorem tri_eval_95 : (Tri a0 u3 u4 u8 u9 ub uc).eval (.tmp 95) = ub := by
  unfold Tri
  rw [eval_put _ (by decide), eval_put_self]
  simp only [put_size]
  exact Nat.lt_trans (by decide) hs
end
/-- What has been done of the six. -/
def I24 (a0 : Act) (W0 : World) (base n0 : Nat) (v6 v7 v8 : Value) (x6 x7 x8 y6 y7 y8 : List Value) (n : Nat) (listed : Array Bool) (a : Act) (W : World) : Prop :=
  ∃ b3 b4 b8 b9 bb bc u3 u4 u8 u9 ub uc, listed = #[true, true, true, b3, b4, true, true, true, b8, b9, true, bb, bc, false, false, false] ∧ a = Tri a0 u3 u4 u8 u9 ub uc ∧ n = bn b3 + bn b4 + bn b8 + bn b9 + bn bb + bn bc ∧
    Chain W0 base 30 2 v6 n0 x6 y6 b3 b4 u3 u4 W ∧ Chain W0 base 3 1 v7 n0 x7 y7 b8 b9 u8 u9 W ∧ Chain W0 base 4 1 v8 n0 x8 y8 bb bc ub uc W ∧
    Turns (Own3 v6 v7 v8) W0 W ∧ (b4 = true → b9 = true → Apt u4 u9) ∧ (b4 = true → bc = true → Apt u4 uc) ∧ (b9 = true → bc = true → Apt u9 uc) ∧ (b9 = true → b4 = true) ∧ (bc = true → b9 = true)
/-- A row's own two things: nothing yet, the literal, both. -/
theorem Chain.shape {W0 W : World} {base size n : Nat} {e : TypeId} {v ul ua : Value} {xs us : List Value} {bl ba : Bool} (h : Chain W0 base e size v n xs us bl ba ul ua W) : (bl = false ∧ ba = false) ∨ (bl = true ∧ ba = false) ∨ (bl = true ∧ ba = true) := by
  cases ba with
  | true => exact .inr (.inr ⟨(h.app rfl).1, rfl⟩)
  | false => cases bl with
    | true => exact .inr (.inl ⟨rfl, rfl⟩)
    | false => exact .inl ⟨rfl, rfl⟩
theorem bn_zero {b3 b4 b8 b9 bb bc : Bool} (h : 0 = bn b3 + bn b4 + bn b8 + bn b9 + bn bb + bn bc) : b3 = true ∧ b4 = true ∧ b8 = true ∧ b9 = true ∧ bb = true ∧ bc = true := by
  cases b3 <;> cases b4 <;> cases b8 <;> cases b9 <;> cases bb <;> cases bc <;> first | exact ⟨rfl, rfl, rfl, rfl, rfl, rfl⟩ | (simp [bn] at h)
theorem St.put_rows {w W0 W : World} {gC n : Nat} {es' es : CS} {X : Nat → Prop} {v6 v7 v8 u4 u9 uc u3 u8 ub : Value} {x : Ce} (h : St w W0 gC es' es X v6 v7 v8) (hn : n = es.length) (T : Turns (Own3 v6 v7 v8) W0 W)
    (C6 : Chain W0 w.heap.size 30 2 v6 n (kL es) [.int .i64 x.k.c, .int .i64 x.k.g] true true u3 u4 W) (C7 : Chain W0 w.heap.size 3 1 v7 n (fL es) [.int .i64 x.f] true true u8 u9 W) (C8 : Chain W0 w.heap.size 4 1 v8 n (dL es) [.bool x.d] true true ub uc W)
    (n67 : Apt u4 u9) (n68 : Apt u4 uc) (n78 : Apt u9 uc) : St w W gC es' (es ++ [x]) (fun _ => False) u4 u9 uc := by
  subst hn
  obtain ⟨_, r6, o6⟩ := C6.app rfl
  obtain ⟨_, r7, o7⟩ := C7.app rfl
  obtain ⟨_, r8, o8⟩ := C8.app rfl
  have hl : (es ++ [x]).length = es.length + 1 := by rw [List.length_append]; rfl
  refine h.rows T ?_ ?_ ?_ o6 o7 o8 n67 n68 n78
  · rw [hl, kL_append]; exact r6
  · rw [hl, fL_append]; exact r7
  · rw [hl, dL_append]; exact r8
theorem ready_step {md : Region.Mode} {ops : Array Oper} {listed : Array Bool} {rs : List Nat} {Pr : Nat → Prop} (hr : Region.ready md ops listed = rs) (hne : rs ≠ []) (h : ∀ i ∈ rs, Pr i) : Region.ready md ops listed ≠ [] ∧ ∀ i ∈ Region.ready md ops listed, Pr i := by
  subst hr; exact ⟨hne, h⟩
theorem all_cons {i : Nat} {rs : List Nat} {Pr : Nat → Prop} (h : Pr i) (hs : ∀ j ∈ rs, Pr j) : ∀ j ∈ i :: rs, Pr j := fun j hj => by
  rcases List.mem_cons.1 hj with rfl | hj
  · exact h
  · exact hs j hj
theorem all_nil {Pr : Nat → Prop} : ∀ j ∈ ([] : List Nat), Pr j := fun j hj => by cases hj
end Go.Proofs.Ytcfjkppgfjlbbaa

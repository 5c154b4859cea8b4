/-
  Add of the back map over the landed code.
  Conditions: the frames that somebody has are few, and the frame's places too.
-/
import Derived.Test.YtgbkpcmgfjdhdaaBkA
import Derived.StillTailTactics
import Derived.Carry
namespace Go.Proofs.Ytgbkpcmgfjdhdaa
open Go.RowKit
set_option linter.unusedVariables false

theorem eqOut_some (m : Nat) (w : World) : (binOp .eql 45 (.map (some m)) (.map none)).run Try.prog w = .ok (.bool false) w := by kernel_rfl
theorem eqOut_none (w : World) : (binOp .eql 45 (.map none) (.map none)).run Try.prog w = .ok (.bool true) w := by kernel_rfl
theorem eqIn_some (m : Nat) (w : World) : (binOp .eql 49 (.map (some m)) (.map none)).run Try.prog w = .ok (.bool false) w := by kernel_rfl
theorem eqIn_none (w : World) : (binOp .eql 49 (.map none) (.map none)).run Try.prog w = .ok (.bool true) w := by kernel_rfl
/-- The set that a frame has, just ahead of its last store. -/
structure AddAt (w : World) (K : Nat → Prop) (gB m k : Nat) (b : BS) (f : Int) (bk : Int → Nat) (W : World) : Prop where
  blk : Blk W gB 47 #[.map (some m)]
  out : ∃ n, MapK EI W m n (updK (outL b bk) f (some (.map (some k))))
  inn : MapK EP W k (b f).length (setL (b f))
  oth : ∀ g, g ≠ f → b g ≠ [] → K (bk g) ∧ bk g ≠ m ∧ bk g ≠ k ∧ ∃ n, MapK EP W (bk g) n (setL (b g))
  inj : ∀ f' g, f' ≠ f → g ≠ f → b f' ≠ [] → b g ≠ [] → bk f' = bk g → f' = g
  km : k ≠ m
  trn : Turns K w W
  kM : K m ∨ w.heap.size ≤ m
  kK : K k ∨ w.heap.size ≤ k
section
variable {w W W' : World} {gB m k : Nat} {K : Nat → Prop} {b : BS} {f : Int} {bk : Int → Nat}
theorem AddAt.drew (h : AddAt w K gB m k b f bk W) : AddAt w K gB m k b f bk W.drew := by
  obtain ⟨n, h1⟩ := h.out
  exact ⟨h.blk, ⟨n, h1.far rfl⟩, h.inn.far rfl, fun g hg hb => by obtain ⟨a1, a2, a3, n', a4⟩ := h.oth g hg hb; exact ⟨a1, a2, a3, n', a4.far rfl⟩, h.inj, h.km, h.trn.drew, h.kM, h.kK⟩
theorem AddAt.done (h : AddAt w K gB m k b f bk W) (hB : K gB) (hs : ∀ f, SrtP (b f)) (hle : ∀ f, (b f).length ≤ 200000) (hl : (b f).length ≤ 100000) (hlt : ∀ k, K k → k < w.heap.size) {p : Pl} {n : Nat} (hm : MapK EP W' k n (updK (setL (b f)) p (some (.agg #[])))) (ho : Only k W W') :
    BackPost w gB K (.tuple #[]) (updB b f (putP (b f) p)) (.returned (.tuple #[])) W' := by
  have hk1 : ∀ j, j < W.heap.size → j ≠ k → W'.heap[j]? = W.heap[j]? := fun j hj hne => ho.1.block j hj (fun e => hne (by injection e with e))
  have hsz := h.trn.size
  obtain ⟨n1, hM⟩ := h.out
  have hmk := hM.blk
  have hkk := h.inn.blk
  have hgk : gB ≠ k := fun e => h.blk.noMap h.inn.isMap e.symm
  refine ⟨fun j => K j ∨ j = m ∨ j = k, rfl, ⟨fun j hj => ?_, fun g => ?_, fun g => ?_, .inl hB, some m, ?_, fun g => if g = f then k else bk g, ?_⟩, fun j hj => ?_, ?_⟩
  · rw [ho.2]
    rcases hj with hj | rfl | rfl
    · exact Nat.lt_of_lt_of_le (hlt j hj) hsz
    · exact hmk
    · exact hkk
  · unfold updB
    split
    · exact srt_putP (hs f)
    · exact hs g
  · unfold updB
    split
    · exact Nat.le_trans (putP_length _ _) (by omega)
    · exact hle g
  · unfold Blk
    rw [hk1 gB h.blk.lt hgk]
    exact h.blk
  · refine ⟨Or.inr (Or.inl (Eq.refl m)), ⟨n1, (hM.far (hk1 m hmk (fun e => h.km e.symm))).congr fun g => ?_⟩, fun g hg => ?_, fun g g' hg hg' e => ?_⟩
    · unfold updK outL updB
      by_cases c : g = f
      · simp only [if_pos c]
        rw [if_neg (putP_ne _ _)]
      · simp only [if_neg c]
    · unfold updB at hg ⊢
      by_cases c : g = f
      · simp only [if_pos c] at hg ⊢
        refine ⟨.inr (.inr trivial), h.km, n, hm.congr fun q => ?_⟩
        unfold updK setL
        by_cases cq : q = p
        · rw [if_pos cq, if_pos (mem_putP.2 (.inl cq))]
        · rw [if_neg cq]
          by_cases cm : q ∈ b f
          · rw [if_pos cm, if_pos (mem_putP.2 (.inr cm))]
          · rw [if_neg cm, if_neg (fun hq => (mem_putP.1 hq).elim cq cm)]
      · simp only [if_neg c] at hg ⊢
        obtain ⟨h1, h2, h3, n', h4⟩ := h.oth g c hg
        exact ⟨.inl h1, h2, n', h4.far (hk1 _ h4.blk h3)⟩
    · unfold updB at hg hg'
      by_cases c : g = f
      · by_cases c' : g' = f
        · rw [c, c']
        · simp only [if_pos c, if_neg c'] at e hg'
          exact absurd e.symm (h.oth g' c' hg').2.2.1
      · by_cases c' : g' = f
        · simp only [if_neg c, if_pos c'] at e hg
          exact absurd e (h.oth g c hg).2.2.1
        · simp only [if_neg c, if_neg c'] at e hg hg'
          exact h.inj g g' c c' hg hg' e
  · rcases hj with hj | rfl | rfl
    · exact .inl hj
    · exact h.kM
    · exact h.kK
  · rcases h.kK with hk | hk
    · exact h.trn.trans (Turns.of_only ho hk)
    · exact h.trn.new_ ho hk
end
set_option maxRecDepth 20000 in
set_option maxHeartbeats 1000000 in
/-- The frame has a set already. -/
theorem add_has (gB m : Nat) (K : Nat → Prop) (b : BS) (bk : Int → Nat) (f : Int) (p : Pl) (w : World) (hB : Blk w gB 47 #[.map (some m)]) (hI : InMap w K b m bk) (hs : ∀ f, SrtP (b f)) (hle : ∀ f, (b f).length ≤ 200000) (hlt : ∀ k, K k → k < w.heap.size) (kB : K gB) (wf : W64 f) (wp : WPl p) (hf : b f ≠ []) (hl : (b f).length ≤ 100000) :
    Calls Try.prog 9 #[.pointer (some ⟨gB, 0, none⟩), .int .i64 f, .agg #[.int .i64 p.c, .int .i64 p.g]] w (BackPost w gB K (.tuple #[]) (updB b f (putP (b f) p))) := by
  obtain ⟨W, hW⟩ : ∃ W, w.alloc (.cells #[.int .i64 p.c, .int .i64 p.g] 29) = W := ⟨_, rfl⟩
  have hbel : Below w.heap.size w W := by rw [← hW]; exact belAl (Below.refl _ w) _
  have hTr : Turns K w W := Turns.of_below hbel (Nat.le_refl _)
  have hkp : Blk W w.heap.size 29 #[.int .i64 p.c, .int .i64 p.g] := by rw [← hW]; exact Blk.new _ _ _
  have hI' : InMap W K b m bk := hI.far fun k hk => hbel.block k (hlt k hk)
  have hB' : Blk W gB 47 #[.map (some m)] := hB.below hbel hB.lt
  obtain ⟨n, hM⟩ := hI'.out
  have hin := hI'.tightI hs hf
  have hg : ∀ W', MapK EI W' m n (outL b bk) → (Instr.lookup 45 (.map (some m)) (.int .i64 f) false).run Try.prog W' = .ok (.map (some (bk f))) W' := fun W' h' => by
    have := h'.run_get Try.underlying45 (z := .map none) (by rfl) f wf
    rw [show outL b bk f = some (.map (some (bk f))) from if_neg hf] at this
    exact this
  have l1 := hg W hM
  have l2 := hg W.drew (hM.far rfl)
  have HAT := Lib.hid (show AddAt w K gB m (bk f) b f bk W from ⟨hB', ⟨n, hM.congr fun g => by
      unfold updK
      split
      · rename_i c
        rw [c]
        exact if_neg hf
      · rfl⟩, hin, fun g hg hb => ⟨(hI'.inn g hb).1, (hI'.inn g hb).2.1, fun e => hg (hI'.inj g f hb hf e), (hI'.inn g hb).2.2⟩, fun f' g _ _ h1 h2 e => hI'.inj f' g h1 h2 e, (hI'.inn f hf).2.1, hTr, .inl hI'.kM, .inl (hI'.inn f hf).1⟩)
  have c1 : W.cell? ⟨gB, 0, none⟩ = some (.map (some m)) := hB'.cell 0
  have k1 : W.cell? ⟨w.heap.size, 0, none⟩ = some (.int .i64 p.c) := hkp.cell 0
  have k2 : W.cell? ⟨w.heap.size, 1, none⟩ = some (.int .i64 p.g) := hkp.cell 1
  obtain ⟨W2, hW2⟩ : ∃ W2, W2 = W.drew := ⟨_, rfl⟩
  have hin2 : MapK EP W2 (bk f) (b f).length (setL (b f)) := by rw [hW2]; exact hin
  obtain ⟨W3, hst0, hm3, ho3⟩ := hin2.run_store Try.underlying49 (by omega) p wp (.agg #[])
  have hst : (Instr.mapUpdate 49 (.map (some (bk f))) (.agg #[.int .i64 p.c, .int .i64 p.g]) (.agg #[])).run Try.prog W2 = .ok () W3 := hst0
  clear hst0
  have HM3 := Lib.hid hm3
  have HO3 := Lib.hid ho3
  have HW2 := Lib.hid hW2
  clear hW2
  have HX := Lib.hid (And.intro hs (And.intro hlt kB))
  have HL := Lib.hid (And.intro hle hl)
  clear hB hI hs hle hlt kB wf hf hl hbel hTr hkp hI' hB' hM hin hg hin2 hm3 ho3
  have q1 := eqOut_some m
  have q2 := eqIn_some (bk f)
  go_enter Try.func9, Try.ntmps9
  go_wp2_with fail
  go_still_tail 8, (by kernel_rfl)
  change wpList _ _ _ _ _ W.drew
  rw [← HW2.out]
  have HAT2 := Lib.hid (show AddAt w K gB m (bk f) b f bk W2 from by rw [HW2.out]; exact HAT.out.drew)
  go_wp2_with fail
  go_end0
  exact HAT2.out.done HX.out.2.2 HX.out.1 HL.out.1 HL.out.2 HX.out.2.1 HM3.out HO3.out
set_option maxRecDepth 20000 in
set_option maxHeartbeats 1000000 in
/-- The frame has no set. -/
theorem add_new (gB m : Nat) (K : Nat → Prop) (b : BS) (bk : Int → Nat) (f : Int) (p : Pl) (w : World) (hB : Blk w gB 47 #[.map (some m)]) (hI : InMap w K b m bk) (hs : ∀ f, SrtP (b f)) (hle : ∀ f, (b f).length ≤ 200000) (hlt : ∀ k, K k → k < w.heap.size) (kB : K gB) (wf : W64 f) (wp : WPl p) (hf : b f = []) (hF : FewF b) :
    Calls Try.prog 9 #[.pointer (some ⟨gB, 0, none⟩), .int .i64 f, .agg #[.int .i64 p.c, .int .i64 p.g]] w (BackPost w gB K (.tuple #[]) (updB b f (putP (b f) p))) := by
  obtain ⟨W, hW⟩ : ∃ W, w.alloc (.cells #[.int .i64 p.c, .int .i64 p.g] 29) = W := ⟨_, rfl⟩
  have hbel : Below w.heap.size w W := by rw [← hW]; exact belAl (Below.refl _ w) _
  have hTr : Turns K w W := Turns.of_below hbel (Nat.le_refl _)
  have hkp : Blk W w.heap.size 29 #[.int .i64 p.c, .int .i64 p.g] := by rw [← hW]; exact Blk.new _ _ _
  have hI' : InMap W K b m bk := hI.far fun k hk => hbel.block k (hlt k hk)
  have hB' : Blk W gB 47 #[.map (some m)] := hB.below hbel hB.lt
  obtain ⟨n, hn, hM⟩ := hI'.tightM hF
  have kM : K m ∨ w.heap.size ≤ m := .inl hI'.kM
  have hO := hI'.inn
  have hJ := hI'.inj
  have hnf : outL b bk f = none := if_pos hf
  have l1 : (Instr.lookup 45 (.map (some m)) (.int .i64 f) false).run Try.prog W = .ok (.map none) W := by
    have := hM.run_get Try.underlying45 (z := .map none) (by rfl) f wf
    rw [hnf] at this
    exact this
  obtain ⟨W1, hW1⟩ : ∃ W1, W.alloc (.map #[] 0) = W1 := ⟨_, rfl⟩
  have hb1 : Below W.heap.size W W1 := by rw [← hW1]; exact belAl (Below.refl _ W) _
  have hmlt := hM.blk
  have hkm : W.heap.size ≠ m := by omega
  obtain ⟨W2, hst2a, hm2, ho2⟩ := (hM.far (hb1.block m hmlt)).run_store Try.underlying45 (by omega) f wf (.map (some W.heap.size))
  have hst2 : (Instr.mapUpdate 45 (.map (some m)) (.int .i64 f) (.map (some W.heap.size))).run Try.prog W1 = .ok () W2 := hst2a
  have hs1 : W.heap.size < W1.heap.size := by rw [← hW1]; simp
  have hk2 : ∀ j, j < W1.heap.size → j ≠ m → W2.heap[j]? = W1.heap[j]? := fun j hj hne => ho2.1.block j hj (fun e => hne (by injection e with e))
  have hin : MapK EP W2 W.heap.size (b f).length (setL (b f)) := by
    have h0 : MapK EP W1 W.heap.size (b f).length (setL (b f)) := by
      rw [← hW1]
      refine (MapK.made W EP _).congr fun q => ?_
      unfold setL
      rw [hf, if_neg List.not_mem_nil]
    exact h0.far (hk2 _ hs1 hkm)
  have hk1 : ∀ j, j < W.heap.size → j ≠ m → W2.heap[j]? = W.heap[j]? := fun j hj hne => (hk2 j (by omega) hne).trans (hb1.block j hj)
  have hgm : gB ≠ m := fun e => hB'.noMap hM.isMap e.symm
  have hTr2 : Turns K w W2 := by
    have h1 : Turns K w W1 := hTr.trans (Turns.of_below hb1 (Nat.le_refl _))
    rcases kM with h | h
    · exact h1.trans (Turns.of_only ho2 h)
    · exact h1.new_ ho2 h
  have HAT := Lib.hid (show AddAt w K gB m W.heap.size b f bk W2 from ⟨by unfold Blk; rw [hk1 gB hB'.lt hgm]; exact hB', ⟨_, hm2⟩, hin, fun g hg hb => by
      obtain ⟨a1, a2, n', a3⟩ := hO g hb
      have a4 := a3.blk
      exact ⟨a1, a2, fun e => by omega, n', a3.far (hk1 _ a4 a2)⟩, fun f' g _ _ h1 h2 e => hJ f' g h1 h2 e, hkm, hTr2, kM, .inr hTr.size⟩)
  have hg2 : (Instr.lookup 45 (.map (some m)) (.int .i64 f) false).run Try.prog W2.drew = .ok (.map (some W.heap.size)) W2.drew := by
    have := (show MapK EI W2.drew m _ _ from hm2.far rfl).run_get Try.underlying45 (z := .map none) (by rfl) f wf
    rw [show updK (outL b bk) f (some (.map (some W.heap.size))) f = some (.map (some W.heap.size)) from if_pos rfl] at this
    exact this
  have c2 : W2.cell? ⟨gB, 0, none⟩ = some (.map (some m)) := HAT.out.blk.cell 0
  have c1 : W.cell? ⟨gB, 0, none⟩ = some (.map (some m)) := hB'.cell 0
  have c3 : W1.cell? ⟨gB, 0, none⟩ = some (.map (some m)) := (hB'.below hb1 hB'.lt).cell 0
  have hkp2 : Blk W2 w.heap.size 29 #[.int .i64 p.c, .int .i64 p.g] := by
    unfold Blk
    rw [hk1 _ hkp.lt (fun e => hkp.noMap hM.isMap e.symm)]
    exact hkp
  have k1 : W2.cell? ⟨w.heap.size, 0, none⟩ = some (.int .i64 p.c) := hkp2.cell 0
  have k2 : W2.cell? ⟨w.heap.size, 1, none⟩ = some (.int .i64 p.g) := hkp2.cell 1
  obtain ⟨W3, hW3⟩ : ∃ W3, W3 = W2.drew := ⟨_, rfl⟩
  have hin3 : MapK EP W3 W.heap.size (b f).length (setL (b f)) := by rw [hW3]; exact hin.far rfl
  obtain ⟨W4, hst0, hm4, ho4⟩ := hin3.run_store Try.underlying49 (by rw [hf]; exact Nat.zero_le _) p wp (.agg #[])
  have hst : (Instr.mapUpdate 49 (.map (some W.heap.size)) (.agg #[.int .i64 p.c, .int .i64 p.g]) (.agg #[])).run Try.prog W3 = .ok () W4 := hst0
  have HAT3 := Lib.hid (show AddAt w K gB m W.heap.size b f bk W3 from by rw [hW3]; exact HAT.out.drew)
  have HM4 := Lib.hid hm4
  have HO4 := Lib.hid ho4
  have HW3 := Lib.hid hW3
  have HX := Lib.hid (And.intro hs (And.intro hlt kB))
  have HL := Lib.hid (And.intro hle (show (b f).length ≤ 100000 from by rw [hf]; exact Nat.zero_le _))
  have q1 := eqOut_some m
  have q0 := eqOut_none
  have q2 := eqIn_some W.heap.size
  have q3 := eqIn_none
  have hmm := @run_makeMap Try.prog
  clear hB hI hs hle hlt kB wf hf hbel hTr hkp hI' hB' hM hO hJ hin hin3 hst0 hm4 ho4 hW3 hm2 ho2 hst2a hk1 hk2 hgm hTr2 kM hkp2 hnf hb1 hn hkm hmlt hs1
  go_enter Try.func9, Try.ntmps9
  go_wp2_with fail
  go_still_tail 8, (by kernel_rfl)
  change wpList _ _ _ _ _ W2.drew
  rw [← HW3.out]
  go_wp2_with fail
  go_end0
  exact HAT3.out.done HX.out.2.2 HX.out.1 HL.out.1 HL.out.2 HX.out.2.1 HM4.out HO4.out
set_option maxRecDepth 20000 in
set_option maxHeartbeats 1000000 in
/-- There are no sets at all. -/
theorem add_nil (gB : Nat) (K : Nat → Prop) (b : BS) (f : Int) (p : Pl) (w : World) (hB : Blk w gB 47 #[.map none]) (hE : ∀ f, b f = []) (hs : ∀ f, SrtP (b f)) (hle : ∀ f, (b f).length ≤ 200000) (hlt : ∀ k, K k → k < w.heap.size) (kB : K gB) (wf : W64 f) (wp : WPl p) :
    Calls Try.prog 9 #[.pointer (some ⟨gB, 0, none⟩), .int .i64 f, .agg #[.int .i64 p.c, .int .i64 p.g]] w (BackPost w gB K (.tuple #[]) (updB b f (putP (b f) p))) := by
  obtain ⟨W0, hW0⟩ : ∃ W, w.alloc (.cells #[.int .i64 p.c, .int .i64 p.g] 29) = W := ⟨_, rfl⟩
  have hbel0 : Below w.heap.size w W0 := by rw [← hW0]; exact belAl (Below.refl _ w) _
  have hkp0 : Blk W0 w.heap.size 29 #[.int .i64 p.c, .int .i64 p.g] := by rw [← hW0]; exact Blk.new _ _ _
  have hB0 : Blk W0 gB 47 #[.map none] := hB.below hbel0 hB.lt
  obtain ⟨m, hm⟩ : ∃ m, W0.heap.size = m := ⟨_, rfl⟩
  obtain ⟨V, hV⟩ : ∃ V, W0.alloc (.map #[] 0) = V := ⟨_, rfl⟩
  have hbV : Below W0.heap.size W0 V := by rw [← hV]; exact belAl (Below.refl _ W0) _
  have hBV : Blk V gB 47 #[.map none] := hB0.below hbV hB0.lt
  have hMV : MapK EI V m 0 (fun _ => none) := by rw [← hV, ← hm]; exact MapK.made W0 EI 0
  obtain ⟨W, hW⟩ : ∃ W, V.setCell ⟨gB, 0, none⟩ (.map (some m)) = W := ⟨_, rfl⟩
  have hoW : Only gB V W := by rw [← hW]; exact (Only.refl gB V).setCell 0 _
  have hB' : Blk W gB 47 #[.map (some m)] := by rw [← hW]; exact hBV.set_ 0 _
  have hgm0 : m ≠ gB := hBV.noMap hMV.isMap
  obtain ⟨bk, hbk⟩ : ∃ bk : Int → Nat, bk = fun _ => 0 := ⟨_, rfl⟩
  have hn : 0 ≤ 100000 := Nat.zero_le _
  have hM : MapK EI W m 0 (outL b bk) := (hMV.far (hoW.1.block m hMV.blk (fun e => hgm0 (by injection e with e)))).congr fun g => (if_pos (hE g)).symm
  have hkp : Blk W w.heap.size 29 #[.int .i64 p.c, .int .i64 p.g] := by
    have hg := hlt gB kB
    have h1 := hkp0.below hbV hkp0.lt
    unfold Blk
    rw [hoW.1.block _ h1.lt (fun e => by injection e with e; omega)]
    exact h1
  have hTr : Turns K w W := (Turns.of_below (hbel0.trans (hbV.mono hbel0.size)) (Nat.le_refl _)).trans (Turns.of_only hoW kB)
  have kM : K m ∨ w.heap.size ≤ m := .inr (by rw [← hm]; exact hbel0.size)
  have hO : ∀ g, b g ≠ [] → K (bk g) ∧ bk g ≠ m ∧ ∃ n, MapK EP W (bk g) n (setL (b g)) := fun g hg => absurd (hE g) hg
  have hJ : ∀ f g, b f ≠ [] → b g ≠ [] → bk f = bk g → f = g := fun f g hf => absurd (hE f) hf
  have hf := hE f
  have c01 : W0.cell? ⟨gB, 0, none⟩ = some (.map none) := hB0.cell 0
  have c02 : V.cell? ⟨gB, 0, none⟩ = some (.map none) := hBV.cell 0
  have f02 : V.frozen? ⟨gB, 0, none⟩ = false := hBV.frozen 0
  have hnf : outL b bk f = none := if_pos hf
  have l1 : (Instr.lookup 45 (.map (some m)) (.int .i64 f) false).run Try.prog W = .ok (.map none) W := by
    have := hM.run_get Try.underlying45 (z := .map none) (by rfl) f wf
    rw [hnf] at this
    exact this
  obtain ⟨W1, hW1⟩ : ∃ W1, W.alloc (.map #[] 0) = W1 := ⟨_, rfl⟩
  have hb1 : Below W.heap.size W W1 := by rw [← hW1]; exact belAl (Below.refl _ W) _
  have hmlt := hM.blk
  have hkm : W.heap.size ≠ m := by omega
  obtain ⟨W2, hst2a, hm2, ho2⟩ := (hM.far (hb1.block m hmlt)).run_store Try.underlying45 (by omega) f wf (.map (some W.heap.size))
  have hst2 : (Instr.mapUpdate 45 (.map (some m)) (.int .i64 f) (.map (some W.heap.size))).run Try.prog W1 = .ok () W2 := hst2a
  have hs1 : W.heap.size < W1.heap.size := by rw [← hW1]; simp
  have hk2 : ∀ j, j < W1.heap.size → j ≠ m → W2.heap[j]? = W1.heap[j]? := fun j hj hne => ho2.1.block j hj (fun e => hne (by injection e with e))
  have hin : MapK EP W2 W.heap.size (b f).length (setL (b f)) := by
    have h0 : MapK EP W1 W.heap.size (b f).length (setL (b f)) := by
      rw [← hW1]
      refine (MapK.made W EP _).congr fun q => ?_
      unfold setL
      rw [hf, if_neg List.not_mem_nil]
    exact h0.far (hk2 _ hs1 hkm)
  have hk1 : ∀ j, j < W.heap.size → j ≠ m → W2.heap[j]? = W.heap[j]? := fun j hj hne => (hk2 j (by omega) hne).trans (hb1.block j hj)
  have hgm : gB ≠ m := fun e => hB'.noMap hM.isMap e.symm
  have hTr2 : Turns K w W2 := by
    have h1 : Turns K w W1 := hTr.trans (Turns.of_below hb1 (Nat.le_refl _))
    rcases kM with h | h
    · exact h1.trans (Turns.of_only ho2 h)
    · exact h1.new_ ho2 h
  have HAT := Lib.hid (show AddAt w K gB m W.heap.size b f bk W2 from ⟨by unfold Blk; rw [hk1 gB hB'.lt hgm]; exact hB', ⟨_, hm2⟩, hin, fun g hg hb => by
      obtain ⟨a1, a2, n', a3⟩ := hO g hb
      have a4 := a3.blk
      exact ⟨a1, a2, fun e => by omega, n', a3.far (hk1 _ a4 a2)⟩, fun f' g _ _ h1 h2 e => hJ f' g h1 h2 e, hkm, hTr2, kM, .inr hTr.size⟩)
  have hg2 : (Instr.lookup 45 (.map (some m)) (.int .i64 f) false).run Try.prog W2.drew = .ok (.map (some W.heap.size)) W2.drew := by
    have := (show MapK EI W2.drew m _ _ from hm2.far rfl).run_get Try.underlying45 (z := .map none) (by rfl) f wf
    rw [show updK (outL b bk) f (some (.map (some W.heap.size))) f = some (.map (some W.heap.size)) from if_pos rfl] at this
    exact this
  have c2 : W2.cell? ⟨gB, 0, none⟩ = some (.map (some m)) := HAT.out.blk.cell 0
  have c1 : W.cell? ⟨gB, 0, none⟩ = some (.map (some m)) := hB'.cell 0
  have c3 : W1.cell? ⟨gB, 0, none⟩ = some (.map (some m)) := (hB'.below hb1 hB'.lt).cell 0
  have hkp2 : Blk W2 w.heap.size 29 #[.int .i64 p.c, .int .i64 p.g] := by
    unfold Blk
    rw [hk1 _ hkp.lt (fun e => hkp.noMap hM.isMap e.symm)]
    exact hkp
  have k1 : W2.cell? ⟨w.heap.size, 0, none⟩ = some (.int .i64 p.c) := hkp2.cell 0
  have k2 : W2.cell? ⟨w.heap.size, 1, none⟩ = some (.int .i64 p.g) := hkp2.cell 1
  obtain ⟨W3, hW3⟩ : ∃ W3, W3 = W2.drew := ⟨_, rfl⟩
  have hin3 : MapK EP W3 W.heap.size (b f).length (setL (b f)) := by rw [hW3]; exact hin.far rfl
  obtain ⟨W4, hst0, hm4, ho4⟩ := hin3.run_store Try.underlying49 (by rw [hf]; exact Nat.zero_le _) p wp (.agg #[])
  have hst : (Instr.mapUpdate 49 (.map (some W.heap.size)) (.agg #[.int .i64 p.c, .int .i64 p.g]) (.agg #[])).run Try.prog W3 = .ok () W4 := hst0
  have HAT3 := Lib.hid (show AddAt w K gB m W.heap.size b f bk W3 from by rw [hW3]; exact HAT.out.drew)
  have HM4 := Lib.hid hm4
  have HO4 := Lib.hid ho4
  have HW3 := Lib.hid hW3
  have HX := Lib.hid (And.intro hs (And.intro hlt kB))
  have HL := Lib.hid (And.intro hle (show (b f).length ≤ 100000 from by rw [hf]; exact Nat.zero_le _))
  have q1 := eqOut_some m
  have q0 := eqOut_none
  have q2 := eqIn_some W.heap.size
  have q3 := eqIn_none
  have hmm := @run_makeMap Try.prog
  clear hB hE hs hle hlt kB wf hf hbel0 hkp0 hB0 hbV hBV hMV hoW hgm0 hn hTr hkp hB' hM hO hJ hin hin3 hst0 hm4 ho4 hW3 hm2 ho2 hst2a hk1 hk2 hgm hTr2 kM hkp2 hnf hb1 hkm hmlt hs1
  go_enter Try.func9, Try.ntmps9
  go_wp2_with fail
  go_still_tail 8, (by kernel_rfl)
  change wpList _ _ _ _ _ W2.drew
  rw [← HW3.out]
  go_wp2_with fail
  go_end0
  exact HAT3.out.done HX.out.2.2 HX.out.1 HL.out.1 HL.out.2 HX.out.2.1 HM4.out HO4.out
/-- Add. -/
theorem back_add (gB : Nat) (K : Nat → Prop) (b : BS) (w : World) (f : Int) (p : Pl) (h : BackMem w gB K b) (wf : W64 f) (wp : WPl p) (hf : (b f).length ≤ 100000) (hF : FewF b) :
    Calls Try.prog 9 #[.pointer (some ⟨gB, 0, none⟩), .int .i64 f, .agg #[.int .i64 p.c, .int .i64 p.g]] w (BackPost w gB K (.tuple #[]) (updB b f (putP (b f) p))) := by
  obtain ⟨mo, h1, h2⟩ := h.at_
  cases mo with
  | none => exact add_nil gB K b f p w h1 h2 h.srt h.len h.lt h.kB wf wp
  | some m =>
    obtain ⟨bk, hI⟩ := h2
    by_cases c : b f = []
    · exact add_new gB m K b bk f p w h1 hI h.srt h.len h.lt h.kB wf wp c hF
    · exact add_has gB m K b bk f p w h1 hI h.srt h.len h.lt h.kB wf wp c hf
theorem back_add_nil (w : World) (f c g : Int) : Calls Try.prog 9 #[.pointer none, .int .i64 f, .agg #[.int .i64 c, .int .i64 g]] w fun e w' => e = .returned (.tuple #[]) ∧ Below w.heap.size w w' := by
  go_enter Try.func9, Try.ntmps9
  go_wp2
  refine bodyPost_ret (results_none rfl _ _ _) rfl ?_
  exact ⟨rfl, belAl (Below.refl _ w) _⟩
end Go.Proofs.Ytgbkpcmgfjdhdaa

/-
  The contracts of what writes a registry's records and takes them: badRecord, takeState, takeBad and take.
  Conditions: a record that is taken is one; the lists are read in memory that the registry's own blocks are no part of.
-/
import Derived.Test.YtfnegbcpiejdaabRegC
import Derived.Test.YtfnegbcpiejdaabDsk
import Derived.Deep.RegionHeld3
import Derived.StillTailTactics
namespace Go.Proofs.Ytfnegbcpiejdaab
open Go.RowKit
set_option linter.unusedVariables false

/-- Naturals as integers. -/
def natI (ns : List Nat) : List Int := ns.map (fun (n : Nat) => (n : Int))
theorem natI_length (ns : List Nat) : (natI ns).length = ns.length := by simp [natI]
theorem natI_getD (ns : List Nat) (k : Nat) (hk : k < ns.length) : (natI ns).getD k 0 = ((ns.getD k 0 : Nat) : Int) := by simp [natI, hk]
theorem natTake (ns : List Nat) (k : Nat) (hk : k < ns.length) : ns.take (k + 1) = ns.take k ++ [ns.getD k 0] := by
  rw [List.take_succ_eq_append_getElem hk]
  simp [hk]
theorem Try.infoU8 : (Try.prog.info? 5).map (fun i => (i.zero, i.size, i.bytes)) = some (some (.int .u8 0), 1, 1) := by kernel_rfl

/-! ### badRecord -/
set_option maxRecDepth 100000 in
set_option maxHeartbeats 1600000 in
theorem badRecord_any (v : Value) (ns : List Nat) (w : World) (h : Its w w.heap.size v (natI ns)) (h20 : ns.length ≤ 20) (hlo : ∀ f ∈ ns, f ≤ 1023) :
    Calls Try.prog 41 #[v] w fun e w' => ∃ v', e = .returned v' ∧ v' = .slice (some ⟨w.heap.size, 0, none⟩) (1 + 2 * ns.length) (1 + 2 * ns.length) ∧ Bts w' w'.heap.size v' (recB ns) ∧ Below w.heap.size w w' := by
  obtain ⟨A, n, c, rfl, hl, hlc, hm, hx⟩ := id h
  rw [natI_length] at hl
  subst hl
  obtain ⟨n, hn⟩ : ∃ n, n = ns.length := ⟨_, rfl⟩
  rw [← hn] at h20 hlc hx h ⊢
  have HN := Lib.hid hn
  have HH := Lib.hid h
  have HLO := Lib.hid hlo
  obtain ⟨M, hM⟩ : ∃ M, M = 1 + 2 * n := ⟨_, rfl⟩
  have m2 : (1 : Int) + (n : Int) * 2 = (M : Int) := by omega
  obtain ⟨i0, hi, hz0, hz1, hz2⟩ := info_parts Try.infoU8
  have hmk : ∀ w : World, (Instr.makeSlice 35 (.int .i64 (M : Int)) (.int .i64 (M : Int))).run Try.prog w = .ok (.slice (some ⟨w.heap.size, 0, none⟩) M M) (w.alloc (.cells (zs M) 5)) := fun w => run_make_zs _ _ i0 Try.underlying35 hi hz0 hz1 hz2 M (by omega) w
  have hM1 : 0 < M := by omega
  have HM := Lib.hid hM
  have b0 := Blk.new w 5 (zs M)
  have cz : (w.alloc (.cells (zs M) 5)).cell? ⟨w.heap.size, 0, none⟩ = some (.int .u8 0) := by
    rw [b0.cell]
    simp [zs, bv, hM1]
  have fz : (w.alloc (.cells (zs M) 5)).frozen? ⟨w.heap.size, 0, none⟩ = false := b0.frozen 0
  have B1 := Lib.hid (show Blk (w.alloc (.cells ((zs M).setIfInBounds 0 (.int .u8 2)) 5)) w.heap.size 5 (cellsL (zn (recB []) (M - 1))) from by
    have e : (zs M).setIfInBounds 0 (bv 2) = cellsL (zn (recB []) (M - 1)) := by rw [zs_cells]; exact set_next [] 0 M 2 rfl hM1
    rw [← e]
    exact Blk.new w _ _)
  have K1 := Lib.hid (show Below w.heap.size w (w.alloc (.cells ((zs M).setIfInBounds 0 (.int .u8 2)) 5)) from (Below.refl _ _).alloc (Nat.le_refl _) _)
  clear h hx hlo hn hi hz0 hz1 hz2 b0 hM
  go_enter Try.func41, Try.ntmps41
  go_wp2_with fail
  go_loopg [4, 5, 15] n (fun gg _ _ s15 wr => ∃ k : Nat, k + gg = n ∧ s15 = .int .i64 (k : Int) ∧ Blk wr w.heap.size 5 (cellsL (zn (recB (ns.take k)) (M - (1 + 2 * k)))) ∧ Below w.heap.size w wr)
  case atStart => exact ⟨0, by omega, rfl, B1.out, K1.out⟩
  case round =>
    obtain ⟨k, hkg, rfl, hb, hk⟩ := hrel
    have HB := Lib.hid hb
    have HK := Lib.hid hk
    have hit := HH.out.below hk
    obtain ⟨A', n', c', e, _, _, _, hx⟩ := hit
    injection e with e1 e2 e3
    subst e1 e2 e3
    clear hb hk
    by_cases hlt : k < n
    · obtain ⟨b, off, rfl, _, hc⟩ := hx (by omega)
      have hcell := hc k hlt
      rw [natI_getD _ _ (by rw [← HN.out]; exact hlt)] at hcell
      obtain ⟨y, hy⟩ : ∃ y, y = ns.getD k 0 := ⟨_, rfl⟩
      rw [← hy] at hcell
      have hy3 : y ≤ 1023 := by
        have e : ns.getD k 0 = ns[k]'(by rw [← HN.out]; exact hlt) := by simp [show k < ns.length by rw [← HN.out]; exact hlt]
        rw [hy, e]
        exact HLO.out _ (List.getElem_mem _)
      have HY := Lib.hid hy
      have c1 : IntKind.u64.wrap (y : Int) = (y : Int) := by rw [IntKind.wrap_u64]; omega
      have PY := Lib.hid (put_yes w.heap.size 0 M M y 5 (cellsL (zn (recB (ns.take k)) (M - (1 + 2 * k)))) (1 + (k : Int) * 2) 2 wr (by have := HM.out; unfold maxLen; omega) (by have := HM.out; unfold Fit; omega) HB.out (by
        have := HM.out
        have := HN.out
        rw [cellsL_size]; simp [zn, recB_length]; omega))
      have m3 : (0 + (1 + (k : Int) * 2).toNat) = 1 + 2 * k := by omega
      rw [m3, show (2 : Int).toNat = 2 from rfl, putV_next _ (1 + 2 * k) _ y 2 (by have := HN.out; rw [recB_length]; simp; omega) (by have := HM.out; omega)] at PY
      clear hx hc hy m3
      go_wp2_with fail
      refine PY.out.mono ?_
      rintro e w2 ⟨rfl, hp⟩
      have HP := Lib.hid hp
      clear hp hcell
      go_wp2
      go_roundg (n - (k + 1))
      case measure => omega
      case rel =>
        refine ⟨k + 1, by omega, by go_num, ?_, HK.out.trans (HP.out.only.below (Nat.le_refl _) HK.out.size)⟩
        have h2 := HP.out.1
        rw [HY.out, ← recB_snoc, ← natTake ns k (by rw [← HN.out]; exact hlt), show M - (1 + 2 * k) - 2 = M - (1 + 2 * (k + 1)) by omega] at h2
        exact h2
    · obtain rfl : k = n := by omega
      clear hx
      go_wp2
      go_ret
      have h2 := HB.out
      rw [List.take_of_length_le (by rw [HN.out]; exact Nat.le_refl _), show M - (1 + 2 * k) = 0 by have := HM.out; omega] at h2
      have e0 : zn (recB ns) 0 = recB ns := by simp [zn]
      rw [e0] at h2
      exact ⟨_, rfl, (show Value.slice (some ⟨w.heap.size, 0, none⟩) M M = _ from by rw [← HM.out]), Bts.of_whole h2 (by rw [recB_length, HM.out, HN.out]) (by have := HM.out; unfold maxLen; omega) (recB_byte ns), HK.out⟩

/-! ### takeState -/
theorem Turns.self (w : World) (M : Nat → Prop) (g i : Nat) (u : Value) (hm : M g) : Turns M w (w.setCell ⟨g, i, none⟩ u) := Turns.of_only ((Only.refl g w).setCell i u) hm
theorem RegAt.state {w : World} {gR gB gJ : Nat} {md : MD} (h : RegAt w gR gB gJ md) {s v : Nat} (hs : s < 32) (hv : v ≤ 3) : RegAt (w.setCell ⟨gR, 2 + s, none⟩ (.int .i64 (v : Int))) gR gB gJ (md.1, md.2.set s v) := by
  refine ⟨?_, h.bad.far ?_, h.ok.set_st s hv, h.ne⟩
  · have := h.reg.setL (2 + s) (.int .i64 (v : Int))
    rwa [regL_set] at this
  · exact ((Only.refl gR w).setCell (2 + s) (.int .i64 (v : Int))).1.block gB h.bad.blk (fun e => h.ne (by injection e with e; exact e.symm))
set_option maxRecDepth 100000 in
set_option maxHeartbeats 1600000 in
theorem takeState_any (gR gB gJ : Nat) (md : MD) (x : Value) (s v B : Nat) (w : World) (h : RegAt w gR gB gJ md) (hx : Bts w B x [s, v]) (hs : s ≤ 31) (hv : v ≤ 3) :
    Calls Try.prog 52 #[.pointer (some ⟨gR, 0, none⟩), x] w fun e w' => e = .returned (.bool true) ∧ RegAt w' gR gB gJ (md.1, md.2.set s v) ∧ Turns (fun k => k = gR) w w' := by
  have HR := Lib.hid h
  obtain ⟨A, n, c, rfl, hl, hlm, ⟨hc, hn⟩, hcm, hb, hcell⟩ := hx
  obtain rfl : n = 2 := by simpa using hl.symm
  obtain ⟨b, off, rfl, hbB, hcl⟩ := hcell (by omega)
  have c0 : w.cell? ⟨b, off, none⟩ = some (.int .u8 (s : Int)) := by simpa using hcl 0 (by omega)
  have c1 : w.cell? ⟨b, off + 1, none⟩ = some (.int .u8 (v : Int)) := by simpa using hcl 1 (by omega)
  have cS := h.cellS (k := s) (by omega)
  have fS : w.frozen? ⟨gR, 2 + s, none⟩ = false := h.reg.frozen _
  obtain ⟨old, ho⟩ : ∃ old, old = md.2.getD s 0 := ⟨_, rfl⟩
  rw [← ho] at cS
  have MS := Lib.hid (mayState_any (s : Int) (v : Int))
  rw [decide_eq_true (show 0 ≤ (s : Int) ∧ (s : Int) ≤ 31 ∧ 0 ≤ (v : Int) ∧ (v : Int) ≤ 3 by omega)] at MS
  have hs0 : (0 : Int) ≤ (s : Int) := by omega
  have hs1 : (s : Int) < 32 := by omega
  have c3 : IntKind.i64.wrap (s : Int) = (s : Int) := by rw [IntKind.wrap_i64]; omega
  have c4 : IntKind.i64.wrap (v : Int) = (v : Int) := by rw [IntKind.wrap_i64]; omega
  have MSQ := Lib.hid (fun (W : World) (q : Nat) => (show Calls Try.prog 42 #[.int .i64 (s : Int), .int .i64 (v : Int)] (W.drewN q) fun e w' => e = .returned (.bool true) ∧ ∃ q', w' = W.drewN q' from (MS.out (W.drewN q)).mono (by rintro e w' ⟨rfl, rfl⟩; exact ⟨rfl, q, rfl⟩)))
  clear h hl hlm hc hn hcm hb hcell hcl ho
  go_enter Try.func52, Try.ntmps52
  go_wp2_with fail
  go_quiet (first | (go_at_call 42; exact MSQ.out _ _))
  go_wp2_with fail
  generalize hW : w.drewN nq = W at *
  have c0' : W.cell? ⟨b, off, none⟩ = some (.int .u8 (s : Int)) := by rw [← hW]; exact c0
  have c1' : W.cell? ⟨b, off + 1, none⟩ = some (.int .u8 (v : Int)) := by rw [← hW]; exact c1
  have cS' : W.cell? ⟨gR, 2 + s, none⟩ = some (.int .i64 (old : Int)) := by rw [← hW]; exact cS
  have fS' : W.frozen? ⟨gR, 2 + s, none⟩ = false := by rw [← hW]; exact fS
  have HW := Lib.hid hW
  clear hW c0 c1 cS fS
  go_still_tail 11, (by kernel_rfl)
  obtain ⟨W2, hW2⟩ : ∃ W2, W2 = W.drew := ⟨_, rfl⟩
  change wpList _ _ _ _ _ W.drew
  rw [← hW2]
  have cS2 : W2.cell? ⟨gR, 2 + s, none⟩ = some (.int .i64 (old : Int)) := by rw [hW2]; exact cS'
  have fS2 : W2.frozen? ⟨gR, 2 + s, none⟩ = false := by rw [hW2]; exact fS'
  have HW2 := Lib.hid (show Below w.heap.size w W2 ∧ RegAt W2 gR gB gJ md from by
    rw [hW2, ← HW.out]
    exact ⟨(below_drewN (Below.refl _ _) nq).drew, HR.out.fresh (below_drewN (Below.refl _ _) nq).drew⟩)
  clear hW2 c0' c1' cS' fS' HW
  go_wp2
  go_ret
  exact ⟨rfl, HW2.out.2.state (by omega) hv, (Turns.of_below HW2.out.1 (Nat.le_refl _)).trans (Turns.self _ _ _ _ _ rfl)⟩
end Go.Proofs.Ytfnegbcpiejdaab

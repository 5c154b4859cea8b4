/-
  The contract of a tree's walk, whatever is done with the tables on the way.
  Conditions: those that each line bears.
-/
import Derived.Test.YtegoookllckhiaaTrB
import Derived.Shelf.Abstract
namespace Go.Proofs.Ytegoookllckhiaa
open Go.RowKit
set_option linter.unusedVariables false

theorem idx_dig (cs : Array Value) (k : Nat) (y : Int) (hk : k < 4) (hc : cs[k]? = some (.int .i64 y)) (w : World) : (Instr.index 68 (.agg cs) (.int .i64 (k : Int))).run Try.prog w = .ok (.int .i64 y) w := by
  have h1 : (0 : Int) ≤ (k : Int) ∧ (k : Int) < 4 := by omega
  simp [Instr.index, run_underlying Try.underlying68, asIntOf, h1, hc, go_sem, Try.isAgg3, Try.sizeOf3]
  intro h
  exact absurd h (by omega)
theorem Mem.turns {w w' : World} {gR gF n : Nat} {F : Nat → List Nat} {bad : Nat → Bool} {M : Nat → Prop} (h : Mem w gR gF n F bad) (ht : Turns M w w') (h1 : ¬ M gR) (h2 : ¬ M gF) : Mem w' gR gF n F bad :=
  h.far (ht.block _ h.lt.1 h1) (ht.block _ h.lt.2 h2)
/-- The first so many frames on the way to a page. -/
def wayF (g : Nat → Nat → Nat) (page L : Nat) : List Nat := (List.range L).map (fun l => g l (page / dv l) - 1)
theorem wayF_succ (g : Nat → Nat → Nat) (page L : Nat) : wayF g page (L + 1) = wayF g page L ++ [g L (page / dv L) - 1] := by
  unfold wayF
  rw [List.range_succ, List.map_append]
  rfl
theorem wayF_length (g : Nat → Nat → Nat) (page L : Nat) : (wayF g page L).length = L := by simp [wayF]
theorem Nod.down {g : Nat → Nat → Nat} {t : Nat → Prop} {page pg k : Nat} (h : Nod g t pg 0) (hk : k < 4) (hz : g (k + 1) (page / dv (k + 1)) = 0) : g 4 page = 0 := by
  have up : ∀ l, l < 4 → g l (page / dv l) = 0 → g (l + 1) (page / dv (l + 1)) = 0 := fun l hl hz => by
    rcases Nat.eq_zero_or_pos (g (l + 1) (page / dv (l + 1))) with e | e
    · exact e
    · have := h.up l _ hl (Nat.pos_iff_ne_zero.1 e)
      rw [← dv_div page hl] at this
      exact absurd hz this
  have e4 : g 4 (page / dv 4) = 0 := by
    rcases four hk with rfl | rfl | rfl | rfl
    · exact up 3 (by omega) (up 2 (by omega) (up 1 (by omega) hz))
    · exact up 3 (by omega) (up 2 (by omega) hz)
    · exact up 3 (by omega) hz
    · exact hz
  rwa [dv4] at e4
set_option maxRecDepth 20000 in
set_option maxHeartbeats 1600000 in
theorem twalk_any (g0 : Nat) (lb : Array Value) (eg : ∀ args w, (callFunc g0 args).run Try.prog w = .ok (.enter g0 args) w) (R : List Nat → (Nat → Prop) → World → Prop)
    (hRb : ∀ l M W W', R l M W → Below W.heap.size W W' → R l M W') (hRk : ∀ l M W, R l M W → ∀ k, M k → k < W.heap.size)
    (hRv : ∀ l M W (f : Nat), R l M W → l.length < 4 → Calls Try.prog g0 (#[.int .i64 (f : Int)] ++ lb) W fun e w' => e = .returned (.tuple #[]) ∧ ∃ M', R (l ++ [f]) M' w' ∧ (∀ k, M' k → M k ∨ W.heap.size ≤ k) ∧ Turns M W w')
    (gT gR gF gP r gS page pg : Nat) (F : Nat → List Nat) (bad : Nat → Bool) (g : Nat → Nat → Nat) (t : Nat → Prop) (M0 : Nat → Prop) (w : World)
    (hT : TreeB w gT gR gP r gS) (hM : Mem w gR gF 1024 F bad) (hb : ∀ f, f < 1024 → bad f = false) (hN : Nod g t pg 0) (hC : Con g F pg 0) (hr : g 0 0 = r + 1) (hp : page < 4096) (hR : R [] M0 w) (h1 : ¬ M0 gT) (h2 : ¬ M0 gR) (h3 : ¬ M0 gF) :
    Calls Try.prog 31 #[.pointer (some ⟨gT, 0, none⟩), .agg (digV page), .func (.func g0) #[] lb] w fun e w' => e = .returned (.tuple #[.int .u64 ((g 4 page : Nat) : Int), .int .i64 0]) ∧
      ∃ L M', 1 ≤ L ∧ L ≤ 4 ∧ (∀ l, l < L → g l (page / dv l) ≠ 0) ∧ (L < 4 → g L (page / dv L) = 0) ∧ R (wayF g page L) M' w' ∧ (∀ k, M' k → M0 k ∨ w.heap.size ≤ k) ∧ Turns M0 w w' := by
  obtain ⟨d, hd⟩ : ∃ d : Nat → Nat, d = fun l => page / dv (l + 1) % 8 := ⟨_, rfl⟩
  have hdl : ∀ l, d l < 8 := fun l => by rw [hd]; exact Nat.mod_lt _ (by omega)
  have hdv : digV page = #[.int .i64 ((d 0 : Nat) : Int), .int .i64 ((d 1 : Nat) : Int), .int .i64 ((d 2 : Nat) : Int), .int .i64 ((d 3 : Nat) : Int)] := by
    rw [hd]
    show _ = #[_, _, _, Value.int .i64 ((page / 1 % 8 : Nat) : Int)]
    rw [Nat.div_one]
    rfl
  have hda : ∀ k, k < 4 → (#[Value.int .i64 ((d 0 : Nat) : Int), .int .i64 ((d 1 : Nat) : Int), .int .i64 ((d 2 : Nat) : Int), .int .i64 ((d 3 : Nat) : Int)] : Array Value)[k]? = some (.int .i64 ((d k : Nat) : Int)) := fun k hk => by
    rcases four hk with rfl | rfl | rfl | rfl <;> rfl
  have hdn : ∀ l, l < 4 → 8 * (page / dv l) + d l = page / dv (l + 1) := fun l hl => by rw [hd]; exact way_digit page hl
  rw [hdv]
  have hT0 : TreeB (w.alloc (.cells #[.int .i64 ((d 0 : Nat) : Int), .int .i64 ((d 1 : Nat) : Int), .int .i64 ((d 2 : Nat) : Int), .int .i64 ((d 3 : Nat) : Int)] 68)) gT gR gP r gS := Blk.al hT _
  have c2 : (w.alloc (.cells #[.int .i64 ((d 0 : Nat) : Int), .int .i64 ((d 1 : Nat) : Int), .int .i64 ((d 2 : Nat) : Int), .int .i64 ((d 3 : Nat) : Int)] 68)).cell? ⟨gT, 2, none⟩ = some (.int .i64 (r : Int)) := Blk.cell hT0 2
  have HB0 := Lib.hid ((Below.refl w.heap.size w).alloc (Nat.le_refl _) (.cells #[.int .i64 ((d 0 : Nat) : Int), .int .i64 ((d 1 : Nat) : Int), .int .i64 ((d 2 : Nat) : Int), .int .i64 ((d 3 : Nat) : Int)] 68))
  have hrl : r < 1024 := by
    have := hN.le 0 0 (by omega)
    omega
  have TL := Lib.hid (tells_any r (w.alloc (.cells #[.int .i64 ((d 0 : Nat) : Int), .int .i64 ((d 1 : Nat) : Int), .int .i64 ((d 2 : Nat) : Int), .int .i64 ((d 3 : Nat) : Int)] 68)) hrl)
  have HT := Lib.hid hT
  have HM := Lib.hid hM
  have HR0 := Lib.hid (hRb _ _ _ _ hR HB0.out)
  have HRK := Lib.hid hRk
  have HRB := Lib.hid hRb
  have HRV := Lib.hid hRv
  have HN := Lib.hid hN
  have HC := Lib.hid hC
  have HDL := Lib.hid hdl
  have HDN := Lib.hid hdn
  have HDA := Lib.hid hda
  have HBD := Lib.hid hb
  have HRR := Lib.hid hr
  have N1 := Lib.hid h1
  have N2 := Lib.hid h2
  have N3 := Lib.hid h3
  clear hT hM hR hRk hRb hRv hN hC hd hdl hdv hda hdn hT0 hb hr h1 h2 h3
  go_enter Try.func31, Try.ntmps31
  go_wp2_with fail
  refine TL.out.mono ?_
  rintro e w1 ⟨rfl, rfl⟩
  go_wp2_with fail
  go_loopg [8, 20] 4 (fun gg s8 s20 wx => ∃ (k : Nat) (M : Nat → Prop), k + gg = 4 ∧ s20 = .int .i64 (k : Int) ∧ s8 = .int .u64 ((g k (page / dv k) : Nat) : Int) ∧ (∀ l, l ≤ k → g l (page / dv l) ≠ 0) ∧ R (wayF g page k) M wx ∧ (∀ j, M j → M0 j ∨ w.heap.size ≤ j) ∧ Turns M0 w wx)
  case atStart =>
    refine ⟨0, M0, rfl, rfl, ?_, fun l hl => ?_, HR0.out, fun j hj => .inl hj, Turns.of_below HB0.out (Nat.le_refl _)⟩
    · rw [dv0 hp, HRR.out]; go_num
    · obtain rfl : l = 0 := by omega
      rw [dv0 hp]
      exact HN.out.root
  case round =>
    obtain ⟨k, M, hkg, rfl, rfl, hnz, hRR, hMM, hTT⟩ := hrel
    have HNZ := Lib.hid hnz
    have HRX := Lib.hid hRR
    have HMM := Lib.hid hMM
    have HTT := Lib.hid hTT
    by_cases hlt : k < 4
    · have t1 : decide ((k : Int) < 4) = true := decide_eq_true (by omega)
      obtain ⟨f, hf⟩ : ∃ f, g k (page / dv k) = f + 1 := ⟨g k (page / dv k) - 1, by have := hnz k (Nat.le_refl _); omega⟩
      have hfl : f < 1024 := by
        have := HN.out.le k (page / dv k) hlt
        omega
      rw [hf]
      have hTx : TreeB wr gT gR gP r gS := hTT.blk HT.out N1.out
      have hMx : Mem wr gR gF 1024 F bad := HM.out.turns hTT N2.out N3.out
      have RD := Lib.hid (tread_ok gT gR gF gP r gS f F bad wr hTx hMx hfl (HBD.out f hfl))
      have HNJ := Lib.hid (show ∀ j, j < 8 → (tabV (F f))[j]? = some (.int .u64 ((numJ (F f) j : Nat) : Int)) from fun j hj => tabV_at _ hj)
      have HNX := Lib.hid (show numJ (F f) (d k) = g (k + 1) (page / dv (k + 1)) from by
        rw [HC.out k (page / dv k) f (d k) hlt hf (HDL.out k) (fun hh => by omega), HDN.out k hlt])
      obtain ⟨v, hv⟩ : ∃ v, v = g (k + 1) (page / dv (k + 1)) := ⟨_, rfl⟩
      rw [← hv] at HNX
      have HNJ := Lib.hid (show (tabV (F f))[d k]? = some (.int .u64 (v : Int)) from by rw [HNJ.out (d k) (HDL.out k), HNX.out])
      have HV := Lib.hid hv
      have HF := Lib.hid hf
      unfold tabV at RD HNJ
      generalize numJ (F f) 0 = n0 at RD HNJ
      generalize numJ (F f) 1 = n1 at RD HNJ
      generalize numJ (F f) 2 = n2 at RD HNJ
      generalize numJ (F f) 3 = n3 at RD HNJ
      generalize numJ (F f) 4 = n4 at RD HNJ
      generalize numJ (F f) 5 = n5 at RD HNJ
      generalize numJ (F f) 6 = n6 at RD HNJ
      generalize numJ (F f) 7 = n7 at RD HNJ
      clear hnz hRR hMM hTT hTx hMx hf hv HNX
      have HIX := idx_dig _ k _ hlt (HDA.out k hlt)
      have hdl := HDL.out k
      go_wp2_with fail
      refine RD.out.mono ?_
      rintro e w3 ⟨rfl, hb3⟩
      have HB3 := Lib.hid (hb3.alloc hb3.size (.cells #[.int .u64 (n0 : Int), .int .u64 (n1 : Int), .int .u64 (n2 : Int), .int .u64 (n3 : Int), .int .u64 (n4 : Int), .int .u64 (n5 : Int), .int .u64 (n6 : Int), .int .u64 (n7 : Int)] 99))
      have BT := Lib.hid (Blk.new w3 99 #[.int .u64 (n0 : Int), .int .u64 (n1 : Int), .int .u64 (n2 : Int), .int .u64 (n3 : Int), .int .u64 (n4 : Int), .int .u64 (n5 : Int), .int .u64 (n6 : Int), .int .u64 (n7 : Int)])
      have RA := Lib.hid (HRB.out _ _ _ _ HRX.out HB3.out)
      have HS3 := Lib.hid hb3.size
      have VS := Lib.hid (HRV.out _ _ _ f RA.out (by rw [wayF_length]; exact hlt))
      clear hb3
      go_wp2_with fail
      refine VS.out.mono ?_
      rintro e w4 ⟨rfl, M', q1, q2, q3⟩
      have hnM : ¬ M w3.heap.size := fun h => by
        have := HRK.out _ _ _ HRX.out _ h
        have := HS3.out
        omega
      have ck : w4.cell? ⟨w3.heap.size, d k, none⟩ = some (.int .u64 (v : Int)) := by
        rw [(q3.blk BT.out hnM).cell]
        exact HNJ.out
      have HR4 := Lib.hid (show R (wayF g page (k + 1)) M' w4 from by
        rw [wayF_succ, HF.out, Nat.add_sub_cancel]
        exact q1)
      have HM4 := Lib.hid (show ∀ j, M' j → M0 j ∨ w.heap.size ≤ j from fun j hj => by
        rcases q2 j hj with h | h
        · exact HMM.out j h
        · have h1 := HB3.out.size
          have h2 := HTT.out.size
          exact .inr (by omega))
      have HT4 := Lib.hid (show Turns M0 w w4 from by
        have h1 : Turns M0 w (w3.alloc (.cells #[.int .u64 (n0 : Int), .int .u64 (n1 : Int), .int .u64 (n2 : Int), .int .u64 (n3 : Int), .int .u64 (n4 : Int), .int .u64 (n5 : Int), .int .u64 (n6 : Int), .int .u64 (n7 : Int)] 99)) := HTT.out.trans (Turns.of_below HB3.out (Nat.le_refl _))
        refine ⟨q3.os.trans h1.os, q3.tape.trans h1.tape, q3.output.trans h1.output, Nat.le_trans h1.size q3.size, fun j hj hn => ?_⟩
        have h2 := h1.size
        exact (q3.block j (by omega) (fun hh => by
          rcases HMM.out j hh with h | h
          · exact hn h
          · omega)).trans (h1.block j hj hn))
      clear q1 q2 q3 hnM
      by_cases hv0 : v = 0
      · subst hv0
        go_wp2_with fail
        go_ret2
        refine ⟨?_, k + 1, M', by omega, by omega, fun l hl => HNZ.out l (by omega), fun _ => HV.out.symm, HR4.out, HM4.out, HT4.out⟩
        rw [HN.out.down hlt HV.out.symm]
        rfl
      · have hv0' : ((v : Int) == 0) = false := by simp [hv0]
        go_wp2_with fail
        go_roundg (4 - (k + 1))
        case measure => omega
        case rel =>
          refine ⟨k + 1, M', by omega, by go_num, by rw [HV.out], fun l hl => ?_, HR4.out, HM4.out, HT4.out⟩
          by_cases c : l ≤ k
          · exact HNZ.out l c
          · obtain rfl : l = k + 1 := by omega
            rw [← HV.out]
            exact hv0
    · obtain rfl : k = 4 := by omega
      have t1 : decide (((4 : Nat) : Int) < 4) = false := by decide
      go_wp2_with fail
      go_ret2
      exact ⟨by rw [dv4]; rfl, 4, M, by omega, by omega, fun l hl => HNZ.out l (by omega), fun h => absurd h (by omega), HRX.out, HMM.out, HTT.out⟩

set_option maxRecDepth 20000 in
set_option maxHeartbeats 1600000 in
theorem twalk_bad (vis : Value) (gT gR gF gP r gS page : Nat) (F : Nat → List Nat) (bad : Nat → Bool) (w : World)
    (hT : TreeB w gT gR gP r gS) (hM : Mem w gR gF 1024 F bad) (hr : r < 1024) (hb : bad r = true) :
    Calls Try.prog 31 #[.pointer (some ⟨gT, 0, none⟩), .agg (digV page), vis] w fun e w' => e = .returned (.tuple #[.int .u64 0, .int .i64 7]) ∧ Below w.heap.size w w' := by
  have HV := Lib.hid (show ∃ d0 d1 d2 d3 : Nat, digV page = #[.int .i64 ((d0 : Nat) : Int), .int .i64 ((d1 : Nat) : Int), .int .i64 ((d2 : Nat) : Int), .int .i64 ((d3 : Nat) : Int)] from ⟨_, _, _, _, rfl⟩)
  obtain ⟨d0, d1, d2, d3, hd⟩ := HV.out
  rw [hd]
  have HB0 := Lib.hid ((Below.refl w.heap.size w).alloc (Nat.le_refl _) (.cells #[.int .i64 ((d0 : Nat) : Int), .int .i64 ((d1 : Nat) : Int), .int .i64 ((d2 : Nat) : Int), .int .i64 ((d3 : Nat) : Int)] 68))
  have hT0 : TreeB (w.alloc (.cells #[.int .i64 ((d0 : Nat) : Int), .int .i64 ((d1 : Nat) : Int), .int .i64 ((d2 : Nat) : Int), .int .i64 ((d3 : Nat) : Int)] 68)) gT gR gP r gS := Blk.al hT _
  have c2 : (w.alloc (.cells #[.int .i64 ((d0 : Nat) : Int), .int .i64 ((d1 : Nat) : Int), .int .i64 ((d2 : Nat) : Int), .int .i64 ((d3 : Nat) : Int)] 68)).cell? ⟨gT, 2, none⟩ = some (.int .i64 (r : Int)) := Blk.cell hT0 2
  have TL := Lib.hid (tells_any r (w.alloc (.cells #[.int .i64 ((d0 : Nat) : Int), .int .i64 ((d1 : Nat) : Int), .int .i64 ((d2 : Nat) : Int), .int .i64 ((d3 : Nat) : Int)] 68)) hr)
  have RD := Lib.hid (tread_bad gT gR gF gP r gS r F bad _ hT0 (hM.alloc _) hr hb)
  have HIX : ∀ w, (Instr.index 68 (.agg #[.int .i64 ((d0 : Nat) : Int), .int .i64 ((d1 : Nat) : Int), .int .i64 ((d2 : Nat) : Int), .int .i64 ((d3 : Nat) : Int)]) (.int .i64 0)).run Try.prog w = .ok (.int .i64 (d0 : Int)) w := idx_dig _ 0 (d0 : Int) (by omega) rfl
  unfold tab0 at RD
  clear HV hd hT hM hT0
  go_enter Try.func31, Try.ntmps31
  go_wp2_with fail
  refine TL.out.mono ?_
  rintro e w1 ⟨rfl, rfl⟩
  go_wp2_with fail
  go_loopg [8, 20] 0 (fun gg s8 s20 wx => s20 = .int .i64 0 ∧ s8 = .int .u64 ((r : Int) + 1) ∧ wx = w.alloc (.cells #[.int .i64 ((d0 : Nat) : Int), .int .i64 ((d1 : Nat) : Int), .int .i64 ((d2 : Nat) : Int), .int .i64 ((d3 : Nat) : Int)] 68))
  case atStart => exact ⟨rfl, by go_num, rfl⟩
  case round =>
    obtain ⟨rfl, rfl, rfl⟩ := hrel
    go_wp2_with fail
    refine RD.out.mono ?_
    rintro e w3 ⟨rfl, hb3⟩
    have HB3 := Lib.hid (HB0.out.trans (((Below.alloc (hb3) hb3.size _).mono (by simp)) : Below w.heap.size _ (w3.alloc (.cells #[.int .u64 0, .int .u64 0, .int .u64 0, .int .u64 0, .int .u64 0, .int .u64 0, .int .u64 0, .int .u64 0] 99))))
    clear hb3
    go_wp2_with fail
    go_ret2
    exact ⟨rfl, HB3.out⟩
end Go.Proofs.Ytegoookllckhiaa

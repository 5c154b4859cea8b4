/-
  The library's DeleteFunc over pages: the walk.
  Conditions: those that each line bears.
-/
import Derived.Test.YtcfjkppgfjlbbaaCaE
namespace Go.Proofs.Ytcfjkppgfjlbbaa
open Go.RowKit
set_option linter.unusedVariables false

section
variable {g cap bx B i j : Nat} {l : List Pl} {file : Int} {w W W1 W2 : World}
theorem DelAt.skip (h : DelAt g l file cap bx B w i j W) (hj : j < l.length) (hd : otherF file (l.getD j pl0) = true) (hb : Below W.heap.size W W2) (hB : B ≤ W.heap.size) : DelAt g l file cap bx B w i (j + 1) W2 := by
  obtain ⟨cur, h1, h2, h3, h4⟩ := h.row
  have e : keepF file (l.take (j + 1)) = keepF file (l.take j) := by rw [take_succ_getD hj, keepF_snoc, hd, if_pos rfl]
  refine ⟨by rw [e]; exact h.len, by have := h.lt; omega, h.bel.trans (hb.mono hB), ⟨cur, h1.below hb h1.lt, h2, by rw [e]; exact h3, ?_⟩, (hb.cell (p := ⟨bx, 0, none⟩) h.boxlt).trans h.box, Nat.lt_of_lt_of_le h.boxlt hb.size⟩
  have := h4.tail 1
  rwa [List.drop_drop] at this
theorem DelAt.keep (h : DelAt g l file cap bx B w i j W) (hj : j < l.length) (hl : l.length ≤ cap) (hd : otherF file (l.getD j pl0) = false) (hb : Below W.heap.size W W2) (hB : B ≤ W.heap.size) (hg : B ≤ g) (hbx : bx ≠ g) :
    DelAt g l file cap bx B w (i + 1) (j + 1) ((W2.setCell ⟨g, i * 2, none⟩ (.int .i64 (l.getD j pl0).c)).setCell ⟨g, i * 2 + 1, none⟩ (.int .i64 (l.getD j pl0).g)) := by
  obtain ⟨cur, h1, h2, h3, h4⟩ := h.row
  have hlt := h.lt
  have e : keepF file (l.take (j + 1)) = keepF file (l.take j) ++ [l.getD j pl0] := by rw [take_succ_getD hj, keepF_snoc, hd, if_neg (by simp)]
  have hO : Only g W2 ((W2.setCell ⟨g, i * 2, none⟩ (.int .i64 (l.getD j pl0).c)).setCell ⟨g, i * 2 + 1, none⟩ (.int .i64 (l.getD j pl0).g)) := ((Only.refl g W2).setCell _ _).setCell _ _
  have hbx2 := Nat.lt_of_lt_of_le h.boxlt hb.size
  refine ⟨by rw [e, List.length_append, h.len]; rfl, by omega, (h.bel.trans (hb.mono hB)).trans (hO.below hg (Nat.le_trans hB hb.size)), ⟨_, ((h1.below hb h1.lt).set_ _ _).set_ _ _, by simpa using h2, ?_, ?_⟩, ?_, by rw [hO.2]; exact hbx2⟩
  · rw [e]
    exact h3.put h.len (by omega) _
  · have := h4.tail 1
    rw [List.drop_drop] at this
    refine this.far fun t ht => ?_
    rw [Array.getElem?_setIfInBounds, if_neg (by omega), Array.getElem?_setIfInBounds, if_neg (by omega)]
  · rw [cell_of_heap (hO.1.block bx hbx2 (fun e => hbx (by cases e; rfl)))]
    exact (hb.cell (p := ⟨bx, 0, none⟩) h.boxlt).trans h.box
end
set_option maxRecDepth 20000 in
set_option maxHeartbeats 2000000 in
theorem deleteK_any (bx : Nat) (file : Int) (g n cap B : Nat) (l : List Pl) (cur : Array Value) (w : World) (hl : l.length = n) (hn : n ≤ 1000000) (hnc : n ≤ cap) (hcp : cap ≤ maxLen) (hg : Blk w g 30 cur) (hcs : cur.size = cap * 2) (hr : CellsK cur 0 l) (hc : w.cell? ⟨bx, 0, none⟩ = some (.int .i64 file)) (hb : bx < w.heap.size) (hbx : bx ≠ g) (hBg : B ≤ g) (hBw : B ≤ w.heap.size) :
    Calls Try.prog 23 #[.slice (some ⟨g, 0, none⟩) n cap, .func (.func 24) #[] #[.pointer (some ⟨bx, 0, none⟩)]] w fun e w' =>
      ∃ m, e = .returned (.slice (some ⟨g, 0, none⟩) m cap) ∧ (keepF file l).length = m ∧ RowAtK w' g 0 (keepF file l) ∧ g < w'.heap.size ∧ Below B w w' := by
  have hI := index_any bx file g n cap l w hl hn hg.lt (hr.row hg) hc hb
  have H := Lib.hid (And.intro hl (And.intro hnc (And.intro hg (And.intro hcs (And.intro hr (And.intro hc hb))))))
  have zk : ∀ w, (zeroValue 30).run Try.prog w = .ok (.agg #[.int .i64 0, .int .i64 0]) w := zeroKy
  clear hl hnc hg hcs hr hc hb
  go_enter Try.func23, Try.ntmps23
  go_wp2_with fail
  refine hI.mono ?_
  rintro e W0 ⟨r, rfl, hb0, hr0⟩
  obtain ⟨hl, hnc, hg, hcs, hr, hc, hb⟩ := H.out
  rcases hr0 with ⟨rfl, hall⟩ | ⟨k, rfl, hk, h1, h2⟩
  · have HD := Lib.hid (show (keepF file l).length = n ∧ RowAtK W0 g 0 (keepF file l) ∧ g < W0.heap.size ∧ Below B w W0 from by
      rw [keepF_all hall]
      exact ⟨hl, hr.row (hg.below hb0 hg.lt), Nat.lt_of_lt_of_le hg.lt hb0.size, hb0.mono hBw⟩)
    clear hl hnc hg hcs hr hc hb hall hb0
    go_wp2_with fail
    go_ret
    exact ⟨n, rfl, HD.out⟩
  · have hA : DelAt g l file cap bx B w k (k + 1) W0 := by
      refine ⟨by rw [take_keep (by omega) h1 h2, List.length_take]; omega, Nat.lt_succ_self k, hb0.mono hBw, ⟨cur, hg.below hb0 hg.lt, hcs, ?_, ?_⟩, (hb0.cell (p := ⟨bx, 0, none⟩) hb).trans hc, Nat.lt_of_lt_of_le hb hb0.size⟩
      · rw [take_keep (by omega) h1 h2]
        intro j hj
        have hj' : j < k := by simp at hj; omega
        have e : (l.take k).getD j pl0 = l.getD j pl0 := by rw [List.getD_eq_getElem?_getD, List.getElem?_take_of_lt hj', ← List.getD_eq_getElem?_getD]
        rw [e]
        exact hr j (by omega)
      · have := hr.tail (k + 1)
        rwa [Nat.zero_add] at this
    have HA := Lib.hid hA
    have t1 : ((k : Int) == -1) = false := by simp
    have t2 : (0 : Int) ≤ (k : Int) := by omega
    have t3 : (k : Int) < 1000000 := by omega
    have HN := Lib.hid (And.intro hl hnc)
    clear hA hl hnc hg hcs hr hc hb hb0 h1 h2
    go_wp2_with fail
    go_loopg [5, 6] (n - (k + 1)) (fun gg s5 s6 wr => ∃ i j : Nat, j + gg = n ∧ s5 = .int .i64 (i : Int) ∧ s6 = .int .i64 (j : Int) ∧ DelAt g l file cap bx B w i j wr)
    case atStart => exact ⟨k, k + 1, by omega, rfl, by go_num, HA.out⟩
    case round =>
      obtain ⟨i, j, hjg, rfl, rfl, hD⟩ := hrel
      have HD := Lib.hid hD
      have hij := hD.lt
      clear hD
      by_cases hlt : j < n
      · have t4 : decide ((j : Int) < (n : Int)) = true := decide_eq_true (by omega)
        have t5 : (j : Int) < (n : Int) := by omega
        have t6 : (0 : Int) ≤ (j : Int) := by omega
        have hlj : j < l.length := by rw [HN.out.1]; exact hlt
        obtain ⟨x, hx⟩ : ∃ x, x = l.getD j pl0 := ⟨_, rfl⟩
        obtain ⟨cu, u1, u2, u3, u4⟩ := HD.out.row
        obtain ⟨c0, c1⟩ := u4 0 (by rw [List.length_drop]; omega)
        have ed : (l.drop j).getD 0 pl0 = x := by rw [List.getD_eq_getElem?_getD, List.getElem?_drop, ← List.getD_eq_getElem?_getD, hx]; rfl
        rw [ed, Nat.add_zero] at c0 c1
        have d0 : wr.cell? ⟨g, j * 2, none⟩ = some (.int .i64 x.c) := (u1.cell _).trans c0
        have d1 : wr.cell? ⟨g, j * 2 + 1, none⟩ = some (.int .i64 x.g) := (u1.cell _).trans c1
        obtain ⟨W1, hW1⟩ : ∃ W1, wr.alloc (.cells #[.int .i64 x.c, .int .i64 x.g] 30) = W1 := ⟨_, rfl⟩
        have hb1 : Below wr.heap.size wr W1 := by rw [← hW1]; exact belAl (Below.refl _ wr) _
        have hv : Blk W1 wr.heap.size 30 #[.int .i64 x.c, .int .i64 x.g] := by rw [← hW1]; exact Blk.new _ _ _
        have e0 : W1.cell? ⟨wr.heap.size, 0, none⟩ = some (.int .i64 x.c) := hv.cell 0
        have e1 : W1.cell? ⟨wr.heap.size, 1, none⟩ = some (.int .i64 x.g) := hv.cell 1
        have PC := Lib.hid (clos2_any bx file x W1 ((hb1.cell (p := ⟨bx, 0, none⟩) HD.out.boxlt).trans HD.out.box) (Nat.lt_of_lt_of_le HD.out.boxlt hb1.size))
        have HB1 := Lib.hid hb1
        have HV := Lib.hid hv
        have HX := Lib.hid hx
        have HU := Lib.hid (And.intro u1 u2)
        have hBr : B ≤ wr.heap.size := Nat.le_trans hBw HD.out.bel.size
        clear c0 c1 ed u1 u2 u3 u4 hb1 hv hx
        cases ho : otherF file x with
        | true =>
          rw [ho] at PC
          go_wp2_with fail
          refine PC.out.mono ?_
          rintro e W2 ⟨rfl, hb2⟩
          have HB2 := Lib.hid (HB1.out.trans (hb2.mono HB1.out.size))
          have HD2 := Lib.hid (HD.out.skip hlj (by rw [← HX.out]; exact ho) HB2.out hBr)
          clear hb2
          go_wp2_with fail
          go_roundg (n - (j + 1))
          case measure => omega
          case rel => exact ⟨i, j + 1, by omega, rfl, by go_num, HD2.out⟩
        | false =>
          rw [ho] at PC
          go_wp2_with fail
          refine PC.out.mono ?_
          rintro e W2 ⟨rfl, hb2⟩
          have HB2 := Lib.hid (HB1.out.trans (hb2.mono HB1.out.size))
          have hv2 := HV.out.below hb2 HV.out.lt
          have hg2 := HU.out.1.below HB2.out HU.out.1.lt
          have hsz := HU.out.2
          have hnc := HN.out.2
          have hci : i < n := by omega
          have v0 : W2.cell? ⟨wr.heap.size, 0, none⟩ = some (.int .i64 x.c) := hv2.cell 0
          have v1 : W2.cell? ⟨wr.heap.size, 1, none⟩ = some (.int .i64 x.g) := hv2.cell 1
          obtain ⟨y0, hy0⟩ : ∃ y, cu[i * 2]? = some y := ⟨_, Array.getElem?_eq_getElem (by omega)⟩
          obtain ⟨y1, hy1⟩ : ∃ y, cu[i * 2 + 1]? = some y := ⟨_, Array.getElem?_eq_getElem (by omega)⟩
          have g0 : W2.cell? ⟨g, i * 2, none⟩ = some y0 := (hg2.cell _).trans hy0
          have g1 : W2.frozen? ⟨g, i * 2, none⟩ = false := hg2.frozen _
          obtain ⟨W3, hW3⟩ : ∃ W3, W2.setCell ⟨g, i * 2, none⟩ (.int .i64 x.c) = W3 := ⟨_, rfl⟩
          have hg3 : Blk W3 g 30 (cu.setIfInBounds (i * 2) (.int .i64 x.c)) := by rw [← hW3]; exact hg2.set_ _ _
          have g2 : W3.cell? ⟨g, i * 2 + 1, none⟩ = some y1 := (hg3.cell _).trans (by rw [Array.getElem?_setIfInBounds, if_neg (by omega), hy1])
          have g3 : W3.frozen? ⟨g, i * 2 + 1, none⟩ = false := hg3.frozen _
          have HD2 := Lib.hid (show DelAt g l file cap bx B w (i + 1) (j + 1) (W3.setCell ⟨g, i * 2 + 1, none⟩ (.int .i64 x.g)) from by
            rw [← hW3, HX.out]
            exact HD.out.keep hlj (by rw [HN.out.1]; exact hnc) (by rw [← HX.out]; exact ho) HB2.out hBr hBg hbx)
          have t7 : (0 : Int) ≤ (i : Int) := by omega
          have t8 : (i : Int) < (n : Int) := by omega
          clear hb2 hv2 hg2 hg3 hy0 hy1 hsz
          go_wp2_with fail
          go_roundg (n - (j + 1))
          case measure => omega
          case rel => exact ⟨i + 1, j + 1, by omega, by go_num, by go_num, HD2.out⟩
      · obtain rfl : j = n := by omega
        have t4 : decide ((j : Int) < (j : Int)) = false := decide_eq_false (by omega)
        have hlj := HN.out.1
        have hnc := HN.out.2
        obtain ⟨cu, u1, u2, u3, u4⟩ := HD.out.row
        have hlen := HD.out.len
        have htk : l.take j = l := List.take_of_length_le (by omega)
        rw [htk] at u3 hlen
        obtain ⟨L, hL, hcl⟩ := run_clear_two (P := Try.prog) wr 26 30 0 _ _ Try.underlying26 zk rfl rfl g (i * 2) (j - i) (cap - i) (by omega) (fun t ht => by
          rw [u1.cell, Array.getElem?_eq_getElem (by omega)]; rfl) (fun t ht => u1.frozen _)
        have hcl' : ∀ ty, (Builtin.clear_ #[26] ty #[.slice (some ⟨g, i * 2, none⟩) (j - i) (cap - i)]).run Try.prog wr = .ok (.tuple #[]) (wr.setCells g (i * 2) L) := fun ty => hcl
        obtain ⟨cu', w1, w2, w3⟩ := u1.setCells L (i * 2) (by omega)
        have hO : Only g wr (wr.setCells g (i * 2) L) := Only.setCells L (i * 2) (Only.refl g wr)
        obtain ⟨W5, hW5⟩ : ∃ W5, wr.setCells g (i * 2) L = W5 := ⟨_, rfl⟩
        rw [hW5] at hcl' w1 hO
        have HF := Lib.hid (show (keepF file l).length = i ∧ RowAtK W5 g 0 (keepF file l) ∧ g < W5.heap.size ∧ Below B w W5 from
          ⟨hlen, (u3.near fun t ht => by rw [w3 t, if_neg (by omega)]).row w1, w1.lt, HD.out.bel.trans (hO.below hBg (Nat.le_trans hBw HD.out.bel.size))⟩)
        have t7 : (0 : Int) ≤ (i : Int) := by omega
        have t8 : (i : Int) ≤ (j : Int) := by omega
        have t9 : (j : Int) ≤ (cap : Int) := by omega
        have t10 : (i : Int) ≤ (cap : Int) := by omega
        clear hlj u1 u2 u3 u4 hlen htk hcl w1 w2 w3 hO hW5 hL
        go_wp2_with fail
        go_ret
        exact ⟨i, rfl, HF.out⟩
end Go.Proofs.Ytcfjkppgfjlbbaa

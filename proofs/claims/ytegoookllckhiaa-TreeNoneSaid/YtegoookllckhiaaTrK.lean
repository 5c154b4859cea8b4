/-
  The contracts of a tree's New, Tables, Owns and Close, and of all its calls on one that is closed, poisoned or nil.
  Conditions: those that each line bears.
-/
import Derived.Test.YtegoookllckhiaaTrJ
namespace Go.Proofs.Ytegoookllckhiaa
open Go.RowKit
set_option linter.unusedVariables false

/-! ### a nil tree -/
set_option maxHeartbeats 400000 in
theorem tnew_nil1 (a : Option Addr) (w : World) : Calls Try.prog 10 #[.pointer none, .pointer a] w fun e w' => e = .returned (.tuple #[.pointer none, .int .i64 1]) ∧ w = w' := by
  go_enter Try.func10, Try.ntmps10
  go_wp2
  go_ret2
  exact ⟨rfl, rfl⟩
set_option maxHeartbeats 400000 in
theorem tnew_nil2 (a : Option Addr) (w : World) : Calls Try.prog 10 #[.pointer a, .pointer none] w fun e w' => e = .returned (.tuple #[.pointer none, .int .i64 1]) ∧ w = w' := by
  cases a with
  | none => exact tnew_nil1 none w
  | some a =>
    go_enter Try.func10, Try.ntmps10
    go_wp2
    go_ret2
    exact ⟨rfl, rfl⟩
/-- What may answers otherwise than 0 is what Get answers. -/
theorem tget_no (q : Option Addr) (page z : Int) (w : World) (hz : z ≠ 0) (h : ∀ W, Below w.heap.size w W → Calls Try.prog 28 #[.pointer q, .int .i64 page] W fun e w' => e = .returned (.int .i64 z) ∧ W = w') :
    Calls Try.prog 18 #[.pointer q, .int .i64 page] w fun e w' => e = .returned (.tuple #[.agg (enV en0), .int .i64 z]) ∧ Below w.heap.size w w' := by
  have hB0 := (Below.refl w.heap.size w).alloc (Nat.le_refl _) (.cells #[.int .i64 0, .int .i64 0, .bool false] 35)
  have HB0 := Lib.hid hB0
  have E0 := Lib.hid (Blk.new w 35 #[.int .i64 0, .int .i64 0, .bool false])
  have MY := Lib.hid (h _ hB0)
  have t1 : (z != 0) = true := by simp [hz]
  clear h hB0 hz
  go_enter Try.func18, Try.ntmps18
  go_wp2_with fail
  refine MY.out.mono ?_
  rintro ee w1 ⟨rfl, rfl⟩
  go_wp2_with fail
  refine bodyPost_ret (results_row_tmp rfl _ _ w.heap.size 35 #[.int .i64 0, .int .i64 0, .bool false] _ rfl E0.out Try.underlying35 rfl (by kernel_rfl)) rfl ?_
  exact ⟨rfl, HB0.out⟩
theorem tset_no (q : Option Addr) (page z k n : Int) (b : Bool) (w : World) (hz : z ≠ 0) (h : ∀ W, Below w.heap.size w W → Calls Try.prog 28 #[.pointer q, .int .i64 page] W fun e w' => e = .returned (.int .i64 z) ∧ W = w') :
    Calls Try.prog 12 #[.pointer q, .int .i64 page, .agg #[.int .i64 k, .int .i64 n, .bool b]] w fun e w' => e = .returned (.int .i64 z) ∧ Below w.heap.size w w' := by
  have hB0 := (Below.refl w.heap.size w).alloc (Nat.le_refl _) (.cells #[.int .i64 k, .int .i64 n, .bool b] 35)
  have HB0 := Lib.hid hB0
  have MY := Lib.hid (h _ hB0)
  have t1 : (z != 0) = true := by simp [hz]
  clear h hB0 hz
  go_enter Try.func12, Try.ntmps12
  go_wp2_with fail
  refine MY.out.mono ?_
  rintro ee w1 ⟨rfl, rfl⟩
  go_wp2_with fail
  go_ret
  exact ⟨rfl, HB0.out⟩
/-- An entry that may not be: nothing is changed. -/
theorem tset_bad (gT gR gP r gS page : Nat) (k n : Int) (b : Bool) (w : World) (hT : TreeB w gT gR gP r gS) (hp : page < 4096) (hx : ¬ EnOk ⟨k, n, b⟩) :
    Calls Try.prog 12 #[.pointer (some ⟨gT, 0, none⟩), .int .i64 (page : Int), .agg #[.int .i64 k, .int .i64 n, .bool b]] w fun e w' => e = .returned (.int .i64 8) ∧ Below w.heap.size w w' := by
  have hB0 := (Below.refl w.heap.size w).alloc (Nat.le_refl _) (.cells #[.int .i64 k, .int .i64 n, .bool b] 35)
  have HB0 := Lib.hid hB0
  have MY := Lib.hid (tmay_in gT gR gP r gS page _ (Blk.below hT hB0 (Blk.lt hT)) hp)
  have EN := Lib.hid (enc_any k n b (w.alloc (.cells #[.int .i64 k, .int .i64 n, .bool b] 35)))
  have HX := Lib.hid hx
  clear hT hB0 hx
  go_enter Try.func12, Try.ntmps12
  go_wp2_with fail
  refine MY.out.mono ?_
  rintro ee w1 ⟨rfl, rfl⟩
  go_wp2_with fail
  refine EN.out.mono ?_
  rintro ee w2 ⟨u, er, rfl, he, hb2⟩
  obtain ⟨rfl, rfl⟩ : er = 8 ∧ u = 0 := by
    rcases he with ⟨h1, _⟩ | ⟨_, h2, h3⟩
    · exact absurd h1 HX.out
    · exact ⟨h2, h3⟩
  have HB2 := Lib.hid (HB0.out.trans (hb2.mono HB0.out.size))
  clear he hb2
  go_wp2_with fail
  go_ret
  exact ⟨rfl, HB2.out⟩
/-! ### a poisoned root -/
set_option maxRecDepth 20000 in
set_option maxHeartbeats 800000 in
theorem tget_bad (gT gR gF gP r gS page : Nat) (F : Nat → List Nat) (bad : Nat → Bool) (w : World) (hT : TreeB w gT gR gP r gS) (hM : Mem w gR gF 1024 F bad) (hr : r < 1024) (hb : bad r = true) (hp : page < 4096) :
    Calls Try.prog 18 #[.pointer (some ⟨gT, 0, none⟩), .int .i64 (page : Int)] w fun ee w' => ee = .returned (.tuple #[.agg (enV en0), .int .i64 7]) ∧ Below w.heap.size w w' := by
  have hB0 := (Below.refl w.heap.size w).alloc (Nat.le_refl _) (.cells #[.int .i64 0, .int .i64 0, .bool false] 35)
  have HB0 := Lib.hid hB0
  have E0 := Lib.hid (Blk.new w 35 #[.int .i64 0, .int .i64 0, .bool false])
  have HT := Lib.hid hT
  have HM := Lib.hid hM
  have MY := Lib.hid (tmay_in gT gR gP r gS page _ (Blk.below hT hB0 (Blk.lt hT)) hp)
  have DG := Lib.hid (digits_any page (w.alloc (.cells #[.int .i64 0, .int .i64 0, .bool false] 35)) hp)
  clear hT hM hB0
  go_enter Try.func18, Try.ntmps18
  go_wp2_with fail
  refine MY.out.mono ?_
  rintro ee w1 ⟨rfl, rfl⟩
  go_wp2_with fail
  refine DG.out.mono ?_
  rintro ee w2 ⟨rfl, hb2⟩
  have hB2 := HB0.out.trans (hb2.mono HB0.out.size)
  have WK := Lib.hid (twalk_bad (.func (.func 38) #[] #[]) gT gR gF gP r gS page F bad w2 (Blk.below HT.out hB2 (Blk.lt HT.out)) (HM.out.below hB2 HM.out.lt.1 HM.out.lt.2) hr hb)
  have HB2 := Lib.hid hB2
  have E2 := Lib.hid (E0.out.below hb2 E0.out.lt)
  clear hb2 hB2
  go_wp2_with fail
  refine WK.out.mono ?_
  rintro ee w3 ⟨rfl, hb3⟩
  have HB3 := Lib.hid (HB2.out.trans (hb3.mono HB2.out.size))
  have E3 := Lib.hid (E2.out.below hb3 E2.out.lt)
  have b0 : w3.cell? ⟨w.heap.size, 0, none⟩ = some (.int .i64 0) := E3.out.cell 0
  have b1 : w3.cell? ⟨w.heap.size, 1, none⟩ = some (.int .i64 0) := E3.out.cell 1
  have b2 : w3.cell? ⟨w.heap.size, 2, none⟩ = some (.bool false) := E3.out.cell 2
  have f0 : w3.frozen? ⟨w.heap.size, 0, none⟩ = false := E3.out.frozen 0
  have f1 : w3.frozen? ⟨w.heap.size, 1, none⟩ = false := E3.out.frozen 1
  have f2 : w3.frozen? ⟨w.heap.size, 2, none⟩ = false := E3.out.frozen 2
  clear hb3
  go_wp2_with fail
  refine bodyPost_ret (results_row_tmp rfl _ _ w.heap.size 35 #[.int .i64 0, .int .i64 0, .bool false] _ rfl (((E3.out.set_ 0 _).set_ 1 _).set_ 2 _) Try.underlying35 rfl (by kernel_rfl)) rfl ?_
  exact ⟨rfl, ((HB3.out.setCell (Nat.le_refl _) _).setCell (Nat.le_refl _) _).setCell (Nat.le_refl _) _⟩
set_option maxRecDepth 20000 in
set_option maxHeartbeats 800000 in
theorem tset_poison (gT gR gF gP r gS page : Nat) (k n : Int) (b : Bool) (F : Nat → List Nat) (bad : Nat → Bool) (w : World) (hT : TreeB w gT gR gP r gS) (hM : Mem w gR gF 1024 F bad) (hr : r < 1024) (hb : bad r = true) (hp : page < 4096) (hx : EnOk ⟨k, n, b⟩) :
    Calls Try.prog 12 #[.pointer (some ⟨gT, 0, none⟩), .int .i64 (page : Int), .agg #[.int .i64 k, .int .i64 n, .bool b]] w fun e w' => e = .returned (.int .i64 7) ∧ Below w.heap.size w w' := by
  have hB0 := (Below.refl w.heap.size w).alloc (Nat.le_refl _) (.cells #[.int .i64 k, .int .i64 n, .bool b] 35)
  have HB0 := Lib.hid hB0
  have HT := Lib.hid hT
  have HM := Lib.hid hM
  have MY := Lib.hid (tmay_in gT gR gP r gS page _ (Blk.below hT hB0 (Blk.lt hT)) hp)
  have EN := Lib.hid (enc_any k n b (w.alloc (.cells #[.int .i64 k, .int .i64 n, .bool b] 35)))
  have HX := Lib.hid hx
  clear hT hM hB0 hx
  go_enter Try.func12, Try.ntmps12
  go_wp2_with fail
  refine MY.out.mono ?_
  rintro ee w1 ⟨rfl, rfl⟩
  go_wp2_with fail
  refine EN.out.mono ?_
  rintro ee w2 ⟨u, er, rfl, he, hb2⟩
  obtain rfl : er = 0 := by
    rcases he with ⟨_, h2, _⟩ | ⟨h1, _⟩
    · exact h2
    · exact absurd HX.out h1
  have HB2 := Lib.hid (HB0.out.trans (hb2.mono HB0.out.size))
  have hB3 := (Below.refl w2.heap.size w2).alloc (Nat.le_refl _) (.cells #[.slice none 0 0] 23)
  have HB3 := Lib.hid (HB2.out.trans (hB3.mono HB2.out.size))
  have W3 := Lib.hid (Blk.new w2 23 #[.slice none 0 0])
  have DG := Lib.hid (digits_any page (w2.alloc (.cells #[.slice none 0 0] 23)) hp)
  clear he hb2 hB3
  go_wp2_with fail
  refine DG.out.mono ?_
  rintro ee w4 ⟨rfl, hb4⟩
  have hs3 := HB3.out.size
  obtain ⟨d0, d1, d2, d3, hdg⟩ : ∃ d0 d1 d2 d3 : Nat, digV page = #[.int .i64 ((d0 : Nat) : Int), .int .i64 ((d1 : Nat) : Int), .int .i64 ((d2 : Nat) : Int), .int .i64 ((d3 : Nat) : Int)] := ⟨_, _, _, _, rfl⟩
  rw [hdg]
  have HDG := Lib.hid hdg
  have hB5 := hb4.alloc hb4.size (.cells #[.int .i64 ((d0 : Nat) : Int), .int .i64 ((d1 : Nat) : Int), .int .i64 ((d2 : Nat) : Int), .int .i64 ((d3 : Nat) : Int)] 68)
  have HB5 := Lib.hid (HB3.out.trans (hB5.mono hs3))
  have W5 := Lib.hid (W3.out.below hB5 W3.out.lt)
  clear hb4 hB5 hs3 hdg
  have WK := Lib.hid (twalk_bad (.func (.func 32) #[] #[.pointer (some ⟨w2.heap.size, 0, none⟩)]) gT gR gF gP r gS page F bad _ (Blk.below HT.out HB5.out (Blk.lt HT.out)) (HM.out.below HB5.out HM.out.lt.1 HM.out.lt.2) hr hb)
  rw [HDG.out] at WK
  go_wp2_with fail
  refine WK.out.mono ?_
  rintro ee w6 ⟨rfl, hb6⟩
  have c6 : w6.cell? ⟨w2.heap.size, 0, none⟩ = some (.slice none 0 0) := (W5.out.below hb6 W5.out.lt).cell 0
  have HB6 := Lib.hid (HB5.out.trans (hb6.mono HB5.out.size))
  clear hb6
  go_wp2_with fail
  go_ret
  exact ⟨rfl, HB6.out⟩
end Go.Proofs.Ytegoookllckhiaa

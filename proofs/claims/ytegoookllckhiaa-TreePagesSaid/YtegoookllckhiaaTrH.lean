/-
  A tree in memory, with what its tables say; Get's contract.
  Conditions: those that each line bears.
-/
import Derived.Test.YtegoookllckhiaaTrG
import Derived.Test.YtegoookllckhiaaApp
namespace Go.Proofs.Ytegoookllckhiaa
open Go.RowKit
set_option linter.unusedVariables false

/-- A live tree: its own cells, its set of tables, and the numbers that they have. -/
structure TreeG (w : World) (gT gR gP r gS gL : Nat) (F : Nat → List Nat) (bl : List Bool) (g : Nat → Nat → Nat) (e : List En) : Prop where
  tr : TreeB w gT gR gP r gS
  st : SetAt w gS gL bl
  nod : Nod g (fun f => bl.getD f false = true) 0 0
  con : Con g F 0 0
  root : g 0 0 = r + 1
  pg : ∀ q, g 4 q = numE (e.getD q en0)
  el : e.length = 4096
  eok : ∀ x ∈ e, EnOk x
theorem en0_ok : EnOk en0 := .inr (.inr ⟨.inl rfl, rfl, rfl⟩)
theorem getE_ok {e : List En} (h : ∀ x ∈ e, EnOk x) (q : Nat) : EnOk (e.getD q en0) := by
  by_cases c : q < e.length
  · exact h _ (getD_mem_or _ _ _ c)
  · rw [List.getD_eq_getElem?_getD, List.getElem?_eq_none (by omega)]
    exact en0_ok
theorem dec_of {v : Nat} {y x : En} {er : Nat} (h : DecIs v y er) (hx : EnOk x) (hv : v = numE x) : y = x ∧ er = 0 := by
  rcases h with ⟨h1, h2, h3⟩ | ⟨h1, h2, h3⟩
  · exact ⟨numE_inj h2 hx (h3.trans hv), h1⟩
  · exact absurd hv.symm (h3 x hx)
set_option maxRecDepth 20000 in
set_option maxHeartbeats 1600000 in
theorem tget_live (gT gR gF gP r gS gL page : Nat) (F : Nat → List Nat) (bad : Nat → Bool) (bl : List Bool) (g : Nat → Nat → Nat) (e : List En) (w : World) (hG : TreeG w gT gR gP r gS gL F bl g e) (hM : Mem w gR gF 1024 F bad) (hb : ∀ f, f < 1024 → bad f = false) (hp : page < 4096) :
    Calls Try.prog 18 #[.pointer (some ⟨gT, 0, none⟩), .int .i64 (page : Int)] w fun ee w' => ee = .returned (.tuple #[.agg (enV (e.getD page en0)), .int .i64 0]) ∧ Below w.heap.size w w' := by
  have hB0 := (Below.refl w.heap.size w).alloc (Nat.le_refl _) (.cells #[.int .i64 0, .int .i64 0, .bool false] 35)
  have HB0 := Lib.hid hB0
  have E0 := Lib.hid (Blk.new w 35 #[.int .i64 0, .int .i64 0, .bool false])
  have HG := Lib.hid hG
  have HM := Lib.hid hM
  have HBD := Lib.hid hb
  have MY := Lib.hid (tmay_in gT gR gP r gS page _ (Blk.below hG.tr hB0 (Blk.lt hG.tr)) hp)
  have DG := Lib.hid (digits_any page (w.alloc (.cells #[.int .i64 0, .int .i64 0, .bool false] 35)) hp)
  clear hG hM hb hB0
  go_enter Try.func18, Try.ntmps18
  go_wp2_with fail
  refine MY.out.mono ?_
  rintro ee w1 ⟨rfl, rfl⟩
  go_wp2_with fail
  refine DG.out.mono ?_
  rintro ee w2 ⟨rfl, hb2⟩
  have hB2 := HB0.out.trans (hb2.mono HB0.out.size)
  have WK := Lib.hid (twalk_any 38 #[] (enters_of Try.func38 (by kernel_rfl) rfl) (fun _ M _ => M = fun _ => False)
    (fun l M W W' h _ => h) (fun l M W h k hk => by rw [h] at hk; exact hk.elim) (fun l M W f h _ => (way_none (f : Int) W).mono (fun ee w' hh => ⟨hh.1, M, h, fun k hk => .inl hk, hh.2 ▸ Turns.refl _ _⟩))
    gT gR gF gP r gS page 0 F bad g _ (fun _ => False) w2 (Blk.below HG.out.tr hB2 (Blk.lt HG.out.tr)) (HM.out.below hB2 HM.out.lt.1 HM.out.lt.2) HBD.out HG.out.nod HG.out.con HG.out.root hp rfl (fun h => h) (fun h => h) (fun h => h))
  have HB2 := Lib.hid hB2
  have E2 := Lib.hid (E0.out.below hb2 E0.out.lt)
  clear hb2 hB2
  go_wp2_with fail
  refine WK.out.mono ?_
  rintro ee w3 ⟨rfl, L, M', _, _, _, _, _, _, ht3⟩
  have HB3 := Lib.hid (HB2.out.trans ((ht3.below (B := w2.heap.size) (fun k hk => hk.elim) (Nat.le_refl _)).mono HB2.out.size))
  have E3 := Lib.hid (ht3.blk E2.out (fun h => h))
  obtain ⟨x, hx⟩ : ∃ x, x = e.getD page en0 := ⟨_, rfl⟩
  have hxo : EnOk x := by rw [hx]; exact getE_ok HG.out.eok page
  have HX := Lib.hid hx
  have hv : g 4 page = numE x := by rw [hx]; exact HG.out.pg page
  have DC := Lib.hid (dec_any (g 4 page) w3 (by have := numE_lt hxo; omega))
  have HXO := Lib.hid hxo
  have HV := Lib.hid hv
  clear ht3 hx hxo hv
  go_wp2_with fail
  refine DC.out.mono ?_
  rintro ee w4 ⟨k, n, b, er, rfl, hde, hb4⟩
  obtain ⟨hy, rfl⟩ := dec_of hde HXO.out HV.out
  have HY := Lib.hid hy
  have HB4 := Lib.hid (HB3.out.trans (hb4.mono HB3.out.size))
  have E4 := Lib.hid (E3.out.below hb4 E3.out.lt)
  have b0 : w4.cell? ⟨w.heap.size, 0, none⟩ = some (.int .i64 0) := E4.out.cell 0
  have b1 : w4.cell? ⟨w.heap.size, 1, none⟩ = some (.int .i64 0) := E4.out.cell 1
  have b2 : w4.cell? ⟨w.heap.size, 2, none⟩ = some (.bool false) := E4.out.cell 2
  have f0 : w4.frozen? ⟨w.heap.size, 0, none⟩ = false := E4.out.frozen 0
  have f1 : w4.frozen? ⟨w.heap.size, 1, none⟩ = false := E4.out.frozen 1
  have f2 : w4.frozen? ⟨w.heap.size, 2, none⟩ = false := E4.out.frozen 2
  clear hde hb4 hy
  go_wp2_with fail
  refine bodyPost_ret (results_row_tmp rfl _ _ w.heap.size 35 #[.int .i64 k, .int .i64 n, .bool b] _ rfl (((E4.out.set_ 0 _).set_ 1 _).set_ 2 _) Try.underlying35 rfl (by kernel_rfl)) rfl ?_
  refine ⟨?_, ((HB4.out.setCell (Nat.le_refl _) _).setCell (Nat.le_refl _) _).setCell (Nat.le_refl _) _⟩
  rw [← HX.out, ← HY.out]
  rfl
end Go.Proofs.Ytegoookllckhiaa

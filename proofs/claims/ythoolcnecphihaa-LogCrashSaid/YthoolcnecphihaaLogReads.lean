/-
  LogReads answers true for any sectors and any gen, and writes nothing that was there.
  Conditions: the sectors are read in memory.
-/
import Derived.Test.YthoolcnecphihaaLogF
import Derived.Test.YthoolcnecphihaaRefD
namespace Go.Proofs.Ythoolcnecphihaa
open Go.RowKit
set_option linter.unusedVariables false

set_option maxHeartbeats 400000 in
theorem logReads_edge (A : Option Addr) (l c : Nat) (g : Int) (w : World) (h : 64 < l) :
    Calls Try.prog 3 #[.slice A l c, .int .u32 g] w fun e w' => e = .returned (.bool true) ∧ Below w.heap.size w w' := by
  have t1 : decide ((64 : Int) < (l : Int)) = true := decide_eq_true (by omega)
  clear h
  go_enter Try.func3, Try.ntmps3
  go_wp2_with fail
  refine (logAnswers_any _).mono ?_
  rintro e w1 ⟨rfl, hb⟩
  go_wp2
  go_ret
  exact ⟨rfl, hb⟩

theorem Pts.addr {w : World} {A : Option Addr} {N c : Nat} {xss : List (List Nat)} (h : Pts w (.slice A N c) xss) (hN : 0 < N) : ∃ b off, A = some ⟨b, off, none⟩ := by
  obtain ⟨A', N', c', e, _, _, _, h1⟩ := h
  injection e with e1 e2 e3
  subst e1 e2
  obtain ⟨b, off, h2, _⟩ := h1 hN
  exact ⟨b, off, h2⟩
/-- What is loose behind i rounds. -/
def rdL (xss : List (List Nat)) (i : Nat) : Nat → Option (List Nat) := fun j => if j < i ∧ (xss.getD j []).length = 64 then some (xss.getD j []) else none
theorem rdL_step {xss : List (List Nat)} {i : Nat} (h : (xss.getD i []).length = 64) : upd (rdL xss i) i (some (xss.getD i [])) = rdL xss (i + 1) := by
  funext j
  unfold upd rdL
  by_cases e : j = i
  · subst e
    rw [if_pos rfl, if_pos ⟨by omega, h⟩]
  · rw [if_neg e]
    by_cases c : j < i ∧ (xss.getD j []).length = 64
    · rw [if_pos c, if_pos ⟨by omega, c.2⟩]
    · rw [if_neg c, if_neg (fun c' => c ⟨by omega, c'.2⟩)]
theorem rdL_skip {xss : List (List Nat)} {i : Nat} (h : ¬ (xss.getD i []).length = 64) : rdL xss (i + 1) = rdL xss i := by
  funext j
  unfold rdL
  by_cases c : j < i ∧ (xss.getD j []).length = 64
  · rw [if_pos c, if_pos ⟨by omega, c.2⟩]
  · rw [if_neg c, if_neg (fun c' => by
      by_cases e : j = i
      · subst e; exact h c'.2
      · exact c ⟨by omega, c'.2⟩)]
theorem rdL_zero (xss : List (List Nat)) : rdL xss 0 = fun _ => none := by
  funext j
  unfold rdL
  rw [if_neg (by omega)]

/-- What holds ahead of round i. -/
def ReadsAt (w : World) (xss : List (List Nat)) (i : Nat) (wx : World) : Prop :=
  Dsk wx (w.heap.size + 2) w.heap.size (w.heap.size + 1) 192 (fun _ => zer) (rdL xss i) Tr.none_ ∧ Below w.heap.size w wx
/-- The disk's blocks lie below. -/
theorem dk_lt {w wx : World} {n : Nat} {S : Nat → List Nat} {L : Nat → Option (List Nat)} {t : Tr} (h : Dsk wx (w.heap.size + 2) w.heap.size (w.heap.size + 1) n S L t) : ∀ q, dk (w.heap.size + 2) w.heap.size (w.heap.size + 1) q → q < wx.heap.size := by
  have := h.lt
  rintro q (e | e | e) <;> omega

set_option maxRecDepth 20000 in
set_option maxHeartbeats 1600000 in
theorem logReads_any (v0 : Value) (xss : List (List Nat)) (gen : Nat) (w : World) (h0 : Pts w v0 xss) (hl : xss.length ≤ 64) (hg : gen < 4294967296) :
    Calls Try.prog 3 #[v0, .int .u32 (gen : Int)] w fun e w' => e = .returned (.bool true) ∧ Below w.heap.size w w' := by
  have H0 := Lib.hid h0
  obtain ⟨A, N, c, rfl, hN, hNc, hcm, -⟩ := h0
  have HN := Lib.hid hN
  have HG := Lib.hid hg
  have hN64 : N ≤ 64 := by omega
  have t1 : decide ((64 : Int) < (N : Int)) = false := decide_eq_false (by omega)
  unfold maxLen at hcm
  clear hl hN hg
  go_enter Try.func3, Try.ntmps3
  go_wp2_with fail
  refine (dnew_any 192 192 w (by unfold NearD; omega)).mono ?_
  rintro e w1 ⟨rfl, hd1, hb1, hz1⟩
  have HS1 := Lib.hid (show ReadsAt w xss 0 w1 from ⟨by rw [rdL_zero]; exact hd1, hb1⟩)
  clear hd1 hb1 hz1
  go_wp2_with fail
  go_loopw [6] (fun v wx => ∃ i : Nat, i ≤ N ∧ v = .int .i64 i ∧ ReadsAt w xss i wx) (fun v _ => N - (intOf v).toNat)
  case atStart => exact ⟨0, by omega, rfl, HS1.out⟩
  case round =>
    obtain ⟨i, hi, rfl, hr⟩ := hrel
    have HR := Lib.hid hr
    clear hr
    by_cases hlt : i < N
    · have t4 : decide ((i : Int) < (N : Int)) = true := decide_eq_true (by omega)
      have t5 : (i : Int) < (N : Int) := by omega
      have t6 : (0 : Int) ≤ (i : Int) := by omega
      obtain ⟨b, off, rfl⟩ := H0.out.addr (by omega)
      obtain ⟨u, hc0, hu⟩ := H0.out.at_ (j := i) (by rw [HN.out]; exact hlt)
      have hcell : wr.cell? ⟨b, off + i, none⟩ = some u := (HR.out.2.cell (World.block_lt_of_cell? w _ hc0)).trans hc0
      have HU := Lib.hid (hu.below HR.out.2)
      obtain ⟨A2, n2, c2, rfl, hn2, -⟩ := hu
      clear hc0
      by_cases h64 : (xss.getD i []).length = 64
      · go_wp2_with fail
        refine (dwrite_yes _ _ _ _ _ _ _ i _ (xss.getD i []) wr HR.out.1 (by omega) none_ans (fun w' ho => ⟨w.heap.size, HU.out.keep (fun p hp => by rw [World.cell?_of_block (ho.1.block p.block (Nat.lt_of_lt_of_le hp HR.out.2.size) (fun e => by injection e with e; omega))]), HR.out.2.size⟩) h64).mono ?_
        rintro e w2 ⟨rfl, hd2, ht2, _⟩
        rw [none_next, rdL_step h64] at hd2
        have HS2 := Lib.hid (show ReadsAt w xss (i + 1) w2 from ⟨hd2, ht2.fresh_ HR.out.2 (Nat.le_refl _) (by omega) (Nat.le_refl _) (by omega)⟩)
        clear hd2 ht2 h64
        go_wp2_with fail
        go_roundw
        case rel => exact ⟨i + 1, by omega, by go_num, HS2.out⟩
        case measure => simp [intOf]; omega
      · go_wp2_with fail
        refine (dwrite_size _ _ _ _ _ wr (by omega) (dhas_yes _ _ _ _ _ _ _ i wr HR.out.1 (by omega))).mono ?_
        rintro e w2 ⟨rfl, rfl⟩
        have HS2 := Lib.hid (show ReadsAt w xss (i + 1) wr from ⟨by rw [rdL_skip h64]; exact HR.out.1, HR.out.2⟩)
        clear h64
        go_wp2_with fail
        go_roundw
        case rel => exact ⟨i + 1, by omega, by go_num, HS2.out⟩
        case measure => simp [intOf]; omega
    · obtain rfl : i = N := by omega
      obtain ⟨F, hF⟩ : ∃ F, F = last (fun _ => zer) (rdL xss i) := ⟨_, rfl⟩
      have hdm := dk_lt HR.out.1
      have HDM := Lib.hid hdm
      have HFL := Lib.hid (show ∀ j, j < 64 → (F j).length = 64 from fun j hj => by rw [hF]; exact (HR.out.1.last_ (by omega)).1)
      clear hdm
      go_wp2_with fail
      refine (replay_ok _ _ _ _ _ _ gen _ HR.out.1 (by omega) HG.out).mono ?_
      rintro e w3 ⟨m, v3, hs3, rfl, hl3, hd3, ht3⟩
      rw [← hF] at hs3 hl3
      have HST := Lib.hid hs3
      have HL3 := Lib.hid hl3
      have HD3 := Lib.hid hd3
      have HN3 := Lib.hid (ht3.fresh_ HR.out.2 (Nat.le_refl _) (by omega) (Nat.le_refl _) (by omega))
      clear hs3 hl3 hd3 ht3
      go_wp2_with fail
      refine (logAnswers_any _).mono ?_
      rintro e w4 ⟨rfl, hb4⟩
      have HL4 := Lib.hid (HL3.out.turns HDM.out (Turns.of_below hb4 (Nat.le_refl _)))
      have HD4 := Lib.hid (HD3.out.fresh hb4)
      have HN4 := Lib.hid (HN3.out.trans (hb4.mono HN3.out.size))
      clear hb4
      go_wp2_with fail
      refine (logSectors_any _ _ _ _ _ _ w4 HD4.out (by omega)).mono ?_
      rintro e w5 ⟨v5, rfl, hd5, hl5, ht5⟩
      rw [← hF] at hl5
      have HP5 := Lib.hid hl5.pts
      have HL5 := Lib.hid (HL4.out.turns HDM.out ht5)
      have HN5 := Lib.hid (ht5.fresh_ HN4.out (Nat.le_refl _) (by omega) (Nat.le_refl _) (by omega))
      clear hd5 hl5 ht5 hF
      go_wp2_with fail
      refine (records_any v5 (firsts F 64) gen w5 HP5.out (by rw [firsts_length]; exact Nat.le_refl _) (fun j hj => by rw [firsts_getD _ _ _ hj]; exact HFL.out j hj) HG.out).mono ?_
      rintro e w6 ⟨m6, v6, hs6, rfl, hl6, hb6⟩
      obtain rfl : m6 = m := hs6.uniq HST.out (fun j hj => firsts_getD _ _ _ hj)
      rw [pays_congr (F' := F) (fun j hj => firsts_getD F 64 j (by have := HST.out.1; omega))] at hl6
      have HP6 := Lib.hid hl6.pts
      have HQ6 := Lib.hid (HL5.out.turns HDM.out (Turns.of_below hb6 (Nat.le_refl _))).pts
      have HN6 := Lib.hid (HN5.out.trans (hb6.mono HN5.out.size))
      clear hs6 hl6 hb6
      go_wp2_with fail
      refine (sameAll_any _ _ _ _ _ HQ6.out HP6.out).mono ?_
      rintro e w7 ⟨rfl, q, rfl⟩
      have HT := Lib.hid (show decide (pays F m6 = pays F m6) = true from decide_eq_true rfl)
      rw [HT.out]
      go_wp2
      go_ret
      exact ⟨by simp, below_drewN HN6.out q⟩
end Go.Proofs.Ythoolcnecphihaa

/-
  The contract of the registry's takeBase: a registry of which nothing is known has all that a base says.
  Conditions: the bytes are a base, or none; they are read in memory that the registry's own blocks are no part of.
-/
import Derived.Test.YtfnegbcpiejdaabRegE
import Derived.Laws.BitsAllLaws
namespace Go.Proofs.Ytfnegbcpiejdaab
open Go.RowKit
set_option linter.unusedVariables false

/-- The first k states of a base. -/
def stK (b : List Nat) (k : Nat) : List Nat := (List.range 32).map (fun s => if s < k then b.getD (1 + s) 0 else 0)
theorem stK_zero (b : List Nat) : stK b 0 = List.replicate 32 0 := by
  refine List.ext_getElem (by simp [stK]) fun k h1 h2 => ?_
  rw [List.getElem_replicate]
  simp only [stK, List.getElem_map, Nat.not_lt_zero, if_false]
theorem stK_succ (b : List Nat) (k : Nat) : stK b (k + 1) = (stK b k).set k (b.getD (1 + k) 0) := by
  refine List.ext_getElem (by simp [stK]) fun s h1 h2 => ?_
  rw [List.getElem_set]
  simp only [stK, List.getElem_map, List.getElem_range]
  by_cases e : k = s
  · subst e; simp
  · rw [if_neg e]
    by_cases c : s < k
    · rw [if_pos c, if_pos (by omega)]
    · rw [if_neg c, if_neg (by omega)]
theorem stK_all (b : List Nat) (hb : b.length = 161) : stK b 32 = (b.drop 1).take 32 := by
  refine List.ext_getElem (by simp [stK, hb]) fun s h1 h2 => ?_
  have hs : s < 32 := by simpa [stK] using h1
  simp [stK, hs, Nat.add_comm 1 s, show s + 1 < b.length by omega]
theorem md0_parts (b : List Nat) : md0 = (flagsOf b 0, stK b 0) := by rw [flagsOf_zero, stK_zero]; rfl
theorem bit_int (y R : Nat) (hy : y < 256) : (bits .and .u8 ((y : Int) / 2 ^ R) 1 == 1) = decide (y / 2 ^ R % 2 = 1) := by
  have e : (y : Int) / 2 ^ R = ((y / 2 ^ R : Nat) : Int) := by rw [Int.natCast_ediv, Int.natCast_pow]; rfl
  have h : y / 2 ^ R < 256 := Nat.lt_of_le_of_lt (Nat.div_le_self _ _) hy
  rw [e, show (1 : Int) = ((1 : Nat) : Int) from rfl, u8_and_nat _ _ h (by omega), Nat.and_one_is_mod]
  have h2 : y / 2 ^ R % 2 < 2 := Nat.mod_lt _ (by omega)
  generalize y / 2 ^ R % 2 = m at h2 ⊢
  match m, h2 with
  | 0, _ => rfl
  | 1, _ => rfl
set_option maxRecDepth 100000 in
set_option maxHeartbeats 2000000 in
theorem takeBase_any (gR gB gJ : Nat) (md : MD) (x : Value) (b : List Nat) (B : Nat) (w : World) (h : RegAt w gR gB gJ md0) (hx : Bts w B x b) (hBR : B ≤ gR) (hBB : B ≤ gB) (hd : decB b = some md) :
    Calls Try.prog 33 #[.pointer (some ⟨gR, 0, none⟩), x] w fun e w' => e = .returned (.bool true) ∧ RegAt w' gR gB gJ md ∧ Turns (fun k => k = gR ∨ k = gB) w w' := by
  have HR := Lib.hid h
  have HX := Lib.hid hx
  have HBR := Lib.hid hBR
  have HBB := Lib.hid hBB
  by_cases hb0 : b = []
  · subst hb0
    obtain rfl : md0 = md := by
      unfold decB at hd
      rw [if_pos rfl] at hd
      injection hd
    obtain ⟨A, n, c, rfl, hn, -⟩ := id hx
    obtain rfl : n = 0 := hn.symm
    clear h hx hd hBR hBB
    go_enter Try.func33, Try.ntmps33
    go_wp2
    go_ret
    exact ⟨rfl, HR.out, Turns.refl _ _⟩
  · obtain ⟨hl, hk, hst, rfl⟩ := decB_form hd hb0
    obtain ⟨A, n, c, rfl, hn, hnm, ⟨hnc, hA⟩, hcm, hbb, hcell⟩ := id hx
    obtain rfl : n = 161 := by omega
    obtain ⟨g, off, rfl, hgB, hcl⟩ := hcell (by omega)
    have HCL := Lib.hid hcl
    have HL := Lib.hid hl
    have HST := Lib.hid hst
    have HBY := Lib.hid hbb
    have c0 : w.cell? ⟨g, off, none⟩ = some (.int .u8 1) := by
      have := hcl 0 (by omega)
      rw [hk] at this
      simpa using this
    have HGB := Lib.hid hgB
    have HST0 := Lib.hid (show RegAt w gR gB gJ (flagsOf b 0, stK b 0) from by rw [← md0_parts]; exact HR.out)
    clear h hx hd hBR hBB hb0 hl hk hst hn hnm hnc hA hcm hbb hcell hcl hgB
    go_enter Try.func33, Try.ntmps33
    go_wp2_with fail
    go_loopg [5, 6, 20] 32 (fun gg _ _ s20 wr => ∃ k : Nat, k + gg = 32 ∧ s20 = .int .i64 (k : Int) ∧ RegAt wr gR gB gJ (flagsOf b 0, stK b k) ∧ Turns (fun k => k = gR ∨ k = gB) w wr)
    case atStart => exact ⟨0, by omega, rfl, HST0.out, Turns.refl _ _⟩
    case round =>
      obtain ⟨k, hkg, rfl, hr, ht⟩ := hrel
      have HRR := Lib.hid hr
      have HT := Lib.hid ht
      have hgh : g < w.heap.size := by have := HGB.out; have := HBR.out; have := HR.out.reg.lt; omega
      have hgo : wr.heap[g]? = w.heap[g]? := ht.block g hgh (by have := HGB.out; have := HBR.out; have := HBB.out; omega)
      by_cases hlt : k < 32
      · have t1 : decide ((k : Int) < 32) = true := decide_eq_true (by omega)
        have hi0 : (0 : Int) ≤ (k : Int) := by omega
        have hi1 : (k : Int) < 32 := by omega
        obtain ⟨y, hy⟩ : ∃ y, y = b.getD (1 + k) 0 := ⟨_, rfl⟩
        have hcy : wr.cell? ⟨g, off + (1 + k), none⟩ = some (.int .u8 (y : Int)) := by
          rw [World.cell?_of_block hgo, HCL.out (1 + k) (by omega), hy]
        have hy3 : y ≤ 3 := by rw [hy]; exact HST.out k hlt
        have cS := hr.cellS hlt
        have fS : wr.frozen? ⟨gR, 2 + k, none⟩ = false := hr.reg.frozen _
        obtain ⟨old, ho⟩ : ∃ old, old = (flagsOf b 0, stK b k).2.getD k 0 := ⟨_, rfl⟩
        rw [← ho] at cS
        have MS := Lib.hid (mayState_any (k : Int) (y : Int))
        rw [decide_eq_true (show 0 ≤ (k : Int) ∧ (k : Int) ≤ 31 ∧ 0 ≤ (y : Int) ∧ (y : Int) ≤ 3 by omega)] at MS
        have c3 : IntKind.i64.wrap (y : Int) = (y : Int) := by rw [IntKind.wrap_i64]; omega
        have HY := Lib.hid hy
        clear hr ht hgo hgh ho hy
        go_wp2_with fail
        refine (MS.out _).mono ?_
        rintro e w' ⟨rfl, rfl⟩
        go_wp2
        go_roundg (32 - (k + 1))
        case measure => omega
        case rel =>
          refine ⟨k + 1, by omega, by go_num, ?_, HT.out.trans (Turns.self _ _ _ _ _ (.inl rfl))⟩
          rw [stK_succ, ← HY.out]
          exact HRR.out.state hlt hy3
      · obtain rfl : k = 32 := by omega
        clear hr ht hgo hgh hlt
        go_wp2_with fail
        go_loopg [7, 40] 1024 (fun gg _ s40 w3 => ∃ k : Nat, k + gg = 1024 ∧ s40 = .int .i64 (k : Int) ∧ RegAt w3 gR gB gJ (flagsOf b k, stK b 32) ∧ Turns (fun k => k = gR ∨ k = gB) w w3)
        case atStart => exact ⟨0, by omega, rfl, HRR.out, HT.out⟩
        case round =>
          obtain ⟨k, hkg, rfl, hr, ht⟩ := hrel
          have HR3 := Lib.hid hr
          have HT3 := Lib.hid ht
          have hgh : g < w.heap.size := by have := HGB.out; have := HBR.out; have := HR.out.reg.lt; omega
          have hgo : wr.heap[g]? = w.heap[g]? := ht.block g hgh (by have := HGB.out; have := HBR.out; have := HBB.out; omega)
          by_cases hlt : k < 1024
          · have t1 : decide ((k : Int) < 1024) = true := decide_eq_true (by omega)
            obtain ⟨D, hD⟩ : ∃ D, D = k / 8 := ⟨_, rfl⟩
            obtain ⟨R, hR⟩ : ∃ R, R = k % 8 := ⟨_, rfl⟩
            have d1 : (k : Int).tdiv 8 = (D : Int) := by rw [Int.tdiv_eq_ediv_of_nonneg (by omega)]; omega
            have d2 : (k : Int).tmod 8 = (R : Int) := by rw [Int.tmod_eq_emod_of_nonneg (by omega)]; omega
            have hD1 : D < 128 := by omega
            have hR1 : R < 8 := by omega
            obtain ⟨y, hy⟩ : ∃ y, y = b.getD (33 + D) 0 := ⟨_, rfl⟩
            have hcy : wr.cell? ⟨g, off + (33 + D), none⟩ = some (.int .u8 (y : Int)) := by
              rw [World.cell?_of_block hgo, HCL.out (33 + D) (by omega), hy]
            have HF := Lib.hid (show flagAt b k = decide (y / 2 ^ R % 2 = 1) from by unfold flagAt; rw [hy, hD, hR])
            have hy8 : y < 256 := by rw [hy]; exact HBY.out (33 + D) (by omega)
            have hbit := bit_int y R hy8
            rw [← HF.out] at hbit
            have c1 := hr.cell1
            cases hf : flagAt b k with
            | true =>
              rw [hf] at hbit
              obtain ⟨w4, hst4, hr4, ho4⟩ := hr.store hlt
              have HR4 := Lib.hid hr4
              have HO4 := Lib.hid ho4
              have HFF := Lib.hid hf
              clear hr ht hgo hgh hD hR hy hr4 ho4 hf
              go_wp2_with fail
              go_roundg (1024 - (k + 1))
              case measure => omega
              case rel =>
                refine ⟨k + 1, by omega, by go_num, ?_, HT3.out.trans (Turns.of_only HO4.out (.inr rfl))⟩
                rw [flagsOf_yes hlt HFF.out]
                exact HR4.out
            | false =>
              rw [hf] at hbit
              have HFF := Lib.hid hf
              clear hr ht hgo hgh hD hR hy hf
              go_wp2_with fail
              go_roundg (1024 - (k + 1))
              case measure => omega
              case rel =>
                refine ⟨k + 1, by omega, by go_num, ?_, HT3.out⟩
                rw [flagsOf_no HFF.out]
                exact HR3.out
          · obtain rfl : k = 1024 := by omega
            clear hr ht hgo hgh hlt
            go_wp2
            go_ret
            have h3 := HR3.out
            rw [stK_all b HL.out] at h3
            exact ⟨rfl, h3, HT3.out⟩
end Go.Proofs.Ytfnegbcpiejdaab

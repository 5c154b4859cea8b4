/-
  The search of CachePlays: where a page stands, and whether its frame is busy.
  Conditions: none beside those that each line bears.
-/
import Derived.Test.YtcfjkppgfjlbbaaCacF
import Derived.Deep.CutRange
import Derived.Deep.CutBlock
import Derived.StillTailTactics
namespace Go.Proofs.Ytcfjkppgfjlbbaa
open Go.RowKit
set_option linter.unusedVariables false

set_option maxRecDepth 100000 in
set_option maxHeartbeats 6400000 in
theorem seek15 (a : Act) (w W3 : World) (gC ga : Nat) (es : CS) (X : Nat → Prop) (v6 v7 v8 : Value) (wh af pc pg : Int) (ad : Bool) (h : SkL a v6 v7 (.pointer (some ⟨ga, 0, none⟩)) (.int .i64 (-1)) (.bool false) (.int .i64 0)) (hS : St w W3 gC es es X v6 v7 v8) (hK : Blk W3 ga 32 #[.int .i64 wh, .int .i64 af, .int .i64 pc, .int .i64 pg, .bool ad]) (hle : es.length ≤ 80) :
    Runs Try.prog cSk15 a W3 (SkR a es af ⟨pc, pg⟩ W3) := by
  obtain ⟨u, rfl⟩ := h.open_
  have S3 := Lib.hid hS
  have KA := Lib.hid hK
  have a0 := KA.out.cell 0
  have a1 := KA.out.cell 1
  have a2 := KA.out.cell 2
  have a3 := KA.out.cell 3
  have a4 := KA.out.cell 4
  clear hS hK h
  obtain ⟨n, hn⟩ : ∃ n, n = es.length := ⟨_, rfl⟩
  obtain ⟨A6, c6, rfl, hc6⟩ := S3.out.r6.len
  obtain ⟨A7, c7, rfl, hc7⟩ := S3.out.r7.len
  obtain ⟨A8, c8, rfl, hc8⟩ := S3.out.r8.len
  rw [← hn] at hc6 hc7 hc8 hle S3 ⊢
  have HN := Lib.hid hn
  have hn80 : n ≤ 80 := by omega
  have KC := Lib.hid (fun (j : Nat) (e : Ce) (h : es[j]? = some e) => S3.out.at_ HN.out h)
  clear hn
  unfold Runs
  conv => arg 2; whnf
  go_wp2_with fail
  go_loopg [11, 12, 13] n (fun gg s11 s12 s13 wx => ∃ (j m : Nat) (z : Int), j + gg = n ∧ s13 = .int .i64 (j : Int) ∧ s11 = .int .i64 z ∧ s12 = .bool (busyC (es.take j) af) ∧ At (es.take j) ⟨pc, pg⟩ z ∧ wx = W3.drewN m)
  case atStart => exact ⟨0, 0, -1, by omega, rfl, rfl, rfl, At.nil_ _, rfl⟩
  case round =>
    obtain ⟨j, m, z, hjg, rfl, rfl, hb12, hat, rfl⟩ := hrel
    obtain ⟨G2, rfl⟩ : ∃ G2, G2 = gk := ⟨_, rfl⟩
    obtain ⟨bz, hbz⟩ : ∃ bz, bz = busyC (es.take j) af := ⟨_, rfl⟩
    rw [← hbz] at hb12
    subst hb12
    have HBZ := Lib.hid hbz
    have AT := Lib.hid hat
    clear hat hbz
    by_cases hjn : j < n
    · have u4 : decide ((j : Int) < (n : Int)) = true := decide_eq_true (by omega)
      have u5 : (j : Int) < (n : Int) := by omega
      have u6 : (0 : Int) ≤ (j : Int) := by omega
      obtain ⟨e, he⟩ : ∃ e, es[j]? = some e := ⟨_, List.getElem?_eq_getElem (by rw [← HN.out]; exact hjn)⟩
      obtain ⟨g6, o6, q6, g7, o7, q7, g8, o8, q8, ⟨e6, e7, e8⟩, k1, k2, k3, k4⟩ := KC.out j e he
      cases e6
      cases e7
      cases e8
      have HT := Lib.hid (show es.take (j + 1) = es.take j ++ [e] from by rw [List.take_add_one, he]; rfl)
      obtain ⟨⟨ec, eg⟩, ef, ed⟩ := e
      have HF := Lib.hid (show busyC (es.take (j + 1)) af = (bz || decide (ef = af)) from by rw [HT.out, busyC_snoc, HBZ.out])
      have HLJ := Lib.hid (show (es.take j).length = j from by rw [List.length_take, ← HN.out]; omega)
      simp only at k1 k2 k3
      clear k4 he
      by_cases h1 : ec = pc
      · subst h1
        by_cases h2 : eg = pg
        · subst h2
          have AY := Lib.hid (At.yes (es := es.take j) (e := ⟨⟨ec, eg⟩, ef, ed⟩) (k := ⟨ec, eg⟩) rfl)
          rw [HLJ.out] at AY
          cases bz
          · by_cases hf : ef = af
            · subst hf
              go_wp2_with fail
              go_quiet (fail)
              obtain ⟨q1, rfl⟩ : ∃ q1, q1 = nq := ⟨_, rfl⟩
              go_wp2_with fail
              go_quiet (fail)
              go_wp2_with fail
              go_roundg (n - (j + 1))
              case measure => omega
              case rel => exact ⟨j + 1, m + q1 + nq, (j : Int), by omega, by go_num, rfl, by rw [HF.out]; simp, by rw [HT.out]; exact AY.out, rfl⟩
            · have v3 : (ef == af) = false := by simp [hf]
              go_wp2_with fail
              go_quiet (fail)
              obtain ⟨q1, rfl⟩ : ∃ q1, q1 = nq := ⟨_, rfl⟩
              go_wp2_with fail
              go_quiet (fail)
              go_wp2_with fail
              go_roundg (n - (j + 1))
              case measure => omega
              case rel => exact ⟨j + 1, m + q1 + nq, (j : Int), by omega, by go_num, rfl, by rw [HF.out]; simp [hf], by rw [HT.out]; exact AY.out, rfl⟩
          · go_wp2_with fail
            go_quiet (fail)
            obtain ⟨q1, rfl⟩ : ∃ q1, q1 = nq := ⟨_, rfl⟩
            go_wp2_with fail
            go_quiet (fail)
            go_wp2_with fail
            go_roundg (n - (j + 1))
            case measure => omega
            case rel => exact ⟨j + 1, m + q1 + nq, (j : Int), by omega, by go_num, rfl, by rw [HF.out]; simp, by rw [HT.out]; exact AY.out, rfl⟩
        · have v2 : (eg == pg) = false := by simp [h2]
          have AN := Lib.hid (At.no (e := ⟨⟨ec, eg⟩, ef, ed⟩) (fun e1 => h2 (by injection e1)) AT.out)
          cases bz
          · by_cases hf : ef = af
            · subst hf
              go_wp2_with fail
              go_quiet (fail)
              obtain ⟨q1, rfl⟩ : ∃ q1, q1 = nq := ⟨_, rfl⟩
              go_wp2_with fail
              go_quiet (fail)
              go_wp2_with fail
              go_roundg (n - (j + 1))
              case measure => omega
              case rel => exact ⟨j + 1, m + q1 + nq, z, by omega, by go_num, rfl, by rw [HF.out]; simp, by rw [HT.out]; exact AN.out, rfl⟩
            · have v3 : (ef == af) = false := by simp [hf]
              go_wp2_with fail
              go_quiet (fail)
              obtain ⟨q1, rfl⟩ : ∃ q1, q1 = nq := ⟨_, rfl⟩
              go_wp2_with fail
              go_quiet (fail)
              go_wp2_with fail
              go_roundg (n - (j + 1))
              case measure => omega
              case rel => exact ⟨j + 1, m + q1 + nq, z, by omega, by go_num, rfl, by rw [HF.out]; simp [hf], by rw [HT.out]; exact AN.out, rfl⟩
          · go_wp2_with fail
            go_quiet (fail)
            obtain ⟨q1, rfl⟩ : ∃ q1, q1 = nq := ⟨_, rfl⟩
            go_wp2_with fail
            go_quiet (fail)
            go_wp2_with fail
            go_roundg (n - (j + 1))
            case measure => omega
            case rel => exact ⟨j + 1, m + q1 + nq, z, by omega, by go_num, rfl, by rw [HF.out]; simp, by rw [HT.out]; exact AN.out, rfl⟩
      · have v1 : (ec == pc) = false := by simp [h1]
        have AN := Lib.hid (At.no (e := ⟨⟨ec, eg⟩, ef, ed⟩) (fun e1 => h1 (by injection e1)) AT.out)
        cases bz
        · by_cases hf : ef = af
          · subst hf
            go_wp2_with fail
            go_quiet (fail)
            obtain ⟨q1, rfl⟩ : ∃ q1, q1 = nq := ⟨_, rfl⟩
            go_wp2_with fail
            go_quiet (fail)
            go_wp2_with fail
            go_roundg (n - (j + 1))
            case measure => omega
            case rel => exact ⟨j + 1, m + q1 + nq, z, by omega, by go_num, rfl, by rw [HF.out]; simp, by rw [HT.out]; exact AN.out, rfl⟩
          · have v3 : (ef == af) = false := by simp [hf]
            go_wp2_with fail
            go_quiet (fail)
            obtain ⟨q1, rfl⟩ : ∃ q1, q1 = nq := ⟨_, rfl⟩
            go_wp2_with fail
            go_quiet (fail)
            go_wp2_with fail
            go_roundg (n - (j + 1))
            case measure => omega
            case rel => exact ⟨j + 1, m + q1 + nq, z, by omega, by go_num, rfl, by rw [HF.out]; simp [hf], by rw [HT.out]; exact AN.out, rfl⟩
        · go_wp2_with fail
          go_quiet (fail)
          obtain ⟨q1, rfl⟩ : ∃ q1, q1 = nq := ⟨_, rfl⟩
          go_wp2_with fail
          go_quiet (fail)
          go_wp2_with fail
          go_roundg (n - (j + 1))
          case measure => omega
          case rel => exact ⟨j + 1, m + q1 + nq, z, by omega, by go_num, rfl, by rw [HF.out]; simp, by rw [HT.out]; exact AN.out, rfl⟩
    · obtain rfl : n = j := by omega
      have u4 : decide ((n : Int) < (n : Int)) = false := decide_eq_false (by omega)
      rw [List.take_of_length_le (by rw [HN.out]; exact Nat.le_refl _)] at AT HBZ
      go_wp2_with fail
      exact ⟨z, bz, m, ⟨rfl, rfl, rfl⟩, rfl, rfl, HBZ.out, AT.out, rfl⟩
end Go.Proofs.Ytcfjkppgfjlbbaa

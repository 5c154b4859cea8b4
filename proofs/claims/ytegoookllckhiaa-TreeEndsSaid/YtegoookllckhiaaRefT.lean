/-
  The contracts of the document's own Has and Tables.
  Conditions: the numbers are read in memory; they are pages.
-/
import Derived.Test.YtegoookllckhiaaTreP
import Derived.Test.YtegoookllckhiaaVals
import Derived.Test.YtegoookllckhiaaProg
import Derived.Deep.LoopGhost
import Derived.OwnWalk
import Derived.BigQuiet
namespace Go.Proofs.Ytegoookllckhiaa
open Go.RowKit
set_option linter.unusedVariables false

set_option maxRecDepth 20000 in
set_option maxHeartbeats 400000 in
theorem refHas_any (v : Value) (xs : List Int) (n : Int) (w : World) (h : Its w w.heap.size v xs) (hm : xs.length ≤ 1000000) :
    Calls Try.prog 34 #[v, .int .i64 n] w fun e w' => e = .returned (.bool (decide (n ∈ xs))) ∧ w = w' := by
  obtain ⟨A, N, c, rfl, hN, _, _, hz⟩ := h
  have HZ := Lib.hid hz
  have HN := Lib.hid hN
  have hN6 : N ≤ 1000000 := by omega
  obtain ⟨R, hR⟩ : ∃ R, R = decide (n ∈ xs) := ⟨_, rfl⟩
  rw [← hR]
  have HR1 := Lib.hid (fun (h : n ∈ xs) => show R = true from hR.trans (decide_eq_true h))
  have HR2 := Lib.hid (fun (h : n ∉ xs) => show R = false from hR.trans (decide_eq_false h))
  clear hz hN hm hR
  go_enter Try.func34, Try.ntmps34
  go_wp2_with fail
  go_loopg [5] N (fun gg s5 wx => ∃ i : Nat, i + gg = N ∧ s5 = .int .i64 (i : Int) ∧ n ∉ xs.take i ∧ wx = w)
  case atStart => exact ⟨0, by omega, rfl, by simp, rfl⟩
  case round =>
    obtain ⟨i, hig, rfl, hn, hw⟩ := hrel
    obtain rfl : w = wr := hw.symm
    have HNI := Lib.hid hn
    clear hn
    by_cases hlt : i < N
    · have t4 : decide ((i : Int) < (N : Int)) = true := decide_eq_true (by omega)
      have t5 : (i : Int) < (N : Int) := by omega
      have t6 : (0 : Int) ≤ (i : Int) := by omega
      obtain ⟨b1, o1, rfl, hbl, hcc⟩ := HZ.out (by omega)
      obtain ⟨y, hy⟩ : ∃ y, y = xs.getD i 0 := ⟨_, rfl⟩
      have hcell : w.cell? ⟨b1, o1 + i, none⟩ = some (.int .i64 y) := by rw [hy]; exact hcc i hlt
      have hil : i < xs.length := by rw [HN.out]; exact hlt
      have hyi : y = xs[i] := by rw [hy]; simp [hil]
      have TK := Lib.hid (show xs.take (i + 1) = xs.take i ++ [y] from by rw [hyi, List.take_succ_eq_append_getElem hil])
      have YM := Lib.hid (show y ∈ xs from by rw [hyi]; exact List.getElem_mem _)
      clear hcc hy hyi hil
      by_cases hyn : y = n
      · subst hyn
        have e1 : (y == y) = true := by simp
        go_wp2
        go_ret
        exact ⟨by rw [HR1.out YM.out]; rfl, rfl⟩
      · have e1 : (y == n) = false := by simpa using hyn
        have HNE := Lib.hid hyn
        clear hyn
        go_wp2_with fail
        go_roundg (N - (i + 1))
        case measure => omega
        case rel =>
          refine ⟨i + 1, by omega, by go_num, ?_, rfl⟩
          rw [TK.out, List.mem_append, List.mem_singleton]
          rintro (h | h)
          · exact HNI.out h
          · exact HNE.out h.symm
    · obtain rfl : i = N := by omega
      have t4 : decide ((i : Int) < (i : Int)) = false := decide_eq_false (by omega)
      have HF := Lib.hid (HR2.out (by
        have h := HNI.out
        rwa [← HN.out, List.take_length] at h))
      go_wp2
      go_ret
      exact ⟨by rw [HF.out]; rfl, rfl⟩

/-- Numbers as integers. -/
def asI (l : List Nat) : List Int := l.map (fun (f : Nat) => (f : Int))
theorem asI_mem {l : List Nat} {x : Nat} : (x : Int) ∈ asI l ↔ x ∈ l := by
  unfold asI
  rw [List.mem_map]
  constructor
  · rintro ⟨a, h1, h2⟩
    have : a = x := by omega
    exact this ▸ h1
  · exact fun h => ⟨x, h, rfl⟩
theorem asI_length (l : List Nat) : (asI l).length = l.length := List.length_map _
def ownR (w : World) (B : Nat) (v : Value) (l : List Int) : Prop := w.ownsRow B 3 1 v l.length (l.map (fun z => Value.int .i64 z))
theorem Try.infoIntT : (Try.prog.info? 3).map (fun i => (i.zero, i.size, i.bytes)) = some (some (.int .i64 0), 1, 8) := by kernel_rfl
/-- The sum so far. -/
def sumT (ps : List Nat) : Nat → Nat
  | 0 => 1
  | 1 => 1 + (distL (ps.map (· / 512))).length
  | 2 => 1 + (distL (ps.map (· / 512))).length + (distL (ps.map (· / 64))).length
  | _ => tablesN ps
def sizeT : Nat → Nat
  | 0 => 512
  | 1 => 64
  | 2 => 8
  | _ => 1
theorem sumT_succ (ps : List Nat) (k : Nat) (hk : k < 3) : sumT ps (k + 1) = sumT ps k + (distL (ps.map (· / sizeT k))).length := by
  match k, hk with
  | 0, _ => rfl
  | 1, _ => rfl
  | 2, _ => rfl
theorem sumT_le (ps : List Nat) (k : Nat) (hk : k ≤ 3) : sumT ps k ≤ 1 + k * ps.length := by
  have h : ∀ d, (distL (ps.map (· / d))).length ≤ ps.length := fun d => by
    have := distL_le (ps.map (· / d))
    rwa [List.length_map] at this
  have h1 := h 512
  have h2 := h 64
  have h3 := h 8
  match k, hk with
  | 0, _ => show 1 ≤ _; omega
  | 1, _ => show 1 + _ ≤ _; omega
  | 2, _ => show 1 + _ + _ ≤ _; omega
  | 3, _ => show tablesN ps ≤ _; unfold tablesN; omega
set_option maxRecDepth 20000 in
set_option maxHeartbeats 3200000 in
theorem refTables_any (v : Value) (ps : List Nat) (w : World) (h : Its w w.heap.size v (asI ps)) (hm : ps.length ≤ 100000) (hp : ∀ x ∈ ps, x < 4096) :
    Calls Try.prog 14 #[v] w fun e w' => e = .returned (.int .i64 ((tablesN ps : Nat) : Int)) ∧ Below w.heap.size w w' := by
  obtain ⟨A, N, c, rfl, hN, _, _, hz⟩ := h
  rw [asI_length] at hN
  have HZ := Lib.hid hz
  have HN := Lib.hid hN
  have HP := Lib.hid hp
  have hN6 : N ≤ 100000 := by omega
  obtain ⟨iI, hiI, hiz0, hiz1, hiz2⟩ := info_parts Try.infoIntT
  have HII := Lib.hid hiI
  have HI0 := Lib.hid hiz0
  have HI1 := Lib.hid hiz1
  have HI2 := Lib.hid hiz2
  clear hz hN hm hp hiI hiz0 hiz1 hiz2
  go_enter Try.func14, Try.ntmps14
  go_wp2_with fail
  go_loopg [3, 4] 3 (fun gg s3 s4 wx => ∃ k : Nat, k + gg = 3 ∧ s4 = .int .i64 ((sizeT k : Nat) : Int) ∧ s3 = .int .i64 ((sumT ps k : Nat) : Int) ∧ Below w.heap.size w wx)
  case atStart => exact ⟨0, rfl, rfl, rfl, Below.refl _ _⟩
  case round =>
    obtain ⟨k, hkg, rfl, rfl, hb⟩ := hrel
    have HB := Lib.hid hb
    clear hb
    by_cases hk : k < 3
    · obtain ⟨sz, hsz⟩ : ∃ sz, sz = sizeT k := ⟨_, rfl⟩
      have hsz8 : 8 ≤ sz ∧ sz ≤ 512 := by
        have : k = 0 ∨ k = 1 ∨ k = 2 := by omega
        rcases this with rfl | rfl | rfl <;> (rw [hsz]; show 8 ≤ _ ∧ _ ≤ 512; decide)
      have hszn : sizeT (k + 1) = sz / 8 := by
        have : k = 0 ∨ k = 1 ∨ k = 2 := by omega
        rcases this with rfl | rfl | rfl <;> (rw [hsz]; rfl)
      obtain ⟨sm, hsm⟩ : ∃ sm, sm = sumT ps k := ⟨_, rfl⟩
      have hsml : sm ≤ 300001 := by
        have h1 := sumT_le ps k (by omega)
        have h2 : k * ps.length ≤ 3 * ps.length := Nat.mul_le_mul_right _ (by omega)
        have := HN.out
        omega
      have SS := Lib.hid (sumT_succ ps k hk)
      rw [← hsz, ← hsm] at SS
      rw [← hsz, ← hsm]
      obtain ⟨s8, hs8⟩ : ∃ s8, s8 = sz / 8 := ⟨_, rfl⟩
      have HSN := Lib.hid (hszn.trans hs8.symm)
      have t1 : decide ((8 : Int) ≤ (sz : Int)) = true := decide_eq_true (by omega)
      have q1 : (sz : Int).tdiv 8 = (s8 : Int) := by rw [Int.tdiv_eq_ediv_of_nonneg (by omega)]; omega
      have q2 : (sz : Int) / 8 = (s8 : Int) := by omega
      clear hsz hsm hszn hs8
      obtain ⟨G, rfl⟩ : ∃ G, G = gk := ⟨_, rfl⟩
      obtain ⟨W0, rfl⟩ : ∃ W0, W0 = wr := ⟨_, rfl⟩
      go_wp2_with fail
      go_loopg [5, 6] N (fun gg s5 s6 wx => ∃ i : Nat, i + gg = N ∧ s6 = .int .i64 (i : Int) ∧ ownR wx W0.heap.size s5 (asI (distL ((ps.take i).map (· / sz)))) ∧ Below W0.heap.size W0 wx)
      case atStart => exact ⟨0, by omega, rfl, World.ownsRow_nil _ _ _ _, Below.refl _ _⟩
      case round =>
        obtain ⟨i, hig, rfl, hrow, hb⟩ := hrel
        have HROW := Lib.hid hrow
        have HX := Lib.hid hb
        have HB1 := Lib.hid (HB.out.trans (hb.mono HB.out.size))
        have HITS := Lib.hid (Its.of_own hrow)
        obtain ⟨A5, N5, c5, rfl, hN5, -⟩ := Its.of_own hrow
        have HN5 := Lib.hid hN5
        clear hrow hb hN5
        by_cases hlt : i < N
        · have t4 : decide ((i : Int) < (N : Int)) = true := decide_eq_true (by omega)
          have t5 : (i : Int) < (N : Int) := by omega
          have t6 : (0 : Int) ≤ (i : Int) := by omega
          obtain ⟨b1, o1, rfl, hbl, hcc⟩ := HZ.out (by omega)
          have hil : i < ps.length := by rw [HN.out]; exact hlt
          obtain ⟨y, hy⟩ : ∃ y, y = ps[i] := ⟨_, rfl⟩
          have hcell : wr.cell? ⟨b1, o1 + i, none⟩ = some (.int .i64 (y : Int)) := by
            rw [HB1.out.cell (p := ⟨b1, o1 + i, none⟩) hbl, hcc i hlt, hy]
            simp [asI, hil]
          have hy4 : y < 4096 := by rw [hy]; exact HP.out _ (List.getElem_mem _)
          obtain ⟨d, hd⟩ : ∃ d, d = y / sz := ⟨_, rfl⟩
          have d1 : (y : Int).tdiv (sz : Int) = (d : Int) := by rw [hd, Int.tdiv_eq_ediv_of_nonneg (by omega)]; exact (Int.natCast_ediv _ _).symm
          have d2 : (y : Int) / (sz : Int) = (d : Int) := by rw [hd]; exact (Int.natCast_ediv _ _).symm
          have hd4 : d < 4096 := by rw [hd]; exact Nat.lt_of_le_of_lt (Nat.div_le_self _ _) hy4
          have TK := Lib.hid (show distL ((ps.take (i + 1)).map (· / sz)) = if d ∈ distL ((ps.take i).map (· / sz)) then distL ((ps.take i).map (· / sz)) else distL ((ps.take i).map (· / sz)) ++ [d] from by
            rw [List.take_succ_eq_append_getElem hil, List.map_append, List.map_cons, List.map_nil, distL_snoc, ← hy, hd])
          obtain ⟨D, hD⟩ : ∃ D, D = distL ((ps.take i).map (· / sz)) := ⟨_, rfl⟩
          have hDl : D.length ≤ N := by
            have h1 := distL_le ((ps.take i).map (· / sz))
            rw [← hD, List.length_map, List.length_take] at h1
            omega
          rw [← hD] at TK HROW HITS HN5
          have HAS := Lib.hid (refHas_any (.slice A5 N5 c5) (asI D) (d : Int) wr HITS.out (by rw [asI_length]; omega))
          have hsz0 : ((sz : Int) == 0) = false := by simp; omega
          have hsz1 : (sz : Int) ≠ 0 := by omega
          clear hcc hy hil hd hD
          by_cases hin : d ∈ D
          · rw [decide_eq_true (asI_mem.2 hin)] at HAS
            rw [if_pos hin] at TK
            clear hin
            go_wp2_with fail
            refine HAS.out.mono ?_
            rintro e w2 ⟨rfl, rfl⟩
            go_wp2_with fail
            go_roundg (N - (i + 1))
            case measure => omega
            case rel => exact ⟨i + 1, by omega, by go_num, by rw [TK.out]; exact HROW.out, HX.out⟩
          · rw [decide_eq_false (fun h => hin (asI_mem.1 h))] at HAS
            rw [if_neg hin] at TK
            clear hin
            have HONE := Lib.hid (show ∀ u ∈ [Value.int .i64 (d : Int)], u.oneCell' = true from fun u hu => by rw [List.mem_singleton.1 hu]; rfl)
            have HQ1 := Lib.hid (show (asI D).length + 1 ≤ maxLen from by rw [asI_length]; unfold maxLen; omega)
            have HQ2 := Lib.hid (show ((asI D).length + 1) * 8 ≤ 140737488355328 from by rw [asI_length]; omega)
            have HQ3 := Lib.hid (show W0.heap.size ≤ (wr.alloc (.cells #[Value.int .i64 (d : Int)] 3)).heap.size from by have := HX.out.size; simp; omega)
            have HL5 := Lib.hid (show (asI D).length = N5 from HN5.out)
            have HROW' := Lib.hid (show wr.ownsRow W0.heap.size 3 1 (.slice A5 N5 c5) (asI D).length ((asI D).map (fun z => Value.int .i64 z)) from HROW.out)
            go_wp2_with fail
            refine HAS.out.mono ?_
            rintro e w2 ⟨rfl, rfl⟩
            go_wp2_with (refine wpList_append_own _ rfl _ _ 23 rfl W0.heap.size 3 iI (.int .i64 0) 1 8 Try.underlying23 HII.out HI0.out HI1.out HI2.out rfl (by decide) _ _ _ rfl (HROW'.out.alloc _) ⟨wr.heap.size, 0, none⟩ 1 1 [Value.int .i64 (d : Int)] rfl rfl (cell_one_new _ _ _) HONE.out HQ1.out HQ2.out HQ3.out ?_; intro v' w4 hown4 hg4 hnil4; have HOWN4 := Lib.hid hown4; have HG4 := Lib.hid hg4; clear hown4 hg4 hnil4)
            have HB4' := Lib.hid ((HX.out.alloc HX.out.size (.cells #[Value.int .i64 (d : Int)] 3)).grown HG4.out HQ3.out (fun j hj => (HROW'.out.lt j hj).1))
            go_roundg (N - (i + 1))
            case measure => omega
            case rel =>
              refine ⟨i + 1, by omega, by go_num, ?_, HB4'.out⟩
              have h9 := HOWN4.out
              rw [TK.out]
              show World.ownsRow _ _ _ _ _ (asI (D ++ [d])).length ((asI (D ++ [d])).map _)
              rw [show asI (D ++ [d]) = asI D ++ [(d : Int)] from by simp [asI], List.length_append, List.map_append]
              exact h9
        · obtain rfl : i = N := by omega
          have t4 : decide ((i : Int) < (i : Int)) = false := decide_eq_false (by omega)
          have HL5 := Lib.hid (show (distL (ps.map (· / sz))).length = N5 from by
            have h := HN5.out
            rwa [asI_length, ← HN.out, List.take_length] at h)
          rw [HL5.out] at SS
          have hN5l : N5 ≤ 100000 := by
            have h1 := distL_le (ps.map (· / sz))
            rw [List.length_map, HL5.out] at h1
            have := HN.out
            omega
          go_wp2_with fail
          go_roundg (3 - (k + 1))
          case measure => omega
          case rel => exact ⟨k + 1, by omega, by rw [HSN.out], by rw [SS.out]; go_num, HB1.out⟩
    · obtain rfl : k = 3 := by omega
      have t1 : decide ((8 : Int) ≤ ((sizeT 3 : Nat) : Int)) = false := by decide
      go_wp2
      go_ret
      exact ⟨rfl, HB.out⟩
end Go.Proofs.Ytegoookllckhiaa

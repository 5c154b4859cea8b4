/-
  The contract of layer 3's own question 'answers': it answers true, and writes nothing that was there.
  Conditions: none.
-/
import Derived.Test.YtmmmigpamffifaaDiskH
namespace Go.Proofs.Ytmmmigpamffifaa
open Go.RowKit
set_option linter.unusedVariables false

theorem Tr.none_ans : Tr.none_.ans = 0 := rfl
theorem Tr.none_next : Tr.none_.next = Tr.none_ := rfl
/-- A disk's blocks are new: nothing that was there turns. -/
theorem Turns.fresh {B gD gS gM : Nat} {w0 w w' : World} (h : Turns (dk gD gS gM) w w') (hb : Below B w0 w) (hB : B ≤ w0.heap.size) (h1 : B ≤ gD) (h2 : B ≤ gS) (h3 : B ≤ gM) : Below B w0 w' :=
  hb.trans (h.below (by rintro k (e | e | e) <;> omega) (Nat.le_trans hB hb.size))

/-- 7 and then 63 times 0. -/
def seven : List Nat := 7 :: List.replicate 63 0
theorem seven_length : seven.length = 64 := by simp [seven]
theorem seven_byte : ∀ y ∈ seven, y < 256 := by
  intro y hy
  rcases List.mem_cons.1 hy with h | h
  · omega
  · rw [List.eq_of_mem_replicate h]; omega
theorem seven_cells : (zs 64).setIfInBounds 0 (bv 7) = (seven.map bv).toArray := by
  apply Array.ext_getElem?
  intro i
  rw [Array.getElem?_setIfInBounds]
  match i with
  | 0 => simp [seven, zs]
  | k + 1 =>
    rw [if_neg (by omega)]
    simp only [seven, zs, List.map_cons, List.map_replicate, List.getElem?_toArray, List.getElem?_cons_succ, List.getElem?_replicate, Array.getElem?_replicate]
    by_cases h : k < 63
    · rw [if_pos (by omega), if_pos h]
    · rw [if_neg (by omega), if_neg h]
theorem ans_keys (xs : List Nat) : keptL (keysL 2 (upd (fun _ => none) 1 (some xs))) 1 = [1] := by
  rw [show keysL 2 (upd (fun _ => none) 1 (some xs)) = [1] from rfl]
  decide
theorem ans_crash (xs : List Nat) (hx : xs.length = 64) : crashL (fun _ => zer) (upd (fun _ => none) 1 (some xs)) [1] 64 1 = xs := by
  show over zer 0 (xs.take 64) = xs
  rw [List.take_of_length_le (by omega), over_all _ _ (by rw [zer_length, hx])]

set_option maxHeartbeats 1000000 in
theorem diskAnswers_any (w : World) :
    Calls Try.prog 10 #[] w fun e w' => e = .returned (.bool true) ∧ Below w.heap.size w w' := by
  go_enter Try.func10, Try.ntmps10
  go_wp2_with fail
  refine (dnew_any 2 2 w (by unfold NearD; omega)).mono ?_
  rintro e w1 ⟨rfl, hd1, hb1, hz1⟩
  have HB1 := Lib.hid (Blk.new w1 5 (zs 64))
  have HD2 := Lib.hid hd1
  have HZ1 := Lib.hid hz1
  have hn1 := hb1
  have hmk := make64
  have hc : (w1.alloc (.cells (zs 64) 5)).cell? ⟨w1.heap.size, 0, none⟩ = some (.int .u8 0) := by rw [HB1.out.cell]; rfl
  have hf := HB1.out.frozen 0
  clear hd1 hb1 hz1
  have HN1 := Lib.hid hn1
  clear hn1
  go_wp2_with fail
  have hn1 := HN1.out
  obtain ⟨w3, hw3⟩ : ∃ w3, w3 = w1.alloc (.cells ((zs 64).setIfInBounds 0 (.int .u8 7)) 5) := ⟨_, rfl⟩
  rw [← hw3]
  have hb3 : Blk w3 w1.heap.size 5 (seven.map bv).toArray := by
    rw [hw3, ← seven_cells]
    exact Blk.new w1 _ _
  have HB3 := Lib.hid hb3
  have HN3 := Lib.hid (show Below w.heap.size w w3 from by
    rw [hw3]
    exact hn1.alloc hn1.size _)
  have HS3 := Lib.hid (show w3.heap.size = w.heap.size + 4 from by rw [hw3]; simp [HZ1.out])
  have HD3 := Lib.hid (show Dsk w3 _ _ _ _ _ _ _ from by
    rw [hw3]
    exact HD2.out.alloc _)
  clear hc hf hw3 hb3 hmk
  refine (dwrite_yes _ _ _ _ _ _ _ 1 _ seven _ HD3.out (by omega) Tr.none_ans (fun w' ho => ⟨_, Bts.of_whole (ho.blk HB3.out (by have := HZ1.out; omega)) seven_length (by simp [maxLen]) seven_byte, ?_⟩) seven_length).mono ?_
  · rw [ho.2]
    exact Nat.le_refl _
  rintro e w4 ⟨rfl, hd4, ht4, hs4⟩
  rw [Tr.none_next] at hd4
  have HD4 := Lib.hid hd4
  have HN4 := Lib.hid (ht4.fresh HN3.out (Nat.le_refl _) (by omega) (Nat.le_refl _) (by omega))
  have HS4 := Lib.hid (show w.heap.size ≤ w4.heap.size from HN4.out.size)
  clear hd4 ht4 hs4
  go_wp2_with fail
  refine (dcrash_any _ _ _ _ _ _ _ 1 64 64 _ HD4.out (by omega) (by unfold Near64; omega)).mono ?_
  rintro e w5 ⟨rfl, hd5, ht5⟩
  rw [ans_keys] at hd5
  have HD5 := Lib.hid hd5
  have HN5 := Lib.hid (ht5.fresh HN4.out (Nat.le_refl _) (by omega) (Nat.le_refl _) (by omega))
  clear hd5 ht5
  go_wp2_with fail
  refine (dread_yes _ _ _ _ _ _ _ 1 _ HD5.out (by omega) Tr.none_ans).mono ?_
  rintro e w6 ⟨rfl, hb6, hd6, ht6, hs6⟩
  have hb6' : Blk w6 (w5.heap.size + 1) 5 (seven.map bv).toArray := by
    have e1 : last (crashL (fun _ => zer) (upd (fun _ => none) 1 (some seven)) [1] 64) (fun _ => none) 1 = seven := ans_crash seven seven_length
    rw [e1] at hb6
    exact hb6
  have hc6 : w6.cell? ⟨w5.heap.size + 1, 0, none⟩ = some (.int .u8 7) := by rw [hb6'.cell]; rfl
  have HD6 := Lib.hid hd6
  have HN6 := Lib.hid (ht6.fresh HN5.out (Nat.le_refl _) (by omega) (Nat.le_refl _) (by omega))
  clear hb6 hb6' hd6 ht6 hs6
  go_wp2_with fail
  refine (sectors_any _ _ _ _ _ _ _ _ HD6.out).mono ?_
  rintro e w7 ⟨rfl, rfl⟩
  go_wp2
  go_ret
  exact ⟨rfl, HN6.out⟩
end Go.Proofs.Ytmmmigpamffifaa

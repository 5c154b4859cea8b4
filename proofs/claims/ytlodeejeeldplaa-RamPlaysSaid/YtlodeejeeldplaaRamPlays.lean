/-
  RamPlays answers true for any number of frames and any acts, and writes nothing that was there.
  Conditions: the acts are read in memory.
-/
import Derived.Test.YtlodeejeeldplaaPlayRound
import Derived.Test.YtlodeejeeldplaaRamAns
namespace Go.Proofs.Ytlodeejeeldplaa
open Go.RowKit
set_option linter.unusedVariables false

set_option maxRecDepth 100000 in
set_option maxHeartbeats 1600000 in
theorem ramPlays_edge (f : Int) (A : Option Addr) (l c : Nat) (w : World) (hl : l ≤ maxLen) (h : 80 < l) :
    Calls Try.prog 3 #[.int .i64 f, .slice A l c] w fun e w' => e = .returned (.bool true) ∧ Below w.heap.size w w' := by
  unfold maxLen at hl
  have t1 : decide ((80 : Int) < (l : Int)) = true := by simp; omega
  go_enter Try.func3, Try.ntmps3
  go_wp2_with fail
  refine (ramAnswers_any _).mono ?_
  rintro e w1 ⟨rfl, hb1⟩
  go_wp2
  go_ret
  exact ⟨rfl, hb1⟩

/-- The list and the counts, as made. -/
theorem play_start (w w2 : World) (n : Nat) (hb : Below w.heap.size w w2) (hm : Mem w2 (w.heap.size + 1) w.heap.size n (fun _ => zer) (fun _ => false)) (hz : w.heap.size + 2 ≤ w2.heap.size) (Z Y : Array Value)
    (hZ : Z.size = 65536) (hZ2 : ∀ j, j < 65536 → Z[j]? = some (.int .u8 0)) (hY : Y.size = 1024) (hY2 : ∀ j, j < 1024 → Y[j]? = some (.int .i64 0)) :
    St w w2.heap.size n 0 (fun _ => zer) (fun _ => 0) ((w2.alloc (.cells Z 29)).alloc (.cells Y 30)) := by
  refine ⟨(hb.alloc hb.size _).alloc (by have := hb.size; simp; omega) _, (hm.alloc _).alloc _, ⟨Z, ?_, hZ, fun f hf => ⟨zer_length, zer_byte, fun i hi => ?_⟩⟩, ⟨Y, ?_, hY, fun k hk => hY2 k hk⟩, fun j => Nat.le_refl _, hz⟩
  · exact (Below.heap_alloc _ _ _ (by simp)).trans (Blk.new w2 _ _)
  · rw [hZ2 _ (by omega), zer_at i hi]
    rfl
  · have := Blk.new (w2.alloc (.cells Z 29)) 30 Y
    simpa using this

set_option maxRecDepth 100000 in
set_option maxHeartbeats 1600000 in
theorem ramPlays_any (f : Int) (n : Nat) (va : Value) (acts : List ActD) (w : World) (hf : Near f n) (ha : Acts w w.heap.size va acts) (hm : acts.length ≤ 80) :
    Calls Try.prog 3 #[.int .i64 f, va] w fun e w' => e = .returned (.bool true) ∧ Below w.heap.size w w' := by
  have HA := Lib.hid ha
  obtain ⟨A, m, cc, rfl, hl, -⟩ := ha
  have HL := Lib.hid hl
  rw [hl] at hm
  clear hl
  have hn : n ≤ 1024 := by unfold Near at hf; omega
  have HF := Lib.hid hf
  clear hf
  have t1 : decide ((80 : Int) < (m : Int)) = false := by simp; omega
  obtain ⟨Z, hZr, hZ, hZ2⟩ := alloc_list
  obtain ⟨Y, hYr, hY, hY2⟩ := alloc_bad
  have HZ := Lib.hid hZ
  have HZ2 := Lib.hid hZ2
  have HY := Lib.hid hY
  have HY2 := Lib.hid hY2
  clear hZ hZ2 hY hY2
  go_enter Try.func3, Try.ntmps3
  go_wp2_with fail
  refine (new_any f n w HF.out).mono ?_
  rintro e w1 ⟨rfl, hm1, hb1, hz1⟩
  have HM1 := Lib.hid hm1
  have HB1 := Lib.hid hb1
  have HZ1 := Lib.hid hz1
  clear hm1 hb1 hz1
  go_wp2_with fail
  refine (cut_any f n w1 HF.out).mono ?_
  rintro e w2 ⟨rfl, rfl⟩
  go_wp2_with fail
  refine (ramAnswers_any _).mono ?_
  rintro e w2 ⟨rfl, hb2⟩
  have HM2 := Lib.hid (HM1.out.below hb2 HM1.out.lt.1 HM1.out.lt.2)
  have HB2 := Lib.hid (HB1.out.trans (hb2.mono HB1.out.size))
  have HZ3 := Lib.hid (show w.heap.size + 2 ≤ w2.heap.size by have := HZ1.out; have := hb2.size; omega)
  clear hb2
  go_wp2_with fail
  refine (frames_any _ _ _ _ _ _ HM2.out).mono ?_
  rintro e w3 ⟨rfl, rfl⟩
  have HST := Lib.hid (play_start w w2 n HB2.out HM2.out HZ3.out Z Y HZ.out HZ2.out HY.out HY2.out)
  go_wp2_with fail
  refine wp_loop (c := cLB) (PlayI w (.int .i64 f) (.slice A m cc) w2.heap.size n acts.length) (playMu acts.length) ?_ (fun a' w' hI => play_round w _ _ _ n acts a' w' HA.out (by rw [HL.out]; exact hm) hn hI ?_)
  · exact ⟨0, _, _, Nat.zero_le _, ⟨rfl, rfl, rfl, rfl, rfl, rfl, rfl, rfl, rfl⟩, HST.out⟩
  · intro a4 w4 hb4 hL4
    obtain ⟨u, rfl⟩ := hL4.open_
    have HB4 := Lib.hid hb4
    clear hL4 hb4
    go_wp2
    go_ret
    exact ⟨rfl, HB4.out⟩
end Go.Proofs.Ytlodeejeeldplaa

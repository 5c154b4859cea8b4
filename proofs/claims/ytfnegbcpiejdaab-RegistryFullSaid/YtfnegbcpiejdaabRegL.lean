/-
  The contracts of the document's own Ints, and of the statements' own 'done' and 'answers'; RegistryNone and RegistryFull answer true.
  Conditions: the lists of integers are read in memory.
-/
import Derived.Test.YtfnegbcpiejdaabRegI
import Derived.Test.YtfnegbcpiejdaabRegAct
import Derived.Test.YtfnegbcpiejdaabRegP
import Derived.Test.YtfnegbcpiejdaabInts
import Derived.Deep.LoopGhost
import Derived.BigQuiet
namespace Go.Proofs.Ytfnegbcpiejdaab
open Go.RowKit
set_option linter.unusedVariables false

/-! ### done -/
/-- What an act asks. -/
def ask7 (md : MD) (x : Act7) : Option MD := if x.set then askS md x.sect x.st else askB md x.fs
theorem CallQ.from_ {w w1 w' : World} {gR gD gS gM g : Nat} {K : Nat → Prop} {md : MD} {a : Option MD} {e : Ending} (h : CallQ w1 gR gD gS gM K g md a e w') (hb : Below w.heap.size w w1) : CallQ w gR gD gS gM K g md a e w' := by
  obtain ⟨z, K', g', h1, h0, h2, h3, h4, h5⟩ := h
  exact ⟨z, K', g', h1, h0, h2, fun k hk => (h3 k hk).imp id (fun h => Nat.le_trans hb.size h), h4, (Turns.of_below hb (Nat.le_refl _)).trans h5⟩
theorem CallR.from_ {w w1 w' : World} {gR gD gS gM g : Nat} {K : Nat → Prop} {md : MD} {cs : List MD} {a : Option MD} {e : Ending} (h : CallR w1 gR gD gS gM K g md cs a e w') (hb : Below w.heap.size w w1) : CallR w gR gD gS gM K g md cs a e w' := by
  obtain ⟨z, K', g', md', cs', S', L', t', h1, h2, h3, h4, h5, h6⟩ := h
  exact ⟨z, K', g', md', cs', S', L', t', h1, h2, fun k hk => (h3 k hk).imp id (fun h => Nat.le_trans hb.size h), h4, (Turns.of_below hb (Nat.le_refl _)).trans h5, h6⟩
set_option maxRecDepth 20000 in
set_option maxHeartbeats 800000 in
theorem done_q (gR gD gS gM g : Nat) (K : Nat → Prop) (md : MD) (x : Act7) (w : World) (h : RegQ w gR gD gS gM K g md) (hv : Its w w.heap.size x.v x.fs) (ho : Off K x.v) (hg : g + 2 < 4294967296) :
    Calls Try.prog 21 #[.pointer (some ⟨gR, 0, none⟩), .agg #[x.v, .bool x.set, .int .i64 x.sect, .int .i64 x.st]] w (CallQ w gR gD gS gM K g md (ask7 md x)) := by
  obtain ⟨v, fs, set, sect, st⟩ := x
  simp only at hv ho ⊢
  obtain ⟨A, n, c, rfl, -⟩ := id hv
  have HB := Lib.hid (show Below w.heap.size w (w.alloc (.cells #[.slice A n c, .bool set, .int .i64 sect, .int .i64 st] 44)) from (Below.refl _ _).alloc (Nat.le_refl _) _)
  have HR := Lib.hid (h.fresh HB.out)
  have HV := Lib.hid ((hv.below HB.out).more HB.out.size)
  have HO := Lib.hid ho
  have HQ := Lib.hid (fun (a : Option MD) (e : Ending) (w' : World) (h : CallQ (w.alloc (.cells #[.slice A n c, .bool set, .int .i64 sect, .int .i64 st] 44)) gR gD gS gM K g md a e w') => h.from_ HB.out)
  clear h hv ho
  cases set with
  | true =>
    go_enter Try.func21, Try.ntmps21
    go_wp2_with fail
    refine (rset_q gR gD gS gM g K md sect st _ HR.out hg).mono ?_
    rintro e w' ⟨z, K', g', rfl, hr⟩
    have HRR := Lib.hid hr
    clear hr
    go_wp2
    go_ret
    exact HQ.out _ _ _ ⟨z, K', g', rfl, HRR.out⟩
  | false =>
    go_enter Try.func21, Try.ntmps21
    go_wp2_with fail
    refine (radd_q gR gD gS gM g K md _ fs _ HR.out HV.out HO.out hg).mono ?_
    rintro e w' ⟨z, K', g', rfl, hr⟩
    have HRR := Lib.hid hr
    clear hr
    go_wp2
    go_ret
    exact HQ.out _ _ _ ⟨z, K', g', rfl, HRR.out⟩

/-! ### answers -/
theorem bads_79 : bads (addM md0 [9, 7]).1 1024 = [7, 9] := by decide +kernel
set_option maxRecDepth 20000 in
set_option maxHeartbeats 1600000 in
theorem regAnswers_any (w : World) :
    Calls Try.prog 17 #[] w fun e w' => e = .returned (.bool true) ∧ Below w.heap.size w w' := by
  go_enter Try.func17, Try.ntmps17
  go_wp2_with fail
  refine (dnew_any 192 192 w (by unfold NearD; omega)).mono ?_
  rintro e w1 ⟨rfl, hd1, hb1, hz1⟩
  have HD1 := Lib.hid hd1
  have HB1 := Lib.hid hb1
  have S0 := Lib.hid (RSure.start dec_start enc_start)
  have HF1 := Lib.hid (S0.out.found (by omega) (fun f hf => (hd1.long hf).1))
  clear hd1 hb1 hz1
  go_wp2_with fail
  refine (ropen_ok _ _ _ 0 md0 _ _ w1 HD1.out HF1.out (fun _ => rfl)).mono ?_
  rintro e w2 ⟨gR, K, n, rfl, hs2, hm2, hk2, ht2⟩
  obtain rfl : n = 0 := S0.out.stop (by omega) hs2
  have HQ2 := Lib.hid (show RegQ w2 gR (w.heap.size + 2) w.heap.size (w.heap.size + 1) K 0 md0 from ⟨_, 0, hm2, S0.out⟩)
  have HB2 := Lib.hid (HB1.out.trans (ht2.below (dk_lo w) HB1.out.size))
  have HK2 := Lib.hid (show ∀ k, K k → w.heap.size ≤ k from fun k hk => by
    rcases hk2 k hk with h | h
    · exact dk_lo w k h
    · exact Nat.le_trans HB1.out.size h)
  clear hs2 hm2 hk2 ht2
  have A3 := Lib.hid (show Below w2.heap.size w2 (w2.alloc (.cells #[.int .i64 9, .int .i64 7] 3)) from (Below.refl _ _).alloc (Nat.le_refl _) _)
  have HQ3 := Lib.hid (HQ2.out.fresh A3.out)
  have HI3 := Lib.hid (show Its (w2.alloc (.cells #[.int .i64 9, .int .i64 7] 3)) (w2.alloc (.cells #[.int .i64 9, .int .i64 7] 3)).heap.size (.slice (some ⟨w2.heap.size, 0, none⟩) 2 2) [9, 7] from Its.of_lit (xs := [9, 7]) (Blk.new w2 _ _) (by simp [maxLen]))
  have HO3 := Lib.hid (show Off K (.slice (some ⟨w2.heap.size, 0, none⟩) 2 2) from fun b o s n c e _ hk => by
    injection e with e
    injection e with e
    injection e with e
    have := HQ2.out.lt b hk
    omega)
  go_wp2_with fail
  refine (radd_q gR _ _ _ 0 K md0 _ [9, 7] _ HQ3.out HI3.out HO3.out (by omega)).mono ?_
  rintro e w4 ⟨z4, K4, g4, rfl, hz4, hq4, hk4, hg4, ht4⟩
  have ea : askB md0 [9, 7] = some (addM md0 [9, 7]) := rfl
  rw [ea] at hq4 hz4
  obtain rfl : z4 = 0 := hz4
  have HQ4 := Lib.hid (show RegQ w4 gR (w.heap.size + 2) w.heap.size (w.heap.size + 1) K4 g4 (addM md0 [9, 7]) from hq4)
  have HB3 := Lib.hid (HB2.out.trans (A3.out.mono HB2.out.size))
  have HB4 := Lib.hid (HB3.out.trans (ht4.below HK2.out HB3.out.size))
  have HK4 := Lib.hid (show ∀ k, K4 k → w.heap.size ≤ k from fun k hk => by
    rcases hk4 k hk with h | h
    · exact HK2.out k h
    · exact Nat.le_trans HB3.out.size h)
  clear hq4 hk4 ht4 ea
  go_wp2_with fail
  refine (rset_q gR _ _ _ g4 K4 (addM md0 [9, 7]) 3 1 _ HQ4.out (by omega)).mono ?_
  rintro e w5 ⟨z5, K5, g5, rfl, hz5, hq5, hk5, hg5, ht5⟩
  have ea : askS (addM md0 [9, 7]) 3 1 = some ((addM md0 [9, 7]).1, (addM md0 [9, 7]).2.set 3 1) := rfl
  rw [ea] at hq5 hz5
  obtain rfl : z5 = 0 := hz5
  obtain ⟨S5, n5, hm5, hs5⟩ := (show RegQ w5 gR (w.heap.size + 2) w.heap.size (w.heap.size + 1) K5 g5 ((addM md0 [9, 7]).1, (addM md0 [9, 7]).2.set 3 1) from hq5)
  clear hq5
  have HM5 := Lib.hid hm5
  have HS5 := Lib.hid hs5
  have HF5 := Lib.hid (hs5.found (by omega) (fun f hf => (hm5.dsk.long hf).1))
  have HB5 := Lib.hid (HB4.out.trans (ht5.below HK4.out HB4.out.size))
  clear hm5 hs5 hk5 ht5 ea
  go_wp2_with fail
  refine (ropen_ok _ _ _ g5 _ S5 (fun _ => none) w5 HM5.out.dsk HF5.out (fun _ => rfl)).mono ?_
  rintro e w6 ⟨gQ, K6, n6, rfl, hs6, hm6, hk6, ht6⟩
  have HM6 := Lib.hid hm6
  have HB6 := Lib.hid (HB5.out.trans (ht6.below (dk_lo w) HB5.out.size))
  clear hs6 hm6 hk6 ht6
  go_wp2_with fail
  refine (rbad_any gQ _ _ _ _ _ K6 _ _ _ _ _ w6 HM6.out).mono ?_
  rintro e w7 ⟨v7, rfl, ho7, hb7⟩
  have eb : badI ((addM md0 [9, 7]).1, (addM md0 [9, 7]).2.set 3 1) = [7, 9] := by
    show (bads (addM md0 [9, 7]).1 1024).map _ = _
    rw [bads_79]
    rfl
  rw [eb] at ho7
  have A8 := Lib.hid (show Below w7.heap.size w7 (w7.alloc (.cells #[.int .i64 7, .int .i64 9] 3)) from (Below.refl _ _).alloc (Nat.le_refl _) _)
  have HI7 := Lib.hid ((Its.of_own ho7).below A8.out)
  have HI8 := Lib.hid (show Its (w7.alloc (.cells #[.int .i64 7, .int .i64 9] 3)) (w7.alloc (.cells #[.int .i64 7, .int .i64 9] 3)).heap.size (.slice (some ⟨w7.heap.size, 0, none⟩) 2 2) [7, 9] from Its.of_lit (xs := [7, 9]) (Blk.new w7 _ _) (by simp [maxLen]))
  have HM7 := Lib.hid (HM6.out.far (w' := w7.alloc (.cells #[.int .i64 7, .int .i64 9] 3)) (fun k hk => (A8.out.block k (Nat.lt_of_lt_of_le (HM6.out.lt k hk) hb7.size)).trans (hb7.block k (HM6.out.lt k hk))))
  have HB7 := Lib.hid ((HB6.out.trans (hb7.mono HB6.out.size)).trans (A8.out.mono (Nat.le_trans HB6.out.size hb7.size)))
  obtain ⟨A7, c7, rfl⟩ : ∃ A c, v7 = .slice A 2 c := by
    obtain ⟨A, n, c, e, h1, _⟩ := Its.of_own ho7
    exact ⟨A, c, by rw [e, ← h1]; rfl⟩
  clear ho7 hb7 eb
  go_wp2_with fail
  refine (ints_any _ _ _ _ _ _ _ HI7.out HI8.out).mono ?_
  rintro e w8 ⟨rfl, q8, rfl⟩
  rw [decide_eq_true (rfl : ([7, 9] : List Int) = [7, 9])]
  have HM8 := Lib.hid (HM7.out.far (w' := (w7.alloc (.cells #[.int .i64 7, .int .i64 9] 3)).drewN q8) (fun k hk => rfl))
  go_wp2_with fail
  refine (rstate_any gQ _ _ _ _ _ K6 _ _ _ _ _ 3 _ HM8.out).mono ?_
  rintro e w9 ⟨rfl, q9, rfl⟩
  go_wp2
  go_ret
  exact ⟨by simp [addM, md0], below_drewN HB7.out (q8 + q9)⟩

/-! ### RegistryNone -/
set_option maxRecDepth 20000 in
set_option maxHeartbeats 800000 in
theorem registryNone_any (n : Int) (w : World) :
    Calls Try.prog 6 #[.int .i64 n] w fun e w' => e = .returned (.bool true) ∧ Below w.heap.size w w' := by
  go_enter Try.func6, Try.ntmps6
  go_wp2_with fail
  refine (ropen_nil w).mono ?_
  rintro e w1 ⟨rfl, rfl⟩
  go_wp2_with fail
  refine (regAnswers_any w).mono ?_
  rintro e w2 ⟨rfl, hb2⟩
  have HB2 := Lib.hid hb2
  clear hb2
  have A3 := Lib.hid (show Below w2.heap.size w2 (w2.alloc (.cells #[.int .i64 n] 3)) from (Below.refl _ _).alloc (Nat.le_refl _) _)
  go_wp2_with fail
  refine (radd_nil _ _ _ _).mono ?_
  rintro e w3 ⟨rfl, rfl⟩
  go_wp2_with fail
  refine (rset_nil _ _ _).mono ?_
  rintro e w4 ⟨rfl, rfl⟩
  go_wp2_with fail
  refine (rbad_nil _).mono ?_
  rintro e w5 ⟨rfl, rfl⟩
  go_wp2_with fail
  refine (rstate_nil _ _).mono ?_
  rintro e w6 ⟨rfl, rfl⟩
  go_wp2
  go_ret
  exact ⟨rfl, HB2.out.trans (A3.out.mono HB2.out.size)⟩

/-! ### RegistryFull -/
/-- What is known behind k changes. -/
def full7 (s k : Nat) : MD := if k = 0 then md0 else (md0.1, md0.2.set s (1 + (k - 1) % 3))
theorem full7_ask {s k : Nat} (hs : s < 32) : askS (full7 s k) (s : Int) (1 + ((k % 3 : Nat) : Int)) = some (full7 s (k + 1)) := by
  unfold askS
  rw [if_pos (by omega)]
  have e1 : ((s : Int)).toNat = s := by simp
  have e2 : (1 + ((k % 3 : Nat) : Int)).toNat = 1 + k % 3 := by omega
  rw [e1, e2]
  unfold full7
  rw [if_neg (by omega : ¬ k + 1 = 0)]
  by_cases c : k = 0
  · rw [if_pos c]; simp [c]
  · rw [if_neg c]; simp
theorem full7_at {s k : Nat} (hs : s < 32) : (full7 s k).2.getD s 0 = if k = 0 then 0 else 1 + (k - 1) % 3 := by
  unfold full7
  by_cases c : k = 0
  · rw [if_pos c, if_pos c]
    unfold md0
    show (List.replicate 32 0).getD s 0 = 0
    rw [List.getD_eq_getElem?_getD, List.getElem?_replicate]
    split <;> rfl
  · rw [if_neg c, if_neg c]
    have : s < md0.2.length := by rw [md0_ok.st]; exact hs
    simp [this]
set_option maxRecDepth 20000 in
set_option maxHeartbeats 1600000 in
theorem registryFull_any (a b : Nat) (w : World) (ha : a < 65536) (hb : b < 256) :
    Calls Try.prog 7 #[.int .u16 (a : Int), .int .u8 (b : Int)] w fun e w' => e = .returned (.bool true) ∧ Below w.heap.size w w' := by
  obtain ⟨N, hN⟩ : ∃ N, N = a % 300 := ⟨_, rfl⟩
  obtain ⟨s, hs⟩ : ∃ s, s = b % 32 := ⟨_, rfl⟩
  have hs32 : s < 32 := by omega
  have hN300 : N < 300 := by omega
  have r1 : (a : Int) % 300 = (N : Int) := by omega
  have r2 : (b : Int) % 32 = (s : Int) := by omega
  have r1' : (a : Int).tmod 300 = (N : Int) := by rw [Int.tmod_eq_emod_of_nonneg (by omega)]; exact r1
  have r2' : (b : Int).tmod 32 = (s : Int) := by rw [Int.tmod_eq_emod_of_nonneg (by omega)]; exact r2
  clear hN hs
  go_enter Try.func7, Try.ntmps7
  go_wp2_with fail
  refine (dnew_any 192 192 w (by unfold NearD; omega)).mono ?_
  rintro e w1 ⟨rfl, hd1, hb1, hz1⟩
  have HD1 := Lib.hid hd1
  have HB1 := Lib.hid hb1
  have S0 := Lib.hid (RSure.start dec_start enc_start)
  have HF1 := Lib.hid (S0.out.found (by omega) (fun f hf => (hd1.long hf).1))
  clear hd1 hb1 hz1
  go_wp2_with fail
  refine (ropen_ok _ _ _ 0 md0 _ _ w1 HD1.out HF1.out (fun _ => rfl)).mono ?_
  rintro e w2 ⟨gR, K, n, rfl, hs2, hm2, hk2, ht2⟩
  obtain rfl : n = 0 := S0.out.stop (by omega) hs2
  have HI2 := Lib.hid (show ∃ K g, RegQ w2 gR (w.heap.size + 2) w.heap.size (w.heap.size + 1) K g (full7 s 0) ∧ g ≤ 0 ∧ (∀ k, K k → w.heap.size ≤ k) ∧ Below w.heap.size w w2 from
    ⟨K, 0, ⟨_, 0, hm2, S0.out⟩, Nat.le_refl _, (fun k hk => by
      rcases hk2 k hk with h | h
      · exact dk_lo w k h
      · exact Nat.le_trans HB1.out.size h), HB1.out.trans (ht2.below (dk_lo w) HB1.out.size)⟩)
  clear hs2 hm2 hk2 ht2
  go_wp2_with fail
  go_loopg [10] N (fun gg s10 wx => ∃ i : Nat, i + gg = N ∧ s10 = .int .i64 (i : Int) ∧ ∃ K g, RegQ wx gR (w.heap.size + 2) w.heap.size (w.heap.size + 1) K g (full7 s i) ∧ g ≤ i ∧ (∀ k, K k → w.heap.size ≤ k) ∧ Below w.heap.size w wx)
  case atStart => exact ⟨0, by omega, rfl, HI2.out⟩
  case round =>
    obtain ⟨i, hig, rfl, K, g, hq, hg, hk, hb⟩ := hrel
    have HQ := Lib.hid hq
    have HK := Lib.hid hk
    have HB := Lib.hid hb
    clear hq hk hb
    by_cases hlt : i < N
    · have t4 : decide ((i : Int) < (N : Int)) = true := decide_eq_true (by omega)
      have t5 : (i : Int).tmod 3 = ((i % 3 : Nat) : Int) := by rw [Int.tmod_eq_emod_of_nonneg (by omega)]; omega
      have RS := Lib.hid (rset_q gR _ _ _ g K (full7 s i) (s : Int) (1 + ((i % 3 : Nat) : Int)) _ HQ.out (by omega))
      rw [full7_ask hs32] at RS
      go_wp2_with fail
      refine RS.out.mono ?_
      rintro e w4 ⟨z4, K4, g4, rfl, hz4, hq4, hk4, hg4, ht4⟩
      obtain rfl : z4 = 0 := hz4
      have HQ4 := Lib.hid (show RegQ w4 gR (w.heap.size + 2) w.heap.size (w.heap.size + 1) K4 g4 (full7 s (i + 1)) from hq4)
      have HB4 := Lib.hid (HB.out.trans (ht4.below HK.out HB.out.size))
      have HK4 := Lib.hid (show ∀ k, K4 k → w.heap.size ≤ k from fun k hk => by
        rcases hk4 k hk with h | h
        · exact HK.out k h
        · exact Nat.le_trans HB.out.size h)
      clear hq4 hk4 ht4
      go_wp2_with fail
      go_roundg (N - (i + 1))
      case measure => omega
      case rel => exact ⟨i + 1, by omega, by go_num, K4, g4, HQ4.out, by omega, HK4.out, HB4.out⟩
    · obtain rfl : i = N := by omega
      have t4 : decide ((i : Int) < (i : Int)) = false := decide_eq_false (by omega)
      obtain ⟨S5, n5, hm5, hs5⟩ := HQ.out
      have HM5 := Lib.hid hm5
      have HF5 := Lib.hid (hs5.found (by omega) (fun f hf => (hm5.dsk.long hf).1))
      clear hm5 hs5
      go_wp2_with fail
      refine (ropen_ok _ _ _ g _ S5 (fun _ => none) _ HM5.out.dsk HF5.out (fun _ => rfl)).mono ?_
      rintro e w6 ⟨gQ, K6, n6, rfl, hs6, hm6, hk6, ht6⟩
      have HM6 := Lib.hid hm6
      have HB6 := Lib.hid (HB.out.trans (ht6.below (dk_lo w) HB.out.size))
      have HQ6 := Lib.hid (show RegMem w6 gR (w.heap.size + 2) w.heap.size (w.heap.size + 1) K g n5 false (full7 s i) S5 (fun _ => none) Tr.none_ from HM5.out.turned ht6 HM6.out.dsk)
      clear hs6 hm6 hk6 ht6
      obtain ⟨Y, hY⟩ : ∃ Y : Int, Y = (((full7 s i).2.getD s 0 : Nat) : Int) := ⟨_, rfl⟩
      have ST1 := Lib.hid (fun W (hb : Below w6.heap.size w6 W) => rstate_any gQ _ _ _ _ _ K6 _ _ _ _ _ (s : Int) W (HM6.out.far (fun k hk => hb.block k (HM6.out.lt k hk))))
      have ST2 := Lib.hid (fun W (hb : Below w6.heap.size w6 W) => rstate_any gR _ _ _ _ _ K _ _ _ _ _ (s : Int) W (HQ6.out.far (fun k hk => hb.block k (HQ6.out.lt k hk))))
      have e1 : ((s : Int)).toNat = s := by simp
      simp only [if_pos (show (0 : Int) ≤ (s : Int) ∧ (s : Int) ≤ 31 by omega), e1, ← hY] at ST1 ST2
      have hY2 := hY
      rw [full7_at hs32] at hY2
      clear hY
      by_cases c : i = 0
      · subst c
        have hY3 : Y = 0 := by simpa using hY2
        subst hY3
        clear hY2
        go_wp2_with fail
        refine (regAnswers_any _).mono ?_
        rintro e w7 ⟨rfl, hb7⟩
        have HB7 := Lib.hid hb7
        clear hb7
        go_wp2_with fail
        refine (ST1.out w7 HB7.out).mono ?_
        rintro e w8 ⟨rfl, q8, rfl⟩
        go_wp2_with fail
        refine (ST2.out _ (below_drewN HB7.out q8)).mono ?_
        rintro e w9 ⟨rfl, q9, rfl⟩
        go_wp2
        go_ret
        exact ⟨by simp, below_drewN (HB6.out.trans (HB7.out.mono HB6.out.size)) (q8 + q9)⟩
      · have t6 : decide ((0 : Int) < (i : Int)) = true := decide_eq_true (by omega)
        have t7 : ((i : Int) - 1).tmod 3 = (((i - 1) % 3 : Nat) : Int) := by rw [Int.tmod_eq_emod_of_nonneg (by omega)]; omega
        have hY3 : (1 : Int) + (((i - 1) % 3 : Nat) : Int) = Y := by rw [hY2, if_neg c]; omega
        clear hY2
        go_wp2_with fail
        refine (regAnswers_any _).mono ?_
        rintro e w7 ⟨rfl, hb7⟩
        have HB7 := Lib.hid hb7
        clear hb7
        go_wp2_with fail
        refine (ST1.out w7 HB7.out).mono ?_
        rintro e w8 ⟨rfl, q8, rfl⟩
        go_wp2_with fail
        refine (ST2.out _ (below_drewN HB7.out q8)).mono ?_
        rintro e w9 ⟨rfl, q9, rfl⟩
        go_wp2
        go_ret
        exact ⟨by simp, below_drewN (HB6.out.trans (HB7.out.mono HB6.out.size)) (q8 + q9)⟩
end Go.Proofs.Ytfnegbcpiejdaab

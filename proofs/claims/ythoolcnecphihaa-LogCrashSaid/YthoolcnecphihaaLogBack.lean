/-
  LogBack answers true for any records, any gen and any place, and writes nothing that was there.
  Conditions: the records are read in memory.
-/
import Derived.Test.YthoolcnecphihaaLogReads
namespace Go.Proofs.Ythoolcnecphihaa
open Go.RowKit
set_option linter.unusedVariables false

set_option maxHeartbeats 400000 in
theorem logBack_edge (A : Option Addr) (l c : Nat) (g a : Int) (w : World) (h : 64 < l) :
    Calls Try.prog 4 #[.slice A l c, .int .u32 g, .int .i64 a] w fun e w' => e = .returned (.bool true) ∧ Below w.heap.size w w' := by
  have t1 : decide ((64 : Int) < (l : Int)) = true := decide_eq_true (by omega)
  clear h
  go_enter Try.func4, Try.ntmps4
  go_wp2_with fail
  refine (logAnswers_any _).mono ?_
  rintro e w1 ⟨rfl, hb⟩
  go_wp2
  go_ret
  exact ⟨rfl, hb⟩

/-- Of the first i those that may be records. -/
def few (xss : List (List Nat)) (i : Nat) : List (List Nat) := (xss.take i).filter (fun x => decide (x.length ≤ 50))
theorem few_succ {xss : List (List Nat)} {i : Nat} (hi : i < xss.length) : few xss (i + 1) = few xss i ++ (if (xss.getD i []).length ≤ 50 then [xss.getD i []] else []) := by
  unfold few
  rw [List.take_succ_eq_append_getElem hi, List.filter_append]
  congr 1
  simp only [List.getD_eq_getElem?_getD, List.getElem?_eq_getElem hi, Option.getD_some]
  by_cases h : (xss[i]).length ≤ 50
  · simp [h]
  · simp [h]
theorem few_length (xss : List (List Nat)) (i : Nat) : (few xss i).length ≤ i := by
  unfold few
  exact Nat.le_trans (List.length_filter_le _ _) (by simp; omega)
theorem few_short (xss : List (List Nat)) (i : Nat) : ∀ x ∈ few xss i, x.length ≤ 50 := by
  intro x hx
  unfold few at hx
  simpa using (List.mem_filter.1 hx).2
theorem few_at {xss : List (List Nat)} {i j : Nat} (hj : j < (few xss i).length) : ((few xss i).getD j []).length ≤ 50 := by
  refine few_short xss i _ ?_
  rw [List.getD_eq_getElem?_getD, List.getElem?_eq_getElem hj]
  exact List.getElem_mem hj
/-- The sectors of a log that has those records. -/
def bkS (gen : Nat) (ks : List (List Nat)) : Nat → List Nat := fun j => if j < ks.length then secL gen j (ks.getD j []) else zer
theorem bkS_step (gen : Nat) (ks : List (List Nat)) (x : List Nat) : upd (bkS gen ks) ks.length (secL gen ks.length x) = bkS gen (ks ++ [x]) := by
  funext j
  unfold upd bkS
  by_cases e : j = ks.length
  · subst e
    rw [if_pos rfl, if_pos (by simp)]
    simp
  · rw [if_neg e]
    by_cases c : j < ks.length
    · rw [if_pos c, if_pos (by simp; omega)]
      simp only [List.getD_eq_getElem?_getD, List.getElem?_append_left c]
    · rw [if_neg c, if_neg (by simp; omega)]
theorem bkS_at {gen : Nat} {ks : List (List Nat)} {j : Nat} (h : j < ks.length) : bkS gen ks j = secL gen j (ks.getD j []) := by
  unfold bkS
  rw [if_pos h]
theorem bkS_behind {gen : Nat} {ks : List (List Nat)} {j : Nat} (h : ks.length ≤ j) : bkS gen ks j = zer := by
  unfold bkS
  rw [if_neg (by omega)]
theorem bkS_nil (gen : Nat) : bkS gen [] = fun _ => zer := by
  funext j
  exact bkS_behind (Nat.zero_le _)
theorem bkS_stop {gen : Nat} {ks : List (List Nat)} (h : ks.length ≤ 64) (hk : ∀ j, j < ks.length → (ks.getD j []).length ≤ 50) : Stop (bkS gen ks) gen ks.length :=
  ⟨h, fun j hj => by rw [bkS_at hj]; exact secL_rec (hk j hj), fun _ => by rw [bkS_behind (Nat.le_refl _)]; exact zer_none _ _⟩
theorem bkS_other {gen gen' : Nat} {ks : List (List Nat)} (hk : ∀ j, j < ks.length → (ks.getD j []).length ≤ 50) (hg : gen < 4294967296) (hg' : gen' < 4294967296) (hne : gen' ≠ gen) : Stop (bkS gen ks) gen' 0 := by
  refine ⟨by omega, fun j hj => absurd hj (by omega), fun _ hr => ?_⟩
  by_cases h : 0 < ks.length
  · rw [bkS_at h] at hr
    exact hne (secL_other (hk 0 h) hr hg hg')
  · rw [bkS_behind (by omega)] at hr
    exact zer_none _ _ hr
theorem bkS_pays {gen : Nat} {ks : List (List Nat)} (hk : ∀ j, j < ks.length → (ks.getD j []).length ≤ 50) : pays (bkS gen ks) ks.length = ks := by
  refine lists_of_getD (pays_length _ _) fun j hj => ?_
  rw [pays_length] at hj
  rw [pays_getD _ _ _ hj]
  exact pay_sec (bkS_at hj) (hk j hj)
theorem keysL_none (n : Nat) : keysL n (fun _ => none) = [] := by
  refine List.eq_nil_iff_forall_not_mem.2 fun j hj => ?_
  have := (keysL_mem hj).2
  simp at this

/-- What holds ahead of each round. -/
def BackAt (w : World) (gen : Nat) (ks : List (List Nat)) (v : Value) (wx : World) : Prop :=
  Dsk wx (w.heap.size + 2) w.heap.size (w.heap.size + 1) 192 (bkS gen ks) (fun _ => none) Tr.none_ ∧ Lst wx (dk (w.heap.size + 2) w.heap.size (w.heap.size + 1)) w.heap.size (w.heap.size + 3) 29 v ks ∧ Below w.heap.size w wx
theorem dk_base (w : World) : ∀ q, dk (w.heap.size + 2) w.heap.size (w.heap.size + 1) q → q < w.heap.size + 3 := by
  rintro q (e | e | e) <;> omega
theorem dk_lo (w : World) : ∀ q, dk (w.heap.size + 2) w.heap.size (w.heap.size + 1) q → w.heap.size ≤ q := by
  rintro q (e | e | e) <;> omega

set_option maxRecDepth 20000 in
set_option maxHeartbeats 3200000 in
theorem logBack_any (v0 : Value) (xss : List (List Nat)) (gen : Nat) (at_ : Int) (w : World) (h0 : Pts w v0 xss) (hl : xss.length ≤ 64) (hg : gen < 4294967296) :
    Calls Try.prog 4 #[v0, .int .u32 (gen : Int), .int .i64 at_] w fun e w' => e = .returned (.bool true) ∧ Below w.heap.size w w' := by
  have H0 := Lib.hid h0
  obtain ⟨A, N, c, rfl, hN, hNc, hcm, -⟩ := h0
  have HN := Lib.hid hN
  have HG := Lib.hid hg
  have hN64 : N ≤ 64 := by omega
  have t1 : decide ((64 : Int) < (N : Int)) = false := decide_eq_false (by omega)
  unfold maxLen at hcm
  obtain ⟨i0, hi, hz0, hz1, hz2⟩ := info_parts Try.infoB
  have HI := Lib.hid hi
  have HZ0 := Lib.hid hz0
  have HZ1 := Lib.hid hz1
  have HZ2 := Lib.hid hz2
  clear hi hz0 hz1 hz2 hl hN hg
  go_enter Try.func4, Try.ntmps4
  go_wp2_with fail
  refine (dnew_any 192 192 w (by unfold NearD; omega)).mono ?_
  rintro e w1 ⟨rfl, hd1, hb1, hz1⟩
  have HS1 := Lib.hid (show BackAt w gen (few xss 0) (.slice none 0 0) w1 from ⟨by
    rw [show few xss 0 = [] from by simp [few], bkS_nil]
    exact hd1, by rw [show few xss 0 = [] from by simp [few]]; exact Lst.nil_ _ _ _ _ _, hb1⟩)
  clear hd1 hb1 hz1
  go_wp2_with fail
  go_loopg [8, 9] N (fun g s8 s9 wx => ∃ i : Nat, i + g = N ∧ s9 = .int .i64 i ∧ BackAt w gen (few xss i) s8 wx)
  case atStart => exact ⟨0, by omega, rfl, HS1.out⟩
  case round =>
    obtain ⟨i, hig, rfl, hr⟩ := hrel
    have HR := Lib.hid hr
    obtain ⟨A8, c8, hv8, -⟩ := hr.2.1.shape
    obtain ⟨ks, hks⟩ : ∃ ks, ks = few xss i := ⟨_, rfl⟩
    rw [← hks] at HR hv8
    have HKL := Lib.hid (show ks.length ≤ i from by rw [hks]; exact few_length xss i)
    have HK50 := Lib.hid (show ∀ j, j < ks.length → (ks.getD j []).length ≤ 50 from by rw [hks]; exact fun j hj => few_at hj)
    have HKS := Lib.hid hks
    obtain ⟨K, hK⟩ : ∃ K, K = ks.length := ⟨_, rfl⟩
    rw [← hK] at hv8
    have HKE := Lib.hid hK
    subst hv8
    have hK64 : K ≤ i := by rw [hK]; exact HKL.out
    clear hr hks hK
    by_cases hlt : i < N
    · have t4 : decide ((i : Int) < (N : Int)) = true := decide_eq_true (by omega)
      have t5 : (i : Int) < (N : Int) := by omega
      have t6 : (0 : Int) ≤ (i : Int) := by omega
      obtain ⟨b, off, rfl⟩ := H0.out.addr (by omega)
      obtain ⟨u, hc0, hu⟩ := H0.out.at_ (j := i) (by rw [HN.out]; exact hlt)
      have HCE := Lib.hid (show ∀ w', Below w.heap.size w w' → w'.cell? ⟨b, off + i, none⟩ = some u from fun w' hw' => (hw'.cell (World.block_lt_of_cell? w _ hc0)).trans hc0)
      obtain ⟨x, hx⟩ : ∃ x, x = xss.getD i [] := ⟨_, rfl⟩
      rw [← hx] at hu
      have HU := Lib.hid hu
      have hcell := HCE.out _ HR.out.2.2
      have HFS := Lib.hid (show few xss (i + 1) = ks ++ (if x.length ≤ 50 then [x] else []) from by rw [HKS.out, hx]; exact few_succ (by rw [HN.out]; exact hlt))
      obtain ⟨A2, n2, c2, rfl, hn2, -⟩ := hu
      have HX := Lib.hid hn2
      clear hc0 hx hn2
      by_cases h50 : 50 < n2
      · have t7 : decide ((50 : Int) < (n2 : Int)) = true := decide_eq_true (by omega)
        go_wp2_with fail
        refine (append_long _ _ _ _ _ _ _ h50).mono ?_
        rintro e w2 ⟨rfl, rfl⟩
        go_wp2_with fail
        go_roundg (N - (i + 1))
        case measure => omega
        case rel =>
          refine ⟨i + 1, by omega, by go_num, ?_⟩
          rw [HFS.out, if_neg (by have := HX.out; omega), List.append_nil]
          exact HR.out
      · have t7 : decide ((50 : Int) < (n2 : Int)) = false := decide_eq_false (by omega)
        have HX50 := Lib.hid (show x.length ≤ 50 by have := HX.out; omega)
        go_wp2_with fail
        refine (append_ok _ _ _ _ _ gen K _ x _ wr HR.out.1 (by omega) (HU.out.below HR.out.2.2) HR.out.2.2.size HX50.out HG.out (by omega)).mono ?_
        rintro e w2 ⟨rfl, hd2, ht2⟩
        have hd2' := hd2
        rw [HKE.out, bkS_step] at hd2'
        have HD2 := Lib.hid hd2'
        have HL2 := Lib.hid (HR.out.2.1.turns (dk_base w) ht2)
        have HN2 := Lib.hid (ht2.fresh_ HR.out.2.2 (Nat.le_refl _) (by omega) (Nat.le_refl _) (by omega))
        have hcell2 := HCE.out _ HN2.out
        clear hd2 hd2' ht2 hcell
        go_wp2_with fail
        refine (dread_yes _ _ _ _ _ _ _ K _ HD2.out (by omega) none_ans).mono ?_
        rintro e w3 ⟨rfl, hb3, hd3, ht3, hs3⟩
        rw [none_next] at hd3
        have hsec : last (bkS gen (ks ++ [x])) (fun _ => none) K = secL gen K x := by
          show bkS gen (ks ++ [x]) K = _
          rw [bkS_at (by rw [HKE.out]; simp), HKE.out]
          simp
        rw [hsec] at hb3
        have BX3 := Lib.hid (Bts.of_whole (n := 64) hb3 (secL_length gen K x HX50.out) (by simp [maxLen]) (secL_byte gen K x HX50.out HU.out.byte))
        have HD3 := Lib.hid hd3
        have HL3 := Lib.hid (HL2.out.turns (dk_base w) ht3)
        have HN3 := Lib.hid (ht3.fresh_ HN2.out (Nat.le_refl _) (by omega) (Nat.le_refl _) (by omega))
        have hcell3 := HCE.out _ HN3.out
        clear hb3 hd3 ht3 hs3 hsec hcell2
        go_wp2_with fail
        refine (refSector_any gen K _ x w.heap.size w3 (HU.out.below HN3.out) HN3.out.size HX50.out HG.out (by omega)).mono ?_
        rintro e w4 ⟨r4, rfl, ho4, hb4⟩
        have RX4 := Lib.hid (Bts.of_own ho4 (secL_byte gen K x HX50.out HU.out.byte))
        have BX4 := Lib.hid (BX3.out.below hb4)
        have HD4 := Lib.hid (HD3.out.fresh hb4)
        have HL4 := Lib.hid (HL3.out.turns (dk_base w) (Turns.of_below hb4 (Nat.le_refl _)))
        have HN4 := Lib.hid (HN3.out.trans (hb4.mono HN3.out.size))
        clear ho4 hb4 hcell3
        go_wp2_with fail
        refine (same_any _ _ _ _ _ _ w4 BX4.out RX4.out).mono ?_
        rintro e w5 ⟨rfl, q, rfl⟩
        obtain ⟨w5, hw5⟩ : ∃ w5, w5 = w4.drewN q := ⟨_, rfl⟩
        have HD5 := Lib.hid (show Dsk w5 _ _ _ _ _ _ _ from by rw [hw5]; exact HD4.out)
        have HL5 := Lib.hid (show Lst w5 _ _ _ _ _ _ from by rw [hw5]; exact HL4.out)
        have HN5 := Lib.hid (show Below w.heap.size w w5 from by rw [hw5]; exact below_drewN HN4.out q)
        rw [← hw5, decide_eq_true (rfl : secL gen K x = secL gen K x)]
        clear hw5
        go_wp2_with fail
        refine (dloose_any _ _ _ _ _ _ _ w5 HD5.out).mono ?_
        rintro e w6 ⟨v6, rfl, ho6, hb6, hnn6⟩
        rw [keysL_none] at ho6
        obtain ⟨g6, cap6, rfl⟩ : ∃ g6 cap6, v6 = .slice (some ⟨g6, 0, none⟩) 0 cap6 := by
          rcases ho6.2 with ⟨h, _⟩ | ⟨g, cap, cur, h, _⟩
          · exact absurd (hnn6 h) (by simp)
          · exact ⟨g, cap, h⟩
        have HD6 := Lib.hid (HD5.out.fresh hb6)
        have HL6 := Lib.hid (HL5.out.turns (dk_base w) (Turns.of_below hb6 (Nat.le_refl _)))
        have HN6 := Lib.hid (HN5.out.trans (hb6.mono HN5.out.size))
        have hcell6 := HCE.out _ HN6.out
        have HL7 := Lib.hid (HL6.out.alloc (dk_base w) (.cells #[.slice A2 n2 c2] 29))
        have HN7 := Lib.hid (HN6.out.alloc HN6.out.size (.cells #[.slice A2 n2 c2] 29))
        have HD7 := Lib.hid (HD6.out.alloc (.cells #[.slice A2 n2 c2] 29))
        have HB7 := Lib.hid (show w.heap.size + 3 ≤ (w6.alloc (.cells #[.slice A2 n2 c2] 29)).heap.size from by have := HD6.out.lt.1; simp; omega)
        have HE7 := Lib.hid (show ∀ j, j < 1 → ∃ u, ([Value.slice A2 n2 c2])[j]? = some u ∧ El (w6.alloc (.cells #[.slice A2 n2 c2] 29)) (dk (w.heap.size + 2) w.heap.size (w.heap.size + 1)) w.heap.size 29 u (([x]).getD j []) from by
          intro j hj
          obtain rfl : j = 0 := by omega
          exact ⟨_, rfl, El.of_bts (HU.out.below HN7.out) (dk_lo w) HN7.out.size⟩)
        have HC7 := Lib.hid (one_cell (w := w6.alloc (.cells #[.slice A2 n2 c2] 29)) (g := w6.heap.size) (v := .slice A2 n2 c2) (by simp))
        have HFW := Lib.hid (show ks.length + 1 ≤ 1000000 by have := HKE.out; omega)
        clear ho6 hb6 hnn6
        go_wp2_with (at_builtin; refine wpList_append_lst rfl (.tmp 74) (.tmp 79) 22 rfl (dk (w.heap.size + 2) w.heap.size (w.heap.size + 1)) w.heap.size (w.heap.size + 3) 29 i0 Try.underlying22 HI.out HZ0.out HZ1.out HZ2.out (.slice A8 K c8) ks rfl HL7.out ⟨w6.heap.size, 0, none⟩ 1 1 [.slice A2 n2 c2] [x] rfl rfl rfl HC7.out HE7.out HFW.out HB7.out (by omega) ?_; intro v8 w8 HL8 HK8)
        go_roundg (N - (i + 1))
        case measure => omega
        case rel =>
          refine ⟨i + 1, by omega, by go_num, ?_⟩
          rw [HFS.out, if_pos HX50.out]
          exact ⟨HD7.out.below HK8.out (by omega) (by omega) (by omega), HL8.out, HN7.out.trans (HK8.out.mono (by omega))⟩
    · obtain rfl : i = N := by omega
      have t4 : decide (((i : Nat) : Int) < (i : Int)) = false := decide_eq_false (by omega)
      obtain ⟨g1, hg1⟩ : ∃ g1 : Nat, g1 = (gen + 1) % 4294967296 := ⟨_, rfl⟩
      have t5 : IntKind.u32.wrap ((gen : Int) + 1) = (g1 : Int) := by rw [IntKind.wrap_u32']; omega
      have HG1 := Lib.hid (show g1 < 4294967296 ∧ g1 ≠ gen by have := HG.out; omega)
      clear hg1
      go_wp2_with fail
      refine (replay_ok _ _ _ _ _ _ gen _ HR.out.1 (by omega) HG.out).mono ?_
      rintro e w3 ⟨m, v3, hs3, rfl, hl3, hd3, ht3⟩
      obtain rfl : m = ks.length := hs3.uniq (bkS_stop (by have := HKL.out; omega) HK50.out) (fun j _ => rfl)
      rw [show pays (last (bkS gen ks) (fun _ => none)) ks.length = ks from bkS_pays HK50.out] at hl3
      have HL3 := Lib.hid hl3
      have HW3 := Lib.hid (HR.out.2.1.turns (dk_base w) ht3)
      have HD3 := Lib.hid hd3
      have HN3 := Lib.hid (ht3.fresh_ HR.out.2.2 (Nat.le_refl _) (by omega) (Nat.le_refl _) (by omega))
      have HDM := Lib.hid (dk_lt HR.out.1)
      clear hs3 hl3 hd3 ht3
      go_wp2_with fail
      refine (replay_ok _ _ _ _ _ _ g1 _ HD3.out (by omega) HG1.out.1).mono ?_
      rintro e w4 ⟨m4, v4, hs4, rfl, hl4, hd4, ht4⟩
      obtain rfl : m4 = 0 := hs4.uniq (bkS_other HK50.out HG.out HG1.out.1 HG1.out.2) (fun j _ => rfl)
      obtain ⟨A4, c4, hv4, -⟩ := hl4.shape
      rw [pays_length] at hv4
      subst hv4
      have HL4 := Lib.hid (HL3.out.turns HDM.out ht4)
      have HW4 := Lib.hid (HW3.out.turns (dk_base w) ht4)
      have HN4 := Lib.hid (ht4.fresh_ HN3.out (Nat.le_refl _) (by omega) (Nat.le_refl _) (by omega))
      have HD4 := Lib.hid hd4
      clear hs4 hl4 hd4 ht4
      by_cases ha : at_ < 0
      · have a1 : decide (at_ < 0) = true := decide_eq_true ha
        have HAO := Lib.hid (show at_ < 0 ∨ 64 ≤ at_ from .inl ha)
        go_wp2_with fail
        refine (logAnswers_any _).mono ?_
        rintro e w5 ⟨rfl, hb5⟩
        have HL5 := Lib.hid (HL4.out.turns HDM.out (Turns.of_below hb5 (Nat.le_refl _))).pts
        have HW5 := Lib.hid (HW4.out.turns (dk_base w) (Turns.of_below hb5 (Nat.le_refl _))).pts
        have HN5 := Lib.hid (HN4.out.trans (hb5.mono HN4.out.size))
        clear hb5
        go_wp2_with fail
        refine (sameAll_any _ _ _ _ _ HL5.out HW5.out).mono ?_
        rintro e w6 ⟨rfl, q, rfl⟩
        rw [decide_eq_true (rfl : ks = ks)]
        go_wp2_with fail
        refine (append_out _ _ _ _ _ _ _ (by omega) HAO.out).mono ?_
        rintro e w7 ⟨rfl, rfl⟩
        go_wp2
        go_ret
        exact ⟨by simp, below_drewN HN5.out q⟩
      · have a1 : decide (at_ < 0) = false := decide_eq_false ha
        by_cases ha2 : 63 < at_
        · have a2 : decide ((63 : Int) < at_) = true := decide_eq_true ha2
          have HAO := Lib.hid (show at_ < 0 ∨ 64 ≤ at_ from .inr (by omega))
          go_wp2_with fail
          refine (logAnswers_any _).mono ?_
          rintro e w5 ⟨rfl, hb5⟩
          have HL5 := Lib.hid (HL4.out.turns HDM.out (Turns.of_below hb5 (Nat.le_refl _))).pts
          have HW5 := Lib.hid (HW4.out.turns (dk_base w) (Turns.of_below hb5 (Nat.le_refl _))).pts
          have HN5 := Lib.hid (HN4.out.trans (hb5.mono HN4.out.size))
          clear hb5
          go_wp2_with fail
          refine (sameAll_any _ _ _ _ _ HL5.out HW5.out).mono ?_
          rintro e w6 ⟨rfl, q, rfl⟩
          rw [decide_eq_true (rfl : ks = ks)]
          go_wp2_with fail
          refine (append_out _ _ _ _ _ _ _ (by omega) HAO.out).mono ?_
          rintro e w7 ⟨rfl, rfl⟩
          go_wp2
          go_ret
          exact ⟨by simp, below_drewN HN5.out q⟩
        · have a2 : decide ((63 : Int) < at_) = false := decide_eq_false ha2
          go_wp2_with fail
          refine (logAnswers_any _).mono ?_
          rintro e w5 ⟨rfl, hb5⟩
          have HL5 := Lib.hid (HL4.out.turns HDM.out (Turns.of_below hb5 (Nat.le_refl _))).pts
          have HW5 := Lib.hid (HW4.out.turns (dk_base w) (Turns.of_below hb5 (Nat.le_refl _))).pts
          have HN5 := Lib.hid (HN4.out.trans (hb5.mono HN4.out.size))
          clear hb5
          go_wp2_with fail
          refine (sameAll_any _ _ _ _ _ HL5.out HW5.out).mono ?_
          rintro e w6 ⟨rfl, q, rfl⟩
          rw [decide_eq_true (rfl : ks = ks)]
          go_wp2
          go_ret
          exact ⟨by simp, below_drewN HN5.out q⟩
end Go.Proofs.Ythoolcnecphihaa

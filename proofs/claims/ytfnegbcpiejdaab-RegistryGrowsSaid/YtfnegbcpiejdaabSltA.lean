/-
  The contracts of slot's own calls up to Load.
  Conditions: those that each line bears.
-/
import Derived.Test.YtfnegbcpiejdaabBas
import Derived.Test.YtfnegbcpiejdaabWrd
import Derived.Test.YtfnegbcpiejdaabDsk
import Derived.Deep.LoopGhost
import Derived.Laws.MakeOwn
import Derived.Deep.RegionHeld3
import Derived.Deep.RegionWith
import Derived.BigQuiet

/-! ## SloB: A slot's bytes read off the disk one sector behind the other, and a head as the program asks for it: its rest, and its sum. Nothing of the program is named here.   Conditions: none beside those that each line bears. -/
namespace Go.Proofs.Ytfnegbcpiejdaab
open Go.RowKit
set_option linter.unusedVariables false

/-- k sectors from a on, one behind the other. -/
def flatN (F : Nat → List Nat) (a k : Nat) : List Nat := ((List.range k).map (fun j => F (a + j))).flatten
theorem flatN_zero (F : Nat → List Nat) (a : Nat) : flatN F a 0 = [] := rfl
theorem flatN_succ (F : Nat → List Nat) (a k : Nat) : flatN F a (k + 1) = flatN F a k ++ F (a + k) := by
  unfold flatN
  rw [List.range_succ, List.map_append, List.flatten_append]
  simp
theorem flatN_length {F : Nat → List Nat} {a k : Nat} (h : ∀ j, j < k → (F (a + j)).length = 64) : (flatN F a k).length = 64 * k := by
  induction k with
  | zero => rfl
  | succ k ih =>
    rw [flatN_succ, List.length_append, ih (fun j hj => h j (by omega)), h k (by omega)]
    omega
theorem flatN_byte {F : Nat → List Nat} {a k : Nat} (h : ∀ j, j < k → ∀ y ∈ F (a + j), y < 256) : ∀ y ∈ flatN F a k, y < 256 := by
  induction k with
  | zero => intro y hy; cases hy
  | succ k ih =>
    intro y hy
    rw [flatN_succ] at hy
    rcases List.mem_append.1 hy with hy | hy
    · exact ih (fun j hj => h j (by omega)) y hy
    · exact h k (by omega) y hy
theorem sloA_flat (F : Nat → List Nat) (w : Nat) : sloA F w = flatN F (65 + 16 * w) 15 := rfl
/-- The next sector's bytes. -/
theorem con_step {F : Nat → List Nat} {a k m : Nat} (h : ∀ j, j < k → (F (a + j)).length = 64) (hm : 64 * k < m) : (flatN F a (k + 1)).take m = (flatN F a k).take m ++ (F (a + k)).take (m - 64 * k) := by
  rw [flatN_succ, List.take_append, flatN_length h]
theorem con_less {F : Nat → List Nat} {a m : Nat} : ∀ d k, (∀ j, j < k → (F (a + j)).length = 64) → m ≤ 64 * k → (flatN F a (k + d)).take m = (flatN F a k).take m := by
  intro d
  induction d with
  | zero => intro k _ _; rfl
  | succ d ih =>
    intro k hk hm
    rw [← Nat.add_assoc, flatN_succ, List.take_append_of_le_length, ih k hk hm]
    have h2 : ∀ d, 64 * k ≤ (flatN F a (k + d)).length := by
      intro d
      induction d with
      | zero => rw [Nat.add_zero, flatN_length hk]; exact Nat.le_refl _
      | succ d ih => rw [← Nat.add_assoc, flatN_succ, List.length_append]; omega
    have := h2 d
    omega
/-- All that was asked for has been read. -/
theorem con_end {F : Nat → List Nat} {a k n m : Nat} (h : ∀ j, j < k → (F (a + j)).length = 64) (hm : m ≤ 64 * k) (hk : k ≤ n) : (flatN F a n).take m = (flatN F a k).take m := by
  obtain ⟨d, rfl⟩ : ∃ d, n = k + d := ⟨n - k, by omega⟩
  exact con_less d k h hm
theorem con_length {F : Nat → List Nat} {a k m : Nat} (h : ∀ j, j < k → (F (a + j)).length = 64) : ((flatN F a k).take m).length = min m (64 * k) := by
  rw [List.length_take, flatN_length h]

/-- A head as the program asks for it. -/
theorem head_iff {s b : List Nat} (hs : s.length = 64) (hb : ∀ y ∈ s, y < 256) (hn : b.length = le (win s 4 4)) :
    hedL (le (win s 0 4)) b = s ↔ (∀ y ∈ s.drop 12, y = 0) ∧ le (win s 8 4) = sumM (s.take 8 ++ b) := by
  have p8 : preL (le (win s 0 4)) b = s.take 8 := by
    unfold preL
    rw [hn, win_num s 0 4 (by omega) hb, win_num s 4 4 (by omega) hb, ← win_split s 0 4 4 (by omega)]
    simp [win]
  have ls : s = s.take 8 ++ (win s 8 4 ++ s.drop 12) := by
    have e : win s 8 4 ++ s.drop 12 = s.drop 8 := by
      unfold win
      rw [show s.drop 12 = (s.drop 8).drop 4 by rw [List.drop_drop], List.take_append_drop]
    rw [e, List.take_append_drop]
  have lw : (win s 8 4).length = 4 := win_length _ _ _ (by omega)
  have ld : (s.drop 12).length = 52 := by simp [hs]
  unfold hedL
  rw [p8]
  constructor
  · intro h
    have h2 : numL (sumM (s.take 8 ++ b)) 4 ++ List.replicate 52 0 = win s 8 4 ++ s.drop 12 := by
      refine List.append_cancel_left (show s.take 8 ++ _ = s.take 8 ++ _ from ?_)
      rw [← ls]
      exact h
    obtain ⟨h3, h4⟩ := List.append_inj h2 (by rw [numL_length, lw])
    refine ⟨fun y hy => ?_, ?_⟩
    · rw [← h4] at hy
      exact List.eq_of_mem_replicate hy
    · rw [← h3, le_numL_lt _ _ (by have := sumM_lt (s.take 8 ++ b); omega)]
  · rintro ⟨h1, h2⟩
    rw [← h2, win_num s 8 4 (by omega) hb, show List.replicate 52 0 = s.drop 12 from ?_, ← ls]
    exact (List.eq_replicate_iff.2 ⟨ld, h1⟩).symm
theorem sloN_lt {F : Nat → List Nat} {w : Nat} (hb : ∀ y ∈ F (64 + 16 * w), y < 256) : sloN F w < 4294967296 := by
  have h := le_lt (win (F (64 + 16 * w)) 4 4) (fun y hy => hb y (List.mem_of_mem_drop (List.mem_of_mem_take hy)))
  have h2 : (win (F (64 + 16 * w)) 4 4).length ≤ 4 := by unfold win; simp; omega
  have h3 : 256 ^ (win (F (64 + 16 * w)) 4 4).length ≤ 256 ^ 4 := Nat.pow_le_pow_right (by omega) h2
  unfold sloN
  omega
theorem sloG_lt {F : Nat → List Nat} {w : Nat} (hb : ∀ y ∈ F (64 + 16 * w), y < 256) : sloG F w < 4294967296 := by
  have h := le_lt (win (F (64 + 16 * w)) 0 4) (fun y hy => hb y (List.mem_of_mem_drop (List.mem_of_mem_take hy)))
  have h2 : (win (F (64 + 16 * w)) 0 4).length ≤ 4 := by unfold win; simp; omega
  have h3 : 256 ^ (win (F (64 + 16 * w)) 0 4).length ≤ 256 ^ 4 := Nat.pow_le_pow_right (by omega) h2
  unfold sloG
  omega
/-- A slot is whole as the program asks for it. -/
theorem whole_iff {F : Nat → List Nat} {w : Nat} (hl : ∀ f, 64 + 16 * w ≤ f → f < 80 + 16 * w → (F f).length = 64) (hb : ∀ y ∈ F (64 + 16 * w), y < 256) :
    Whole F w ↔ sloG F w % 2 = w ∧ sloN F w ≤ 960 ∧ (∀ y ∈ (F (64 + 16 * w)).drop 12, y = 0) ∧ le (win (F (64 + 16 * w)) 8 4) = sumM ((F (64 + 16 * w)).take 8 ++ sloB F w) := by
  unfold Whole
  by_cases c : sloN F w ≤ 960
  · have hB : (sloB F w).length = sloN F w := by
      unfold sloB
      rw [List.length_take, sloA_length w (fun f h1 h2 => hl f (by omega) h2)]
      omega
    have h := head_iff (s := F (64 + 16 * w)) (b := sloB F w) (hl _ (by omega) (by omega)) hb hB
    have h' : hedL (sloG F w) (sloB F w) = F (64 + 16 * w) ↔ _ := h
    rw [h']
    exact ⟨fun ⟨a, b, c, d⟩ => ⟨b, a, c, d⟩, fun ⟨a, b, c, d⟩ => ⟨b, a, c, d⟩⟩
  · exact ⟨fun h => absurd h.1 c, fun h => absurd h.2.1 c⟩
end Go.Proofs.Ytfnegbcpiejdaab

/-! ## SlotA: The contracts of slot's headOf, number and empty: the sector of a gen's head; a number that stands in a sector; whether all bytes are 0. Nothing is changed.   Conditions: the bytes are read in memory. -/
namespace Go.Proofs.Ytfnegbcpiejdaab
open Go.RowKit
set_option linter.unusedVariables false

theorem ret_i64_ {a b : Int} (h : a = b) : Ending.returned (.int .i64 a) = .returned (.int .i64 b) := by rw [h]
set_option maxHeartbeats 400000 in
theorem headOf_any (g : Nat) (w : World) (hg : g < 4294967296) :
    Calls Try.prog 63 #[.int .u32 (g : Int)] w fun e w' => e = .returned (.int .i64 ((64 + 16 * (g % 2) : Nat) : Int)) ∧ w = w' := by
  obtain ⟨r, hr, hr2⟩ : ∃ r : Nat, r = g % 2 ∧ r < 2 := ⟨g % 2, rfl, by omega⟩
  have h1 : (g : Int) % 2 = (r : Int) := by omega
  have h2 : (16 : Int) * (r : Int) + 64 = ((64 + 16 * r : Nat) : Int) := by omega
  rw [← hr]
  clear hr
  go_enter Try.func63, Try.ntmps63
  go_wp2
  go_ret
  exact ⟨ret_i64_ (by omega), rfl⟩

theorem ret_u32_ {a b : Int} (h : a = b) : Ending.returned (.int .u32 a) = .returned (.int .u32 b) := by rw [h]
set_option maxHeartbeats 400000 in
theorem snumber_any (v : Value) (xs : List Nat) (B a : Nat) (w : World) (h : Bts w B v xs) (ha : a + 4 ≤ xs.length) (hb : ∀ y ∈ xs, y < 256) :
    Calls Try.prog 76 #[v, .int .i64 (a : Int)] w fun e w' => e = .returned (.int .u32 ((le (win xs a 4) : Nat) : Int)) ∧ w = w' := by
  have HG := Lib.hid (get_yes v xs B (a : Int) 4 w h ⟨by omega, by omega, by omega, by omega⟩)
  have hx := le_lt (win xs a 4) (fun y hy => hb y (List.mem_of_mem_drop (List.mem_of_mem_take hy)))
  rw [win_length xs a 4 ha] at hx
  have hy : getV xs (a : Int) 4 = ((le (win xs a 4) : Nat) : Int) := by unfold getV; simp
  rw [hy] at HG
  obtain ⟨x, hxe⟩ : ∃ x, x = le (win xs a 4) := ⟨_, rfl⟩
  rw [← hxe] at HG hx ⊢
  have hx2 : x < 4294967296 := by omega
  have c1 : IntKind.u32.wrap (x : Int) = (x : Int) := by rw [IntKind.wrap_u32]; omega
  clear hxe hy hx h
  go_enter Try.func76, Try.ntmps76
  go_wp2_with fail
  refine HG.out.mono ?_
  rintro e w1 ⟨rfl, rfl⟩
  go_wp2
  go_ret
  exact ⟨rfl, rfl⟩

/-- Whether all are 0. -/
def allZ (xs : List Nat) : Bool := decide (∀ y ∈ xs, y = 0)
set_option maxHeartbeats 400000 in
theorem empty_any (v : Value) (xs : List Nat) (B : Nat) (w : World) (h : Bts w B v xs) :
    Calls Try.prog 77 #[v] w fun e w' => e = .returned (.bool (allZ xs)) ∧ w = w' := by
  have HBY := Lib.hid h.byte
  obtain ⟨A, n, c, rfl, hl, hm, _, _, hb, hx⟩ := h
  unfold maxLen at hm
  have HL := Lib.hid hl
  clear hl
  have HX := Lib.hid hx
  clear hx hb
  go_enter Try.func77, Try.ntmps77
  go_wp2
  go_loop [7] (fun i => ∃ k : Nat, k ≤ n ∧ i = .int .i64 k ∧ ∀ j, j < k → xs.getD j 0 = 0) (fun i => n - (intOf i).toNat)
  case atStart => exact ⟨0, Nat.zero_le _, rfl, fun j hj => absurd hj (by omega)⟩
  case round =>
    obtain ⟨k, hk, rfl, hz⟩ := hrel
    have HZ := Lib.hid hz
    clear hz
    by_cases hlt : k < n
    · obtain ⟨b, off, rfl, _, hc⟩ := HX.out (by omega)
      have hcell := hc k hlt
      obtain ⟨y, hy⟩ : ∃ y, y = xs.getD k 0 := ⟨_, rfl⟩
      rw [← hy] at hcell
      have HY := Lib.hid hy
      clear hy hc
      by_cases hy0 : y = 0
      · have t1 : ((y : Int) != 0) = false := by simp [hy0]
        have t2 : ((y : Int) == 0) = true := by simp [hy0]
        have HY0 := Lib.hid hy0
        clear hy0
        go_wp2
        go_round
        case rel =>
          refine ⟨k + 1, by omega, by go_num, fun j hj => ?_⟩
          by_cases e : j = k
          · subst e
            rw [← HY.out, HY0.out]
          · exact HZ.out j (by omega)
        case measure => simp [intOf]; omega
      · have t1 : ((y : Int) != 0) = true := by simp; omega
        have t2 : ((y : Int) == 0) = false := by simp; omega
        have HY0 := Lib.hid hy0
        clear hy0
        have HE := Lib.hid (show allZ xs = false from decide_eq_false (fun h => HY0.out (by
          rw [HY.out]
          simp only [List.getD_eq_getElem?_getD, List.getElem?_eq_getElem (show k < xs.length by rw [HL.out]; omega), Option.getD_some]
          exact h _ (List.getElem_mem _))))
        go_wp2
        go_ret
        exact ⟨by rw [HE.out]; rfl, rfl⟩
    · obtain rfl : k = n := by omega
      have HE := Lib.hid (show allZ xs = true from decide_eq_true (fun y hy => by
        obtain ⟨j, hj, rfl⟩ := List.getElem_of_mem hy
        have := HZ.out j (by rw [← HL.out]; exact hj)
        simpa [List.getD_eq_getElem?_getD, List.getElem?_eq_getElem hj] using this))
      go_wp2
      go_ret
      exact ⟨by rw [HE.out]; rfl, rfl⟩
end Go.Proofs.Ytfnegbcpiejdaab

/-! ## SlotC: The contract of slot's content: so many bytes, read off the disk's sectors from one on, in new memory; or the first work that fails.   Conditions: the disk is known whole and has fifteen sectors from there on; at most 960 bytes. -/
namespace Go.Proofs.Ytfnegbcpiejdaab
open Go.RowKit
set_option linter.unusedVariables false

theorem own_any {w : World} {base : Nat} {e : TypeId} {v : Value} {n : Nat} {xs : List Value} (h : w.ownsRow base e 1 v n xs) : ∃ A cap, v = .slice A n cap := by
  rcases h.2 with ⟨h1, h2⟩ | ⟨g, cap, cur, h1, _⟩
  · exact ⟨none, 0, by rw [h1, h2]⟩
  · exact ⟨_, cap, h1⟩
theorem own_turns {w w' : World} {M : Nat → Prop} {base : Nat} {e : TypeId} {v : Value} {n : Nat} {xs : List Value} (h : w.ownsRow base e 1 v n xs) (hM : ∀ k, M k → k < base) (ht : Turns M w w') : w'.ownsRow base e 1 v n xs := by
  refine ⟨h.1, ?_⟩
  rcases h.2 with h2 | ⟨g, cap, cur, h4, h5, h6, h7⟩
  · exact .inl h2
  · refine .inr ⟨g, cap, cur, h4, h5, ?_, h7⟩
    rw [ht.block g (Array.getElem?_eq_some_iff.1 h6).1 (fun hm => by have := hM g hm; omega)]
    exact h6
/-- What holds ahead of round k. -/
def ConAt (w : World) (gD gS gM n : Nat) (S : Nat → List Nat) (L : Nat → Option (List Nat)) (t : Tr) (a m k : Nat) (v : Value) (wx : World) : Prop :=
  wx.ownsRow w.heap.size 5 1 v (min m (64 * k)) (((flatN (last S L) a k).take m).map bv) ∧ Dsk wx gD gS gM n S L (tn t k) ∧ Turns (dk gD gS gM) w wx ∧ ∀ j, j < k → (tn t j).ans = 0
/-- What content leaves. -/
def ConPost (w : World) (gD gS gM n : Nat) (S : Nat → List Nat) (L : Nat → Option (List Nat)) (t : Tr) (a m : Nat) (e : Ending) (w' : World) : Prop :=
  Turns (dk gD gS gM) w w' ∧ ∃ k, (∀ j, j < k → (tn t j).ans = 0) ∧
    ((k = (m + 63) / 64 ∧ (∃ v, e = .returned (.tuple #[v, .int .i64 0]) ∧ w'.ownsRow w.heap.size 5 1 v m (((flatN (last S L) a 15).take m).map bv)) ∧ Dsk w' gD gS gM n S L (tn t k)) ∨
     (k < (m + 63) / 64 ∧ (tn t k).ans ≠ 0 ∧ e = .returned (.tuple #[.slice none 0 0, .int .i64 ((tn t k).ans : Nat)]) ∧ Dsk w' gD gS gM n S L (tn t (k + 1))))

set_option maxRecDepth 20000 in
set_option maxHeartbeats 1600000 in
theorem content_any (gD gS gM n : Nat) (S : Nat → List Nat) (L : Nat → Option (List Nat)) (t : Tr) (a m : Nat) (w : World) (h : Dsk w gD gS gM n S L t) (hn : a + 15 ≤ n) (hm : m ≤ 960) :
    Calls Try.prog 78 #[.pointer (some ⟨gD, 0, none⟩), .int .i64 (a : Int), .int .i64 (m : Int)] w (ConPost w gD gS gM n S L t a m) := by
  have HD := Lib.hid h
  have HN := Lib.hid hn
  have hfew := h.few
  have hA : a ≤ 5000 := by omega
  have HLEN := Lib.hid (fun j (hj : j < 15) => (h.last_ (show a + j < n by omega)).1)
  have HBYT := Lib.hid (fun j (hj : j < 15) => (h.last_ (show a + j < n by omega)).2)
  obtain ⟨i0, hi, hz0, hz1, hz2⟩ := info_parts Try.info8
  have HI := Lib.hid hi
  have HZ0 := Lib.hid hz0
  have HZ1 := Lib.hid hz1
  have HZ2 := Lib.hid hz2
  obtain ⟨w1, hmk, ho1, hg1⟩ := run_makeSlice_owned (P := Try.prog) w w.heap.size 35 5 i0 (.int .u8 0) 1 Try.underlying35 hi hz0 hz1 .i64 .i64 m (by omega) (by rw [hz2]; omega) (by unfold maxLen; omega) (Nat.le_refl _)
  have HO1 := Lib.hid ho1
  have B1 := Lib.hid ((Below.refl w.heap.size w).grown hg1 (Nat.le_refl _) (fun k e => by cases e))
  have HT1 := Lib.hid (show Turns (dk gD gS gM) w w1 from Turns.of_below B1.out (Nat.le_refl _))
  have HD1 := Lib.hid (h.fresh B1.out)
  have HM := Lib.hid (show ∀ q, dk gD gS gM q → q < w.heap.size from by rintro q (e | e | e) <;> (have := h.lt; omega))
  have HS1 := Lib.hid (show ConAt w gD gS gM n S L t a m 0 (.slice (some ⟨w.heap.size, 0, none⟩) 0 m) w1 from by
    refine ⟨?_, HD1.out, HT1.out, fun j hj => absurd hj (by omega)⟩
    rw [show min m (64 * 0) = 0 by omega, flatN_zero, List.take_nil, List.map_nil]
    exact ho1)
  clear h hn hi hz0 hz1 hz2 hg1 ho1 hfew
  go_enter Try.func78, Try.ntmps78
  go_wp2_with fail
  go_loopg [1, 8] ((m + 63) / 64) (fun g s1 s8 wx => ∃ k : Nat, k + g = (m + 63) / 64 ∧ s1 = .int .i64 ((a + k : Nat) : Int) ∧ ConAt w gD gS gM n S L t a m k s8 wx)
  case atStart => exact ⟨0, by omega, rfl, HS1.out⟩
  case round =>
    obtain ⟨k, hkg, rfl, hr⟩ := hrel
    have HR := Lib.hid hr
    obtain ⟨A8, c8, hv8⟩ := own_any hr.1
    subst hv8
    clear hr
    obtain ⟨T, hT⟩ : ∃ T, T = tn t k := ⟨_, rfl⟩
    have HTN := Lib.hid hT
    by_cases hk : 64 * k < m
    · obtain ⟨q, hq⟩ : ∃ q, q = 64 * k := ⟨_, rfl⟩
      have hk15 : k < 15 := by omega
      have e1 : min m (64 * k) = q := by omega
      rw [e1] at HR ⊢
      have t1 : decide (q < m) = true := decide_eq_true (by omega)
      have n0 : (q : Int) < (m : Int) := by omega
      have n3 : IntKind.i64.wrap ((m : Int) - (q : Int)) = (m : Int) - (q : Int) := by rw [IntKind.wrap_i64]; omega
      have HQ := Lib.hid hq
      have HK := Lib.hid hk
      have HDW := Lib.hid HR.out.2.1
      rw [← hT] at HDW
      clear hq e1 hk hT
      by_cases c1 : T.ans = 0
      · go_wp2_with fail
        refine (dread_yes gD gS gM n S L T (a + k) wr HDW.out (by have := HN.out; omega) c1).mono ?_
        rintro e w2 ⟨rfl, hb2, hd2, ht2, hs2⟩
        have HD2 := Lib.hid hd2
        have HT2 := Lib.hid (HR.out.2.2.1.trans ht2)
        have HO2 := Lib.hid (show w2.ownsRow w.heap.size 5 1 (.slice A8 q c8) (min m (64 * k)) (((flatN (last S L) a k).take m).map bv) from own_turns HR.out.1 HM.out ht2)
        rw [show min m (64 * k) = q by have := HQ.out; have := HK.out; omega] at HO2
        obtain ⟨r, hr⟩ : ∃ r, r = min 64 (m - q) := ⟨_, rfl⟩
        have n1 : (if (m : Int) - (q : Int) < 64 then (m : Int) - (q : Int) else 64) = (r : Int) := by split <;> omega
        have n2 : r ≤ 64 := by omega
        have HRE := Lib.hid hr
        clear hr
        have X2 := Lib.hid ((Bts.of_whole hb2 (HLEN.out k hk15) (by simp [maxLen]) (HBYT.out k hk15)).front r (by omega))
        have HLX := Lib.hid (show ((last S L (a + k)).take r).length = r by rw [List.length_take, HLEN.out k hk15]; omega)
        have HCL := Lib.hid c1
        clear hb2 hd2 ht2 hs2 c1
        go_wp2_with (at_builtin; refine wpList_append_bts rfl (.tmp 26) (.tmp 35) 35 rfl w.heap.size 5 i0 Try.underlying35 HI.out HZ0.out HZ1.out HZ2.out (.slice A8 q c8) q ((flatN (last S L) a k).take m) rfl HO2.out _ ((last S L (a + k)).take r) rfl w2.heap.size X2.out (by rw [HLX.out]; have := HQ.out; omega) HT2.out.size ?_; intro v3 w3 O3 B3)
        go_roundg ((m + 63) / 64 - (k + 1))
        case measure => have := HK.out; omega
        case rel =>
          have := HK.out
          refine ⟨k + 1, by omega, by go_num, ?_, ?_, HT2.out.below_ B3.out, fun j hj => ?_⟩
          · have h3 := O3.out
            rw [HLX.out] at h3
            rw [show min m (64 * (k + 1)) = q + r by rw [HRE.out, HQ.out]; omega, con_step (fun j hj => HLEN.out j (by omega)) this]
            have e2 : (last S L (a + k)).take (m - 64 * k) = (last S L (a + k)).take r := by
              rw [HRE.out, HQ.out]
              by_cases c : m - 64 * k ≤ 64
              · rw [Nat.min_eq_right c]
              · rw [Nat.min_eq_left (by omega), List.take_of_length_le (by rw [HLEN.out k hk15]; omega), List.take_of_length_le (by rw [HLEN.out k hk15]; omega)]
            rw [e2]
            exact h3
          · have h3 := HD2.out
            rw [HTN.out] at h3
            exact h3.below B3.out (HM.out _ (.inl rfl)) (HM.out _ (.inr (.inl rfl))) (HM.out _ (.inr (.inr rfl)))
          · by_cases e : j = k
            · subst e
              rw [← HTN.out]
              exact HCL.out
            · exact HR.out.2.2.2 j (by omega)
      · have t2 : (((T.ans : Nat) : Int) != 0) = true := by rw [bne_iff_ne]; omega
        go_wp2_with fail
        refine (dread_bad gD gS gM n S L T (a + k) wr HDW.out (by have := HN.out; omega) c1).mono ?_
        rintro e w2 ⟨rfl, hd2, ht2, hs2⟩
        have HD2 := Lib.hid hd2
        have HT2 := Lib.hid (HR.out.2.2.1.trans ht2)
        have HC1 := Lib.hid c1
        clear hd2 ht2 hs2 c1
        go_wp2
        go_ret2
        refine ⟨HT2.out, k, HR.out.2.2.2, .inr ⟨by have := HK.out; omega, ?_, ?_, ?_⟩⟩
        · rw [← HTN.out]; exact HC1.out
        · rw [← HTN.out]; rfl
        · have h3 := HD2.out
          rw [HTN.out] at h3
          exact h3
    · have e1 : min m (64 * k) = m := by omega
      have e2 : k = (m + 63) / 64 := by omega
      have e3 : k ≤ 15 := by omega
      rw [e1] at HR ⊢
      have t1 : decide ((m : Int) < (m : Int)) = false := decide_eq_false (by omega)
      have E2 := Lib.hid e2
      have HK := Lib.hid hk
      clear e1 e2 hT hk
      go_wp2
      go_ret2
      refine ⟨HR.out.2.2.1, k, HR.out.2.2.2, .inl ⟨E2.out, ⟨_, rfl, ?_⟩, HR.out.2.1⟩⟩
      have h3 := HR.out.1
      have := HK.out
      rw [show min m (64 * k) = m by omega] at h3
      rw [con_end (k := k) (fun j hj => HLEN.out j (by omega)) (by omega) e3]
      exact h3
end Go.Proofs.Ytfnegbcpiejdaab

/-! ## SlotD: The contract of slot's read: what the slot has whose head is a sector, and whether it is whole; or the first work that fails.   Conditions: the disk is known whole and has the slots' sectors. -/
namespace Go.Proofs.Ytfnegbcpiejdaab
open Go.RowKit
set_option linter.unusedVariables false

theorem results_tmp4 {fn : Func} {t u v x : Tmp} (h : fn.results = #[.tmp t, .tmp u, .tmp v, .tmp x]) (tmps : Array Value) (P : Program) (w : World) :
    (results fn tmps).run P w = .ok (.tuple #[tmps.getD t undef, tmps.getD u undef, tmps.getD v undef, tmps.getD x undef]) w := by simp [results, h]
theorem own_lower {w : World} {base base' : Nat} {e : TypeId} {v : Value} {n : Nat} {xs : List Value} (h : w.ownsRow base e 1 v n xs) (hb : base' ≤ base) : w.ownsRow base' e 1 v n xs := by
  refine ⟨h.1, ?_⟩
  rcases h.2 with h2 | ⟨g, cap, cur, h4, h5, h6⟩
  · exact .inl h2
  · exact .inr ⟨g, cap, cur, h4, by omega, h6⟩
theorem own_below {w w' : World} {base B : Nat} {e : TypeId} {v : Value} {n : Nat} {xs : List Value} (h : w.ownsRow base e 1 v n xs) (ht : Below B w w') (hB : w.heap.size ≤ B) : w'.ownsRow base e 1 v n xs :=
  own_turns (M := fun _ => False) h (fun _ hk => hk.elim) (Turns.of_below ht hB)
theorem tn_next (t : Tr) (k : Nat) : tn t.next k = tn t (k + 1) := by
  induction k with
  | zero => rfl
  | succ k ih => rw [tn, ih]; rfl
/-- The sum of two parts that were just laid in a block. -/
theorem sum_two (w : World) (g B : Nat) (u1 u2 : Value) (xs ys : List Nat) (hc0 : w.cell? ⟨g, 0, none⟩ = some u1) (hc1 : w.cell? ⟨g, 1, none⟩ = some u2) (h1 : Bts w B u1 xs) (h2 : Bts w B u2 ys) :
    Calls Try.prog 79 #[.slice (some ⟨g, 0, none⟩) 2 2] w fun e w' => e = .returned (.int .u32 ((sumM (xs ++ ys) : Nat) : Int)) ∧ w = w' := by
  rw [← sumU_eq]
  have := sum_any (.slice (some ⟨g, 0, none⟩) 2 2) [xs, ys] B w ⟨_, 2, 2, rfl, rfl, by simp [maxLen], fun _ => ⟨g, 0, rfl, fun j hj => ?_⟩⟩
  · simpa using this
  · match j, hj with
    | 0, _ => exact ⟨u1, hc0, h1⟩
    | 1, _ => exact ⟨u2, hc1, h2⟩

/-- What holds while a slot's sum is reckoned. -/
def TwoS (w : World) (B : Nat) (v : Value) (s : List Nat) (v2 : Value) (b : List Nat) (w' : World) : Prop := Bts w' B v s ∧ Bts w' B v2 b ∧ Below w.heap.size w w'
theorem TwoS.one {w w' : World} {B : Nat} {v v2 : Value} {s b : List Nat} (h : TwoS w B v s v2 b w') : Bts w' B v s := h.1
theorem TwoS.two {w w' : World} {B : Nat} {v v2 : Value} {s b : List Nat} (h : TwoS w B v s v2 b w') : Bts w' B v2 b := h.2.1
theorem TwoS.below {w w' : World} {B : Nat} {v v2 : Value} {s b : List Nat} (h : TwoS w B v s v2 b w') : Below w.heap.size w w' := h.2.2
theorem TwoS.start {w : World} {B : Nat} {v v2 : Value} {s b : List Nat} (h : Bts w B v s) (h2 : Bts w B v2 b) : TwoS w B v s v2 b w.drew := ⟨h, h2, (Below.refl _ _).drew⟩
theorem TwoS.alloc {w w' : World} {B : Nat} {v v2 : Value} {s b : List Nat} (h : TwoS w B v s v2 b w') (hB : B ≤ w.heap.size) (o : Obj) : TwoS w B v s v2 b (w'.alloc o) :=
  have k : ∀ p : Addr, p.block < B → (w'.alloc o).cell? p = w'.cell? p := fun p hp => World.cell?_alloc_lt w' o p (Nat.lt_of_lt_of_le hp (Nat.le_trans hB h.2.2.size))
  ⟨h.1.keep k, h.2.1.keep k, h.2.2.alloc h.2.2.size o⟩

/-- What read leaves. -/
def SReadPost (w : World) (gD gS gM n : Nat) (S : Nat → List Nat) (L : Nat → Option (List Nat)) (t : Tr) (x : Nat) (e : Ending) (w' : World) : Prop :=
  Turns (dk gD gS gM) w w' ∧ ∃ k, k ≤ 16 ∧ (∀ j, j < k → (tn t j).ans = 0) ∧
    ((1 ≤ k ∧ Dsk w' gD gS gM n S L (tn t k) ∧
        ((Whole (last S L) x ∧ ∃ v, e = .returned (.tuple #[.int .u32 ((sloG (last S L) x : Nat) : Int), v, .bool true, .int .i64 0]) ∧ w'.ownsRow w.heap.size 5 1 v (sloN (last S L) x) ((sloB (last S L) x).map bv)) ∨
         (¬ Whole (last S L) x ∧ e = .returned (.tuple #[.int .u32 0, .slice none 0 0, .bool false, .int .i64 0])))) ∨
     ((tn t k).ans ≠ 0 ∧ e = .returned (.tuple #[.int .u32 0, .slice none 0 0, .bool false, .int .i64 ((tn t k).ans : Nat)]) ∧ Dsk w' gD gS gM n S L (tn t (k + 1))))

set_option maxRecDepth 20000 in
set_option maxHeartbeats 1600000 in
theorem read_any (gD gS gM n : Nat) (S : Nat → List Nat) (L : Nat → Option (List Nat)) (t : Tr) (x : Nat) (w : World) (h : Dsk w gD gS gM n S L t) (hn : 96 ≤ n) (hx : x < 2) :
    Calls Try.prog 62 #[.pointer (some ⟨gD, 0, none⟩), .int .i64 ((64 + 16 * x : Nat) : Int)] w (SReadPost w gD gS gM n S L t x) := by
  have HD := Lib.hid h
  have HLL := Lib.hid (fun f (hf : f < 96) => h.last_ (show f < n by omega))
  have HWI := Lib.hid (whole_iff (F := last S L) (w := x) (fun f h1 h2 => (HLL.out f (by omega)).1) (HLL.out _ (by omega)).2)
  have hGlt := sloG_lt (F := last S L) (w := x) (HLL.out _ (by omega)).2
  have hNlt := sloN_lt (F := last S L) (w := x) (HLL.out _ (by omega)).2
  obtain ⟨a, ha⟩ : ∃ a, a = 64 + 16 * x := ⟨_, rfl⟩
  obtain ⟨s, hs⟩ : ∃ s, s = last S L a := ⟨_, rfl⟩
  have HSL := Lib.hid (show s.length = 64 by rw [hs]; exact (HLL.out a (by omega)).1)
  have HSB := Lib.hid (show ∀ y ∈ s, y < 256 by rw [hs]; exact (HLL.out a (by omega)).2)
  obtain ⟨g, hg⟩ : ∃ g, g = sloG (last S L) x := ⟨_, rfl⟩
  obtain ⟨N, hN⟩ : ∃ N, N = sloN (last S L) x := ⟨_, rfl⟩
  have HG1 := Lib.hid (show le (win s 0 4) = g by rw [hg, hs, ha]; rfl)
  have HN1 := Lib.hid (show le (win s 4 4) = N by rw [hN, hs, ha]; rfl)
  rw [← ha, ← hs, ← hg, ← hN] at HWI
  rw [← hg] at hGlt
  rw [← hN] at hNlt
  have han : a + 16 ≤ n := by omega
  have ha5 : a ≤ 80 := by omega
  have HA := Lib.hid ha
  have HS := Lib.hid hs
  have HG := Lib.hid hg
  have HN := Lib.hid hN
  rw [← ha]
  clear h hn ha hs hg hN
  go_enter Try.func62, Try.ntmps62
  by_cases c1 : t.ans = 0
  · go_wp2_with fail
    refine (dread_yes gD gS gM n S L t a w HD.out (by omega) c1).mono ?_
    rintro e w2 ⟨rfl, hb2, hd2, ht2, hs2⟩
    rw [← HS.out] at hb2
    have HD2 := Lib.hid hd2
    have HT2 := Lib.hid ht2
    have BK2 := Lib.hid hb2
    have X2 := Lib.hid (Bts.of_whole hb2 HSL.out (by simp [maxLen]) HSB.out)
    have HC1 := Lib.hid c1
    clear hb2 hd2 ht2 hs2 c1
    go_wp2_with fail
    refine (snumber_any _ s _ 0 _ X2.out (by rw [HSL.out]; omega) HSB.out).mono ?_
    rintro e w3 ⟨rfl, rfl⟩
    rw [HG1.out]
    go_wp2_with fail
    refine (snumber_any _ s _ 4 _ X2.out (by rw [HSL.out]; omega) HSB.out).mono ?_
    rintro e w3 ⟨rfl, rfl⟩
    rw [HN1.out]
    obtain ⟨o, ho⟩ : ∃ o, o = 64 + 16 * (g % 2) := ⟨_, rfl⟩
    have HOF := Lib.hid (headOf_any g w2 hGlt)
    rw [← ho] at HOF
    have HO := Lib.hid ho
    clear ho
    have NO := Lib.hid (fun (hnw : ¬ Whole (last S L) x) (w9 : World) (ht9 : Turns (dk gD gS gM) w2 w9) (hd9 : Dsk w9 gD gS gM n S L (tn t 1)) =>
      (show SReadPost w gD gS gM n S L t x (.returned (.tuple #[.int .u32 0, .slice none 0 0, .bool false, .int .i64 0])) w9 from
        ⟨HT2.out.trans ht9, 1, by omega, fun j hj => by obtain rfl : j = 0 := (by omega); exact HC1.out, .inl ⟨Nat.le_refl _, hd9, .inr ⟨hnw, rfl⟩⟩⟩))
    by_cases k1 : o = a
    · have d1 : ((o : Int) != (a : Int)) = false := by simp [k1]
      have K1 := Lib.hid k1
      clear k1
      by_cases k2 : N ≤ 960
      · have d2 : decide (960 < (N : Int)) = false := decide_eq_false (by omega)
        have e12 : s.drop 12 = win s 12 52 := by
          unfold win
          rw [List.take_of_length_le (by simp [HSL.out])]
        have XC := Lib.hid (show Bts w2 w2.heap.size (.slice (some ⟨w.heap.size + 1, 12, none⟩) 52 52) (s.drop 12) from by
          rw [e12]
          exact X2.out.cut (a := 12) (k := 52) (c' := 52) (by omega) (by omega) (by simp [maxLen]))
        have HZ := Lib.hid (empty_any _ _ _ w2 XC.out)
        obtain ⟨z, hz⟩ : ∃ z, z = allZ (s.drop 12) := ⟨_, rfl⟩
        rw [← hz] at HZ
        have HZE := Lib.hid hz
        clear hz e12
        cases z with
        | false =>
          go_wp2_with (first | (go_at_call 63; refine HOF.out.mono ?_; rintro e w3 ⟨rfl, rfl⟩) | (go_at_call 77; refine HZ.out.mono ?_; rintro e w3 ⟨rfl, rfl⟩))
          refine bodyPost_ret (results_tmp4 rfl _ _ _) rfl ?_
          refine NO.out (fun hw => ?_) _ (Turns.refl _ _) HD2.out
          have h3 := (HWI.out.1 hw).2.2.1
          exact absurd HZE.out (by unfold allZ; simp; exact h3)
        | true =>
          have HCON := Lib.hid (content_any gD gS gM n S L t.next (a + 1) N w2 HD2.out (by omega) k2)
          rw [show ((a + 1 : Nat) : Int) = (a : Int) + 1 by omega] at HCON
          go_wp2_with (first | (go_at_call 63; refine HOF.out.mono ?_; rintro e w3 ⟨rfl, rfl⟩) | (go_at_call 77; refine HZ.out.mono ?_; rintro e w3 ⟨rfl, rfl⟩))
          refine HCON.out.mono ?_
          rintro e w3 ⟨ht3, k, hk, ⟨hk1, ⟨v, rfl, ho3⟩, hd3⟩ | ⟨hk1, hk2, rfl, hd3⟩⟩
          · obtain ⟨A5, c5, rfl⟩ := own_any ho3
            obtain ⟨b, hb⟩ : ∃ b, b = (flatN (last S L) (a + 1) 15).take N := ⟨_, rfl⟩
            rw [← hb] at ho3
            have HB := Lib.hid (show b = sloB (last S L) x by rw [hb, HN.out, HA.out, show 64 + 16 * x + 1 = 65 + 16 * x by omega]; rfl)
            have HBB := Lib.hid (show ∀ y ∈ b, y < 256 from fun y hy => by
              rw [hb] at hy
              exact flatN_byte (fun j hj => (HLL.out (a + 1 + j) (by omega)).2) y (List.mem_of_mem_take hy))
            have X3 := Lib.hid (show Bts w3 w3.heap.size (.slice (some ⟨w.heap.size + 1, 0, none⟩) 64 64) s from Bts.of_whole (ht3.blk BK2.out (by rintro (e | e | e) <;> (have := HD.out.lt; omega))) HSL.out (by simp [maxLen]) HSB.out)
            have Y3 := Lib.hid (Bts.of_own ho3 HBB.out)
            have O3 := Lib.hid ho3
            have HD3 := Lib.hid hd3
            rw [tn_next] at HD3
            have HT3 := Lib.hid (HT2.out.trans ht3)
            have HTW := Lib.hid ht3
            have HK := Lib.hid hk
            have HK1 := Lib.hid hk1
            have hk15 : k ≤ 15 := by omega
            have B0 := Lib.hid (Nat.le_refl w3.heap.size)
            have HWS := Lib.hid (show ∀ j, j < k + 1 → (tn t j).ans = 0 from fun j hj => by
              rcases Nat.eq_zero_or_pos j with e | e
              · subst e; exact HC1.out
              · obtain ⟨i, rfl⟩ : ∃ i, j = i + 1 := ⟨j - 1, by omega⟩
                rw [← tn_next]
                exact hk i (by omega))
            obtain ⟨p, hp⟩ : ∃ p, p = le (win s 8 4) := ⟨_, rfl⟩
            obtain ⟨q, hq⟩ : ∃ q, q = sumM (s.take 8 ++ b) := ⟨_, rfl⟩
            have NZ := Lib.hid (fun (W : World) (hW : Bts W w3.heap.size (.slice (some ⟨w.heap.size + 1, 0, none⟩) 64 64) s) => snumber_any _ s _ 8 W hW (by rw [HSL.out]; omega) HSB.out)
            have NS := Lib.hid (fun (W : World) (g' : Nat) (hW : Bts W w3.heap.size (.slice (some ⟨w.heap.size + 1, 0, none⟩) 64 64) s) (hV : Bts W w3.heap.size (.slice A5 N c5) b) (hc0 : W.cell? ⟨g', 0, none⟩ = some (.slice (some ⟨w.heap.size + 1, 0, none⟩) 8 64)) (hc1 : W.cell? ⟨g', 1, none⟩ = some (.slice A5 N c5)) =>
              sum_two W g' _ _ _ (s.take 8) b hc0 hc1 (hW.front 8 (by omega)) hV)
            rw [← hp] at NZ
            rw [← hq] at NS
            have HP := Lib.hid hp
            have HQ := Lib.hid hq
            have FINW := Lib.hid (show q = p → Whole (last S L) x from fun e => HWI.out.2 ⟨by have := K1.out; have := HO.out; have := HA.out; omega, k2, by have := HZE.out; unfold allZ at this; simpa using this.symm, by rw [← HP.out, ← HB.out, ← HQ.out, e]⟩)
            have FINN := Lib.hid (show q ≠ p → ¬ Whole (last S L) x from fun e hw => e (by rw [HP.out, (HWI.out.1 hw).2.2.2, HQ.out, HB.out]))
            clear ht3 hk hk1 ho3 hd3 hb hp hq
            by_cases k3 : q = p
            · have d3 : ((p : Int) != (q : Int)) = false := by simp [k3]
              have K3 := Lib.hid k3
              clear k3
              go_wp2_with fail
              go_region_held3 (fun w' => TwoS w3 w3.heap.size (.slice (some ⟨w.heap.size + 1, 0, none⟩) 64 64) s (.slice A5 N c5) b w') (first | assumption | exact TwoS.start X3.out Y3.out | exact TwoS.alloc (by assumption) B0.out _)
                (first
                  | (go_at_call 76; refine (NZ.out _ (TwoS.one (by assumption))).mono ?_; rintro e w' ⟨rfl, rfl⟩)
                  | (go_at_call 79; refine (NS.out _ _ (TwoS.one (by assumption)) (TwoS.two (by assumption)) ?_ ?_).mono ?_; (simp); (simp); rintro e w' ⟨rfl, rfl⟩))
              all_goals
                go_wp2
                refine bodyPost_ret (results_tmp4 rfl _ _ _) rfl ?_
                have TW := fun (w' : World) (hz : TwoS w3 w3.heap.size (.slice (some ⟨w.heap.size + 1, 0, none⟩) 64 64) s (.slice A5 N c5) b w') => hz.below
                refine ⟨HT3.out.trans (Turns.of_below (TW _ (by assumption)) (Nat.le_refl _)), k + 1, by omega, HWS.out, .inl ⟨by omega, HD3.out.fresh (TW _ (by assumption)), .inl ⟨FINW.out K3.out, .slice A5 N c5, ?_, ?_⟩⟩⟩
                · rw [← HG.out]; rfl
                · rw [← HN.out, ← HB.out]
                  exact own_lower (own_below O3.out (TW _ (by assumption)) (Nat.le_refl _)) HT2.out.size
            · have d3 : ((p : Int) != (q : Int)) = true := by simp; omega
              have K3 := Lib.hid k3
              clear k3
              go_wp2_with fail
              go_region_held3 (fun w' => TwoS w3 w3.heap.size (.slice (some ⟨w.heap.size + 1, 0, none⟩) 64 64) s (.slice A5 N c5) b w') (first | assumption | exact TwoS.start X3.out Y3.out | exact TwoS.alloc (by assumption) B0.out _)
                (first
                  | (go_at_call 76; refine (NZ.out _ (TwoS.one (by assumption))).mono ?_; rintro e w' ⟨rfl, rfl⟩)
                  | (go_at_call 79; refine (NS.out _ _ (TwoS.one (by assumption)) (TwoS.two (by assumption)) ?_ ?_).mono ?_; (simp); (simp); rintro e w' ⟨rfl, rfl⟩))
              all_goals
                go_wp2
                refine bodyPost_ret (results_tmp4 rfl _ _ _) rfl ?_
                have TW := fun (w' : World) (hz : TwoS w3 w3.heap.size (.slice (some ⟨w.heap.size + 1, 0, none⟩) 64 64) s (.slice A5 N c5) b w') => hz.below
                exact ⟨HT3.out.trans (Turns.of_below (TW _ (by assumption)) (Nat.le_refl _)), k + 1, by omega, HWS.out, .inl ⟨by omega, HD3.out.fresh (TW _ (by assumption)), .inr ⟨FINN.out K3.out, rfl⟩⟩⟩
          · rw [tn_next] at hk2 hd3
            obtain ⟨T, hT⟩ : ∃ T, T = tn t (k + 1) := ⟨_, rfl⟩
            have HTN := Lib.hid hT
            rw [tn_next, ← hT]
            rw [← hT] at hk2
            have t2 : (((T.ans : Nat) : Int) != 0) = true := by rw [bne_iff_ne]; omega
            have HD3 := Lib.hid hd3
            have HT3 := Lib.hid (HT2.out.trans ht3)
            have HK2 := Lib.hid hk2
            have HK := Lib.hid hk
            clear hk2 hd3 ht3 hk hT
            go_wp2
            refine bodyPost_ret (results_tmp4 rfl _ _ _) rfl ?_
            refine ⟨HT3.out, k + 1, by omega, fun j hj => ?_, .inr ⟨by rw [← HTN.out]; exact HK2.out, by rw [← HTN.out]; rfl, HD3.out⟩⟩
            rcases Nat.eq_zero_or_pos j with e | e
            · subst e; exact HC1.out
            · obtain ⟨i, rfl⟩ : ∃ i, j = i + 1 := ⟨j - 1, by omega⟩
              rw [← tn_next]
              exact HK.out i (by omega)
      · have d2 : decide (960 < (N : Int)) = true := decide_eq_true (by omega)
        have K2 := Lib.hid k2
        clear k2
        go_wp2_with (first | (go_at_call 63; refine HOF.out.mono ?_; rintro e w3 ⟨rfl, rfl⟩))
        refine bodyPost_ret (results_tmp4 rfl _ _ _) rfl ?_
        exact NO.out (fun hw => K2.out (HWI.out.1 hw).2.1) _ (Turns.refl _ _) HD2.out
    · have d1 : ((o : Int) != (a : Int)) = true := by simp; omega
      have K1 := Lib.hid k1
      clear k1
      go_wp2_with (first | (go_at_call 63; refine HOF.out.mono ?_; rintro e w3 ⟨rfl, rfl⟩))
      refine bodyPost_ret (results_tmp4 rfl _ _ _) rfl ?_
      exact NO.out (fun hw => K1.out (by rw [HO.out, (HWI.out.1 hw).1, HA.out])) _ (Turns.refl _ _) HD2.out
  · have t2 : (((t.ans : Nat) : Int) != 0) = true := by rw [bne_iff_ne]; omega
    go_wp2_with fail
    refine (dread_bad gD gS gM n S L t a w HD.out (by omega) c1).mono ?_
    rintro e w2 ⟨rfl, hd2, ht2, hs2⟩
    have HD2 := Lib.hid hd2
    have HT2 := Lib.hid ht2
    have HC1 := Lib.hid c1
    clear hd2 ht2 hs2 c1
    go_wp2
    refine bodyPost_ret (results_tmp4 rfl _ _ _) rfl ?_
    exact ⟨HT2.out, 0, by omega, fun j hj => absurd hj (by omega), .inr ⟨HC1.out, rfl, HD2.out⟩⟩
end Go.Proofs.Ytfnegbcpiejdaab

/-! ## SlotE: The contract of slot's Load: of the slots that are whole the one with the greater gen, in new memory; or the first work that fails; ErrArg at no disk.   Conditions: the disk is known whole and has the slots' sectors. -/
namespace Go.Proofs.Ytfnegbcpiejdaab
open Go.RowKit
set_option linter.unusedVariables false

set_option maxHeartbeats 400000 in
theorem load_nil (w : World) :
    Calls Try.prog 45 #[.pointer none] w fun e w' => e = .returned (.tuple #[.int .u32 0, .slice none 0 0, .int .i64 1]) ∧ w = w' := by
  go_enter Try.func45, Try.ntmps45
  go_wp2
  go_ret3
  exact ⟨rfl, rfl⟩
theorem tn_add (t : Tr) (k j : Nat) : tn (tn t k) j = tn t (k + j) := by
  induction j with
  | zero => rfl
  | succ j ih => rw [tn, ih]; rfl
theorem load_yes {F : Nat → List Nat} {x : Nat} (h : Whole F x) (hg : (loadN F x).1 ≤ sloG F x) : loadN F (x + 1) = (sloG F x, sloB F x) := by
  show (if Whole F x ∧ (loadN F x).1 ≤ sloG F x then (sloG F x, sloB F x) else loadN F x) = _
  rw [if_pos ⟨h, hg⟩]
theorem load_no {F : Nat → List Nat} {x : Nat} (h : ¬ (Whole F x ∧ (loadN F x).1 ≤ sloG F x)) : loadN F (x + 1) = loadN F x := by
  show (if Whole F x ∧ (loadN F x).1 ≤ sloG F x then (sloG F x, sloB F x) else loadN F x) = _
  rw [if_neg h]
theorem loadN_lt {F : Nat → List Nat} (h : ∀ x, x < 2 → sloG F x < 4294967296) : ∀ x, x ≤ 2 → (loadN F x).1 < 4294967296 := by
  intro x
  induction x with
  | zero => intro _; show 0 < 4294967296; omega
  | succ x ih =>
    intro hx
    unfold loadN
    split
    · exact h x (by omega)
    · exact ih (by omega)

/-- What holds ahead of round x. -/
def LoaAt (w : World) (gD gS gM n : Nat) (S : Nat → List Nat) (L : Nat → Option (List Nat)) (t : Tr) (x G k : Nat) (v : Value) (wx : World) : Prop :=
  k ≤ 16 * x ∧ x ≤ k ∧ (∀ j, j < k → (tn t j).ans = 0) ∧ G = (loadN (last S L) x).1 ∧ wx.ownsRow w.heap.size 5 1 v (loadN (last S L) x).2.length ((loadN (last S L) x).2.map bv) ∧
  Dsk wx gD gS gM n S L (tn t k) ∧ Turns (dk gD gS gM) w wx
/-- What Load leaves. -/
def LoadPost (w : World) (gD gS gM n : Nat) (S : Nat → List Nat) (L : Nat → Option (List Nat)) (t : Tr) (e : Ending) (w' : World) : Prop :=
  Turns (dk gD gS gM) w w' ∧ ∃ k, k ≤ 32 ∧ (∀ j, j < k → (tn t j).ans = 0) ∧
    ((2 ≤ k ∧ Dsk w' gD gS gM n S L (tn t k) ∧ ∃ v, e = .returned (.tuple #[.int .u32 (((loadR (last S L)).1 : Nat) : Int), v, .int .i64 0]) ∧ w'.ownsRow w.heap.size 5 1 v (loadR (last S L)).2.length ((loadR (last S L)).2.map bv)) ∨
     ((tn t k).ans ≠ 0 ∧ e = .returned (.tuple #[.int .u32 0, .slice none 0 0, .int .i64 ((tn t k).ans : Nat)]) ∧ Dsk w' gD gS gM n S L (tn t (k + 1))))

set_option maxRecDepth 20000 in
set_option maxHeartbeats 1600000 in
theorem load_any (gD gS gM n : Nat) (S : Nat → List Nat) (L : Nat → Option (List Nat)) (t : Tr) (w : World) (h : Dsk w gD gS gM n S L t) (hn : 96 ≤ n) :
    Calls Try.prog 45 #[.pointer (some ⟨gD, 0, none⟩)] w (LoadPost w gD gS gM n S L t) := by
  have HD := Lib.hid h
  have HN := Lib.hid hn
  have HLL := Lib.hid (fun f (hf : f < 96) => h.last_ (show f < n by omega))
  have HGL := Lib.hid (fun x (hx : x < 2) => sloG_lt (F := last S L) (w := x) (HLL.out (64 + 16 * x) (by omega)).2)
  have HGN := Lib.hid (loadN_lt (F := last S L) HGL.out)
  have HM := Lib.hid (show ∀ q, dk gD gS gM q → q < w.heap.size from by rintro q (e | e | e) <;> (have := h.lt; omega))
  clear h hn
  go_enter Try.func45, Try.ntmps45
  go_wp2_with fail
  go_loopg [2, 3, 12] 2 (fun gg s2 s3 s12 wx => ∃ x G k : Nat, x + gg = 2 ∧ s12 = .int .u32 (x : Int) ∧ s2 = .int .u32 (G : Int) ∧ LoaAt w gD gS gM n S L t x G k s3 wx)
  case atStart => exact ⟨0, 0, 0, rfl, rfl, rfl, ⟨Nat.le_refl _, Nat.le_refl _, fun j hj => absurd hj (by omega), rfl, World.ownsRow_nil _ _ _ _, HD.out, Turns.refl _ _⟩⟩
  case round =>
    obtain ⟨x, G, k, hxg, rfl, rfl, hr⟩ := hrel
    have HR := Lib.hid hr
    have hGlt : G < 4294967296 := by rw [hr.2.2.2.1]; exact HGN.out x (by omega)
    clear hr
    by_cases hx : x < 2
    · have t1 : decide (x < 2) = true := decide_eq_true hx
      have t1' : decide ((x : Int) < 2) = true := decide_eq_true (by omega)
      have HOF := Lib.hid (headOf_any x wr (by omega))
      rw [show x % 2 = x by omega] at HOF
      have HRD := Lib.hid (read_any gD gS gM n S L (tn t k) x wr HR.out.2.2.2.2.2.1 HN.out hx)
      obtain ⟨o, ho⟩ : ∃ o, o = 64 + 16 * x := ⟨_, rfl⟩
      rw [← ho] at HOF HRD
      clear ho
      go_wp2_with (first | (go_at_call 63; refine HOF.out.mono ?_; rintro e w3 ⟨rfl, rfl⟩))
      refine HRD.out.mono ?_
      rintro e w2 ⟨ht2, j, hj, hj2, ⟨hj1, hd2, ⟨hw2, v, rfl, ho2⟩ | ⟨hw2, rfl⟩⟩ | ⟨hk2, rfl, hd2⟩⟩
      · obtain ⟨g, hg⟩ : ∃ g, g = sloG (last S L) x := ⟨_, rfl⟩
        have HG := Lib.hid hg
        have HW2 := Lib.hid hw2
        have HO2 := Lib.hid ho2
        have HBL := Lib.hid (show (sloB (last S L) x).length = sloN (last S L) x from by have := ho2.1; simpa using this)
        obtain ⟨A2, c2, rfl⟩ := own_any ho2
        rw [← hg]
        have HT2 := Lib.hid (HR.out.2.2.2.2.2.2.trans ht2)
        have HTW := Lib.hid ht2
        have HJ := Lib.hid hj2
        have HD2 := Lib.hid hd2
        rw [tn_add] at HD2
        have HWS := Lib.hid (show ∀ i, i < k + j → (tn t i).ans = 0 from fun i hi => by
          by_cases e : i < k
          · exact HR.out.2.2.1 i e
          · obtain ⟨d, rfl⟩ : ∃ d, i = k + d := ⟨i - k, by omega⟩
            rw [← tn_add]
            exact HJ.out d (by omega))
        have hglt : g < 4294967296 := by rw [hg]; exact HGL.out x hx
        clear ht2 hj2 hd2 hg hw2 ho2
        by_cases k1 : G ≤ g
        · have d1 : decide (G ≤ g) = true := decide_eq_true k1
          have K1 := Lib.hid k1
          clear k1
          go_wp2
          go_roundg (1 - x)
          case measure => omega
          case rel =>
            have hl := load_yes HW2.out (by rw [← HR.out.2.2.2.1, ← HG.out]; exact K1.out)
            refine ⟨x + 1, g, k + j, by omega, by go_num, rfl, by have := HR.out.1; omega, by have := HR.out.2.1; omega, HWS.out, by rw [hl]; exact HG.out, ?_, HD2.out, HT2.out⟩
            rw [hl, HBL.out]
            exact own_lower HO2.out HR.out.2.2.2.2.2.2.size
        · have d1 : decide (G ≤ g) = false := decide_eq_false k1
          have K1 := Lib.hid k1
          clear k1
          go_wp2
          go_roundg (1 - x)
          case measure => omega
          case rel =>
            have hl := load_no (F := last S L) (x := x) (fun h => K1.out (by rw [HR.out.2.2.2.1, HG.out]; exact h.2))
            refine ⟨x + 1, G, k + j, by omega, by go_num, rfl, by have := HR.out.1; omega, by have := HR.out.2.1; omega, HWS.out, by rw [hl]; exact HR.out.2.2.2.1, ?_, HD2.out, HT2.out⟩
            rw [hl]
            exact own_turns HR.out.2.2.2.2.1 HM.out HTW.out
      · have HW2 := Lib.hid hw2
        have HT2 := Lib.hid (HR.out.2.2.2.2.2.2.trans ht2)
        have HTW := Lib.hid ht2
        have HJ := Lib.hid hj2
        have HD2 := Lib.hid hd2
        rw [tn_add] at HD2
        have HWS := Lib.hid (show ∀ i, i < k + j → (tn t i).ans = 0 from fun i hi => by
          by_cases e : i < k
          · exact HR.out.2.2.1 i e
          · obtain ⟨d, rfl⟩ : ∃ d, i = k + d := ⟨i - k, by omega⟩
            rw [← tn_add]
            exact HJ.out d (by omega))
        clear ht2 hj2 hd2 hw2
        go_wp2
        go_roundg (1 - x)
        case measure => omega
        case rel =>
          have hl := load_no (F := last S L) (x := x) (fun h => HW2.out h.1)
          refine ⟨x + 1, G, k + j, by omega, by go_num, rfl, by have := HR.out.1; omega, by have := HR.out.2.1; omega, HWS.out, by rw [hl]; exact HR.out.2.2.2.1, ?_, HD2.out, HT2.out⟩
          rw [hl]
          exact own_turns HR.out.2.2.2.2.1 HM.out HTW.out
      · obtain ⟨T, hT⟩ : ∃ T, T = tn (tn t k) j := ⟨_, rfl⟩
        rw [← hT]
        rw [← hT] at hk2
        have t2 : (((T.ans : Nat) : Int) != 0) = true := by rw [bne_iff_ne]; omega
        have HTN := Lib.hid (show T = tn t (k + j) by rw [hT, tn_add])
        have HK2 := Lib.hid hk2
        have HT2 := Lib.hid (HR.out.2.2.2.2.2.2.trans ht2)
        have HTW := Lib.hid ht2
        have HJ := Lib.hid hj2
        have HD2 := Lib.hid hd2
        rw [tn_add] at HD2
        have HWS := Lib.hid (show ∀ i, i < k + j → (tn t i).ans = 0 from fun i hi => by
          by_cases e : i < k
          · exact HR.out.2.2.1 i e
          · obtain ⟨d, rfl⟩ : ∃ d, i = k + d := ⟨i - k, by omega⟩
            rw [← tn_add]
            exact HJ.out d (by omega))
        clear ht2 hj2 hd2 hT hk2
        go_wp2
        go_ret3
        exact ⟨HT2.out, k + j, by have := HR.out.1; omega, HWS.out, .inr ⟨by rw [← HTN.out]; exact HK2.out, by rw [← HTN.out]; rfl, HD2.out⟩⟩
    · obtain rfl : x = 2 := by omega
      have HGE := Lib.hid HR.out.2.2.2.1
      go_wp2
      go_ret3
      exact ⟨HR.out.2.2.2.2.2.2, k, by have := HR.out.1; omega, HR.out.2.2.1, .inl ⟨HR.out.2.1, HR.out.2.2.2.2.2.1, _, by rw [show (loadR (last S L)).1 = G from HGE.out.symm]; rfl, HR.out.2.2.2.2.1⟩⟩
end Go.Proofs.Ytfnegbcpiejdaab

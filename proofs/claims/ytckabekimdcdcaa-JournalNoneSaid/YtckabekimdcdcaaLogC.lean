/-
  The contract of log's Append: what may not be is told; else the record's sector is written, and all is sure.
  Conditions: the disk is known whole and has the log's sectors; the record is read in memory that the work does not turn.
-/
import Derived.Test.YtckabekimdcdcaaLogB
namespace Go.Proofs.Ytckabekimdcdcaa
open Go.RowKit
set_option linter.unusedVariables false

set_option maxRecDepth 20000 in
set_option maxHeartbeats 400000 in
theorem append_nil (gen at_ : Int) (A : Option Addr) (l c : Nat) (w : World) :
    Calls Try.prog 26 #[.pointer none, .int .u32 gen, .int .i64 at_, .slice A l c] w fun e w' => e = .returned (.int .i64 1) ∧ w = w' := by
  go_enter Try.func26, Try.ntmps26
  go_wp2
  go_ret
  exact ⟨rfl, rfl⟩
set_option maxRecDepth 20000 in
set_option maxHeartbeats 400000 in
theorem append_long (g : Nat) (gen at_ : Int) (A : Option Addr) (l c : Nat) (w : World) (hl : 50 < l) :
    Calls Try.prog 26 #[.pointer (some ⟨g, 0, none⟩), .int .u32 gen, .int .i64 at_, .slice A l c] w fun e w' => e = .returned (.int .i64 1) ∧ w = w' := by
  have h1 : decide ((50 : Int) < (l : Int)) = true := decide_eq_true (by omega)
  clear hl
  go_enter Try.func26, Try.ntmps26
  go_wp2
  go_ret
  exact ⟨rfl, rfl⟩
set_option maxRecDepth 20000 in
set_option maxHeartbeats 400000 in
theorem append_out (g : Nat) (gen at_ : Int) (A : Option Addr) (l c : Nat) (w : World) (hl : l ≤ 50) (ha : at_ < 0 ∨ 64 ≤ at_) :
    Calls Try.prog 26 #[.pointer (some ⟨g, 0, none⟩), .int .u32 gen, .int .i64 at_, .slice A l c] w fun e w' => e = .returned (.int .i64 1) ∧ w = w' := by
  have h1 : decide ((50 : Int) < (l : Int)) = false := decide_eq_false (by omega)
  clear hl
  by_cases h2 : at_ < 0
  · have h3 : decide (at_ < 0) = true := decide_eq_true h2
    clear ha
    go_enter Try.func26, Try.ntmps26
    go_wp2
    go_ret
    exact ⟨rfl, rfl⟩
  · have h3 : decide (at_ < 0) = false := decide_eq_false h2
    have h4 : decide ((64 : Int) ≤ at_) = true := decide_eq_true (by omega)
    clear ha
    go_enter Try.func26, Try.ntmps26
    go_wp2
    go_ret
    exact ⟨rfl, rfl⟩

/-- What an Append leaves whose Write fails, or whose Flush, or none. -/
def AppPost (w : World) (gD gS gM n : Nat) (S : Nat → List Nat) (L : Nat → Option (List Nat)) (t : Tr) (k : Nat) (e : Ending) (w' : World) : Prop :=
  e = .returned (.int .i64 (k : Int)) ∧ Dsk w' gD gS gM n S L t ∧ Turns (dk gD gS gM) w w'

set_option maxRecDepth 20000 in
set_option maxHeartbeats 1600000 in
theorem append_any (gD gS gM n : Nat) (S : Nat → List Nat) (L : Nat → Option (List Nat)) (t : Tr) (gen at_ : Nat) (v : Value) (b : List Nat) (B : Nat) (w : World) (h : Dsk w gD gS gM n S L t) (hn : 64 ≤ n) (hx : Bts w B v b) (hB : B ≤ w.heap.size)
    (hl : b.length ≤ 50) (hg : gen < 4294967296) (ha : at_ < 64) :
    Calls Try.prog 26 #[.pointer (some ⟨gD, 0, none⟩), .int .u32 (gen : Int), .int .i64 (at_ : Int), v] w fun e w' =>
      (t.ans ≠ 0 ∧ AppPost w gD gS gM n S L t.next t.ans e w') ∨
      (t.ans = 0 ∧ t.next.ans ≠ 0 ∧ AppPost w gD gS gM n S (upd L at_ (some (secL gen at_ b))) t.next.next t.next.ans e w') ∨
      (t.ans = 0 ∧ t.next.ans = 0 ∧ AppPost w gD gS gM n (upd (last S L) at_ (secL gen at_ b)) (fun _ => none) t.next.next 0 e w') := by
  have HD := Lib.hid h
  have HX := Lib.hid hx
  have HB := Lib.hid hB
  obtain ⟨A, l, c, rfl, e0, -⟩ := hx
  have HL := Lib.hid (show b.length ≤ 50 from hl)
  have HF := Lib.hid (show at_ < n by omega)
  have HS := Lib.hid (sector_any gen at_ _ b B w HX.out HB.out hl hg (by omega))
  have HY := Lib.hid (show (secL gen at_ b).length = 64 from secL_length gen at_ b hl)
  have HZ := Lib.hid (secL_byte gen at_ b hl HX.out.byte)
  have h1 : decide ((50 : Int) < (l : Int)) = false := decide_eq_false (by omega)
  have h3 : decide ((at_ : Int) < 0) = false := decide_eq_false (by omega)
  have h4 : decide ((64 : Int) ≤ (at_ : Int)) = false := decide_eq_false (by omega)
  have h5 : IntKind.i64.wrap (at_ : Int) = (at_ : Int) := by rw [IntKind.wrap_i64]; omega
  obtain ⟨sec, hsec⟩ : ∃ sec, sec = secL gen at_ b := ⟨_, rfl⟩
  have HSE := Lib.hid hsec
  rw [← hsec] at HY HZ ⊢
  clear h hB hl hg hn ha e0 hsec
  go_enter Try.func26, Try.ntmps26
  go_wp2_with fail
  refine HS.out.mono ?_
  rintro e w1 ⟨rfl, hb1, hk1⟩
  rw [← HSE.out] at hb1
  have BK1 := Lib.hid hb1
  have K1 := Lib.hid hk1
  have HD1 := Lib.hid (HD.out.fresh hk1)
  have T1 := Lib.hid (show Turns (dk gD gS gM) w w1 from Turns.of_below hk1 (Nat.le_refl _))
  clear hb1 hk1
  by_cases c1 : t.ans = 0
  · go_wp2_with fail
    refine (dwrite_yes gD gS gM n S L t at_ _ sec w1 HD1.out HF.out c1 (fun w' ho => ⟨w1.heap.size, ?_, Nat.le_refl _⟩) HY.out).mono ?_
    · have h := ho.blk BK1.out (by have := HD.out.lt.1; omega)
      have h := Bts.of_whole (n := 64) h HY.out (by simp [maxLen]) HZ.out
      rw [ho.2] at h
      exact h
    rintro e w2 ⟨rfl, hd2, ht2, _⟩
    have HD2 := Lib.hid hd2
    have T2 := Lib.hid (T1.out.trans ht2)
    clear hd2 ht2
    by_cases c2 : t.next.ans = 0
    · go_wp2_with fail
      refine (dflush_yes _ _ _ _ _ _ _ _ HD2.out c2).mono ?_
      rintro e w3 ⟨rfl, hd3, ht3⟩
      rw [last_upd] at hd3
      have HD3 := Lib.hid hd3
      have T3 := Lib.hid (T2.out.trans ht3)
      clear hd3 ht3
      go_wp2
      go_ret
      exact .inr (.inr ⟨c1, c2, rfl, HD3.out, T3.out⟩)
    · go_wp2_with fail
      refine (dflush_bad _ _ _ _ _ _ _ _ HD2.out c2).mono ?_
      rintro e w3 ⟨rfl, hd3, ht3, _⟩
      have HD3 := Lib.hid hd3
      have T3 := Lib.hid (T2.out.trans ht3)
      clear hd3 ht3
      go_wp2
      go_ret
      exact .inr (.inl ⟨c1, c2, rfl, HD3.out, T3.out⟩)
  · go_wp2_with fail
    refine (dwrite_bad gD gS gM n S L t at_ _ _ w1 HD1.out HF.out c1).mono ?_
    rintro e w2 ⟨rfl, hd2, ht2, _⟩
    have HD2 := Lib.hid hd2
    have T2 := Lib.hid (T1.out.trans ht2)
    have t1 : (((t.ans : Nat) : Int) != 0) = true := by rw [bne_iff_ne]; omega
    clear hd2 ht2
    go_wp2
    go_ret
    exact .inl ⟨c1, rfl, HD2.out, T2.out⟩
end Go.Proofs.Ytckabekimdcdcaa

/-
  The contract of the statements' own 'all': a disk's first hundred sectors, read one behind the other.
  Conditions: the disk is known whole, has a hundred sectors, and is without trouble.
-/
import Derived.Test.YtgjedofljojioaaGen
import Derived.Deep.LoopGhost
namespace Go.Proofs.Ytgjedofljojioaa
open Go.RowKit
set_option linter.unusedVariables false

/-- What holds ahead of round k. -/
def AllAt (w : World) (gD gS gM n : Nat) (S : Nat → List Nat) (L : Nat → Option (List Nat)) (k : Nat) (v : Value) (wx : World) : Prop :=
  Dsk wx gD gS gM n S L Tr.none_ ∧ Lst wx (dk gD gS gM) 0 w.heap.size 31 v (firsts (last S L) k) ∧ Turns (dk gD gS gM) w wx
/-- What it leaves. -/
def AllPost (w : World) (gD gS gM n : Nat) (S : Nat → List Nat) (L : Nat → Option (List Nat)) (e : Ending) (w' : World) : Prop :=
  ∃ v, e = .returned v ∧ AllAt w gD gS gM n S L 100 v w'

set_option maxRecDepth 20000 in
set_option maxHeartbeats 1600000 in
theorem slotAll_any (gD gS gM n : Nat) (S : Nat → List Nat) (L : Nat → Option (List Nat)) (w : World) (h : Dsk w gD gS gM n S L Tr.none_) (hn : 100 ≤ n) :
    Calls Try.prog 14 #[.pointer (some ⟨gD, 0, none⟩)] w (AllPost w gD gS gM n S L) := by
  have HD := Lib.hid h
  have HN := Lib.hid hn
  clear h hn
  obtain ⟨i0, hi, hz0, hz1, hz2⟩ := info_parts Try.infoB
  have HI := Lib.hid hi
  have HZ0 := Lib.hid hz0
  have HZ1 := Lib.hid hz1
  have HZ2 := Lib.hid hz2
  clear hi hz0 hz1 hz2
  go_enter Try.func14, Try.ntmps14
  go_wp2_with fail
  go_loopg [3, 4] 100 (fun g s3 s4 wx => ∃ k : Nat, k + g = 100 ∧ s4 = .int .i64 k ∧ AllAt w gD gS gM n S L k s3 wx)
  case atStart => exact ⟨0, rfl, rfl, HD.out, Lst.nil_ _ _ _ _ _, Turns.refl _ _⟩
  case round =>
    obtain ⟨k, hkg, rfl, hr⟩ := hrel
    have HR := Lib.hid hr
    clear hr
    by_cases hk : k < 100
    · have t1 : decide ((k : Int) < 100) = true := decide_eq_true (by omega)
      go_wp2_with fail
      refine (dread_yes _ _ _ _ _ _ _ k _ HR.out.1 (by have := HN.out; omega) none_ans).mono ?_
      rintro e w2 ⟨rfl, hb2, hd2, ht2, hs2⟩
      rw [none_next] at hd2
      have hlen := hd2.last_ (show k < n by have := HN.out; omega)
      have HLE := Lib.hid hlen.1
      have HBY := Lib.hid hlen.2
      have BK2 := Lib.hid hb2
      have HD2 := Lib.hid hd2
      have HT2 := Lib.hid (HR.out.2.2.trans ht2)
      have HL2 := Lib.hid (HR.out.2.1.turns (by rintro q (e | e | e) <;> (have := HD.out.lt; omega)) ht2)
      have A4 := Lib.hid (show Below w2.heap.size w2 (w2.alloc (.cells #[.slice (some ⟨wr.heap.size + 1, 0, none⟩) 64 64] 31)) from (Below.refl _ _).alloc (Nat.le_refl _) _)
      have HL4 := Lib.hid (HL2.out.alloc (by rintro q (e | e | e) <;> (have := HD.out.lt; omega)) (.cells #[.slice (some ⟨wr.heap.size + 1, 0, none⟩) 64 64] 31))
      have BK4 := Lib.hid (BK2.out.below A4.out BK2.out.lt)
      have HB4 := Lib.hid (show w.heap.size ≤ (w2.alloc (.cells #[.slice (some ⟨wr.heap.size + 1, 0, none⟩) 64 64] 31)).heap.size from Nat.le_trans HT2.out.size A4.out.size)
      have HE4 := Lib.hid (show ∀ j, j < 1 → ∃ u, ([Value.slice (some ⟨wr.heap.size + 1, 0, none⟩) 64 64])[j]? = some u ∧ El (w2.alloc (.cells #[.slice (some ⟨wr.heap.size + 1, 0, none⟩) 64 64] 31)) (dk gD gS gM) 0 31 u (([last S L k]).getD j []) from by
        intro j hj
        obtain rfl : j = 0 := by omega
        refine ⟨_, rfl, ?_⟩
        exact El.of_blk (off := 0) (xs := last S L k) BK4.out (by rintro (e | e | e) <;> (have := HD.out.lt; have := HR.out.2.2.size; omega)) (by decide) HLE.out (Nat.le_refl _) (by simp [maxLen]) (fun j _ => byte_at HBY.out j) (fun j hj => by rw [Nat.zero_add]; exact cellsL_at _ j (by rw [HLE.out]; exact hj)))
      have HC4 := Lib.hid (one_cell (w := w2.alloc (.cells #[.slice (some ⟨wr.heap.size + 1, 0, none⟩) 64 64] 31)) (g := w2.heap.size) (v := .slice (some ⟨wr.heap.size + 1, 0, none⟩) 64 64) (by simp))
      have HFW := Lib.hid (show (firsts (last S L) k).length + 1 ≤ 1000000 by rw [firsts_length]; omega)
      clear hb2 hd2 ht2 hs2 hlen
      go_wp2_with (at_builtin; refine wpList_append_lst rfl (.tmp 17) (.tmp 19) 23 rfl (dk gD gS gM) 0 w.heap.size 31 i0 Try.underlying23 HI.out HZ0.out HZ1.out HZ2.out u3 (firsts (last S L) k) rfl HL4.out ⟨w2.heap.size, 0, none⟩ 1 1 [.slice (some ⟨wr.heap.size + 1, 0, none⟩) 64 64] [last S L k] rfl rfl rfl HC4.out HE4.out HFW.out HB4.out (Nat.zero_le _) ?_; intro v5 w5 HL5 HK5)
      have HT5 := Lib.hid ((HT2.out.trans (show Turns (dk gD gS gM) w2 (w2.alloc (.cells #[.slice (some ⟨wr.heap.size + 1, 0, none⟩) 64 64] 31)) from Turns.of_below A4.out (Nat.le_refl _))).below_ HK5.out)
      have HD5 := Lib.hid ((HD2.out.alloc (.cells #[.slice (some ⟨wr.heap.size + 1, 0, none⟩) 64 64] 31)).below HK5.out HD.out.lt.1 HD.out.lt.2.1 HD.out.lt.2.2)
      go_roundg (99 - k)
      case measure => omega
      case rel =>
        refine ⟨k + 1, by omega, by go_num, HD5.out, ?_, HT5.out⟩
        rw [firsts_succ]
        exact HL5.out
    · obtain rfl : k = 100 := by omega
      go_wp2
      go_ret
      exact ⟨_, rfl, HR.out⟩
end Go.Proofs.Ytgjedofljojioaa

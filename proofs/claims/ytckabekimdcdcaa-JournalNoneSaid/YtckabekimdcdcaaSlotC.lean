/-
  The contract of slot's content: so many bytes, read off the disk's sectors from one on, in new memory; or the first work that fails.
  Conditions: the disk is known whole and has fifteen sectors from there on; at most 960 bytes.
-/
import Derived.Test.YtckabekimdcdcaaGen
import Derived.Test.YtckabekimdcdcaaSlotA
import Derived.Deep.LoopGhost
import Derived.Laws.MakeOwn
namespace Go.Proofs.Ytckabekimdcdcaa
open Go.RowKit
set_option linter.unusedVariables false

theorem own_any {w : World} {base : Nat} {e : TypeId} {v : Value} {n : Nat} {xs : List Value} (h : w.ownsRow base e 1 v n xs) : ∃ A cap, v = .slice A n cap := by
  rcases h.2 with ⟨h1, h2⟩ | ⟨g, cap, cur, h1, _⟩
  · exact ⟨none, 0, by rw [h1, h2]⟩
  · exact ⟨_, cap, h1⟩
theorem own_turns {w w' : World} {M : Nat → Prop} {base : Nat} {e : TypeId} {v : Value} {n : Nat} {xs : List Value} (h : w.ownsRow base e 1 v n xs) (hM : ∀ k, M k → k < base) (ht : Turns M w w') : w'.ownsRow base e 1 v n xs := by
  refine ⟨h.1, ?_⟩
  rcases h.2 with h2 | ⟨g, cap, cur, h4, h5, h6, h7⟩
  · exact .inl h2
  · refine .inr ⟨g, cap, cur, h4, h5, ?_, h7⟩
    rw [ht.block g (Array.getElem?_eq_some_iff.1 h6).1 (fun hm => by have := hM g hm; omega)]
    exact h6
/-- What holds ahead of round k. -/
def ConAt (w : World) (gD gS gM n : Nat) (S : Nat → List Nat) (L : Nat → Option (List Nat)) (t : Tr) (a m k : Nat) (v : Value) (wx : World) : Prop :=
  wx.ownsRow w.heap.size 5 1 v (min m (64 * k)) (((flatN (last S L) a k).take m).map bv) ∧ Dsk wx gD gS gM n S L (tn t k) ∧ Turns (dk gD gS gM) w wx ∧ ∀ j, j < k → (tn t j).ans = 0
/-- What content leaves. -/
def ConPost (w : World) (gD gS gM n : Nat) (S : Nat → List Nat) (L : Nat → Option (List Nat)) (t : Tr) (a m : Nat) (e : Ending) (w' : World) : Prop :=
  Turns (dk gD gS gM) w w' ∧ ∃ k, (∀ j, j < k → (tn t j).ans = 0) ∧
    ((k = (m + 63) / 64 ∧ (∃ v, e = .returned (.tuple #[v, .int .i64 0]) ∧ w'.ownsRow w.heap.size 5 1 v m (((flatN (last S L) a 15).take m).map bv)) ∧ Dsk w' gD gS gM n S L (tn t k)) ∨
     (k < (m + 63) / 64 ∧ (tn t k).ans ≠ 0 ∧ e = .returned (.tuple #[.slice none 0 0, .int .i64 ((tn t k).ans : Nat)]) ∧ Dsk w' gD gS gM n S L (tn t (k + 1))))

set_option maxRecDepth 20000 in
set_option maxHeartbeats 1600000 in
theorem content_any (gD gS gM n : Nat) (S : Nat → List Nat) (L : Nat → Option (List Nat)) (t : Tr) (a m : Nat) (w : World) (h : Dsk w gD gS gM n S L t) (hn : a + 15 ≤ n) (hm : m ≤ 960) :
    Calls Try.prog 48 #[.pointer (some ⟨gD, 0, none⟩), .int .i64 (a : Int), .int .i64 (m : Int)] w (ConPost w gD gS gM n S L t a m) := by
  have HD := Lib.hid h
  have HN := Lib.hid hn
  have hfew := h.few
  have hA : a ≤ 5000 := by omega
  have HLEN := Lib.hid (fun j (hj : j < 15) => (h.last_ (show a + j < n by omega)).1)
  have HBYT := Lib.hid (fun j (hj : j < 15) => (h.last_ (show a + j < n by omega)).2)
  obtain ⟨i0, hi, hz0, hz1, hz2⟩ := info_parts Try.info8
  have HI := Lib.hid hi
  have HZ0 := Lib.hid hz0
  have HZ1 := Lib.hid hz1
  have HZ2 := Lib.hid hz2
  obtain ⟨w1, hmk, ho1, hg1⟩ := run_makeSlice_owned (P := Try.prog) w w.heap.size 27 5 i0 (.int .u8 0) 1 Try.underlying27 hi hz0 hz1 .i64 .i64 m (by omega) (by rw [hz2]; omega) (by unfold maxLen; omega) (Nat.le_refl _)
  have HO1 := Lib.hid ho1
  have B1 := Lib.hid ((Below.refl w.heap.size w).grown hg1 (Nat.le_refl _) (fun k e => by cases e))
  have HT1 := Lib.hid (show Turns (dk gD gS gM) w w1 from Turns.of_below B1.out (Nat.le_refl _))
  have HD1 := Lib.hid (h.fresh B1.out)
  have HM := Lib.hid (show ∀ q, dk gD gS gM q → q < w.heap.size from by rintro q (e | e | e) <;> (have := h.lt; omega))
  have HS1 := Lib.hid (show ConAt w gD gS gM n S L t a m 0 (.slice (some ⟨w.heap.size, 0, none⟩) 0 m) w1 from by
    refine ⟨?_, HD1.out, HT1.out, fun j hj => absurd hj (by omega)⟩
    rw [show min m (64 * 0) = 0 by omega, flatN_zero, List.take_nil, List.map_nil]
    exact ho1)
  clear h hn hi hz0 hz1 hz2 hg1 ho1 hfew
  go_enter Try.func48, Try.ntmps48
  go_wp2_with fail
  go_loopg [1, 8] ((m + 63) / 64) (fun g s1 s8 wx => ∃ k : Nat, k + g = (m + 63) / 64 ∧ s1 = .int .i64 ((a + k : Nat) : Int) ∧ ConAt w gD gS gM n S L t a m k s8 wx)
  case atStart => exact ⟨0, by omega, rfl, HS1.out⟩
  case round =>
    obtain ⟨k, hkg, rfl, hr⟩ := hrel
    have HR := Lib.hid hr
    obtain ⟨A8, c8, hv8⟩ := own_any hr.1
    subst hv8
    clear hr
    obtain ⟨T, hT⟩ : ∃ T, T = tn t k := ⟨_, rfl⟩
    have HTN := Lib.hid hT
    by_cases hk : 64 * k < m
    · obtain ⟨q, hq⟩ : ∃ q, q = 64 * k := ⟨_, rfl⟩
      have hk15 : k < 15 := by omega
      have e1 : min m (64 * k) = q := by omega
      rw [e1] at HR ⊢
      have t1 : decide (q < m) = true := decide_eq_true (by omega)
      have n0 : (q : Int) < (m : Int) := by omega
      have n3 : IntKind.i64.wrap ((m : Int) - (q : Int)) = (m : Int) - (q : Int) := by rw [IntKind.wrap_i64]; omega
      have HQ := Lib.hid hq
      have HK := Lib.hid hk
      have HDW := Lib.hid HR.out.2.1
      rw [← hT] at HDW
      clear hq e1 hk hT
      by_cases c1 : T.ans = 0
      · go_wp2_with fail
        refine (dread_yes gD gS gM n S L T (a + k) wr HDW.out (by have := HN.out; omega) c1).mono ?_
        rintro e w2 ⟨rfl, hb2, hd2, ht2, hs2⟩
        have HD2 := Lib.hid hd2
        have HT2 := Lib.hid (HR.out.2.2.1.trans ht2)
        have HO2 := Lib.hid (show w2.ownsRow w.heap.size 5 1 (.slice A8 q c8) (min m (64 * k)) (((flatN (last S L) a k).take m).map bv) from own_turns HR.out.1 HM.out ht2)
        rw [show min m (64 * k) = q by have := HQ.out; have := HK.out; omega] at HO2
        obtain ⟨r, hr⟩ : ∃ r, r = min 64 (m - q) := ⟨_, rfl⟩
        have n1 : (if (m : Int) - (q : Int) < 64 then (m : Int) - (q : Int) else 64) = (r : Int) := by split <;> omega
        have n2 : r ≤ 64 := by omega
        have HRE := Lib.hid hr
        clear hr
        have X2 := Lib.hid ((Bts.of_whole hb2 (HLEN.out k hk15) (by simp [maxLen]) (HBYT.out k hk15)).front r (by omega))
        have HLX := Lib.hid (show ((last S L (a + k)).take r).length = r by rw [List.length_take, HLEN.out k hk15]; omega)
        have HCL := Lib.hid c1
        clear hb2 hd2 ht2 hs2 c1
        go_wp2_with (at_builtin; refine wpList_append_bts rfl (.tmp 26) (.tmp 35) 27 rfl w.heap.size 5 i0 Try.underlying27 HI.out HZ0.out HZ1.out HZ2.out (.slice A8 q c8) q ((flatN (last S L) a k).take m) rfl HO2.out _ ((last S L (a + k)).take r) rfl w2.heap.size X2.out (by rw [HLX.out]; have := HQ.out; omega) HT2.out.size ?_; intro v3 w3 O3 B3)
        go_roundg ((m + 63) / 64 - (k + 1))
        case measure => have := HK.out; omega
        case rel =>
          have := HK.out
          refine ⟨k + 1, by omega, by go_num, ?_, ?_, HT2.out.below_ B3.out, fun j hj => ?_⟩
          · have h3 := O3.out
            rw [HLX.out] at h3
            rw [show min m (64 * (k + 1)) = q + r by rw [HRE.out, HQ.out]; omega, con_step (fun j hj => HLEN.out j (by omega)) this]
            have e2 : (last S L (a + k)).take (m - 64 * k) = (last S L (a + k)).take r := by
              rw [HRE.out, HQ.out]
              by_cases c : m - 64 * k ≤ 64
              · rw [Nat.min_eq_right c]
              · rw [Nat.min_eq_left (by omega), List.take_of_length_le (by rw [HLEN.out k hk15]; omega), List.take_of_length_le (by rw [HLEN.out k hk15]; omega)]
            rw [e2]
            exact h3
          · have h3 := HD2.out
            rw [HTN.out] at h3
            exact h3.below B3.out (HM.out _ (.inl rfl)) (HM.out _ (.inr (.inl rfl))) (HM.out _ (.inr (.inr rfl)))
          · by_cases e : j = k
            · subst e
              rw [← HTN.out]
              exact HCL.out
            · exact HR.out.2.2.2 j (by omega)
      · have t2 : (((T.ans : Nat) : Int) != 0) = true := by rw [bne_iff_ne]; omega
        go_wp2_with fail
        refine (dread_bad gD gS gM n S L T (a + k) wr HDW.out (by have := HN.out; omega) c1).mono ?_
        rintro e w2 ⟨rfl, hd2, ht2, hs2⟩
        have HD2 := Lib.hid hd2
        have HT2 := Lib.hid (HR.out.2.2.1.trans ht2)
        have HC1 := Lib.hid c1
        clear hd2 ht2 hs2 c1
        go_wp2
        go_ret2
        refine ⟨HT2.out, k, HR.out.2.2.2, .inr ⟨by have := HK.out; omega, ?_, ?_, ?_⟩⟩
        · rw [← HTN.out]; exact HC1.out
        · rw [← HTN.out]; rfl
        · have h3 := HD2.out
          rw [HTN.out] at h3
          exact h3
    · have e1 : min m (64 * k) = m := by omega
      have e2 : k = (m + 63) / 64 := by omega
      have e3 : k ≤ 15 := by omega
      rw [e1] at HR ⊢
      have t1 : decide ((m : Int) < (m : Int)) = false := decide_eq_false (by omega)
      have E2 := Lib.hid e2
      have HK := Lib.hid hk
      clear e1 e2 hT hk
      go_wp2
      go_ret2
      refine ⟨HR.out.2.2.1, k, HR.out.2.2.2, .inl ⟨E2.out, ⟨_, rfl, ?_⟩, HR.out.2.1⟩⟩
      have h3 := HR.out.1
      have := HK.out
      rw [show min m (64 * k) = m by omega] at h3
      rw [con_end (k := k) (fun j hj => HLEN.out j (by omega)) (by omega) e3]
      exact h3
end Go.Proofs.Ytckabekimdcdcaa

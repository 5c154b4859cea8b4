/-
  The contract of slot's Save: what may not be is told; else the bytes' sectors are written and made sure, and then the head; or the first work that fails.
  Conditions: the disk is known whole and has the slots' sectors; the bytes are read in memory that work on the disk does not turn.
-/
import Derived.Test.YtckabekimdcdcaaSlotE
import Derived.Test.YtckabekimdcdcaaSlotF
namespace Go.Proofs.Ytckabekimdcdcaa
open Go.RowKit
set_option linter.unusedVariables false

set_option maxHeartbeats 400000 in
theorem save_nil (gen : Int) (A : Option Addr) (l c : Nat) (w : World) :
    Calls Try.prog 25 #[.pointer none, .int .u32 gen, .slice A l c] w fun e w' => e = .returned (.int .i64 1) ∧ w = w' := by
  go_enter Try.func25, Try.ntmps25
  go_wp2
  go_ret
  exact ⟨rfl, rfl⟩
set_option maxHeartbeats 400000 in
theorem save_long (g : Nat) (gen : Int) (A : Option Addr) (l c : Nat) (w : World) (hl : 960 < l) :
    Calls Try.prog 25 #[.pointer (some ⟨g, 0, none⟩), .int .u32 gen, .slice A l c] w fun e w' => e = .returned (.int .i64 1) ∧ w = w' := by
  have h1 : decide ((960 : Int) < (l : Int)) = true := decide_eq_true (by omega)
  clear hl
  go_enter Try.func25, Try.ntmps25
  go_wp2
  go_ret
  exact ⟨rfl, rfl⟩

/-- What Save leaves. -/
def SavePost (w : World) (gD gS gM n : Nat) (S : Nat → List Nat) (L : Nat → Option (List Nat)) (t : Tr) (g : Nat) (b : List Nat) (e : Ending) (w' : World) : Prop :=
  Turns (dk gD gS gM) w w' ∧
    ((∃ k, k ≤ nsec b ∧ (∀ j, j < k → (tn t j).ans = 0) ∧ (tn t k).ans ≠ 0 ∧ e = .returned (.int .i64 ((tn t k).ans : Nat)) ∧ Dsk w' gD gS gM n S (looL L g b k) (tn t (k + 1))) ∨
     ((∀ j, j < nsec b + 1 → (tn t j).ans = 0) ∧
       (((tn t (nsec b + 1)).ans ≠ 0 ∧ e = .returned (.int .i64 ((tn t (nsec b + 1)).ans : Nat)) ∧ Dsk w' gD gS gM n (datL (last S L) g b (nsec b)) (fun _ => none) (tn t (nsec b + 2))) ∨
        ((tn t (nsec b + 1)).ans = 0 ∧ (tn t (nsec b + 2)).ans ≠ 0 ∧ e = .returned (.int .i64 ((tn t (nsec b + 2)).ans : Nat)) ∧
          Dsk w' gD gS gM n (datL (last S L) g b (nsec b)) (upd (fun _ => none) (64 + 16 * (g % 2)) (some (hedL g b))) (tn t (nsec b + 3))) ∨
        ((tn t (nsec b + 1)).ans = 0 ∧ (tn t (nsec b + 2)).ans = 0 ∧ e = .returned (.int .i64 0) ∧ Dsk w' gD gS gM n (savL (last S L) g b) (fun _ => none) (tn t (nsec b + 3))))))

set_option maxRecDepth 20000 in
set_option maxHeartbeats 1600000 in
theorem save_any (gD gS gM n : Nat) (S : Nat → List Nat) (L : Nat → Option (List Nat)) (t : Tr) (g : Nat) (v : Value) (b : List Nat) (w : World) (h : Dsk w gD gS gM n S L t) (hn : 96 ≤ n) (hx : Stay gD gS gM w v b) (hl : b.length ≤ 960) (hg : g < 4294967296) :
    Calls Try.prog 25 #[.pointer (some ⟨gD, 0, none⟩), .int .u32 (g : Int), v] w (SavePost w gD gS gM n S L t g b) := by
  have HD := Lib.hid h
  have HX := Lib.hid hx
  have HL := Lib.hid hl
  obtain ⟨B0, ⟨A, l, c, rfl, e0, -⟩, -⟩ := hx.here
  have hl960 : l ≤ 960 := by omega
  have h1 : decide ((960 : Int) < (l : Int)) = false := decide_eq_false (by omega)
  obtain ⟨a, ha⟩ : ∃ a, a = 64 + 16 * (g % 2) := ⟨_, rfl⟩
  have ha5 : a ≤ 80 := by omega
  have han : a + 16 ≤ n := by omega
  have HA := Lib.hid ha
  have HOF := Lib.hid (headOf_any g w hg)
  rw [← ha] at HOF
  have HWA := Lib.hid (writeAll_any gD gS gM n S L t g _ b w h hn hx hl)
  rw [show ((65 + 16 * (g % 2) : Nat) : Int) = (a : Int) + 1 by omega] at HWA
  obtain ⟨ns, hns⟩ : ∃ ns, ns = nsec b := ⟨_, rfl⟩
  have HNS := Lib.hid hns
  have HG := Lib.hid hg
  clear h hx e0 hl hn ha hns hg
  go_enter Try.func25, Try.ntmps25
  go_wp2_with (first | (go_at_call 34; refine HOF.out.mono ?_; rintro e w3 ⟨rfl, rfl⟩))
  refine HWA.out.mono ?_
  rintro e w1 ⟨ht1, k, hk, ⟨hk1, rfl, hd1⟩ | ⟨hk1, hk2, rfl, hd1⟩⟩
  · rw [← HNS.out] at hk1
    obtain rfl := hk1
    obtain ⟨T, hT⟩ : ∃ T, T = tn t k := ⟨_, rfl⟩
    rw [← hT] at hd1
    have HTN := Lib.hid hT
    have HT1 := Lib.hid ht1
    have HD1 := Lib.hid hd1
    have HK := Lib.hid hk
    clear ht1 hk hd1 hT
    by_cases c1 : T.ans = 0
    · go_wp2_with fail
      refine (dflush_yes gD gS gM n S (looL L g b k) T w1 HD1.out c1).mono ?_
      rintro e w2 ⟨rfl, hd2, ht2⟩
      rw [looL_last] at hd2
      have HT2 := Lib.hid (HT1.out.trans ht2)
      have HD2 := Lib.hid hd2
      have HC1 := Lib.hid c1
      have HW1 := Lib.hid (show ∀ j, j < nsec b + 1 → (tn t j).ans = 0 from fun j hj => by
        rw [← HNS.out] at hj
        by_cases e : j = k
        · subst e; rw [← HTN.out]; exact c1
        · exact HK.out j (by omega))
      clear hd2 ht2 c1
      obtain ⟨B2, hx2, hB2⟩ := HX.out w2 HT2.out
      have HH := Lib.hid (shead_any g _ b B2 w2 hx2 (Nat.le_trans hB2 HT2.out.size) HL.out HG.out)
      clear hx2 hB2
      go_wp2_with fail
      refine HH.out.mono ?_
      rintro e w3 ⟨rfl, hb3, hk3⟩
      have BK3 := Lib.hid hb3
      have HD3 := Lib.hid (HD2.out.fresh hk3)
      have HT3 := Lib.hid (HT2.out.trans (Turns.of_below hk3 (Nat.le_refl _)))
      have HHL := Lib.hid (hedL_length g b)
      have HHB := Lib.hid (hedL_byte g b)
      clear hb3 hk3
      obtain ⟨T2, hT2⟩ : ∃ T2, T2 = T.next := ⟨_, rfl⟩
      rw [← hT2] at HD3
      have HTN2 := Lib.hid (show T2 = tn t (k + 1) by rw [hT2, HTN.out]; rfl)
      clear hT2
      by_cases c2 : T2.ans = 0
      · go_wp2_with fail
        refine (dwrite_yes gD gS gM n (datL (last S L) g b k) (fun _ => none) T2 a _ (hedL g b) w3 HD3.out (by omega) c2 (fun w' ho => ⟨w3.heap.size, ?_, Nat.le_refl _⟩) HHL.out).mono ?_
        · have h := ho.blk BK3.out (by have := HD2.out.lt.1; omega)
          have h := Bts.of_whole (n := 64) h HHL.out (by simp [maxLen]) HHB.out
          rw [ho.2] at h
          exact h
        rintro e w4 ⟨rfl, hd4, ht4, _⟩
        have HT4 := Lib.hid (HT3.out.trans ht4)
        have HD4 := Lib.hid hd4
        have HC2 := Lib.hid c2
        clear hd4 ht4 c2
        obtain ⟨T3, hT3⟩ : ∃ T3, T3 = T2.next := ⟨_, rfl⟩
        rw [← hT3] at HD4
        have HTN3 := Lib.hid (show T3 = tn t (k + 2) by rw [hT3, HTN2.out]; rfl)
        clear hT3
        by_cases c3 : T3.ans = 0
        · go_wp2_with fail
          refine (dflush_yes gD gS gM n _ _ T3 w4 HD4.out c3).mono ?_
          rintro e w5 ⟨rfl, hd5, ht5⟩
          rw [last_upd, last_none] at hd5
          have HT5 := Lib.hid (HT4.out.trans ht5)
          have HD5 := Lib.hid hd5
          have HC3 := Lib.hid c3
          clear hd5 ht5 c3
          go_wp2
          go_ret
          refine ⟨HT5.out, .inr ⟨HW1.out, .inr (.inr ⟨by rw [← HNS.out, ← HTN2.out]; exact HC2.out, by rw [← HNS.out, ← HTN3.out]; exact HC3.out, rfl, ?_⟩)⟩⟩
          have h := HD5.out
          rw [HTN3.out, HA.out] at h
          rw [← HNS.out]
          unfold savL
          rw [← HNS.out]
          exact h
        · have t2 : (((T3.ans : Nat) : Int) != 0) = true := by rw [bne_iff_ne]; omega
          go_wp2_with fail
          refine (dflush_bad gD gS gM n _ _ T3 w4 HD4.out c3).mono ?_
          rintro e w5 ⟨rfl, hd5, ht5, _⟩
          have HT5 := Lib.hid (HT4.out.trans ht5)
          have HD5 := Lib.hid hd5
          have HC3 := Lib.hid c3
          clear hd5 ht5 c3
          go_wp2
          go_ret
          refine ⟨HT5.out, .inr ⟨HW1.out, .inr (.inl ⟨by rw [← HNS.out, ← HTN2.out]; exact HC2.out, by rw [← HNS.out, ← HTN3.out]; exact HC3.out, by rw [← HNS.out, ← HTN3.out]; rfl, ?_⟩)⟩⟩
          have h := HD5.out
          rw [HTN3.out, HA.out] at h
          rw [← HNS.out]
          exact h
      · have t2 : (((T2.ans : Nat) : Int) != 0) = true := by rw [bne_iff_ne]; omega
        go_wp2_with fail
        refine (dwrite_bad gD gS gM n _ _ T2 a _ _ w3 HD3.out (by omega) c2).mono ?_
        rintro e w4 ⟨rfl, hd4, ht4, _⟩
        have HT4 := Lib.hid (HT3.out.trans ht4)
        have HD4 := Lib.hid hd4
        have HC2 := Lib.hid c2
        clear hd4 ht4 c2
        go_wp2
        go_ret
        refine ⟨HT4.out, .inr ⟨HW1.out, .inl ⟨by rw [← HNS.out, ← HTN2.out]; exact HC2.out, by rw [← HNS.out, ← HTN2.out]; rfl, ?_⟩⟩⟩
        have h := HD4.out
        rw [HTN2.out] at h
        rw [← HNS.out]
        exact h
    · have t2 : (((T.ans : Nat) : Int) != 0) = true := by rw [bne_iff_ne]; omega
      go_wp2_with fail
      refine (dflush_bad gD gS gM n _ _ T w1 HD1.out c1).mono ?_
      rintro e w2 ⟨rfl, hd2, ht2, _⟩
      have HT2 := Lib.hid (HT1.out.trans ht2)
      have HD2 := Lib.hid hd2
      have HC1 := Lib.hid c1
      clear hd2 ht2 c1
      go_wp2
      go_ret
      refine ⟨HT2.out, .inl ⟨k, by rw [HNS.out]; exact Nat.le_refl _, HK.out, by rw [← HTN.out]; exact HC1.out, by rw [← HTN.out]; rfl, ?_⟩⟩
      have h := HD2.out
      rw [HTN.out] at h
      exact h
  · obtain ⟨T, hT⟩ : ∃ T, T = tn t k := ⟨_, rfl⟩
    rw [← hT]
    rw [← hT] at hk2
    have t2 : (((T.ans : Nat) : Int) != 0) = true := by rw [bne_iff_ne]; omega
    have HTN := Lib.hid hT
    have HT1 := Lib.hid ht1
    have HD1 := Lib.hid hd1
    have HK := Lib.hid hk
    have HK1 := Lib.hid hk1
    have HK2 := Lib.hid hk2
    clear ht1 hk hd1 hT hk1 hk2
    go_wp2
    go_ret
    exact ⟨HT1.out, .inl ⟨k, Nat.le_of_lt HK1.out, HK.out, by rw [← HTN.out]; exact HK2.out, by rw [← HTN.out]; rfl, HD1.out⟩⟩
end Go.Proofs.Ytckabekimdcdcaa

/-
  The contract of registry's Open at a disk without trouble: what lasted is known.
  Conditions: what is there was written by this.
-/
import Derived.Test.YtfnegbcpiejdaabRegY
namespace Go.Proofs.Ytfnegbcpiejdaab
open Go.RowKit
set_option linter.unusedVariables false

/-- What Open leaves. -/
def OpPost (w : World) (gD gS gM g : Nat) (md : MD) (S : Nat → List Nat) (L : Nat → Option (List Nat)) (e : Ending) (w' : World) : Prop :=
  ∃ gR gB gJ n, e = .returned (.tuple #[.pointer (some ⟨gR, 0, none⟩), .int .i64 0]) ∧ Stop (last S L) g n ∧ RegX w' gR gB gJ gD gS gM g n false md S L Tr.none_ ∧ w.heap.size ≤ gJ ∧ w.heap.size ≤ gB ∧ w.heap.size ≤ gR ∧ Turns (dk gD gS gM) w w'
theorem ropen_nil (w : World) :
    Calls Try.prog 19 #[.pointer none] w fun e w' => e = .returned (.tuple #[.pointer none, .int .i64 1]) ∧ w = w' := by
  go_enter Try.func19, Try.ntmps19
  go_wp2_with fail
  refine (jopen_nil w).mono ?_
  rintro e w1 ⟨rfl, rfl⟩
  go_wp2
  go_ret2
  exact ⟨rfl, rfl⟩
set_option maxRecDepth 100000 in
set_option maxHeartbeats 1600000 in
theorem open_any (gD gS gM g : Nat) (md : MD) (S : Nat → List Nat) (L : Nat → Option (List Nat)) (w : World) (h : Dsk w gD gS gM 192 S L Tr.none_) (hf : Found decR g md (last S L)) (hL : ∀ k, L k = none) :
    Calls Try.prog 19 #[.pointer (some ⟨gD, 0, none⟩)] w (OpPost w gD gS gM g md S L) := by
  have JO := Lib.hid (jopen_ok gD gS gM S L w h hL)
  have HLT := Lib.hid h.lt
  obtain ⟨nb, hnb⟩ : ∃ nb, nb = (loadR (last S L)).2 := ⟨_, rfl⟩
  have HF := Lib.hid hf
  have HNB := Lib.hid hnb
  have HBY := Lib.hid (show ∀ y ∈ nb, y < 256 from by rw [hnb]; exact loadR_byte (fun f hf => (h.last_ (by omega)).2))
  have hmm := @run_makeMap Try.prog
  clear h hf hnb hL
  go_enter Try.func19, Try.ntmps19
  go_wp2_with fail
  refine JO.out.mono ?_
  rintro e w1 ⟨gJ, v1, v2, m, rfl, hst, ho1, hl2, hj, hgJ, ht⟩
  rw [HF.out.1] at hst hj
  rw [← HNB.out] at ho1
  have HB := Lib.hid (Bts.of_own ho1 HBY.out)
  obtain ⟨A1, c1, rfl⟩ := own_any ho1
  have HPT := Lib.hid hl2.pts
  obtain ⟨A2, c2, rfl, hc2, hm2⟩ := hl2.shape
  unfold maxLen at hm2
  have hml : (pays (last S L) m).length = m := pays_length _ _
  rw [hml] at hc2 ⊢
  have HML := Lib.hid hml
  have HDEC := Lib.hid (show decR nb (pays (last S L) m) = some md from by rw [HNB.out]; exact HF.out.2 m hst)
  have HST := Lib.hid hst
  have HJ := Lib.hid hj
  have HGJ := Lib.hid hgJ
  have HT := Lib.hid ht
  have HA := Lib.hid (show Below w1.heap.size w1 ((w1.alloc (.map #[] 0)).alloc (.cells (regL gJ w1.heap.size md0.2).toArray 74)) from ((Below.refl _ w1).alloc (Nat.le_refl _) _).alloc (by simp) _)
  have HRA := Lib.hid (show RegAt ((w1.alloc (.map #[] 0)).alloc (.cells (regL gJ w1.heap.size md0.2).toArray 74)) (w1.heap.size + 1) w1.heap.size gJ md0 from by
    refine ⟨Blk.new1 w1 _ _ _, ?_, md0_ok, by omega⟩
    have hm := MapV.made w1 Try.prog 3 1024
    have e : badF md0.1 = fun _ => none := by
      funext j
      have h0 : md0.1.getD j false = false := by
        show (List.replicate 1024 false).getD j false = false
        rw [List.getD_eq_getElem?_getD, List.getElem?_replicate]
        split <;> rfl
      unfold badF
      rw [h0]
      rfl
    rw [e]
    exact hm.far ((Below.refl _ _).alloc (Nat.le_refl _) _ |>.block _ (by simp)))
  obtain ⟨mb, hmb⟩ : ∃ mb, decR nb ((pays (last S L) m).take 0) = some mb := decR_take HDEC.out 0
  have TB := Lib.hid (takeBase_any (w1.heap.size + 1) w1.heap.size gJ mb _ nb w1.heap.size _ HRA.out (HB.out.below HA.out) (by omega) (by omega) hmb)
  have HMB := Lib.hid hmb
  clear hst ho1 hl2 hj hgJ ht hml hmb
  go_wp2_with fail
  refine TB.out.mono ?_
  rintro e w2 ⟨rfl, hr2, ht2⟩
  have HR2 := Lib.hid hr2
  have HB2 := Lib.hid (HA.out.trans (ht2.below (B := w1.heap.size) (fun k hk => by rcases hk with e | e <;> omega) HA.out.size))
  clear hr2 ht2
  go_wp2_with fail
  go_loopg [10, 31] m (fun gg _ s31 wr => ∃ (k : Nat) (mk : MD), k + gg = m ∧ s31 = .int .i64 (k : Int) ∧ decR nb ((pays (last S L) m).take k) = some mk ∧ RegAt wr (w1.heap.size + 1) w1.heap.size gJ mk ∧ Below w1.heap.size w1 wr)
  case atStart => exact ⟨0, mb, by omega, rfl, HMB.out, HR2.out, HB2.out⟩
  case round =>
    obtain ⟨k, mk, hkg, rfl, hdk, hrk, hbk⟩ := hrel
    have HDK := Lib.hid hdk
    have HRK := Lib.hid hrk
    have HBK := Lib.hid hbk
    by_cases hlt : k < m
    · have t1 : decide ((k : Int) < (m : Int)) = true := decide_eq_true (by omega)
      obtain ⟨b, off, c3, u, hv, _, hcell, hu⟩ := (HPT.out.below hbk).get (j := k) (by rw [HML.out]; exact hlt)
      injection hv with e1 e2 e3
      subst e1
      obtain ⟨mk', hmk'⟩ := decR_take HDEC.out (k + 1)
      have hx : decX mk ((pays (last S L) m).getD k []) = some mk' := by
        have hk' : k < (pays (last S L) m).length := by rw [HML.out]; exact hlt
        have e : (pays (last S L) m).take (k + 1) = (pays (last S L) m).take k ++ [(pays (last S L) m).getD k []] := by
          rw [List.take_succ_eq_append_getElem hk']
          simp [hk']
        rw [e, decR_snoc, hdk] at hmk'
        exact hmk'
      have TK := Lib.hid (take_any (w1.heap.size + 1) w1.heap.size gJ mk mk' u _ wr.heap.size wr hrk hu (Nat.le_refl _) hx)
      have HMK := Lib.hid hmk'
      obtain ⟨A3, l3, c4, rfl, -⟩ := hu
      clear hdk hrk hbk hmk' hx e2 e3
      go_wp2_with fail
      refine TK.out.mono ?_
      rintro e w3 ⟨rfl, hr3, ht3⟩
      have HR3 := Lib.hid hr3
      have HB3 := Lib.hid (HBK.out.trans (ht3.below (B := w1.heap.size) (fun k hk => by rcases hk with e | e <;> omega) HBK.out.size))
      clear hr3 ht3
      go_wp2
      go_roundg (m - (k + 1))
      case measure => omega
      case rel => exact ⟨k + 1, mk', by omega, by go_num, HMK.out, HR3.out, HB3.out⟩
    · obtain rfl : k = m := by omega
      have t1 : decide ((k : Int) < (k : Int)) = false := decide_eq_false (by omega)
      clear hdk hrk hbk hlt
      go_wp2
      go_ret2
      have e : mk = md := by
        have h1 := HDK.out
        rw [List.take_of_length_le (by rw [HML.out]; exact Nat.le_refl _), HDEC.out] at h1
        injection h1 with h1
        exact h1.symm
      subst e
      have hlo : ∀ q, jk gJ gD gS gM q → q < w1.heap.size := HJ.out.lt
      exact ⟨_, _, gJ, k, rfl, HST.out, ⟨HRK.out, HJ.out.fresh HBK.out, fun e => by have := hlo _ e; omega, fun e => by have := hlo _ e; omega⟩, HGJ.out, HT.out.size, Nat.le_succ_of_le HT.out.size, HT.out.trans (Turns.of_below HBK.out (Nat.le_refl _))⟩
end Go.Proofs.Ytfnegbcpiejdaab

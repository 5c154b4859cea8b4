/-
  FilePages answers true for any numbers and any bytes.
  Conditions: the bytes are read in memory.
-/
import Derived.Test.YtggidgfmkidkjaaFilL
import Derived.Test.YtggidgfmkidkjaaRefs
import Derived.Deep.CutRange
namespace Go.Proofs.Ytggidgfmkidkjaa
open Go.RowKit
set_option linter.unusedVariables false

section
variable {w0 w : World} {gD gS gM : Nat} {S : Nat → List Nat} {L : Nat → Option (List Nat)}
theorem FD.bts {v : Value} {xs : List Nat} {t : Tr} (h : FD w0 w gD gS gM S L t) (hv : Bts w0 w0.heap.size v xs) : Bts w w0.heap.size v xs := hv.below h.bel
theorem FD.writeV (h : FD w0 w gD gS gM S L Tr.none_) {f g : Int} {p : Nat} {v : Value} {xs : List Nat} (hp : PageAt f g p) (hv : Bts w0 w0.heap.size v xs) (hl : xs.length = 64) :
    Calls Try.prog 8 #[.pointer (some ⟨gD, 0, none⟩), .int .i64 f, .int .i64 g, v] w fun e w' => e = .returned (.int .i64 0) ∧ FD w0 w' gD gS gM S (upd L p (some xs)) Tr.none_ :=
  (fwrite_yes gD gS gM 192 S L Tr.none_ w _ xs f g p h.d hp (by have := hp.2; have := hp.1; omega) rfl (fun w' ho => ⟨_, ho.bts (h.bts hv) h.low.1 h.bel.size, h.bel.size⟩) hl).mono fun e w' ⟨he, hd, ht⟩ => ⟨he, h.turn hd ht⟩
theorem FD.wslotV (h : FD w0 w gD gS gM S L Tr.none_) {s : Int} {p : Nat} {v : Value} {xs : List Nat} (hp : SlotAt s p) (hv : Bts w0 w0.heap.size v xs) (hl : xs.length = 64) :
    Calls Try.prog 10 #[.pointer (some ⟨gD, 0, none⟩), .int .i64 s, v] w fun e w' => e = .returned (.int .i64 0) ∧ FD w0 w' gD gS gM S (upd L p (some xs)) Tr.none_ ∧ Turns (dk gD gS gM) w w' :=
  (fwslot_yes gD gS gM 192 S L Tr.none_ w _ xs s p h.d hp (by have := hp.2; have := hp.1; omega) rfl (fun w' ho => ⟨_, ho.bts (h.bts hv) h.low.1 h.bel.size, h.bel.size⟩) hl).mono fun e w' ⟨he, hd, ht⟩ => ⟨he, h.turn hd ht, ht⟩
theorem FD.writeNo (h : FD w0 w gD gS gM S L Tr.none_) {f g : Int} {A : Option Addr} {l c : Nat} (hn : ¬ ((0 ≤ f ∧ f < 4 ∧ 0 ≤ g ∧ g < 16) ∧ l = 64)) :
    Calls Try.prog 8 #[.pointer (some ⟨gD, 0, none⟩), .int .i64 f, .int .i64 g, .slice A l c] w fun e w' => e = .returned (.int .i64 1) ∧ FD w0 w' gD gS gM S L Tr.none_ := by
  by_cases hp : 0 ≤ f ∧ f < 4 ∧ 0 ≤ g ∧ g < 16
  · exact (fwrite_size gD gS gM 192 S L Tr.none_ w A l c f g (96 + 16 * f + g).toNat h.d ⟨hp, by omega⟩ (by omega) (fun e => hn ⟨hp, e⟩)).mono fun e w' ⟨he, hb⟩ => ⟨he, h.fresh hb⟩
  · exact (fwrite_out w _ A l c f g (.inr ⟨by unfold NoPage; omega, h.d.isD⟩)).mono fun e w' ⟨he, hb⟩ => ⟨he, h.fresh hb⟩
theorem FD.wslotNo (h : FD w0 w gD gS gM S L Tr.none_) {s : Int} {A : Option Addr} {l c : Nat} (hn : ¬ ((0 ≤ s ∧ s < 32) ∧ l = 64)) :
    Calls Try.prog 10 #[.pointer (some ⟨gD, 0, none⟩), .int .i64 s, .slice A l c] w fun e w' => e = .returned (.int .i64 1) ∧ FD w0 w' gD gS gM S L Tr.none_ ∧ Turns (dk gD gS gM) w w' := by
  by_cases hp : 0 ≤ s ∧ s < 32
  · exact (fwslot_size gD gS gM 192 S L Tr.none_ w A l c s (160 + s).toNat h.d ⟨hp, by omega⟩ (by omega) (fun e => hn ⟨hp, e⟩)).mono fun e w' ⟨he, hb⟩ => ⟨he, h.fresh hb, Turns.of_below hb (Nat.le_refl _)⟩
  · exact (fwslot_out w _ A l c s (.inr ⟨by unfold NoSlot; omega, h.d.isD⟩)).mono fun e w' ⟨he, hb⟩ => ⟨he, h.fresh hb, Turns.of_below hb (Nat.le_refl _)⟩
theorem FD.readV (h : FD w0 w gD gS gM S L Tr.none_) {f g : Int} {p : Nat} (hp : PageAt f g p) :
    Calls Try.prog 9 #[.pointer (some ⟨gD, 0, none⟩), .int .i64 f, .int .i64 g] w fun e w' => ∃ q, e = .returned (.tuple #[.slice (some ⟨q, 0, none⟩) 64 64, .int .i64 0]) ∧ w.heap.size ≤ q ∧ Blk w' q 5 ((last S L p).map bv).toArray ∧ FD w0 w' gD gS gM S L Tr.none_ ∧ Turns (dk gD gS gM) w w' :=
  (fread_yes gD gS gM 192 S L Tr.none_ w f g p h.d hp (by have := hp.2; have := hp.1; omega) rfl).mono fun e w' ⟨q, he, hq, hb, hd, ht⟩ => ⟨q, he, hq, hb, h.turn hd ht, ht⟩
theorem FD.slotV (h : FD w0 w gD gS gM S L Tr.none_) {s : Int} {p : Nat} (hp : SlotAt s p) :
    Calls Try.prog 11 #[.pointer (some ⟨gD, 0, none⟩), .int .i64 s] w fun e w' => ∃ q, e = .returned (.tuple #[.slice (some ⟨q, 0, none⟩) 64 64, .int .i64 0]) ∧ w.heap.size ≤ q ∧ Blk w' q 5 ((last S L p).map bv).toArray ∧ FD w0 w' gD gS gM S L Tr.none_ ∧ Turns (dk gD gS gM) w w' :=
  (fslot_yes gD gS gM 192 S L Tr.none_ w s p h.d hp (by have := hp.2; have := hp.1; omega) rfl).mono fun e w' ⟨q, he, hq, hb, hd, ht⟩ => ⟨q, he, hq, hb, h.turn hd ht, ht⟩
theorem FD.readAny (h : FD w0 w gD gS gM S L Tr.none_) (f g : Int) :
    Calls Try.prog 9 #[.pointer (some ⟨gD, 0, none⟩), .int .i64 f, .int .i64 g] w fun e w' => ∃ (A : Option Addr) (l c : Nat) (er : Int), e = .returned (.tuple #[.slice A l c, .int .i64 er]) ∧ FD w0 w' gD gS gM S L Tr.none_ := by
  by_cases hp : 0 ≤ f ∧ f < 4 ∧ 0 ≤ g ∧ g < 16
  · exact (h.readV (p := (96 + 16 * f + g).toNat) ⟨hp, by omega⟩).mono fun e w' ⟨q, he, _, _, hf, _⟩ => ⟨_, _, _, _, he, hf⟩
  · exact (fread_out w _ f g (.inr ⟨by unfold NoPage; omega, h.d.isD⟩)).mono fun e w' ⟨he, hb⟩ => ⟨_, _, _, _, he, h.fresh hb⟩
theorem FD.slotAny (h : FD w0 w gD gS gM S L Tr.none_) (s : Int) :
    Calls Try.prog 11 #[.pointer (some ⟨gD, 0, none⟩), .int .i64 s] w fun e w' => ∃ (A : Option Addr) (l c : Nat) (er : Int), e = .returned (.tuple #[.slice A l c, .int .i64 er]) ∧ FD w0 w' gD gS gM S L Tr.none_ ∧ Turns (dk gD gS gM) w w' := by
  by_cases hp : 0 ≤ s ∧ s < 32
  · exact (h.slotV (p := (160 + s).toNat) ⟨hp, by omega⟩).mono fun e w' ⟨q, he, _, _, hf, ht⟩ => ⟨_, _, _, _, he, hf, ht⟩
  · exact (fslot_out w _ s (.inr ⟨by unfold NoSlot; omega, h.d.isD⟩)).mono fun e w' ⟨he, hb⟩ => ⟨_, _, _, _, he, h.fresh hb, Turns.of_below hb (Nat.le_refl _)⟩
theorem FD.dread (h : FD w0 w gD gS gM S L Tr.none_) {p : Nat} (hp : p < 192) :
    Calls Try.prog 12 #[.pointer (some ⟨gD, 0, none⟩), .int .i64 (p : Int)] w fun e w' => ∃ q, e = .returned (.tuple #[.slice (some ⟨q, 0, none⟩) 64 64, .int .i64 0]) ∧ w.heap.size ≤ q ∧ Blk w' q 5 ((last S L p).map bv).toArray ∧ FD w0 w' gD gS gM S L Tr.none_ ∧ Turns (dk gD gS gM) w w' :=
  (dread_yes gD gS gM 192 S L Tr.none_ p w h.d hp none_ans).mono fun e w' ⟨he, hb, hd, ht, _⟩ => ⟨_, he, by omega, hb, h.turn hd ht, ht⟩
theorem FD.keep {q : Nat} {cs : Array Value} {e : TypeId} {w' : World} (h : FD w0 w gD gS gM S L Tr.none_) (ht : Turns (dk gD gS gM) w w') (hb : Blk w q e cs) (hq : q ≠ gD ∧ q ≠ gS ∧ q ≠ gM) : Blk w' q e cs := ht.blk hb (by unfold dk; omega)
theorem FD.same {q c : Nat} {A : Option Addr} {xs : List Nat} (hb : Blk w q 5 (xs.map bv).toArray) (h : FD w0 w gD gS gM S L Tr.none_) (hv : Bts w0 w0.heap.size (.slice A 64 c) xs) (hl : xs.length = 64) :
    Calls Try.prog 13 #[.slice (some ⟨q, 0, none⟩) 64 64, .slice A 64 c] w fun e w' => e = .returned (.bool true) ∧ Below w.heap.size w w' :=
  (same_any _ _ xs xs _ _ w (Bts.of_whole hb hl (by simp [maxLen]) (h.bts hv).byte) (h.bts hv)).mono fun e w' ⟨he, hd⟩ => ⟨by rw [he, decide_eq_true rfl], by obtain ⟨n, rfl⟩ := hd; exact below_drewN (Below.refl _ _) n⟩
end
set_option maxRecDepth 20000 in
set_option maxHeartbeats 1000000 in
theorem filePages_edge (f g s : Int) (A : Option Addr) (l c : Nat) (w : World) (h : 200 < l) :
    Calls Try.prog 3 #[.int .i64 f, .int .i64 g, .int .i64 s, .slice A l c] w fun e w' => e = .returned (.bool true) ∧ Below w.heap.size w w' := by
  have t1 : decide ((200 : Int) < (l : Int)) = true := decide_eq_true (by omega)
  go_enter Try.func3, Try.ntmps3
  go_wp2_with fail
  refine (filAnswers_any _).mono ?_
  rintro e w1 ⟨rfl, hb⟩
  go_wp2
  go_ret
  exact ⟨rfl, hb⟩
set_option maxRecDepth 20000 in
set_option maxHeartbeats 6400000 in
theorem filePages_any (f g s : Int) (v : Value) (xs : List Nat) (w : World) (hv : Bts w w.heap.size v xs) (hl : xs.length ≤ 200) :
    Calls Try.prog 3 #[.int .i64 f, .int .i64 g, .int .i64 s, v] w fun e w' => e = .returned (.bool true) ∧ Below w.heap.size w w' := by
  obtain ⟨A, l, c, rfl, hN, -⟩ := id hv
  have HV := Lib.hid hv
  have HN := Lib.hid hN
  have t1 : decide ((200 : Int) < (l : Int)) = false := decide_eq_false (by omega)
  have HL2 : l ≤ 200 := by omega
  clear hv hN hl
  go_enter Try.func3, Try.ntmps3
  go_wp2_with fail
  refine (dnew_any 192 192 w (by unfold NearD; omega)).mono ?_
  rintro e w1 ⟨rfl, hd1, hb1, hz1⟩
  have F1 := Lib.hid (FD.new hd1 hb1)
  clear hd1 hb1 hz1
  go_upto_region 4 with fail
  go_cut [10] from 27 to 45 (fun sx wx => (((0 ≤ f ∧ f < 4 ∧ 0 ≤ g ∧ g < 16) ∧ l = 64) ∧ sx = .bool true ∨ ¬ ((0 ≤ f ∧ f < 4 ∧ 0 ≤ g ∧ g < 16) ∧ l = 64) ∧ sx = .bool false) ∧ wx = w1)
  case first =>
    by_cases h0 : 0 ≤ f
    · have z0 : decide (0 ≤ f) = true := decide_eq_true (by omega)
      by_cases h1 : f < 4
      · have z1 : decide (f < 4) = true := decide_eq_true (by omega)
        by_cases h2 : 0 ≤ g
        · have z2 : decide (0 ≤ g) = true := decide_eq_true (by omega)
          by_cases h3 : g < 16
          · have z3 : decide (g < 16) = true := decide_eq_true (by omega)
            by_cases h4 : l = 64
            · have z4 : ((l : Int) == 64) = true := by simp; omega
              go_wp2_with fail
              go_meet
              exact ⟨.inl ⟨⟨by omega, by omega⟩, rfl⟩, rfl⟩
            · have z4 : ((l : Int) == 64) = false := by simp; omega
              go_wp2_with fail
              go_meet
              exact ⟨.inr ⟨by omega, rfl⟩, rfl⟩
          · have z3 : decide (g < 16) = false := decide_eq_false (by omega)
            go_wp2_with fail
            go_meet
            exact ⟨.inr ⟨by omega, rfl⟩, rfl⟩
        · have z2 : decide (0 ≤ g) = false := decide_eq_false (by omega)
          go_wp2_with fail
          go_meet
          exact ⟨.inr ⟨by omega, rfl⟩, rfl⟩
      · have z1 : decide (f < 4) = false := decide_eq_false (by omega)
        go_wp2_with fail
        go_meet
        exact ⟨.inr ⟨by omega, rfl⟩, rfl⟩
    · have z0 : decide (0 ≤ f) = false := decide_eq_false (by omega)
      go_wp2_with fail
      go_meet
      exact ⟨.inr ⟨by omega, rfl⟩, rfl⟩
  case rest =>
    obtain ⟨hor, rfl⟩ := hcut
    rcases hor with ⟨hT, rfl⟩ | ⟨hT, rfl⟩
    · obtain ⟨hpg, rfl⟩ := hT
      have HL := Lib.hid (show xs.length = 64 from HN.out)
      have HPg := Lib.hid (show PageAt f g (96 + 16 * f + g).toNat from ⟨hpg, by omega⟩)
      have hp0 : (96 + 16 * f + g) = (((96 + 16 * f + g).toNat : Nat) : Int) := by omega
      have hp1 : 96 ≤ (96 + 16 * f + g).toNat ∧ (96 + 16 * f + g).toNat < 160 := by omega
      obtain ⟨p, hp⟩ : ∃ p, p = (96 + 16 * f + g).toNat := ⟨_, rfl⟩
      rw [← hp] at HPg hp0 hp1
      clear hp
      go_wp2_with fail
      refine (F1.out.writeV HPg.out HV.out HL.out).mono ?_
      rintro e w2 ⟨rfl, hf2⟩
      have F2 := Lib.hid hf2
      clear hf2
      go_wp2_with fail
      refine (F2.out.readV HPg.out).mono ?_
      rintro e w3 ⟨gX, rfl, hgX, hbX, hf3, ht3⟩
      have F3 := Lib.hid hf3
      rw [last_upd, upd_same] at hbX
      have BX := Lib.hid hbX
      have hX : gX ≠ w.heap.size + 2 ∧ gX ≠ w.heap.size ∧ gX ≠ w.heap.size + 1 := by have := F2.out.d.lt; omega
      clear hf3 ht3 hbX hgX
      go_upto_region 7 with fail
      go_cut [14] from 58 to 68 (fun sx wx => ((0 ≤ s ∧ s < 32) ∧ sx = .bool true ∨ ¬ (0 ≤ s ∧ s < 32) ∧ sx = .bool false) ∧ wx = w3)
      case first =>
        by_cases h0 : 0 ≤ s
        · have z0 : decide (0 ≤ s) = true := decide_eq_true (by omega)
          by_cases h1 : s < 32
          · have z1 : decide (s < 32) = true := decide_eq_true (by omega)
            go_wp2_with fail
            go_meet
            exact ⟨.inl ⟨⟨by omega, by omega⟩, rfl⟩, rfl⟩
          · have z1 : decide (s < 32) = false := decide_eq_false (by omega)
            go_wp2_with fail
            go_meet
            exact ⟨.inr ⟨by omega, rfl⟩, rfl⟩
        · have z0 : decide (0 ≤ s) = false := decide_eq_false (by omega)
          go_wp2_with fail
          go_meet
          exact ⟨.inr ⟨by omega, rfl⟩, rfl⟩
      case rest =>
        obtain ⟨hor, rfl⟩ := hcut
        rcases hor with ⟨hR, rfl⟩ | ⟨hR, rfl⟩
        · have hs := hR
          have HSl := Lib.hid (show SlotAt s (160 + s).toNat from ⟨hs, by omega⟩)
          have hq0 : (160 + s) = (((160 + s).toNat : Nat) : Int) := by omega
          have hq1 : 160 ≤ (160 + s).toNat ∧ (160 + s).toNat < 192 := by omega
          obtain ⟨q, hq⟩ : ∃ q, q = (160 + s).toNat := ⟨_, rfl⟩
          rw [← hq] at HSl hq0 hq1
          clear hq
          go_wp2_with fail
          refine (F3.out.wslotV HSl.out HV.out HL.out).mono ?_
          rintro e w4 ⟨rfl, hf4, ht4⟩
          have F4 := Lib.hid hf4
          have BX4 := Lib.hid (F3.out.keep ht4 BX.out hX)
          clear hf4 ht4
          go_wp2_with fail
          refine (F4.out.slotV HSl.out).mono ?_
          rintro e w5 ⟨gY, rfl, hgY, hbY, hf5, ht5⟩
          have F5 := Lib.hid hf5
          rw [last_upd, upd_same] at hbY
          have BY5 := Lib.hid hbY
          have hY : gY ≠ w.heap.size + 2 ∧ gY ≠ w.heap.size ∧ gY ≠ w.heap.size + 1 := by have := F4.out.d.lt; omega
          have BX5 := Lib.hid (F4.out.keep ht5 BX4.out hX)
          clear hf5 ht5 hbY hgY
          go_wp2_with fail
          refine (F5.out.dread (p := p) (by omega)).mono ?_
          rintro e w6 ⟨gZ, rfl, hgZ, hbZ, hf6, ht6⟩
          have F6 := Lib.hid hf6
          rw [show last (fun _ => zer) (upd (upd (fun _ => none) p (some xs)) q (some xs)) p = xs from by rw [last_upd, upd_other _ _ _ (by omega), last_upd, upd_same]] at hbZ
          have BZ := Lib.hid hbZ
          have BX6 := Lib.hid (F5.out.keep ht6 BX5.out hX)
          have BY6 := Lib.hid (F5.out.keep ht6 BY5.out hY)
          clear hf6 ht6 hbZ
          go_wp2_with fail
          refine (FD.same BX6.out F6.out HV.out HL.out).mono ?_
          rintro e w7 ⟨rfl, hb7⟩
          have F7 := Lib.hid (F6.out.fresh hb7)
          have BZ7 := Lib.hid (BZ.out.below hb7 BZ.out.lt)
          have BY7 := Lib.hid (BY6.out.below hb7 BY6.out.lt)
          clear hb7
          go_wp2_with fail
          refine (FD.same BZ7.out F7.out HV.out HL.out).mono ?_
          rintro e w8 ⟨rfl, hb8⟩
          have F8 := Lib.hid (F7.out.fresh hb8)
          have BY8 := Lib.hid (BY7.out.below hb8 BY7.out.lt)
          clear hb8
          go_wp2_with fail
          refine (F8.out.dread (p := q) (by omega)).mono ?_
          rintro e w9 ⟨gV, rfl, hgV, hbV, hf9, ht9⟩
          have F9 := Lib.hid hf9
          rw [last_upd, upd_same] at hbV
          have BV := Lib.hid hbV
          have BY9 := Lib.hid (F8.out.keep ht9 BY8.out hY)
          clear hf9 ht9 hbV
          go_wp2_with fail
          refine (FD.same BY9.out F9.out HV.out HL.out).mono ?_
          rintro e wa ⟨rfl, hba⟩
          have FA := Lib.hid (F9.out.fresh hba)
          have BVA := Lib.hid (BV.out.below hba BV.out.lt)
          clear hba
          go_wp2_with fail
          refine (FD.same BVA.out FA.out HV.out HL.out).mono ?_
          rintro e wb ⟨rfl, hbb⟩
          have FB := Lib.hid (FA.out.fresh hbb)
          clear hbb
          go_wp2_with fail
          refine (filAnswers_any _).mono ?_
          rintro e wz ⟨rfl, hbz⟩
          go_wp2
          go_ret
          exact ⟨rfl, (FB.out.fresh hbz).bel⟩
        · go_wp2_with fail
          refine (F3.out.wslotNo (fun e => hR e.1)).mono ?_
          rintro e w4 ⟨rfl, hf4, ht4⟩
          have F4 := Lib.hid hf4
          have BX4 := Lib.hid (F3.out.keep ht4 BX.out hX)
          clear hf4 ht4
          go_wp2_with fail
          refine (F4.out.slotAny s).mono ?_
          rintro e w5 ⟨AY, lY, cY, erY, rfl, hf5, ht5⟩
          have F5 := Lib.hid hf5
          have BX5 := Lib.hid (F4.out.keep ht5 BX4.out hX)
          clear hf5 ht5 hR
          go_wp2_with fail
          refine (F5.out.dread (p := p) (by omega)).mono ?_
          rintro e w6 ⟨gZ, rfl, hgZ, hbZ, hf6, ht6⟩
          have F6 := Lib.hid hf6
          rw [show last (fun _ => zer) (upd (fun _ => none) p (some xs)) p = xs from by rw [last_upd, upd_same]] at hbZ
          have BZ := Lib.hid hbZ
          have BX6 := Lib.hid (F5.out.keep ht6 BX5.out hX)
          clear hf6 ht6 hbZ
          go_wp2_with fail
          refine (FD.same BX6.out F6.out HV.out HL.out).mono ?_
          rintro e w7 ⟨rfl, hb7⟩
          have F7 := Lib.hid (F6.out.fresh hb7)
          have BZ7 := Lib.hid (BZ.out.below hb7 BZ.out.lt)
          clear hb7
          go_wp2_with fail
          refine (FD.same BZ7.out F7.out HV.out HL.out).mono ?_
          rintro e w8 ⟨rfl, hb8⟩
          have F8 := Lib.hid (F7.out.fresh hb8)
          clear hb8
          go_wp2_with fail
          refine (filAnswers_any _).mono ?_
          rintro e wz ⟨rfl, hbz⟩
          go_wp2
          go_ret
          exact ⟨rfl, (F8.out.fresh hbz).bel⟩
    · go_wp2_with fail
      refine (F1.out.writeNo hT).mono ?_
      rintro e w2 ⟨rfl, hf2⟩
      have F2 := Lib.hid hf2
      clear hf2
      go_wp2_with fail
      refine (F2.out.readAny f g).mono ?_
      rintro e w3 ⟨AX, lX, cX, erX, rfl, hf3⟩
      have F3 := Lib.hid hf3
      clear hf3 hT
      go_upto_region 7 with fail
      go_cut [14] from 58 to 68 (fun sx wx => (((0 ≤ s ∧ s < 32) ∧ l = 64) ∧ sx = .bool true ∨ ¬ ((0 ≤ s ∧ s < 32) ∧ l = 64) ∧ sx = .bool false) ∧ wx = w3)
      case first =>
        by_cases h0 : 0 ≤ s
        · have z0 : decide (0 ≤ s) = true := decide_eq_true (by omega)
          by_cases h1 : s < 32
          · have z1 : decide (s < 32) = true := decide_eq_true (by omega)
            by_cases h2 : l = 64
            · have z2 : ((l : Int) == 64) = true := by simp; omega
              go_wp2_with fail
              go_meet
              exact ⟨.inl ⟨⟨by omega, by omega⟩, rfl⟩, rfl⟩
            · have z2 : ((l : Int) == 64) = false := by simp; omega
              go_wp2_with fail
              go_meet
              exact ⟨.inr ⟨by omega, rfl⟩, rfl⟩
          · have z1 : decide (s < 32) = false := decide_eq_false (by omega)
            go_wp2_with fail
            go_meet
            exact ⟨.inr ⟨by omega, rfl⟩, rfl⟩
        · have z0 : decide (0 ≤ s) = false := decide_eq_false (by omega)
          go_wp2_with fail
          go_meet
          exact ⟨.inr ⟨by omega, rfl⟩, rfl⟩
      case rest =>
        obtain ⟨hor, rfl⟩ := hcut
        rcases hor with ⟨hR, rfl⟩ | ⟨hR, rfl⟩
        · obtain ⟨hs, rfl⟩ := hR
          have HL := Lib.hid (show xs.length = 64 from HN.out)
          have HSl := Lib.hid (show SlotAt s (160 + s).toNat from ⟨hs, by omega⟩)
          have hq0 : (160 + s) = (((160 + s).toNat : Nat) : Int) := by omega
          have hq1 : 160 ≤ (160 + s).toNat ∧ (160 + s).toNat < 192 := by omega
          obtain ⟨q, hq⟩ : ∃ q, q = (160 + s).toNat := ⟨_, rfl⟩
          rw [← hq] at HSl hq0 hq1
          clear hq
          go_wp2_with fail
          refine (F3.out.wslotV HSl.out HV.out HL.out).mono ?_
          rintro e w4 ⟨rfl, hf4, ht4⟩
          have F4 := Lib.hid hf4
          clear hf4 ht4
          go_wp2_with fail
          refine (F4.out.slotV HSl.out).mono ?_
          rintro e w5 ⟨gY, rfl, hgY, hbY, hf5, ht5⟩
          have F5 := Lib.hid hf5
          rw [last_upd, upd_same] at hbY
          have BY5 := Lib.hid hbY
          have hY : gY ≠ w.heap.size + 2 ∧ gY ≠ w.heap.size ∧ gY ≠ w.heap.size + 1 := by have := F4.out.d.lt; omega
          clear hf5 ht5 hbY hgY
          go_wp2_with fail
          refine (F5.out.dread (p := q) (by omega)).mono ?_
          rintro e w9 ⟨gV, rfl, hgV, hbV, hf9, ht9⟩
          have F9 := Lib.hid hf9
          rw [last_upd, upd_same] at hbV
          have BV := Lib.hid hbV
          have BY9 := Lib.hid (F5.out.keep ht9 BY5.out hY)
          clear hf9 ht9 hbV
          go_wp2_with fail
          refine (FD.same BY9.out F9.out HV.out HL.out).mono ?_
          rintro e wa ⟨rfl, hba⟩
          have FA := Lib.hid (F9.out.fresh hba)
          have BVA := Lib.hid (BV.out.below hba BV.out.lt)
          clear hba
          go_wp2_with fail
          refine (FD.same BVA.out FA.out HV.out HL.out).mono ?_
          rintro e wb ⟨rfl, hbb⟩
          have FB := Lib.hid (FA.out.fresh hbb)
          clear hbb
          go_wp2_with fail
          refine (filAnswers_any _).mono ?_
          rintro e wz ⟨rfl, hbz⟩
          go_wp2
          go_ret
          exact ⟨rfl, (FB.out.fresh hbz).bel⟩
        · go_wp2_with fail
          refine (F3.out.wslotNo hR).mono ?_
          rintro e w4 ⟨rfl, hf4, ht4⟩
          have F4 := Lib.hid hf4
          clear hf4 ht4
          go_wp2_with fail
          refine (F4.out.slotAny s).mono ?_
          rintro e w5 ⟨AY, lY, cY, erY, rfl, hf5, ht5⟩
          have F5 := Lib.hid hf5
          clear hf5 ht5 hR
          go_wp2_with fail
          refine (filAnswers_any _).mono ?_
          rintro e wz ⟨rfl, hbz⟩
          go_wp2
          go_ret
          exact ⟨rfl, (F5.out.fresh hbz).bel⟩
end Go.Proofs.Ytggidgfmkidkjaa

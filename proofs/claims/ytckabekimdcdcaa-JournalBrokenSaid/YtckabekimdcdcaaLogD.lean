/-
  The contract of log's Replay: the records of that gen, from the first one on, or a Read's error.
  Conditions: the disk is known whole and has the log's sectors.
-/
import Derived.Test.YtckabekimdcdcaaLogC
import Derived.Deep.LoopGhost
import Derived.WalkMore
namespace Go.Proofs.Ytckabekimdcdcaa
open Go.RowKit
set_option linter.unusedVariables false

set_option maxRecDepth 20000 in
set_option maxHeartbeats 400000 in
theorem replay_nil (gen : Int) (w : World) :
    Calls Try.prog 24 #[.pointer none, .int .u32 gen] w fun e w' => e = .returned (.tuple #[.slice none 0 0, .int .i64 1]) ∧ w = w' := by
  go_enter Try.func24, Try.ntmps24
  go_wp2
  go_step3
  go_wp2
  (try rw [Exit.noGoto_ret])
  go_ret2
  exact ⟨rfl, rfl⟩

/-- What holds ahead of round k. -/
def RepAt (w : World) (gD gS gM n : Nat) (S : Nat → List Nat) (L : Nat → Option (List Nat)) (t : Tr) (gen k : Nat) (v : Value) (wx : World) : Prop :=
  (∀ j, j < k → IsRec (last S L j) gen j ∧ (tn t j).ans = 0) ∧ Dsk wx gD gS gM n S L (tn t k) ∧ Lst wx (dk gD gS gM) 0 w.heap.size 27 v (pays (last S L) k) ∧ Turns (dk gD gS gM) w wx
/-- What Replay leaves. -/
def RepPost (w : World) (gD gS gM n : Nat) (S : Nat → List Nat) (L : Nat → Option (List Nat)) (t : Tr) (gen : Nat) (e : Ending) (w' : World) : Prop :=
  ∃ m, (∀ j, j < m → IsRec (last S L j) gen j ∧ (tn t j).ans = 0) ∧ Turns (dk gD gS gM) w w' ∧
    ((m = 64 ∧ Dsk w' gD gS gM n S L (tn t m) ∧ ∃ v, e = .returned (.tuple #[v, .int .i64 0]) ∧ Lst w' (dk gD gS gM) 0 w.heap.size 27 v (pays (last S L) m)) ∨
     (m < 64 ∧ (tn t m).ans = 0 ∧ ¬ IsRec (last S L m) gen m ∧ Dsk w' gD gS gM n S L (tn t (m + 1)) ∧ ∃ v, e = .returned (.tuple #[v, .int .i64 0]) ∧ Lst w' (dk gD gS gM) 0 w.heap.size 27 v (pays (last S L) m)) ∨
     (m < 64 ∧ (tn t m).ans ≠ 0 ∧ Dsk w' gD gS gM n S L (tn t (m + 1)) ∧ e = .returned (.tuple #[.slice none 0 0, .int .i64 ((tn t m).ans : Int)])))

/-- The bytes of a record, in the sector's block. -/
theorem pay_el {w : World} {g x lo : Nat} {M : Nat → Prop} {e : TypeId} {s : List Nat} (h : Blk w g 5 (s.map bv).toArray) (hl : s.length = 64) (hb : ∀ y ∈ s, y < 256) (hM : ¬ M g) (he : 5 ≠ e) (hx : x ≤ 50) :
    El w M lo e (.slice (some ⟨g, 9, none⟩) x x) (win s 9 x) := by
  refine El.of_blk h hM he (win_length _ _ _ (by omega)) (Nat.le_refl _) (by unfold maxLen; omega) (fun j hj => ?_) (fun j hj => ?_)
  · rw [win_getD _ _ _ _ hj]
    exact byte_at hb _
  · rw [win_getD _ _ _ _ hj]
    exact cellsL_at s _ (by omega)
/-- A record's bytes, as the sector's slice has them. -/
abbrev payV (g x : Nat) : Value := .slice (if x = 0 then some ⟨g, 0, none⟩ else some ⟨g, 9, none⟩) x x
theorem payV_el {w : World} {g x lo : Nat} {M : Nat → Prop} {e : TypeId} {s : List Nat} (h : Blk w g 5 (s.map bv).toArray) (hl : s.length = 64) (hb : ∀ y ∈ s, y < 256) (hM : ¬ M g) (he : 5 ≠ e) (hx : x ≤ 50) :
    El w M lo e (payV g x) (win s 9 x) := by
  unfold payV
  by_cases h0 : x = 0
  · subst h0
    rw [if_pos rfl]
    exact ⟨_, 0, 0, rfl, win_length _ _ _ (by omega), Nat.le_refl _, fun _ => rfl, by simp [maxLen], fun j hj => absurd hj (by omega), fun h => absurd h (by omega)⟩
  · rw [if_neg h0]
    exact pay_el h hl hb hM he hx
theorem not_rec_nam {s : List Nat} {gen k : Nat} (hl : s.length = 64) (hb : ∀ y ∈ s, y < 256) (hg : gen < 4294967296) (hk : k < 64) (h : nam s gen k = false) : ¬ IsRec s gen k := by
  intro hr
  have h1 := ((isRec_iff hl hb hg (by omega)).1 hr).1
  unfold nam at h
  exact absurd h1 (of_decide_eq_false h)
theorem not_rec_long {s : List Nat} {gen k : Nat} (h : 50 < s.getD 8 0) : ¬ IsRec s gen k := fun hr => by have := hr.1; omega
theorem not_rec_behind {s : List Nat} {gen k j : Nat} (hl : s.length = 64) (hb : ∀ y ∈ s, y < 256) (hg : gen < 4294967296) (hk : k < 64) (h1 : 9 + s.getD 8 0 ≤ j) (h2 : j < 60) (h : s.getD j 0 ≠ 0) : ¬ IsRec s gen k :=
  fun hr => h (((isRec_iff hl hb hg (by omega)).1 hr).2.2 j h1 h2)
theorem rec_all {s : List Nat} {gen k : Nat} (hl : s.length = 64) (hb : ∀ y ∈ s, y < 256) (hg : gen < 4294967296) (hk : k < 64) (h : nam s gen k = true) (h1 : s.getD 8 0 ≤ 50) (h2 : ∀ j, 9 + s.getD 8 0 ≤ j → j < 60 → s.getD j 0 = 0) : IsRec s gen k := by
  unfold nam at h
  exact (isRec_iff hl hb hg (by omega)).2 ⟨of_decide_eq_true h, h1, h2⟩

set_option maxRecDepth 20000 in
set_option maxHeartbeats 3200000 in
theorem replay_any (gD gS gM n : Nat) (S : Nat → List Nat) (L : Nat → Option (List Nat)) (t : Tr) (gen : Nat) (w : World) (h : Dsk w gD gS gM n S L t) (hn : 64 ≤ n) (hg : gen < 4294967296) :
    Calls Try.prog 24 #[.pointer (some ⟨gD, 0, none⟩), .int .u32 (gen : Int)] w (RepPost w gD gS gM n S L t gen) := by
  have HD := Lib.hid h
  have HN := Lib.hid hn
  have HG := Lib.hid hg
  clear h hn hg
  go_enter Try.func24, Try.ntmps24
  go_wp2_with fail
  go_step3
  go_wp2_with fail
  go_step3
  go_wp2_with fail
  go_loopg [6, 15] 64 (fun g s6 s15 wx => ∃ k : Nat, k + g = 64 ∧ s15 = .int .i64 k ∧ RepAt w gD gS gM n S L t gen k s6 wx)
  case atStart => exact ⟨0, rfl, rfl, fun j hj => absurd hj (by omega), HD.out, Lst.nil_ _ _ _ _ _, Turns.refl _ _⟩
  case round =>
    obtain ⟨k, hkg, rfl, hr⟩ := hrel
    have HR := Lib.hid hr
    clear hr
    by_cases hk : k < 64
    · have t1 : decide ((k : Int) < 64) = true := decide_eq_true (by omega)
      have t2 : IntKind.i64.wrap (k : Int) = (k : Int) := by rw [IntKind.wrap_i64]; omega
      by_cases c1 : (tn t k).ans = 0
      · go_wp2_with fail
        refine (dread_yes _ _ _ _ _ _ _ k _ HR.out.2.1 (by have := HN.out; omega) c1).mono ?_
        rintro e w2 ⟨rfl, hb2, hd2, ht2, hs2⟩
        have hlen := hd2.last_ (show k < n by have := HN.out; omega)
        obtain ⟨s, hs⟩ : ∃ s, s = last S L k := ⟨_, rfl⟩
        have HSE := Lib.hid hs
        rw [← hs] at hb2 hlen
        obtain ⟨hl, hb⟩ := hlen
        have HLE := Lib.hid hl
        have HBY := Lib.hid hb
        have BK2 := Lib.hid hb2
        have HD2 := Lib.hid hd2
        have HT2 := Lib.hid (HR.out.2.2.2.trans ht2)
        have HL2 := Lib.hid (HR.out.2.2.1.turns (by rintro q (e | e | e) <;> (have := HD.out.lt; omega)) ht2)
        clear hs hb2 hd2 ht2 hs2 hl hb
        go_wp2_with fail
        refine (named_any (wr.heap.size + 1) s gen k w2 BK2.out HLE.out HBY.out (by omega)).mono ?_
        rintro e w3 ⟨rfl, hk3⟩
        have BK3 := Lib.hid (BK2.out.below hk3 BK2.out.lt)
        have HD3 := Lib.hid (HD2.out.fresh hk3)
        have T23 := Lib.hid (show Turns (dk gD gS gM) w2 w3 from Turns.of_below hk3 (Nat.le_refl _))
        have HT3 := Lib.hid (HT2.out.trans T23.out)
        have HL3 := Lib.hid (HL2.out.turns (by rintro q (e | e | e) <;> (have := HD.out.lt; omega)) T23.out)
        clear hk3
        cases c2 : nam s gen k with
        | false =>
          go_wp2
          (try rw [Exit.noGoto_ret])
          go_ret2
          exact ⟨k, HR.out.1, HT3.out, .inr (.inl ⟨hk, c1, by rw [← HSE.out]; exact not_rec_nam HLE.out HBY.out HG.out hk c2, HD3.out, _, rfl, HL3.out⟩)⟩
        | true =>
          obtain ⟨x, hx⟩ : ∃ x, x = s.getD 8 0 := ⟨_, rfl⟩
          have hc8 : w3.cell? ⟨wr.heap.size + 1, 8, none⟩ = some (.int .u8 (x : Int)) := by
            rw [BK3.out.cell, hx]
            exact cellsL_at s 8 (by rw [HLE.out]; omega)
          have HX := Lib.hid hx
          clear hx
          by_cases c3 : 50 < x
          · have t4 : decide ((50 : Int) < (x : Int)) = true := decide_eq_true (by omega)
            go_wp2
            (try rw [Exit.noGoto_ret])
            go_ret2
            exact ⟨k, HR.out.1, HT3.out, .inr (.inl ⟨hk, c1, by rw [← HSE.out]; exact not_rec_long (by rw [← HX.out]; exact c3), HD3.out, _, rfl, HL3.out⟩)⟩
          · have t4 : decide ((50 : Int) < (x : Int)) = false := decide_eq_false (by omega)
            have t7 : (x : Int) ≤ 50 := by omega
            have t8 : (0 : Int) ≤ (x : Int) := by omega
            obtain ⟨G, rfl⟩ : ∃ G, G = gk := ⟨_, rfl⟩
            obtain ⟨W0, rfl⟩ : ∃ W0, W0 = wr := ⟨_, rfl⟩
            go_wp2_with fail
            go_loopg [48] (60 - (9 + x)) (fun g s48 wx => ∃ j : Nat, j + g = 60 - (9 + x) ∧ s48 = .int .i64 j ∧ (∀ i, i < j → s.getD (9 + x + i) 0 = 0) ∧ wx = w3)
            case atStart => exact ⟨0, by omega, rfl, fun i hi => absurd hi (by omega), rfl⟩
            case round =>
              obtain ⟨j, hjg, rfl, hz, rfl⟩ := hrel
              have HZ := Lib.hid hz
              clear hz
              by_cases hj : j < 60 - (9 + x)
              · obtain ⟨z, hz⟩ : ∃ z, z = s.getD (9 + x + j) 0 := ⟨_, rfl⟩
                have hcz : wr.cell? ⟨W0.heap.size + 1, 9 + x + j, none⟩ = some (.int .u8 (z : Int)) := by
                  rw [BK3.out.cell, hz]
                  exact cellsL_at s _ (by rw [HLE.out]; omega)
                have HZZ := Lib.hid hz
                have t10 : decide ((j : Int) < ((60 - (9 + x) : Nat) : Int)) = true := decide_eq_true (by omega)
                clear hz
                by_cases c4 : z = 0
                · have t9 : (((z : Nat) : Int) != 0) = false := by simp [c4]
                  go_wp2_with fail
                  go_roundg (60 - (9 + x) - (j + 1))
                  case measure => omega
                  case rel =>
                    refine ⟨j + 1, by omega, by go_num, fun i hi => ?_, rfl⟩
                    by_cases e : i = j
                    · subst e
                      rw [← HZZ.out]
                      exact c4
                    · exact HZ.out i (by omega)
                · have t9 : (((z : Nat) : Int) != 0) = true := by simp [c4]
                  go_wp2
                  (try rw [Exit.noGoto_ret])
                  go_ret2
                  exact ⟨k, HR.out.1, HT3.out, .inr (.inl ⟨hk, c1, by rw [← HSE.out]; exact not_rec_behind HLE.out HBY.out HG.out hk (j := 9 + x + j) (by rw [← HX.out]; omega) (by omega) (by rw [← HZZ.out]; exact c4), HD3.out, _, rfl, HL3.out⟩)⟩
              · obtain rfl : j = 60 - (9 + x) := by omega
                have hrec : IsRec (last S L k) gen k := by
                  rw [← HSE.out]
                  refine rec_all HLE.out HBY.out HG.out hk c2 (by rw [← HX.out]; omega) (fun i h1 h2 => ?_)
                  rw [← HX.out] at h1
                  have := HZ.out (i - (9 + x)) (by omega)
                  rw [show 9 + x + (i - (9 + x)) = i by omega] at this
                  exact this
                have HRE := Lib.hid hrec
                clear hrec
                have t10 : decide (((60 - (9 + x) : Nat) : Int) < ((60 - (9 + x) : Nat) : Int)) = false := decide_eq_false (by omega)
                obtain ⟨i0, hi, hz0, hz1, hz2⟩ := info_parts Try.infoB
                have HI := Lib.hid hi
                have HZ0 := Lib.hid hz0
                have HZ1 := Lib.hid hz1
                have HZ2 := Lib.hid hz2
                clear hi hz0 hz1 hz2
                have A4 := Lib.hid (show Below wr.heap.size wr (wr.alloc (.cells #[payV (W0.heap.size + 1) x] 27)) from (Below.refl _ _).alloc (Nat.le_refl _) _)
                have HL4 := Lib.hid (HL3.out.alloc (by rintro q (e | e | e) <;> (have := HD.out.lt; omega)) (.cells #[payV (W0.heap.size + 1) x] 27))
                have BK4 := Lib.hid (BK3.out.below A4.out BK3.out.lt)
                have HB4 := Lib.hid (show w.heap.size ≤ (wr.alloc (.cells #[payV (W0.heap.size + 1) x] 27)).heap.size from Nat.le_trans HT3.out.size A4.out.size)
                have HE4 := Lib.hid (show ∀ j, j < 1 → ∃ u, ([payV (W0.heap.size + 1) x])[j]? = some u ∧ El (wr.alloc (.cells #[payV (W0.heap.size + 1) x] 27)) (dk gD gS gM) 0 27 u (([pay (last S L) k]).getD j []) from by
                  intro j hj
                  obtain rfl : j = 0 := by omega
                  refine ⟨_, rfl, ?_⟩
                  have h := payV_el (lo := 0) (M := dk gD gS gM) (e := 27) BK4.out HLE.out HBY.out (by rintro (e | e | e) <;> (have := HD.out.lt; have := HR.out.2.2.2.size; omega)) (by decide) (show x ≤ 50 by omega)
                  rw [show win s 9 x = pay (last S L) k by unfold pay; rw [← HSE.out, HX.out]] at h
                  exact h)
                have HC4 := Lib.hid (one_cell (w := wr.alloc (.cells #[payV (W0.heap.size + 1) x] 27)) (g := wr.heap.size) (v := payV (W0.heap.size + 1) x) (by simp))
                have HFW := Lib.hid (show (pays (last S L) k).length + 1 ≤ 1000000 by rw [pays_length]; omega)
                go_wp2_with (at_builtin; refine wpList_append_lst rfl (.tmp 55) (.tmp 60) 28 rfl (dk gD gS gM) 0 w.heap.size 27 i0 Try.underlying28 HI.out HZ0.out HZ1.out HZ2.out u6 (pays (last S L) k) rfl HL4.out ⟨wr.heap.size, 0, none⟩ 1 1 [payV (W0.heap.size + 1) x] [pay (last S L) k] rfl rfl rfl HC4.out HE4.out HFW.out HB4.out (Nat.zero_le _) ?_; intro v5 w5 HL5 HK5)
                all_goals
                  have HT5 := Lib.hid ((HT3.out.trans (show Turns (dk gD gS gM) wr (wr.alloc (.cells #[payV (W0.heap.size + 1) x] 27)) from Turns.of_below A4.out (Nat.le_refl _))).below_ HK5.out)
                  have HD5 := Lib.hid ((HD3.out.alloc (.cells #[payV (W0.heap.size + 1) x] 27)).below HK5.out HD.out.lt.1 HD.out.lt.2.1 HD.out.lt.2.2)
                  go_roundg (G - 1)
                  case measure => omega
                  case rel =>
                    refine ⟨k + 1, by omega, by go_num, fun j hj => ?_, HD5.out, ?_, HT5.out⟩
                    · by_cases e : j = k
                      · subst e
                        exact ⟨HRE.out, c1⟩
                      · exact HR.out.1 j (by omega)
                    · rw [pays_succ]
                      exact HL5.out
      · go_wp2_with fail
        refine (dread_bad _ _ _ _ _ _ _ k _ HR.out.2.1 (by have := HN.out; omega) c1).mono ?_
        rintro e w2 ⟨rfl, hd2, ht2, _⟩
        have t3 : ((((tn t k).ans : Nat) : Int) != 0) = true := by rw [bne_iff_ne]; omega
        have HD2 := Lib.hid hd2
        have HT2 := Lib.hid (HR.out.2.2.2.trans ht2)
        clear hd2 ht2
        go_wp2
        (try rw [Exit.noGoto_ret])
        go_ret2
        exact ⟨k, HR.out.1, HT2.out, .inr (.inr ⟨hk, c1, HD2.out, rfl⟩)⟩
    · obtain rfl : k = 64 := by omega
      go_wp2
      (try rw [Exit.noGoto_ret])
      go_ret2
      exact ⟨64, HR.out.1, HR.out.2.2.2, .inl ⟨rfl, HR.out.2.1, _, rfl, HR.out.2.2.1⟩⟩
end Go.Proofs.Ytckabekimdcdcaa

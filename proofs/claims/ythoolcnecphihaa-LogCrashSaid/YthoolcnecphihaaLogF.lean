/-
  The contracts of log's Append and Replay at a disk without trouble and with nothing loose, and of layer 4's own question 'answers'.
  Conditions: the disk is known whole and has the log's sectors.
-/
import Derived.Test.YthoolcnecphihaaLogE
import Derived.WalkLawsBesides
import Derived.Lib.SlBytesConst
import Derived.Lib.SmallJoins
import Derived.Outline
namespace Go.Proofs.Ythoolcnecphihaa
open Go.RowKit
set_option linter.unusedVariables false

theorem append_ok (gD gS gM n : Nat) (S : Nat → List Nat) (gen at_ : Nat) (v : Value) (b : List Nat) (B : Nat) (w : World) (h : Dsk w gD gS gM n S (fun _ => none) Tr.none_) (hn : 64 ≤ n) (hx : Bts w B v b) (hB : B ≤ w.heap.size)
    (hl : b.length ≤ 50) (hg : gen < 4294967296) (ha : at_ < 64) :
    Calls Try.prog 15 #[.pointer (some ⟨gD, 0, none⟩), .int .u32 (gen : Int), .int .i64 (at_ : Int), v] w (AppPost w gD gS gM n (upd S at_ (secL gen at_ b)) (fun _ => none) Tr.none_ 0) := by
  refine (append_any gD gS gM n S _ Tr.none_ gen at_ v b B w h hn hx hB hl hg ha).mono ?_
  rintro e w' (⟨h1, _⟩ | ⟨_, h1, _⟩ | ⟨_, _, h1⟩)
  · exact absurd none_ans h1
  · exact absurd none_ans h1
  · exact h1
/-- What Replay leaves at a disk without trouble. -/
def RepOk (w : World) (gD gS gM n : Nat) (S : Nat → List Nat) (L : Nat → Option (List Nat)) (gen : Nat) (e : Ending) (w' : World) : Prop :=
  ∃ m v, Stop (last S L) gen m ∧ e = .returned (.tuple #[v, .int .i64 0]) ∧ Lst w' (dk gD gS gM) 0 w.heap.size 29 v (pays (last S L) m) ∧ Dsk w' gD gS gM n S L Tr.none_ ∧ Turns (dk gD gS gM) w w'
theorem replay_ok (gD gS gM n : Nat) (S : Nat → List Nat) (L : Nat → Option (List Nat)) (gen : Nat) (w : World) (h : Dsk w gD gS gM n S L Tr.none_) (hn : 64 ≤ n) (hg : gen < 4294967296) :
    Calls Try.prog 11 #[.pointer (some ⟨gD, 0, none⟩), .int .u32 (gen : Int)] w (RepOk w gD gS gM n S L gen) := by
  refine (replay_any gD gS gM n S L Tr.none_ gen w h hn hg).mono ?_
  rintro e w' ⟨m, h1, h2, h3⟩
  rw [tn_none, tn_none] at h3
  rcases h3 with ⟨rfl, h4, v, h5, h6⟩ | ⟨h3, _, h7, h4, v, h5, h6⟩ | ⟨_, h3, _⟩
  · exact ⟨64, v, ⟨Nat.le_refl _, fun j hj => (h1 j hj).1, fun h => absurd h (by omega)⟩, h5, h6, h4, h2⟩
  · exact ⟨m, v, ⟨by omega, fun j hj => (h1 j hj).1, fun _ => h7⟩, h5, h6, h4, h2⟩
  · exact absurd none_ans h3
/-- Just k sectors are records, and behind them there is one of zeros. -/
theorem stop_of {F : Nat → List Nat} {gen k : Nat} {f : Nat → List Nat} (hk : k < 64) (h : ∀ j, j < k → F j = secL gen j (f j) ∧ (f j).length ≤ 50) (hz : ¬ IsRec (F k) gen k) : Stop F gen k :=
  ⟨by omega, fun j hj => by rw [(h j hj).1]; exact secL_rec (h j hj).2, fun _ => hz⟩
theorem pay_sec {F : Nat → List Nat} {gen j : Nat} {b : List Nat} (h : F j = secL gen j b) (hb : b.length ≤ 50) : pay F j = b := by
  unfold pay
  rw [h, secL_at8 hb, secL_pay]
/-- A disk's blocks are new: nothing that was there turns. -/
theorem Turns.fresh_ {B gD gS gM : Nat} {w0 w w' : World} (h : Turns (dk gD gS gM) w w') (hb : Below B w0 w) (hB : B ≤ w0.heap.size) (h1 : B ≤ gD) (h2 : B ≤ gS) (h3 : B ≤ gM) : Below B w0 w' :=
  hb.trans (h.below (by rintro k (e | e | e) <;> omega) (Nat.le_trans hB hb.size))

set_option maxRecDepth 20000 in
set_option maxHeartbeats 1000000 in
theorem logAnswers_any (w : World) :
    Calls Try.prog 8 #[] w fun e w' => e = .returned (.bool true) ∧ Below w.heap.size w w' := by
  go_enter Try.func8, Try.ntmps8
  go_wp2_with fail
  refine (dnew_any 192 192 w (by unfold NearD; omega)).mono ?_
  rintro e w1 ⟨rfl, hd1, hb1, hz1⟩
  have HD1 := Lib.hid (hd1.alloc (.cells #[.int .u8 120] 5 (1, 2)))
  have HN1 := Lib.hid (hb1.alloc hb1.size (.cells #[.int .u8 120] 5 (1, 2)))
  have hx : Bts (w1.alloc (.cells #[.int .u8 120] 5 (1, 2))) (w1.heap.size + 1) (.slice (some ⟨w1.heap.size, 0, none⟩) 1 1) [120] :=
    ⟨_, 1, 1, rfl, rfl, by simp [maxLen], ⟨by omega, fun h => by cases h⟩, by simp [maxLen], (fun j hj => by match j, hj with | 0, _ => decide), fun _ => ⟨w1.heap.size, 0, rfl, by omega, fun j hj => by
      match j, hj with
      | 0, _ => exact World.cell?_alloc_mark w1 _ _ _ 0⟩⟩
  have hcv := Lib.run_convert_bytes_const (P := Try.prog) w1 29 5 #[.int .u8 120] 1 1 Try.underlying29 Try.underlying5
  have HX1 := Lib.hid hx
  clear hx
  clear hd1 hb1 hz1
  go_wp2_with fail
  refine (append_ok _ _ _ _ _ 3 0 _ [120] _ _ HD1.out (by omega) HX1.out (by simp) (by simp) (by omega) (by omega)).mono ?_
  rintro e w2 ⟨rfl, hd2, ht2⟩
  have HD2 := Lib.hid hd2
  have HN2 := Lib.hid (ht2.fresh_ HN1.out (Nat.le_refl _) (by omega) (Nat.le_refl _) (by omega))
  clear hd2 ht2
  go_wp2_with fail
  refine (replay_ok _ _ _ _ _ _ 3 _ HD2.out (by omega) (by omega)).mono ?_
  rintro e w3 ⟨m, v, hs, rfl, hl, hd3, ht3⟩
  obtain rfl : m = 1 := hs.uniq (stop_of (F := upd (fun _ => zer) 0 (secL 3 0 [120])) (k := 1) (f := fun _ => [120]) (by omega) (fun j hj => by obtain rfl : j = 0 := (by omega); exact ⟨upd_same _ _ _, by simp⟩) (by rw [upd_other _ _ _ (by omega)]; exact zer_none _ _)) (fun j _ => rfl)
  have HN3 := Lib.hid (ht3.fresh_ HN2.out (Nat.le_refl _) (by omega) (Nat.le_refl _) (by omega))
  obtain ⟨g, cap, u, hv, hcell, hel⟩ := hl.el (j := 0) (by rw [pays_length]; omega)
  rw [pays_length] at hv
  subst hv
  rw [pays_getD _ _ _ (by omega), show pay (last (upd (fun _ => zer) 0 (secL 3 0 [120])) (fun _ => none)) 0 = [120] from pay_sec (F := upd (fun _ => zer) 0 (secL 3 0 [120])) (upd_same _ _ _) (by simp)] at hel
  obtain ⟨A, n, c, rfl, hn, hnc, _, hcm, _, hx⟩ := hel
  obtain rfl : n = 1 := by simpa using hn.symm
  obtain ⟨b, off, rfl, _, _, _, hc⟩ := hx (by omega)
  have hc0 : w3.cell? ⟨b, off, none⟩ = some (.int .u8 120) := hc 0 (by omega)
  have hst : (convert 29 9 (.slice (some ⟨b, off, none⟩) 1 c)).run Try.prog w3 = .ok (.string ⟨#[120]⟩) w3 :=
    run_convert_bytes_back w3 29 9 5 ⟨b, off, none⟩ c [120] Try.underlying29 Try.underlying5 Try.underlying9 (fun j hj => by
      match j, hj with
      | 0, _ => simp [Addr.add, hc0])
  clear hs hl hd3 ht3 hx hc hn hcv
  go_wp2
  go_ret
  exact ⟨rfl, HN3.out⟩
end Go.Proofs.Ythoolcnecphihaa

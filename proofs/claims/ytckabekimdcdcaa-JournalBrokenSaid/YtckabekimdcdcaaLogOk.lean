/-
  The contracts of log's Append and Replay at a disk without trouble and with nothing loose.
  Conditions: the disk is known whole and has the log's sectors.
-/
import Derived.Test.YtckabekimdcdcaaLogD
namespace Go.Proofs.Ytckabekimdcdcaa
open Go.RowKit
set_option linter.unusedVariables false

theorem append_ok (gD gS gM n : Nat) (S : Nat → List Nat) (gen at_ : Nat) (v : Value) (b : List Nat) (B : Nat) (w : World) (h : Dsk w gD gS gM n S (fun _ => none) Tr.none_) (hn : 64 ≤ n) (hx : Bts w B v b) (hB : B ≤ w.heap.size)
    (hl : b.length ≤ 50) (hg : gen < 4294967296) (ha : at_ < 64) :
    Calls Try.prog 26 #[.pointer (some ⟨gD, 0, none⟩), .int .u32 (gen : Int), .int .i64 (at_ : Int), v] w (AppPost w gD gS gM n (upd S at_ (secL gen at_ b)) (fun _ => none) Tr.none_ 0) := by
  refine (append_any gD gS gM n S _ Tr.none_ gen at_ v b B w h hn hx hB hl hg ha).mono ?_
  rintro e w' (⟨h1, _⟩ | ⟨_, h1, _⟩ | ⟨_, _, h1⟩)
  · exact absurd none_ans h1
  · exact absurd none_ans h1
  · exact h1
/-- What Replay leaves at a disk without trouble. -/
def RepOk (w : World) (gD gS gM n : Nat) (S : Nat → List Nat) (L : Nat → Option (List Nat)) (gen : Nat) (e : Ending) (w' : World) : Prop :=
  ∃ m v, Stop (last S L) gen m ∧ e = .returned (.tuple #[v, .int .i64 0]) ∧ Lst w' (dk gD gS gM) 0 w.heap.size 27 v (pays (last S L) m) ∧ Dsk w' gD gS gM n S L Tr.none_ ∧ Turns (dk gD gS gM) w w'
theorem replay_ok (gD gS gM n : Nat) (S : Nat → List Nat) (L : Nat → Option (List Nat)) (gen : Nat) (w : World) (h : Dsk w gD gS gM n S L Tr.none_) (hn : 64 ≤ n) (hg : gen < 4294967296) :
    Calls Try.prog 24 #[.pointer (some ⟨gD, 0, none⟩), .int .u32 (gen : Int)] w (RepOk w gD gS gM n S L gen) := by
  refine (replay_any gD gS gM n S L Tr.none_ gen w h hn hg).mono ?_
  rintro e w' ⟨m, h1, h2, h3⟩
  rw [tn_none, tn_none] at h3
  rcases h3 with ⟨rfl, h4, v, h5, h6⟩ | ⟨h3, _, h7, h4, v, h5, h6⟩ | ⟨_, h3, _⟩
  · exact ⟨64, v, ⟨Nat.le_refl _, fun j hj => (h1 j hj).1, fun h => absurd h (by omega)⟩, h5, h6, h4, h2⟩
  · exact ⟨m, v, ⟨by omega, fun j hj => (h1 j hj).1, fun _ => h7⟩, h5, h6, h4, h2⟩
  · exact absurd none_ans h3
/-- Just k sectors are records, and behind them there is one of zeros. -/
theorem stop_of {F : Nat → List Nat} {gen k : Nat} {f : Nat → List Nat} (hk : k < 64) (h : ∀ j, j < k → F j = secL gen j (f j) ∧ (f j).length ≤ 50) (hz : ¬ IsRec (F k) gen k) : Stop F gen k :=
  ⟨by omega, fun j hj => by rw [(h j hj).1]; exact secL_rec (h j hj).2, fun _ => hz⟩
theorem pay_sec {F : Nat → List Nat} {gen j : Nat} {b : List Nat} (h : F j = secL gen j b) (hb : b.length ≤ 50) : pay F j = b := by
  unfold pay
  rw [h, secL_at8 hb, secL_pay]
end Go.Proofs.Ytckabekimdcdcaa

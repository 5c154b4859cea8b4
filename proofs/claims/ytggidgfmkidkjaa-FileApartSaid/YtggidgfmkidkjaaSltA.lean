/-
  The contracts of slot's own calls up to Load.
  Conditions: those that each line bears.
-/
import Derived.Test.YtggidgfmkidkjaaBas
import Derived.Test.YtggidgfmkidkjaaWrd
import Derived.Test.YtggidgfmkidkjaaDsk
import Derived.Deep.LoopGhost
import Derived.Laws.MakeOwn
import Derived.Deep.RegionHeld3
import Derived.Deep.RegionWith
import Derived.BigQuiet

/-! ## SloB: A slot's bytes read off the disk one sector behind the other, and a head as the program asks for it: its rest, and its sum. Nothing of the program is named here.   Conditions: none beside those that each line bears. -/
namespace Go.Proofs.Ytggidgfmkidkjaa
open Go.RowKit
set_option linter.unusedVariables false

/-- k sectors from a on, one behind the other. -/
def flatN (F : Nat → List Nat) (a k : Nat) : List Nat := ((List.range k).map (fun j => F (a + j))).flatten
theorem flatN_zero (F : Nat → List Nat) (a : Nat) : flatN F a 0 = [] := rfl
theorem flatN_succ (F : Nat → List Nat) (a k : Nat) : flatN F a (k + 1) = flatN F a k ++ F (a + k) := by
  unfold flatN
  rw [List.range_succ, List.map_append, List.flatten_append]
  simp
theorem flatN_length {F : Nat → List Nat} {a k : Nat} (h : ∀ j, j < k → (F (a + j)).length = 64) : (flatN F a k).length = 64 * k := by
  induction k with
  | zero => rfl
  | succ k ih =>
    rw [flatN_succ, List.length_append, ih (fun j hj => h j (by omega)), h k (by omega)]
    omega
theorem flatN_byte {F : Nat → List Nat} {a k : Nat} (h : ∀ j, j < k → ∀ y ∈ F (a + j), y < 256) : ∀ y ∈ flatN F a k, y < 256 := by
  induction k with
  | zero => intro y hy; cases hy
  | succ k ih =>
    intro y hy
    rw [flatN_succ] at hy
    rcases List.mem_append.1 hy with hy | hy
    · exact ih (fun j hj => h j (by omega)) y hy
    · exact h k (by omega) y hy
theorem sloA_flat (F : Nat → List Nat) (w : Nat) : sloA F w = flatN F (65 + 16 * w) 15 := rfl
/-- The next sector's bytes. -/
theorem con_step {F : Nat → List Nat} {a k m : Nat} (h : ∀ j, j < k → (F (a + j)).length = 64) (hm : 64 * k < m) : (flatN F a (k + 1)).take m = (flatN F a k).take m ++ (F (a + k)).take (m - 64 * k) := by
  rw [flatN_succ, List.take_append, flatN_length h]
theorem con_less {F : Nat → List Nat} {a m : Nat} : ∀ d k, (∀ j, j < k → (F (a + j)).length = 64) → m ≤ 64 * k → (flatN F a (k + d)).take m = (flatN F a k).take m := by
  intro d
  induction d with
  | zero => intro k _ _; rfl
  | succ d ih =>
    intro k hk hm
    rw [← Nat.add_assoc, flatN_succ, List.take_append_of_le_length, ih k hk hm]
    have h2 : ∀ d, 64 * k ≤ (flatN F a (k + d)).length := by
      intro d
      induction d with
      | zero => rw [Nat.add_zero, flatN_length hk]; exact Nat.le_refl _
      | succ d ih => rw [← Nat.add_assoc, flatN_succ, List.length_append]; omega
    have := h2 d
    omega
/-- All that was asked for has been read. -/
theorem con_end {F : Nat → List Nat} {a k n m : Nat} (h : ∀ j, j < k → (F (a + j)).length = 64) (hm : m ≤ 64 * k) (hk : k ≤ n) : (flatN F a n).take m = (flatN F a k).take m := by
  obtain ⟨d, rfl⟩ : ∃ d, n = k + d := ⟨n - k, by omega⟩
  exact con_less d k h hm
theorem con_length {F : Nat → List Nat} {a k m : Nat} (h : ∀ j, j < k → (F (a + j)).length = 64) : ((flatN F a k).take m).length = min m (64 * k) := by
  rw [List.length_take, flatN_length h]

/-- A head as the program asks for it. -/
theorem head_iff {s b : List Nat} (hs : s.length = 64) (hb : ∀ y ∈ s, y < 256) (hn : b.length = le (win s 4 4)) :
    hedL (le (win s 0 4)) b = s ↔ (∀ y ∈ s.drop 12, y = 0) ∧ le (win s 8 4) = sumM (s.take 8 ++ b) := by
  have p8 : preL (le (win s 0 4)) b = s.take 8 := by
    unfold preL
    rw [hn, win_num s 0 4 (by omega) hb, win_num s 4 4 (by omega) hb, ← win_split s 0 4 4 (by omega)]
    simp [win]
  have ls : s = s.take 8 ++ (win s 8 4 ++ s.drop 12) := by
    have e : win s 8 4 ++ s.drop 12 = s.drop 8 := by
      unfold win
      rw [show s.drop 12 = (s.drop 8).drop 4 by rw [List.drop_drop], List.take_append_drop]
    rw [e, List.take_append_drop]
  have lw : (win s 8 4).length = 4 := win_length _ _ _ (by omega)
  have ld : (s.drop 12).length = 52 := by simp [hs]
  unfold hedL
  rw [p8]
  constructor
  · intro h
    have h2 : numL (sumM (s.take 8 ++ b)) 4 ++ List.replicate 52 0 = win s 8 4 ++ s.drop 12 := by
      refine List.append_cancel_left (show s.take 8 ++ _ = s.take 8 ++ _ from ?_)
      rw [← ls]
      exact h
    obtain ⟨h3, h4⟩ := List.append_inj h2 (by rw [numL_length, lw])
    refine ⟨fun y hy => ?_, ?_⟩
    · rw [← h4] at hy
      exact List.eq_of_mem_replicate hy
    · rw [← h3, le_numL_lt _ _ (by have := sumM_lt (s.take 8 ++ b); omega)]
  · rintro ⟨h1, h2⟩
    rw [← h2, win_num s 8 4 (by omega) hb, show List.replicate 52 0 = s.drop 12 from ?_, ← ls]
    exact (List.eq_replicate_iff.2 ⟨ld, h1⟩).symm
theorem sloN_lt {F : Nat → List Nat} {w : Nat} (hb : ∀ y ∈ F (64 + 16 * w), y < 256) : sloN F w < 4294967296 := by
  have h := le_lt (win (F (64 + 16 * w)) 4 4) (fun y hy => hb y (List.mem_of_mem_drop (List.mem_of_mem_take hy)))
  have h2 : (win (F (64 + 16 * w)) 4 4).length ≤ 4 := by unfold win; simp; omega
  have h3 : 256 ^ (win (F (64 + 16 * w)) 4 4).length ≤ 256 ^ 4 := Nat.pow_le_pow_right (by omega) h2
  unfold sloN
  omega
theorem sloG_lt {F : Nat → List Nat} {w : Nat} (hb : ∀ y ∈ F (64 + 16 * w), y < 256) : sloG F w < 4294967296 := by
  have h := le_lt (win (F (64 + 16 * w)) 0 4) (fun y hy => hb y (List.mem_of_mem_drop (List.mem_of_mem_take hy)))
  have h2 : (win (F (64 + 16 * w)) 0 4).length ≤ 4 := by unfold win; simp; omega
  have h3 : 256 ^ (win (F (64 + 16 * w)) 0 4).length ≤ 256 ^ 4 := Nat.pow_le_pow_right (by omega) h2
  unfold sloG
  omega
/-- A slot is whole as the program asks for it. -/
theorem whole_iff {F : Nat → List Nat} {w : Nat} (hl : ∀ f, 64 + 16 * w ≤ f → f < 80 + 16 * w → (F f).length = 64) (hb : ∀ y ∈ F (64 + 16 * w), y < 256) :
    Whole F w ↔ sloG F w % 2 = w ∧ sloN F w ≤ 960 ∧ (∀ y ∈ (F (64 + 16 * w)).drop 12, y = 0) ∧ le (win (F (64 + 16 * w)) 8 4) = sumM ((F (64 + 16 * w)).take 8 ++ sloB F w) := by
  unfold Whole
  by_cases c : sloN F w ≤ 960
  · have hB : (sloB F w).length = sloN F w := by
      unfold sloB
      rw [List.length_take, sloA_length w (fun f h1 h2 => hl f (by omega) h2)]
      omega
    have h := head_iff (s := F (64 + 16 * w)) (b := sloB F w) (hl _ (by omega) (by omega)) hb hB
    have h' : hedL (sloG F w) (sloB F w) = F (64 + 16 * w) ↔ _ := h
    rw [h']
    exact ⟨fun ⟨a, b, c, d⟩ => ⟨b, a, c, d⟩, fun ⟨a, b, c, d⟩ => ⟨b, a, c, d⟩⟩
  · exact ⟨fun h => absurd h.1 c, fun h => absurd h.2.1 c⟩
end Go.Proofs.Ytggidgfmkidkjaa

/-! ## SlotA: The contracts of slot's headOf, number and empty: the sector of a gen's head; a number that stands in a sector; whether all bytes are 0. Nothing is changed.   Conditions: the bytes are read in memory. -/
namespace Go.Proofs.Ytggidgfmkidkjaa
open Go.RowKit
set_option linter.unusedVariables false

theorem ret_i64_ {a b : Int} (h : a = b) : Ending.returned (.int .i64 a) = .returned (.int .i64 b) := by rw [h]
theorem ret_u32_ {a b : Int} (h : a = b) : Ending.returned (.int .u32 a) = .returned (.int .u32 b) := by rw [h]
/-- Whether all are 0. -/
def allZ (xs : List Nat) : Bool := decide (∀ y ∈ xs, y = 0)
end Go.Proofs.Ytggidgfmkidkjaa

/-! ## SlotC: The contract of slot's content: so many bytes, read off the disk's sectors from one on, in new memory; or the first work that fails.   Conditions: the disk is known whole and has fifteen sectors from there on; at most 960 bytes. -/
namespace Go.Proofs.Ytggidgfmkidkjaa
open Go.RowKit
set_option linter.unusedVariables false

theorem own_any {w : World} {base : Nat} {e : TypeId} {v : Value} {n : Nat} {xs : List Value} (h : w.ownsRow base e 1 v n xs) : ∃ A cap, v = .slice A n cap := by
  rcases h.2 with ⟨h1, h2⟩ | ⟨g, cap, cur, h1, _⟩
  · exact ⟨none, 0, by rw [h1, h2]⟩
  · exact ⟨_, cap, h1⟩
theorem own_turns {w w' : World} {M : Nat → Prop} {base : Nat} {e : TypeId} {v : Value} {n : Nat} {xs : List Value} (h : w.ownsRow base e 1 v n xs) (hM : ∀ k, M k → k < base) (ht : Turns M w w') : w'.ownsRow base e 1 v n xs := by
  refine ⟨h.1, ?_⟩
  rcases h.2 with h2 | ⟨g, cap, cur, h4, h5, h6, h7⟩
  · exact .inl h2
  · refine .inr ⟨g, cap, cur, h4, h5, ?_, h7⟩
    rw [ht.block g (Array.getElem?_eq_some_iff.1 h6).1 (fun hm => by have := hM g hm; omega)]
    exact h6
/-- What holds ahead of round k. -/
def ConAt (w : World) (gD gS gM n : Nat) (S : Nat → List Nat) (L : Nat → Option (List Nat)) (t : Tr) (a m k : Nat) (v : Value) (wx : World) : Prop :=
  wx.ownsRow w.heap.size 5 1 v (min m (64 * k)) (((flatN (last S L) a k).take m).map bv) ∧ Dsk wx gD gS gM n S L (tn t k) ∧ Turns (dk gD gS gM) w wx ∧ ∀ j, j < k → (tn t j).ans = 0
/-- What content leaves. -/
def ConPost (w : World) (gD gS gM n : Nat) (S : Nat → List Nat) (L : Nat → Option (List Nat)) (t : Tr) (a m : Nat) (e : Ending) (w' : World) : Prop :=
  Turns (dk gD gS gM) w w' ∧ ∃ k, (∀ j, j < k → (tn t j).ans = 0) ∧
    ((k = (m + 63) / 64 ∧ (∃ v, e = .returned (.tuple #[v, .int .i64 0]) ∧ w'.ownsRow w.heap.size 5 1 v m (((flatN (last S L) a 15).take m).map bv)) ∧ Dsk w' gD gS gM n S L (tn t k)) ∨
     (k < (m + 63) / 64 ∧ (tn t k).ans ≠ 0 ∧ e = .returned (.tuple #[.slice none 0 0, .int .i64 ((tn t k).ans : Nat)]) ∧ Dsk w' gD gS gM n S L (tn t (k + 1))))

end Go.Proofs.Ytggidgfmkidkjaa

/-! ## SlotD: The contract of slot's read: what the slot has whose head is a sector, and whether it is whole; or the first work that fails.   Conditions: the disk is known whole and has the slots' sectors. -/
namespace Go.Proofs.Ytggidgfmkidkjaa
open Go.RowKit
set_option linter.unusedVariables false

theorem results_tmp4 {fn : Func} {t u v x : Tmp} (h : fn.results = #[.tmp t, .tmp u, .tmp v, .tmp x]) (tmps : Array Value) (P : Program) (w : World) :
    (results fn tmps).run P w = .ok (.tuple #[tmps.getD t undef, tmps.getD u undef, tmps.getD v undef, tmps.getD x undef]) w := by simp [results, h]
theorem own_lower {w : World} {base base' : Nat} {e : TypeId} {v : Value} {n : Nat} {xs : List Value} (h : w.ownsRow base e 1 v n xs) (hb : base' ≤ base) : w.ownsRow base' e 1 v n xs := by
  refine ⟨h.1, ?_⟩
  rcases h.2 with h2 | ⟨g, cap, cur, h4, h5, h6⟩
  · exact .inl h2
  · exact .inr ⟨g, cap, cur, h4, by omega, h6⟩
theorem own_below {w w' : World} {base B : Nat} {e : TypeId} {v : Value} {n : Nat} {xs : List Value} (h : w.ownsRow base e 1 v n xs) (ht : Below B w w') (hB : w.heap.size ≤ B) : w'.ownsRow base e 1 v n xs :=
  own_turns (M := fun _ => False) h (fun _ hk => hk.elim) (Turns.of_below ht hB)
theorem tn_next (t : Tr) (k : Nat) : tn t.next k = tn t (k + 1) := by
  induction k with
  | zero => rfl
  | succ k ih => rw [tn, ih]; rfl
/-- What holds while a slot's sum is reckoned. -/
def TwoS (w : World) (B : Nat) (v : Value) (s : List Nat) (v2 : Value) (b : List Nat) (w' : World) : Prop := Bts w' B v s ∧ Bts w' B v2 b ∧ Below w.heap.size w w'
theorem TwoS.one {w w' : World} {B : Nat} {v v2 : Value} {s b : List Nat} (h : TwoS w B v s v2 b w') : Bts w' B v s := h.1
theorem TwoS.two {w w' : World} {B : Nat} {v v2 : Value} {s b : List Nat} (h : TwoS w B v s v2 b w') : Bts w' B v2 b := h.2.1
theorem TwoS.below {w w' : World} {B : Nat} {v v2 : Value} {s b : List Nat} (h : TwoS w B v s v2 b w') : Below w.heap.size w w' := h.2.2
theorem TwoS.start {w : World} {B : Nat} {v v2 : Value} {s b : List Nat} (h : Bts w B v s) (h2 : Bts w B v2 b) : TwoS w B v s v2 b w.drew := ⟨h, h2, (Below.refl _ _).drew⟩
theorem TwoS.alloc {w w' : World} {B : Nat} {v v2 : Value} {s b : List Nat} (h : TwoS w B v s v2 b w') (hB : B ≤ w.heap.size) (o : Obj) : TwoS w B v s v2 b (w'.alloc o) :=
  have k : ∀ p : Addr, p.block < B → (w'.alloc o).cell? p = w'.cell? p := fun p hp => World.cell?_alloc_lt w' o p (Nat.lt_of_lt_of_le hp (Nat.le_trans hB h.2.2.size))
  ⟨h.1.keep k, h.2.1.keep k, h.2.2.alloc h.2.2.size o⟩

/-- What read leaves. -/
def SReadPost (w : World) (gD gS gM n : Nat) (S : Nat → List Nat) (L : Nat → Option (List Nat)) (t : Tr) (x : Nat) (e : Ending) (w' : World) : Prop :=
  Turns (dk gD gS gM) w w' ∧ ∃ k, k ≤ 16 ∧ (∀ j, j < k → (tn t j).ans = 0) ∧
    ((1 ≤ k ∧ Dsk w' gD gS gM n S L (tn t k) ∧
        ((Whole (last S L) x ∧ ∃ v, e = .returned (.tuple #[.int .u32 ((sloG (last S L) x : Nat) : Int), v, .bool true, .int .i64 0]) ∧ w'.ownsRow w.heap.size 5 1 v (sloN (last S L) x) ((sloB (last S L) x).map bv)) ∨
         (¬ Whole (last S L) x ∧ e = .returned (.tuple #[.int .u32 0, .slice none 0 0, .bool false, .int .i64 0])))) ∨
     ((tn t k).ans ≠ 0 ∧ e = .returned (.tuple #[.int .u32 0, .slice none 0 0, .bool false, .int .i64 ((tn t k).ans : Nat)]) ∧ Dsk w' gD gS gM n S L (tn t (k + 1))))

end Go.Proofs.Ytggidgfmkidkjaa

/-! ## SlotE: The contract of slot's Load: of the slots that are whole the one with the greater gen, in new memory; or the first work that fails; ErrArg at no disk.   Conditions: the disk is known whole and has the slots' sectors. -/
namespace Go.Proofs.Ytggidgfmkidkjaa
open Go.RowKit
theorem tn_add (t : Tr) (k j : Nat) : tn (tn t k) j = tn t (k + j) := by
  induction j with
  | zero => rfl
  | succ j ih => rw [tn, ih]; rfl
theorem load_yes {F : Nat → List Nat} {x : Nat} (h : Whole F x) (hg : (loadN F x).1 ≤ sloG F x) : loadN F (x + 1) = (sloG F x, sloB F x) := by
  show (if Whole F x ∧ (loadN F x).1 ≤ sloG F x then (sloG F x, sloB F x) else loadN F x) = _
  rw [if_pos ⟨h, hg⟩]
theorem load_no {F : Nat → List Nat} {x : Nat} (h : ¬ (Whole F x ∧ (loadN F x).1 ≤ sloG F x)) : loadN F (x + 1) = loadN F x := by
  show (if Whole F x ∧ (loadN F x).1 ≤ sloG F x then (sloG F x, sloB F x) else loadN F x) = _
  rw [if_neg h]
theorem loadN_lt {F : Nat → List Nat} (h : ∀ x, x < 2 → sloG F x < 4294967296) : ∀ x, x ≤ 2 → (loadN F x).1 < 4294967296 := by
  intro x
  induction x with
  | zero => intro _; show 0 < 4294967296; omega
  | succ x ih =>
    intro hx
    unfold loadN
    split
    · exact h x (by omega)
    · exact ih (by omega)

/-- What holds ahead of round x. -/
def LoaAt (w : World) (gD gS gM n : Nat) (S : Nat → List Nat) (L : Nat → Option (List Nat)) (t : Tr) (x G k : Nat) (v : Value) (wx : World) : Prop :=
  k ≤ 16 * x ∧ x ≤ k ∧ (∀ j, j < k → (tn t j).ans = 0) ∧ G = (loadN (last S L) x).1 ∧ wx.ownsRow w.heap.size 5 1 v (loadN (last S L) x).2.length ((loadN (last S L) x).2.map bv) ∧
  Dsk wx gD gS gM n S L (tn t k) ∧ Turns (dk gD gS gM) w wx
/-- What Load leaves. -/
def LoadPost (w : World) (gD gS gM n : Nat) (S : Nat → List Nat) (L : Nat → Option (List Nat)) (t : Tr) (e : Ending) (w' : World) : Prop :=
  Turns (dk gD gS gM) w w' ∧ ∃ k, k ≤ 32 ∧ (∀ j, j < k → (tn t j).ans = 0) ∧
    ((2 ≤ k ∧ Dsk w' gD gS gM n S L (tn t k) ∧ ∃ v, e = .returned (.tuple #[.int .u32 (((loadR (last S L)).1 : Nat) : Int), v, .int .i64 0]) ∧ w'.ownsRow w.heap.size 5 1 v (loadR (last S L)).2.length ((loadR (last S L)).2.map bv)) ∨
     ((tn t k).ans ≠ 0 ∧ e = .returned (.tuple #[.int .u32 0, .slice none 0 0, .int .i64 ((tn t k).ans : Nat)]) ∧ Dsk w' gD gS gM n S L (tn t (k + 1))))

end Go.Proofs.Ytggidgfmkidkjaa

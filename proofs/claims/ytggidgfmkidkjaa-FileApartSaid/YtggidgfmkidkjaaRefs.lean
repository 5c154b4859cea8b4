/-
  The contracts of the document's own Same, SameAll, Head, Load, Sector and Records.
  Conditions: those that each line bears.
-/
import Derived.Test.YtggidgfmkidkjaaWrd
import Derived.Test.YtggidgfmkidkjaaDsk
import Derived.Deep.RegionWith
import Derived.Test.YtggidgfmkidkjaaBas
import Derived.Deep.LoopGhost
import Derived.Test.YtggidgfmkidkjaaSltA
import Derived.Deep.RegionHeld3

/-! ## RefA: The contract of the document's own Same: whether two lists of bytes are the same; memory stays as it was.   Conditions: both are read in memory. -/
namespace Go.Proofs.Ytggidgfmkidkjaa
open Go.RowKit
set_option linter.unusedVariables false

theorem list_of_getD {xs ys : List Nat} (hl : xs.length = ys.length) (h : ∀ j, j < xs.length → xs.getD j 0 = ys.getD j 0) : xs = ys := by
  apply List.ext_getElem hl
  intro j h1 h2
  have := h j h1
  simpa [h1, h2] using this
theorem lists_of_getD {xs ys : List (List Nat)} (hl : xs.length = ys.length) (h : ∀ j, j < xs.length → xs.getD j [] = ys.getD j []) : xs = ys := by
  apply List.ext_getElem hl
  intro j h1 h2
  have := h j h1
  simpa [h1, h2] using this
theorem Bts.drewN {w : World} {B n : Nat} {v : Value} {xs : List Nat} (h : Bts w B v xs) : Bts (w.drewN n) B v xs := h
theorem Drew.trans {a b c : World} (h : Drew a b) (k : Drew b c) : Drew a c := by
  obtain ⟨m, rfl⟩ := h
  obtain ⟨n, rfl⟩ := k
  refine ⟨m + n, ?_⟩
  simp [World.drewN, Nat.add_assoc]
set_option maxRecDepth 20000 in
set_option maxHeartbeats 400000 in
theorem same_any (v v' : Value) (xs ys : List Nat) (B B' : Nat) (w : World) (h : Bts w B v xs) (h' : Bts w B' v' ys) :
    Calls Try.prog 13 #[v, v'] w fun e w' => e = .returned (.bool (decide (xs = ys))) ∧ Drew w w' := by
  obtain ⟨A, l, c, rfl, hl, hm, _, _, hb, hx⟩ := h
  obtain ⟨A', l', c', rfl, hl', hm', _, _, hb', hx'⟩ := h'
  by_cases hll : l = l'
  · subst hll
    unfold maxLen at hm
    have HX := Lib.hid hx
    have HX' := Lib.hid hx'
    have HL := Lib.hid hl
    have HL' := Lib.hid hl'
    clear hl hl' hm' hb hb' hx hx'
    go_enter Try.func13, Try.ntmps13
    go_wp2
    go_loopw [5] (fun i wr => ∃ k m : Nat, k ≤ l ∧ i = .int .i64 k ∧ wr = w.drewN m ∧ ∀ j, j < k → xs.getD j 0 = ys.getD j 0) (fun i _ => l - (intOf i).toNat)
    case atStart => exact ⟨0, 0, Nat.zero_le _, rfl, rfl, fun j hj => absurd hj (by omega)⟩
    case round =>
      obtain ⟨k, m, hk, rfl, rfl, he⟩ := hrel
      have HE := Lib.hid he
      clear he
      by_cases hlt : k < l
      · obtain ⟨b, off, rfl, _, hc⟩ := HX.out (by omega)
        obtain ⟨b', off', rfl, _, hc'⟩ := HX'.out (by omega)
        have hcell := hc k hlt
        have hcell' := hc' k hlt
        obtain ⟨y, hy⟩ : ∃ y, y = xs.getD k 0 := ⟨_, rfl⟩
        obtain ⟨z, hz⟩ : ∃ z, z = ys.getD k 0 := ⟨_, rfl⟩
        rw [← hy] at hcell
        rw [← hz] at hcell'
        have HY := Lib.hid hy
        have HZ := Lib.hid hz
        clear hc hc' hy hz
        by_cases c1 : y = z
        · have d1 : (((y : Nat) : Int) != ((z : Nat) : Int)) = false := by simp [c1]
          go_wp2
          go_quiet (fail)
          go_wp2
          go_roundw
          case rel =>
            refine ⟨k + 1, m + nq, by omega, by go_num, rfl, fun j hj => ?_⟩
            by_cases e : j = k
            · subst e
              rw [← HY.out, ← HZ.out]
              exact c1
            · exact HE.out j (by omega)
          case measure => simp [intOf]; omega
        · have d1 : (((y : Nat) : Int) != ((z : Nat) : Int)) = true := by rw [bne_iff_ne]; omega
          go_wp2
          go_quiet (fail)
          go_wp2
          go_ret
          exact ⟨by rw [decide_eq_false (fun e => c1 (by rw [HY.out, HZ.out, e]))]; rfl, Drew.trans ⟨m, rfl⟩ ⟨nq, rfl⟩⟩
      · obtain rfl : k = l := by omega
        go_wp2
        go_ret
        exact ⟨by rw [decide_eq_true (list_of_getD (by rw [HL.out, HL'.out]) (by rw [HL.out]; exact HE.out))]; rfl, m, rfl⟩
  · refine (same_no_len A A' l c l' c' w hll).mono ?_
    rintro e w' ⟨rfl, rfl⟩
    exact ⟨by rw [decide_eq_false (fun e => hll (by rw [← hl, ← hl', e]))], 0, rfl⟩
theorem same_quiet (v v' : Value) (xs ys : List Nat) (B B' m n : Nat) (T : Bool) (w : World) (h : Bts w B v xs) (h' : Bts w B' v' ys) (hT : T = decide (xs = ys)) :
    Calls Try.prog 13 #[v, v'] (w.drewN (m + n)) fun e w' => e = .returned (.bool T) ∧ ∃ q, w' = w.drewN (m + q) := by
  refine (same_any v v' xs ys B B' _ (Bts.drewN h) (Bts.drewN h')).mono ?_
  rintro e w' ⟨rfl, q, rfl⟩
  exact ⟨by rw [hT], n + q, by rw [World.drewN_drewN, Nat.add_assoc]⟩
end Go.Proofs.Ytggidgfmkidkjaa

/-! ## RefB: The contract of the document's own SameAll: whether two lists of lists of bytes are the same; memory stays as it was.   Conditions: both are read in memory. -/
namespace Go.Proofs.Ytggidgfmkidkjaa
open Go.RowKit
end Go.Proofs.Ytggidgfmkidkjaa

/-! ## RefHead: The contract of the document's own Head: a slot's head, in new memory.   Conditions: the bytes are fewer than 100,000, and are read in memory. -/
namespace Go.Proofs.Ytggidgfmkidkjaa
open Go.RowKit
set_option linter.unusedVariables false

theorem one_bts_ (w : World) (t : TypeId) (y : Nat) (h : y < 256) : Bts (w.alloc (.cells #[.int .u8 (y : Int)] t)) (w.heap.size + 1) (.slice (some ⟨w.heap.size, 0, none⟩) 1 1) [y] :=
  Bts.of_blk (Blk.new w t _) (by omega) rfl (Nat.le_refl _) (by simp [maxLen]) (fun j hj => by obtain rfl : j = 0 := (by omega); simpa using h) (fun j hj => by obtain rfl : j = 0 := (by omega); rfl)
/-- A head, while zeros are laid behind. -/
def hedZ (g : Nat) (b : List Nat) (i : Nat) : List Nat := preL g b ++ numL (sumM (preL g b ++ b)) 4 ++ List.replicate i 0
theorem hedZ_more (g : Nat) (b : List Nat) (i : Nat) : hedZ g b i ++ [0] = hedZ g b (i + 1) := by
  unfold hedZ
  rw [List.append_assoc, List.replicate_succ']
theorem hedZ_all (g : Nat) (b : List Nat) : hedZ g b 52 = hedL g b := by
  unfold hedZ hedL
  rw [List.append_assoc]
/-- What holds while zeros are laid behind. -/
def HedAt (w : World) (g : Nat) (b : List Nat) (i : Nat) (v : Value) (wx : World) : Prop :=
  wx.ownsRow w.heap.size 5 1 v (12 + i) ((hedZ g b i).map bv) ∧ Below w.heap.size w wx
/-- What Head leaves. -/
def RefHeadPost (w : World) (g : Nat) (b : List Nat) (e : Ending) (w' : World) : Prop :=
  ∃ r, e = .returned r ∧ w'.ownsRow w.heap.size 5 1 r 64 ((hedL g b).map bv) ∧ Below w.heap.size w w'

end Go.Proofs.Ytggidgfmkidkjaa

/-! ## RefSlot: The contract of the document's own Slot: of a slot's sixteen sectors its gen, its bytes, and whether it is whole.   Conditions: there are sixteen sectors, each of 64 bytes; they are read in memory. -/
namespace Go.Proofs.Ytggidgfmkidkjaa
open Go.RowKit
set_option linter.unusedVariables false

/-- What holds while a head is held against the document's own. -/
def RslS (w : World) (B : Nat) (v : Value) (s : List Nat) (v2 : Value) (b : List Nat) (w' : World) : Prop := Bts w' B v s ∧ Bts w' B v2 b ∧ Below B w w' ∧ B ≤ w'.heap.size
theorem RslS.next {w w' w'' : World} {B : Nat} {v v2 : Value} {s b : List Nat} (h : RslS w B v s v2 b w') (hb : Below w'.heap.size w' w'') : RslS w B v s v2 b w'' :=
  ⟨h.1.below (hb.mono h.2.2.2), h.2.1.below (hb.mono h.2.2.2), h.2.2.1.trans (hb.mono h.2.2.2), Nat.le_trans h.2.2.2 hb.size⟩
theorem RslS.drew {w w' : World} {B : Nat} {v v2 : Value} {s b : List Nat} (h : RslS w B v s v2 b w') : RslS w B v s v2 b w'.drew := ⟨h.1, h.2.1, h.2.2.1.drew, h.2.2.2⟩
theorem RslS.drewN {w w' : World} {B : Nat} {v v2 : Value} {s b : List Nat} (h : RslS w B v s v2 b w') (q : Nat) : RslS w B v s v2 b (w'.drewN q) := ⟨h.1, h.2.1, below_drewN h.2.2.1 q, h.2.2.2⟩
/-- What it leaves. -/
def RSlotPost (w : World) (F : Nat → List Nat) (x : Nat) (e : Ending) (w' : World) : Prop :=
  Below w.heap.size w w' ∧ ∃ (G : Nat) (v : Value) (T : Bool), e = .returned (.tuple #[.int .u32 (G : Int), v, .bool T]) ∧ (T = true ↔ Whole F x) ∧ (T = true → G = sloG F x ∧ Bts w' w'.heap.size v (sloB F x)) ∧ G < 4294967296 ∧ ∃ A n c, v = .slice A n c
/-- What holds ahead of round k. -/
def RslAt (w : World) (F : Nat → List Nat) (a k : Nat) (v : Value) (wx : World) : Prop :=
  wx.ownsRow w.heap.size 5 1 v (64 * k) ((flatN F a k).map bv) ∧ Below w.heap.size w wx

end Go.Proofs.Ytggidgfmkidkjaa

/-! ## RefLoad: The contract of the document's own Load: of a hundred sectors of a disk the gen and the bytes that were saved last.   Conditions: there are a hundred sectors, each of 64 bytes; they are read in memory. -/
namespace Go.Proofs.Ytggidgfmkidkjaa
open Go.RowKit
set_option linter.unusedVariables false

theorem Pts.cut {w : World} {b off N c : Nat} {xss : List (List Nat)} (h : Pts w (.slice (some ⟨b, off, none⟩) N c) xss) {a k c' : Nat} (ha : a + k ≤ N) (hk : k ≤ c') (hc : c' ≤ maxLen) : Pts w (.slice (some ⟨b, off + a, none⟩) k c') ((xss.drop a).take k) := by
  have hl : xss.length = N := by
    obtain ⟨A', N', c1, e, h1, _⟩ := h
    injection e with e1 e2 e3
    omega
  refine ⟨_, k, c', rfl, by simp; omega, hk, hc, fun _ => ⟨b, off + a, rfl, fun j hj => ?_⟩⟩
  obtain ⟨u, h1, h2⟩ := h.at_ (j := a + j) (by omega)
  refine ⟨u, by rw [Nat.add_assoc]; exact h1, ?_⟩
  have e : ((xss.drop a).take k).getD j [] = xss.getD (a + j) [] := by simp [List.getD_eq_getElem?_getD, hj]
  rw [e]
  exact h2
theorem cut_getD {xss : List (List Nat)} {a k j : Nat} (hj : j < k) : ((xss.drop a).take k).getD j [] = xss.getD (a + j) [] := by simp [List.getD_eq_getElem?_getD, hj]

/-- What holds ahead of round x. -/
def RloAt (w : World) (F : Nat → List Nat) (x G : Nat) (v : Value) (wx : World) : Prop :=
  G = (loadN F x).1 ∧ Bts wx wx.heap.size v (loadN F x).2 ∧ Below w.heap.size w wx
/-- What it leaves. -/
def RLoadPost (w : World) (F : Nat → List Nat) (e : Ending) (w' : World) : Prop :=
  Below w.heap.size w w' ∧ ∃ v, e = .returned (.tuple #[.int .u32 (((loadR F).1 : Nat) : Int), v]) ∧ Bts w' w'.heap.size v (loadR F).2

end Go.Proofs.Ytggidgfmkidkjaa

/-! ## RefC: The contract of the document's own Sector: the record's sector, in new memory.   Conditions: the record has 50 bytes at most, which are read in memory. -/
namespace Go.Proofs.Ytggidgfmkidkjaa
open Go.RowKit
set_option linter.unusedVariables false

theorem one_bts (w : World) (t : TypeId) (y : Nat) (h : y < 256) : Bts (w.alloc (.cells #[.int .u8 (y : Int)] t)) (w.heap.size + 1) (.slice (some ⟨w.heap.size, 0, none⟩) 1 1) [y] :=
  Bts.of_blk (Blk.new w t _) (by omega) rfl (Nat.le_refl _) (by simp [maxLen]) (fun j hj => by obtain rfl : j = 0 := (by omega); simpa using h) (fun j hj => by obtain rfl : j = 0 := (by omega); rfl)
theorem sec_more (gen n : Nat) (b : List Nat) (i : Nat) : (numL gen 4 ++ numL n 4 ++ [b.length] ++ b ++ List.replicate i 0) ++ [0] = numL gen 4 ++ numL n 4 ++ [b.length] ++ b ++ List.replicate (i + 1) 0 := by
  rw [List.append_assoc, List.replicate_succ']
theorem sec_head (gen n : Nat) (b : List Nat) : numL gen 4 ++ numL n 4 ++ [b.length] ++ b ++ List.replicate (51 - b.length) 0 = headL gen n b := by
  unfold headL
  simp only [List.append_assoc]

/-- What holds while zeros are laid behind. -/
def SecAt (w : World) (gen n : Nat) (b : List Nat) (i : Nat) (v : Value) (wx : World) : Prop :=
  wx.ownsRow w.heap.size 5 1 v (9 + b.length + i) ((numL gen 4 ++ numL n 4 ++ [b.length] ++ b ++ List.replicate i 0).map bv) ∧ Below w.heap.size w wx
/-- What the document's Sector leaves. -/
def RefSecPost (w : World) (gen n : Nat) (b : List Nat) (e : Ending) (w' : World) : Prop :=
  ∃ r, e = .returned r ∧ w'.ownsRow w.heap.size 5 1 r 64 ((secL gen n b).map bv) ∧ Below w.heap.size w w'

end Go.Proofs.Ytggidgfmkidkjaa

/-! ## RefD: The contract of the document's own Records: of the sectors of a log the records of that gen, from the first one on.   Conditions: there are at least 64 sectors, each of 64 bytes; they are read in memory. -/
namespace Go.Proofs.Ytggidgfmkidkjaa
open Go.RowKit
set_option linter.unusedVariables false

/-- What holds while a sector is held against the document's own. -/
def RecS (w : World) (v : Value) (s : List Nat) (w' : World) : Prop := Bts w' w.heap.size v s ∧ Below w.heap.size w w'
theorem RecS.next {w w' w'' : World} {v : Value} {s : List Nat} (h : RecS w v s w') (hb : Below w'.heap.size w' w'') : RecS w v s w'' :=
  ⟨h.1.below (hb.mono h.2.size), h.2.trans (hb.mono h.2.size)⟩
theorem RecS.drew {w w' : World} {v : Value} {s : List Nat} (h : RecS w v s w') : RecS w v s w'.drew := ⟨h.1, h.2.drew⟩
theorem RecS.bts {w w' : World} {v : Value} {s : List Nat} (h : RecS w v s w') : Bts w' w.heap.size v s := h.1
theorem RecS.below {w w' : World} {v : Value} {s : List Nat} (h : RecS w v s w') : Below w.heap.size w w' := h.2
theorem RecS.drewN {w w' : World} {v : Value} {s : List Nat} (h : RecS w v s w') (q : Nat) : RecS w v s (w'.drewN q) := ⟨h.1, below_drewN h.2 q⟩
/-- What holds ahead of round k. -/
def RecsAt (w : World) (F : Nat → List Nat) (gen k : Nat) (v : Value) (wx : World) : Prop :=
  (∀ j, j < k → IsRec (F j) gen j) ∧ Lst wx (fun _ => False) w.heap.size w.heap.size 22 v (pays F k) ∧ Below w.heap.size w wx
/-- What it leaves. -/
def RecsPost (w : World) (F : Nat → List Nat) (gen : Nat) (e : Ending) (w' : World) : Prop :=
  ∃ m v, Stop F gen m ∧ e = .returned v ∧ Lst w' (fun _ => False) w.heap.size w.heap.size 22 v (pays F m) ∧ Below w.heap.size w w'

end Go.Proofs.Ytggidgfmkidkjaa

/-
  A set of numbers in memory, and the contracts of runs' New, Add, Drop, Has, Count, All and Run.
  Conditions: those that each line bears.
-/
import Derived.Test.YtegoookllckhiaaRunP
import Derived.Test.YtegoookllckhiaaVals
import Derived.Test.YtegoookllckhiaaProg
import Derived.Deep.LoopGhost
import Derived.Deep.RegionHeld3
import Derived.Laws.MakeOwn
import Derived.OwnWalk
import Derived.BigQuiet
import Derived.Lib.SliceRun
import Derived.Lib.MinMax
namespace Go.Proofs.Ytegoookllckhiaa
open Go.RowKit
set_option linter.unusedVariables false

theorem Try.infoBool : (Try.prog.info? 4).map (fun i => (i.zero, i.size, i.bytes)) = some (some (.bool false), 1, 1) := by kernel_rfl
theorem Try.infoInt8 : (Try.prog.info? 3).map (fun i => (i.zero, i.size, i.bytes)) = some (some (.int .i64 0), 1, 8) := by kernel_rfl
theorem make_bools (n : Nat) (hn : n ≤ 1024) (w : World) : (Instr.makeSlice 91 (.int .i64 (n : Int)) (.int .i64 (n : Int))).run Try.prog w = .ok (.slice (some ⟨w.heap.size, 0, none⟩) n n) (w.alloc (.cells ((List.replicate n false).map Value.bool).toArray 4)) := by
  obtain ⟨i0, hi, hz0, hz1, hz2⟩ := info_parts Try.infoBool
  have hr := run_make (P := Try.prog) w 91 4 i0 (.bool false) Try.underlying91 hi hz0 .i64 .i64 n n (by omega) (by omega) (by rw [hz2]; omega) (by omega)
  have hm : madeCells (Value.bool false).cells (n * 1) = ((List.replicate n false).map Value.bool).toArray := by
    apply Array.ext
    · simp [madeCells]
    · intro i h1 h2
      have e : (List.map Value.bool [false])[i % 1]?.getD default = Value.bool false := by rw [Nat.mod_one]; rfl
      simp [madeCells, Value.cells]
      first
        | exact e
        | (rw [Nat.mod_one]; rfl)
  simp only [Int.toNat_natCast, hz1, hm] at hr
  exact hr

theorem putB_take {l : List Bool} {b : Bool} {fs : List Int} {i : Nat} {y : Int} (hi : i < fs.length) (hy : y = fs.getD i 0) : putB l b (fs.take (i + 1)) = if 0 ≤ y ∧ y < (l.length : Int) then (putB l b (fs.take i)).set y.toNat b else putB l b (fs.take i) := by
  have e2 : fs.take (i + 1) = fs.take i ++ [fs[i]] := by rw [List.take_add_one, List.getElem?_eq_getElem hi]; rfl
  have e : y = fs[i] := by rw [hy]; simp [hi]
  rw [e2, putB_snoc, e]
/-- The call's own list. -/
def Own8 (w : World) (gL : Nat) (l : List Bool) : Prop := Blk w gL 4 (l.map Value.bool).toArray
theorem Own8.set_ {w : World} {gL : Nat} {l : List Bool} (h : Own8 w gL l) (i : Nat) (b : Bool) : Own8 (w.setCell ⟨gL, i, none⟩ (.bool b)) gL (l.set i b) := by
  have := Blk.setL h i (.bool b)
  unfold Own8
  rw [List.map_set]
  exact this
theorem Own8.at_ {w : World} {gL : Nat} {l : List Bool} (h : Own8 w gL l) {i : Nat} (hi : i < l.length) : w.cell? ⟨gL, i, none⟩ = some (.bool (l.getD i false)) := by
  rw [Blk.cellL h]
  simp [hi]

theorem Own8.below {w w' : World} {gL : Nat} {l : List Bool} (h : Own8 w gL l) (hb : Below w.heap.size w w') : Own8 w' gL l := (hb.block gL h.lt).trans h
theorem row_below8 {w w' : World} {base : Nat} {e : TypeId} {size n : Nat} {v : Value} {xs : List Value} (h : w.ownsRow base e size v n xs) (hb : Below w.heap.size w w') : w'.ownsRow base e size v n xs := by
  refine ⟨h.1, ?_⟩
  rcases h.2 with ⟨h1, h2⟩ | ⟨g, cap, cur, h1, h2, h3, h4⟩
  · exact .inl ⟨h1, h2⟩
  · exact .inr ⟨g, cap, cur, h1, h2, (hb.block g (Array.getElem?_eq_some_iff.1 h3).1).trans h3, h4⟩
/-- The numbers that are in, below k. -/
def badZ (l : List Bool) (k : Nat) : List Int := (bads l k).map (fun (f : Nat) => (f : Int))
theorem badZ_succ (l : List Bool) (k : Nat) : badZ l (k + 1) = badZ l k ++ (if l.getD k false then [(k : Int)] else []) := by
  unfold badZ
  rw [bads_succ, List.map_append]
  cases l.getD k false <;> rfl
theorem badZ_le (l : List Bool) (k : Nat) : (badZ l k).length ≤ k := by
  unfold badZ
  rw [List.length_map]
  exact bads_length_le l k

/-! ### a set in memory -/
/-- A set's own cell. -/
def setV (gL n : Nat) : Array Value := #[.slice (some ⟨gL, 0, none⟩) n n]
/-- A set in memory, in block gS; K: the blocks that its work turns. -/
def RunMem (w : World) (gS : Nat) (K : Nat → Prop) (l : List Bool) : Prop :=
  ∃ gL, K = (fun k => k = gS ∨ k = gL) ∧ Blk w gS 93 (setV gL l.length) ∧ Own8 w gL l ∧ gS ≠ gL ∧ l.length ≤ 1024
section
variable {w w' : World} {gS : Nat} {K : Nat → Prop} {l : List Bool}
theorem RunMem.lt (h : RunMem w gS K l) : ∀ k, K k → k < w.heap.size := by
  obtain ⟨gL, rfl, h1, h2, _⟩ := h
  rintro k (rfl | rfl)
  · exact h1.lt
  · exact h2.lt
theorem RunMem.few (h : RunMem w gS K l) : l.length ≤ 1024 := by
  obtain ⟨gL, _, _, _, _, h5⟩ := h
  exact h5
theorem RunMem.far (h : RunMem w gS K l) (hk : ∀ k, K k → w'.heap[k]? = w.heap[k]?) : RunMem w' gS K l := by
  obtain ⟨gL, rfl, h1, h2, h3, h4⟩ := h
  exact ⟨gL, rfl, (hk gS (.inl rfl)).trans h1, (hk gL (.inr rfl)).trans h2, h3, h4⟩
theorem RunMem.fresh (h : RunMem w gS K l) (hb : Below w.heap.size w w') : RunMem w' gS K l := h.far fun k hk => hb.block k (h.lt k hk)
theorem RunMem.only (h : RunMem w gS K l) {g : Nat} (ho : Only g w w') (hg : ¬ K g) : RunMem w' gS K l := h.far fun k hk => ho.1.block k (h.lt k hk) (fun e => hg (by injection e with e; exact e ▸ hk))
end
def cutN (n : Int) : Nat := if n < 0 then 0 else if 1024 < n then 1024 else n.toNat
theorem cutN_le (n : Int) : cutN n ≤ 1024 := by
  unfold cutN
  split
  · omega
  · split <;> omega
theorem cutN_mm (n : Int) : min (max n 0) 1024 = ((cutN n : Nat) : Int) := by
  unfold cutN
  split
  · omega
  · split <;> omega
/-- What a call that turns a set leaves. -/
def SetPost (w : World) (gS : Nat) (K : Nat → Prop) (l : List Bool) (e : Ending) (w' : World) : Prop :=
  ∃ K' : Nat → Prop, e = .returned (.tuple #[]) ∧ RunMem w' gS K' l ∧ (∀ k, K' k → K k ∨ w.heap.size ≤ k) ∧ Turns K w w'

set_option maxRecDepth 20000 in
set_option maxHeartbeats 400000 in
theorem runs_new (n : Int) (w : World) :
    Calls Try.prog 25 #[.int .i64 n] w fun e w' => ∃ gS K, e = .returned (.pointer (some ⟨gS, 0, none⟩)) ∧ RunMem w' gS K (List.replicate (cutN n) false) ∧ (∀ k, K k → w.heap.size ≤ k) ∧ Below w.heap.size w w' := by
  have hmm := cutN_mm n
  have hle := cutN_le n
  obtain ⟨M, hM⟩ : ∃ M, M = cutN n := ⟨_, rfl⟩
  rw [← hM] at hmm hle ⊢
  have mk := make_bools M hle w
  obtain ⟨Z, hZ⟩ : ∃ Z, Z = ((List.replicate M false).map Value.bool).toArray := ⟨_, rfl⟩
  rw [← hZ] at mk
  have HZ := Lib.hid hZ
  clear hM hZ
  go_enter Try.func25, Try.ntmps25
  go_wp2
  go_ret
  refine ⟨w.heap.size + 1, _, rfl, ⟨w.heap.size, rfl, ?_, ?_, by omega, by simpa using hle⟩, ?_, ?_⟩
  · rw [show (List.replicate M false).length = M by simp]
    exact Blk.new1 w _ _ _
  · show Blk _ _ _ ((List.replicate M false).map Value.bool).toArray
    rw [← HZ.out]
    exact (Blk.new w _ _).below ((Below.refl _ _).alloc (Nat.le_refl _) _) (by simp)
  · rintro k (rfl | rfl) <;> omega
  · exact ((Below.refl _ w).alloc (Nat.le_refl _) _).alloc (by simp) _

set_option maxRecDepth 20000 in
set_option maxHeartbeats 400000 in
theorem end_any (gS gL n : Nat) (w : World) (c0 : w.cell? ⟨gS, 0, none⟩ = some (.slice (some ⟨gL, 0, none⟩) n n)) :
    Calls Try.prog 57 #[.pointer (some ⟨gS, 0, none⟩)] w fun e w' => e = .returned (.int .i64 (n : Int)) ∧ w = w' := by
  go_enter Try.func57, Try.ntmps57
  go_wp2
  go_ret
  exact ⟨rfl, rfl⟩
set_option maxRecDepth 20000 in
set_option maxHeartbeats 400000 in
theorem end_nil (w : World) :
    Calls Try.prog 57 #[.pointer none] w fun e w' => e = .returned (.int .i64 0) ∧ w = w' := by
  go_enter Try.func57, Try.ntmps57
  go_wp2
  go_ret
  exact ⟨rfl, rfl⟩
set_option maxRecDepth 20000 in
set_option maxHeartbeats 400000 in
theorem may_of (p : Value) (n : Nat) (f : Int) (w : World) (hp : ∃ a, p = .pointer a) (h : Calls Try.prog 57 #[p] w fun e w' => e = .returned (.int .i64 (n : Int)) ∧ w = w') :
    Calls Try.prog 58 #[p, .int .i64 f] w fun e w' => e = .returned (.bool (decide (0 ≤ f ∧ f < (n : Int)))) ∧ w = w' := by
  obtain ⟨a, rfl⟩ := hp
  have H := Lib.hid h
  clear h
  by_cases h1 : 0 ≤ f
  · have d1 : decide (0 ≤ f) = true := decide_eq_true h1
    by_cases h2 : f < (n : Int)
    · have d2 : decide (f < (n : Int)) = true := decide_eq_true h2
      rw [decide_eq_true (show 0 ≤ f ∧ f < (n : Int) from ⟨h1, h2⟩)]
      go_enter Try.func58, Try.ntmps58
      go_wp2_with (go_at_call 57; refine H.out.mono ?_; rintro e w' ⟨rfl, rfl⟩)
      go_ret
      exact ⟨rfl, rfl⟩
    · have d2 : decide (f < (n : Int)) = false := decide_eq_false h2
      rw [decide_eq_false (show ¬ (0 ≤ f ∧ f < (n : Int)) from fun h => h2 h.2)]
      go_enter Try.func58, Try.ntmps58
      go_wp2_with (go_at_call 57; refine H.out.mono ?_; rintro e w' ⟨rfl, rfl⟩)
      go_ret
      exact ⟨rfl, rfl⟩
  · have d1 : decide (0 ≤ f) = false := decide_eq_false h1
    rw [decide_eq_false (show ¬ (0 ≤ f ∧ f < (n : Int)) from fun h => h1 h.1)]
    go_enter Try.func58, Try.ntmps58
    go_wp2
    go_ret
    exact ⟨rfl, rfl⟩
theorem may_any (gS gL n : Nat) (f : Int) (w : World) (c0 : w.cell? ⟨gS, 0, none⟩ = some (.slice (some ⟨gL, 0, none⟩) n n)) :
    Calls Try.prog 58 #[.pointer (some ⟨gS, 0, none⟩), .int .i64 f] w fun e w' => e = .returned (.bool (decide (0 ≤ f ∧ f < (n : Int)))) ∧ w = w' :=
  may_of _ n f w ⟨_, rfl⟩ (end_any gS gL n w c0)
theorem may_nil (f : Int) (w : World) :
    Calls Try.prog 58 #[.pointer none, .int .i64 f] w fun e w' => e = .returned (.bool false) ∧ w = w' := by
  have h := may_of _ 0 f w ⟨_, rfl⟩ (end_nil w)
  rwa [decide_eq_false (show ¬ (0 ≤ f ∧ f < ((0 : Nat) : Int)) from by omega)] at h

set_option maxRecDepth 20000 in
set_option maxHeartbeats 800000 in
theorem mark_any (gS gL : Nat) (l : List Bool) (b : Bool) (v : Value) (fs : List Int) (w : World) (hs : Blk w gS 93 (setV gL l.length)) (ho : Own8 w gL l) (hne : gS ≠ gL) (hv : Its w w.heap.size v fs) (hoff : Off (fun k => k = gS ∨ k = gL) v) :
    Calls Try.prog 67 #[.pointer (some ⟨gS, 0, none⟩), .bool b, v] w fun e w' => e = .returned (.tuple #[]) ∧ Blk w' gS 93 (setV gL l.length) ∧ Own8 w' gL (putB l b fs) ∧ Turns (fun k => k = gS ∨ k = gL) w w' := by
  obtain ⟨A, N, c, rfl, hN, _, hc, hz⟩ := hv
  have HN := Lib.hid hN
  have HZ := Lib.hid (show ∀ i, i < N → ∃ b1 o1, A = some ⟨b1, o1, none⟩ ∧ b1 ≠ gS ∧ b1 ≠ gL ∧ b1 < w.heap.size ∧ w.cell? ⟨b1, o1 + i, none⟩ = some (.int .i64 (fs.getD i 0)) from fun i hi => by
    obtain ⟨b1, o1, e, h1, h2⟩ := hz (by omega)
    have := hoff b1 o1 none N c (by rw [e]) (by omega)
    exact ⟨b1, o1, e, fun e => this (.inl e), fun e => this (.inr e), h1, h2 i hi⟩)
  have HS := Lib.hid hs
  have HO := Lib.hid ho
  have hml : N ≤ maxLen := by omega
  unfold maxLen at hml
  clear hN hz hoff hs ho hc
  go_enter Try.func67, Try.ntmps67
  go_wp2_with fail
  go_loopg [7, 10] N (fun gg _ s10 wx => ∃ i : Nat, i + gg = N ∧ s10 = .int .i64 (i : Int) ∧ Blk wx gS 93 (setV gL l.length) ∧ Own8 wx gL (putB l b (fs.take i)) ∧ Turns (fun k => k = gS ∨ k = gL) w wx)
  case atStart => exact ⟨0, by omega, rfl, HS.out, HO.out, Turns.refl _ _⟩
  case round =>
    obtain ⟨i, hig, rfl, hs5, hl5, ht5⟩ := hrel
    have HS5 := Lib.hid hs5
    have HL5 := Lib.hid hl5
    have HT5 := Lib.hid ht5
    clear hs5 hl5 ht5
    by_cases hlt : i < N
    · have t4 : decide ((i : Int) < (N : Int)) = true := decide_eq_true (by omega)
      have t5 : (i : Int) < (N : Int) := by omega
      have t6 : (0 : Int) ≤ (i : Int) := by omega
      obtain ⟨b1, o1, rfl, h1, h2, hbl, hcc⟩ := HZ.out i hlt
      obtain ⟨y, hy⟩ : ∃ y, y = fs.getD i 0 := ⟨_, rfl⟩
      have hcell : wr.cell? ⟨b1, o1 + i, none⟩ = some (.int .i64 y) := (World.cell?_of_block (HT5.out.block b1 hbl (by rintro (e | e); exact h1 e; exact h2 e))).trans (by rw [hy]; exact hcc)
      have PT := Lib.hid (putB_take (l := l) (b := b) (fs := fs) (i := i) (by rw [HN.out]; exact hlt) hy)
      have MY := Lib.hid (may_any gS gL l.length y wr (HS5.out.cell 0))
      have c0 : wr.cell? ⟨gS, 0, none⟩ = some (.slice (some ⟨gL, 0, none⟩) l.length l.length) := HS5.out.cell 0
      clear hcc hy h1 h2 hbl
      by_cases k1 : 0 ≤ y ∧ y < (l.length : Int)
      · have PT2 := Lib.hid (PT.out.trans (if_pos k1))
        rw [decide_eq_true k1] at MY
        obtain ⟨k1, k2⟩ := k1
        obtain ⟨z, rfl⟩ := Int.eq_ofNat_of_zero_le k1
        have hfz : wr.frozen? ⟨gL, z, none⟩ = false := HL5.out.frozen z
        have hcz : wr.cell? ⟨gL, z, none⟩ = some (.bool ((putB l b (fs.take i)).getD z false)) := HL5.out.at_ (by rw [putB_length]; omega)
        go_wp2_with (go_at_call 58; refine MY.out.mono ?_; rintro e w' ⟨rfl, rfl⟩)
        go_roundg (N - (i + 1))
        case measure => omega
        case rel =>
          have ho := (Only.refl gL wr).setCell z (.bool b)
          refine ⟨i + 1, by omega, by go_num, (ho.1.block _ HS5.out.lt (fun e => hne (Option.some.inj e))).trans HS5.out, ?_, HT5.out.trans (Turns.of_only ho (.inr rfl))⟩
          rw [PT2.out]
          simpa using HL5.out.set_ z b
      · have PT2 := Lib.hid (PT.out.trans (if_neg k1))
        rw [decide_eq_false k1] at MY
        clear k1
        go_wp2_with (go_at_call 58; refine MY.out.mono ?_; rintro e w' ⟨rfl, rfl⟩)
        go_roundg (N - (i + 1))
        case measure => omega
        case rel => exact ⟨i + 1, by omega, by go_num, HS5.out, by rw [PT2.out]; exact HL5.out, HT5.out⟩
    · obtain rfl : i = N := by omega
      have t4 : decide ((i : Int) < (i : Int)) = false := decide_eq_false (by omega)
      go_wp2
      (try simp only [Exit.inBlock, Exit.then])
      refine bodyPost_end (results_none rfl _ _ _) rfl ?_
      refine ⟨rfl, HS5.out, ?_, HT5.out⟩
      have h := HL5.out
      rwa [← HN.out, List.take_length] at h
set_option maxRecDepth 20000 in
set_option maxHeartbeats 800000 in
theorem mark_nil (b : Bool) (v : Value) (fs : List Int) (w : World) (hv : Its w w.heap.size v fs) :
    Calls Try.prog 67 #[.pointer none, .bool b, v] w fun e w' => e = .returned (.tuple #[]) ∧ w = w' := by
  obtain ⟨A, N, c, rfl, hN, _, hc, hz⟩ := hv
  have HZ := Lib.hid hz
  have hml : N ≤ maxLen := by omega
  unfold maxLen at hml
  clear hN hz hc
  go_enter Try.func67, Try.ntmps67
  go_wp2_with fail
  go_loopg [7, 10] N (fun gg _ s10 wx => ∃ i : Nat, i + gg = N ∧ s10 = .int .i64 (i : Int) ∧ wx = w)
  case atStart => exact ⟨0, by omega, rfl, rfl⟩
  case round =>
    obtain ⟨i, hig, rfl, hw⟩ := hrel
    obtain rfl : w = wr := hw.symm
    by_cases hlt : i < N
    · have t4 : decide ((i : Int) < (N : Int)) = true := decide_eq_true (by omega)
      have t5 : (i : Int) < (N : Int) := by omega
      have t6 : (0 : Int) ≤ (i : Int) := by omega
      obtain ⟨b1, o1, rfl, hbl, hcc⟩ := HZ.out (by omega)
      obtain ⟨y, hy⟩ : ∃ y, y = fs.getD i 0 := ⟨_, rfl⟩
      have hcell : w.cell? ⟨b1, o1 + i, none⟩ = some (.int .i64 y) := by rw [hy]; exact hcc i hlt
      have MY := Lib.hid (may_nil y w)
      clear hcc hy
      go_wp2_with (go_at_call 58; refine MY.out.mono ?_; rintro e w' ⟨rfl, rfl⟩)
      go_roundg (N - (i + 1))
      case measure => omega
      case rel => exact ⟨i + 1, by omega, by go_num, rfl⟩
    · obtain rfl : i = N := by omega
      have t4 : decide ((i : Int) < (i : Int)) = false := decide_eq_false (by omega)
      go_wp2
      (try simp only [Exit.inBlock, Exit.then])
      refine bodyPost_end (results_none rfl _ _ _) rfl ?_
      exact ⟨rfl, rfl⟩

set_option maxRecDepth 20000 in
set_option maxHeartbeats 400000 in
theorem runs_add (gS : Nat) (K : Nat → Prop) (l : List Bool) (v : Value) (fs : List Int) (w : World) (h : RunMem w gS K l) (hv : Its w w.heap.size v fs) (ho : Off K v) :
    Calls Try.prog 50 #[.pointer (some ⟨gS, 0, none⟩), v] w (SetPost w gS K (putB l true fs)) := by
  obtain ⟨gL, rfl, h1, h2, h3, h4⟩ := h
  have MK := Lib.hid (mark_any gS gL l true v fs w h1 h2 h3 hv ho)
  obtain ⟨A, N, c, rfl, -⟩ := hv
  clear h1 h2 ho
  go_enter Try.func50, Try.ntmps50
  go_wp2_with fail
  refine MK.out.mono ?_
  rintro e w' ⟨rfl, k1, k2, k3⟩
  have K1 := Lib.hid k1
  have K2 := Lib.hid k2
  have K3 := Lib.hid k3
  clear k1 k2 k3
  go_wp2
  (try simp only [Exit.inBlock, Exit.then])
  refine bodyPost_end (results_none rfl _ _ _) rfl ?_
  exact ⟨_, rfl, ⟨gL, rfl, by rw [putB_length]; exact K1.out, K2.out, h3, by rw [putB_length]; exact h4⟩, fun k hk => .inl hk, K3.out⟩
set_option maxRecDepth 20000 in
set_option maxHeartbeats 400000 in
theorem runs_add_nil (v : Value) (fs : List Int) (w : World) (hv : Its w w.heap.size v fs) : Calls Try.prog 50 #[.pointer none, v] w fun e w' => e = .returned (.tuple #[]) ∧ Below w.heap.size w w' := by
  have MK := Lib.hid (mark_nil true v fs w hv)
  obtain ⟨A, N, c, rfl, -⟩ := hv
  go_enter Try.func50, Try.ntmps50
  go_wp2_with fail
  refine MK.out.mono ?_
  rintro e w' ⟨rfl, rfl⟩
  go_wp2
  (try simp only [Exit.inBlock, Exit.then])
  refine bodyPost_end (results_none rfl _ _ _) rfl ?_
  exact ⟨rfl, Below.refl _ _⟩

set_option maxRecDepth 20000 in
set_option maxHeartbeats 400000 in
theorem runs_drop (gS : Nat) (K : Nat → Prop) (l : List Bool) (v : Value) (fs : List Int) (w : World) (h : RunMem w gS K l) (hv : Its w w.heap.size v fs) (ho : Off K v) :
    Calls Try.prog 60 #[.pointer (some ⟨gS, 0, none⟩), v] w (SetPost w gS K (putB l false fs)) := by
  obtain ⟨gL, rfl, h1, h2, h3, h4⟩ := h
  have MK := Lib.hid (mark_any gS gL l false v fs w h1 h2 h3 hv ho)
  obtain ⟨A, N, c, rfl, -⟩ := hv
  clear h1 h2 ho
  go_enter Try.func60, Try.ntmps60
  go_wp2_with fail
  refine MK.out.mono ?_
  rintro e w' ⟨rfl, k1, k2, k3⟩
  have K1 := Lib.hid k1
  have K2 := Lib.hid k2
  have K3 := Lib.hid k3
  clear k1 k2 k3
  go_wp2
  (try simp only [Exit.inBlock, Exit.then])
  refine bodyPost_end (results_none rfl _ _ _) rfl ?_
  exact ⟨_, rfl, ⟨gL, rfl, by rw [putB_length]; exact K1.out, K2.out, h3, by rw [putB_length]; exact h4⟩, fun k hk => .inl hk, K3.out⟩
set_option maxRecDepth 20000 in
set_option maxHeartbeats 400000 in
theorem runs_drop_nil (v : Value) (fs : List Int) (w : World) (hv : Its w w.heap.size v fs) : Calls Try.prog 60 #[.pointer none, v] w fun e w' => e = .returned (.tuple #[]) ∧ Below w.heap.size w w' := by
  have MK := Lib.hid (mark_nil false v fs w hv)
  obtain ⟨A, N, c, rfl, -⟩ := hv
  go_enter Try.func60, Try.ntmps60
  go_wp2_with fail
  refine MK.out.mono ?_
  rintro e w' ⟨rfl, rfl⟩
  go_wp2
  (try simp only [Exit.inBlock, Exit.then])
  refine bodyPost_end (results_none rfl _ _ _) rfl ?_
  exact ⟨rfl, Below.refl _ _⟩

set_option maxRecDepth 20000 in
set_option maxHeartbeats 400000 in
theorem runs_has (gS : Nat) (K : Nat → Prop) (l : List Bool) (f : Int) (w : World) (h : RunMem w gS K l) :
    Calls Try.prog 36 #[.pointer (some ⟨gS, 0, none⟩), .int .i64 f] w fun e w' => e = .returned (.bool (decide (0 ≤ f ∧ f < (l.length : Int)) && l.getD f.toNat false)) ∧ Below w.heap.size w w' := by
  obtain ⟨gL, rfl, h1, h2, h3, h4⟩ := h
  have c0 : w.cell? ⟨gS, 0, none⟩ = some (.slice (some ⟨gL, 0, none⟩) l.length l.length) := h1.cell 0
  have MY := Lib.hid (may_any gS gL l.length f w c0)
  by_cases k1 : 0 ≤ f ∧ f < (l.length : Int)
  · rw [decide_eq_true k1] at MY ⊢
    obtain ⟨k1, k2⟩ := k1
    obtain ⟨z, rfl⟩ := Int.eq_ofNat_of_zero_le k1
    obtain ⟨y, hy⟩ : ∃ y, y = l.getD z false := ⟨_, rfl⟩
    have hcz : w.cell? ⟨gL, z, none⟩ = some (.bool y) := by rw [hy]; exact h2.at_ (by omega)
    rw [show (true && l.getD ((z : Int)).toNat false) = y from by rw [hy]; simp]
    clear hy h1 h2
    go_enter Try.func36, Try.ntmps36
    go_wp2_with (go_at_call 58; refine MY.out.mono ?_; rintro e w' ⟨rfl, rfl⟩)
    go_ret
    exact ⟨rfl, Below.refl _ _⟩
  · rw [decide_eq_false k1] at MY ⊢
    clear k1 h1 h2
    go_enter Try.func36, Try.ntmps36
    go_wp2_with (go_at_call 58; refine MY.out.mono ?_; rintro e w' ⟨rfl, rfl⟩)
    go_ret
    exact ⟨by simp, Below.refl _ _⟩
set_option maxRecDepth 20000 in
set_option maxHeartbeats 400000 in
theorem runs_has_nil (f : Int) (w : World) : Calls Try.prog 36 #[.pointer none, .int .i64 f] w fun e w' => e = .returned (.bool false) ∧ w = w' := by
  have MY := Lib.hid (may_nil f w)
  go_enter Try.func36, Try.ntmps36
  go_wp2_with (go_at_call 58; refine MY.out.mono ?_; rintro e w' ⟨rfl, rfl⟩)
  go_ret
  exact ⟨rfl, rfl⟩

set_option maxRecDepth 20000 in
set_option maxHeartbeats 1600000 in
theorem all_own (gS gL : Nat) (l : List Bool) (w : World) (hs : Blk w gS 93 (setV gL l.length)) (ho : Own8 w gL l) (hn : l.length ≤ 1024) :
    Calls Try.prog 35 #[.pointer (some ⟨gS, 0, none⟩)] w fun e w' => ∃ v, e = .returned v ∧ w'.ownsRow w.heap.size 3 1 v (badZ l l.length).length ((badZ l l.length).map (fun z => Value.int .i64 z)) ∧ Below w.heap.size w w' := by
  have HS := Lib.hid hs
  have HO := Lib.hid ho
  obtain ⟨iI, hiI, hiz0, hiz1, hiz2⟩ := info_parts Try.infoInt8
  have HII := Lib.hid hiI
  have HI0 := Lib.hid hiz0
  have HI1 := Lib.hid hiz1
  have HI2 := Lib.hid hiz2
  obtain ⟨n, hnl⟩ : ∃ n, n = l.length := ⟨_, rfl⟩
  rw [← hnl] at HS hn
  rw [← hnl]
  have HNL := Lib.hid hnl.symm
  have EN := Lib.hid (end_any gS gL n w (HS.out.cell 0))
  clear hs ho hiI hiz0 hiz1 hiz2 hnl
  go_enter Try.func35, Try.ntmps35
  go_wp2_with fail
  refine EN.out.mono ?_
  rintro e w' ⟨rfl, rfl⟩
  go_wp2_with fail
  go_loopw [3, 4, 7] (fun v _ s7 wx => ∃ k : Nat, k ≤ n ∧ s7 = .int .i64 (k : Int) ∧ wx.ownsRow w.heap.size 3 1 v (badZ l k).length ((badZ l k).map (fun z => Value.int .i64 z)) ∧ Below w.heap.size w wx) (fun _ _ i _ => n - (intOf i).toNat)
  case atStart => exact ⟨0, Nat.zero_le _, rfl, World.ownsRow_nil _ _ _ _, Below.refl _ _⟩
  case round =>
    obtain ⟨k, hk, rfl, hrow, hb9⟩ := hrel
    have HROW := Lib.hid hrow
    have HX9 := Lib.hid hb9
    have HL9 := Lib.hid (HO.out.below hb9)
    have c0 : wr.cell? ⟨gS, 0, none⟩ = some (.slice (some ⟨gL, 0, none⟩) n n) := (hb9.cell (p := ⟨gS, 0, none⟩) HS.out.lt).trans (HS.out.cell 0)
    clear hrow hb9
    by_cases hlt : k < n
    · have t1 : (k : Int) < (n : Int) := by omega
      have t2 : (0 : Int) ≤ (k : Int) := by omega
      have t3 : decide ((k : Int) < (n : Int)) = true := decide_eq_true t1
      have hck : wr.cell? ⟨gL, k, none⟩ = some (.bool (l.getD k false)) := HL9.out.at_ (by rw [HNL.out]; exact hlt)
      have BS := Lib.hid (badZ_succ l k)
      have BL := Lib.hid (badZ_le l k)
      obtain ⟨x, hx⟩ : ∃ x, x = l.getD k false := ⟨_, rfl⟩
      rw [← hx] at hck BS
      clear hx
      cases x with
      | true =>
        have HONE := Lib.hid (show ∀ u ∈ [Value.int .i64 (k : Int)], u.oneCell' = true from fun u hu => by rw [List.mem_singleton.1 hu]; rfl)
        have HQ1 := Lib.hid (show (badZ l k).length + 1 ≤ maxLen from by have := BL.out; unfold maxLen; omega)
        have HQ2 := Lib.hid (show ((badZ l k).length + 1) * 8 ≤ 140737488355328 from by have := BL.out; omega)
        have HQ3 := Lib.hid (show w.heap.size ≤ (wr.alloc (.cells #[Value.int .i64 (k : Int)] 3)).heap.size from by have := HX9.out.size; simp; omega)
        go_wp2_with (refine wpList_append_own _ rfl _ _ 23 rfl w.heap.size 3 iI (.int .i64 0) 1 8 Try.underlying23 HII.out HI0.out HI1.out HI2.out rfl (by decide) _ _ _ rfl (HROW.out.alloc _) ⟨wr.heap.size, 0, none⟩ 1 1 [Value.int .i64 (k : Int)] rfl rfl (cell_one_new _ _ _) HONE.out HQ1.out HQ2.out HQ3.out ?_; intro v' w4 hown4 hg4 hnil4; have HOWN4 := Lib.hid hown4; have HG4 := Lib.hid hg4; clear hown4 hg4 hnil4)
        have HB4' := Lib.hid ((HX9.out.alloc HX9.out.size (.cells #[Value.int .i64 (k : Int)] 3)).grown HG4.out HQ3.out (fun j hj => (HROW.out.lt j hj).1))
        go_roundw
        case rel =>
          refine ⟨k + 1, by omega, by go_num, ?_, HB4'.out⟩
          have h9 := HOWN4.out
          rw [show badZ l (k + 1) = badZ l k ++ [(k : Int)] from BS.out, List.length_append, List.map_append]
          exact h9
        case measure => simp [intOf]; omega
      | false =>
        go_wp2_with fail
        go_roundw
        case rel =>
          refine ⟨k + 1, by omega, by go_num, ?_, HX9.out⟩
          rw [show badZ l (k + 1) = badZ l k from by simpa using BS.out]
          exact HROW.out
        case measure => simp [intOf]; omega
    · obtain rfl : k = n := by omega
      have t3 : decide ((k : Int) < (k : Int)) = false := decide_eq_false (by omega)
      go_wp2
      go_ret
      exact ⟨_, rfl, HROW.out, HX9.out⟩
theorem runs_all (gS : Nat) (K : Nat → Prop) (l : List Bool) (w : World) (h : RunMem w gS K l) :
    Calls Try.prog 35 #[.pointer (some ⟨gS, 0, none⟩)] w fun e w' => ∃ v, e = .returned v ∧ Its w' w'.heap.size v ((bads l l.length).map (fun (f : Nat) => (f : Int))) ∧ Below w.heap.size w w' := by
  obtain ⟨gL, rfl, h1, h2, h3, h4⟩ := h
  refine (all_own gS gL l w h1 h2 h4).mono ?_
  rintro e w' ⟨v, rfl, k1, k2⟩
  exact ⟨v, rfl, Its.of_own k1, k2⟩
set_option maxRecDepth 20000 in
set_option maxHeartbeats 400000 in
theorem runs_all_nil (w : World) : Calls Try.prog 35 #[.pointer none] w fun e w' => e = .returned (.slice none 0 0) ∧ w = w' := by
  have EN := Lib.hid (end_nil w)
  go_enter Try.func35, Try.ntmps35
  go_wp2_with fail
  refine EN.out.mono ?_
  rintro e w' ⟨rfl, rfl⟩
  go_wp2_with fail
  go_loopw [3, 4, 7] (fun v _ s7 wx => v = .slice none 0 0 ∧ s7 = .int .i64 0 ∧ w = wx) (fun _ _ _ _ => 0)
  case atStart => exact ⟨rfl, rfl, rfl⟩
  case round =>
    obtain ⟨rfl, rfl, rfl⟩ := hrel
    go_wp2
    go_ret
    exact ⟨rfl, rfl⟩
/-! ### the library's Index and Contains on bools -/
/-- Where false stands first among these, or -1. -/
def IdxB (l : List Bool) (f k : Nat) (z : Int) : Prop :=
  (z = -1 ∧ ∀ j, f ≤ j → j < f + k → l.getD j false = true) ∨ (0 ≤ z ∧ ∃ j, f ≤ j ∧ j < f + k ∧ l.getD j false = false)
set_option maxRecDepth 20000 in
set_option maxHeartbeats 800000 in
theorem indexB_any (gL f k c : Nat) (l : List Bool) (w : World) (hk : k ≤ 1024) (hc : ∀ j, j < k → w.cell? ⟨gL, f + j, none⟩ = some (.bool (l.getD (f + j) false))) :
    Calls Try.prog 77 #[.slice (some ⟨gL, f, none⟩) k c, .bool false] w fun e w' => ∃ z, e = .returned (.int .i64 z) ∧ IdxB l f k z ∧ w = w' := by
  have HC := Lib.hid hc
  clear hc
  go_enter Try.func77, Try.ntmps77
  go_wp2_with fail
  go_loopg [5, 8] k (fun gg _ s8 wx => ∃ i : Nat, i + gg = k ∧ s8 = .int .i64 (i : Int) ∧ (∀ j, f ≤ j → j < f + i → l.getD j false = true) ∧ wx = w)
  case atStart => exact ⟨0, by omega, rfl, fun j h1 h2 => absurd h2 (by omega), rfl⟩
  case round =>
    obtain ⟨i, hig, rfl, ha, hw⟩ := hrel
    obtain rfl : w = wr := hw.symm
    have HA := Lib.hid ha
    clear ha
    by_cases hlt : i < k
    · have t1 : (i : Int) < (k : Int) := by omega
      have t2 : (0 : Int) ≤ (i : Int) := by omega
      have t3 : decide ((i : Int) < (k : Int)) = true := decide_eq_true t1
      have hcell := HC.out i hlt
      obtain ⟨y, hy⟩ : ∃ y, y = l.getD (f + i) false := ⟨_, rfl⟩
      rw [← hy] at hcell
      have HY := Lib.hid hy
      clear hy
      cases y with
      | true =>
        go_wp2_with fail
        go_roundg (k - (i + 1))
        case measure => omega
        case rel =>
          refine ⟨i + 1, by omega, by go_num, fun j h1 h2 => ?_, rfl⟩
          by_cases e : j = f + i
          · rw [e]; exact HY.out.symm
          · exact HA.out j h1 (by omega)
      | false =>
        go_wp2
        go_ret
        exact ⟨_, rfl, .inr ⟨by omega, f + i, by omega, by omega, HY.out.symm⟩, rfl⟩
    · obtain rfl : i = k := by omega
      have t3 : decide ((i : Int) < (i : Int)) = false := decide_eq_false (by omega)
      go_wp2
      go_ret
      exact ⟨_, rfl, .inl ⟨rfl, HA.out⟩, rfl⟩
set_option maxRecDepth 20000 in
set_option maxHeartbeats 800000 in
theorem containsB_any (gL f k c : Nat) (l : List Bool) (w : World) (hk : k ≤ 1024) (hc : ∀ j, j < k → w.cell? ⟨gL, f + j, none⟩ = some (.bool (l.getD (f + j) false))) :
    Calls Try.prog 76 #[.slice (some ⟨gL, f, none⟩) k c, .bool false] w fun e w' => ∃ y : Bool, e = .returned (.bool y) ∧ (y = false ↔ ∀ j, f ≤ j → j < f + k → l.getD j false = true) ∧ w = w' := by
  have IX := Lib.hid (indexB_any gL f k c l w hk hc)
  clear hc
  go_enter Try.func76, Try.ntmps76
  go_wp2_with fail
  refine IX.out.mono ?_
  rintro e w' ⟨z, rfl, hz, rfl⟩
  have HZ := Lib.hid hz
  clear hz
  go_wp2
  go_ret
  refine ⟨_, rfl, ?_, rfl⟩
  rcases HZ.out with ⟨rfl, h⟩ | ⟨h, j, h1, h2, h3⟩
  · exact ⟨fun _ => h, fun _ => by simp⟩
  · refine ⟨fun e => absurd h (by simpa using e), fun h' => ?_⟩
    rw [h' j h1 h2] at h3
    cases h3

/-! ### Run -/
set_option maxRecDepth 20000 in
set_option maxHeartbeats 400000 in
theorem run_none (p : Option Addr) (l : List Bool) (o a b : Int) (w : World) (h : o < 0 ∨ 5 < o) :
    Calls Try.prog 74 #[.pointer p, .int .i64 o, .int .i64 a, .int .i64 b] w fun e w' => e = .returned (runV none) ∧ w = w' := by
  by_cases h1 : o < 0
  · have d1 : decide (o < 0) = true := decide_eq_true h1
    clear h
    go_enter Try.func74, Try.ntmps74
    go_wp2
    go_ret2
    exact ⟨rfl, rfl⟩
  · have d1 : decide (o < 0) = false := decide_eq_false h1
    have d2 : decide (5 < o) = true := decide_eq_true (by omega)
    clear h
    go_enter Try.func74, Try.ntmps74
    go_wp2
    go_ret2
    exact ⟨rfl, rfl⟩
set_option maxRecDepth 20000 in
set_option maxHeartbeats 1600000 in
theorem run_0 (gS gL n : Nat) (l : List Bool) (a b : Int) (w : World) (hs : Blk w gS 93 (setV gL n)) (ho : Own8 w gL l) (hl : l.length = n) (hn : n ≤ 1024) :
    Calls Try.prog 74 #[.pointer (some ⟨gS, 0, none⟩), .int .i64 0, .int .i64 a, .int .i64 b] w fun e w' => ∃ r, e = .returned (runV r) ∧ RunIs l 0 a b r ∧ Below w.heap.size w w' := by
  have HS := Lib.hid hs
  have HO := Lib.hid ho
  have HL := Lib.hid hl
  obtain ⟨E, hE⟩ : ∃ E : Int, min b (n : Int) = E := ⟨_, rfl⟩
  have HE := Lib.hid (show E ≤ b ∧ E ≤ (n : Int) ∧ ∀ x : Int, x ≤ b → x ≤ (n : Int) → x ≤ E from by rw [← hE]; exact ⟨Int.min_le_left _ _, Int.min_le_right _ _, fun x h1 h2 => Int.le_min.2 ⟨h1, h2⟩⟩)
  have hw1 : IntKind.i64.wrap 1 = 1 := by rw [IntKind.wrap_i64]; omega
  have EN := Lib.hid (fun (W : World) (hW : Below w.heap.size w W) => (end_any gS gL n W ((hW.cell (p := ⟨gS, 0, none⟩) HS.out.lt).trans (HS.out.cell 0))).mono (fun e w' h => (⟨h.1, h.2 ▸ hW⟩ : e = .returned (.int .i64 (n : Int)) ∧ Below w.heap.size w w')))
  have KP := Lib.hid (fun (W : World) (hW : Below w.heap.size w W) => (⟨(hW.cell (p := ⟨gS, 0, none⟩) HS.out.lt).trans (HS.out.cell 0), hW⟩ : W.cell? ⟨gS, 0, none⟩ = some (.slice (some ⟨gL, 0, none⟩) n n) ∧ Below w.heap.size w W))
  have BR := Lib.hid (Below.refl w.heap.size w)
  clear hs ho hl
  go_enter Try.func74, Try.ntmps74
  go_wp2_with fail
  go_region_held3 (fun w' => w'.cell? ⟨gS, 0, none⟩ = some (.slice (some ⟨gL, 0, none⟩) n n) ∧ Below w.heap.size w w')
    (first | assumption | exact KP.out _ BR.out.drew | exact KP.out _ (by assumption))
    ((go_at_call 57; refine (EN.out _ ?_).mono ?_; (first | assumption | exact (And.right (by assumption))); rintro e w' ⟨rfl, hls⟩))
  go_wp2_with fail
  go_loopg [12] (n + 64) (fun gg s12 wx => ∃ f : Nat, f + gg = n + 64 ∧ s12 = .int .i64 (f : Int) ∧ f % 1 = 0 ∧ (∀ x, x < f → ¬ RunAt l 0 a b x) ∧ Below w.heap.size w wx)
  case atStart => exact ⟨0, by omega, rfl, rfl, fun x hx => absurd hx (by omega), by assumption⟩
  case round =>
    obtain ⟨f, hfg, rfl, hm, hb, hbw⟩ := hrel
    have HM := Lib.hid hm
    have HB := Lib.hid hb
    have HW := Lib.hid hbw
    have c0 : wr.cell? ⟨gS, 0, none⟩ = some (.slice (some ⟨gL, 0, none⟩) n n) := (hbw.cell (p := ⟨gS, 0, none⟩) HS.out.lt).trans (HS.out.cell 0)
    have HO9 := Lib.hid (HO.out.below hbw)
    clear hm hb hbw
    by_cases hfs : (f : Int) + 1 ≤ E
    · have t1 : decide ((f : Int) + 1 ≤ E) = true := decide_eq_true hfs
      have HFN := Lib.hid (show f + 1 ≤ n from by have := HE.out.2.1; omega)
      by_cases hfa : a ≤ (f : Int)
      · have t2 : decide (a ≤ (f : Int)) = true := decide_eq_true hfa
        have CB := Lib.hid (containsB_any gL f 1 (n - f) l wr (by omega) (fun j hj => HO9.out.at_ (by rw [HL.out]; have := HFN.out; omega)))
        go_wp2_with fail
        refine CB.out.mono ?_
        rintro e w' ⟨y, rfl, hy, rfl⟩
        cases y with
        | false =>
          have HRA := Lib.hid (show RunAt l 0 a b f from ⟨HM.out, by rw [HL.out]; exact HFN.out, hfa, by have := HE.out.1; simp; omega, hy.1 rfl⟩)
          clear hy
          go_wp2
          go_ret2
          exact ⟨some f, rfl, ⟨by omega, by omega, HRA.out, HB.out⟩, HW.out⟩
        | true =>
          have HRA := Lib.hid (show ¬ RunAt l 0 a b f from fun h => by have := hy.2 h.2.2.2.2; cases this)
          clear hy
          go_wp2_with fail
          go_roundg (gk - 1)
          case measure => omega
          case rel => exact ⟨f + 1, by omega, by go_num, by have := HM.out; omega, next_run rfl (by omega) HM.out HB.out HRA.out, HW.out⟩
      · have t2 : decide (a ≤ (f : Int)) = false := decide_eq_false hfa
        have HRA := Lib.hid (show ¬ RunAt l 0 a b f from fun h => hfa h.2.2.1)
        go_wp2_with fail
        go_roundg (gk - 1)
        case measure => omega
        case rel => exact ⟨f + 1, by omega, by go_num, by have := HM.out; omega, next_run rfl (by omega) HM.out HB.out HRA.out, HW.out⟩
    · have t1 : decide ((f : Int) + 1 ≤ E) = false := decide_eq_false hfs
      go_wp2
      go_ret2
      refine ⟨none, rfl, .inr (.inr fun x hx => ?_), HW.out⟩
      by_cases c : x < f
      · exact HB.out x c hx
      · have h2 := hx.2.1
        rw [HL.out] at h2
        have h3 : x + 1 ≤ n := h2
        have h4 : ((x + 1 : Nat) : Int) ≤ b := hx.2.2.2.1
        have h5 := HE.out.2.2 ((x + 1 : Nat) : Int) h4 (by omega)
        omega
set_option maxRecDepth 20000 in
set_option maxHeartbeats 800000 in
theorem runNil_0 (a b : Int) (w : World) :
    Calls Try.prog 74 #[.pointer none, .int .i64 0, .int .i64 a, .int .i64 b] w fun e w' => e = .returned (.tuple #[.int .i64 0, .bool false]) ∧ Below w.heap.size w w' := by
  obtain ⟨E, hE⟩ : ∃ E : Int, min b 0 = E := ⟨_, rfl⟩
  have HE := Lib.hid (show E ≤ 0 from by rw [← hE]; exact Int.min_le_right _ _)
  have hw1 : IntKind.i64.wrap 1 = 1 := by rw [IntKind.wrap_i64]; omega
  have EN := Lib.hid (fun (W : World) (hW : Below w.heap.size w W) => (end_nil W).mono (fun e w' h => (⟨h.1, h.2 ▸ hW⟩ : e = .returned (.int .i64 0) ∧ Below w.heap.size w w')))
  have t1 : decide ((1 : Int) ≤ E) = false := decide_eq_false (by have := HE.out; omega)
  have BR := Lib.hid (Below.refl w.heap.size w)
  go_enter Try.func74, Try.ntmps74
  go_wp2_with fail
  go_region_held3 (fun w' => Below w.heap.size w w')
    (first | assumption | exact BR.out.drew | exact BR.out)
    ((go_at_call 57; refine (EN.out _ ?_).mono ?_; (first | assumption | exact BR.out.drew); rintro e w' ⟨rfl, hls⟩))
  go_wp2_with fail
  go_loopg [12] 0 (fun gg s12 wx => s12 = .int .i64 0 ∧ Below w.heap.size w wx)
  case atStart => exact ⟨rfl, by assumption⟩
  case round =>
    obtain ⟨rfl, hbw⟩ := hrel
    go_wp2
    go_ret2
    exact ⟨rfl, hbw⟩
set_option maxRecDepth 20000 in
set_option maxHeartbeats 1600000 in
theorem run_1 (gS gL n : Nat) (l : List Bool) (a b : Int) (w : World) (hs : Blk w gS 93 (setV gL n)) (ho : Own8 w gL l) (hl : l.length = n) (hn : n ≤ 1024) :
    Calls Try.prog 74 #[.pointer (some ⟨gS, 0, none⟩), .int .i64 1, .int .i64 a, .int .i64 b] w fun e w' => ∃ r, e = .returned (runV r) ∧ RunIs l 1 a b r ∧ Below w.heap.size w w' := by
  have HS := Lib.hid hs
  have HO := Lib.hid ho
  have HL := Lib.hid hl
  obtain ⟨E, hE⟩ : ∃ E : Int, min b (n : Int) = E := ⟨_, rfl⟩
  have HE := Lib.hid (show E ≤ b ∧ E ≤ (n : Int) ∧ ∀ x : Int, x ≤ b → x ≤ (n : Int) → x ≤ E from by rw [← hE]; exact ⟨Int.min_le_left _ _, Int.min_le_right _ _, fun x h1 h2 => Int.le_min.2 ⟨h1, h2⟩⟩)
  have hw1 : IntKind.i64.wrap 2 = 2 := by rw [IntKind.wrap_i64]; omega
  have EN := Lib.hid (fun (W : World) (hW : Below w.heap.size w W) => (end_any gS gL n W ((hW.cell (p := ⟨gS, 0, none⟩) HS.out.lt).trans (HS.out.cell 0))).mono (fun e w' h => (⟨h.1, h.2 ▸ hW⟩ : e = .returned (.int .i64 (n : Int)) ∧ Below w.heap.size w w')))
  have KP := Lib.hid (fun (W : World) (hW : Below w.heap.size w W) => (⟨(hW.cell (p := ⟨gS, 0, none⟩) HS.out.lt).trans (HS.out.cell 0), hW⟩ : W.cell? ⟨gS, 0, none⟩ = some (.slice (some ⟨gL, 0, none⟩) n n) ∧ Below w.heap.size w W))
  have BR := Lib.hid (Below.refl w.heap.size w)
  clear hs ho hl
  go_enter Try.func74, Try.ntmps74
  go_wp2_with fail
  go_region_held3 (fun w' => w'.cell? ⟨gS, 0, none⟩ = some (.slice (some ⟨gL, 0, none⟩) n n) ∧ Below w.heap.size w w')
    (first | assumption | exact KP.out _ BR.out.drew | exact KP.out _ (by assumption))
    ((go_at_call 57; refine (EN.out _ ?_).mono ?_; (first | assumption | exact (And.right (by assumption))); rintro e w' ⟨rfl, hls⟩))
  go_wp2_with fail
  go_loopg [12] (n + 64) (fun gg s12 wx => ∃ f : Nat, f + gg = n + 64 ∧ s12 = .int .i64 (f : Int) ∧ f % 2 = 0 ∧ (∀ x, x < f → ¬ RunAt l 1 a b x) ∧ Below w.heap.size w wx)
  case atStart => exact ⟨0, by omega, rfl, rfl, fun x hx => absurd hx (by omega), by assumption⟩
  case round =>
    obtain ⟨f, hfg, rfl, hm, hb, hbw⟩ := hrel
    have HM := Lib.hid hm
    have HB := Lib.hid hb
    have HW := Lib.hid hbw
    have c0 : wr.cell? ⟨gS, 0, none⟩ = some (.slice (some ⟨gL, 0, none⟩) n n) := (hbw.cell (p := ⟨gS, 0, none⟩) HS.out.lt).trans (HS.out.cell 0)
    have HO9 := Lib.hid (HO.out.below hbw)
    clear hm hb hbw
    by_cases hfs : (f : Int) + 2 ≤ E
    · have t1 : decide ((f : Int) + 2 ≤ E) = true := decide_eq_true hfs
      have HFN := Lib.hid (show f + 2 ≤ n from by have := HE.out.2.1; omega)
      by_cases hfa : a ≤ (f : Int)
      · have t2 : decide (a ≤ (f : Int)) = true := decide_eq_true hfa
        have CB := Lib.hid (containsB_any gL f 2 (n - f) l wr (by omega) (fun j hj => HO9.out.at_ (by rw [HL.out]; have := HFN.out; omega)))
        go_wp2_with fail
        refine CB.out.mono ?_
        rintro e w' ⟨y, rfl, hy, rfl⟩
        cases y with
        | false =>
          have HRA := Lib.hid (show RunAt l 1 a b f from ⟨HM.out, by rw [HL.out]; exact HFN.out, hfa, by have := HE.out.1; simp; omega, hy.1 rfl⟩)
          clear hy
          go_wp2
          go_ret2
          exact ⟨some f, rfl, ⟨by omega, by omega, HRA.out, HB.out⟩, HW.out⟩
        | true =>
          have HRA := Lib.hid (show ¬ RunAt l 1 a b f from fun h => by have := hy.2 h.2.2.2.2; cases this)
          clear hy
          go_wp2_with fail
          go_roundg (gk - 2)
          case measure => omega
          case rel => exact ⟨f + 2, by omega, by go_num, by have := HM.out; omega, next_run rfl (by omega) HM.out HB.out HRA.out, HW.out⟩
      · have t2 : decide (a ≤ (f : Int)) = false := decide_eq_false hfa
        have HRA := Lib.hid (show ¬ RunAt l 1 a b f from fun h => hfa h.2.2.1)
        go_wp2_with fail
        go_roundg (gk - 2)
        case measure => omega
        case rel => exact ⟨f + 2, by omega, by go_num, by have := HM.out; omega, next_run rfl (by omega) HM.out HB.out HRA.out, HW.out⟩
    · have t1 : decide ((f : Int) + 2 ≤ E) = false := decide_eq_false hfs
      go_wp2
      go_ret2
      refine ⟨none, rfl, .inr (.inr fun x hx => ?_), HW.out⟩
      by_cases c : x < f
      · exact HB.out x c hx
      · have h2 := hx.2.1
        rw [HL.out] at h2
        have h3 : x + 2 ≤ n := h2
        have h4 : ((x + 2 : Nat) : Int) ≤ b := hx.2.2.2.1
        have h5 := HE.out.2.2 ((x + 2 : Nat) : Int) h4 (by omega)
        omega
set_option maxRecDepth 20000 in
set_option maxHeartbeats 800000 in
theorem runNil_1 (a b : Int) (w : World) :
    Calls Try.prog 74 #[.pointer none, .int .i64 1, .int .i64 a, .int .i64 b] w fun e w' => e = .returned (.tuple #[.int .i64 0, .bool false]) ∧ Below w.heap.size w w' := by
  obtain ⟨E, hE⟩ : ∃ E : Int, min b 0 = E := ⟨_, rfl⟩
  have HE := Lib.hid (show E ≤ 0 from by rw [← hE]; exact Int.min_le_right _ _)
  have hw1 : IntKind.i64.wrap 2 = 2 := by rw [IntKind.wrap_i64]; omega
  have EN := Lib.hid (fun (W : World) (hW : Below w.heap.size w W) => (end_nil W).mono (fun e w' h => (⟨h.1, h.2 ▸ hW⟩ : e = .returned (.int .i64 0) ∧ Below w.heap.size w w')))
  have t1 : decide ((2 : Int) ≤ E) = false := decide_eq_false (by have := HE.out; omega)
  have BR := Lib.hid (Below.refl w.heap.size w)
  go_enter Try.func74, Try.ntmps74
  go_wp2_with fail
  go_region_held3 (fun w' => Below w.heap.size w w')
    (first | assumption | exact BR.out.drew | exact BR.out)
    ((go_at_call 57; refine (EN.out _ ?_).mono ?_; (first | assumption | exact BR.out.drew); rintro e w' ⟨rfl, hls⟩))
  go_wp2_with fail
  go_loopg [12] 0 (fun gg s12 wx => s12 = .int .i64 0 ∧ Below w.heap.size w wx)
  case atStart => exact ⟨rfl, by assumption⟩
  case round =>
    obtain ⟨rfl, hbw⟩ := hrel
    go_wp2
    go_ret2
    exact ⟨rfl, hbw⟩
set_option maxRecDepth 20000 in
set_option maxHeartbeats 1600000 in
theorem run_2 (gS gL n : Nat) (l : List Bool) (a b : Int) (w : World) (hs : Blk w gS 93 (setV gL n)) (ho : Own8 w gL l) (hl : l.length = n) (hn : n ≤ 1024) :
    Calls Try.prog 74 #[.pointer (some ⟨gS, 0, none⟩), .int .i64 2, .int .i64 a, .int .i64 b] w fun e w' => ∃ r, e = .returned (runV r) ∧ RunIs l 2 a b r ∧ Below w.heap.size w w' := by
  have HS := Lib.hid hs
  have HO := Lib.hid ho
  have HL := Lib.hid hl
  obtain ⟨E, hE⟩ : ∃ E : Int, min b (n : Int) = E := ⟨_, rfl⟩
  have HE := Lib.hid (show E ≤ b ∧ E ≤ (n : Int) ∧ ∀ x : Int, x ≤ b → x ≤ (n : Int) → x ≤ E from by rw [← hE]; exact ⟨Int.min_le_left _ _, Int.min_le_right _ _, fun x h1 h2 => Int.le_min.2 ⟨h1, h2⟩⟩)
  have hw1 : IntKind.i64.wrap 4 = 4 := by rw [IntKind.wrap_i64]; omega
  have EN := Lib.hid (fun (W : World) (hW : Below w.heap.size w W) => (end_any gS gL n W ((hW.cell (p := ⟨gS, 0, none⟩) HS.out.lt).trans (HS.out.cell 0))).mono (fun e w' h => (⟨h.1, h.2 ▸ hW⟩ : e = .returned (.int .i64 (n : Int)) ∧ Below w.heap.size w w')))
  have KP := Lib.hid (fun (W : World) (hW : Below w.heap.size w W) => (⟨(hW.cell (p := ⟨gS, 0, none⟩) HS.out.lt).trans (HS.out.cell 0), hW⟩ : W.cell? ⟨gS, 0, none⟩ = some (.slice (some ⟨gL, 0, none⟩) n n) ∧ Below w.heap.size w W))
  have BR := Lib.hid (Below.refl w.heap.size w)
  clear hs ho hl
  go_enter Try.func74, Try.ntmps74
  go_wp2_with fail
  go_region_held3 (fun w' => w'.cell? ⟨gS, 0, none⟩ = some (.slice (some ⟨gL, 0, none⟩) n n) ∧ Below w.heap.size w w')
    (first | assumption | exact KP.out _ BR.out.drew | exact KP.out _ (by assumption))
    ((go_at_call 57; refine (EN.out _ ?_).mono ?_; (first | assumption | exact (And.right (by assumption))); rintro e w' ⟨rfl, hls⟩))
  go_wp2_with fail
  go_loopg [12] (n + 64) (fun gg s12 wx => ∃ f : Nat, f + gg = n + 64 ∧ s12 = .int .i64 (f : Int) ∧ f % 4 = 0 ∧ (∀ x, x < f → ¬ RunAt l 2 a b x) ∧ Below w.heap.size w wx)
  case atStart => exact ⟨0, by omega, rfl, rfl, fun x hx => absurd hx (by omega), by assumption⟩
  case round =>
    obtain ⟨f, hfg, rfl, hm, hb, hbw⟩ := hrel
    have HM := Lib.hid hm
    have HB := Lib.hid hb
    have HW := Lib.hid hbw
    have c0 : wr.cell? ⟨gS, 0, none⟩ = some (.slice (some ⟨gL, 0, none⟩) n n) := (hbw.cell (p := ⟨gS, 0, none⟩) HS.out.lt).trans (HS.out.cell 0)
    have HO9 := Lib.hid (HO.out.below hbw)
    clear hm hb hbw
    by_cases hfs : (f : Int) + 4 ≤ E
    · have t1 : decide ((f : Int) + 4 ≤ E) = true := decide_eq_true hfs
      have HFN := Lib.hid (show f + 4 ≤ n from by have := HE.out.2.1; omega)
      by_cases hfa : a ≤ (f : Int)
      · have t2 : decide (a ≤ (f : Int)) = true := decide_eq_true hfa
        have CB := Lib.hid (containsB_any gL f 4 (n - f) l wr (by omega) (fun j hj => HO9.out.at_ (by rw [HL.out]; have := HFN.out; omega)))
        go_wp2_with fail
        refine CB.out.mono ?_
        rintro e w' ⟨y, rfl, hy, rfl⟩
        cases y with
        | false =>
          have HRA := Lib.hid (show RunAt l 2 a b f from ⟨HM.out, by rw [HL.out]; exact HFN.out, hfa, by have := HE.out.1; simp; omega, hy.1 rfl⟩)
          clear hy
          go_wp2
          go_ret2
          exact ⟨some f, rfl, ⟨by omega, by omega, HRA.out, HB.out⟩, HW.out⟩
        | true =>
          have HRA := Lib.hid (show ¬ RunAt l 2 a b f from fun h => by have := hy.2 h.2.2.2.2; cases this)
          clear hy
          go_wp2_with fail
          go_roundg (gk - 4)
          case measure => omega
          case rel => exact ⟨f + 4, by omega, by go_num, by have := HM.out; omega, next_run rfl (by omega) HM.out HB.out HRA.out, HW.out⟩
      · have t2 : decide (a ≤ (f : Int)) = false := decide_eq_false hfa
        have HRA := Lib.hid (show ¬ RunAt l 2 a b f from fun h => hfa h.2.2.1)
        go_wp2_with fail
        go_roundg (gk - 4)
        case measure => omega
        case rel => exact ⟨f + 4, by omega, by go_num, by have := HM.out; omega, next_run rfl (by omega) HM.out HB.out HRA.out, HW.out⟩
    · have t1 : decide ((f : Int) + 4 ≤ E) = false := decide_eq_false hfs
      go_wp2
      go_ret2
      refine ⟨none, rfl, .inr (.inr fun x hx => ?_), HW.out⟩
      by_cases c : x < f
      · exact HB.out x c hx
      · have h2 := hx.2.1
        rw [HL.out] at h2
        have h3 : x + 4 ≤ n := h2
        have h4 : ((x + 4 : Nat) : Int) ≤ b := hx.2.2.2.1
        have h5 := HE.out.2.2 ((x + 4 : Nat) : Int) h4 (by omega)
        omega
set_option maxRecDepth 20000 in
set_option maxHeartbeats 800000 in
theorem runNil_2 (a b : Int) (w : World) :
    Calls Try.prog 74 #[.pointer none, .int .i64 2, .int .i64 a, .int .i64 b] w fun e w' => e = .returned (.tuple #[.int .i64 0, .bool false]) ∧ Below w.heap.size w w' := by
  obtain ⟨E, hE⟩ : ∃ E : Int, min b 0 = E := ⟨_, rfl⟩
  have HE := Lib.hid (show E ≤ 0 from by rw [← hE]; exact Int.min_le_right _ _)
  have hw1 : IntKind.i64.wrap 4 = 4 := by rw [IntKind.wrap_i64]; omega
  have EN := Lib.hid (fun (W : World) (hW : Below w.heap.size w W) => (end_nil W).mono (fun e w' h => (⟨h.1, h.2 ▸ hW⟩ : e = .returned (.int .i64 0) ∧ Below w.heap.size w w')))
  have t1 : decide ((4 : Int) ≤ E) = false := decide_eq_false (by have := HE.out; omega)
  have BR := Lib.hid (Below.refl w.heap.size w)
  go_enter Try.func74, Try.ntmps74
  go_wp2_with fail
  go_region_held3 (fun w' => Below w.heap.size w w')
    (first | assumption | exact BR.out.drew | exact BR.out)
    ((go_at_call 57; refine (EN.out _ ?_).mono ?_; (first | assumption | exact BR.out.drew); rintro e w' ⟨rfl, hls⟩))
  go_wp2_with fail
  go_loopg [12] 0 (fun gg s12 wx => s12 = .int .i64 0 ∧ Below w.heap.size w wx)
  case atStart => exact ⟨rfl, by assumption⟩
  case round =>
    obtain ⟨rfl, hbw⟩ := hrel
    go_wp2
    go_ret2
    exact ⟨rfl, hbw⟩
set_option maxRecDepth 20000 in
set_option maxHeartbeats 1600000 in
theorem run_3 (gS gL n : Nat) (l : List Bool) (a b : Int) (w : World) (hs : Blk w gS 93 (setV gL n)) (ho : Own8 w gL l) (hl : l.length = n) (hn : n ≤ 1024) :
    Calls Try.prog 74 #[.pointer (some ⟨gS, 0, none⟩), .int .i64 3, .int .i64 a, .int .i64 b] w fun e w' => ∃ r, e = .returned (runV r) ∧ RunIs l 3 a b r ∧ Below w.heap.size w w' := by
  have HS := Lib.hid hs
  have HO := Lib.hid ho
  have HL := Lib.hid hl
  obtain ⟨E, hE⟩ : ∃ E : Int, min b (n : Int) = E := ⟨_, rfl⟩
  have HE := Lib.hid (show E ≤ b ∧ E ≤ (n : Int) ∧ ∀ x : Int, x ≤ b → x ≤ (n : Int) → x ≤ E from by rw [← hE]; exact ⟨Int.min_le_left _ _, Int.min_le_right _ _, fun x h1 h2 => Int.le_min.2 ⟨h1, h2⟩⟩)
  have hw1 : IntKind.i64.wrap 8 = 8 := by rw [IntKind.wrap_i64]; omega
  have EN := Lib.hid (fun (W : World) (hW : Below w.heap.size w W) => (end_any gS gL n W ((hW.cell (p := ⟨gS, 0, none⟩) HS.out.lt).trans (HS.out.cell 0))).mono (fun e w' h => (⟨h.1, h.2 ▸ hW⟩ : e = .returned (.int .i64 (n : Int)) ∧ Below w.heap.size w w')))
  have KP := Lib.hid (fun (W : World) (hW : Below w.heap.size w W) => (⟨(hW.cell (p := ⟨gS, 0, none⟩) HS.out.lt).trans (HS.out.cell 0), hW⟩ : W.cell? ⟨gS, 0, none⟩ = some (.slice (some ⟨gL, 0, none⟩) n n) ∧ Below w.heap.size w W))
  have BR := Lib.hid (Below.refl w.heap.size w)
  clear hs ho hl
  go_enter Try.func74, Try.ntmps74
  go_wp2_with fail
  go_region_held3 (fun w' => w'.cell? ⟨gS, 0, none⟩ = some (.slice (some ⟨gL, 0, none⟩) n n) ∧ Below w.heap.size w w')
    (first | assumption | exact KP.out _ BR.out.drew | exact KP.out _ (by assumption))
    ((go_at_call 57; refine (EN.out _ ?_).mono ?_; (first | assumption | exact (And.right (by assumption))); rintro e w' ⟨rfl, hls⟩))
  go_wp2_with fail
  go_loopg [12] (n + 64) (fun gg s12 wx => ∃ f : Nat, f + gg = n + 64 ∧ s12 = .int .i64 (f : Int) ∧ f % 8 = 0 ∧ (∀ x, x < f → ¬ RunAt l 3 a b x) ∧ Below w.heap.size w wx)
  case atStart => exact ⟨0, by omega, rfl, rfl, fun x hx => absurd hx (by omega), by assumption⟩
  case round =>
    obtain ⟨f, hfg, rfl, hm, hb, hbw⟩ := hrel
    have HM := Lib.hid hm
    have HB := Lib.hid hb
    have HW := Lib.hid hbw
    have c0 : wr.cell? ⟨gS, 0, none⟩ = some (.slice (some ⟨gL, 0, none⟩) n n) := (hbw.cell (p := ⟨gS, 0, none⟩) HS.out.lt).trans (HS.out.cell 0)
    have HO9 := Lib.hid (HO.out.below hbw)
    clear hm hb hbw
    by_cases hfs : (f : Int) + 8 ≤ E
    · have t1 : decide ((f : Int) + 8 ≤ E) = true := decide_eq_true hfs
      have HFN := Lib.hid (show f + 8 ≤ n from by have := HE.out.2.1; omega)
      by_cases hfa : a ≤ (f : Int)
      · have t2 : decide (a ≤ (f : Int)) = true := decide_eq_true hfa
        have CB := Lib.hid (containsB_any gL f 8 (n - f) l wr (by omega) (fun j hj => HO9.out.at_ (by rw [HL.out]; have := HFN.out; omega)))
        go_wp2_with fail
        refine CB.out.mono ?_
        rintro e w' ⟨y, rfl, hy, rfl⟩
        cases y with
        | false =>
          have HRA := Lib.hid (show RunAt l 3 a b f from ⟨HM.out, by rw [HL.out]; exact HFN.out, hfa, by have := HE.out.1; simp; omega, hy.1 rfl⟩)
          clear hy
          go_wp2
          go_ret2
          exact ⟨some f, rfl, ⟨by omega, by omega, HRA.out, HB.out⟩, HW.out⟩
        | true =>
          have HRA := Lib.hid (show ¬ RunAt l 3 a b f from fun h => by have := hy.2 h.2.2.2.2; cases this)
          clear hy
          go_wp2_with fail
          go_roundg (gk - 8)
          case measure => omega
          case rel => exact ⟨f + 8, by omega, by go_num, by have := HM.out; omega, next_run rfl (by omega) HM.out HB.out HRA.out, HW.out⟩
      · have t2 : decide (a ≤ (f : Int)) = false := decide_eq_false hfa
        have HRA := Lib.hid (show ¬ RunAt l 3 a b f from fun h => hfa h.2.2.1)
        go_wp2_with fail
        go_roundg (gk - 8)
        case measure => omega
        case rel => exact ⟨f + 8, by omega, by go_num, by have := HM.out; omega, next_run rfl (by omega) HM.out HB.out HRA.out, HW.out⟩
    · have t1 : decide ((f : Int) + 8 ≤ E) = false := decide_eq_false hfs
      go_wp2
      go_ret2
      refine ⟨none, rfl, .inr (.inr fun x hx => ?_), HW.out⟩
      by_cases c : x < f
      · exact HB.out x c hx
      · have h2 := hx.2.1
        rw [HL.out] at h2
        have h3 : x + 8 ≤ n := h2
        have h4 : ((x + 8 : Nat) : Int) ≤ b := hx.2.2.2.1
        have h5 := HE.out.2.2 ((x + 8 : Nat) : Int) h4 (by omega)
        omega
set_option maxRecDepth 20000 in
set_option maxHeartbeats 800000 in
theorem runNil_3 (a b : Int) (w : World) :
    Calls Try.prog 74 #[.pointer none, .int .i64 3, .int .i64 a, .int .i64 b] w fun e w' => e = .returned (.tuple #[.int .i64 0, .bool false]) ∧ Below w.heap.size w w' := by
  obtain ⟨E, hE⟩ : ∃ E : Int, min b 0 = E := ⟨_, rfl⟩
  have HE := Lib.hid (show E ≤ 0 from by rw [← hE]; exact Int.min_le_right _ _)
  have hw1 : IntKind.i64.wrap 8 = 8 := by rw [IntKind.wrap_i64]; omega
  have EN := Lib.hid (fun (W : World) (hW : Below w.heap.size w W) => (end_nil W).mono (fun e w' h => (⟨h.1, h.2 ▸ hW⟩ : e = .returned (.int .i64 0) ∧ Below w.heap.size w w')))
  have t1 : decide ((8 : Int) ≤ E) = false := decide_eq_false (by have := HE.out; omega)
  have BR := Lib.hid (Below.refl w.heap.size w)
  go_enter Try.func74, Try.ntmps74
  go_wp2_with fail
  go_region_held3 (fun w' => Below w.heap.size w w')
    (first | assumption | exact BR.out.drew | exact BR.out)
    ((go_at_call 57; refine (EN.out _ ?_).mono ?_; (first | assumption | exact BR.out.drew); rintro e w' ⟨rfl, hls⟩))
  go_wp2_with fail
  go_loopg [12] 0 (fun gg s12 wx => s12 = .int .i64 0 ∧ Below w.heap.size w wx)
  case atStart => exact ⟨rfl, by assumption⟩
  case round =>
    obtain ⟨rfl, hbw⟩ := hrel
    go_wp2
    go_ret2
    exact ⟨rfl, hbw⟩
set_option maxRecDepth 20000 in
set_option maxHeartbeats 1600000 in
theorem run_4 (gS gL n : Nat) (l : List Bool) (a b : Int) (w : World) (hs : Blk w gS 93 (setV gL n)) (ho : Own8 w gL l) (hl : l.length = n) (hn : n ≤ 1024) :
    Calls Try.prog 74 #[.pointer (some ⟨gS, 0, none⟩), .int .i64 4, .int .i64 a, .int .i64 b] w fun e w' => ∃ r, e = .returned (runV r) ∧ RunIs l 4 a b r ∧ Below w.heap.size w w' := by
  have HS := Lib.hid hs
  have HO := Lib.hid ho
  have HL := Lib.hid hl
  obtain ⟨E, hE⟩ : ∃ E : Int, min b (n : Int) = E := ⟨_, rfl⟩
  have HE := Lib.hid (show E ≤ b ∧ E ≤ (n : Int) ∧ ∀ x : Int, x ≤ b → x ≤ (n : Int) → x ≤ E from by rw [← hE]; exact ⟨Int.min_le_left _ _, Int.min_le_right _ _, fun x h1 h2 => Int.le_min.2 ⟨h1, h2⟩⟩)
  have hw1 : IntKind.i64.wrap 16 = 16 := by rw [IntKind.wrap_i64]; omega
  have EN := Lib.hid (fun (W : World) (hW : Below w.heap.size w W) => (end_any gS gL n W ((hW.cell (p := ⟨gS, 0, none⟩) HS.out.lt).trans (HS.out.cell 0))).mono (fun e w' h => (⟨h.1, h.2 ▸ hW⟩ : e = .returned (.int .i64 (n : Int)) ∧ Below w.heap.size w w')))
  have KP := Lib.hid (fun (W : World) (hW : Below w.heap.size w W) => (⟨(hW.cell (p := ⟨gS, 0, none⟩) HS.out.lt).trans (HS.out.cell 0), hW⟩ : W.cell? ⟨gS, 0, none⟩ = some (.slice (some ⟨gL, 0, none⟩) n n) ∧ Below w.heap.size w W))
  have BR := Lib.hid (Below.refl w.heap.size w)
  clear hs ho hl
  go_enter Try.func74, Try.ntmps74
  go_wp2_with fail
  go_region_held3 (fun w' => w'.cell? ⟨gS, 0, none⟩ = some (.slice (some ⟨gL, 0, none⟩) n n) ∧ Below w.heap.size w w')
    (first | assumption | exact KP.out _ BR.out.drew | exact KP.out _ (by assumption))
    ((go_at_call 57; refine (EN.out _ ?_).mono ?_; (first | assumption | exact (And.right (by assumption))); rintro e w' ⟨rfl, hls⟩))
  go_wp2_with fail
  go_loopg [12] (n + 64) (fun gg s12 wx => ∃ f : Nat, f + gg = n + 64 ∧ s12 = .int .i64 (f : Int) ∧ f % 16 = 0 ∧ (∀ x, x < f → ¬ RunAt l 4 a b x) ∧ Below w.heap.size w wx)
  case atStart => exact ⟨0, by omega, rfl, rfl, fun x hx => absurd hx (by omega), by assumption⟩
  case round =>
    obtain ⟨f, hfg, rfl, hm, hb, hbw⟩ := hrel
    have HM := Lib.hid hm
    have HB := Lib.hid hb
    have HW := Lib.hid hbw
    have c0 : wr.cell? ⟨gS, 0, none⟩ = some (.slice (some ⟨gL, 0, none⟩) n n) := (hbw.cell (p := ⟨gS, 0, none⟩) HS.out.lt).trans (HS.out.cell 0)
    have HO9 := Lib.hid (HO.out.below hbw)
    clear hm hb hbw
    by_cases hfs : (f : Int) + 16 ≤ E
    · have t1 : decide ((f : Int) + 16 ≤ E) = true := decide_eq_true hfs
      have HFN := Lib.hid (show f + 16 ≤ n from by have := HE.out.2.1; omega)
      by_cases hfa : a ≤ (f : Int)
      · have t2 : decide (a ≤ (f : Int)) = true := decide_eq_true hfa
        have CB := Lib.hid (containsB_any gL f 16 (n - f) l wr (by omega) (fun j hj => HO9.out.at_ (by rw [HL.out]; have := HFN.out; omega)))
        go_wp2_with fail
        refine CB.out.mono ?_
        rintro e w' ⟨y, rfl, hy, rfl⟩
        cases y with
        | false =>
          have HRA := Lib.hid (show RunAt l 4 a b f from ⟨HM.out, by rw [HL.out]; exact HFN.out, hfa, by have := HE.out.1; simp; omega, hy.1 rfl⟩)
          clear hy
          go_wp2
          go_ret2
          exact ⟨some f, rfl, ⟨by omega, by omega, HRA.out, HB.out⟩, HW.out⟩
        | true =>
          have HRA := Lib.hid (show ¬ RunAt l 4 a b f from fun h => by have := hy.2 h.2.2.2.2; cases this)
          clear hy
          go_wp2_with fail
          go_roundg (gk - 16)
          case measure => omega
          case rel => exact ⟨f + 16, by omega, by go_num, by have := HM.out; omega, next_run rfl (by omega) HM.out HB.out HRA.out, HW.out⟩
      · have t2 : decide (a ≤ (f : Int)) = false := decide_eq_false hfa
        have HRA := Lib.hid (show ¬ RunAt l 4 a b f from fun h => hfa h.2.2.1)
        go_wp2_with fail
        go_roundg (gk - 16)
        case measure => omega
        case rel => exact ⟨f + 16, by omega, by go_num, by have := HM.out; omega, next_run rfl (by omega) HM.out HB.out HRA.out, HW.out⟩
    · have t1 : decide ((f : Int) + 16 ≤ E) = false := decide_eq_false hfs
      go_wp2
      go_ret2
      refine ⟨none, rfl, .inr (.inr fun x hx => ?_), HW.out⟩
      by_cases c : x < f
      · exact HB.out x c hx
      · have h2 := hx.2.1
        rw [HL.out] at h2
        have h3 : x + 16 ≤ n := h2
        have h4 : ((x + 16 : Nat) : Int) ≤ b := hx.2.2.2.1
        have h5 := HE.out.2.2 ((x + 16 : Nat) : Int) h4 (by omega)
        omega
set_option maxRecDepth 20000 in
set_option maxHeartbeats 800000 in
theorem runNil_4 (a b : Int) (w : World) :
    Calls Try.prog 74 #[.pointer none, .int .i64 4, .int .i64 a, .int .i64 b] w fun e w' => e = .returned (.tuple #[.int .i64 0, .bool false]) ∧ Below w.heap.size w w' := by
  obtain ⟨E, hE⟩ : ∃ E : Int, min b 0 = E := ⟨_, rfl⟩
  have HE := Lib.hid (show E ≤ 0 from by rw [← hE]; exact Int.min_le_right _ _)
  have hw1 : IntKind.i64.wrap 16 = 16 := by rw [IntKind.wrap_i64]; omega
  have EN := Lib.hid (fun (W : World) (hW : Below w.heap.size w W) => (end_nil W).mono (fun e w' h => (⟨h.1, h.2 ▸ hW⟩ : e = .returned (.int .i64 0) ∧ Below w.heap.size w w')))
  have t1 : decide ((16 : Int) ≤ E) = false := decide_eq_false (by have := HE.out; omega)
  have BR := Lib.hid (Below.refl w.heap.size w)
  go_enter Try.func74, Try.ntmps74
  go_wp2_with fail
  go_region_held3 (fun w' => Below w.heap.size w w')
    (first | assumption | exact BR.out.drew | exact BR.out)
    ((go_at_call 57; refine (EN.out _ ?_).mono ?_; (first | assumption | exact BR.out.drew); rintro e w' ⟨rfl, hls⟩))
  go_wp2_with fail
  go_loopg [12] 0 (fun gg s12 wx => s12 = .int .i64 0 ∧ Below w.heap.size w wx)
  case atStart => exact ⟨rfl, by assumption⟩
  case round =>
    obtain ⟨rfl, hbw⟩ := hrel
    go_wp2
    go_ret2
    exact ⟨rfl, hbw⟩
set_option maxRecDepth 20000 in
set_option maxHeartbeats 1600000 in
theorem run_5 (gS gL n : Nat) (l : List Bool) (a b : Int) (w : World) (hs : Blk w gS 93 (setV gL n)) (ho : Own8 w gL l) (hl : l.length = n) (hn : n ≤ 1024) :
    Calls Try.prog 74 #[.pointer (some ⟨gS, 0, none⟩), .int .i64 5, .int .i64 a, .int .i64 b] w fun e w' => ∃ r, e = .returned (runV r) ∧ RunIs l 5 a b r ∧ Below w.heap.size w w' := by
  have HS := Lib.hid hs
  have HO := Lib.hid ho
  have HL := Lib.hid hl
  obtain ⟨E, hE⟩ : ∃ E : Int, min b (n : Int) = E := ⟨_, rfl⟩
  have HE := Lib.hid (show E ≤ b ∧ E ≤ (n : Int) ∧ ∀ x : Int, x ≤ b → x ≤ (n : Int) → x ≤ E from by rw [← hE]; exact ⟨Int.min_le_left _ _, Int.min_le_right _ _, fun x h1 h2 => Int.le_min.2 ⟨h1, h2⟩⟩)
  have hw1 : IntKind.i64.wrap 32 = 32 := by rw [IntKind.wrap_i64]; omega
  have EN := Lib.hid (fun (W : World) (hW : Below w.heap.size w W) => (end_any gS gL n W ((hW.cell (p := ⟨gS, 0, none⟩) HS.out.lt).trans (HS.out.cell 0))).mono (fun e w' h => (⟨h.1, h.2 ▸ hW⟩ : e = .returned (.int .i64 (n : Int)) ∧ Below w.heap.size w w')))
  have KP := Lib.hid (fun (W : World) (hW : Below w.heap.size w W) => (⟨(hW.cell (p := ⟨gS, 0, none⟩) HS.out.lt).trans (HS.out.cell 0), hW⟩ : W.cell? ⟨gS, 0, none⟩ = some (.slice (some ⟨gL, 0, none⟩) n n) ∧ Below w.heap.size w W))
  have BR := Lib.hid (Below.refl w.heap.size w)
  clear hs ho hl
  go_enter Try.func74, Try.ntmps74
  go_wp2_with fail
  go_region_held3 (fun w' => w'.cell? ⟨gS, 0, none⟩ = some (.slice (some ⟨gL, 0, none⟩) n n) ∧ Below w.heap.size w w')
    (first | assumption | exact KP.out _ BR.out.drew | exact KP.out _ (by assumption))
    ((go_at_call 57; refine (EN.out _ ?_).mono ?_; (first | assumption | exact (And.right (by assumption))); rintro e w' ⟨rfl, hls⟩))
  go_wp2_with fail
  go_loopg [12] (n + 64) (fun gg s12 wx => ∃ f : Nat, f + gg = n + 64 ∧ s12 = .int .i64 (f : Int) ∧ f % 32 = 0 ∧ (∀ x, x < f → ¬ RunAt l 5 a b x) ∧ Below w.heap.size w wx)
  case atStart => exact ⟨0, by omega, rfl, rfl, fun x hx => absurd hx (by omega), by assumption⟩
  case round =>
    obtain ⟨f, hfg, rfl, hm, hb, hbw⟩ := hrel
    have HM := Lib.hid hm
    have HB := Lib.hid hb
    have HW := Lib.hid hbw
    have c0 : wr.cell? ⟨gS, 0, none⟩ = some (.slice (some ⟨gL, 0, none⟩) n n) := (hbw.cell (p := ⟨gS, 0, none⟩) HS.out.lt).trans (HS.out.cell 0)
    have HO9 := Lib.hid (HO.out.below hbw)
    clear hm hb hbw
    by_cases hfs : (f : Int) + 32 ≤ E
    · have t1 : decide ((f : Int) + 32 ≤ E) = true := decide_eq_true hfs
      have HFN := Lib.hid (show f + 32 ≤ n from by have := HE.out.2.1; omega)
      by_cases hfa : a ≤ (f : Int)
      · have t2 : decide (a ≤ (f : Int)) = true := decide_eq_true hfa
        have CB := Lib.hid (containsB_any gL f 32 (n - f) l wr (by omega) (fun j hj => HO9.out.at_ (by rw [HL.out]; have := HFN.out; omega)))
        go_wp2_with fail
        refine CB.out.mono ?_
        rintro e w' ⟨y, rfl, hy, rfl⟩
        cases y with
        | false =>
          have HRA := Lib.hid (show RunAt l 5 a b f from ⟨HM.out, by rw [HL.out]; exact HFN.out, hfa, by have := HE.out.1; simp; omega, hy.1 rfl⟩)
          clear hy
          go_wp2
          go_ret2
          exact ⟨some f, rfl, ⟨by omega, by omega, HRA.out, HB.out⟩, HW.out⟩
        | true =>
          have HRA := Lib.hid (show ¬ RunAt l 5 a b f from fun h => by have := hy.2 h.2.2.2.2; cases this)
          clear hy
          go_wp2_with fail
          go_roundg (gk - 32)
          case measure => omega
          case rel => exact ⟨f + 32, by omega, by go_num, by have := HM.out; omega, next_run rfl (by omega) HM.out HB.out HRA.out, HW.out⟩
      · have t2 : decide (a ≤ (f : Int)) = false := decide_eq_false hfa
        have HRA := Lib.hid (show ¬ RunAt l 5 a b f from fun h => hfa h.2.2.1)
        go_wp2_with fail
        go_roundg (gk - 32)
        case measure => omega
        case rel => exact ⟨f + 32, by omega, by go_num, by have := HM.out; omega, next_run rfl (by omega) HM.out HB.out HRA.out, HW.out⟩
    · have t1 : decide ((f : Int) + 32 ≤ E) = false := decide_eq_false hfs
      go_wp2
      go_ret2
      refine ⟨none, rfl, .inr (.inr fun x hx => ?_), HW.out⟩
      by_cases c : x < f
      · exact HB.out x c hx
      · have h2 := hx.2.1
        rw [HL.out] at h2
        have h3 : x + 32 ≤ n := h2
        have h4 : ((x + 32 : Nat) : Int) ≤ b := hx.2.2.2.1
        have h5 := HE.out.2.2 ((x + 32 : Nat) : Int) h4 (by omega)
        omega
set_option maxRecDepth 20000 in
set_option maxHeartbeats 800000 in
theorem runNil_5 (a b : Int) (w : World) :
    Calls Try.prog 74 #[.pointer none, .int .i64 5, .int .i64 a, .int .i64 b] w fun e w' => e = .returned (.tuple #[.int .i64 0, .bool false]) ∧ Below w.heap.size w w' := by
  obtain ⟨E, hE⟩ : ∃ E : Int, min b 0 = E := ⟨_, rfl⟩
  have HE := Lib.hid (show E ≤ 0 from by rw [← hE]; exact Int.min_le_right _ _)
  have hw1 : IntKind.i64.wrap 32 = 32 := by rw [IntKind.wrap_i64]; omega
  have EN := Lib.hid (fun (W : World) (hW : Below w.heap.size w W) => (end_nil W).mono (fun e w' h => (⟨h.1, h.2 ▸ hW⟩ : e = .returned (.int .i64 0) ∧ Below w.heap.size w w')))
  have t1 : decide ((32 : Int) ≤ E) = false := decide_eq_false (by have := HE.out; omega)
  have BR := Lib.hid (Below.refl w.heap.size w)
  go_enter Try.func74, Try.ntmps74
  go_wp2_with fail
  go_region_held3 (fun w' => Below w.heap.size w w')
    (first | assumption | exact BR.out.drew | exact BR.out)
    ((go_at_call 57; refine (EN.out _ ?_).mono ?_; (first | assumption | exact BR.out.drew); rintro e w' ⟨rfl, hls⟩))
  go_wp2_with fail
  go_loopg [12] 0 (fun gg s12 wx => s12 = .int .i64 0 ∧ Below w.heap.size w wx)
  case atStart => exact ⟨rfl, by assumption⟩
  case round =>
    obtain ⟨rfl, hbw⟩ := hrel
    go_wp2
    go_ret2
    exact ⟨rfl, hbw⟩
theorem runs_run (gS : Nat) (K : Nat → Prop) (l : List Bool) (o a b : Int) (w : World) (h : RunMem w gS K l) :
    Calls Try.prog 74 #[.pointer (some ⟨gS, 0, none⟩), .int .i64 o, .int .i64 a, .int .i64 b] w fun e w' => ∃ r, e = .returned (runV r) ∧ RunIs l o a b r ∧ Below w.heap.size w w' := by
  obtain ⟨gL, rfl, h1, h2, h3, h4⟩ := h
  by_cases h : o < 0 ∨ 5 < o
  · refine (run_none _ l o a b w h).mono ?_
    rintro e w' ⟨rfl, rfl⟩
    exact ⟨none, rfl, h.elim .inl (fun h => .inr (.inl h)), Below.refl _ _⟩
  · have : o = 0 ∨ o = 1 ∨ o = 2 ∨ o = 3 ∨ o = 4 ∨ o = 5 := by omega
    rcases this with rfl | rfl | rfl | rfl | rfl | rfl
    · exact run_0 gS gL _ l a b w h1 h2 rfl h4
    · exact run_1 gS gL _ l a b w h1 h2 rfl h4
    · exact run_2 gS gL _ l a b w h1 h2 rfl h4
    · exact run_3 gS gL _ l a b w h1 h2 rfl h4
    · exact run_4 gS gL _ l a b w h1 h2 rfl h4
    · exact run_5 gS gL _ l a b w h1 h2 rfl h4
theorem runs_run_nil (o a b : Int) (w : World) : Calls Try.prog 74 #[.pointer none, .int .i64 o, .int .i64 a, .int .i64 b] w fun e w' => e = .returned (.tuple #[.int .i64 0, .bool false]) ∧ Below w.heap.size w w' := by
  by_cases h : o < 0 ∨ 5 < o
  · refine (run_none none [] o a b w h).mono ?_
    rintro e w' ⟨rfl, rfl⟩
    exact ⟨rfl, Below.refl _ _⟩
  · have : o = 0 ∨ o = 1 ∨ o = 2 ∨ o = 3 ∨ o = 4 ∨ o = 5 := by omega
    rcases this with rfl | rfl | rfl | rfl | rfl | rfl
    · exact runNil_0 a b w
    · exact runNil_1 a b w
    · exact runNil_2 a b w
    · exact runNil_3 a b w
    · exact runNil_4 a b w
    · exact runNil_5 a b w
end Go.Proofs.Ytegoookllckhiaa

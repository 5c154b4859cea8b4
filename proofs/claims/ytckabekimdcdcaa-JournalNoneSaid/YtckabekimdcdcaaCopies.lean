/-
  'copy' of bytes into a block that is known whole, outside a region and inside one; only that block turns. Nothing of the program is named here.
  Conditions: none beside those that each line bears.
-/
import Derived.Test.YtckabekimdcdcaaPlain
import Derived.Laws.CopyOwn
import Derived.Deep.MidRow
import Derived.WalkKit
import Derived.Lib.Hide
namespace Go.Proofs.Ytckabekimdcdcaa
open Go.RowKit
set_option linter.unusedVariables false

/-- Only block g turns, and none comes. -/
def Only (g : Nat) (w w' : World) : Prop := w.grownBy w' (some g) ∧ w'.heap.size = w.heap.size
theorem Only.refl (g : Nat) (w : World) : Only g w w := ⟨World.grownBy.refl _ _, rfl⟩
theorem Only.trans {g : Nat} {a b c : World} (h : Only g a b) (k : Only g b c) : Only g a c :=
  ⟨⟨k.1.os.trans h.1.os, k.1.tape.trans h.1.tape, k.1.output.trans h.1.output, by rw [k.2, h.2]; exact Nat.le_refl _, fun i hi hne => (k.1.block i (by rw [h.2]; exact hi) hne).trans (h.1.block i hi hne)⟩, k.2.trans h.2⟩
theorem Only.below {g B : Nat} {w w' : World} (h : Only g w w') (hg : B ≤ g) (hB : B ≤ w.heap.size) : Below B w w' :=
  (Below.refl B w).grown h.1 hB (fun k hk => by cases hk; exact hg)
theorem Only.blk {g k : Nat} {w w' : World} {t : TypeId} {cs : Array Value} (h : Only g w w') (hb : Blk w k t cs) (hne : k ≠ g) : Blk w' k t cs :=
  (h.1.block k hb.lt (fun e => hne (by injection e))).trans hb
theorem Only.setCell {g : Nat} {w w' : World} (h : Only g w w') (i : Nat) (u : Value) : Only g w (w'.setCell ⟨g, i, none⟩ u) := by
  refine ⟨⟨h.1.os, h.1.tape, h.1.output, by simpa [World.setCell] using h.1.size, fun k hk hne => ?_⟩, by simpa [World.setCell] using h.2⟩
  rw [Below.heap_setCell _ _ _ _ (by rintro rfl; exact hne rfl)]
  exact h.1.block k hk hne
theorem Only.setRow {w : World} {g : Nat} {t : TypeId} {cur : Array Value} (cs : Array Value) : Only g w (w.setRow g cs) :=
  ⟨⟨rfl, rfl, rfl, by simp [World.setRow], fun k hk hne => setRow_other w g k cs (fun e => hne (by rw [e]))⟩, by simp [World.setRow]⟩
theorem Only.bts {g B : Nat} {w w' : World} {v : Value} {xs : List Nat} (h : Only g w w') (hb : Bts w B v xs) (hg : B ≤ g) (hB : B ≤ w.heap.size) : Bts w' B v xs := hb.below (h.below hg hB)

theorem bts_src {w : World} {B sLen sCap : Nat} {sp : Option Addr} {ys : List Nat} (hr : Bts w B (.slice sp sLen sCap) ys) (h0 : 0 < ys.length) :
    ∃ ad, sp = some ad ∧ ∀ j v, (ys.map bv)[j]? = some v → w.cell? (ad.add j) = some v := by
  obtain ⟨A, m, c, hv, hl, hm, ⟨hc, hnn⟩, hcm, hb, hcell⟩ := hr
  injection hv with e1 e2 e3
  subst e1 e2 e3
  obtain ⟨b, off', he, _, hc'⟩ := hcell (by omega)
  refine ⟨_, he, fun j v hv => ?_⟩
  have hj : j < ys.length := by
    have := (List.getElem?_eq_some_iff.1 hv).1
    simpa using this
  have hcj := hc' j (by omega)
  simp [hj] at hv hcj
  subst hv
  have e2 : (Addr.mk b off' none).add j = ⟨b, off' + j, none⟩ := by unfold Addr.add; split <;> simp_all
  rw [e2, hcj]
  rfl
theorem bts_len {w : World} {B sLen sCap : Nat} {sp : Option Addr} {ys : List Nat} (hr : Bts w B (.slice sp sLen sCap) ys) : ys.length = sLen := by
  obtain ⟨A, m, c, hv, hl, _⟩ := hr
  injection hv with e1 e2 e3
  omega

theorem run_copy_bts {P : Program} {w : World} (dT sT ty : TypeId) (elem : TypeId) (hu : P.underlying dT = some (.slice elem)) (hsz : (P.info? elem).map (·.size) = some 1)
    (dp sp : Option Addr) (dLen dCap sLen sCap : Nat) (g off : Nat) (cur : Array Value) (t : TypeId) (hg : Blk w g t cur) (ys : List Nat) (B : Nat) (hr : Bts w B (.slice sp sLen sCap) ys)
    (hn : ys.length ≤ dLen) (hp : 0 < ys.length → dp = some ⟨g, off, none⟩) (hfit : off + ys.length ≤ cur.size) :
    ∃ w', (Builtin.copy_ #[dT, sT] ty #[.slice dp dLen dCap, .slice sp sLen sCap]).run P w = .ok (goInt (ys.map bv).length) w' ∧ Blk w' g t (splice cur.toList off (ys.map bv)).toArray ∧ Only g w w' := by
  have hl := bts_len hr
  by_cases h0 : ys.length = 0
  · obtain rfl : ys = [] := List.eq_nil_of_length_eq_zero h0
    refine ⟨w, ?_, by simpa [splice] using hg, Only.refl _ _⟩
    have hrun := run_copy_none (P := P) w dT sT ty elem dp sp dLen dCap sLen sCap hu hsz (by simp at hl; rw [← hl]; simp)
    simpa using hrun
  · obtain ⟨ad, rfl, hsrc⟩ := bts_src hr (by omega)
    obtain rfl := hp (by omega)
    have hrun := run_copy_row (P := P) w dT sT ty elem g off dLen dCap ad sLen sCap cur t (ys.map bv) hu hsz hg (by simp only [List.length_map, hl]; exact (Nat.min_eq_left (by omega)).symm) hsrc (by simpa using hfit) (map_bv_one ys)
    exact ⟨_, hrun, show _ = _ by simpa [splice] using setRow_heap w g _ _ t _ hg, Only.setRow (cur := cur) (t := t) _⟩

theorem wpList_copy_bts {P : Program} {w : World} {ops : Array Oper} {rest : List Oper} {o : Oper} {a : Act} {Q : Exit → Act → World → Prop} (hgd : o.guard = none) (d s : Operand) (dT sT : TypeId)
    (ho : o.op = .call { callee := .builtin .copy, args := #[d, s], argTypes := #[dT, sT] }) (elem : TypeId) (hu : P.underlying dT = some (.slice elem)) (hsz : (P.info? elem).map (·.size) = some 1)
    (dp sp : Option Addr) (dLen dCap sLen sCap : Nat) (hd : a.eval d = .slice dp dLen dCap) (hs : a.eval s = .slice sp sLen sCap)
    (g off : Nat) (cur : Array Value) (t : TypeId) (hg : Blk w g t cur) (ys : List Nat) (B : Nat) (hr : Bts w B (.slice sp sLen sCap) ys)
    (hn : ys.length ≤ dLen) (hp : 0 < ys.length → dp = some ⟨g, off, none⟩) (hfit : off + ys.length ≤ cur.size)
    (h : ∀ w', Hid (Blk w' g t (splice cur.toList off (ys.map bv)).toArray) → Hid (Only g w w') → wpList P ops Q rest (a.put o.dst (goInt (ys.map bv).length)) w') : wpList P ops Q (o :: rest) a w := by
  refine wpList_plain hgd fun K hK => ?_
  obtain ⟨w', hrun, h1, h2⟩ := run_copy_bts dT sT o.type elem hu hsz dp sp dLen dCap sLen sCap g off cur t hg ys B hr hn hp hfit
  unfold Oper.wp
  simp [execOp, ho, resolve, invoke, builtin, hd, hs, hrun, Result.andThen]
  exact hK _ _ (by simpa using h w' h1 h2)

theorem step_copy_bts {P : Program} {ops : Array Oper} {o : Oper} {a : Act} {w : World} {K : Act → World → Prop} {Q : Exit → Act → World → Prop} {E : Prop} (hgd : o.guard = none) (d s : Operand) (dT sT : TypeId)
    (ho : o.op = .call { callee := .builtin .copy, args := #[d, s], argTypes := #[dT, sT] }) (elem : TypeId) (hu : P.underlying dT = some (.slice elem)) (hsz : (P.info? elem).map (·.size) = some 1)
    (dp sp : Option Addr) (dLen dCap sLen sCap : Nat) (hd : a.eval d = .slice dp dLen dCap) (hs : a.eval s = .slice sp sLen sCap)
    (g off : Nat) (cur : Array Value) (t : TypeId) (hg : Blk w g t cur) (ys : List Nat) (B : Nat) (hr : Bts w B (.slice sp sLen sCap) ys)
    (hn : ys.length ≤ dLen) (hp : 0 < ys.length → dp = some ⟨g, off, none⟩) (hfit : off + ys.length ≤ cur.size)
    (h : ∀ w', Hid (Blk w' g t (splice cur.toList off (ys.map bv)).toArray) → Hid (Only g w w') → K (a.put o.dst (goInt (ys.map bv).length)) w') : if Region.wanted o (yielded ops a.tmps) = true then Oper.wp P o a w K Q else E := by
  have hw : Region.wanted o (yielded ops a.tmps) = true := by simp [Region.wanted, hgd]
  rw [if_pos hw]
  obtain ⟨w', hrun, h1, h2⟩ := run_copy_bts dT sT o.type elem hu hsz dp sp dLen dCap sLen sCap g off cur t hg ys B hr hn hp hfit
  have h3 := h w' h1 h2
  unfold Oper.wp
  simp [execOp, ho, resolve, invoke, builtin, hd, hs, hrun, Result.andThen]
  simp only [List.length_map] at h3
  exact h3

/-- n bytes that are 0, as made. -/
def zs (n : Nat) : Array Value := Array.replicate n (bv 0)
theorem zs_size (n : Nat) : (zs n).size = n := by simp [zs]
theorem madeCells_zs (n : Nat) : madeCells (Value.int .u8 0).cells (n * 1) = zs n := by
  apply Array.ext
  · simp [madeCells, zs]
  · intro i h1 h2
    simp [madeCells, zs, Value.cells, bv, Nat.mod_one]
theorem run_make_zs {P : Program} (t e : TypeId) (i : TypeInfo) (ht : P.underlying t = some (.slice e)) (hi : P.info? e = some i) (hz : i.zero = some (.int .u8 0)) (hs : i.size = 1) (hb : i.bytes = 1)
    (n : Nat) (hn : n ≤ 1000000) (w : World) :
    (Instr.makeSlice t (.int .i64 (n : Int)) (.int .i64 (n : Int))).run P w = .ok (.slice (some ⟨w.heap.size, 0, none⟩) n n) (w.alloc (.cells (zs n) e)) := by
  have hr := run_make (P := P) w t e i (.int .u8 0) ht hi hz .i64 .i64 n n (by omega) (by omega) (by rw [hb]; omega) (by omega)
  simp only [Int.toNat_natCast, hs, madeCells_zs] at hr
  exact hr
theorem splice_get {α : Type} (L : List α) (off : Nat) (cs : List α) (h : off + cs.length ≤ L.length) (j : Nat) :
    (splice L off cs)[j]? = if off ≤ j ∧ j < off + cs.length then cs[j - off]? else L[j]? := by
  have hp : (L.take off).length = off := by simp; omega
  unfold splice
  by_cases h1 : j < off
  · rw [if_neg (by omega), List.getElem?_append_left (by omega), List.getElem?_take, if_pos h1]
  · rw [List.getElem?_append_right (by omega), hp]
    by_cases h2 : j < off + cs.length
    · rw [if_pos ⟨by omega, h2⟩, List.getElem?_append_left (by omega)]
    · rw [if_neg (by omega), List.getElem?_append_right (by omega), List.getElem?_drop, show off + cs.length + (j - off - cs.length) = j by omega]
theorem splice_zs (n : Nat) (ys : List Nat) (h : ys.length = n) : (splice (zs n).toList 0 (ys.map bv)).toArray = (ys.map bv).toArray := by
  congr 1
  subst h
  simp [splice, zs]
/-- A block that is just these bytes, as a slice of them. -/
theorem Bts.of_whole {w : World} {g n : Nat} {t : TypeId} {xs : List Nat} (h : Blk w g t (xs.map bv).toArray) (hl : xs.length = n) (hn : n ≤ maxLen) (hb : ∀ y ∈ xs, y < 256) : Bts w w.heap.size (.slice (some ⟨g, 0, none⟩) n n) xs := by
  refine Bts.of_blk h h.lt hl (Nat.le_refl _) hn (fun j hj => ?_) (fun j hj => ?_)
  · have hj' : j < xs.length := by omega
    have := hb _ (List.getElem_mem hj')
    simpa [hj'] using this
  · have hj' : j < xs.length := by omega
    simp [hj']
end Go.Proofs.Ytckabekimdcdcaa

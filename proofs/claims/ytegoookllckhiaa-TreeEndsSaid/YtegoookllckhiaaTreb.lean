/-
  The contracts of a tree's put, Get, Set, Tables, Owns, Close and New.
  Conditions: those that each line bears.
-/
import Derived.Test.YtegoookllckhiaaTrea
import Derived.Test.YtegoookllckhiaaLift
import Derived.RangeFuncBox
import Derived.RangeFuncLeaves
import Derived.RangeFuncWrites
import Derived.RangeFuncCalls
import Derived.LoopNIn
import Derived.LoopIn
import Derived.Test.YtegoookllckhiaaApp
import Derived.Deep.RegionHeld3

/-! ## TrF: The library's Backward over four numbers; a region inside a round whose last operation is a call.   Conditions: those that each line bears. -/
namespace Go.Proofs.Ytegoookllckhiaa
open Go.RowKit Go.Shelf
set_option linter.unusedVariables false
attribute [local go_sem] Oper.semAt_some

/-- What blocks b and g have stays. -/
def KeepBG (b g : Nat) (W W' : World) : Prop := W'.heap[b]? = W.heap[b]? ∧ W'.heap[g]? = W.heap[g]?
theorem KeepBG.refl (b g : Nat) (W : World) : KeepBG b g W W := ⟨rfl, rfl⟩
theorem KeepBG.trans {b g : Nat} {A B C : World} (h : KeepBG b g A B) (k : KeepBG b g B C) : KeepBG b g A C := ⟨k.1.trans h.1, k.2.trans h.2⟩
/-- Four places, the last one first. -/
def downs (k : Nat) : List (Fin 4) := ([3, 2, 1, 0] : List (Fin 4)).take k
theorem downs_succ {j : Nat} (hj : j < 4) : downs (4 - (j + 1)) ++ [⟨j, hj⟩] = downs (4 - j) := by
  rcases four hj with rfl | rfl | rfl | rfl <;> rfl
def vI : Value → Int
  | .int _ z => z
  | _ => 0
def encW (way : List Nat) (x : Fin 4) : Array Value := #[.int .i64 ((x.1 : Nat) : Int), .int .i64 ((way.getD x.1 0 : Nat) : Int)]
set_option maxRecDepth 100000 in
set_option maxHeartbeats 1000000 in
theorem backward_any {n : Nat} (hn : 1 ≤ n) (Bx b o cap : Nat) (way : List Nat) (w : World) (hBx : Bx < w.heap.size) (hb : b < w.heap.size) (hx : w.cell? ⟨Bx, 0, none⟩ = some (.slice (some ⟨b, o, none⟩) 4 cap))
    (hc : ∀ j, j < 4 → w.cell? ⟨b, o + j, none⟩ = some (.int .i64 ((way.getD j 0 : Nat) : Int))) :
    SeqStopsK Fence.wide n Try.prog 70 #[.pointer (some ⟨Bx, 0, none⟩)] (encW way) (KeepBG b Bx) (fun ys => ys = downs 4) (fun _ => True) 4 w := by
  intro l J Jx W hW hJ _ hY h0
  have hx' : W.cell? ⟨Bx, 0, none⟩ = some (.slice (some ⟨b, o, none⟩) 4 cap) := (hW.cell (p := ⟨Bx, 0, none⟩) hBx).trans hx
  have hc' : ∀ j, j < 4 → W.cell? ⟨b, o + j, none⟩ = some (.int .i64 ((way.getD j 0 : Nat) : Int)) := fun j hj => (hW.cell (p := ⟨b, o + j, none⟩) hb).trans (hc j hj)
  have HC := Lib.hid hc'
  have HY := Lib.hid hY
  clear hx hc hc' hY
  refine callsIn_of_wp Try.func70 rfl trivial ?_ rfl
  simp only [Try.ntmps70, List.size_toArray, List.length_cons, List.length_nil, Nat.reduceAdd, Nat.reduceSub, Array.replicate_succ, Array.replicate_zero, List.push_toArray, List.append_toArray, List.nil_append, List.cons_append]
  gi_wp2
  gi_loopw [3] (fun i wr => ∃ j : Nat, j ≤ 4 ∧ i = .int .i64 ((j : Int) - 1) ∧ J (downs (4 - j)) wr ∧ KeepBG b Bx W wr)
    (fun i _ => (vI i + 1).toNat)
  case atStart => exact ⟨4, Nat.le_refl _, rfl, h0, KeepBG.refl _ _ _⟩
  case round =>
    obtain ⟨j, hj, rfl, hJs, hkp⟩ := hrel
    have HK := Lib.hid hkp
    have cx : wr.cell? ⟨Bx, 0, none⟩ = some (.slice (some ⟨b, o, none⟩) 4 cap) := (World.cell?_of_block hkp.2).trans hx'
    cases j with
    | zero =>
      gi_wp2
      go_end0
      exact ⟨⟨_, rfl⟩, .inl ⟨downs 4, rfl, hJs⟩⟩
    | succ j =>
      have hj4 : j < 4 := by omega
      have cb : wr.cell? ⟨b, o + j, none⟩ = some (.int .i64 ((way.getD j 0 : Nat) : Int)) := (World.cell?_of_block hkp.1).trans (HC.out j hj4)
      obtain ⟨fn, tmps, assign, body, hy, hR⟩ := HY.out (downs (4 - (j + 1))) ⟨j, hj4⟩ wr hJs (by unfold downs; rw [List.length_take]; simp; omega)
      unfold encW at hy
      dsimp only at hy
      obtain ⟨y, hyy⟩ : ∃ y, y = way.getD j 0 := ⟨_, rfl⟩
      rw [← hyy] at hy cb
      have e1 : (((j + 1 : Nat) : Int) - 1) = (j : Int) := by omega
      rw [e1]
      have t1 : decide ((0 : Int) ≤ (j : Int)) = true := decide_eq_true (by omega)
      have t2 : (j : Int) < 4 := by omega
      have t3 : (0 : Int) ≤ (j : Int) := by omega
      rw [downs_succ hj4] at hR
      clear hkp hyy hx'
      gi_wp2
      refine hR.mono ?_
      rintro e W3 (⟨rfl, hJ3, hk3⟩ | ⟨rfl, hJx3⟩)
      · gi_wp2
        go_roundw
        case rel => exact ⟨j, by omega, by go_num, hJ3, HK.out.trans hk3⟩
        case measure => simp [vI]
      · gi_wp2
        refine bodyPost_ret (results_none rfl _ _ _) rfl ?_
        exact ⟨⟨_, rfl⟩, .inr ⟨_, trivial, hJx3⟩⟩

/-! ### a region inside a round, with calls in it -/
def CallRes : Result Next → Prop
  | .ok (.value _) _ | .ok .skip _ | .ok (.enter _ _) _ | .halt _ _ => True
  | _ => False
theorem callRes_of_plain {r : Result Next} (h : PlainRes r) : CallRes r := by
  match r, h with
  | .ok (.value _) _, _ => exact trivial
  | .ok .skip _, _ => exact trivial
  | .halt _ _, _ => exact trivial
def OkIn (P : Program) (o : Oper) : Prop := (∀ c, o.op ≠ .defer c) ∧ ∀ (a : Act) (w : World), CallRes ((execOp a.eval o).run P w)
theorem OkIn.of_plain {P : Program} {o : Oper} (h : plainOp o = true) : OkIn P o := ⟨plain_defer h, fun ρ w => callRes_of_plain (plain_res h)⟩
theorem upon_in2 {l n : Nat} {P : Program} {o : Oper} {a : Act} {K : Act → World → Prop} {Q : Exit → Act → World → Prop} {r : Result Next} (hr : CallRes r) (h : o.upon P a K Q r) : o.uponIn (Fence.wide.inRound l) n P a K Q r := by
  match r, hr, h with
  | .ok (.value v) w', _, h => exact h
  | .ok .skip w', _, h => exact h
  | .ok (.enter f args) w', _, h => exact ⟨fun e => (by cases e), CallsIn.inRound l (callsIn_wide.2 h)⟩
  | .halt (.panic v) w', _, h => exact h
theorem wpOpIn_of2 {l n : Nat} {P : Program} {ops : Array Oper} {Q : Exit → Act → World → Prop} {i : Nat} {K K' : Act → World → Prop} {a : Act} {w : World} (hp : ∀ o ∈ ops, OkIn P o) (hL : ¬ LetsOut Q) (hK : ∀ a w, K a w → K' a w)
    (h : wpOp P ops Q i K a w) : wpOpIn (Fence.wide.inRound l) n P ops Q i K' a w := by
  unfold wpOp at h
  unfold wpOpIn
  cases ho : ops[i]? with
  | none => rw [ho] at h; exact hK _ _ h
  | some o =>
    rw [ho] at h
    have hpo := hp o (Array.mem_of_getElem? ho)
    have hab : ∀ f, o.about P w a.eval = some f → (Fence.wide.inRound l).fn f := fun f _ => trivial
    simp only at h ⊢
    split at h
    · rename_i hw
      rw [if_pos hw]
      rcases h with h | h
      · refine ⟨hab, ?_⟩
        rw [Oper.semAt_eq _ _ _ hpo.1]
        exact upon_in2 (hpo.2 _ _) (Oper.wp_mono hK h)
      · exact absurd h.2 hL
    · rename_i hw
      rw [if_neg hw]
      exact ⟨hab, hK _ _ h⟩
theorem wpAnyIn_of2 {l n : Nat} {P : Program} {md : Region.Mode} {ops : Array Oper} {Q : Exit → Act → World → Prop} (hp : ∀ o ∈ ops, OkIn P o) (hL : ¬ LetsOut Q) :
    ∀ (fuel : Nat) (listed : Array Bool) (a : Act) (w : World), wpAny P md ops Q fuel listed a w → wpAnyIn (Fence.wide.inRound l) n P md ops Q fuel listed a w
  | 0, _, _, _, h => h
  | fuel + 1, listed, a, w, h => ⟨h.1, fun i hi => wpOpIn_of2 hp hL (fun a' w' h' => wpAnyIn_of2 hp hL fuel _ a' w' h') (h.2 i hi)⟩
theorem wpIn_region_tail2 {l n : Nat} {P : Program} {id : Nat} {os : List Oper} {Q : Exit → Act → World → Prop} {a : Act} {w : World} (k : Nat) (hm : P.follows .mixedOrders = true) (hp : ∀ o ∈ os, OkIn P o) (hB : Region.lexTailB .any os.toArray k = true)
    (h : wpStill P os.toArray w.drew (fun a' => wpList P os.toArray (OnlyNormal Q) (os.drop k) a' w.drew) (os.take k) a) : (Code.region id os.toArray true).wpIn (Fence.wide.inRound l) n P Q a w := by
  refine Code.wpIn_mono (Q := OnlyNormal Q) ?_ (wpIn_region_any hm (wpAnyIn_of2 (fun o ho => ?_) ?_ _ _ _ _ (wpAny_tail k hB h)))
  · rintro e a' w' ⟨rfl, h⟩
    exact h
  · exact hp o (by simpa using ho)
  · rintro ⟨a', w', h1, _⟩
    cases h1
theorem okIn_call {P : Program} {o : Oper} {c : Call} {f : Nat} (ho : o.op = .call c) (hf : c.callee = .value (.func f)) (he : ∀ args w, (callFunc f args).run P w = .ok (.enter f args) w) : OkIn P o := by
  refine ⟨fun c' e => ?_, fun a w => ?_⟩
  · rw [ho] at e; cases e
  · have e : (execOp a.eval o).run P w = .ok (.enter f (c.args.map a.eval)) w := by
      simp only [execOp, ho, resolve, hf]
      simp [Act.eval, Deferred.ofValue, invoke, he, go_sem]
    rw [e]
    exact trivial
end Go.Proofs.Ytegoookllckhiaa

/-! ## TrG: The contract of a tree's put: from the end of a way back up it.   Conditions: those that each line bears. -/
namespace Go.Proofs.Ytegoookllckhiaa
open Go.RowKit Go.Shelf
set_option linter.unusedVariables false
attribute [local go_sem] Oper.semAt_some

def goPut (way : List Nat) (page : Nat) (s : PutS) (pre : List (Fin 4)) : PutS := pre.foldl (fun s i => putStep way page s i.1) s
theorem goPut_snoc (way : List Nat) (page : Nat) (s : PutS) (pre : List (Fin 4)) (i : Fin 4) : goPut way page s (pre ++ [i]) = putStep way page (goPut way page s pre) i.1 := by
  unfold goPut
  rw [List.foldl_append]
  rfl
/-- What stands in memory between two rounds. -/
structure PutW (w0 : World) (gT gR gF gP r gS gL B : Nat) (bad : Nat → Bool) (page : Nat) (s : PutS) (W : World) : Prop where
  mem : Mem W gR gF 1024 s.F bad
  pool : PoolIn W gP s.p
  st : SetAt W gS gL s.b
  tr : TreeB W gT gR gP r gS
  c4 : Blk W B 29 #[.pointer (some ⟨gT, 0, none⟩)]
  c6 : Blk W (B + 1) 68 (digV page)
  c7 : Blk W (B + 2) 64 #[.int .u64 (s.v : Int)]
  v : s.v < 18446744073709551616
  turns : Turns (fun k => k = gP ∨ k = gS ∨ k = gL ∨ k = gF) w0 W
  big : B + 4 ≤ W.heap.size
def MB (gP gS gL gF B : Nat) : Nat → Prop := fun k => k = gP ∨ k = gS ∨ k = gL ∨ k = gF ∨ k = B + 2
/-- A round's end. -/
theorem PutW.next {w0 W W' : World} {gT gR gF gP r gS gL B : Nat} {bad : Nat → Bool} {page : Nat} {s s' : PutS} (h : PutW w0 gT gR gF gP r gS gL B bad page s W) (hB : B = w0.heap.size) (hl : gP < B ∧ gS < B ∧ gL < B ∧ gF < B ∧ gT ≠ gP ∧ gT ≠ gS ∧ gT ≠ gL ∧ gT ≠ gF ∧ gT < B) (ht : Turns (MB gP gS gL gF B) W W')
    (h1 : Mem W' gR gF 1024 s'.F bad) (h2 : PoolIn W' gP s'.p) (h3 : SetAt W' gS gL s'.b) (h4 : W'.heap[B + 2]? = some (.cells #[.int .u64 (s'.v : Int)] 64 (0, 0))) (h5 : s'.v < 18446744073709551616) : PutW w0 gT gR gF gP r gS gL B bad page s' W' := by
  obtain ⟨l1, l2, l3, l4, l5, l6, l7, l8, l9⟩ := hl
  exact { mem := h1, pool := h2, st := h3, tr := ht.blk h.tr (by unfold MB; rintro (e | e | e | e | e) <;> omega), c4 := ht.blk h.c4 (by unfold MB; rintro (e | e | e | e | e) <;> omega), c6 := ht.blk h.c6 (by unfold MB; rintro (e | e | e | e | e) <;> omega), c7 := h4, v := h5, big := Nat.le_trans h.big ht.size, turns := ⟨ht.os.trans h.turns.os, ht.tape.trans h.turns.tape, ht.output.trans h.turns.output, Nat.le_trans h.turns.size ht.size, fun k hk hn => (ht.block k (Nat.lt_of_lt_of_le hk h.turns.size) (by unfold MB; rintro (e | e | e | e | e); exact hn (.inl e); exact hn (.inr (.inl e)); exact hn (.inr (.inr (.inl e))); exact hn (.inr (.inr (.inr e))); omega)).trans (h.turns.block k hk hn)⟩ }
theorem keeps_of {W W' : World} {gP gS gL gF B N : Nat} (ht : Turns (MB gP gS gL gF B) W W') (h : gP < N ∧ gS < N ∧ gL < N ∧ gF < N ∧ B + 2 < N) : KeepsFrom N W W' :=
  ⟨ht.size, fun k o hk ho _ => (ht.block k (Array.getElem?_eq_some_iff.1 ho).1 (by unfold MB; rintro (e | e | e | e | e) <;> omega)).trans ho⟩
theorem keepBG_of {W W' : World} {gP gS gL gF B b : Nat} (ht : Turns (MB gP gS gL gF B) W W') (hW : B + 4 ≤ W.heap.size) (hl : gP < B ∧ gS < B ∧ gL < B ∧ gF < B) (hb : b < B) (hk : ¬ (b = gP ∨ b = gS ∨ b = gL ∨ b = gF)) : KeepBG b (B + 1 + 1 + 1) W W' :=
  ⟨ht.block b (by omega) (by unfold MB; rintro (e | e | e | e | e); exact hk (.inl e); exact hk (.inr (.inl e)); exact hk (.inr (.inr (.inl e))); exact hk (.inr (.inr (.inr e))); omega), ht.block _ (by omega) (by unfold MB; rintro (e | e | e | e | e) <;> omega)⟩
/-- A block of cells is none that is turned otherwise. -/
theorem blk_keep {W W' : World} {row : Option Nat} (hg : W.grownBy W' row) (hr : ∀ r, row = some r → ∃ o : Obj, W.heap[r]? = some o ∧ o.isCells = false) {g : Nat} {t : TypeId} {cs : Array Value} (h : Blk W g t cs) : W'.heap[g]? = W.heap[g]? := by
  refine hg.block g h.lt (fun e => ?_)
  obtain ⟨o, ho, hc⟩ := hr g e.symm
  have hs' : W.heap[g]? = _ := h
  rw [ho] at hs'
  injection hs' with hs'
  rw [hs'] at hc
  cases hc
theorem Mem.blks {W : World} {gR gF n : Nat} {F : Nat → List Nat} {bad : Nat → Bool} (h : Mem W gR gF n F bad) : (∃ t cs, Blk W gR t cs) ∧ ∃ t cs, Blk W gF t cs := by
  obtain ⟨cur, h1, h2, _⟩ := h
  exact ⟨⟨_, _, h1⟩, ⟨_, _, h2⟩⟩
theorem PutW.keep {w0 W W' : World} {gT gR gF gP r gS gL B : Nat} {bad : Nat → Bool} {page : Nat} {s : PutS} {row : Option Nat} (h : PutW w0 gT gR gF gP r gS gL B bad page s W) (hg : W.grownBy W' row) (hr : ∀ r, row = some r → w0.heap.size ≤ r ∧ ∃ o : Obj, W.heap[r]? = some o ∧ o.isCells = false) : PutW w0 gT gR gF gP r gS gL B bad page s W' := by
  have hr' : ∀ r, row = some r → ∃ o : Obj, W.heap[r]? = some o ∧ o.isCells = false := fun r e => (hr r e).2
  obtain ⟨⟨t1, cs1, b1⟩, ⟨t2, cs2, b2⟩⟩ := h.mem.blks
  have hp : PoolIn W' gP s.p := PoolMem.far h.pool fun k hk => by
    subst hk
    obtain ⟨vs, hb, _⟩ := h.pool.2.1
    exact blk_keep hg hr' hb
  exact { mem := h.mem.far (blk_keep hg hr' b1) (blk_keep hg hr' b2), pool := hp, st := h.st.far (blk_keep hg hr' h.st.1) (blk_keep hg hr' h.st.2.1), tr := (blk_keep hg hr' h.tr).trans h.tr, c4 := (blk_keep hg hr' h.c4).trans h.c4, c6 := (blk_keep hg hr' h.c6).trans h.c6, c7 := (blk_keep hg hr' h.c7).trans h.c7, v := h.v, big := Nat.le_trans h.big hg.size, turns := ⟨hg.os.trans h.turns.os, hg.tape.trans h.turns.tape, hg.output.trans h.turns.output, Nat.le_trans h.turns.size hg.size, fun k hk hn => (hg.block k (Nat.lt_of_lt_of_le hk h.turns.size) (fun e => by have := (hr k e.symm).1; omega)).trans (h.turns.block k hk hn)⟩ }
set_option maxRecDepth 20000 in
set_option maxHeartbeats 400000 in
theorem backward_make (A : Option Addr) (n c : Nat) (w : World) :
    Calls Try.prog 54 #[.slice A n c] w fun e w' => e = .returned (.func (.func 70) #[] #[.pointer (some ⟨w.heap.size, 0, none⟩)]) ∧ w' = w.alloc (.cells #[.slice A n c] 23) := by
  go_enter Try.func54, Try.ntmps54
  go_wp2
  go_ret
  exact ⟨rfl, rfl⟩
set_option maxRecDepth 100000 in
set_option maxHeartbeats 800000 in
theorem tput_any (gT gR gF gP r gS gL page b o cap : Nat) (way : List Nat) (bad : Nat → Bool) (s : PutS) (w : World)
    (hT : TreeB w gT gR gP r gS) (hM : Mem w gR gF 1024 s.F bad) (hb : ∀ f, f < 1024 → bad f = false) (hP : PoolIn w gP s.p) (hS : SetAt w gS gL s.b) (hD : Dif2 gT gR gF gP gS gL) (hv : s.v < 18446744073709551616)
    (hbl : b < w.heap.size) (hbk : ¬ (b = gP ∨ b = gS ∨ b = gL ∨ b = gF)) (hc : ∀ j, j < 4 → w.cell? ⟨b, o + j, none⟩ = some (.int .i64 ((way.getD j 0 : Nat) : Int))) (hwy : ∀ j, j < 4 → way.getD j 0 < 1024) :
    Calls Try.prog 33 #[.pointer (some ⟨gT, 0, none⟩), .slice (some ⟨b, o, none⟩) 4 cap, .agg (digV page), .int .u64 (s.v : Int)] w fun e w' => e = .returned (.tuple #[]) ∧ ∃ s', s' = goPut way page s (downs 4) ∧ Mem w' gR gF 1024 s'.F bad ∧ PoolIn w' gP s'.p ∧ SetAt w' gS gL s'.b ∧ Turns (fun k => k = gP ∨ k = gS ∨ k = gL ∨ k = gF) w w' := by
  obtain ⟨V, hV⟩ : ∃ V, V = digV page := ⟨_, rfl⟩
  have HV := Lib.hid (show ∃ d0 d1 d2 d3 : Nat, V = #[.int .i64 ((d0 : Nat) : Int), .int .i64 ((d1 : Nat) : Int), .int .i64 ((d2 : Nat) : Int), .int .i64 ((d3 : Nat) : Int)] from ⟨_, _, _, _, hV⟩)
  obtain ⟨d0, d1, d2, d3, hd⟩ := HV.out
  rw [← hV, hd]
  have HDG := Lib.hid (hd.symm.trans hV)
  clear hd hV HV
  have HT := Lib.hid hT
  have HM := Lib.hid hM
  have HBD := Lib.hid hb
  have HP := Lib.hid hP
  have HS := Lib.hid hS
  have HD := Lib.hid hD
  have HVV := Lib.hid hv
  have HBK := Lib.hid hbk
  have HC := Lib.hid hc
  have HWY := Lib.hid hwy
  clear hT hM hb hP hS hD hv hbk hc hwy
  refine (callsIn_wide (n := 8)).1 ?_
  have hro : Fence.wide.round = none := rfl
  refine callsIn_of_wp_marks Try.func33 rfl trivial ?_ hro
  simp only [Try.ntmps33, List.size_toArray, List.length_cons, List.length_nil, Nat.reduceAdd, Nat.reduceSub, Array.replicate_succ, Array.replicate_zero, List.push_toArray, List.append_toArray, List.nil_append, List.cons_append]
  have hfB : Fence.wide.fn 54 := trivial
  gi_wp2_with (gi_at_call 54; refine (callsIn_wide.2 (backward_make _ _ _ _)).mono ?_; rintro e w' ⟨rfl, rfl⟩)
  have A1 := Lib.hid (Blk.new w 29 #[.pointer (some ⟨gT, 0, none⟩)])
  obtain ⟨w4, hw4⟩ : ∃ w4, (((w.alloc (.cells #[.pointer (some ⟨gT, 0, none⟩)] 29)).alloc (.cells #[.int .i64 ((d0 : Nat) : Int), .int .i64 ((d1 : Nat) : Int), .int .i64 ((d2 : Nat) : Int), .int .i64 ((d3 : Nat) : Int)] 68)).alloc (.cells #[.int .u64 (s.v : Int)] 64)).alloc (.cells #[.slice (some ⟨b, o, none⟩) 4 cap] 23) = w4 := ⟨_, rfl⟩
  have hB4 : Below w.heap.size w w4 := by
    rw [← hw4]
    exact ((((Below.refl w.heap.size w).alloc (Nat.le_refl _) _).alloc (by simp) _).alloc (by simp; omega) _).alloc (by simp; omega) _
  have hsz : w4.heap.size = w.heap.size + 4 := by rw [← hw4]; simp
  have b4 : Blk w4 w.heap.size 29 #[.pointer (some ⟨gT, 0, none⟩)] := by
    rw [← hw4]
    exact (((Blk.new w _ _).al _).al _).al _
  have b6 : Blk w4 (w.heap.size + 1) 68 (digV page) := by
    rw [← hw4, ← HDG.out]
    exact ((Blk.new1 w _ _ _).al _).al _
  have b7 : Blk w4 (w.heap.size + 2) 64 #[.int .u64 (s.v : Int)] := by
    rw [← hw4]
    exact (Blk.new2 w _ _ _ _).al _
  have bX : w4.cell? ⟨w.heap.size + 1 + 1 + 1, 0, none⟩ = some (.slice (some ⟨b, o, none⟩) 4 cap) := by
    rw [← hw4]
    have h := (Boxed.new (((w.alloc (.cells #[.pointer (some ⟨gT, 0, none⟩)] 29)).alloc (.cells #[.int .i64 ((d0 : Nat) : Int), .int .i64 ((d1 : Nat) : Int), .int .i64 ((d2 : Nat) : Int), .int .i64 ((d3 : Nat) : Int)] 68)).alloc (.cells #[.int .u64 (s.v : Int)] 64)) 23 (.slice (some ⟨b, o, none⟩) 4 cap)).cell
    simpa using h
  rw [hw4]
  have HB4 := Lib.hid hB4
  have HSZ := Lib.hid hsz
  have I0 := Lib.hid (show PutW w gT gR gF gP r gS gL w.heap.size bad page (goPut way page s []) w4 from
    { mem := HM.out.below hB4 HM.out.lt.1 HM.out.lt.2, pool := HP.out.fresh hB4, st := HS.out.fresh hB4, tr := Blk.below HT.out hB4 (Blk.lt HT.out), c4 := b4, c6 := b6, c7 := b7, v := HVV.out, big := by omega, turns := Turns.of_below hB4 (Nat.le_refl _) })
  clear hw4
  refine wpIn_rangeFunc_ownG hro (by omega) (gf := 70) (lb := #[.pointer (some ⟨w.heap.size + 1 + 1 + 1, 0, none⟩)]) rfl trivial (enters_of Try.func70 (by kernel_rfl) rfl)
    (encs := fun x : Fin 4 => #[.int .i64 ((x.1 : Nat) : Int), .int .i64 ((way.getD x.1 0 : Nat) : Int)]) (Kp := KeepBG b (w.heap.size + 1 + 1 + 1)) (backward_any (n := 7) (by omega) (w.heap.size + 1 + 1 + 1) b o cap way w4 (by omega) (by omega) bX (fun j hj => (hB4.cell (p := ⟨b, o + j, none⟩) hbl).trans (HC.out j hj))) (fun h k => h.trans k) ?hKb (Below.refl _ _) (fun _ => rfl)
    (fun pre W => PutW w gT gR gF gP r gS gL w.heap.size bad page (goPut way page s pre) W)
    (fun _ _ _ => False)
    (fun pre A B row hs hg hr => hs.keep hg (fun r e => by have := hr r e; exact ⟨by have := hB4.size; omega, this.2⟩))
    (fun _ _ _ _ _ hs _ _ => hs)
    I0.out
    (fun x => { tmps := #[.pointer (some ⟨gT, 0, none⟩), .slice (some ⟨b, o, none⟩) 4 cap, .agg #[.int .i64 ((d0 : Nat) : Int), .int .i64 ((d1 : Nat) : Int), .int .i64 ((d2 : Nat) : Int), .int .i64 ((d3 : Nat) : Int)], .int .u64 (s.v : Int), .pointer (some ⟨w.heap.size, 0, none⟩), undef, .pointer (some ⟨w.heap.size + 1, 0, none⟩), .pointer (some ⟨w.heap.size + 1 + 1, 0, none⟩), .int .i64 ((x.1 : Nat) : Int), .int .i64 ((way.getD x.1 0 : Nat) : Int), .slice (some ⟨b, o, none⟩) 4 cap, .func (.func 70) #[] #[.pointer (some ⟨w.heap.size + 1 + 1 + 1, 0, none⟩)], .int .i64 ((x.1 : Nat) : Int), .int .i64 ((way.getD x.1 0 : Nat) : Int), undef, undef, undef, undef, undef, undef, undef, undef, undef, undef, undef, undef, undef, undef, undef, undef, undef, undef, undef, undef], defers := [] }) ?assign ?body ?done ?stop
  case hKb =>
    intro W l ob ob' hl hw _ _
    have hlt : l < W.heap.size := (Array.getElem?_eq_some_iff.1 hw).1
    have hg := grownBy_putObj' W l ob'
    exact ⟨hg.block b (by omega) (fun e => by injection e with e; omega), hg.block _ (by omega) (fun e => by injection e with e; omega)⟩
  case assign =>
    intro l x W K hK
    gi_wp2
    exact hK
  case body =>
    rintro l pre ⟨i, hi⟩ W hI hlt
    obtain ⟨S, hS⟩ : ∃ S, S = goPut way page s pre := ⟨_, rfl⟩
    rw [← hS] at hI
    have HI := Lib.hid hI
    have HSS := Lib.hid hS
    obtain ⟨f, hf⟩ : ∃ f, f = way.getD i 0 := ⟨_, rfl⟩
    have hf10 : f < 1024 := by rw [hf]; exact HWY.out i hi
    obtain ⟨d, hd⟩ : ∃ d, d = page / dv (i + 1) % 8 := ⟨_, rfl⟩
    have hd8 : d < 8 := by rw [hd]; exact Nat.mod_lt _ (by omega)
    have cD : W.drew.cell? ⟨w.heap.size + 1, i, none⟩ = some (.int .i64 (d : Int)) := (hI.c6.cell i).trans (by rw [hd]; exact digV_at page hi)
    have cT : W.drew.cell? ⟨w.heap.size, 0, none⟩ = some (.pointer (some ⟨gT, 0, none⟩)) := hI.c4.cell 0
    have cV : W.drew.cell? ⟨w.heap.size + 1 + 1, 0, none⟩ = some (.int .u64 (S.v : Int)) := hI.c7.cell 0
    have hi4 : (i : Int) < 4 := by omega
    have hi0 : (0 : Int) ≤ (i : Int) := by omega
    have WR := Lib.hid (twrite_any gT gR gF gP r gS f d S.v S.F bad W.drew hI.tr hI.mem hf10 (HBD.out f hf10) hd8 hI.v (fun e => HD.out.fT e.symm))
    rw [← hf]
    have HDD := Lib.hid hd
    have HFF := Lib.hid hf
    clear hI hS hlt hf hd
    refine wpIn_block ?_
    refine wpIn_seq ?_
    refine wpIn_region_tail2 6 (by kernel_rfl) ?hok (by kernel_rfl) ?_
    case hok =>
      intro oo hoo
      simp only [List.mem_cons, List.not_mem_nil, or_false] at hoo
      rcases hoo with rfl | rfl | rfl | rfl | rfl | rfl | rfl
      · exact OkIn.of_plain rfl
      · exact OkIn.of_plain rfl
      · exact OkIn.of_plain rfl
      · exact OkIn.of_plain rfl
      · exact OkIn.of_plain rfl
      · exact OkIn.of_plain rfl
      · exact okIn_call (f := 55) rfl rfl (enters_of Try.func55 (by kernel_rfl) rfl)
    simp only [List.take_succ_cons, List.take_zero, List.drop_succ_cons, List.drop_zero]
    repeat still_step
    try refine wpStill_nil ?_
    obtain ⟨W2, hW2⟩ : ∃ W2, W2 = W.drew := ⟨_, rfl⟩
    change wpList _ _ _ _ _ W.drew
    have HW2 := Lib.hid (show PutW w gT gR gF gP r gS gL w.heap.size bad page S W2 ∧ Turns (MB gP gS gL gF w.heap.size) W W2 from by
      rw [hW2]
      exact ⟨{ mem := HI.out.mem, pool := HI.out.pool, st := HI.out.st, tr := HI.out.tr, c4 := HI.out.c4, c6 := HI.out.c6, c7 := HI.out.c7, v := HI.out.v, big := HI.out.big, turns := HI.out.turns.drew }, (Turns.refl _ _).drew⟩)
    rw [← hW2] at cD cT cV WR ⊢
    clear hW2
    go_wp2_with fail
    refine WR.out.mono ?_
    rintro e W3 ⟨rfl, hm3, ht3⟩
    have hlt6 : gP < w.heap.size ∧ gS < w.heap.size ∧ gL < w.heap.size ∧ gF < w.heap.size ∧ gT ≠ gP ∧ gT ≠ gS ∧ gT ≠ gL ∧ gT ≠ gF ∧ gT < w.heap.size := ⟨PoolMem.lt HP.out _ rfl, HS.out.lt.1, HS.out.lt.2, HM.out.lt.2, HD.out.d.tP, HD.out.d.tS, HD.out.d.tL, fun e => HD.out.fT e.symm, Blk.lt HT.out⟩
    have HL6 := Lib.hid hlt6
    have c73 : Blk W3 (w.heap.size + 2) 64 #[.int .u64 (S.v : Int)] := ht3.blk HW2.out.1.c7 (by omega)
    have cV3 : W3.cell? ⟨w.heap.size + 1 + 1, 0, none⟩ = some (.int .u64 (S.v : Int)) := c73.cell 0
    have fV3 : W3.frozen? ⟨w.heap.size + 1 + 1, 0, none⟩ = false := c73.frozen 0
    have cT3 : W3.cell? ⟨w.heap.size, 0, none⟩ = some (.pointer (some ⟨gT, 0, none⟩)) := (ht3.blk HW2.out.1.c4 (by omega)).cell 0
    have HM3 := Lib.hid hm3
    have HT3 := Lib.hid ht3
    have HC3 := Lib.hid c73
    have TL := Lib.hid (show ∀ m W, CallsIn (Fence.wide.inRound l) m Try.prog 52 #[.int .i64 (f : Int)] W fun e w' => e = .returned (.int .u64 ((f + 1 : Nat) : Int)) ∧ W = w' from fun m W => CallsIn.inRound l (callsIn_wide.2 (tells_any f W hf10)))
    have hfT : (Fence.wide.inRound l).fn 52 := trivial
    have hfE : (Fence.wide.inRound l).fn 56 := trivial
    have hfD : (Fence.wide.inRound l).fn 41 := trivial
    clear hm3 ht3 c73 cD cT cV
    go_wp2_with fail
    refine OnlyNormal.mk ?_
    have C74 := Lib.hid (show Blk (W3.setCell ⟨w.heap.size + 1 + 1, 0, none⟩ (.int .u64 ((f : Int) + 1))) (w.heap.size + 2) 64 #[.int .u64 ((f + 1 : Nat) : Int)] from (HC3.out.set_ 0 _).eq_ (by show #[Value.int .u64 ((f : Int) + 1)] = _; congr 2))
    have T4 := Lib.hid (show Turns (MB gP gS gL gF w.heap.size) W (W3.setCell ⟨w.heap.size + 1 + 1, 0, none⟩ (.int .u64 ((f : Int) + 1))) from (HW2.out.2.trans (HT3.out.mono (fun k hk => .inr (.inr (.inr (.inl hk)))))).trans (Turns.of_only ((Only.refl (w.heap.size + 2) W3).setCell 0 _) (.inr (.inr (.inr (.inr rfl))))))
    have HL7 := HL6.out
    have M4 := Lib.hid (show Mem (W3.setCell ⟨w.heap.size + 1 + 1, 0, none⟩ (.int .u64 ((f : Int) + 1))) gR gF 1024 (wrF S.F f d S.v) bad from HM3.out.only ((Only.refl (w.heap.size + 2) W3).setCell 0 _) (by have := HM.out.lt.1; omega) (by omega))
    have P4 := Lib.hid (show PoolIn (W3.setCell ⟨w.heap.size + 1 + 1, 0, none⟩ (.int .u64 ((f : Int) + 1))) gP S.p from (HW2.out.1.pool.turns HT3.out (fun e => HD.out.fP e.symm)).turns (Turns.of_only ((Only.refl (w.heap.size + 2) W3).setCell 0 _) rfl : Turns (fun k => k = w.heap.size + 2) _ _) (by omega))
    have S4 := Lib.hid (show SetAt (W3.setCell ⟨w.heap.size + 1 + 1, 0, none⟩ (.int .u64 ((f : Int) + 1))) gS gL S.b from (HW2.out.1.st.turns HT3.out (fun e => HD.out.fS e.symm) (fun e => HD.out.fL e.symm)).turns (Turns.of_only ((Only.refl (w.heap.size + 2) W3).setCell 0 _) rfl : Turns (fun k => k = w.heap.size + 2) _ _) (by omega) (by omega))
    have B4 := Lib.hid (show TreeB (W3.setCell ⟨w.heap.size + 1 + 1, 0, none⟩ (.int .u64 ((f : Int) + 1))) gT gR gP r gS from (HT3.out.blk HW2.out.1.tr HL7.2.2.2.2.2.2.2.1).oth (by omega))
    clear HL7
    by_cases hi00 : i = 0
    · subst hi00
      gi_wp2_with (refine ⟨trivial, ?_⟩; gi_at_call 52; refine (TL.out _ _).mono ?_; rintro e w' ⟨rfl, rfl⟩)
      refine ⟨trivial, ?_⟩
      gi_wp2
      have eS : goPut way page s (pre ++ [(⟨0, hi⟩ : Fin 4)]) = ⟨wrF S.F f d S.v, S.p, S.b, f + 1⟩ := by
        rw [goPut_snoc, ← HSS.out]
        unfold putStep
        rw [← HFF.out, ← HDD.out]
        exact if_neg (by simp)
      refine ⟨keeps_of T4.out (by have := HL6.out; have := HSZ.out; omega), ?_, ?_⟩
      · exact keepBG_of T4.out HI.out.big (by have := HL6.out; omega) hbl HBK.out
      · show PutW w gT gR gF gP r gS gL w.heap.size bad page (goPut way page s (pre ++ [(⟨0, hi⟩ : Fin 4)])) _
        rw [eS]
        exact HI.out.next rfl HL6.out T4.out M4.out P4.out S4.out C74.out (by show f + 1 < 18446744073709551616; omega)
    · have ti : decide ((0 : Int) < (i : Int)) = true := decide_eq_true (by omega)
      have EM := Lib.hid (show ∀ m, CallsIn (Fence.wide.inRound l) m Try.prog 56 #[.pointer (some ⟨gT, 0, none⟩), .int .i64 (f : Int)] (W3.setCell ⟨w.heap.size + 1 + 1, 0, none⟩ (.int .u64 ((f : Int) + 1))) fun e w' => e = .returned (.bool (emptyB (wrF S.F f d S.v f))) ∧ Below (W3.setCell ⟨w.heap.size + 1 + 1, 0, none⟩ (.int .u64 ((f : Int) + 1))).heap.size (W3.setCell ⟨w.heap.size + 1 + 1, 0, none⟩ (.int .u64 ((f : Int) + 1))) w' from fun m => CallsIn.inRound l (callsIn_wide.2 (tempty_any gT gR gF gP r gS f _ bad _ B4.out M4.out hf10 (HBD.out f hf10))))
      gi_wp2_with (refine ⟨trivial, ?_⟩; gi_at_call 52; refine (TL.out _ _).mono ?_; rintro e w' ⟨rfl, rfl⟩)
      refine ⟨trivial, ?_⟩
      gi_at_call 56
      refine (EM.out _).mono ?_
      rintro e w5 ⟨rfl, hb5⟩
      have T5 := Lib.hid (T4.out.trans (Turns.of_below hb5 (Nat.le_refl _)))
      have M5 := Lib.hid (M4.out.below hb5 M4.out.lt.1 M4.out.lt.2)
      have P5 := Lib.hid (P4.out.fresh hb5)
      have S5 := Lib.hid (S4.out.fresh hb5)
      have B5 := Lib.hid (Blk.below B4.out hb5 (Blk.lt B4.out))
      have C5 := Lib.hid (C74.out.below hb5 C74.out.lt)
      have K5 := Lib.hid (T5.out.blk HI.out.c4 (by have := HL6.out; unfold MB; rintro (e | e | e | e | e) <;> omega))
      have SZ5 := Lib.hid (show w.heap.size + 4 ≤ w5.heap.size from Nat.le_trans HI.out.big T5.out.size)
      clear hb5
      cases hE : emptyB (wrF S.F f d S.v f) with
      | false =>
        have eS : goPut way page s (pre ++ [(⟨i, hi⟩ : Fin 4)]) = ⟨wrF S.F f d S.v, S.p, S.b, f + 1⟩ := by
          rw [goPut_snoc, ← HSS.out]
          unfold putStep
          rw [← HFF.out, ← HDD.out, hE]
          exact if_neg (by simp)
        have ES := Lib.hid eS
        clear eS hE
        gi_wp2
        refine ⟨keeps_of T5.out (by have := HL6.out; have := HSZ.out; omega), keepBG_of T5.out HI.out.big (by have := HL6.out; omega) hbl HBK.out, ?_⟩
        show PutW w gT gR gF gP r gS gL w.heap.size bad page (goPut way page s (pre ++ [(⟨i, hi⟩ : Fin 4)])) _
        rw [ES.out]
        exact HI.out.next rfl HL6.out T5.out M5.out P5.out S5.out C5.out (by show f + 1 < 18446744073709551616; omega)
      | true =>
        have eS : goPut way page s (pre ++ [(⟨i, hi⟩ : Fin 4)]) = ⟨wrF S.F f d S.v, (freeP S.p ((f : Nat) : Int)).2, putB S.b false [((f : Nat) : Int)], 0⟩ := by
          rw [goPut_snoc, ← HSS.out]
          unfold putStep
          rw [← HFF.out, ← HDD.out, hE]
          exact if_pos (by simp; omega)
        have ES := Lib.hid eS
        have c5 : w5.cell? ⟨w.heap.size, 0, none⟩ = some (.pointer (some ⟨gT, 0, none⟩)) := K5.out.cell 0
        have B6 := Lib.hid ((Below.refl w5.heap.size w5).alloc (Nat.le_refl _) (.cells #[.int .i64 (f : Int)] 3))
        have V6 := Lib.hid (show Its (w5.alloc (.cells #[.int .i64 (f : Int)] 3)) (w5.alloc (.cells #[.int .i64 (f : Int)] 3)).heap.size (.slice (some ⟨w5.heap.size, 0, none⟩) 1 1) (zI [f]) from Its.of_lit (xs := [(f : Int)]) (Blk.new w5 3 #[.int .i64 (f : Int)]) (by show (1 : Nat) ≤ maxLen; unfold maxLen; omega))
        have DR := Lib.hid (show ∀ m, CallsIn (Fence.wide.inRound l) m Try.prog 41 #[.pointer (some ⟨gT, 0, none⟩), .slice (some ⟨w5.heap.size, 0, none⟩) 1 1] (w5.alloc (.cells #[.int .i64 (f : Int)] 3)) _ from fun m => CallsIn.inRound l (callsIn_wide.2 (tdrop_any gT gR gP r gS gL S.p S.b _ [f] _ (Blk.below B5.out B6.out (Blk.lt B5.out)) (P5.out.fresh B6.out) (S5.out.fresh B6.out) HD.out.d V6.out (fun bb o s n c e hn hk => by cases e; have := HL6.out; have := SZ5.out; rcases hk with h | h | h <;> omega))))
        clear eS hE
        gi_wp2_with (refine ⟨trivial, ?_⟩; gi_at_call 41; refine (DR.out _).mono ?_; rintro e w7 ⟨rfl, h71, h72, h73⟩; have C7 := Lib.hid (h73.blk (C5.out.below B6.out C5.out.lt) (by have := HL6.out; rintro (e | e | e) <;> omega)); have c7 : w7.cell? ⟨w.heap.size + 1 + 1, 0, none⟩ = some (.int .u64 ((f + 1 : Nat) : Int)) := C7.out.cell 0; have f7 : w7.frozen? ⟨w.heap.size + 1 + 1, 0, none⟩ = false := C7.out.frozen 0; have H71 := Lib.hid h71; have H72 := Lib.hid h72; have H73 := Lib.hid h73; clear h71 h72 h73)
        have T8 : Turns (MB gP gS gL gF w.heap.size) W (w7.setCell ⟨w.heap.size + 1 + 1, 0, none⟩ (.int .u64 0)) := (T5.out.trans ((Turns.of_below B6.out (Nat.le_refl _)).trans (H73.out.mono (fun k hk => by rcases hk with h | h | h; exact .inl h; exact .inr (.inl h); exact .inr (.inr (.inl h)))))).trans (Turns.of_only ((Only.refl (w.heap.size + 2) w7).setCell 0 _) (.inr (.inr (.inr (.inr rfl)))))
        have hl6 := HL6.out
        have O8 : Turns (fun k => k = w.heap.size + 2) w7 (w7.setCell ⟨w.heap.size + 1 + 1, 0, none⟩ (.int .u64 0)) := Turns.of_only ((Only.refl (w.heap.size + 2) w7).setCell 0 _) rfl
        refine ⟨keeps_of T8 (by have := HSZ.out; omega), keepBG_of T8 HI.out.big (by omega) hbl HBK.out, ?_⟩
        show PutW w gT gR gF gP r gS gL w.heap.size bad page (goPut way page s (pre ++ [(⟨i, hi⟩ : Fin 4)])) _
        rw [ES.out]
        have hlR := HM.out.lt.1
        refine HI.out.next rfl HL6.out T8 ?_ (H71.out.turns O8 (by omega)) (H72.out.turns O8 (by omega) (by omega)) (C7.out.set_ 0 _) (by show (0 : Nat) < 18446744073709551616; omega)
        exact (((M5.out.below B6.out M5.out.lt.1 M5.out.lt.2).turns H73.out (by rintro (e | e | e); exact HD.out.rP e; exact HD.out.rS e; exact HD.out.rL e) (by rintro (e | e | e); exact HD.out.fP e; exact HD.out.fS e; exact HD.out.fL e)).turns O8 (by omega) (by omega))
  case done =>
    rintro Dd xs W hDd hS hI hK
    subst hS
    have H9 := Lib.hid (hI.keep (grownBy_putObj' W Dd (.deferred none)) (fun r e => by cases e; exact ⟨by omega, _, hK, rfl⟩))
    clear hI
    gi_wp2
    refine ⟨by simp, .inl ⟨_, _, rfl, run_takeDeferred hK, ?_⟩⟩
    exact ⟨_, results_none rfl _ _ _, rfl, _, rfl, H9.out.mem, H9.out.pool, H9.out.st, H9.out.turns⟩
  case stop =>
    rintro D c pre W _ _ h _
    exact h.elim
end Go.Proofs.Ytegoookllckhiaa

/-! ## TrH: A tree in memory, with what its tables say; Get's contract.   Conditions: those that each line bears. -/
namespace Go.Proofs.Ytegoookllckhiaa
open Go.RowKit
set_option linter.unusedVariables false

/-- A live tree: its own cells, its set of tables, and the numbers that they have. -/
structure TreeG (w : World) (gT gR gP r gS gL : Nat) (F : Nat → List Nat) (bl : List Bool) (g : Nat → Nat → Nat) (e : List En) : Prop where
  tr : TreeB w gT gR gP r gS
  st : SetAt w gS gL bl
  nod : Nod g (fun f => bl.getD f false = true) 0 0
  con : Con g F 0 0
  root : g 0 0 = r + 1
  pg : ∀ q, g 4 q = numE (e.getD q en0)
  el : e.length = 4096
  eok : ∀ x ∈ e, EnOk x
theorem en0_ok : EnOk en0 := .inr (.inr ⟨.inl rfl, rfl, rfl⟩)
theorem getE_ok {e : List En} (h : ∀ x ∈ e, EnOk x) (q : Nat) : EnOk (e.getD q en0) := by
  by_cases c : q < e.length
  · exact h _ (getD_mem_or _ _ _ c)
  · rw [List.getD_eq_getElem?_getD, List.getElem?_eq_none (by omega)]
    exact en0_ok
theorem dec_of {v : Nat} {y x : En} {er : Nat} (h : DecIs v y er) (hx : EnOk x) (hv : v = numE x) : y = x ∧ er = 0 := by
  rcases h with ⟨h1, h2, h3⟩ | ⟨h1, h2, h3⟩
  · exact ⟨numE_inj h2 hx (h3.trans hv), h1⟩
  · exact absurd hv.symm (h3 x hx)
set_option maxRecDepth 20000 in
set_option maxHeartbeats 1600000 in
theorem tget_live (gT gR gF gP r gS gL page : Nat) (F : Nat → List Nat) (bad : Nat → Bool) (bl : List Bool) (g : Nat → Nat → Nat) (e : List En) (w : World) (hG : TreeG w gT gR gP r gS gL F bl g e) (hM : Mem w gR gF 1024 F bad) (hb : ∀ f, f < 1024 → bad f = false) (hp : page < 4096) :
    Calls Try.prog 18 #[.pointer (some ⟨gT, 0, none⟩), .int .i64 (page : Int)] w fun ee w' => ee = .returned (.tuple #[.agg (enV (e.getD page en0)), .int .i64 0]) ∧ Below w.heap.size w w' := by
  have hB0 := (Below.refl w.heap.size w).alloc (Nat.le_refl _) (.cells #[.int .i64 0, .int .i64 0, .bool false] 35)
  have HB0 := Lib.hid hB0
  have E0 := Lib.hid (Blk.new w 35 #[.int .i64 0, .int .i64 0, .bool false])
  have HG := Lib.hid hG
  have HM := Lib.hid hM
  have HBD := Lib.hid hb
  have MY := Lib.hid (tmay_in gT gR gP r gS page _ (Blk.below hG.tr hB0 (Blk.lt hG.tr)) hp)
  have DG := Lib.hid (digits_any page (w.alloc (.cells #[.int .i64 0, .int .i64 0, .bool false] 35)) hp)
  clear hG hM hb hB0
  go_enter Try.func18, Try.ntmps18
  go_wp2_with fail
  refine MY.out.mono ?_
  rintro ee w1 ⟨rfl, rfl⟩
  go_wp2_with fail
  refine DG.out.mono ?_
  rintro ee w2 ⟨rfl, hb2⟩
  have hB2 := HB0.out.trans (hb2.mono HB0.out.size)
  have WK := Lib.hid (twalk_any 38 #[] (enters_of Try.func38 (by kernel_rfl) rfl) (fun _ M _ => M = fun _ => False)
    (fun l M W W' h _ => h) (fun l M W h k hk => by rw [h] at hk; exact hk.elim) (fun l M W f h _ => (way_none (f : Int) W).mono (fun ee w' hh => ⟨hh.1, M, h, fun k hk => .inl hk, hh.2 ▸ Turns.refl _ _⟩))
    gT gR gF gP r gS page 0 F bad g _ (fun _ => False) w2 (Blk.below HG.out.tr hB2 (Blk.lt HG.out.tr)) (HM.out.below hB2 HM.out.lt.1 HM.out.lt.2) HBD.out HG.out.nod HG.out.con HG.out.root hp rfl (fun h => h) (fun h => h) (fun h => h))
  have HB2 := Lib.hid hB2
  have E2 := Lib.hid (E0.out.below hb2 E0.out.lt)
  clear hb2 hB2
  go_wp2_with fail
  refine WK.out.mono ?_
  rintro ee w3 ⟨rfl, L, M', _, _, _, _, _, _, ht3⟩
  have HB3 := Lib.hid (HB2.out.trans ((ht3.below (B := w2.heap.size) (fun k hk => hk.elim) (Nat.le_refl _)).mono HB2.out.size))
  have E3 := Lib.hid (ht3.blk E2.out (fun h => h))
  obtain ⟨x, hx⟩ : ∃ x, x = e.getD page en0 := ⟨_, rfl⟩
  have hxo : EnOk x := by rw [hx]; exact getE_ok HG.out.eok page
  have HX := Lib.hid hx
  have hv : g 4 page = numE x := by rw [hx]; exact HG.out.pg page
  have DC := Lib.hid (dec_any (g 4 page) w3 (by have := numE_lt hxo; omega))
  have HXO := Lib.hid hxo
  have HV := Lib.hid hv
  clear ht3 hx hxo hv
  go_wp2_with fail
  refine DC.out.mono ?_
  rintro ee w4 ⟨k, n, b, er, rfl, hde, hb4⟩
  obtain ⟨hy, rfl⟩ := dec_of hde HXO.out HV.out
  have HY := Lib.hid hy
  have HB4 := Lib.hid (HB3.out.trans (hb4.mono HB3.out.size))
  have E4 := Lib.hid (E3.out.below hb4 E3.out.lt)
  have b0 : w4.cell? ⟨w.heap.size, 0, none⟩ = some (.int .i64 0) := E4.out.cell 0
  have b1 : w4.cell? ⟨w.heap.size, 1, none⟩ = some (.int .i64 0) := E4.out.cell 1
  have b2 : w4.cell? ⟨w.heap.size, 2, none⟩ = some (.bool false) := E4.out.cell 2
  have f0 : w4.frozen? ⟨w.heap.size, 0, none⟩ = false := E4.out.frozen 0
  have f1 : w4.frozen? ⟨w.heap.size, 1, none⟩ = false := E4.out.frozen 1
  have f2 : w4.frozen? ⟨w.heap.size, 2, none⟩ = false := E4.out.frozen 2
  clear hde hb4 hy
  go_wp2_with fail
  refine bodyPost_ret (results_row_tmp rfl _ _ w.heap.size 35 #[.int .i64 k, .int .i64 n, .bool b] _ rfl (((E4.out.set_ 0 _).set_ 1 _).set_ 2 _) Try.underlying35 rfl (by kernel_rfl)) rfl ?_
  refine ⟨?_, ((HB4.out.setCell (Nat.le_refl _) _).setCell (Nat.le_refl _) _).setCell (Nat.le_refl _) _⟩
  rw [← HX.out, ← HY.out]
  rfl
end Go.Proofs.Ytegoookllckhiaa

/-! ## TrJ: The contract of a tree's Set.   Conditions: those that each line bears. -/
namespace Go.Proofs.Ytegoookllckhiaa
open Go.RowKit
set_option linter.unusedVariables false

section
variable {P : Program} {w : World}
theorem run_append_rows (base : Nat) (t ty e : TypeId) (i : TypeInfo) (z : Value) (size bytes : Nat) (ht : P.underlying t = some (.slice e)) (hi : P.info? e = some i) (hz : i.zero = some z)
    (hsize : i.size = size) (hby : i.bytes = bytes) (hzs : z.cells.size = size) (hsz : 0 < size)
    (v : Value) (n : Nat) (xs : List Value) (h : RowAt w base size v n xs) (u : Value) (m : Nat) (us : List Value) (hr : Rd w size u m us)
    (h63 : n + m ≤ maxLen) (hbytes : (n + m) * bytes ≤ 140737488355328) (hbase : base ≤ w.heap.size) :
    ∃ v' w', (Builtin.append_ #[t, t] ty #[v, u]).run P w = .ok v' w' ∧ RowAt w' base size v' (n + m) (xs ++ us) ∧ w.grownBy w' v.ownBlock := by
  obtain ⟨A, c, rfl, hl, h1, hc⟩ := hr
  by_cases hm : m = 0
  · subst hm
    have hy : us = [] := List.eq_nil_of_length_eq_zero (by simpa using hl)
    subst hy
    cases A with
    | none =>
      refine ⟨v, w, ?_, by simpa using h, World.grownBy.refl _ _⟩
      obtain ⟨_, _, ⟨rfl, rfl⟩ | ⟨g, o, cap, rfl, hnc, _⟩⟩ := h
      · simp [Builtin.append_, run_underlying ht, sizeOf, typeInfo, hi, Builtin.lenOf, Builtin.firstCells]
      · simp [Builtin.append_, run_underlying ht, sizeOf, typeInfo, hi, Builtin.lenOf, Builtin.firstCells, hnc, storeCells]
    | some a =>
      obtain ⟨h2, h3, ⟨rfl, rfl⟩ | ⟨g, o, cap, rfl, k3, k4, k5, k6, k7, k8⟩⟩ := id h
      · obtain ⟨v', w', r, o, g, _⟩ := run_append_own (P := P) w base t ty e i z size bytes ht hi hz hsize hby hzs hsz (.slice none 0 0) 0 [] (World.ownsRow_nil w base e size) a 0 c [] (by simp) (fun j u h => by simp at h) (fun u h => by simp at h) h63 hbytes hbase
        obtain rfl : xs = [] := List.eq_nil_of_length_eq_zero (by simpa using h2)
        exact ⟨v', w', r, RowAt.of_own o (by simp), g⟩
      · have hrun := run_append_room_cells (P := P) w t ty e i ht hi g o n cap a 0 c [] (by simp) (fun j u hj => by simp at hj) (fun u hu => by simp at hu) k3 (fun j hj => by simp at hj) (fun j hj => by simp at hj)
        exact ⟨_, _, hrun, by simpa [World.setCells] using h, World.grownBy.refl _ _⟩
  · obtain ⟨b, ob, rfl, hcell⟩ := hc (by omega)
    subst hsize
    obtain ⟨h2, h3, ⟨rfl, rfl⟩ | ⟨g, o, cap, rfl, k3, k4, k5, k6, k7, k8⟩⟩ := h
    · obtain rfl : xs = [] := List.eq_nil_of_length_eq_zero (by simpa using h2)
      obtain ⟨v', w', hrun, r1, r2, _⟩ := run_append_own (P := P) w base t ty e i z i.size bytes ht hi hz rfl hby hzs hsz (.slice none 0 0) 0 [] (World.ownsRow_nil w _ e i.size) ⟨b, ob, none⟩ m c us hl (fun j u hj => by rw [Addr.add_lit]; exact hcell j u hj) h1 (by simpa using h63) (by simpa using hbytes) hbase
      exact ⟨v', w', hrun, RowAt.of_own r1 (by simpa using h1), r2⟩
    · have hu : ∀ j u, us[j]? = some u → w.cell? ((⟨b, ob, none⟩ : Addr).add j) = some u := fun j u hj => by rw [Addr.add_lit]; exact hcell j u hj
      by_cases hr : n + m ≤ cap
      · have hcs : ∀ j, j < us.length → n * i.size + j < cap * i.size := fun j hj => by
          have := Nat.mul_le_mul_right i.size hr
          rw [Nat.add_mul] at this
          omega
        have ea : ∀ j, o + n * i.size + j = o + (n * i.size + j) := fun j => Nat.add_assoc _ _ _
        have hsome : ∀ j, j < us.length → (w.cell? ⟨g, o + n * i.size + j, none⟩).isSome = true := fun j hj => by rw [ea]; exact (k8 _ (hcs j hj)).1
        have hrun := run_append_room_cells (P := P) w t ty e i ht hi g o n cap ⟨b, ob, none⟩ m c us hl hu h1 hr hsome (fun j hj => by rw [ea]; exact (k8 _ (hcs j hj)).2)
        refine ⟨_, _, hrun, ⟨by rw [List.length_append, h2, hl, Nat.add_mul], fun u hm => (List.mem_append.1 hm).elim (h3 u) (h1 u), .inr ⟨g, o, cap, rfl, hr, k4, k5, ?_, fun j u hj => ?_, fun j hj => ?_⟩⟩, ?_⟩
        · have := (Only.setCells us (o + n * i.size) (Only.refl g w)).1.size
          omega
        · by_cases hjo : j < xs.length
          · rw [World.cell?_setCells_out g _ _ _ _ (fun _ _ => Or.inl (by show o + j < o + n * i.size; omega))]
            rw [List.getElem?_append_left hjo] at hj
            exact k7 j u hj
          · rw [List.getElem?_append_right (by omega)] at hj
            have hlt : j - xs.length < us.length := (List.getElem?_eq_some_iff.1 hj).1
            have := World.cell?_setCells_in g us (o + n * i.size) w hsome (j - xs.length) hlt
            rw [ea, show n * i.size + (j - xs.length) = j by omega] at this
            rw [this, ← hj, List.getElem?_eq_getElem hlt]
        · refine ⟨?_, (World.frozen?_setCells g _ _ _ _).trans (k8 j hj).2⟩
          by_cases hin : n * i.size ≤ j ∧ j < n * i.size + us.length
          · have := World.cell?_setCells_in g us (o + n * i.size) w hsome (j - n * i.size) (by omega)
            rw [ea, show n * i.size + (j - n * i.size) = j by omega] at this
            rw [this]; rfl
          · rw [World.cell?_setCells_out g _ _ _ _ (fun _ _ => (by show o + j < o + n * i.size ∨ o + n * i.size + us.length ≤ o + j; omega))]
            exact (k8 j hj).1
        · exact (Only.setCells us (o + n * i.size) (Only.refl g w)).1
      · obtain ⟨v', w', hrun, r1, r2⟩ := run_append_arg_grows (P := P) w t ty e i z i.size bytes ht hi hz rfl hby hzs hsz ⟨g, o, none⟩ n cap xs h2 (fun j u hj => by rw [Addr.add_lit]; exact k7 j u hj) ⟨b, ob, none⟩ m c us hl hu (by omega) h63 hbytes
        refine ⟨v', w', hrun, (RowAt.of_own r1 (fun u hm => (List.mem_append.1 hm).elim (h3 u) (h1 u))).mono hbase, ?_⟩
        exact ⟨r2.os, r2.tape, r2.output, r2.size, fun k hk _ => r2.block k hk (by simp)⟩
end
theorem Rd.of_rowAt {w : World} {base size n : Nat} {v : Value} {xs : List Value} (h : RowAt w base size v n xs) : Rd w size v n xs := by
  obtain ⟨h1, h2, ⟨rfl, rfl⟩ | ⟨g, o, cap, rfl, h3, h4, h5, h6, h7, h8⟩⟩ := h
  · exact ⟨none, 0, rfl, h1, h2, fun h => absurd h (Nat.lt_irrefl _)⟩
  · exact ⟨_, _, rfl, h1, h2, fun _ => ⟨g, o, rfl, h7⟩⟩
/-- What Set comes to where the page may be and the entry too. -/
def SetRes (w : World) (gR gF gP gS gL page v : Nat) (F : Nat → List Nat) (bad : Nat → Bool) (p : PS) (bl : List Bool) (g : Nat → Nat → Nat) (ee : Ending) (w' : World) : Prop :=
  ∃ L, 1 ≤ L ∧ L ≤ 4 ∧ (∀ l, l < L → g l (page / dv l) ≠ 0) ∧ (L < 4 → g L (page / dv L) = 0) ∧
    ((L < 4 ∧ v = 0 ∧ ee = .returned (.int .i64 0) ∧ Below w.heap.size w w') ∨
     (∃ m, ¬ (L < 4 ∧ v = 0) ∧ m.length < 4 - L ∧ Took p m ∧ FirstF (hadP p m) 2 (2 ^ 0) none ∧ ee = .returned (.int .i64 4) ∧ PoolIn w' gP p ∧ SetAt w' gS gL (putB bl false (zI m)) ∧ Turns (fun k => k = gP ∨ k = gS ∨ k = gL) w w') ∨
     (∃ m F' s', ¬ (L < 4 ∧ v = 0) ∧ m.length = 4 - L ∧ Took p m ∧ (∀ f ∈ m, F' f = zer) ∧ (∀ f, f ∉ m → F' f = F f) ∧ (∀ f, f < 1024 → (F' f).length = 64) ∧ ee = .returned (.int .i64 0) ∧ s' = goPut (wayF g page L ++ m) page ⟨F', hadP p m, putB bl true (zI m), v⟩ (downs 4) ∧ Mem w' gR gF 1024 s'.F bad ∧ PoolIn w' gP s'.p ∧ SetAt w' gS gL s'.b ∧ Turns (fun k => k = gP ∨ k = gS ∨ k = gL ∨ k = gF) w w'))
set_option maxRecDepth 20000 in
set_option maxHeartbeats 1600000 in
theorem tset_live (gT gR gF gP r gS gL page : Nat) (k n : Int) (b : Bool) (F : Nat → List Nat) (bad : Nat → Bool) (p : PS) (bl : List Bool) (g : Nat → Nat → Nat) (e : List En) (w : World) (hG : TreeG w gT gR gP r gS gL F bl g e) (hM : Mem w gR gF 1024 F bad) (hb : ∀ f, f < 1024 → bad f = false) (hP : PoolIn w gP p) (hD : Dif2 gT gR gF gP gS gL) (hp : page < 4096) (hx : EnOk ⟨k, n, b⟩) :
    Calls Try.prog 12 #[.pointer (some ⟨gT, 0, none⟩), .int .i64 (page : Int), .agg #[.int .i64 k, .int .i64 n, .bool b]] w (SetRes w gR gF gP gS gL page (numE ⟨k, n, b⟩) F bad p bl g) := by
  obtain ⟨iI, hiI, hiz0, hiz1, hiz2⟩ := info_parts Try.infoInt8
  have HII := Lib.hid hiI
  have HI0 := Lib.hid hiz0
  have HI1 := Lib.hid hiz1
  have HI2 := Lib.hid hiz2
  have hB0 := (Below.refl w.heap.size w).alloc (Nat.le_refl _) (.cells #[.int .i64 k, .int .i64 n, .bool b] 35)
  have HB0 := Lib.hid hB0
  have HG := Lib.hid hG
  have HM := Lib.hid hM
  have HBD := Lib.hid hb
  have HP := Lib.hid hP
  have HD := Lib.hid hD
  have HLT := Lib.hid (show gT < w.heap.size ∧ gR < w.heap.size ∧ gF < w.heap.size ∧ gP < w.heap.size ∧ gS < w.heap.size ∧ gL < w.heap.size from ⟨Blk.lt hG.tr, hM.lt.1, hM.lt.2, PoolMem.lt hP _ rfl, hG.st.lt.1, hG.st.lt.2⟩)
  have MY := Lib.hid (tmay_in gT gR gP r gS page _ (Blk.below hG.tr hB0 (Blk.lt hG.tr)) hp)
  have EN := Lib.hid (enc_any k n b (w.alloc (.cells #[.int .i64 k, .int .i64 n, .bool b] 35)))
  have HXO := Lib.hid hx
  clear hG hM hb hP hD hB0 hx hiI hiz0 hiz1 hiz2
  obtain ⟨v, hv⟩ : ∃ v, v = numE ⟨k, n, b⟩ := ⟨_, rfl⟩
  rw [← hv]
  have HV := Lib.hid hv
  clear hv
  go_enter Try.func12, Try.ntmps12
  go_wp2_with fail
  refine MY.out.mono ?_
  rintro ee w1 ⟨rfl, rfl⟩
  go_wp2_with fail
  refine EN.out.mono ?_
  rintro ee w2 ⟨u, er, rfl, he, hb2⟩
  obtain ⟨rfl, rfl⟩ : er = 0 ∧ u = v := by
    rcases he with ⟨_, h2, h3⟩ | ⟨h1, _⟩
    · exact ⟨h2, h3.trans HV.out.symm⟩
    · exact absurd HXO.out h1
  have HB2 := Lib.hid (HB0.out.trans (hb2.mono HB0.out.size))
  have hB3 := (Below.refl w2.heap.size w2).alloc (Nat.le_refl _) (.cells #[.slice none 0 0] 23)
  have HB3 := Lib.hid (HB2.out.trans (hB3.mono HB2.out.size))
  have W3 := Lib.hid (Blk.new w2 23 #[.slice none 0 0])
  have DG := Lib.hid (digits_any page (w2.alloc (.cells #[.slice none 0 0] 23)) hp)
  clear he hb2 hB3
  go_wp2_with fail
  refine DG.out.mono ?_
  rintro ee w4 ⟨rfl, hb4⟩
  have hs3 := HB3.out.size
  obtain ⟨d0, d1, d2, d3, hdg⟩ : ∃ d0 d1 d2 d3 : Nat, digV page = #[.int .i64 ((d0 : Nat) : Int), .int .i64 ((d1 : Nat) : Int), .int .i64 ((d2 : Nat) : Int), .int .i64 ((d3 : Nat) : Int)] := ⟨_, _, _, _, rfl⟩
  rw [hdg]
  have HDG := Lib.hid hdg
  have hB5 := hb4.alloc hb4.size (.cells #[.int .i64 ((d0 : Nat) : Int), .int .i64 ((d1 : Nat) : Int), .int .i64 ((d2 : Nat) : Int), .int .i64 ((d3 : Nat) : Int)] 68)
  have HB5 := Lib.hid (HB3.out.trans (hB5.mono hs3))
  have W5 := Lib.hid (W3.out.below hB5 W3.out.lt)
  have D5 := Lib.hid (Blk.new w4 68 #[.int .i64 ((d0 : Nat) : Int), .int .i64 ((d1 : Nat) : Int), .int .i64 ((d2 : Nat) : Int), .int .i64 ((d3 : Nat) : Int)])
  have HS4 := Lib.hid (show w2.heap.size + 1 ≤ w4.heap.size from by have := hb4.size; simpa using this)
  have HS2 := Lib.hid (show w.heap.size < w2.heap.size + 1 from by have := HB2.out.size; omega)
  clear hb4 hB5 hs3 hdg
  have hltt := HLT.out
  have hs22 := HS2.out
  have WK := Lib.hid (twalk_any 32 #[.pointer (some ⟨w2.heap.size, 0, none⟩)] (enters_of Try.func32 (by kernel_rfl) rfl) (WayR w2.heap.size)
    (fun l M W W' h hb => h.below hb) (fun l M W h => h.lt) (fun l M W f h hl => way_add w2.heap.size l M W f h hl)
    gT gR gF gP r gS page 0 F bad g _ (fun j => j = w2.heap.size ∨ (Value.slice none 0 0).ownBlock = some j) (w4.alloc (.cells #[.int .i64 ((d0 : Nat) : Int), .int .i64 ((d1 : Nat) : Int), .int .i64 ((d2 : Nat) : Int), .int .i64 ((d3 : Nat) : Int)] 68)) (Blk.below HG.out.tr HB5.out (Blk.lt HG.out.tr)) (HM.out.below HB5.out HM.out.lt.1 HM.out.lt.2) HBD.out HG.out.nod HG.out.con HG.out.root hp
    ⟨_, W5.out, RowAt.nil_ _ _ _, rfl⟩ (by rintro (h | h); omega; cases h) (by rintro (h | h); omega; cases h) (by rintro (h | h); omega; cases h))
  rw [HDG.out] at WK
  have cd0 : (w4.alloc (.cells #[.int .i64 ((d0 : Nat) : Int), .int .i64 ((d1 : Nat) : Int), .int .i64 ((d2 : Nat) : Int), .int .i64 ((d3 : Nat) : Int)] 68)).cell? ⟨w4.heap.size, 0, none⟩ = some (.int .i64 ((d0 : Nat) : Int)) := D5.out.cell 0
  clear hltt hs22
  go_wp2_with fail
  refine WK.out.mono ?_
  rintro ee w6 ⟨rfl, L, M6, hL1, hL4, hLy, hLn, ⟨vw, hw1, hw2, rfl⟩, hMn, ht6⟩
  rw [wayF_length] at hw2
  obtain ⟨A, cap, hva, hcap⟩ := hw2.len
  subst hva
  have HLY := Lib.hid hLy
  have HLN := Lib.hid hLn
  have HW1 := Lib.hid hw1
  have HW2 := Lib.hid hw2
  have HMN := Lib.hid hMn
  have c6 : w6.cell? ⟨w2.heap.size, 0, none⟩ = some (.slice A L cap) := hw1.cell 0
  have HT6 := Lib.hid ht6
  have HD6 := Lib.hid (ht6.blk D5.out (by have := HS4.out; rintro (h | h); omega; cases h))
  have HB6 := Lib.hid (HB5.out.trans (Turns.below ht6 (B := w.heap.size) (by have := HS2.out; rintro j (h | h); omega; cases h) HB5.out.size))
  have cn : (((4 - L : Nat)) : Int) = 4 - (L : Int) := by omega
  have AD := Lib.hid (tadd_any gT gR gF gP r gS gL (4 - L) F bad p bl w6 (Blk.below HG.out.tr HB6.out (Blk.lt HG.out.tr)) (HM.out.below HB6.out HM.out.lt.1 HM.out.lt.2) HBD.out (HP.out.fresh HB6.out) (HG.out.st.fresh HB6.out) HD.out (by omega))
  rw [cn] at AD
  clear hLy hLn hw1 hw2 hMn ht6 cd0 cn
  have hgv : g 4 page = g 4 page := rfl
  by_cases h40 : L < 4 ∧ u = 0
  · obtain ⟨h41, rfl⟩ := h40
    have t1 : decide ((0 : Int) < 4 - (L : Int)) = true := decide_eq_true (by omega)
    go_wp2_with fail
    go_ret
    exact ⟨L, hL1, hL4, HLY.out, HLN.out, .inl ⟨h41, rfl, rfl, HB6.out⟩⟩
  · have H40 := Lib.hid h40
    by_cases h41 : L < 4
    · have t1 : decide ((0 : Int) < 4 - (L : Int)) = true := decide_eq_true (by omega)
      have t2 : ((u : Int) == 0) = false := by
        have : u ≠ 0 := fun h => h40 ⟨h41, h⟩
        simp [this]
      clear h40
      go_wp2_with fail
      refine AD.out.mono ?_
      rintro ee w7 ⟨m, ⟨hml, htk, v2, F', rfl, hrow, hm7, hz7, ho7, hp7, hs7, ht7⟩ | ⟨hml, htk, hno, rfl, hp7, hs7, ht7⟩⟩
      · have hltt := HLT.out
        have hs22 := HS2.out
        have hs6 := HB6.out.size
        have hs67 := ht7.size
        have hbk7 : ∀ j, w.heap.size ≤ j → j < w6.heap.size → w7.heap[j]? = w6.heap[j]? := fun j h1 h2 => ht7.block j h2 (by rintro (h | h | h | h) <;> omega)
        have hW7 : Blk w7 w2.heap.size 23 #[.slice A L cap] := (hbk7 _ (by omega) HW1.out.lt).trans HW1.out
        have hD7 : Blk w7 w4.heap.size 68 #[.int .i64 ((d0 : Nat) : Int), .int .i64 ((d1 : Nat) : Int), .int .i64 ((d2 : Nat) : Int), .int .i64 ((d3 : Nat) : Int)] := (hbk7 _ (by have := HS4.out; omega) HD6.out.lt).trans HD6.out
        have hR7 : RowAt w7.drew (w2.heap.size + 1) 1 (.slice A L cap) L (fV (wayF g page L)) := RowAt.keep HW2.out (fun j hj => hbk7 j (by have := (HW2.out.lt j hj).1; omega) (HW2.out.lt j hj).2) hs67
        obtain ⟨v9, w9, r9, hr9, hg9⟩ := run_append_rows (P := Try.prog) (w := w7.drew) (w2.heap.size + 1) 23 23 3 iI (.int .i64 0) 1 8 Try.underlying23 HII.out HI0.out HI1.out HI2.out rfl (by decide) _ L _ hR7 v2 (4 - L) (fV m) (Rd.of_rowAt (show RowAt w7.drew w6.heap.size 1 v2 (4 - L) (fV m) from hrow)) (by unfold maxLen; omega) (by omega) (by show w2.heap.size + 1 ≤ w7.heap.size; have := hW7.lt; omega)
        rw [show L + (4 - L) = 4 by omega, show fV (wayF g page L) ++ fV m = fV (wayF g page L ++ m) from by unfold fV; rw [List.map_append]] at hr9
        obtain ⟨gq, oq, cq, rfl, hcq, hcells⟩ := hr9.some_ (by omega)
        have hgq := hr9.lt gq rfl
        have hB9 : Below (w2.heap.size + 1) w7.drew w9 := (Below.refl _ _).grown hg9 (by show w2.heap.size + 1 ≤ w7.heap.size; have := hW7.lt; omega) (fun j hj => (hR7.lt j hj).1)
        have hD9 : Blk w9 w4.heap.size 68 #[.int .i64 ((d0 : Nat) : Int), .int .i64 ((d1 : Nat) : Int), .int .i64 ((d2 : Nat) : Int), .int .i64 ((d3 : Nat) : Int)] := (hg9.block w4.heap.size (by show w4.heap.size < w7.heap.size; exact hD7.lt) (fun e => by
          have h1 := (hR7.lt w4.heap.size e.symm).1
          rcases HMN.out w4.heap.size (.inr e.symm) with (h | h) | h
          · omega
          · cases h
          · simp only [World.size_alloc] at h; omega)).trans hD7
        have hW9 : Blk w9 w2.heap.size 23 #[.slice A L cap] := (hB9.block _ (Nat.lt_succ_self _)).trans hW7
        have hB9' : Below w.heap.size w7 w9 := Below.mono ((Below.refl (w2.heap.size + 1) w7).drew.trans hB9) (by omega)
        have hta := Took.all HP.out.ok m htk
        have hwl : ∀ j, j < 4 → (wayF g page L ++ m).getD j 0 < 1024 := fun j hj => by
          by_cases c : j < L
          · rw [gaL _ _ _ (by rw [wayF_length]; exact c)]
            have e : (wayF g page L).getD j 0 = g j (page / dv j) - 1 := by unfold wayF; simp [c]
            rw [e]
            have h1 := HG.out.nod.le j (page / dv j) (by omega)
            have h2 := HLY.out j c
            omega
          · rw [gaR _ _ _ (by rw [wayF_length]; omega), wayF_length]
            exact (hta.2 _ (getD_mem_or _ _ _ (by omega))).1
        have hul : u < 18446744073709551616 := by
          have h1 := numE_lt HXO.out
          have h2 := HV.out
          omega
        have PT := Lib.hid (tput_any gT gR gF gP r gS gL page gq oq cq (wayF g page L ++ m) bad ⟨F', hadP p m, putB bl true (zI m), u⟩ w9 (Blk.below (ht7.blk (Blk.below HG.out.tr HB6.out (Blk.lt HG.out.tr)) (by have h1 := HD.out.d; have h2 := HD.out.fT; rintro (h | h | h | h); exact h1.tP h; exact h1.tS h; exact h1.tL h; exact h2 h.symm)) hB9' (by omega)) (hm7.below hB9' (by omega) (by omega)) HBD.out (hp7.bel hB9' (by omega)) (hs7.far (hB9'.block _ (by omega)) (hB9'.block _ (by omega))) HD.out hul hgq.2 (by rintro (h | h | h | h) <;> omega)
          (fun j hj => hcells j _ (by unfold fV; rw [List.getElem?_map]; have : j < (wayF g page L ++ m).length := by rw [List.length_append, wayF_length]; omega
                                      have hx : (wayF g page L ++ m)[j]? = some ((wayF g page L ++ m).getD j 0) := by rw [List.getD_eq_getElem?_getD, List.getElem?_eq_getElem this]; rfl
                                      rw [hx]
                                      rfl)) hwl)
        rw [HDG.out] at PT
        have R9 := Lib.hid r9
        have SD := Lib.hid (show w7.drew.cell? ⟨w2.heap.size, 0, none⟩ = some (.slice A L cap) ∧ w7.drew.cell? ⟨w4.heap.size, 0, none⟩ = some (.int .i64 ((d0 : Nat) : Int)) ∧ w7.drew.cell? ⟨w4.heap.size, 1, none⟩ = some (.int .i64 ((d1 : Nat) : Int)) ∧ w7.drew.cell? ⟨w4.heap.size, 2, none⟩ = some (.int .i64 ((d2 : Nat) : Int)) ∧ w7.drew.cell? ⟨w4.heap.size, 3, none⟩ = some (.int .i64 ((d3 : Nat) : Int)) from ⟨hW7.cell 0, hD7.cell 0, hD7.cell 1, hD7.cell 2, hD7.cell 3⟩)
        have S9 := Lib.hid (show w9.cell? ⟨w2.heap.size, 0, none⟩ = some (.slice A L cap) ∧ w9.cell? ⟨w4.heap.size, 0, none⟩ = some (.int .i64 ((d0 : Nat) : Int)) ∧ w9.cell? ⟨w4.heap.size, 1, none⟩ = some (.int .i64 ((d1 : Nat) : Int)) ∧ w9.cell? ⟨w4.heap.size, 2, none⟩ = some (.int .i64 ((d2 : Nat) : Int)) ∧ w9.cell? ⟨w4.heap.size, 3, none⟩ = some (.int .i64 ((d3 : Nat) : Int)) from ⟨hW9.cell 0, hD9.cell 0, hD9.cell 1, hD9.cell 2, hD9.cell 3⟩)
        have KP := Lib.hid (show ∀ w', Turns (fun k => k = gP ∨ k = gS ∨ k = gL ∨ k = gF) w9 w' → (w'.cell? ⟨w2.heap.size, 0, none⟩ = some (.slice A L cap) ∧ w'.cell? ⟨w4.heap.size, 0, none⟩ = some (.int .i64 ((d0 : Nat) : Int)) ∧ w'.cell? ⟨w4.heap.size, 1, none⟩ = some (.int .i64 ((d1 : Nat) : Int)) ∧ w'.cell? ⟨w4.heap.size, 2, none⟩ = some (.int .i64 ((d2 : Nat) : Int)) ∧ w'.cell? ⟨w4.heap.size, 3, none⟩ = some (.int .i64 ((d3 : Nat) : Int))) from fun w' ht => by
          have h1 := ht.blk hW9 (by rintro (h | h | h | h) <;> omega)
          have h2 := ht.blk hD9 (by have := HS4.out; rintro (h | h | h | h) <;> omega)
          exact ⟨h1.cell 0, h2.cell 0, h2.cell 1, h2.cell 2, h2.cell 3⟩)
        have T9 := Lib.hid ((((Turns.of_below HB6.out (Nat.le_refl _)).trans ht7).drew).bel (hB9.mono (by omega)) : Turns (fun k => k = gP ∨ k = gS ∨ k = gL ∨ k = gF) w w9)
        have HML := Lib.hid hml
        have HTK := Lib.hid htk
        have HZ7 := Lib.hid hz7
        have HO7 := Lib.hid ho7
        have HLG := Lib.hid (show ∀ f, f < 1024 → (F' f).length = 64 from fun f hf => hm7.long hf)
        clear hltt hs22 hs6 hs67 hbk7 hW7 hD7 hR7 r9 hr9 hg9 hcq hcells hgq hB9 hD9 hW9 hB9' hta hwl hul hml htk hrow hm7 hz7 ho7 hp7 hs7 ht7
        go_wp2_with fail
        go_region_held3 (fun w' => w'.cell? ⟨w2.heap.size, 0, none⟩ = some (.slice A L cap) ∧ w'.cell? ⟨w4.heap.size, 0, none⟩ = some (.int .i64 ((d0 : Nat) : Int)) ∧ w'.cell? ⟨w4.heap.size, 1, none⟩ = some (.int .i64 ((d1 : Nat) : Int)) ∧ w'.cell? ⟨w4.heap.size, 2, none⟩ = some (.int .i64 ((d2 : Nat) : Int)) ∧ w'.cell? ⟨w4.heap.size, 3, none⟩ = some (.int .i64 ((d3 : Nat) : Int)))
          (first | assumption | exact SD.out | exact S9.out)
          (first
            | (with_reducible refine step_append_run rfl (.tmp 61) (.tmp 62) 23 rfl (.slice A L cap) v2 rfl rfl _ _ R9.out ?_)
            | (go_at_call 33; refine PT.out.mono ?_; rintro ee w10 ⟨rfl, s', hs', h1, h2, h3, h4⟩; have S10 := KP.out w10 h4))
        have H1 := Lib.hid h1
        have H2 := Lib.hid h2
        have H3 := Lib.hid h3
        have H4 := Lib.hid (T9.out.trans h4)
        have H5 := Lib.hid hs'
        clear h1 h2 h3 h4 hs'
        go_wp2_with fail
        go_ret
        exact ⟨L, hL1, hL4, HLY.out, HLN.out, .inr (.inr ⟨m, F', s', H40.out, HML.out, HTK.out, HZ7.out, HO7.out, HLG.out, rfl, H5.out, H1.out, H2.out, H3.out, H4.out⟩)⟩
      · have N1 := Lib.hid hml
        have N2 := Lib.hid htk
        have N3 := Lib.hid hno
        have N4 := Lib.hid hp7
        have N5 := Lib.hid hs7
        have N6 := Lib.hid ((Turns.of_below HB6.out (Nat.le_refl _)).trans ht7 : Turns (fun k => k = gP ∨ k = gS ∨ k = gL) w w7)
        clear hml htk hno hp7 hs7 ht7
        go_wp2_with fail
        go_ret
        exact ⟨L, hL1, hL4, HLY.out, HLN.out, .inr (.inl ⟨m, H40.out, N1.out, N2.out, N3.out, rfl, N4.out, N5.out, N6.out⟩)⟩
    · have t1 : decide ((0 : Int) < 4 - (L : Int)) = false := decide_eq_false (by omega)
      clear h40
      go_wp2_with fail
      refine AD.out.mono ?_
      rintro ee w7 ⟨m, ⟨hml, htk, v2, F', rfl, hrow, hm7, hz7, ho7, hp7, hs7, ht7⟩ | ⟨hml, htk, hno, rfl, hp7, hs7, ht7⟩⟩
      · have hltt := HLT.out
        have hs22 := HS2.out
        have hs6 := HB6.out.size
        have hs67 := ht7.size
        have hbk7 : ∀ j, w.heap.size ≤ j → j < w6.heap.size → w7.heap[j]? = w6.heap[j]? := fun j h1 h2 => ht7.block j h2 (by rintro (h | h | h | h) <;> omega)
        have hW7 : Blk w7 w2.heap.size 23 #[.slice A L cap] := (hbk7 _ (by omega) HW1.out.lt).trans HW1.out
        have hD7 : Blk w7 w4.heap.size 68 #[.int .i64 ((d0 : Nat) : Int), .int .i64 ((d1 : Nat) : Int), .int .i64 ((d2 : Nat) : Int), .int .i64 ((d3 : Nat) : Int)] := (hbk7 _ (by have := HS4.out; omega) HD6.out.lt).trans HD6.out
        have hR7 : RowAt w7.drew (w2.heap.size + 1) 1 (.slice A L cap) L (fV (wayF g page L)) := RowAt.keep HW2.out (fun j hj => hbk7 j (by have := (HW2.out.lt j hj).1; omega) (HW2.out.lt j hj).2) hs67
        obtain ⟨v9, w9, r9, hr9, hg9⟩ := run_append_rows (P := Try.prog) (w := w7.drew) (w2.heap.size + 1) 23 23 3 iI (.int .i64 0) 1 8 Try.underlying23 HII.out HI0.out HI1.out HI2.out rfl (by decide) _ L _ hR7 v2 (4 - L) (fV m) (Rd.of_rowAt (show RowAt w7.drew w6.heap.size 1 v2 (4 - L) (fV m) from hrow)) (by unfold maxLen; omega) (by omega) (by show w2.heap.size + 1 ≤ w7.heap.size; have := hW7.lt; omega)
        rw [show L + (4 - L) = 4 by omega, show fV (wayF g page L) ++ fV m = fV (wayF g page L ++ m) from by unfold fV; rw [List.map_append]] at hr9
        obtain ⟨gq, oq, cq, rfl, hcq, hcells⟩ := hr9.some_ (by omega)
        have hgq := hr9.lt gq rfl
        have hB9 : Below (w2.heap.size + 1) w7.drew w9 := (Below.refl _ _).grown hg9 (by show w2.heap.size + 1 ≤ w7.heap.size; have := hW7.lt; omega) (fun j hj => (hR7.lt j hj).1)
        have hD9 : Blk w9 w4.heap.size 68 #[.int .i64 ((d0 : Nat) : Int), .int .i64 ((d1 : Nat) : Int), .int .i64 ((d2 : Nat) : Int), .int .i64 ((d3 : Nat) : Int)] := (hg9.block w4.heap.size (by show w4.heap.size < w7.heap.size; exact hD7.lt) (fun e => by
          have h1 := (hR7.lt w4.heap.size e.symm).1
          rcases HMN.out w4.heap.size (.inr e.symm) with (h | h) | h
          · omega
          · cases h
          · simp only [World.size_alloc] at h; omega)).trans hD7
        have hW9 : Blk w9 w2.heap.size 23 #[.slice A L cap] := (hB9.block _ (Nat.lt_succ_self _)).trans hW7
        have hB9' : Below w.heap.size w7 w9 := Below.mono ((Below.refl (w2.heap.size + 1) w7).drew.trans hB9) (by omega)
        have hta := Took.all HP.out.ok m htk
        have hwl : ∀ j, j < 4 → (wayF g page L ++ m).getD j 0 < 1024 := fun j hj => by
          by_cases c : j < L
          · rw [gaL _ _ _ (by rw [wayF_length]; exact c)]
            have e : (wayF g page L).getD j 0 = g j (page / dv j) - 1 := by unfold wayF; simp [c]
            rw [e]
            have h1 := HG.out.nod.le j (page / dv j) (by omega)
            have h2 := HLY.out j c
            omega
          · rw [gaR _ _ _ (by rw [wayF_length]; omega), wayF_length]
            exact (hta.2 _ (getD_mem_or _ _ _ (by omega))).1
        have hul : u < 18446744073709551616 := by
          have h1 := numE_lt HXO.out
          have h2 := HV.out
          omega
        have PT := Lib.hid (tput_any gT gR gF gP r gS gL page gq oq cq (wayF g page L ++ m) bad ⟨F', hadP p m, putB bl true (zI m), u⟩ w9 (Blk.below (ht7.blk (Blk.below HG.out.tr HB6.out (Blk.lt HG.out.tr)) (by have h1 := HD.out.d; have h2 := HD.out.fT; rintro (h | h | h | h); exact h1.tP h; exact h1.tS h; exact h1.tL h; exact h2 h.symm)) hB9' (by omega)) (hm7.below hB9' (by omega) (by omega)) HBD.out (hp7.bel hB9' (by omega)) (hs7.far (hB9'.block _ (by omega)) (hB9'.block _ (by omega))) HD.out hul hgq.2 (by rintro (h | h | h | h) <;> omega)
          (fun j hj => hcells j _ (by unfold fV; rw [List.getElem?_map]; have : j < (wayF g page L ++ m).length := by rw [List.length_append, wayF_length]; omega
                                      have hx : (wayF g page L ++ m)[j]? = some ((wayF g page L ++ m).getD j 0) := by rw [List.getD_eq_getElem?_getD, List.getElem?_eq_getElem this]; rfl
                                      rw [hx]
                                      rfl)) hwl)
        rw [HDG.out] at PT
        have R9 := Lib.hid r9
        have SD := Lib.hid (show w7.drew.cell? ⟨w2.heap.size, 0, none⟩ = some (.slice A L cap) ∧ w7.drew.cell? ⟨w4.heap.size, 0, none⟩ = some (.int .i64 ((d0 : Nat) : Int)) ∧ w7.drew.cell? ⟨w4.heap.size, 1, none⟩ = some (.int .i64 ((d1 : Nat) : Int)) ∧ w7.drew.cell? ⟨w4.heap.size, 2, none⟩ = some (.int .i64 ((d2 : Nat) : Int)) ∧ w7.drew.cell? ⟨w4.heap.size, 3, none⟩ = some (.int .i64 ((d3 : Nat) : Int)) from ⟨hW7.cell 0, hD7.cell 0, hD7.cell 1, hD7.cell 2, hD7.cell 3⟩)
        have S9 := Lib.hid (show w9.cell? ⟨w2.heap.size, 0, none⟩ = some (.slice A L cap) ∧ w9.cell? ⟨w4.heap.size, 0, none⟩ = some (.int .i64 ((d0 : Nat) : Int)) ∧ w9.cell? ⟨w4.heap.size, 1, none⟩ = some (.int .i64 ((d1 : Nat) : Int)) ∧ w9.cell? ⟨w4.heap.size, 2, none⟩ = some (.int .i64 ((d2 : Nat) : Int)) ∧ w9.cell? ⟨w4.heap.size, 3, none⟩ = some (.int .i64 ((d3 : Nat) : Int)) from ⟨hW9.cell 0, hD9.cell 0, hD9.cell 1, hD9.cell 2, hD9.cell 3⟩)
        have KP := Lib.hid (show ∀ w', Turns (fun k => k = gP ∨ k = gS ∨ k = gL ∨ k = gF) w9 w' → (w'.cell? ⟨w2.heap.size, 0, none⟩ = some (.slice A L cap) ∧ w'.cell? ⟨w4.heap.size, 0, none⟩ = some (.int .i64 ((d0 : Nat) : Int)) ∧ w'.cell? ⟨w4.heap.size, 1, none⟩ = some (.int .i64 ((d1 : Nat) : Int)) ∧ w'.cell? ⟨w4.heap.size, 2, none⟩ = some (.int .i64 ((d2 : Nat) : Int)) ∧ w'.cell? ⟨w4.heap.size, 3, none⟩ = some (.int .i64 ((d3 : Nat) : Int))) from fun w' ht => by
          have h1 := ht.blk hW9 (by rintro (h | h | h | h) <;> omega)
          have h2 := ht.blk hD9 (by have := HS4.out; rintro (h | h | h | h) <;> omega)
          exact ⟨h1.cell 0, h2.cell 0, h2.cell 1, h2.cell 2, h2.cell 3⟩)
        have T9 := Lib.hid ((((Turns.of_below HB6.out (Nat.le_refl _)).trans ht7).drew).bel (hB9.mono (by omega)) : Turns (fun k => k = gP ∨ k = gS ∨ k = gL ∨ k = gF) w w9)
        have HML := Lib.hid hml
        have HTK := Lib.hid htk
        have HZ7 := Lib.hid hz7
        have HO7 := Lib.hid ho7
        have HLG := Lib.hid (show ∀ f, f < 1024 → (F' f).length = 64 from fun f hf => hm7.long hf)
        clear hltt hs22 hs6 hs67 hbk7 hW7 hD7 hR7 r9 hr9 hg9 hcq hcells hgq hB9 hD9 hW9 hB9' hta hwl hul hml htk hrow hm7 hz7 ho7 hp7 hs7 ht7
        go_wp2_with fail
        go_region_held3 (fun w' => w'.cell? ⟨w2.heap.size, 0, none⟩ = some (.slice A L cap) ∧ w'.cell? ⟨w4.heap.size, 0, none⟩ = some (.int .i64 ((d0 : Nat) : Int)) ∧ w'.cell? ⟨w4.heap.size, 1, none⟩ = some (.int .i64 ((d1 : Nat) : Int)) ∧ w'.cell? ⟨w4.heap.size, 2, none⟩ = some (.int .i64 ((d2 : Nat) : Int)) ∧ w'.cell? ⟨w4.heap.size, 3, none⟩ = some (.int .i64 ((d3 : Nat) : Int)))
          (first | assumption | exact SD.out | exact S9.out)
          (first
            | (with_reducible refine step_append_run rfl (.tmp 61) (.tmp 62) 23 rfl (.slice A L cap) v2 rfl rfl _ _ R9.out ?_)
            | (go_at_call 33; refine PT.out.mono ?_; rintro ee w10 ⟨rfl, s', hs', h1, h2, h3, h4⟩; have S10 := KP.out w10 h4))
        have H1 := Lib.hid h1
        have H2 := Lib.hid h2
        have H3 := Lib.hid h3
        have H4 := Lib.hid (T9.out.trans h4)
        have H5 := Lib.hid hs'
        clear h1 h2 h3 h4 hs'
        go_wp2_with fail
        go_ret
        exact ⟨L, hL1, hL4, HLY.out, HLN.out, .inr (.inr ⟨m, F', s', H40.out, HML.out, HTK.out, HZ7.out, HO7.out, HLG.out, rfl, H5.out, H1.out, H2.out, H3.out, H4.out⟩)⟩
      · have N1 := Lib.hid hml
        have N2 := Lib.hid htk
        have N3 := Lib.hid hno
        have N4 := Lib.hid hp7
        have N5 := Lib.hid hs7
        have N6 := Lib.hid ((Turns.of_below HB6.out (Nat.le_refl _)).trans ht7 : Turns (fun k => k = gP ∨ k = gS ∨ k = gL) w w7)
        clear hml htk hno hp7 hs7 ht7
        go_wp2_with fail
        go_ret
        exact ⟨L, hL1, hL4, HLY.out, HLN.out, .inr (.inl ⟨m, H40.out, N1.out, N2.out, N3.out, rfl, N4.out, N5.out, N6.out⟩)⟩
end Go.Proofs.Ytegoookllckhiaa

/-! ## TrK: The contracts of a tree's New, Tables, Owns and Close, and of all its calls on one that is closed, poisoned or nil.   Conditions: those that each line bears. -/
namespace Go.Proofs.Ytegoookllckhiaa
open Go.RowKit
set_option linter.unusedVariables false

/-! ### a nil tree -/
set_option maxHeartbeats 400000 in
theorem tnew_nil1 (a : Option Addr) (w : World) : Calls Try.prog 10 #[.pointer none, .pointer a] w fun e w' => e = .returned (.tuple #[.pointer none, .int .i64 1]) ∧ w = w' := by
  go_enter Try.func10, Try.ntmps10
  go_wp2
  go_ret2
  exact ⟨rfl, rfl⟩
set_option maxHeartbeats 400000 in
theorem tnew_nil2 (a : Option Addr) (w : World) : Calls Try.prog 10 #[.pointer a, .pointer none] w fun e w' => e = .returned (.tuple #[.pointer none, .int .i64 1]) ∧ w = w' := by
  cases a with
  | none => exact tnew_nil1 none w
  | some a =>
    go_enter Try.func10, Try.ntmps10
    go_wp2
    go_ret2
    exact ⟨rfl, rfl⟩
/-- What may answers otherwise than 0 is what Get answers. -/
theorem tget_no (q : Option Addr) (page z : Int) (w : World) (hz : z ≠ 0) (h : ∀ W, Below w.heap.size w W → Calls Try.prog 28 #[.pointer q, .int .i64 page] W fun e w' => e = .returned (.int .i64 z) ∧ W = w') :
    Calls Try.prog 18 #[.pointer q, .int .i64 page] w fun e w' => e = .returned (.tuple #[.agg (enV en0), .int .i64 z]) ∧ Below w.heap.size w w' := by
  have hB0 := (Below.refl w.heap.size w).alloc (Nat.le_refl _) (.cells #[.int .i64 0, .int .i64 0, .bool false] 35)
  have HB0 := Lib.hid hB0
  have E0 := Lib.hid (Blk.new w 35 #[.int .i64 0, .int .i64 0, .bool false])
  have MY := Lib.hid (h _ hB0)
  have t1 : (z != 0) = true := by simp [hz]
  clear h hB0 hz
  go_enter Try.func18, Try.ntmps18
  go_wp2_with fail
  refine MY.out.mono ?_
  rintro ee w1 ⟨rfl, rfl⟩
  go_wp2_with fail
  refine bodyPost_ret (results_row_tmp rfl _ _ w.heap.size 35 #[.int .i64 0, .int .i64 0, .bool false] _ rfl E0.out Try.underlying35 rfl (by kernel_rfl)) rfl ?_
  exact ⟨rfl, HB0.out⟩
theorem tset_no (q : Option Addr) (page z k n : Int) (b : Bool) (w : World) (hz : z ≠ 0) (h : ∀ W, Below w.heap.size w W → Calls Try.prog 28 #[.pointer q, .int .i64 page] W fun e w' => e = .returned (.int .i64 z) ∧ W = w') :
    Calls Try.prog 12 #[.pointer q, .int .i64 page, .agg #[.int .i64 k, .int .i64 n, .bool b]] w fun e w' => e = .returned (.int .i64 z) ∧ Below w.heap.size w w' := by
  have hB0 := (Below.refl w.heap.size w).alloc (Nat.le_refl _) (.cells #[.int .i64 k, .int .i64 n, .bool b] 35)
  have HB0 := Lib.hid hB0
  have MY := Lib.hid (h _ hB0)
  have t1 : (z != 0) = true := by simp [hz]
  clear h hB0 hz
  go_enter Try.func12, Try.ntmps12
  go_wp2_with fail
  refine MY.out.mono ?_
  rintro ee w1 ⟨rfl, rfl⟩
  go_wp2_with fail
  go_ret
  exact ⟨rfl, HB0.out⟩
/-- An entry that may not be: nothing is changed. -/
theorem tset_bad (gT gR gP r gS page : Nat) (k n : Int) (b : Bool) (w : World) (hT : TreeB w gT gR gP r gS) (hp : page < 4096) (hx : ¬ EnOk ⟨k, n, b⟩) :
    Calls Try.prog 12 #[.pointer (some ⟨gT, 0, none⟩), .int .i64 (page : Int), .agg #[.int .i64 k, .int .i64 n, .bool b]] w fun e w' => e = .returned (.int .i64 8) ∧ Below w.heap.size w w' := by
  have hB0 := (Below.refl w.heap.size w).alloc (Nat.le_refl _) (.cells #[.int .i64 k, .int .i64 n, .bool b] 35)
  have HB0 := Lib.hid hB0
  have MY := Lib.hid (tmay_in gT gR gP r gS page _ (Blk.below hT hB0 (Blk.lt hT)) hp)
  have EN := Lib.hid (enc_any k n b (w.alloc (.cells #[.int .i64 k, .int .i64 n, .bool b] 35)))
  have HX := Lib.hid hx
  clear hT hB0 hx
  go_enter Try.func12, Try.ntmps12
  go_wp2_with fail
  refine MY.out.mono ?_
  rintro ee w1 ⟨rfl, rfl⟩
  go_wp2_with fail
  refine EN.out.mono ?_
  rintro ee w2 ⟨u, er, rfl, he, hb2⟩
  obtain ⟨rfl, rfl⟩ : er = 8 ∧ u = 0 := by
    rcases he with ⟨h1, _⟩ | ⟨_, h2, h3⟩
    · exact absurd h1 HX.out
    · exact ⟨h2, h3⟩
  have HB2 := Lib.hid (HB0.out.trans (hb2.mono HB0.out.size))
  clear he hb2
  go_wp2_with fail
  go_ret
  exact ⟨rfl, HB2.out⟩
/-! ### a poisoned root -/
set_option maxRecDepth 20000 in
set_option maxHeartbeats 800000 in
theorem tget_bad (gT gR gF gP r gS page : Nat) (F : Nat → List Nat) (bad : Nat → Bool) (w : World) (hT : TreeB w gT gR gP r gS) (hM : Mem w gR gF 1024 F bad) (hr : r < 1024) (hb : bad r = true) (hp : page < 4096) :
    Calls Try.prog 18 #[.pointer (some ⟨gT, 0, none⟩), .int .i64 (page : Int)] w fun ee w' => ee = .returned (.tuple #[.agg (enV en0), .int .i64 7]) ∧ Below w.heap.size w w' := by
  have hB0 := (Below.refl w.heap.size w).alloc (Nat.le_refl _) (.cells #[.int .i64 0, .int .i64 0, .bool false] 35)
  have HB0 := Lib.hid hB0
  have E0 := Lib.hid (Blk.new w 35 #[.int .i64 0, .int .i64 0, .bool false])
  have HT := Lib.hid hT
  have HM := Lib.hid hM
  have MY := Lib.hid (tmay_in gT gR gP r gS page _ (Blk.below hT hB0 (Blk.lt hT)) hp)
  have DG := Lib.hid (digits_any page (w.alloc (.cells #[.int .i64 0, .int .i64 0, .bool false] 35)) hp)
  clear hT hM hB0
  go_enter Try.func18, Try.ntmps18
  go_wp2_with fail
  refine MY.out.mono ?_
  rintro ee w1 ⟨rfl, rfl⟩
  go_wp2_with fail
  refine DG.out.mono ?_
  rintro ee w2 ⟨rfl, hb2⟩
  have hB2 := HB0.out.trans (hb2.mono HB0.out.size)
  have WK := Lib.hid (twalk_bad (.func (.func 38) #[] #[]) gT gR gF gP r gS page F bad w2 (Blk.below HT.out hB2 (Blk.lt HT.out)) (HM.out.below hB2 HM.out.lt.1 HM.out.lt.2) hr hb)
  have HB2 := Lib.hid hB2
  have E2 := Lib.hid (E0.out.below hb2 E0.out.lt)
  clear hb2 hB2
  go_wp2_with fail
  refine WK.out.mono ?_
  rintro ee w3 ⟨rfl, hb3⟩
  have HB3 := Lib.hid (HB2.out.trans (hb3.mono HB2.out.size))
  have E3 := Lib.hid (E2.out.below hb3 E2.out.lt)
  have b0 : w3.cell? ⟨w.heap.size, 0, none⟩ = some (.int .i64 0) := E3.out.cell 0
  have b1 : w3.cell? ⟨w.heap.size, 1, none⟩ = some (.int .i64 0) := E3.out.cell 1
  have b2 : w3.cell? ⟨w.heap.size, 2, none⟩ = some (.bool false) := E3.out.cell 2
  have f0 : w3.frozen? ⟨w.heap.size, 0, none⟩ = false := E3.out.frozen 0
  have f1 : w3.frozen? ⟨w.heap.size, 1, none⟩ = false := E3.out.frozen 1
  have f2 : w3.frozen? ⟨w.heap.size, 2, none⟩ = false := E3.out.frozen 2
  clear hb3
  go_wp2_with fail
  refine bodyPost_ret (results_row_tmp rfl _ _ w.heap.size 35 #[.int .i64 0, .int .i64 0, .bool false] _ rfl (((E3.out.set_ 0 _).set_ 1 _).set_ 2 _) Try.underlying35 rfl (by kernel_rfl)) rfl ?_
  exact ⟨rfl, ((HB3.out.setCell (Nat.le_refl _) _).setCell (Nat.le_refl _) _).setCell (Nat.le_refl _) _⟩
set_option maxRecDepth 20000 in
set_option maxHeartbeats 800000 in
theorem tset_poison (gT gR gF gP r gS page : Nat) (k n : Int) (b : Bool) (F : Nat → List Nat) (bad : Nat → Bool) (w : World) (hT : TreeB w gT gR gP r gS) (hM : Mem w gR gF 1024 F bad) (hr : r < 1024) (hb : bad r = true) (hp : page < 4096) (hx : EnOk ⟨k, n, b⟩) :
    Calls Try.prog 12 #[.pointer (some ⟨gT, 0, none⟩), .int .i64 (page : Int), .agg #[.int .i64 k, .int .i64 n, .bool b]] w fun e w' => e = .returned (.int .i64 7) ∧ Below w.heap.size w w' := by
  have hB0 := (Below.refl w.heap.size w).alloc (Nat.le_refl _) (.cells #[.int .i64 k, .int .i64 n, .bool b] 35)
  have HB0 := Lib.hid hB0
  have HT := Lib.hid hT
  have HM := Lib.hid hM
  have MY := Lib.hid (tmay_in gT gR gP r gS page _ (Blk.below hT hB0 (Blk.lt hT)) hp)
  have EN := Lib.hid (enc_any k n b (w.alloc (.cells #[.int .i64 k, .int .i64 n, .bool b] 35)))
  have HX := Lib.hid hx
  clear hT hM hB0 hx
  go_enter Try.func12, Try.ntmps12
  go_wp2_with fail
  refine MY.out.mono ?_
  rintro ee w1 ⟨rfl, rfl⟩
  go_wp2_with fail
  refine EN.out.mono ?_
  rintro ee w2 ⟨u, er, rfl, he, hb2⟩
  obtain rfl : er = 0 := by
    rcases he with ⟨_, h2, _⟩ | ⟨h1, _⟩
    · exact h2
    · exact absurd HX.out h1
  have HB2 := Lib.hid (HB0.out.trans (hb2.mono HB0.out.size))
  have hB3 := (Below.refl w2.heap.size w2).alloc (Nat.le_refl _) (.cells #[.slice none 0 0] 23)
  have HB3 := Lib.hid (HB2.out.trans (hB3.mono HB2.out.size))
  have W3 := Lib.hid (Blk.new w2 23 #[.slice none 0 0])
  have DG := Lib.hid (digits_any page (w2.alloc (.cells #[.slice none 0 0] 23)) hp)
  clear he hb2 hB3
  go_wp2_with fail
  refine DG.out.mono ?_
  rintro ee w4 ⟨rfl, hb4⟩
  have hs3 := HB3.out.size
  obtain ⟨d0, d1, d2, d3, hdg⟩ : ∃ d0 d1 d2 d3 : Nat, digV page = #[.int .i64 ((d0 : Nat) : Int), .int .i64 ((d1 : Nat) : Int), .int .i64 ((d2 : Nat) : Int), .int .i64 ((d3 : Nat) : Int)] := ⟨_, _, _, _, rfl⟩
  rw [hdg]
  have HDG := Lib.hid hdg
  have hB5 := hb4.alloc hb4.size (.cells #[.int .i64 ((d0 : Nat) : Int), .int .i64 ((d1 : Nat) : Int), .int .i64 ((d2 : Nat) : Int), .int .i64 ((d3 : Nat) : Int)] 68)
  have HB5 := Lib.hid (HB3.out.trans (hB5.mono hs3))
  have W5 := Lib.hid (W3.out.below hB5 W3.out.lt)
  clear hb4 hB5 hs3 hdg
  have WK := Lib.hid (twalk_bad (.func (.func 32) #[] #[.pointer (some ⟨w2.heap.size, 0, none⟩)]) gT gR gF gP r gS page F bad _ (Blk.below HT.out HB5.out (Blk.lt HT.out)) (HM.out.below HB5.out HM.out.lt.1 HM.out.lt.2) hr hb)
  rw [HDG.out] at WK
  go_wp2_with fail
  refine WK.out.mono ?_
  rintro ee w6 ⟨rfl, hb6⟩
  have c6 : w6.cell? ⟨w2.heap.size, 0, none⟩ = some (.slice none 0 0) := (W5.out.below hb6 W5.out.lt).cell 0
  have HB6 := Lib.hid (HB5.out.trans (hb6.mono HB5.out.size))
  clear hb6
  go_wp2_with fail
  go_ret
  exact ⟨rfl, HB6.out⟩
end Go.Proofs.Ytegoookllckhiaa

/-! ## TrL: The contracts of a tree's Tables, Owns, Close and New.   Conditions: those that each line bears. -/
namespace Go.Proofs.Ytegoookllckhiaa
open Go.RowKit
set_option linter.unusedVariables false

theorem ttables_at (gT gS gL : Nat) (bl : List Bool) (w : World) (c3 : w.cell? ⟨gT, 3, none⟩ = some (.pointer (some ⟨gS, 0, none⟩))) (hS : SetAt w gS gL bl) :
    Calls Try.prog 15 #[.pointer (some ⟨gT, 0, none⟩)] w fun e w' => ∃ v, e = .returned v ∧ w'.ownsRow w.heap.size 3 1 v (badZ bl bl.length).length ((badZ bl bl.length).map (fun z => Value.int .i64 z)) ∧ Below w.heap.size w w' := by
  have AL := Lib.hid (all_own gS gL bl w hS.1 hS.2.1 (by rw [hS.2.2.2]; exact Nat.le_refl _))
  clear hS
  go_enter Try.func15, Try.ntmps15
  go_wp2_with fail
  refine AL.out.mono ?_
  rintro e w1 ⟨v, rfl, h1, h2⟩
  have H1 := Lib.hid h1
  have H2 := Lib.hid h2
  clear h1 h2
  go_wp2_with fail
  go_ret
  exact ⟨v, rfl, H1.out, H2.out⟩
theorem ttables_dead (gT : Nat) (w : World) (h : Blk w gT 59 treeD) :
    Calls Try.prog 15 #[.pointer (some ⟨gT, 0, none⟩)] w fun e w' => e = .returned (.slice none 0 0) ∧ w = w' := by
  have c3 : w.cell? ⟨gT, 3, none⟩ = some (.pointer none) := h.cell 3
  have AL := Lib.hid (runs_all_nil w)
  clear h
  go_enter Try.func15, Try.ntmps15
  go_wp2_with fail
  refine AL.out.mono ?_
  rintro e w1 ⟨rfl, rfl⟩
  go_wp2_with fail
  go_ret
  exact ⟨rfl, rfl⟩
theorem ttables_nil (w : World) : Calls Try.prog 15 #[.pointer none] w fun e w' => e = .returned (.slice none 0 0) ∧ w = w' := by
  go_enter Try.func15, Try.ntmps15
  go_wp2
  go_ret
  exact ⟨rfl, rfl⟩
theorem towns_at (gT gS gL : Nat) (bl : List Bool) (f : Int) (w : World) (c3 : w.cell? ⟨gT, 3, none⟩ = some (.pointer (some ⟨gS, 0, none⟩))) (hS : SetAt w gS gL bl) :
    Calls Try.prog 16 #[.pointer (some ⟨gT, 0, none⟩), .int .i64 f] w fun e w' => e = .returned (.bool (decide (0 ≤ f ∧ f < (bl.length : Int)) && bl.getD f.toNat false)) ∧ Below w.heap.size w w' := by
  have AL := runs_has gS _ bl f w hS.mem
  obtain ⟨Z, hZ⟩ : ∃ Z, Z = (decide (0 ≤ f ∧ f < (bl.length : Int)) && bl.getD f.toNat false) := ⟨_, rfl⟩
  rw [← hZ] at AL ⊢
  have AL := Lib.hid AL
  clear hS hZ
  go_enter Try.func16, Try.ntmps16
  go_wp2_with fail
  refine AL.out.mono ?_
  rintro e w1 ⟨rfl, h2⟩
  have H2 := Lib.hid h2
  clear h2
  go_wp2_with fail
  go_ret
  exact ⟨rfl, H2.out⟩
theorem towns_dead (gT : Nat) (f : Int) (w : World) (h : Blk w gT 59 treeD) :
    Calls Try.prog 16 #[.pointer (some ⟨gT, 0, none⟩), .int .i64 f] w fun e w' => e = .returned (.bool false) ∧ w = w' := by
  have c3 : w.cell? ⟨gT, 3, none⟩ = some (.pointer none) := h.cell 3
  have AL := Lib.hid (runs_has_nil f w)
  clear h
  go_enter Try.func16, Try.ntmps16
  go_wp2_with fail
  refine AL.out.mono ?_
  rintro e w1 ⟨rfl, rfl⟩
  go_wp2_with fail
  go_ret
  exact ⟨rfl, rfl⟩
theorem towns_nil (f : Int) (w : World) : Calls Try.prog 16 #[.pointer none, .int .i64 f] w fun e w' => e = .returned (.bool false) ∧ w = w' := by
  go_enter Try.func16, Try.ntmps16
  go_wp2
  go_ret
  exact ⟨rfl, rfl⟩
/-! ### Close -/
theorem tclose_nil (w : World) : Calls Try.prog 20 #[.pointer none] w fun e w' => e = .returned (.tuple #[]) ∧ w = w' := by
  go_enter Try.func20, Try.ntmps20
  go_wp2
  refine bodyPost_ret (results_none rfl _ _ _) rfl ?_
  exact ⟨rfl, rfl⟩
theorem badZ_zI (bl : List Bool) (k : Nat) : badZ bl k = zI (bads bl k) := rfl
set_option maxRecDepth 20000 in
set_option maxHeartbeats 800000 in
theorem tclose_live (gT gR gP r gS gL : Nat) (p : PS) (bl : List Bool) (w : World) (hT : TreeB w gT gR gP r gS) (hP : PoolIn w gP p) (hS : SetAt w gS gL bl) (hD : Dif gT gP gS gL) :
    Calls Try.prog 20 #[.pointer (some ⟨gT, 0, none⟩)] w fun e w' => e = .returned (.tuple #[]) ∧ PoolIn w' gP (freeAll p (bads bl 1024)) ∧ Blk w' gT 59 treeD ∧ Turns (fun k => k = gP ∨ k = gT ∨ k = gS ∨ k = gL) w w' := by
  have AL := Lib.hid (ttables_at gT gS gL bl w (Blk.cell hT 3) hS)
  have HT := Lib.hid hT
  have HP := Lib.hid hP
  have HS := Lib.hid hS
  have HD := Lib.hid hD
  have HLT := Lib.hid (show gT < w.heap.size ∧ gP < w.heap.size ∧ gS < w.heap.size ∧ gL < w.heap.size from ⟨Blk.lt hT, PoolMem.lt hP _ rfl, hS.lt.1, hS.lt.2⟩)
  have hl10 : bl.length = 1024 := hS.2.2.2
  rw [hl10, badZ_zI] at AL
  have HL10 := Lib.hid hl10
  clear hT hP hS hD hl10
  go_enter Try.func20, Try.ntmps20
  go_wp2_with fail
  refine AL.out.mono ?_
  rintro e w1 ⟨v, rfl, h1, h2⟩
  have hlt := HLT.out
  have DR := Lib.hid (tdrop_any gT gR gP r gS gL p bl v (bads bl 1024) w1 (Blk.below HT.out h2 (Blk.lt HT.out)) (HP.out.fresh h2) (HS.out.fresh h2) HD.out (Its.of_own h1) (by
    rintro b o s n c rfl hn hk
    have := (h1.lt b rfl).1
    rcases hk with h | h | h <;> omega))
  have H2 := Lib.hid h2
  have HT1 := Lib.hid (Blk.below HT.out h2 (Blk.lt HT.out))
  clear h1 h2 hlt
  go_wp2_with fail
  refine DR.out.mono ?_
  rintro e w2 ⟨rfl, k1, k2, k3⟩
  have hT2 : Blk w2 gT 59 (treeV gR gP r gS) := k3.blk HT1.out (by have := HD.out; rintro (h | h | h); exact this.tP h; exact this.tS h; exact this.tL h)
  have c0 : w2.cell? ⟨gT, 0, none⟩ = some (.pointer (some ⟨gR, 0, none⟩)) := hT2.cell 0
  have c1 : w2.cell? ⟨gT, 1, none⟩ = some (.pointer (some ⟨gP, 0, none⟩)) := hT2.cell 1
  have c2 : w2.cell? ⟨gT, 2, none⟩ = some (.int .i64 (r : Int)) := hT2.cell 2
  have c3 : w2.cell? ⟨gT, 3, none⟩ = some (.pointer (some ⟨gS, 0, none⟩)) := hT2.cell 3
  have f0 : w2.frozen? ⟨gT, 0, none⟩ = false := hT2.frozen 0
  have f1 : w2.frozen? ⟨gT, 1, none⟩ = false := hT2.frozen 1
  have f2 : w2.frozen? ⟨gT, 2, none⟩ = false := hT2.frozen 2
  have f3 : w2.frozen? ⟨gT, 3, none⟩ = false := hT2.frozen 3
  have K1 := Lib.hid k1
  have K3 := Lib.hid k3
  have HT2 := Lib.hid hT2
  clear k1 k2 k3 hT2
  go_wp2_with fail
  (try simp only [Exit.inBlock, Exit.then])
  refine bodyPost_end (results_none rfl _ _ _) rfl ?_
  have TW : Turns (fun k => k = gT) w2 ((((w2.setCell ⟨gT, 0, none⟩ (.pointer none)).setCell ⟨gT, 1, none⟩ (.pointer none)).setCell ⟨gT, 2, none⟩ (.int .i64 0)).setCell ⟨gT, 3, none⟩ (.pointer none)) := Turns.of_only (((((Only.refl gT w2).setCell 0 _).setCell 1 _).setCell 2 _).setCell 3 _) rfl
  refine ⟨rfl, K1.out.turns TW (fun e => HD.out.tP e.symm), ((((HT2.out.set_ 0 _).set_ 1 _).set_ 2 _).set_ 3 _), ?_⟩
  exact ((Turns.of_below H2.out (Nat.le_refl _)).trans (K3.out.mono (fun k hk => by rcases hk with h | h | h; exact .inl h; exact .inr (.inr (.inl h)); exact .inr (.inr (.inr h))))).trans (TW.mono (fun k hk => .inr (.inl hk)))
theorem runs_drop_none (w : World) : Calls Try.prog 60 #[.pointer none, .slice none 0 0] w fun e w' => e = .returned (.tuple #[]) ∧ w = w' := by
  have MK := Lib.hid (mark_nil false (.slice none 0 0) [] w (Its.nil_ _ _))
  go_enter Try.func60, Try.ntmps60
  go_wp2_with fail
  refine MK.out.mono ?_
  rintro e w' ⟨rfl, rfl⟩
  go_wp2
  (try simp only [Exit.inBlock, Exit.then])
  refine bodyPost_end (results_none rfl _ _ _) rfl ?_
  exact ⟨rfl, rfl⟩
set_option maxRecDepth 20000 in
set_option maxHeartbeats 800000 in
theorem tdrop_dead (gT : Nat) (w : World) (h : Blk w gT 59 treeD) :
    Calls Try.prog 41 #[.pointer (some ⟨gT, 0, none⟩), .slice none 0 0] w fun e w' => e = .returned (.tuple #[]) ∧ w = w' := by
  have c3 : w.cell? ⟨gT, 3, none⟩ = some (.pointer none) := h.cell 3
  have DN := Lib.hid (runs_drop_none w)
  clear h
  go_enter Try.func41, Try.ntmps41
  go_wp2_with fail
  go_loopg [5, 8] 0 (fun gg _ s8 wx => s8 = .int .i64 0 ∧ wx = w)
  case atStart => exact ⟨rfl, rfl⟩
  case round =>
    obtain ⟨rfl, rfl⟩ := hrel
    go_wp2_with fail
    refine DN.out.mono ?_
    rintro e w1 ⟨rfl, rfl⟩
    go_wp2_with fail
    (try simp only [Exit.inBlock, Exit.then])
    refine bodyPost_end (results_none rfl _ _ _) rfl ?_
    exact ⟨rfl, rfl⟩
set_option maxRecDepth 20000 in
set_option maxHeartbeats 800000 in
theorem tclose_dead (gT : Nat) (w : World) (h : Blk w gT 59 treeD) :
    Calls Try.prog 20 #[.pointer (some ⟨gT, 0, none⟩)] w fun e w' => e = .returned (.tuple #[]) ∧ Blk w' gT 59 treeD ∧ Turns (fun k => k = gT) w w' := by
  have AL := Lib.hid (ttables_dead gT w h)
  have HT := Lib.hid h
  have c0 : w.cell? ⟨gT, 0, none⟩ = some (.pointer none) := h.cell 0
  have c1 : w.cell? ⟨gT, 1, none⟩ = some (.pointer none) := h.cell 1
  have c2 : w.cell? ⟨gT, 2, none⟩ = some (.int .i64 0) := h.cell 2
  have c3 : w.cell? ⟨gT, 3, none⟩ = some (.pointer none) := h.cell 3
  have f0 : w.frozen? ⟨gT, 0, none⟩ = false := h.frozen 0
  have f1 : w.frozen? ⟨gT, 1, none⟩ = false := h.frozen 1
  have f2 : w.frozen? ⟨gT, 2, none⟩ = false := h.frozen 2
  have f3 : w.frozen? ⟨gT, 3, none⟩ = false := h.frozen 3
  clear h
  go_enter Try.func20, Try.ntmps20
  go_wp2_with fail
  refine AL.out.mono ?_
  rintro e w1 ⟨rfl, rfl⟩
  have DR := Lib.hid (tdrop_dead gT w HT.out)
  go_wp2_with fail
  refine DR.out.mono ?_
  rintro e w1 ⟨rfl, rfl⟩
  go_wp2_with fail
  (try simp only [Exit.inBlock, Exit.then])
  refine bodyPost_end (results_none rfl _ _ _) rfl ?_
  exact ⟨rfl, ((((HT.out.set_ 0 _).set_ 1 _).set_ 2 _).set_ 3 _), Turns.of_only (((((Only.refl gT w).setCell 0 _).setCell 1 _).setCell 2 _).setCell 3 _) rfl⟩
end Go.Proofs.Ytegoookllckhiaa

/-! ## TrN: The contract of a tree's New.   Conditions: those that each line bears. -/
namespace Go.Proofs.Ytegoookllckhiaa
open Go.RowKit
set_option linter.unusedVariables false

set_option maxRecDepth 20000 in
set_option maxHeartbeats 1600000 in
theorem tnew_any (gR gF gP : Nat) (F : Nat → List Nat) (bad : Nat → Bool) (p : PS) (w : World) (hM : Mem w gR gF 1024 F bad) (hP : PoolIn w gP p) (h1 : gR ≠ gP) (h2 : gF ≠ gP) (hb : ∀ f, f < 1024 → bad f = false) :
    Calls Try.prog 10 #[.pointer (some ⟨gR, 0, none⟩), .pointer (some ⟨gP, 0, none⟩)] w fun e w' =>
      (∃ gT gS gL f F', e = .returned (.tuple #[.pointer (some ⟨gT, 0, none⟩), .int .i64 0]) ∧ FirstF p 2 (2 ^ 0) (some f) ∧ TreeB w' gT gR gP f gS ∧ SetAt w' gS gL (putB (List.replicate 1024 false) true (zI [f])) ∧ Mem w' gR gF 1024 F' bad ∧ F' f = zer ∧ (∀ x, x ≠ f → F' x = F x) ∧ PoolIn w' gP ⟨p.u.set f 2, p.z, p.i⟩ ∧ (w.heap.size ≤ gT ∧ w.heap.size ≤ gS ∧ w.heap.size ≤ gL) ∧ Dif gT gP gS gL ∧ Turns (fun k => k = gP ∨ k = gF) w w') ∨
      (FirstF p 2 (2 ^ 0) none ∧ e = .returned (.tuple #[.pointer none, .int .i64 4]) ∧ PoolIn w' gP p ∧ Turns (fun k => k = gP) w w') := by
  have RN := Lib.hid (runs_new 1024 w)
  have HM := Lib.hid hM
  have HP := Lib.hid hP
  have HBD := Lib.hid hb
  have HLT := Lib.hid (show gR < w.heap.size ∧ gF < w.heap.size ∧ gP < w.heap.size from ⟨hM.lt.1, hM.lt.2, PoolMem.lt hP _ rfl⟩)
  clear hM hP hb
  go_enter Try.func10, Try.ntmps10
  go_wp2_with fail
  refine RN.out.mono ?_
  rintro e w1 ⟨gS, K, rfl, ⟨gL, rfl, k1, k2, k3, k4⟩, hK, hb1⟩
  have hlt := HLT.out
  have hc : cutN 1024 = 1024 := by decide
  rw [hc] at k1 k2 k4
  have hS1 : SetAt w1 gS gL (List.replicate 1024 false) := ⟨k1, k2, k3, List.length_replicate⟩
  have hgS := hK gS (.inl rfl)
  have hgL := hK gL (.inr rfl)
  have hB2 := hb1.alloc hb1.size (.cells (treeV gR gP 0 gS) 59)
  have T2 := Lib.hid (show TreeB (w1.alloc (.cells (treeV gR gP 0 gS) 59)) w1.heap.size gR gP 0 gS from Blk.new w1 _ _)
  have hS2 : SetAt (w1.alloc (.cells (treeV gR gP 0 gS) 59)) gS gL (List.replicate 1024 false) := hS1.fresh ((Below.refl _ _).alloc (Nat.le_refl _) _)
  have hsz := hb1.size
  have hl1 := hS1.lt
  have HD := Lib.hid (show Dif2 w1.heap.size gR gF gP gS gL from ⟨⟨by omega, by omega, by omega, by omega, by omega⟩, h1, by omega, by omega, h2, by omega, by omega, by omega⟩)
  have AD := Lib.hid (tadd_any w1.heap.size gR gF gP 0 gS gL 1 F bad p (List.replicate 1024 false) _ T2.out (HM.out.below hB2 HM.out.lt.1 HM.out.lt.2) HBD.out (HP.out.fresh hB2) hS2 HD.out (by omega))
  have HB2 := Lib.hid hB2
  have HGS := Lib.hid (show w.heap.size ≤ w1.heap.size ∧ w.heap.size ≤ gS ∧ w.heap.size ≤ gL from ⟨hsz, hgS, hgL⟩)
  unfold treeV at AD
  clear k1 k2 k3 k4 hK hb1 hlt hc hS1 hS2 hgS hgL hB2 hsz hl1
  go_wp2_with fail
  refine AD.out.mono ?_
  rintro e w3 ⟨m, ⟨hml, htk, v, F', rfl, hrow, hm3, hz3, ho3, hp3, hs3, ht3⟩ | ⟨hml, htk, hno, rfl, hp3, hs3, ht3⟩⟩
  · obtain ⟨f, rfl⟩ : ∃ f, m = [f] := by
      match m, hml with
      | [f], _ => exact ⟨f, rfl⟩
    obtain ⟨gv, ov, cv, rfl, hcv, hcc⟩ := hrow.some_ (by omega)
    have cc : w3.cell? ⟨gv, ov + 0, none⟩ = some (.int .i64 (f : Int)) := hcc 0 _ rfl
    rw [Nat.add_zero] at cc
    have hT3 : TreeB w3 w1.heap.size gR gP 0 gS := ht3.blk T2.out (by have h := HD.out; have h' := h.d; rintro (e | e | e | e); exact h'.tP e; exact h'.tS e; exact h'.tL e; exact h.fT e.symm)
    have c2 : w3.cell? ⟨w1.heap.size, 2, none⟩ = some (.int .i64 ((0 : Nat) : Int)) := Blk.cell hT3 2
    have f2 : w3.frozen? ⟨w1.heap.size, 2, none⟩ = false := Blk.frozen hT3 2
    have HT3 := Lib.hid hT3
    have HTK := Lib.hid htk
    have HM3 := Lib.hid hm3
    have HZ3 := Lib.hid hz3
    have HO3 := Lib.hid ho3
    have HP3 := Lib.hid hp3
    have HS3 := Lib.hid hs3
    have HU3 := Lib.hid ht3
    have hcv1 : 1 ≤ cv := hcv
    clear hml htk hrow hm3 hz3 ho3 hp3 hs3 ht3 hT3 hcc hcv
    go_wp2_with fail
    go_ret2
    have hlt := HLT.out
    have hgs := HGS.out
    have hd := HD.out
    have TW : Turns (fun k => k = w1.heap.size) w3 (w3.setCell ⟨w1.heap.size, 2, none⟩ (.int .i64 (f : Int))) := Turns.of_only ((Only.refl _ w3).setCell 2 _) rfl
    refine .inl ⟨w1.heap.size, gS, gL, f, F', rfl, HTK.out 0 (by simp), HT3.out.set_ 2 _, HS3.out.turns TW (fun e => hd.d.tS e.symm) (fun e => hd.d.tL e.symm), HM3.out.turns TW (by omega) (by omega), HZ3.out f (by simp), fun x hx => HO3.out x (by simp [hx]), ?_, hgs, hd.d, ?_⟩
    · exact HP3.out.turns TW (fun e => hd.d.tP e.symm)
    · have h3 := HB2.out.size
      refine ⟨TW.os.trans (HU3.out.os.trans HB2.out.os), TW.tape.trans (HU3.out.tape.trans HB2.out.tape), TW.output.trans (HU3.out.output.trans HB2.out.output), Nat.le_trans (Nat.le_trans h3 HU3.out.size) TW.size, fun j hj hn => ?_⟩
      have h4 := HU3.out.size
      simp only [World.size_alloc] at h3 h4
      exact (TW.block j (by omega) (by omega)).trans ((HU3.out.block j (by simp only [World.size_alloc]; omega) (by rintro (e | e | e | e); exact hn (.inl e); omega; omega; exact hn (.inr e))).trans (HB2.out.block j hj))
  · obtain rfl : m = [] := List.eq_nil_of_length_eq_zero (by omega)
    have HNO := Lib.hid hno
    have HP3 := Lib.hid hp3
    have HU3 := Lib.hid ht3
    clear hml htk hno hp3 hs3 ht3
    go_wp2_with fail
    go_ret2
    refine .inr ⟨HNO.out, rfl, HP3.out, ?_⟩
    have hlt := HLT.out
    have hgs := HGS.out
    have h3 := HB2.out.size
    refine ⟨HU3.out.os.trans HB2.out.os, HU3.out.tape.trans HB2.out.tape, HU3.out.output.trans HB2.out.output, Nat.le_trans h3 HU3.out.size, fun j hj hn => ?_⟩
    exact (HU3.out.block j (by simp only [World.size_alloc] at h3 ⊢; omega) (by rintro (e | e | e); exact hn e; omega; omega)).trans (HB2.out.block j hj)
end Go.Proofs.Ytegoookllckhiaa

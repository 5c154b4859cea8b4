/-
  The contract of a tree's put: from the end of a way back up it.
  Conditions: those that each line bears.
-/
import Derived.Test.YtegoookllckhiaaTrF
namespace Go.Proofs.Ytegoookllckhiaa
open Go.RowKit Go.Shelf
set_option linter.unusedVariables false
attribute [local go_sem] Oper.semAt_some

def goPut (way : List Nat) (page : Nat) (s : PutS) (pre : List (Fin 4)) : PutS := pre.foldl (fun s i => putStep way page s i.1) s
theorem goPut_snoc (way : List Nat) (page : Nat) (s : PutS) (pre : List (Fin 4)) (i : Fin 4) : goPut way page s (pre ++ [i]) = putStep way page (goPut way page s pre) i.1 := by
  unfold goPut
  rw [List.foldl_append]
  rfl
/-- What stands in memory between two rounds. -/
structure PutW (w0 : World) (gT gR gF gP r gS gL B : Nat) (bad : Nat → Bool) (page : Nat) (s : PutS) (W : World) : Prop where
  mem : Mem W gR gF 1024 s.F bad
  pool : PoolIn W gP s.p
  st : SetAt W gS gL s.b
  tr : TreeB W gT gR gP r gS
  c4 : Blk W B 29 #[.pointer (some ⟨gT, 0, none⟩)]
  c6 : Blk W (B + 1) 68 (digV page)
  c7 : Blk W (B + 2) 64 #[.int .u64 (s.v : Int)]
  v : s.v < 18446744073709551616
  turns : Turns (fun k => k = gP ∨ k = gS ∨ k = gL ∨ k = gF) w0 W
  big : B + 4 ≤ W.heap.size
def MB (gP gS gL gF B : Nat) : Nat → Prop := fun k => k = gP ∨ k = gS ∨ k = gL ∨ k = gF ∨ k = B + 2
/-- A round's end. -/
theorem PutW.next {w0 W W' : World} {gT gR gF gP r gS gL B : Nat} {bad : Nat → Bool} {page : Nat} {s s' : PutS} (h : PutW w0 gT gR gF gP r gS gL B bad page s W) (hB : B = w0.heap.size) (hl : gP < B ∧ gS < B ∧ gL < B ∧ gF < B ∧ gT ≠ gP ∧ gT ≠ gS ∧ gT ≠ gL ∧ gT ≠ gF ∧ gT < B) (ht : Turns (MB gP gS gL gF B) W W')
    (h1 : Mem W' gR gF 1024 s'.F bad) (h2 : PoolIn W' gP s'.p) (h3 : SetAt W' gS gL s'.b) (h4 : W'.heap[B + 2]? = some (.cells #[.int .u64 (s'.v : Int)] 64 (0, 0))) (h5 : s'.v < 18446744073709551616) : PutW w0 gT gR gF gP r gS gL B bad page s' W' := by
  obtain ⟨l1, l2, l3, l4, l5, l6, l7, l8, l9⟩ := hl
  exact { mem := h1, pool := h2, st := h3, tr := ht.blk h.tr (by unfold MB; rintro (e | e | e | e | e) <;> omega), c4 := ht.blk h.c4 (by unfold MB; rintro (e | e | e | e | e) <;> omega), c6 := ht.blk h.c6 (by unfold MB; rintro (e | e | e | e | e) <;> omega), c7 := h4, v := h5, big := Nat.le_trans h.big ht.size, turns := ⟨ht.os.trans h.turns.os, ht.tape.trans h.turns.tape, ht.output.trans h.turns.output, Nat.le_trans h.turns.size ht.size, fun k hk hn => (ht.block k (Nat.lt_of_lt_of_le hk h.turns.size) (by unfold MB; rintro (e | e | e | e | e); exact hn (.inl e); exact hn (.inr (.inl e)); exact hn (.inr (.inr (.inl e))); exact hn (.inr (.inr (.inr e))); omega)).trans (h.turns.block k hk hn)⟩ }
theorem keeps_of {W W' : World} {gP gS gL gF B N : Nat} (ht : Turns (MB gP gS gL gF B) W W') (h : gP < N ∧ gS < N ∧ gL < N ∧ gF < N ∧ B + 2 < N) : KeepsFrom N W W' :=
  ⟨ht.size, fun k o hk ho _ => (ht.block k (Array.getElem?_eq_some_iff.1 ho).1 (by unfold MB; rintro (e | e | e | e | e) <;> omega)).trans ho⟩
theorem keepBG_of {W W' : World} {gP gS gL gF B b : Nat} (ht : Turns (MB gP gS gL gF B) W W') (hW : B + 4 ≤ W.heap.size) (hl : gP < B ∧ gS < B ∧ gL < B ∧ gF < B) (hb : b < B) (hk : ¬ (b = gP ∨ b = gS ∨ b = gL ∨ b = gF)) : KeepBG b (B + 1 + 1 + 1) W W' :=
  ⟨ht.block b (by omega) (by unfold MB; rintro (e | e | e | e | e); exact hk (.inl e); exact hk (.inr (.inl e)); exact hk (.inr (.inr (.inl e))); exact hk (.inr (.inr (.inr e))); omega), ht.block _ (by omega) (by unfold MB; rintro (e | e | e | e | e) <;> omega)⟩
/-- A block of cells is none that is turned otherwise. -/
theorem blk_keep {W W' : World} {row : Option Nat} (hg : W.grownBy W' row) (hr : ∀ r, row = some r → ∃ o : Obj, W.heap[r]? = some o ∧ o.isCells = false) {g : Nat} {t : TypeId} {cs : Array Value} (h : Blk W g t cs) : W'.heap[g]? = W.heap[g]? := by
  refine hg.block g h.lt (fun e => ?_)
  obtain ⟨o, ho, hc⟩ := hr g e.symm
  have hs' : W.heap[g]? = _ := h
  rw [ho] at hs'
  injection hs' with hs'
  rw [hs'] at hc
  cases hc
theorem Mem.blks {W : World} {gR gF n : Nat} {F : Nat → List Nat} {bad : Nat → Bool} (h : Mem W gR gF n F bad) : (∃ t cs, Blk W gR t cs) ∧ ∃ t cs, Blk W gF t cs := by
  obtain ⟨cur, h1, h2, _⟩ := h
  exact ⟨⟨_, _, h1⟩, ⟨_, _, h2⟩⟩
theorem PutW.keep {w0 W W' : World} {gT gR gF gP r gS gL B : Nat} {bad : Nat → Bool} {page : Nat} {s : PutS} {row : Option Nat} (h : PutW w0 gT gR gF gP r gS gL B bad page s W) (hg : W.grownBy W' row) (hr : ∀ r, row = some r → w0.heap.size ≤ r ∧ ∃ o : Obj, W.heap[r]? = some o ∧ o.isCells = false) : PutW w0 gT gR gF gP r gS gL B bad page s W' := by
  have hr' : ∀ r, row = some r → ∃ o : Obj, W.heap[r]? = some o ∧ o.isCells = false := fun r e => (hr r e).2
  obtain ⟨⟨t1, cs1, b1⟩, ⟨t2, cs2, b2⟩⟩ := h.mem.blks
  have hp : PoolIn W' gP s.p := PoolMem.far h.pool fun k hk => by
    subst hk
    obtain ⟨vs, hb, _⟩ := h.pool.2.1
    exact blk_keep hg hr' hb
  exact { mem := h.mem.far (blk_keep hg hr' b1) (blk_keep hg hr' b2), pool := hp, st := h.st.far (blk_keep hg hr' h.st.1) (blk_keep hg hr' h.st.2.1), tr := (blk_keep hg hr' h.tr).trans h.tr, c4 := (blk_keep hg hr' h.c4).trans h.c4, c6 := (blk_keep hg hr' h.c6).trans h.c6, c7 := (blk_keep hg hr' h.c7).trans h.c7, v := h.v, big := Nat.le_trans h.big hg.size, turns := ⟨hg.os.trans h.turns.os, hg.tape.trans h.turns.tape, hg.output.trans h.turns.output, Nat.le_trans h.turns.size hg.size, fun k hk hn => (hg.block k (Nat.lt_of_lt_of_le hk h.turns.size) (fun e => by have := (hr k e.symm).1; omega)).trans (h.turns.block k hk hn)⟩ }
set_option maxRecDepth 20000 in
set_option maxHeartbeats 400000 in
theorem backward_make (A : Option Addr) (n c : Nat) (w : World) :
    Calls Try.prog 54 #[.slice A n c] w fun e w' => e = .returned (.func (.func 70) #[] #[.pointer (some ⟨w.heap.size, 0, none⟩)]) ∧ w' = w.alloc (.cells #[.slice A n c] 23) := by
  go_enter Try.func54, Try.ntmps54
  go_wp2
  go_ret
  exact ⟨rfl, rfl⟩
set_option maxRecDepth 100000 in
set_option maxHeartbeats 800000 in
theorem tput_any (gT gR gF gP r gS gL page b o cap : Nat) (way : List Nat) (bad : Nat → Bool) (s : PutS) (w : World)
    (hT : TreeB w gT gR gP r gS) (hM : Mem w gR gF 1024 s.F bad) (hb : ∀ f, f < 1024 → bad f = false) (hP : PoolIn w gP s.p) (hS : SetAt w gS gL s.b) (hD : Dif2 gT gR gF gP gS gL) (hv : s.v < 18446744073709551616)
    (hbl : b < w.heap.size) (hbk : ¬ (b = gP ∨ b = gS ∨ b = gL ∨ b = gF)) (hc : ∀ j, j < 4 → w.cell? ⟨b, o + j, none⟩ = some (.int .i64 ((way.getD j 0 : Nat) : Int))) (hwy : ∀ j, j < 4 → way.getD j 0 < 1024) :
    Calls Try.prog 33 #[.pointer (some ⟨gT, 0, none⟩), .slice (some ⟨b, o, none⟩) 4 cap, .agg (digV page), .int .u64 (s.v : Int)] w fun e w' => e = .returned (.tuple #[]) ∧ ∃ s', s' = goPut way page s (downs 4) ∧ Mem w' gR gF 1024 s'.F bad ∧ PoolIn w' gP s'.p ∧ SetAt w' gS gL s'.b ∧ Turns (fun k => k = gP ∨ k = gS ∨ k = gL ∨ k = gF) w w' := by
  obtain ⟨V, hV⟩ : ∃ V, V = digV page := ⟨_, rfl⟩
  have HV := Lib.hid (show ∃ d0 d1 d2 d3 : Nat, V = #[.int .i64 ((d0 : Nat) : Int), .int .i64 ((d1 : Nat) : Int), .int .i64 ((d2 : Nat) : Int), .int .i64 ((d3 : Nat) : Int)] from ⟨_, _, _, _, hV⟩)
  obtain ⟨d0, d1, d2, d3, hd⟩ := HV.out
  rw [← hV, hd]
  have HDG := Lib.hid (hd.symm.trans hV)
  clear hd hV HV
  have HT := Lib.hid hT
  have HM := Lib.hid hM
  have HBD := Lib.hid hb
  have HP := Lib.hid hP
  have HS := Lib.hid hS
  have HD := Lib.hid hD
  have HVV := Lib.hid hv
  have HBK := Lib.hid hbk
  have HC := Lib.hid hc
  have HWY := Lib.hid hwy
  clear hT hM hb hP hS hD hv hbk hc hwy
  refine (callsIn_wide (n := 8)).1 ?_
  have hro : Fence.wide.round = none := rfl
  refine callsIn_of_wp_marks Try.func33 rfl trivial ?_ hro
  simp only [Try.ntmps33, List.size_toArray, List.length_cons, List.length_nil, Nat.reduceAdd, Nat.reduceSub, Array.replicate_succ, Array.replicate_zero, List.push_toArray, List.append_toArray, List.nil_append, List.cons_append]
  have hfB : Fence.wide.fn 54 := trivial
  gi_wp2_with (gi_at_call 54; refine (callsIn_wide.2 (backward_make _ _ _ _)).mono ?_; rintro e w' ⟨rfl, rfl⟩)
  have A1 := Lib.hid (Blk.new w 29 #[.pointer (some ⟨gT, 0, none⟩)])
  obtain ⟨w4, hw4⟩ : ∃ w4, (((w.alloc (.cells #[.pointer (some ⟨gT, 0, none⟩)] 29)).alloc (.cells #[.int .i64 ((d0 : Nat) : Int), .int .i64 ((d1 : Nat) : Int), .int .i64 ((d2 : Nat) : Int), .int .i64 ((d3 : Nat) : Int)] 68)).alloc (.cells #[.int .u64 (s.v : Int)] 64)).alloc (.cells #[.slice (some ⟨b, o, none⟩) 4 cap] 23) = w4 := ⟨_, rfl⟩
  have hB4 : Below w.heap.size w w4 := by
    rw [← hw4]
    exact ((((Below.refl w.heap.size w).alloc (Nat.le_refl _) _).alloc (by simp) _).alloc (by simp; omega) _).alloc (by simp; omega) _
  have hsz : w4.heap.size = w.heap.size + 4 := by rw [← hw4]; simp
  have b4 : Blk w4 w.heap.size 29 #[.pointer (some ⟨gT, 0, none⟩)] := by
    rw [← hw4]
    exact (((Blk.new w _ _).al _).al _).al _
  have b6 : Blk w4 (w.heap.size + 1) 68 (digV page) := by
    rw [← hw4, ← HDG.out]
    exact ((Blk.new1 w _ _ _).al _).al _
  have b7 : Blk w4 (w.heap.size + 2) 64 #[.int .u64 (s.v : Int)] := by
    rw [← hw4]
    exact (Blk.new2 w _ _ _ _).al _
  have bX : w4.cell? ⟨w.heap.size + 1 + 1 + 1, 0, none⟩ = some (.slice (some ⟨b, o, none⟩) 4 cap) := by
    rw [← hw4]
    have h := (Boxed.new (((w.alloc (.cells #[.pointer (some ⟨gT, 0, none⟩)] 29)).alloc (.cells #[.int .i64 ((d0 : Nat) : Int), .int .i64 ((d1 : Nat) : Int), .int .i64 ((d2 : Nat) : Int), .int .i64 ((d3 : Nat) : Int)] 68)).alloc (.cells #[.int .u64 (s.v : Int)] 64)) 23 (.slice (some ⟨b, o, none⟩) 4 cap)).cell
    simpa using h
  rw [hw4]
  have HB4 := Lib.hid hB4
  have HSZ := Lib.hid hsz
  have I0 := Lib.hid (show PutW w gT gR gF gP r gS gL w.heap.size bad page (goPut way page s []) w4 from
    { mem := HM.out.below hB4 HM.out.lt.1 HM.out.lt.2, pool := HP.out.fresh hB4, st := HS.out.fresh hB4, tr := Blk.below HT.out hB4 (Blk.lt HT.out), c4 := b4, c6 := b6, c7 := b7, v := HVV.out, big := by omega, turns := Turns.of_below hB4 (Nat.le_refl _) })
  clear hw4
  refine wpIn_rangeFunc_ownG hro (by omega) (gf := 70) (lb := #[.pointer (some ⟨w.heap.size + 1 + 1 + 1, 0, none⟩)]) rfl trivial (enters_of Try.func70 (by kernel_rfl) rfl)
    (encs := fun x : Fin 4 => #[.int .i64 ((x.1 : Nat) : Int), .int .i64 ((way.getD x.1 0 : Nat) : Int)]) (Kp := KeepBG b (w.heap.size + 1 + 1 + 1)) (backward_any (n := 7) (by omega) (w.heap.size + 1 + 1 + 1) b o cap way w4 (by omega) (by omega) bX (fun j hj => (hB4.cell (p := ⟨b, o + j, none⟩) hbl).trans (HC.out j hj))) (fun h k => h.trans k) ?hKb (Below.refl _ _) (fun _ => rfl)
    (fun pre W => PutW w gT gR gF gP r gS gL w.heap.size bad page (goPut way page s pre) W)
    (fun _ _ _ => False)
    (fun pre A B row hs hg hr => hs.keep hg (fun r e => by have := hr r e; exact ⟨by have := hB4.size; omega, this.2⟩))
    (fun _ _ _ _ _ hs _ _ => hs)
    I0.out
    (fun x => { tmps := #[.pointer (some ⟨gT, 0, none⟩), .slice (some ⟨b, o, none⟩) 4 cap, .agg #[.int .i64 ((d0 : Nat) : Int), .int .i64 ((d1 : Nat) : Int), .int .i64 ((d2 : Nat) : Int), .int .i64 ((d3 : Nat) : Int)], .int .u64 (s.v : Int), .pointer (some ⟨w.heap.size, 0, none⟩), undef, .pointer (some ⟨w.heap.size + 1, 0, none⟩), .pointer (some ⟨w.heap.size + 1 + 1, 0, none⟩), .int .i64 ((x.1 : Nat) : Int), .int .i64 ((way.getD x.1 0 : Nat) : Int), .slice (some ⟨b, o, none⟩) 4 cap, .func (.func 70) #[] #[.pointer (some ⟨w.heap.size + 1 + 1 + 1, 0, none⟩)], .int .i64 ((x.1 : Nat) : Int), .int .i64 ((way.getD x.1 0 : Nat) : Int), undef, undef, undef, undef, undef, undef, undef, undef, undef, undef, undef, undef, undef, undef, undef, undef, undef, undef, undef, undef], defers := [] }) ?assign ?body ?done ?stop
  case hKb =>
    intro W l ob ob' hl hw _ _
    have hlt : l < W.heap.size := (Array.getElem?_eq_some_iff.1 hw).1
    have hg := grownBy_putObj' W l ob'
    exact ⟨hg.block b (by omega) (fun e => by injection e with e; omega), hg.block _ (by omega) (fun e => by injection e with e; omega)⟩
  case assign =>
    intro l x W K hK
    gi_wp2
    exact hK
  case body =>
    rintro l pre ⟨i, hi⟩ W hI hlt
    obtain ⟨S, hS⟩ : ∃ S, S = goPut way page s pre := ⟨_, rfl⟩
    rw [← hS] at hI
    have HI := Lib.hid hI
    have HSS := Lib.hid hS
    obtain ⟨f, hf⟩ : ∃ f, f = way.getD i 0 := ⟨_, rfl⟩
    have hf10 : f < 1024 := by rw [hf]; exact HWY.out i hi
    obtain ⟨d, hd⟩ : ∃ d, d = page / dv (i + 1) % 8 := ⟨_, rfl⟩
    have hd8 : d < 8 := by rw [hd]; exact Nat.mod_lt _ (by omega)
    have cD : W.drew.cell? ⟨w.heap.size + 1, i, none⟩ = some (.int .i64 (d : Int)) := (hI.c6.cell i).trans (by rw [hd]; exact digV_at page hi)
    have cT : W.drew.cell? ⟨w.heap.size, 0, none⟩ = some (.pointer (some ⟨gT, 0, none⟩)) := hI.c4.cell 0
    have cV : W.drew.cell? ⟨w.heap.size + 1 + 1, 0, none⟩ = some (.int .u64 (S.v : Int)) := hI.c7.cell 0
    have hi4 : (i : Int) < 4 := by omega
    have hi0 : (0 : Int) ≤ (i : Int) := by omega
    have WR := Lib.hid (twrite_any gT gR gF gP r gS f d S.v S.F bad W.drew hI.tr hI.mem hf10 (HBD.out f hf10) hd8 hI.v (fun e => HD.out.fT e.symm))
    rw [← hf]
    have HDD := Lib.hid hd
    have HFF := Lib.hid hf
    clear hI hS hlt hf hd
    refine wpIn_block ?_
    refine wpIn_seq ?_
    refine wpIn_region_tail2 6 (by kernel_rfl) ?hok (by kernel_rfl) ?_
    case hok =>
      intro oo hoo
      simp only [List.mem_cons, List.not_mem_nil, or_false] at hoo
      rcases hoo with rfl | rfl | rfl | rfl | rfl | rfl | rfl
      · exact OkIn.of_plain rfl
      · exact OkIn.of_plain rfl
      · exact OkIn.of_plain rfl
      · exact OkIn.of_plain rfl
      · exact OkIn.of_plain rfl
      · exact OkIn.of_plain rfl
      · exact okIn_call (f := 55) rfl rfl (enters_of Try.func55 (by kernel_rfl) rfl)
    simp only [List.take_succ_cons, List.take_zero, List.drop_succ_cons, List.drop_zero]
    repeat still_step
    try refine wpStill_nil ?_
    obtain ⟨W2, hW2⟩ : ∃ W2, W2 = W.drew := ⟨_, rfl⟩
    change wpList _ _ _ _ _ W.drew
    have HW2 := Lib.hid (show PutW w gT gR gF gP r gS gL w.heap.size bad page S W2 ∧ Turns (MB gP gS gL gF w.heap.size) W W2 from by
      rw [hW2]
      exact ⟨{ mem := HI.out.mem, pool := HI.out.pool, st := HI.out.st, tr := HI.out.tr, c4 := HI.out.c4, c6 := HI.out.c6, c7 := HI.out.c7, v := HI.out.v, big := HI.out.big, turns := HI.out.turns.drew }, (Turns.refl _ _).drew⟩)
    rw [← hW2] at cD cT cV WR ⊢
    clear hW2
    go_wp2_with fail
    refine WR.out.mono ?_
    rintro e W3 ⟨rfl, hm3, ht3⟩
    have hlt6 : gP < w.heap.size ∧ gS < w.heap.size ∧ gL < w.heap.size ∧ gF < w.heap.size ∧ gT ≠ gP ∧ gT ≠ gS ∧ gT ≠ gL ∧ gT ≠ gF ∧ gT < w.heap.size := ⟨PoolMem.lt HP.out _ rfl, HS.out.lt.1, HS.out.lt.2, HM.out.lt.2, HD.out.d.tP, HD.out.d.tS, HD.out.d.tL, fun e => HD.out.fT e.symm, Blk.lt HT.out⟩
    have HL6 := Lib.hid hlt6
    have c73 : Blk W3 (w.heap.size + 2) 64 #[.int .u64 (S.v : Int)] := ht3.blk HW2.out.1.c7 (by omega)
    have cV3 : W3.cell? ⟨w.heap.size + 1 + 1, 0, none⟩ = some (.int .u64 (S.v : Int)) := c73.cell 0
    have fV3 : W3.frozen? ⟨w.heap.size + 1 + 1, 0, none⟩ = false := c73.frozen 0
    have cT3 : W3.cell? ⟨w.heap.size, 0, none⟩ = some (.pointer (some ⟨gT, 0, none⟩)) := (ht3.blk HW2.out.1.c4 (by omega)).cell 0
    have HM3 := Lib.hid hm3
    have HT3 := Lib.hid ht3
    have HC3 := Lib.hid c73
    have TL := Lib.hid (show ∀ m W, CallsIn (Fence.wide.inRound l) m Try.prog 52 #[.int .i64 (f : Int)] W fun e w' => e = .returned (.int .u64 ((f + 1 : Nat) : Int)) ∧ W = w' from fun m W => CallsIn.inRound l (callsIn_wide.2 (tells_any f W hf10)))
    have hfT : (Fence.wide.inRound l).fn 52 := trivial
    have hfE : (Fence.wide.inRound l).fn 56 := trivial
    have hfD : (Fence.wide.inRound l).fn 41 := trivial
    clear hm3 ht3 c73 cD cT cV
    go_wp2_with fail
    refine OnlyNormal.mk ?_
    have C74 := Lib.hid (show Blk (W3.setCell ⟨w.heap.size + 1 + 1, 0, none⟩ (.int .u64 ((f : Int) + 1))) (w.heap.size + 2) 64 #[.int .u64 ((f + 1 : Nat) : Int)] from (HC3.out.set_ 0 _).eq_ (by show #[Value.int .u64 ((f : Int) + 1)] = _; congr 2))
    have T4 := Lib.hid (show Turns (MB gP gS gL gF w.heap.size) W (W3.setCell ⟨w.heap.size + 1 + 1, 0, none⟩ (.int .u64 ((f : Int) + 1))) from (HW2.out.2.trans (HT3.out.mono (fun k hk => .inr (.inr (.inr (.inl hk)))))).trans (Turns.of_only ((Only.refl (w.heap.size + 2) W3).setCell 0 _) (.inr (.inr (.inr (.inr rfl))))))
    have HL7 := HL6.out
    have M4 := Lib.hid (show Mem (W3.setCell ⟨w.heap.size + 1 + 1, 0, none⟩ (.int .u64 ((f : Int) + 1))) gR gF 1024 (wrF S.F f d S.v) bad from HM3.out.only ((Only.refl (w.heap.size + 2) W3).setCell 0 _) (by have := HM.out.lt.1; omega) (by omega))
    have P4 := Lib.hid (show PoolIn (W3.setCell ⟨w.heap.size + 1 + 1, 0, none⟩ (.int .u64 ((f : Int) + 1))) gP S.p from (HW2.out.1.pool.turns HT3.out (fun e => HD.out.fP e.symm)).turns (Turns.of_only ((Only.refl (w.heap.size + 2) W3).setCell 0 _) rfl : Turns (fun k => k = w.heap.size + 2) _ _) (by omega))
    have S4 := Lib.hid (show SetAt (W3.setCell ⟨w.heap.size + 1 + 1, 0, none⟩ (.int .u64 ((f : Int) + 1))) gS gL S.b from (HW2.out.1.st.turns HT3.out (fun e => HD.out.fS e.symm) (fun e => HD.out.fL e.symm)).turns (Turns.of_only ((Only.refl (w.heap.size + 2) W3).setCell 0 _) rfl : Turns (fun k => k = w.heap.size + 2) _ _) (by omega) (by omega))
    have B4 := Lib.hid (show TreeB (W3.setCell ⟨w.heap.size + 1 + 1, 0, none⟩ (.int .u64 ((f : Int) + 1))) gT gR gP r gS from (HT3.out.blk HW2.out.1.tr HL7.2.2.2.2.2.2.2.1).oth (by omega))
    clear HL7
    by_cases hi00 : i = 0
    · subst hi00
      gi_wp2_with (refine ⟨trivial, ?_⟩; gi_at_call 52; refine (TL.out _ _).mono ?_; rintro e w' ⟨rfl, rfl⟩)
      refine ⟨trivial, ?_⟩
      gi_wp2
      have eS : goPut way page s (pre ++ [(⟨0, hi⟩ : Fin 4)]) = ⟨wrF S.F f d S.v, S.p, S.b, f + 1⟩ := by
        rw [goPut_snoc, ← HSS.out]
        unfold putStep
        rw [← HFF.out, ← HDD.out]
        exact if_neg (by simp)
      refine ⟨keeps_of T4.out (by have := HL6.out; have := HSZ.out; omega), ?_, ?_⟩
      · exact keepBG_of T4.out HI.out.big (by have := HL6.out; omega) hbl HBK.out
      · show PutW w gT gR gF gP r gS gL w.heap.size bad page (goPut way page s (pre ++ [(⟨0, hi⟩ : Fin 4)])) _
        rw [eS]
        exact HI.out.next rfl HL6.out T4.out M4.out P4.out S4.out C74.out (by show f + 1 < 18446744073709551616; omega)
    · have ti : decide ((0 : Int) < (i : Int)) = true := decide_eq_true (by omega)
      have EM := Lib.hid (show ∀ m, CallsIn (Fence.wide.inRound l) m Try.prog 56 #[.pointer (some ⟨gT, 0, none⟩), .int .i64 (f : Int)] (W3.setCell ⟨w.heap.size + 1 + 1, 0, none⟩ (.int .u64 ((f : Int) + 1))) fun e w' => e = .returned (.bool (emptyB (wrF S.F f d S.v f))) ∧ Below (W3.setCell ⟨w.heap.size + 1 + 1, 0, none⟩ (.int .u64 ((f : Int) + 1))).heap.size (W3.setCell ⟨w.heap.size + 1 + 1, 0, none⟩ (.int .u64 ((f : Int) + 1))) w' from fun m => CallsIn.inRound l (callsIn_wide.2 (tempty_any gT gR gF gP r gS f _ bad _ B4.out M4.out hf10 (HBD.out f hf10))))
      gi_wp2_with (refine ⟨trivial, ?_⟩; gi_at_call 52; refine (TL.out _ _).mono ?_; rintro e w' ⟨rfl, rfl⟩)
      refine ⟨trivial, ?_⟩
      gi_at_call 56
      refine (EM.out _).mono ?_
      rintro e w5 ⟨rfl, hb5⟩
      have T5 := Lib.hid (T4.out.trans (Turns.of_below hb5 (Nat.le_refl _)))
      have M5 := Lib.hid (M4.out.below hb5 M4.out.lt.1 M4.out.lt.2)
      have P5 := Lib.hid (P4.out.fresh hb5)
      have S5 := Lib.hid (S4.out.fresh hb5)
      have B5 := Lib.hid (Blk.below B4.out hb5 (Blk.lt B4.out))
      have C5 := Lib.hid (C74.out.below hb5 C74.out.lt)
      have K5 := Lib.hid (T5.out.blk HI.out.c4 (by have := HL6.out; unfold MB; rintro (e | e | e | e | e) <;> omega))
      have SZ5 := Lib.hid (show w.heap.size + 4 ≤ w5.heap.size from Nat.le_trans HI.out.big T5.out.size)
      clear hb5
      cases hE : emptyB (wrF S.F f d S.v f) with
      | false =>
        have eS : goPut way page s (pre ++ [(⟨i, hi⟩ : Fin 4)]) = ⟨wrF S.F f d S.v, S.p, S.b, f + 1⟩ := by
          rw [goPut_snoc, ← HSS.out]
          unfold putStep
          rw [← HFF.out, ← HDD.out, hE]
          exact if_neg (by simp)
        have ES := Lib.hid eS
        clear eS hE
        gi_wp2
        refine ⟨keeps_of T5.out (by have := HL6.out; have := HSZ.out; omega), keepBG_of T5.out HI.out.big (by have := HL6.out; omega) hbl HBK.out, ?_⟩
        show PutW w gT gR gF gP r gS gL w.heap.size bad page (goPut way page s (pre ++ [(⟨i, hi⟩ : Fin 4)])) _
        rw [ES.out]
        exact HI.out.next rfl HL6.out T5.out M5.out P5.out S5.out C5.out (by show f + 1 < 18446744073709551616; omega)
      | true =>
        have eS : goPut way page s (pre ++ [(⟨i, hi⟩ : Fin 4)]) = ⟨wrF S.F f d S.v, (freeP S.p ((f : Nat) : Int)).2, putB S.b false [((f : Nat) : Int)], 0⟩ := by
          rw [goPut_snoc, ← HSS.out]
          unfold putStep
          rw [← HFF.out, ← HDD.out, hE]
          exact if_pos (by simp; omega)
        have ES := Lib.hid eS
        have c5 : w5.cell? ⟨w.heap.size, 0, none⟩ = some (.pointer (some ⟨gT, 0, none⟩)) := K5.out.cell 0
        have B6 := Lib.hid ((Below.refl w5.heap.size w5).alloc (Nat.le_refl _) (.cells #[.int .i64 (f : Int)] 3))
        have V6 := Lib.hid (show Its (w5.alloc (.cells #[.int .i64 (f : Int)] 3)) (w5.alloc (.cells #[.int .i64 (f : Int)] 3)).heap.size (.slice (some ⟨w5.heap.size, 0, none⟩) 1 1) (zI [f]) from Its.of_lit (xs := [(f : Int)]) (Blk.new w5 3 #[.int .i64 (f : Int)]) (by show (1 : Nat) ≤ maxLen; unfold maxLen; omega))
        have DR := Lib.hid (show ∀ m, CallsIn (Fence.wide.inRound l) m Try.prog 41 #[.pointer (some ⟨gT, 0, none⟩), .slice (some ⟨w5.heap.size, 0, none⟩) 1 1] (w5.alloc (.cells #[.int .i64 (f : Int)] 3)) _ from fun m => CallsIn.inRound l (callsIn_wide.2 (tdrop_any gT gR gP r gS gL S.p S.b _ [f] _ (Blk.below B5.out B6.out (Blk.lt B5.out)) (P5.out.fresh B6.out) (S5.out.fresh B6.out) HD.out.d V6.out (fun bb o s n c e hn hk => by cases e; have := HL6.out; have := SZ5.out; rcases hk with h | h | h <;> omega))))
        clear eS hE
        gi_wp2_with (refine ⟨trivial, ?_⟩; gi_at_call 41; refine (DR.out _).mono ?_; rintro e w7 ⟨rfl, h71, h72, h73⟩; have C7 := Lib.hid (h73.blk (C5.out.below B6.out C5.out.lt) (by have := HL6.out; rintro (e | e | e) <;> omega)); have c7 : w7.cell? ⟨w.heap.size + 1 + 1, 0, none⟩ = some (.int .u64 ((f + 1 : Nat) : Int)) := C7.out.cell 0; have f7 : w7.frozen? ⟨w.heap.size + 1 + 1, 0, none⟩ = false := C7.out.frozen 0; have H71 := Lib.hid h71; have H72 := Lib.hid h72; have H73 := Lib.hid h73; clear h71 h72 h73)
        have T8 : Turns (MB gP gS gL gF w.heap.size) W (w7.setCell ⟨w.heap.size + 1 + 1, 0, none⟩ (.int .u64 0)) := (T5.out.trans ((Turns.of_below B6.out (Nat.le_refl _)).trans (H73.out.mono (fun k hk => by rcases hk with h | h | h; exact .inl h; exact .inr (.inl h); exact .inr (.inr (.inl h)))))).trans (Turns.of_only ((Only.refl (w.heap.size + 2) w7).setCell 0 _) (.inr (.inr (.inr (.inr rfl)))))
        have hl6 := HL6.out
        have O8 : Turns (fun k => k = w.heap.size + 2) w7 (w7.setCell ⟨w.heap.size + 1 + 1, 0, none⟩ (.int .u64 0)) := Turns.of_only ((Only.refl (w.heap.size + 2) w7).setCell 0 _) rfl
        refine ⟨keeps_of T8 (by have := HSZ.out; omega), keepBG_of T8 HI.out.big (by omega) hbl HBK.out, ?_⟩
        show PutW w gT gR gF gP r gS gL w.heap.size bad page (goPut way page s (pre ++ [(⟨i, hi⟩ : Fin 4)])) _
        rw [ES.out]
        have hlR := HM.out.lt.1
        refine HI.out.next rfl HL6.out T8 ?_ (H71.out.turns O8 (by omega)) (H72.out.turns O8 (by omega) (by omega)) (C7.out.set_ 0 _) (by show (0 : Nat) < 18446744073709551616; omega)
        exact (((M5.out.below B6.out M5.out.lt.1 M5.out.lt.2).turns H73.out (by rintro (e | e | e); exact HD.out.rP e; exact HD.out.rS e; exact HD.out.rL e) (by rintro (e | e | e); exact HD.out.fP e; exact HD.out.fS e; exact HD.out.fL e)).turns O8 (by omega) (by omega))
  case done =>
    rintro Dd xs W hDd hS hI hK
    subst hS
    have H9 := Lib.hid (hI.keep (grownBy_putObj' W Dd (.deferred none)) (fun r e => by cases e; exact ⟨by omega, _, hK, rfl⟩))
    clear hI
    gi_wp2
    refine ⟨by simp, .inl ⟨_, _, rfl, run_takeDeferred hK, ?_⟩⟩
    exact ⟨_, results_none rfl _ _ _, rfl, _, rfl, H9.out.mem, H9.out.pool, H9.out.st, H9.out.turns⟩
  case stop =>
    rintro D c pre W _ _ h _
    exact h.elim
end Go.Proofs.Ytegoookllckhiaa

/-
  The contract of a tree's add: all of the tables that are wanted, or none.
  Conditions: those that each line bears.
-/
import Derived.Test.YtegoookllckhiaaTrD
import Derived.StillTailTactics
namespace Go.Proofs.Ytegoookllckhiaa
open Go.RowKit
set_option linter.unusedVariables false

theorem alloc_case {p p' : PS} {f er : Nat} (hp : PsOk p) (h : AllocIs p 2 0 false f er p') :
    (FirstF p 2 (2 ^ 0) (some f) ∧ er = 0 ∧ p' = ⟨p.u.set f 2, p.z, p.i⟩) ∨ (FirstF p 2 (2 ^ 0) none ∧ er = 4 ∧ p' = p ∧ f = 0) := by
  rcases h with ⟨h, _⟩ | ⟨_, r3, r2, _, h2, h3⟩
  · omega
  · cases r2 with
    | none =>
      obtain ⟨a, b, c⟩ := h3
      exact .inr ⟨h2, b, c, a⟩
    | some g =>
      obtain ⟨a, b, c⟩ := h3
      subst a
      refine .inl ⟨h2, b, c.trans ?_⟩
      have hg : f < p.u.length := by rw [hp.u]; exact h2.1.2.1
      have e := spanU_succ (fun _ => 2) p.u f f (Nat.le_refl _) hg
      rw [spanU_none] at e
      show (⟨spanU (fun _ => 2) p.u f (f + 1), p.z, p.i⟩ : PS) = _
      rw [e]
theorem RowAt.its {W : World} {base : Nat} {v : Value} {l : List Nat} (h : RowAt W base 1 v l.length (fV l)) : Its W W.heap.size v (zI l) := by
  obtain ⟨k1, k2, ⟨rfl, k3⟩ | ⟨g, o, cap, rfl, k3, k4, k5, k6, k7, k8⟩⟩ := h
  · have : l = [] := List.eq_nil_of_length_eq_zero k3
    subst this
    exact Its.nil_ _ _
  · refine ⟨_, _, _, rfl, zI_length l, k3, k4, fun hn => ⟨g, o, rfl, k6, fun j hj => ?_⟩⟩
    rw [zI_at]
    refine k7 j _ ?_
    unfold fV
    rw [List.getElem?_map]
    simp [hj]
theorem RowAt.off {W : World} {base n : Nat} {v : Value} {xs : List Value} {K : Nat → Prop} (h : RowAt W base 1 v n xs) (hK : ∀ k, K k → k < base) : Off K v := by
  rintro b o s n' c rfl hn hk
  have h1 := (h.lt b rfl).1
  have h2 := hK b hk
  omega
theorem fV_snoc (l : List Nat) (f : Nat) : fV (l ++ [f]) = fV l ++ [Value.int .i64 (f : Int)] := by unfold fV; rw [List.map_append]; rfl
theorem Turns.bel {M : Nat → Prop} {w w' w'' : World} (h : Turns M w w') (k : Below w.heap.size w' w'') : Turns M w w'' :=
  ⟨k.os.trans h.os, k.tape.trans h.tape, k.output.trans h.output, Nat.le_trans h.size k.size, fun j hj hn => (k.block j hj).trans (h.block j hj hn)⟩
theorem PoolIn.bel {w w' : World} {gP B : Nat} {p : PS} (h : PoolIn w gP p) (hb : Below B w w') (hg : gP < B) : PoolIn w' gP p := PoolMem.far h fun k hk => by
  subst hk
  exact hb.block _ hg
/-- The memory's blocks beside the others. -/
structure Dif2 (gT gR gF gP gS gL : Nat) : Prop where
  d : Dif gT gP gS gL
  rP : gR ≠ gP
  rS : gR ≠ gS
  rL : gR ≠ gL
  fP : gF ≠ gP
  fS : gF ≠ gS
  fL : gF ≠ gL
  fT : gF ≠ gT
set_option maxRecDepth 20000 in
set_option maxHeartbeats 800000 in
theorem tundo_any (er : Int) (bt bm gT gR gP r gS gL : Nat) (p : PS) (l : List Bool) (v : Value) (fs : List Nat) (w : World) (hT : TreeB w gT gR gP r gS) (hP : PoolIn w gP p) (hS : SetAt w gS gL l) (hD : Dif gT gP gS gL)
    (hv : Its w w.heap.size v (zI fs)) (ho : Off (fun k => k = gP ∨ k = gS ∨ k = gL) v) (c1 : w.cell? ⟨bt, 0, none⟩ = some (.pointer (some ⟨gT, 0, none⟩))) (c2 : w.cell? ⟨bm, 0, none⟩ = some v) :
    Calls Try.prog 47 #[.int .i64 er, .pointer (some ⟨bt, 0, none⟩), .pointer (some ⟨bm, 0, none⟩)] w fun e w' => e = .returned (.tuple #[.slice none 0 0, .int .i64 er]) ∧ PoolIn w' gP (freeAll p fs) ∧ SetAt w' gS gL (putB l false (zI fs)) ∧ Turns (fun k => k = gP ∨ k = gS ∨ k = gL) w w' := by
  have DR := Lib.hid (tdrop_any gT gR gP r gS gL p l v fs w hT hP hS hD hv ho)
  clear hT hP hS hv ho
  go_enter Try.func47, Try.ntmps47
  go_wp2_with fail
  refine DR.out.mono ?_
  rintro e w1 ⟨rfl, h1, h2, h3⟩
  have H1 := Lib.hid h1
  have H2 := Lib.hid h2
  have H3 := Lib.hid h3
  clear h1 h2 h3
  go_wp2_with fail
  go_ret2
  exact ⟨rfl, H1.out, H2.out, H3.out⟩
theorem pool_alloc_in (gP : Nat) (p : PS) (w : World) (h : PoolIn w gP p) :
    Calls Try.prog 48 #[.pointer (some ⟨gP, 0, none⟩), .int .i64 2, .int .i64 0, .bool false] w fun e w' => Turns (fun k => k = gP) w w' ∧
      ((∃ f, FirstF p 2 (2 ^ 0) (some f) ∧ e = .returned (.tuple #[.int .i64 (f : Int), .int .i64 0]) ∧ PoolIn w' gP ⟨p.u.set f 2, p.z, p.i⟩) ∨ (FirstF p 2 (2 ^ 0) none ∧ e = .returned (.tuple #[.int .i64 0, .int .i64 4]) ∧ PoolIn w' gP p)) := by
  refine (pool_alloc gP _ p 2 0 false w h).mono ?_
  rintro e w' ⟨f, er, p', hal, K', rfl, h1, _, h3⟩
  refine ⟨h3, ?_⟩
  rcases alloc_case h.ok hal with ⟨a, rfl, rfl⟩ | ⟨a, rfl, rfl, rfl⟩
  · exact .inl ⟨f, a, rfl, (PoolIn.of h1).1⟩
  · exact .inr ⟨a, rfl, (PoolIn.of h1).1⟩
theorem FirstF.lt {p : PS} {z sz f : Nat} (h : FirstF p z sz (some f)) : f < 1024 := h.1.2.1
/-- The frames that add had are tables, and have nothing. -/
def AddOk (w : World) (gR gF gP gS gL n : Nat) (F : Nat → List Nat) (bad : Nat → Bool) (p : PS) (l : List Bool) (m : List Nat) (e : Ending) (w' : World) : Prop :=
  m.length = n ∧ Took p m ∧ ∃ v F', e = .returned (.tuple #[v, .int .i64 0]) ∧ RowAt w' w.heap.size 1 v n (fV m) ∧ Mem w' gR gF 1024 F' bad ∧ (∀ f ∈ m, F' f = zer) ∧ (∀ f, f ∉ m → F' f = F f) ∧ PoolIn w' gP (hadP p m) ∧ SetAt w' gS gL (putB l true (zI m)) ∧ Turns (fun k => k = gP ∨ k = gS ∨ k = gL ∨ k = gF) w w'
/-- There were not as many. -/
def AddNo (w : World) (gP gS gL n : Nat) (p : PS) (l : List Bool) (m : List Nat) (e : Ending) (w' : World) : Prop :=
  m.length < n ∧ Took p m ∧ FirstF (hadP p m) 2 (2 ^ 0) none ∧ e = .returned (.tuple #[.slice none 0 0, .int .i64 4]) ∧ PoolIn w' gP p ∧ SetAt w' gS gL (putB l false (zI m)) ∧ Turns (fun k => k = gP ∨ k = gS ∨ k = gL) w w'
set_option maxRecDepth 20000 in
set_option maxHeartbeats 1600000 in
theorem tadd_any (gT gR gF gP r gS gL n : Nat) (F : Nat → List Nat) (bad : Nat → Bool) (p : PS) (l : List Bool) (w : World) (hT : TreeB w gT gR gP r gS) (hM : Mem w gR gF 1024 F bad) (hb : ∀ f, f < 1024 → bad f = false) (hP : PoolIn w gP p) (hS : SetAt w gS gL l) (hD : Dif2 gT gR gF gP gS gL) (hn : n ≤ 4) :
    Calls Try.prog 26 #[.pointer (some ⟨gT, 0, none⟩), .int .i64 (n : Int)] w fun e w' => ∃ m, AddOk w gR gF gP gS gL n F bad p l m e w' ∨ AddNo w gP gS gL n p l m e w' := by
  obtain ⟨iI, hiI, hiz0, hiz1, hiz2⟩ := info_parts Try.infoInt8
  have HII := Lib.hid hiI
  have HI0 := Lib.hid hiz0
  have HI1 := Lib.hid hiz1
  have HI2 := Lib.hid hiz2
  have HT := Lib.hid hT
  have HM := Lib.hid hM
  have HP := Lib.hid hP
  have HS := Lib.hid hS
  have HD := Lib.hid hD
  have HBD := Lib.hid hb
  have HLT := Lib.hid (show gT < w.heap.size ∧ gR < w.heap.size ∧ gF < w.heap.size ∧ gP < w.heap.size ∧ gS < w.heap.size ∧ gL < w.heap.size from ⟨Blk.lt hT, hM.lt.1, hM.lt.2, PoolMem.lt hP _ rfl, hS.lt.1, hS.lt.2⟩)
  have HB0 := Lib.hid (((Below.refl w.heap.size w).alloc (Nat.le_refl _) (.cells #[.pointer (some ⟨gT, 0, none⟩)] 29)).alloc (by simp) (.cells #[.slice none 0 0] 23))
  have T0 := Lib.hid ((Blk.new w 29 #[.pointer (some ⟨gT, 0, none⟩)]).al (.cells #[.slice none 0 0] 23))
  have M0 := Lib.hid (Blk.new1 w (.cells #[.pointer (some ⟨gT, 0, none⟩)] 29) 23 #[.slice none 0 0])
  clear hiI hiz0 hiz1 hiz2 hT hM hP hS hD hb
  go_enter Try.func26, Try.ntmps26
  go_wp2_with fail
  go_loopg [8, 9, 15] n (fun gg _ _ s15 wx => ∃ (m : List Nat) (v : Value), m.length + gg = n ∧ s15 = .int .i64 ((m.length : Nat) : Int) ∧ Took p m ∧ PoolIn wx gP (hadP p m) ∧ Blk wx w.heap.size 29 #[.pointer (some ⟨gT, 0, none⟩)] ∧ Blk wx (w.heap.size + 1) 23 #[v] ∧ RowAt wx (w.heap.size + 2) 1 v m.length (fV m) ∧ Turns (fun k => k = gP) w wx)
  case atStart => exact ⟨[], .slice none 0 0, by simp, rfl, Took.nil p, HP.out.fresh HB0.out, T0.out, M0.out, RowAt.nil_ _ _ _, Turns.of_below HB0.out (Nat.le_refl _)⟩
  case round =>
    obtain ⟨m, v, hmg, rfl, htk, hpx, htx, hmx, hrx, hux⟩ := hrel
    obtain ⟨k, hk⟩ : ∃ k, k = m.length := ⟨_, rfl⟩
    rw [← hk] at hmg hrx ⊢
    have HK := Lib.hid hk
    have HTK := Lib.hid htk
    have HPX := Lib.hid hpx
    have HTX := Lib.hid htx
    have HMX := Lib.hid hmx
    have HRX := Lib.hid hrx
    have HUX := Lib.hid hux
    have cT : wr.cell? ⟨w.heap.size, 0, none⟩ = some (.pointer (some ⟨gT, 0, none⟩)) := htx.cell 0
    have cM : wr.cell? ⟨w.heap.size + 1, 0, none⟩ = some v := hmx.cell 0
    have hTx : TreeB wr gT gR gP r gS := hux.blk HT.out HD.out.d.tP
    have c1 : wr.cell? ⟨gT, 1, none⟩ = some (.pointer (some ⟨gP, 0, none⟩)) := Blk.cell hTx 1
    have HSX := Lib.hid (HS.out.turns hux (fun e => HD.out.d.pS e.symm) (fun e => HD.out.d.pL e.symm))
    have HTB := Lib.hid hTx
    clear hk htk hpx htx hmx hrx hux hTx
    by_cases hlt : k < n
    · have t1 : decide ((k : Int) < (n : Int)) = true := decide_eq_true (by omega)
      have AL := Lib.hid (pool_alloc_in gP _ wr HPX.out)
      go_wp2_with fail
      refine AL.out.mono ?_
      rintro e w3 ⟨ht3, ⟨f, hff, rfl, hp3⟩ | ⟨hno, rfl, hp3⟩⟩
      · have hu3 : Turns (fun k => k = gP) w w3 := HUX.out.trans ht3
        have hlP := HLT.out.2.2.2.1
        have hs3 := hu3.size
        have hsx := HUX.out.size
        have HT3 := Lib.hid (ht3.blk HTX.out (by omega))
        have hm3 : Blk w3 (w.heap.size + 1) 23 #[v] := ht3.blk HMX.out (by omega)
        have hr3 : RowAt w3 (w.heap.size + 2) 1 v k (fV m) := HRX.out.keep (fun j hj => ht3.block j (HRX.out.lt j hj).2 (fun e => by have := (HRX.out.lt j hj).1; omega)) ht3.size
        have hB := (Below.refl w3.heap.size w3).alloc (Nat.le_refl _) (.cells #[Value.int .i64 (f : Int)] 3)
        have HB := Lib.hid hB
        have cM3 : w3.cell? ⟨w.heap.size + 1, 0, none⟩ = some v := hm3.cell 0
        have HM3 := Lib.hid (hm3.below hB hm3.lt)
        have HML := Lib.hid hm3.lt
        have HR3 := Lib.hid (hr3.fresh hB)
        have HU3 := Lib.hid hu3
        have HP3 := Lib.hid hp3
        have HFF := Lib.hid hff
        have HONE := Lib.hid (show ∀ u ∈ [Value.int .i64 (f : Int)], u.oneCell' = true from fun u hu => by rw [List.mem_singleton.1 hu]; rfl)
        have HQ1 := Lib.hid (show k + 1 ≤ maxLen from by unfold maxLen; omega)
        have HQ2 := Lib.hid (show (k + 1) * 8 ≤ 140737488355328 from by omega)
        have HQ3 := Lib.hid (show w.heap.size + 2 ≤ (w3.alloc (.cells #[Value.int .i64 (f : Int)] 3)).heap.size from by have := hm3.lt; simp; omega)
        have CN := Lib.hid (cells_new w3 3 [Value.int .i64 (f : Int)])
        clear ht3 hp3 hff hu3 hm3 hr3 hB
        go_wp2_with (refine wpList_append_at rfl (.tmp 32) (.tmp 34) 23 rfl (w.heap.size + 2) 3 iI (.int .i64 0) 1 8 Try.underlying23 HII.out HI0.out HI1.out HI2.out rfl (by decide) v k (fV m) rfl HR3.out ⟨w3.heap.size, 0, none⟩ 1 [Value.int .i64 (f : Int)] rfl rfl CN.out HONE.out HQ1.out HQ2.out HQ3.out ?_; intro v9 w9 hr9 hg9 ho9; obtain ⟨gq, oq, cq, rfl, _, _⟩ := hr9.some_ (by omega); have h9 := (hg9.block (w.heap.size + 1) (by simp; have := HML.out; omega) (fun e => by have := (HR3.out.lt _ e.symm).1; omega)).trans HM3.out; have c9 : w9.cell? ⟨w.heap.size + 1, 0, none⟩ = some v := Blk.cell h9 0; have f9 : w9.frozen? ⟨w.heap.size + 1, 0, none⟩ = false := Blk.frozen h9 0; have H9 := Lib.hid h9; have R9 := Lib.hid hr9; have G9 := Lib.hid hg9; clear h9 hr9 hg9 ho9)
        go_roundg (n - (k + 1))
        case measure => omega
        case rel =>
          have hs9 := G9.out.size
          simp only [World.size_alloc] at hs9
          have hml := HML.out
          have hB9 : Below (w.heap.size + 1) w3 w9 := (HB.out.mono (by omega)).grown G9.out (by simp; omega) (fun j hj => by have := (HR3.out.lt j hj).1; omega)
          have hB11 : Below (w.heap.size + 1) w3 (w9.setCell ⟨w.heap.size + 1, 0, none⟩ (Value.slice (some ⟨gq, oq, none⟩) (k + 1) cq)) := hB9.setCell (by simp) _
          have hB10 := hB11.mono (Nat.le_succ w.heap.size)
          have e1 : (m ++ [f]).length = k + 1 := by rw [List.length_append, ← HK.out]; rfl
          refine ⟨m ++ [f], _, by omega, by rw [e1]; go_num, HTK.out.snoc HFF.out, ?_, ?_, Blk.set_ H9.out 0 _, ?_, HU3.out.bel hB10⟩
          · rw [hadP_snoc]
            exact HP3.out.bel hB10 hlP
          · exact (hB11.block w.heap.size (Nat.lt_succ_self _)).trans HT3.out
          · rw [e1, fV_snoc]
            exact R9.out.keep (fun j hj => Below.heap_setCell _ _ _ _ (fun hh => by have := (R9.out.lt j hj).1; simp only at hh; omega)) (by simp [World.setCell])
      · have hP3 := PoolIn.of hp3
        have hu3 : Turns (fun k => k = gP) w w3 := HUX.out.trans ht3
        have hlP := HLT.out.2.2.2.1
        have hsx := HUX.out.size
        have hm3 : Blk w3 (w.heap.size + 1) 23 #[v] := ht3.blk HMX.out (by omega)
        have ht3' : Blk w3 w.heap.size 29 #[.pointer (some ⟨gT, 0, none⟩)] := ht3.blk HTX.out (by omega)
        have hr3 : RowAt w3 (w.heap.size + 2) 1 v k (fV m) := HRX.out.keep (fun j hj => ht3.block j (HRX.out.lt j hj).2 (fun e => by have := (HRX.out.lt j hj).1; omega)) ht3.size
        rw [HK.out] at hr3
        have UN := Lib.hid (tundo_any 4 w.heap.size (w.heap.size + 1) gT gR gP r gS gL (hadP p m) l v m w3 (hu3.blk HT.out HD.out.d.tP) hp3 (HS.out.turns hu3 (fun e => HD.out.d.pS e.symm) (fun e => HD.out.d.pL e.symm)) HD.out.d hr3.its (hr3.off (fun k hk => by have := HLT.out; rcases hk with rfl | rfl | rfl <;> omega)) (ht3'.cell 0) (hm3.cell 0))
        have HU3 := Lib.hid hu3
        have HNO := Lib.hid hno
        clear ht3 hp3 hP3 hu3 hm3 ht3' hr3 hno
        go_wp2_with fail
        refine UN.out.mono ?_
        rintro e w4 ⟨rfl, k1, k2, k3⟩
        rw [had_freed HP.out.ok HTK.out] at k1
        have K1 := Lib.hid k1
        have K2 := Lib.hid k2
        have K3 := Lib.hid ((HU3.out.mono (fun k hk => .inl hk)).trans k3 : Turns (fun k => k = gP ∨ k = gS ∨ k = gL) w w4)
        clear k1 k2 k3
        go_wp2_with fail
        go_ret2
        exact ⟨m, .inr ⟨by rw [← HK.out]; exact hlt, HTK.out, HNO.out, rfl, K1.out, K2.out, K3.out⟩⟩
    · obtain rfl : k = n := by omega
      have t1 : decide ((k : Int) < (k : Int)) = false := decide_eq_false (by omega)
      obtain ⟨A, cap, hva, hcap⟩ := HRX.out.len
      subst hva
      have HIT := Lib.hid (show Its wr wr.heap.size (.slice A k cap) (zI m) from by
        have h := HRX.out
        rw [HK.out] at h ⊢
        exact h.its)
      have HOFF := Lib.hid (HRX.out.off (K := fun j => j < w.heap.size + 2) (fun j hj => hj))
      have HMU := Lib.hid (HM.out.turns HUX.out HD.out.rP HD.out.fP)
      have HTA := Lib.hid (Took.all HP.out.ok m HTK.out)
      clear hlt t1
      have HZ := Lib.hid (show ∀ i, i < k → ∃ b1 o1, A = some ⟨b1, o1, none⟩ ∧ w.heap.size + 2 ≤ b1 ∧ b1 < wr.heap.size ∧ wr.cell? ⟨b1, o1 + i, none⟩ = some (.int .i64 ((m.getD i 0 : Nat) : Int)) from fun i hi => by
        obtain ⟨A', N, c, e, hN, _, hc, hz⟩ := HIT.out
        cases e
        obtain ⟨b1, o1, e, h1, h2⟩ := hz (by omega)
        have h3 := h2 i (by omega)
        rw [zI_at] at h3
        refine ⟨b1, o1, e, ?_, h1, h3⟩
        rcases Nat.lt_or_ge b1 (w.heap.size + 2) with h | h
        · exact absurd h (HOFF.out b1 o1 none k cap (by rw [e]) (by omega))
        · exact h)
      have hml : k ≤ 9223372036854775807 := by omega
      obtain ⟨W1, hW1⟩ : ∃ W, W = wr := ⟨_, rfl⟩
      subst hW1
      go_wp2_with fail
      go_loopg [11, 12, 39] k (fun gg _ _ s39 wx => ∃ (i : Nat) (F' : Nat → List Nat), i + gg = k ∧ s39 = .int .i64 (i : Int) ∧ Mem wx gR gF 1024 F' bad ∧ (∀ f ∈ m.take i, F' f = zer) ∧ (∀ f, f ∉ m.take i → F' f = F f) ∧ Turns (fun j => j = gF) W1 wx)
      case atStart => exact ⟨0, F, by omega, rfl, HMU.out, fun f hf => by simp at hf, fun f _ => rfl, Turns.refl _ _⟩
      case round =>
        obtain ⟨i, F', hig, rfl, hm2, hz2, ho2, ht2⟩ := hrel
        have HM2 := Lib.hid hm2
        have HZ2 := Lib.hid hz2
        have HO2 := Lib.hid ho2
        have HT2 := Lib.hid ht2
        have hlF := HLT.out.2.2.1
        have cT2 : wr.cell? ⟨w.heap.size, 0, none⟩ = some (.pointer (some ⟨gT, 0, none⟩)) := (ht2.blk HTX.out (by omega)).cell 0
        have hTB2 : TreeB wr gT gR gP r gS := ht2.blk HTB.out (fun e => HD.out.fT e.symm)
        have c02 : wr.cell? ⟨gT, 0, none⟩ = some (.pointer (some ⟨gR, 0, none⟩)) := Blk.cell hTB2 0
        clear hm2 hz2 ho2 ht2
        by_cases hlt : i < k
        · have t4 : decide ((i : Int) < (k : Int)) = true := decide_eq_true (by omega)
          have t5 : (i : Int) < (k : Int) := by omega
          have t6 : (0 : Int) ≤ (i : Int) := by omega
          obtain ⟨b1, o1, rfl, h1, hbl, hcc⟩ := HZ.out i hlt
          obtain ⟨y, hy⟩ : ∃ y, y = m.getD i 0 := ⟨_, rfl⟩
          have hcell : wr.cell? ⟨b1, o1 + i, none⟩ = some (.int .i64 (y : Int)) := (World.cell?_of_block (HT2.out.block b1 hbl (by omega))).trans (by rw [hy]; exact hcc)
          have hym : y ∈ m := by rw [hy]; exact getD_mem_or _ _ _ (by rw [← HK.out]; exact hlt)
          have hy10 : y < 1024 := (HTA.out.2 y hym).1
          have ZR := Lib.hid (zero_yes gR gF 1024 F' bad y wr HM2.out hy10 (HBD.out y hy10))
          have TK := Lib.hid (show m.take (i + 1) = m.take i ++ [y] from by
            have hi : i < m.length := by rw [← HK.out]; exact hlt
            rw [List.take_add_one, List.getElem?_eq_getElem hi, hy]
            simp [hi])
          clear hcc hy h1 hbl hTB2
          go_wp2_with fail
          refine ZR.out.mono ?_
          rintro e w5 ⟨rfl, hm5, ho5⟩
          have HM5 := Lib.hid hm5
          have HT5 := Lib.hid (HT2.out.trans (Turns.of_only ho5 rfl : Turns (fun j => j = gF) wr w5))
          clear hm5 ho5
          go_wp2_with fail
          go_roundg (k - (i + 1))
          case measure => omega
          case rel =>
            refine ⟨i + 1, upd F' y zer, by omega, by go_num, HM5.out, fun f hf => ?_, fun f hf => ?_, HT5.out⟩
            · rw [TK.out, List.mem_append, List.mem_singleton] at hf
              by_cases c : f = y
              · rw [c, upd_same]
              · rw [upd_other _ _ _ c]
                exact HZ2.out f (hf.resolve_right c)
            · rw [TK.out, List.mem_append, List.mem_singleton] at hf
              rw [upd_other _ _ _ (fun e => hf (.inr e))]
              exact HO2.out f (fun h => hf (.inl h))
        · obtain rfl : i = k := by omega
          have t4 : decide ((i : Int) < (i : Int)) = false := decide_eq_false (by omega)
          have hsz := HUX.out.size
          have hsz2 := HT2.out.size
          have hmx2 : Blk wr (w.heap.size + 1) 23 #[.slice A i cap] := HT2.out.blk HMX.out (by omega)
          have cM2 : wr.cell? ⟨w.heap.size + 1, 0, none⟩ = some (.slice A i cap) := hmx2.cell 0
          have c32 : wr.cell? ⟨gT, 3, none⟩ = some (.pointer (some ⟨gS, 0, none⟩)) := Blk.cell hTB2 3
          have HS2 := Lib.hid (HSX.out.turns HT2.out (fun e => HD.out.fS e.symm) (fun e => HD.out.fL e.symm))
          have HI2 := Lib.hid (HIT.out.turns (Nat.le_refl _) HT2.out (fun b o s n c e hn hk => HOFF.out b o s n c e hn (by subst hk; omega)))
          have HP2 := Lib.hid (HPX.out.turns HT2.out (fun e => HD.out.fP e.symm))
          have HMB := Lib.hid hmx2
          have et : m.take i = m := by rw [HK.out]; exact List.take_length
          rw [et] at HZ2 HO2
          clear hmx2 hTB2 c02
          go_wp2_with fail
          go_still_tail 5, (by kernel_rfl)
          change wpList _ _ _ _ _ wr.drew
          obtain ⟨W3, hW3⟩ : ∃ W, W = wr.drew := ⟨_, rfl⟩
          rw [← hW3]
          have HD3 := Lib.hid (show Turns (fun j => j = gF) W1 W3 from by rw [hW3]; exact HT2.out.drew)
          have hsz3 := HD3.out.size
          have HS3 := Lib.hid (show SetAt W3 gS gL l from by rw [hW3]; exact HS2.out)
          have HI3 := Lib.hid (show Its W3 W3.heap.size (.slice A i cap) (zI m) from by rw [hW3]; exact HI2.out.more HT2.out.size)
          have HP3 := Lib.hid (show PoolIn W3 gP (hadP p m) from by rw [hW3]; exact HP2.out)
          have HM3 := Lib.hid (show Mem W3 gR gF 1024 F' bad from by rw [hW3]; exact HM2.out)
          have HMB3 := Lib.hid (show Blk W3 (w.heap.size + 1) 23 #[.slice A i cap] from by rw [hW3]; exact HMB.out)
          have hlt6 := HLT.out
          have SA := Lib.hid (set_add gS gL l _ (zI m) W3 HS3.out HI3.out (fun b o s n c e hn hk => HOFF.out b o s n c e hn (by rcases hk with rfl | rfl <;> omega)))
          clear hW3 cM2 c32 cT2
          go_wp2_with fail
          refine SA.out.mono ?_
          rintro e w6 ⟨rfl, k1, k2⟩
          have cM6 : w6.cell? ⟨w.heap.size + 1, 0, none⟩ = some (.slice A i cap) := (k2.blk HMB3.out (by rintro (e | e) <;> omega)).cell 0
          have K1 := Lib.hid k1
          have K2 := Lib.hid k2
          clear k1 k2
          go_wp2_with fail
          go_ret2
          refine ⟨m, .inl ⟨HK.out.symm, HTK.out, _, F', rfl, ?_, HM3.out.turns K2.out (by rintro (e | e); exact HD.out.rS e; exact HD.out.rL e) (by rintro (e | e); exact HD.out.fS e; exact HD.out.fL e), HZ2.out, HO2.out, HP3.out.turns K2.out (by rintro (e | e); exact HD.out.d.pS e; exact HD.out.d.pL e), K1.out, ?_⟩⟩
          · have hr := HRX.out
            refine (RowAt.keep hr (fun j hj => ?_) (Nat.le_trans hsz3 K2.out.size)).mono (by omega)
            have h1 := hr.lt j hj
            exact (K2.out.block j (by omega) (by rintro (e | e) <;> omega)).trans (HD3.out.block j h1.2 (by omega))
          · exact (HUX.out.mono (fun k hk => .inl hk)).trans ((HD3.out.mono (fun k hk => .inr (.inr (.inr hk)))).trans (K2.out.mono (fun k hk => .inr (hk.elim .inl (fun h => .inr (.inl h))))))
end Go.Proofs.Ytegoookllckhiaa

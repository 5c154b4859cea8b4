/-
  The contracts of the document's own Same, SameAll, Head, Load, Sector and Records.
  Conditions: those that each line bears.
-/
import Derived.Test.YtfnegbcpiejdaaaWrd
import Derived.Test.YtfnegbcpiejdaaaDsk
import Derived.Deep.RegionWith
import Derived.Test.YtfnegbcpiejdaaaBas
import Derived.Deep.LoopGhost
import Derived.Test.YtfnegbcpiejdaaaSltA
import Derived.Deep.RegionHeld3

/-! ## RefA: The contract of the document's own Same: whether two lists of bytes are the same; memory stays as it was.   Conditions: both are read in memory. -/
namespace Go.Proofs.Ytfnegbcpiejdaaa
open Go.RowKit
set_option linter.unusedVariables false

theorem list_of_getD {xs ys : List Nat} (hl : xs.length = ys.length) (h : ∀ j, j < xs.length → xs.getD j 0 = ys.getD j 0) : xs = ys := by
  apply List.ext_getElem hl
  intro j h1 h2
  have := h j h1
  simpa [h1, h2] using this
theorem lists_of_getD {xs ys : List (List Nat)} (hl : xs.length = ys.length) (h : ∀ j, j < xs.length → xs.getD j [] = ys.getD j []) : xs = ys := by
  apply List.ext_getElem hl
  intro j h1 h2
  have := h j h1
  simpa [h1, h2] using this
theorem Bts.drewN {w : World} {B n : Nat} {v : Value} {xs : List Nat} (h : Bts w B v xs) : Bts (w.drewN n) B v xs := h
theorem Drew.trans {a b c : World} (h : Drew a b) (k : Drew b c) : Drew a c := by
  obtain ⟨m, rfl⟩ := h
  obtain ⟨n, rfl⟩ := k
  refine ⟨m + n, ?_⟩
  simp [World.drewN, Nat.add_assoc]
set_option maxRecDepth 20000 in
set_option maxHeartbeats 400000 in
theorem same_any (v v' : Value) (xs ys : List Nat) (B B' : Nat) (w : World) (h : Bts w B v xs) (h' : Bts w B' v' ys) :
    Calls Try.prog 16 #[v, v'] w fun e w' => e = .returned (.bool (decide (xs = ys))) ∧ Drew w w' := by
  obtain ⟨A, l, c, rfl, hl, hm, _, _, hb, hx⟩ := h
  obtain ⟨A', l', c', rfl, hl', hm', _, _, hb', hx'⟩ := h'
  by_cases hll : l = l'
  · subst hll
    unfold maxLen at hm
    have HX := Lib.hid hx
    have HX' := Lib.hid hx'
    have HL := Lib.hid hl
    have HL' := Lib.hid hl'
    clear hl hl' hm' hb hb' hx hx'
    go_enter Try.func16, Try.ntmps16
    go_wp2
    go_loopw [5] (fun i wr => ∃ k m : Nat, k ≤ l ∧ i = .int .i64 k ∧ wr = w.drewN m ∧ ∀ j, j < k → xs.getD j 0 = ys.getD j 0) (fun i _ => l - (intOf i).toNat)
    case atStart => exact ⟨0, 0, Nat.zero_le _, rfl, rfl, fun j hj => absurd hj (by omega)⟩
    case round =>
      obtain ⟨k, m, hk, rfl, rfl, he⟩ := hrel
      have HE := Lib.hid he
      clear he
      by_cases hlt : k < l
      · obtain ⟨b, off, rfl, _, hc⟩ := HX.out (by omega)
        obtain ⟨b', off', rfl, _, hc'⟩ := HX'.out (by omega)
        have hcell := hc k hlt
        have hcell' := hc' k hlt
        obtain ⟨y, hy⟩ : ∃ y, y = xs.getD k 0 := ⟨_, rfl⟩
        obtain ⟨z, hz⟩ : ∃ z, z = ys.getD k 0 := ⟨_, rfl⟩
        rw [← hy] at hcell
        rw [← hz] at hcell'
        have HY := Lib.hid hy
        have HZ := Lib.hid hz
        clear hc hc' hy hz
        by_cases c1 : y = z
        · have d1 : (((y : Nat) : Int) != ((z : Nat) : Int)) = false := by simp [c1]
          go_wp2
          go_quiet (fail)
          go_wp2
          go_roundw
          case rel =>
            refine ⟨k + 1, m + nq, by omega, by go_num, rfl, fun j hj => ?_⟩
            by_cases e : j = k
            · subst e
              rw [← HY.out, ← HZ.out]
              exact c1
            · exact HE.out j (by omega)
          case measure => simp [intOf]; omega
        · have d1 : (((y : Nat) : Int) != ((z : Nat) : Int)) = true := by rw [bne_iff_ne]; omega
          go_wp2
          go_quiet (fail)
          go_wp2
          go_ret
          exact ⟨by rw [decide_eq_false (fun e => c1 (by rw [HY.out, HZ.out, e]))]; rfl, Drew.trans ⟨m, rfl⟩ ⟨nq, rfl⟩⟩
      · obtain rfl : k = l := by omega
        go_wp2
        go_ret
        exact ⟨by rw [decide_eq_true (list_of_getD (by rw [HL.out, HL'.out]) (by rw [HL.out]; exact HE.out))]; rfl, m, rfl⟩
  · refine (same_no_len A A' l c l' c' w hll).mono ?_
    rintro e w' ⟨rfl, rfl⟩
    exact ⟨by rw [decide_eq_false (fun e => hll (by rw [← hl, ← hl', e]))], 0, rfl⟩
theorem same_quiet (v v' : Value) (xs ys : List Nat) (B B' m n : Nat) (T : Bool) (w : World) (h : Bts w B v xs) (h' : Bts w B' v' ys) (hT : T = decide (xs = ys)) :
    Calls Try.prog 16 #[v, v'] (w.drewN (m + n)) fun e w' => e = .returned (.bool T) ∧ ∃ q, w' = w.drewN (m + q) := by
  refine (same_any v v' xs ys B B' _ (Bts.drewN h) (Bts.drewN h')).mono ?_
  rintro e w' ⟨rfl, q, rfl⟩
  exact ⟨by rw [hT], n + q, by rw [World.drewN_drewN, Nat.add_assoc]⟩
end Go.Proofs.Ytfnegbcpiejdaaa

/-! ## RefB: The contract of the document's own SameAll: whether two lists of lists of bytes are the same; memory stays as it was.   Conditions: both are read in memory. -/
namespace Go.Proofs.Ytfnegbcpiejdaaa
open Go.RowKit
set_option linter.unusedVariables false

set_option maxRecDepth 20000 in
set_option maxHeartbeats 1000000 in
theorem sameAll_any (v v' : Value) (xss yss : List (List Nat)) (w : World) (h : Pts w v xss) (h' : Pts w v' yss) :
    Calls Try.prog 17 #[v, v'] w fun e w' => e = .returned (.bool (decide (xss = yss))) ∧ Drew w w' := by
  have HP := Lib.hid h
  have HP' := Lib.hid h'
  obtain ⟨A, l, c, rfl, hl, hlc, hcm, -⟩ := h
  obtain ⟨A', l', c', rfl, hl', -⟩ := h'
  have HL := Lib.hid hl
  have HL' := Lib.hid hl'
  unfold maxLen at hcm
  clear hl hl'
  by_cases hll : l = l'
  · subst hll
    have d0 : (((l : Nat) : Int) != ((l : Nat) : Int)) = false := by simp
    go_enter Try.func17, Try.ntmps17
    go_wp2
    go_loopw [5] (fun i wr => ∃ k : Nat, k ≤ l ∧ i = .int .i64 k ∧ Drew w wr ∧ ∀ j, j < k → xss.getD j [] = yss.getD j []) (fun i _ => l - (intOf i).toNat)
    case atStart => exact ⟨0, Nat.zero_le _, rfl, ⟨0, rfl⟩, fun j hj => absurd hj (by omega)⟩
    case round =>
      obtain ⟨k, hk, rfl, hd, he⟩ := hrel
      have HE := Lib.hid he
      have HD := Lib.hid hd
      obtain ⟨m, rfl⟩ := hd
      clear he
      by_cases hlt : k < l
      · obtain ⟨b, off, c1, u, e1, -, hcell, hu⟩ := HP.out.get (j := k) (by rw [HL.out]; exact hlt)
        obtain ⟨b', off', c1', u', e1', -, hcell', hu'⟩ := HP'.out.get (j := k) (by rw [HL'.out]; exact hlt)
        injection e1 with e1 _ _
        injection e1' with e1' _ _
        subst e1 e1'
        have HUU := Lib.hid hu
        have HUU' := Lib.hid hu'
        obtain ⟨A2, n2, c2, rfl, -⟩ := hu
        obtain ⟨A2', n2', c2', rfl, -⟩ := hu'
        obtain ⟨T, hT⟩ : ∃ T, T = decide (xss.getD k [] = yss.getD k []) := ⟨_, rfl⟩
        have HT := Lib.hid hT
        have HU := Lib.hid (fun n => same_quiet _ _ _ _ _ _ m n T w HUU.out HUU'.out hT)
        clear hT
        cases T with
        | true =>
          go_wp2
          go_quiet (first | (go_at_call 16; exact HU.out _))
          go_wp2
          go_roundw
          case rel =>
            refine ⟨k + 1, by omega, by go_num, ⟨m + nq, rfl⟩, fun j hj => ?_⟩
            by_cases e : j = k
            · subst e
              exact of_decide_eq_true HT.out.symm
            · exact HE.out j (by omega)
          case measure => simp [intOf]; omega
        | false =>
          go_wp2
          go_quiet (first | (go_at_call 16; exact HU.out _))
          go_wp2
          go_ret
          exact ⟨by rw [decide_eq_false (p := xss = yss) (fun e => of_decide_eq_false HT.out.symm (by rw [e]))]; rfl, m + nq, World.drewN_drewN ..⟩
      · obtain rfl : k = l := by omega
        go_wp2
        go_ret
        exact ⟨by rw [decide_eq_true (lists_of_getD (by rw [HL.out, HL'.out]) (by rw [HL.out]; exact HE.out))]; rfl, HD.out⟩
  · have d0 : (((l : Nat) : Int) != ((l' : Nat) : Int)) = true := by rw [bne_iff_ne]; omega
    go_enter Try.func17, Try.ntmps17
    go_wp2
    go_ret
    exact ⟨by rw [decide_eq_false (fun e => hll (by rw [← HL.out, ← HL'.out, e]))]; rfl, 0, rfl⟩
end Go.Proofs.Ytfnegbcpiejdaaa

/-! ## RefHead: The contract of the document's own Head: a slot's head, in new memory.   Conditions: the bytes are fewer than 100,000, and are read in memory. -/
namespace Go.Proofs.Ytfnegbcpiejdaaa
open Go.RowKit
set_option linter.unusedVariables false

theorem one_bts_ (w : World) (t : TypeId) (y : Nat) (h : y < 256) : Bts (w.alloc (.cells #[.int .u8 (y : Int)] t)) (w.heap.size + 1) (.slice (some ⟨w.heap.size, 0, none⟩) 1 1) [y] :=
  Bts.of_blk (Blk.new w t _) (by omega) rfl (Nat.le_refl _) (by simp [maxLen]) (fun j hj => by obtain rfl : j = 0 := (by omega); simpa using h) (fun j hj => by obtain rfl : j = 0 := (by omega); rfl)
/-- A head, while zeros are laid behind. -/
def hedZ (g : Nat) (b : List Nat) (i : Nat) : List Nat := preL g b ++ numL (sumM (preL g b ++ b)) 4 ++ List.replicate i 0
theorem hedZ_more (g : Nat) (b : List Nat) (i : Nat) : hedZ g b i ++ [0] = hedZ g b (i + 1) := by
  unfold hedZ
  rw [List.append_assoc, List.replicate_succ']
theorem hedZ_all (g : Nat) (b : List Nat) : hedZ g b 52 = hedL g b := by
  unfold hedZ hedL
  rw [List.append_assoc]
/-- What holds while zeros are laid behind. -/
def HedAt (w : World) (g : Nat) (b : List Nat) (i : Nat) (v : Value) (wx : World) : Prop :=
  wx.ownsRow w.heap.size 5 1 v (12 + i) ((hedZ g b i).map bv) ∧ Below w.heap.size w wx
/-- What Head leaves. -/
def RefHeadPost (w : World) (g : Nat) (b : List Nat) (e : Ending) (w' : World) : Prop :=
  ∃ r, e = .returned r ∧ w'.ownsRow w.heap.size 5 1 r 64 ((hedL g b).map bv) ∧ Below w.heap.size w w'

set_option maxHeartbeats 1600000 in
set_option maxRecDepth 20000 in
theorem refHead_any (g : Nat) (v : Value) (b : List Nat) (B : Nat) (w : World) (h : Bts w B v b) (hB : B ≤ w.heap.size) (hl : b.length ≤ 100000) (hg : g < 4294967296) :
    Calls Try.prog 48 #[.int .u32 (g : Int), v] w (RefHeadPost w g b) := by
  have HX := Lib.hid h
  have HB := Lib.hid hB
  obtain ⟨A, l, c, rfl, e0, -⟩ := h
  have E0 := Lib.hid e0
  have hl100 : l ≤ 100000 := by omega
  have HG := Lib.hid hg
  have HL := Lib.hid hl100
  have c1 : IntKind.u64.wrap (g : Int) = (g : Int) := by rw [IntKind.wrap_u64]; omega
  have c2 : IntKind.u64.wrap (l : Int) = (l : Int) := by rw [IntKind.wrap_u64]; omega
  obtain ⟨i0, hi, hz0, hz1, hz2⟩ := info_parts Try.info8
  have HI := Lib.hid hi
  have HZ0 := Lib.hid hz0
  have HZ1 := Lib.hid hz1
  have HZ2 := Lib.hid hz2
  clear hi hz0 hz1 hz2 hB hl e0 hg
  go_enter Try.func48, Try.ntmps48
  go_wp2_with fail
  refine (num_any g 4 _ (by have := HG.out; omega) (by omega) (by omega)).mono ?_
  rintro e w1 ⟨r1, rfl, ho1, hb1⟩
  have O1 := Lib.hid (show w1.ownsRow w.heap.size 5 1 r1 4 ((numL g 4).map bv) from ho1)
  have B1 := Lib.hid hb1
  clear ho1 hb1
  go_wp2_with fail
  refine (num_any l 4 _ (by have := HL.out; omega) (by omega) (by omega)).mono ?_
  rintro e w2 ⟨r2, rfl, ho2, hb2⟩
  have O1' := Lib.hid (show w2.ownsRow w.heap.size 5 1 r1 4 ((numL g 4).map bv) from O1.out.kept (row := none) ⟨hb2.os, hb2.tape, hb2.output, hb2.size, fun k hk _ => hb2.block k hk⟩ (by cases r1.ownBlock <;> simp))
  have B2 := Lib.hid (B1.out.trans (hb2.mono B1.out.size))
  have X2 := Lib.hid (show Bts w2 w2.heap.size r2 (numL l 4) from Bts.of_own ho2 (numL_byte _ _))
  obtain ⟨A2, l2, cc2, rfl, hl2, -⟩ := X2.out
  clear ho2 hb2 O1 hl2
  go_wp2_with (first
    | (at_builtin; refine wpList_append_bts rfl (.tmp 8) (.tmp 12) 27 rfl w.heap.size 5 i0 Try.underlying27 HI.out HZ0.out HZ1.out HZ2.out r1 4 (numL g 4) rfl O1'.out _ (numL l 4) rfl w2.heap.size X2.out (by rw [numL_length]; omega) B2.out.size ?_; intro v3 w3 O3 B3)
    | (at_builtin; refine wpList_append_bts rfl (.tmp 15) (.tmp 16) 27 rfl w3.heap.size 5 i0 Try.underlying27 HI.out HZ0.out HZ1.out HZ2.out _ 0 [] rfl (own_empty w3 _) v3 (numL g 4 ++ numL l 4) rfl w3.heap.size ((Bts.of_own O3.out (by intro y hy; rcases List.mem_append.1 hy with hy | hy <;> exact numL_byte _ _ y hy)).below ((Below.refl _ _).alloc (Nat.le_refl _) _)) (by simp [numL_length]) (by simp) ?_; intro v4 w4 O4 B4)
    | (at_builtin; refine wpList_append_bts rfl (.tmp 17) (.tmp 18) 27 rfl w3.heap.size 5 i0 Try.underlying27 HI.out HZ0.out HZ1.out HZ2.out v4 (0 + (numL g 4 ++ numL l 4).length) ([] ++ (numL g 4 ++ numL l 4)) rfl O4.out _ b rfl B (HX.out.below ((B2.out.trans (B3.out.trans ((((Below.refl _ w3).alloc (Nat.le_refl _) _).trans B4.out).mono (B2.out.trans B3.out).size))).mono HB.out)) (by have := HL.out; have := E0.out; simp [numL_length]; omega) ((((Below.refl _ w3).alloc (Nat.le_refl _) _).trans B4.out)).size ?_; intro v5 w5 O5 B5))
  have B35 := Lib.hid (show Below w3.heap.size w3 w5 from (((Below.refl _ w3).alloc (Nat.le_refl _) _).trans B4.out).trans B5.out)
  have BW3 := Lib.hid (B2.out.trans B3.out)
  have hpre : numL g 4 ++ numL l 4 = preL g b := by unfold preL; rw [E0.out]
  have HB8 := Lib.hid HX.out.byte
  have O3' := Lib.hid (show w3.ownsRow w.heap.size 5 1 v3 8 ((preL g b).map bv) from by
    have h := O3.out
    rw [numL_length, hpre] at h
    exact h)
  have X5 := Lib.hid (show Bts w5 w5.heap.size v5 (preL g b ++ b) from by
    have h := O5.out
    rw [List.nil_append, hpre] at h
    refine Bts.of_own h (fun y hy => ?_)
    rcases List.mem_append.1 hy with hy | hy
    · exact preL_byte g b y hy
    · exact HB8.out y hy)
  obtain ⟨x, hx⟩ : ∃ x, x = sumM (preL g b ++ b) := ⟨_, rfl⟩
  have HXE := Lib.hid hx
  have hlt : x < 4294967296 := by rw [hx]; exact sumM_lt _
  have hcx : IntKind.u64.wrap (x : Int) = (x : Int) := by rw [IntKind.wrap_u64]; omega
  clear hx O1' O3 O4 O5 B1 B2 B3 B4 B5 X2 hpre
  go_wp2_with fail
  refine (refSum_any _ _ _ _ X5.out).mono ?_
  rintro e w6 ⟨rfl, rfl⟩
  rw [sumU_eq, ← HXE.out]
  go_wp2_with fail
  refine (num_any x 4 _ (by omega) (by omega) (by omega)).mono ?_
  rintro e w7 ⟨r7, rfl, ho7, hb7⟩
  have X7 := Lib.hid (show Bts w7 w7.heap.size r7 (numL x 4) from Bts.of_own ho7 (numL_byte _ _))
  have B37 := Lib.hid (show Below w3.heap.size w3 w7 from B35.out.trans (hb7.mono B35.out.size))
  have O7 := Lib.hid (show w7.ownsRow w.heap.size 5 1 v3 8 ((preL g b).map bv) from O3'.out.kept (row := none) ⟨B37.out.os, B37.out.tape, B37.out.output, B37.out.size, fun k hk _ => B37.out.block k hk⟩ (by cases v3.ownBlock <;> simp))
  have B7 := Lib.hid (BW3.out.trans (B37.out.mono BW3.out.size))
  clear ho7 hb7
  go_wp2_with (at_builtin; refine wpList_append_bts rfl (.tmp 14) (.tmp 22) 27 rfl w.heap.size 5 i0 Try.underlying27 HI.out HZ0.out HZ1.out HZ2.out v3 8 (preL g b) rfl O7.out _ (numL x 4) rfl w7.heap.size X7.out (by rw [numL_length]; omega) B7.out.size ?_; intro v8 w8 O8 B8)
  have HS8 := Lib.hid (show HedAt w g b 0 v8 w8 from by
    refine ⟨?_, B7.out.trans B8.out⟩
    have h := O8.out
    rw [numL_length, HXE.out] at h
    simpa [hedZ] using h)
  clear O3' O7 O8 B7 B8 B37 BW3 B35 X5 X7
  go_loopg [5] 52 (fun k s5 wx => ∃ i : Nat, i + k = 52 ∧ HedAt w g b i s5 wx)
  case atStart => exact ⟨0, by omega, HS8.out⟩
  case round =>
    obtain ⟨i, hig, hs⟩ := hrel
    have HS := Lib.hid hs
    obtain ⟨g9, cap, hv⟩ := own_shape hs.1 (by omega)
    subst hv
    clear hs
    by_cases hi : i < 52
    · have t1 : decide (((12 + i : Nat) : Int) < 64) = true := decide_eq_true (by omega)
      go_wp2_with (at_builtin; refine wpList_append_bts rfl (.tmp 27) (.tmp 28) 27 rfl w.heap.size 5 i0 Try.underlying27 HI.out HZ0.out HZ1.out HZ2.out (.slice (some ⟨g9, 0, none⟩) (12 + i) cap) (12 + i) (hedZ g b i) rfl (HS.out.1.alloc _) _ [0] rfl (wr.heap.size + 1) (one_bts_ wr _ 0 (by omega)) (by simp; omega) (Nat.le_trans HS.out.2.size (by simp)) ?_; intro v9 w9 O9 B9)
      go_roundg (51 - i)
      case measure => omega
      case rel =>
        refine ⟨i + 1, by omega, ?_, (HS.out.2.alloc HS.out.2.size _).trans B9.out⟩
        have h := O9.out
        rw [hedZ_more] at h
        exact h
    · obtain rfl : i = 52 := by omega
      have t1 : decide ((64 : Int) < 64) = false := by decide
      go_wp2
      go_ret
      refine ⟨_, rfl, ?_, HS.out.2⟩
      have h := HS.out.1
      rw [hedZ_all] at h
      exact h
end Go.Proofs.Ytfnegbcpiejdaaa

/-! ## RefSlot: The contract of the document's own Slot: of a slot's sixteen sectors its gen, its bytes, and whether it is whole.   Conditions: there are sixteen sectors, each of 64 bytes; they are read in memory. -/
namespace Go.Proofs.Ytfnegbcpiejdaaa
open Go.RowKit
set_option linter.unusedVariables false

/-- What holds while a head is held against the document's own. -/
def RslS (w : World) (B : Nat) (v : Value) (s : List Nat) (v2 : Value) (b : List Nat) (w' : World) : Prop := Bts w' B v s ∧ Bts w' B v2 b ∧ Below B w w' ∧ B ≤ w'.heap.size
theorem RslS.next {w w' w'' : World} {B : Nat} {v v2 : Value} {s b : List Nat} (h : RslS w B v s v2 b w') (hb : Below w'.heap.size w' w'') : RslS w B v s v2 b w'' :=
  ⟨h.1.below (hb.mono h.2.2.2), h.2.1.below (hb.mono h.2.2.2), h.2.2.1.trans (hb.mono h.2.2.2), Nat.le_trans h.2.2.2 hb.size⟩
theorem RslS.drew {w w' : World} {B : Nat} {v v2 : Value} {s b : List Nat} (h : RslS w B v s v2 b w') : RslS w B v s v2 b w'.drew := ⟨h.1, h.2.1, h.2.2.1.drew, h.2.2.2⟩
theorem RslS.drewN {w w' : World} {B : Nat} {v v2 : Value} {s b : List Nat} (h : RslS w B v s v2 b w') (q : Nat) : RslS w B v s v2 b (w'.drewN q) := ⟨h.1, h.2.1, below_drewN h.2.2.1 q, h.2.2.2⟩
/-- What it leaves. -/
def RSlotPost (w : World) (F : Nat → List Nat) (x : Nat) (e : Ending) (w' : World) : Prop :=
  Below w.heap.size w w' ∧ ∃ (G : Nat) (v : Value) (T : Bool), e = .returned (.tuple #[.int .u32 (G : Int), v, .bool T]) ∧ (T = true ↔ Whole F x) ∧ (T = true → G = sloG F x ∧ Bts w' w'.heap.size v (sloB F x)) ∧ G < 4294967296 ∧ ∃ A n c, v = .slice A n c
/-- What holds ahead of round k. -/
def RslAt (w : World) (F : Nat → List Nat) (a k : Nat) (v : Value) (wx : World) : Prop :=
  wx.ownsRow w.heap.size 5 1 v (64 * k) ((flatN F a k).map bv) ∧ Below w.heap.size w wx

set_option maxRecDepth 20000 in
set_option maxHeartbeats 3200000 in
theorem refSlot_any (A : Option Addr) (c : Nat) (xss : List (List Nat)) (F : Nat → List Nat) (x : Nat) (w : World) (h : Pts w (.slice A 16 c) xss) (hn : xss.length = 16) (hs : ∀ j, j < 16 → xss.getD j [] = F (64 + 16 * x + j)) (hl : ∀ j, j < 16 → (xss.getD j []).length = 64) (hx : x < 2) :
    Calls Try.prog 47 #[.slice A 16 c, .int .u32 (x : Int)] w (RSlotPost w F x) := by
  have HP := Lib.hid h
  have HS := Lib.hid hs
  have HLN := Lib.hid hl
  have HNN := Lib.hid hn
  obtain ⟨b, off, rfl⟩ := h.addr (by omega)
  have hcm : 16 ≤ c ∧ c ≤ maxLen := by
    obtain ⟨A', N', c', e, _, h1, h2, _⟩ := h
    injection e with e1 e2 e3
    omega
  unfold maxLen at hcm
  obtain ⟨hc16, hcm⟩ := hcm
  obtain ⟨u, hcell0, hu⟩ := h.at_ (j := 0) (by omega)
  obtain ⟨s, hse⟩ : ∃ s, s = xss.getD 0 [] := ⟨_, rfl⟩
  rw [← hse] at hu
  have HSE := Lib.hid (show s = F (64 + 16 * x) by rw [hse, hs 0 (by omega)]; rfl)
  have HL := Lib.hid (show s.length = 64 by rw [hse]; exact hl 0 (by omega))
  have HU := Lib.hid hu
  have HBY := Lib.hid hu.byte
  have hux := hu
  obtain ⟨A2, n2, c2, rfl, hl2, _, ⟨hn2c, _⟩, hc2m, _, hx2⟩ := hux
  obtain rfl : n2 = 64 := by have := HL.out; omega
  obtain ⟨b2, off2, rfl, hb2, _⟩ := hx2 (by omega)
  unfold maxLen at hc2m
  rw [Nat.add_zero] at hcell0
  have HF64 := Lib.hid (show ∀ f, 64 + 16 * x ≤ f → f < 80 + 16 * x → (F f).length = 64 from fun f h1 h2 => by
    have := hl (f - (64 + 16 * x)) (by omega)
    rw [hs _ (by omega), show 64 + 16 * x + (f - (64 + 16 * x)) = f by omega] at this
    exact this)
  have hGlt := sloG_lt (F := F) (w := x) (by rw [← HSE.out]; exact HBY.out)
  have hNlt := sloN_lt (F := F) (w := x) (by rw [← HSE.out]; exact HBY.out)
  obtain ⟨g, hg⟩ : ∃ g, g = sloG F x := ⟨_, rfl⟩
  obtain ⟨N, hN⟩ : ∃ N, N = sloN F x := ⟨_, rfl⟩
  rw [← hg] at hGlt
  rw [← hN] at hNlt
  have G1 := Lib.hid (refGet_yes _ s w.heap.size 0 4 w HU.out ⟨by omega, by omega, by omega, by have := HL.out; omega⟩)
  have G2 := Lib.hid (refGet_yes _ s w.heap.size 4 4 w HU.out ⟨by omega, by omega, by omega, by have := HL.out; omega⟩)
  rw [show getV s 0 4 = (g : Int) by unfold getV; rw [hg, HSE.out]; rfl] at G1
  rw [show getV s 4 4 = (N : Int) by unfold getV; rw [hN, HSE.out]; rfl] at G2
  have HG := Lib.hid hg
  have HN := Lib.hid hN
  obtain ⟨i0, hi, hz0, hz1, hz2⟩ := info_parts Try.info8
  have HI := Lib.hid hi
  have HZ0 := Lib.hid hz0
  have HZ1 := Lib.hid hz1
  have HZ2 := Lib.hid hz2
  clear h hn hs hl hi hz0 hz1 hz2 hu hl2 hn2c hx2 hb2 hg hN hse
  go_enter Try.func47, Try.ntmps47
  go_wp2_with fail
  refine G1.out.mono ?_
  rintro e w1 ⟨rfl, rfl⟩
  go_wp2_with fail
  refine G2.out.mono ?_
  rintro e w1 ⟨rfl, rfl⟩
  by_cases k1 : N ≤ 960
  · have d1 : decide ((960 : Int) < (N : Int)) = false := decide_eq_false (by omega)
    go_wp2_with fail
    go_loopg [11, 12] 15 (fun gg s11 s12 wx => ∃ k : Nat, k + gg = 15 ∧ s12 = .int .i64 ((k + 1 : Nat) : Int) ∧ RslAt w F (65 + 16 * x) k s11 wx)
    case atStart => exact ⟨0, rfl, rfl, World.ownsRow_nil _ _ _ _, Below.refl _ _⟩
    case round =>
      obtain ⟨k, hkg, rfl, hr⟩ := hrel
      have HR := Lib.hid hr
      obtain ⟨A9, c9, rfl⟩ := own_any hr.1
      clear hr
      by_cases hk : k < 15
      · have t1 : decide ((k : Int) + 1 < 16) = true := decide_eq_true (by omega)
        obtain ⟨y, hcy, hy⟩ := HP.out.at_ (j := k + 1) (by rw [HNN.out]; omega)
        rw [HS.out _ (by omega), show 64 + 16 * x + (k + 1) = 65 + 16 * x + k by omega] at hy
        have hcell : wr.cell? ⟨b, off + (k + 1), none⟩ = some y := (HR.out.2.cell (World.block_lt_of_cell? w _ hcy)).trans hcy
        have HY := Lib.hid ((hy.below HR.out.2).more HR.out.2.size)
        have HYL := Lib.hid (HF64.out (65 + 16 * x + k) (by omega) (by omega))
        have hyx := hy
        obtain ⟨A3, n3, c3, rfl, -⟩ := hyx
        clear hcy hy
        go_wp2_with (at_builtin; refine wpList_append_bts rfl (.tmp 36) (.tmp 40) 27 rfl w.heap.size 5 i0 Try.underlying27 HI.out HZ0.out HZ1.out HZ2.out (.slice A9 (64 * k) c9) (64 * k) (flatN F (65 + 16 * x) k) rfl HR.out.1 _ (F (65 + 16 * x + k)) rfl wr.heap.size HY.out (by rw [HYL.out]; omega) HR.out.2.size ?_; intro v3 w3 O3 B3)
        go_roundg (14 - k)
        case measure => omega
        case rel =>
          refine ⟨k + 1, by omega, by go_num, ?_, HR.out.2.trans B3.out⟩
          have h3 := O3.out
          rw [HYL.out, ← flatN_succ] at h3
          exact h3
      · obtain rfl : k = 15 := by omega
        obtain ⟨g9, rfl, h9⟩ : ∃ g9, A9 = some ⟨g9, 0, none⟩ ∧ 960 ≤ c9 ∧ c9 ≤ maxLen := by
          rcases HR.out.1.2 with ⟨_, h2⟩ | ⟨q9, cap, cur, h4, _, _, h6, h7, _⟩
          · omega
          · injection h4 with e1 e2 e3
            exact ⟨q9, e1, by omega, by omega⟩
        unfold maxLen at h9
        obtain ⟨h9, h9'⟩ := h9
        have k1i : (N : Int) ≤ 960 := by omega
        have hNc : (N : Int) ≤ (c9 : Int) := by omega
        obtain ⟨r, hr, hr2⟩ : ∃ r : Nat, r = g % 2 ∧ r < 2 := ⟨g % 2, rfl, by omega⟩
        have hr3 : (g : Int) % 2 = (r : Int) := by omega
        have n1 : IntKind.u32.wrap (g : Int) = (g : Int) := by rw [IntKind.wrap_u32]; omega
        have HRR := Lib.hid hr
        clear hr
        obtain ⟨bb, hbb⟩ : ∃ bb, bb = (flatN F (65 + 16 * x) 15).take N := ⟨_, rfl⟩
        have HB := Lib.hid (show bb = sloB F x by rw [hbb, HN.out]; rfl)
        have HBL := Lib.hid (show bb.length = N by rw [hbb, con_length (fun j hj => HF64.out _ (by omega) (by omega))]; omega)
        have YB := Lib.hid (show Bts wr wr.heap.size (.slice (some ⟨g9, 0, none⟩) N c9) bb from by
          rw [hbb]
          exact (Bts.of_own HR.out.1 (flatN_byte (fun j hj y hy => by
            have e := HS.out (j + 1) (by omega)
            rw [show 64 + 16 * x + (j + 1) = 65 + 16 * x + j by omega] at e
            rw [← e] at hy
            obtain ⟨y9, _, hy9⟩ := HP.out.at_ (j := j + 1) (by rw [HNN.out]; omega)
            exact hy9.byte y hy))).front N (by omega))
        have XS := Lib.hid ((HU.out.below HR.out.2).more HR.out.2.size)
        have hcell : wr.cell? ⟨b, off, none⟩ = some (.slice (some ⟨b2, off2, none⟩) 64 c2) := (HR.out.2.cell (World.block_lt_of_cell? w _ hcell0)).trans hcell0
        clear hbb hcell0
        obtain ⟨T, hT⟩ : ∃ T, T = decide (hedL g bb = s) := ⟨_, rfl⟩
        have CUT := Lib.hid (fun (W : World) (h : RslS wr wr.heap.size (.slice (some ⟨b2, off2, none⟩) 64 c2) s (.slice (some ⟨g9, 0, none⟩) N c9) bb W) => refHead_any g (.slice (some ⟨g9, 0, none⟩) N c9) bb wr.heap.size W h.2.1 h.2.2.2 (by rw [HBL.out]; omega) hGlt)
        have SAM := Lib.hid (fun (W : World) (bs : Nat) (r : Value) (ho : W.ownsRow bs 5 1 r 64 ((hedL g bb).map bv)) (h : RslS wr wr.heap.size (.slice (some ⟨b2, off2, none⟩) 64 c2) s (.slice (some ⟨g9, 0, none⟩) N c9) bb W) => same_any r (.slice (some ⟨b2, off2, none⟩) 64 c2) (hedL g bb) s _ _ W (Bts.of_own ho (hedL_byte g bb)) h.1)
        rw [← hT] at SAM
        have HT := Lib.hid hT
        have HCL := Lib.hid (show ∀ w', Below wr.heap.size wr w' → w'.cell? ⟨b, off, none⟩ = some (.slice (some ⟨b2, off2, none⟩) 64 c2) from fun w' hw' => (hw'.cell (World.block_lt_of_cell? wr _ hcell)).trans hcell)
        have HRS := Lib.hid (show RslS wr wr.heap.size (.slice (some ⟨b2, off2, none⟩) 64 c2) s (.slice (some ⟨g9, 0, none⟩) N c9) bb wr from ⟨XS.out, YB.out, Below.refl _ _, Nat.le_refl _⟩)
        have n2 : (g : Int).tmod 2 = (r : Int) := by rw [Int.tmod_eq_emod_of_nonneg (by omega)]; exact hr3
        clear hT
        by_cases k2 : r = x
        · have d2 : ((r : Int) == (x : Int)) = true := by simp [k2]
          have K2 := Lib.hid k2
          clear k2
          go_wp2_with fail
          go_region_held3 (fun w' => w'.cell? ⟨b, off, none⟩ = some (.slice (some ⟨b2, off2, none⟩) 64 c2) ∧ RslS wr wr.heap.size (.slice (some ⟨b2, off2, none⟩) 64 c2) s (.slice (some ⟨g9, 0, none⟩) N c9) bb w')
            (first | assumption | exact ⟨HCL.out _ HRS.out.drew.2.2.1, HRS.out.drew⟩ | exact ⟨HCL.out _ (RslS.next (by assumption) hb).2.2.1, RslS.next (by assumption) hb⟩ | exact ⟨HCL.out _ (RslS.next (And.right (by assumption)) hb).2.2.1, RslS.next (And.right (by assumption)) hb⟩ | exact ⟨HCL.out _ (RslS.drewN (by assumption) _).2.2.1, RslS.drewN (by assumption) _⟩ | exact ⟨HCL.out _ (RslS.drewN (And.right (by assumption)) _).2.2.1, RslS.drewN (And.right (by assumption)) _⟩)
            (first
              | (go_at_call 48; refine (CUT.out _ ?_).mono ?_; (first | assumption | exact And.right (by assumption)); rintro e w' ⟨r, rfl, ho, hb⟩)
              | (go_at_call 16; refine (SAM.out _ _ _ (by assumption) ?_).mono ?_; (first | assumption | exact And.right (by assumption)); rintro e w' ⟨rfl, q, rfl⟩))
          have hS : (w'.drewN q).cell? ⟨b, off, none⟩ = some (.slice (some ⟨b2, off2, none⟩) 64 c2) ∧ RslS wr wr.heap.size (.slice (some ⟨b2, off2, none⟩) 64 c2) s (.slice (some ⟨g9, 0, none⟩) N c9) bb (w'.drewN q) := by assumption
          go_wp2
          go_ret3
          refine ⟨HR.out.2.trans (hS.2.2.2.1.mono HR.out.2.size), g, .slice (some ⟨g9, 0, none⟩) N c9, T, rfl, ⟨fun ht => ?_, fun hw => ?_⟩, fun _ => ⟨HG.out, ?_⟩, hGlt, _, _, _, rfl⟩
          · refine ⟨by rw [← HN.out]; omega, by rw [← HG.out, ← HRR.out]; exact K2.out, ?_⟩
            rw [← HG.out, ← HB.out, ← HSE.out]
            rw [HT.out] at ht
            exact of_decide_eq_true ht
          · rw [HT.out]
            refine decide_eq_true ?_
            rw [HG.out, HB.out, HSE.out]
            exact hw.2.2
          · rw [← HB.out]
            exact hS.2.2.1.more hS.2.2.2.2
        · have d2 : ((r : Int) == (x : Int)) = false := by simp; omega
          go_wp2_with fail
          refine wp_region_noPanic ?_
          refine wp_region_any (by kernel_rfl) ?_
          try (change wpAny _ _ _ _ _ _ _ (World.drew _))
          refine wpAny_take (i := 0) (v := ?v1) rfl (by kernel_rfl) (by kernel_rfl) (by kernel_rfl) (fun _ _ _ h => h) (Or.inl ⟨by rfl, ?hy1⟩) ?rest1
          case hy1 => (intro w; go_simp; try with_reducible rfl)
          try simp only [Act.put, List.getElem_toArray, List.getElem_cons_zero, List.setIfInBounds_toArray, List.set_cons_zero, List.set_cons_succ]
          refine wpAny_take (i := 1) (v := ?v2) rfl (by kernel_rfl) (by kernel_rfl) (by kernel_rfl) (fun _ _ _ h => h) (Or.inl ⟨by rfl, ?hy2⟩) ?rest2
          case hy2 => (intro w; go_simp; try with_reducible rfl)
          try simp only [Act.put, List.getElem_toArray, List.getElem_cons_succ, List.getElem_cons_zero, List.setIfInBounds_toArray, List.set_cons_zero, List.set_cons_succ]
          refine wpAny_take (i := 2) (v := ?v3) rfl (by kernel_rfl) (by kernel_rfl) (by kernel_rfl) (fun _ _ _ h => h) (Or.inl ⟨by rfl, ?hy3⟩) ?rest3
          case hy3 => (intro w; go_simp; try with_reducible rfl)
          try simp only [Act.put, List.getElem_toArray, List.getElem_cons_succ, List.getElem_cons_zero, List.setIfInBounds_toArray, List.set_cons_zero, List.set_cons_succ]
          refine wpAny_take (i := 3) (v := ?v4) rfl (by kernel_rfl) (by kernel_rfl) (by kernel_rfl) (fun _ _ _ h => h) (Or.inl ⟨by rfl, ?hy4⟩) ?rest4
          case hy4 => (intro w; go_simp; try with_reducible rfl)
          try simp only [Act.put, List.getElem_toArray, List.getElem_cons_succ, List.getElem_cons_zero, List.setIfInBounds_toArray, List.set_cons_zero, List.set_cons_succ]
          refine wpAny_take (i := 4) (v := ?v5) rfl (by kernel_rfl) (by kernel_rfl) (by kernel_rfl) (fun _ _ _ h => h) (Or.inl ⟨by rfl, ?hy5⟩) ?rest5
          case hy5 => (intro w; go_simp; try with_reducible rfl)
          try simp only [Act.put, List.getElem_toArray, List.getElem_cons_succ, List.getElem_cons_zero, List.setIfInBounds_toArray, List.set_cons_zero, List.set_cons_succ]
          refine wpAny_take (i := 5) (v := ?v6) rfl (by kernel_rfl) (by kernel_rfl) (by kernel_rfl) (fun _ _ _ h => h) (Or.inl ⟨by rfl, ?hy6⟩) ?rest6
          case hy6 => (intro w; go_simp; try with_reducible rfl)
          try simp only [Act.put, List.getElem_toArray, List.getElem_cons_succ, List.getElem_cons_zero, List.setIfInBounds_toArray, List.set_cons_zero, List.set_cons_succ]
          refine wpAny_take (i := 6) (v := ?v7) rfl (by kernel_rfl) (by kernel_rfl) (by kernel_rfl) (fun _ _ _ h => h) (Or.inl ⟨by rfl, ?hy7⟩) ?rest7
          case hy7 => (intro w; go_simp; try with_reducible rfl)
          try simp only [Act.put, List.getElem_toArray, List.getElem_cons_succ, List.getElem_cons_zero, List.setIfInBounds_toArray, List.set_cons_zero, List.set_cons_succ]
          refine wpAny_take (i := 7) (v := ?v8) rfl (by kernel_rfl) (by kernel_rfl) (by kernel_rfl) (fun _ _ _ h => h) (Or.inl ⟨by rfl, ?hy8⟩) ?rest8
          case hy8 => (intro w; go_simp; try with_reducible rfl)
          try simp only [Act.put, List.getElem_toArray, List.getElem_cons_succ, List.getElem_cons_zero, List.setIfInBounds_toArray, List.set_cons_zero, List.set_cons_succ]
          refine wpAny_take (i := 8) (v := ?v9) rfl (by kernel_rfl) (by kernel_rfl) (by kernel_rfl) (fun _ _ _ h => h) (Or.inl ⟨by rfl, ?hy9⟩) ?rest9
          case hy9 => (intro w; go_simp; try with_reducible rfl)
          try simp only [Act.put, List.getElem_toArray, List.getElem_cons_succ, List.getElem_cons_zero, List.setIfInBounds_toArray, List.set_cons_zero, List.set_cons_succ]
          refine wpAny_take (i := 9) (v := undef) rfl (by kernel_rfl) (by kernel_rfl) (by kernel_rfl) (fun _ _ _ h => h) (Or.inr ⟨by rfl, rfl⟩) ?_
          try simp only [Act.put, List.getElem_toArray, List.getElem_cons_succ, List.getElem_cons_zero, List.setIfInBounds_toArray, List.set_cons_zero, List.set_cons_succ]
          refine wpAny_take (i := 10) (v := undef) rfl (by kernel_rfl) (by kernel_rfl) (by kernel_rfl) (fun _ _ _ h => h) (Or.inr ⟨by rfl, rfl⟩) ?_
          try simp only [Act.put, List.getElem_toArray, List.getElem_cons_succ, List.getElem_cons_zero, List.setIfInBounds_toArray, List.set_cons_zero, List.set_cons_succ]
          refine wpAny_take (i := 11) (v := undef) rfl (by kernel_rfl) (by kernel_rfl) (by kernel_rfl) (fun _ _ _ h => h) (Or.inr ⟨by rfl, rfl⟩) ?_
          try simp only [Act.put, List.getElem_toArray, List.getElem_cons_succ, List.getElem_cons_zero, List.setIfInBounds_toArray, List.set_cons_zero, List.set_cons_succ]
          refine wpAny_take (i := 13) (v := undef) rfl (by kernel_rfl) (by kernel_rfl) (by kernel_rfl) (fun _ _ _ h => h) (Or.inr ⟨by rfl, rfl⟩) ?_
          try simp only [Act.put, List.getElem_toArray, List.getElem_cons_succ, List.getElem_cons_zero, List.setIfInBounds_toArray, List.set_cons_zero, List.set_cons_succ]
          refine wpAny_take (i := 14) (v := undef) rfl (by kernel_rfl) (by kernel_rfl) (by kernel_rfl) (fun _ _ _ h => h) (Or.inr ⟨by rfl, rfl⟩) ?_
          try simp only [Act.put, List.getElem_toArray, List.getElem_cons_succ, List.getElem_cons_zero, List.setIfInBounds_toArray, List.set_cons_zero, List.set_cons_succ]
          refine wpAny_take (i := 15) (v := undef) rfl (by kernel_rfl) (by kernel_rfl) (by kernel_rfl) (fun _ _ _ h => h) (Or.inr ⟨by rfl, rfl⟩) ?_
          try simp only [Act.put, List.getElem_toArray, List.getElem_cons_succ, List.getElem_cons_zero, List.setIfInBounds_toArray, List.set_cons_zero, List.set_cons_succ]
          refine wpAny_ready (rs := [12]) (by kernel_rfl) (by simp) ?_
          refine AllReady.cons rfl (fun K hK => ?_) ?_
          · go_simp
            try (refine hK _ _ ?_)
            try (clear hK K)
            refine wpAny_ready (rs := [16]) (by kernel_rfl) (by simp) ?_
            refine AllReady.cons rfl (fun K hK => ?_) ?_
            · go_simp
              try (refine hK _ _ ?_)
              try (clear hK K)
              refine wpAny_take (i := 17) (v := ?v10) rfl (by kernel_rfl) (by kernel_rfl) (by kernel_rfl) (fun _ _ _ h => h) (Or.inl ⟨by rfl, ?hy10⟩) ?rest10
              case hy10 => (intro w; go_simp; try with_reducible rfl)
              try simp only [Act.put, List.getElem_toArray, List.getElem_cons_succ, List.getElem_cons_zero, List.setIfInBounds_toArray, List.set_cons_zero, List.set_cons_succ]
              refine wpAny_take (i := 18) (v := ?v11) rfl (by kernel_rfl) (by kernel_rfl) (by kernel_rfl) (fun _ _ _ h => h) (Or.inl ⟨by rfl, ?hy11⟩) ?rest11
              case hy11 => (intro w; go_simp; try with_reducible rfl)
              try simp only [Act.put, List.getElem_toArray, List.getElem_cons_succ, List.getElem_cons_zero, List.setIfInBounds_toArray, List.set_cons_zero, List.set_cons_succ]
              refine wpAny_take (i := 19) (v := ?v12) rfl (by kernel_rfl) (by kernel_rfl) (by kernel_rfl) (fun _ _ _ h => h) (Or.inl ⟨by rfl, ?hy12⟩) ?rest12
              case hy12 => (intro w; go_simp; try with_reducible rfl)
              try simp only [Act.put, List.getElem_toArray, List.getElem_cons_succ, List.getElem_cons_zero, List.setIfInBounds_toArray, List.set_cons_zero, List.set_cons_succ]
              refine wpAny_take (i := 20) (v := ?v13) rfl (by kernel_rfl) (by kernel_rfl) (by kernel_rfl) (fun _ _ _ h => h) (Or.inl ⟨by rfl, ?hy13⟩) ?rest13
              case hy13 => (intro w; go_simp; try with_reducible rfl)
              try simp only [Act.put, List.getElem_toArray, List.getElem_cons_succ, List.getElem_cons_zero, List.setIfInBounds_toArray, List.set_cons_zero, List.set_cons_succ]
              refine wpAny_done (by kernel_rfl) ?_ _
              refine NoPanic.normal ?_
              go_simp
              go_wp2
              go_ret3
              exact ⟨HR.out.2.drew, g, .slice (some ⟨g9, 0, none⟩) N c9, false, rfl, ⟨(fun h => by cases h), fun hw => absurd (show r = x by rw [HRR.out, HG.out]; exact hw.2.1) k2⟩, (fun h => by cases h), hGlt, _, _, _, rfl⟩
            exact AllReady.nil
          exact AllReady.nil
  · have d1 : decide ((960 : Int) < (N : Int)) = true := decide_eq_true (by omega)
    have K1 := Lib.hid k1
    clear k1
    go_wp2
    go_ret3
    exact ⟨Below.refl _ _, 0, _, false, rfl, ⟨(fun h => by cases h), fun hw => absurd (show N ≤ 960 by rw [HN.out]; exact hw.1) K1.out⟩, (fun h => by cases h), by omega, _, _, _, rfl⟩
end Go.Proofs.Ytfnegbcpiejdaaa

/-! ## RefLoad: The contract of the document's own Load: of a hundred sectors of a disk the gen and the bytes that were saved last.   Conditions: there are a hundred sectors, each of 64 bytes; they are read in memory. -/
namespace Go.Proofs.Ytfnegbcpiejdaaa
open Go.RowKit
set_option linter.unusedVariables false

theorem Pts.cut {w : World} {b off N c : Nat} {xss : List (List Nat)} (h : Pts w (.slice (some ⟨b, off, none⟩) N c) xss) {a k c' : Nat} (ha : a + k ≤ N) (hk : k ≤ c') (hc : c' ≤ maxLen) : Pts w (.slice (some ⟨b, off + a, none⟩) k c') ((xss.drop a).take k) := by
  have hl : xss.length = N := by
    obtain ⟨A', N', c1, e, h1, _⟩ := h
    injection e with e1 e2 e3
    omega
  refine ⟨_, k, c', rfl, by simp; omega, hk, hc, fun _ => ⟨b, off + a, rfl, fun j hj => ?_⟩⟩
  obtain ⟨u, h1, h2⟩ := h.at_ (j := a + j) (by omega)
  refine ⟨u, by rw [Nat.add_assoc]; exact h1, ?_⟩
  have e : ((xss.drop a).take k).getD j [] = xss.getD (a + j) [] := by simp [List.getD_eq_getElem?_getD, hj]
  rw [e]
  exact h2
theorem cut_getD {xss : List (List Nat)} {a k j : Nat} (hj : j < k) : ((xss.drop a).take k).getD j [] = xss.getD (a + j) [] := by simp [List.getD_eq_getElem?_getD, hj]

/-- What holds ahead of round x. -/
def RloAt (w : World) (F : Nat → List Nat) (x G : Nat) (v : Value) (wx : World) : Prop :=
  G = (loadN F x).1 ∧ Bts wx wx.heap.size v (loadN F x).2 ∧ Below w.heap.size w wx
/-- What it leaves. -/
def RLoadPost (w : World) (F : Nat → List Nat) (e : Ending) (w' : World) : Prop :=
  Below w.heap.size w w' ∧ ∃ v, e = .returned (.tuple #[.int .u32 (((loadR F).1 : Nat) : Int), v]) ∧ Bts w' w'.heap.size v (loadR F).2

set_option maxRecDepth 20000 in
set_option maxHeartbeats 1600000 in
theorem refLoad_any (v : Value) (xss : List (List Nat)) (F : Nat → List Nat) (w : World) (h : Pts w v xss) (hn : xss.length = 100) (hs : ∀ j, j < 100 → xss.getD j [] = F j) (hl : ∀ j, j < 100 → (F j).length = 64) (hb : ∀ j, j < 100 → ∀ y ∈ F j, y < 256) :
    Calls Try.prog 21 #[v] w (RLoadPost w F) := by
  have hlen : ∃ A c, v = .slice A 100 c ∧ 100 ≤ c ∧ c ≤ maxLen := by
    obtain ⟨A', N', c', e, h1, h2, h3, _⟩ := h
    exact ⟨A', c', by rw [e, ← h1, hn], by omega, h3⟩
  obtain ⟨A, c, rfl, hc1, hc2⟩ := hlen
  obtain ⟨b, off, rfl⟩ := h.addr (by omega)
  have HP := Lib.hid h
  have HN := Lib.hid hn
  have HS := Lib.hid hs
  have HL := Lib.hid hl
  have HGL := Lib.hid (fun x (hx : x < 2) => sloG_lt (F := F) (w := x) (hb (64 + 16 * x) (by omega)))
  have HGN := Lib.hid (loadN_lt (F := F) HGL.out)
  unfold maxLen at hc2
  clear h hn hs hl hb
  go_enter Try.func21, Try.ntmps21
  go_wp2_with fail
  go_loopg [4, 5, 6] 2 (fun gg s4 s5 s6 wx => ∃ x G : Nat, x + gg = 2 ∧ s6 = .int .u32 (x : Int) ∧ s4 = .int .u32 (G : Int) ∧ RloAt w F x G s5 wx)
  case atStart => exact ⟨0, 0, rfl, rfl, rfl, rfl, (Bts.of_own (own_empty w _) (fun y hy => by cases hy)).more (by simp), (Below.refl _ _).alloc (Nat.le_refl _) _⟩
  case round =>
    obtain ⟨x, G, hxg, rfl, rfl, hr⟩ := hrel
    have HR := Lib.hid hr
    have hGlt : G < 4294967296 := by rw [hr.1]; exact HGN.out x (by omega)
    clear hr
    by_cases hx : x < 2
    · have HPW := Lib.hid (HP.out.below HR.out.2.2)
      have HCUT := Lib.hid (HPW.out.cut (a := 64 + 16 * x) (k := 16) (c' := c - (64 + 16 * x)) (by omega) (by omega) (by unfold maxLen; omega))
      have HSL := Lib.hid (refSlot_any (some ⟨b, off + (64 + 16 * x), none⟩) (c - (64 + 16 * x)) _ F x wr HCUT.out (by simp; have := HN.out; omega) (fun j hj => by rw [cut_getD hj]; exact HS.out _ (by omega)) (fun j hj => by rw [cut_getD hj, HS.out _ (by omega)]; exact HL.out _ (by omega)) hx)
      rcases (show x = 0 ∨ x = 1 by omega) with rfl | rfl
      · simp only [Nat.mul_zero, Nat.add_zero] at HSL
        go_wp2_with fail
        refine HSL.out.mono ?_
        rintro e w2 ⟨hb2, g, v2, T, rfl, hT, hT2, hg, A2, n2, c2, rfl⟩
        have HB2 := Lib.hid hb2
        have HK := Lib.hid (HR.out.2.2.trans (hb2.mono HR.out.2.2.size))
        clear hb2
        cases T with
        | false =>
          have HNW := Lib.hid (show ¬ Whole F 0 from fun hw => by have := hT.2 hw; cases this)
          clear hT hT2
          go_wp2
          go_roundg 1
          case measure => omega
          case rel =>
            have hl := load_no (F := F) (x := 0) (fun h => HNW.out h.1)
            refine ⟨1, G, by omega, rfl, rfl, by rw [hl]; exact HR.out.1, by rw [hl]; exact (HR.out.2.1.below HB2.out).more HB2.out.size, HK.out⟩
        | true =>
          have HWW := Lib.hid (hT.1 rfl)
          have HTG := Lib.hid (hT2 rfl).1
          have HTB := Lib.hid (hT2 rfl).2
          clear hT hT2
          by_cases k1 : G ≤ g
          · have d1 : decide (G ≤ g) = true := decide_eq_true k1
            have K1 := Lib.hid k1
            clear k1
            go_wp2
            go_roundg 1
            case measure => omega
            case rel =>
              have hl := load_yes (F := F) (x := 0) HWW.out (by rw [← HR.out.1, ← HTG.out]; exact K1.out)
              refine ⟨1, g, by omega, rfl, rfl, by rw [hl]; exact HTG.out, by rw [hl]; exact HTB.out, HK.out⟩
          · have d1 : decide (G ≤ g) = false := decide_eq_false k1
            have K1 := Lib.hid k1
            clear k1
            go_wp2
            go_roundg 1
            case measure => omega
            case rel =>
              have hl := load_no (F := F) (x := 0) (fun h => K1.out (by rw [HR.out.1, HTG.out]; exact h.2))
              refine ⟨1, G, by omega, rfl, rfl, by rw [hl]; exact HR.out.1, by rw [hl]; exact (HR.out.2.1.below HB2.out).more HB2.out.size, HK.out⟩
      · simp only [Nat.mul_one, Nat.reduceAdd] at HSL
        go_wp2_with fail
        refine HSL.out.mono ?_
        rintro e w2 ⟨hb2, g, v2, T, rfl, hT, hT2, hg, A2, n2, c2, rfl⟩
        have HB2 := Lib.hid hb2
        have HK := Lib.hid (HR.out.2.2.trans (hb2.mono HR.out.2.2.size))
        clear hb2
        cases T with
        | false =>
          have HNW := Lib.hid (show ¬ Whole F 1 from fun hw => by have := hT.2 hw; cases this)
          clear hT hT2
          go_wp2
          go_roundg 0
          case measure => omega
          case rel =>
            have hl := load_no (F := F) (x := 1) (fun h => HNW.out h.1)
            refine ⟨2, G, by omega, rfl, rfl, by rw [hl]; exact HR.out.1, by rw [hl]; exact (HR.out.2.1.below HB2.out).more HB2.out.size, HK.out⟩
        | true =>
          have HWW := Lib.hid (hT.1 rfl)
          have HTG := Lib.hid (hT2 rfl).1
          have HTB := Lib.hid (hT2 rfl).2
          clear hT hT2
          by_cases k1 : G ≤ g
          · have d1 : decide (G ≤ g) = true := decide_eq_true k1
            have K1 := Lib.hid k1
            clear k1
            go_wp2
            go_roundg 0
            case measure => omega
            case rel =>
              have hl := load_yes (F := F) (x := 1) HWW.out (by rw [← HR.out.1, ← HTG.out]; exact K1.out)
              refine ⟨2, g, by omega, rfl, rfl, by rw [hl]; exact HTG.out, by rw [hl]; exact HTB.out, HK.out⟩
          · have d1 : decide (G ≤ g) = false := decide_eq_false k1
            have K1 := Lib.hid k1
            clear k1
            go_wp2
            go_roundg 0
            case measure => omega
            case rel =>
              have hl := load_no (F := F) (x := 1) (fun h => K1.out (by rw [HR.out.1, HTG.out]; exact h.2))
              refine ⟨2, G, by omega, rfl, rfl, by rw [hl]; exact HR.out.1, by rw [hl]; exact (HR.out.2.1.below HB2.out).more HB2.out.size, HK.out⟩
    · obtain rfl : x = 2 := by omega
      have HGE := Lib.hid HR.out.1
      go_wp2
      go_ret2
      exact ⟨HR.out.2.2, _, by rw [show (loadR F).1 = G from HGE.out.symm]; rfl, HR.out.2.1⟩
end Go.Proofs.Ytfnegbcpiejdaaa

/-! ## RefC: The contract of the document's own Sector: the record's sector, in new memory.   Conditions: the record has 50 bytes at most, which are read in memory. -/
namespace Go.Proofs.Ytfnegbcpiejdaaa
open Go.RowKit
set_option linter.unusedVariables false

theorem one_bts (w : World) (t : TypeId) (y : Nat) (h : y < 256) : Bts (w.alloc (.cells #[.int .u8 (y : Int)] t)) (w.heap.size + 1) (.slice (some ⟨w.heap.size, 0, none⟩) 1 1) [y] :=
  Bts.of_blk (Blk.new w t _) (by omega) rfl (Nat.le_refl _) (by simp [maxLen]) (fun j hj => by obtain rfl : j = 0 := (by omega); simpa using h) (fun j hj => by obtain rfl : j = 0 := (by omega); rfl)
theorem sec_more (gen n : Nat) (b : List Nat) (i : Nat) : (numL gen 4 ++ numL n 4 ++ [b.length] ++ b ++ List.replicate i 0) ++ [0] = numL gen 4 ++ numL n 4 ++ [b.length] ++ b ++ List.replicate (i + 1) 0 := by
  rw [List.append_assoc, List.replicate_succ']
theorem sec_head (gen n : Nat) (b : List Nat) : numL gen 4 ++ numL n 4 ++ [b.length] ++ b ++ List.replicate (51 - b.length) 0 = headL gen n b := by
  unfold headL
  simp only [List.append_assoc]

/-- What holds while zeros are laid behind. -/
def SecAt (w : World) (gen n : Nat) (b : List Nat) (i : Nat) (v : Value) (wx : World) : Prop :=
  wx.ownsRow w.heap.size 5 1 v (9 + b.length + i) ((numL gen 4 ++ numL n 4 ++ [b.length] ++ b ++ List.replicate i 0).map bv) ∧ Below w.heap.size w wx
/-- What the document's Sector leaves. -/
def RefSecPost (w : World) (gen n : Nat) (b : List Nat) (e : Ending) (w' : World) : Prop :=
  ∃ r, e = .returned r ∧ w'.ownsRow w.heap.size 5 1 r 64 ((secL gen n b).map bv) ∧ Below w.heap.size w w'

set_option maxRecDepth 20000 in
set_option maxHeartbeats 1600000 in
theorem refSector_any (gen n : Nat) (v : Value) (b : List Nat) (B : Nat) (w : World) (h : Bts w B v b) (hB : B ≤ w.heap.size) (hl : b.length ≤ 50) (hg : gen < 4294967296) (hn : n < 4294967296) :
    Calls Try.prog 49 #[.int .u32 (gen : Int), .int .i64 (n : Int), v] w (RefSecPost w gen n b) := by
  have HX := Lib.hid h
  have HB := Lib.hid hB
  obtain ⟨A, l, c, rfl, e0, -⟩ := h
  have HL := Lib.hid (show b.length ≤ 50 from hl)
  have E0 := Lib.hid e0
  have hl50 : l ≤ 50 := by omega
  have HG := Lib.hid hg
  have HN := Lib.hid hn
  have c1 : IntKind.u64.wrap (gen : Int) = (gen : Int) := by rw [IntKind.wrap_u64]; omega
  have c2 : IntKind.u64.wrap (n : Int) = (n : Int) := by rw [IntKind.wrap_u64]; omega
  have c3 : IntKind.u8.wrap (l : Int) = (l : Int) := by rw [IntKind.wrap_u8']; omega
  have c3' : (l : Int) % 256 = (l : Int) := by omega
  obtain ⟨i0, hi, hz0, hz1, hz2⟩ := info_parts Try.info8
  have HI := Lib.hid hi
  have HZ0 := Lib.hid hz0
  have HZ1 := Lib.hid hz1
  have HZ2 := Lib.hid hz2
  clear hi hz0 hz1 hz2 hB hl e0 hg hn
  go_enter Try.func49, Try.ntmps49
  go_wp2_with fail
  refine (num_any gen 4 _ (by have := HG.out; omega) (by omega) (by omega)).mono ?_
  rintro e w1 ⟨r1, rfl, ho1, hb1⟩
  have O1 := Lib.hid (show w1.ownsRow w.heap.size 5 1 r1 4 ((numL gen 4).map bv) from ho1)
  have B1 := Lib.hid hb1
  clear ho1 hb1
  go_wp2_with fail
  refine (num_any n 4 _ (by have := HN.out; omega) (by omega) (by omega)).mono ?_
  rintro e w2 ⟨r2, rfl, ho2, hb2⟩
  have O2 := Lib.hid (show w2.ownsRow w1.heap.size 5 1 r2 4 ((numL n 4).map bv) from ho2)
  have O1' := Lib.hid (show w2.ownsRow w.heap.size 5 1 r1 4 ((numL gen 4).map bv) from O1.out.kept (row := none) ⟨hb2.os, hb2.tape, hb2.output, hb2.size, fun k hk _ => hb2.block k hk⟩ (by cases r1.ownBlock <;> simp))
  have B2 := Lib.hid (B1.out.trans (hb2.mono B1.out.size))
  have X2 := Lib.hid (show Bts w2 w2.heap.size r2 (numL n 4) from Bts.of_own O2.out (numL_byte _ _))
  obtain ⟨A2, l2, cc2, rfl, hl2, -⟩ := X2.out
  clear ho2 hb2 O1 hl2
  go_wp2_with (first
    | (at_builtin; refine wpList_append_bts rfl (.tmp 10) (.tmp 13) 27 rfl w.heap.size 5 i0 Try.underlying27 HI.out HZ0.out HZ1.out HZ2.out r1 4 (numL gen 4) rfl O1'.out _ (numL n 4) rfl w2.heap.size X2.out (by rw [numL_length]; omega) B2.out.size ?_; intro v3 w3 O3 B3)
    | (at_builtin; refine wpList_append_bts rfl (.tmp 15) (.tmp 19) 27 rfl w.heap.size 5 i0 Try.underlying27 HI.out HZ0.out HZ1.out HZ2.out v3 (4 + (numL n 4).length) (numL gen 4 ++ numL n 4) rfl (O3.out.alloc _) _ [l] rfl (w3.heap.size + 1) (one_bts w3 _ l (by omega)) (by simp [numL_length]) (Nat.le_trans (B2.out.trans B3.out).size (by simp)) ?_; intro v4 w4 O4 B4)
    | (at_builtin; refine wpList_append_bts rfl (.tmp 20) (.tmp 21) 27 rfl w.heap.size 5 i0 Try.underlying27 HI.out HZ0.out HZ1.out HZ2.out v4 (4 + (numL n 4).length + 1) (numL gen 4 ++ numL n 4 ++ [l]) rfl O4.out _ b rfl B (HX.out.below ((B2.out.trans (B3.out.trans (((Below.refl _ w3).alloc ((B2.out.trans B3.out).size) _).trans B4.out))).mono HB.out)) (by simp [numL_length]; have := HL.out; omega) (B2.out.trans (B3.out.trans (((Below.refl _ w3).alloc ((B2.out.trans B3.out).size) _).trans B4.out))).size ?_; intro v5 w5 O5 B5))
  have HS5 := Lib.hid (show SecAt w gen n b 0 v5 w5 from by
    refine ⟨?_, (B2.out.trans (B3.out.trans (((Below.refl _ w3).alloc ((B2.out.trans B3.out).size) _).trans B4.out))).trans B5.out⟩
    have h := O5.out
    rw [numL_length, ← E0.out, show 4 + 4 + 1 + b.length = 9 + b.length + 0 by omega] at h
    simpa using h)
  clear O1' O2 O3 O4 O5 B1 B2 B3 B4 B5 X2
  go_loopg [7] (51 - b.length) (fun g s7 wx => ∃ i : Nat, i + g = 51 - b.length ∧ SecAt w gen n b i s7 wx)
  case atStart => exact ⟨0, by omega, HS5.out⟩
  case round =>
    obtain ⟨i, hig, hs⟩ := hrel
    have HS := Lib.hid hs
    obtain ⟨g, cap, hv⟩ := own_shape hs.1 (by omega)
    subst hv
    clear hs
    have e0 := E0.out
    by_cases hi : i < 51 - b.length
    · have t1 : decide (((9 + b.length + i : Nat) : Int) < 60) = true := decide_eq_true (by omega)
      go_wp2_with (at_builtin; refine wpList_append_bts rfl (.tmp 26) (.tmp 27) 27 rfl w.heap.size 5 i0 Try.underlying27 HI.out HZ0.out HZ1.out HZ2.out (.slice (some ⟨g, 0, none⟩) (9 + b.length + i) cap) (9 + b.length + i) (numL gen 4 ++ numL n 4 ++ [b.length] ++ b ++ List.replicate i 0) rfl (HS.out.1.alloc _) _ [0] rfl (wr.heap.size + 1) (one_bts wr _ 0 (by omega)) (by have := HL.out; simp; omega) (Nat.le_trans HS.out.2.size (by simp)) ?_; intro v6 w6 O6 B6)
      go_roundg (51 - b.length - (i + 1))
      case measure => omega
      case rel =>
        refine ⟨i + 1, by omega, ?_, (HS.out.2.alloc HS.out.2.size _).trans B6.out⟩
        have h := O6.out
        rw [sec_more] at h
        exact h
    · obtain rfl : i = 51 - b.length := by omega
      obtain ⟨N, hN⟩ : ∃ N, N = 9 + b.length + (51 - b.length) := ⟨_, rfl⟩
      rw [← hN] at HS ⊢
      have HN60 := Lib.hid (show N = 60 by have := HL.out; omega)
      have t1 : decide (((N : Nat) : Int) < 60) = false := decide_eq_false (by have := HN60.out; omega)
      have O := Lib.hid (show wr.ownsRow w.heap.size 5 1 (.slice (some ⟨g, 0, none⟩) N cap) N ((headL gen n b).map bv) from by
        have h := HS.out.1
        rw [sec_head, ← hN] at h
        exact h)
      have HB9 := Lib.hid HS.out.2
      clear hN HS
      have X := Lib.hid (Bts.of_own O.out (headL_byte gen n b HL.out HX.out.byte))
      obtain ⟨x, hx⟩ : ∃ x, x = sumM (headL gen n b) := ⟨_, rfl⟩
      have HXE := Lib.hid hx
      have hlt : x < 4294967296 := by rw [hx]; exact sumM_lt _
      have hcx : IntKind.u64.wrap (x : Int) = (x : Int) := by rw [IntKind.wrap_u64]; omega
      clear hx
      go_wp2_with fail
      refine (refSum_any _ _ _ _ X.out).mono ?_
      rintro e w6 ⟨rfl, rfl⟩
      rw [sumU_eq, ← HXE.out]
      go_wp2_with fail
      refine (num_any x 4 _ (by omega) (by omega) (by omega)).mono ?_
      rintro e w7 ⟨r7, rfl, ho7, hb7⟩
      have X7 := Lib.hid (show Bts w7 w7.heap.size r7 (numL x 4) from Bts.of_own ho7 (numL_byte _ _))
      have O7 := Lib.hid (show w7.ownsRow w.heap.size 5 1 (.slice (some ⟨g, 0, none⟩) N cap) N ((headL gen n b).map bv) from O.out.kept (row := none) ⟨hb7.os, hb7.tape, hb7.output, hb7.size, fun k hk _ => hb7.block k hk⟩ (by simp [Value.ownBlock]))
      have B7 := Lib.hid (HB9.out.trans (hb7.mono HB9.out.size))
      obtain ⟨A7, l7, cc7, rfl, hl7, -⟩ := X7.out
      clear ho7 hb7 hl7
      go_wp2_with (at_builtin; refine wpList_append_bts rfl (.tmp 29) (.tmp 33) 27 rfl w.heap.size 5 i0 Try.underlying27 HI.out HZ0.out HZ1.out HZ2.out (.slice (some ⟨g, 0, none⟩) N cap) N (headL gen n b) rfl O7.out _ (numL x 4) rfl w7.heap.size X7.out (by have := HN60.out; rw [numL_length]; omega) B7.out.size ?_; intro v8 w8 O8 B8)
      go_ret
      refine ⟨_, rfl, ?_, B7.out.trans B8.out⟩
      have h := O8.out
      rw [numL_length, HN60.out, HXE.out] at h
      exact h
end Go.Proofs.Ytfnegbcpiejdaaa

/-! ## RefD: The contract of the document's own Records: of the sectors of a log the records of that gen, from the first one on.   Conditions: there are at least 64 sectors, each of 64 bytes; they are read in memory. -/
namespace Go.Proofs.Ytfnegbcpiejdaaa
open Go.RowKit
set_option linter.unusedVariables false

/-- What holds while a sector is held against the document's own. -/
def RecS (w : World) (v : Value) (s : List Nat) (w' : World) : Prop := Bts w' w.heap.size v s ∧ Below w.heap.size w w'
theorem RecS.next {w w' w'' : World} {v : Value} {s : List Nat} (h : RecS w v s w') (hb : Below w'.heap.size w' w'') : RecS w v s w'' :=
  ⟨h.1.below (hb.mono h.2.size), h.2.trans (hb.mono h.2.size)⟩
theorem RecS.drew {w w' : World} {v : Value} {s : List Nat} (h : RecS w v s w') : RecS w v s w'.drew := ⟨h.1, h.2.drew⟩
theorem RecS.bts {w w' : World} {v : Value} {s : List Nat} (h : RecS w v s w') : Bts w' w.heap.size v s := h.1
theorem RecS.below {w w' : World} {v : Value} {s : List Nat} (h : RecS w v s w') : Below w.heap.size w w' := h.2
theorem RecS.drewN {w w' : World} {v : Value} {s : List Nat} (h : RecS w v s w') (q : Nat) : RecS w v s (w'.drewN q) := ⟨h.1, below_drewN h.2 q⟩
/-- What holds ahead of round k. -/
def RecsAt (w : World) (F : Nat → List Nat) (gen k : Nat) (v : Value) (wx : World) : Prop :=
  (∀ j, j < k → IsRec (F j) gen j) ∧ Lst wx (fun _ => False) w.heap.size w.heap.size 27 v (pays F k) ∧ Below w.heap.size w wx
/-- What it leaves. -/
def RecsPost (w : World) (F : Nat → List Nat) (gen : Nat) (e : Ending) (w' : World) : Prop :=
  ∃ m v, Stop F gen m ∧ e = .returned v ∧ Lst w' (fun _ => False) w.heap.size w.heap.size 27 v (pays F m) ∧ Below w.heap.size w w'

set_option maxRecDepth 20000 in
set_option maxHeartbeats 3200000 in
theorem records_any (v : Value) (xss : List (List Nat)) (gen : Nat) (w : World) (h : Pts w v xss) (hn : 64 ≤ xss.length) (hs : ∀ j, j < 64 → (xss.getD j []).length = 64) (hg : gen < 4294967296) :
    Calls Try.prog 24 #[v, .int .u32 (gen : Int)] w (RecsPost w (fun j => xss.getD j []) gen) := by
  have HP := Lib.hid h
  have HS := Lib.hid hs
  have HG := Lib.hid hg
  obtain ⟨A, N, c, rfl, hN, hNc, hcm, hz⟩ := h
  obtain ⟨b, off, rfl, -⟩ := hz (by omega)
  have h64 : 64 ≤ N := by omega
  have HN := Lib.hid hN
  obtain ⟨i0, hi, hz0, hz1, hz2⟩ := info_parts Try.infoB
  have HI := Lib.hid hi
  have HZ0 := Lib.hid hz0
  have HZ1 := Lib.hid hz1
  have HZ2 := Lib.hid hz2
  unfold maxLen at hcm
  clear hi hz0 hz1 hz2 hs hg hn hN
  go_enter Try.func24, Try.ntmps24
  go_wp2_with fail
  go_loopg [5, 6] 64 (fun g s5 s6 wx => ∃ k : Nat, k + g = 64 ∧ s6 = .int .i64 k ∧ RecsAt w (fun j => xss.getD j []) gen k s5 wx)
  case atStart => exact ⟨0, rfl, rfl, fun j hj => absurd hj (by omega), Lst.nil_ _ _ _ _ _, Below.refl _ _⟩
  case round =>
    obtain ⟨k, hkg, rfl, hr⟩ := hrel
    have HR := Lib.hid hr
    clear hr
    by_cases hk : k < 64
    · have t1 : decide ((k : Int) < (N : Int)) = true := decide_eq_true (by omega)
      have t2 : decide ((k : Int) < 64) = true := decide_eq_true (by omega)
      have t3 : (k : Int) < (N : Int) := by omega
      have t4 : (0 : Int) ≤ (k : Int) := by omega
      obtain ⟨u, hcell0, hu⟩ := HP.out.at_ (j := k) (by rw [HN.out]; omega)
      obtain ⟨s, hse⟩ : ∃ s, s = xss.getD k [] := ⟨_, rfl⟩
      rw [← hse] at hu
      have HSE := Lib.hid hse
      have hl : s.length = 64 := by rw [hse]; exact HS.out k hk
      have HL := Lib.hid hl
      clear hse
      have HU := Lib.hid hu
      have HBY := Lib.hid hu.byte
      have hux := hu
      obtain ⟨A2, n2, c2, rfl, hl2, _, ⟨hn2c, _⟩, hc2m, _, hx2⟩ := hux
      obtain rfl : n2 = 64 := by omega
      obtain ⟨b2, off2, rfl, hb2, _⟩ := hx2 (by omega)
      unfold maxLen at hc2m
      obtain ⟨x, hx⟩ : ∃ x, x = s.getD 8 0 := ⟨_, rfl⟩
      have HXE := Lib.hid hx
      have hx256 : x < 256 := by rw [hx]; exact byte_at HBY.out 8
      have hcell : wr.cell? ⟨b, off + k, none⟩ = some (.slice (some ⟨b2, off2, none⟩) 64 c2) := (HR.out.2.2.cell (World.block_lt_of_cell? w _ hcell0)).trans hcell0
      have HRS := Lib.hid (show RecS wr (.slice (some ⟨b2, off2, none⟩) 64 c2) s wr from ⟨(HU.out.below HR.out.2.2).more HR.out.2.2.size, Below.refl _ _⟩)
      have hc8 : wr.cell? ⟨b2, off2 + 8, none⟩ = some (.int .u8 (x : Int)) := by
        obtain ⟨A', n', c', e1, _, _, _, _, _, h5⟩ := HRS.out.1
        injection e1 with e1 e2 e3
        subst e1 e2 e3
        obtain ⟨b', off', e1, _, h6⟩ := h5 (by omega)
        injection e1 with e1
        injection e1 with e1 e2 _
        subst e1 e2
        rw [hx]
        exact h6 8 (by omega)
      have HCL := Lib.hid (show ∀ w', Below wr.heap.size wr w' → w'.cell? ⟨b, off + k, none⟩ = some (.slice (some ⟨b2, off2, none⟩) 64 c2) from fun w' hw' => (hw'.cell (World.block_lt_of_cell? wr _ hcell)).trans hcell)
      have h8 : (8 : Int) < 64 := by omega
      have hc2 : (64 : Int) ≤ (c2 : Int) := by omega
      clear hx hu hx2 hb2 hcell0 hl hl2 hn2c
      by_cases c3 : 50 < x
      · have t5 : decide ((50 : Int) < (x : Int)) = true := decide_eq_true (by omega)
        go_wp2_with fail
        refine wp_region_noPanic ?_
        refine wp_region_any (by kernel_rfl) ?_
        try (change wpAny _ _ _ _ _ _ _ (World.drew _))
        refine wpAny_take (i := 0) (v := ?v1) rfl (by kernel_rfl) (by kernel_rfl) (by kernel_rfl) (fun _ _ _ h => h) (Or.inl ⟨by rfl, ?hy1⟩) ?rest1
        case hy1 => (intro w; go_simp; try with_reducible rfl)
        try simp only [Act.put, List.getElem_toArray, List.getElem_cons_zero, List.setIfInBounds_toArray, List.set_cons_zero, List.set_cons_succ]
        refine wpAny_take (i := 1) (v := ?v2) rfl (by kernel_rfl) (by kernel_rfl) (by kernel_rfl) (fun _ _ _ h => h) (Or.inl ⟨by rfl, ?hy2⟩) ?rest2
        case hy2 => (intro w; go_simp; try with_reducible rfl)
        try simp only [Act.put, List.getElem_toArray, List.getElem_cons_succ, List.getElem_cons_zero, List.setIfInBounds_toArray, List.set_cons_zero, List.set_cons_succ]
        refine wpAny_take (i := 2) (v := ?v3) rfl (by kernel_rfl) (by kernel_rfl) (by kernel_rfl) (fun _ _ _ h => h) (Or.inl ⟨by rfl, ?hy3⟩) ?rest3
        case hy3 => (intro w; go_simp; try with_reducible rfl)
        try simp only [Act.put, List.getElem_toArray, List.getElem_cons_succ, List.getElem_cons_zero, List.setIfInBounds_toArray, List.set_cons_zero, List.set_cons_succ]
        refine wpAny_take (i := 3) (v := undef) rfl (by kernel_rfl) (by kernel_rfl) (by kernel_rfl) (fun _ _ _ h => h) (Or.inr ⟨by rfl, rfl⟩) ?_
        try simp only [Act.put, List.getElem_toArray, List.getElem_cons_succ, List.getElem_cons_zero, List.setIfInBounds_toArray, List.set_cons_zero, List.set_cons_succ]
        refine wpAny_take (i := 4) (v := undef) rfl (by kernel_rfl) (by kernel_rfl) (by kernel_rfl) (fun _ _ _ h => h) (Or.inr ⟨by rfl, rfl⟩) ?_
        try simp only [Act.put, List.getElem_toArray, List.getElem_cons_succ, List.getElem_cons_zero, List.setIfInBounds_toArray, List.set_cons_zero, List.set_cons_succ]
        refine wpAny_take (i := 5) (v := undef) rfl (by kernel_rfl) (by kernel_rfl) (by kernel_rfl) (fun _ _ _ h => h) (Or.inr ⟨by rfl, rfl⟩) ?_
        try simp only [Act.put, List.getElem_toArray, List.getElem_cons_succ, List.getElem_cons_zero, List.setIfInBounds_toArray, List.set_cons_zero, List.set_cons_succ]
        refine wpAny_take (i := 6) (v := undef) rfl (by kernel_rfl) (by kernel_rfl) (by kernel_rfl) (fun _ _ _ h => h) (Or.inr ⟨by rfl, rfl⟩) ?_
        try simp only [Act.put, List.getElem_toArray, List.getElem_cons_succ, List.getElem_cons_zero, List.setIfInBounds_toArray, List.set_cons_zero, List.set_cons_succ]
        refine wpAny_take (i := 7) (v := undef) rfl (by kernel_rfl) (by kernel_rfl) (by kernel_rfl) (fun _ _ _ h => h) (Or.inr ⟨by rfl, rfl⟩) ?_
        try simp only [Act.put, List.getElem_toArray, List.getElem_cons_succ, List.getElem_cons_zero, List.setIfInBounds_toArray, List.set_cons_zero, List.set_cons_succ]
        refine wpAny_take (i := 8) (v := undef) rfl (by kernel_rfl) (by kernel_rfl) (by kernel_rfl) (fun _ _ _ h => h) (Or.inr ⟨by rfl, rfl⟩) ?_
        try simp only [Act.put, List.getElem_toArray, List.getElem_cons_succ, List.getElem_cons_zero, List.setIfInBounds_toArray, List.set_cons_zero, List.set_cons_succ]
        refine wpAny_take (i := 9) (v := undef) rfl (by kernel_rfl) (by kernel_rfl) (by kernel_rfl) (fun _ _ _ h => h) (Or.inr ⟨by rfl, rfl⟩) ?_
        try simp only [Act.put, List.getElem_toArray, List.getElem_cons_succ, List.getElem_cons_zero, List.setIfInBounds_toArray, List.set_cons_zero, List.set_cons_succ]
        refine wpAny_take (i := 10) (v := undef) rfl (by kernel_rfl) (by kernel_rfl) (by kernel_rfl) (fun _ _ _ h => h) (Or.inr ⟨by rfl, rfl⟩) ?_
        try simp only [Act.put, List.getElem_toArray, List.getElem_cons_succ, List.getElem_cons_zero, List.setIfInBounds_toArray, List.set_cons_zero, List.set_cons_succ]
        refine wpAny_take (i := 11) (v := undef) rfl (by kernel_rfl) (by kernel_rfl) (by kernel_rfl) (fun _ _ _ h => h) (Or.inr ⟨by rfl, rfl⟩) ?_
        try simp only [Act.put, List.getElem_toArray, List.getElem_cons_succ, List.getElem_cons_zero, List.setIfInBounds_toArray, List.set_cons_zero, List.set_cons_succ]
        refine wpAny_take (i := 13) (v := undef) rfl (by kernel_rfl) (by kernel_rfl) (by kernel_rfl) (fun _ _ _ h => h) (Or.inr ⟨by rfl, rfl⟩) ?_
        try simp only [Act.put, List.getElem_toArray, List.getElem_cons_succ, List.getElem_cons_zero, List.setIfInBounds_toArray, List.set_cons_zero, List.set_cons_succ]
        refine wpAny_take (i := 14) (v := undef) rfl (by kernel_rfl) (by kernel_rfl) (by kernel_rfl) (fun _ _ _ h => h) (Or.inr ⟨by rfl, rfl⟩) ?_
        try simp only [Act.put, List.getElem_toArray, List.getElem_cons_succ, List.getElem_cons_zero, List.setIfInBounds_toArray, List.set_cons_zero, List.set_cons_succ]
        refine wpAny_take (i := 15) (v := undef) rfl (by kernel_rfl) (by kernel_rfl) (by kernel_rfl) (fun _ _ _ h => h) (Or.inr ⟨by rfl, rfl⟩) ?_
        try simp only [Act.put, List.getElem_toArray, List.getElem_cons_succ, List.getElem_cons_zero, List.setIfInBounds_toArray, List.set_cons_zero, List.set_cons_succ]
        refine wpAny_take (i := 16) (v := undef) rfl (by kernel_rfl) (by kernel_rfl) (by kernel_rfl) (fun _ _ _ h => h) (Or.inr ⟨by rfl, rfl⟩) ?_
        try simp only [Act.put, List.getElem_toArray, List.getElem_cons_succ, List.getElem_cons_zero, List.setIfInBounds_toArray, List.set_cons_zero, List.set_cons_succ]
        refine wpAny_ready (rs := [12]) (by kernel_rfl) (by simp) ?_
        refine AllReady.cons rfl (fun K hK => ?_) ?_
        · go_simp
          try (refine hK _ _ ?_)
          try (clear hK K)
          refine wpAny_ready (rs := [17]) (by kernel_rfl) (by simp) ?_
          refine AllReady.cons rfl (fun K hK => ?_) ?_
          · go_simp
            try (refine hK _ _ ?_)
            try (clear hK K)
            refine wpAny_take (i := 18) (v := undef) rfl (by kernel_rfl) (by kernel_rfl) (by kernel_rfl) (fun _ _ _ h => h) (Or.inr ⟨by rfl, rfl⟩) ?_
            try simp only [Act.put, List.getElem_toArray, List.getElem_cons_succ, List.getElem_cons_zero, List.setIfInBounds_toArray, List.set_cons_zero, List.set_cons_succ]
            refine wpAny_take (i := 19) (v := ?v4) rfl (by kernel_rfl) (by kernel_rfl) (by kernel_rfl) (fun _ _ _ h => h) (Or.inl ⟨by rfl, ?hy4⟩) ?rest4
            case hy4 => (intro w; go_simp; try with_reducible rfl)
            try simp only [Act.put, List.getElem_toArray, List.getElem_cons_succ, List.getElem_cons_zero, List.setIfInBounds_toArray, List.set_cons_zero, List.set_cons_succ]
            refine wpAny_done (by kernel_rfl) ?_ _
            refine NoPanic.normal ?_
            go_simp
            go_wp2
            go_ret
            exact ⟨k, _, ⟨by omega, HR.out.1, fun _ hrec => absurd hrec.1 (by show ¬ (xss.getD k []).getD 8 0 ≤ 50; rw [← HSE.out, ← HXE.out]; omega)⟩, rfl, HR.out.2.1.turns (fun _ h => h.elim) (Turns.refl _ _).drew, HR.out.2.2.drew⟩
          exact AllReady.nil
        exact AllReady.nil
      · have t5 : decide ((50 : Int) < (x : Int)) = false := decide_eq_false (by omega)
        have t6 : (x : Int) ≤ 50 := by omega
        have t7 : (0 : Int) ≤ (x : Int) := by omega
        have n1 : (9 : Int) + (x : Int) ≤ (c2 : Int) := by omega
        have n2 : (9 : Int) ≤ (9 : Int) + (x : Int) := by omega
        have n3 : ¬ (c2 = 9) := by omega
        have n4 : IntKind.i64.wrap (9 + (x : Int)) = 9 + (x : Int) := by rw [IntKind.wrap_i64]; omega
        have n5 : 9 ≤ c2 := by omega
        have n6 : 9 + x ≤ c2 := by omega
        have n7 : ((9 : Int) + (x : Int)).toNat - 9 = x := by omega
        have hw : (win s 9 x).length = x := win_length _ _ _ (by rw [HL.out]; omega)
        have CUT := Lib.hid (fun (W : World) (h : RecS wr (.slice (some ⟨b2, off2, none⟩) 64 c2) s W) => refSector_any gen k (.slice (some ⟨b2, off2 + 9, none⟩) x (c2 - 9)) (win s 9 x) wr.heap.size W (h.1.cut (by omega) (by omega) (by unfold maxLen; omega)) h.2.size (by omega) HG.out (by omega))
        have SB := Lib.hid (secL_byte gen k (win s 9 x) (by omega) (win_byte _ _ _ (fun j _ => byte_at HBY.out j)))
        obtain ⟨T, hT⟩ : ∃ T, T = decide (secL gen k (win s 9 x) = s) := ⟨_, rfl⟩
        have SAM := Lib.hid (fun (W : World) (bs : Nat) (r : Value) (ho : W.ownsRow bs 5 1 r 64 ((secL gen k (win s 9 x)).map bv)) (h : RecS wr (.slice (some ⟨b2, off2, none⟩) 64 c2) s W) => same_any r (.slice (some ⟨b2, off2, none⟩) 64 c2) (secL gen k (win s 9 x)) s _ _ W (Bts.of_own ho SB.out) h.1)
        rw [← hT] at SAM
        have HT := Lib.hid hT
        clear hw hT
        cases T with
        | true =>
          go_wp2_with fail
          go_region_held3 (fun w' => w'.cell? ⟨b, off + k, none⟩ = some (.slice (some ⟨b2, off2, none⟩) 64 c2) ∧ RecS wr (.slice (some ⟨b2, off2, none⟩) 64 c2) s w')
            (first | assumption | exact ⟨HCL.out _ HRS.out.drew.below, HRS.out.drew⟩ | exact ⟨HCL.out _ (RecS.below (RecS.next (by assumption) hb)), RecS.next (by assumption) hb⟩ | exact ⟨HCL.out _ (RecS.below (RecS.next (And.right (by assumption)) hb)), RecS.next (And.right (by assumption)) hb⟩ | exact ⟨HCL.out _ (RecS.below (RecS.drewN (by assumption) _)), RecS.drewN (by assumption) _⟩ | exact ⟨HCL.out _ (RecS.below (RecS.drewN (And.right (by assumption)) _)), RecS.drewN (And.right (by assumption)) _⟩)
            (first
              | (go_at_call 49; refine (CUT.out _ ?_).mono ?_; (first | assumption | exact And.right (by assumption)); rintro e w' ⟨r, rfl, ho, hb⟩)
              | (go_at_call 16; refine (SAM.out _ _ _ (by assumption) ?_).mono ?_; (first | assumption | exact And.right (by assumption)); rintro e w' ⟨rfl, q, rfl⟩))
          have hS : (w'.drewN q).cell? ⟨b, off + k, none⟩ = some (.slice (some ⟨b2, off2, none⟩) 64 c2) ∧ RecS wr (.slice (some ⟨b2, off2, none⟩) 64 c2) s (w'.drewN q) := by assumption
          obtain ⟨W, hW⟩ : ∃ W, W = w'.drewN q := ⟨_, rfl⟩
          rw [← hW] at hS ⊢
          obtain ⟨hcW, hRW⟩ := hS
          have HRW := Lib.hid hRW
          have KW := Lib.hid (HR.out.2.2.trans (hRW.2.mono HR.out.2.2.size))
          have HLW := Lib.hid ((HR.out.2.1.turns (fun _ h => h.elim) (Turns.of_below hRW.2 (Nat.le_refl _))).alloc (fun _ h => h.elim) (.cells #[.slice (some ⟨b2, off2 + 9, none⟩) x (c2 - 9)] 27))
          have HB4 := Lib.hid (show w.heap.size ≤ (W.alloc (.cells #[.slice (some ⟨b2, off2 + 9, none⟩) x (c2 - 9)] 27)).heap.size from Nat.le_trans KW.out.size (by simp))
          have HE4 := Lib.hid (show ∀ j, j < 1 → ∃ u, ([Value.slice (some ⟨b2, off2 + 9, none⟩) x (c2 - 9)])[j]? = some u ∧ El (W.alloc (.cells #[.slice (some ⟨b2, off2 + 9, none⟩) x (c2 - 9)] 27)) (fun _ => False) w.heap.size 27 u (([pay (fun j => xss.getD j []) k]).getD j []) from by
            intro j hj
            obtain rfl : j = 0 := by omega
            refine ⟨_, rfl, ?_⟩
            have h1 : Bts (W.alloc (.cells #[.slice (some ⟨b2, off2 + 9, none⟩) x (c2 - 9)] 27)) w.heap.size (.slice (some ⟨b2, off2, none⟩) 64 c2) s := HU.out.below (KW.out.alloc KW.out.size _)
            have h2 := h1.cut (a := 9) (k := x) (c' := c2 - 9) (by omega) (by omega) (by unfold maxLen; omega)
            have h3 : win s 9 x = pay (fun j => xss.getD j []) k := by
              show win s 9 x = win (xss.getD k []) 9 ((xss.getD k []).getD 8 0)
              rw [← HSE.out, HXE.out]
            rw [h3] at h2
            exact El.of_bts h2 (fun _ h => h.elim) HB4.out)
          have HC4 := Lib.hid (one_cell (w := W.alloc (.cells #[.slice (some ⟨b2, off2 + 9, none⟩) x (c2 - 9)] 27)) (g := W.heap.size) (v := .slice (some ⟨b2, off2 + 9, none⟩) x (c2 - 9)) (by simp))
          have HFW := Lib.hid (show (pays (fun j => xss.getD j []) k).length + 1 ≤ 1000000 by rw [pays_length]; omega)
          clear hRW hW
          go_wp2_with (at_builtin; refine wpList_append_lst rfl (.tmp 45) (.tmp 53) 28 rfl (fun _ => False) w.heap.size w.heap.size 27 i0 Try.underlying28 HI.out HZ0.out HZ1.out HZ2.out u5 (pays (fun j => xss.getD j []) k) rfl HLW.out ⟨W.heap.size, 0, none⟩ 1 1 [.slice (some ⟨b2, off2 + 9, none⟩) x (c2 - 9)] [pay (fun j => xss.getD j []) k] rfl rfl rfl HC4.out HE4.out HFW.out HB4.out (Nat.le_refl _) ?_; intro v5 w5 HL5 HK5)
          go_roundg (63 - k)
          case measure => omega
          case rel =>
            refine ⟨k + 1, by omega, by go_num, fun j hj => ?_, ?_, (KW.out.alloc KW.out.size _).trans HK5.out⟩
            · by_cases e : j = k
              · subst e
                refine ⟨by simp only; rw [← HSE.out, ← HXE.out]; omega, ?_⟩
                simp only
                rw [← HSE.out, ← HXE.out]
                exact of_decide_eq_true HT.out.symm
              · exact HR.out.1 j (by omega)
            · rw [pays_succ]
              exact HL5.out
        | false =>
          go_wp2_with fail
          go_region_held3 (fun w' => w'.cell? ⟨b, off + k, none⟩ = some (.slice (some ⟨b2, off2, none⟩) 64 c2) ∧ RecS wr (.slice (some ⟨b2, off2, none⟩) 64 c2) s w')
            (first | assumption | exact ⟨HCL.out _ HRS.out.drew.below, HRS.out.drew⟩ | exact ⟨HCL.out _ (RecS.below (RecS.next (by assumption) hb)), RecS.next (by assumption) hb⟩ | exact ⟨HCL.out _ (RecS.below (RecS.next (And.right (by assumption)) hb)), RecS.next (And.right (by assumption)) hb⟩ | exact ⟨HCL.out _ (RecS.below (RecS.drewN (by assumption) _)), RecS.drewN (by assumption) _⟩ | exact ⟨HCL.out _ (RecS.below (RecS.drewN (And.right (by assumption)) _)), RecS.drewN (And.right (by assumption)) _⟩)
            (first
              | (go_at_call 49; refine (CUT.out _ ?_).mono ?_; (first | assumption | exact And.right (by assumption)); rintro e w' ⟨r, rfl, ho, hb⟩)
              | (go_at_call 16; refine (SAM.out _ _ _ (by assumption) ?_).mono ?_; (first | assumption | exact And.right (by assumption)); rintro e w' ⟨rfl, q, rfl⟩))
          have hS : (w'.drewN q).cell? ⟨b, off + k, none⟩ = some (.slice (some ⟨b2, off2, none⟩) 64 c2) ∧ RecS wr (.slice (some ⟨b2, off2, none⟩) 64 c2) s (w'.drewN q) := by assumption
          go_wp2
          go_ret
          refine ⟨k, _, ⟨by omega, HR.out.1, fun _ hrec => ?_⟩, rfl, HR.out.2.1.turns (fun _ h => h.elim) (Turns.of_below hS.2.2 (Nat.le_refl _)), HR.out.2.2.trans (hS.2.2.mono HR.out.2.2.size)⟩
          refine of_decide_eq_false HT.out.symm ?_
          have h := hrec.2
          simp only at h
          rw [← HSE.out, ← HXE.out] at h
          exact h
    · obtain rfl : k = 64 := by omega
      have t2 : decide ((64 : Int) < 64) = false := by decide
      by_cases c1 : 64 < N
      · have t3 : decide (((64 : Nat) : Int) < (N : Int)) = true := decide_eq_true (by omega)
        have t3' : decide ((64 : Int) < (N : Int)) = true := decide_eq_true (by omega)
        go_wp2
        go_ret
        exact ⟨64, _, ⟨Nat.le_refl _, HR.out.1, fun h => absurd h (by omega)⟩, rfl, HR.out.2.1, HR.out.2.2⟩
      · have t3 : decide (((64 : Nat) : Int) < (N : Int)) = false := decide_eq_false (by omega)
        have t3' : decide ((64 : Int) < (N : Int)) = false := decide_eq_false (by omega)
        go_wp2
        go_ret
        exact ⟨64, _, ⟨Nat.le_refl _, HR.out.1, fun h => absurd h (by omega)⟩, rfl, HR.out.2.1, HR.out.2.2⟩
end Go.Proofs.Ytfnegbcpiejdaaa

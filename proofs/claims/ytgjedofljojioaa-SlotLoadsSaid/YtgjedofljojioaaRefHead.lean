/-
  The contract of the document's own Head: a slot's head, in new memory.
  Conditions: the bytes are fewer than 100,000, and are read in memory.
-/
import Derived.Test.YtgjedofljojioaaRefA
import Derived.Test.YtgjedofljojioaaSlo
import Derived.Deep.LoopGhost
namespace Go.Proofs.Ytgjedofljojioaa
open Go.RowKit
set_option linter.unusedVariables false

theorem one_bts_ (w : World) (t : TypeId) (y : Nat) (h : y < 256) : Bts (w.alloc (.cells #[.int .u8 (y : Int)] t)) (w.heap.size + 1) (.slice (some ⟨w.heap.size, 0, none⟩) 1 1) [y] :=
  Bts.of_blk (Blk.new w t _) (by omega) rfl (Nat.le_refl _) (by simp [maxLen]) (fun j hj => by obtain rfl : j = 0 := (by omega); simpa using h) (fun j hj => by obtain rfl : j = 0 := (by omega); rfl)
/-- A head, while zeros are laid behind. -/
def hedZ (g : Nat) (b : List Nat) (i : Nat) : List Nat := preL g b ++ numL (sumM (preL g b ++ b)) 4 ++ List.replicate i 0
theorem hedZ_more (g : Nat) (b : List Nat) (i : Nat) : hedZ g b i ++ [0] = hedZ g b (i + 1) := by
  unfold hedZ
  rw [List.append_assoc, List.replicate_succ']
theorem hedZ_all (g : Nat) (b : List Nat) : hedZ g b 52 = hedL g b := by
  unfold hedZ hedL
  rw [List.append_assoc]
/-- What holds while zeros are laid behind. -/
def HedAt (w : World) (g : Nat) (b : List Nat) (i : Nat) (v : Value) (wx : World) : Prop :=
  wx.ownsRow w.heap.size 5 1 v (12 + i) ((hedZ g b i).map bv) ∧ Below w.heap.size w wx
/-- What Head leaves. -/
def RefHeadPost (w : World) (g : Nat) (b : List Nat) (e : Ending) (w' : World) : Prop :=
  ∃ r, e = .returned r ∧ w'.ownsRow w.heap.size 5 1 r 64 ((hedL g b).map bv) ∧ Below w.heap.size w w'

set_option maxHeartbeats 1600000 in
set_option maxRecDepth 20000 in
theorem refHead_any (g : Nat) (v : Value) (b : List Nat) (B : Nat) (w : World) (h : Bts w B v b) (hB : B ≤ w.heap.size) (hl : b.length ≤ 100000) (hg : g < 4294967296) :
    Calls Try.prog 38 #[.int .u32 (g : Int), v] w (RefHeadPost w g b) := by
  have HX := Lib.hid h
  have HB := Lib.hid hB
  obtain ⟨A, l, c, rfl, e0, -⟩ := h
  have E0 := Lib.hid e0
  have hl100 : l ≤ 100000 := by omega
  have HG := Lib.hid hg
  have HL := Lib.hid hl100
  have c1 : IntKind.u64.wrap (g : Int) = (g : Int) := by rw [IntKind.wrap_u64]; omega
  have c2 : IntKind.u64.wrap (l : Int) = (l : Int) := by rw [IntKind.wrap_u64]; omega
  obtain ⟨i0, hi, hz0, hz1, hz2⟩ := info_parts Try.info8
  have HI := Lib.hid hi
  have HZ0 := Lib.hid hz0
  have HZ1 := Lib.hid hz1
  have HZ2 := Lib.hid hz2
  clear hi hz0 hz1 hz2 hB hl e0 hg
  go_enter Try.func38, Try.ntmps38
  go_wp2_with fail
  refine (num_any g 4 _ (by have := HG.out; omega) (by omega) (by omega)).mono ?_
  rintro e w1 ⟨r1, rfl, ho1, hb1⟩
  have O1 := Lib.hid (show w1.ownsRow w.heap.size 5 1 r1 4 ((numL g 4).map bv) from ho1)
  have B1 := Lib.hid hb1
  clear ho1 hb1
  go_wp2_with fail
  refine (num_any l 4 _ (by have := HL.out; omega) (by omega) (by omega)).mono ?_
  rintro e w2 ⟨r2, rfl, ho2, hb2⟩
  have O1' := Lib.hid (show w2.ownsRow w.heap.size 5 1 r1 4 ((numL g 4).map bv) from O1.out.kept (row := none) ⟨hb2.os, hb2.tape, hb2.output, hb2.size, fun k hk _ => hb2.block k hk⟩ (by cases r1.ownBlock <;> simp))
  have B2 := Lib.hid (B1.out.trans (hb2.mono B1.out.size))
  have X2 := Lib.hid (show Bts w2 w2.heap.size r2 (numL l 4) from Bts.of_own ho2 (numL_byte _ _))
  obtain ⟨A2, l2, cc2, rfl, hl2, -⟩ := X2.out
  clear ho2 hb2 O1 hl2
  go_wp2_with (first
    | (at_builtin; refine wpList_append_bts rfl (.tmp 8) (.tmp 12) 31 rfl w.heap.size 5 i0 Try.underlying31 HI.out HZ0.out HZ1.out HZ2.out r1 4 (numL g 4) rfl O1'.out _ (numL l 4) rfl w2.heap.size X2.out (by rw [numL_length]; omega) B2.out.size ?_; intro v3 w3 O3 B3)
    | (at_builtin; refine wpList_append_bts rfl (.tmp 15) (.tmp 16) 31 rfl w3.heap.size 5 i0 Try.underlying31 HI.out HZ0.out HZ1.out HZ2.out _ 0 [] rfl (own_empty w3 _) v3 (numL g 4 ++ numL l 4) rfl w3.heap.size ((Bts.of_own O3.out (by intro y hy; rcases List.mem_append.1 hy with hy | hy <;> exact numL_byte _ _ y hy)).below ((Below.refl _ _).alloc (Nat.le_refl _) _)) (by simp [numL_length]) (by simp) ?_; intro v4 w4 O4 B4)
    | (at_builtin; refine wpList_append_bts rfl (.tmp 17) (.tmp 18) 31 rfl w3.heap.size 5 i0 Try.underlying31 HI.out HZ0.out HZ1.out HZ2.out v4 (0 + (numL g 4 ++ numL l 4).length) ([] ++ (numL g 4 ++ numL l 4)) rfl O4.out _ b rfl B (HX.out.below ((B2.out.trans (B3.out.trans ((((Below.refl _ w3).alloc (Nat.le_refl _) _).trans B4.out).mono (B2.out.trans B3.out).size))).mono HB.out)) (by have := HL.out; have := E0.out; simp [numL_length]; omega) ((((Below.refl _ w3).alloc (Nat.le_refl _) _).trans B4.out)).size ?_; intro v5 w5 O5 B5))
  have B35 := Lib.hid (show Below w3.heap.size w3 w5 from (((Below.refl _ w3).alloc (Nat.le_refl _) _).trans B4.out).trans B5.out)
  have BW3 := Lib.hid (B2.out.trans B3.out)
  have hpre : numL g 4 ++ numL l 4 = preL g b := by unfold preL; rw [E0.out]
  have HB8 := Lib.hid HX.out.byte
  have O3' := Lib.hid (show w3.ownsRow w.heap.size 5 1 v3 8 ((preL g b).map bv) from by
    have h := O3.out
    rw [numL_length, hpre] at h
    exact h)
  have X5 := Lib.hid (show Bts w5 w5.heap.size v5 (preL g b ++ b) from by
    have h := O5.out
    rw [List.nil_append, hpre] at h
    refine Bts.of_own h (fun y hy => ?_)
    rcases List.mem_append.1 hy with hy | hy
    · exact preL_byte g b y hy
    · exact HB8.out y hy)
  obtain ⟨x, hx⟩ : ∃ x, x = sumM (preL g b ++ b) := ⟨_, rfl⟩
  have HXE := Lib.hid hx
  have hlt : x < 4294967296 := by rw [hx]; exact sumM_lt _
  have hcx : IntKind.u64.wrap (x : Int) = (x : Int) := by rw [IntKind.wrap_u64]; omega
  clear hx O1' O3 O4 O5 B1 B2 B3 B4 B5 X2 hpre
  go_wp2_with fail
  refine (refSum_any _ _ _ _ X5.out).mono ?_
  rintro e w6 ⟨rfl, rfl⟩
  rw [sumU_eq, ← HXE.out]
  go_wp2_with fail
  refine (num_any x 4 _ (by omega) (by omega) (by omega)).mono ?_
  rintro e w7 ⟨r7, rfl, ho7, hb7⟩
  have X7 := Lib.hid (show Bts w7 w7.heap.size r7 (numL x 4) from Bts.of_own ho7 (numL_byte _ _))
  have B37 := Lib.hid (show Below w3.heap.size w3 w7 from B35.out.trans (hb7.mono B35.out.size))
  have O7 := Lib.hid (show w7.ownsRow w.heap.size 5 1 v3 8 ((preL g b).map bv) from O3'.out.kept (row := none) ⟨B37.out.os, B37.out.tape, B37.out.output, B37.out.size, fun k hk _ => B37.out.block k hk⟩ (by cases v3.ownBlock <;> simp))
  have B7 := Lib.hid (BW3.out.trans (B37.out.mono BW3.out.size))
  clear ho7 hb7
  go_wp2_with (at_builtin; refine wpList_append_bts rfl (.tmp 14) (.tmp 22) 31 rfl w.heap.size 5 i0 Try.underlying31 HI.out HZ0.out HZ1.out HZ2.out v3 8 (preL g b) rfl O7.out _ (numL x 4) rfl w7.heap.size X7.out (by rw [numL_length]; omega) B7.out.size ?_; intro v8 w8 O8 B8)
  have HS8 := Lib.hid (show HedAt w g b 0 v8 w8 from by
    refine ⟨?_, B7.out.trans B8.out⟩
    have h := O8.out
    rw [numL_length, HXE.out] at h
    simpa [hedZ] using h)
  clear O3' O7 O8 B7 B8 B37 BW3 B35 X5 X7
  go_loopg [5] 52 (fun k s5 wx => ∃ i : Nat, i + k = 52 ∧ HedAt w g b i s5 wx)
  case atStart => exact ⟨0, by omega, HS8.out⟩
  case round =>
    obtain ⟨i, hig, hs⟩ := hrel
    have HS := Lib.hid hs
    obtain ⟨g9, cap, hv⟩ := own_shape hs.1 (by omega)
    subst hv
    clear hs
    by_cases hi : i < 52
    · have t1 : decide (((12 + i : Nat) : Int) < 64) = true := decide_eq_true (by omega)
      go_wp2_with (at_builtin; refine wpList_append_bts rfl (.tmp 27) (.tmp 28) 31 rfl w.heap.size 5 i0 Try.underlying31 HI.out HZ0.out HZ1.out HZ2.out (.slice (some ⟨g9, 0, none⟩) (12 + i) cap) (12 + i) (hedZ g b i) rfl (HS.out.1.alloc _) _ [0] rfl (wr.heap.size + 1) (one_bts_ wr _ 0 (by omega)) (by simp; omega) (Nat.le_trans HS.out.2.size (by simp)) ?_; intro v9 w9 O9 B9)
      go_roundg (51 - i)
      case measure => omega
      case rel =>
        refine ⟨i + 1, by omega, ?_, (HS.out.2.alloc HS.out.2.size _).trans B9.out⟩
        have h := O9.out
        rw [hedZ_more] at h
        exact h
    · obtain rfl : i = 52 := by omega
      have t1 : decide ((64 : Int) < 64) = false := by decide
      go_wp2
      go_ret
      refine ⟨_, rfl, ?_, HS.out.2⟩
      have h := HS.out.1
      rw [hedZ_all] at h
      exact h
end Go.Proofs.Ytgjedofljojioaa

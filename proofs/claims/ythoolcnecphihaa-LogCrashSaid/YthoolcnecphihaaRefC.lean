/-
  The contract of the document's own Sector: the record's sector, in new memory.
  Conditions: the record has 50 bytes at most, which are read in memory.
-/
import Derived.Test.YthoolcnecphihaaRefB
import Derived.Deep.LoopGhost
namespace Go.Proofs.Ythoolcnecphihaa
open Go.RowKit
set_option linter.unusedVariables false

theorem one_bts (w : World) (t : TypeId) (y : Nat) (h : y < 256) : Bts (w.alloc (.cells #[.int .u8 (y : Int)] t)) (w.heap.size + 1) (.slice (some ⟨w.heap.size, 0, none⟩) 1 1) [y] :=
  Bts.of_blk (Blk.new w t _) (by omega) rfl (Nat.le_refl _) (by simp [maxLen]) (fun j hj => by obtain rfl : j = 0 := (by omega); simpa using h) (fun j hj => by obtain rfl : j = 0 := (by omega); rfl)
theorem sec_more (gen n : Nat) (b : List Nat) (i : Nat) : (numL gen 4 ++ numL n 4 ++ [b.length] ++ b ++ List.replicate i 0) ++ [0] = numL gen 4 ++ numL n 4 ++ [b.length] ++ b ++ List.replicate (i + 1) 0 := by
  rw [List.append_assoc, List.replicate_succ']
theorem sec_head (gen n : Nat) (b : List Nat) : numL gen 4 ++ numL n 4 ++ [b.length] ++ b ++ List.replicate (51 - b.length) 0 = headL gen n b := by
  unfold headL
  simp only [List.append_assoc]

/-- What holds while zeros are laid behind. -/
def SecAt (w : World) (gen n : Nat) (b : List Nat) (i : Nat) (v : Value) (wx : World) : Prop :=
  wx.ownsRow w.heap.size 5 1 v (9 + b.length + i) ((numL gen 4 ++ numL n 4 ++ [b.length] ++ b ++ List.replicate i 0).map bv) ∧ Below w.heap.size w wx
/-- What the document's Sector leaves. -/
def RefSecPost (w : World) (gen n : Nat) (b : List Nat) (e : Ending) (w' : World) : Prop :=
  ∃ r, e = .returned r ∧ w'.ownsRow w.heap.size 5 1 r 64 ((secL gen n b).map bv) ∧ Below w.heap.size w w'

set_option maxHeartbeats 1600000 in
theorem refSector_any (gen n : Nat) (v : Value) (b : List Nat) (B : Nat) (w : World) (h : Bts w B v b) (hB : B ≤ w.heap.size) (hl : b.length ≤ 50) (hg : gen < 4294967296) (hn : n < 4294967296) :
    Calls Try.prog 18 #[.int .u32 (gen : Int), .int .i64 (n : Int), v] w (RefSecPost w gen n b) := by
  have HX := Lib.hid h
  have HB := Lib.hid hB
  obtain ⟨A, l, c, rfl, e0, -⟩ := h
  have HL := Lib.hid (show b.length ≤ 50 from hl)
  have E0 := Lib.hid e0
  have hl50 : l ≤ 50 := by omega
  have HG := Lib.hid hg
  have HN := Lib.hid hn
  have c1 : IntKind.u64.wrap (gen : Int) = (gen : Int) := by rw [IntKind.wrap_u64]; omega
  have c2 : IntKind.u64.wrap (n : Int) = (n : Int) := by rw [IntKind.wrap_u64]; omega
  have c3 : IntKind.u8.wrap (l : Int) = (l : Int) := by rw [IntKind.wrap_u8']; omega
  have c3' : (l : Int) % 256 = (l : Int) := by omega
  obtain ⟨i0, hi, hz0, hz1, hz2⟩ := info_parts Try.info8
  have HI := Lib.hid hi
  have HZ0 := Lib.hid hz0
  have HZ1 := Lib.hid hz1
  have HZ2 := Lib.hid hz2
  clear hi hz0 hz1 hz2 hB hl e0 hg hn
  go_enter Try.func18, Try.ntmps18
  go_wp2_with fail
  refine (num_any gen 4 _ (by have := HG.out; omega) (by omega) (by omega)).mono ?_
  rintro e w1 ⟨r1, rfl, ho1, hb1⟩
  have O1 := Lib.hid (show w1.ownsRow w.heap.size 5 1 r1 4 ((numL gen 4).map bv) from ho1)
  have B1 := Lib.hid hb1
  clear ho1 hb1
  go_wp2_with fail
  refine (num_any n 4 _ (by have := HN.out; omega) (by omega) (by omega)).mono ?_
  rintro e w2 ⟨r2, rfl, ho2, hb2⟩
  have O2 := Lib.hid (show w2.ownsRow w1.heap.size 5 1 r2 4 ((numL n 4).map bv) from ho2)
  have O1' := Lib.hid (show w2.ownsRow w.heap.size 5 1 r1 4 ((numL gen 4).map bv) from O1.out.kept (row := none) ⟨hb2.os, hb2.tape, hb2.output, hb2.size, fun k hk _ => hb2.block k hk⟩ (by cases r1.ownBlock <;> simp))
  have B2 := Lib.hid (B1.out.trans (hb2.mono B1.out.size))
  have X2 := Lib.hid (show Bts w2 w2.heap.size r2 (numL n 4) from Bts.of_own O2.out (numL_byte _ _))
  obtain ⟨A2, l2, cc2, rfl, hl2, -⟩ := X2.out
  clear ho2 hb2 O1 hl2
  go_wp2_with (first
    | (at_builtin; refine wpList_append_bts rfl (.tmp 10) (.tmp 13) 29 rfl w.heap.size 5 i0 Try.underlying29 HI.out HZ0.out HZ1.out HZ2.out r1 4 (numL gen 4) rfl O1'.out _ (numL n 4) rfl w2.heap.size X2.out (by rw [numL_length]; omega) B2.out.size ?_; intro v3 w3 O3 B3)
    | (at_builtin; refine wpList_append_bts rfl (.tmp 15) (.tmp 19) 29 rfl w.heap.size 5 i0 Try.underlying29 HI.out HZ0.out HZ1.out HZ2.out v3 (4 + (numL n 4).length) (numL gen 4 ++ numL n 4) rfl (O3.out.alloc _) _ [l] rfl (w3.heap.size + 1) (one_bts w3 _ l (by omega)) (by simp [numL_length]) (Nat.le_trans (B2.out.trans B3.out).size (by simp)) ?_; intro v4 w4 O4 B4)
    | (at_builtin; refine wpList_append_bts rfl (.tmp 20) (.tmp 21) 29 rfl w.heap.size 5 i0 Try.underlying29 HI.out HZ0.out HZ1.out HZ2.out v4 (4 + (numL n 4).length + 1) (numL gen 4 ++ numL n 4 ++ [l]) rfl O4.out _ b rfl B (HX.out.below ((B2.out.trans (B3.out.trans (((Below.refl _ w3).alloc ((B2.out.trans B3.out).size) _).trans B4.out))).mono HB.out)) (by simp [numL_length]; have := HL.out; omega) (B2.out.trans (B3.out.trans (((Below.refl _ w3).alloc ((B2.out.trans B3.out).size) _).trans B4.out))).size ?_; intro v5 w5 O5 B5))
  have HS5 := Lib.hid (show SecAt w gen n b 0 v5 w5 from by
    refine ⟨?_, (B2.out.trans (B3.out.trans (((Below.refl _ w3).alloc ((B2.out.trans B3.out).size) _).trans B4.out))).trans B5.out⟩
    have h := O5.out
    rw [numL_length, ← E0.out, show 4 + 4 + 1 + b.length = 9 + b.length + 0 by omega] at h
    simpa using h)
  clear O1' O2 O3 O4 O5 B1 B2 B3 B4 B5 X2
  go_loopg [7] (51 - b.length) (fun g s7 wx => ∃ i : Nat, i + g = 51 - b.length ∧ SecAt w gen n b i s7 wx)
  case atStart => exact ⟨0, by omega, HS5.out⟩
  case round =>
    obtain ⟨i, hig, hs⟩ := hrel
    have HS := Lib.hid hs
    obtain ⟨g, cap, hv⟩ := own_shape hs.1 (by omega)
    subst hv
    clear hs
    have e0 := E0.out
    by_cases hi : i < 51 - b.length
    · have t1 : decide (((9 + b.length + i : Nat) : Int) < 60) = true := decide_eq_true (by omega)
      go_wp2_with (at_builtin; refine wpList_append_bts rfl (.tmp 26) (.tmp 27) 29 rfl w.heap.size 5 i0 Try.underlying29 HI.out HZ0.out HZ1.out HZ2.out (.slice (some ⟨g, 0, none⟩) (9 + b.length + i) cap) (9 + b.length + i) (numL gen 4 ++ numL n 4 ++ [b.length] ++ b ++ List.replicate i 0) rfl (HS.out.1.alloc _) _ [0] rfl (wr.heap.size + 1) (one_bts wr _ 0 (by omega)) (by have := HL.out; simp; omega) (Nat.le_trans HS.out.2.size (by simp)) ?_; intro v6 w6 O6 B6)
      go_roundg (51 - b.length - (i + 1))
      case measure => omega
      case rel =>
        refine ⟨i + 1, by omega, ?_, (HS.out.2.alloc HS.out.2.size _).trans B6.out⟩
        have h := O6.out
        rw [sec_more] at h
        exact h
    · obtain rfl : i = 51 - b.length := by omega
      obtain ⟨N, hN⟩ : ∃ N, N = 9 + b.length + (51 - b.length) := ⟨_, rfl⟩
      rw [← hN] at HS ⊢
      have HN60 := Lib.hid (show N = 60 by have := HL.out; omega)
      have t1 : decide (((N : Nat) : Int) < 60) = false := decide_eq_false (by have := HN60.out; omega)
      have O := Lib.hid (show wr.ownsRow w.heap.size 5 1 (.slice (some ⟨g, 0, none⟩) N cap) N ((headL gen n b).map bv) from by
        have h := HS.out.1
        rw [sec_head, ← hN] at h
        exact h)
      have HB9 := Lib.hid HS.out.2
      clear hN HS
      have X := Lib.hid (Bts.of_own O.out (headL_byte gen n b HL.out HX.out.byte))
      obtain ⟨x, hx⟩ : ∃ x, x = sumM (headL gen n b) := ⟨_, rfl⟩
      have HXE := Lib.hid hx
      have hlt : x < 4294967296 := by rw [hx]; exact sumM_lt _
      have hcx : IntKind.u64.wrap (x : Int) = (x : Int) := by rw [IntKind.wrap_u64]; omega
      clear hx
      go_wp2_with fail
      refine (refSum_any _ _ _ _ X.out).mono ?_
      rintro e w6 ⟨rfl, rfl⟩
      rw [sumU_eq, ← HXE.out]
      go_wp2_with fail
      refine (num_any x 4 _ (by omega) (by omega) (by omega)).mono ?_
      rintro e w7 ⟨r7, rfl, ho7, hb7⟩
      have X7 := Lib.hid (show Bts w7 w7.heap.size r7 (numL x 4) from Bts.of_own ho7 (numL_byte _ _))
      have O7 := Lib.hid (show w7.ownsRow w.heap.size 5 1 (.slice (some ⟨g, 0, none⟩) N cap) N ((headL gen n b).map bv) from O.out.kept (row := none) ⟨hb7.os, hb7.tape, hb7.output, hb7.size, fun k hk _ => hb7.block k hk⟩ (by simp [Value.ownBlock]))
      have B7 := Lib.hid (HB9.out.trans (hb7.mono HB9.out.size))
      obtain ⟨A7, l7, cc7, rfl, hl7, -⟩ := X7.out
      clear ho7 hb7 hl7
      go_wp2_with (at_builtin; refine wpList_append_bts rfl (.tmp 29) (.tmp 33) 29 rfl w.heap.size 5 i0 Try.underlying29 HI.out HZ0.out HZ1.out HZ2.out (.slice (some ⟨g, 0, none⟩) N cap) N (headL gen n b) rfl O7.out _ (numL x 4) rfl w7.heap.size X7.out (by have := HN60.out; rw [numL_length]; omega) B7.out.size ?_; intro v8 w8 O8 B8)
      go_ret
      refine ⟨_, rfl, ?_, B7.out.trans B8.out⟩
      have h := O8.out
      rw [numL_length, HN60.out, HXE.out] at h
      exact h
end Go.Proofs.Ythoolcnecphihaa

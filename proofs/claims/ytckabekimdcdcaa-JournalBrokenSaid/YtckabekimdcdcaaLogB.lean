/-
  The contract of log's sector: a new block of 64 bytes that is the record's sector; nothing else is changed.
  Conditions: the record has 50 bytes at most, which are read in memory.
-/
import Derived.Test.YtckabekimdcdcaaLogA
namespace Go.Proofs.Ytckabekimdcdcaa
open Go.RowKit
set_option linter.unusedVariables false

theorem headL_zn (gen n : Nat) (b : List Nat) (h : b.length ≤ 50) : zn (numL gen 4 ++ numL n 4 ++ [b.length] ++ b) (55 - b.length) = zn (headL gen n b) 4 := by
  unfold zn headL
  rw [show 55 - b.length = (51 - b.length) + 4 by omega, ← List.replicate_append_replicate]
  simp only [List.append_assoc]

/-- What sector leaves. -/
def SecPost (w : World) (gen n : Nat) (b : List Nat) (e : Ending) (w' : World) : Prop :=
  e = .returned (.slice (some ⟨w.heap.size, 0, none⟩) 64 64) ∧ Blk w' w.heap.size 5 ((secL gen n b).map bv).toArray ∧ Below w.heap.size w w'

set_option maxRecDepth 20000 in
set_option maxHeartbeats 1600000 in
theorem sector_any (gen n : Nat) (v : Value) (b : List Nat) (B : Nat) (w : World) (h : Bts w B v b) (hB : B ≤ w.heap.size) (hl : b.length ≤ 50) (hg : gen < 4294967296) (hn : n < 4294967296) :
    Calls Try.prog 40 #[.int .u32 (gen : Int), .int .i64 (n : Int), v] w (SecPost w gen n b) := by
  have HX := Lib.hid h
  have HB := Lib.hid hB
  obtain ⟨A, l, c, rfl, e0, -⟩ := h
  have HL := Lib.hid (show b.length ≤ 50 from hl)
  have E0 := Lib.hid e0
  have hl50 : l ≤ 50 := by omega
  have hmk := make64
  have c1 : IntKind.u64.wrap (gen : Int) = (gen : Int) := by rw [IntKind.wrap_u64]; omega
  have c2 : IntKind.u64.wrap (n : Int) = (n : Int) := by rw [IntKind.wrap_u64]; omega
  have c3 : IntKind.u8.wrap (l : Int) = (l : Int) := by rw [IntKind.wrap_u8']; omega
  have c3' : (l : Int) % 256 = (l : Int) := by omega
  have b0 := Lib.hid (show Blk (w.alloc (.cells (zs 64) 5)) w.heap.size 5 (cellsL (zn [] 64)) from by rw [← zs_cells]; exact Blk.new w _ _)
  have k0 := Lib.hid (show Below w.heap.size w (w.alloc (.cells (zs 64) 5)) from (Below.refl _ _).alloc (Nat.le_refl _) _)
  clear hl hB e0
  go_enter Try.func40, Try.ntmps40
  go_wp2_with fail
  refine (put_zn w.heap.size [] 0 64 gen 0 _ b0.out rfl rfl (by omega) rfl).mono ?_
  rintro e w2 ⟨rfl, hb2, ho2⟩
  have b2 := Lib.hid hb2
  have k2 := Lib.hid (k0.out.trans (ho2.below (Nat.le_refl _) k0.out.size))
  clear hb2 ho2
  go_wp2_with fail
  refine (put_zn w.heap.size ([] ++ numL gen 4) 4 60 n 4 _ b2.out (by simp [numL_length]) rfl (by omega) rfl).mono ?_
  rintro e w3 ⟨rfl, hb3, ho3⟩
  have b3 := Lib.hid hb3
  have k3 := Lib.hid (k2.out.trans (ho3.below (Nat.le_refl _) k2.out.size))
  have hc : w3.cell? ⟨w.heap.size, 8, none⟩ = some (.int .u8 0) := by rw [hb3.cell]; rfl
  have hf := hb3.frozen 8
  clear hb3 ho3
  have b4 := Lib.hid (show Blk (w3.setCell ⟨w.heap.size, 8, none⟩ (.int .u8 (l : Int))) w.heap.size 5 (cellsL (zn ([] ++ numL gen 4 ++ numL n 4 ++ [l]) 55)) from by
    have h := b3.out.set_ 8 (bv l)
    rw [set_next _ 8 _ l (by simp [numL_length]) (by omega)] at h
    exact h)
  have k4 := Lib.hid (show Below w.heap.size w (w3.setCell ⟨w.heap.size, 8, none⟩ (.int .u8 (l : Int))) from k3.out.setCell (Nat.le_refl _) _)
  have f1 : b.length ≤ 55 := by have := E0.out; omega
  have f2 : 9 + b.length ≤ (cellsL (zn ([] ++ numL gen 4 ++ numL n 4 ++ [l]) 55)).size := by
    rw [cellsL_size]
    simp [zn, numL_length]
    omega
  have F1 := Lib.hid f1
  have F2 := Lib.hid f2
  clear f1 f2
  go_wp2_with (with_reducible refine wpList_copy_bts rfl (.tmp 23) (.tmp 24) 27 27 rfl 5 Try.underlying27 Try.size8 (some ⟨w.heap.size, 9, none⟩) A 55 55 l c rfl rfl w.heap.size 9 (cellsL (zn ([] ++ numL gen 4 ++ numL n 4 ++ [l]) 55)) 5 b4.out b B (HX.out.below (k4.out.mono HB.out)) F1.out (fun _ => rfl) F2.out ?_; intro w5 hb5 ho5)
  have b5 := Lib.hid (show Blk w5 w.heap.size 5 (cellsL (zn (headL gen n b) 4)) from by
    have h := hb5.out
    rw [splice_next _ b 9 55 (by simp [numL_length]) (by have := HL.out; omega), ← E0.out, List.nil_append, headL_zn gen n b HL.out] at h
    exact h)
  have k5 := Lib.hid (k4.out.trans (ho5.out.below (Nat.le_refl _) k4.out.size))
  clear hb5 ho5
  have HS := Lib.hid (Bts.of_whole (g := w.heap.size) (n := 64) (xs := zn (headL gen n b) 4) b5.out (by simp [zn, headL_length gen n b HL.out]) (by simp [maxLen]) (fun y hy => by
    rcases List.mem_append.1 hy with hy | hy
    · exact headL_byte gen n b HL.out HX.out.byte y hy
    · rw [List.eq_of_mem_replicate hy]; omega))
  have kb6 := Lib.hid (show Below w5.heap.size w5 (w5.alloc (.cells #[.slice (some ⟨w.heap.size, 0, none⟩) 60 64] 27)) from (Below.refl _ _).alloc (Nat.le_refl _) _)
  have hs6 := (HS.out.below kb6.out).front 60 (by omega)
  rw [show (zn (headL gen n b) 4).take 60 = headL gen n b from List.take_left' (headL_length gen n b HL.out)] at hs6
  refine (sum_one (w5.alloc (.cells #[.slice (some ⟨w.heap.size, 0, none⟩) 60 64] 27)) w5.heap.size w5.heap.size _ (headL gen n b) (by simp) hs6).mono ?_
  rintro e w6 ⟨rfl, rfl⟩
  have hx := sumM_lt (headL gen n b)
  obtain ⟨x, hxe⟩ : ∃ x, x = sumM (headL gen n b) := ⟨_, rfl⟩
  rw [← hxe] at hx ⊢
  have HXE := Lib.hid hxe
  have c6 : IntKind.u64.wrap (x : Int) = (x : Int) := by rw [IntKind.wrap_u64]; omega
  have b6 := Lib.hid (b5.out.below kb6.out b5.out.lt)
  have k6 := Lib.hid (k5.out.trans (kb6.out.mono k5.out.size))
  clear hs6 hxe
  go_wp2_with fail
  refine (put_zn w.heap.size (headL gen n b) 60 4 x 60 _ b6.out (headL_length gen n b HL.out) rfl (by omega) rfl).mono ?_
  rintro e w7 ⟨rfl, hb7, ho7⟩
  have b7 := Lib.hid hb7
  have k7 := Lib.hid (k6.out.trans (ho7.below (Nat.le_refl _) k6.out.size))
  clear hb7 ho7
  go_wp2
  go_ret
  refine ⟨rfl, ?_, k7.out⟩
  have h := b7.out
  rw [HXE.out] at h
  simpa [zn, cellsL, secL] using h
end Go.Proofs.Ytckabekimdcdcaa

/-
  The contract of disk's Crash: of the loose sectors those whose bit is set are sure, the last one of them in part; nothing is loose, and there is no trouble.
  Conditions: the disk is known whole.
-/
import Derived.Test.YtckabekimdcdcaaDiskG
import Derived.Test.YtckabekimdcdcaaCutCopy
namespace Go.Proofs.Ytckabekimdcdcaa
open Go.RowKit
set_option linter.unusedVariables false

/-- The sure sectors behind the first m of those that are kept. -/
def crashN (S : Nat → List Nat) (L : Nat → Option (List Nat)) (ks : List Nat) (tn : Nat) : Nat → Nat → List Nat
  | 0 => S
  | m + 1 => upd (crashN S L ks tn m) (ks.getD m 0) (over (crashN S L ks tn m (ks.getD m 0)) 0 (((L (ks.getD m 0)).getD zer).take (if m + 1 = ks.length then tn else 64)))
def crashL (S : Nat → List Nat) (L : Nat → Option (List Nat)) (ks : List Nat) (tn : Nat) : Nat → List Nat := crashN S L ks tn ks.length
/-- As near to that as 0 to 64 allow. -/
def Near64 (k : Int) (n : Nat) : Prop := (k ≤ 0 ∧ n = 0) ∨ (64 ≤ k ∧ n = 64) ∨ (0 ≤ k ∧ k ≤ 64 ∧ k = n)

set_option maxRecDepth 20000 in
set_option maxHeartbeats 400000 in
theorem dcrash_nil (K T : Int) (w : World) :
    Calls Try.prog 13 #[.pointer none, .int .u64 K, .int .i64 T] w fun e w' => e = .returned (.tuple #[]) ∧ w = w' := by
  go_enter Try.func13, Try.ntmps13
  go_wp2
  (try simp only [Exit.inBlock, Exit.then])
  refine bodyPost_ret (results_none rfl _ _ _) rfl ?_
  exact ⟨rfl, rfl⟩

section
variable {w w' : World} {gD gS gM n : Nat} {S : Nat → List Nat} {L : Nat → Option (List Nat)} {t : Tr}
theorem Dsk.get (h : Dsk w gD gS gM n S L t) {f : Nat} (hf : f < n) {xs : List Nat} (hx : L f = some xs) :
    (Instr.lookup 58 (.map (some gM)) (.int .i64 (f : Int)) false).run Try.prog w = .ok (secV xs) w := by
  have := h.2.2.2.2.1.run_get Try.underlying3 Try.underlying58 (Try.zeroSecV w) f (by have := h.few; omega)
  rw [hx] at this
  exact this
theorem Dsk.sure_ (h : Dsk w gD gS gM n S L t) {S' : Nat → List Nat} (hs : Sec w' gS n S') (ho : Only gS w w') : Dsk w' gD gS gM n S' L t :=
  ⟨ho.blk h.1 h.ne.1, h.2.1, h.2.2.1, hs, h.2.2.2.2.1.far (ho.1.block _ h.lt.2.2 (fun e => h.ne.2.2 (by injection e with e; exact e.symm))), h.2.2.2.2.2⟩
end
theorem slice_to (g o n : Nat) (h : n ≤ 64) (w : World) : (Instr.sliceAt 74 (.pointer (some ⟨g, o, none⟩)) none (some (.int .i64 (n : Int))) none).run Try.prog w = .ok (.slice (some ⟨g, o, none⟩) n 64) w := by
  have hu : Try.prog.underlying 74 = some (.array 64 5) := Try.underlying74
  have hl : Try.prog.arrayLen 74 = 64 := by simp [Program.arrayLen, hu]
  have he : Try.prog.elem 74 = 5 := by simp [Program.elem, hu]
  rw [run_sliceAt_array_h w 74 ⟨g, o, none⟩ (by rw [hl, he]; exact hu) .i64 _ (by omega) (by rw [hl]; omega), he, hl]
  have hs := Try.size8
  cases hq : Try.prog.info? 5 with
  | none => simp [hq] at hs
  | some i =>
    have hi : i.size = 1 := by simpa [hq] using hs
    simp [sizeOf, typeInfo, hq, hi, slicedAt]
    unfold Addr.add
    split <;> simp_all

/-- What holds while they are made sure. -/
def CrashAt (w1 : World) (gD gS gM n : Nat) (S : Nat → List Nat) (L : Nat → Option (List Nat)) (t : Tr) (ks : List Nat) (tn k : Nat) (wr : World) : Prop :=
  Dsk wr gD gS gM n (crashN S L ks tn k) L t ∧ Turns (dk gD gS gM) w1 wr
/-- What Crash leaves. -/
def DCrashPost (w : World) (gD gS gM n : Nat) (S : Nat → List Nat) (L : Nat → Option (List Nat)) (ks : List Nat) (tn : Nat) (e : Ending) (w' : World) : Prop :=
  e = .returned (.tuple #[]) ∧ Dsk w' gD gS gM n (crashL S L ks tn) (fun _ => none) Tr.none_ ∧ Turns (dk gD gS gM) w w'

set_option maxRecDepth 20000 in
set_option maxHeartbeats 2000000 in
theorem dcrash_any (gD gS gM n : Nat) (S : Nat → List Nat) (L : Nat → Option (List Nat)) (t : Tr) (K : Nat) (T : Int) (tn : Nat) (w : World) (h : Dsk w gD gS gM n S L t) (hK : K < 18446744073709551616) (hT : Near64 T tn) :
    Calls Try.prog 13 #[.pointer (some ⟨gD, 0, none⟩), .int .u64 K, .int .i64 T] w (DCrashPost w gD gS gM n S L (keptL (keysL n L) K) tn) := by
  have HK := Lib.hid (dkept_any _ _ _ _ _ _ _ K w h hK)
  have hmem : ∀ j ∈ keptL (keysL n L) K, j < n ∧ (L j).isSome = true := fun j hj => keysL_mem (keptN_mem _ _ _ (Nat.le_refl _) j hj)
  have hlen : (keptL (keysL n L) K).length ≤ 4096 := by
    have h1 := keptN_length (keysL n L) K (keysL n L).length
    have h2 := keysL_length n L
    have h3 := h.few
    unfold keptL
    omega
  obtain ⟨ks, hks⟩ : ∃ ks, ks = keptL (keysL n L) K := ⟨_, rfl⟩
  rw [← hks] at HK hmem hlen ⊢
  have HD := Lib.hid h
  have HMEM := Lib.hid hmem
  have HLEN := Lib.hid hlen
  have HT := Lib.hid hT
  clear h hks hK hmem hlen hT
  go_enter Try.func13, Try.ntmps13
  go_wp2_with fail
  refine HK.out.mono ?_
  rintro e w1 ⟨v, rfl, hrow, hbel, -⟩
  have HROW := Lib.hid hrow
  have HBEL := Lib.hid hbel
  have HD1 := Lib.hid (HD.out.fresh hbel)
  clear hbel
  rcases hrow.2 with ⟨hnil, hz⟩ | ⟨g, cap, cur, rfl, hbase, hb, h1, h2, h3, h4⟩
  · obtain rfl : ks = [] := List.eq_nil_of_length_eq_zero hz
    subst hnil
    clear hrow hz
    go_wp2_with fail
    have HST := Lib.hid (show CrashAt w1 gD gS gM n S L t [] tn 0 w1 from ⟨HD1.out, Turns.refl _ _⟩)
    go_loopw [18] (fun i wr => i = .int .i64 0 ∧ CrashAt w1 gD gS gM n S L t [] tn 0 wr) (fun _ _ => 0)
    case atStart => exact ⟨rfl, HST.out⟩
    case round =>
      obtain ⟨rfl, hd, ht⟩ := hrel
      have HDR := Lib.hid hd
      have HTU := Lib.hid ht
      clear hd ht
      have c1 : wr.cell? ⟨gD, 1, none⟩ = some (.map (some gM)) := HDR.out.cell 1
      have HDR1 := Lib.hid HDR.out.1
      go_wp2_with (refine wpList_clear_loo rfl (.tmp 51) rfl Try.underlying58 rfl HDR.out.2.2.2.2.1 ?_; intro w9 HL9 HO9; have HB9 := Lib.hid (HO9.out.blk HDR1.out HDR.out.ne.2.1); have c2 : w9.cell? ⟨gD, 2, none⟩ = some (.int .i64 t.good) := HB9.out.cell 2; have c3 : w9.cell? ⟨gD, 3, none⟩ = some (.int .i64 t.failed) := HB9.out.cell 3; have c4 : w9.cell? ⟨gD, 4, none⟩ = some (.bool t.fused) := HB9.out.cell 4; have c5 : w9.cell? ⟨gD, 5, none⟩ = some (.int .i64 t.left) := HB9.out.cell 5; have c6 : w9.cell? ⟨gD, 6, none⟩ = some (.bool t.down) := HB9.out.cell 6; have f2 := HB9.out.frozen 2; have f3 := HB9.out.frozen 3; have f4 := HB9.out.frozen 4; have f5 := HB9.out.frozen 5; have f6 := HB9.out.frozen 6)
      go_end0
      have HO8 : Only gD w9 (((((w9.setCell ⟨gD, 2, none⟩ (.int .i64 0)).setCell ⟨gD, 3, none⟩ (.int .i64 0)).setCell ⟨gD, 4, none⟩ (.bool false)).setCell ⟨gD, 5, none⟩ (.int .i64 0)).setCell ⟨gD, 6, none⟩ (.bool false)) :=
        (((((Only.refl _ _).setCell _ _).setCell _ _).setCell _ _).setCell _ _).setCell _ _
      have hne := HDR.out.ne
      refine ⟨rfl, ⟨((((HB9.out.set_ 2 (.int .i64 0)).set_ 3 (.int .i64 0)).set_ 4 (.bool false)).set_ 5 (.int .i64 0)).set_ 6 (.bool false), Tr.none_ok, HDR.out.few, ?_, ?_, fun j xs h => by cases h⟩, ?_⟩
      · refine (HDR.out.2.2.2.1.far (HO9.out.1.block _ HDR.out.lt.2.1 (fun e => hne.2.2 (by injection e)))).far (HO8.1.block _ ?_ (fun e => hne.1 (by injection e with e; exact e.symm)))
        rw [HO9.out.2]
        exact HDR.out.lt.2.1
      · exact HL9.out.far (HO8.1.block _ HL9.out.blk (fun e => hne.2.1 (by injection e with e; exact e.symm)))
      · exact (((Turns.of_below HBEL.out (Nat.le_refl _)).trans HTU.out).trans (Turns.of_only HO9.out (.inr (.inr rfl)))).trans (Turns.of_only HO8 (.inl rfl))
  · clear hbase hb h1 h2 h3 h4 cur hrow
    have HG := Lib.hid (show g < w1.heap.size ∧ w.heap.size ≤ g from ⟨(HROW.out.lt g rfl).2, (HROW.out.lt g rfl).1⟩)
    go_wp2_with fail
    have HST := Lib.hid (show CrashAt w1 gD gS gM n S L t ks tn 0 w1 from ⟨HD1.out, Turns.refl _ _⟩)
    go_loopw [18] (fun i wr => ∃ k : Nat, k ≤ ks.length ∧ i = .int .i64 k ∧ CrashAt w1 gD gS gM n S L t ks tn k wr) (fun i _ => ks.length - (intOf i).toNat)
    case atStart => exact ⟨0, Nat.zero_le _, rfl, HST.out⟩
    case round =>
      obtain ⟨k, hk, rfl, hd, ht⟩ := hrel
      have HDR := Lib.hid hd
      have HTU := Lib.hid ht
      have hlen := HLEN.out
      clear hd ht
      by_cases hlt : k < ks.length
      · obtain ⟨x, hx⟩ : ∃ x, x = ks.getD k 0 := ⟨_, rfl⟩
        have hxm : x ∈ ks := by
          rw [hx]
          simp [hlt]
        obtain ⟨hxn, hxs⟩ := HMEM.out x hxm
        obtain ⟨ys, hys⟩ := Option.isSome_iff_exists.1 hxs
        obtain ⟨hy1, hy2, _⟩ := HD1.out.loose_ hys
        have HY1 := Lib.hid hy1
        have HY2 := Lib.hid hy2
        have HYS := Lib.hid hys
        have HX := Lib.hid hx
        have hgn : ¬ dk gD gS gM g := by
          rintro (e | e | e) <;> (have h7 := HD.out.lt; have h8 := HG.out.2; omega)
        have hcell : wr.cell? ⟨g, k, none⟩ = some (.int .i64 (x : Int)) := by
          rw [World.cell?_of_block (HTU.out.block g HG.out.1 hgn), HROW.out.cellAt k (by omega), hx]
          simp [hlt]
        have hget := HDR.out.get hxn hys
        have c1 : wr.cell? ⟨gD, 1, none⟩ = some (.map (some gM)) := HDR.out.cell 1
        clear hx hxm hxs hys hy1 hy2 hgn
        have t1 : (k : Int) < (ks.length : Int) := by omega
        have t2 : (0 : Int) ≤ (k : Int) := by omega
        have t3 : decide ((k : Int) < (ks.length : Int)) = true := decide_eq_true t1
        have w3 : IntKind.i64.wrap ((k : Int) + 1) = ((k + 1 : Nat) : Int) := by rw [IntKind.wrap_i64]; omega
        have w4 : IntKind.i64.wrap ((ks.length : Int) - 1) = ((ks.length : Int) - 1) := by rw [IntKind.wrap_i64]; omega
        have t7 : (x : Int) < (n : Int) := by omega
        have t8 : (0 : Int) ≤ (x : Int) := by omega
        have hz := Try.zeroSec
        by_cases hlast : k + 1 = ks.length
        · have t4 : ((k : Int) == (ks.length : Int) - 1) = true := by rw [beq_iff_eq]; omega
          have htn : tn ≤ 64 ∧ min (max T 0) 64 = (tn : Int) := by
            have := HT.out
            unfold Near64 at this
            omega
          have hmn := htn.2
          have HTN := Lib.hid htn.1
          have HSL := Lib.hid (show (if k + 1 = ks.length then tn else 64) = tn from if_pos hlast)
          have hsl := fun w => slice_to gS (x * 64) tn htn.1 w
          clear hlast htn
          go_wp2_with (refine wpList_store_blk rfl 74 (.tmp 10) (.tmp 36) rfl wr.heap.size 74 (zs 64) ys (Blk.new wr _ _) rfl rfl (by rw [HY1.out]; exact zs_size 64) (by rw [HY1.out]; exact Try.sizeSec) ?_; intro w4 HB4 HO4)
          have hb4 : Below wr.heap.size wr w4 := ((Below.refl _ _).alloc (Nat.le_refl _) _).trans (HO4.out.below (Nat.le_refl _) (by simp))
          have HBB := Lib.hid hb4
          have HD4 := Lib.hid (HDR.out.fresh hb4)
          have HX4 := Lib.hid (Bts.of_whole HB4.out HY1.out (by simp [maxLen]) HY2.out)
          have c0 : w4.cell? ⟨gD, 0, none⟩ = some (.slice (some ⟨gS, 0, none⟩) n n) := HD4.out.cell 0
          obtain ⟨cur, hcur, hcs⟩ : ∃ cur, Blk w4 gS 74 cur ∧ cur.size = n * 64 := by
            obtain ⟨_, _, _, ⟨cur, h2, h3, _⟩, _⟩ := HD4.out
            exact ⟨cur, h2, h3⟩
          have HCUR := Lib.hid hcur
          have Htn := Lib.hid hcs
          clear hb4 hcur hcs
          have hgS : gS ≠ gD := fun e => HDR.out.ne.1 e.symm
          have HGS := Lib.hid hgS
          clear hgS
          go_region_held3 (fun w' => w'.cell? ⟨gD, 0, none⟩ = some (.slice (some ⟨gS, 0, none⟩) n n)) (first | go_keep | (rw [(HO5.out.blk HD4.out.drew.1 HDR.out.ne.1).cell]; rfl))
            ((refine step_copy_cut (by rfl) (.tmp 44) (.tmp 45) 27 27 (by rfl) 5 Try.underlying27 Try.size8 _ tn 64 64 64 gS (x * 64) (by rfl) (by rfl) cur 74 HCUR.out ys _ HX4.out (by rw [HY1.out]; exact HTN.out) (by have := HTN.out; rw [Htn.out]; omega) ?_; intro w5 HB5 HO5))
          go_wp2_with fail
          have hS5 : Sec w5 gS n (crashN S L ks tn (k + 1)) := by
            show Sec w5 gS n (upd (crashN S L ks tn k) (ks.getD k 0) (over (crashN S L ks tn k (ks.getD k 0)) 0 (((L (ks.getD k 0)).getD zer).take (if k + 1 = ks.length then tn else 64))))
            rw [← HX.out, HYS.out, HSL.out]
            refine HD4.out.2.2.2.1.bytes (w' := w5) (ys := ys.take tn) hxn (by rw [List.length_take]; omega) (fun y hy => HY2.out y (List.mem_of_mem_take hy)) (fun cur2 h2 hs2 => ?_)
            obtain rfl := Blk.uniq h2 HCUR.out
            exact ⟨_, HB5.out, Over.splice_ (by simpa using hs2)⟩
          refine ⟨⟨k + 1, by omega, by rw [Int.natCast_add]; rfl, HD4.out.drew.sure_ hS5 HO5.out, ((HTU.out.trans (Turns.of_below HBB.out (Nat.le_refl _))).drew).trans (Turns.of_only HO5.out (.inr (.inl rfl)))⟩, ?_⟩
          simp [intOf]
          omega
        · have t4 : ((k : Int) == (ks.length : Int) - 1) = false := by rw [beq_eq_false_iff_ne]; omega
          have HTN := Lib.hid (Nat.le_refl 64)
          have HSL := Lib.hid (show (if k + 1 = ks.length then tn else 64) = 64 from if_neg hlast)
          have hsl : ∀ w, (Instr.sliceAt 74 (.pointer (some ⟨gS, x * 64, none⟩)) none (some (.int .i64 64)) none).run Try.prog w = .ok (.slice (some ⟨gS, x * 64, none⟩) 64 64) w := fun w => slice_to gS (x * 64) 64 (Nat.le_refl _) w
          clear hlast
          go_wp2_with (refine wpList_store_blk rfl 74 (.tmp 10) (.tmp 36) rfl wr.heap.size 74 (zs 64) ys (Blk.new wr _ _) rfl rfl (by rw [HY1.out]; exact zs_size 64) (by rw [HY1.out]; exact Try.sizeSec) ?_; intro w4 HB4 HO4)
          have hb4 : Below wr.heap.size wr w4 := ((Below.refl _ _).alloc (Nat.le_refl _) _).trans (HO4.out.below (Nat.le_refl _) (by simp))
          have HBB := Lib.hid hb4
          have HD4 := Lib.hid (HDR.out.fresh hb4)
          have HX4 := Lib.hid (Bts.of_whole HB4.out HY1.out (by simp [maxLen]) HY2.out)
          have c0 : w4.cell? ⟨gD, 0, none⟩ = some (.slice (some ⟨gS, 0, none⟩) n n) := HD4.out.cell 0
          obtain ⟨cur, hcur, hcs⟩ : ∃ cur, Blk w4 gS 74 cur ∧ cur.size = n * 64 := by
            obtain ⟨_, _, _, ⟨cur, h2, h3, _⟩, _⟩ := HD4.out
            exact ⟨cur, h2, h3⟩
          have HCUR := Lib.hid hcur
          have H64 := Lib.hid hcs
          clear hb4 hcur hcs
          have hgS : gS ≠ gD := fun e => HDR.out.ne.1 e.symm
          have HGS := Lib.hid hgS
          clear hgS
          go_region_held3 (fun w' => w'.cell? ⟨gD, 0, none⟩ = some (.slice (some ⟨gS, 0, none⟩) n n)) (first | go_keep | (rw [(HO5.out.blk HD4.out.drew.1 HDR.out.ne.1).cell]; rfl))
            ((refine step_copy_cut (by rfl) (.tmp 44) (.tmp 45) 27 27 (by rfl) 5 Try.underlying27 Try.size8 _ 64 64 64 64 gS (x * 64) (by rfl) (by rfl) cur 74 HCUR.out ys _ HX4.out (by rw [HY1.out]; exact HTN.out) (by have := HTN.out; rw [H64.out]; omega) ?_; intro w5 HB5 HO5))
          go_wp2_with fail
          have hS5 : Sec w5 gS n (crashN S L ks tn (k + 1)) := by
            show Sec w5 gS n (upd (crashN S L ks tn k) (ks.getD k 0) (over (crashN S L ks tn k (ks.getD k 0)) 0 (((L (ks.getD k 0)).getD zer).take (if k + 1 = ks.length then tn else 64))))
            rw [← HX.out, HYS.out, HSL.out]
            refine HD4.out.2.2.2.1.bytes (w' := w5) (ys := ys.take 64) hxn (by rw [List.length_take]; omega) (fun y hy => HY2.out y (List.mem_of_mem_take hy)) (fun cur2 h2 hs2 => ?_)
            obtain rfl := Blk.uniq h2 HCUR.out
            exact ⟨_, HB5.out, Over.splice_ (by simpa using hs2)⟩
          refine ⟨⟨k + 1, by omega, by rw [Int.natCast_add]; rfl, HD4.out.drew.sure_ hS5 HO5.out, ((HTU.out.trans (Turns.of_below HBB.out (Nat.le_refl _))).drew).trans (Turns.of_only HO5.out (.inr (.inl rfl)))⟩, ?_⟩
          simp [intOf]
          omega
      · obtain rfl : k = ks.length := by omega
        have t3 : decide (((ks.length : Nat) : Int) < (ks.length : Int)) = false := decide_eq_false (by omega)
        clear hlt hk
        have c1 : wr.cell? ⟨gD, 1, none⟩ = some (.map (some gM)) := HDR.out.cell 1
        have HDR1 := Lib.hid HDR.out.1
        go_wp2_with (refine wpList_clear_loo rfl (.tmp 51) rfl Try.underlying58 rfl HDR.out.2.2.2.2.1 ?_; intro w9 HL9 HO9; have HB9 := Lib.hid (HO9.out.blk HDR1.out HDR.out.ne.2.1); have c2 : w9.cell? ⟨gD, 2, none⟩ = some (.int .i64 t.good) := HB9.out.cell 2; have c3 : w9.cell? ⟨gD, 3, none⟩ = some (.int .i64 t.failed) := HB9.out.cell 3; have c4 : w9.cell? ⟨gD, 4, none⟩ = some (.bool t.fused) := HB9.out.cell 4; have c5 : w9.cell? ⟨gD, 5, none⟩ = some (.int .i64 t.left) := HB9.out.cell 5; have c6 : w9.cell? ⟨gD, 6, none⟩ = some (.bool t.down) := HB9.out.cell 6; have f2 := HB9.out.frozen 2; have f3 := HB9.out.frozen 3; have f4 := HB9.out.frozen 4; have f5 := HB9.out.frozen 5; have f6 := HB9.out.frozen 6)
        go_end0
        have HO8 : Only gD w9 (((((w9.setCell ⟨gD, 2, none⟩ (.int .i64 0)).setCell ⟨gD, 3, none⟩ (.int .i64 0)).setCell ⟨gD, 4, none⟩ (.bool false)).setCell ⟨gD, 5, none⟩ (.int .i64 0)).setCell ⟨gD, 6, none⟩ (.bool false)) :=
          (((((Only.refl _ _).setCell _ _).setCell _ _).setCell _ _).setCell _ _).setCell _ _
        have hne := HDR.out.ne
        refine ⟨rfl, ⟨((((HB9.out.set_ 2 (.int .i64 0)).set_ 3 (.int .i64 0)).set_ 4 (.bool false)).set_ 5 (.int .i64 0)).set_ 6 (.bool false), Tr.none_ok, HDR.out.few, ?_, ?_, fun j xs h => by cases h⟩, ?_⟩
        · refine (HDR.out.2.2.2.1.far (HO9.out.1.block _ HDR.out.lt.2.1 (fun e => hne.2.2 (by injection e)))).far (HO8.1.block _ ?_ (fun e => hne.1 (by injection e with e; exact e.symm)))
          rw [HO9.out.2]
          exact HDR.out.lt.2.1
        · exact HL9.out.far (HO8.1.block _ HL9.out.blk (fun e => hne.2.1 (by injection e with e; exact e.symm)))
        · exact (((Turns.of_below HBEL.out (Nat.le_refl _)).trans HTU.out).trans (Turns.of_only HO9.out (.inr (.inr rfl)))).trans (Turns.of_only HO8 (.inl rfl))

end Go.Proofs.Ytckabekimdcdcaa

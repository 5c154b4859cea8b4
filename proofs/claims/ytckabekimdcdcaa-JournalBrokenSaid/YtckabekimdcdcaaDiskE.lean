/-
  The contract of disk's Flush.
  Conditions: the disk is known whole.
-/
import Derived.Test.YtckabekimdcdcaaDiskD
import Derived.Test.YtckabekimdcdcaaRan
namespace Go.Proofs.Ytckabekimdcdcaa
open Go.RowKit
set_option linter.unusedVariables false

section
variable {w w' : World} {gS n : Nat} {S S' : Nat → List Nat}
theorem Sec.congr_ (h : Sec w gS n S) (he : ∀ f, f < n → S' f = S f) : Sec w gS n S' := by
  obtain ⟨cur, h1, h2, h3⟩ := h
  exact ⟨cur, h1, h2, fun f hf => by rw [he f hf]; exact h3 f hf⟩
theorem Sec.there_ (h : Sec w gS n S) {f : Nat} (hf : f < n) : w.there gS (f * 64) 64 := by
  obtain ⟨cur, h2, h3, h4⟩ := h
  intro j hj
  obtain ⟨b1, b2, b3⟩ := h4 f hf
  exact ⟨by rw [h2.cell, b3 j hj]; rfl, h2.frozen _⟩
theorem Sec.bytes (h : Sec w gS n S) {f : Nat} {ys : List Nat} (hf : f < n) (ha : ys.length ≤ 64) (hy : ∀ y ∈ ys, y < 256)
    (hx : ∀ cur, Blk w gS 74 cur → f * 64 + ys.length ≤ cur.size → ∃ cur', Blk w' gS 74 cur' ∧ Over cur cur' (f * 64) (ys.map bv)) : Sec w' gS n (upd S f (over (S f) 0 ys)) := by
  obtain ⟨cur, h2, h3, h5⟩ := h
  obtain ⟨cur', k1, k2, k3⟩ := hx cur h2 (by omega)
  refine ⟨cur', k1, by omega, fun k hk => ?_⟩
  obtain ⟨b1, b2, b3⟩ := h5 k hk
  simp only [List.length_map] at k3
  by_cases e : k = f
  · subst e
    rw [upd_same]
    have hov := over_getD (S k) 0 ys (by omega)
    refine ⟨by rw [over_length _ _ _ (by omega), b1], fun y hy' => ?_, fun i hi => ?_⟩
    · simp only [Proofs.Ytckabekimdcdcaa.over, List.mem_append] at hy'
      rcases hy' with hy' | hy' | hy'
      · exact b2 y (List.mem_of_mem_take hy')
      · exact hy y hy'
      · exact b2 y (List.mem_of_mem_drop hy')
    · rw [k3, hov]
      by_cases c : i < ys.length
      · rw [if_pos (by omega), if_pos (by omega), show k * 64 + i - k * 64 = i - 0 by omega]
        have hj : i - 0 < ys.length := by omega
        simp only [Nat.sub_zero] at *
        simp [hj]
      · rw [if_neg (by omega), if_neg (by omega)]
        exact b3 i hi
  · rw [upd_other S f _ e]
    refine ⟨b1, b2, fun i hi => ?_⟩
    rw [k3, if_neg (by omega)]
    exact b3 i hi
theorem Sec.cells (h : Sec w gS n S) {f : Nat} {ys : List Nat} (hf : f < n) (hl : ys.length = 64) (hy : ∀ y ∈ ys, y < 256) : Sec (w.setCells gS (f * 64) (ys.map bv)) gS n (upd S f ys) := by
  have h1 := h.bytes (ys := ys) hf (by omega) hy (fun cur hc hs => Blk.setCells (ys.map bv) (f * 64) hc (by simpa using hs))
  obtain ⟨cur, _, _, h5⟩ := h
  rw [over_all _ _ (by rw [(h5 f hf).1, hl])] at h1
  exact h1
theorem Sec.drew (h : Sec w gS n S) : Sec w.drew gS n S := h
end

set_option maxRecDepth 20000 in
set_option maxHeartbeats 400000 in
theorem dflush_nil (w : World) :
    Calls Try.prog 37 #[.pointer none] w fun e w' => e = .returned (.int .i64 1) ∧ w = w' := by
  go_enter Try.func37, Try.ntmps37
  go_wp2
  go_ret
  exact ⟨rfl, rfl⟩
set_option maxRecDepth 20000 in
set_option maxHeartbeats 400000 in
theorem dflush_bad (gD gS gM n : Nat) (S : Nat → List Nat) (L : Nat → Option (List Nat)) (t : Tr) (w : World) (h : Dsk w gD gS gM n S L t) (ha : t.ans ≠ 0) :
    Calls Try.prog 37 #[.pointer (some ⟨gD, 0, none⟩)] w (DErrPost w gD gS gM n S L t (.int .i64 t.ans)) := by
  have HD := Lib.hid h
  clear h
  have t1 : (((t.ans : Nat) : Int) != 0) = true := by rw [bne_iff_ne]; omega
  go_enter Try.func37, Try.ntmps37
  go_wp2_with fail
  refine (work_any gD gS gM n t _ HD.out.1 HD.out.2.1).mono ?_
  rintro e w1 ⟨rfl, hb, ho⟩
  have HD1 := Lib.hid (HD.out.worked hb ho)
  have HO := Lib.hid ho
  clear hb ho
  go_wp2
  go_ret
  exact ⟨rfl, HD1.out, Turns.of_only HO.out (.inl rfl), HO.out.2⟩

/-- The sectors while they are made sure. -/
def half (S : Nat → List Nat) (L : Nat → Option (List Nat)) (left : Nat → Bool) (f : Nat) : List Nat := if left f = true then S f else last S L f
theorem half_start (S : Nat → List Nat) (L : Nat → Option (List Nat)) (f : Nat) : half S L (fun j => (L j).isSome) f = S f := by
  show (if (L f).isSome = true then S f else (L f).getD (S f)) = S f
  cases L f <;> simp
theorem half_end (S : Nat → List Nat) (L : Nat → Option (List Nat)) {left : Nat → Bool} (h : ∀ j, left j = false) (f : Nat) : half S L left f = last S L f := by
  unfold half
  rw [h f]
  rfl
theorem half_step (S : Nat → List Nat) (L : Nat → Option (List Nat)) (left : Nat → Bool) {j : Nat} {xs : List Nat} (hL : L j = some xs) (f : Nat) : half S L (fun i => left i && !(i == j)) f = upd (half S L left) j xs f := by
  by_cases e : f = j
  · subst e
    rw [upd_same]
    unfold half last
    simp [hL]
  · rw [upd_other _ _ _ e]
    unfold half
    simp [e]
/-- What the region that lays a sector in reads and writes stands behind its store, too. -/
theorem lay_keeps (gD gS gb f : Nat) (u : Value) (cs : List Value) (h1 : gD ≠ gS) (h2 : gb ≠ gS) (W : World) (k1 : W.cell? ⟨gD, 0, none⟩ = some u) (k2 : W.rangeAt gb 0 cs) (k3 : W.there gS (f * 64) 64) :
    (W.setCells gS (f * 64) cs).cell? ⟨gD, 0, none⟩ = some u ∧ (W.setCells gS (f * 64) cs).rangeAt gb 0 cs ∧ (W.setCells gS (f * 64) cs).there gS (f * 64) 64 := by
  refine ⟨?_, World.rangeAt_setCells_apart k2 _ _ _ (Or.inl h2), World.there_setCells k3 _ _ _⟩
  rw [World.cell?_setCells_out _ _ _ _ _ (fun e _ => absurd e h1), k1]
/-- What holds while the sectors are made sure. -/
def FlushAt (w : World) (gD gS gM n r : Nat) (S : Nat → List Nat) (L : Nat → Option (List Nat)) (t : Tr) (wr : World) : Prop :=
  ∃ left cnt, Sec wr gS n (half S L left) ∧ Ran Try.prog 3 wr gM r n L left cnt ∧ Blk wr gD 62 (dskV gS gM n t) ∧ Turns (dk gD gS gM) w wr
/-- What Flush leaves. -/
def DFlushPost (w : World) (gD gS gM n : Nat) (S : Nat → List Nat) (L : Nat → Option (List Nat)) (t : Tr) (e : Ending) (w' : World) : Prop :=
  e = .returned (.int .i64 0) ∧ Dsk w' gD gS gM n (last S L) (fun _ => none) t ∧ Turns (dk gD gS gM) w w'

set_option maxRecDepth 20000 in
set_option maxHeartbeats 800000 in
theorem dflush_yes (gD gS gM n : Nat) (S : Nat → List Nat) (L : Nat → Option (List Nat)) (t : Tr) (w : World) (h : Dsk w gD gS gM n S L t) (ha : t.ans = 0) :
    Calls Try.prog 37 #[.pointer (some ⟨gD, 0, none⟩)] w (DFlushPost w gD gS gM n S L t.next) := by
  have HD := Lib.hid h
  clear h
  go_enter Try.func37, Try.ntmps37
  go_wp2_with fail
  refine (work_any gD gS gM n t _ HD.out.1 HD.out.2.1).mono ?_
  rintro e w1 ⟨rfl, hb, ho⟩
  rw [ha]
  have HD1 := Lib.hid (HD.out.worked hb ho)
  have HO := Lib.hid ho
  clear hb ho
  have c1 : w1.cell? ⟨gD, 1, none⟩ = some (.map (some gM)) := HD1.out.cell 1
  go_wp2_with (refine wpList_range_loo rfl (.tmp 18) rfl Try.underlying3 Try.underlying58 rfl HD1.out.2.2.2.2.1 ?_; intro w2 cnt2 hcn HR2 HB2 HS2)
  go_frame
  clear c1
  have HST := Lib.hid (show FlushAt w gD gS gM n w1.heap.size S L t.next w2 from ⟨_, cnt2, (HD1.out.2.2.2.1.far (HB2.out.block _ HD1.out.lt.2.1)).congr_ (fun f hf => half_start S L f), HR2.out, HD1.out.1.below HB2.out HD1.out.lt.1, (Turns.of_only HO.out (.inl rfl)).trans (Turns.of_below HB2.out (Nat.le_refl _))⟩)
  clear hcn
  go_loopw [4] (fun _ wr => FlushAt w gD gS gM n w1.heap.size S L t.next wr) (fun _ wr => wr.rangeLeft gM w1.heap.size)
  case atStart => exact HST.out
  case round =>
    obtain ⟨left, cnt, hs, hr, hd, ht⟩ := hrel
    have HSE := Lib.hid hs
    have HRA := Lib.hid hr
    have HDI := Lib.hid hd
    have HTU := Lib.hid ht
    clear hs hr hd ht
    go_wp2_with (refine wpList_next_loo rfl (.tmp 19) rfl Try.underlying3 rfl HRA.out ?_ ?_)
    · intro hl0
      have c1 : wr.cell? ⟨gD, 1, none⟩ = some (.map (some gM)) := HDI.out.cell 1
      go_wp2_with (refine wpList_clear_loo rfl (.tmp 35) rfl Try.underlying58 rfl HRA.out.loo ?_; intro w9 HL9 HO9)
      go_ret
      have k9 : Turns (dk gD gS gM) w w9 := HTU.out.trans (Turns.of_only HO9.out (.inr (.inr rfl)))
      refine ⟨rfl, ⟨HO9.out.blk HDI.out HD1.out.ne.2.1, HD1.out.2.1, HD1.out.2.2.1, (HSE.out.far (HO9.out.1.block _ HSE.out.lt (fun e => HD1.out.ne.2.2 (by injection e)))).congr_ (fun f hf => (half_end S L hl0 f).symm), HL9.out, fun j xs h => by cases h⟩, k9⟩
    · intro j xs w3 cnt3 hj hlj hL HR3 hlt HO3 hen
      obtain ⟨hy1, hy2, _⟩ := HD1.out.loose_ hL
      have HY1 := Lib.hid hy1
      have HY2 := Lib.hid hy2
      have HLJ := Lib.hid hlj
      have HLL := Lib.hid hL
      have HLT := Lib.hid hlt
      clear hy1 hy2 hlj hL hlt
      have hgr : w1.heap.size ≠ gD ∧ w1.heap.size ≠ gS := by have := HD1.out.lt; omega
      have HG := Lib.hid hgr
      clear hgr
      have HS3 := Lib.hid (HSE.out.far (HO3.out.1.block _ HSE.out.lt (fun e => HG.out.2 (by injection e with e; exact e.symm))))
      have HD3 := Lib.hid (HO3.out.blk HDI.out (fun e => HG.out.1 e.symm))
      have hz := Try.zeroSec
      go_wp2_with (refine wpList_store_blk rfl 74 (.tmp 5) (.tmp 24) rfl w3.heap.size 74 (zs 64) xs (Blk.new w3 _ _) rfl rfl (by rw [HY1.out]; exact zs_size 64) (by rw [HY1.out]; exact Try.sizeSec) ?_; intro w4 HB4 HO4)
      have hb4 : Below w3.heap.size w3 w4 := ((Below.refl _ _).alloc (Nat.le_refl _) _).trans (HO4.out.below (Nat.le_refl _) (by simp))
      have HBB := Lib.hid hb4
      have HS4 := Lib.hid (HS3.out.far (hb4.block _ HS3.out.lt))
      have HD4 := Lib.hid (HD3.out.below hb4 HD3.out.lt)
      have c0 : w4.cell? ⟨gD, 0, none⟩ = some (.slice (some ⟨gS, 0, none⟩) n n) := HD4.out.cell 0
      have hr4 : w4.rangeAt w3.heap.size 0 (xs.map bv) := HB4.out.range_
      have hth : w4.there gS (j * 64) 64 := HS4.out.there_ hj
      obtain ⟨cs, hcs⟩ : ∃ cs, cs = xs.map bv := ⟨_, rfl⟩
      have hl : cs.length = 64 := by rw [hcs, List.length_map, HY1.out]
      have h1 : ∀ u ∈ cs, u.oneCell' = true := by rw [hcs]; exact map_bv_one xs
      have HCS := Lib.hid hcs
      rw [← hcs] at hr4
      have HK := Lib.hid (lay_keeps gD gS w3.heap.size j (.slice (some ⟨gS, 0, none⟩) n n) cs HD1.out.ne.1 (by have := HS3.out.lt; omega))
      clear hcs hb4
      have hu := Try.underlying74
      have hi : (Try.prog.info? 74).map (·.size) = some cs.length := by rw [Try.sizeSec, hl]
      have t7 : (j : Int) < (n : Int) := by omega
      have t8 : (0 : Int) ≤ (j : Int) := by omega
      go_region_held3 (fun w' => w'.cell? ⟨gD, 0, none⟩ = some (.slice (some ⟨gS, 0, none⟩) n n) ∧ w'.rangeAt w3.heap.size 0 cs ∧ w'.there gS (j * 64) 64) (first | (go_split_ands; refine HK.out _ ?_ ?_ ?_ <;> first | assumption | (simp only [World.rangeAt_drew, World.there_drew, World.cell?_drew]; assumption)) | go_keep_ranges) (fail)
      have HO5 := Lib.hid (show Only gS w4 (w4.drew.setCells gS (j * 64) cs) from Only.setCells _ _ (Only.refl _ _).drew)
      have HR5 := Lib.hid (HR3.out.far (w' := w4.drew.setCells gS (j * 64) cs) ((HO5.out.1.block _ (Nat.lt_of_lt_of_le HR3.out.loo.blk HBB.out.size) (fun e => HD1.out.ne.2.2 (by injection e with e; exact e.symm))).trans (HBB.out.block _ HR3.out.loo.blk))
        ((HO5.out.1.block _ (Nat.lt_of_lt_of_le HR3.out.lt HBB.out.size) (fun e => HG.out.2 (by injection e))).trans (HBB.out.block _ HR3.out.lt)))
      have HS5 := Lib.hid (show Sec (w4.drew.setCells gS (j * 64) cs) gS n (half S L (fun i => left i && !(i == j))) from by
        rw [HCS.out]
        exact (HS4.out.drew.cells hj HY1.out HY2.out).congr_ (fun f _ => half_step S L left HLL.out f))
      have k3 : Turns (dk gD gS gM) w w3 := HTU.out.new_ HO3.out (by rw [HO.out.2]; exact Nat.le_refl _)
      have k5 : Turns (dk gD gS gM) w (w4.drew.setCells gS (j * 64) cs) := (k3.trans (Turns.of_below HBB.out (Nat.le_refl _))).trans (Turns.of_only HO5.out (.inr (.inl rfl)))
      have HK5 := Lib.hid k5
      clear k3 k5
      go_roundw
      case rel => exact ⟨_, _, _, _, _, _, _, _, _, _, _, _, _, _, ⟨_, cnt3, HS5.out, HR5.out, HO5.out.blk HD4.out HD1.out.ne.1, HK5.out⟩, rfl⟩
      case measure =>
        rw [HR5.out.left_eq, HRA.out.left_eq]
        exact HLT.out
end Go.Proofs.Ytckabekimdcdcaa

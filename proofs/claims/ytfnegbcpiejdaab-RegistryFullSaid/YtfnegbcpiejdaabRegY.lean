/-
  The contracts of the registry's change, SetState and AddBad, at any disk, with any trouble.
  Conditions: the registry is in memory, and the journal has what its invariant says; the frames are read in memory that the work does not turn.
-/
import Derived.Test.YtfnegbcpiejdaabRegW
namespace Go.Proofs.Ytfnegbcpiejdaab
open Go.RowKit
set_option linter.unusedVariables false

/-- What a change leaves: it is so, and sure; or it failed. -/
def ChPost (w : World) (gR gB gJ gD gS gM g : Nat) (md nx : MD) (cs : List MD) (t : Tr) (e : Ending) (w' : World) : Prop :=
  ∃ (z g' n' : Nat) (br' : Bool) (md' : MD) (S' : Nat → List Nat) (L' : Nat → Option (List Nat)) (t' : Tr), e = .returned (.int .i64 (z : Int)) ∧ RegX w' gR gB gJ gD gS gM g' n' br' md' S' L' t' ∧ Turns (rk gR gB gJ gD gS gM) w w' ∧ g' ≤ g + 1 ∧
    ((z = 0 ∧ md' = nx ∧ RSure encR decR g' nx n' S' ∧ (L' = fun _ => none) ∧ br' = false) ∨ ((z = 6 ∨ z = 9) ∧ md' = md ∧ ∃ cs', RInv encR decR g' md cs' n' br' S' L' ∧ ∀ c ∈ cs', c ∈ cs ∨ c = nx)) ∧ (t = Tr.none_ → z = 0 ∧ t' = Tr.none_)
set_option maxRecDepth 100000 in
set_option maxHeartbeats 1600000 in
theorem change_any (gR gB gJ gD gS gM g n : Nat) (br : Bool) (md nx : MD) (cs : List MD) (S : Nat → List Nat) (L : Nat → Option (List Nat)) (t : Tr) (v : Value) (x : List Nat) (w : World) (h : RegX w gR gB gJ gD gS gM g n br md S L t) (hi : RInv encR decR g md cs n br S L)
    (hx : StayR (jk gJ gD gS gM) w v x) (hl : x.length ≤ 50) (hd : decX md x = some nx) (hg : g + 2 < 4294967296) :
    Calls Try.prog 40 #[.pointer (some ⟨gR, 0, none⟩), v] w (ChPost w gR gB gJ gD gS gM g md nx cs t) := by
  have WR := Lib.hid (write_any gR gB gJ gD gS gM g n br md nx cs S L t v x w h hi hx hl hd hg)
  have HX := Lib.hid hx
  have HD := Lib.hid hd
  obtain ⟨A, l, c, rfl, -⟩ := hx w (Turns.refl _ _)
  clear h hi hx hl hd
  go_enter Try.func40, Try.ntmps40
  go_wp2_with fail
  refine WR.out.mono ?_
  rintro e w1 ⟨z, g', n', br', S', L', t', rfl, hr1, ht1, hg1, hc1, htt⟩
  have HR1 := Lib.hid hr1
  have HT1 := Lib.hid ht1
  have HG1 := Lib.hid hg1
  have HTT := Lib.hid htt
  clear hr1 ht1 hg1 htt
  have HTK := Lib.hid (HT1.out.mono (M' := rk gR gB gJ gD gS gM) (fun k hk => .inr (.inr hk)))
  by_cases hz : z = 0
  · subst hz
    obtain ⟨hs, hlo, hbr⟩ : RSure encR decR g' nx n' S' ∧ (L' = fun _ => none) ∧ br' = false := by
      rcases hc1 with ⟨_, h1, h2, h3⟩ | ⟨h1, _⟩
      · exact ⟨h1, h2, h3⟩
      · omega
    subst hlo hbr
    have HS := Lib.hid hs
    have TK := Lib.hid (take_any gR gB gJ md nx (.slice A l c) x w1.heap.size w1 HR1.out.reg ((HX.out w1 HT1.out).more HT1.out.size) (Nat.le_refl _) HD.out)
    clear hc1 hs
    go_wp2_with fail
    refine TK.out.mono ?_
    rintro e w2 ⟨rfl, hr2, ht2⟩
    have HR2 := Lib.hid (HR1.out.own_ ht2 hr2)
    have HT2 := Lib.hid (HTK.out.trans (ht2.mono (fun k hk => by rcases hk with e | e; exact .inl e; exact .inr (.inl e))))
    clear hr2 ht2
    go_wp2
    go_ret
    exact ⟨0, g', n', false, nx, S', (fun _ => none), t', rfl, HR2.out, HT2.out, HG1.out, .inl ⟨rfl, rfl, HS.out, rfl, rfl⟩, fun e => ⟨rfl, (HTT.out e).2⟩⟩
  · have t5 : ((z : Int) != 0) = true := by rw [bne_iff_ne]; omega
    have HC := Lib.hid hc1
    have HZ := Lib.hid hz
    clear hc1 hz
    go_wp2
    go_ret
    refine ⟨z, g', n', br', md, S', L', t', rfl, HR1.out, HTK.out, HG1.out, ?_, HTT.out⟩
    rcases HC.out with ⟨h1, _⟩ | ⟨h1, h2⟩
    · exact absurd h1 HZ.out
    · exact .inr ⟨h1, rfl, h2⟩

/-! ### what is asked -/
/-- What is asked: frames. -/
def askB (md : MD) (fs : List Int) : Option MD := if fs.length ≤ 20 ∧ ∀ f ∈ fs, 0 ≤ f ∧ f ≤ 1023 then some (addM md (fs.map Int.toNat)) else none
/-- .. a state. -/
def askS (md : MD) (s v : Int) : Option MD := if 0 ≤ s ∧ s ≤ 31 ∧ 0 ≤ v ∧ v ≤ 3 then some (md.1, md.2.set s.toNat v.toNat) else none
/-- What such a call leaves: refused, nothing more, or a change. -/
def AskPost (w : World) (gR gB gJ gD gS gM g n : Nat) (br : Bool) (md : MD) (cs : List MD) (S : Nat → List Nat) (L : Nat → Option (List Nat)) (t : Tr) (a : Option MD) (e : Ending) (w' : World) : Prop :=
  (∃ z : Nat, e = .returned (.int .i64 (z : Int)) ∧ ((a = none ∧ z = 1) ∨ (a = some md ∧ z = 0)) ∧ RegX w' gR gB gJ gD gS gM g n br md S L t ∧ Turns (rk gR gB gJ gD gS gM) w w') ∨
  ∃ nx, a = some nx ∧ nx ≠ md ∧ ChPost w gR gB gJ gD gS gM g md nx cs t e w'
theorem ChPost.from_ {w w1 w' : World} {gR gB gJ gD gS gM g : Nat} {md nx : MD} {cs : List MD} {t : Tr} {e : Ending} (h : ChPost w1 gR gB gJ gD gS gM g md nx cs t e w') (hb : Below w.heap.size w w1) : ChPost w gR gB gJ gD gS gM g md nx cs t e w' := by
  obtain ⟨z, g', n', br', md', S', L', t', h1, h2, h3, h4⟩ := h
  exact ⟨z, g', n', br', md', S', L', t', h1, h2, (Turns.of_below hb (Nat.le_refl _)).trans h3, h4⟩
theorem set_same (l : List Nat) (k : Nat) : l.set k (l.getD k 0) = l := by
  refine List.ext_getElem (by simp) fun i h1 h2 => ?_
  rw [List.getElem_set]
  split
  · rename_i e; subst e; simp [h2]
  · rfl
set_option maxRecDepth 100000 in
set_option maxHeartbeats 1600000 in
theorem setState_any (gR gB gJ gD gS gM g n : Nat) (br : Bool) (md : MD) (cs : List MD) (S : Nat → List Nat) (L : Nat → Option (List Nat)) (t : Tr) (s v : Int) (w : World) (h : RegX w gR gB gJ gD gS gM g n br md S L t) (hi : RInv encR decR g md cs n br S L) (hg : g + 2 < 4294967296) :
    Calls Try.prog 24 #[.pointer (some ⟨gR, 0, none⟩), .int .i64 s, .int .i64 v] w (AskPost w gR gB gJ gD gS gM g n br md cs S L t (askS md s v)) := by
  have HX := Lib.hid h
  have HI := Lib.hid hi
  have MS := Lib.hid (mayState_any s v)
  by_cases c : 0 ≤ s ∧ s ≤ 31 ∧ 0 ≤ v ∧ v ≤ 3
  · simp only [decide_eq_true c] at MS
    obtain ⟨k, rfl⟩ := Int.eq_ofNat_of_zero_le c.1
    obtain ⟨y, rfl⟩ := Int.eq_ofNat_of_zero_le c.2.2.1
    have hk : k < 32 := by omega
    have hy : y ≤ 3 := by omega
    have ea : askS md (k : Int) (y : Int) = some (md.1, md.2.set k y) := by
      unfold askS
      rw [if_pos c, Int.toNat_natCast, Int.toNat_natCast]
    rw [ea]
    have cS := h.reg.cellS hk
    obtain ⟨old, ho⟩ : ∃ old, old = md.2.getD k 0 := ⟨_, rfl⟩
    rw [← ho] at cS
    have HO := Lib.hid ho
    clear h hi c ho ea
    by_cases he : old = y
    · subst he
      have t3 : ((old : Int) == (old : Int)) = true := by simp
      go_enter Try.func24, Try.ntmps24
      go_wp2_with fail
      refine (MS.out _).mono ?_
      rintro e w1 ⟨rfl, rfl⟩
      go_wp2
      go_ret
      have e2 : (md.1, md.2.set k old) = md := by rw [HO.out, set_same]
      exact .inl ⟨0, rfl, .inr ⟨by rw [e2], rfl⟩, HX.out, Turns.refl _ _⟩
    · have t3 : ((old : Int) == (y : Int)) = false := beq_eq_false_iff_ne.2 (by omega)
      have c5 : IntKind.u8.wrap (k : Int) = (k : Int) := by rw [IntKind.wrap_u8']; omega
      have c6 : IntKind.u8.wrap (y : Int) = (y : Int) := by rw [IntKind.wrap_u8']; omega
      have HNE := Lib.hid (show (md.1, md.2.set k y) ≠ md from fun e => he (by
        have h1 : (md.2.set k y).getD k 0 = md.2.getD k 0 := by rw [show md.2.set k y = md.2 from congrArg Prod.snd e]
        have h2 : k < md.2.length := by rw [HX.out.reg.ok.st]; exact hk
        rw [HO.out, ← h1]
        simp [h2]))
      have HAL := Lib.hid (show Below w.heap.size w (w.alloc (.cells #[.int .u8 3, .int .u8 (k : Int), .int .u8 (y : Int)] 5)) from (Below.refl _ _).alloc (Nat.le_refl _) _)
      have HX1 := Lib.hid (HX.out.fresh HAL.out)
      have HBT := Lib.hid (show Bts (w.alloc (.cells #[.int .u8 3, .int .u8 (k : Int), .int .u8 (y : Int)] 5)) (w.alloc (.cells #[.int .u8 3, .int .u8 (k : Int), .int .u8 (y : Int)] 5)).heap.size (.slice (some ⟨w.heap.size, 0, none⟩) 3 3) (recS k y) from
        Bts.of_whole (xs := recS k y) (Blk.new w _ _) rfl (by simp [maxLen]) (fun z hz => by
          unfold recS at hz
          simp at hz
          omega))
      have CH := Lib.hid (change_any gR gB gJ gD gS gM g n br md (md.1, md.2.set k y) cs S L t _ (recS k y) _ HX1.out HI.out (StayR.of_ HBT.out (fun e => by have := HX.out.jnl.lt _ e; omega)) (by simp [recS]) (decX_recS (by omega) hy) hg)
      clear he
      go_enter Try.func24, Try.ntmps24
      go_wp2_with fail
      refine (MS.out _).mono ?_
      rintro e w1 ⟨rfl, rfl⟩
      go_wp2_with fail
      refine CH.out.mono ?_
      rintro e w2 hp
      obtain ⟨z, g', n', br', md', S', L', t', rfl, hr⟩ := hp
      have HR := Lib.hid (show ChPost _ gR gB gJ gD gS gM g md (md.1, md.2.set k y) cs t (.returned (.int .i64 (z : Int))) w2 from ⟨z, g', n', br', md', S', L', t', rfl, hr⟩)
      clear hr
      go_wp2
      go_ret
      exact .inr ⟨_, rfl, HNE.out, HR.out.from_ HAL.out⟩
  · simp only [decide_eq_false c] at MS
    have ea : askS md s v = none := by unfold askS; rw [if_neg c]
    rw [ea]
    clear h hi c ea
    go_enter Try.func24, Try.ntmps24
    go_wp2_with fail
    refine (MS.out _).mono ?_
    rintro e w1 ⟨rfl, rfl⟩
    go_wp2
    go_ret
    exact .inl ⟨1, rfl, .inl ⟨rfl, rfl⟩, HX.out, Turns.refl _ _⟩

/-! ### AddBad -/
/-- Those that are not bad yet. -/
def newB (md : MD) (fs : List Int) : List Nat := (fs.filter (fun x => !isBad md x)).map Int.toNat
theorem newB_int {md : MD} {fs : List Int} (h : MayBad fs) : fs.filter (fun x => !isBad md x) = natI (newB md fs) := by
  unfold newB natI
  rw [List.map_map]
  have e : (fs.filter (fun x => !isBad md x)).map id = (fs.filter (fun x => !isBad md x)).map ((fun (n : Nat) => (n : Int)) ∘ Int.toNat) := List.map_congr_left fun x hx => by
    have := h.2 x (List.mem_filter.1 hx).1
    show x = ((x.toNat : Nat) : Int)
    omega
  rw [← e, List.map_id]
theorem newB_len {md : MD} {fs : List Int} (h : MayBad fs) : (newB md fs).length ≤ 20 := by
  unfold newB
  rw [List.length_map]
  exact Nat.le_trans (List.length_filter_le _ _) h.1
theorem newB_lo {md : MD} {fs : List Int} (h : MayBad fs) : ∀ f ∈ newB md fs, f ≤ 1023 := by
  intro f hf
  obtain ⟨x, hx, rfl⟩ := List.mem_map.1 hf
  have := h.2 x ((List.mem_filter.1 hx).1)
  omega
theorem newB_add {md : MD} (ok : MdOk md) {fs : List Int} : addM md (newB md fs) = addM md (fs.map Int.toNat) := by
  refine Prod.ext ?_ rfl
  show addB md.1 (newB md fs) = addB md.1 (fs.map Int.toNat)
  refine getD_ext (by rw [addB_length, addB_length]) fun x hx => ?_
  rw [addB_length] at hx
  rw [addB_getD _ _ _ hx, addB_getD _ _ _ hx]
  cases hb : md.1.getD x false with
  | true => rfl
  | false =>
    rw [Bool.false_or, Bool.false_or]
    refine decide_eq_decide.2 ⟨fun hm => ?_, fun hm => ?_⟩
    · obtain ⟨f, hf, rfl⟩ := List.mem_map.1 hm
      exact List.mem_map.2 ⟨f, (List.mem_filter.1 hf).1, rfl⟩
    · obtain ⟨f, hf, rfl⟩ := List.mem_map.1 hm
      refine List.mem_map.2 ⟨f, List.mem_filter.2 ⟨hf, ?_⟩, rfl⟩
      unfold isBad
      rw [hb]
      rfl
theorem newB_none {md : MD} (ok : MdOk md) {fs : List Int} (h : newB md fs = []) : addM md (fs.map Int.toNat) = md := by
  rw [← newB_add ok, h]
  rfl
theorem newB_ne {md : MD} (ok : MdOk md) {fs : List Int} (hm : MayBad fs) (h : newB md fs ≠ []) : addM md (fs.map Int.toNat) ≠ md := by
  obtain ⟨f, hf⟩ := List.exists_mem_of_ne_nil _ h
  intro e
  have h1 := addM_has ok hf (by have := newB_lo hm f hf; omega)
  rw [newB_add ok, e] at h1
  obtain ⟨x, hx, rfl⟩ := List.mem_map.1 hf
  have h2 := (List.mem_filter.1 hx).2
  unfold isBad at h2
  rw [h1] at h2
  cases h2
set_option maxRecDepth 100000 in
set_option maxHeartbeats 1600000 in
theorem addBad_any (gR gB gJ gD gS gM g n : Nat) (br : Bool) (md : MD) (cs : List MD) (S : Nat → List Nat) (L : Nat → Option (List Nat)) (t : Tr) (v : Value) (fs : List Int) (w : World) (h : RegX w gR gB gJ gD gS gM g n br md S L t) (hi : RInv encR decR g md cs n br S L) (hv : Its w w.heap.size v fs) (hg : g + 2 < 4294967296) :
    Calls Try.prog 23 #[.pointer (some ⟨gR, 0, none⟩), v] w (AskPost w gR gB gJ gD gS gM g n br md cs S L t (askB md fs)) := by
  have HX := Lib.hid h
  have HI := Lib.hid hi
  have HV := Lib.hid hv
  have MB := Lib.hid (mayBad_any v fs w hv)
  obtain ⟨A, l, c, rfl, -⟩ := id hv
  clear h hi hv
  by_cases hm : MayBad fs
  · rw [decide_eq_true hm] at MB
    have ea : askB md fs = some (addM md (fs.map Int.toNat)) := by unfold askB; exact if_pos hm
    rw [ea]
    have HM := Lib.hid hm
    clear ea hm
    go_enter Try.func23, Try.ntmps23
    go_wp2_with fail
    refine MB.out.mono ?_
    rintro e w1 ⟨rfl, hb1⟩
    have HB1 := Lib.hid hb1
    have HX1 := Lib.hid (HX.out.fresh hb1)
    have WO := Lib.hid (without_any gR gB gJ md _ fs w1 HX1.out.reg ((HV.out.below hb1).more hb1.size) HM.out)
    clear hb1
    go_wp2_with fail
    refine WO.out.mono ?_
    rintro e w2 ⟨v2, rfl, hv2, hb2⟩
    rw [newB_int HM.out] at hv2
    have HB2 := Lib.hid (HB1.out.trans (hb2.mono HB1.out.size))
    have HX2 := Lib.hid (HX1.out.fresh hb2)
    have HV2 := Lib.hid hv2
    obtain ⟨A2, n2, c2, rfl, hn2, -⟩ := hv2
    rw [natI_length] at hn2
    have HN2 := Lib.hid hn2
    clear hb2 hn2
    by_cases h0 : n2 = 0
    · subst h0
      go_wp2
      go_ret
      have e0 : newB md fs = [] := List.eq_nil_of_length_eq_zero HN2.out
      exact .inl ⟨0, rfl, .inr ⟨by rw [newB_none HX.out.reg.ok e0], rfl⟩, HX2.out, Turns.of_below HB2.out (Nat.le_refl _)⟩
    · have t3 : ((n2 : Int) == 0) = false := beq_eq_false_iff_ne.2 (by omega)
      have BR := Lib.hid (badRecord_any _ (newB md fs) w2 HV2.out (newB_len HM.out) (newB_lo HM.out))
      have HNN := Lib.hid (show newB md fs ≠ [] from fun e => h0 (by rw [← HN2.out, e]; rfl))
      clear h0
      go_wp2_with fail
      refine BR.out.mono ?_
      rintro e w3 ⟨v3, rfl, rfl, hbt, hb3⟩
      have HX3 := Lib.hid (HX2.out.fresh hb3)
      have HB3 := Lib.hid (HB2.out.trans (hb3.mono HB2.out.size))
      have CH := Lib.hid (change_any gR gB gJ gD gS gM g n br md (addM md (newB md fs)) cs S L t _ (recB (newB md fs)) w3 HX3.out HI.out (StayR.of_ hbt (fun e => by have := HX2.out.jnl.lt _ e; omega)) (by rw [recB_length]; have := newB_len (md := md) HM.out; omega) (decX_recB HNN.out (newB_len HM.out) (newB_lo HM.out)) hg)
      rw [newB_add HX.out.reg.ok] at CH
      clear hbt hb3
      go_wp2_with fail
      refine CH.out.mono ?_
      rintro e w4 hp
      obtain ⟨z, g', n', br', md', S', L', t', rfl, hr⟩ := hp
      have HR := Lib.hid (show ChPost _ gR gB gJ gD gS gM g md (addM md (fs.map Int.toNat)) cs t (.returned (.int .i64 (z : Int))) w4 from ⟨z, g', n', br', md', S', L', t', rfl, hr⟩)
      clear hr
      go_wp2
      go_ret
      exact .inr ⟨_, rfl, newB_ne HX.out.reg.ok HM.out HNN.out, HR.out.from_ HB3.out⟩
  · rw [decide_eq_false hm] at MB
    have ea : askB md fs = none := by unfold askB; exact if_neg hm
    rw [ea]
    clear ea hm
    go_enter Try.func23, Try.ntmps23
    go_wp2_with fail
    refine MB.out.mono ?_
    rintro e w1 ⟨rfl, hb1⟩
    have HB1 := Lib.hid hb1
    clear hb1
    go_wp2
    go_ret
    exact .inl ⟨1, rfl, .inl ⟨rfl, rfl⟩, HX.out.fresh HB1.out, Turns.of_below HB1.out (Nat.le_refl _)⟩
end Go.Proofs.Ytfnegbcpiejdaab

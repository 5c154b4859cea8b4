/-
  The contracts of the registry's write and change, of SetState and of AddBad, at any disk, with any trouble.
  Conditions: the registry is in memory, and the journal has what its invariant says; the frames are read in memory that the work does not turn.
-/
import Derived.Test.YtfnegbcpiejdaabRegU
import Derived.Test.YtfnegbcpiejdaabRegE
import Derived.Test.YtfnegbcpiejdaabRegH
import Derived.Test.YtfnegbcpiejdaabRegJ
import Derived.Test.YtfnegbcpiejdaabJous
import Derived.Deep.RegionHeld3
namespace Go.Proofs.Ytfnegbcpiejdaab
open Go.RowKit
set_option linter.unusedVariables false

/-- Nothing failed, nothing is loose. -/
def RSure (enc : MD → List Nat) (dec : List Nat → List (List Nat) → Option MD) (g : Nat) (md : MD) (n : Nat) (S : Nat → List Nat) : Prop :=
  ∃ nb rs, JInv g nb rs [] [] S (fun _ => none) ∧ rs.length = n ∧ dec nb rs = some md ∧ dec (enc md) [] = some md
theorem RSure.rinv {enc : MD → List Nat} {dec : List Nat → List (List Nat) → Option MD} {g n : Nat} {md : MD} {S : Nat → List Nat} (h : RSure enc dec g md n S) : RInv enc dec g md [md] n false S (fun _ => none) := by
  obtain ⟨nb, rs, h1, h2, h3, h4⟩ := h
  exact ⟨nb, rs, [], [], h1, JCl.nil_, (fun b hb => by cases hb), fun _ => rfl, h2, h3, h4, List.mem_singleton.2 rfl, fun x hx => by cases hx⟩
section
variable {enc : MD → List Nat} {dec : List Nat → List (List Nat) → Option MD} {g n n' z : Nat} {md nx : MD} {cs : List MD} {br : Bool} {S S' : Nat → List Nat} {L L' : Nat → Option (List Nat)} {t t' : Tr} {x : List Nat}
/-- An Append that is done: all is sure. -/
theorem RInv.app_sure (h : RInv enc dec g md cs n br S L) (hg : g < 4294967296) (hx : x.length ≤ 50) (hnx : ∀ nb rs, dec nb rs = some md → dec nb (rs ++ [x]) = some nx) (hen : dec (enc nx) [] = some nx) (hc : AppCase S L t g n br x z S' L' t' n') (hz : z = 0) :
    RSure enc dec g nx n' S' ∧ L' = fun _ => none := by
  obtain ⟨nb, rs, xs, bs, h1, h2, h3, h4, rfl, h6, h7, h8, h9⟩ := h
  have hL : L' = fun _ => none := by
    rcases hc with ⟨_, c2, _⟩ | ⟨_, _, c3, _⟩ | ⟨_, _, _, ⟨c4, c5, _⟩ | ⟨_, c4, c5, _⟩ | ⟨_, _, _, _, c6, _⟩⟩
    · omega
    · omega
    · omega
    · omega
    · exact c6
  subst hL
  rcases h1.app h4 hg hc with ⟨k1, k2, k3, k4, k5, k6⟩ | ⟨⟨k1, k2⟩ | ⟨k1, k2, k3⟩, _⟩ | ⟨k1, _⟩
  · exact ⟨⟨nb, rs ++ [x], k6, k5.symm, hnx _ _ h6, hen⟩, rfl⟩
  · omega
  · omega
  · omega
/-- A Rebase that is done: all is sure. -/
theorem RInv.reb_sure {g' : Nat} {br' : Bool} (h : RInv enc dec g md cs n br S L) (hg : g + 1 < 4294967296) (hb : (enc md).length ≤ 960) (hc : RebCase S L t g n br (enc md) z S' L' t' g' n' br') (hz : z = 0) :
    g' = g + 1 ∧ n' = 0 ∧ br' = false ∧ RSure enc dec (g + 1) md 0 S' ∧ L' = fun _ => none := by
  obtain ⟨nb, rs, xs, bs, h1, h2, h3, h4, h5, h6, h7, h8, h9⟩ := h
  rcases hc with ⟨k1, _⟩ | ⟨k1, k2, _⟩ | ⟨k1, k2, k3, k4, k5, k6⟩
  · omega
  · omega
  · have hL := k6.2.2.1
    subst hL
    exact ⟨k3, k4, k5, ⟨enc md, [], h1.good hb hg k6, rfl, h7, h7⟩, rfl⟩
end
theorem AppCase.easy {S S' : Nat → List Nat} {L L' : Nat → Option (List Nat)} {t' : Tr} {g n n' z : Nat} {b : List Nat} {br : Bool} (h : AppCase S L Tr.none_ g n br b z S' L' t' n') (hb : b.length ≤ 50) : (z = 0 ∨ z = 4) ∧ t' = Tr.none_ := by
  rcases h with ⟨c1, _⟩ | ⟨_, _, c1, _, _, c2, _⟩ | ⟨_, _, _, ⟨c1, _⟩ | ⟨_, c1, _⟩ | ⟨_, _, c1, _, _, c2, _⟩⟩
  · omega
  · exact ⟨.inr c1, c2⟩
  · exact absurd none_ans c1
  · exact absurd none_ans c1
  · exact ⟨.inl c1, c2⟩
theorem RebCase.easy {S S' : Nat → List Nat} {L L' : Nat → Option (List Nat)} {t' : Tr} {g n g' n' z : Nat} {b : List Nat} {br br' : Bool} (h : RebCase S L Tr.none_ g n br b z S' L' t' g' n' br') (hb : b.length ≤ 960) : z = 0 ∧ t' = Tr.none_ := by
  rcases h with ⟨c1, _⟩ | ⟨_, c1, _, _, _, c2⟩ | ⟨_, c1, _, _, _, c2⟩
  · omega
  · exfalso
    rcases c2 with ⟨k, _, _, c3, _⟩ | ⟨_, ⟨c3, _⟩ | ⟨_, c3, _⟩⟩
    · rw [tn_none] at c3; exact absurd none_ans c3
    · rw [tn_none] at c3; exact absurd none_ans c3
    · rw [tn_none] at c3; exact absurd none_ans c3
  · exact ⟨c1, by rw [c2.2.2.2, tn_none]⟩

/-! ### in memory -/
/-- A registry: its own cells and map, and its journal. -/
structure RegX (w : World) (gR gB gJ gD gS gM g n : Nat) (br : Bool) (md : MD) (S : Nat → List Nat) (L : Nat → Option (List Nat)) (t : Tr) : Prop where
  reg : RegAt w gR gB gJ md
  jnl : Jnl w gJ gD gS gM S L t g n br
  off : ¬ jk gJ gD gS gM gR ∧ ¬ jk gJ gD gS gM gB
/-- The blocks that a registry's work turns. -/
def rk (gR gB gJ gD gS gM : Nat) : Nat → Prop := fun k => k = gR ∨ k = gB ∨ jk gJ gD gS gM k
section
variable {w w' : World} {gR gB gJ gD gS gM g n : Nat} {br : Bool} {md : MD} {S : Nat → List Nat} {L : Nat → Option (List Nat)} {t : Tr}
theorem Jnl.lt (h : Jnl w gJ gD gS gM S L t g n br) : ∀ k, jk gJ gD gS gM k → k < w.heap.size := by
  rintro k (e | e | e | e)
  · rw [e]; exact h.1.lt
  · rw [e]; exact h.2.1.lt.1
  · rw [e]; exact h.2.1.lt.2.1
  · rw [e]; exact h.2.1.lt.2.2
theorem Jnl.far (h : Jnl w gJ gD gS gM S L t g n br) (hk : ∀ k, jk gJ gD gS gM k → w'.heap[k]? = w.heap[k]?) : Jnl w' gJ gD gS gM S L t g n br :=
  ⟨(hk _ (.inl rfl)).trans h.1, h.2.1.far (hk _ (.inr (.inl rfl))) (hk _ (.inr (.inr (.inl rfl)))) (hk _ (.inr (.inr (.inr rfl)))), h.2.2⟩
theorem RegX.lt (h : RegX w gR gB gJ gD gS gM g n br md S L t) : ∀ k, rk gR gB gJ gD gS gM k → k < w.heap.size := by
  rintro k (e | e | e)
  · rw [e]; exact h.reg.reg.lt
  · rw [e]; exact h.reg.bad.blk
  · exact h.jnl.lt k e
theorem RegX.far (h : RegX w gR gB gJ gD gS gM g n br md S L t) (hk : ∀ k, rk gR gB gJ gD gS gM k → w'.heap[k]? = w.heap[k]?) : RegX w' gR gB gJ gD gS gM g n br md S L t :=
  ⟨h.reg.far (hk _ (.inl rfl)) (hk _ (.inr (.inl rfl))), h.jnl.far fun k e => hk k (.inr (.inr e)), h.off⟩
theorem RegX.fresh (h : RegX w gR gB gJ gD gS gM g n br md S L t) (hb : Below w.heap.size w w') : RegX w' gR gB gJ gD gS gM g n br md S L t := h.far fun k hk => hb.block k (h.lt k hk)
/-- The journal has turned, the registry's own has not. -/
theorem RegX.jnl_ (h : RegX w gR gB gJ gD gS gM g n br md S L t) (ht : Turns (jk gJ gD gS gM) w w') {g' n' : Nat} {br' : Bool} {S' : Nat → List Nat} {L' : Nat → Option (List Nat)} {t' : Tr} (hj : Jnl w' gJ gD gS gM S' L' t' g' n' br') : RegX w' gR gB gJ gD gS gM g' n' br' md S' L' t' :=
  ⟨h.reg.far (ht.block _ h.reg.reg.lt h.off.1) (ht.block _ h.reg.bad.blk h.off.2), hj, h.off⟩
/-- The registry's own has turned, the journal has not. -/
theorem RegX.own_ (h : RegX w gR gB gJ gD gS gM g n br md S L t) (ht : Turns (fun k => k = gR ∨ k = gB) w w') {md' : MD} (hr : RegAt w' gR gB gJ md') : RegX w' gR gB gJ gD gS gM g n br md' S L t :=
  ⟨hr, h.jnl.far fun k hk => ht.block k (h.jnl.lt k hk) (by rintro (e | e); exact h.off.1 (e ▸ hk); exact h.off.2 (e ▸ hk)), h.off⟩
end
/-- Bytes that work on the registry does not turn. -/
def StayR (M : Nat → Prop) (w : World) (v : Value) (x : List Nat) : Prop := ∀ w', Turns M w w' → Bts w' w.heap.size v x
theorem StayR.turns {M : Nat → Prop} {w w' : World} {v : Value} {x : List Nat} (h : StayR M w v x) (ht : Turns M w w') : StayR M w' v x := fun w2 h2 => (h w2 (ht.trans h2)).more ht.size
theorem StayR.of_ {M : Nat → Prop} {w : World} {q off n c : Nat} {x : List Nat} (h : Bts w w.heap.size (.slice (some ⟨q, off, none⟩) n c) x) (hq : ¬ M q) : StayR M w (.slice (some ⟨q, off, none⟩) n c) x := by
  intro w' ht
  obtain ⟨A, n', c', hv, hl, hm, hc, hcm, hb, hx⟩ := h
  refine ⟨A, n', c', hv, hl, hm, hc, hcm, hb, fun hn => ?_⟩
  obtain ⟨b, o, hA, hB, hcell⟩ := hx hn
  refine ⟨b, o, hA, hB, fun j hj => ?_⟩
  injection hv with e1 _ _
  rw [hA] at e1
  injection e1 with e1
  injection e1 with e1 _ _
  rw [World.cell?_of_block (ht.block b hB (e1 ▸ hq))]
  exact hcell j hj

/-! ### write -/
/-- What a write leaves: the record is sure, or it failed. -/
def WrPost (w : World) (gR gB gJ gD gS gM g : Nat) (md nx : MD) (cs : List MD) (t : Tr) (e : Ending) (w' : World) : Prop :=
  ∃ (z g' n' : Nat) (br' : Bool) (S' : Nat → List Nat) (L' : Nat → Option (List Nat)) (t' : Tr), e = .returned (.int .i64 (z : Int)) ∧ RegX w' gR gB gJ gD gS gM g' n' br' md S' L' t' ∧ Turns (jk gJ gD gS gM) w w' ∧ g' ≤ g + 1 ∧
    ((z = 0 ∧ RSure encR decR g' nx n' S' ∧ (L' = fun _ => none) ∧ br' = false) ∨ ((z = 6 ∨ z = 9) ∧ ∃ cs', RInv encR decR g' md cs' n' br' S' L' ∧ ∀ c ∈ cs', c ∈ cs ∨ c = nx)) ∧ (t = Tr.none_ → z = 0 ∧ t' = Tr.none_)
set_option maxRecDepth 100000 in
set_option maxHeartbeats 1600000 in
theorem write_any (gR gB gJ gD gS gM g n : Nat) (br : Bool) (md nx : MD) (cs : List MD) (S : Nat → List Nat) (L : Nat → Option (List Nat)) (t : Tr) (v : Value) (x : List Nat) (w : World) (h : RegX w gR gB gJ gD gS gM g n br md S L t) (hi : RInv encR decR g md cs n br S L)
    (hx : StayR (jk gJ gD gS gM) w v x) (hl : x.length ≤ 50) (hd : decX md x = some nx) (hg : g + 2 < 4294967296) :
    Calls Try.prog 60 #[.pointer (some ⟨gR, 0, none⟩), v] w (WrPost w gR gB gJ gD gS gM g md nx cs t) := by
  have HX := Lib.hid h
  have HI := Lib.hid hi
  have HS := Lib.hid hx
  have HL := Lib.hid hl
  have HNX := Lib.hid (show ∀ nb rs, decR nb rs = some md → decR nb (rs ++ [x]) = some nx from fun nb rs e => by rw [decR_snoc, e]; exact hd)
  have HEN := Lib.hid (show decR (encR nx) [] = some nx from dec_base (decX_ok hd h.reg.ok))
  have HEM := Lib.hid (encR_length h.reg.ok)
  have c0 := h.reg.cell0
  have AP := Lib.hid (japp_any gJ gD gS gM g n S L t br v x w.heap.size w h.jnl (hx w (Turns.refl _ _)) (Nat.le_refl _) (by omega) hi.few)
  obtain ⟨A, l, c, rfl, -⟩ := hx w (Turns.refl _ _)
  have HP := Lib.hid (fun (e : Ending) (w' : World) (h : WrPost w gR gB gJ gD gS gM g md nx cs t e w') => h)
  clear h hi hx hl hd
  go_enter Try.func60, Try.ntmps60
  go_wp2_with fail
  refine AP.out.mono ?_
  rintro e w1 ⟨z1, S1, L1, t1, n1, rfl, hj1, ht1, hc1⟩
  have HX1 := Lib.hid (HX.out.jnl_ ht1 hj1)
  have HT1 := Lib.hid ht1
  have HC1 := Lib.hid hc1
  clear hj1 ht1 c0
  by_cases h4 : z1 = 4
  · subst h4
    obtain ⟨rfl, rfl, rfl, rfl⟩ : n1 = n ∧ S1 = S ∧ L1 = L ∧ t1 = t := by
      rcases HI.out.app (by omega) HL.out HNX.out HEN.out hc1 with ⟨c1, _⟩ | ⟨_, _, c2, c3, c4, c5⟩ | ⟨c1, _⟩
      · omega
      · exact ⟨c2, c3, c4, c5⟩
      · omega
    have c1' := HX1.out.reg.cell0
    have HXD := Lib.hid (HX1.out.fresh (Below.refl w1.heap.size w1).drew)
    have BS := Lib.hid (base_any gR gB gJ md w1.drew HXD.out.reg)
    have RB := Lib.hid (fun (w2 : World) (h2 : Below w1.drew.heap.size w1.drew w2) (hb : Bts w2 w2.heap.size (.slice (some ⟨w1.drew.heap.size, 0, none⟩) 161 161) (encR md)) =>
      jreb_any gJ gD gS gM g n1 S1 L1 t1 br (.slice (some ⟨w1.drew.heap.size, 0, none⟩) 161 161) (encR md) w2 (HXD.out.fresh h2).jnl (Stay.of_ne hb (Nat.le_refl _) (fun e => by have := HXD.out.jnl.lt _ (.inr e); omega)) (by omega))
    have HC2 := Lib.hid (fun (w2 : World) (h2 : Below w1.drew.heap.size w1.drew w2) => (HXD.out.fresh h2).reg.cell0)
    have HC3 := Lib.hid (fun (w2 w3 : World) (h2 : Below w1.drew.heap.size w1.drew w2) (h3 : Turns (jk gJ gD gS gM) w2 w3) => (show w3.cell? ⟨gR, 0, none⟩ = some (.pointer (some ⟨gJ, 0, none⟩)) from by
      rw [World.cell?_of_block (h3.block gR (HXD.out.fresh h2).reg.reg.lt HX1.out.off.1)]
      exact (HXD.out.fresh h2).reg.cell0))
    clear hc1
    go_wp2_with fail
    go_region_held3 (fun w' => w'.cell? ⟨gR, 0, none⟩ = some (.pointer (some ⟨gJ, 0, none⟩)))
      (first | assumption | exact HC2.out _ (by assumption) | exact HC3.out _ _ (by assumption) (by assumption))
      (first
        | (go_at_call 74; refine BS.out.mono ?_; rintro e w2 ⟨rfl, hb2, hw2⟩; have hb2' := hw2)
        | (go_at_call 73; refine (RB.out _ (by assumption) (by assumption)).mono ?_; rintro e w3 ⟨z3, S3, L3, t3, g3, n3, br3, rfl, hj3, ht3, hc3⟩))
    have HX2 := Lib.hid ((HXD.out.fresh hb2').jnl_ ht3 hj3)
    have HT3 := Lib.hid (show Turns (jk gJ gD gS gM) w w3 from HT1.out.trans (((Turns.refl _ _).drew.trans (Turns.of_below hb2' (Nat.le_refl _))).trans ht3))
    have HC := Lib.hid hc3
    have c3' := HX2.out.reg.cell0
    clear hj3 ht3 hw2 hb2 hb2' hc3 c1'
    by_cases hz : z3 = 0
    · subst hz
      obtain ⟨rfl, rfl, rfl, hs3, hl3⟩ := HI.out.reb_sure (by omega) (by rw [HEM.out]; omega) HC.out rfl
      subst hl3
      have HI3 := Lib.hid hs3.rinv
      have AP2 := Lib.hid (japp_any gJ gD gS gM (g + 1) 0 S3 (fun _ => none) t3 false (.slice A l c) x w3.heap.size w3 HX2.out.jnl ((HS.out w3 HT3.out).more HT3.out.size) (Nat.le_refl _) (by omega) (by omega))
      clear hs3
      go_wp2_with fail
      refine AP2.out.mono ?_
      rintro e w4 ⟨z4, S4, L4, t4, n4, rfl, hj4, ht4, hc4⟩
      have HX4 := Lib.hid (HX2.out.jnl_ ht4 hj4)
      have HT4 := Lib.hid (HT3.out.trans ht4)
      have HC4 := Lib.hid hc4
      clear hj4 ht4 hc4
      go_wp2
      go_ret
      have htt : t1 = Tr.none_ → z4 = 0 ∧ t4 = Tr.none_ := fun e => by
        subst e
        obtain ⟨_, rfl⟩ := HC.out.easy (by rw [HEM.out]; omega)
        obtain ⟨h1 | h1, h2⟩ := HC4.out.easy HL.out
        · exact ⟨h1, h2⟩
        · exfalso
          rcases HI3.out.app (by omega) HL.out HNX.out HEN.out HC4.out with ⟨c1, _⟩ | ⟨_, c1 | c1, _⟩ | ⟨c1, _⟩
          · omega
          · cases c1
          · omega
          · omega
      refine ⟨z4, g + 1, n4, false, S4, L4, t4, rfl, HX4.out, HT4.out, Nat.le_refl _, ?_, htt⟩
      rcases HI3.out.app (by omega) HL.out HNX.out HEN.out HC4.out with ⟨c1, _⟩ | ⟨_, c1 | c1, _⟩ | ⟨c1, _, _, c4, c5⟩
      · obtain ⟨k1, k2⟩ := HI3.out.app_sure (by omega) HL.out HNX.out HEN.out HC4.out c1
        exact .inl ⟨c1, k1, k2, rfl⟩
      · cases c1
      · omega
      · subst c4
        refine .inr ⟨c1, _, c5, fun c hc => ?_⟩
        rcases List.mem_append.1 hc with hc | hc
        · rw [List.mem_singleton.1 hc]; exact .inl HI.out.mem
        · exact .inr (List.mem_singleton.1 hc)
    · have t5 : ((z3 : Int) != 0) = true := by rw [bne_iff_ne]; omega
      have HZ := Lib.hid hz
      clear hz
      go_wp2
      go_ret
      rcases HI.out.reb (by omega) (by rw [HEM.out]; omega) HC.out with ⟨c1, _⟩ | ⟨c1, rfl, rfl, rfl, c5⟩
      · exact absurd c1 HZ.out
      · refine ⟨z3, g3, n3, true, S3, L3, t3, rfl, HX2.out, HT3.out, Nat.le_succ _, .inr ⟨c1, _, c5, fun c hc => .inl hc⟩, fun e => ?_⟩
        subst e
        exact HC.out.easy (by rw [HEM.out]; omega)
  · have t5 : ((z1 : Int) != 4) = true := by rw [bne_iff_ne]; omega
    have H4 := Lib.hid h4
    clear h4 hc1
    go_wp2
    go_ret
    refine ⟨z1, g, n1, br, S1, L1, t1, rfl, HX1.out, HT1.out, Nat.le_succ _, ?_, fun e => ?_⟩
    · rcases HI.out.app (by omega) HL.out HNX.out HEN.out HC1.out with ⟨c1, c2, _, _, _⟩ | ⟨c1, _⟩ | ⟨c1, c2, _, rfl, c5⟩
      · obtain ⟨k1, k2⟩ := HI.out.app_sure (by omega) HL.out HNX.out HEN.out HC1.out c1
        exact .inl ⟨c1, k1, k2, c2⟩
      · exact absurd c1 H4.out
      · subst c2
        refine .inr ⟨c1, _, c5, fun c hc => ?_⟩
        rcases List.mem_append.1 hc with hc | hc
        · exact .inl hc
        · exact .inr (List.mem_singleton.1 hc)
    · subst e
      obtain ⟨h1 | h1, h2⟩ := HC1.out.easy HL.out
      · exact ⟨h1, h2⟩
      · exact absurd h1 H4.out
end Go.Proofs.Ytfnegbcpiejdaab

/-
  A journal in memory, and the contracts of journal's Open, Append, Rebase and Len.
  Conditions: those that each line bears.
-/
import Derived.Test.YtfnegbcpiejdaabDcr
import Derived.Test.YtfnegbcpiejdaabSltB
import Derived.Test.YtfnegbcpiejdaabLogs
import Derived.Test.YtfnegbcpiejdaabSlI
import Derived.Deep.RegionHeld3
import Derived.Test.YtfnegbcpiejdaabDsk
import Derived.WalkLawsBesides
import Derived.Lib.SlBytesConst
import Derived.Lib.SmallJoins
import Derived.Outline

/-! ## JouCase: What a journal's Append and Rebase make of what a disk has, with any trouble; and what becomes of the journal's own invariant. Of the program only slot's and log's contracts are named here.   Conditions: none beside those that each line bears. -/
namespace Go.Proofs.Ytfnegbcpiejdaab
open Go.RowKit
set_option linter.unusedVariables false

/-- A Save that failed: what it answered, and what is there then. -/
def SavBad (S : Nat → List Nat) (L : Nat → Option (List Nat)) (t : Tr) (g : Nat) (b : List Nat) (z : Nat) (S' : Nat → List Nat) (L' : Nat → Option (List Nat)) (t' : Tr) : Prop :=
  (∃ k, k ≤ nsec b ∧ (∀ j, j < k → (tn t j).ans = 0) ∧ (tn t k).ans ≠ 0 ∧ z = (tn t k).ans ∧ S' = S ∧ L' = looL L g b k ∧ t' = tn t (k + 1)) ∨
  ((∀ j, j < nsec b + 1 → (tn t j).ans = 0) ∧
    (((tn t (nsec b + 1)).ans ≠ 0 ∧ z = (tn t (nsec b + 1)).ans ∧ S' = datL (last S L) g b (nsec b) ∧ L' = (fun _ => none) ∧ t' = tn t (nsec b + 2)) ∨
     ((tn t (nsec b + 1)).ans = 0 ∧ (tn t (nsec b + 2)).ans ≠ 0 ∧ z = (tn t (nsec b + 2)).ans ∧ S' = datL (last S L) g b (nsec b) ∧ L' = upd (fun _ => none) (64 + 16 * (g % 2)) (some (hedL g b)) ∧ t' = tn t (nsec b + 3))))
/-- A Save that was done. -/
def SavGood (S : Nat → List Nat) (L : Nat → Option (List Nat)) (t : Tr) (g : Nat) (b : List Nat) (S' : Nat → List Nat) (L' : Nat → Option (List Nat)) (t' : Tr) : Prop :=
  (∀ j, j < nsec b + 3 → (tn t j).ans = 0) ∧ S' = savL (last S L) g b ∧ L' = (fun _ => none) ∧ t' = tn t (nsec b + 3)
theorem savePost_cases {w w' : World} {gD gS gM n : Nat} {S : Nat → List Nat} {L : Nat → Option (List Nat)} {t : Tr} {g : Nat} {b : List Nat} {e : Ending} (h : SavePost w gD gS gM n S L t g b e w') :
    Turns (dk gD gS gM) w w' ∧ ∃ (z : Nat) (S' : Nat → List Nat) (L' : Nat → Option (List Nat)) (t' : Tr), e = .returned (.int .i64 (z : Int)) ∧ Dsk w' gD gS gM n S' L' t' ∧ ((z ≠ 0 ∧ SavBad S L t g b z S' L' t') ∨ (z = 0 ∧ SavGood S L t g b S' L' t')) := by
  obtain ⟨ht, ⟨k, h1, h2, h3, h4, h5⟩ | ⟨h1, ⟨h3, h4, h5⟩ | ⟨h2, h3, h4, h5⟩ | ⟨h2, h3, h4, h5⟩⟩⟩ := h
  · exact ⟨ht, _, _, _, _, h4, h5, .inl ⟨h3, .inl ⟨k, h1, h2, h3, rfl, rfl, rfl, rfl⟩⟩⟩
  · exact ⟨ht, _, _, _, _, h4, h5, .inl ⟨h3, .inr ⟨h1, .inl ⟨h3, rfl, rfl, rfl, rfl⟩⟩⟩⟩
  · exact ⟨ht, _, _, _, _, h4, h5, .inl ⟨h3, .inr ⟨h1, .inr ⟨h2, h3, rfl, rfl, rfl, rfl⟩⟩⟩⟩
  · refine ⟨ht, 0, _, _, _, h4, h5, .inr ⟨rfl, fun j hj => ?_, rfl, rfl, rfl⟩⟩
    by_cases c1 : j < nsec b + 1
    · exact h1 j c1
    · by_cases c2 : j = nsec b + 1
      · rw [c2]; exact h2
      · rw [show j = nsec b + 2 by omega]; exact h3
theorem ans_cases (t : Tr) : t.ans = 0 ∨ t.ans = 6 ∨ t.ans = 9 := by
  unfold Tr.ans
  split
  · exact .inr (.inr rfl)
  · split
    · exact .inl rfl
    · split
      · exact .inr (.inl rfl)
      · exact .inl rfl

/-- What an Append makes: z is what it answers, n how many records there are then. -/
def AppCase (S : Nat → List Nat) (L : Nat → Option (List Nat)) (t : Tr) (g n : Nat) (br : Bool) (b : List Nat) (z : Nat) (S' : Nat → List Nat) (L' : Nat → Option (List Nat)) (t' : Tr) (n' : Nat) : Prop :=
  (50 < b.length ∧ z = 1 ∧ S' = S ∧ L' = L ∧ t' = t ∧ n' = n) ∨
  (b.length ≤ 50 ∧ (br = true ∨ 64 ≤ n) ∧ z = 4 ∧ S' = S ∧ L' = L ∧ t' = t ∧ n' = n) ∨
  (b.length ≤ 50 ∧ br = false ∧ n < 64 ∧
    ((t.ans ≠ 0 ∧ z = t.ans ∧ S' = S ∧ L' = L ∧ t' = t.next ∧ n' = n) ∨
     (t.ans = 0 ∧ t.next.ans ≠ 0 ∧ z = t.next.ans ∧ S' = S ∧ L' = upd L n (some (secL g n b)) ∧ t' = t.next.next ∧ n' = n) ∨
     (t.ans = 0 ∧ t.next.ans = 0 ∧ z = 0 ∧ S' = upd (last S L) n (secL g n b) ∧ L' = (fun _ => none) ∧ t' = t.next.next ∧ n' = n + 1)))
/-- What a Rebase makes. -/
def RebCase (S : Nat → List Nat) (L : Nat → Option (List Nat)) (t : Tr) (g n : Nat) (br : Bool) (b : List Nat) (z : Nat) (S' : Nat → List Nat) (L' : Nat → Option (List Nat)) (t' : Tr) (g' n' : Nat) (br' : Bool) : Prop :=
  (960 < b.length ∧ z = 1 ∧ S' = S ∧ L' = L ∧ t' = t ∧ g' = g ∧ n' = n ∧ br' = br) ∨
  (b.length ≤ 960 ∧ z ≠ 0 ∧ g' = g ∧ n' = n ∧ br' = true ∧ SavBad S L t (g + 1) b z S' L' t') ∨
  (b.length ≤ 960 ∧ z = 0 ∧ g' = g + 1 ∧ n' = 0 ∧ br' = false ∧ SavGood S L t (g + 1) b S' L' t')

section
variable {g : Nat} {nb : List Nat} {rs xs bs : List (List Nat)} {S S' : Nat → List Nat} {L L' : Nat → Option (List Nat)} {t t' : Tr} {b : List Nat} {z : Nat}
theorem SavBad.ans (h : SavBad S L t g b z S' L' t') : z = 6 ∨ z = 9 := by
  rcases h with ⟨k, _, _, h1, h2, _⟩ | ⟨_, ⟨h1, h2, _⟩ | ⟨_, h1, h2, _⟩⟩
  · have := ans_cases (tn t k); omega
  · have := ans_cases (tn t (nsec b + 1)); omega
  · have := ans_cases (tn t (nsec b + 2)); omega
theorem JInv.bad (h : JInv g nb rs xs bs S L) (hb : b.length ≤ 960) (hs : SavBad S L t (g + 1) b z S' L' t') : JInv g nb rs xs (b :: bs) S' L' := by
  rcases hs with ⟨k, h1, _, _, _, rfl, rfl, _⟩ | ⟨_, ⟨_, _, rfl, rfl, _⟩ | ⟨_, _, _, rfl, rfl, _⟩⟩
  · exact h.rebasing hb h1
  · exact h.rebased hb
  · exact (h.rebased hb).headed
theorem JInv.good (h : JInv g nb rs xs bs S L) (hb : b.length ≤ 960) (hg : g + 1 < 4294967296) (hs : SavGood S L t (g + 1) b S' L' t') : JInv (g + 1) b [] [] [] S' L' := by
  obtain ⟨_, rfl, rfl, _⟩ := hs
  exact h.rebase_ hb hg
/-- What becomes of the invariant behind an Append: done; refused; failed. -/
theorem JInv.app (h : JInv g nb rs xs bs S L) {br : Bool} {n' : Nat} (hbr : br = false → bs = []) (hg : g < 4294967296) (hc : AppCase S L t g rs.length br b z S' L' t' n') :
    (z = 0 ∧ b.length ≤ 50 ∧ rs.length < 64 ∧ br = false ∧ n' = (rs ++ [b]).length ∧ JInv g nb (rs ++ [b]) [] [] S' L') ∨
    (((z = 1 ∧ 50 < b.length) ∨ (z = 4 ∧ b.length ≤ 50 ∧ (br = true ∨ 64 ≤ rs.length))) ∧ n' = rs.length ∧ S' = S ∧ L' = L ∧ t' = t) ∨
    ((z = 6 ∨ z = 9) ∧ b.length ≤ 50 ∧ rs.length < 64 ∧ br = false ∧ n' = rs.length ∧ JInv g nb rs (b :: xs) bs S' L') := by
  rcases hc with ⟨h1, h2, h3, h4, h5, h6⟩ | ⟨h1, h2, h3, h4, h5, h6, h7⟩ | ⟨h1, h2, h3, ⟨h4, h5, rfl, rfl, h6, h7⟩ | ⟨h4, h4', h5, rfl, rfl, h6, h7⟩ | ⟨h4, h4', h5, rfl, rfl, h6, h7⟩⟩
  · exact .inr (.inl ⟨.inl ⟨h2, h1⟩, h6, h3, h4, h5⟩)
  · exact .inr (.inl ⟨.inr ⟨h3, h1, h2⟩, h7, h4, h5, h6⟩)
  · refine .inr (.inr ⟨by have := ans_cases t; omega, h1, h3, h2, h7, ?_⟩)
    exact h.more (fun x hx => List.mem_cons_of_mem _ hx) (fun b hb => hb) (fun x hx => by
      rcases List.mem_cons.1 hx with rfl | hx
      · exact h1
      · exact h.xshort x hx) h.bshort
  · exact .inr (.inr ⟨by have := ans_cases t.next; omega, h1, h3, h2, h7, h.appended h1 h3 hg⟩)
  · refine .inl ⟨h5, h1, h3, h2, by simp [h7], ?_⟩
    have e := hbr h2
    subst e
    exact h.append_ h1 h3 hg
end
end Go.Proofs.Ytfnegbcpiejdaab

/-! ## JouA: A journal in memory, and the contracts of its Open, Append, Rebase and Len.   Conditions: the disk is known whole and has the log's and the slots' sectors; Open: it is without trouble; the bytes are read in memory that the work does not turn. -/
namespace Go.Proofs.Ytfnegbcpiejdaab
open Go.RowKit
set_option linter.unusedVariables false

/-- A journal's own cells. -/
def jrnV (gD g n : Nat) (br : Bool) : Array Value := #[.pointer (some ⟨gD, 0, none⟩), .int .u32 (g : Int), .int .i64 (n : Int), .bool br, .bool false]
/-- A journal in block gJ, of the disk in gD, gS and gM. -/
def Jnl (w : World) (gJ gD gS gM : Nat) (S : Nat → List Nat) (L : Nat → Option (List Nat)) (t : Tr) (g n : Nat) (br : Bool) : Prop :=
  Blk w gJ 97 (jrnV gD g n br) ∧ Dsk w gD gS gM 192 S L t ∧ ¬ dk gD gS gM gJ
/-- The blocks that a journal's work turns. -/
def jk (gJ gD gS gM : Nat) : Nat → Prop := fun k => k = gJ ∨ dk gD gS gM k
theorem jk_of {gJ gD gS gM k : Nat} (h : dk gD gS gM k) : jk gJ gD gS gM k := .inr h

section
variable {w w' : World} {gJ gD gS gM g n : Nat} {S : Nat → List Nat} {L : Nat → Option (List Nat)} {t : Tr} {br : Bool}
theorem Jnl.cell (h : Jnl w gJ gD gS gM S L t g n br) (i : Nat) : w.cell? ⟨gJ, i, none⟩ = (jrnV gD g n br)[i]? := h.1.cell i
theorem Jnl.fresh (h : Jnl w gJ gD gS gM S L t g n br) (hb : Below w.heap.size w w') : Jnl w' gJ gD gS gM S L t g n br := ⟨h.1.below hb h.1.lt, h.2.1.fresh hb, h.2.2⟩
theorem Jnl.drew (h : Jnl w gJ gD gS gM S L t g n br) : Jnl w.drew gJ gD gS gM S L t g n br := h
end

set_option maxRecDepth 20000 in
set_option maxHeartbeats 400000 in
theorem jopen_nil (w : World) :
    Calls Try.prog 32 #[.pointer none] w fun e w' => e = .returned (.tuple #[.pointer none, .slice none 0 0, .slice none 0 0, .int .i64 1]) ∧ w = w' := by
  go_enter Try.func32, Try.ntmps32
  go_wp2_with fail
  refine (load_nil w).mono ?_
  rintro e w1 ⟨rfl, rfl⟩
  go_wp2
  refine bodyPost_ret (results_tmp4 rfl _ _ _) rfl ?_
  exact ⟨rfl, rfl⟩
set_option maxRecDepth 20000 in
set_option maxHeartbeats 400000 in
theorem japp_nil (A : Option Addr) (l c : Nat) (w : World) :
    Calls Try.prog 72 #[.pointer none, .slice A l c] w fun e w' => e = .returned (.int .i64 1) ∧ w = w' := by
  go_enter Try.func72, Try.ntmps72
  go_wp2
  go_ret
  exact ⟨rfl, rfl⟩
set_option maxRecDepth 20000 in
set_option maxHeartbeats 400000 in
theorem jreb_nil (A : Option Addr) (l c : Nat) (w : World) :
    Calls Try.prog 73 #[.pointer none, .slice A l c] w fun e w' => e = .returned (.int .i64 1) ∧ w = w' := by
  go_enter Try.func73, Try.ntmps73
  go_wp2
  go_ret
  exact ⟨rfl, rfl⟩
set_option maxRecDepth 20000 in
set_option maxHeartbeats 400000 in
/-- A journal that is sure settles nothing. -/
theorem settle_no (gJ gD gS gM g n : Nat) (S : Nat → List Nat) (L : Nat → Option (List Nat)) (t : Tr) (br : Bool) (w : World) (h : Jnl w gJ gD gS gM S L t g n br) :
    Calls Try.prog 50 #[.pointer (some ⟨gJ, 0, none⟩)] w fun e w' => e = .returned (.int .i64 0) ∧ w = w' := by
  have c4 : w.cell? ⟨gJ, 4, none⟩ = some (.bool false) := h.cell 4
  clear h
  go_enter Try.func50, Try.ntmps50
  go_wp2
  go_ret
  exact ⟨rfl, rfl⟩
theorem loose_none (gD gS gM n : Nat) (S : Nat → List Nat) (L : Nat → Option (List Nat)) (t : Tr) (w : World) (h : Dsk w gD gS gM n S L t) (hL : ∀ k, L k = none) :
    Calls Try.prog 48 #[.pointer (some ⟨gD, 0, none⟩)] w fun e w' => ∃ v, e = .returned v ∧ Its w' w'.heap.size v [] ∧ Below w.heap.size w w' := by
  refine (dloose_any gD gS gM n S L t w h).mono ?_
  rintro e w' ⟨v, rfl, ho, hb, _⟩
  obtain rfl : L = fun _ => none := funext hL
  rw [keysL_none] at ho
  exact ⟨v, rfl, Its.of_own (xs := []) ho, hb⟩
theorem Try.egOwn : ∀ args w, (callFunc 49 args).run Try.prog w = .ok (.enter 49 args) w := enters_of Try.func49 (by kernel_rfl) rfl
theorem own_none (v : Value) (w : World) (h : Its w w.heap.size v []) :
    Calls Try.prog 47 #[v, .func (.func 49) #[] #[]] w fun e w' => e = .returned (.bool false) ∧ Below w.heap.size w w' :=
  containsFunc_any 49 #[] (fun _ => false) Try.egOwn v [] w h (fun W x hx _ _ => by cases hx)

/-- What Open leaves at a disk without trouble, of which nothing is loose. -/
def JOpenPost (w : World) (gD gS gM : Nat) (S : Nat → List Nat) (L : Nat → Option (List Nat)) (e : Ending) (w' : World) : Prop :=
  ∃ gJ v1 v2 m, e = .returned (.tuple #[.pointer (some ⟨gJ, 0, none⟩), v1, v2, .int .i64 0]) ∧ Stop (last S L) (loadR (last S L)).1 m ∧
    w'.ownsRow w.heap.size 5 1 v1 (loadR (last S L)).2.length ((loadR (last S L)).2.map bv) ∧ Lst w' (dk gD gS gM) 0 w.heap.size 35 v2 (pays (last S L) m) ∧
    Jnl w' gJ gD gS gM S L Tr.none_ (loadR (last S L)).1 m false ∧ w.heap.size ≤ gJ ∧ Turns (dk gD gS gM) w w'

set_option maxRecDepth 20000 in
set_option maxHeartbeats 1600000 in
theorem jopen_ok (gD gS gM : Nat) (S : Nat → List Nat) (L : Nat → Option (List Nat)) (w : World) (h : Dsk w gD gS gM 192 S L Tr.none_) (hL : ∀ k, L k = none) :
    Calls Try.prog 32 #[.pointer (some ⟨gD, 0, none⟩)] w (JOpenPost w gD gS gM S L) := by
  have HD := Lib.hid h
  have HLN := Lib.hid hL
  have HLST := Lib.hid (fun f (hf : f < 192) => h.last_ hf)
  clear h hL
  have hGlt : (loadR (last S L)).1 < 4294967296 := loadN_lt (F := last S L) (fun x hx => sloG_lt (HLST.out (64 + 16 * x) (by omega)).2) 2 (Nat.le_refl _)
  obtain ⟨g, hg⟩ : ∃ g, g = (loadR (last S L)).1 := ⟨_, rfl⟩
  obtain ⟨b, hb⟩ : ∃ b, b = (loadR (last S L)).2 := ⟨_, rfl⟩
  rw [← hg] at hGlt
  have HG := Lib.hid hg
  have HB := Lib.hid hb
  have HLD := Lib.hid (load_ok gD gS gM 192 S L w HD.out (by omega))
  unfold LoadOk at HLD
  rw [← hg, ← hb] at HLD
  unfold JOpenPost
  rw [← hg, ← hb]
  clear hg hb
  obtain ⟨Q, hQ⟩ : ∃ Q : Ending → World → Prop, Q = fun e w' => ∃ gJ v1 v2 m, e = .returned (.tuple #[.pointer (some ⟨gJ, 0, none⟩), v1, v2, .int .i64 0]) ∧ Stop (last S L) g m ∧
    w'.ownsRow w.heap.size 5 1 v1 b.length (b.map bv) ∧ Lst w' (dk gD gS gM) 0 w.heap.size 35 v2 (pays (last S L) m) ∧
    Jnl w' gJ gD gS gM S L Tr.none_ g m false ∧ w.heap.size ≤ gJ ∧ Turns (dk gD gS gM) w w' := ⟨_, rfl⟩
  have HQ := Lib.hid hQ
  show Calls _ _ _ _ (fun e w' => _)
  rw [← hQ]
  clear hQ
  have HM := Lib.hid (show ∀ q, dk gD gS gM q → q < w.heap.size from by rintro q (e | e | e) <;> (have := HD.out.lt; omega))
  go_enter Try.func32, Try.ntmps32
  go_wp2_with fail
  refine HLD.out.mono ?_
  rintro e w1 ⟨v1, rfl, ho1, hd1, ht1⟩
  obtain ⟨A1, c1, rfl⟩ := own_any ho1
  have HO1 := Lib.hid ho1
  have HD1 := Lib.hid hd1
  have HT1 := Lib.hid ht1
  clear ho1 hd1 ht1
  go_wp2_with fail
  refine (replay_ok gD gS gM 192 S L g w1 HD1.out (by omega) hGlt).mono ?_
  rintro e w2 ⟨m, v2, hst, rfl, hl2, hd2, ht2⟩
  obtain ⟨A2, c2, rfl, hc2, hm2⟩ := hl2.shape
  have hml : (pays (last S L) m).length = m := pays_length _ _
  rw [hml] at hl2 hc2 ⊢
  have HL2 := Lib.hid (hl2.lower HT1.out.size)
  have HD2 := Lib.hid hd2
  have HT2 := Lib.hid (HT1.out.trans ht2)
  have HO2 := Lib.hid (own_turns HO1.out HM.out ht2)
  have HST := Lib.hid hst
  clear hl2 hd2 ht2 hst
  clear hml
  have LO := Lib.hid (loose_none gD gS gM 192 S L Tr.none_ w2 HD2.out HLN.out)
  go_wp2_with fail
  refine LO.out.mono ?_
  rintro e w3 ⟨v3, rfl, hi3, hb3⟩
  obtain ⟨A3, n3, c3, rfl, -⟩ := id hi3
  have OW := Lib.hid (own_none (.slice A3 n3 c3) w3 hi3)
  have HB3 := Lib.hid hb3
  clear hi3 hb3
  go_wp2_with fail
  refine OW.out.mono ?_
  rintro e w4 ⟨rfl, hb4⟩
  have HB4 := Lib.hid (HB3.out.trans (hb4.mono HB3.out.size))
  clear hb4
  have HA := Lib.hid (HB4.out.alloc HB4.out.size (.cells (jrnV gD g m false) 97))
  have HJN := Lib.hid (show Jnl (w4.alloc (.cells (jrnV gD g m false) 97)) w4.heap.size gD gS gM S L Tr.none_ g m false from ⟨Blk.new w4 _ _, HD2.out.fresh HA.out, fun h => by have := HM.out _ h; have := HT2.out.size; have := HB4.out.size; omega⟩)
  have SN := Lib.hid (settle_no _ _ _ _ _ _ _ _ _ _ _ HJN.out)
  go_wp2_with fail
  refine SN.out.mono ?_
  rintro e w5 ⟨rfl, rfl⟩
  go_wp2
  refine bodyPost_ret (results_tmp4 rfl _ _ _) rfl ?_
  rw [HQ.out]
  exact ⟨w4.heap.size, .slice A1 b.length c1, .slice A2 m c2, m, rfl, HST.out, own_below HO2.out HA.out (Nat.le_refl _), HL2.out.turns HM.out (Turns.of_below HA.out (Nat.le_refl _)), HJN.out, Nat.le_trans HT2.out.size HB4.out.size, HT2.out.trans (Turns.of_below HA.out (Nat.le_refl _))⟩

/-- What an Append leaves. -/
def JAppPost (w : World) (gJ gD gS gM : Nat) (S : Nat → List Nat) (L : Nat → Option (List Nat)) (t : Tr) (g n : Nat) (br : Bool) (b : List Nat) (e : Ending) (w' : World) : Prop :=
  ∃ (z : Nat) (S' : Nat → List Nat) (L' : Nat → Option (List Nat)) (t' : Tr) (n' : Nat), e = .returned (.int .i64 (z : Int)) ∧ Jnl w' gJ gD gS gM S' L' t' g n' br ∧ Turns (jk gJ gD gS gM) w w' ∧ AppCase S L t g n br b z S' L' t' n'
/-- What the log's Append leaves of a journal in memory. -/
def JA0 (W : World) (gJ gD gS gM : Nat) (S : Nat → List Nat) (L : Nat → Option (List Nat)) (t : Tr) (g n : Nat) (b : List Nat) (e : Ending) (w' : World) : Prop :=
  ∃ (z : Nat) (S' : Nat → List Nat) (L' : Nat → Option (List Nat)) (t' : Tr) (n' : Nat), e = .returned (.int .i64 (z : Int)) ∧ Jnl w' gJ gD gS gM S' L' t' g n false ∧ Turns (dk gD gS gM) W w' ∧ AppCase S L t g n false b z S' L' t' n'
theorem ja0 (gJ gD gS gM g n : Nat) (S : Nat → List Nat) (L : Nat → Option (List Nat)) (t : Tr) (v : Value) (b : List Nat) (B : Nat) (W : World) (h : Jnl W gJ gD gS gM S L t g n false) (hx : Bts W B v b) (hB : B ≤ W.heap.size) (hg : g < 4294967296) (hn : n < 64) (hl : b.length ≤ 50) :
    Calls Try.prog 94 #[.pointer (some ⟨gD, 0, none⟩), .int .u32 (g : Int), .int .i64 (n : Int), v] W (JA0 W gJ gD gS gM S L t g n b) := by
  refine (append_any gD gS gM 192 S L t g n v b B W h.2.1 (by omega) hx hB hl hg hn).mono ?_
  rintro e w' (⟨h1, h2, h3, h4⟩ | ⟨h1, h1', h2, h3, h4⟩ | ⟨h1, h1', h2, h3, h4⟩)
  · exact ⟨_, S, L, _, n, h2, ⟨h4.blk h.1 h.2.2, h3, h.2.2⟩, h4, .inr (.inr ⟨hl, rfl, hn, .inl ⟨h1, rfl, rfl, rfl, rfl, rfl⟩⟩)⟩
  · exact ⟨_, S, _, _, n, h2, ⟨h4.blk h.1 h.2.2, h3, h.2.2⟩, h4, .inr (.inr ⟨hl, rfl, hn, .inr (.inl ⟨h1, h1', rfl, rfl, rfl, rfl, rfl⟩)⟩)⟩
  · exact ⟨_, _, _, _, n + 1, h2, ⟨h4.blk h.1 h.2.2, h3, h.2.2⟩, h4, .inr (.inr ⟨hl, rfl, hn, .inr (.inr ⟨h1, h1', rfl, rfl, rfl, rfl, rfl⟩)⟩)⟩
theorem AppCase.count {S S' : Nat → List Nat} {L L' : Nat → Option (List Nat)} {t t' : Tr} {g n n' z : Nat} {b : List Nat} {br : Bool} (h : AppCase S L t g n br b z S' L' t' n') : (z = 0 ∧ n' = n + 1) ∨ (z ≠ 0 ∧ n' = n) := by
  rcases h with ⟨_, h2, _, _, _, h6⟩ | ⟨_, _, h3, _, _, _, h7⟩ | ⟨_, _, _, ⟨h4, h5, _, _, _, h7⟩ | ⟨_, h4, h5, _, _, _, h7⟩ | ⟨_, _, h5, _, _, _, h7⟩⟩
  · exact .inr ⟨by omega, h6⟩
  · exact .inr ⟨by omega, h7⟩
  · exact .inr ⟨by omega, h7⟩
  · exact .inr ⟨by omega, h7⟩
  · exact .inl ⟨h5, h7⟩
theorem jrnV_n (gD g n n' : Nat) (br : Bool) : (jrnV gD g n br).setIfInBounds 2 (.int .i64 (n' : Int)) = jrnV gD g n' br := rfl
theorem jrnV_g (gD g g' n : Nat) (br : Bool) : (jrnV gD g n br).setIfInBounds 1 (.int .u32 (g' : Int)) = jrnV gD g' n br := rfl
theorem jrnV_b (gD g n : Nat) (br br' : Bool) : (jrnV gD g n br).setIfInBounds 3 (.bool br') = jrnV gD g n br' := rfl
theorem Jnl.set_ {w : World} {gJ gD gS gM g n g' n' : Nat} {S : Nat → List Nat} {L : Nat → Option (List Nat)} {t : Tr} {br br' : Bool} (h : Jnl w gJ gD gS gM S L t g n br) {i : Nat} {u : Value} (hv : (jrnV gD g n br).setIfInBounds i u = jrnV gD g' n' br') : Jnl (w.setCell ⟨gJ, i, none⟩ u) gJ gD gS gM S L t g' n' br' := by
  have ho : Only gJ w (w.setCell ⟨gJ, i, none⟩ u) := (Only.refl _ _).setCell i u
  refine ⟨by rw [← hv]; exact h.1.set_ i u, ?_, h.2.2⟩
  have hne := h.2.2
  exact h.2.1.far (ho.1.block _ h.2.1.lt.1 (fun e => hne (.inl (by injection e with e; exact e.symm)))) (ho.1.block _ h.2.1.lt.2.1 (fun e => hne (.inr (.inl (by injection e with e; exact e.symm))))) (ho.1.block _ h.2.1.lt.2.2 (fun e => hne (.inr (.inr (by injection e with e; exact e.symm)))))
theorem Turns.jset {w w' : World} {gJ gD gS gM : Nat} (h : Turns (jk gJ gD gS gM) w w') (i : Nat) (u : Value) : Turns (jk gJ gD gS gM) w (w'.setCell ⟨gJ, i, none⟩ u) := h.trans (Turns.of_only ((Only.refl _ _).setCell i u) (.inl rfl))
set_option maxRecDepth 20000 in
set_option maxHeartbeats 1600000 in
theorem japp_any (gJ gD gS gM g n : Nat) (S : Nat → List Nat) (L : Nat → Option (List Nat)) (t : Tr) (br : Bool) (v : Value) (b : List Nat) (B : Nat) (w : World) (h : Jnl w gJ gD gS gM S L t g n br) (hx : Bts w B v b) (hB : B ≤ w.heap.size) (hg : g < 4294967296) (hn : n ≤ 64) :
    Calls Try.prog 72 #[.pointer (some ⟨gJ, 0, none⟩), v] w (JAppPost w gJ gD gS gM S L t g n br b) := by
  have HJ := Lib.hid h
  have HX := Lib.hid hx
  have HB := Lib.hid hB
  obtain ⟨A, l, c, rfl, hl, -⟩ := hx
  have HL := Lib.hid hl
  have c0 : w.cell? ⟨gJ, 0, none⟩ = some (.pointer (some ⟨gD, 0, none⟩)) := h.cell 0
  have c1 : w.cell? ⟨gJ, 1, none⟩ = some (.int .u32 (g : Int)) := h.cell 1
  have c2 : w.cell? ⟨gJ, 2, none⟩ = some (.int .i64 (n : Int)) := h.cell 2
  have c3 : w.cell? ⟨gJ, 3, none⟩ = some (.bool br) := h.cell 3
  clear h hB hl
  by_cases k1 : 50 < l
  · have t1 : decide ((50 : Int) < (l : Int)) = true := decide_eq_true (by omega)
    have K := Lib.hid (show 50 < b.length by rw [HL.out]; exact k1)
    clear k1
    go_enter Try.func72, Try.ntmps72
    go_wp2
    go_ret
    exact ⟨1, S, L, t, n, rfl, HJ.out, Turns.refl _ _, .inl ⟨K.out, rfl, rfl, rfl, rfl, rfl⟩⟩
  · have t1 : decide ((50 : Int) < (l : Int)) = false := decide_eq_false (by omega)
    have K := Lib.hid (show b.length ≤ 50 by rw [HL.out]; omega)
    clear k1
    cases br with
    | true =>
      go_enter Try.func72, Try.ntmps72
      go_wp2
      go_ret
      exact ⟨4, S, L, t, n, rfl, HJ.out, Turns.refl _ _, .inr (.inl ⟨K.out, .inl rfl, rfl, rfl, rfl, rfl, rfl⟩)⟩
    | false =>
      by_cases k2 : n < 64
      · have t2 : ((n : Int) == 64) = false := by simp; omega
        have hJD : ∀ w', Jnl w' gJ gD gS gM S L t g n false → w'.cell? ⟨gJ, 0, none⟩ = some (.pointer (some ⟨gD, 0, none⟩)) ∧ w'.cell? ⟨gJ, 1, none⟩ = some (.int .u32 (g : Int)) ∧ w'.cell? ⟨gJ, 2, none⟩ = some (.int .i64 (n : Int)) := fun w' h => ⟨h.cell 0, h.cell 1, h.cell 2⟩
        have SN := Lib.hid (settle_no gJ gD gS gM g n S L t false w HJ.out)
        have AP := Lib.hid (ja0 gJ gD gS gM g n S L t (.slice A l c) b B w.drew HJ.out.drew (HX.out.keep (fun _ _ => rfl)) HB.out hg k2 K.out)
        clear hJD k2
        go_enter Try.func72, Try.ntmps72
        go_wp2_with fail
        refine SN.out.mono ?_
        rintro e ws ⟨rfl, rfl⟩
        go_wp2_with fail
        go_region_held3 (fun w' => w'.cell? ⟨gJ, 0, none⟩ = some (.pointer (some ⟨gD, 0, none⟩)) ∧ w'.cell? ⟨gJ, 1, none⟩ = some (.int .u32 (g : Int)) ∧ w'.cell? ⟨gJ, 2, none⟩ = some (.int .i64 (n : Int)))
          (first | assumption | exact ⟨c0, c1, c2⟩ | exact ⟨hj.cell 0, hj.cell 1, hj.cell 2⟩)
          ((go_at_call 94; refine AP.out.mono ?_; rintro e w' ⟨z, S', L', t', n', rfl, hj, ht, hc⟩))
        have HJ1 := Lib.hid hj
        have HT1 := Lib.hid (show Turns (jk gJ gD gS gM) w w' from (show Turns (jk gJ gD gS gM) w w.drew from (Turns.refl _ _).drew).trans (ht.mono (fun k h => .inr h)))
        have HC := Lib.hid hc
        have c2' : w'.cell? ⟨gJ, 2, none⟩ = some (.int .i64 (n : Int)) := hj.cell 2
        have f2' : w'.frozen? ⟨gJ, 2, none⟩ = false := hj.1.frozen 2
        have hcount := hc.count
        clear hj ht hc
        by_cases k3 : z = 0
        · obtain ⟨_, hn'⟩ : z = 0 ∧ n' = n + 1 := by
            rcases hcount with h | h
            · exact h
            · exact absurd k3 h.1
          subst k3 hn'
          clear hcount
          go_wp2
          go_ret
          exact ⟨0, S', L', t', n + 1, rfl, HJ1.out.set_ (jrnV_n gD g n (n + 1) false), HT1.out.jset _ _, HC.out⟩
        · obtain ⟨_, hn'⟩ : z ≠ 0 ∧ n' = n := by
            rcases hcount with h | h
            · exact absurd h.1 k3
            · exact h
          subst hn'
          have t5 : ((z : Int) != 0) = true := by rw [bne_iff_ne]; omega
          have K3 := Lib.hid k3
          clear hcount k3
          go_wp2
          go_ret
          exact ⟨z, S', L', t', n', rfl, HJ1.out, HT1.out, HC.out⟩
      · have t2 : ((n : Int) == 64) = true := by simp; omega
        have K2 := Lib.hid (show 64 ≤ n by omega)
        clear k2
        go_enter Try.func72, Try.ntmps72
        go_wp2
        go_ret
        exact ⟨4, S, L, t, n, rfl, HJ.out, Turns.refl _ _, .inr (.inl ⟨K.out, .inr K2.out, rfl, rfl, rfl, rfl, rfl⟩)⟩

/-- What slot's Save leaves of a journal in memory. -/
def JR0 (W : World) (gJ gD gS gM : Nat) (S : Nat → List Nat) (L : Nat → Option (List Nat)) (t : Tr) (g n : Nat) (br : Bool) (b : List Nat) (e : Ending) (w' : World) : Prop :=
  ∃ (z : Nat) (S' : Nat → List Nat) (L' : Nat → Option (List Nat)) (t' : Tr), e = .returned (.int .i64 (z : Int)) ∧ Jnl w' gJ gD gS gM S' L' t' g n br ∧ Turns (dk gD gS gM) W w' ∧
    ((960 < b.length ∧ z = 1 ∧ S' = S ∧ L' = L ∧ t' = t) ∨ (b.length ≤ 960 ∧ z ≠ 0 ∧ z ≠ 1 ∧ SavBad S L t (g + 1) b z S' L' t') ∨ (b.length ≤ 960 ∧ z = 0 ∧ SavGood S L t (g + 1) b S' L' t'))
theorem jr0 (gJ gD gS gM g n : Nat) (S : Nat → List Nat) (L : Nat → Option (List Nat)) (t : Tr) (br : Bool) (v : Value) (b : List Nat) (W : World) (h : Jnl W gJ gD gS gM S L t g n br) (hx : Stay gD gS gM W v b) (hg : g + 1 < 4294967296) :
    Calls Try.prog 95 #[.pointer (some ⟨gD, 0, none⟩), .int .u32 ((g : Int) + 1), v] W (JR0 W gJ gD gS gM S L t g n br b) := by
  rw [show (g : Int) + 1 = ((g + 1 : Nat) : Int) by omega]
  by_cases hl : b.length ≤ 960
  · refine (save_any gD gS gM 192 S L t (g + 1) v b W h.2.1 (by omega) hx hl hg).mono ?_
    intro e w' hp
    obtain ⟨ht, z, S', L', t', he, hd, ⟨h1, h2⟩ | ⟨h1, h2⟩⟩ := savePost_cases hp
    · exact ⟨z, S', L', t', he, ⟨ht.blk h.1 h.2.2, hd, h.2.2⟩, ht, .inr (.inl ⟨hl, h1, by have := h2.ans; omega, h2⟩)⟩
    · exact ⟨z, S', L', t', he, ⟨ht.blk h.1 h.2.2, hd, h.2.2⟩, ht, .inr (.inr ⟨hl, h1, h2⟩)⟩
  · obtain ⟨B, ⟨A, l, c, rfl, e0, -⟩, -⟩ := hx.here
    refine (save_long gD _ A l c W (by omega)).mono ?_
    rintro e w' ⟨rfl, rfl⟩
    exact ⟨1, S, L, t, rfl, h, Turns.refl _ _, .inl ⟨by omega, rfl, rfl, rfl, rfl⟩⟩
/-- What a Rebase leaves. -/
def JRebPost (w : World) (gJ gD gS gM : Nat) (S : Nat → List Nat) (L : Nat → Option (List Nat)) (t : Tr) (g n : Nat) (br : Bool) (b : List Nat) (e : Ending) (w' : World) : Prop :=
  ∃ (z : Nat) (S' : Nat → List Nat) (L' : Nat → Option (List Nat)) (t' : Tr) (g' n' : Nat) (br' : Bool), e = .returned (.int .i64 (z : Int)) ∧ Jnl w' gJ gD gS gM S' L' t' g' n' br' ∧ Turns (jk gJ gD gS gM) w w' ∧ RebCase S L t g n br b z S' L' t' g' n' br'
set_option maxRecDepth 20000 in
set_option maxHeartbeats 1600000 in
theorem jreb_any (gJ gD gS gM g n : Nat) (S : Nat → List Nat) (L : Nat → Option (List Nat)) (t : Tr) (br : Bool) (v : Value) (b : List Nat) (w : World) (h : Jnl w gJ gD gS gM S L t g n br) (hx : Stay gD gS gM w v b) (hg : g + 1 < 4294967296) :
    Calls Try.prog 73 #[.pointer (some ⟨gJ, 0, none⟩), v] w (JRebPost w gJ gD gS gM S L t g n br b) := by
  have HJ := Lib.hid h
  have RP := Lib.hid (jr0 gJ gD gS gM g n S L t br v b w h hx hg)
  obtain ⟨B0, ⟨A, l, c, rfl, hl, -⟩, -⟩ := hx.here
  have SN := Lib.hid (settle_no gJ gD gS gM g n S L t br w h)
  have c0 : w.cell? ⟨gJ, 0, none⟩ = some (.pointer (some ⟨gD, 0, none⟩)) := h.cell 0
  have c1 : w.cell? ⟨gJ, 1, none⟩ = some (.int .u32 (g : Int)) := h.cell 1
  have n1 : IntKind.u32.wrap ((g : Int) + 1) = (g : Int) + 1 := by rw [IntKind.wrap_u32]; omega
  clear h hx
  by_cases k1 : 960 < l
  · have t1 : decide ((960 : Int) < (l : Int)) = true := decide_eq_true (by omega)
    have K := Lib.hid (show 960 < b.length by omega)
    clear hl k1
    go_enter Try.func73, Try.ntmps73
    go_wp2
    go_ret
    exact ⟨1, S, L, t, g, n, br, rfl, HJ.out, Turns.refl _ _, .inl ⟨K.out, rfl, rfl, rfl, rfl, rfl, rfl, rfl⟩⟩
  have t1 : decide ((960 : Int) < (l : Int)) = false := decide_eq_false (by omega)
  have K := Lib.hid (show ¬ 960 < b.length by omega)
  clear hl k1
  go_enter Try.func73, Try.ntmps73
  go_wp2_with fail
  refine SN.out.mono ?_
  rintro e ws ⟨rfl, rfl⟩
  go_wp2_with fail
  refine RP.out.mono ?_
  rintro e w' ⟨z, S', L', t', rfl, hj, ht, hc⟩
  have HJ1 := Lib.hid hj
  have HT1 := Lib.hid (show Turns (jk gJ gD gS gM) w w' from ht.mono (fun k h => .inr h))
  have c1' : w'.cell? ⟨gJ, 1, none⟩ = some (.int .u32 (g : Int)) := hj.cell 1
  have c2' : w'.cell? ⟨gJ, 2, none⟩ = some (.int .i64 (n : Int)) := hj.cell 2
  have c3' : w'.cell? ⟨gJ, 3, none⟩ = some (.bool br) := hj.cell 3
  have f1' : w'.frozen? ⟨gJ, 1, none⟩ = false := hj.1.frozen 1
  have f2' : w'.frozen? ⟨gJ, 2, none⟩ = false := hj.1.frozen 2
  have f3' : w'.frozen? ⟨gJ, 3, none⟩ = false := hj.1.frozen 3
  clear hj ht c0 c1
  rcases hc with ⟨h1, _⟩ | ⟨h1, h2, h2', h3⟩ | ⟨h1, rfl, h3⟩
  · exact absurd h1 K.out
  · have HC := Lib.hid (show RebCase S L t g n br b z S' L' t' g n true from .inr (.inl ⟨h1, h2, rfl, rfl, rfl, h3⟩))
    have t5 : ((z : Int) == 1) = false := by simp; omega
    have t6 : ((z : Int) == 0) = false := by simp; omega
    clear h1 h2 h2' h3
    go_wp2
    go_ret
    exact ⟨z, S', L', t', g, n, true, rfl, HJ1.out.set_ (jrnV_b gD g n br true), HT1.out.jset _ _, HC.out⟩
  · have HC := Lib.hid (show RebCase S L t g n br b 0 S' L' t' (g + 1) 0 false from .inr (.inr ⟨h1, rfl, rfl, rfl, rfl, h3⟩))
    clear h1 h3
    go_wp2
    go_ret
    exact ⟨0, S', L', t', g + 1, 0, false, rfl, ((HJ1.out.set_ (jrnV_g gD g (g + 1) n br)).set_ (jrnV_n gD (g + 1) n 0 br)).set_ (jrnV_b gD (g + 1) 0 br false), ((HT1.out.jset _ _).jset _ _).jset _ _, HC.out⟩
end Go.Proofs.Ytfnegbcpiejdaab

/-! ## JouB: A journal at a disk without trouble, of which no call has failed: Open, Append and Rebase; and layer 6's own question 'answers'.   Conditions: the bytes are read in memory that the work does not turn. -/
namespace Go.Proofs.Ytfnegbcpiejdaab
open Go.RowKit
set_option linter.unusedVariables false

/-- What is found of a disk of which nothing failed. -/
theorem JInv.clean {g : Nat} {nb : List Nat} {rs : List (List Nat)} {S : Nat → List Nat} {L : Nat → Option (List Nat)} (h : JInv g nb rs [] [] S L) (hg : g + 1 < 4294967296) (h64 : ∀ f, f < 192 → (last S L f).length = 64) :
    loadR (last S L) = (g, nb) ∧ ∀ m, Stop (last S L) g m → pays (last S L) m = rs ∧ m = rs.length := by
  have hF : ∀ f, f < 192 → Val S L f (last S L f) := fun f _ => Val.last_ S L f
  refine ⟨?_, fun m hm => ?_⟩
  · rcases h.load hg hF h64 with h1 | ⟨b, h1, _⟩
    · exact h1
    · cases h1
  · have h2 : pays (last S L) m = rs := by
      rcases h.recs (by omega) hF hm with h1 | ⟨x, h1, _⟩
      · exact h1
      · cases h1
    exact ⟨h2, by rw [← h2, pays_length]⟩

/-- A journal of which nothing failed, at a disk in the first three blocks behind w. -/
def JC (w : World) (gJ g : Nat) (nb : List Nat) (rs : List (List Nat)) (wx : World) : Prop :=
  ∃ S L, Jnl wx gJ (w.heap.size + 2) w.heap.size (w.heap.size + 1) S L Tr.none_ g rs.length false ∧ JInv g nb rs [] [] S L ∧ Below w.heap.size w wx ∧ w.heap.size ≤ gJ ∧ ∀ k, L k = none
/-- Its disk alone. -/
def JDk (w : World) (g : Nat) (nb : List Nat) (rs : List (List Nat)) (wx : World) : Prop :=
  ∃ S L, Dsk wx (w.heap.size + 2) w.heap.size (w.heap.size + 1) 192 S L Tr.none_ ∧ JInv g nb rs [] [] S L ∧ Below w.heap.size w wx ∧ ∀ k, L k = none
theorem JC.disk {w wx : World} {gJ g : Nat} {nb : List Nat} {rs : List (List Nat)} (h : JC w gJ g nb rs wx) : JDk w g nb rs wx := by
  obtain ⟨S, L, h1, h2, h3, _, h5⟩ := h
  exact ⟨S, L, h1.2.1, h2, h3, h5⟩
theorem JC.below {w wx : World} {gJ g : Nat} {nb : List Nat} {rs : List (List Nat)} (h : JC w gJ g nb rs wx) : Below w.heap.size w wx := by
  obtain ⟨S, L, h1, h2, h3, _⟩ := h
  exact h3
theorem JDk.below {w wx : World} {g : Nat} {nb : List Nat} {rs : List (List Nat)} (h : JDk w g nb rs wx) : Below w.heap.size w wx := by
  obtain ⟨S, L, h1, h2, h3, _⟩ := h
  exact h3
theorem JC.fresh {w wx wy : World} {gJ g : Nat} {nb : List Nat} {rs : List (List Nat)} (h : JC w gJ g nb rs wx) (hb : Below wx.heap.size wx wy) : JC w gJ g nb rs wy := by
  obtain ⟨S, L, h1, h2, h3, h4⟩ := h
  exact ⟨S, L, h1.fresh hb, h2, h3.trans (hb.mono h3.size), h4⟩
theorem JDk.fresh {w wx wy : World} {g : Nat} {nb : List Nat} {rs : List (List Nat)} (h : JDk w g nb rs wx) (hb : Below wx.heap.size wx wy) : JDk w g nb rs wy := by
  obtain ⟨S, L, h1, h2, h3, h5⟩ := h
  exact ⟨S, L, h1.fresh hb, h2, h3.trans (hb.mono h3.size), h5⟩
theorem JDk.start {w wx : World} (h : Dsk wx (w.heap.size + 2) w.heap.size (w.heap.size + 1) 192 (fun _ => zer) (fun _ => none) Tr.none_) (hb : Below w.heap.size w wx) : JDk w 0 [] [] wx := ⟨_, _, h, JInv.start, hb, fun _ => rfl⟩
theorem jk_lo {w : World} {gJ : Nat} (h : w.heap.size ≤ gJ) : ∀ q, jk gJ (w.heap.size + 2) w.heap.size (w.heap.size + 1) q → w.heap.size ≤ q := by
  rintro q (e | e)
  · omega
  · exact dk_lo w q e
/-- What Open leaves. -/
def JCOpen (w wx : World) (g : Nat) (nb : List Nat) (rs : List (List Nat)) (e : Ending) (w' : World) : Prop :=
  ∃ gJ v1 v2, e = .returned (.tuple #[.pointer (some ⟨gJ, 0, none⟩), v1, v2, .int .i64 0]) ∧ w'.ownsRow wx.heap.size 5 1 v1 nb.length (nb.map bv) ∧ Lst w' (dk (w.heap.size + 2) w.heap.size (w.heap.size + 1)) 0 wx.heap.size 35 v2 rs ∧
    JC w gJ g nb rs w' ∧ Turns (dk (w.heap.size + 2) w.heap.size (w.heap.size + 1)) wx w' ∧ wx.heap.size ≤ gJ
theorem jc_open (w wx : World) (g : Nat) (nb : List Nat) (rs : List (List Nat)) (h : JDk w g nb rs wx) (hg : g + 1 < 4294967296) :
    Calls Try.prog 32 #[.pointer (some ⟨w.heap.size + 2, 0, none⟩)] wx (JCOpen w wx g nb rs) := by
  obtain ⟨S, L, h1, h2, h3, h5⟩ := h
  obtain ⟨c1, c2⟩ := h2.clean hg (fun f hf => (h1.last_ hf).1)
  refine (jopen_ok _ _ _ S L wx h1 h5).mono ?_
  rintro e w' ⟨gJ, v1, v2, m, rfl, hs, ho, hl, hj, hgJ, ht⟩
  rw [c1] at hs ho hj
  obtain ⟨c3, c4⟩ := c2 m hs
  rw [c3] at hl
  subst c4
  exact ⟨gJ, v1, v2, rfl, ho, hl, ⟨S, L, hj, h2, ht.fresh_ h3 (Nat.le_refl _) (by omega) (Nat.le_refl _) (by omega), Nat.le_trans h3.size hgJ, h5⟩, ht, hgJ⟩
/-- What an Append that is done leaves. -/
def JCApp (w wx : World) (gJ g : Nat) (nb : List Nat) (rs : List (List Nat)) (e : Ending) (w' : World) : Prop :=
  e = .returned (.int .i64 0) ∧ JC w gJ g nb rs w' ∧ Turns (jk gJ (w.heap.size + 2) w.heap.size (w.heap.size + 1)) wx w'
theorem jc_app (w wx : World) (gJ g : Nat) (nb : List Nat) (rs : List (List Nat)) (v : Value) (b : List Nat) (B : Nat) (h : JC w gJ g nb rs wx) (hx : Bts wx B v b) (hB : B ≤ wx.heap.size) (hl : b.length ≤ 50) (hn : rs.length < 64) (hg : g < 4294967296) :
    Calls Try.prog 72 #[.pointer (some ⟨gJ, 0, none⟩), v] wx (JCApp w wx gJ g nb (rs ++ [b])) := by
  obtain ⟨S, L, h1, h2, h3, h4⟩ := h
  refine (japp_any gJ _ _ _ g rs.length S L _ false v b B wx h1 hx hB hg (by omega)).mono ?_
  rintro e w' ⟨z, S', L', t', n', rfl, hj, ht, hc⟩
  have hc2 := hc
  rcases h2.app (fun _ => rfl) hg hc with ⟨rfl, _, _, _, hn', hi⟩ | ⟨h5 | h5, _⟩ | ⟨h5, _⟩
  · have htt : t' = Tr.none_ := by
      rcases hc2 with ⟨c1, _⟩ | ⟨_, _, c1, _⟩ | ⟨_, _, _, ⟨c1, _⟩ | ⟨_, c1, _⟩ | ⟨_, _, _, _, _, c1, _⟩⟩
      · omega
      · omega
      · exact absurd none_ans c1
      · exact absurd none_ans c1
      · exact c1
    subst htt
    rw [hn'] at hj
    have hL5 : ∀ k, L' k = none := by
      rcases hc2 with ⟨c1, _⟩ | ⟨_, _, c1, _⟩ | ⟨_, _, _, ⟨c1, c1', _⟩ | ⟨_, c1, c1', _⟩ | ⟨_, _, _, _, c1, _⟩⟩
      · omega
      · omega
      · exact absurd c1'.symm c1
      · exact absurd c1'.symm c1
      · intro k; rw [c1]
    exact ⟨rfl, ⟨S', L', hj, hi, h3.trans ((ht.below (jk_lo h4.1) h3.size)), h4.1, hL5⟩, ht⟩
  · omega
  · rcases h5.2.2 with h6 | h6
    · cases h6
    · omega
  · exfalso
    rcases hc2 with ⟨c1, _⟩ | ⟨_, _, c1, _⟩ | ⟨_, _, _, ⟨c1, _⟩ | ⟨_, c1, _⟩ | ⟨_, _, c1, _⟩⟩
    · omega
    · omega
    · exact absurd none_ans c1
    · exact absurd none_ans c1
    · omega
theorem jc_reb (w wx : World) (gJ g : Nat) (nb : List Nat) (rs : List (List Nat)) (v : Value) (b : List Nat) (h : JC w gJ g nb rs wx) (hx : Stay (w.heap.size + 2) w.heap.size (w.heap.size + 1) wx v b) (hl : b.length ≤ 960) (hg : g + 1 < 4294967296) :
    Calls Try.prog 73 #[.pointer (some ⟨gJ, 0, none⟩), v] wx (JCApp w wx gJ (g + 1) b []) := by
  obtain ⟨S, L, h1, h2, h3, h4⟩ := h
  refine (jreb_any gJ _ _ _ g rs.length S L _ false v b wx h1 hx hg).mono ?_
  rintro e w' ⟨z, S', L', t', g', n', br', rfl, hj, ht, hc⟩
  rcases hc with ⟨c1, _⟩ | ⟨_, c1, _, _, _, c2⟩ | ⟨_, rfl, rfl, rfl, rfl, c2⟩
  · omega
  · exfalso
    rcases c2 with ⟨k, _, _, c3, _⟩ | ⟨_, ⟨c3, _⟩ | ⟨_, c3, _⟩⟩
    · rw [tn_none] at c3; exact absurd none_ans c3
    · rw [tn_none] at c3; exact absurd none_ans c3
    · rw [tn_none] at c3; exact absurd none_ans c3
  · have htt : t' = Tr.none_ := by rw [c2.2.2.2, tn_none]
    subst htt
    have hL5 : ∀ k, L' k = none := fun k => by rw [c2.2.2.1]
    exact ⟨rfl, ⟨S', L', hj, h2.good hl hg c2, h3.trans ((ht.below (jk_lo h4.1) h3.size)), h4.1, hL5⟩, ht⟩

end Go.Proofs.Ytfnegbcpiejdaab

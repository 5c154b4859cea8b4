/-
  A journal in memory, and the contracts of its Open, Append, Rebase and Len.
  Conditions: the disk is known whole and has the log's and the slots' sectors; Open: it is without trouble; the bytes are read in memory that the work does not turn.
-/
import Derived.Test.YtckabekimdcdcaaJouCase
import Derived.Test.YtckabekimdcdcaaLogOk
import Derived.Test.YtckabekimdcdcaaSlotOk
import Derived.Deep.RegionHeld3
namespace Go.Proofs.Ytckabekimdcdcaa
open Go.RowKit
set_option linter.unusedVariables false

/-- A journal's own cells. -/
def jrnV (gD g n : Nat) (br : Bool) : Array Value := #[.pointer (some ⟨gD, 0, none⟩), .int .u32 (g : Int), .int .i64 (n : Int), .bool br]
/-- A journal in block gJ, of the disk in gD, gS and gM. -/
def Jnl (w : World) (gJ gD gS gM : Nat) (S : Nat → List Nat) (L : Nat → Option (List Nat)) (t : Tr) (g n : Nat) (br : Bool) : Prop :=
  Blk w gJ 68 (jrnV gD g n br) ∧ Dsk w gD gS gM 192 S L t ∧ ¬ dk gD gS gM gJ
/-- The blocks that a journal's work turns. -/
def jk (gJ gD gS gM : Nat) : Nat → Prop := fun k => k = gJ ∨ dk gD gS gM k
theorem jk_of {gJ gD gS gM k : Nat} (h : dk gD gS gM k) : jk gJ gD gS gM k := .inr h

section
variable {w w' : World} {gJ gD gS gM g n : Nat} {S : Nat → List Nat} {L : Nat → Option (List Nat)} {t : Tr} {br : Bool}
theorem Jnl.cell (h : Jnl w gJ gD gS gM S L t g n br) (i : Nat) : w.cell? ⟨gJ, i, none⟩ = (jrnV gD g n br)[i]? := h.1.cell i
theorem Jnl.fresh (h : Jnl w gJ gD gS gM S L t g n br) (hb : Below w.heap.size w w') : Jnl w' gJ gD gS gM S L t g n br := ⟨h.1.below hb h.1.lt, h.2.1.fresh hb, h.2.2⟩
theorem Jnl.drew (h : Jnl w gJ gD gS gM S L t g n br) : Jnl w.drew gJ gD gS gM S L t g n br := h
end

set_option maxRecDepth 20000 in
set_option maxHeartbeats 400000 in
theorem jopen_nil (w : World) :
    Calls Try.prog 9 #[.pointer none] w fun e w' => e = .returned (.tuple #[.pointer none, .slice none 0 0, .slice none 0 0, .int .i64 1]) ∧ w = w' := by
  go_enter Try.func9, Try.ntmps9
  go_wp2_with fail
  refine (load_nil w).mono ?_
  rintro e w1 ⟨rfl, rfl⟩
  go_wp2
  refine bodyPost_ret (results_tmp4 rfl _ _ _) rfl ?_
  exact ⟨rfl, rfl⟩
set_option maxRecDepth 20000 in
set_option maxHeartbeats 400000 in
theorem japp_nil (A : Option Addr) (l c : Nat) (w : World) :
    Calls Try.prog 11 #[.pointer none, .slice A l c] w fun e w' => e = .returned (.int .i64 1) ∧ w = w' := by
  go_enter Try.func11, Try.ntmps11
  go_wp2
  go_ret
  exact ⟨rfl, rfl⟩
set_option maxRecDepth 20000 in
set_option maxHeartbeats 400000 in
theorem jreb_nil (A : Option Addr) (l c : Nat) (w : World) :
    Calls Try.prog 10 #[.pointer none, .slice A l c] w fun e w' => e = .returned (.int .i64 1) ∧ w = w' := by
  go_enter Try.func10, Try.ntmps10
  go_wp2
  go_ret
  exact ⟨rfl, rfl⟩
set_option maxRecDepth 20000 in
set_option maxHeartbeats 400000 in
theorem jlen_nil (w : World) :
    Calls Try.prog 12 #[.pointer none] w fun e w' => e = .returned (.int .i64 0) ∧ w = w' := by
  go_enter Try.func12, Try.ntmps12
  go_wp2
  go_ret
  exact ⟨rfl, rfl⟩
set_option maxRecDepth 20000 in
set_option maxHeartbeats 400000 in
theorem jlen_any (gJ gD gS gM g n : Nat) (S : Nat → List Nat) (L : Nat → Option (List Nat)) (t : Tr) (br : Bool) (w : World) (h : Jnl w gJ gD gS gM S L t g n br) :
    Calls Try.prog 12 #[.pointer (some ⟨gJ, 0, none⟩)] w fun e w' => e = .returned (.int .i64 (n : Int)) ∧ w = w' := by
  have c2 : w.cell? ⟨gJ, 2, none⟩ = some (.int .i64 (n : Int)) := h.cell 2
  clear h
  go_enter Try.func12, Try.ntmps12
  go_wp2
  go_ret
  exact ⟨rfl, rfl⟩

/-- What Open leaves at a disk without trouble. -/
def JOpenPost (w : World) (gD gS gM : Nat) (S : Nat → List Nat) (L : Nat → Option (List Nat)) (e : Ending) (w' : World) : Prop :=
  ∃ gJ v1 v2 m, e = .returned (.tuple #[.pointer (some ⟨gJ, 0, none⟩), v1, v2, .int .i64 0]) ∧ Stop (last S L) (loadR (last S L)).1 m ∧
    w'.ownsRow w.heap.size 5 1 v1 (loadR (last S L)).2.length ((loadR (last S L)).2.map bv) ∧ Lst w' (dk gD gS gM) 0 w.heap.size 27 v2 (pays (last S L) m) ∧
    Jnl w' gJ gD gS gM S L Tr.none_ (loadR (last S L)).1 m false ∧ w.heap.size ≤ gJ ∧ Turns (dk gD gS gM) w w'

set_option maxRecDepth 20000 in
set_option maxHeartbeats 1600000 in
theorem jopen_ok (gD gS gM : Nat) (S : Nat → List Nat) (L : Nat → Option (List Nat)) (w : World) (h : Dsk w gD gS gM 192 S L Tr.none_) :
    Calls Try.prog 9 #[.pointer (some ⟨gD, 0, none⟩)] w (JOpenPost w gD gS gM S L) := by
  have HD := Lib.hid h
  have HLST := Lib.hid (fun f (hf : f < 192) => h.last_ hf)
  clear h
  have hGlt : (loadR (last S L)).1 < 4294967296 := loadN_lt (F := last S L) (fun x hx => sloG_lt (HLST.out (64 + 16 * x) (by omega)).2) 2 (Nat.le_refl _)
  obtain ⟨g, hg⟩ : ∃ g, g = (loadR (last S L)).1 := ⟨_, rfl⟩
  obtain ⟨b, hb⟩ : ∃ b, b = (loadR (last S L)).2 := ⟨_, rfl⟩
  rw [← hg] at hGlt
  have HG := Lib.hid hg
  have HB := Lib.hid hb
  have HLD := Lib.hid (load_ok gD gS gM 192 S L w HD.out (by omega))
  unfold LoadOk at HLD
  rw [← hg, ← hb] at HLD
  unfold JOpenPost
  rw [← hg, ← hb]
  clear hg hb
  obtain ⟨Q, hQ⟩ : ∃ Q : Ending → World → Prop, Q = fun e w' => ∃ gJ v1 v2 m, e = .returned (.tuple #[.pointer (some ⟨gJ, 0, none⟩), v1, v2, .int .i64 0]) ∧ Stop (last S L) g m ∧
    w'.ownsRow w.heap.size 5 1 v1 b.length (b.map bv) ∧ Lst w' (dk gD gS gM) 0 w.heap.size 27 v2 (pays (last S L) m) ∧
    Jnl w' gJ gD gS gM S L Tr.none_ g m false ∧ w.heap.size ≤ gJ ∧ Turns (dk gD gS gM) w w' := ⟨_, rfl⟩
  have HQ := Lib.hid hQ
  show Calls _ _ _ _ (fun e w' => _)
  rw [← hQ]
  clear hQ
  have HM := Lib.hid (show ∀ q, dk gD gS gM q → q < w.heap.size from by rintro q (e | e | e) <;> (have := HD.out.lt; omega))
  go_enter Try.func9, Try.ntmps9
  go_wp2_with fail
  refine HLD.out.mono ?_
  rintro e w1 ⟨v1, rfl, ho1, hd1, ht1⟩
  obtain ⟨A1, c1, rfl⟩ := own_any ho1
  have HO1 := Lib.hid ho1
  have HD1 := Lib.hid hd1
  have HT1 := Lib.hid ht1
  clear ho1 hd1 ht1
  go_wp2_with fail
  refine (replay_ok gD gS gM 192 S L g w1 HD1.out (by omega) hGlt).mono ?_
  rintro e w2 ⟨m, v2, hst, rfl, hl2, hd2, ht2⟩
  obtain ⟨A2, c2, rfl, hc2, hm2⟩ := hl2.shape
  have hml : (pays (last S L) m).length = m := pays_length _ _
  rw [hml] at hl2 hc2 ⊢
  have HL2 := Lib.hid (hl2.lower HT1.out.size)
  have HD2 := Lib.hid hd2
  have HT2 := Lib.hid (HT1.out.trans ht2)
  have HO2 := Lib.hid (own_turns HO1.out HM.out ht2)
  have HST := Lib.hid hst
  clear hl2 hd2 ht2 hst
  clear hml
  go_wp2
  refine bodyPost_ret (results_tmp4 rfl _ _ _) rfl ?_
  rw [HQ.out]
  have hal := (Below.refl w2.heap.size w2).alloc (Nat.le_refl _) (.cells (jrnV gD g m false) 68)
  exact ⟨w2.heap.size, .slice A1 b.length c1, .slice A2 m c2, m, rfl, HST.out, own_below HO2.out hal (Nat.le_refl _), HL2.out.alloc HM.out _, ⟨Blk.new w2 _ _, HD2.out.fresh hal, fun h => by have := HM.out _ h; have := HT2.out.size; omega⟩, HT2.out.size, HT2.out.alloc _⟩

/-- What an Append leaves. -/
def JAppPost (w : World) (gJ gD gS gM : Nat) (S : Nat → List Nat) (L : Nat → Option (List Nat)) (t : Tr) (g n : Nat) (br : Bool) (b : List Nat) (e : Ending) (w' : World) : Prop :=
  ∃ (z : Nat) (S' : Nat → List Nat) (L' : Nat → Option (List Nat)) (t' : Tr) (n' : Nat), e = .returned (.int .i64 (z : Int)) ∧ Jnl w' gJ gD gS gM S' L' t' g n' br ∧ Turns (jk gJ gD gS gM) w w' ∧ AppCase S L t g n br b z S' L' t' n'
/-- What the log's Append leaves of a journal in memory. -/
def JA0 (W : World) (gJ gD gS gM : Nat) (S : Nat → List Nat) (L : Nat → Option (List Nat)) (t : Tr) (g n : Nat) (b : List Nat) (e : Ending) (w' : World) : Prop :=
  ∃ (z : Nat) (S' : Nat → List Nat) (L' : Nat → Option (List Nat)) (t' : Tr) (n' : Nat), e = .returned (.int .i64 (z : Int)) ∧ Jnl w' gJ gD gS gM S' L' t' g n false ∧ Turns (dk gD gS gM) W w' ∧ AppCase S L t g n false b z S' L' t' n'
theorem ja0 (gJ gD gS gM g n : Nat) (S : Nat → List Nat) (L : Nat → Option (List Nat)) (t : Tr) (v : Value) (b : List Nat) (B : Nat) (W : World) (h : Jnl W gJ gD gS gM S L t g n false) (hx : Bts W B v b) (hB : B ≤ W.heap.size) (hg : g < 4294967296) (hn : n < 64) (hl : b.length ≤ 50) :
    Calls Try.prog 26 #[.pointer (some ⟨gD, 0, none⟩), .int .u32 (g : Int), .int .i64 (n : Int), v] W (JA0 W gJ gD gS gM S L t g n b) := by
  refine (append_any gD gS gM 192 S L t g n v b B W h.2.1 (by omega) hx hB hl hg hn).mono ?_
  rintro e w' (⟨h1, h2, h3, h4⟩ | ⟨h1, h1', h2, h3, h4⟩ | ⟨h1, h1', h2, h3, h4⟩)
  · exact ⟨_, S, L, _, n, h2, ⟨h4.blk h.1 h.2.2, h3, h.2.2⟩, h4, .inr (.inr ⟨hl, rfl, hn, .inl ⟨h1, rfl, rfl, rfl, rfl, rfl⟩⟩)⟩
  · exact ⟨_, S, _, _, n, h2, ⟨h4.blk h.1 h.2.2, h3, h.2.2⟩, h4, .inr (.inr ⟨hl, rfl, hn, .inr (.inl ⟨h1, h1', rfl, rfl, rfl, rfl, rfl⟩)⟩)⟩
  · exact ⟨_, _, _, _, n + 1, h2, ⟨h4.blk h.1 h.2.2, h3, h.2.2⟩, h4, .inr (.inr ⟨hl, rfl, hn, .inr (.inr ⟨h1, h1', rfl, rfl, rfl, rfl, rfl⟩)⟩)⟩
theorem AppCase.count {S S' : Nat → List Nat} {L L' : Nat → Option (List Nat)} {t t' : Tr} {g n n' z : Nat} {b : List Nat} {br : Bool} (h : AppCase S L t g n br b z S' L' t' n') : (z = 0 ∧ n' = n + 1) ∨ (z ≠ 0 ∧ n' = n) := by
  rcases h with ⟨_, h2, _, _, _, h6⟩ | ⟨_, _, h3, _, _, _, h7⟩ | ⟨_, _, _, ⟨h4, h5, _, _, _, h7⟩ | ⟨_, h4, h5, _, _, _, h7⟩ | ⟨_, _, h5, _, _, _, h7⟩⟩
  · exact .inr ⟨by omega, h6⟩
  · exact .inr ⟨by omega, h7⟩
  · exact .inr ⟨by omega, h7⟩
  · exact .inr ⟨by omega, h7⟩
  · exact .inl ⟨h5, h7⟩
theorem jrnV_n (gD g n n' : Nat) (br : Bool) : (jrnV gD g n br).setIfInBounds 2 (.int .i64 (n' : Int)) = jrnV gD g n' br := rfl
theorem jrnV_g (gD g g' n : Nat) (br : Bool) : (jrnV gD g n br).setIfInBounds 1 (.int .u32 (g' : Int)) = jrnV gD g' n br := rfl
theorem jrnV_b (gD g n : Nat) (br br' : Bool) : (jrnV gD g n br).setIfInBounds 3 (.bool br') = jrnV gD g n br' := rfl
theorem Jnl.set_ {w : World} {gJ gD gS gM g n g' n' : Nat} {S : Nat → List Nat} {L : Nat → Option (List Nat)} {t : Tr} {br br' : Bool} (h : Jnl w gJ gD gS gM S L t g n br) {i : Nat} {u : Value} (hv : (jrnV gD g n br).setIfInBounds i u = jrnV gD g' n' br') : Jnl (w.setCell ⟨gJ, i, none⟩ u) gJ gD gS gM S L t g' n' br' := by
  have ho : Only gJ w (w.setCell ⟨gJ, i, none⟩ u) := (Only.refl _ _).setCell i u
  refine ⟨by rw [← hv]; exact h.1.set_ i u, ?_, h.2.2⟩
  have hne := h.2.2
  exact h.2.1.far (ho.1.block _ h.2.1.lt.1 (fun e => hne (.inl (by injection e with e; exact e.symm)))) (ho.1.block _ h.2.1.lt.2.1 (fun e => hne (.inr (.inl (by injection e with e; exact e.symm))))) (ho.1.block _ h.2.1.lt.2.2 (fun e => hne (.inr (.inr (by injection e with e; exact e.symm)))))
theorem Turns.jset {w w' : World} {gJ gD gS gM : Nat} (h : Turns (jk gJ gD gS gM) w w') (i : Nat) (u : Value) : Turns (jk gJ gD gS gM) w (w'.setCell ⟨gJ, i, none⟩ u) := h.trans (Turns.of_only ((Only.refl _ _).setCell i u) (.inl rfl))
set_option maxRecDepth 20000 in
set_option maxHeartbeats 1600000 in
theorem japp_any (gJ gD gS gM g n : Nat) (S : Nat → List Nat) (L : Nat → Option (List Nat)) (t : Tr) (br : Bool) (v : Value) (b : List Nat) (B : Nat) (w : World) (h : Jnl w gJ gD gS gM S L t g n br) (hx : Bts w B v b) (hB : B ≤ w.heap.size) (hg : g < 4294967296) (hn : n ≤ 64) :
    Calls Try.prog 11 #[.pointer (some ⟨gJ, 0, none⟩), v] w (JAppPost w gJ gD gS gM S L t g n br b) := by
  have HJ := Lib.hid h
  have HX := Lib.hid hx
  have HB := Lib.hid hB
  obtain ⟨A, l, c, rfl, hl, -⟩ := hx
  have HL := Lib.hid hl
  have c0 : w.cell? ⟨gJ, 0, none⟩ = some (.pointer (some ⟨gD, 0, none⟩)) := h.cell 0
  have c1 : w.cell? ⟨gJ, 1, none⟩ = some (.int .u32 (g : Int)) := h.cell 1
  have c2 : w.cell? ⟨gJ, 2, none⟩ = some (.int .i64 (n : Int)) := h.cell 2
  have c3 : w.cell? ⟨gJ, 3, none⟩ = some (.bool br) := h.cell 3
  clear h hB hl
  by_cases k1 : 50 < l
  · have t1 : decide ((50 : Int) < (l : Int)) = true := decide_eq_true (by omega)
    have K := Lib.hid (show 50 < b.length by rw [HL.out]; exact k1)
    clear k1
    go_enter Try.func11, Try.ntmps11
    go_wp2
    go_ret
    exact ⟨1, S, L, t, n, rfl, HJ.out, Turns.refl _ _, .inl ⟨K.out, rfl, rfl, rfl, rfl, rfl⟩⟩
  · have t1 : decide ((50 : Int) < (l : Int)) = false := decide_eq_false (by omega)
    have K := Lib.hid (show b.length ≤ 50 by rw [HL.out]; omega)
    clear k1
    cases br with
    | true =>
      go_enter Try.func11, Try.ntmps11
      go_wp2
      go_ret
      exact ⟨4, S, L, t, n, rfl, HJ.out, Turns.refl _ _, .inr (.inl ⟨K.out, .inl rfl, rfl, rfl, rfl, rfl, rfl⟩)⟩
    | false =>
      by_cases k2 : n < 64
      · have t2 : ((n : Int) == 64) = false := by simp; omega
        have hJD : ∀ w', Jnl w' gJ gD gS gM S L t g n false → w'.cell? ⟨gJ, 0, none⟩ = some (.pointer (some ⟨gD, 0, none⟩)) ∧ w'.cell? ⟨gJ, 1, none⟩ = some (.int .u32 (g : Int)) ∧ w'.cell? ⟨gJ, 2, none⟩ = some (.int .i64 (n : Int)) := fun w' h => ⟨h.cell 0, h.cell 1, h.cell 2⟩
        have AP := Lib.hid (ja0 gJ gD gS gM g n S L t (.slice A l c) b B w.drew HJ.out.drew (HX.out.keep (fun _ _ => rfl)) HB.out hg k2 K.out)
        clear hJD k2
        go_enter Try.func11, Try.ntmps11
        go_wp2_with fail
        go_region_held3 (fun w' => w'.cell? ⟨gJ, 0, none⟩ = some (.pointer (some ⟨gD, 0, none⟩)) ∧ w'.cell? ⟨gJ, 1, none⟩ = some (.int .u32 (g : Int)) ∧ w'.cell? ⟨gJ, 2, none⟩ = some (.int .i64 (n : Int)))
          (first | assumption | exact ⟨c0, c1, c2⟩ | exact ⟨hj.cell 0, hj.cell 1, hj.cell 2⟩)
          ((go_at_call 26; refine AP.out.mono ?_; rintro e w' ⟨z, S', L', t', n', rfl, hj, ht, hc⟩))
        have HJ1 := Lib.hid hj
        have HT1 := Lib.hid (show Turns (jk gJ gD gS gM) w w' from (show Turns (jk gJ gD gS gM) w w.drew from (Turns.refl _ _).drew).trans (ht.mono (fun k h => .inr h)))
        have HC := Lib.hid hc
        have c2' : w'.cell? ⟨gJ, 2, none⟩ = some (.int .i64 (n : Int)) := hj.cell 2
        have f2' : w'.frozen? ⟨gJ, 2, none⟩ = false := hj.1.frozen 2
        have hcount := hc.count
        clear hj ht hc
        by_cases k3 : z = 0
        · obtain ⟨_, hn'⟩ : z = 0 ∧ n' = n + 1 := by
            rcases hcount with h | h
            · exact h
            · exact absurd k3 h.1
          subst k3 hn'
          clear hcount
          go_wp2
          go_ret
          exact ⟨0, S', L', t', n + 1, rfl, HJ1.out.set_ (jrnV_n gD g n (n + 1) false), HT1.out.jset _ _, HC.out⟩
        · obtain ⟨_, hn'⟩ : z ≠ 0 ∧ n' = n := by
            rcases hcount with h | h
            · exact absurd h.1 k3
            · exact h
          subst hn'
          have t5 : ((z : Int) != 0) = true := by rw [bne_iff_ne]; omega
          have K3 := Lib.hid k3
          clear hcount k3
          go_wp2
          go_ret
          exact ⟨z, S', L', t', n', rfl, HJ1.out, HT1.out, HC.out⟩
      · have t2 : ((n : Int) == 64) = true := by simp; omega
        have K2 := Lib.hid (show 64 ≤ n by omega)
        clear k2
        go_enter Try.func11, Try.ntmps11
        go_wp2
        go_ret
        exact ⟨4, S, L, t, n, rfl, HJ.out, Turns.refl _ _, .inr (.inl ⟨K.out, .inr K2.out, rfl, rfl, rfl, rfl, rfl⟩)⟩

/-- What slot's Save leaves of a journal in memory. -/
def JR0 (W : World) (gJ gD gS gM : Nat) (S : Nat → List Nat) (L : Nat → Option (List Nat)) (t : Tr) (g n : Nat) (br : Bool) (b : List Nat) (e : Ending) (w' : World) : Prop :=
  ∃ (z : Nat) (S' : Nat → List Nat) (L' : Nat → Option (List Nat)) (t' : Tr), e = .returned (.int .i64 (z : Int)) ∧ Jnl w' gJ gD gS gM S' L' t' g n br ∧ Turns (dk gD gS gM) W w' ∧
    ((960 < b.length ∧ z = 1 ∧ S' = S ∧ L' = L ∧ t' = t) ∨ (b.length ≤ 960 ∧ z ≠ 0 ∧ z ≠ 1 ∧ SavBad S L t (g + 1) b z S' L' t') ∨ (b.length ≤ 960 ∧ z = 0 ∧ SavGood S L t (g + 1) b S' L' t'))
theorem jr0 (gJ gD gS gM g n : Nat) (S : Nat → List Nat) (L : Nat → Option (List Nat)) (t : Tr) (br : Bool) (v : Value) (b : List Nat) (W : World) (h : Jnl W gJ gD gS gM S L t g n br) (hx : Stay gD gS gM W v b) (hg : g + 1 < 4294967296) :
    Calls Try.prog 25 #[.pointer (some ⟨gD, 0, none⟩), .int .u32 ((g : Int) + 1), v] W (JR0 W gJ gD gS gM S L t g n br b) := by
  rw [show (g : Int) + 1 = ((g + 1 : Nat) : Int) by omega]
  by_cases hl : b.length ≤ 960
  · refine (save_any gD gS gM 192 S L t (g + 1) v b W h.2.1 (by omega) hx hl hg).mono ?_
    intro e w' hp
    obtain ⟨ht, z, S', L', t', he, hd, ⟨h1, h2⟩ | ⟨h1, h2⟩⟩ := savePost_cases hp
    · exact ⟨z, S', L', t', he, ⟨ht.blk h.1 h.2.2, hd, h.2.2⟩, ht, .inr (.inl ⟨hl, h1, by have := h2.ans; omega, h2⟩)⟩
    · exact ⟨z, S', L', t', he, ⟨ht.blk h.1 h.2.2, hd, h.2.2⟩, ht, .inr (.inr ⟨hl, h1, h2⟩)⟩
  · obtain ⟨B, ⟨A, l, c, rfl, e0, -⟩, -⟩ := hx.here
    refine (save_long gD _ A l c W (by omega)).mono ?_
    rintro e w' ⟨rfl, rfl⟩
    exact ⟨1, S, L, t, rfl, h, Turns.refl _ _, .inl ⟨by omega, rfl, rfl, rfl, rfl⟩⟩
/-- What a Rebase leaves. -/
def JRebPost (w : World) (gJ gD gS gM : Nat) (S : Nat → List Nat) (L : Nat → Option (List Nat)) (t : Tr) (g n : Nat) (br : Bool) (b : List Nat) (e : Ending) (w' : World) : Prop :=
  ∃ (z : Nat) (S' : Nat → List Nat) (L' : Nat → Option (List Nat)) (t' : Tr) (g' n' : Nat) (br' : Bool), e = .returned (.int .i64 (z : Int)) ∧ Jnl w' gJ gD gS gM S' L' t' g' n' br' ∧ Turns (jk gJ gD gS gM) w w' ∧ RebCase S L t g n br b z S' L' t' g' n' br'
set_option maxRecDepth 20000 in
set_option maxHeartbeats 1600000 in
theorem jreb_any (gJ gD gS gM g n : Nat) (S : Nat → List Nat) (L : Nat → Option (List Nat)) (t : Tr) (br : Bool) (v : Value) (b : List Nat) (w : World) (h : Jnl w gJ gD gS gM S L t g n br) (hx : Stay gD gS gM w v b) (hg : g + 1 < 4294967296) :
    Calls Try.prog 10 #[.pointer (some ⟨gJ, 0, none⟩), v] w (JRebPost w gJ gD gS gM S L t g n br b) := by
  have HJ := Lib.hid h
  have RP := Lib.hid (jr0 gJ gD gS gM g n S L t br v b w h hx hg)
  obtain ⟨B0, ⟨A, l, c, rfl, -⟩, -⟩ := hx.here
  have c0 : w.cell? ⟨gJ, 0, none⟩ = some (.pointer (some ⟨gD, 0, none⟩)) := h.cell 0
  have c1 : w.cell? ⟨gJ, 1, none⟩ = some (.int .u32 (g : Int)) := h.cell 1
  have n1 : IntKind.u32.wrap ((g : Int) + 1) = (g : Int) + 1 := by rw [IntKind.wrap_u32]; omega
  clear h hx
  go_enter Try.func10, Try.ntmps10
  go_wp2_with fail
  refine RP.out.mono ?_
  rintro e w' ⟨z, S', L', t', rfl, hj, ht, hc⟩
  have HJ1 := Lib.hid hj
  have HT1 := Lib.hid (show Turns (jk gJ gD gS gM) w w' from ht.mono (fun k h => .inr h))
  have c1' : w'.cell? ⟨gJ, 1, none⟩ = some (.int .u32 (g : Int)) := hj.cell 1
  have c2' : w'.cell? ⟨gJ, 2, none⟩ = some (.int .i64 (n : Int)) := hj.cell 2
  have c3' : w'.cell? ⟨gJ, 3, none⟩ = some (.bool br) := hj.cell 3
  have f1' : w'.frozen? ⟨gJ, 1, none⟩ = false := hj.1.frozen 1
  have f2' : w'.frozen? ⟨gJ, 2, none⟩ = false := hj.1.frozen 2
  have f3' : w'.frozen? ⟨gJ, 3, none⟩ = false := hj.1.frozen 3
  clear hj ht c0 c1
  rcases hc with ⟨h1, rfl, h3, h4, h5⟩ | ⟨h1, h2, h2', h3⟩ | ⟨h1, rfl, h3⟩
  · have HC := Lib.hid (show RebCase S L t g n br b 1 S' L' t' g n br from .inl ⟨h1, rfl, h3, h4, h5, rfl, rfl, rfl⟩)
    clear h1 h3 h4 h5
    go_wp2
    go_ret
    exact ⟨1, S', L', t', g, n, br, rfl, HJ1.out, HT1.out, HC.out⟩
  · have HC := Lib.hid (show RebCase S L t g n br b z S' L' t' g n true from .inr (.inl ⟨h1, h2, rfl, rfl, rfl, h3⟩))
    have t5 : ((z : Int) == 1) = false := by simp; omega
    have t6 : ((z : Int) == 0) = false := by simp; omega
    clear h1 h2 h2' h3
    go_wp2
    go_ret
    exact ⟨z, S', L', t', g, n, true, rfl, HJ1.out.set_ (jrnV_b gD g n br true), HT1.out.jset _ _, HC.out⟩
  · have HC := Lib.hid (show RebCase S L t g n br b 0 S' L' t' (g + 1) 0 false from .inr (.inr ⟨h1, rfl, rfl, rfl, rfl, h3⟩))
    clear h1 h3
    go_wp2
    go_ret
    exact ⟨0, S', L', t', g + 1, 0, false, rfl, ((HJ1.out.set_ (jrnV_g gD g (g + 1) n br)).set_ (jrnV_n gD (g + 1) n 0 br)).set_ (jrnV_b gD (g + 1) 0 br false), ((HT1.out.jset _ _).jset _ _).jset _ _, HC.out⟩
end Go.Proofs.Ytckabekimdcdcaa

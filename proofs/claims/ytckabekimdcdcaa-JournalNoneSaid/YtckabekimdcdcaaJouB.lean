/-
  A journal at a disk without trouble, of which no call has failed: Open, Append and Rebase; and layer 6's own question 'answers'.
  Conditions: the bytes are read in memory that the work does not turn.
-/
import Derived.Test.YtckabekimdcdcaaJouA
import Derived.Test.YtckabekimdcdcaaDiskI
import Derived.WalkLawsBesides
import Derived.Lib.SlBytesConst
import Derived.Lib.SmallJoins
import Derived.Outline
namespace Go.Proofs.Ytckabekimdcdcaa
open Go.RowKit
set_option linter.unusedVariables false

/-- What is found of a disk of which nothing failed. -/
theorem JInv.clean {g : Nat} {nb : List Nat} {rs : List (List Nat)} {S : Nat → List Nat} {L : Nat → Option (List Nat)} (h : JInv g nb rs [] [] S L) (hg : g + 1 < 4294967296) (h64 : ∀ f, f < 192 → (last S L f).length = 64) :
    loadR (last S L) = (g, nb) ∧ ∀ m, Stop (last S L) g m → pays (last S L) m = rs ∧ m = rs.length := by
  have hF : ∀ f, f < 192 → Val S L f (last S L f) := fun f _ => Val.last_ S L f
  refine ⟨?_, fun m hm => ?_⟩
  · rcases h.load hg hF h64 with h1 | ⟨b, h1, _⟩
    · exact h1
    · cases h1
  · have h2 : pays (last S L) m = rs := by
      rcases h.recs (by omega) hF hm with h1 | ⟨x, h1, _⟩
      · exact h1
      · cases h1
    exact ⟨h2, by rw [← h2, pays_length]⟩

/-- A journal of which nothing failed, at a disk in the first three blocks behind w. -/
def JC (w : World) (gJ g : Nat) (nb : List Nat) (rs : List (List Nat)) (wx : World) : Prop :=
  ∃ S L, Jnl wx gJ (w.heap.size + 2) w.heap.size (w.heap.size + 1) S L Tr.none_ g rs.length false ∧ JInv g nb rs [] [] S L ∧ Below w.heap.size w wx ∧ w.heap.size ≤ gJ
/-- Its disk alone. -/
def JDk (w : World) (g : Nat) (nb : List Nat) (rs : List (List Nat)) (wx : World) : Prop :=
  ∃ S L, Dsk wx (w.heap.size + 2) w.heap.size (w.heap.size + 1) 192 S L Tr.none_ ∧ JInv g nb rs [] [] S L ∧ Below w.heap.size w wx
theorem JC.disk {w wx : World} {gJ g : Nat} {nb : List Nat} {rs : List (List Nat)} (h : JC w gJ g nb rs wx) : JDk w g nb rs wx := by
  obtain ⟨S, L, h1, h2, h3, _⟩ := h
  exact ⟨S, L, h1.2.1, h2, h3⟩
theorem JC.below {w wx : World} {gJ g : Nat} {nb : List Nat} {rs : List (List Nat)} (h : JC w gJ g nb rs wx) : Below w.heap.size w wx := by
  obtain ⟨S, L, h1, h2, h3, _⟩ := h
  exact h3
theorem JDk.below {w wx : World} {g : Nat} {nb : List Nat} {rs : List (List Nat)} (h : JDk w g nb rs wx) : Below w.heap.size w wx := by
  obtain ⟨S, L, h1, h2, h3⟩ := h
  exact h3
theorem JC.fresh {w wx wy : World} {gJ g : Nat} {nb : List Nat} {rs : List (List Nat)} (h : JC w gJ g nb rs wx) (hb : Below wx.heap.size wx wy) : JC w gJ g nb rs wy := by
  obtain ⟨S, L, h1, h2, h3, h4⟩ := h
  exact ⟨S, L, h1.fresh hb, h2, h3.trans (hb.mono h3.size), h4⟩
theorem JDk.fresh {w wx wy : World} {g : Nat} {nb : List Nat} {rs : List (List Nat)} (h : JDk w g nb rs wx) (hb : Below wx.heap.size wx wy) : JDk w g nb rs wy := by
  obtain ⟨S, L, h1, h2, h3⟩ := h
  exact ⟨S, L, h1.fresh hb, h2, h3.trans (hb.mono h3.size)⟩
theorem JDk.start {w wx : World} (h : Dsk wx (w.heap.size + 2) w.heap.size (w.heap.size + 1) 192 (fun _ => zer) (fun _ => none) Tr.none_) (hb : Below w.heap.size w wx) : JDk w 0 [] [] wx := ⟨_, _, h, JInv.start, hb⟩
theorem jk_lo {w : World} {gJ : Nat} (h : w.heap.size ≤ gJ) : ∀ q, jk gJ (w.heap.size + 2) w.heap.size (w.heap.size + 1) q → w.heap.size ≤ q := by
  rintro q (e | e)
  · omega
  · exact dk_lo w q e
/-- What Open leaves. -/
def JCOpen (w wx : World) (g : Nat) (nb : List Nat) (rs : List (List Nat)) (e : Ending) (w' : World) : Prop :=
  ∃ gJ v1 v2, e = .returned (.tuple #[.pointer (some ⟨gJ, 0, none⟩), v1, v2, .int .i64 0]) ∧ w'.ownsRow wx.heap.size 5 1 v1 nb.length (nb.map bv) ∧ Lst w' (dk (w.heap.size + 2) w.heap.size (w.heap.size + 1)) 0 wx.heap.size 27 v2 rs ∧
    JC w gJ g nb rs w' ∧ Turns (dk (w.heap.size + 2) w.heap.size (w.heap.size + 1)) wx w' ∧ wx.heap.size ≤ gJ
theorem jc_open (w wx : World) (g : Nat) (nb : List Nat) (rs : List (List Nat)) (h : JDk w g nb rs wx) (hg : g + 1 < 4294967296) :
    Calls Try.prog 9 #[.pointer (some ⟨w.heap.size + 2, 0, none⟩)] wx (JCOpen w wx g nb rs) := by
  obtain ⟨S, L, h1, h2, h3⟩ := h
  obtain ⟨c1, c2⟩ := h2.clean hg (fun f hf => (h1.last_ hf).1)
  refine (jopen_ok _ _ _ S L wx h1).mono ?_
  rintro e w' ⟨gJ, v1, v2, m, rfl, hs, ho, hl, hj, hgJ, ht⟩
  rw [c1] at hs ho hj
  obtain ⟨c3, c4⟩ := c2 m hs
  rw [c3] at hl
  subst c4
  exact ⟨gJ, v1, v2, rfl, ho, hl, ⟨S, L, hj, h2, ht.fresh_ h3 (Nat.le_refl _) (by omega) (Nat.le_refl _) (by omega), Nat.le_trans h3.size hgJ⟩, ht, hgJ⟩
/-- What an Append that is done leaves. -/
def JCApp (w wx : World) (gJ g : Nat) (nb : List Nat) (rs : List (List Nat)) (e : Ending) (w' : World) : Prop :=
  e = .returned (.int .i64 0) ∧ JC w gJ g nb rs w' ∧ Turns (jk gJ (w.heap.size + 2) w.heap.size (w.heap.size + 1)) wx w'
theorem jc_app (w wx : World) (gJ g : Nat) (nb : List Nat) (rs : List (List Nat)) (v : Value) (b : List Nat) (B : Nat) (h : JC w gJ g nb rs wx) (hx : Bts wx B v b) (hB : B ≤ wx.heap.size) (hl : b.length ≤ 50) (hn : rs.length < 64) (hg : g < 4294967296) :
    Calls Try.prog 11 #[.pointer (some ⟨gJ, 0, none⟩), v] wx (JCApp w wx gJ g nb (rs ++ [b])) := by
  obtain ⟨S, L, h1, h2, h3, h4⟩ := h
  refine (japp_any gJ _ _ _ g rs.length S L _ false v b B wx h1 hx hB hg (by omega)).mono ?_
  rintro e w' ⟨z, S', L', t', n', rfl, hj, ht, hc⟩
  have hc2 := hc
  rcases h2.app (fun _ => rfl) hg hc with ⟨rfl, _, _, _, hn', hi⟩ | ⟨h5 | h5, _⟩ | ⟨h5, _⟩
  · have htt : t' = Tr.none_ := by
      rcases hc2 with ⟨c1, _⟩ | ⟨_, _, c1, _⟩ | ⟨_, _, _, ⟨c1, _⟩ | ⟨_, c1, _⟩ | ⟨_, _, _, _, _, c1, _⟩⟩
      · omega
      · omega
      · exact absurd none_ans c1
      · exact absurd none_ans c1
      · exact c1
    subst htt
    rw [hn'] at hj
    exact ⟨rfl, ⟨S', L', hj, hi, h3.trans ((ht.below (jk_lo h4) h3.size)), h4⟩, ht⟩
  · omega
  · rcases h5.2.2 with h6 | h6
    · cases h6
    · omega
  · exfalso
    rcases hc2 with ⟨c1, _⟩ | ⟨_, _, c1, _⟩ | ⟨_, _, _, ⟨c1, _⟩ | ⟨_, c1, _⟩ | ⟨_, _, c1, _⟩⟩
    · omega
    · omega
    · exact absurd none_ans c1
    · exact absurd none_ans c1
    · omega
theorem jc_reb (w wx : World) (gJ g : Nat) (nb : List Nat) (rs : List (List Nat)) (v : Value) (b : List Nat) (h : JC w gJ g nb rs wx) (hx : Stay (w.heap.size + 2) w.heap.size (w.heap.size + 1) wx v b) (hl : b.length ≤ 960) (hg : g + 1 < 4294967296) :
    Calls Try.prog 10 #[.pointer (some ⟨gJ, 0, none⟩), v] wx (JCApp w wx gJ (g + 1) b []) := by
  obtain ⟨S, L, h1, h2, h3, h4⟩ := h
  refine (jreb_any gJ _ _ _ g rs.length S L _ false v b wx h1 hx hg).mono ?_
  rintro e w' ⟨z, S', L', t', g', n', br', rfl, hj, ht, hc⟩
  rcases hc with ⟨c1, _⟩ | ⟨_, c1, _, _, _, c2⟩ | ⟨_, rfl, rfl, rfl, rfl, c2⟩
  · omega
  · exfalso
    rcases c2 with ⟨k, _, _, c3, _⟩ | ⟨_, ⟨c3, _⟩ | ⟨_, c3, _⟩⟩
    · rw [tn_none] at c3; exact absurd none_ans c3
    · rw [tn_none] at c3; exact absurd none_ans c3
    · rw [tn_none] at c3; exact absurd none_ans c3
  · have htt : t' = Tr.none_ := by rw [c2.2.2.2, tn_none]
    subst htt
    exact ⟨rfl, ⟨S', L', hj, h2.good hl hg c2, h3.trans ((ht.below (jk_lo h4) h3.size)), h4⟩, ht⟩

set_option maxRecDepth 20000 in
set_option maxHeartbeats 1600000 in
theorem jouAnswers_any (w : World) :
    Calls Try.prog 7 #[] w fun e w' => e = .returned (.bool true) ∧ Below w.heap.size w w' := by
  go_enter Try.func7, Try.ntmps7
  go_wp2_with fail
  refine (dnew_any 192 192 w (by unfold NearD; omega)).mono ?_
  rintro e w1 ⟨rfl, hd1, hb1, hz1⟩
  have HJ1 := Lib.hid (JDk.start hd1 hb1)
  have HZ1 := Lib.hid (show w.heap.size + 3 ≤ w1.heap.size by omega)
  clear hd1 hb1 hz1
  go_wp2_with fail
  refine (jc_open w w1 0 [] [] HJ1.out (by omega)).mono ?_
  rintro e w2 ⟨gJ, v1, v2, rfl, _, _, hj2, ht2, hgJ⟩
  obtain ⟨A1, c1, rfl⟩ : ∃ A c, v1 = .slice A 0 c := own_any (by assumption)
  have hbk : ∀ (W : World) (y : Nat), y < 256 → Bts (W.alloc (.cells #[.int .u8 (y : Int)] 5 (1, 2))) (W.heap.size + 1) (.slice (some ⟨W.heap.size, 0, none⟩) 1 1) [y] := fun W y hy =>
    ⟨_, 1, 1, rfl, rfl, by simp [maxLen], ⟨by omega, fun h => by cases h⟩, by simp [maxLen], (fun j hj => by match j, hj with | 0, _ => simpa using hy), fun _ => ⟨W.heap.size, 0, rfl, by omega, fun j hj => by
      match j, hj with
      | 0, _ => exact World.cell?_alloc_mark W _ _ _ 0⟩⟩
  have HBK := Lib.hid hbk
  have HJ2 := Lib.hid (hj2.fresh ((Below.refl _ _).alloc (Nat.le_refl _) (.cells #[.int .u8 98] 5 (1, 2))))
  have HZ2 := Lib.hid (show w.heap.size + 3 ≤ w2.heap.size from Nat.le_trans HZ1.out ht2.size)
  have HX2 := Lib.hid (Stay.of_ne (gD := w.heap.size + 2) (gS := w.heap.size) (gM := w.heap.size + 1) (HBK.out w2 98 (by omega)) (by simp) (by have := HZ2.out; rintro (e | e | e) <;> omega))
  have hcv := Lib.run_convert_bytes_const (P := Try.prog) w2 27 5 #[.int .u8 98] 1 1 Try.underlying27 Try.underlying5
  clear hj2 hbk
  go_wp2_with fail
  refine (jc_reb w _ gJ 0 [] [] _ [98] HJ2.out HX2.out (by simp) (by omega)).mono ?_
  rintro e w3 ⟨rfl, hj3, ht3⟩
  have HJ3 := Lib.hid (hj3.fresh ((Below.refl _ _).alloc (Nat.le_refl _) (.cells #[.int .u8 120] 5 (1, 2))))
  have HX3 := Lib.hid (HBK.out w3 120 (by omega))
  have hcv3 := Lib.run_convert_bytes_const (P := Try.prog) w3 27 5 #[.int .u8 120] 1 1 Try.underlying27 Try.underlying5
  clear hj3 ht3 hcv
  go_wp2_with fail
  refine (jc_app w _ gJ (0 + 1) [98] [] _ [120] _ HJ3.out HX3.out (by simp) (by simp) (by simp) (by omega)).mono ?_
  rintro e w4 ⟨rfl, hj4, ht4⟩
  have HJ4 := Lib.hid hj4
  clear hj4 ht4 hcv3
  go_wp2_with fail
  refine (jc_open w w4 (0 + 1) [98] ([] ++ [[120]]) HJ4.out.disk (by omega)).mono ?_
  rintro e w5 ⟨g5, v5, u5, rfl, ho5, hl5, hj5, ht5, _⟩
  have HJ5 := Lib.hid hj5
  obtain ⟨A5, c5, rfl, -⟩ := hl5.shape
  obtain ⟨g6, cap, rfl⟩ := own_shape ho5 (by simp)
  have hc0 : w5.cell? ⟨g6, 0, none⟩ = some (.int .u8 98) := by
    rw [ho5.cellAt 0 (by simp)]
    rfl
  have hst : (convert 27 9 (.slice (some ⟨g6, 0, none⟩) 1 cap)).run Try.prog w5 = .ok (.string ⟨#[98]⟩) w5 :=
    run_convert_bytes_back w5 27 9 5 ⟨g6, 0, none⟩ cap [98] Try.underlying27 Try.underlying5 Try.underlying9 (fun j hj => by
      match j, hj with
      | 0, _ => simp [Addr.add, hc0])
  obtain ⟨S5, L5, hjn, hb5⟩ : ∃ S L, Jnl w5 g5 (w.heap.size + 2) w.heap.size (w.heap.size + 1) S L Tr.none_ (0 + 1) 1 false ∧ Below w.heap.size w w5 := by
    obtain ⟨S, L, h1, _, h2, _⟩ := HJ5.out
    exact ⟨S, L, h1, h2⟩
  have HJN := Lib.hid hjn
  have HB5 := Lib.hid hb5
  clear ho5 hl5 hj5 ht5 hjn hb5
  go_wp2_with fail
  refine (jlen_any _ _ _ _ _ _ _ _ _ _ _ HJN.out).mono ?_
  rintro e w6 ⟨rfl, rfl⟩
  go_wp2
  go_ret
  exact ⟨by simp, HB5.out⟩
end Go.Proofs.Ytckabekimdcdcaa

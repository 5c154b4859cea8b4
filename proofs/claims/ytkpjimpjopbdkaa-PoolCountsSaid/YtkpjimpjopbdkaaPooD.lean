/-
  The contract of layer 10's statements' own 'do': an act, done by a pool and by the document's own, with the same answers.
  Conditions: the two are the same ahead of it; the act's frames are read in memory that was there before both.
-/
import Derived.Test.YtkpjimpjopbdkaaPooU
import Derived.Test.YtkpjimpjopbdkaaPooAct
import Derived.Test.YtkpjimpjopbdkaaRefF
import Derived.Test.YtkpjimpjopbdkaaRefB
import Derived.Deep.LoopGhost
import Derived.Deep.RegionHeld3
import Derived.BigQuiet
import Derived.StillTailTactics
namespace Go.Proofs.Ytkpjimpjopbdkaa
open Go.RowKit
set_option linter.unusedVariables false
attribute [local irreducible] ps0 badU spanU

/-- An act's cells. -/
def actV (x : Act10) : Array Value := #[.int .i64 x.what, .int .i64 x.a, .int .i64 x.b, .bool x.on, x.v]
/-- A pool p in block gS and the document's own q in block gV, both made since w0. -/
def Two (w0 w : World) (gS gV : Nat) (p q : PS) : Prop :=
  ∃ K, PoolMem w gS K p ∧ RefP w gV q ∧ (∀ k, K k → w0.heap.size ≤ k) ∧ w0.heap.size ≤ gV ∧ ¬ K gV ∧ Below w0.heap.size w0 w
/-- And an act in block gA. -/
def TwoA (w0 w : World) (gS gV gA : Nat) (x : Act10) (p q : PS) : Prop :=
  ∃ K, PoolMem w gS K p ∧ RefP w gV q ∧ (∀ k, K k → w0.heap.size ≤ k) ∧ w0.heap.size ≤ gV ∧ ¬ K gV ∧ Below w0.heap.size w0 w ∧
    Blk w gA 34 (actV x) ∧ ¬ K gA ∧ gA ≠ gV ∧ Its w0 w0.heap.size x.v x.bs
section
variable {w0 w w' : World} {gS gV gA : Nat} {p q : PS} {x : Act10}
theorem Two.bel (h : Two w0 w gS gV p q) : Below w0.heap.size w0 w := by obtain ⟨_, _, _, _, _, _, h⟩ := h; exact h
theorem Two.fresh (h : Two w0 w gS gV p q) (hb : Below w.heap.size w w') : Two w0 w' gS gV p q := by
  obtain ⟨K, h1, h2, h3, h4, h5, h6⟩ := h
  exact ⟨K, h1.fresh hb, h2.below hb h2.1.lt, h3, h4, h5, h6.trans (hb.mono h6.size)⟩
theorem Two.ok (h : Two w0 w gS gV p q) : PsOk p := by
  obtain ⟨K, h1, _⟩ := h
  exact h1.ok
theorem TwoA.two (h : TwoA w0 w gS gV gA x p q) : Two w0 w gS gV p q := by
  obtain ⟨K, h1, h2, h3, h4, h5, h6, _⟩ := h
  exact ⟨K, h1, h2, h3, h4, h5, h6⟩
theorem TwoA.cell (h : TwoA w0 w gS gV gA x p q) (i : Nat) : w.cell? ⟨gA, i, none⟩ = (actV x)[i]? := by
  obtain ⟨K, _, _, _, _, _, _, h, _⟩ := h
  exact h.cell i
theorem TwoA.fresh (h : TwoA w0 w gS gV gA x p q) (hb : Below w.heap.size w w') : TwoA w0 w' gS gV gA x p q := by
  obtain ⟨K, h1, h2, h3, h4, h5, h6, h7, h8, h9, h10⟩ := h
  exact ⟨K, h1.fresh hb, h2.below hb h2.1.lt, h3, h4, h5, h6.trans (hb.mono h6.size), h7.below hb h7.lt, h8, h9, h10⟩
theorem TwoA.drew (h : TwoA w0 w gS gV gA x p q) : TwoA w0 w.drew gS gV gA x p q := h.fresh (Below.refl _ _).drew
theorem Two.box (h : Two w0 w gS gV p q) (hx : Its w0 w0.heap.size x.v x.bs) : TwoA w0 (w.alloc (.cells (actV x) 34)) gS gV w.heap.size x p q := by
  have hb := (Below.refl w.heap.size w).alloc (Nat.le_refl _) (.cells (actV x) 34)
  obtain ⟨K, h1, h2, h3, h4, h5, h6⟩ := h
  exact ⟨K, h1.fresh hb, h2.below hb h2.1.lt, h3, h4, h5, h6.trans (hb.mono h6.size), Blk.new w _ _, fun h => by have := h1.lt _ h; omega, by have := h2.1.lt; omega, hx⟩
/-- What a call of the pool leaves. -/
theorem TwoA.post {K : Nat → Prop} {v : Value} {p' : PS} {e : Ending} (h1 : PoolMem w gS K p) (h2 : RefP w gV q) (h3 : ∀ k, K k → w0.heap.size ≤ k) (h4 : w0.heap.size ≤ gV) (h5 : ¬ K gV) (h6 : Below w0.heap.size w0 w)
    (h7 : Blk w gA 34 (actV x)) (h8 : ¬ K gA) (h9 : gA ≠ gV) (h10 : Its w0 w0.heap.size x.v x.bs) (hp : PoolPost w gS K v p' e w') : e = .returned v ∧ TwoA w0 w' gS gV gA x p' q := by
  obtain ⟨K', rfl, hm, hk, ht⟩ := hp
  refine ⟨rfl, K', hm, ⟨ht.blk h2.1 h5, h2.2⟩, fun k h => (hk k h).elim (h3 k) (fun h => Nat.le_trans h6.size h), h4, fun h => (hk _ h).elim h5 (fun h => by have := h2.1.lt; omega), h6.trans (ht.below h3 h6.size), ht.blk h7 h8, fun h => (hk _ h).elim h8 (fun h => by have := h7.lt; omega), h9, h10⟩
/-- What a call of the document's own leaves. -/
theorem TwoA.refd {q' : PS} (h : TwoA w0 w gS gV gA x p q) (hr : RefP w' gV q') (ht : Turns (fun k => k = gV) w w') : TwoA w0 w' gS gV gA x p q' := by
  obtain ⟨K, h1, h2, h3, h4, h5, h6, h7, h8, h9, h10⟩ := h
  exact ⟨K, h1.far (fun k hk => ht.block k (h1.lt k hk) (fun e => h5 (e ▸ hk))), hr, h3, h4, h5, h6.trans (ht.below (fun k e => e ▸ h4) h6.size), ht.blk h7 h9, h8, h9, h10⟩
theorem TwoA.ref (h : TwoA w0 w gS gV gA x p q) : RefP w gV q := by
  obtain ⟨K, _, h, _⟩ := h
  exact h
theorem TwoA.set_ {q' : PS} (h : TwoA w0 w gS gV gA x p q) {i : Nat} {u : Value} (hr : RefP (w.setCell ⟨gV, i, none⟩ u) gV q') : TwoA w0 (w.setCell ⟨gV, i, none⟩ u) gS gV gA x p q' := h.refd hr (Turns.of_only ((Only.refl _ _).setCell i u) rfl)

theorem ta_online (s z : Int) (h : TwoA w0 w gS gV gA x p q) :
    Calls Try.prog 15 #[.pointer (some ⟨gS, 0, none⟩), .int .i64 s, .int .i64 z, x.v] w fun e w' => e = .returned (.int .i64 (((onP p s z x.bs).1 : Nat) : Int)) ∧ TwoA w0 w' gS gV gA x (onP p s z x.bs).2 q := by
  obtain ⟨K, h1, h2, h3, h4, h5, h6, h7, h8, h9, h10⟩ := h
  exact (pool_online gS K p s z x.v x.bs w h1 ((h10.below h6).more h6.size) (h10.off h3)).mono fun e w' hp => TwoA.post h1 h2 h3 h4 h5 h6 h7 h8 h9 h10 hp
theorem ta_offline (s : Int) (h : TwoA w0 w gS gV gA x p q) :
    Calls Try.prog 16 #[.pointer (some ⟨gS, 0, none⟩), .int .i64 s] w fun e w' => e = .returned (.int .i64 (((offP p s).1 : Nat) : Int)) ∧ TwoA w0 w' gS gV gA x (offP p s).2 q := by
  obtain ⟨K, h1, h2, h3, h4, h5, h6, h7, h8, h9, h10⟩ := h
  exact (pool_offline gS K p s w h1).mono fun e w' hp => TwoA.post h1 h2 h3 h4 h5 h6 h7 h8 h9 h10 hp
theorem ta_alloc (use o : Int) (m : Bool) (h : TwoA w0 w gS gV gA x p q) :
    Calls Try.prog 17 #[.pointer (some ⟨gS, 0, none⟩), .int .i64 use, .int .i64 o, .bool m] w fun e w' => ∃ (f er : Nat) (p' : PS), AllocIs p use o m f er p' ∧ e = .returned (.tuple #[.int .i64 (f : Int), .int .i64 (er : Int)]) ∧ TwoA w0 w' gS gV gA x p' q := by
  obtain ⟨K, h1, h2, h3, h4, h5, h6, h7, h8, h9, h10⟩ := h
  refine (pool_alloc gS K p use o m w h1).mono ?_
  rintro e w' ⟨f, er, p', ha, hp⟩
  exact ⟨f, er, p', ha, TwoA.post h1 h2 h3 h4 h5 h6 h7 h8 h9 h10 hp⟩
theorem ta_free (f : Int) (h : TwoA w0 w gS gV gA x p q) :
    Calls Try.prog 18 #[.pointer (some ⟨gS, 0, none⟩), .int .i64 f] w fun e w' => e = .returned (.bool (freeP p f).1) ∧ TwoA w0 w' gS gV gA x (freeP p f).2 q := by
  obtain ⟨K, h1, h2, h3, h4, h5, h6, h7, h8, h9, h10⟩ := h
  exact (pool_free gS K p f w h1).mono fun e w' hp => TwoA.post h1 h2 h3 h4 h5 h6 h7 h8 h9 h10 hp
theorem ta_spoil (f : Int) (h : TwoA w0 w gS gV gA x p q) :
    Calls Try.prog 14 #[.pointer (some ⟨gS, 0, none⟩), .int .i64 f] w fun e w' => e = .returned (.bool (spoilP p f).1) ∧ TwoA w0 w' gS gV gA x (spoilP p f).2 q := by
  obtain ⟨K, h1, h2, h3, h4, h5, h6, h7, h8, h9, h10⟩ := h
  exact (pool_spoil gS K p f w h1).mono fun e w' hp => TwoA.post h1 h2 h3 h4 h5 h6 h7 h8 h9 h10 hp
theorem ta_isolate (s : Int) (b : Bool) (h : TwoA w0 w gS gV gA x p q) :
    Calls Try.prog 19 #[.pointer (some ⟨gS, 0, none⟩), .int .i64 s, .bool b] w fun e w' => e = .returned (.bool (isoP p s b).1) ∧ TwoA w0 w' gS gV gA x (isoP p s b).2 q := by
  obtain ⟨K, h1, h2, h3, h4, h5, h6, h7, h8, h9, h10⟩ := h
  exact (pool_isolate gS K p s b w h1).mono fun e w' hp => TwoA.post h1 h2 h3 h4 h5 h6 h7 h8 h9 h10 hp
theorem ta_ronline (s z : Int) (h : TwoA w0 w gS gV gA x p q) (hm : x.bs.length ≤ 1000000) :
    Calls Try.prog 22 #[.pointer (some ⟨gV, 0, none⟩), .int .i64 s, .int .i64 z, x.v] w fun e w' => e = .returned (.int .i64 (((onP q s z x.bs).1 : Nat) : Int)) ∧ TwoA w0 w' gS gV gA x p (onP q s z x.bs).2 := by
  obtain ⟨K, h1, h2, h3, h4, h5, h6, h7, h8, h9, h10⟩ := id h
  refine (refOn_any gV q s z x.v x.bs w h2 ((h10.below h6).more h6.size) (h10.off (fun k e => e ▸ h4)) hm).mono ?_
  rintro e w' ⟨rfl, hr, ht⟩
  exact ⟨rfl, h.refd hr ht⟩
theorem ta_roffline (s : Int) (h : TwoA w0 w gS gV gA x p q) :
    Calls Try.prog 23 #[.pointer (some ⟨gV, 0, none⟩), .int .i64 s] w fun e w' => e = .returned (.int .i64 (((offP q s).1 : Nat) : Int)) ∧ TwoA w0 w' gS gV gA x p (offP q s).2 := by
  refine (refOff_any gV q s w h.ref).mono ?_
  rintro e w' ⟨rfl, hr, ht⟩
  exact ⟨rfl, h.refd hr ht⟩
theorem ta_ralloc (use o : Int) (m : Bool) (h : TwoA w0 w gS gV gA x p q) :
    Calls Try.prog 24 #[.pointer (some ⟨gV, 0, none⟩), .int .i64 use, .int .i64 o, .bool m] w fun e w' => ∃ (f er : Nat) (q' : PS), AllocIs q use o m f er q' ∧ e = .returned (.tuple #[.int .i64 (f : Int), .int .i64 (er : Int)]) ∧ TwoA w0 w' gS gV gA x p q' := by
  refine (refAl_any gV q use o m w h.ref).mono ?_
  rintro e w' ⟨f, er, rfl, q', ha, hr, ht⟩
  exact ⟨f, er, q', ha, rfl, h.refd hr ht⟩
end
/-- What an act leaves. -/
def DoPost (w0 : World) (gS gV : Nat) (e : Ending) (w' : World) : Prop := ∃ p, e = .returned (.bool true) ∧ Two w0 w' gS gV p p
theorem TwoA.done {w0 w' : World} {gS gV gA : Nat} {p : PS} {x : Act10} (h : TwoA w0 w' gS gV gA x p p) : DoPost w0 gS gV (.returned (.bool true)) w' := ⟨p, rfl, h.two⟩
set_option maxRecDepth 20000 in
set_option maxHeartbeats 3200000 in
theorem do_0 (w0 w : World) (gS gV : Nat) (p : PS) (a b : Int) (on : Bool) (Av : Option Addr) (nv cv : Nat) (bs : List Int) (h : Two w0 w gS gV p p) (hx : Its w0 w0.heap.size (.slice Av nv cv) bs) (hm : bs.length ≤ 100) :
    Calls Try.prog 11 #[.pointer (some ⟨gS, 0, none⟩), .pointer (some ⟨gV, 0, none⟩), .agg #[.int .i64 0, .int .i64 a, .int .i64 b, .bool on, .slice Av nv cv]] w (DoPost w0 gS gV) := by
  obtain ⟨x, hxx⟩ : ∃ x : Act10, x = ⟨0, a, b, on, .slice Av nv cv, bs⟩ := ⟨_, rfl⟩
  have H := Lib.hid (show TwoA w0 (w.alloc (.cells #[.int .i64 0, .int .i64 a, .int .i64 b, .bool on, .slice Av nv cv] 34)) gS gV w.heap.size x p p from by rw [hxx]; exact h.box (x := ⟨0, a, b, on, .slice Av nv cv, bs⟩) hx)
  have KP := Lib.hid (fun (W : World) (p q : PS) (hW : TwoA w0 W gS gV w.heap.size x p q) => (⟨by rw [hW.cell, hxx]; rfl, by rw [hW.cell, hxx]; rfl, by rw [hW.cell, hxx]; rfl⟩ : W.cell? ⟨w.heap.size, 1, none⟩ = some (.int .i64 a) ∧ W.cell? ⟨w.heap.size, 2, none⟩ = some (.int .i64 b) ∧ W.cell? ⟨w.heap.size, 4, none⟩ = some (.slice Av nv cv)))
  have C1 := Lib.hid (fun (W : World) (p q : PS) (hW : TwoA w0 W gS gV w.heap.size x p q) => (show Calls Try.prog 15 #[.pointer (some ⟨gS, 0, none⟩), .int .i64 a, .int .i64 b, .slice Av nv cv] W fun e w' => e = .returned (.int .i64 (((onP p a b bs).1 : Nat) : Int)) ∧ TwoA w0 w' gS gV w.heap.size x (onP p a b bs).2 q from by have := ta_online a b hW; rw [hxx] at this ⊢; exact this))
  have C2 := Lib.hid (fun (W : World) (p q : PS) (hW : TwoA w0 W gS gV w.heap.size x p q) => (show Calls Try.prog 22 #[.pointer (some ⟨gV, 0, none⟩), .int .i64 a, .int .i64 b, .slice Av nv cv] W fun e w' => e = .returned (.int .i64 (((onP q a b bs).1 : Nat) : Int)) ∧ TwoA w0 w' gS gV w.heap.size x p (onP q a b bs).2 from by have := ta_ronline a b hW (by rw [hxx]; show bs.length ≤ _; omega); rw [hxx] at this ⊢; exact this))
  clear h hx hm hxx
  go_enter Try.func11, Try.ntmps11
  go_wp2_with fail
  all_goals
    go_region_held3 (fun w' => w'.cell? ⟨w.heap.size, 1, none⟩ = some (.int .i64 a) ∧ w'.cell? ⟨w.heap.size, 2, none⟩ = some (.int .i64 b) ∧ w'.cell? ⟨w.heap.size, 4, none⟩ = some (.slice Av nv cv))
      (first | assumption | exact KP.out _ _ _ H.out | exact KP.out _ _ _ H.out.drew | exact KP.out _ _ _ (by assumption))
      (first
        | (go_at_call 15; refine (C1.out _ _ _ H.out.drew).mono ?_; rintro e w' ⟨rfl, h1⟩)
        | (go_at_call 22; refine (C2.out _ _ _ (by assumption)).mono ?_; rintro e w' ⟨rfl, h2⟩))
    all_goals
      have H2 := Lib.hid h2
      clear h2
      go_wp2
      go_ret
      exact H2.out.done
set_option maxRecDepth 20000 in
set_option maxHeartbeats 3200000 in
theorem do_1 (w0 w : World) (gS gV : Nat) (p : PS) (a b : Int) (on : Bool) (Av : Option Addr) (nv cv : Nat) (bs : List Int) (h : Two w0 w gS gV p p) (hx : Its w0 w0.heap.size (.slice Av nv cv) bs) (hm : bs.length ≤ 100) :
    Calls Try.prog 11 #[.pointer (some ⟨gS, 0, none⟩), .pointer (some ⟨gV, 0, none⟩), .agg #[.int .i64 1, .int .i64 a, .int .i64 b, .bool on, .slice Av nv cv]] w (DoPost w0 gS gV) := by
  obtain ⟨x, hxx⟩ : ∃ x : Act10, x = ⟨1, a, b, on, .slice Av nv cv, bs⟩ := ⟨_, rfl⟩
  have H := Lib.hid (show TwoA w0 (w.alloc (.cells #[.int .i64 1, .int .i64 a, .int .i64 b, .bool on, .slice Av nv cv] 34)) gS gV w.heap.size x p p from by rw [hxx]; exact h.box (x := ⟨1, a, b, on, .slice Av nv cv, bs⟩) hx)
  have KP := Lib.hid (fun (W : World) (p q : PS) (hW : TwoA w0 W gS gV w.heap.size x p q) => (by rw [hW.cell, hxx]; rfl : W.cell? ⟨w.heap.size, 1, none⟩ = some (.int .i64 a)))
  have C1 := Lib.hid (fun (W : World) (p q : PS) (hW : TwoA w0 W gS gV w.heap.size x p q) => (show Calls Try.prog 16 #[.pointer (some ⟨gS, 0, none⟩), .int .i64 a] W fun e w' => e = .returned (.int .i64 (((offP p a).1 : Nat) : Int)) ∧ TwoA w0 w' gS gV w.heap.size x (offP p a).2 q from by have := ta_offline a hW; exact this))
  have C2 := Lib.hid (fun (W : World) (p q : PS) (hW : TwoA w0 W gS gV w.heap.size x p q) => (show Calls Try.prog 23 #[.pointer (some ⟨gV, 0, none⟩), .int .i64 a] W fun e w' => e = .returned (.int .i64 (((offP q a).1 : Nat) : Int)) ∧ TwoA w0 w' gS gV w.heap.size x p (offP q a).2 from by have := ta_roffline a hW; exact this))
  clear h hx hm hxx
  go_enter Try.func11, Try.ntmps11
  go_wp2_with fail
  all_goals
    go_region_held3 (fun w' => w'.cell? ⟨w.heap.size, 1, none⟩ = some (.int .i64 a))
      (first | assumption | exact KP.out _ _ _ H.out | exact KP.out _ _ _ H.out.drew | exact KP.out _ _ _ (by assumption))
      (first
        | (go_at_call 16; refine (C1.out _ _ _ H.out.drew).mono ?_; rintro e w' ⟨rfl, h1⟩)
        | (go_at_call 23; refine (C2.out _ _ _ (by assumption)).mono ?_; rintro e w' ⟨rfl, h2⟩))
    all_goals
      have H2 := Lib.hid h2
      clear h2
      go_wp2
      go_ret
      exact H2.out.done
set_option maxRecDepth 20000 in
set_option maxHeartbeats 3200000 in
theorem do_2 (w0 w : World) (gS gV : Nat) (p : PS) (a b : Int) (on : Bool) (Av : Option Addr) (nv cv : Nat) (bs : List Int) (h : Two w0 w gS gV p p) (hx : Its w0 w0.heap.size (.slice Av nv cv) bs) (hm : bs.length ≤ 100) :
    Calls Try.prog 11 #[.pointer (some ⟨gS, 0, none⟩), .pointer (some ⟨gV, 0, none⟩), .agg #[.int .i64 2, .int .i64 a, .int .i64 b, .bool on, .slice Av nv cv]] w (DoPost w0 gS gV) := by
  obtain ⟨x, hxx⟩ : ∃ x : Act10, x = ⟨2, a, b, on, .slice Av nv cv, bs⟩ := ⟨_, rfl⟩
  have hok := h.ok
  have H := Lib.hid (show TwoA w0 (w.alloc (.cells #[.int .i64 2, .int .i64 a, .int .i64 b, .bool on, .slice Av nv cv] 34)) gS gV w.heap.size x p p from by rw [hxx]; exact h.box (x := ⟨2, a, b, on, .slice Av nv cv, bs⟩) hx)
  have KP := Lib.hid (fun (W : World) (p q : PS) (hW : TwoA w0 W gS gV w.heap.size x p q) => (⟨by rw [hW.cell, hxx]; rfl, by rw [hW.cell, hxx]; rfl, by rw [hW.cell, hxx]; rfl⟩ : W.cell? ⟨w.heap.size, 1, none⟩ = some (.int .i64 a) ∧ W.cell? ⟨w.heap.size, 2, none⟩ = some (.int .i64 b) ∧ W.cell? ⟨w.heap.size, 3, none⟩ = some (.bool on)))
  have C1 := Lib.hid (ta_alloc a b on H.out)
  clear h hx hm hxx
  go_enter Try.func11, Try.ntmps11
  go_wp2_with fail
  all_goals
    refine C1.out.mono ?_
    rintro e w1 ⟨f, er, p1, ha, rfl, h1⟩
    have HA := Lib.hid ha
    have C2 := Lib.hid (ta_ralloc a b on h1)
    obtain ⟨k1, k2, k3⟩ := KP.out _ _ _ h1
    clear ha h1
    go_wp2_with fail
    refine C2.out.mono ?_
    rintro e w2 ⟨f', er', q1, ha', rfl, h2⟩
    obtain ⟨rfl, rfl, rfl⟩ := HA.out.uniq ha'
    have H2 := Lib.hid h2
    have e1 : (f == f) = true := by simp
    have e2 : (er == er) = true := by simp
    clear ha' h2 k1 k2 k3
    go_wp2
    go_ret
    exact H2.out.done
set_option maxRecDepth 20000 in
set_option maxHeartbeats 3200000 in
theorem do_3 (w0 w : World) (gS gV : Nat) (p : PS) (a b : Int) (on : Bool) (Av : Option Addr) (nv cv : Nat) (bs : List Int) (h : Two w0 w gS gV p p) (hx : Its w0 w0.heap.size (.slice Av nv cv) bs) (hm : bs.length ≤ 100) :
    Calls Try.prog 11 #[.pointer (some ⟨gS, 0, none⟩), .pointer (some ⟨gV, 0, none⟩), .agg #[.int .i64 3, .int .i64 a, .int .i64 b, .bool on, .slice Av nv cv]] w (DoPost w0 gS gV) := by
  obtain ⟨x, hxx⟩ : ∃ x : Act10, x = ⟨3, a, b, on, .slice Av nv cv, bs⟩ := ⟨_, rfl⟩
  have hok := h.ok
  have H := Lib.hid (show TwoA w0 (w.alloc (.cells #[.int .i64 3, .int .i64 a, .int .i64 b, .bool on, .slice Av nv cv] 34)) gS gV w.heap.size x p p from by rw [hxx]; exact h.box (x := ⟨3, a, b, on, .slice Av nv cv, bs⟩) hx)
  have KP := Lib.hid (fun (W : World) (p q : PS) (hW : TwoA w0 W gS gV w.heap.size x p q) => (⟨by rw [hW.cell, hxx]; rfl, by rw [hW.cell, hxx]; rfl, by rw [hW.cell, hxx]; rfl⟩ : W.cell? ⟨w.heap.size, 1, none⟩ = some (.int .i64 a) ∧ W.cell? ⟨w.heap.size, 2, none⟩ = some (.int .i64 b) ∧ W.cell? ⟨w.heap.size, 3, none⟩ = some (.bool on)))
  have C1 := Lib.hid (fun (W : World) (q : PS) (hW : TwoA w0 W gS gV w.heap.size x p q) => ta_free a hW)
  clear h hx hm hxx
  by_cases c : 0 ≤ a ∧ a < 1024
  · obtain ⟨z, rfl⟩ := Int.eq_ofNat_of_zero_le c.1
    have hz : z < 1024 := by omega
    have hz0 : (0 : Int) ≤ (z : Int) := by omega
    have hz1 : (z : Int) < 1024 := by omega
    have dz0 : decide ((0 : Int) ≤ (z : Int)) = true := decide_eq_true hz0
    have dz1 : decide ((z : Int) < 1024) = true := decide_eq_true hz1
    obtain ⟨k1, k2, k3⟩ := KP.out _ _ _ H.out
    obtain ⟨y, hy⟩ : ∃ y, y = p.u.getD z 0 := ⟨_, rfl⟩
    have cu : (w.alloc (.cells #[.int .i64 3, .int .i64 (z : Int), .int .i64 b, .bool on, .slice Av nv cv] 34)).cell? ⟨gV, z, none⟩ = some (.int .i64 (y : Int)) := by rw [hy]; exact H.out.ref.cu hz
    have fu : (w.alloc (.cells #[.int .i64 3, .int .i64 (z : Int), .int .i64 b, .bool on, .slice Av nv cv] 34)).frozen? ⟨gV, z, none⟩ = false := H.out.ref.fz _
    have US := Lib.hid (fun q => (show Calls Try.prog 25 #[.int .i64 (y : Int)] ((w.alloc (.cells #[.int .i64 3, .int .i64 (z : Int), .int .i64 b, .bool on, .slice Av nv cv] 34)).drewN q) fun e w' => e = .returned (.bool (decide (2 ≤ y) && decide (y ≤ 5))) ∧ ∃ q', w' = (w.alloc (.cells #[.int .i64 3, .int .i64 (z : Int), .int .i64 b, .bool on, .slice Av nv cv] 34)).drewN q' from (used_any y _).mono (by rintro e w' ⟨rfl, rfl⟩; exact ⟨rfl, q, rfl⟩)))
    by_cases cy : 2 ≤ y ∧ y ≤ 5
    · have hfp : freeP p (z : Int) = (true, ⟨p.u.set z 1, p.z, p.i⟩) := by
        unfold freeP
        rw [useP_in p hz, ← hy, if_pos cy, Int.toNat_natCast]
      rw [hfp] at C1
      clear hfp
      have us : (decide (2 ≤ y) && decide (y ≤ 5)) = true := by simp; omega
      simp only [us] at US
      have HY := Lib.hid hy
      clear hy c
      go_enter Try.func11, Try.ntmps11
      go_wp2_with fail
      go_quiet (first | (go_at_call 25; exact US.out _))
      go_wp2_with fail
      generalize hW : (w.alloc (.cells #[.int .i64 3, .int .i64 (z : Int), .int .i64 b, .bool on, .slice Av nv cv] 34)).drewN nq = W at *
      have k1' : W.cell? ⟨w.heap.size, 1, none⟩ = some (.int .i64 (z : Int)) := by rw [← hW]; exact k1
      have k3' : W.cell? ⟨w.heap.size, 3, none⟩ = some (.bool on) := by rw [← hW]; exact k3
      have cu' : W.cell? ⟨gV, z, none⟩ = some (.int .i64 (y : Int)) := by rw [← hW]; exact cu
      have fu' : W.frozen? ⟨gV, z, none⟩ = false := by rw [← hW]; exact H.out.ref.fz _
      have HW := Lib.hid hW
      clear hW cu fu k1 k2 k3
      go_still_tail 6, (by kernel_rfl)
      obtain ⟨W2, hW2⟩ : ∃ W2, W2 = W.drew := ⟨_, rfl⟩
      change wpList _ _ _ _ _ W.drew
      rw [← hW2]
      have k12 : W2.cell? ⟨w.heap.size, 1, none⟩ = some (.int .i64 (z : Int)) := by rw [hW2]; exact k1'
      have k32 : W2.cell? ⟨w.heap.size, 3, none⟩ = some (.bool on) := by rw [hW2]; exact k3'
      have cu2 : W2.cell? ⟨gV, z, none⟩ = some (.int .i64 (y : Int)) := by rw [hW2]; exact cu'
      have fu2 : W2.frozen? ⟨gV, z, none⟩ = false := by rw [hW2]; exact fu'
      have HT := Lib.hid (show TwoA w0 W2 gS gV w.heap.size x p p from by
        rw [hW2, ← HW.out]
        exact H.out.fresh (below_drewN (Below.refl _ _) nq).drew)
      have HT2 := Lib.hid (show TwoA w0 (W2.setCell ⟨gV, z, none⟩ (.int .i64 1)) gS gV w.heap.size x p ⟨p.u.set z 1, p.z, p.i⟩ from HT.out.set_ (HT.out.ref.su (v := 1) hz (by omega)))
      have C2 := Lib.hid (C1.out _ _ HT2.out)
      obtain ⟨l1, l2, l3⟩ := KP.out _ _ _ HT2.out
      clear hW2 k1' k3' cu' fu' HW
      go_wp2_with fail
      refine C2.out.mono ?_
      rintro e w3 ⟨rfl, h3⟩
      have H3 := Lib.hid h3
      clear h3
      go_wp2
      go_ret
      exact H3.out.done
    · have hfp : freeP p (z : Int) = (false, p) := by
        unfold freeP
        rw [useP_in p hz, ← hy, if_neg cy]
      rw [hfp] at C1
      clear hfp
      have us : (decide (2 ≤ y) && decide (y ≤ 5)) = false := by simp; omega
      simp only [us] at US
      have HY := Lib.hid hy
      clear hy c
      go_enter Try.func11, Try.ntmps11
      go_wp2_with fail
      go_quiet (first | (go_at_call 25; exact US.out _))
      go_wp2_with fail
      refine (C1.out _ _ (H.out.fresh (below_drewN (Below.refl _ _) nq))).mono ?_
      rintro e w3 ⟨rfl, h3⟩
      have H3 := Lib.hid h3
      clear h3
      go_wp2
      go_ret
      exact H3.out.done
  · have hfp : freeP p a = (false, p) := by
      unfold freeP useP
      rw [if_neg c, if_neg (by omega)]
    rw [hfp] at C1
    clear hfp
    obtain ⟨k1, k2, k3⟩ := KP.out _ _ _ H.out
    by_cases c1 : 0 ≤ a
    · have t1 : decide (0 ≤ a) = true := decide_eq_true c1
      have t2 : decide (a < 1024) = false := decide_eq_false (by omega)
      clear c
      go_enter Try.func11, Try.ntmps11
      go_wp2_with fail
      all_goals
        go_quiet (fail)
        go_wp2_with fail
        refine (C1.out _ _ (H.out.fresh (below_drewN (Below.refl _ _) nq))).mono ?_
        rintro e w3 ⟨rfl, h3⟩
        have H3 := Lib.hid h3
        clear h3
        go_wp2
        go_ret
        exact H3.out.done
    · have t1 : decide (0 ≤ a) = false := decide_eq_false c1
      clear c
      go_enter Try.func11, Try.ntmps11
      go_wp2_with fail
      go_quiet (fail)
      go_wp2_with fail
      refine (C1.out _ _ (H.out.fresh (below_drewN (Below.refl _ _) nq))).mono ?_
      rintro e w3 ⟨rfl, h3⟩
      have H3 := Lib.hid h3
      clear h3
      go_wp2
      go_ret
      exact H3.out.done
set_option maxRecDepth 20000 in
set_option maxHeartbeats 3200000 in
theorem do_4 (w0 w : World) (gS gV : Nat) (p : PS) (a b : Int) (on : Bool) (Av : Option Addr) (nv cv : Nat) (bs : List Int) (h : Two w0 w gS gV p p) (hx : Its w0 w0.heap.size (.slice Av nv cv) bs) (hm : bs.length ≤ 100) :
    Calls Try.prog 11 #[.pointer (some ⟨gS, 0, none⟩), .pointer (some ⟨gV, 0, none⟩), .agg #[.int .i64 4, .int .i64 a, .int .i64 b, .bool on, .slice Av nv cv]] w (DoPost w0 gS gV) := by
  obtain ⟨x, hxx⟩ : ∃ x : Act10, x = ⟨4, a, b, on, .slice Av nv cv, bs⟩ := ⟨_, rfl⟩
  have hok := h.ok
  have H := Lib.hid (show TwoA w0 (w.alloc (.cells #[.int .i64 4, .int .i64 a, .int .i64 b, .bool on, .slice Av nv cv] 34)) gS gV w.heap.size x p p from by rw [hxx]; exact h.box (x := ⟨4, a, b, on, .slice Av nv cv, bs⟩) hx)
  have KP := Lib.hid (fun (W : World) (p q : PS) (hW : TwoA w0 W gS gV w.heap.size x p q) => (⟨by rw [hW.cell, hxx]; rfl, by rw [hW.cell, hxx]; rfl, by rw [hW.cell, hxx]; rfl⟩ : W.cell? ⟨w.heap.size, 1, none⟩ = some (.int .i64 a) ∧ W.cell? ⟨w.heap.size, 2, none⟩ = some (.int .i64 b) ∧ W.cell? ⟨w.heap.size, 3, none⟩ = some (.bool on)))
  have C1 := Lib.hid (fun (W : World) (q : PS) (hW : TwoA w0 W gS gV w.heap.size x p q) => ta_spoil a hW)
  clear h hx hm hxx
  by_cases c : 0 ≤ a ∧ a < 1024
  · obtain ⟨z, rfl⟩ := Int.eq_ofNat_of_zero_le c.1
    have hz : z < 1024 := by omega
    have hz0 : (0 : Int) ≤ (z : Int) := by omega
    have hz1 : (z : Int) < 1024 := by omega
    have dz0 : decide ((0 : Int) ≤ (z : Int)) = true := decide_eq_true hz0
    have dz1 : decide ((z : Int) < 1024) = true := decide_eq_true hz1
    obtain ⟨k1, k2, k3⟩ := KP.out _ _ _ H.out
    obtain ⟨y, hy⟩ : ∃ y, y = p.u.getD z 0 := ⟨_, rfl⟩
    have cu : (w.alloc (.cells #[.int .i64 4, .int .i64 (z : Int), .int .i64 b, .bool on, .slice Av nv cv] 34)).cell? ⟨gV, z, none⟩ = some (.int .i64 (y : Int)) := by rw [hy]; exact H.out.ref.cu hz
    have fu : (w.alloc (.cells #[.int .i64 4, .int .i64 (z : Int), .int .i64 b, .bool on, .slice Av nv cv] 34)).frozen? ⟨gV, z, none⟩ = false := H.out.ref.fz _
    by_cases cy : y ≠ 6
    · have hfp : spoilP p (z : Int) = (true, ⟨p.u.set z 6, p.z, p.i⟩) := by
        unfold spoilP
        rw [useP_in p hz, ← hy, if_pos ⟨c, cy⟩, Int.toNat_natCast]
      rw [hfp] at C1
      clear hfp
      have u6 : ((y : Int) != 6) = true := by rw [bne_iff_ne]; omega
      have HY := Lib.hid hy
      clear hy c
      go_enter Try.func11, Try.ntmps11
      go_wp2_with fail
      go_quiet (fail)
      go_wp2_with fail
      generalize hW : (w.alloc (.cells #[.int .i64 4, .int .i64 (z : Int), .int .i64 b, .bool on, .slice Av nv cv] 34)).drewN nq = W at *
      have k1' : W.cell? ⟨w.heap.size, 1, none⟩ = some (.int .i64 (z : Int)) := by rw [← hW]; exact k1
      have k3' : W.cell? ⟨w.heap.size, 3, none⟩ = some (.bool on) := by rw [← hW]; exact k3
      have cu' : W.cell? ⟨gV, z, none⟩ = some (.int .i64 (y : Int)) := by rw [← hW]; exact cu
      have fu' : W.frozen? ⟨gV, z, none⟩ = false := by rw [← hW]; exact H.out.ref.fz _
      have HW := Lib.hid hW
      clear hW cu fu k1 k2 k3
      go_still_tail 6, (by kernel_rfl)
      obtain ⟨W2, hW2⟩ : ∃ W2, W2 = W.drew := ⟨_, rfl⟩
      change wpList _ _ _ _ _ W.drew
      rw [← hW2]
      have k12 : W2.cell? ⟨w.heap.size, 1, none⟩ = some (.int .i64 (z : Int)) := by rw [hW2]; exact k1'
      have k32 : W2.cell? ⟨w.heap.size, 3, none⟩ = some (.bool on) := by rw [hW2]; exact k3'
      have cu2 : W2.cell? ⟨gV, z, none⟩ = some (.int .i64 (y : Int)) := by rw [hW2]; exact cu'
      have fu2 : W2.frozen? ⟨gV, z, none⟩ = false := by rw [hW2]; exact fu'
      have HT := Lib.hid (show TwoA w0 W2 gS gV w.heap.size x p p from by
        rw [hW2, ← HW.out]
        exact H.out.fresh (below_drewN (Below.refl _ _) nq).drew)
      have HT2 := Lib.hid (show TwoA w0 (W2.setCell ⟨gV, z, none⟩ (.int .i64 6)) gS gV w.heap.size x p ⟨p.u.set z 6, p.z, p.i⟩ from HT.out.set_ (HT.out.ref.su (v := 6) hz (by omega)))
      have C2 := Lib.hid (C1.out _ _ HT2.out)
      obtain ⟨l1, l2, l3⟩ := KP.out _ _ _ HT2.out
      clear hW2 k1' k3' cu' fu' HW
      go_wp2_with fail
      refine C2.out.mono ?_
      rintro e w3 ⟨rfl, h3⟩
      have H3 := Lib.hid h3
      clear h3
      go_wp2
      go_ret
      exact H3.out.done
    · have hfp : spoilP p (z : Int) = (false, p) := by
        unfold spoilP
        rw [useP_in p hz, ← hy, if_neg (fun h => cy h.2)]
      rw [hfp] at C1
      clear hfp
      have u6 : ((y : Int) != 6) = false := by rw [bne_eq_false_iff_eq]; omega
      have HY := Lib.hid hy
      clear hy c
      go_enter Try.func11, Try.ntmps11
      go_wp2_with fail
      go_quiet (fail)
      go_wp2_with fail
      refine (C1.out _ _ (H.out.fresh (below_drewN (Below.refl _ _) nq))).mono ?_
      rintro e w3 ⟨rfl, h3⟩
      have H3 := Lib.hid h3
      clear h3
      go_wp2
      go_ret
      exact H3.out.done
  · have hfp : spoilP p a = (false, p) := by
      unfold spoilP
      rw [if_neg (fun h => c h.1)]
    rw [hfp] at C1
    clear hfp
    obtain ⟨k1, k2, k3⟩ := KP.out _ _ _ H.out
    by_cases c1 : 0 ≤ a
    · have t1 : decide (0 ≤ a) = true := decide_eq_true c1
      have t2 : decide (a < 1024) = false := decide_eq_false (by omega)
      clear c
      go_enter Try.func11, Try.ntmps11
      go_wp2_with fail
      all_goals
        go_quiet (fail)
        go_wp2_with fail
        refine (C1.out _ _ (H.out.fresh (below_drewN (Below.refl _ _) nq))).mono ?_
        rintro e w3 ⟨rfl, h3⟩
        have H3 := Lib.hid h3
        clear h3
        go_wp2
        go_ret
        exact H3.out.done
    · have t1 : decide (0 ≤ a) = false := decide_eq_false c1
      clear c
      go_enter Try.func11, Try.ntmps11
      go_wp2_with fail
      go_quiet (fail)
      go_wp2_with fail
      refine (C1.out _ _ (H.out.fresh (below_drewN (Below.refl _ _) nq))).mono ?_
      rintro e w3 ⟨rfl, h3⟩
      have H3 := Lib.hid h3
      clear h3
      go_wp2
      go_ret
      exact H3.out.done
set_option maxRecDepth 20000 in
set_option maxHeartbeats 3200000 in
theorem do_5 (w0 w : World) (gS gV : Nat) (p : PS) (a b : Int) (on : Bool) (Av : Option Addr) (nv cv : Nat) (bs : List Int) (h : Two w0 w gS gV p p) (hx : Its w0 w0.heap.size (.slice Av nv cv) bs) (hm : bs.length ≤ 100) :
    Calls Try.prog 11 #[.pointer (some ⟨gS, 0, none⟩), .pointer (some ⟨gV, 0, none⟩), .agg #[.int .i64 5, .int .i64 a, .int .i64 b, .bool on, .slice Av nv cv]] w (DoPost w0 gS gV) := by
  obtain ⟨x, hxx⟩ : ∃ x : Act10, x = ⟨5, a, b, on, .slice Av nv cv, bs⟩ := ⟨_, rfl⟩
  have hok := h.ok
  have H := Lib.hid (show TwoA w0 (w.alloc (.cells #[.int .i64 5, .int .i64 a, .int .i64 b, .bool on, .slice Av nv cv] 34)) gS gV w.heap.size x p p from by rw [hxx]; exact h.box (x := ⟨5, a, b, on, .slice Av nv cv, bs⟩) hx)
  have KP := Lib.hid (fun (W : World) (p q : PS) (hW : TwoA w0 W gS gV w.heap.size x p q) => (⟨by rw [hW.cell, hxx]; rfl, by rw [hW.cell, hxx]; rfl, by rw [hW.cell, hxx]; rfl⟩ : W.cell? ⟨w.heap.size, 1, none⟩ = some (.int .i64 a) ∧ W.cell? ⟨w.heap.size, 2, none⟩ = some (.int .i64 b) ∧ W.cell? ⟨w.heap.size, 3, none⟩ = some (.bool on)))
  have C1 := Lib.hid (fun (W : World) (q : PS) (hW : TwoA w0 W gS gV w.heap.size x p q) => ta_isolate a on hW)
  clear h hx hm hxx
  by_cases c : 0 ≤ a ∧ a < 32
  · obtain ⟨z, rfl⟩ := Int.eq_ofNat_of_zero_le c.1
    have hz : z < 32 := by omega
    have hz0 : (0 : Int) ≤ (z : Int) := by omega
    have hz1 : (z : Int) < 32 := by omega
    have dz0 : decide ((0 : Int) ≤ (z : Int)) = true := decide_eq_true hz0
    have dz1 : decide ((z : Int) < 32) = true := decide_eq_true hz1
    obtain ⟨k1, k2, k3⟩ := KP.out _ _ _ H.out
    obtain ⟨y, hy⟩ : ∃ y, y = p.z.getD z 0 := ⟨_, rfl⟩
    have cu : (w.alloc (.cells #[.int .i64 5, .int .i64 (z : Int), .int .i64 b, .bool on, .slice Av nv cv] 34)).cell? ⟨gV, 1024 + z, none⟩ = some (.int .i64 (y : Int)) := by rw [hy]; exact H.out.ref.cz hz
    have fu : (w.alloc (.cells #[.int .i64 5, .int .i64 (z : Int), .int .i64 b, .bool on, .slice Av nv cv] 34)).frozen? ⟨gV, 1056 + z, none⟩ = false := H.out.ref.fz _
    have hz2 : decide ((z : Int) < 1024) = true := decide_eq_true (by omega)
    have io : ∃ io, (w.alloc (.cells #[.int .i64 5, .int .i64 (z : Int), .int .i64 b, .bool on, .slice Av nv cv] 34)).cell? ⟨gV, 1056 + z, none⟩ = some (.bool io) := ⟨_, H.out.ref.ci hz⟩
    obtain ⟨io, ci⟩ := io
    by_cases cy : y ≠ 0
    · have hfp : isoP p (z : Int) on = (true, ⟨p.u, p.z, p.i.set z on⟩) := by
        unfold isoP
        rw [zoneP_in p hz, ← hy, if_pos cy, Int.toNat_natCast]
      rw [hfp] at C1
      clear hfp
      have u6 : ((y : Int) != 0) = true := by rw [bne_iff_ne]; omega
      have HY := Lib.hid hy
      clear hy c
      go_enter Try.func11, Try.ntmps11
      go_wp2_with fail
      go_quiet (fail)
      go_wp2_with fail
      generalize hW : (w.alloc (.cells #[.int .i64 5, .int .i64 (z : Int), .int .i64 b, .bool on, .slice Av nv cv] 34)).drewN nq = W at *
      have k1' : W.cell? ⟨w.heap.size, 1, none⟩ = some (.int .i64 (z : Int)) := by rw [← hW]; exact k1
      have k3' : W.cell? ⟨w.heap.size, 3, none⟩ = some (.bool on) := by rw [← hW]; exact k3
      have cu' : W.cell? ⟨gV, 1056 + z, none⟩ = some (.bool io) := by rw [← hW]; exact ci
      have fu' : W.frozen? ⟨gV, 1056 + z, none⟩ = false := by rw [← hW]; exact H.out.ref.fz _
      have HW := Lib.hid hW
      clear hW cu fu k1 k2 k3
      go_still_tail 8, (by kernel_rfl)
      obtain ⟨W2, hW2⟩ : ∃ W2, W2 = W.drew := ⟨_, rfl⟩
      change wpList _ _ _ _ _ W.drew
      rw [← hW2]
      have k12 : W2.cell? ⟨w.heap.size, 1, none⟩ = some (.int .i64 (z : Int)) := by rw [hW2]; exact k1'
      have k32 : W2.cell? ⟨w.heap.size, 3, none⟩ = some (.bool on) := by rw [hW2]; exact k3'
      have cu2 : W2.cell? ⟨gV, 1056 + z, none⟩ = some (.bool io) := by rw [hW2]; exact cu'
      have fu2 : W2.frozen? ⟨gV, 1056 + z, none⟩ = false := by rw [hW2]; exact fu'
      have HT := Lib.hid (show TwoA w0 W2 gS gV w.heap.size x p p from by
        rw [hW2, ← HW.out]
        exact H.out.fresh (below_drewN (Below.refl _ _) nq).drew)
      have HT2 := Lib.hid (show TwoA w0 (W2.setCell ⟨gV, 1056 + z, none⟩ (.bool on)) gS gV w.heap.size x p ⟨p.u, p.z, p.i.set z on⟩ from HT.out.set_ (HT.out.ref.si hz))
      have C2 := Lib.hid (C1.out _ _ HT2.out)
      obtain ⟨l1, l2, l3⟩ := KP.out _ _ _ HT2.out
      clear hW2 k1' k3' cu' fu' HW
      go_wp2_with fail
      refine C2.out.mono ?_
      rintro e w3 ⟨rfl, h3⟩
      have H3 := Lib.hid h3
      clear h3
      go_wp2
      go_ret
      exact H3.out.done
    · have hfp : isoP p (z : Int) on = (false, p) := by
        unfold isoP
        rw [zoneP_in p hz, ← hy, if_neg cy]
      rw [hfp] at C1
      clear hfp
      have u6 : ((y : Int) != 0) = false := by rw [bne_eq_false_iff_eq]; omega
      have HY := Lib.hid hy
      clear hy c
      go_enter Try.func11, Try.ntmps11
      go_wp2_with fail
      go_quiet (fail)
      go_wp2_with fail
      refine (C1.out _ _ (H.out.fresh (below_drewN (Below.refl _ _) nq))).mono ?_
      rintro e w3 ⟨rfl, h3⟩
      have H3 := Lib.hid h3
      clear h3
      go_wp2
      go_ret
      exact H3.out.done
  · have hfp : isoP p a on = (false, p) := by
      unfold isoP zoneP
      rw [if_neg c, if_neg (fun h => h rfl)]
    rw [hfp] at C1
    clear hfp
    obtain ⟨k1, k2, k3⟩ := KP.out _ _ _ H.out
    by_cases c1 : 0 ≤ a
    · have t1 : decide (0 ≤ a) = true := decide_eq_true c1
      have t2 : decide (a < 32) = false := decide_eq_false (by omega)
      clear c
      go_enter Try.func11, Try.ntmps11
      go_wp2_with fail
      all_goals
        go_quiet (fail)
        go_wp2_with fail
        refine (C1.out _ _ (H.out.fresh (below_drewN (Below.refl _ _) nq))).mono ?_
        rintro e w3 ⟨rfl, h3⟩
        have H3 := Lib.hid h3
        clear h3
        go_wp2
        go_ret
        exact H3.out.done
    · have t1 : decide (0 ≤ a) = false := decide_eq_false c1
      clear c
      go_enter Try.func11, Try.ntmps11
      go_wp2_with fail
      go_quiet (fail)
      go_wp2_with fail
      refine (C1.out _ _ (H.out.fresh (below_drewN (Below.refl _ _) nq))).mono ?_
      rintro e w3 ⟨rfl, h3⟩
      have H3 := Lib.hid h3
      clear h3
      go_wp2
      go_ret
      exact H3.out.done
set_option maxRecDepth 20000 in
set_option maxHeartbeats 3200000 in
theorem do_x (w0 w : World) (gS gV : Nat) (p : PS) (n a b : Int) (on : Bool) (Av : Option Addr) (nv cv : Nat) (bs : List Int) (h : Two w0 w gS gV p p) (hn : n < 0 ∨ 5 < n) :
    Calls Try.prog 11 #[.pointer (some ⟨gS, 0, none⟩), .pointer (some ⟨gV, 0, none⟩), .agg #[.int .i64 n, .int .i64 a, .int .i64 b, .bool on, .slice Av nv cv]] w (DoPost w0 gS gV) := by
  have H := Lib.hid (h.fresh ((Below.refl _ _).alloc (Nat.le_refl _) (.cells #[.int .i64 n, .int .i64 a, .int .i64 b, .bool on, .slice Av nv cv] 34)))
  have z0 : (n == 0) = false := by simp; omega
  have z1 : (n == 1) = false := by simp; omega
  have z2 : (n == 2) = false := by simp; omega
  have z3 : (n == 3) = false := by simp; omega
  have z4 : (n == 4) = false := by simp; omega
  have z5 : (n == 5) = false := by simp; omega
  clear h hn
  go_enter Try.func11, Try.ntmps11
  go_wp2
  all_goals
    go_ret
    exact ⟨p, rfl, H.out⟩
theorem do_any (w0 w : World) (gS gV : Nat) (p : PS) (x : Act10) (h : Two w0 w gS gV p p) (hx : Its w0 w0.heap.size x.v x.bs) (hm : x.bs.length ≤ 100) :
    Calls Try.prog 11 #[.pointer (some ⟨gS, 0, none⟩), .pointer (some ⟨gV, 0, none⟩), .agg (actV x)] w (DoPost w0 gS gV) := by
  obtain ⟨n, a, b, on, v, bs⟩ := x
  obtain ⟨Av, nv, cv, rfl, -⟩ := id hx
  show Calls _ _ #[_, _, .agg #[.int .i64 n, .int .i64 a, .int .i64 b, .bool on, .slice Av nv cv]] _ _
  by_cases hn : n < 0 ∨ 5 < n
  · exact do_x w0 w gS gV p n a b on Av nv cv bs h hn
  · have : n = 0 ∨ n = 1 ∨ n = 2 ∨ n = 3 ∨ n = 4 ∨ n = 5 := by omega
    rcases this with rfl | rfl | rfl | rfl | rfl | rfl
    · exact do_0 w0 w gS gV p a b on Av nv cv bs h hx hm
    · exact do_1 w0 w gS gV p a b on Av nv cv bs h hx hm
    · exact do_2 w0 w gS gV p a b on Av nv cv bs h hx hm
    · exact do_3 w0 w gS gV p a b on Av nv cv bs h hx hm
    · exact do_4 w0 w gS gV p a b on Av nv cv bs h hx hm
    · exact do_5 w0 w gS gV p a b on Av nv cv bs h hx hm
end Go.Proofs.Ytkpjimpjopbdkaa

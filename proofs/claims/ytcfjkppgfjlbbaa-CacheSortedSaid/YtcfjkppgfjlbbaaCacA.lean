/-
  Layer 15's own question 'answers', CacheNone and CacheAgain answer true.
  Conditions: the numbers are an int's.
-/
import Derived.Test.YtcfjkppgfjlbbaaCacL
namespace Go.Proofs.Ytcfjkppgfjlbbaa
open Go.RowKit
set_option linter.unusedVariables false

theorem cs_has1 (k : Pl) (f : Int) (d : Bool) : hasC [⟨k, f, d⟩] k = true := by simp [hasC]
theorem cs_mark1 (k : Pl) (f : Int) (d d' : Bool) : markC [⟨k, f, d⟩] k d' = [⟨k, f, d'⟩] := by simp [markC]
theorem cs_drop1 (k : Pl) (f : Int) (d : Bool) : dropC [⟨k, f, d⟩] k = [] := by simp [dropC]
theorem cs_free1 (k : Pl) (f g : Int) (d : Bool) : freeC [⟨k, f, d⟩] k g = false := by simp [freeC, hasC]
theorem cs_free2 (k l : Pl) (f : Int) (d : Bool) : freeC [⟨k, f, d⟩] l f = false := by simp [freeC, busyC]
theorem cs_frame1 (k : Pl) (f : Int) (d : Bool) : frameC [⟨k, f, d⟩] k = some f := by simp [frameC]
theorem cs_page1 (k : Pl) (f : Int) (d : Bool) : pageC [⟨k, f, d⟩] f = some k := by simp [pageC]
theorem cs_page0 (k : Pl) (f g : Int) (d : Bool) (h : f ≠ g) : pageC [⟨k, f, d⟩] g = none := by simp [pageC, h]
theorem cs_dirty1 (k : Pl) (f : Int) (d : Bool) : dirtyC [⟨k, f, d⟩] k = d := by simp [dirtyC]
theorem cs_put0 (k : Pl) (f : Int) : putC [] k f = [⟨k, f, false⟩] := rfl
theorem cs_put1 (k : Pl) (f g : Int) (d : Bool) : putC [⟨k, f, d⟩] k g = [⟨k, f, d⟩] := by unfold putC; rw [cs_free1]; rfl
theorem cs_put2 (k l : Pl) (f : Int) (d : Bool) : putC [⟨k, f, d⟩] l f = [⟨k, f, d⟩] := by unfold putC; rw [cs_free2]; rfl

/-- What holds while an answer is found: the cache, and keys in memory. -/
structure CaS (w0 : World) (gC : Nat) (es : CS) (X : List (Nat × Pl)) (W : World) : Prop where
  t : CacT w0 W gC es (fun j => ∃ x ∈ X, j = x.1)
  at_ : ∀ x ∈ X, x.1 < W.heap.size ∧ W.cell? ⟨x.1, 0, none⟩ = some (.int .i64 x.2.c) ∧ W.cell? ⟨x.1, 1, none⟩ = some (.int .i64 x.2.g)
section
variable {w0 W W' : World} {gC : Nat} {es es' : CS} {X : List (Nat × Pl)}
theorem CaS.fresh (h : CaS w0 gC es X W) (hb : Below W.heap.size W W') : CaS w0 gC es X W' :=
  ⟨h.t.fresh hb, fun x hx => by
    obtain ⟨h1, h2, h3⟩ := h.at_ x hx
    exact ⟨Nat.lt_of_lt_of_le h1 hb.size, (hb.cell (p := ⟨x.1, 0, none⟩) h1).trans h2, (hb.cell (p := ⟨x.1, 1, none⟩) h1).trans h3⟩⟩
/-- One more key. -/
theorem CaS.more (h : CaS w0 gC es X W) (k : Pl) (t : TypeId) : CaS w0 gC es ((W.heap.size, k) :: X) (W.alloc (.cells #[.int .i64 k.c, .int .i64 k.g] t)) := by
  have hb : Below W.heap.size W (W.alloc (.cells #[.int .i64 k.c, .int .i64 k.g] t)) := (Below.refl _ _).alloc (Nat.le_refl _) _
  refine ⟨h.t.widen hb ?_, fun x hx => ?_⟩
  · rintro j ⟨x, hx, rfl⟩
    rcases List.mem_cons.1 hx with rfl | hx
    · exact .inr (Nat.le_refl _)
    · exact .inl ⟨x, hx, rfl⟩
  · rcases List.mem_cons.1 hx with rfl | hx
    · exact ⟨by simp, (Blk.new W _ _).cell 0, (Blk.new W _ _).cell 1⟩
    · exact (h.fresh hb).at_ x hx
theorem CaS.post (h : CaS w0 gC es X W) {v : Value} {e : Ending} (hp : CPost w0 W gC v es' (fun j => ∃ x ∈ X, j = x.1) e W') : e = .returned v ∧ CaS w0 gC es' X W' := by
  obtain ⟨he, h1, h2, _, h4⟩ := hp
  refine ⟨he, h1, fun x hx => ?_⟩
  obtain ⟨k1, k2, k3⟩ := h.at_ x hx
  have e := h2 x.1 k1 ⟨x, hx, rfl⟩
  exact ⟨Nat.lt_of_lt_of_le k1 h4, (cell_of_heap e).trans k2, (cell_of_heap e).trans k3⟩
theorem CaS.z (h : CaS w0 gC es X W) : ∀ j, (∃ x ∈ X, j = x.1) → j < W.heap.size := by
  rintro j ⟨x, hx, rfl⟩
  exact (h.at_ x hx).1
theorem CaS.put (h : CaS w0 gC es X W) (q : Pl) (f : Int) (wk : WPlc q) (wf : W64c f) (hl : es.length ≤ 100000) :
    Calls Try.prog 9 #[.pointer (some ⟨gC, 0, none⟩), .agg #[.int .i64 q.c, .int .i64 q.g], .int .i64 f] W fun e w' => e = .returned (.bool (freeC es q f)) ∧ CaS w0 gC (putC es q f) X w' :=
  (ca_put h.t h.z q f wk wf hl).mono fun e w' hp => h.post hp
theorem CaS.mark (h : CaS w0 gC es X W) (q : Pl) (d : Bool) (wk : WPlc q) :
    Calls Try.prog 10 #[.pointer (some ⟨gC, 0, none⟩), .agg #[.int .i64 q.c, .int .i64 q.g], .bool d] W fun e w' => e = .returned (.bool (hasC es q)) ∧ CaS w0 gC (markC es q d) X w' :=
  (ca_mark h.t h.z q d wk).mono fun e w' hp => h.post hp
theorem CaS.drop (h : CaS w0 gC es X W) (q : Pl) (wk : WPlc q) :
    Calls Try.prog 11 #[.pointer (some ⟨gC, 0, none⟩), .agg #[.int .i64 q.c, .int .i64 q.g]] W fun e w' => e = .returned (.bool (hasC es q)) ∧ CaS w0 gC (dropC es q) X w' :=
  (ca_drop h.t h.z q wk).mono fun e w' hp => h.post hp
theorem CaS.frame (h : CaS w0 gC es X W) (q : Pl) (wk : WPlc q) :
    Calls Try.prog 12 #[.pointer (some ⟨gC, 0, none⟩), .agg #[.int .i64 q.c, .int .i64 q.g]] W fun e w' => e = .returned (frV15 (frameC es q)) ∧ CaS w0 gC es X w' :=
  (ca_frame h.t q wk).mono fun e w' hp => ⟨hp.1, h.fresh hp.2⟩
theorem CaS.of (h : CaS w0 gC es X W) (f : Int) (wf : W64c f) :
    Calls Try.prog 13 #[.pointer (some ⟨gC, 0, none⟩), .int .i64 f] W fun e w' => e = .returned (pgV15 (pageC es f)) ∧ CaS w0 gC es X w' :=
  (ca_of h.t f wf).mono fun e w' hp => ⟨hp.1, h.fresh hp.2⟩
theorem CaS.dirty (h : CaS w0 gC es X W) (q : Pl) (wk : WPlc q) :
    Calls Try.prog 14 #[.pointer (some ⟨gC, 0, none⟩), .agg #[.int .i64 q.c, .int .i64 q.g]] W fun e w' => e = .returned (.bool (dirtyC es q)) ∧ CaS w0 gC es X w' :=
  (ca_dirty h.t q wk).mono fun e w' hp => ⟨hp.1, h.fresh hp.2⟩
end
set_option maxRecDepth 20000
set_option maxHeartbeats 1600000
theorem cacAnswers_any (w : World) :
    Calls Try.prog 7 #[] w fun e w' => e = .returned (.bool true) ∧ Below w.heap.size w w' := by
  go_enter Try.func7, Try.ntmps7
  go_wp2_with fail
  refine (ca_new w w (Below.refl _ _) (fun _ => False) (noZc w)).mono ?_
  rintro e w1 ⟨gC, rfl, h1, -⟩
  have S1 := Lib.hid ((CaS.more (X := []) ⟨h1.widen (Below.refl _ _) (fun j hj => by obtain ⟨x, hx, _⟩ := hj; cases hx), fun x hx => by cases hx⟩ ⟨1, 2⟩ 30 : CaS w gC [] [(w1.heap.size, ⟨1, 2⟩)] _))
  have W1 : WPlc ⟨1, 2⟩ := ⟨by decide, by decide⟩
  clear h1
  have P2 := Lib.hid (S1.out.put ⟨1, 2⟩ 5 W1 (by decide) (by decide))
  rw [show freeC [] ⟨1, 2⟩ 5 = true from rfl, cs_put0] at P2
  have k0 := (S1.out.at_ _ (List.mem_singleton.2 rfl)).2.1
  have k1 := (S1.out.at_ _ (List.mem_singleton.2 rfl)).2.2
  go_wp2_with fail
  refine P2.out.mono ?_
  rintro e w2 ⟨rfl, s2⟩
  have S2 := Lib.hid s2
  clear s2 k0 k1
  have P3 := Lib.hid (S2.out.frame ⟨1, 2⟩ W1)
  rw [cs_frame1, show frV15 (some 5) = .tuple #[.int .i64 5, .bool true] from rfl] at P3
  have k0 := (S2.out.at_ _ (List.mem_singleton.2 rfl)).2.1
  have k1 := (S2.out.at_ _ (List.mem_singleton.2 rfl)).2.2
  go_wp2_with fail
  refine P3.out.mono ?_
  rintro e w3 ⟨rfl, s3⟩
  have S3 := Lib.hid s3
  clear s3 k0 k1
  have P4 := Lib.hid (S3.out.mark ⟨1, 2⟩ true W1)
  rw [cs_has1, cs_mark1] at P4
  have k0 := (S3.out.at_ _ (List.mem_singleton.2 rfl)).2.1
  have k1 := (S3.out.at_ _ (List.mem_singleton.2 rfl)).2.2
  go_wp2_with fail
  refine P4.out.mono ?_
  rintro e w4 ⟨rfl, s4⟩
  have S4 := Lib.hid s4
  clear s4 k0 k1
  have P5 := Lib.hid (S4.out.dirty ⟨1, 2⟩ W1)
  rw [cs_dirty1] at P5
  have k0 := (S4.out.at_ _ (List.mem_singleton.2 rfl)).2.1
  have k1 := (S4.out.at_ _ (List.mem_singleton.2 rfl)).2.2
  go_wp2_with fail
  refine P5.out.mono ?_
  rintro e w5 ⟨rfl, s5⟩
  have S5 := Lib.hid s5
  clear s5 k0 k1
  have P6 := Lib.hid (S5.out.drop ⟨1, 2⟩ W1)
  rw [cs_has1, cs_drop1] at P6
  have k0 := (S5.out.at_ _ (List.mem_singleton.2 rfl)).2.1
  have k1 := (S5.out.at_ _ (List.mem_singleton.2 rfl)).2.2
  go_wp2_with fail
  refine P6.out.mono ?_
  rintro e w6 ⟨rfl, s6⟩
  have S6 := Lib.hid s6
  clear s6 k0 k1
  have P7 := Lib.hid (S6.out.dirty ⟨1, 2⟩ W1)
  rw [show dirtyC [] ⟨1, 2⟩ = false from rfl] at P7
  have k0 := (S6.out.at_ _ (List.mem_singleton.2 rfl)).2.1
  have k1 := (S6.out.at_ _ (List.mem_singleton.2 rfl)).2.2
  go_wp2_with fail
  refine P7.out.mono ?_
  rintro e w7 ⟨rfl, s7⟩
  have S7 := Lib.hid s7
  clear s7 k0 k1
  go_wp2
  go_ret
  exact ⟨rfl, S7.out.t.bel⟩
theorem cacheAgain_any (k l : Pl) (f g : Int) (w : World) (wk : WPlc k) (wl : WPlc l) (wf : W64c f) (wg : W64c g) :
    Calls Try.prog 5 #[.agg #[.int .i64 k.c, .int .i64 k.g], .agg #[.int .i64 l.c, .int .i64 l.g], .int .i64 f, .int .i64 g] w fun e w' => e = .returned (.bool true) ∧ Below w.heap.size w w' := by
  obtain ⟨k1c, k1g⟩ := k
  obtain ⟨l1c, l1g⟩ := l
  have WK := Lib.hid wk
  have WL := Lib.hid wl
  have WF := Lib.hid wf
  have WG := Lib.hid wg
  clear wk wl wf wg
  obtain ⟨gK, hgK⟩ : ∃ gK, gK = w.heap.size := ⟨_, rfl⟩
  obtain ⟨gL, hgL⟩ : ∃ gL, gL = w.heap.size + 1 := ⟨_, rfl⟩
  go_enter Try.func5, Try.ntmps5
  go_wp2_with fail
  refine (ca_new w _ (belAl (belAl (Below.refl _ _) _) _) (fun j => j = w.heap.size ∨ j = w.heap.size + 1) (by rintro j (rfl | rfl) <;> simp <;> omega)).mono ?_
  rintro e w1 ⟨gC, rfl, h1, hb1⟩
  have S1 := Lib.hid (show CaS w gC [] [(w.heap.size, ⟨k1c, k1g⟩), (w.heap.size + 1, ⟨l1c, l1g⟩)] w1 from by
    refine ⟨h1.widen (Below.refl _ _) ?_, fun x hx => ?_⟩
    · rintro j ⟨x, hx, rfl⟩
      rcases List.mem_cons.1 hx with rfl | hx
      · exact .inl (.inl rfl)
      · rcases List.mem_singleton.1 hx with rfl
        exact .inl (.inr rfl)
    · have hs := hb1.size
      have hK := ((Blk.new w 30 #[Value.int .i64 k1c, Value.int .i64 k1g]).below ((Below.refl _ _).alloc (Nat.le_refl _) (.cells #[Value.int .i64 l1c, Value.int .i64 l1g] 30)) (by simp)).below hb1 (by simp; omega)
      have hL0 : Blk ((w.alloc (.cells #[Value.int .i64 k1c, Value.int .i64 k1g] 30)).alloc (.cells #[Value.int .i64 l1c, Value.int .i64 l1g] 30)) (w.heap.size + 1) 30 #[Value.int .i64 l1c, Value.int .i64 l1g] := Blk.new1 w _ _ _
      have hL := hL0.below hb1 (by simp)
      rcases List.mem_cons.1 hx with rfl | hx
      · exact ⟨hK.lt, hK.cell 0, hK.cell 1⟩
      · rcases List.mem_singleton.1 hx with rfl
        exact ⟨hL.lt, hL.cell 0, hL.cell 1⟩)
  clear h1 hb1
  rw [← hgL, ← hgK] at S1
  have mK : (gK, (⟨k1c, k1g⟩ : Pl)) ∈ [(gK, (⟨k1c, k1g⟩ : Pl)), (gL, ⟨l1c, l1g⟩)] := List.mem_cons_self
  have mL : (gL, (⟨l1c, l1g⟩ : Pl)) ∈ [(gK, (⟨k1c, k1g⟩ : Pl)), (gL, ⟨l1c, l1g⟩)] := List.mem_cons_of_mem _ List.mem_cons_self
  have MK := Lib.hid mK
  have ML := Lib.hid mL
  clear mK mL
  have HGK := Lib.hid hgK
  have HGL := Lib.hid hgL
  clear hgK hgL
  have P2 := Lib.hid (S1.out.put ⟨k1c, k1g⟩ f WK.out WF.out (by simp))
  rw [show freeC [] ⟨k1c, k1g⟩ f = true from rfl, cs_put0] at P2
  have k0 := (S1.out.at_ _ MK.out).2.1
  have k1 := (S1.out.at_ _ MK.out).2.2
  rw [HGK.out] at k0 k1
  go_wp2_with fail
  refine P2.out.mono ?_
  rintro e w2 ⟨rfl, s2⟩
  have S2 := Lib.hid s2
  clear s2 k0 k1
  have P3 := Lib.hid (S2.out.mark ⟨k1c, k1g⟩ true WK.out)
  rw [cs_has1, cs_mark1] at P3
  have k0 := (S2.out.at_ _ MK.out).2.1
  have k1 := (S2.out.at_ _ MK.out).2.2
  rw [HGK.out] at k0 k1
  go_wp2_with fail
  refine P3.out.mono ?_
  rintro e w3 ⟨rfl, s3⟩
  have S3 := Lib.hid s3
  clear s3 k0 k1
  have P4 := Lib.hid (S3.out.put ⟨k1c, k1g⟩ g WK.out WG.out (by simp))
  rw [cs_free1, cs_put1] at P4
  have k0 := (S3.out.at_ _ MK.out).2.1
  have k1 := (S3.out.at_ _ MK.out).2.2
  rw [HGK.out] at k0 k1
  go_wp2_with fail
  refine P4.out.mono ?_
  rintro e w4 ⟨rfl, s4⟩
  have S4 := Lib.hid s4
  clear s4 k0 k1
  have P5 := Lib.hid (S4.out.put ⟨l1c, l1g⟩ f WL.out WF.out (by simp))
  rw [cs_free2, cs_put2] at P5
  have k0 := (S4.out.at_ _ ML.out).2.1
  have k1 := (S4.out.at_ _ ML.out).2.2
  rw [HGL.out] at k0 k1
  go_wp2_with fail
  refine P5.out.mono ?_
  rintro e w5 ⟨rfl, s5⟩
  have S5 := Lib.hid s5
  clear s5 k0 k1
  have P6 := Lib.hid (S5.out.drop ⟨k1c, k1g⟩ WK.out)
  rw [cs_has1, cs_drop1] at P6
  have k0 := (S5.out.at_ _ MK.out).2.1
  have k1 := (S5.out.at_ _ MK.out).2.2
  rw [HGK.out] at k0 k1
  go_wp2_with fail
  refine P6.out.mono ?_
  rintro e w6 ⟨rfl, s6⟩
  have S6 := Lib.hid s6
  clear s6 k0 k1
  have P7 := Lib.hid (S6.out.put ⟨k1c, k1g⟩ g WK.out WG.out (by simp))
  rw [show freeC [] ⟨k1c, k1g⟩ g = true from rfl, cs_put0] at P7
  have k0 := (S6.out.at_ _ MK.out).2.1
  have k1 := (S6.out.at_ _ MK.out).2.2
  rw [HGK.out] at k0 k1
  go_wp2_with fail
  refine P7.out.mono ?_
  rintro e w7 ⟨rfl, s7⟩
  have S7 := Lib.hid s7
  clear s7 k0 k1
  have P8 := Lib.hid (S7.out.frame ⟨k1c, k1g⟩ WK.out)
  rw [cs_frame1, show frV15 (some g) = .tuple #[.int .i64 g, .bool true] from rfl] at P8
  have k0 := (S7.out.at_ _ MK.out).2.1
  have k1 := (S7.out.at_ _ MK.out).2.2
  rw [HGK.out] at k0 k1
  go_wp2_with fail
  refine P8.out.mono ?_
  rintro e w8 ⟨rfl, s8⟩
  have S8 := Lib.hid s8
  clear s8 k0 k1
  by_cases c : f = g
  · subst c
    have d0 : (f == f) = true := by simp
    have P9 := Lib.hid (S8.out.of f WF.out)
    rw [cs_page1, show pgV15 (some ⟨k1c, k1g⟩) = .tuple #[.agg #[.int .i64 k1c, .int .i64 k1g], .bool true] from rfl] at P9
    go_wp2_with fail
    refine P9.out.mono ?_
    rintro e w9 ⟨rfl, s9⟩
    have S9 := Lib.hid s9
    clear s9
    have S9a := Lib.hid (S9.out.more ⟨k1c, k1g⟩ 30)
    go_wp2_with fail
    refine (cacAnswers_any _).mono ?_
    rintro e w10 ⟨rfl, hb10⟩
    have S10 := Lib.hid (S9a.out.fresh hb10)
    have P11 := Lib.hid (S10.out.dirty ⟨k1c, k1g⟩ WK.out)
    rw [cs_dirty1] at P11
    have k0 := (S10.out.at_ _ (List.mem_cons_of_mem _ MK.out)).2.1
    have k1 := (S10.out.at_ _ (List.mem_cons_of_mem _ MK.out)).2.2
    rw [HGK.out] at k0 k1
    clear hb10
    go_wp2_with fail
    refine P11.out.mono ?_
    rintro e w11 ⟨rfl, s11⟩
    have S11 := Lib.hid s11
    clear s11 k0 k1
    go_wp2
    go_ret
    exact ⟨rfl, S11.out.t.bel⟩
  · have d0 : (f == g) = false := by simp [c]
    have P9 := Lib.hid (S8.out.of f WF.out)
    rw [cs_page0 _ _ _ _ (fun e => c e.symm), show pgV15 none = .tuple #[.agg #[.int .i64 0, .int .i64 0], .bool false] from rfl] at P9
    go_wp2_with fail
    refine P9.out.mono ?_
    rintro e w9 ⟨rfl, s9⟩
    have S9 := Lib.hid s9
    clear s9
    have S9a := Lib.hid (S9.out.more ⟨0, 0⟩ 30)
    go_wp2_with fail
    refine (cacAnswers_any _).mono ?_
    rintro e w10 ⟨rfl, hb10⟩
    have S10 := Lib.hid (S9a.out.fresh hb10)
    have P11 := Lib.hid (S10.out.dirty ⟨k1c, k1g⟩ WK.out)
    rw [cs_dirty1] at P11
    have k0 := (S10.out.at_ _ (List.mem_cons_of_mem _ MK.out)).2.1
    have k1 := (S10.out.at_ _ (List.mem_cons_of_mem _ MK.out)).2.2
    rw [HGK.out] at k0 k1
    clear hb10
    go_wp2_with fail
    refine P11.out.mono ?_
    rintro e w11 ⟨rfl, s11⟩
    have S11 := Lib.hid s11
    clear s11 k0 k1
    go_wp2
    go_ret
    exact ⟨rfl, S11.out.t.bel⟩
end Go.Proofs.Ytcfjkppgfjlbbaa

/-
  PoolBad answers true: whatever goes on line or off, is given and freed, a frame that is spoilt stays so, and is never given.
  Conditions: the acts are read in memory.
-/
import Derived.Test.YtkpjimpjopbdkaaPooU
import Derived.Test.YtkpjimpjopbdkaaPooAct
import Derived.Deep.LoopGhost
namespace Go.Proofs.Ytkpjimpjopbdkaa
open Go.RowKit
set_option linter.unusedVariables false
attribute [local irreducible] ps0 badU spanU

/-- Frame k is bad. -/
def BadK (k : Nat) (p : PS) : Prop := PsOk p ∧ p.u.getD k 0 = 6
theorem BadK.spoil {k : Nat} {p : PS} (h : PsOk p) (hk : k < 1024) : BadK k (spoilP p (k : Int)).2 := by
  refine ⟨spoilP_ok h _, ?_⟩
  unfold spoilP
  by_cases c : (0 ≤ (k : Int) ∧ (k : Int) < 1024) ∧ useP p (k : Int) ≠ 6
  · rw [if_pos c]
    show (p.u.set (k : Int).toNat 6).getD k 0 = 6
    rw [Int.toNat_natCast, getD_set_same _ _ _ _ (by rw [h.u]; exact hk)]
  · rw [if_neg c, ← useP_in p hk]
    apply Classical.byContradiction
    intro h6
    exact c ⟨⟨by omega, by omega⟩, h6⟩
theorem BadK.use {k : Nat} {p : PS} (h : BadK k p) (hk : k < 1024) : useP p (k : Int) = 6 := by rw [useP_in p hk]; exact h.2
theorem BadK.online {k : Nat} {p : PS} (h : BadK k p) (hk : k < 1024) (s z : Int) : BadK k (onP p s z []).2 := by
  refine ⟨onP_ok h.1 _ _ _, ?_⟩
  unfold onP
  split
  · exact h.2
  · split
    · exact h.2
    · show (badU _ (spanU freshG p.u _ _) []).getD k 0 = 6
      rw [badU_getD _ _ _ _ (by rw [spanU_length, h.1.u]; exact hk), if_neg (by simp), spanU_getD _ _ _ _ _ (by rw [h.1.u]; exact hk), h.2]
      split <;> rfl
theorem BadK.offline {k : Nat} {p : PS} (h : BadK k p) (hk : k < 1024) (s : Int) : BadK k (offP p s).2 := by
  refine ⟨offP_ok h.1 _, ?_⟩
  unfold offP
  split
  · exact h.2
  · split
    · exact h.2
    · split
      · exact h.2
      · show (spanU goneG p.u _ _).getD k 0 = 6
        rw [spanU_getD _ _ _ _ _ (by rw [h.1.u]; exact hk), h.2]
        split <;> rfl
theorem BadK.free {k : Nat} {p : PS} (h : BadK k p) (hk : k < 1024) (f : Int) : BadK k (freeP p f).2 := by
  refine ⟨freeP_ok h.1 _, ?_⟩
  unfold freeP
  split
  · rename_i c
    show (p.u.set f.toNat 1).getD k 0 = 6
    by_cases e : k = f.toNat
    · exfalso
      unfold useP at c
      split at c
      · rw [← e, h.2] at c
        omega
      · omega
    · rw [getD_set_ne _ _ _ _ _ e]
      exact h.2
  · exact h.2
theorem BadK.isolate {k : Nat} {p : PS} (h : BadK k p) (s : Int) (b : Bool) : BadK k (isoP p s b).2 := by
  refine ⟨isoP_ok h.1 _ _, ?_⟩
  unfold isoP
  split
  · exact h.2
  · exact h.2
/-- What is given is no bad one. -/
theorem BadK.alloc {k f e : Nat} {p p' : PS} {use o : Int} {m : Bool} (h : BadK k p) (hk : k < 1024) (ha : AllocIs p use o m f e p') : BadK k p' ∧ (e = 0 → (0 ≤ o ∧ o ≤ 5) ∧ (k < f ∨ f + 2 ^ o.toNat ≤ k)) := by
  refine ⟨⟨ha.ok h.1, ?_⟩, fun he => ?_⟩
  all_goals
    rcases ha with ⟨_, h2, h3, h4⟩ | ⟨h1, r3, r2, h3, h2, h4⟩
  · rw [h4]; exact h.2
  · obtain ⟨r, hr⟩ : ∃ r, (if m then r3.or r2 else r2) = r := ⟨_, rfl⟩
    rw [hr] at h4
    cases r with
    | none => rw [h4.2.2]; exact h.2
    | some g =>
      obtain ⟨rfl, _, rfl⟩ := h4
      have hrun : ∀ j, f ≤ j → j < f + 2 ^ o.toNat → p.u.getD j 0 = 1 := by
        cases m with
        | false =>
          have e2 : r2 = some f := hr
          rw [e2] at h2
          exact h2.1.2.2.2.2
        | true =>
          cases r3 with
          | some x =>
            have e3 : x = f := by injection hr
            subst e3
            exact h3.1.2.2.2.2
          | none =>
            have e2 : r2 = some f := hr
            rw [e2] at h2
            exact h2.1.2.2.2.2
      show (spanU _ p.u _ _).getD k 0 = 6
      rw [spanU_getD _ _ _ _ _ (by rw [h.1.u]; exact hk), if_neg]
      · exact h.2
      · rintro ⟨k1, k2⟩
        have := hrun k k1 k2
        rw [h.2] at this
        omega
  · omega
  · obtain ⟨r, hr⟩ : ∃ r, (if m then r3.or r2 else r2) = r := ⟨_, rfl⟩
    rw [hr] at h4
    cases r with
    | none => omega
    | some g =>
      obtain ⟨rfl, _, rfl⟩ := h4
      have hrun : ∀ j, f ≤ j → j < f + 2 ^ o.toNat → p.u.getD j 0 = 1 := by
        cases m with
        | false =>
          have e2 : r2 = some f := hr
          rw [e2] at h2
          exact h2.1.2.2.2.2
        | true =>
          cases r3 with
          | some x =>
            have e3 : x = f := by injection hr
            subst e3
            exact h3.1.2.2.2.2
          | none =>
            have e2 : r2 = some f := hr
            rw [e2] at h2
            exact h2.1.2.2.2.2
      refine ⟨by omega, ?_⟩
      apply Classical.byContradiction
      intro hn
      have := hrun k (by omega) (by omega)
      rw [h.2] at this
      omega

theorem bt_0 : wrap64 (2 ^ min (IntKind.u64.wrap (bits BinOp.and IntKind.i64 0 7)).toNat 64) = 1 := by
  have e : bits BinOp.and IntKind.i64 0 7 = 0 := by kernel_rfl
  rw [e]
  have e2 : IntKind.u64.wrap 0 = 0 := by kernel_rfl
  rw [e2]
  exact IntWalk.wrap64_in _ ⟨by decide, by decide⟩
theorem bt_1 : wrap64 (2 ^ min (IntKind.u64.wrap (bits BinOp.and IntKind.i64 1 7)).toNat 64) = 2 := by
  have e : bits BinOp.and IntKind.i64 1 7 = 1 := by kernel_rfl
  rw [e]
  have e2 : IntKind.u64.wrap 1 = 1 := by kernel_rfl
  rw [e2]
  exact IntWalk.wrap64_in _ ⟨by decide, by decide⟩
theorem bt_2 : wrap64 (2 ^ min (IntKind.u64.wrap (bits BinOp.and IntKind.i64 2 7)).toNat 64) = 4 := by
  have e : bits BinOp.and IntKind.i64 2 7 = 2 := by kernel_rfl
  rw [e]
  have e2 : IntKind.u64.wrap 2 = 2 := by kernel_rfl
  rw [e2]
  exact IntWalk.wrap64_in _ ⟨by decide, by decide⟩
theorem bt_3 : wrap64 (2 ^ min (IntKind.u64.wrap (bits BinOp.and IntKind.i64 3 7)).toNat 64) = 8 := by
  have e : bits BinOp.and IntKind.i64 3 7 = 3 := by kernel_rfl
  rw [e]
  have e2 : IntKind.u64.wrap 3 = 3 := by kernel_rfl
  rw [e2]
  exact IntWalk.wrap64_in _ ⟨by decide, by decide⟩
theorem bt_4 : wrap64 (2 ^ min (IntKind.u64.wrap (bits BinOp.and IntKind.i64 4 7)).toNat 64) = 16 := by
  have e : bits BinOp.and IntKind.i64 4 7 = 4 := by kernel_rfl
  rw [e]
  have e2 : IntKind.u64.wrap 4 = 4 := by kernel_rfl
  rw [e2]
  exact IntWalk.wrap64_in _ ⟨by decide, by decide⟩
theorem bt_5 : wrap64 (2 ^ min (IntKind.u64.wrap (bits BinOp.and IntKind.i64 5 7)).toNat 64) = 32 := by
  have e : bits BinOp.and IntKind.i64 5 7 = 5 := by kernel_rfl
  rw [e]
  have e2 : IntKind.u64.wrap 5 = 5 := by kernel_rfl
  rw [e2]
  exact IntWalk.wrap64_in _ ⟨by decide, by decide⟩
section
variable {w0 w : World} {gS : Nat} {Q R : PS → Prop}
theorem st_onl (s z : Int) (h : St w0 w gS Q) (hq : ∀ p, Q p → R (onP p s z []).2) :
    Calls Try.prog 15 #[.pointer (some ⟨gS, 0, none⟩), .int .i64 s, .int .i64 z, .slice none 0 0] w fun e w' => ∃ er : Nat, e = .returned (.int .i64 (er : Int)) ∧ St w0 w' gS R := by
  obtain ⟨K, p, hm, hp, hk, hB⟩ := h
  refine (pool_online gS K p s z (.slice none 0 0) [] w hm (Its.nil_ _ _) (fun b o s n c e => (by injection e with e; cases e))).mono ?_
  intro e w' hpost
  exact ⟨_, St.post hk hB hpost (hq p hp)⟩
theorem st_offl (s : Int) (h : St w0 w gS Q) (hq : ∀ p, Q p → R (offP p s).2) :
    Calls Try.prog 16 #[.pointer (some ⟨gS, 0, none⟩), .int .i64 s] w fun e w' => ∃ er : Nat, e = .returned (.int .i64 (er : Int)) ∧ St w0 w' gS R := by
  obtain ⟨K, p, hm, hp, hk, hB⟩ := h
  refine (pool_offline gS K p s w hm).mono ?_
  intro e w' hpost
  exact ⟨_, St.post hk hB hpost (hq p hp)⟩
theorem st_alloc2 (o : Obj) (use od : Int) (m : Bool) {V : Nat → Nat → PS → Prop} (h : St w0 w gS Q) (hq : ∀ p f er p', Q p → AllocIs p use od m f er p' → V f er p') :
    Calls Try.prog 17 #[.pointer (some ⟨gS, 0, none⟩), .int .i64 use, .int .i64 od, .bool m] (w.alloc o) fun e w' => ∃ f er : Nat, e = .returned (.tuple #[.int .i64 (f : Int), .int .i64 (er : Int)]) ∧ St w0 w' gS (V f er) ∧ w'.heap[w.heap.size]? = (w.alloc o).heap[w.heap.size]? := by
  obtain ⟨K, p, hm, hp, hk, hB⟩ := h
  have hb := (Below.refl w.heap.size w).alloc (Nat.le_refl _) o
  refine (pool_alloc gS K p use od m _ (hm.fresh hb)).mono ?_
  rintro e w' ⟨f, er, p', ha, hpost⟩
  obtain ⟨K', rfl, hm', hk', ht⟩ := id hpost
  have hs := St.post hk (hB.trans (hb.mono hB.size)) hpost (hq p f er p' hp ha)
  exact ⟨f, er, rfl, hs.2, ht.block _ (by simp) (fun h => by have := hm.lt _ h; omega)⟩
end

set_option maxRecDepth 20000 in
set_option maxHeartbeats 400000 in
theorem poolBad_edge (A : Option Addr) (l c : Nat) (f : Int) (w : World) (h : 60 < l) :
    Calls Try.prog 5 #[.slice A l c, .int .u16 f] w fun e w' => e = .returned (.bool true) ∧ Below w.heap.size w w' := by
  have t1 : decide ((60 : Int) < (l : Int)) = true := decide_eq_true (by omega)
  clear h
  go_enter Try.func5, Try.ntmps5
  go_wp2_with fail
  refine (poolAnswers_any _).mono ?_
  rintro e w1 ⟨rfl, hb⟩
  go_wp2
  go_ret
  exact ⟨rfl, hb⟩
set_option maxRecDepth 20000 in
set_option maxHeartbeats 3200000 in
theorem poolBad_any (v0 : Value) (acts : List Act10) (f : Int) (w : World) (h0 : Acts10 w v0 acts) (hl : acts.length ≤ 60) (hf : 0 ≤ f ∧ f < 65536) :
    Calls Try.prog 5 #[v0, .int .u16 f] w fun e w' => e = .returned (.bool true) ∧ Below w.heap.size w w' := by
  obtain ⟨A, N, c, rfl, hN, hm, hz⟩ := h0
  have HZ := Lib.hid hz
  have HN := Lib.hid hN
  have hN60 : N ≤ 60 := by omega
  have t1 : decide ((60 : Int) < (N : Int)) = false := decide_eq_false (by omega)
  obtain ⟨f, rfl⟩ := Int.eq_ofNat_of_zero_le hf.1
  obtain ⟨k, hk⟩ : ∃ k, k = f % 1024 := ⟨_, rfl⟩
  have r1 : (f : Int).tmod 1024 = (k : Int) := by rw [Int.tmod_eq_emod_of_nonneg (by omega)]; omega
  have r1' : (f : Int) % 1024 = (k : Int) := by omega
  have hk1 : k < 1024 := by omega
  clear hl hN hm hz hf hk
  go_enter Try.func5, Try.ntmps5
  go_wp2_with fail
  refine (st_new (w0 := w) (Q := PsOk) ps0_ok w (Below.refl _ _)).mono ?_
  rintro e w1 ⟨gS, rfl, h1⟩
  have H1 := Lib.hid h1
  clear h1
  go_wp2_with fail
  refine (st_spoil (V := fun _ => BadK k) (k : Int) H1.out (fun p hp => BadK.spoil hp hk1)).mono ?_
  rintro e w2 ⟨bb, rfl, h2⟩
  have H2 := Lib.hid h2
  clear h2
  go_wp2_with fail
  go_loopg [7] N (fun gg s7 wx => ∃ i : Nat, i + gg = N ∧ s7 = .int .i64 (i : Int) ∧ St w wx gS (BadK k))
  case atStart => exact ⟨0, by omega, rfl, H2.out⟩
  case round =>
    obtain ⟨i, hig, rfl, h3⟩ := hrel
    have H3 := Lib.hid h3
    clear h3
    by_cases hlt : i < N
    · have t4 : decide ((i : Int) < (N : Int)) = true := decide_eq_true (by omega)
      have t5 : (i : Int) < (N : Int) := by omega
      have t6 : (0 : Int) ≤ (i : Int) := by omega
      obtain ⟨b1, o1, rfl, hpa⟩ := HZ.out (by omega)
      obtain ⟨ac, hac⟩ : ∃ ac, acts[i]? = some ac := ⟨_, List.getElem?_eq_getElem (by rw [HN.out]; exact hlt)⟩
      obtain ⟨hbl, c0, c1, c2, c3, c4, hits⟩ := hpa i ac hac
      obtain ⟨what, a, b, on, vv, bs⟩ := ac
      simp only at c0 c1 c2 c3 c4 hits
      obtain ⟨Av, nv, cv, rfl, -⟩ := hits
      have d0 : wr.cell? ⟨b1, o1 + i * 5, none⟩ = some (.int .i64 what) := (H3.out.bel.cell hbl).trans c0
      have d1 : wr.cell? ⟨b1, o1 + i * 5 + 1, none⟩ = some (.int .i64 a) := (H3.out.bel.cell hbl).trans c1
      have d2 : wr.cell? ⟨b1, o1 + i * 5 + 2, none⟩ = some (.int .i64 b) := (H3.out.bel.cell hbl).trans c2
      have d3 : wr.cell? ⟨b1, o1 + i * 5 + 3, none⟩ = some (.bool on) := (H3.out.bel.cell hbl).trans c3
      have d4 : wr.cell? ⟨b1, o1 + i * 5 + 4, none⟩ = some (.slice Av nv cv) := (H3.out.bel.cell hbl).trans c4
      clear c0 c1 c2 c3 c4 hpa hac
      have H4 := Lib.hid (H3.out.fresh ((Below.refl _ _).alloc (Nat.le_refl _) (.cells #[.int .i64 what, .int .i64 a, .int .i64 b, .bool on, .slice Av nv cv] 34)))
      by_cases q0 : what = 0
      · subst q0
        go_wp2_with fail
        refine (st_onl (R := BadK k) a b H4.out (fun p hp => hp.online hk1 a b)).mono ?_
        rintro e w5 ⟨er, rfl, h5⟩
        have H5 := Lib.hid h5
        clear h5
        go_wp2_with fail
        refine (st_use (V := fun y p => y = 6 ∧ BadK k p) (k : Int) H5.out (fun p hp => ⟨hp.use hk1, hp⟩)).mono ?_
        rintro e w6 ⟨y, rfl, h6⟩
        obtain ⟨hy, h7⟩ := h6.and_
        subst hy
        have H6 := Lib.hid h7
        clear h6 h7
        go_wp2_with fail
        go_roundg (N - (i + 1))
        case measure => omega
        case rel => exact ⟨i + 1, by omega, by go_num, H6.out⟩
      by_cases q1 : what = 1
      · subst q1
        go_wp2_with fail
        refine (st_offl (R := BadK k) a H4.out (fun p hp => hp.offline hk1 a)).mono ?_
        rintro e w5 ⟨er, rfl, h5⟩
        have H5 := Lib.hid h5
        clear h5
        go_wp2_with fail
        refine (st_use (V := fun y p => y = 6 ∧ BadK k p) (k : Int) H5.out (fun p hp => ⟨hp.use hk1, hp⟩)).mono ?_
        rintro e w6 ⟨y, rfl, h6⟩
        obtain ⟨hy, h7⟩ := h6.and_
        subst hy
        have H6 := Lib.hid h7
        clear h6 h7
        go_wp2_with fail
        go_roundg (N - (i + 1))
        case measure => omega
        case rel => exact ⟨i + 1, by omega, by go_num, H6.out⟩
      by_cases q2 : what = 2
      · subst q2
        go_wp2_with fail
        refine (st_alloc2 (V := fun f er p => (er = 0 → (0 ≤ b ∧ b ≤ 5) ∧ (k < f ∨ f + 2 ^ b.toNat ≤ k)) ∧ BadK k p) _ a b on H3.out (fun p f er p' hp ha => ⟨(hp.alloc hk1 ha).2, (hp.alloc hk1 ha).1⟩)).mono ?_
        rintro e w5 ⟨g, er, rfl, h5, hbk⟩
        obtain ⟨hq, h5⟩ := h5.and_
        have H5 := Lib.hid h5
        have e2 : w5.cell? ⟨wr.heap.size, 2, none⟩ = some (.int .i64 b) := (World.cell?_of_block hbk).trans ((Blk.new wr _ _).cell 2)
        clear h5 hbk
        by_cases her : er = 0
        · obtain ⟨hb, hg⟩ := hq her
          subst her
          have hfor : b = 0 ∨ b = 1 ∨ b = 2 ∨ b = 3 ∨ b = 4 ∨ b = 5 := by omega
          clear hq hb
          by_cases k1 : g ≤ k
          · have s1 : decide ((g : Int) ≤ (k : Int)) = true := decide_eq_true (by omega)
            have s1' : (g : Int) ≤ (k : Int) := by omega
            rcases hfor with rfl | rfl | rfl | rfl | rfl | rfl
            · have hg2 : g + 1 ≤ k := by
                rcases hg with h | h
                · omega
                · exact h
              have s2 : decide ((k : Int) < (g : Int) + 1) = false := decide_eq_false (by omega)
              clear hg
              go_wp2_with fail
              · exfalso
                rename_i hx
                rw [bt_0, IntWalk.wrap64_in _ ⟨by omega, by omega⟩] at hx
                omega
              refine (st_use (V := fun y p => y = 6 ∧ BadK k p) (k : Int) H5.out (fun p hp => ⟨hp.use hk1, hp⟩)).mono ?_
              rintro e w6 ⟨y, rfl, h6⟩
              obtain ⟨hy, h7⟩ := h6.and_
              subst hy
              have H6 := Lib.hid h7
              clear h6 h7
              go_wp2_with fail
              go_roundg (N - (i + 1))
              case measure => omega
              case rel => exact ⟨i + 1, by omega, by go_num, H6.out⟩
            · have hg2 : g + 2 ≤ k := by
                rcases hg with h | h
                · omega
                · exact h
              have s2 : decide ((k : Int) < (g : Int) + 2) = false := decide_eq_false (by omega)
              clear hg
              go_wp2_with fail
              · exfalso
                rename_i hx
                rw [bt_1, IntWalk.wrap64_in _ ⟨by omega, by omega⟩] at hx
                omega
              refine (st_use (V := fun y p => y = 6 ∧ BadK k p) (k : Int) H5.out (fun p hp => ⟨hp.use hk1, hp⟩)).mono ?_
              rintro e w6 ⟨y, rfl, h6⟩
              obtain ⟨hy, h7⟩ := h6.and_
              subst hy
              have H6 := Lib.hid h7
              clear h6 h7
              go_wp2_with fail
              go_roundg (N - (i + 1))
              case measure => omega
              case rel => exact ⟨i + 1, by omega, by go_num, H6.out⟩
            · have hg2 : g + 4 ≤ k := by
                rcases hg with h | h
                · omega
                · exact h
              have s2 : decide ((k : Int) < (g : Int) + 4) = false := decide_eq_false (by omega)
              clear hg
              go_wp2_with fail
              · exfalso
                rename_i hx
                rw [bt_2, IntWalk.wrap64_in _ ⟨by omega, by omega⟩] at hx
                omega
              refine (st_use (V := fun y p => y = 6 ∧ BadK k p) (k : Int) H5.out (fun p hp => ⟨hp.use hk1, hp⟩)).mono ?_
              rintro e w6 ⟨y, rfl, h6⟩
              obtain ⟨hy, h7⟩ := h6.and_
              subst hy
              have H6 := Lib.hid h7
              clear h6 h7
              go_wp2_with fail
              go_roundg (N - (i + 1))
              case measure => omega
              case rel => exact ⟨i + 1, by omega, by go_num, H6.out⟩
            · have hg2 : g + 8 ≤ k := by
                rcases hg with h | h
                · omega
                · exact h
              have s2 : decide ((k : Int) < (g : Int) + 8) = false := decide_eq_false (by omega)
              clear hg
              go_wp2_with fail
              · exfalso
                rename_i hx
                rw [bt_3, IntWalk.wrap64_in _ ⟨by omega, by omega⟩] at hx
                omega
              refine (st_use (V := fun y p => y = 6 ∧ BadK k p) (k : Int) H5.out (fun p hp => ⟨hp.use hk1, hp⟩)).mono ?_
              rintro e w6 ⟨y, rfl, h6⟩
              obtain ⟨hy, h7⟩ := h6.and_
              subst hy
              have H6 := Lib.hid h7
              clear h6 h7
              go_wp2_with fail
              go_roundg (N - (i + 1))
              case measure => omega
              case rel => exact ⟨i + 1, by omega, by go_num, H6.out⟩
            · have hg2 : g + 16 ≤ k := by
                rcases hg with h | h
                · omega
                · exact h
              have s2 : decide ((k : Int) < (g : Int) + 16) = false := decide_eq_false (by omega)
              clear hg
              go_wp2_with fail
              · exfalso
                rename_i hx
                rw [bt_4, IntWalk.wrap64_in _ ⟨by omega, by omega⟩] at hx
                omega
              refine (st_use (V := fun y p => y = 6 ∧ BadK k p) (k : Int) H5.out (fun p hp => ⟨hp.use hk1, hp⟩)).mono ?_
              rintro e w6 ⟨y, rfl, h6⟩
              obtain ⟨hy, h7⟩ := h6.and_
              subst hy
              have H6 := Lib.hid h7
              clear h6 h7
              go_wp2_with fail
              go_roundg (N - (i + 1))
              case measure => omega
              case rel => exact ⟨i + 1, by omega, by go_num, H6.out⟩
            · have hg2 : g + 32 ≤ k := by
                rcases hg with h | h
                · omega
                · exact h
              have s2 : decide ((k : Int) < (g : Int) + 32) = false := decide_eq_false (by omega)
              clear hg
              go_wp2_with fail
              · exfalso
                rename_i hx
                rw [bt_5, IntWalk.wrap64_in _ ⟨by omega, by omega⟩] at hx
                omega
              refine (st_use (V := fun y p => y = 6 ∧ BadK k p) (k : Int) H5.out (fun p hp => ⟨hp.use hk1, hp⟩)).mono ?_
              rintro e w6 ⟨y, rfl, h6⟩
              obtain ⟨hy, h7⟩ := h6.and_
              subst hy
              have H6 := Lib.hid h7
              clear h6 h7
              go_wp2_with fail
              go_roundg (N - (i + 1))
              case measure => omega
              case rel => exact ⟨i + 1, by omega, by go_num, H6.out⟩
          · have s1 : decide ((g : Int) ≤ (k : Int)) = false := decide_eq_false (by omega)
            clear hg hfor
            go_wp2_with fail
            refine (st_use (V := fun y p => y = 6 ∧ BadK k p) (k : Int) H5.out (fun p hp => ⟨hp.use hk1, hp⟩)).mono ?_
            rintro e w6 ⟨y, rfl, h6⟩
            obtain ⟨hy, h7⟩ := h6.and_
            subst hy
            have H6 := Lib.hid h7
            clear h6 h7
            go_wp2_with fail
            go_roundg (N - (i + 1))
            case measure => omega
            case rel => exact ⟨i + 1, by omega, by go_num, H6.out⟩
        · have s0 : ((er : Int) == 0) = false := by simp; omega
          clear hq her
          go_wp2_with fail
          refine (st_use (V := fun y p => y = 6 ∧ BadK k p) (k : Int) H5.out (fun p hp => ⟨hp.use hk1, hp⟩)).mono ?_
          rintro e w6 ⟨y, rfl, h6⟩
          obtain ⟨hy, h7⟩ := h6.and_
          subst hy
          have H6 := Lib.hid h7
          clear h6 h7
          go_wp2_with fail
          go_roundg (N - (i + 1))
          case measure => omega
          case rel => exact ⟨i + 1, by omega, by go_num, H6.out⟩
      by_cases q3 : what = 3
      · subst q3
        go_wp2_with fail
        refine (st_free (V := fun _ => BadK k) a H4.out (fun p hp => hp.free hk1 a)).mono ?_
        rintro e w5 ⟨er, rfl, h5⟩
        have H5 := Lib.hid h5
        clear h5
        go_wp2_with fail
        refine (st_use (V := fun y p => y = 6 ∧ BadK k p) (k : Int) H5.out (fun p hp => ⟨hp.use hk1, hp⟩)).mono ?_
        rintro e w6 ⟨y, rfl, h6⟩
        obtain ⟨hy, h7⟩ := h6.and_
        subst hy
        have H6 := Lib.hid h7
        clear h6 h7
        go_wp2_with fail
        go_roundg (N - (i + 1))
        case measure => omega
        case rel => exact ⟨i + 1, by omega, by go_num, H6.out⟩
      by_cases q5 : what = 5
      · subst q5
        go_wp2_with fail
        refine (st_isolate (V := fun _ => BadK k) a on H4.out (fun p hp => hp.isolate a on)).mono ?_
        rintro e w5 ⟨er, rfl, h5⟩
        have H5 := Lib.hid h5
        clear h5
        go_wp2_with fail
        refine (st_use (V := fun y p => y = 6 ∧ BadK k p) (k : Int) H5.out (fun p hp => ⟨hp.use hk1, hp⟩)).mono ?_
        rintro e w6 ⟨y, rfl, h6⟩
        obtain ⟨hy, h7⟩ := h6.and_
        subst hy
        have H6 := Lib.hid h7
        clear h6 h7
        go_wp2_with fail
        go_roundg (N - (i + 1))
        case measure => omega
        case rel => exact ⟨i + 1, by omega, by go_num, H6.out⟩
      have z0 : (what == 0) = false := by simp; omega
      have z1 : (what == 1) = false := by simp; omega
      have z2 : (what == 2) = false := by simp; omega
      have z3 : (what == 3) = false := by simp; omega
      have z5 : (what == 5) = false := by simp; omega
      clear q0 q1 q2 q3 q5
      go_wp2_with fail
      refine (st_use (V := fun y p => y = 6 ∧ BadK k p) (k : Int) H4.out (fun p hp => ⟨hp.use hk1, hp⟩)).mono ?_
      rintro e w6 ⟨y, rfl, h6⟩
      obtain ⟨hy, h7⟩ := h6.and_
      subst hy
      have H6 := Lib.hid h7
      clear h6 h7
      go_wp2_with fail
      go_roundg (N - (i + 1))
      case measure => omega
      case rel => exact ⟨i + 1, by omega, by go_num, H6.out⟩
    · obtain rfl : i = N := by omega
      have t4 : decide ((i : Int) < (i : Int)) = false := decide_eq_false (by omega)
      go_wp2_with fail
      refine (poolAnswers_any _).mono ?_
      rintro e w1 ⟨rfl, hb⟩
      go_wp2
      go_ret
      exact ⟨rfl, H3.out.bel.trans (hb.mono H3.out.bel.size)⟩
end Go.Proofs.Ytkpjimpjopbdkaa

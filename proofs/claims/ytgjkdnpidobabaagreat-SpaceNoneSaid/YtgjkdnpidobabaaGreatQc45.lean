/-
  Put: the entry of a place, and Back and Swap by it.
  A frame is given, an entry is said: what becomes of the pool and its tables, as numbers.
  has and bring: a place has a frame; a new one is filled.
  What holds of a space between two calls, and what Put makes of that.
  What fills a frame: Zero, the disk's bytes, another frame's.
  fromFile, alone, come: the frame of a page.
  alone: a frame that a page may have written.
  come: the frame of a page of an area, by its entry.
  What users see of a space, and what one page's step makes of that.
  page: a page is asked for.
  A page that is asked for: what is left of the space.
  A page that is asked for, as one call.
  Processes that there are not.
  ask: each page on the way is asked for, in order.
  read: the bytes of pieces, one behind the other; Load.
  Load: the bytes of the pages on the way.
  Tell, Signal, change, Map, Protect: what a process has beside its pages.
  A process has other areas: change, Map, Protect.
  Map and Protect: areas are added, and changed.
  Conditions: those that each line bears.
-/
import Derived.Test.YtgjkdnpidobabaaGreatQc44
import Derived.Deep.RegionHeld3
import Derived.BigQuiet
import Derived.Deep.CutRange
import Derived.Test.YtgjkdnpidobabaaGreatQc01
import Derived.Test.YtgjkdnpidobabaaGreatQc16
set_option linter.unusedSimpArgs false
set_option linter.unusedSectionVars false
set_option linter.unusedVariables false
namespace Go.Proofs.YtgjkdnpidobabaaGreat
open Go.RowKit
set_option linter.unusedVariables false

theorem EnOk.wn {x : En} (h : EnOk x) : W64 x.n := WalkArith.wf_i64 (by have := h.lo; omega)
theorem EnOk.noW {k n : Int} {b : Bool} (h : EnOk ⟨k, n, b⟩) : EnOk ⟨k, n, false⟩ := by
  rcases h with h | h | h
  · exact .inl h
  · exact .inr (.inl ⟨h.1, h.2.1, h.2.2.1, rfl⟩)
  · exact .inr (.inr ⟨h.1, h.2.1, rfl⟩)
def takeM (m : SpM) (p : Pl) (e : En) : SpM := if e.k = 1 then m.setB (updB m.b e.n (putP (m.b e.n) p)) else if e.k = 2 then m.setS (holdS m.s e.n p) else m
def leaveM (m : SpM) (p : Pl) (e : En) : SpM := if e.k = 1 then freeM m e.n p else if e.k = 2 then m.setS (relS m.s e.n p) else m
structure Few (m : SpM) : Prop where
  b : ∀ f, (m.b f).length ≤ 100000
  f : FewF m.b
  s : ∀ n, (m.s n).length ≤ 100000
structure Tabs (m : SpM) : Prop where
  bad : NoBad m.bad
  live : ∀ n y, m.x n = some y → y.t.live = true
  use : ∀ n y, m.x n = some y → ∀ f ∈ y.t.t, m.p.u.getD f 0 = 2
  two : ∀ n y n' y', m.x n = some y → m.x n' = some y' → n' ≠ n → ∀ f ∈ y'.t.t, f ∉ y.t.t
def putM (m : SpM) (n : Nat) (y : SpX) (pg : Nat) (x : En) (er : Nat) (F' : Nat → List Nat) (p' : PS) (t' : TS) : SpM :=
  if er = 0 then (if (y.t.e.getD pg en0).k = x.k ∧ (y.t.e.getD pg en0).n = x.n then takeM (m.tree n y F' p' t') ⟨n, pg⟩ x else leaveM (takeM (m.tree n y F' p' t') ⟨n, pg⟩ x) ⟨n, pg⟩ (y.t.e.getD pg en0))
  else m.tree n y F' p' t'
section
variable (gS : Nat) (a : SpA) (k : SpK) (K : Nat → Prop) (m : SpM) (w : World)
theorem all_sp (mo : Option Nat) (hc : w.cell? ⟨gS, 6, none⟩ = some (.map mo)) : Calls Tryz.prog 43 #[.pointer (some ⟨gS, 0, none⟩)] w fun e w' => e = .returned (.map mo) ∧ w' = w := by
  go_enter Tryz.func43, Tryz.ntmps43
  go_wp2_with fail
  go_ret
  exact ⟨rfl, rfl⟩
theorem take_any (p : Pl) (x : En) (h : SpMem w gS a k K m) (wp : WPl p) (hx : EnOk x) (hF : Few m) :
    Calls Tryz.prog 63 #[.pointer (some ⟨gS, 0, none⟩), .agg #[.int .i64 p.c, .int .i64 p.g], .agg #[.int .i64 x.k, .int .i64 x.n, .bool x.w]] w (SpEnd w gS a k K (.tuple #[]) (takeM m p x)) := by
  obtain ⟨kd, n, b⟩ := x
  unfold takeM
  by_cases h1 : kd = 1
  · subst h1
    rw [if_pos rfl]
    exact take_frame gS a k K m w p n b h wp hx.wn (hF.b _) hF.f
  · rw [if_neg h1]
    by_cases h2 : kd = 2
    · subst h2
      rw [if_pos rfl]
      exact take_slot gS a k K m w p n b h wp (hF.s _)
    · rw [if_neg h2]
      exact take_other gS a k K m w p kd n b h1 h2 h
theorem leave_any (p : Pl) (x : En) (h : SpMem w gS a k K m) (wp : WPl p) (hx : EnOk x) :
    Calls Tryz.prog 64 #[.pointer (some ⟨gS, 0, none⟩), .agg #[.int .i64 p.c, .int .i64 p.g], .agg #[.int .i64 x.k, .int .i64 x.n, .bool x.w]] w (SpEnd w gS a k K (.tuple #[]) (leaveM m p x)) := by
  obtain ⟨kd, n, b⟩ := x
  unfold leaveM
  by_cases h1 : kd = 1
  · subst h1
    rw [if_pos rfl]
    exact leave_frame gS a k K m w p n b h wp hx.wn
  · rw [if_neg h1]
    by_cases h2 : kd = 2
    · subst h2
      rw [if_pos rfl]
      exact leave_slot gS a k K m w p n b h wp
    · rw [if_neg h2]
      exact leave_other gS a k K m w p kd n b h1 h2 h
structure Look (w : World) (gS : Nat) (k : SpK) (n : Nat) (W : World) : Prop where
  look : (Instr.lookup 82 (.map k.M) (.int .i64 (n : Int)) false).run Tryz.prog W = .ok (.pointer (some ⟨k.X n, 0, none⟩)) W
  c0 : W.cell? ⟨k.X n, 0, none⟩ = some (.pointer (some ⟨k.T n, 0, none⟩))
  c6 : W.cell? ⟨gS, 6, none⟩ = some (.map k.M)
theorem SpMem.look_ {n : Nat} {y : SpX} (h : SpMem w gS a k K m) (hy : m.x n = some y) : Look w gS k n w := by
  have hn := h.x8 n y hy
  refine ⟨?_, h.proc hy |>.1.cell 0, h.cells.cell 6⟩
  have := h.look (n : Int) (WalkArith.wf_i64 (by omega))
  rw [ptrL_some hy] at this
  exact this
set_option maxRecDepth 100000 in
set_option maxHeartbeats 4000000 in
theorem put_any (n : Nat) (y : SpX) (pg : Nat) (x : En) (h : SpMem w gS a k K m) (hy : m.x n = some y) (hpg : pg < 4096) (hT : Tabs m) (hF : Few m) :
    Calls Tryz.prog 25 #[.pointer (some ⟨gS, 0, none⟩), .agg #[.int .i64 (n : Int), .int .i64 (pg : Int)], .agg #[.int .i64 x.k, .int .i64 x.n, .bool x.w]] w fun e w' =>
      ∃ er F' p' t', SetIs y.t m.p (pg : Int) x er t' p' ∧ MoreT y.t m.p (pg : Int) x er t' ∧ (∀ f, f ∉ y.t.t → m.p.u.getD f 0 ≠ 1 → F' f = m.F f) ∧ SpEnd w gS a k K (.int .i64 (er : Int)) (putM m n y pg x er F' p' t') e w' := by
  obtain ⟨kd, nn, b⟩ := x
  have hbx := boxes w ⟨n, pg⟩ kd nn b
  obtain ⟨W, hW⟩ : ∃ W, (w.alloc (.cells #[.int .i64 (n : Int), .int .i64 (pg : Int)] 56)).alloc (.cells #[.int .i64 kd, .int .i64 nn, .bool b] 58) = W := ⟨_, rfl⟩
  rw [show (w.alloc (.cells #[.int .i64 ((⟨n, pg⟩ : Pl).c), .int .i64 ((⟨n, pg⟩ : Pl).g)] 56)).alloc (.cells #[.int .i64 kd, .int .i64 nn, .bool b] 58) = W from hW] at hbx
  have h1 := h.fresh hbx.bel
  have HA := Lib.hid (fun q => (show Calls Tryz.prog 43 #[.pointer (some ⟨gS, 0, none⟩)] (W.drewN q) fun e w' => e = .returned (.map k.M) ∧ ∃ q', w' = W.drewN q' from (all_sp gS (W.drewN q) k.M (h1.cells.cell 6)).mono (by rintro e w' ⟨rfl, rfl⟩; exact ⟨rfl, q, rfl⟩)))
  have LQ : ∀ q, (Instr.lookup 82 (.map k.M) (.int .i64 (n : Int)) false).run Tryz.prog (W.drewN q) = .ok (.pointer (some ⟨k.X n, 0, none⟩)) (W.drewN q) := fun q => (SpMem.look_ gS a k K m (W.drewN q) (h1.far (w' := W.drewN q) (Nat.le_refl _) fun _ _ => rfl) hy).look
  have p0 : W.cell? ⟨w.heap.size, 0, none⟩ = some (.int .i64 (n : Int)) := hbx.pl.cell 0
  have p1 : W.cell? ⟨w.heap.size, 1, none⟩ = some (.int .i64 (pg : Int)) := hbx.pl.cell 1
  have H1 := Lib.hid h1
  have HB := Lib.hid hbx
  have HY := Lib.hid hy
  have HTT := Lib.hid hT
  have HFF := Lib.hid hF
  have HKL := Lib.hid h.lt
  have HX8 := Lib.hid (h.x8 n y hy)
  clear h hbx h1 hT hF hy
  go_enter Tryz.func25, Tryz.ntmps25
  go_wp2_with fail
  go_quiet (first | (go_at_call 43; exact HA.out _))
  go_wp2_with fail
  obtain ⟨W1, hW1⟩ : ∃ W1, W1 = W.drewN nq := ⟨_, rfl⟩
  have hb0 : Below W.heap.size W W1 := by rw [hW1]; exact below_drewN (Below.refl _ _) _
  rw [← hW1]
  have h1 := H1.out.fresh hb0
  obtain ⟨KP, KT, hM, hP, hTr, hA, hlift⟩ := h1.treeP HY.out
  have d0 : W1.cell? ⟨k.X n, 0, none⟩ = some (.pointer (some ⟨k.T n, 0, none⟩)) := (SpMem.look_ gS a k K m W1 h1 HY.out).c0
  have d1 : W1.cell? ⟨w.heap.size, 1, none⟩ = some (.int .i64 (pg : Int)) := (HB.out.pl.below hb0 HB.out.pl.lt).cell 1
  have hx1 : k.X n < W1.heap.size := (h1.proc HY.out).1.lt
  have hx2 : w.heap.size < W1.heap.size := (HB.out.pl.below hb0 HB.out.pl.lt).lt
  have KEEP := Lib.hid (fun (V : World) (hV : Below W1.heap.size W1 V) => (⟨(hV.cell (p := ⟨k.X n, 0, none⟩) hx1).trans d0, (hV.cell (p := ⟨w.heap.size, 1, none⟩) hx2).trans d1, hV⟩ : V.cell? ⟨k.X n, 0, none⟩ = some (.pointer (some ⟨k.T n, 0, none⟩)) ∧ V.cell? ⟨w.heap.size, 1, none⟩ = some (.int .i64 (pg : Int)) ∧ Below W1.heap.size W1 V))
  have PB := Lib.hid (fun (V : World) (hV : V.cell? ⟨k.X n, 0, none⟩ = some (.pointer (some ⟨k.T n, 0, none⟩)) ∧ V.cell? ⟨w.heap.size, 1, none⟩ = some (.int .i64 (pg : Int)) ∧ Below W1.heap.size W1 V) => hV.2.2)
  have hlive := HTT.out.live n y HY.out
  have GQ := Lib.hid (fun (V : World) (hV : Below W1.heap.size W1 V) => ((tree_get (k.T n) a.R a.F a.P KT m.F m.bad y.t V pg hpg (hM.below hV hM.lt.1 hM.lt.2) (hTr.fresh hV) HTT.out.bad hlive).mono (fun e w' h => ⟨h.1, h.2, hV.trans (h.2.mono hV.size)⟩) : Calls Tryz.prog 61 #[.pointer (some ⟨k.T n, 0, none⟩), .int .i64 (pg : Int)] V fun e w' => e = .returned (.tuple #[.agg (enV (y.t.e.getD pg en0)), .int .i64 0]) ∧ Below V.heap.size V w' ∧ Below W1.heap.size W1 w'))
  have BR := Lib.hid (Below.refl W1.heap.size W1)
  have HB0 := Lib.hid hb0
  have GA := Lib.hid (show Calls Tryz.prog 61 #[.pointer (some ⟨k.T n, 0, none⟩), .int .i64 (pg : Int)] (W1.alloc (.cells #[.int .i64 0, .int .i64 0, .bool false] 58)).drew fun e w' => e = .returned (.tuple #[.agg (enV (y.t.e.getD pg en0)), .int .i64 0]) ∧
      w'.cell? ⟨W1.heap.size, 0, none⟩ = some (.int .i64 0) ∧ w'.cell? ⟨W1.heap.size, 1, none⟩ = some (.int .i64 0) ∧ w'.cell? ⟨W1.heap.size, 2, none⟩ = some (.bool false) ∧ w'.frozen? ⟨W1.heap.size, 0, none⟩ = false ∧ w'.frozen? ⟨W1.heap.size, 1, none⟩ = false ∧ w'.frozen? ⟨W1.heap.size, 2, none⟩ = false ∧
      (∀ u0 u1 u2, Below W1.heap.size W1 (((w'.setCell ⟨W1.heap.size, 0, none⟩ u0).setCell ⟨W1.heap.size, 1, none⟩ u1).setCell ⟨W1.heap.size, 2, none⟩ u2)) ∧ Blk w' W1.heap.size 58 #[.int .i64 0, .int .i64 0, .bool false] ∧ Below W1.heap.size W1 w' from (GQ.out _ (belAl (Below.refl _ W1) _).drew).mono (fun e w' h => by
    have hz : Blk w' W1.heap.size 58 #[.int .i64 0, .int .i64 0, .bool false] := (show Blk (W1.alloc (.cells #[.int .i64 0, .int .i64 0, .bool false] 58)).drew W1.heap.size 58 #[.int .i64 0, .int .i64 0, .bool false] from Blk.new W1 _ _).below h.2.1 (Blk.lt (w := (W1.alloc (.cells #[.int .i64 0, .int .i64 0, .bool false] 58)).drew) (Blk.new W1 _ _))
    exact ⟨h.1, hz.cell 0, hz.cell 1, hz.cell 2, hz.frozen 0, hz.frozen 1, hz.frozen 2, fun u0 u1 u2 => ((h.2.2.setCell (Nat.le_refl _) u0).setCell (Nat.le_refl _) u1).setCell (Nat.le_refl _) u2, hz, h.2.2⟩))
  obtain ⟨⟨hk, hn, hw⟩, hhad⟩ : ∃ x : En, x = y.t.e.getD pg en0 := ⟨_, rfl⟩
  rw [← hhad] at GQ GA
  have HHAD := Lib.hid hhad
  have HHOK := Lib.hid (show EnOk ⟨hk, hn, hw⟩ from by rw [hhad]; exact getE_ok hTr.ok.eok pg)
  unfold enV at GQ GA
  clear hM hP hTr hA hlift h1 d0 d1 hx1 hx2 hb0 hlive LQ hhad p0 p1 hW hW1
  go_cut [8, 9] from 18 to 52 (fun s8 s9 wx => ∃ g, s8 = .pointer (some ⟨g, 0, none⟩) ∧ s9 = .int .i64 0 ∧ Blk wx g 58 #[.int .i64 hk, .int .i64 hn, .bool hw] ∧ W1.heap.size ≤ g ∧ Below W1.heap.size W1 wx)
  case first =>
    go_region_held3 (fun w' => w'.cell? ⟨k.X n, 0, none⟩ = some (.pointer (some ⟨k.T n, 0, none⟩)) ∧ w'.cell? ⟨w.heap.size, 1, none⟩ = some (.int .i64 (pg : Int)) ∧ Below W1.heap.size W1 w')
      (first | assumption | exact KEEP.out _ BR.out.drew | exact KEEP.out _ (by assumption) | exact KEEP.out _ (belAl (PB.out _ (by assumption)) _) | exact KEEP.out _ (belAl (by assumption) _) | exact KEEP.out _ (PB.out _ (by assumption)) | exact KEEP.out _ (belAl BR.out _).drew | exact KEEP.out _ (hsb _ _ _))
      (first | (go_at_call 61; refine GA.out.mono ?_; rintro e w' ⟨rfl, z0, z1, z2, f0, f1, f2, hsb, hz, hbB⟩) | (go_at_call 61; refine (GQ.out _ ?_).mono ?_; (first | assumption | exact PB.out _ (by assumption)); rintro e w' ⟨rfl, hbA, hbB⟩))
    all_goals (go_wp2_with fail; go_meet)
    all_goals (first | exact ⟨_, rfl, rfl, ((hz.set_ 0 _).set_ 1 _).set_ 2 _, Nat.le_refl _, hsb _ _ _⟩ | exact ⟨_, rfl, rfl, Blk.new w' _ _, hbB.size, belAl hbB _⟩)
  case rest =>
    obtain ⟨g, rfl, rfl, hg, hgs, hbg⟩ := hcut
    have hbW : Below W.heap.size W wc := HB0.out.trans (hbg.mono HB0.out.size)
    have h2 := H1.out.fresh hbW
    have hKlt : ∀ j, K j → j < w.heap.size := HKL.out
    have hs1 : w.heap.size + 1 < W.heap.size := HB.out.en.lt
    have hP2 : Blk wc w.heap.size 56 #[.int .i64 (n : Int), .int .i64 (pg : Int)] := HB.out.pl.below hbW HB.out.pl.lt
    have hE2 : Blk wc (w.heap.size + 1) 58 #[.int .i64 kd, .int .i64 nn, .bool b] := HB.out.en.below hbW HB.out.en.lt
    have G2 := Lib.hid (((Went.of_below (K := K) HB.out.bel).below hbW).drew)
    obtain ⟨KP, KT, hM, hP, hTr, hA, hlift⟩ := h2.drew.treeP HY.out
    have HS := Lib.hid (tree_set2 (k.T n) a.R a.F a.P KP KT m.F m.bad m.p y.t wc.drew (pg : Int) kd nn b hM hP hTr hA HTT.out.bad (HTT.out.use n y HY.out) (HTT.out.live n y HY.out))
    have HL := Lib.hid hlift
    have d0 : wc.cell? ⟨k.X n, 0, none⟩ = some (.pointer (some ⟨k.T n, 0, none⟩)) := (SpMem.look_ gS a k K m wc h2 HY.out).c0
    have d1 : wc.cell? ⟨w.heap.size, 1, none⟩ = some (.int .i64 (pg : Int)) := hP2.cell 1
    have q0 : wc.cell? ⟨w.heap.size + 1, 0, none⟩ = some (.int .i64 kd) := hE2.cell 0
    have q1 : wc.cell? ⟨w.heap.size + 1, 1, none⟩ = some (.int .i64 nn) := hE2.cell 1
    have q2 : wc.cell? ⟨w.heap.size + 1, 2, none⟩ = some (.bool b) := hE2.cell 2
    have HG := Lib.hid hg
    have HP2 := Lib.hid hP2
    have HE2 := Lib.hid hE2
    have HGS := Lib.hid (show W.heap.size ≤ g from Nat.le_trans HB0.out.size hgs)
    have HS1 := Lib.hid hs1
    clear hM hP hTr hA hlift h2 hP2 hE2 hg hgs hs1 hKlt hbg hbW
    go_wp2_with fail
    go_still_tail 7, (by kernel_rfl)
    change wpList _ _ _ _ _ wc.drew
    go_wp2_with fail
    refine HS.out.mono ?_
    rintro e w3 ⟨er, F', p', t', rfl, hset, hpost, hmore⟩
    have HSET := Lib.hid hset
    have HMORE := Lib.hid hmore
    have HFR := Lib.hid (show ∀ f, f ∉ y.t.t → m.p.u.getD f 0 ≠ 1 → F' f = m.F f from by obtain ⟨_, _, _, _, _, _, _, _, h, _⟩ := hpost; exact h)
    obtain ⟨K3, h3, g3a⟩ := HL.out F' p' t' w3 (fun n' y' hn hy' f hf => ⟨HTT.out.two n y n' y' HY.out hy' hn f hf, by rw [HTT.out.use n' y' hy' f hf]; decide⟩) hpost
    have g3 := G2.out.trans g3a
    have hnk : ∀ j, w.heap.size ≤ j → ¬ K j := fun j hj hk => by have := HKL.out j hk; omega
    have hg3 : Blk w3 g 58 #[.int .i64 hk, .int .i64 hn, .bool hw] := g3a.tr.blk HG.out (hnk g (by have := HGS.out; have := HB.out.bel.size; omega))
    have hP3 : Blk w3 w.heap.size 56 #[.int .i64 (n : Int), .int .i64 (pg : Int)] := g3a.tr.blk HP2.out (hnk _ (Nat.le_refl _))
    have hE3 : Blk w3 (w.heap.size + 1) 58 #[.int .i64 kd, .int .i64 nn, .bool b] := g3a.tr.blk HE2.out (hnk _ (Nat.le_succ _))
    clear hset hpost hmore HS HL
    by_cases he : er = 0
    · subst he
      have hxok : EnOk ⟨kd, nn, b⟩ := by
        rcases HSET.out with ⟨_, h, _⟩ | ⟨_, ⟨_, h, _⟩ | ⟨_, h, _⟩ | ⟨h, _⟩⟩
        · omega
        · omega
        · omega
        · exact h
      have HXOK := Lib.hid hxok
      have hwp : WPl ⟨(n : Int), (pg : Int)⟩ := ⟨wf_nat n (by have := HX8.out; omega), wf_nat pg (by omega)⟩
      have HWP := Lib.hid hwp
      have HTK := Lib.hid (take_any gS a k K3 (m.tree n y F' p' t') w3 ⟨n, pg⟩ ⟨kd, nn, b⟩ h3 hwp hxok ⟨HFF.out.b, HFF.out.f, HFF.out.s⟩)
      have G3 := Lib.hid g3
      have GA3 := Lib.hid g3a
      have HG3 := Lib.hid hg3
      have HP3 := Lib.hid hP3
      have HE3 := Lib.hid hE3
      have r0 : w3.cell? ⟨w.heap.size, 0, none⟩ = some (.int .i64 (n : Int)) := hP3.cell 0
      have r1 : w3.cell? ⟨w.heap.size, 1, none⟩ = some (.int .i64 (pg : Int)) := hP3.cell 1
      have q0 : w3.cell? ⟨w.heap.size + 1, 0, none⟩ = some (.int .i64 kd) := hE3.cell 0
      have q1 : w3.cell? ⟨w.heap.size + 1, 1, none⟩ = some (.int .i64 nn) := hE3.cell 1
      have q2 : w3.cell? ⟨w.heap.size + 1, 2, none⟩ = some (.bool b) := hE3.cell 2
      have t0 : (((0 : Nat) : Int) != 0) = false := rfl
      clear h3 g3 g3a hg3 hP3 hE3 hxok hwp
      go_wp2_with fail
      refine HTK.out.mono ?_
      rintro e w4 ⟨rfl, K4, h4, g4⟩
      have nk3 : ∀ j, w.heap.size ≤ j → j < wc.heap.size → ¬ K3 j := fun j hj hj2 hk => by
        rcases GA3.out.nk j hk with c | c
        · exact hnk j hj c
        · exact absurd hj2 (Nat.not_lt.2 c)
      have hcs : wc.heap.size ≤ w3.heap.size := GA3.out.tr.size
      have nk4 : ∀ j, w.heap.size ≤ j → j < wc.heap.size → ¬ K4 j := fun j hj hj2 hk => by
        rcases g4.nk j hk with c | c
        · exact nk3 j hj hj2 c
        · omega
      have hgw : w.heap.size ≤ g := by have := HGS.out; have := HB.out.bel.size; omega
      have hgE : g ≠ w.heap.size + 1 := by have := HGS.out; have := HS1.out; omega
      have hgc : g < wc.heap.size := HG.out.lt
      have hEc : w.heap.size + 1 < wc.heap.size := HE2.out.lt
      have hPc : w.heap.size < wc.heap.size := HP2.out.lt
      have hg4 : Blk w4 g 58 #[.int .i64 hk, .int .i64 hn, .bool hw] := g4.tr.blk HG3.out (nk3 g hgw hgc)
      have hE4 : Blk w4 (w.heap.size + 1) 58 #[.int .i64 kd, .int .i64 nn, .bool b] := g4.tr.blk HE3.out (nk3 _ (Nat.le_succ _) hEc)
      have hP4 : Blk w4 w.heap.size 56 #[.int .i64 (n : Int), .int .i64 (pg : Int)] := g4.tr.blk HP3.out (nk3 _ (Nat.le_refl _) hPc)
      have ho1 : Only g w4 (w4.setCell ⟨g, 2, none⟩ (.bool false)) := (Only.refl _ _).setCell 2 _
      obtain ⟨V1, hV1⟩ : ∃ V, w4.setCell ⟨g, 2, none⟩ (.bool false) = V := ⟨_, rfl⟩
      have hg5 : Blk V1 g 58 #[.int .i64 hk, .int .i64 hn, .bool false] := by rw [← hV1]; exact hg4.set_ 2 _
      rw [hV1] at ho1
      have hE5 : Blk V1 (w.heap.size + 1) 58 #[.int .i64 kd, .int .i64 nn, .bool b] := ho1.blk hE4 (fun e => hgE e.symm)
      have hP5 : Blk V1 w.heap.size 56 #[.int .i64 (n : Int), .int .i64 (pg : Int)] := ho1.blk hP4 (fun e => by have := HGS.out; have := HS1.out; omega)
      have ho2 : Only (w.heap.size + 1) V1 (V1.setCell ⟨w.heap.size + 1, 2, none⟩ (.bool false)) := (Only.refl _ _).setCell 2 _
      obtain ⟨V2, hV2⟩ : ∃ V, V1.setCell ⟨w.heap.size + 1, 2, none⟩ (.bool false) = V := ⟨_, rfl⟩
      have hE6 : Blk V2 (w.heap.size + 1) 58 #[.int .i64 kd, .int .i64 nn, .bool false] := by rw [← hV2]; exact hE5.set_ 2 _
      rw [hV2] at ho2
      have hg6 : Blk V2 g 58 #[.int .i64 hk, .int .i64 hn, .bool false] := ho2.blk hg5 hgE
      have hP6 : Blk V2 w.heap.size 56 #[.int .i64 (n : Int), .int .i64 (pg : Int)] := ho2.blk hP5 (fun e => by omega)
      have h6 : SpMem V2 gS a k K4 (takeM (m.tree n y F' p' t') ⟨n, pg⟩ ⟨kd, nn, b⟩) := (h4.only ho1 (nk4 g hgw hgc)).only ho2 (nk4 _ (Nat.le_succ _) hEc)
      have g6 : Went w K V2 K4 := ⟨(G3.out.trans g4).nk, ((G3.out.trans g4).tr.new_ ho1 hgw).new_ ho2 (Nat.le_succ _)⟩
      have zc : w4.cell? ⟨g, 2, none⟩ = some (.bool hw) := hg4.cell 2
      have zf : w4.frozen? ⟨g, 2, none⟩ = false := hg4.frozen 2
      have yc : V1.cell? ⟨w.heap.size + 1, 2, none⟩ = some (.bool b) := hE5.cell 2
      have yf : V1.frozen? ⟨w.heap.size + 1, 2, none⟩ = false := hE5.frozen 2
      have a0 : V2.cell? ⟨g, 0, none⟩ = some (.int .i64 hk) := hg6.cell 0
      have a1 : V2.cell? ⟨g, 1, none⟩ = some (.int .i64 hn) := hg6.cell 1
      have a2 : V2.cell? ⟨g, 2, none⟩ = some (.bool false) := hg6.cell 2
      have b0 : V2.cell? ⟨w.heap.size + 1, 0, none⟩ = some (.int .i64 kd) := hE6.cell 0
      have b1 : V2.cell? ⟨w.heap.size + 1, 1, none⟩ = some (.int .i64 nn) := hE6.cell 1
      have b2 : V2.cell? ⟨w.heap.size + 1, 2, none⟩ = some (.bool false) := hE6.cell 2
      have c0 : V2.cell? ⟨w.heap.size, 0, none⟩ = some (.int .i64 (n : Int)) := hP6.cell 0
      have c1 : V2.cell? ⟨w.heap.size, 1, none⟩ = some (.int .i64 (pg : Int)) := hP6.cell 1
      have H6 := Lib.hid h6
      have G6 := Lib.hid g6
      have HW1 := Lib.hid hgE
      clear h4 g4 nk3 nk4 hcs hgw hgc hEc hPc hg4 hE4 hP4 ho1 hg5 hE5 hP5 ho2 hE6 hg6 hP6 h6 g6 hnk r0 r1 q0 q1 q2
      have LV := Lib.hid (leave_any gS a k K4 (takeM (m.tree n y F' p' t') ⟨n, pg⟩ ⟨kd, nn, b⟩) V2 ⟨n, pg⟩ ⟨hk, hn, false⟩ H6.out HWP.out HHOK.out.noW)
      have HPM := Lib.hid (show putM m n y pg ⟨kd, nn, b⟩ 0 F' p' t' = if hk = kd ∧ hn = nn then takeM (m.tree n y F' p' t') ⟨n, pg⟩ ⟨kd, nn, b⟩ else leaveM (takeM (m.tree n y F' p' t') ⟨n, pg⟩ ⟨kd, nn, b⟩) ⟨n, pg⟩ ⟨hk, hn, false⟩ from by
        unfold putM
        rw [if_pos rfl, ← HHAD.out]
        rfl)
      clear HHAD HTK
      by_cases s1 : hk = kd
      · subst s1
        by_cases s2 : hn = nn
        · subst s2
          rw [if_pos ⟨rfl, rfl⟩] at HPM
          clear LV
          go_wp2_with fail
          go_ret
          refine ⟨0, F', p', t', HSET.out, HMORE.out, HFR.out, rfl, K4, ?_, G6.out⟩
          rw [HPM.out]
          exact H6.out
        · rw [if_neg (fun h => s2 h.2)] at HPM
          have u1 : (hn == nn) = false := beq_eq_false_iff_ne.2 s2
          go_wp2_with fail
          refine LV.out.mono ?_
          rintro e w7 ⟨rfl, h7⟩
          have R := Lib.hid (h7.from_ G6.out)
          clear h7
          go_wp2_with fail
          go_ret
          refine ⟨0, F', p', t', HSET.out, HMORE.out, HFR.out, rfl, ?_⟩
          rw [HPM.out]
          exact R.out
      · rw [if_neg (fun h => s1 h.1)] at HPM
        have u1 : (hk == kd) = false := beq_eq_false_iff_ne.2 s1
        go_wp2_with fail
        refine LV.out.mono ?_
        rintro e w7 ⟨rfl, h7⟩
        have R := Lib.hid (h7.from_ G6.out)
        clear h7
        go_wp2_with fail
        go_ret
        refine ⟨0, F', p', t', HSET.out, HMORE.out, HFR.out, rfl, ?_⟩
        rw [HPM.out]
        exact R.out
    · have t1 : ((er : Int) != 0) = true := by rw [bne_iff_ne]; omega
      have H3 := Lib.hid h3
      have G3 := Lib.hid g3
      clear h3 g3 g3a hg3 hP3 hE3 hnk
      go_wp2_with fail
      go_ret
      refine ⟨er, F', p', t', HSET.out, HMORE.out, HFR.out, rfl, K3, ?_, G3.out⟩
      rw [show putM m n y pg ⟨kd, nn, b⟩ er F' p' t' = m.tree n y F' p' t' from if_neg he]
      exact H3.out
end
end Go.Proofs.YtgjkdnpidobabaaGreat

namespace Go.Proofs.YtgjkdnpidobabaaGreat
open Go.RowKit
set_option linter.unusedVariables false

theorem filter_drop {P P' : Nat → Bool} {N f : Nat} (hf : f < N) (h1 : P f = true) (h2 : P' f = false) (h3 : ∀ x, x ≠ f → P' x = P x) : ((List.range N).filter P').length + 1 = ((List.range N).filter P).length := by
  have hp : (f :: (List.range N).filter P').Perm ((List.range N).filter P) := by
    refine (List.perm_ext_iff_of_nodup ?_ (List.nodup_range.filter _)).2 fun x => ?_
    · refine List.nodup_cons.2 ⟨fun h => ?_, List.nodup_range.filter _⟩
      have := (List.mem_filter.1 h).2
      rw [h2] at this
      cases this
    · rw [List.mem_cons, List.mem_filter, List.mem_filter, List.mem_range]
      by_cases c : x = f
      · subst c
        exact ⟨fun _ => ⟨hf, h1⟩, fun _ => .inl rfl⟩
      · rw [h3 x c]
        exact ⟨fun h => h.resolve_left c, fun h => .inr h⟩
  have := hp.length_eq
  rwa [List.length_cons] at this
theorem filter_same {P P' : Nat → Bool} {N : Nat} (h : ∀ x, x < N → P' x = P x) : ((List.range N).filter P').length = ((List.range N).filter P).length := by
  rw [List.filter_congr fun x hx => h x (List.mem_range.1 hx)]
structure Alloc1 (p : PS) (use f : Nat) (p' : PS) : Prop where
  lt : f < 1024
  free : p.u.getD f 0 = 1
  zone : p.z.getD (f / 32) 0 = 3 ∧ p.i.getD (f / 32) false = false
  z : p'.z = p.z
  i : p'.i = p.i
  u : ∀ g, p'.u.getD g 0 = if g = f then use else p.u.getD g 0
  len : p'.u.length = 1024
  c2 : cntF p' 2 = cntF p 2
  c3 : cntF p' 3 + 1 = cntF p 3
theorem alloc_movable {p p' : PS} {use f er : Nat} (h : AllocIs p (use : Int) 0 true f er p') (hp : PsOk p) (h2 : 2 ≤ use) (h5 : use ≤ 5) (hc : 0 < cntF p 3) : er = 0 ∧ Alloc1 p use f p' := by
  rcases h with ⟨h, _⟩ | ⟨_, r3, r2, h3, h4, h⟩
  · omega
  · have hx : ∃ g, RunF p 3 1 g := by
      unfold cntF at hc
      obtain ⟨g, hg⟩ := List.exists_mem_of_length_pos hc
      obtain ⟨hg1, hg2⟩ := List.mem_filter.1 hg
      obtain ⟨u1, z1, i1⟩ := of_decide_eq_true hg2
      refine ⟨g, Nat.mod_one g, List.mem_range.1 hg1, z1, i1, fun k k1 k2 => ?_⟩
      obtain rfl : k = g := by omega
      exact u1
    obtain ⟨g, hg⟩ := hx
    simp only [Int.toNat_zero, Nat.pow_zero] at h3 h4 h
    cases r3 with
    | none => exact absurd hg (h3 g)
    | some q =>
      simp only [if_true, Option.or_some] at h
      obtain ⟨rfl, rfl, rfl⟩ := h
      obtain ⟨⟨_, q1, q2, q3, q4⟩, _⟩ := h3
      have qf := q4 f (Nat.le_refl _) (Nat.lt_succ_self _)
      have hu : ∀ x, (spanU (fun _ => (use : Int).toNat) p.u f (f + 1)).getD x 0 = if x = f then use else p.u.getD x 0 := by
        intro x
        rw [Int.toNat_natCast]
        by_cases c : x < p.u.length
        · rw [spanU_getD _ _ _ _ _ c]
          by_cases d : x = f
          · rw [if_pos d, if_pos (by omega)]
          · rw [if_neg d, if_neg (by omega)]
        · rw [if_neg (by rw [hp.u] at c; omega), List.getD_eq_getElem?_getD, List.getD_eq_getElem?_getD, List.getElem?_eq_none (by rw [spanU_length]; omega), List.getElem?_eq_none (by omega)]
      refine ⟨rfl, q1, qf, ⟨q2, q3⟩, rfl, rfl, hu, by rw [spanU_length, hp.u], ?_, ?_⟩
      · unfold cntF
        refine filter_same fun x hx => decide_eq_decide.2 ?_
        rw [hu x]
        by_cases c : x = f
        · subst c
          rw [if_pos rfl]
          constructor
          · rintro ⟨h, _⟩; omega
          · rintro ⟨_, h, _⟩; omega
        · rw [if_neg c]
      · unfold cntF
        refine filter_drop q1 (decide_eq_true ⟨qf, q2, q3⟩) (decide_eq_false ?_) fun x hx => decide_eq_decide.2 ?_
        · rintro ⟨h, _⟩
          rw [hu f, if_pos rfl] at h
          omega
        · rw [hu x, if_neg hx]
theorem distL_more {l l' : List Nat} {x : Nat} (h : ∀ y, y ∈ l' → y = x ∨ y ∈ l) : (distL l').length ≤ (distL l).length + 1 := by
  have := List.Nodup.length_le_of_subset (l₁ := distL l') (l₂ := x :: distL l) (distL_nodup l') fun y hy => by
    rcases h y (distL_mem.1 hy) with c | c
    · rw [c]; exact List.mem_cons_self
    · exact List.mem_cons_of_mem _ (distL_mem.2 c)
  rwa [List.length_cons] at this
theorem tablesN_more {l l' : List Nat} {x : Nat} (h : ∀ y, y ∈ l' → y = x ∨ y ∈ l) : tablesN l' ≤ tablesN l + 3 := by
  have hm : ∀ d : Nat, (distL (l'.map (· / d))).length ≤ (distL (l.map (· / d))).length + 1 := fun d => distL_more (x := x / d) fun y hy => by
    obtain ⟨z, hz, rfl⟩ := List.mem_map.1 hy
    rcases h z hz with c | c
    · rw [c]; exact .inl rfl
    · exact .inr (List.mem_map.2 ⟨z, c, rfl⟩)
  have h1 := hm 512
  have h2 := hm 64
  have h3 := hm 8
  unfold tablesN
  omega
theorem pagesOf_set {e : List En} {pg : Nat} {x : En} {y : Nat} (h : y ∈ pagesOf (e.set pg x)) : y = pg ∨ y ∈ pagesOf e := by
  by_cases c : y = pg
  · exact .inl c
  · rw [pagesOf_mem, getD_set_ne _ _ _ _ _ c] at h
    exact .inr (pagesOf_mem.2 h)
theorem set_ok {s s' : TS} {p p' : PS} {pg er : Nat} {x : En} (hs : SetIs s p (pg : Int) x er s' p') (hm : MoreT s p (pg : Int) x er s') (hok : TsOk s) (hl : s.live = true) (hx : EnOk x) (hpg : pg < 4096) (h3 : 3 ≤ cntF p 2) :
    er = 0 ∧ s'.e = s.e.set pg x ∧ s'.live = true ∧ Step s p s' p' ∧ ∀ f ∈ s'.t, f ∉ s.t → p.z.getD (f / 32) 0 = 2 ∧ p.i.getD (f / 32) false = false := by
  rcases hs with ⟨h, _⟩ | ⟨_, ⟨h, _⟩ | ⟨_, rfl, _⟩ | ⟨_, rfl, h1, h2, h4⟩⟩
  · omega
  · exact absurd hx h
  · have h5 := hm.1 rfl
    rw [Int.toNat_natCast] at h5
    have h6 := tablesN_more (l := pagesOf s.e) (l' := pagesOf (s.e.set pg x)) fun y hy => pagesOf_set hy
    have h7 := hok.num hl
    omega
  · rw [Int.toNat_natCast] at h1
    exact ⟨rfl, h1, h2, h4, hm.2⟩
theorem step_cnt {s s' : TS} {p p' : PS} (h : Step s p s' p') (hok : TsOk s) (hok' : TsOk s') (hu : ∀ f ∈ s.t, p.u.getD f 0 = 2) (hz : ∀ f ∈ s.t, p.z.getD (f / 32) 0 = 2 ∧ p.i.getD (f / 32) false = false)
    (hn : ∀ f ∈ s'.t, f ∉ s.t → p.z.getD (f / 32) 0 = 2 ∧ p.i.getD (f / 32) false = false) : cntF p' 2 + s'.t.length = cntF p 2 + s.t.length ∧ cntF p' 3 = cntF p 3 := by
  constructor
  · unfold cntF
    rw [← List.length_append, ← List.length_append]
    refine ((List.perm_ext_iff_of_nodup ?_ ?_).2 fun f => ?_).length_eq
    · refine List.nodup_append.2 ⟨List.nodup_range.filter _, hok'.sorted.imp (fun {a b} h => by omega), fun a ha b hb e => ?_⟩
      subst e
      obtain ⟨_, h2⟩ := List.mem_filter.1 ha
      have h3 := (of_decide_eq_true h2).1
      rw [h.u a (hok'.tlt a hb), if_pos hb] at h3
      omega
    · refine List.nodup_append.2 ⟨List.nodup_range.filter _, hok.sorted.imp (fun {a b} h => by omega), fun a ha b hb e => ?_⟩
      subst e
      obtain ⟨_, h2⟩ := List.mem_filter.1 ha
      have h3 := (of_decide_eq_true h2).1
      rw [hu a hb] at h3
      omega
    · rw [List.mem_append, List.mem_append, List.mem_filter, List.mem_filter, List.mem_range, h.z, h.i]
      simp only [decide_eq_true_iff]
      constructor
      · rintro (⟨h1, h2, h3⟩ | h1)
        · rw [h.u f h1] at h2
          by_cases c : f ∈ s'.t
          · rw [if_pos c] at h2; omega
          · rw [if_neg c] at h2
            by_cases d : f ∈ s.t
            · exact .inr d
            · rw [if_neg d] at h2
              exact .inl ⟨h1, h2, h3⟩
        · by_cases d : f ∈ s.t
          · exact .inr d
          · exact .inl ⟨hok'.tlt f h1, h.new f h1 d, hn f h1 d⟩
      · rintro (⟨h1, h2, h3⟩ | h1)
        · by_cases c : f ∈ s'.t
          · exact .inr c
          · refine .inl ⟨h1, ?_, h3⟩
            rw [h.u f h1, if_neg c, if_neg (fun d => by have := hu f d; omega)]
            exact h2
        · by_cases c : f ∈ s'.t
          · exact .inr c
          · refine .inl ⟨hok.tlt f h1, ?_, hz f h1⟩
            rw [h.u f (hok.tlt f h1), if_neg c, if_pos h1]
  · unfold cntF
    refine filter_same fun f hf => decide_eq_decide.2 ?_
    rw [h.u f hf, h.z, h.i]
    by_cases c : f ∈ s'.t
    · rw [if_pos c]
      have hzz : p.z.getD (f / 32) 0 = 2 := by
        by_cases d : f ∈ s.t
        · exact (hz f d).1
        · exact (hn f c d).1
      constructor
      · rintro ⟨h, _⟩; omega
      · rintro ⟨_, h, _⟩; omega
    · rw [if_neg c]
      by_cases d : f ∈ s.t
      · rw [if_pos d]
        have h1 := (hz f d).1
        constructor
        · rintro ⟨_, h, _⟩; omega
        · rintro ⟨_, h, _⟩; omega
      · rw [if_neg d]
end Go.Proofs.YtgjkdnpidobabaaGreat

namespace Go.Proofs.YtgjkdnpidobabaaGreat
open Go.RowKit
set_option linter.unusedVariables false

structure SetDone (m : SpM) (y : SpX) (pg : Nat) (x : En) (F' : Nat → List Nat) (p' : PS) (t' : TS) : Prop where
  e : t'.e = y.t.e.set pg x
  live : t'.live = true
  step : Step y.t m.p t' p'
  zone : ∀ f ∈ t'.t, f ∉ y.t.t → m.p.z.getD (f / 32) 0 = 2 ∧ m.p.i.getD (f / 32) false = false
  F : ∀ f, f ∉ y.t.t → m.p.u.getD f 0 ≠ 1 → F' f = m.F f
  ok : TsOk t'
theorem Tabs.alloc {m : SpM} {use f : Nat} {p1 : PS} {F1 : Nat → List Nat} (h : Tabs m) (ha : Alloc1 m.p use f p1) : Tabs ((m.setP p1).setF F1) :=
  ⟨h.bad, h.live, fun n y hy g hg => by
    show p1.u.getD g 0 = 2
    rw [ha.u, if_neg (fun e => by have h1 := h.use n y hy g hg; have h2 := ha.free; rw [e] at h1; omega)]
    exact h.use n y hy g hg, h.two⟩
theorem takeM_x (m : SpM) (p : Pl) (x : En) : (takeM m p x).x = m.x := by
  unfold takeM
  split
  · rfl
  · split <;> rfl
theorem freeM_x (m : SpM) (n : Int) (p : Pl) : (freeM m n p).x = m.x := by
  unfold freeM
  split <;> rfl
theorem leaveM_x (m : SpM) (p : Pl) (x : En) : (leaveM m p x).x = m.x := by
  unfold leaveM
  split
  · exact freeM_x _ _ _
  · split <;> rfl
theorem putM_x (m : SpM) (n : Nat) (y : SpX) (pg : Nat) (x : En) (er : Nat) (F' : Nat → List Nat) (p' : PS) (t' : TS) : (putM m n y pg x er F' p' t').x = upd m.x n (some ⟨t', y.a, y.q⟩) := by
  unfold putM
  split
  · split
    · exact takeM_x _ _ _
    · rw [leaveM_x, takeM_x]; rfl
  · rfl
section
variable (gS : Nat) (a : SpA) (k : SpK) (K : Nat → Prop) (m : SpM) (w : World)
theorem SpMem.tsok {n : Nat} {y : SpX} (h : SpMem w gS a k K m) (hy : m.x n = some y) : TsOk y.t := by
  obtain ⟨_, _, _, _, h1, _⟩ := h.treeP hy
  exact h1.ok
theorem put_ok (n : Nat) (y : SpX) (pg : Nat) (x : En) (h : SpMem w gS a k K m) (hy : m.x n = some y) (hpg : pg < 4096) (hT : Tabs m) (hF : Few m) (hx : EnOk x) (h3 : 3 ≤ cntF m.p 2) :
    Calls Tryz.prog 25 #[.pointer (some ⟨gS, 0, none⟩), .agg #[.int .i64 (n : Int), .int .i64 (pg : Int)], .agg #[.int .i64 x.k, .int .i64 x.n, .bool x.w]] w fun e w' =>
      ∃ F' p' t', SetDone m y pg x F' p' t' ∧ SpEnd w gS a k K (.int .i64 0) (putM m n y pg x 0 F' p' t') e w' := by
  refine (put_any gS a k K m w n y pg x h hy hpg hT hF).mono ?_
  rintro e w' ⟨er, F', p', t', h1, h2, h4, h5, K', h6, h7⟩
  obtain ⟨rfl, b1, b2, b3, b4⟩ := set_ok h1 h2 (h.tsok gS a k K m w hy) (hT.live n y hy) hx hpg h3
  refine ⟨F', p', t', ⟨b1, b2, b3, b4, h4, ?_⟩, h5, K', h6, h7⟩
  exact h6.tsok gS a k K' _ w' (n := n) (y := ⟨t', y.a, y.q⟩) (by rw [putM_x]; exact upd_same _ _ _)
set_option maxRecDepth 100000 in
set_option maxHeartbeats 1000000 in
theorem has_ok (n : Nat) (y : SpX) (pg f : Nat) (hf : f < 1024) (h : SpMem w gS a k K m) (hy : m.x n = some y) (hpg : pg < 4096) (hT : Tabs m) (hF : Few m) (h3 : 3 ≤ cntF m.p 2) :
    Calls Tryz.prog 190 #[.pointer (some ⟨gS, 0, none⟩), .agg #[.int .i64 (n : Int), .int .i64 (pg : Int)], .int .i64 (f : Int)] w fun e w' =>
      ∃ F' p' t', SetDone m y pg ⟨1, f, false⟩ F' p' t' ∧ SpEnd w gS a k K (.tuple #[.int .i64 (f : Int), .int .i64 0]) (putM m n y pg ⟨1, f, false⟩ 0 F' p' t') e w' := by
  obtain ⟨W, hW⟩ : ∃ W, w.alloc (.cells #[.int .i64 (n : Int), .int .i64 (pg : Int)] 56) = W := ⟨_, rfl⟩
  have hb : Below w.heap.size w W := by rw [← hW]; exact belAl (Below.refl _ w) _
  have hP : Blk W w.heap.size 56 #[.int .i64 (n : Int), .int .i64 (pg : Int)] := by rw [← hW]; exact Blk.new w _ _
  have HC := Lib.hid (put_ok gS a k K m W n y pg ⟨1, f, false⟩ (h.fresh hb) hy hpg hT hF (.inl ⟨rfl, by simp, by simp only; omega⟩) h3)
  have G := Lib.hid (Went.of_below (K := K) hb)
  have p0 : W.cell? ⟨w.heap.size, 0, none⟩ = some (.int .i64 (n : Int)) := hP.cell 0
  have p1 : W.cell? ⟨w.heap.size, 1, none⟩ = some (.int .i64 (pg : Int)) := hP.cell 1
  clear hb hP h hy hT hF h3
  go_enter Tryz.func190, Tryz.ntmps190
  go_wp2_with fail
  refine HC.out.mono ?_
  rintro e w2 ⟨F', p', t', h1, rfl, h2⟩
  have H1 := Lib.hid h1
  have R := Lib.hid (h2.from_ G.out)
  clear h1 h2
  go_wp2_with fail
  go_ret2
  exact ⟨F', p', t', H1.out, rfl, R.out⟩
set_option maxRecDepth 100000 in
set_option maxHeartbeats 2000000 in
theorem bring_ok (g : Nat) (pre post : Array Value) (eg : ∀ args w, (callFunc g args).run Tryz.prog w = .ok (.enter g args) w) (n : Nat) (y : SpX) (pg use : Nat) (B : List Nat) (hu : 3 ≤ use ∧ use ≤ 4) (h : SpMem w gS a k K m) (hy : m.x n = some y) (hpg : pg < 4096) (hT : Tabs m) (hF : Few m) (h3 : 3 ≤ cntF m.p 2) (hc : 0 < cntF m.p 3)
    (hfill : ∀ f p1 w1 K1, Alloc1 m.p use f p1 → Went w K w1 K1 → SpMem w1 gS a k K1 (m.setP p1) → Calls Tryz.prog g (pre.push (.int .i64 (f : Int)) ++ post) w1 (SpEnd w1 gS a k K1 (.int .i64 0) ((m.setP p1).setF (upd m.F f B)))) :
    Calls Tryz.prog 161 #[.pointer (some ⟨gS, 0, none⟩), .agg #[.int .i64 (n : Int), .int .i64 (pg : Int)], .int .i64 (use : Int), .func (.func g) pre post] w fun e w' =>
      ∃ f p1 F' p' t', Alloc1 m.p use f p1 ∧ SetDone ((m.setP p1).setF (upd m.F f B)) y pg ⟨1, f, false⟩ F' p' t' ∧ SpEnd w gS a k K (.tuple #[.int .i64 (f : Int), .int .i64 0]) (putM ((m.setP p1).setF (upd m.F f B)) n y pg ⟨1, f, false⟩ 0 F' p' t') e w' := by
  obtain ⟨W, hW⟩ : ∃ W, w.alloc (.cells #[.int .i64 (n : Int), .int .i64 (pg : Int)] 56) = W := ⟨_, rfl⟩
  have hb : Below w.heap.size w W := by rw [← hW]; exact belAl (Below.refl _ w) _
  have hP : Blk W w.heap.size 56 #[.int .i64 (n : Int), .int .i64 (pg : Int)] := by rw [← hW]; exact Blk.new w _ _
  have h1 := h.fresh hb
  have c2 : W.cell? ⟨gS, 2, none⟩ = some (.pointer (some ⟨a.P, 0, none⟩)) := h1.cells.cell 2
  obtain ⟨KP, hPm, -, hl⟩ := h1.poolP
  have HA := Lib.hid (pool_alloc a.P KP m.p (use : Int) 0 true W hPm)
  have HOK := Lib.hid hPm.ok
  have HL := Lib.hid hl
  have G := Lib.hid (Went.of_below (K := K) hb)
  have HP := Lib.hid hP
  have HK := Lib.hid h.lt
  have HY := Lib.hid hy
  have HT := Lib.hid hT
  have HF := Lib.hid hF
  have HX := Lib.hid hfill
  have HU := Lib.hid hu
  have HC := Lib.hid (And.intro h3 hc)
  clear hb hP h1 hPm hl h hy hT hF hfill hu h3 hc
  go_enter Tryz.func161, Tryz.ntmps161
  go_wp2_with fail
  refine HA.out.mono ?_
  rintro e w2 ⟨f, er, p1, hal, K2, rfl, hp2, hn2, ht2⟩
  obtain ⟨rfl, hal1⟩ := alloc_movable hal HOK.out (by have := HU.out; omega) (by have := HU.out; omega) HC.out.2
  obtain ⟨K3, h3, g3⟩ := HL.out p1 w2 K2 hp2 hn2 ht2
  have AL := Lib.hid hal1
  have FI := Lib.hid (HX.out f p1 w2 K3 hal1 (G.out.trans g3) h3)
  have G3 := Lib.hid g3
  clear hal hal1 h3 g3 hp2 hn2 ht2 HA HL
  have t0 : (((0 : Nat) : Int) != 0) = false := rfl
  have t1 : (((0 : Nat) : Int) == 0) = true := rfl
  go_wp2_with fail
  refine FI.out.mono ?_
  rintro e w3 ⟨rfl, K4, h4, g4⟩
  have g34 := G3.out.trans g4
  have hP4 : Blk w3 w.heap.size 56 #[.int .i64 (n : Int), .int .i64 (pg : Int)] := g34.tr.blk HP.out fun hk => Nat.lt_irrefl _ (HK.out _ hk)
  have p0 : w3.cell? ⟨w.heap.size, 0, none⟩ = some (.int .i64 (n : Int)) := hP4.cell 0
  have p1c : w3.cell? ⟨w.heap.size, 1, none⟩ = some (.int .i64 (pg : Int)) := hP4.cell 1
  have hT4 : Tabs ((m.setP p1).setF (upd m.F f B)) := HT.out.alloc AL.out
  have HS := Lib.hid (has_ok gS a k K4 _ w3 n y pg f AL.out.lt h4 HY.out hpg hT4 ⟨HF.out.b, HF.out.f, HF.out.s⟩ (by show 3 ≤ cntF p1 2; rw [AL.out.c2]; exact HC.out.1))
  have G4 := Lib.hid g34
  clear h4 g4 g34 hP4 hT4 FI
  go_wp2_with fail
  refine HS.out.mono ?_
  rintro e w5 ⟨F', p', t', h5, rfl, h6⟩
  have H5 := Lib.hid h5
  have R := Lib.hid ((h6.from_ G4.out).from_ G.out)
  clear h5 h6 HS
  go_wp2_with fail
  go_ret2
  exact ⟨f, p1, F', p', t', AL.out, H5.out, rfl, R.out⟩
end
end Go.Proofs.YtgjkdnpidobabaaGreat

namespace Go.Proofs.YtgjkdnpidobabaaGreat
open Go.RowKit
set_option linter.unusedVariables false

def entM (m : SpM) (n pg : Nat) : En := match m.x n with
  | some y => y.t.e.getD pg en0
  | none => en0
theorem entM_some {m : SpM} {n : Nat} {y : SpX} (hy : m.x n = some y) (pg : Nat) : entM m n pg = y.t.e.getD pg en0 := by unfold entM; rw [hy]
theorem entM_none {m : SpM} {n : Nat} (hy : m.x n = none) (pg : Nat) : entM m n pg = en0 := by unfold entM; rw [hy]
def arM (m : SpM) (n pg : Nat) : Option Ar := match m.x n with
  | some y => findA y.a (pg : Int)
  | none => none
def Good (A : Nat → Nat → Option Ar) (m : SpM) (n pg : Nat) (x : En) : Prop := x = en0 ∨ ∃ f : Nat, x = ⟨1, (f : Int), false⟩ ∧ f < 1024 ∧ ∃ r, A n pg = some r ∧
  ((m.p.u.getD f 0 = 3 ∧ r.kd ≠ 2) ∨ (m.p.u.getD f 0 = 4 ∧ r.kd ≠ 1 ∧ frameC m.c ⟨r.fl, r.ofs + (pg : Int) - r.fr⟩ = some (f : Int)))
structure Inv (A : Nat → Nat → Option Ar) (m : SpM) : Prop where
  tabs : Tabs m
  zone : ∀ n y, m.x n = some y → ∀ f ∈ y.t.t, m.p.z.getD (f / 32) 0 = 2 ∧ m.p.i.getD (f / 32) false = false
  tok : ∀ n y, m.x n = some y → TsOk y.t
  x8 : ∀ n y, m.x n = some y → n < 8
  ars : ∀ n y, m.x n = some y → listA y.a ∧ y.a.length ≤ 16
  good : ∀ n pg, Good A m n pg (entM m n pg)
  back : ∀ (f : Int) (q : Pl), q ∈ m.b f ↔ ∃ n pg : Nat, q = ⟨n, pg⟩ ∧ entM m n pg = ⟨1, f, false⟩
  srt : ∀ f, SrtP (m.b f)
  slot : ∀ n, m.s n = []
  cok : CsOk m.c
  ckey : ∀ e ∈ m.c, (0 ≤ e.k.c ∧ e.k.c < 4 ∧ 0 ≤ e.k.g ∧ e.k.g < 16) ∧ ∃ f : Nat, e.f = (f : Int) ∧ f < 1024 ∧ m.p.u.getD f 0 = 4
  tr : m.T = Tr.none_
theorem frameC_some {es : CS} {k : Pl} {f : Int} (h : frameC es k = some f) : ∃ e ∈ es, e.k = k ∧ e.f = f := by
  unfold frameC at h
  rw [Option.map_eq_some_iff] at h
  obtain ⟨e, h1, h2⟩ := h
  exact ⟨e, List.mem_of_find?_eq_some h1, by simpa using List.find?_some h1, h2⟩
theorem pageC_some {es : CS} {f : Int} {k : Pl} (h : pageC es f = some k) : ∃ e ∈ es, e.k = k ∧ e.f = f := by
  unfold pageC at h
  rw [Option.map_eq_some_iff] at h
  obtain ⟨e, h1, h2⟩ := h
  exact ⟨e, List.mem_of_find?_eq_some h1, h2, by simpa using List.find?_some h1⟩
theorem frame_atU {es : CS} {i : Nat} {e : Ce} (h : CsOk es) (h2 : es[i]? = some e) : frameC es e.k = some e.f ∧ pageC es e.f = some e.k := by
  have hc : es = es.take i ++ e :: es.drop (i + 1) := by
    obtain ⟨hi, rfl⟩ := List.getElem?_eq_some_iff.1 h2
    rw [List.getElem_cons_drop, List.take_append_drop]
  unfold frameC pageC
  have hp := h
  rw [hc] at hp ⊢
  obtain ⟨p1, p2, p3⟩ := List.pairwise_append.1 hp
  constructor
  · rw [List.find?_append, List.find?_eq_none.2 (fun x hx => by simp [(p3 x hx e List.mem_cons_self).1]), Option.none_or, List.find?_cons_of_pos (by simp)]
    rfl
  · rw [List.find?_append, List.find?_eq_none.2 (fun x hx => by simp [(p3 x hx e List.mem_cons_self).2]), Option.none_or, List.find?_cons_of_pos (by simp)]
    rfl
theorem pageC_of {es : CS} (hk : CsOk es) {k : Pl} {f : Int} (h : frameC es k = some f) : pageC es f = some k := by
  obtain ⟨e, he, rfl, rfl⟩ := frameC_some h
  obtain ⟨i, hi, e1⟩ := List.mem_iff_getElem.1 he
  exact (frame_atU hk (i := i) (by rw [List.getElem?_eq_getElem hi, e1])).2
theorem en_ne (f : Int) : (⟨1, f, false⟩ : En) ≠ en0 := fun e => by injection e with e1; exact absurd e1 (by decide)
theorem en_inj {f g : Int} (h : (⟨1, f, false⟩ : En) = ⟨1, g, false⟩) : f = g := by injection h
structure Rest (M M' : SpM) : Prop where
  F : M'.F = M.F
  bad : M'.bad = M.bad
  S : M'.S = M.S
  L : M'.L = M.L
  T : M'.T = M.T
  c : M'.c = M.c
  s : M'.s = M.s
  x : M'.x = M.x
theorem Rest.refl (M : SpM) : Rest M M := ⟨rfl, rfl, rfl, rfl, rfl, rfl, rfl, rfl⟩
theorem Rest.trans {M M' M'' : SpM} (h : Rest M M') (g : Rest M' M'') : Rest M M'' := ⟨g.F.trans h.F, g.bad.trans h.bad, g.S.trans h.S, g.L.trans h.L, g.T.trans h.T, g.c.trans h.c, g.s.trans h.s, g.x.trans h.x⟩
theorem takeM_is (M : SpM) (pl : Pl) (x : En) (hx : x = en0 ∨ ∃ f : Int, x = ⟨1, f, false⟩) (hs : ∀ g, SrtP (M.b g)) :
    Rest M (takeM M pl x) ∧ (takeM M pl x).p = M.p ∧ (∀ g, SrtP ((takeM M pl x).b g)) ∧ ∀ g q, q ∈ (takeM M pl x).b g ↔ q ∈ M.b g ∨ (q = pl ∧ x.k = 1 ∧ x.n = g) := by
  rcases hx with rfl | ⟨f, rfl⟩
  · have e : takeM M pl en0 = M := rfl
    rw [e]
    refine ⟨Rest.refl _, rfl, hs, fun g q => ⟨.inl, fun h => h.elim id (fun h => absurd h.2.1 (by decide))⟩⟩
  · have e : takeM M pl ⟨1, f, false⟩ = M.setB (updB M.b f (putP (M.b f) pl)) := rfl
    rw [e]
    refine ⟨⟨rfl, rfl, rfl, rfl, rfl, rfl, rfl, rfl⟩, rfl, fun g => ?_, fun g q => ?_⟩
    · show SrtP (updB M.b f (putP (M.b f) pl) g)
      by_cases c : g = f
      · subst c; rw [updB_same]; exact srt_putP (hs _)
      · rw [updB_other _ _ _ c]; exact hs _
    · show q ∈ updB M.b f (putP (M.b f) pl) g ↔ _
      by_cases c : g = f
      · subst c
        rw [updB_same, mem_putP]
        constructor
        · rintro (h | h)
          · exact .inr ⟨h, rfl, rfl⟩
          · exact .inl h
        · rintro (h | ⟨h, -, -⟩)
          · exact .inr h
          · exact .inl h
      · rw [updB_other _ _ _ c]
        exact ⟨.inl, fun h => h.elim id fun h => absurd h.2.2.symm c⟩
set_option maxRecDepth 20000 in
theorem freeM_is (M : SpM) (f0 : Nat) (hf : f0 < 1024) (pl : Pl) (hs : ∀ g, SrtP (M.b g)) :
    Rest M (freeM M (f0 : Int) pl) ∧ (∀ g, SrtP ((freeM M (f0 : Int) pl).b g)) ∧ (∀ g q, q ∈ (freeM M (f0 : Int) pl).b g ↔ q ∈ M.b g ∧ ¬ (q = pl ∧ g = (f0 : Int))) ∧
      ((freeM M (f0 : Int) pl).p = M.p ∨ (M.p.u.getD f0 0 = 3 ∧ (∀ q, q ∉ (freeM M (f0 : Int) pl).b (f0 : Int)) ∧ (freeM M (f0 : Int) pl).p = ⟨M.p.u.set f0 1, M.p.z, M.p.i⟩)) := by
  have hd : ∀ g q, q ∈ (dropM M (f0 : Int) pl).b g ↔ q ∈ M.b g ∧ ¬ (q = pl ∧ g = (f0 : Int)) := by
    intro g q
    show q ∈ updB M.b _ _ g ↔ _
    by_cases c : g = (f0 : Int)
    · subst c
      rw [updB_same, mem_erase_srt (hs _)]
      constructor
      · rintro ⟨h1, h2⟩; exact ⟨h2, fun h => h1 h.1⟩
      · rintro ⟨h1, h2⟩; exact ⟨fun h => h2 ⟨h, rfl⟩, h1⟩
    · rw [updB_other _ _ _ c]
      exact ⟨fun h => ⟨h, fun h' => c h'.2⟩, fun h => h.1⟩
  have hsd : ∀ g, SrtP ((dropM M (f0 : Int) pl).b g) := by
    intro g
    show SrtP (updB M.b _ _ g)
    by_cases c : g = (f0 : Int)
    · subst c; rw [updB_same]; exact srt_erase (hs _) _
    · rw [updB_other _ _ _ c]; exact hs _
  have hu : useP M.p (f0 : Int) = M.p.u.getD f0 0 := by
    unfold useP
    rw [if_pos ⟨by omega, by omega⟩, Int.toNat_natCast]
  unfold freeM
  split
  · rename_i c
    rw [hu] at c
    have e : (freeP M.p (f0 : Int)).2 = ⟨M.p.u.set f0 1, M.p.z, M.p.i⟩ := by
      unfold freeP
      rw [hu, if_pos ⟨by omega, by omega⟩, Int.toNat_natCast]
    refine ⟨⟨rfl, rfl, rfl, rfl, rfl, rfl, rfl, rfl⟩, hsd, hd, .inr ⟨c.1, fun q hq => ?_, e⟩⟩
    have : q ∈ (M.b (f0 : Int)).erase pl := by
      have h : q ∈ updB M.b (f0 : Int) ((M.b (f0 : Int)).erase pl) (f0 : Int) := hq
      rwa [updB_same] at h
    rw [c.2] at this
    cases this
  · exact ⟨⟨rfl, rfl, rfl, rfl, rfl, rfl, rfl, rfl⟩, hsd, hd, .inl rfl⟩
structure PutIs (m : SpM) (n : Nat) (y : SpX) (pg : Nat) (x : En) (F' : Nat → List Nat) (p' : PS) (t' : TS) (m1 : SpM) : Prop where
  rest : Rest (m.tree n y F' p' t') m1
  srt : ∀ g, SrtP (m1.b g)
  mem : ∀ g q, q ∈ m1.b g ↔ (q = ⟨n, pg⟩ ∧ x.k = 1 ∧ x.n = g) ∨ (q ≠ ⟨n, pg⟩ ∧ q ∈ m.b g)
  p : m1.p = p' ∨ ∃ f0 : Nat, f0 < 1024 ∧ entM m n pg = ⟨1, (f0 : Int), false⟩ ∧ p'.u.getD f0 0 = 3 ∧ (∀ q, q ∉ m1.b (f0 : Int)) ∧ m1.p = ⟨p'.u.set f0 1, p'.z, p'.i⟩
set_option maxRecDepth 20000 in
theorem putIs {A : Nat → Nat → Option Ar} {m : SpM} {n : Nat} {y : SpX} {pg : Nat} {x : En} {F' : Nat → List Nat} {p' : PS} {t' : TS} (h : Inv A m) (hy : m.x n = some y) (hx : x = en0 ∨ ∃ f : Int, x = ⟨1, f, false⟩) : PutIs m n y pg x F' p' t' (putM m n y pg x 0 F' p' t') := by
  have hb : ∀ g, (⟨n, pg⟩ : Pl) ∈ m.b g ↔ entM m n pg = ⟨1, g, false⟩ := fun g => by
    rw [h.back]
    constructor
    · rintro ⟨n', q', e1, e2⟩
      injection e1 with a1 a2
      obtain rfl : n = n' := by omega
      obtain rfl : pg = q' := by omega
      exact e2
    · exact fun e => ⟨n, pg, rfl, e⟩
  obtain ⟨t1, t2, t3, t4⟩ := takeM_is (m.tree n y F' p' t') ⟨n, pg⟩ x hx (fun g => h.srt g)
  have t4' : ∀ g q, q ∈ (takeM (m.tree n y F' p' t') ⟨n, pg⟩ x).b g ↔ q ∈ m.b g ∨ (q = ⟨n, pg⟩ ∧ x.k = 1 ∧ x.n = g) := t4
  have e0 : putM m n y pg x 0 F' p' t' = if (entM m n pg).k = x.k ∧ (entM m n pg).n = x.n then takeM (m.tree n y F' p' t') ⟨n, pg⟩ x else leaveM (takeM (m.tree n y F' p' t') ⟨n, pg⟩ x) ⟨n, pg⟩ (entM m n pg) := by
    rw [entM_some hy]
    rfl
  rw [e0]
  rcases h.good n pg with ho | ⟨f0, ho, hf0, -⟩
  · have e1 : (if (entM m n pg).k = x.k ∧ (entM m n pg).n = x.n then takeM (m.tree n y F' p' t') ⟨n, pg⟩ x else leaveM (takeM (m.tree n y F' p' t') ⟨n, pg⟩ x) ⟨n, pg⟩ (entM m n pg)) = takeM (m.tree n y F' p' t') ⟨n, pg⟩ x := by
      rw [ho]
      split <;> rfl
    rw [e1]
    refine ⟨t1, t3, fun g q => ?_, .inl t2⟩
    rw [t4']
    constructor
    · rintro (c | c)
      · refine .inr ⟨fun e => ?_, c⟩
        rw [e, hb, ho] at c
        exact en_ne g c.symm
      · exact .inl c
    · rintro (c | c)
      · exact .inr c
      · exact .inl c.2
  · by_cases c : (entM m n pg).k = x.k ∧ (entM m n pg).n = x.n
    · rw [if_pos c]
      rw [ho] at c
      refine ⟨t1, t3, fun g q => ?_, .inl t2⟩
      rw [t4']
      constructor
      · rintro (d | d)
        · by_cases e : q = ⟨n, pg⟩
          · rw [e, hb, ho] at d
            exact .inl ⟨e, c.1.symm, c.2.symm.trans (en_inj d)⟩
          · exact .inr ⟨e, d⟩
        · exact .inl d
      · rintro (d | d)
        · exact .inr d
        · exact .inl d.2
    · rw [if_neg c, ho]
      have e1 : leaveM (takeM (m.tree n y F' p' t') ⟨n, pg⟩ x) ⟨n, pg⟩ ⟨1, (f0 : Int), false⟩ = freeM (takeM (m.tree n y F' p' t') ⟨n, pg⟩ x) (f0 : Int) ⟨n, pg⟩ := rfl
      rw [e1]
      obtain ⟨r1, r2, r3, r4⟩ := freeM_is (takeM (m.tree n y F' p' t') ⟨n, pg⟩ x) f0 hf0 ⟨n, pg⟩ t3
      refine ⟨t1.trans r1, r2, fun g q => ?_, ?_⟩
      · rw [r3, t4']
        constructor
        · rintro ⟨d | d, e⟩
          · by_cases e2 : q = ⟨n, pg⟩
            · rw [e2, hb, ho] at d
              exact absurd ⟨e2, (en_inj d).symm⟩ e
            · exact .inr ⟨e2, d⟩
          · exact .inl d
        · rintro (d | d)
          · refine ⟨.inr d, fun e => c ?_⟩
            rw [ho]
            exact ⟨d.2.1.symm, (d.2.2.trans e.2).symm⟩
          · exact ⟨.inl d.2, fun e => d.1 e.1⟩
      · rw [t2] at r4
        rcases r4 with r4 | ⟨d1, d2, d3⟩
        · exact .inl r4
        · exact .inr ⟨f0, hf0, ho, d1, d2, d3⟩
section
variable {A : Nat → Nat → Option Ar} {m m1 : SpM} {n : Nat} {y : SpX} {pg : Nat} {x : En} {F' : Nat → List Nat} {p' : PS} {t' : TS}
theorem PutIs.xs (h : PutIs m n y pg x F' p' t' m1) : m1.x = upd m.x n (some ⟨t', y.a, y.q⟩) := h.rest.x
theorem PutIs.ent (h : PutIs m n y pg x F' p' t' m1) (hd : SetDone m y pg x F' p' t') (hy : m.x n = some y) (hl : y.t.e.length = 4096) (hpg : pg < 4096) (n' q : Nat) : entM m1 n' q = if n' = n ∧ q = pg then x else entM m n' q := by
  by_cases c : n' = n
  · subst c
    have e : m1.x n' = some ⟨t', y.a, y.q⟩ := by rw [h.xs]; exact upd_same _ _ _
    rw [entM_some e, entM_some hy]
    show t'.e.getD q en0 = _
    rw [hd.e]
    by_cases d : q = pg
    · subst d
      rw [if_pos ⟨rfl, rfl⟩]
      exact getD_set_same _ _ _ _ (by omega)
    · rw [if_neg (fun e => d e.2)]
      exact getD_set_ne _ _ _ _ _ d
  · rw [if_neg (fun e => c e.1)]
    have e : m1.x n' = m.x n' := by rw [h.xs]; exact upd_other _ _ _ c
    unfold entM
    rw [e]
theorem Inv.free_no (h : Inv A m) {f : Nat} (hf : m.p.u.getD f 0 ≠ 3) (hf4 : m.p.u.getD f 0 ≠ 4) (n' q : Nat) : entM m n' q ≠ ⟨1, (f : Int), false⟩ := by
  intro e
  rcases h.good n' q with c | ⟨g, c, _, r, _, c2⟩
  · rw [c] at e; exact en_ne _ e.symm
  · rw [c] at e
    have := en_inj e
    obtain rfl : g = f := by omega
    rcases c2 with c2 | c2
    · exact hf c2.1
    · exact hf4 c2.1
theorem PutIs.use (h : PutIs m n y pg x F' p' t' m1) (hd : SetDone m y pg x F' p' t') (hi : Inv A m) (hy : m.x n = some y) {f : Nat} (hf : f < 1024) (hu : m.p.u.getD f 0 = 3 ∨ m.p.u.getD f 0 = 4) :
    p'.u.getD f 0 = m.p.u.getD f 0 ∧ (m1.p.u.getD f 0 = m.p.u.getD f 0 ∨ (m.p.u.getD f 0 = 3 ∧ m1.p.u.getD f 0 = 1 ∧ (∀ q, q ∉ m1.b (f : Int)) ∧ entM m n pg = ⟨1, (f : Int), false⟩)) := by
  have e : p'.u.getD f 0 = m.p.u.getD f 0 := by
    rw [hd.step.u f hf, if_neg (fun c => ?_), if_neg (fun c => ?_)]
    · have := hi.tabs.use n y hy f c; omega
    · by_cases c2 : f ∈ y.t.t
      · have := hi.tabs.use n y hy f c2; omega
      · have := hd.step.new f c c2; omega
  refine ⟨e, ?_⟩
  rcases h.p with c | ⟨f0, h0, c1, c2, c3, c4⟩
  · rw [c]; exact .inl e
  · rw [c4]
    by_cases d : f = f0
    · subst d
      refine .inr ⟨e.symm.trans c2, ?_, c3, c1⟩
      refine getD_set_same _ _ _ _ ?_
      by_cases l : f < p'.u.length
      · exact l
      · rw [List.getD_eq_getElem?_getD, List.getElem?_eq_none (by omega)] at c2
        cases c2
    · left
      rw [← e]
      exact getD_set_ne _ _ _ _ _ d
theorem PutIs.z (h : PutIs m n y pg x F' p' t' m1) (hd : SetDone m y pg x F' p' t') : m1.p.z = m.p.z ∧ m1.p.i = m.p.i := by
  rcases h.p with c | ⟨f0, h0, c1, c2, c3, c4⟩
  · rw [c]; exact ⟨hd.step.z, hd.step.i⟩
  · rw [c4]; exact ⟨hd.step.z, hd.step.i⟩
theorem Inv.put (hi : Inv A m) (hy : m.x n = some y) (hpg : pg < 4096) (hd : SetDone m y pg x F' p' t') (hg : Good A m n pg x) (h : PutIs m n y pg x F' p' t' m1) : Inv A m1 := by
  have hl := (hi.tok n y hy).el
  have hent := h.ent hd hy hl hpg
  have hz := h.z hd
  have hback : ∀ (f : Int) (q : Pl), q ∈ m1.b f ↔ ∃ n' pg' : Nat, q = ⟨n', pg'⟩ ∧ entM m1 n' pg' = ⟨1, f, false⟩ := by
    intro f q
    rw [h.mem]
    constructor
    · rintro (⟨rfl, c1, c2⟩ | ⟨c1, c2⟩)
      · refine ⟨n, pg, rfl, ?_⟩
        rw [hent, if_pos ⟨rfl, rfl⟩]
        rcases hg with rfl | ⟨g, rfl, _⟩
        · exact absurd c1 (by decide)
        · rw [← c2]
      · obtain ⟨n', q', rfl, e⟩ := (hi.back _ _).1 c2
        refine ⟨n', q', rfl, ?_⟩
        rw [hent, if_neg]
        · exact e
        · rintro ⟨rfl, rfl⟩; exact c1 rfl
    · rintro ⟨n', q', rfl, e⟩
      rw [hent] at e
      by_cases c : n' = n ∧ q' = pg
      · obtain ⟨rfl, rfl⟩ := c
        rw [if_pos ⟨rfl, rfl⟩] at e
        left
        rw [e]
        exact ⟨rfl, rfl, rfl⟩
      · rw [if_neg c] at e
        refine .inr ⟨fun e2 => c ?_, (hi.back _ _).2 ⟨n', q', rfl, e⟩⟩
        injection e2 with a1 a2
        omega
  have hkeep : ∀ n' q' (f : Nat), f < 1024 → entM m1 n' q' = ⟨1, (f : Int), false⟩ → (m.p.u.getD f 0 = 3 ∨ m.p.u.getD f 0 = 4) → m1.p.u.getD f 0 = m.p.u.getD f 0 := by
    intro n' q' f hf e hu
    rcases (h.use hd hi hy hf hu).2 with c | ⟨_, _, c, _⟩
    · exact c
    · exact absurd ((hback _ _).2 ⟨n', q', rfl, e⟩) (c _)
  have hgood : ∀ n' q' z, entM m1 n' q' = z → Good A m n' q' z → Good A m1 n' q' z := by
    rintro n' q' z e (rfl | ⟨f, rfl, hf, r, hr, c⟩)
    · exact .inl rfl
    · have hk := hkeep n' q' f hf e (by rcases c with c | c; exact .inl c.1; exact .inr c.1)
      refine .inr ⟨f, rfl, hf, r, hr, ?_⟩
      rw [hk, h.rest.c]
      exact c
  have huse2 : ∀ f, f < 1024 → p'.u.getD f 0 = 2 → m1.p.u.getD f 0 = 2 := by
    intro f hf e
    rcases h.p with c | ⟨f0, h0, c1, c2, c3, c4⟩
    · rw [c]; exact e
    · rw [c4]
      rw [getD_set_ne _ _ _ _ _ (fun d => by rw [d] at e; omega)]
      exact e
  have hxs := h.xs
  have hcase : ∀ n' y', m1.x n' = some y' → (n' = n ∧ y' = ⟨t', y.a, y.q⟩) ∨ (n' ≠ n ∧ m.x n' = some y') := by
    intro n' y' e
    rw [hxs] at e
    by_cases c : n' = n
    · subst c
      rw [upd_same] at e
      exact .inl ⟨rfl, by injection e with e; exact e.symm⟩
    · rw [upd_other _ _ _ c] at e
      exact .inr ⟨c, e⟩
  refine ⟨⟨?_, ?_, ?_, ?_⟩, ?_, ?_, ?_, ?_, ?_, hback, h.srt, ?_, ?_, ?_, ?_⟩
  · rw [h.rest.bad]; exact hi.tabs.bad
  · intro n' y' e
    rcases hcase n' y' e with ⟨rfl, rfl⟩ | ⟨c, e⟩
    · exact hd.live
    · exact hi.tabs.live n' y' e
  · intro n' y' e f hf
    rcases hcase n' y' e with ⟨rfl, rfl⟩ | ⟨c, e⟩
    · have hf1 := hd.ok.tlt f hf
      exact huse2 f hf1 (by rw [hd.step.u f hf1, if_pos hf])
    · have hf1 := (hi.tok n' y' e).tlt f hf
      have h2 := hi.tabs.use n' y' e f hf
      refine huse2 f hf1 ?_
      rw [hd.step.u f hf1]
      split
      · rfl
      · rw [if_neg (hi.tabs.two n y n' y' hy e c f hf)]
        exact h2
  · intro n1 y1 n2 y2 e1 e2 hne f hf2 hf1
    rcases hcase n1 y1 e1 with ⟨rfl, rfl⟩ | ⟨c1, e1⟩
    · rcases hcase n2 y2 e2 with ⟨rfl, rfl⟩ | ⟨c2, e2⟩
      · exact hne rfl
      · have h2 := hi.tabs.use n2 y2 e2 f hf2
        by_cases d : f ∈ y.t.t
        · exact hi.tabs.two _ _ _ _ hy e2 c2 f hf2 d
        · have := hd.step.new f hf1 d; omega
    · rcases hcase n2 y2 e2 with ⟨rfl, rfl⟩ | ⟨c2, e2⟩
      · have h1 := hi.tabs.use n1 y1 e1 f hf1
        by_cases d : f ∈ y.t.t
        · exact hi.tabs.two _ _ _ _ hy e1 c1 f hf1 d
        · have := hd.step.new f hf2 d; omega
      · exact hi.tabs.two _ _ _ _ e1 e2 hne f hf2 hf1
  · intro n' y' e f hf
    rw [hz.1, hz.2]
    rcases hcase n' y' e with ⟨rfl, rfl⟩ | ⟨c, e⟩
    · by_cases d : f ∈ y.t.t
      · exact hi.zone _ _ hy f d
      · exact hd.zone f hf d
    · exact hi.zone _ _ e f hf
  · intro n' y' e
    rcases hcase n' y' e with ⟨rfl, rfl⟩ | ⟨c, e⟩
    · exact hd.ok
    · exact hi.tok _ _ e
  · intro n' y' e
    rcases hcase n' y' e with ⟨rfl, rfl⟩ | ⟨c, e⟩
    · exact hi.x8 _ _ hy
    · exact hi.x8 _ _ e
  · intro n' y' e
    rcases hcase n' y' e with ⟨rfl, rfl⟩ | ⟨c, e⟩
    · exact hi.ars _ y hy
    · exact hi.ars _ _ e
  · intro n' q'
    refine hgood n' q' _ rfl ?_
    rw [hent]
    by_cases c : n' = n ∧ q' = pg
    · rw [if_pos c, c.1, c.2]; exact hg
    · rw [if_neg c]; exact hi.good n' q'
  · rw [h.rest.s]; exact hi.slot
  · rw [h.rest.c]; exact hi.cok
  · rw [h.rest.c]
    intro e he
    obtain ⟨c1, f, c2, c3, c4⟩ := hi.ckey e he
    refine ⟨c1, f, c2, c3, ?_⟩
    rcases (h.use hd hi hy c3 (.inr c4)).2 with d | d
    · rw [d]; exact c4
    · omega
  · rw [h.rest.T]; exact hi.tr
theorem distL_subU {l l' : List Nat} (h : ∀ x, x ∈ l → x ∈ l') : (distL l).length ≤ (distL l').length :=
  List.Nodup.length_le_of_subset (distL_nodup l) fun x hx => distL_mem.2 (h x (distL_mem.1 hx))
theorem tablesN_subU {l l' : List Nat} (h : ∀ x, x ∈ l → x ∈ l') : tablesN l ≤ tablesN l' := by
  unfold tablesN
  have hm : ∀ d : Nat, ∀ x, x ∈ l.map (· / d) → x ∈ l'.map (· / d) := fun d x hx => by
    obtain ⟨a, h1, h2⟩ := List.mem_map.1 hx
    exact List.mem_map.2 ⟨a, h a h1, h2⟩
  have h1 := distL_subU (hm 512)
  have h2 := distL_subU (hm 64)
  have h3 := distL_subU (hm 8)
  omega
theorem cntF_le {p p1 : PS} {z : Nat} (h : ∀ f, f < 1024 → p.u.getD f 0 = 1 → p1.u.getD f 0 = 1) (hz : p1.z = p.z) (hi : p1.i = p.i) : cntF p z ≤ cntF p1 z := by
  unfold cntF
  refine List.Nodup.length_le_of_subset (List.nodup_range.filter _) fun f hf => ?_
  obtain ⟨h1, h2⟩ := List.mem_filter.1 hf
  obtain ⟨c1, c2, c3⟩ := of_decide_eq_true h2
  refine List.mem_filter.2 ⟨h1, decide_eq_true ⟨h f (List.mem_range.1 h1) c1, ?_, ?_⟩⟩
  · rw [hz]; exact c2
  · rw [hi]; exact c3
theorem PutIs.cnt (h : PutIs m n y pg x F' p' t' m1) (hd : SetDone m y pg x F' p' t') (hi : Inv A m) (hy : m.x n = some y) :
    cntF m.p 2 + y.t.t.length ≤ cntF m1.p 2 + t'.t.length ∧ cntF m.p 3 ≤ cntF m1.p 3 ∧ t'.t.length ≤ y.t.t.length + 3 ∧ ((entM m n pg ≠ en0 ∨ x = en0) → t'.t.length ≤ y.t.t.length) := by
  obtain ⟨c2, c3⟩ := step_cnt hd.step (hi.tok n y hy) hd.ok (hi.tabs.use n y hy) (hi.zone n y hy) hd.zone
  have hle : ∀ z, cntF p' z ≤ cntF m1.p z := by
    intro z
    rcases h.p with c | ⟨f0, h0, d1, d2, d3, d4⟩
    · rw [c]; exact Nat.le_refl _
    · rw [d4]
      refine cntF_le (fun f hf e => ?_) rfl rfl
      by_cases d : f = f0
      · subst d; omega
      · show (p'.u.set f0 1).getD f 0 = 1
        rw [getD_set_ne _ _ _ _ _ d]; exact e
  have l2 := hle 2
  have l3 := hle 3
  have n1 := (hi.tok n y hy).num (hi.tabs.live n y hy)
  have n2 := hd.ok.num hd.live
  rw [hd.e] at n2
  refine ⟨by omega, by omega, ?_, fun hne => ?_⟩
  · have := tablesN_more (l := pagesOf y.t.e) (l' := pagesOf (y.t.e.set pg x)) fun y hy => pagesOf_set hy
    omega
  · rw [n1, n2]
    refine tablesN_subU fun z hz => ?_
    rw [pagesOf_mem] at hz ⊢
    refine ⟨hz.1, ?_⟩
    by_cases d : z = pg
    · subst d
      rw [getD_set_same _ _ _ _ (by rw [(hi.tok n y hy).el]; exact hz.1)] at hz
      rcases hne with c | c
      · rw [entM_some hy] at c
        intro e0
        have h0 := hi.good n z
        rw [entM_some hy] at h0
        rcases h0 with h0 | ⟨g, h0, _⟩
        · exact c h0
        · rw [h0] at e0; exact absurd e0 (show ¬ (1 : Int) = 0 by decide)
      · rw [c] at hz
        exact absurd rfl hz.2
    · rw [getD_set_ne _ _ _ _ _ d] at hz
      exact hz.2
end
end Go.Proofs.YtgjkdnpidobabaaGreat

namespace Go.Proofs.YtgjkdnpidobabaaGreat
open Go.RowKit
set_option linter.unusedVariables false

theorem enters_zero : ∀ args w, (callFunc 128 args).run Tryz.prog w = .ok (.enter 128 args) w := enters_of Tryz.func128 (by kernel_rfl) rfl
theorem enters_copy : ∀ args w, (callFunc 163 args).run Tryz.prog w = .ok (.enter 163 args) w := enters_of Tryz.func163 (by kernel_rfl) rfl
theorem enters_filled : ∀ args w, (callFunc 209 args).run Tryz.prog w = .ok (.enter 209 args) w := enters_of Tryz.func209 (by kernel_rfl) rfl
theorem enters_read : ∀ args w, (callFunc 191 args).run Tryz.prog w = .ok (.enter 191 args) w := enters_of Tryz.func191 (by kernel_rfl) rfl
section
variable (gS : Nat) (a : SpA) (k : SpK) (K : Nat → Prop) (m : SpM) (w : World)
theorem ram_turn {F' : Nat → List Nat} {r : Value} {e : Ending} {w' : World} (h : SpMem w gS a k K m) (hF : ∀ n y, m.x n = some y → ∀ f ∈ y.t.t, F' f = m.F f) (hp : TurnPost w a.R a.F 1024 F' m.bad r e w') : SpEnd w gS a k K r (m.setF F') e w' := by
  obtain ⟨rfl, h1, h2⟩ := hp
  exact ⟨rfl, (h.ramP).2 F' w' hF h1 h2⟩
theorem fill_zero (use f : Nat) (p1 : PS) (h : SpMem w gS a k K (m.setP p1)) (hT : Tabs m) (ha : Alloc1 m.p use f p1) :
    Calls Tryz.prog 128 #[.pointer (some ⟨a.R, 0, none⟩), .int .i64 (f : Int)] w (SpEnd w gS a k K (.int .i64 0) ((m.setP p1).setF (upd m.F f zer))) := by
  refine (zero_yes a.R a.F 1024 m.F m.bad f w h.ramP.1 ha.lt (hT.bad f ha.lt)).mono fun e w' hp => ?_
  refine ram_turn gS a k K (m.setP p1) w h (fun n y hy g hg => upd_other _ _ _ fun e => ?_) hp
  have h1 := hT.use n y hy g hg
  have h2 := ha.free
  rw [e] at h1
  omega
set_option maxRecDepth 100000 in
set_option maxHeartbeats 1000000 in
theorem fill_copy (use f f0 g1 g2 : Nat) (p1 : PS) (h : SpMem w gS a k K (m.setP p1)) (hT : Tabs m) (ha : Alloc1 m.p use f p1) (hf : f0 < 1024) (c1 : w.cell? ⟨g1, 0, none⟩ = some (.pointer (some ⟨gS, 0, none⟩))) (c2 : w.cell? ⟨g2, 0, none⟩ = some (.int .i64 (f0 : Int))) :
    Calls Tryz.prog 163 #[.int .i64 (f : Int), .pointer (some ⟨g1, 0, none⟩), .pointer (some ⟨g2, 0, none⟩)] w (SpEnd w gS a k K (.int .i64 0) ((m.setP p1).setF (upd m.F f (m.F f0)))) := by
  have c0 : w.cell? ⟨gS, 0, none⟩ = some (.pointer (some ⟨a.R, 0, none⟩)) := h.cells.cell 0
  have HC := Lib.hid ((copy_yes a.R a.F 1024 m.F m.bad f0 f w.drew h.drew.ramP.1 hf ha.lt (hT.bad f0 hf) (hT.bad f ha.lt)).mono fun e w' hp => ram_turn gS a k K (m.setP p1) w.drew h.drew (fun n y hy g hg => upd_other _ _ _ fun e => by
    have h1 := hT.use n y hy g hg
    have h2 := ha.free
    rw [e] at h1
    omega) hp)
  have G := Lib.hid ((Went.refl w K).drew)
  clear h hT ha hf
  go_enter Tryz.func163, Tryz.ntmps163
  go_wp2_with fail
  go_still_tail 6, (by kernel_rfl)
  change wpList _ _ _ _ _ w.drew
  go_wp2_with fail
  refine HC.out.mono ?_
  rintro e w2 ⟨rfl, h2⟩
  have R := Lib.hid (h2.from_ G.out)
  clear h2
  go_wp2_with fail
  go_ret
  exact ⟨rfl, R.out⟩
set_option maxRecDepth 100000 in
set_option maxHeartbeats 1000000 in
theorem read_file (fl pg g1 g2 : Nat) (ty : TypeId) (h : SpMem w gS a k K m) (hf : fl < 4) (hp : pg < 16) (hD : m.T = Tr.none_) (b1 : Blk w g1 ty #[.pointer (some ⟨gS, 0, none⟩)]) (b2 : Blk w g2 103 #[.int .i64 (fl : Int), .int .i64 (pg : Int)]) (n1 : ¬ K g1) (n2 : ¬ K g2) :
    Calls Tryz.prog 191 #[.pointer (some ⟨g1, 0, none⟩), .pointer (some ⟨g2, 0, none⟩)] w fun e w' => ∃ v, e = .returned (.tuple #[v, .int .i64 0]) ∧ Bts w' w'.heap.size v (last m.S m.L (96 + (16 * fl + pg))) ∧ NewV w v ∧ SpGo w gS a k K m w' := by
  have c0 : w.cell? ⟨gS, 1, none⟩ = some (.pointer (some ⟨a.D, 0, none⟩)) := h.cells.cell 1
  have c1 : w.cell? ⟨g1, 0, none⟩ = some (.pointer (some ⟨gS, 0, none⟩)) := b1.cell 0
  have c2 : w.cell? ⟨g2, 0, none⟩ = some (.int .i64 (fl : Int)) := b2.cell 0
  have c3 : w.cell? ⟨g2, 1, none⟩ = some (.int .i64 (pg : Int)) := b2.cell 1
  obtain ⟨hd, hl⟩ := h.drew.diskP
  have ht : m.T.ans = 0 := by rw [hD]; exact none_ans
  have hnx : m.T.next = m.T := by rw [hD]; exact none_next
  have hLL := hd.last_ (f := 96 + (16 * fl + pg)) (by omega)
  have HR := Lib.hid (show Calls Tryz.prog 192 #[.pointer (some ⟨a.D, 0, none⟩), .int .i64 (fl : Int), .int .i64 (pg : Int)] w.drew fun e w' => ∃ g, e = .returned (.tuple #[.slice (some ⟨g, 0, none⟩) 64 64, .int .i64 0]) ∧
      (w'.cell? ⟨gS, 1, none⟩ = some (.pointer (some ⟨a.D, 0, none⟩)) ∧ w'.cell? ⟨g1, 0, none⟩ = some (.pointer (some ⟨gS, 0, none⟩)) ∧ w'.cell? ⟨g2, 0, none⟩ = some (.int .i64 (fl : Int)) ∧ w'.cell? ⟨g2, 1, none⟩ = some (.int .i64 (pg : Int))) ∧
      w.heap.size ≤ g ∧ Bts w' w'.heap.size (.slice (some ⟨g, 0, none⟩) 64 64) (last m.S m.L (96 + (16 * fl + pg))) ∧ SpGo w gS a k K m w' from
    (fread_yes a.D a.D1 a.D2 192 m.S m.L m.T w.drew (fl : Int) (pg : Int) (96 + (16 * fl + pg)) hd (by unfold PageAt; omega) (by omega) ht).mono (by
      rintro e w2 ⟨g, rfl, hg, hb, hd2, ht2⟩
      have R := (hl m.L m.T w2 (by rw [← hnx]; exact hd2) ht2).from_ ((Went.refl w K).drew)
      obtain ⟨K2, h2, g2'⟩ := id R
      have q1 := g2'.tr.blk b1 n1
      have q2 := g2'.tr.blk b2 n2
      exact ⟨g, rfl, ⟨h2.cells.cell 1, q1.cell 0, q2.cell 0, q2.cell 1⟩, hg, Bts.of_whole hb hLL.1 (by simp [maxLen]) hLL.2, R⟩))
  clear h hd hl ht hnx hD b1 b2 n1 n2 hLL
  go_enter Tryz.func191, Tryz.ntmps191
  go_wp2_with fail
  go_region_held3 (fun w' => w'.cell? ⟨gS, 1, none⟩ = some (.pointer (some ⟨a.D, 0, none⟩)) ∧ w'.cell? ⟨g1, 0, none⟩ = some (.pointer (some ⟨gS, 0, none⟩)) ∧ w'.cell? ⟨g2, 0, none⟩ = some (.int .i64 (fl : Int)) ∧ w'.cell? ⟨g2, 1, none⟩ = some (.int .i64 (pg : Int)))
    (first | assumption | exact ⟨c0, c1, c2, c3⟩)
    ((go_at_call 192; refine HR.out.mono ?_; rintro e w' ⟨g, rfl, hS, hg, hb, hR⟩))
  have HB := Lib.hid hb
  have HG := Lib.hid hg
  have R := Lib.hid hR
  clear hb hg hR hS
  go_wp2_with fail
  go_ret2
  exact ⟨_, rfl, HB.out, fun a n c e _ => by injection e with e _ _; injection e with e; rw [← e]; exact HG.out, R.out⟩
set_option maxRecDepth 100000 in
set_option maxHeartbeats 1000000 in
theorem fill_read (use f rf g1 g2 : Nat) (t1 t2 : TypeId) (post : Array Value) (er : ∀ args w, (callFunc rf args).run Tryz.prog w = .ok (.enter rf args) w) (B : List Nat) (hB : B.length = 64) (p1 : PS) (h : SpMem w gS a k K (m.setP p1)) (hT : Tabs m) (ha : Alloc1 m.p use f p1)
    (b1 : Blk w g1 t1 #[.func (.func rf) #[] post]) (b2 : Blk w g2 t2 #[.pointer (some ⟨gS, 0, none⟩)]) (n2 : ¬ K g2)
    (hr : Calls Tryz.prog rf post w fun e w' => ∃ v, e = .returned (.tuple #[v, .int .i64 0]) ∧ Bts w' w'.heap.size v B ∧ NewV w v ∧ SpGo w gS a k K (m.setP p1) w') :
    Calls Tryz.prog 209 #[.int .i64 (f : Int), .pointer (some ⟨g1, 0, none⟩), .pointer (some ⟨g2, 0, none⟩)] w (SpEnd w gS a k K (.int .i64 0) ((m.setP p1).setF (upd m.F f B))) := by
  have HR := Lib.hid hr
  have HT := Lib.hid hT
  have HA := Lib.hid ha
  have HB2 := Lib.hid (And.intro b2 n2)
  have HBL := Lib.hid hB
  have c1 : w.cell? ⟨g1, 0, none⟩ = some (.func (.func rf) #[] post) := b1.cell 0
  have t0 : (((0 : Nat) : Int) != 0) = false := rfl
  clear hr hT ha h b1 b2 n2 hB
  go_enter Tryz.func209, Tryz.ntmps209
  go_wp2_with fail
  refine HR.out.mono ?_
  rintro e w2 ⟨v, rfl, hb, -, K2, h2, g2'⟩
  have q2 := g2'.tr.blk HB2.out.1 HB2.out.2
  have c2 : w2.cell? ⟨g2, 0, none⟩ = some (.pointer (some ⟨gS, 0, none⟩)) := q2.cell 0
  have c0 : w2.cell? ⟨gS, 0, none⟩ = some (.pointer (some ⟨a.R, 0, none⟩)) := h2.cells.cell 0
  have hlen := h2.ramP.1.long (f := f) HA.out.lt
  have hov : over (m.F f) 0 B = B := over_all (m.F f) B (show (m.F f).length = B.length from hlen.trans HBL.out.symm)
  have HW := Lib.hid ((write_yes a.R a.F 1024 m.F m.bad f 0 w2.heap.size v B w2 h2.ramP.1 HA.out.lt (by rw [HBL.out]; exact Nat.le_refl _) (HT.out.bad f HA.out.lt) hb).mono fun e w' hp => ram_turn gS a k K2 (m.setP p1) w2 h2 (F' := upd m.F f B) (fun n y hy g hg => upd_other _ _ _ fun e => by
    have h1 := HT.out.use n y hy g hg
    have h2 := HA.out.free
    rw [e] at h1
    omega) (by rw [hov] at hp; exact hp))
  obtain ⟨A, l, c, rfl, -⟩ := hb
  have G := Lib.hid g2'
  clear h2 g2' q2 hlen hov
  go_wp2_with fail
  refine HW.out.mono ?_
  rintro e w3 ⟨rfl, h3⟩
  have R := Lib.hid (h3.from_ G.out)
  clear h3
  go_wp2_with fail
  go_ret
  exact ⟨rfl, R.out⟩
end
end Go.Proofs.YtgjkdnpidobabaaGreat

namespace Go.Proofs.YtgjkdnpidobabaaGreat
open Go.RowKit
set_option linter.unusedVariables false
section
variable (gS : Nat) (a : SpA) (k : SpK) (K : Nat → Prop) (m : SpM) (w : World)
structure FromDisk (m : SpM) (n : Nat) (y : SpX) (pg : Nat) (key : Pl) (B : List Nat) (f : Nat) (m' : SpM) : Prop where
  ex : ∃ p1 F' p' t', Alloc1 m.p 4 f p1 ∧ SetDone ((m.setP p1).setF (upd m.F f B)) y pg ⟨1, f, false⟩ F' p' t' ∧
    m' = (putM ((m.setP p1).setF (upd m.F f B)) n y pg ⟨1, f, false⟩ 0 F' p' t').setC (putC m.c key f)
theorem takeM_c (m : SpM) (p : Pl) (x : En) : (takeM m p x).c = m.c := by
  unfold takeM
  split
  · rfl
  · split <;> rfl
theorem freeM_c (m : SpM) (n : Int) (p : Pl) : (freeM m n p).c = m.c := by
  unfold freeM
  split <;> rfl
theorem leaveM_c (m : SpM) (p : Pl) (x : En) : (leaveM m p x).c = m.c := by
  unfold leaveM
  split
  · exact freeM_c _ _ _
  · split <;> rfl
theorem putM_c (m : SpM) (n : Nat) (y : SpX) (pg : Nat) (x : En) (er : Nat) (F' : Nat → List Nat) (p' : PS) (t' : TS) : (putM m n y pg x er F' p' t').c = m.c := by
  unfold putM
  split
  · split
    · exact takeM_c _ _ _
    · rw [leaveM_c, takeM_c]; rfl
  · rfl
theorem boxes3 (w : World) (o1 : Obj) (p : Pl) (c3 : Array Value) (t3 : TypeId) : Below w.heap.size w (((w.alloc o1).alloc (.cells #[.int .i64 p.c, .int .i64 p.g] 56)).alloc (.cells c3 t3)) ∧ Blk (((w.alloc o1).alloc (.cells #[.int .i64 p.c, .int .i64 p.g] 56)).alloc (.cells c3 t3)) (w.heap.size + 1) 56 #[.int .i64 p.c, .int .i64 p.g] ∧
    Blk (((w.alloc o1).alloc (.cells #[.int .i64 p.c, .int .i64 p.g] 56)).alloc (.cells c3 t3)) (w.heap.size + 2) t3 c3 :=
  ⟨belAl (belAl (belAl (Below.refl _ w) _) _) _, (Blk.new1 w _ _ _).al _, Blk.new2 w _ _ _ _⟩
set_option maxRecDepth 100000 in
set_option maxHeartbeats 4000000 in
theorem fromFile_in (n : Nat) (y : SpX) (pg f : Nat) (key : Pl) (h : SpMem w gS a k K m) (hy : m.x n = some y) (hpg : pg < 4096) (hT : Tabs m) (hF : Few m) (h3 : 3 ≤ cntF m.p 2) (hf : f < 1024) (wk : WPlc key) (hc : frameC m.c key = some (f : Int)) :
    Calls Tryz.prog 162 #[.pointer (some ⟨gS, 0, none⟩), .agg #[.int .i64 (n : Int), .int .i64 (pg : Int)], .agg #[.int .i64 key.c, .int .i64 key.g]] w fun e w' =>
      ∃ F' p' t', SetDone m y pg ⟨1, f, false⟩ F' p' t' ∧ SpEnd w gS a k K (.tuple #[.int .i64 (f : Int), .int .i64 0]) (putM m n y pg ⟨1, f, false⟩ 0 F' p' t') e w' := by
  have hbx := boxes3 w (.cells #[.pointer (some ⟨gS, 0, none⟩)] 24) ⟨n, pg⟩ #[.int .i64 key.c, .int .i64 key.g] 103
  obtain ⟨W, hW⟩ : ∃ W, ((w.alloc (.cells #[.pointer (some ⟨gS, 0, none⟩)] 24)).alloc (.cells #[.int .i64 (n : Int), .int .i64 (pg : Int)] 56)).alloc (.cells #[.int .i64 key.c, .int .i64 key.g] 103) = W := ⟨_, rfl⟩
  have b0 : Blk W w.heap.size 24 #[.pointer (some ⟨gS, 0, none⟩)] := by rw [← hW]; exact ((Blk.new w _ _).al _).al _
  rw [show (⟨(n : Int), (pg : Int)⟩ : Pl).c = (n : Int) from rfl, show (⟨(n : Int), (pg : Int)⟩ : Pl).g = (pg : Int) from rfl, hW] at hbx
  obtain ⟨hb, b1, b2⟩ := hbx
  have h1 := h.fresh hb
  obtain ⟨KC, hC, -, -⟩ := h1.cacheP
  have c0 : W.cell? ⟨w.heap.size, 0, none⟩ = some (.pointer (some ⟨gS, 0, none⟩)) := b0.cell 0
  have c4 : W.cell? ⟨gS, 4, none⟩ = some (.pointer (some ⟨a.C, 0, none⟩)) := h1.cells.cell 4
  have q0 : W.cell? ⟨w.heap.size + 2, 0, none⟩ = some (.int .i64 key.c) := b2.cell 0
  have q1 : W.cell? ⟨w.heap.size + 2, 1, none⟩ = some (.int .i64 key.g) := b2.cell 1
  have HFR := Lib.hid ((cache_frame a.C KC m.c W.drew key (hC.far fun _ _ => rfl) wk).mono (fun e w' h => (⟨h.1.trans (by rw [hc]; rfl), (Below.refl W.heap.size W).drew.trans h.2⟩ : e = .returned (.tuple #[.int .i64 (f : Int), .bool true]) ∧ Below W.heap.size W w')))
  have l0 := b0.lt
  have l4 := h1.cells.lt
  have l2 := b2.lt
  have KEEP := Lib.hid (fun (V : World) (hV : Below W.heap.size W V) => (⟨(hV.cell (p := ⟨w.heap.size, 0, none⟩) l0).trans c0, (hV.cell (p := ⟨gS, 4, none⟩) l4).trans c4, (hV.cell (p := ⟨w.heap.size + 2, 0, none⟩) l2).trans q0, (hV.cell (p := ⟨w.heap.size + 2, 1, none⟩) l2).trans q1⟩ : V.cell? ⟨w.heap.size, 0, none⟩ = some (.pointer (some ⟨gS, 0, none⟩)) ∧ V.cell? ⟨gS, 4, none⟩ = some (.pointer (some ⟨a.C, 0, none⟩)) ∧ V.cell? ⟨w.heap.size + 2, 0, none⟩ = some (.int .i64 key.c) ∧ V.cell? ⟨w.heap.size + 2, 1, none⟩ = some (.int .i64 key.g)))
  have BR := Lib.hid (Below.refl W.heap.size W)
  have HB := Lib.hid (And.intro b0 b1)
  have HBL := Lib.hid (Went.of_below (K := K) hb)
  have HS := Lib.hid (fun (V : World) (hV : Below W.heap.size W V) => has_ok gS a k K m V n y pg f hf (h1.fresh hV) hy hpg hT hF h3)
  clear h hy hT hF h3 hf wk hc hb b0 b1 b2 h1 hC c0 c4 q0 q1 l0 l4 l2
  go_enter Tryz.func162, Tryz.ntmps162
  go_wp2_with fail
  go_region_held3 (fun w' => w'.cell? ⟨w.heap.size, 0, none⟩ = some (.pointer (some ⟨gS, 0, none⟩)) ∧ w'.cell? ⟨gS, 4, none⟩ = some (.pointer (some ⟨a.C, 0, none⟩)) ∧ w'.cell? ⟨w.heap.size + 2, 0, none⟩ = some (.int .i64 key.c) ∧ w'.cell? ⟨w.heap.size + 2, 1, none⟩ = some (.int .i64 key.g))
    (first | assumption | exact KEEP.out _ BR.out.drew | exact KEEP.out _ (by assumption))
    ((go_at_call 87; refine HFR.out.mono ?_; rintro e w' ⟨rfl, hb2⟩))
  have q0 : w'.cell? ⟨w.heap.size, 0, none⟩ = some (.pointer (some ⟨gS, 0, none⟩)) := (HB.out.1.below hb2 HB.out.1.lt).cell 0
  have r0 : w'.cell? ⟨w.heap.size + 1, 0, none⟩ = some (.int .i64 (n : Int)) := (HB.out.2.below hb2 HB.out.2.lt).cell 0
  have r1 : w'.cell? ⟨w.heap.size + 1, 1, none⟩ = some (.int .i64 (pg : Int)) := (HB.out.2.below hb2 HB.out.2.lt).cell 1
  have S2 := Lib.hid (HS.out w' hb2)
  have G2 := Lib.hid (HBL.out.below hb2)
  clear hb2
  go_wp2_with fail
  refine S2.out.mono ?_
  rintro e w3 ⟨F', p', t', h5, rfl, h6⟩
  have H5 := Lib.hid h5
  have R := Lib.hid (h6.from_ G2.out)
  clear h5 h6
  go_wp2_with fail
  go_ret2
  exact ⟨F', p', t', H5.out, rfl, R.out⟩
theorem filled_any (rf : Nat) (post : Array Value) (V : World) :
    Calls Tryz.prog 187 #[.pointer (some ⟨gS, 0, none⟩), .func (.func rf) #[] post] V fun e w' => e = .returned (.func (.func 209) #[] #[.pointer (some ⟨V.heap.size + 1, 0, none⟩), .pointer (some ⟨V.heap.size, 0, none⟩)]) ∧ w' = (V.alloc (.cells #[.pointer (some ⟨gS, 0, none⟩)] 24)).alloc (.cells #[.func (.func rf) #[] post] 284) := by
  go_enter Tryz.func187, Tryz.ntmps187
  go_wp2_with fail
  go_ret
  exact ⟨rfl, rfl⟩
set_option maxRecDepth 100000 in
set_option maxHeartbeats 4000000 in
theorem fromFile_out (n : Nat) (y : SpX) (pg fl fp : Nat) (h : SpMem w gS a k K m) (hy : m.x n = some y) (hpg : pg < 4096) (hT : Tabs m) (hF : Few m) (h3 : 3 ≤ cntF m.p 2) (h1f : 0 < cntF m.p 3) (hlc : m.c.length ≤ 100000) (hfl : fl < 4) (hfp : fp < 16) (hD : m.T = Tr.none_) (hc : frameC m.c ⟨fl, fp⟩ = none) :
    Calls Tryz.prog 162 #[.pointer (some ⟨gS, 0, none⟩), .agg #[.int .i64 (n : Int), .int .i64 (pg : Int)], .agg #[.int .i64 (fl : Int), .int .i64 (fp : Int)]] w fun e w' =>
      ∃ f m', FromDisk m n y pg ⟨fl, fp⟩ (last m.S m.L (96 + (16 * fl + fp))) f m' ∧ SpEnd w gS a k K (.tuple #[.int .i64 (f : Int), .int .i64 0]) m' e w' := by
  have hbx := boxes3 w (.cells #[.pointer (some ⟨gS, 0, none⟩)] 24) ⟨n, pg⟩ #[.int .i64 (fl : Int), .int .i64 (fp : Int)] 103
  obtain ⟨W, hW⟩ : ∃ W, ((w.alloc (.cells #[.pointer (some ⟨gS, 0, none⟩)] 24)).alloc (.cells #[.int .i64 (n : Int), .int .i64 (pg : Int)] 56)).alloc (.cells #[.int .i64 (fl : Int), .int .i64 (fp : Int)] 103) = W := ⟨_, rfl⟩
  have b0 : Blk W w.heap.size 24 #[.pointer (some ⟨gS, 0, none⟩)] := by rw [← hW]; exact ((Blk.new w _ _).al _).al _
  rw [show (⟨(n : Int), (pg : Int)⟩ : Pl).c = (n : Int) from rfl, show (⟨(n : Int), (pg : Int)⟩ : Pl).g = (pg : Int) from rfl, hW] at hbx
  obtain ⟨hb, b1, b2⟩ := hbx
  have hWs : W.heap.size = w.heap.size + 3 := by rw [← hW]; simp
  have h1 := h.fresh hb
  obtain ⟨KC, hC, -, -⟩ := h1.cacheP
  have wk : WPlc ⟨(fl : Int), (fp : Int)⟩ := ⟨wf_nat fl (by omega), wf_nat fp (by omega)⟩
  have c0 : W.cell? ⟨w.heap.size, 0, none⟩ = some (.pointer (some ⟨gS, 0, none⟩)) := b0.cell 0
  have c4 : W.cell? ⟨gS, 4, none⟩ = some (.pointer (some ⟨a.C, 0, none⟩)) := h1.cells.cell 4
  have q0 : W.cell? ⟨w.heap.size + 2, 0, none⟩ = some (.int .i64 (fl : Int)) := b2.cell 0
  have q1 : W.cell? ⟨w.heap.size + 2, 1, none⟩ = some (.int .i64 (fp : Int)) := b2.cell 1
  have HFR := Lib.hid ((cache_frame a.C KC m.c W.drew ⟨fl, fp⟩ (hC.far fun _ _ => rfl) wk).mono (fun e w' h => (⟨h.1.trans (by rw [hc]; rfl), (Below.refl W.heap.size W).drew.trans h.2⟩ : e = .returned (.tuple #[.int .i64 0, .bool false]) ∧ Below W.heap.size W w')))
  have l0 := b0.lt
  have l4 := h1.cells.lt
  have l2 := b2.lt
  have KEEP := Lib.hid (fun (V : World) (hV : Below W.heap.size W V) => (⟨(hV.cell (p := ⟨w.heap.size, 0, none⟩) l0).trans c0, (hV.cell (p := ⟨gS, 4, none⟩) l4).trans c4, (hV.cell (p := ⟨w.heap.size + 2, 0, none⟩) l2).trans q0, (hV.cell (p := ⟨w.heap.size + 2, 1, none⟩) l2).trans q1⟩ : V.cell? ⟨w.heap.size, 0, none⟩ = some (.pointer (some ⟨gS, 0, none⟩)) ∧ V.cell? ⟨gS, 4, none⟩ = some (.pointer (some ⟨a.C, 0, none⟩)) ∧ V.cell? ⟨w.heap.size + 2, 0, none⟩ = some (.int .i64 (fl : Int)) ∧ V.cell? ⟨w.heap.size + 2, 1, none⟩ = some (.int .i64 (fp : Int))))
  have BR := Lib.hid (Below.refl W.heap.size W)
  have HB := Lib.hid (And.intro b0 (And.intro b1 b2))
  have HBL := Lib.hid hb
  have HWS := Lib.hid hWs
  have H1 := Lib.hid h1
  have HY := Lib.hid hy
  have HTT := Lib.hid hT
  have HFF := Lib.hid hF
  have HC := Lib.hid (And.intro h3 h1f)
  have HLC := Lib.hid hlc
  have HD := Lib.hid hD
  have HK := Lib.hid h.lt
  clear h hy hT hF h3 h1f hlc wk hc hb b0 b1 b2 h1 hC c0 c4 q0 q1 l0 l4 l2 hWs hD
  go_enter Tryz.func162, Tryz.ntmps162
  go_wp2_with fail
  go_region_held3 (fun w' => w'.cell? ⟨w.heap.size, 0, none⟩ = some (.pointer (some ⟨gS, 0, none⟩)) ∧ w'.cell? ⟨gS, 4, none⟩ = some (.pointer (some ⟨a.C, 0, none⟩)) ∧ w'.cell? ⟨w.heap.size + 2, 0, none⟩ = some (.int .i64 (fl : Int)) ∧ w'.cell? ⟨w.heap.size + 2, 1, none⟩ = some (.int .i64 (fp : Int)))
    (first | assumption | exact KEEP.out _ BR.out.drew | exact KEEP.out _ (by assumption))
    ((go_at_call 87; refine HFR.out.mono ?_; rintro e w' ⟨rfl, hb2⟩))
  have hKn : ∀ j, w.heap.size ≤ j → ¬ K j := fun j hj hk => by have := HK.out j hk; omega
  have h2 := H1.out.fresh hb2
  have e0 := HB.out.1.below hb2 HB.out.1.lt
  have e1 := HB.out.2.1.below hb2 HB.out.2.1.lt
  have e2 := HB.out.2.2.below hb2 HB.out.2.2.lt
  obtain ⟨V, hV⟩ : ∃ V, (w'.drew.alloc (.cells #[.pointer (some ⟨gS, 0, none⟩)] 24)).alloc (.cells #[.func (.func 191) #[] #[.pointer (some ⟨w.heap.size, 0, none⟩), .pointer (some ⟨w.heap.size + 2, 0, none⟩)]] 284) = V := ⟨_, rfl⟩
  have hbV : Below w'.heap.size w' V := by rw [← hV]; exact belAl (belAl ((Below.refl _ w').drew) _) _
  have v0 : Blk V w'.heap.size 24 #[.pointer (some ⟨gS, 0, none⟩)] := by rw [← hV]; exact (Blk.new w'.drew _ _).al _
  have v1 : Blk V (w'.heap.size + 1) 284 #[.func (.func 191) #[] #[.pointer (some ⟨w.heap.size, 0, none⟩), .pointer (some ⟨w.heap.size + 2, 0, none⟩)]] := by rw [← hV]; exact Blk.new1 w'.drew _ _ _
  have e0V := e0.below hbV e0.lt
  have e1V := e1.below hbV e1.lt
  have e2V := e2.below hbV e2.lt
  have hsw : w.heap.size ≤ w'.heap.size := by have := hb2.size; have := HWS.out; omega
  have BRG := Lib.hid (bring_ok gS a k K m V 209 #[] #[.pointer (some ⟨w'.heap.size + 1, 0, none⟩), .pointer (some ⟨w'.heap.size, 0, none⟩)] enters_filled n y pg 4 (last m.S m.L (96 + (16 * fl + fp))) (by omega) (h2.fresh hbV) HY.out hpg HTT.out HFF.out HC.out.1 HC.out.2 (by
    intro f p1 w1 K1 hal hw1 hm1
    have nk1 : ∀ j, w.heap.size ≤ j → j < V.heap.size → ¬ K1 j := fun j hj hj2 hk => by
      rcases hw1.nk j hk with c | c
      · exact hKn j hj c
      · omega
    have o0 := hw1.tr.blk v0 (hKn _ hsw)
    have o1 := hw1.tr.blk v1 (hKn _ (by omega))
    have o2 := hw1.tr.blk e0V (hKn _ (Nat.le_refl _))
    have o3 := hw1.tr.blk e2V (hKn _ (by omega))
    have hll := hm1.diskP.1.last_ (f := 96 + (16 * fl + fp)) (by omega)
    refine fill_read gS a k K1 m w1 4 f 191 (w'.heap.size + 1) w'.heap.size 284 24 #[.pointer (some ⟨w.heap.size, 0, none⟩), .pointer (some ⟨w.heap.size + 2, 0, none⟩)] enters_read _ hll.1 p1 hm1 HTT.out hal o1 o0 (nk1 _ hsw v0.lt) ?_
    exact read_file gS a k K1 (m.setP p1) w1 fl fp w.heap.size (w.heap.size + 2) 24 hm1 hfl hfp HD.out o2 o3 (nk1 _ (Nat.le_refl _) e0V.lt) (nk1 _ (by omega) e2V.lt)))
  have q0 : w'.cell? ⟨w.heap.size, 0, none⟩ = some (.pointer (some ⟨gS, 0, none⟩)) := e0.cell 0
  have r0 : w'.cell? ⟨w.heap.size + 1, 0, none⟩ = some (.int .i64 (n : Int)) := e1.cell 0
  have r1 : w'.cell? ⟨w.heap.size + 1, 1, none⟩ = some (.int .i64 (pg : Int)) := e1.cell 1
  have S0 := Lib.hid (show w'.drew.cell? ⟨w.heap.size, 0, none⟩ = some (.pointer (some ⟨gS, 0, none⟩)) ∧ w'.drew.cell? ⟨w.heap.size + 1, 0, none⟩ = some (.int .i64 (n : Int)) ∧ w'.drew.cell? ⟨w.heap.size + 1, 1, none⟩ = some (.int .i64 (pg : Int)) from ⟨q0, r0, r1⟩)
  have SV := Lib.hid (show V.cell? ⟨w.heap.size, 0, none⟩ = some (.pointer (some ⟨gS, 0, none⟩)) ∧ V.cell? ⟨w.heap.size + 1, 0, none⟩ = some (.int .i64 (n : Int)) ∧ V.cell? ⟨w.heap.size + 1, 1, none⟩ = some (.int .i64 (pg : Int)) from ⟨e0V.cell 0, e1V.cell 0, e1V.cell 1⟩)
  have HFL := Lib.hid ((filled_any gS 191 #[.pointer (some ⟨w.heap.size, 0, none⟩), .pointer (some ⟨w.heap.size + 2, 0, none⟩)] w'.drew).mono (fun e w2 h => (⟨h.1, h.2.trans hV⟩ : _ ∧ w2 = V)))
  have BRG2 := Lib.hid (BRG.out.mono (fun e w3 h => (by
    obtain ⟨f, p1, F', p', t', h1, h2, rfl, K3, h4, g4⟩ := h
    refine ⟨f, p1, F', p', t', rfl, ⟨(g4.tr.blk e0V (hKn _ (Nat.le_refl _))).cell 0, (g4.tr.blk e1V (hKn _ (by omega))).cell 0, (g4.tr.blk e1V (hKn _ (by omega))).cell 1⟩, h1, h2, K3, h4, g4, g4.tr.blk e2V (hKn _ (by omega)), g4.tr.blk e0V (hKn _ (Nat.le_refl _))⟩ :
    ∃ (f : Nat) (p1 : PS) (F' : Nat → List Nat) (p' : PS) (t' : TS), e = .returned (.tuple #[.int .i64 (f : Int), .int .i64 0]) ∧ (w3.cell? ⟨w.heap.size, 0, none⟩ = some (.pointer (some ⟨gS, 0, none⟩)) ∧ w3.cell? ⟨w.heap.size + 1, 0, none⟩ = some (.int .i64 (n : Int)) ∧ w3.cell? ⟨w.heap.size + 1, 1, none⟩ = some (.int .i64 (pg : Int))) ∧
      Alloc1 m.p 4 f p1 ∧ SetDone ((m.setP p1).setF (upd m.F f (last m.S m.L (96 + (16 * fl + fp))))) y pg ⟨1, f, false⟩ F' p' t' ∧
      ∃ K3, SpMem w3 gS a k K3 (putM ((m.setP p1).setF (upd m.F f (last m.S m.L (96 + (16 * fl + fp))))) n y pg ⟨1, f, false⟩ 0 F' p' t') ∧ Went V K w3 K3 ∧ Blk w3 (w.heap.size + 2) 103 #[.int .i64 (fl : Int), .int .i64 (fp : Int)] ∧ Blk w3 w.heap.size 24 #[.pointer (some ⟨gS, 0, none⟩)])))
  have GV := Lib.hid (((Went.of_below (K := K) HBL.out).below hb2).below hbV)
  clear BRG hb2 hKn h2 e0 e1 e2 hbV v0 v1 e0V e1V e2V hsw HBL HWS HB H1
  go_wp2_with fail
  go_region_held3 (fun w' => w'.cell? ⟨w.heap.size, 0, none⟩ = some (.pointer (some ⟨gS, 0, none⟩)) ∧ w'.cell? ⟨w.heap.size + 1, 0, none⟩ = some (.int .i64 (n : Int)) ∧ w'.cell? ⟨w.heap.size + 1, 1, none⟩ = some (.int .i64 (pg : Int)))
    (first | assumption | exact S0.out | exact SV.out)
    (first | (go_at_call 187; refine HFL.out.mono ?_; rintro e w2 ⟨rfl, hw2⟩; subst w2) | (go_at_call 161; refine BRG2.out.mono ?_; rintro e w3 ⟨f, p1, F', p', t', rfl, hS3, hal, hsd, K3, h3, g3, bk3, b03⟩))
  have hCx := h3.cells
  have z0 : w3.cell? ⟨w.heap.size, 0, none⟩ = some (.pointer (some ⟨gS, 0, none⟩)) := b03.cell 0
  have z4 : w3.cell? ⟨gS, 4, none⟩ = some (.pointer (some ⟨a.C, 0, none⟩)) := hCx.cell 4
  have y0 : w3.cell? ⟨w.heap.size + 2, 0, none⟩ = some (.int .i64 (fl : Int)) := bk3.cell 0
  have y1 : w3.cell? ⟨w.heap.size + 2, 1, none⟩ = some (.int .i64 (fp : Int)) := bk3.cell 1
  obtain ⟨KC3, hC3, -, hl3⟩ := h3.drew.cacheP
  rw [putM_c] at hC3
  have HPU := Lib.hid (cache_put a.C KC3 m.c w3.drew ⟨fl, fp⟩ (f : Int) hC3 ⟨wf_nat fl (by omega), wf_nat fp (by omega)⟩ (wf_nat f (by have := hal.lt; omega)) HLC.out)
  have HL3 := Lib.hid (hl3 (putC m.c ⟨fl, fp⟩ (f : Int)))
  have G3 := Lib.hid ((GV.out.trans g3).drew)
  have AL := Lib.hid hal
  have SD := Lib.hid hsd
  have t0 : ((0 : Int) != 0) = false := rfl
  clear hCx hC3 hl3 h3 g3 hal hsd bk3 b03 hS3 q0 r0 r1 SV S0 HFL BRG2
  go_wp2_with fail
  go_still_tail 6, (by kernel_rfl)
  change wpList _ _ _ _ _ w3.drew
  go_wp2_with fail
  refine HPU.out.mono ?_
  rintro e w4 ⟨K4, rfl, h4, n4, t4⟩
  have R := Lib.hid ((HL3.out w4 K4 h4 n4 t4).from_ G3.out)
  clear h4 n4 t4
  go_wp2_with fail
  go_ret2
  exact ⟨f, _, ⟨p1, F', p', t', AL.out, SD.out, rfl⟩, rfl, R.out⟩
end
end Go.Proofs.YtgjkdnpidobabaaGreat

namespace Go.Proofs.YtgjkdnpidobabaaGreat
open Go.RowKit
set_option linter.unusedVariables false

structure FromCopy (m : SpM) (n : Nat) (y : SpX) (pg f f' : Nat) (m' : SpM) : Prop where
  ex : ∃ p1 F' p' t', Alloc1 m.p 3 f' p1 ∧ SetDone ((m.setP p1).setF (upd m.F f' (m.F f))) y pg ⟨1, f', false⟩ F' p' t' ∧ m' = putM ((m.setP p1).setF (upd m.F f' (m.F f))) n y pg ⟨1, f', false⟩ 0 F' p' t'
section
variable (gS : Nat) (a : SpA) (k : SpK) (K : Nat → Prop) (m : SpM) (w : World)
set_option maxRecDepth 100000 in
set_option maxHeartbeats 4000000 in
theorem alone_same (n : Nat) (y : SpX) (pg f : Nat) (h : SpMem w gS a k K m) (hy : m.x n = some y) (hpg : pg < 4096) (hT : Tabs m) (hF : Few m) (h3 : 3 ≤ cntF m.p 2) (h1f : 0 < cntF m.p 3) (hf : f < 1024) (hc : pageC m.c (f : Int) = none) (hl2 : (m.b (f : Int)).length < 2) :
    Calls Tryz.prog 135 #[.pointer (some ⟨gS, 0, none⟩), .agg #[.int .i64 (n : Int), .int .i64 (pg : Int)], .int .i64 (f : Int)] w fun e w' => SpEnd w gS a k K (.tuple #[.int .i64 (f : Int), .int .i64 0]) m e w' := by
  have hbx := boxes3 w (.cells #[.pointer (some ⟨gS, 0, none⟩)] 24) ⟨n, pg⟩ #[.int .i64 (f : Int)] 3
  obtain ⟨W, hW⟩ : ∃ W, ((w.alloc (.cells #[.pointer (some ⟨gS, 0, none⟩)] 24)).alloc (.cells #[.int .i64 (n : Int), .int .i64 (pg : Int)] 56)).alloc (.cells #[.int .i64 (f : Int)] 3) = W := ⟨_, rfl⟩
  have b0 : Blk W w.heap.size 24 #[.pointer (some ⟨gS, 0, none⟩)] := by rw [← hW]; exact ((Blk.new w _ _).al _).al _
  rw [show (⟨(n : Int), (pg : Int)⟩ : Pl).c = (n : Int) from rfl, show (⟨(n : Int), (pg : Int)⟩ : Pl).g = (pg : Int) from rfl, hW] at hbx
  obtain ⟨hb, b1, b2⟩ := hbx
  have hWs : W.heap.size = w.heap.size + 3 := by rw [← hW]; simp
  have h1 := h.fresh hb
  obtain ⟨KC, hC, -, -⟩ := h1.cacheP
  have C0_ : W.cell? ⟨w.heap.size, 0, none⟩ = some (.pointer (some ⟨gS, 0, none⟩)) := b0.cell 0
  have C1_ : W.cell? ⟨gS, 4, none⟩ = some (.pointer (some ⟨a.C, 0, none⟩)) := h1.cells.cell 4
  have C2_ : W.cell? ⟨w.heap.size + 2, 0, none⟩ = some (.int .i64 (f : Int)) := b2.cell 0
  have L0_ := b0.lt
  have L1_ := h1.cells.lt
  have L2_ := b2.lt
  have GQ := Lib.hid (fun (V : World) (hV : Below W.heap.size W V) => ((cache_of a.C KC m.c V (f : Int) (hC.fresh hV) (wf_nat f (by omega))).mono (fun e w' h => ⟨h.1.trans (by rw [hc]; rfl), h.2, hV.trans (h.2.mono hV.size)⟩) : Calls Tryz.prog 41 #[.pointer (some ⟨a.C, 0, none⟩), .int .i64 (f : Int)] V fun e w' => e = .returned (.tuple #[.agg #[.int .i64 0, .int .i64 0], .bool false]) ∧ Below V.heap.size V w' ∧ Below W.heap.size W w'))
  have KEEP := Lib.hid (fun (V : World) (hV : Below W.heap.size W V) => (⟨(hV.cell (p := ⟨w.heap.size, 0, none⟩) L0_).trans C0_, (hV.cell (p := ⟨gS, 4, none⟩) L1_).trans C1_, (hV.cell (p := ⟨w.heap.size + 2, 0, none⟩) L2_).trans C2_, hV⟩ : V.cell? ⟨w.heap.size, 0, none⟩ = some (.pointer (some ⟨gS, 0, none⟩)) ∧ V.cell? ⟨gS, 4, none⟩ = some (.pointer (some ⟨a.C, 0, none⟩)) ∧ V.cell? ⟨w.heap.size + 2, 0, none⟩ = some (.int .i64 (f : Int)) ∧ Below W.heap.size W V))
  have PB := Lib.hid (fun (V : World) (hV : V.cell? ⟨w.heap.size, 0, none⟩ = some (.pointer (some ⟨gS, 0, none⟩)) ∧ V.cell? ⟨gS, 4, none⟩ = some (.pointer (some ⟨a.C, 0, none⟩)) ∧ V.cell? ⟨w.heap.size + 2, 0, none⟩ = some (.int .i64 (f : Int)) ∧ Below W.heap.size W V) => hV.2.2.2)
  have BR := Lib.hid (Below.refl W.heap.size W)
  have GA := Lib.hid (show Calls Tryz.prog 41 #[.pointer (some ⟨a.C, 0, none⟩), .int .i64 (f : Int)] (W.alloc (.cells #[.int .i64 0, .int .i64 0] 103)).drew fun e w' => e = .returned (.tuple #[.agg #[.int .i64 0, .int .i64 0], .bool false]) ∧ w'.cell? ⟨W.heap.size, 0, none⟩ = some (.int .i64 0) ∧ w'.cell? ⟨W.heap.size, 1, none⟩ = some (.int .i64 0) ∧ w'.frozen? ⟨W.heap.size, 0, none⟩ = false ∧ w'.frozen? ⟨W.heap.size, 1, none⟩ = false ∧ (∀ u0 u1, Below W.heap.size W ((w'.setCell ⟨W.heap.size, 0, none⟩ u0).setCell ⟨W.heap.size, 1, none⟩ u1)) ∧ Blk w' W.heap.size 103 #[.int .i64 0, .int .i64 0] ∧ Below W.heap.size W w' from (GQ.out _ (belAl (Below.refl _ W) _).drew).mono (fun e w' h => by
    have hz : Blk w' W.heap.size 103 #[.int .i64 0, .int .i64 0] := (show Blk (W.alloc (.cells #[.int .i64 0, .int .i64 0] 103)).drew W.heap.size 103 #[.int .i64 0, .int .i64 0] from Blk.new W _ _).below h.2.1 (Blk.lt (w := (W.alloc (.cells #[.int .i64 0, .int .i64 0] 103)).drew) (Blk.new W _ _))
    exact ⟨h.1, hz.cell 0, hz.cell 1, hz.frozen 0, hz.frozen 1, fun u0 u1 => ((h.2.2.setCell (Nat.le_refl _) u0).setCell (Nat.le_refl _) u1), hz, h.2.2⟩))
  have HB := Lib.hid (And.intro b0 (And.intro b1 b2))
  have HBL := Lib.hid hb
  have HWS := Lib.hid hWs
  have H1 := Lib.hid h1
  have HY := Lib.hid hy
  have HTT := Lib.hid hT
  have HFF := Lib.hid hF
  have HC := Lib.hid (And.intro h3 h1f)
  have HK := Lib.hid h.lt
  clear h hy hT hF h3 h1f hc hb b0 b1 b2 h1 hC C0_ C1_ C2_ L0_ L1_ L2_ hWs
  go_enter Tryz.func135, Tryz.ntmps135
  go_wp2_with fail
  go_cut [8, 9] from 10 to 38 (fun sA sB wx => ∃ g, sA = .pointer (some ⟨g, 0, none⟩) ∧ sB = .bool false ∧ Blk wx g 103 #[.int .i64 0, .int .i64 0] ∧ W.heap.size ≤ g ∧ Below W.heap.size W wx)
  case first =>
    go_region_held3 (fun w' => w'.cell? ⟨w.heap.size, 0, none⟩ = some (.pointer (some ⟨gS, 0, none⟩)) ∧ w'.cell? ⟨gS, 4, none⟩ = some (.pointer (some ⟨a.C, 0, none⟩)) ∧ w'.cell? ⟨w.heap.size + 2, 0, none⟩ = some (.int .i64 (f : Int)) ∧ Below W.heap.size W w')
      (first | assumption | exact KEEP.out _ BR.out.drew | exact KEEP.out _ (by assumption) | exact KEEP.out _ (belAl (PB.out _ (by assumption)) _) | exact KEEP.out _ (belAl (by assumption) _) | exact KEEP.out _ (PB.out _ (by assumption)) | exact KEEP.out _ (belAl BR.out _).drew | exact KEEP.out _ (hsb _ _))
      (first | (go_at_call 41; refine GA.out.mono ?_; rintro e w' ⟨rfl, z0, z1, f0, f1, hsb, hz, hbB⟩) | (go_at_call 41; refine (GQ.out _ ?_).mono ?_; (first | assumption | exact PB.out _ (by assumption)); rintro e w' ⟨rfl, hbA, hbB⟩))
    all_goals (go_wp2_with fail; go_meet)
    all_goals (first | exact ⟨_, rfl, rfl, ((hz.set_ 0 _).set_ 1 _), Nat.le_refl _, hsb _ _⟩ | exact ⟨_, rfl, rfl, Blk.new w' _ _, hbB.size, belAl hbB _⟩)
  case rest =>
    obtain ⟨g, rfl, rfl, hg, hgs, hbg⟩ := hcut
    have hKn : ∀ j, w.heap.size ≤ j → ¬ K j := fun j hj hk => by have := HK.out j hk; omega
    have h2 := H1.out.fresh hbg
    have e0 := HB.out.1.below hbg HB.out.1.lt
    have e1 := HB.out.2.1.below hbg HB.out.2.1.lt
    have e2 := HB.out.2.2.below hbg HB.out.2.2.lt
    have q0 : wc.cell? ⟨w.heap.size, 0, none⟩ = some (.pointer (some ⟨gS, 0, none⟩)) := e0.cell 0
    have q1 : wc.cell? ⟨w.heap.size + 1, 0, none⟩ = some (.int .i64 (n : Int)) := e1.cell 0
    have q2 : wc.cell? ⟨w.heap.size + 1, 1, none⟩ = some (.int .i64 (pg : Int)) := e1.cell 1
    have q3 : wc.cell? ⟨w.heap.size + 2, 0, none⟩ = some (.int .i64 (f : Int)) := e2.cell 0
    have q4 : wc.cell? ⟨gS, 3, none⟩ = some (.pointer (some ⟨a.B, 0, none⟩)) := h2.cells.cell 3
    obtain ⟨KB, hB2, -, -⟩ := h2.backP
    have HO := Lib.hid (back_of a.B KB m.b wc.drew (f : Int) (hB2.far fun _ _ => rfl) (wf_nat f (by omega)))
    have H2 := Lib.hid h2
    have GW := Lib.hid ((Went.of_below (K := K) HBL.out).below hbg)
    have HE := Lib.hid (And.intro e0 (And.intro e1 e2))
    clear hKn h2 e0 e1 e2 hg hB2
    go_wp2_with fail
    go_still_tail 8, (by kernel_rfl)
    change wpList _ _ _ _ _ wc.drew
    go_wp2_with fail
    refine HO.out.mono ?_
    rintro e w3 ⟨v, rfl, hv, -, hb3⟩
    obtain ⟨A, l, c, rfl, hl, -⟩ := hv
    have hbw : Below wc.heap.size wc w3 := (Below.refl wc.heap.size wc).drew.trans hb3
    have t1 : decide ((l : Int) < 2) = true := decide_eq_true (by omega)
    have q3 : w3.cell? ⟨w.heap.size + 2, 0, none⟩ = some (.int .i64 (f : Int)) := (HE.out.2.2.below hbw HE.out.2.2.lt).cell 0
    have R := Lib.hid (show SpGo w gS a k K m w3 from ⟨K, H2.out.fresh hbw, GW.out.below hbw⟩)
    clear hb3 hl hbw
    go_wp2_with fail
    go_ret2
    exact ⟨rfl, R.out⟩
set_option maxRecDepth 100000 in
set_option maxHeartbeats 4000000 in
theorem alone_many (n : Nat) (y : SpX) (pg f : Nat) (h : SpMem w gS a k K m) (hy : m.x n = some y) (hpg : pg < 4096) (hT : Tabs m) (hF : Few m) (h3 : 3 ≤ cntF m.p 2) (h1f : 0 < cntF m.p 3) (hf : f < 1024) (hc : pageC m.c (f : Int) = none) (hl2 : 2 ≤ (m.b (f : Int)).length) :
    Calls Tryz.prog 135 #[.pointer (some ⟨gS, 0, none⟩), .agg #[.int .i64 (n : Int), .int .i64 (pg : Int)], .int .i64 (f : Int)] w fun e w' => ∃ f' m', FromCopy m n y pg f f' m' ∧ SpEnd w gS a k K (.tuple #[.int .i64 (f' : Int), .int .i64 0]) m' e w' := by
  have hbx := boxes3 w (.cells #[.pointer (some ⟨gS, 0, none⟩)] 24) ⟨n, pg⟩ #[.int .i64 (f : Int)] 3
  obtain ⟨W, hW⟩ : ∃ W, ((w.alloc (.cells #[.pointer (some ⟨gS, 0, none⟩)] 24)).alloc (.cells #[.int .i64 (n : Int), .int .i64 (pg : Int)] 56)).alloc (.cells #[.int .i64 (f : Int)] 3) = W := ⟨_, rfl⟩
  have b0 : Blk W w.heap.size 24 #[.pointer (some ⟨gS, 0, none⟩)] := by rw [← hW]; exact ((Blk.new w _ _).al _).al _
  rw [show (⟨(n : Int), (pg : Int)⟩ : Pl).c = (n : Int) from rfl, show (⟨(n : Int), (pg : Int)⟩ : Pl).g = (pg : Int) from rfl, hW] at hbx
  obtain ⟨hb, b1, b2⟩ := hbx
  have hWs : W.heap.size = w.heap.size + 3 := by rw [← hW]; simp
  have h1 := h.fresh hb
  obtain ⟨KC, hC, -, -⟩ := h1.cacheP
  have C0_ : W.cell? ⟨w.heap.size, 0, none⟩ = some (.pointer (some ⟨gS, 0, none⟩)) := b0.cell 0
  have C1_ : W.cell? ⟨gS, 4, none⟩ = some (.pointer (some ⟨a.C, 0, none⟩)) := h1.cells.cell 4
  have C2_ : W.cell? ⟨w.heap.size + 2, 0, none⟩ = some (.int .i64 (f : Int)) := b2.cell 0
  have L0_ := b0.lt
  have L1_ := h1.cells.lt
  have L2_ := b2.lt
  have GQ := Lib.hid (fun (V : World) (hV : Below W.heap.size W V) => ((cache_of a.C KC m.c V (f : Int) (hC.fresh hV) (wf_nat f (by omega))).mono (fun e w' h => ⟨h.1.trans (by rw [hc]; rfl), h.2, hV.trans (h.2.mono hV.size)⟩) : Calls Tryz.prog 41 #[.pointer (some ⟨a.C, 0, none⟩), .int .i64 (f : Int)] V fun e w' => e = .returned (.tuple #[.agg #[.int .i64 0, .int .i64 0], .bool false]) ∧ Below V.heap.size V w' ∧ Below W.heap.size W w'))
  have KEEP := Lib.hid (fun (V : World) (hV : Below W.heap.size W V) => (⟨(hV.cell (p := ⟨w.heap.size, 0, none⟩) L0_).trans C0_, (hV.cell (p := ⟨gS, 4, none⟩) L1_).trans C1_, (hV.cell (p := ⟨w.heap.size + 2, 0, none⟩) L2_).trans C2_, hV⟩ : V.cell? ⟨w.heap.size, 0, none⟩ = some (.pointer (some ⟨gS, 0, none⟩)) ∧ V.cell? ⟨gS, 4, none⟩ = some (.pointer (some ⟨a.C, 0, none⟩)) ∧ V.cell? ⟨w.heap.size + 2, 0, none⟩ = some (.int .i64 (f : Int)) ∧ Below W.heap.size W V))
  have PB := Lib.hid (fun (V : World) (hV : V.cell? ⟨w.heap.size, 0, none⟩ = some (.pointer (some ⟨gS, 0, none⟩)) ∧ V.cell? ⟨gS, 4, none⟩ = some (.pointer (some ⟨a.C, 0, none⟩)) ∧ V.cell? ⟨w.heap.size + 2, 0, none⟩ = some (.int .i64 (f : Int)) ∧ Below W.heap.size W V) => hV.2.2.2)
  have BR := Lib.hid (Below.refl W.heap.size W)
  have GA := Lib.hid (show Calls Tryz.prog 41 #[.pointer (some ⟨a.C, 0, none⟩), .int .i64 (f : Int)] (W.alloc (.cells #[.int .i64 0, .int .i64 0] 103)).drew fun e w' => e = .returned (.tuple #[.agg #[.int .i64 0, .int .i64 0], .bool false]) ∧ w'.cell? ⟨W.heap.size, 0, none⟩ = some (.int .i64 0) ∧ w'.cell? ⟨W.heap.size, 1, none⟩ = some (.int .i64 0) ∧ w'.frozen? ⟨W.heap.size, 0, none⟩ = false ∧ w'.frozen? ⟨W.heap.size, 1, none⟩ = false ∧ (∀ u0 u1, Below W.heap.size W ((w'.setCell ⟨W.heap.size, 0, none⟩ u0).setCell ⟨W.heap.size, 1, none⟩ u1)) ∧ Blk w' W.heap.size 103 #[.int .i64 0, .int .i64 0] ∧ Below W.heap.size W w' from (GQ.out _ (belAl (Below.refl _ W) _).drew).mono (fun e w' h => by
    have hz : Blk w' W.heap.size 103 #[.int .i64 0, .int .i64 0] := (show Blk (W.alloc (.cells #[.int .i64 0, .int .i64 0] 103)).drew W.heap.size 103 #[.int .i64 0, .int .i64 0] from Blk.new W _ _).below h.2.1 (Blk.lt (w := (W.alloc (.cells #[.int .i64 0, .int .i64 0] 103)).drew) (Blk.new W _ _))
    exact ⟨h.1, hz.cell 0, hz.cell 1, hz.frozen 0, hz.frozen 1, fun u0 u1 => ((h.2.2.setCell (Nat.le_refl _) u0).setCell (Nat.le_refl _) u1), hz, h.2.2⟩))
  have HB := Lib.hid (And.intro b0 (And.intro b1 b2))
  have HBL := Lib.hid hb
  have HWS := Lib.hid hWs
  have H1 := Lib.hid h1
  have HY := Lib.hid hy
  have HTT := Lib.hid hT
  have HFF := Lib.hid hF
  have HC := Lib.hid (And.intro h3 h1f)
  have HK := Lib.hid h.lt
  clear h hy hT hF h3 h1f hc hb b0 b1 b2 h1 hC C0_ C1_ C2_ L0_ L1_ L2_ hWs
  go_enter Tryz.func135, Tryz.ntmps135
  go_wp2_with fail
  go_cut [8, 9] from 10 to 38 (fun sA sB wx => ∃ g, sA = .pointer (some ⟨g, 0, none⟩) ∧ sB = .bool false ∧ Blk wx g 103 #[.int .i64 0, .int .i64 0] ∧ W.heap.size ≤ g ∧ Below W.heap.size W wx)
  case first =>
    go_region_held3 (fun w' => w'.cell? ⟨w.heap.size, 0, none⟩ = some (.pointer (some ⟨gS, 0, none⟩)) ∧ w'.cell? ⟨gS, 4, none⟩ = some (.pointer (some ⟨a.C, 0, none⟩)) ∧ w'.cell? ⟨w.heap.size + 2, 0, none⟩ = some (.int .i64 (f : Int)) ∧ Below W.heap.size W w')
      (first | assumption | exact KEEP.out _ BR.out.drew | exact KEEP.out _ (by assumption) | exact KEEP.out _ (belAl (PB.out _ (by assumption)) _) | exact KEEP.out _ (belAl (by assumption) _) | exact KEEP.out _ (PB.out _ (by assumption)) | exact KEEP.out _ (belAl BR.out _).drew | exact KEEP.out _ (hsb _ _))
      (first | (go_at_call 41; refine GA.out.mono ?_; rintro e w' ⟨rfl, z0, z1, f0, f1, hsb, hz, hbB⟩) | (go_at_call 41; refine (GQ.out _ ?_).mono ?_; (first | assumption | exact PB.out _ (by assumption)); rintro e w' ⟨rfl, hbA, hbB⟩))
    all_goals (go_wp2_with fail; go_meet)
    all_goals (first | exact ⟨_, rfl, rfl, ((hz.set_ 0 _).set_ 1 _), Nat.le_refl _, hsb _ _⟩ | exact ⟨_, rfl, rfl, Blk.new w' _ _, hbB.size, belAl hbB _⟩)
  case rest =>
    obtain ⟨g, rfl, rfl, hg, hgs, hbg⟩ := hcut
    have hKn : ∀ j, w.heap.size ≤ j → ¬ K j := fun j hj hk => by have := HK.out j hk; omega
    have h2 := H1.out.fresh hbg
    have e0 := HB.out.1.below hbg HB.out.1.lt
    have e1 := HB.out.2.1.below hbg HB.out.2.1.lt
    have e2 := HB.out.2.2.below hbg HB.out.2.2.lt
    have q0 : wc.cell? ⟨w.heap.size, 0, none⟩ = some (.pointer (some ⟨gS, 0, none⟩)) := e0.cell 0
    have q1 : wc.cell? ⟨w.heap.size + 1, 0, none⟩ = some (.int .i64 (n : Int)) := e1.cell 0
    have q2 : wc.cell? ⟨w.heap.size + 1, 1, none⟩ = some (.int .i64 (pg : Int)) := e1.cell 1
    have q3 : wc.cell? ⟨w.heap.size + 2, 0, none⟩ = some (.int .i64 (f : Int)) := e2.cell 0
    have q4 : wc.cell? ⟨gS, 3, none⟩ = some (.pointer (some ⟨a.B, 0, none⟩)) := h2.cells.cell 3
    obtain ⟨KB, hB2, -, -⟩ := h2.backP
    have HO := Lib.hid (back_of a.B KB m.b wc.drew (f : Int) (hB2.far fun _ _ => rfl) (wf_nat f (by omega)))
    have BRG := Lib.hid (fun (V : World) (hV : Below wc.heap.size wc V) => bring_ok gS a k K m V 163 #[] #[.pointer (some ⟨w.heap.size, 0, none⟩), .pointer (some ⟨w.heap.size + 1 + 1, 0, none⟩)] enters_copy n y pg 3 (m.F f) (by omega) (h2.fresh hV) HY.out hpg HTT.out HFF.out HC.out.1 HC.out.2 (by
      intro f' p1 w1 K1 hal hw1 hm1
      have o0 := hw1.tr.blk (e0.below hV e0.lt) (hKn _ (Nat.le_refl _))
      have o2 := hw1.tr.blk (e2.below hV e2.lt) (hKn _ (by omega))
      exact fill_copy gS a k K1 m w1 3 f' f w.heap.size (w.heap.size + 2) p1 hm1 HTT.out hal hf (o0.cell 0) (o2.cell 0)))
    have H2 := Lib.hid h2
    have GW := Lib.hid ((Went.of_below (K := K) HBL.out).below hbg)
    have HE := Lib.hid (And.intro e0 (And.intro e1 e2))
    clear hKn h2 e0 e1 e2 hg hB2
    go_wp2_with fail
    go_still_tail 8, (by kernel_rfl)
    change wpList _ _ _ _ _ wc.drew
    go_wp2_with fail
    refine HO.out.mono ?_
    rintro e w3 ⟨v, rfl, hv, -, hb3⟩
    obtain ⟨A, l, c, rfl, hl, -⟩ := hv
    have hbw : Below wc.heap.size wc w3 := (Below.refl wc.heap.size wc).drew.trans hb3
    have t1 : decide ((l : Int) < 2) = false := decide_eq_false (by omega)
    have q0 : w3.cell? ⟨w.heap.size, 0, none⟩ = some (.pointer (some ⟨gS, 0, none⟩)) := (HE.out.1.below hbw HE.out.1.lt).cell 0
    have q1 : w3.cell? ⟨w.heap.size + 1, 0, none⟩ = some (.int .i64 (n : Int)) := (HE.out.2.1.below hbw HE.out.2.1.lt).cell 0
    have q2 : w3.cell? ⟨w.heap.size + 1, 1, none⟩ = some (.int .i64 (pg : Int)) := (HE.out.2.1.below hbw HE.out.2.1.lt).cell 1
    have BRG := Lib.hid (BRG.out w3 hbw)
    have G2 := Lib.hid (GW.out.below hbw)
    clear hb3 hl hbw
    go_wp2_with fail
    refine BRG.out.mono ?_
    rintro e w4 ⟨f', p1, F', p', t', h5, h6, rfl, h7⟩
    have H5 := Lib.hid (And.intro h5 h6)
    have R := Lib.hid (h7.from_ G2.out)
    clear h5 h6 h7
    go_wp2_with fail
    go_ret2
    exact ⟨f', _, ⟨p1, F', p', t', H5.out.1, H5.out.2, rfl⟩, rfl, R.out⟩
set_option maxRecDepth 100000 in
set_option maxHeartbeats 4000000 in
theorem alone_in (n : Nat) (y : SpX) (pg f : Nat) (h : SpMem w gS a k K m) (hy : m.x n = some y) (hpg : pg < 4096) (hT : Tabs m) (hF : Few m) (h3 : 3 ≤ cntF m.p 2) (h1f : 0 < cntF m.p 3) (hf : f < 1024) (kk : Pl) (hc : pageC m.c (f : Int) = some kk) :
    Calls Tryz.prog 135 #[.pointer (some ⟨gS, 0, none⟩), .agg #[.int .i64 (n : Int), .int .i64 (pg : Int)], .int .i64 (f : Int)] w fun e w' => ∃ f' m', FromCopy m n y pg f f' m' ∧ SpEnd w gS a k K (.tuple #[.int .i64 (f' : Int), .int .i64 0]) m' e w' := by
  have hbx := boxes3 w (.cells #[.pointer (some ⟨gS, 0, none⟩)] 24) ⟨n, pg⟩ #[.int .i64 (f : Int)] 3
  obtain ⟨W, hW⟩ : ∃ W, ((w.alloc (.cells #[.pointer (some ⟨gS, 0, none⟩)] 24)).alloc (.cells #[.int .i64 (n : Int), .int .i64 (pg : Int)] 56)).alloc (.cells #[.int .i64 (f : Int)] 3) = W := ⟨_, rfl⟩
  have b0 : Blk W w.heap.size 24 #[.pointer (some ⟨gS, 0, none⟩)] := by rw [← hW]; exact ((Blk.new w _ _).al _).al _
  rw [show (⟨(n : Int), (pg : Int)⟩ : Pl).c = (n : Int) from rfl, show (⟨(n : Int), (pg : Int)⟩ : Pl).g = (pg : Int) from rfl, hW] at hbx
  obtain ⟨hb, b1, b2⟩ := hbx
  have hWs : W.heap.size = w.heap.size + 3 := by rw [← hW]; simp
  have h1 := h.fresh hb
  obtain ⟨KC, hC, -, -⟩ := h1.cacheP
  have C0_ : W.cell? ⟨w.heap.size, 0, none⟩ = some (.pointer (some ⟨gS, 0, none⟩)) := b0.cell 0
  have C1_ : W.cell? ⟨gS, 4, none⟩ = some (.pointer (some ⟨a.C, 0, none⟩)) := h1.cells.cell 4
  have C2_ : W.cell? ⟨w.heap.size + 2, 0, none⟩ = some (.int .i64 (f : Int)) := b2.cell 0
  have L0_ := b0.lt
  have L1_ := h1.cells.lt
  have L2_ := b2.lt
  have GQ := Lib.hid (fun (V : World) (hV : Below W.heap.size W V) => ((cache_of a.C KC m.c V (f : Int) (hC.fresh hV) (wf_nat f (by omega))).mono (fun e w' h => ⟨h.1.trans (by rw [hc]; rfl), h.2, hV.trans (h.2.mono hV.size)⟩) : Calls Tryz.prog 41 #[.pointer (some ⟨a.C, 0, none⟩), .int .i64 (f : Int)] V fun e w' => e = .returned (.tuple #[.agg #[.int .i64 kk.c, .int .i64 kk.g], .bool true]) ∧ Below V.heap.size V w' ∧ Below W.heap.size W w'))
  have KEEP := Lib.hid (fun (V : World) (hV : Below W.heap.size W V) => (⟨(hV.cell (p := ⟨w.heap.size, 0, none⟩) L0_).trans C0_, (hV.cell (p := ⟨gS, 4, none⟩) L1_).trans C1_, (hV.cell (p := ⟨w.heap.size + 2, 0, none⟩) L2_).trans C2_, hV⟩ : V.cell? ⟨w.heap.size, 0, none⟩ = some (.pointer (some ⟨gS, 0, none⟩)) ∧ V.cell? ⟨gS, 4, none⟩ = some (.pointer (some ⟨a.C, 0, none⟩)) ∧ V.cell? ⟨w.heap.size + 2, 0, none⟩ = some (.int .i64 (f : Int)) ∧ Below W.heap.size W V))
  have PB := Lib.hid (fun (V : World) (hV : V.cell? ⟨w.heap.size, 0, none⟩ = some (.pointer (some ⟨gS, 0, none⟩)) ∧ V.cell? ⟨gS, 4, none⟩ = some (.pointer (some ⟨a.C, 0, none⟩)) ∧ V.cell? ⟨w.heap.size + 2, 0, none⟩ = some (.int .i64 (f : Int)) ∧ Below W.heap.size W V) => hV.2.2.2)
  have BR := Lib.hid (Below.refl W.heap.size W)
  have GA := Lib.hid (show Calls Tryz.prog 41 #[.pointer (some ⟨a.C, 0, none⟩), .int .i64 (f : Int)] (W.alloc (.cells #[.int .i64 0, .int .i64 0] 103)).drew fun e w' => e = .returned (.tuple #[.agg #[.int .i64 kk.c, .int .i64 kk.g], .bool true]) ∧ w'.cell? ⟨W.heap.size, 0, none⟩ = some (.int .i64 0) ∧ w'.cell? ⟨W.heap.size, 1, none⟩ = some (.int .i64 0) ∧ w'.frozen? ⟨W.heap.size, 0, none⟩ = false ∧ w'.frozen? ⟨W.heap.size, 1, none⟩ = false ∧ (∀ u0 u1, Below W.heap.size W ((w'.setCell ⟨W.heap.size, 0, none⟩ u0).setCell ⟨W.heap.size, 1, none⟩ u1)) ∧ Blk w' W.heap.size 103 #[.int .i64 0, .int .i64 0] ∧ Below W.heap.size W w' from (GQ.out _ (belAl (Below.refl _ W) _).drew).mono (fun e w' h => by
    have hz : Blk w' W.heap.size 103 #[.int .i64 0, .int .i64 0] := (show Blk (W.alloc (.cells #[.int .i64 0, .int .i64 0] 103)).drew W.heap.size 103 #[.int .i64 0, .int .i64 0] from Blk.new W _ _).below h.2.1 (Blk.lt (w := (W.alloc (.cells #[.int .i64 0, .int .i64 0] 103)).drew) (Blk.new W _ _))
    exact ⟨h.1, hz.cell 0, hz.cell 1, hz.frozen 0, hz.frozen 1, fun u0 u1 => ((h.2.2.setCell (Nat.le_refl _) u0).setCell (Nat.le_refl _) u1), hz, h.2.2⟩))
  have HB := Lib.hid (And.intro b0 (And.intro b1 b2))
  have HBL := Lib.hid hb
  have HWS := Lib.hid hWs
  have H1 := Lib.hid h1
  have HY := Lib.hid hy
  have HTT := Lib.hid hT
  have HFF := Lib.hid hF
  have HC := Lib.hid (And.intro h3 h1f)
  have HK := Lib.hid h.lt
  clear h hy hT hF h3 h1f hc hb b0 b1 b2 h1 hC C0_ C1_ C2_ L0_ L1_ L2_ hWs
  go_enter Tryz.func135, Tryz.ntmps135
  go_wp2_with fail
  go_cut [8, 9] from 10 to 38 (fun sA sB wx => ∃ g, sA = .pointer (some ⟨g, 0, none⟩) ∧ sB = .bool true ∧ Blk wx g 103 #[.int .i64 kk.c, .int .i64 kk.g] ∧ W.heap.size ≤ g ∧ Below W.heap.size W wx)
  case first =>
    go_region_held3 (fun w' => w'.cell? ⟨w.heap.size, 0, none⟩ = some (.pointer (some ⟨gS, 0, none⟩)) ∧ w'.cell? ⟨gS, 4, none⟩ = some (.pointer (some ⟨a.C, 0, none⟩)) ∧ w'.cell? ⟨w.heap.size + 2, 0, none⟩ = some (.int .i64 (f : Int)) ∧ Below W.heap.size W w')
      (first | assumption | exact KEEP.out _ BR.out.drew | exact KEEP.out _ (by assumption) | exact KEEP.out _ (belAl (PB.out _ (by assumption)) _) | exact KEEP.out _ (belAl (by assumption) _) | exact KEEP.out _ (PB.out _ (by assumption)) | exact KEEP.out _ (belAl BR.out _).drew | exact KEEP.out _ (hsb _ _))
      (first | (go_at_call 41; refine GA.out.mono ?_; rintro e w' ⟨rfl, z0, z1, f0, f1, hsb, hz, hbB⟩) | (go_at_call 41; refine (GQ.out _ ?_).mono ?_; (first | assumption | exact PB.out _ (by assumption)); rintro e w' ⟨rfl, hbA, hbB⟩))
    all_goals (go_wp2_with fail; go_meet)
    all_goals (first | exact ⟨_, rfl, rfl, ((hz.set_ 0 _).set_ 1 _), Nat.le_refl _, hsb _ _⟩ | exact ⟨_, rfl, rfl, Blk.new w' _ _, hbB.size, belAl hbB _⟩)
  case rest =>
    obtain ⟨g, rfl, rfl, hg, hgs, hbg⟩ := hcut
    have hKn : ∀ j, w.heap.size ≤ j → ¬ K j := fun j hj hk => by have := HK.out j hk; omega
    have h2 := H1.out.fresh hbg
    have e0 := HB.out.1.below hbg HB.out.1.lt
    have e1 := HB.out.2.1.below hbg HB.out.2.1.lt
    have e2 := HB.out.2.2.below hbg HB.out.2.2.lt
    have q0 : wc.cell? ⟨w.heap.size, 0, none⟩ = some (.pointer (some ⟨gS, 0, none⟩)) := e0.cell 0
    have q1 : wc.cell? ⟨w.heap.size + 1, 0, none⟩ = some (.int .i64 (n : Int)) := e1.cell 0
    have q2 : wc.cell? ⟨w.heap.size + 1, 1, none⟩ = some (.int .i64 (pg : Int)) := e1.cell 1
    have q3 : wc.cell? ⟨w.heap.size + 2, 0, none⟩ = some (.int .i64 (f : Int)) := e2.cell 0
    have q4 : wc.cell? ⟨gS, 3, none⟩ = some (.pointer (some ⟨a.B, 0, none⟩)) := h2.cells.cell 3
    have BRG := Lib.hid (fun (V : World) (hV : Below wc.heap.size wc V) => bring_ok gS a k K m V 163 #[] #[.pointer (some ⟨w.heap.size, 0, none⟩), .pointer (some ⟨w.heap.size + 1 + 1, 0, none⟩)] enters_copy n y pg 3 (m.F f) (by omega) (h2.fresh hV) HY.out hpg HTT.out HFF.out HC.out.1 HC.out.2 (by
      intro f' p1 w1 K1 hal hw1 hm1
      have o0 := hw1.tr.blk (e0.below hV e0.lt) (hKn _ (Nat.le_refl _))
      have o2 := hw1.tr.blk (e2.below hV e2.lt) (hKn _ (by omega))
      exact fill_copy gS a k K1 m w1 3 f' f w.heap.size (w.heap.size + 2) p1 hm1 HTT.out hal hf (o0.cell 0) (o2.cell 0)))
    have GW := Lib.hid ((Went.of_below (K := K) HBL.out).below hbg)
    clear hKn h2 e0 e1 e2 hg hbg
    go_wp2_with fail
    go_quiet (fail)
    have BRG := Lib.hid (BRG.out (wc.drewN nq) (below_drewN (Below.refl wc.heap.size wc) _))
    have G2 := Lib.hid (GW.out.below (below_drewN (Below.refl wc.heap.size wc) nq))
    go_wp2_with fail
    refine BRG.out.mono ?_
    rintro e w4 ⟨f', p1, F', p', t', h5, h6, rfl, h7⟩
    have H5 := Lib.hid (And.intro h5 h6)
    have R := Lib.hid (h7.from_ G2.out)
    clear h5 h6 h7
    go_wp2_with fail
    go_ret2
    exact ⟨f', _, ⟨p1, F', p', t', H5.out.1, H5.out.2, rfl⟩, rfl, R.out⟩
end
end Go.Proofs.YtgjkdnpidobabaaGreat

namespace Go.Proofs.YtgjkdnpidobabaaGreat
open Go.RowKit
set_option linter.unusedVariables false

structure FromZero (m : SpM) (n : Nat) (y : SpX) (pg f : Nat) (m' : SpM) : Prop where
  ex : ∃ p1 F' p' t', Alloc1 m.p 3 f p1 ∧ SetDone ((m.setP p1).setF (upd m.F f zer)) y pg ⟨1, f, false⟩ F' p' t' ∧ m' = putM ((m.setP p1).setF (upd m.F f zer)) n y pg ⟨1, f, false⟩ 0 F' p' t'
structure FromIn (m : SpM) (n : Nat) (y : SpX) (pg f : Nat) (m' : SpM) : Prop where
  ex : ∃ F' p' t', SetDone m y pg ⟨1, f, false⟩ F' p' t' ∧ m' = putM m n y pg ⟨1, f, false⟩ 0 F' p' t'
theorem boxesC (w : World) (p : Pl) (r : Ar) (x : En) : Below w.heap.size w (((w.alloc (.cells #[.int .i64 p.c, .int .i64 p.g] 56)).alloc (.cells #[.int .i64 r.fr, .int .i64 r.pg, .bool r.w, .int .i64 r.kd, .int .i64 r.fl, .int .i64 r.ofs] 29)).alloc (.cells #[.int .i64 x.k, .int .i64 x.n, .bool x.w] 58)) ∧
    Blk (((w.alloc (.cells #[.int .i64 p.c, .int .i64 p.g] 56)).alloc (.cells #[.int .i64 r.fr, .int .i64 r.pg, .bool r.w, .int .i64 r.kd, .int .i64 r.fl, .int .i64 r.ofs] 29)).alloc (.cells #[.int .i64 x.k, .int .i64 x.n, .bool x.w] 58)) w.heap.size 56 #[.int .i64 p.c, .int .i64 p.g] ∧
    Blk (((w.alloc (.cells #[.int .i64 p.c, .int .i64 p.g] 56)).alloc (.cells #[.int .i64 r.fr, .int .i64 r.pg, .bool r.w, .int .i64 r.kd, .int .i64 r.fl, .int .i64 r.ofs] 29)).alloc (.cells #[.int .i64 x.k, .int .i64 x.n, .bool x.w] 58)) (w.heap.size + 1) 29 #[.int .i64 r.fr, .int .i64 r.pg, .bool r.w, .int .i64 r.kd, .int .i64 r.fl, .int .i64 r.ofs] ∧
    Blk (((w.alloc (.cells #[.int .i64 p.c, .int .i64 p.g] 56)).alloc (.cells #[.int .i64 r.fr, .int .i64 r.pg, .bool r.w, .int .i64 r.kd, .int .i64 r.fl, .int .i64 r.ofs] 29)).alloc (.cells #[.int .i64 x.k, .int .i64 x.n, .bool x.w] 58)) (w.heap.size + 2) 58 #[.int .i64 x.k, .int .i64 x.n, .bool x.w] :=
  ⟨belAl (belAl (belAl (Below.refl _ w) _) _) _, ((Blk.new w _ _).al _).al _, (Blk.new1 w _ _ _).al _, Blk.new2 w _ _ _ _⟩
section
variable (gS : Nat) (a : SpA) (k : SpK) (K : Nat → Prop) (m : SpM) (w : World)
set_option maxRecDepth 100000 in
set_option maxHeartbeats 4000000 in
theorem come_frame (n pg : Nat) (rfr rpg : Int) (rw_ : Bool) (rkd rfl_ rofs : Int) (xk xn : Int) (xw : Bool) (h : SpMem w gS a k K m) (hk : xk = 1) :
    Calls Tryz.prog 134 #[.pointer (some ⟨gS, 0, none⟩), .agg #[.int .i64 (n : Int), .int .i64 (pg : Int)], .agg #[.int .i64 rfr, .int .i64 rpg, .bool rw_, .int .i64 rkd, .int .i64 rfl_, .int .i64 rofs], .agg #[.int .i64 xk, .int .i64 xn, .bool xw]] w (SpEnd w gS a k K (.tuple #[.int .i64 xn, .int .i64 0]) m) := by
  have hbx := boxesC w ⟨n, pg⟩ ⟨rfr, rpg, rw_, rkd, rfl_, rofs⟩ ⟨xk, xn, xw⟩
  simp only at hbx
  obtain ⟨W, hW⟩ : ∃ W, ((w.alloc (.cells #[.int .i64 (n : Int), .int .i64 (pg : Int)] 56)).alloc (.cells #[.int .i64 rfr, .int .i64 rpg, .bool rw_, .int .i64 rkd, .int .i64 rfl_, .int .i64 rofs] 29)).alloc (.cells #[.int .i64 xk, .int .i64 xn, .bool xw] 58) = W := ⟨_, rfl⟩
  rw [hW] at hbx
  obtain ⟨hb, b0, b1, b2⟩ := hbx
  have hWs : W.heap.size = w.heap.size + 3 := by rw [← hW]; simp
  have p0 : W.cell? ⟨w.heap.size, 0, none⟩ = some (.int .i64 (n : Int)) := b0.cell 0
  have p1 : W.cell? ⟨w.heap.size, 1, none⟩ = some (.int .i64 (pg : Int)) := b0.cell 1
  have r0 : W.cell? ⟨w.heap.size + 1, 0, none⟩ = some (.int .i64 rfr) := b1.cell 0
  have r3 : W.cell? ⟨w.heap.size + 1, 3, none⟩ = some (.int .i64 rkd) := b1.cell 3
  have r4 : W.cell? ⟨w.heap.size + 1, 4, none⟩ = some (.int .i64 rfl_) := b1.cell 4
  have r5 : W.cell? ⟨w.heap.size + 1, 5, none⟩ = some (.int .i64 rofs) := b1.cell 5
  have x0 : W.cell? ⟨w.heap.size + 2, 0, none⟩ = some (.int .i64 xk) := b2.cell 0
  have x1 : W.cell? ⟨w.heap.size + 2, 1, none⟩ = some (.int .i64 xn) := b2.cell 1
  have R := Lib.hid (show SpGo w gS a k K m W from ⟨K, h.fresh hb, Went.of_below hb⟩)
  subst hk
  clear h b0 b1 b2 hb hWs
  go_enter Tryz.func134, Tryz.ntmps134
  go_wp2_with fail
  go_ret2
  exact ⟨rfl, R.out⟩
set_option maxRecDepth 100000 in
set_option maxHeartbeats 4000000 in
theorem come_zero (n pg : Nat) (rfr rpg : Int) (rw_ : Bool) (rkd rfl_ rofs : Int) (xk xn : Int) (xw : Bool) (h : SpMem w gS a k K m) (y : SpX) (hy : m.x n = some y) (hpg : pg < 4096) (hT : Tabs m) (hF : Few m) (h3 : 3 ≤ cntF m.p 2) (h1f : 0 < cntF m.p 3) (hk : xk = 0) (hkd : rkd = 1) :
    Calls Tryz.prog 134 #[.pointer (some ⟨gS, 0, none⟩), .agg #[.int .i64 (n : Int), .int .i64 (pg : Int)], .agg #[.int .i64 rfr, .int .i64 rpg, .bool rw_, .int .i64 rkd, .int .i64 rfl_, .int .i64 rofs], .agg #[.int .i64 xk, .int .i64 xn, .bool xw]] w fun e w' => ∃ f m', FromZero m n y pg f m' ∧ SpEnd w gS a k K (.tuple #[.int .i64 (f : Int), .int .i64 0]) m' e w' := by
  have hbx := boxesC w ⟨n, pg⟩ ⟨rfr, rpg, rw_, rkd, rfl_, rofs⟩ ⟨xk, xn, xw⟩
  simp only at hbx
  obtain ⟨W, hW⟩ : ∃ W, ((w.alloc (.cells #[.int .i64 (n : Int), .int .i64 (pg : Int)] 56)).alloc (.cells #[.int .i64 rfr, .int .i64 rpg, .bool rw_, .int .i64 rkd, .int .i64 rfl_, .int .i64 rofs] 29)).alloc (.cells #[.int .i64 xk, .int .i64 xn, .bool xw] 58) = W := ⟨_, rfl⟩
  rw [hW] at hbx
  obtain ⟨hb, b0, b1, b2⟩ := hbx
  have hWs : W.heap.size = w.heap.size + 3 := by rw [← hW]; simp
  have p0 : W.cell? ⟨w.heap.size, 0, none⟩ = some (.int .i64 (n : Int)) := b0.cell 0
  have p1 : W.cell? ⟨w.heap.size, 1, none⟩ = some (.int .i64 (pg : Int)) := b0.cell 1
  have r0 : W.cell? ⟨w.heap.size + 1, 0, none⟩ = some (.int .i64 rfr) := b1.cell 0
  have r3 : W.cell? ⟨w.heap.size + 1, 3, none⟩ = some (.int .i64 rkd) := b1.cell 3
  have r4 : W.cell? ⟨w.heap.size + 1, 4, none⟩ = some (.int .i64 rfl_) := b1.cell 4
  have r5 : W.cell? ⟨w.heap.size + 1, 5, none⟩ = some (.int .i64 rofs) := b1.cell 5
  have x0 : W.cell? ⟨w.heap.size + 2, 0, none⟩ = some (.int .i64 xk) := b2.cell 0
  have x1 : W.cell? ⟨w.heap.size + 2, 1, none⟩ = some (.int .i64 xn) := b2.cell 1
  have h1 := h.fresh hb
  have c0 : W.cell? ⟨gS, 0, none⟩ = some (.pointer (some ⟨a.R, 0, none⟩)) := h1.cells.cell 0
  have hKn : ∀ j, w.heap.size ≤ j → ¬ K j := fun j hj hk => by have := h.lt j hk; omega
  have BRG := Lib.hid ((bring_ok gS a k K m W.drew 128 #[.pointer (some ⟨a.R, 0, none⟩)] #[] enters_zero n y pg 3 zer (by omega) h1.drew hy hpg hT hF h3 h1f (fun f p1 w1 K1 hal hw1 hm1 => fill_zero gS a k K1 m w1 3 f p1 hm1 hT hal)).mono (fun e w3 h => (by
    obtain ⟨f, p1, F', p', t', h2, h4, rfl, K3, h5, g5⟩ := h
    exact ⟨f, _, rfl, ⟨(g5.tr.blk (w := W.drew) b0 (hKn _ (Nat.le_refl _))).cell 0, (g5.tr.blk (w := W.drew) b0 (hKn _ (Nat.le_refl _))).cell 1, h5.cells.cell 0⟩, ⟨p1, F', p', t', h2, h4, rfl⟩, K3, h5, (Went.of_below hb).drew.trans g5⟩ :
    ∃ (f : Nat) (m' : SpM), e = .returned (.tuple #[.int .i64 (f : Int), .int .i64 0]) ∧ (w3.cell? ⟨w.heap.size, 0, none⟩ = some (.int .i64 (n : Int)) ∧ w3.cell? ⟨w.heap.size, 1, none⟩ = some (.int .i64 (pg : Int)) ∧ w3.cell? ⟨gS, 0, none⟩ = some (.pointer (some ⟨a.R, 0, none⟩))) ∧ FromZero m n y pg f m' ∧ SpGo w gS a k K m' w3)))
  subst hk hkd
  clear h b0 b1 b2 hb hWs hy hT hF h3 h1f h1 hKn
  go_enter Tryz.func134, Tryz.ntmps134
  go_wp2_with fail
  go_region_held3 (fun w' => w'.cell? ⟨w.heap.size, 0, none⟩ = some (.int .i64 (n : Int)) ∧ w'.cell? ⟨w.heap.size, 1, none⟩ = some (.int .i64 (pg : Int)) ∧ w'.cell? ⟨gS, 0, none⟩ = some (.pointer (some ⟨a.R, 0, none⟩)))
    (first | assumption | exact ⟨p0, p1, c0⟩)
    ((go_at_call 161; refine BRG.out.mono ?_; rintro e w3 ⟨f, m', rfl, hS3, hz, hgo⟩))
  have HZ := Lib.hid hz
  have R := Lib.hid hgo
  clear hz hgo hS3
  go_wp2_with fail
  go_ret2
  exact ⟨f, m', HZ.out, rfl, R.out⟩
set_option maxRecDepth 100000 in
set_option maxHeartbeats 4000000 in
theorem come_in (n pg : Nat) (rfr rpg : Int) (rw_ : Bool) (rkd rfl_ rofs : Int) (xk xn : Int) (xw : Bool) (h : SpMem w gS a k K m) (y : SpX) (hy : m.x n = some y) (hpg : pg < 4096) (hT : Tabs m) (hF : Few m) (h3 : 3 ≤ cntF m.p 2)  (f : Nat) (hf : f < 1024) (fl fp : Nat) (hk : xk = 0) (hkd : rkd ≠ 1) (hfl : rfl_ = (fl : Int)) (hfp : rofs + (pg : Int) - rfr = (fp : Int)) (hl4 : fl < 4) (hp16 : fp < 16) (hf0 : 0 ≤ rfr ∧ rfr ≤ 4095) (ho0 : 0 ≤ rofs ∧ rofs < 16) (hc : frameC m.c ⟨fl, fp⟩ = some (f : Int)) :
    Calls Tryz.prog 134 #[.pointer (some ⟨gS, 0, none⟩), .agg #[.int .i64 (n : Int), .int .i64 (pg : Int)], .agg #[.int .i64 rfr, .int .i64 rpg, .bool rw_, .int .i64 rkd, .int .i64 rfl_, .int .i64 rofs], .agg #[.int .i64 xk, .int .i64 xn, .bool xw]] w fun e w' => ∃ m', FromIn m n y pg f m' ∧ SpEnd w gS a k K (.tuple #[.int .i64 (f : Int), .int .i64 0]) m' e w' := by
  have hbx := boxesC w ⟨n, pg⟩ ⟨rfr, rpg, rw_, rkd, rfl_, rofs⟩ ⟨xk, xn, xw⟩
  simp only at hbx
  obtain ⟨W, hW⟩ : ∃ W, ((w.alloc (.cells #[.int .i64 (n : Int), .int .i64 (pg : Int)] 56)).alloc (.cells #[.int .i64 rfr, .int .i64 rpg, .bool rw_, .int .i64 rkd, .int .i64 rfl_, .int .i64 rofs] 29)).alloc (.cells #[.int .i64 xk, .int .i64 xn, .bool xw] 58) = W := ⟨_, rfl⟩
  rw [hW] at hbx
  obtain ⟨hb, b0, b1, b2⟩ := hbx
  have hWs : W.heap.size = w.heap.size + 3 := by rw [← hW]; simp
  have p0 : W.cell? ⟨w.heap.size, 0, none⟩ = some (.int .i64 (n : Int)) := b0.cell 0
  have p1 : W.cell? ⟨w.heap.size, 1, none⟩ = some (.int .i64 (pg : Int)) := b0.cell 1
  have r0 : W.cell? ⟨w.heap.size + 1, 0, none⟩ = some (.int .i64 rfr) := b1.cell 0
  have r3 : W.cell? ⟨w.heap.size + 1, 3, none⟩ = some (.int .i64 rkd) := b1.cell 3
  have r4 : W.cell? ⟨w.heap.size + 1, 4, none⟩ = some (.int .i64 rfl_) := b1.cell 4
  have r5 : W.cell? ⟨w.heap.size + 1, 5, none⟩ = some (.int .i64 rofs) := b1.cell 5
  have x0 : W.cell? ⟨w.heap.size + 2, 0, none⟩ = some (.int .i64 xk) := b2.cell 0
  have x1 : W.cell? ⟨w.heap.size + 2, 1, none⟩ = some (.int .i64 xn) := b2.cell 1
  have h1 := h.fresh hb
  have BRG := Lib.hid (fromFile_in gS a k K m W n y pg f ⟨fl, fp⟩ h1 hy hpg hT hF h3 hf ⟨wf_nat fl (by omega), wf_nat fp (by omega)⟩ hc)
  have G := Lib.hid (Went.of_below (K := K) hb)
  have t1 : (rkd == 1) = false := beq_eq_false_iff_ne.2 hkd
  have hp0 : (0 : Int) ≤ (pg : Int) := by omega
  have hp1 : (pg : Int) < 4096 := by omega
  subst hk hfl
  clear h b0 b1 b2 hb hWs hy hT hF h3 h1 hkd
  go_enter Tryz.func134, Tryz.ntmps134
  go_wp2_with fail
  refine BRG.out.mono ?_
  rintro e w3 ⟨F', p', t', h5, rfl, h6⟩
  have H5 := Lib.hid h5
  have R := Lib.hid (h6.from_ G.out)
  clear h5 h6
  go_wp2_with fail
  go_ret2
  exact ⟨_, ⟨F', p', t', H5.out, rfl⟩, rfl, R.out⟩
set_option maxRecDepth 100000 in
set_option maxHeartbeats 4000000 in
theorem come_out (n pg : Nat) (rfr rpg : Int) (rw_ : Bool) (rkd rfl_ rofs : Int) (xk xn : Int) (xw : Bool) (h : SpMem w gS a k K m) (y : SpX) (hy : m.x n = some y) (hpg : pg < 4096) (hT : Tabs m) (hF : Few m) (h3 : 3 ≤ cntF m.p 2) (h1f : 0 < cntF m.p 3) (hlc : m.c.length ≤ 100000) (hD : m.T = Tr.none_) (fl fp : Nat) (hk : xk = 0) (hkd : rkd ≠ 1) (hfl : rfl_ = (fl : Int)) (hfp : rofs + (pg : Int) - rfr = (fp : Int)) (hl4 : fl < 4) (hp16 : fp < 16) (hf0 : 0 ≤ rfr ∧ rfr ≤ 4095) (ho0 : 0 ≤ rofs ∧ rofs < 16) (hc : frameC m.c ⟨fl, fp⟩ = none) :
    Calls Tryz.prog 134 #[.pointer (some ⟨gS, 0, none⟩), .agg #[.int .i64 (n : Int), .int .i64 (pg : Int)], .agg #[.int .i64 rfr, .int .i64 rpg, .bool rw_, .int .i64 rkd, .int .i64 rfl_, .int .i64 rofs], .agg #[.int .i64 xk, .int .i64 xn, .bool xw]] w fun e w' => ∃ f m', FromDisk m n y pg ⟨fl, fp⟩ (last m.S m.L (96 + (16 * fl + fp))) f m' ∧ SpEnd w gS a k K (.tuple #[.int .i64 (f : Int), .int .i64 0]) m' e w' := by
  have hbx := boxesC w ⟨n, pg⟩ ⟨rfr, rpg, rw_, rkd, rfl_, rofs⟩ ⟨xk, xn, xw⟩
  simp only at hbx
  obtain ⟨W, hW⟩ : ∃ W, ((w.alloc (.cells #[.int .i64 (n : Int), .int .i64 (pg : Int)] 56)).alloc (.cells #[.int .i64 rfr, .int .i64 rpg, .bool rw_, .int .i64 rkd, .int .i64 rfl_, .int .i64 rofs] 29)).alloc (.cells #[.int .i64 xk, .int .i64 xn, .bool xw] 58) = W := ⟨_, rfl⟩
  rw [hW] at hbx
  obtain ⟨hb, b0, b1, b2⟩ := hbx
  have hWs : W.heap.size = w.heap.size + 3 := by rw [← hW]; simp
  have p0 : W.cell? ⟨w.heap.size, 0, none⟩ = some (.int .i64 (n : Int)) := b0.cell 0
  have p1 : W.cell? ⟨w.heap.size, 1, none⟩ = some (.int .i64 (pg : Int)) := b0.cell 1
  have r0 : W.cell? ⟨w.heap.size + 1, 0, none⟩ = some (.int .i64 rfr) := b1.cell 0
  have r3 : W.cell? ⟨w.heap.size + 1, 3, none⟩ = some (.int .i64 rkd) := b1.cell 3
  have r4 : W.cell? ⟨w.heap.size + 1, 4, none⟩ = some (.int .i64 rfl_) := b1.cell 4
  have r5 : W.cell? ⟨w.heap.size + 1, 5, none⟩ = some (.int .i64 rofs) := b1.cell 5
  have x0 : W.cell? ⟨w.heap.size + 2, 0, none⟩ = some (.int .i64 xk) := b2.cell 0
  have x1 : W.cell? ⟨w.heap.size + 2, 1, none⟩ = some (.int .i64 xn) := b2.cell 1
  have h1 := h.fresh hb
  have BRG := Lib.hid (fromFile_out gS a k K m W n y pg fl fp h1 hy hpg hT hF h3 h1f hlc hl4 hp16 hD hc)
  have G := Lib.hid (Went.of_below (K := K) hb)
  have t1 : (rkd == 1) = false := beq_eq_false_iff_ne.2 hkd
  have hp0 : (0 : Int) ≤ (pg : Int) := by omega
  have hp1 : (pg : Int) < 4096 := by omega
  subst hk hfl
  clear h b0 b1 b2 hb hWs hy hT hF h3 h1 hkd
  go_enter Tryz.func134, Tryz.ntmps134
  go_wp2_with fail
  refine BRG.out.mono ?_
  rintro e w3 ⟨f, m', h5, rfl, h6⟩
  have H5 := Lib.hid h5
  have R := Lib.hid (h6.from_ G.out)
  clear h5 h6
  go_wp2_with fail
  go_ret2
  exact ⟨f, m', H5.out, rfl, R.out⟩
end
end Go.Proofs.YtgjkdnpidobabaaGreat

namespace Go.Proofs.YtgjkdnpidobabaaGreat
open Go.RowKit
set_option linter.unusedVariables false

def keyI (i : Nat) : Pl := ⟨((i / 16 : Nat) : Int), ((i % 16 : Nat) : Int)⟩
def fileM (m : SpM) (i j : Nat) : Nat := match frameC m.c (keyI i) with
  | some f => (m.F f.toNat).getD j 0
  | none => (last m.S m.L (96 + i)).getD j 0
def pageM (m : SpM) (n pg j : Nat) : Nat := if (entM m n pg).k = 1 then (m.F (entM m n pg).n.toNat).getD j 0 else match arM m n pg with
  | some r => if r.kd = 1 then 0 else fileM m (fileIx r pg) j
  | none => 0
def hasAnon (m : SpM) (n pg : Nat) : Prop := (entM m n pg).k = 1 ∧ m.p.u.getD (entM m n pg).n.toNat 0 = 3
theorem pageM_in {m : SpM} {n pg f : Nat} (h : entM m n pg = ⟨1, (f : Int), false⟩) (j : Nat) : pageM m n pg j = (m.F f).getD j 0 := by
  unfold pageM
  rw [h, if_pos rfl]
  rfl
theorem hasAnon_in {m : SpM} {n pg f : Nat} (h : entM m n pg = ⟨1, (f : Int), false⟩) : hasAnon m n pg ↔ m.p.u.getD f 0 = 3 := by
  unfold hasAnon
  rw [h]
  exact ⟨fun h => h.2, fun h => ⟨rfl, h⟩⟩
theorem hasAnon_no {m : SpM} {n pg : Nat} (h : entM m n pg = en0) : ¬ hasAnon m n pg := by
  unfold hasAnon
  rw [h]
  exact fun h => absurd h.1 (by decide)
theorem arM_some {m : SpM} {n : Nat} {y : SpX} (hy : m.x n = some y) (pg : Nat) : arM m n pg = findA y.a (pg : Int) := by unfold arM; rw [hy]
theorem arM_of {m m1 : SpM} (h : ∀ n, (m1.x n).map (fun y => (y.a, y.q)) = (m.x n).map (fun y => (y.a, y.q))) : arM m1 = arM m := by
  funext n pg
  have e := h n
  unfold arM
  cases c : m.x n with
  | none =>
    rw [c, Option.map_none, Option.map_eq_none_iff] at e
    rw [e]
  | some y =>
    rw [c, Option.map_some, Option.map_eq_some_iff] at e
    obtain ⟨y1, e1, e2⟩ := e
    rw [e1]
    injection e2 with e3 e4
    show findA y1.a _ = findA y.a _
    rw [e3]
structure Stp (n pg : Nat) (m m1 : SpM) : Prop where
  xs : ∀ n', (m1.x n').map (fun y => (y.a, y.q)) = (m.x n').map (fun y => (y.a, y.q))
  ent : ∀ n' q, ¬ (n' = n ∧ q = pg) → entM m1 n' q = entM m n' q
  frm : ∀ n' q (f : Nat), ¬ (n' = n ∧ q = pg) → entM m n' q = ⟨1, (f : Int), false⟩ → m1.F f = m.F f ∧ m1.p.u.getD f 0 = m.p.u.getD f 0 ∧ (m.p.u.getD f 0 = 3 → ∀ z ∈ m1.b (f : Int), z ∈ m.b (f : Int))
  fil : ∀ i j, fileM m1 i j = fileM m i j
theorem Stp.refl (n pg : Nat) (m : SpM) : Stp n pg m m := ⟨fun _ => rfl, fun _ _ _ => rfl, fun _ _ _ _ _ => ⟨rfl, rfl, fun _ _ h => h⟩, fun _ _ => rfl⟩
theorem Stp.trans {n pg : Nat} {m m1 m2 : SpM} (h : Stp n pg m m1) (g : Stp n pg m1 m2) : Stp n pg m m2 := by
  refine ⟨fun n' => (g.xs n').trans (h.xs n'), fun n' q c => (g.ent n' q c).trans (h.ent n' q c), fun n' q f c e => ?_, fun i j => (g.fil i j).trans (h.fil i j)⟩
  obtain ⟨a1, a2, a3⟩ := h.frm n' q f c e
  obtain ⟨b1, b2, b3⟩ := g.frm n' q f c ((h.ent n' q c).trans e)
  exact ⟨b1.trans a1, b2.trans a2, fun u z hz => a3 u z (b3 (a2.trans u) z hz)⟩
theorem Stp.ar {n pg : Nat} {m m1 : SpM} (h : Stp n pg m m1) : arM m1 = arM m := arM_of h.xs
structure Cost (c2 c3 tt : Nat) (m m1 : SpM) : Prop where
  c2 : cntF m.p 2 ≤ cntF m1.p 2 + c2
  c3 : cntF m.p 3 ≤ cntF m1.p 3 + c3
  tt : ∀ n y, m1.x n = some y → ∃ y0, m.x n = some y0 ∧ y.t.t.length ≤ y0.t.t.length + tt
theorem Cost.refl (m : SpM) : Cost 0 0 0 m m := ⟨by omega, by omega, fun n y h => ⟨y, h, by omega⟩⟩
set_option maxRecDepth 20000 in
theorem Cost.trans {a2 a3 at_ b2 b3 bt : Nat} {m m1 m2 : SpM} (h : Cost a2 a3 at_ m m1) (g : Cost b2 b3 bt m1 m2) : Cost (a2 + b2) (a3 + b3) (at_ + bt) m m2 := by
  have h1 := h.c2; have h2 := h.c3; have g1 := g.c2; have g2 := g.c3
  refine ⟨by omega, by omega, fun n y e => ?_⟩
  obtain ⟨y1, e1, l1⟩ := g.tt n y e
  obtain ⟨y0, e0, l0⟩ := h.tt n y1 e1
  exact ⟨y0, e0, by omega⟩
theorem Cost.le {a2 a3 at_ b2 b3 bt : Nat} {m m1 : SpM} (h : Cost a2 a3 at_ m m1) (l2 : a2 ≤ b2) (l3 : a3 ≤ b3) (lt : at_ ≤ bt) : Cost b2 b3 bt m m1 := by
  have h1 := h.c2; have h2 := h.c3
  refine ⟨by omega, by omega, fun n y e => ?_⟩
  obtain ⟨y0, e0, l0⟩ := h.tt n y e
  exact ⟨y0, e0, by omega⟩
section
variable {A : Nat → Nat → Option Ar} {m m1 : SpM} {n pg : Nat} {y : SpX} {x : En} {F' : Nat → List Nat} {p1 p' : PS} {t' : TS} {use f : Nat} {B : List Nat}
theorem Inv.key_use (h : Inv A m) {k : Pl} {g : Int} (e : frameC m.c k = some g) : ∃ f : Nat, g = (f : Int) ∧ f < 1024 ∧ m.p.u.getD f 0 = 4 := by
  obtain ⟨c, hc, _, rfl⟩ := frameC_some e
  exact (h.ckey c hc).2
theorem Inv.alloc (h : Inv A m) (ha : Alloc1 m.p use f p1) : Inv A ((m.setP p1).setF (upd m.F f B)) := by
  have hu : ∀ g, m.p.u.getD g 0 = 3 ∨ m.p.u.getD g 0 = 4 → p1.u.getD g 0 = m.p.u.getD g 0 := fun g hg => by
    rw [ha.u, if_neg]
    rintro rfl
    have := ha.free
    omega
  refine ⟨h.tabs.alloc ha, fun n y hy g hg => ?_, h.tok, h.x8, h.ars, fun n pg => ?_, h.back, h.srt, h.slot, h.cok, fun e he => ?_, h.tr⟩
  · show p1.z.getD _ 0 = 2 ∧ p1.i.getD _ false = false
    rw [ha.z, ha.i]
    exact h.zone n y hy g hg
  · rcases h.good n pg with c | ⟨g, c, hg, r, hr, c2⟩
    · exact .inl c
    · refine .inr ⟨g, c, hg, r, hr, ?_⟩
      show (p1.u.getD g 0 = 3 ∧ _) ∨ (p1.u.getD g 0 = 4 ∧ _)
      rw [hu g (by rcases c2 with c2 | c2; exact .inl c2.1; exact .inr c2.1)]
      exact c2
  · obtain ⟨c1, g, c2, c3, c4⟩ := h.ckey e he
    exact ⟨c1, g, c2, c3, (hu g (.inr c4)).trans c4⟩
theorem Stp.alloc (n pg : Nat) (h : Inv A m) (ha : Alloc1 m.p use f p1) : Stp n pg m ((m.setP p1).setF (upd m.F f B)) := by
  have hne : ∀ g, m.p.u.getD g 0 = 3 ∨ m.p.u.getD g 0 = 4 → g ≠ f := fun g hg => by
    rintro rfl
    have := ha.free
    omega
  refine ⟨fun _ => rfl, fun _ _ _ => rfl, fun n' q g c e => ?_, fun i j => ?_⟩
  · have hg : m.p.u.getD g 0 = 3 ∨ m.p.u.getD g 0 = 4 := by
      rcases h.good n' q with d | ⟨g', d, _, r, _, d2⟩
      · rw [d] at e; exact absurd e.symm (en_ne _)
      · rw [d] at e
        have := en_inj e
        obtain rfl : g' = g := by omega
        rcases d2 with d2 | d2
        · exact .inl d2.1
        · exact .inr d2.1
    refine ⟨upd_other _ _ _ (hne g hg), ?_, fun _ z hz => hz⟩
    show p1.u.getD g 0 = _
    rw [ha.u, if_neg (hne g hg)]
  · unfold fileM
    show (match frameC m.c (keyI i) with | some g => (upd m.F f B g.toNat).getD j 0 | none => _) = _
    cases e : frameC m.c (keyI i) with
    | none => rfl
    | some g =>
      obtain ⟨g', rfl, _, hu⟩ := h.key_use e
      simp only [Int.toNat_natCast]
      rw [upd_other _ _ _ (hne g' (.inr hu))]
theorem Cost.alloc (ha : Alloc1 m.p use f p1) : Cost 0 1 0 m ((m.setP p1).setF (upd m.F f B)) := by
  have h2 := ha.c2; have h3 := ha.c3
  refine ⟨?_, ?_, fun n y h => ⟨y, h, by omega⟩⟩
  · show _ ≤ cntF p1 2 + 0; omega
  · show _ ≤ cntF p1 3 + 1; omega
theorem PutIs.xs' (h : PutIs m n y pg x F' p' t' m1) (hy : m.x n = some y) (n' : Nat) : (m1.x n').map (fun y => (y.a, y.q)) = (m.x n').map (fun y => (y.a, y.q)) := by
  rw [h.xs]
  by_cases c : n' = n
  · subst c; rw [upd_same, hy]; rfl
  · rw [upd_other _ _ _ c]
theorem PutIs.byt (h : PutIs m n y pg x F' p' t' m1) (hd : SetDone m y pg x F' p' t') (hi : Inv A m) (hy : m.x n = some y) {f : Nat} (hu : m.p.u.getD f 0 = 3 ∨ m.p.u.getD f 0 = 4) : m1.F f = m.F f := by
  have e : m1.F = F' := h.rest.F
  rw [e]
  refine hd.F f (fun c => ?_) (by omega)
  have := hi.tabs.use n y hy f c
  omega
theorem PutIs.fil (h : PutIs m n y pg x F' p' t' m1) (hd : SetDone m y pg x F' p' t') (hi : Inv A m) (hy : m.x n = some y) (i j : Nat) : fileM m1 i j = fileM m i j := by
  have ec : m1.c = m.c := h.rest.c
  have eS : m1.S = m.S := h.rest.S
  have eL : m1.L = m.L := h.rest.L
  unfold fileM
  rw [ec, eS, eL]
  cases e : frameC m.c (keyI i) with
  | none => rfl
  | some g =>
    obtain ⟨g', rfl, _, hu⟩ := hi.key_use e
    simp only [Int.toNat_natCast]
    rw [h.byt hd hi hy (.inr hu)]
theorem Stp.put (h : PutIs m n y pg x F' p' t' m1) (hd : SetDone m y pg x F' p' t') (hi : Inv A m) (hy : m.x n = some y) (hpg : pg < 4096) (hg : Good A m n pg x)
    (hn : ∀ f : Nat, x = ⟨1, (f : Int), false⟩ → m.p.u.getD f 0 = 3 → ∀ n' q, ¬ (n' = n ∧ q = pg) → entM m n' q ≠ ⟨1, (f : Int), false⟩) : Stp n pg m m1 := by
  have hent := h.ent hd hy (hi.tok n y hy).el hpg
  have hiv := hi.put hy hpg hd hg h
  refine ⟨h.xs' hy, fun n' q c => by rw [hent, if_neg c], fun n' q f c e => ?_, h.fil hd hi hy⟩
  have hu : f < 1024 ∧ (m.p.u.getD f 0 = 3 ∨ m.p.u.getD f 0 = 4) := by
    rcases hi.good n' q with d | ⟨g', d, d1, r, _, d2⟩
    · rw [d] at e; exact absurd e.symm (en_ne _)
    · rw [d] at e
      have := en_inj e
      obtain rfl : g' = f := by omega
      refine ⟨d1, ?_⟩
      rcases d2 with d2 | d2
      · exact .inl d2.1
      · exact .inr d2.1
  refine ⟨h.byt hd hi hy hu.2, ?_, fun u z hz => ?_⟩
  · rcases (h.use hd hi hy hu.1 hu.2).2 with d | ⟨_, _, d, _⟩
    · exact d
    · refine absurd ((hiv.back (f : Int) ⟨n', q⟩).2 ⟨n', q, rfl, ?_⟩) (d _)
      rw [hent, if_neg c]; exact e
  · rcases (h.mem _ _).1 hz with ⟨d1, d2, d3⟩ | d
    · rcases hg with rfl | ⟨g, rfl, _⟩
      · exact absurd d2 (by decide)
      · have : g = f := by have : (g : Int) = f := d3; omega
        subst this
        exact absurd e (hn g rfl u n' q c)
    · exact d.2
theorem Cost.put (h : PutIs m n y pg x F' p' t' m1) (hd : SetDone m y pg x F' p' t') (hi : Inv A m) (hy : m.x n = some y) : Cost 3 0 3 m m1 ∧ ((entM m n pg ≠ en0 ∨ x = en0) → Cost 0 0 0 m m1) := by
  obtain ⟨c1, c2, c3, c4⟩ := h.cnt hd hi hy
  have tt : ∀ t, t'.t.length ≤ y.t.t.length + t → ∀ n2 y2, m1.x n2 = some y2 → ∃ y0, m.x n2 = some y0 ∧ y2.t.t.length ≤ y0.t.t.length + t := by
    intro t ht n2 y2 e
    rw [h.xs] at e
    by_cases c : n2 = n
    · subst c
      rw [upd_same] at e
      injection e with e
      subst e
      exact ⟨y, hy, ht⟩
    · rw [upd_other _ _ _ c] at e
      exact ⟨y2, e, by omega⟩
  refine ⟨⟨by omega, by omega, tt 3 c3⟩, fun hne => ?_⟩
  have := c4 hne
  exact ⟨by omega, by omega, tt 0 (by omega)⟩
end
theorem find_app {es : CS} {p : Ce → Bool} {e : Ce} : (es ++ [e]).find? p = (es.find? p).or (if p e then some e else none) := by
  rw [List.find?_append]
  by_cases c : p e = true <;> simp [List.find?_cons, c]
theorem frameC_put {es : CS} {k k' : Pl} {f : Int} (hk : frameC es k = none) (hf : ∀ e ∈ es, e.f ≠ f) : frameC (putC es k f) k' = if k' = k then some f else frameC es k' := by
  have hfree : freeC es k f = true := by
    unfold freeC
    rw [Bool.and_eq_true, Bool.not_eq_true', Bool.not_eq_true']
    constructor
    · unfold frameC at hk
      rw [Option.map_eq_none_iff] at hk
      unfold hasC
      rw [List.any_eq_false]
      intro e he
      simpa using List.find?_eq_none.1 hk e he
    · unfold busyC
      rw [List.any_eq_false]
      intro e he
      simpa using hf e he
  unfold putC
  rw [if_pos hfree]
  unfold frameC at *
  rw [find_app]
  by_cases c : k' = k
  · subst c
    rw [if_pos rfl]
    rw [Option.map_eq_none_iff] at hk
    rw [hk]
    simp
  · rw [if_neg c]
    have : decide (k = k') = false := by simpa using fun e : k = k' => c e.symm
    simp only [this]
    simp
theorem Inv.cache {A : Nat → Nat → Option Ar} {m : SpM} (h : Inv A m) {k : Pl} {f : Nat} (hk : frameC m.c k = none) (hr : 0 ≤ k.c ∧ k.c < 4 ∧ 0 ≤ k.g ∧ k.g < 16) (hf : f < 1024) (hu : m.p.u.getD f 0 = 4) (hno : ∀ e ∈ m.c, e.f ≠ (f : Int)) : Inv A (m.setC (putC m.c k f)) := by
  refine ⟨⟨h.tabs.bad, h.tabs.live, h.tabs.use, h.tabs.two⟩, h.zone, h.tok, h.x8, h.ars, fun n pg => ?_, h.back, h.srt, h.slot, csOk_put h.cok, fun e he => ?_, h.tr⟩
  · rcases h.good n pg with c | ⟨g, c, hg, r, hr, c2⟩
    · exact .inl c
    · refine .inr ⟨g, c, hg, r, hr, ?_⟩
      rcases c2 with c2 | ⟨c2, c3, c4⟩
      · exact .inl c2
      · refine .inr ⟨c2, c3, ?_⟩
        show frameC (putC m.c k f) _ = _
        rw [frameC_put hk hno, if_neg]
        · exact c4
        · intro e
          rw [e, hk] at c4
          cases c4
  · have he' : e ∈ putC m.c k (f : Int) := he
    unfold putC at he'
    split at he'
    · rcases List.mem_append.1 he' with c | c
      · exact h.ckey e c
      · rw [List.mem_singleton] at c
        subst c
        exact ⟨hr, f, rfl, hf, hu⟩
    · exact h.ckey e he'
theorem keyI_ix {k : Pl} (hr : 0 ≤ k.c ∧ k.c < 4 ∧ 0 ≤ k.g ∧ k.g < 16) : keyI (16 * k.c.toNat + k.g.toNat) = k := by
  obtain ⟨c, g⟩ := k
  obtain ⟨h1, h2, h3, h4⟩ := hr
  simp only at h1 h2 h3 h4
  unfold keyI
  rw [Pl.mk.injEq]
  simp only
  constructor <;> omega
theorem keyI_inj {i : Nat} {k : Pl} (h : keyI i = k) : i = 16 * k.c.toNat + k.g.toNat := by
  subst h
  unfold keyI
  simp only [Int.toNat_natCast]
  omega
theorem Stp.cache {A : Nat → Nat → Option Ar} (n pg : Nat) {m : SpM} (h : Inv A m) {k : Pl} {f : Nat} (hk : frameC m.c k = none) (hr : 0 ≤ k.c ∧ k.c < 4 ∧ 0 ≤ k.g ∧ k.g < 16) (hno : ∀ e ∈ m.c, e.f ≠ (f : Int))
    (hB : m.F f = last m.S m.L (96 + (16 * k.c.toNat + k.g.toNat))) : Stp n pg m (m.setC (putC m.c k f)) := by
  refine ⟨fun _ => rfl, fun _ _ _ => rfl, fun n' q g c e => ⟨rfl, rfl, fun _ z hz => hz⟩, fun i j => ?_⟩
  unfold fileM
  show (match frameC (putC m.c k f) (keyI i) with | some g => _ | none => _) = _
  rw [frameC_put hk hno]
  by_cases c : keyI i = k
  · rw [if_pos c, c, hk]
    simp only [Int.toNat_natCast]
    show (m.F f).getD j 0 = (last m.S m.L (96 + i)).getD j 0
    rw [hB, keyI_inj c]
  · rw [if_neg c]
    rfl
theorem putM_setC (m : SpM) (c : CS) (n : Nat) (y : SpX) (pg : Nat) (x : En) (F' : Nat → List Nat) (p' : PS) (t' : TS) : (putM m n y pg x 0 F' p' t').setC c = putM (m.setC c) n y pg x 0 F' p' t' := by
  have ht : ∀ (M : SpM) pl x, (takeM M pl x).setC c = takeM (M.setC c) pl x := by
    intro M pl x
    unfold takeM
    split
    · rfl
    · split <;> rfl
  have hf : ∀ (M : SpM) z pl, (freeM M z pl).setC c = freeM (M.setC c) z pl := by
    intro M z pl
    unfold freeM
    show _ = if useP M.p z = 3 ∧ (M.b z).erase pl = [] then _ else _
    split <;> rfl
  have hl : ∀ (M : SpM) pl x, (leaveM M pl x).setC c = leaveM (M.setC c) pl x := by
    intro M pl x
    unfold leaveM
    split
    · exact hf _ _ _
    · split <;> rfl
  unfold putM
  split
  · split
    · rw [ht]; rfl
    · rw [hl, ht]; rfl
  · rfl
end Go.Proofs.YtgjkdnpidobabaaGreat

namespace Go.Proofs.YtgjkdnpidobabaaGreat
open Go.RowKit
set_option linter.unusedVariables false
section
variable (gS : Nat) (a : SpA) (k : SpK) (K : Nat → Prop) (m : SpM) (w : World)
set_option maxRecDepth 100000 in
set_option maxHeartbeats 8000000 in
theorem page_go (n : Nat) (y : SpX) (pg : Nat) (wr : Bool) (fr ap : Int) (aw : Bool) (kd fl ofs : Int) (P Q : Nat → SpM → Prop) (h : SpMem w gS a k K m) (hy : m.x n = some y) (hpg : pg < 4096) (hT : Tabs m) (hla : listA y.a) (har : findA y.a (pg : Int) = some ⟨fr, ap, aw, kd, fl, ofs⟩) (hw : wr = true → aw = true)
    (hcome : ∀ V, SpMem V gS a k K m → Calls Tryz.prog 134 #[.pointer (some ⟨gS, 0, none⟩), .agg #[.int .i64 (n : Int), .int .i64 (pg : Int)], .agg #[.int .i64 fr, .int .i64 ap, .bool aw, .int .i64 kd, .int .i64 fl, .int .i64 ofs], .agg #[.int .i64 (y.t.e.getD pg en0).k, .int .i64 (y.t.e.getD pg en0).n, .bool (y.t.e.getD pg en0).w]] V fun e w' => ∃ (f : Nat) (m' : SpM), P f m' ∧ SpEnd V gS a k K (.tuple #[.int .i64 (f : Int), .int .i64 0]) m' e w')
    (halone : wr = true → kd ≠ 2 → ∀ f m' V K', P f m' → SpMem V gS a k K' m' → Calls Tryz.prog 135 #[.pointer (some ⟨gS, 0, none⟩), .agg #[.int .i64 (n : Int), .int .i64 (pg : Int)], .int .i64 (f : Int)] V fun e w' => ∃ (f' : Nat) (m'' : SpM), Q f' m'' ∧ SpEnd V gS a k K' (.tuple #[.int .i64 (f' : Int), .int .i64 0]) m'' e w')
    (hPQ : (wr = false ∨ kd = 2) → ∀ f m', P f m' → Q f m') :
    Calls Tryz.prog 83 #[.pointer (some ⟨gS, 0, none⟩), .agg #[.int .i64 (n : Int), .int .i64 (pg : Int)], .bool wr] w fun e w' => ∃ (f : Nat) (m' : SpM), Q f m' ∧ SpEnd w gS a k K (.tuple #[.int .i64 (f : Int), .int .i64 0]) m' e w' := by
  obtain ⟨W, hW⟩ : ∃ W, w.alloc (.cells #[.int .i64 (n : Int), .int .i64 (pg : Int)] 56) = W := ⟨_, rfl⟩
  have hb : Below w.heap.size w W := by rw [← hW]; exact belAl (Below.refl _ w) _
  have hP : Blk W w.heap.size 56 #[.int .i64 (n : Int), .int .i64 (pg : Int)] := by rw [← hW]; exact Blk.new w _ _
  have h1 := h.fresh hb
  have LQ : ∀ q, (Instr.lookup 82 (.map k.M) (.int .i64 (n : Int)) false).run Tryz.prog (W.drewN q) = .ok (.pointer (some ⟨k.X n, 0, none⟩)) (W.drewN q) := fun q => (SpMem.look_ gS a k K m (W.drewN q) (h1.far (w' := W.drewN q) (Nat.le_refl _) fun _ _ => rfl) hy).look
  have c6 : W.cell? ⟨gS, 6, none⟩ = some (.map k.M) := h1.cells.cell 6
  have p0 : W.cell? ⟨w.heap.size, 0, none⟩ = some (.int .i64 (n : Int)) := hP.cell 0
  have p1 : W.cell? ⟨w.heap.size, 1, none⟩ = some (.int .i64 (pg : Int)) := hP.cell 1
  have H1 := Lib.hid h1
  have HP := Lib.hid hP
  have HBL := Lib.hid hb
  have HY := Lib.hid hy
  have HK := Lib.hid h.lt
  have HLA := Lib.hid hla
  have HAR := Lib.hid har
  have HT := Lib.hid hT
  have HCO := Lib.hid hcome
  have HAL := Lib.hid halone
  have HPQ := Lib.hid hPQ
  clear h hy hla hb hP h1 har hT hcome halone hPQ
  go_enter Tryz.func83, Tryz.ntmps83
  go_wp2_with fail
  go_quiet (fail)
  go_wp2_with fail
  obtain ⟨W1, hW1⟩ : ∃ W1, W1 = W.drewN nq := ⟨_, rfl⟩
  have hb0 : Below W.heap.size W W1 := by rw [hW1]; exact below_drewN (Below.refl _ _) _
  rw [← hW1]
  have h1 := H1.out.fresh hb0
  have hpr := h1.proc HY.out
  have hP1 := HP.out.below hb0 HP.out.lt
  obtain ⟨A_, l_, c_, hv, -⟩ := id hpr.2.2.1
  have C0_ : W1.cell? ⟨k.X n, 1, none⟩ = some (.slice A_ l_ c_) := by rw [← hv]; exact hpr.1.cell 1
  have C1_ : W1.cell? ⟨w.heap.size, 1, none⟩ = some (.int .i64 (pg : Int)) := hP1.cell 1
  have L0_ := hpr.1.lt
  have L1_ := hP1.lt
  have GQ := Lib.hid (fun (V : World) (hV : Below W1.heap.size W1 V) => ((area_find V (.slice A_ l_ c_) y.a (pg : Int) (hv ▸ hpr.2.2.1.fresh hV) HLA.out (by omega)).mono (fun e w' h => ⟨h.1.trans (by rw [HAR.out]; rfl), h.2, hV.trans (h.2.mono hV.size)⟩) : Calls Tryz.prog 133 #[.slice A_ l_ c_, .int .i64 (pg : Int)] V fun e w' => e = .returned (.tuple #[.agg #[.int .i64 fr, .int .i64 ap, .bool aw, .int .i64 kd, .int .i64 fl, .int .i64 ofs], .bool true]) ∧ Below V.heap.size V w' ∧ Below W1.heap.size W1 w'))
  have KEEP := Lib.hid (fun (V : World) (hV : Below W1.heap.size W1 V) => (⟨(hV.cell (p := ⟨k.X n, 1, none⟩) L0_).trans C0_, (hV.cell (p := ⟨w.heap.size, 1, none⟩) L1_).trans C1_, hV⟩ : V.cell? ⟨k.X n, 1, none⟩ = some (.slice A_ l_ c_) ∧ V.cell? ⟨w.heap.size, 1, none⟩ = some (.int .i64 (pg : Int)) ∧ Below W1.heap.size W1 V))
  have PB := Lib.hid (fun (V : World) (hV : V.cell? ⟨k.X n, 1, none⟩ = some (.slice A_ l_ c_) ∧ V.cell? ⟨w.heap.size, 1, none⟩ = some (.int .i64 (pg : Int)) ∧ Below W1.heap.size W1 V) => hV.2.2)
  have BR := Lib.hid (Below.refl W1.heap.size W1)
  have GA := Lib.hid (show Calls Tryz.prog 133 #[.slice A_ l_ c_, .int .i64 (pg : Int)] (W1.alloc (.cells #[.int .i64 0, .int .i64 0, .bool false, .int .i64 0, .int .i64 0, .int .i64 0] 29)).drew fun e w' => e = .returned (.tuple #[.agg #[.int .i64 fr, .int .i64 ap, .bool aw, .int .i64 kd, .int .i64 fl, .int .i64 ofs], .bool true]) ∧ w'.cell? ⟨W1.heap.size, 0, none⟩ = some (.int .i64 0) ∧ w'.cell? ⟨W1.heap.size, 1, none⟩ = some (.int .i64 0) ∧ w'.cell? ⟨W1.heap.size, 2, none⟩ = some (.bool false) ∧ w'.cell? ⟨W1.heap.size, 3, none⟩ = some (.int .i64 0) ∧ w'.cell? ⟨W1.heap.size, 4, none⟩ = some (.int .i64 0) ∧ w'.cell? ⟨W1.heap.size, 5, none⟩ = some (.int .i64 0) ∧ w'.frozen? ⟨W1.heap.size, 0, none⟩ = false ∧ w'.frozen? ⟨W1.heap.size, 1, none⟩ = false ∧ w'.frozen? ⟨W1.heap.size, 2, none⟩ = false ∧ w'.frozen? ⟨W1.heap.size, 3, none⟩ = false ∧ w'.frozen? ⟨W1.heap.size, 4, none⟩ = false ∧ w'.frozen? ⟨W1.heap.size, 5, none⟩ = false ∧ (∀ u0 u1 u2 u3 u4 u5, Below W1.heap.size W1 ((((((w'.setCell ⟨W1.heap.size, 0, none⟩ u0).setCell ⟨W1.heap.size, 1, none⟩ u1).setCell ⟨W1.heap.size, 2, none⟩ u2).setCell ⟨W1.heap.size, 3, none⟩ u3).setCell ⟨W1.heap.size, 4, none⟩ u4).setCell ⟨W1.heap.size, 5, none⟩ u5)) ∧ Blk w' W1.heap.size 29 #[.int .i64 0, .int .i64 0, .bool false, .int .i64 0, .int .i64 0, .int .i64 0] ∧ Below W1.heap.size W1 w' from (GQ.out _ (belAl (Below.refl _ W1) _).drew).mono (fun e w' h => by
    have hz : Blk w' W1.heap.size 29 #[.int .i64 0, .int .i64 0, .bool false, .int .i64 0, .int .i64 0, .int .i64 0] := (show Blk (W1.alloc (.cells #[.int .i64 0, .int .i64 0, .bool false, .int .i64 0, .int .i64 0, .int .i64 0] 29)).drew W1.heap.size 29 #[.int .i64 0, .int .i64 0, .bool false, .int .i64 0, .int .i64 0, .int .i64 0] from Blk.new W1 _ _).below h.2.1 (Blk.lt (w := (W1.alloc (.cells #[.int .i64 0, .int .i64 0, .bool false, .int .i64 0, .int .i64 0, .int .i64 0] 29)).drew) (Blk.new W1 _ _))
    exact ⟨h.1, hz.cell 0, hz.cell 1, hz.cell 2, hz.cell 3, hz.cell 4, hz.cell 5, hz.frozen 0, hz.frozen 1, hz.frozen 2, hz.frozen 3, hz.frozen 4, hz.frozen 5, fun u0 u1 u2 u3 u4 u5 => ((((((h.2.2.setCell (Nat.le_refl _) u0).setCell (Nat.le_refl _) u1).setCell (Nat.le_refl _) u2).setCell (Nat.le_refl _) u3).setCell (Nat.le_refl _) u4).setCell (Nat.le_refl _) u5), hz, h.2.2⟩))
  have HB0 := Lib.hid hb0
  have HPR := Lib.hid hpr
  clear h1 hpr hP1 hv C0_ C1_ L0_ L1_ hb0 LQ c6 p0 p1 hW hW1
  go_cut [9, 10] from 14 to 81 (fun sA sB wx => ∃ g, sA = .pointer (some ⟨g, 0, none⟩) ∧ sB = .bool true ∧ Blk wx g 29 #[.int .i64 fr, .int .i64 ap, .bool aw, .int .i64 kd, .int .i64 fl, .int .i64 ofs] ∧ W1.heap.size ≤ g ∧ Below W1.heap.size W1 wx)
  case first =>
    go_region_held3 (fun w' => w'.cell? ⟨k.X n, 1, none⟩ = some (.slice A_ l_ c_) ∧ w'.cell? ⟨w.heap.size, 1, none⟩ = some (.int .i64 (pg : Int)) ∧ Below W1.heap.size W1 w')
      (first | with_reducible assumption | with_reducible exact KEEP.out _ BR.out.drew | with_reducible exact KEEP.out _ (hsb _ _ _ _ _ _) | with_reducible exact KEEP.out _ (belAl (PB.out _ (by with_reducible assumption)) _) | with_reducible exact KEEP.out _ (belAl (by with_reducible assumption) _) | with_reducible exact KEEP.out _ (belAl BR.out _).drew | with_reducible exact KEEP.out _ (PB.out _ (by with_reducible assumption)) | with_reducible exact KEEP.out _ (by with_reducible assumption))
      (first | (go_at_call 133; refine GA.out.mono ?_; rintro e w' ⟨rfl, z0, z1, z2, z3, z4, z5, f0, f1, f2, f3, f4, f5, hsb, hz, hbB⟩) | (go_at_call 133; refine (GQ.out _ ?_).mono ?_; (first | assumption | exact PB.out _ (by assumption)); rintro e w' ⟨rfl, hbA, hbB⟩))
    all_goals (go_wp2_with fail; go_meet)
    all_goals (first | exact ⟨_, rfl, rfl, ((((((hz.set_ 0 _).set_ 1 _).set_ 2 _).set_ 3 _).set_ 4 _).set_ 5 _), Nat.le_refl _, hsb _ _ _ _ _ _⟩ | exact ⟨_, rfl, rfl, Blk.new w' _ _, hbB.size, belAl hbB _⟩)
  case rest =>
    obtain ⟨g1, rfl, rfl, hg1, hgs1, hbg1⟩ := hcut
    have hb2 := HB0.out.trans (hbg1.mono HB0.out.size)
    have h2 := H1.out.fresh hb2
    have hpr := h2.proc HY.out
    have hP2 := HP.out.below hb2 HP.out.lt
    obtain ⟨W2, hW2⟩ : ∃ W2, W2 = wc := ⟨_, rfl⟩
    rw [← hW2] at hg1 hbg1 hb2 h2 hpr hP2 ⊢
    have Cb0_ : W2.cell? ⟨k.X n, 0, none⟩ = some (.pointer (some ⟨k.T n, 0, none⟩)) := hpr.1.cell 0
    have Cb1_ : W2.cell? ⟨w.heap.size, 1, none⟩ = some (.int .i64 (pg : Int)) := hP2.cell 1
    have Lb0_ := hpr.1.lt
    have Lb1_ := hP2.lt
    obtain ⟨KP, KT, hM, hPo, hTr, hA, -⟩ := h2.treeP HY.out
    obtain ⟨⟨ek, en, ew⟩, hhad⟩ : ∃ x : En, x = y.t.e.getD pg en0 := ⟨_, rfl⟩
    have GQ2 := Lib.hid (fun (V : World) (hV : Below W2.heap.size W2 V) => ((tree_get (k.T n) a.R a.F a.P KT m.F m.bad y.t V pg hpg (hM.below hV hM.lt.1 hM.lt.2) (hTr.fresh hV) HT.out.bad (HT.out.live n y HY.out)).mono (fun e w' h => ⟨h.1.trans (by rw [← hhad]; rfl), h.2, hV.trans (h.2.mono hV.size)⟩) : Calls Tryz.prog 61 #[.pointer (some ⟨k.T n, 0, none⟩), .int .i64 (pg : Int)] V fun e w' => e = .returned (.tuple #[.agg #[.int .i64 ek, .int .i64 en, .bool ew], .int .i64 0]) ∧ Below V.heap.size V w' ∧ Below W2.heap.size W2 w'))
    rw [← hhad] at HCO
    have KEEPb := Lib.hid (fun (V : World) (hV : Below W2.heap.size W2 V) => (⟨(hV.cell (p := ⟨k.X n, 0, none⟩) Lb0_).trans Cb0_, (hV.cell (p := ⟨w.heap.size, 1, none⟩) Lb1_).trans Cb1_, hV⟩ : V.cell? ⟨k.X n, 0, none⟩ = some (.pointer (some ⟨k.T n, 0, none⟩)) ∧ V.cell? ⟨w.heap.size, 1, none⟩ = some (.int .i64 (pg : Int)) ∧ Below W2.heap.size W2 V))
    have PBb := Lib.hid (fun (V : World) (hV : V.cell? ⟨k.X n, 0, none⟩ = some (.pointer (some ⟨k.T n, 0, none⟩)) ∧ V.cell? ⟨w.heap.size, 1, none⟩ = some (.int .i64 (pg : Int)) ∧ Below W2.heap.size W2 V) => hV.2.2)
    have BRb := Lib.hid (Below.refl W2.heap.size W2)
    have GAb := Lib.hid (show Calls Tryz.prog 61 #[.pointer (some ⟨k.T n, 0, none⟩), .int .i64 (pg : Int)] (W2.alloc (.cells #[.int .i64 0, .int .i64 0, .bool false] 58)).drew fun e w' => e = .returned (.tuple #[.agg #[.int .i64 ek, .int .i64 en, .bool ew], .int .i64 0]) ∧ w'.cell? ⟨W2.heap.size, 0, none⟩ = some (.int .i64 0) ∧ w'.cell? ⟨W2.heap.size, 1, none⟩ = some (.int .i64 0) ∧ w'.cell? ⟨W2.heap.size, 2, none⟩ = some (.bool false) ∧ w'.frozen? ⟨W2.heap.size, 0, none⟩ = false ∧ w'.frozen? ⟨W2.heap.size, 1, none⟩ = false ∧ w'.frozen? ⟨W2.heap.size, 2, none⟩ = false ∧ (∀ u0 u1 u2, Below W2.heap.size W2 (((w'.setCell ⟨W2.heap.size, 0, none⟩ u0).setCell ⟨W2.heap.size, 1, none⟩ u1).setCell ⟨W2.heap.size, 2, none⟩ u2)) ∧ Blk w' W2.heap.size 58 #[.int .i64 0, .int .i64 0, .bool false] ∧ Below W2.heap.size W2 w' from (GQ2.out _ (belAl (Below.refl _ W2) _).drew).mono (fun e w' h => by
      have hz : Blk w' W2.heap.size 58 #[.int .i64 0, .int .i64 0, .bool false] := (show Blk (W2.alloc (.cells #[.int .i64 0, .int .i64 0, .bool false] 58)).drew W2.heap.size 58 #[.int .i64 0, .int .i64 0, .bool false] from Blk.new W2 _ _).below h.2.1 (Blk.lt (w := (W2.alloc (.cells #[.int .i64 0, .int .i64 0, .bool false] 58)).drew) (Blk.new W2 _ _))
      exact ⟨h.1, hz.cell 0, hz.cell 1, hz.cell 2, hz.frozen 0, hz.frozen 1, hz.frozen 2, fun u0 u1 u2 => (((h.2.2.setCell (Nat.le_refl _) u0).setCell (Nat.le_refl _) u1).setCell (Nat.le_refl _) u2), hz, h.2.2⟩))
    have HG1 := Lib.hid hg1
    have HGS1 := Lib.hid (show w.heap.size < g1 from by have := HP.out.lt; have := HB0.out.size; omega)
    have HB2 := Lib.hid hb2
    have g1c : W2.cell? ⟨g1, 2, none⟩ = some (.bool aw) := hg1.cell 2
    clear hg1 hgs1 hbg1 hb2 h2 hpr hP2 Cb0_ Cb1_ Lb0_ Lb1_ hM hPo hTr hA hhad hW2
    have HCUT : True := trivial
    cases wr with
    | false =>
      have HPQ2 := Lib.hid (HPQ.out (.inl rfl))
      clear hw HPQ HAL
      go_wp2_with fail
      go_cut [11, 12] from 41 to 81 (fun sA sB wx => ∃ g, sA = .pointer (some ⟨g, 0, none⟩) ∧ sB = .int .i64 0 ∧ Blk wx g 58 #[.int .i64 ek, .int .i64 en, .bool ew] ∧ W2.heap.size ≤ g ∧ Below W2.heap.size W2 wx)
      case first =>
        go_region_held3 (fun w' => w'.cell? ⟨k.X n, 0, none⟩ = some (.pointer (some ⟨k.T n, 0, none⟩)) ∧ w'.cell? ⟨w.heap.size, 1, none⟩ = some (.int .i64 (pg : Int)) ∧ Below W2.heap.size W2 w')
          (first | with_reducible assumption | with_reducible exact KEEPb.out _ BRb.out.drew | with_reducible exact KEEPb.out _ (hsb _ _ _) | with_reducible exact KEEPb.out _ (belAl (PBb.out _ (by with_reducible assumption)) _) | with_reducible exact KEEPb.out _ (belAl (by with_reducible assumption) _) | with_reducible exact KEEPb.out _ (belAl BRb.out _).drew | with_reducible exact KEEPb.out _ (PBb.out _ (by with_reducible assumption)) | with_reducible exact KEEPb.out _ (by with_reducible assumption))
          (first | (go_at_call 61; refine GAb.out.mono ?_; rintro e w' ⟨rfl, z0, z1, z2, f0, f1, f2, hsb, hz, hbB⟩) | (go_at_call 61; refine (GQ2.out _ ?_).mono ?_; (first | assumption | exact PBb.out _ (by assumption)); rintro e w' ⟨rfl, hbA, hbB⟩))
        all_goals (go_wp2_with fail; go_meet)
        all_goals (first | exact ⟨_, rfl, rfl, (((hz.set_ 0 _).set_ 1 _).set_ 2 _), Nat.le_refl _, hsb _ _ _⟩ | exact ⟨_, rfl, rfl, Blk.new w' _ _, hbB.size, belAl hbB _⟩)
      case rest =>
        obtain ⟨g2, rfl, rfl, hg2, hgs2, hbg2⟩ := hcut
        have hb3 := HB2.out.trans (hbg2.mono HB2.out.size)
        have h3 := H1.out.fresh hb3
        have hP3 := HP.out.below hb3 HP.out.lt
        have hg13 := HG1.out.below hbg2 HG1.out.lt
        have CC := Lib.hid (HCO.out wc h3)
        have G3 := Lib.hid ((Went.of_below (K := K) HBL.out).below hb3)
        have HX3 := Lib.hid (And.intro hP3 hg13)
        have q0 : wc.cell? ⟨w.heap.size, 0, none⟩ = some (.int .i64 (n : Int)) := hP3.cell 0
        have q1 : wc.cell? ⟨w.heap.size, 1, none⟩ = some (.int .i64 (pg : Int)) := hP3.cell 1
        have a0 : wc.cell? ⟨g1, 0, none⟩ = some (.int .i64 fr) := hg13.cell 0
        have a1 : wc.cell? ⟨g1, 1, none⟩ = some (.int .i64 ap) := hg13.cell 1
        have a2 : wc.cell? ⟨g1, 2, none⟩ = some (.bool aw) := hg13.cell 2
        have a3 : wc.cell? ⟨g1, 3, none⟩ = some (.int .i64 kd) := hg13.cell 3
        have a4 : wc.cell? ⟨g1, 4, none⟩ = some (.int .i64 fl) := hg13.cell 4
        have a5 : wc.cell? ⟨g1, 5, none⟩ = some (.int .i64 ofs) := hg13.cell 5
        have e0 : wc.cell? ⟨g2, 0, none⟩ = some (.int .i64 ek) := hg2.cell 0
        have e1 : wc.cell? ⟨g2, 1, none⟩ = some (.int .i64 en) := hg2.cell 1
        have e2 : wc.cell? ⟨g2, 2, none⟩ = some (.bool ew) := hg2.cell 2
        clear hb3 h3 hP3 hg13 hg2 hgs2 hbg2
        go_wp2_with fail
        refine CC.out.mono ?_
        rintro e w4 ⟨f, m', hp, rfl, K4, h4, g4⟩
        have R := Lib.hid (show SpGo w gS a k K m' w4 from ⟨K4, h4, G3.out.trans g4⟩)
        have HPP := Lib.hid (HPQ2.out f m' hp)
        clear h4 g4 hp
        go_wp2_with fail
        go_ret2
        exact ⟨f, m', HPP.out, rfl, R.out⟩
    | true =>
      obtain rfl : aw = true := hw rfl
      have HAL2 := Lib.hid (HAL.out rfl)
      have HPQ2 := Lib.hid (fun h => HPQ.out (.inr h))
      clear hw HPQ HAL
      go_wp2_with fail
      go_cut [11, 12] from 41 to 81 (fun sA sB wx => ∃ g, sA = .pointer (some ⟨g, 0, none⟩) ∧ sB = .int .i64 0 ∧ Blk wx g 58 #[.int .i64 ek, .int .i64 en, .bool ew] ∧ W2.heap.size ≤ g ∧ Below W2.heap.size W2 wx)
      case first =>
        go_region_held3 (fun w' => w'.cell? ⟨k.X n, 0, none⟩ = some (.pointer (some ⟨k.T n, 0, none⟩)) ∧ w'.cell? ⟨w.heap.size, 1, none⟩ = some (.int .i64 (pg : Int)) ∧ Below W2.heap.size W2 w')
          (first | with_reducible assumption | with_reducible exact KEEPb.out _ BRb.out.drew | with_reducible exact KEEPb.out _ (hsb _ _ _) | with_reducible exact KEEPb.out _ (belAl (PBb.out _ (by with_reducible assumption)) _) | with_reducible exact KEEPb.out _ (belAl (by with_reducible assumption) _) | with_reducible exact KEEPb.out _ (belAl BRb.out _).drew | with_reducible exact KEEPb.out _ (PBb.out _ (by with_reducible assumption)) | with_reducible exact KEEPb.out _ (by with_reducible assumption))
          (first | (go_at_call 61; refine GAb.out.mono ?_; rintro e w' ⟨rfl, z0, z1, z2, f0, f1, f2, hsb, hz, hbB⟩) | (go_at_call 61; refine (GQ2.out _ ?_).mono ?_; (first | assumption | exact PBb.out _ (by assumption)); rintro e w' ⟨rfl, hbA, hbB⟩))
        all_goals (go_wp2_with fail; go_meet)
        all_goals (first | exact ⟨_, rfl, rfl, (((hz.set_ 0 _).set_ 1 _).set_ 2 _), Nat.le_refl _, hsb _ _ _⟩ | exact ⟨_, rfl, rfl, Blk.new w' _ _, hbB.size, belAl hbB _⟩)
      case rest =>
        obtain ⟨g2, rfl, rfl, hg2, hgs2, hbg2⟩ := hcut
        have hb3 := HB2.out.trans (hbg2.mono HB2.out.size)
        have h3 := H1.out.fresh hb3
        have hP3 := HP.out.below hb3 HP.out.lt
        have hg13 := HG1.out.below hbg2 HG1.out.lt
        have CC := Lib.hid (HCO.out wc h3)
        have G3 := Lib.hid ((Went.of_below (K := K) HBL.out).below hb3)
        have HX3 := Lib.hid (And.intro hP3 hg13)
        have q0 : wc.cell? ⟨w.heap.size, 0, none⟩ = some (.int .i64 (n : Int)) := hP3.cell 0
        have q1 : wc.cell? ⟨w.heap.size, 1, none⟩ = some (.int .i64 (pg : Int)) := hP3.cell 1
        have a0 : wc.cell? ⟨g1, 0, none⟩ = some (.int .i64 fr) := hg13.cell 0
        have a1 : wc.cell? ⟨g1, 1, none⟩ = some (.int .i64 ap) := hg13.cell 1
        have a2 : wc.cell? ⟨g1, 2, none⟩ = some (.bool true) := hg13.cell 2
        have a3 : wc.cell? ⟨g1, 3, none⟩ = some (.int .i64 kd) := hg13.cell 3
        have a4 : wc.cell? ⟨g1, 4, none⟩ = some (.int .i64 fl) := hg13.cell 4
        have a5 : wc.cell? ⟨g1, 5, none⟩ = some (.int .i64 ofs) := hg13.cell 5
        have e0 : wc.cell? ⟨g2, 0, none⟩ = some (.int .i64 ek) := hg2.cell 0
        have e1 : wc.cell? ⟨g2, 1, none⟩ = some (.int .i64 en) := hg2.cell 1
        have e2 : wc.cell? ⟨g2, 2, none⟩ = some (.bool ew) := hg2.cell 2
        clear hb3 h3 hP3 hg13 hg2 hgs2 hbg2
        go_wp2_with fail
        refine CC.out.mono ?_
        rintro e w4 ⟨f, m', hp, rfl, K4, h4, g4⟩
        have hKn : ∀ j, w.heap.size ≤ j → ¬ K j := fun j hj hk => by have := HK.out j hk; omega
        have hP4 := g4.tr.blk HX3.out.1 (hKn _ (Nat.le_refl _))
        have hg4 := g4.tr.blk HX3.out.2 (hKn _ (Nat.le_of_lt HGS1.out))
        have a3 : w4.cell? ⟨g1, 3, none⟩ = some (.int .i64 kd) := hg4.cell 3
        have q0 : w4.cell? ⟨w.heap.size, 0, none⟩ = some (.int .i64 (n : Int)) := hP4.cell 0
        have q1 : w4.cell? ⟨w.heap.size, 1, none⟩ = some (.int .i64 (pg : Int)) := hP4.cell 1
        by_cases hkd : kd = 2
        · have R := Lib.hid (show SpGo w gS a k K m' w4 from ⟨K4, h4, G3.out.trans g4⟩)
          have HPP := Lib.hid (HPQ2.out hkd f m' hp)
          subst hkd
          clear h4 g4 hp hKn hP4 hg4
          go_wp2_with fail
          go_ret2
          exact ⟨f, m', HPP.out, rfl, R.out⟩
        · have AA := Lib.hid (HAL2.out hkd f m' w4 K4 hp h4)
          have G4 := Lib.hid (G3.out.trans g4)
          have t1 : (kd == 2) = false := beq_eq_false_iff_ne.2 hkd
          clear h4 g4 hp hKn hP4 hg4 hkd
          go_wp2_with fail
          refine AA.out.mono ?_
          rintro e w5 ⟨f', m'', hq, rfl, h5⟩
          have R := Lib.hid (h5.from_ G4.out)
          have HQ := Lib.hid hq
          clear h5 hq
          go_wp2_with fail
          go_ret2
          exact ⟨f', m'', HQ.out, rfl, R.out⟩
end
end Go.Proofs.YtgjkdnpidobabaaGreat

namespace Go.Proofs.YtgjkdnpidobabaaGreat
open Go.RowKit
set_option linter.unusedVariables false

def places : List Pl := (List.range 8).flatMap fun (n : Nat) => (List.range 4096).map fun (q : Nat) => (⟨(n : Int), (q : Int)⟩ : Pl)
theorem places_length : places.length = 32768 := by
  unfold places
  rw [List.length_flatMap]
  simp
  decide
theorem Inv.at_ {A : Nat → Nat → Option Ar} {m : SpM} (h : Inv A m) {n pg : Nat} {f : Int} (e : entM m n pg = ⟨1, f, false⟩) : n < 8 ∧ pg < 4096 ∧ ∃ y, m.x n = some y := by
  cases c : m.x n with
  | none => rw [entM_none c] at e; exact absurd e.symm (en_ne _)
  | some y =>
    refine ⟨h.x8 n y c, ?_, y, rfl⟩
    rw [entM_some c] at e
    by_cases d : pg < 4096
    · exact d
    · rw [List.getD_eq_getElem?_getD, List.getElem?_eq_none (by rw [(h.tok n y c).el]; omega)] at e
      exact absurd e.symm (en_ne _)
theorem Inv.few {A : Nat → Nat → Option Ar} {m : SpM} (h : Inv A m) : Few m := by
  refine ⟨fun f => ?_, ⟨(List.range 1024).map fun (f : Nat) => (f : Int), by simp, fun g hg => ?_⟩, fun n => by rw [h.slot]; simp⟩
  · have := nodupC_le (l := m.b f) (m := places) (srt_nodup (h.srt f)) fun q hq => by
      obtain ⟨n, pg, rfl, e⟩ := (h.back f q).1 hq
      obtain ⟨h1, h2, _⟩ := h.at_ e
      exact List.mem_flatMap.2 ⟨n, List.mem_range.2 h1, List.mem_map.2 ⟨pg, List.mem_range.2 h2, rfl⟩⟩
    rw [places_length] at this
    omega
  · obtain ⟨q, hq⟩ := List.exists_mem_of_ne_nil _ hg
    obtain ⟨n, pg, rfl, e⟩ := (h.back g q).1 hq
    rcases h.good n pg with c | ⟨f, c, hf, _⟩
    · rw [c] at e; exact absurd e.symm (en_ne _)
    · rw [c] at e
      have := en_inj e
      exact List.mem_map.2 ⟨f, List.mem_range.2 hf, this⟩
theorem Inv.cfew {A : Nat → Nat → Option Ar} {m : SpM} (h : Inv A m) : m.c.length ≤ 100000 := by
  have := nodupC_le (l := m.c.map (·.k)) (m := (List.range 4).flatMap fun (n : Nat) => (List.range 16).map fun (q : Nat) => (⟨(n : Int), (q : Int)⟩ : Pl)) (keys_nodup h.cok) fun q hq => by
    obtain ⟨e, he, rfl⟩ := List.mem_map.1 hq
    obtain ⟨⟨h1, h2, h3, h4⟩, _⟩ := h.ckey e he
    refine List.mem_flatMap.2 ⟨e.k.c.toNat, List.mem_range.2 (by omega), List.mem_map.2 ⟨e.k.g.toNat, List.mem_range.2 (by omega), ?_⟩⟩
    rw [Int.toNat_of_nonneg h1, Int.toNat_of_nonneg h3]
  rw [List.length_map, List.length_flatMap] at this
  simp at this
  have e : (List.map (fun _ => 16) (List.range 4)).sum = 64 := by decide
  omega
theorem key_ix {r : Ar} {pg : Nat} (hs : soundA r) (hh : hasA r (pg : Int)) (hk : r.kd ≠ 1) :
    (0 ≤ r.fl ∧ r.fl < 4 ∧ 0 ≤ r.ofs + (pg : Int) - r.fr ∧ r.ofs + (pg : Int) - r.fr < 16) ∧ keyI (fileIx r pg) = ⟨r.fl, r.ofs + (pg : Int) - r.fr⟩ ∧ fileIx r pg = 16 * r.fl.toNat + (r.ofs + (pg : Int) - r.fr).toNat := by
  obtain ⟨⟨_, _, h3, h4, h5, h6⟩, c | ⟨_, c1, c2, c3, c4, c5⟩⟩ := hs
  · exact absurd c.1 hk
  · obtain ⟨g1, g2⟩ := hh
    have hr : 0 ≤ r.fl ∧ r.fl < 4 ∧ 0 ≤ r.ofs + (pg : Int) - r.fr ∧ r.ofs + (pg : Int) - r.fr < 16 := ⟨c1, c2, by omega, by omega⟩
    have e : fileIx r pg = 16 * r.fl.toNat + (r.ofs + (pg : Int) - r.fr).toNat := by
      unfold fileIx
      omega
    refine ⟨hr, ?_, e⟩
    rw [e]
    exact keyI_ix (k := ⟨r.fl, r.ofs + (pg : Int) - r.fr⟩) hr
section
variable {m m1 : SpM} {n pg f : Nat} {y : SpX} {r : Ar} {p1 p' : PS} {F' : Nat → List Nat} {t' : TS} {B : List Nat}
structure NewPg (m : SpM) (n pg f : Nat) (m1 : SpM) : Prop where
  inv : Inv (arM m1) m1
  stp : Stp n pg m m1
  ent : entM m1 n pg = ⟨1, (f : Int), false⟩
  byt : ∀ j, j < 64 → pageM m1 n pg j = pageM m n pg j
  use : m1.p.u.getD f 0 = 3
  one : ∀ z ∈ m1.b (f : Int), z = ⟨n, pg⟩
  lt : f < 1024
  cost : Cost 3 1 3 m m1
  cost0 : entM m n pg ≠ en0 → Cost 0 1 0 m m1
theorem newPg (hi : Inv (arM m) m) (hy : m.x n = some y) (hpg : pg < 4096) (har : arM m n pg = some r) (hk : r.kd ≠ 2) (ha : Alloc1 m.p 3 f p1)
    (hd : SetDone ((m.setP p1).setF (upd m.F f B)) y pg ⟨1, (f : Int), false⟩ F' p' t') (hB : ∀ j, j < 64 → B.getD j 0 = pageM m n pg j) :
    NewPg m n pg f (putM ((m.setP p1).setF (upd m.F f B)) n y pg ⟨1, (f : Int), false⟩ 0 F' p' t') := by
  have hiA : Inv (arM m) ((m.setP p1).setF (upd m.F f B)) := hi.alloc ha
  have hp := putIs (n := n) (y := y) (pg := pg) (x := ⟨1, (f : Int), false⟩) (F' := F') (p' := p') (t' := t') hiA hy (.inr ⟨f, rfl⟩)
  have hu : ((m.setP p1).setF (upd m.F f B)).p.u.getD f 0 = 3 := by
    show p1.u.getD f 0 = 3
    rw [ha.u, if_pos rfl]
  have hg : Good (arM m) ((m.setP p1).setF (upd m.F f B)) n pg ⟨1, (f : Int), false⟩ := .inr ⟨f, rfl, ha.lt, r, har, .inl ⟨hu, hk⟩⟩
  have hno : ∀ n' q, entM m n' q ≠ ⟨1, (f : Int), false⟩ := hi.free_no (by rw [ha.free]; decide) (by rw [ha.free]; decide)
  have hiv := hiA.put hy hpg hd hg hp
  have sP := Stp.put hp hd hiA hy hpg hg (fun g e _ n' q _ => by rw [← e]; exact hno n' q)
  have s := (Stp.alloc n pg hi ha (B := B)).trans sP
  have hent := (hp.ent hd hy (hi.tok n y hy).el hpg n pg).trans (if_pos ⟨rfl, rfl⟩)
  have hc := Cost.put hp hd hiA hy
  refine ⟨?_, s, hent, fun j hj => ?_, ?_, fun z hz => ?_, ha.lt, ((Cost.alloc ha).trans hc.1).le (by omega) (by omega) (by omega), fun h0 => ((Cost.alloc ha).trans (hc.2 (.inl h0))).le (by omega) (by omega) (by omega)⟩
  · rw [s.ar]; exact hiv
  · rw [pageM_in hent, hp.byt hd hiA hy (.inl hu)]
    show (upd m.F f B f).getD j 0 = _
    rw [upd_same]
    exact hB j hj
  · rcases (hp.use hd hiA hy ha.lt (.inl hu)).2 with c | ⟨_, _, _, c⟩
    · rw [c]; exact hu
    · exact absurd c (hno n pg)
  · rcases (hp.mem _ _).1 hz with c | c
    · exact c.1
    · obtain ⟨n', q, rfl, e⟩ := (hi.back _ _).1 c.2
      exact absurd e (hno n' q)
structure Paged (m : SpM) (n pg f : Nat) (m1 : SpM) : Prop where
  inv : Inv (arM m1) m1
  stp : Stp n pg m m1
  ent : entM m1 n pg = ⟨1, (f : Int), false⟩
  byt : ∀ j, j < 64 → pageM m1 n pg j = pageM m n pg j
  stat : ∀ r, arM m n pg = some r → r.kd ≠ 1 → (hasAnon m1 n pg ↔ hasAnon m n pg)
  cost : Cost 3 1 3 m m1
theorem paged_same (hi : Inv (arM m) m) (he : entM m n pg = ⟨1, (f : Int), false⟩) : Paged m n pg f m :=
  ⟨hi, Stp.refl _ _ _, he, fun _ _ => rfl, fun _ _ _ => Iff.rfl, (Cost.refl m).le (by omega) (by omega) (by omega)⟩
theorem paged_zero (hi : Inv (arM m) m) (hy : m.x n = some y) (hpg : pg < 4096) (har : arM m n pg = some r) (hk : r.kd = 1) (he : entM m n pg = en0) (h : FromZero m n y pg f m1) : Paged m n pg f m1 := by
  obtain ⟨p1, F', p', t', ha, hd, rfl⟩ := h.ex
  have g := newPg hi hy hpg har (by rw [hk]; decide) ha hd (fun j hj => by
    unfold pageM
    rw [he, if_neg (by decide), har]
    simp only [hk, if_true]
    unfold zer
    rw [List.getD_eq_getElem?_getD, List.getElem?_replicate, if_pos hj]
    rfl)
  exact ⟨g.inv, g.stp, g.ent, g.byt, fun r' hr' hk' => by rw [har] at hr'; injection hr' with hr'; exact absurd (hr' ▸ hk) hk', g.cost⟩
theorem file_page (har : arM m n pg = some r) (hk : r.kd ≠ 1) (he : entM m n pg = en0) (j : Nat) : pageM m n pg j = fileM m (fileIx r pg) j := by
  unfold pageM
  rw [he, if_neg (by decide), har]
  simp only [hk, if_false]
theorem paged_in (hi : Inv (arM m) m) (hy : m.x n = some y) (hpg : pg < 4096) (har : arM m n pg = some r) (hk : r.kd ≠ 1) (hs : soundA r) (hh : hasA r (pg : Int)) (he : entM m n pg = en0) (hf : f < 1024) (hu : m.p.u.getD f 0 = 4)
    (hc : frameC m.c ⟨r.fl, r.ofs + (pg : Int) - r.fr⟩ = some (f : Int)) (hB : ∀ j, j < 64 → (m.F f).getD j 0 = fileM m (fileIx r pg) j) (hd : SetDone m y pg ⟨1, (f : Int), false⟩ F' p' t') :
    Paged m n pg f (putM m n y pg ⟨1, (f : Int), false⟩ 0 F' p' t') := by
  have hp := putIs (n := n) (y := y) (pg := pg) (x := ⟨1, (f : Int), false⟩) (F' := F') (p' := p') (t' := t') hi hy (.inr ⟨f, rfl⟩)
  have hg : Good (arM m) m n pg ⟨1, (f : Int), false⟩ := .inr ⟨f, rfl, hf, r, har, .inr ⟨hu, hk, hc⟩⟩
  have hiv := hi.put hy hpg hd hg hp
  have s := Stp.put hp hd hi hy hpg hg (fun g e u n' q _ => by have := en_inj e; have e2 : f = g := (by omega); rw [e2] at hu; omega)
  have hent := (hp.ent hd hy (hi.tok n y hy).el hpg n pg).trans (if_pos ⟨rfl, rfl⟩)
  have hcs := Cost.put hp hd hi hy
  refine ⟨?_, s, hent, fun j hj => ?_, fun r' hr' hk' => ?_, hcs.1.le (by omega) (by omega) (by omega)⟩
  · rw [s.ar]; exact hiv
  · rw [pageM_in hent, hp.byt hd hi hy (.inr hu), file_page har hk he]
    exact hB j hj
  · rw [hasAnon_in hent]
    refine ⟨fun e => ?_, fun e => absurd e (hasAnon_no he)⟩
    rcases (hp.use hd hi hy hf (.inr hu)).2 with c | ⟨c, _⟩
    · omega
    · omega
theorem paged_out (hi : Inv (arM m) m) (hy : m.x n = some y) (hpg : pg < 4096) (har : arM m n pg = some r) (hk : r.kd ≠ 1) (hs : soundA r) (hh : hasA r (pg : Int)) (he : entM m n pg = en0)
    (hc : frameC m.c ⟨r.fl, r.ofs + (pg : Int) - r.fr⟩ = none) (h : FromDisk m n y pg ⟨r.fl, r.ofs + (pg : Int) - r.fr⟩ (last m.S m.L (96 + (16 * r.fl.toNat + (r.ofs + (pg : Int) - r.fr).toNat))) f m1) : Paged m n pg f m1 := by
  obtain ⟨p1, F', p', t', ha, hd, rfl⟩ := h.ex
  obtain ⟨hr, ek, ei⟩ := key_ix hs hh hk
  generalize hBe : last m.S m.L (96 + (16 * r.fl.toNat + (r.ofs + (pg : Int) - r.fr).toNat)) = B at *
  have hno4 : ∀ e ∈ m.c, e.f ≠ (f : Int) := by
    intro e hx ef
    obtain ⟨_, g, e1, _, e2⟩ := hi.ckey e hx
    rw [ef] at e1
    obtain rfl : f = g := by omega
    rw [ha.free] at e2
    cases e2
  have hiA : Inv (arM m) ((m.setP p1).setF (upd m.F f B)) := hi.alloc ha
  have hu : ((m.setP p1).setF (upd m.F f B)).p.u.getD f 0 = 4 := by
    show p1.u.getD f 0 = 4
    rw [ha.u, if_pos rfl]
  have hiC : Inv (arM m) (((m.setP p1).setF (upd m.F f B)).setC (putC m.c ⟨r.fl, r.ofs + (pg : Int) - r.fr⟩ f)) := hiA.cache hc hr ha.lt hu hno4
  have sA := Stp.alloc n pg hi ha (B := B)
  have sC : Stp n pg ((m.setP p1).setF (upd m.F f B)) (((m.setP p1).setF (upd m.F f B)).setC (putC m.c ⟨r.fl, r.ofs + (pg : Int) - r.fr⟩ f)) := Stp.cache n pg hiA hc hr hno4 (by
    show upd m.F f B f = last m.S m.L _
    rw [upd_same, hBe])
  have hcC : frameC (((m.setP p1).setF (upd m.F f B)).setC (putC m.c ⟨r.fl, r.ofs + (pg : Int) - r.fr⟩ f)).c ⟨r.fl, r.ofs + (pg : Int) - r.fr⟩ = some (f : Int) := by
    show frameC (putC m.c _ _) _ = _
    rw [frameC_put hc hno4, if_pos rfl]
  have hdC : SetDone (((m.setP p1).setF (upd m.F f B)).setC (putC m.c ⟨r.fl, r.ofs + (pg : Int) - r.fr⟩ f)) y pg ⟨1, (f : Int), false⟩ F' p' t' := ⟨hd.e, hd.live, hd.step, hd.zone, hd.F, hd.ok⟩
  have hfil : ∀ j, j < 64 → ((((m.setP p1).setF (upd m.F f B)).setC (putC m.c ⟨r.fl, r.ofs + (pg : Int) - r.fr⟩ f)).F f).getD j 0 = fileM (((m.setP p1).setF (upd m.F f B)).setC (putC m.c ⟨r.fl, r.ofs + (pg : Int) - r.fr⟩ f)) (fileIx r pg) j := by
    intro j hj
    unfold fileM
    rw [ek, hcC]
    simp only [Int.toNat_natCast]
  have g := paged_in (m := ((m.setP p1).setF (upd m.F f B)).setC (putC m.c ⟨r.fl, r.ofs + (pg : Int) - r.fr⟩ f)) (y := y) (r := r) hiC hy hpg har hk hs hh he ha.lt hu hcC hfil hdC
  rw [putM_setC]
  have s := sA.trans sC
  refine ⟨g.inv, s.trans g.stp, g.ent, fun j hj => ?_, fun r' hr' hk' => ?_, ?_⟩
  · rw [g.byt j hj]
    refine (file_page (m := ((m.setP p1).setF (upd m.F f B)).setC (putC m.c ⟨r.fl, r.ofs + (pg : Int) - r.fr⟩ f)) har hk he j).trans ?_
    rw [file_page har hk he]
    exact s.fil _ _
  · rw [g.stat r' hr' hk']
    exact ⟨fun c => absurd c (hasAnon_no he), fun c => absurd c (hasAnon_no he)⟩
  · have c1 := Cost.alloc (m := m) (B := B) ha
    have c3 := g.cost
    have hcs := Cost.put (putIs (n := n) (y := y) (pg := pg) (x := ⟨1, (f : Int), false⟩) (F' := F') (p' := p') (t' := t') hiC hy (.inr ⟨f, rfl⟩)) hdC hiC hy
    have c2 : Cost 0 1 0 m (((m.setP p1).setF (upd m.F f B)).setC (putC m.c ⟨r.fl, r.ofs + (pg : Int) - r.fr⟩ f)) := ⟨c1.c2, c1.c3, c1.tt⟩
    exact (c2.trans hcs.1).le (by omega) (by omega) (by omega)
end
end Go.Proofs.YtgjkdnpidobabaaGreat

namespace Go.Proofs.YtgjkdnpidobabaaGreat
open Go.RowKit
set_option linter.unusedVariables false

def HasPg (m : SpM) (n pg f : Nat) (wr : Bool) : Prop := entM m n pg = ⟨1, (f : Int), false⟩ ∧ (wr = true → ∀ r, arM m n pg = some r → r.kd ≠ 2 → m.p.u.getD f 0 = 3 ∧ ∀ z ∈ m.b (f : Int), z = ⟨n, pg⟩)
theorem HasPg.stp {m m1 : SpM} {n pg pg' f : Nat} {wr : Bool} (h : HasPg m n pg f wr) (s : Stp n pg' m m1) (hne : pg ≠ pg') : HasPg m1 n pg f wr := by
  obtain ⟨h1, h2⟩ := h
  have c : ¬ (n = n ∧ pg = pg') := fun c => hne c.2
  obtain ⟨_, b2, b3⟩ := s.frm n pg f c h1
  refine ⟨(s.ent n pg c).trans h1, fun hw r hr hk => ?_⟩
  rw [s.ar] at hr
  obtain ⟨c1, c2⟩ := h2 hw r hr hk
  exact ⟨b2.trans c1, fun z hz => c2 z (b3 c1 z hz)⟩
structure Done (m : SpM) (n pg : Nat) (wr : Bool) (f : Nat) (m1 : SpM) : Prop where
  inv : Inv (arM m1) m1
  stp : Stp n pg m m1
  has : HasPg m1 n pg f wr
  byt : ∀ j, j < 64 → pageM m1 n pg j = pageM m n pg j
  stat : ∀ r, arM m n pg = some r → r.kd ≠ 1 → (wr = false ∨ r.kd = 2) → (hasAnon m1 n pg ↔ hasAnon m n pg)
  cost : Cost 3 2 3 m m1
  lt : f < 1024
theorem Inv.ent_lt {A : Nat → Nat → Option Ar} {m : SpM} (h : Inv A m) {n pg f : Nat} (e : entM m n pg = ⟨1, (f : Int), false⟩) : f < 1024 ∧ ∃ r, A n pg = some r ∧ ((m.p.u.getD f 0 = 3 ∧ r.kd ≠ 2) ∨ (m.p.u.getD f 0 = 4 ∧ r.kd ≠ 1 ∧ frameC m.c ⟨r.fl, r.ofs + (pg : Int) - r.fr⟩ = some (f : Int))) := by
  rcases h.good n pg with c | ⟨g, c, c1, r, c2⟩
  · rw [c] at e; exact absurd e.symm (en_ne _)
  · rw [c] at e
    have := en_inj e
    obtain rfl : g = f := by omega
    exact ⟨c1, r, c2⟩
theorem Stp.proc {m m1 : SpM} {n pg n' : Nat} {y : SpX} (s : Stp n pg m m1) (hy : m.x n' = some y) : ∃ y1, m1.x n' = some y1 ∧ y1.a = y.a ∧ y1.q = y.q := by
  have e := s.xs n'
  rw [hy, Option.map_some, Option.map_eq_some_iff] at e
  obtain ⟨y1, e1, e2⟩ := e
  injection e2 with e3 e4
  exact ⟨y1, e1, e3, e4⟩
section
variable (gS : Nat) (a : SpA) (k : SpK) (K : Nat → Prop) (m : SpM) (w : World)
theorem come_ok (n pg : Nat) (fr ap : Int) (aw : Bool) (kd fl ofs : Int) (y : SpX) (h : SpMem w gS a k K m) (hi : Inv (arM m) m) (hy : m.x n = some y) (hpg : pg < 4096) (har : findA y.a (pg : Int) = some ⟨fr, ap, aw, kd, fl, ofs⟩) (h3 : 3 ≤ cntF m.p 2) (h1 : 0 < cntF m.p 3) :
    Calls Tryz.prog 134 #[.pointer (some ⟨gS, 0, none⟩), .agg #[.int .i64 (n : Int), .int .i64 (pg : Int)], .agg #[.int .i64 fr, .int .i64 ap, .bool aw, .int .i64 kd, .int .i64 fl, .int .i64 ofs], .agg #[.int .i64 (y.t.e.getD pg en0).k, .int .i64 (y.t.e.getD pg en0).n, .bool (y.t.e.getD pg en0).w]] w fun e w' => ∃ (f : Nat) (m' : SpM), (Paged m n pg f m' ∧ f < 1024) ∧ SpEnd w gS a k K (.tuple #[.int .i64 (f : Int), .int .i64 0]) m' e w' := by
  have ha : arM m n pg = some ⟨fr, ap, aw, kd, fl, ofs⟩ := (arM_some hy pg).trans har
  have hm := (findA_iff (hi.ars n y hy).1).1 har
  have hs := (hi.ars n y hy).1.1 _ hm.1
  rw [← entM_some hy pg]
  rcases hi.good n pg with e | ⟨f, e, hf, _⟩
  · by_cases hk : kd = 1
    · rw [e]
      refine (come_zero gS a k K m w n pg fr ap aw kd fl ofs 0 0 false h y hy hpg hi.tabs hi.few h3 h1 rfl hk).mono ?_
      rintro e' w' ⟨f, m', h4, h5⟩
      refine ⟨f, m', ⟨paged_zero hi hy hpg ha hk e h4, ?_⟩, h5⟩
      obtain ⟨p1, F', p', t', h6, _⟩ := h4.ex
      exact h6.lt
    · rw [e]
      obtain ⟨⟨r1, r2, r3, r4⟩, ek, ei⟩ := key_ix hs hm.2 hk
      simp only at r1 r2 r3 r4 ek ei
      obtain ⟨⟨_, _, s3, s4, s5, s6⟩, sk⟩ := hs
      simp only at s3 s4 s5 s6 sk
      have e1 : fl = ((fl.toNat : Nat) : Int) := (Int.toNat_of_nonneg r1).symm
      have e2 : ofs + (pg : Int) - fr = (((ofs + (pg : Int) - fr).toNat : Nat) : Int) := (Int.toNat_of_nonneg r3).symm
      cases hc : frameC m.c ⟨fl, ofs + (pg : Int) - fr⟩ with
      | none =>
        refine (come_out gS a k K m w n pg fr ap aw kd fl ofs 0 0 false h y hy hpg hi.tabs hi.few h3 h1 hi.cfew hi.tr fl.toNat (ofs + (pg : Int) - fr).toNat rfl hk e1 e2 (by omega) (by omega) (by omega) (by omega) (by rw [← e1, ← e2]; exact hc)).mono ?_
        rintro e' w' ⟨f, m', h4, h5⟩
        rw [← e1, ← e2] at h4
        refine ⟨f, m', ⟨paged_out hi hy hpg ha hk (by exact (hi.ars n y hy).1.1 _ hm.1) hm.2 e hc h4, ?_⟩, h5⟩
        obtain ⟨p1, F', p', t', h6, _⟩ := h4.ex
        exact h6.lt
      | some g =>
        obtain ⟨f, rfl, hf, hu⟩ := hi.key_use hc
        refine (come_in gS a k K m w n pg fr ap aw kd fl ofs 0 0 false h y hy hpg hi.tabs hi.few h3 f hf fl.toNat (ofs + (pg : Int) - fr).toNat rfl hk e1 e2 (by omega) (by omega) (by omega) (by omega) (by rw [← e1, ← e2]; exact hc)).mono ?_
        rintro e' w' ⟨m', h4, h5⟩
        refine ⟨f, m', ⟨?_, hf⟩, h5⟩
        obtain ⟨F', p', t', h6, rfl⟩ := h4.ex
        refine paged_in hi hy hpg ha hk ((hi.ars n y hy).1.1 _ hm.1) hm.2 e hf hu hc (fun j hj => ?_) h6
        unfold fileM
        rw [ek, hc]
        rfl
  · rw [e]
    refine (come_frame gS a k K m w n pg fr ap aw kd fl ofs 1 (f : Int) false h rfl).mono ?_
    rintro e' w' h5
    exact ⟨f, m, ⟨paged_same hi e, hf⟩, h5⟩
theorem alone_ok (n pg f : Nat) (y : SpX) (r : Ar) (m0 : SpM) (h : SpMem w gS a k K m) (hi0 : Inv (arM m0) m0) (hP : Paged m0 n pg f m) (hf : f < 1024) (hy : m.x n = some y) (hpg : pg < 4096) (har : arM m0 n pg = some r) (hk : r.kd ≠ 2) (h3 : 3 ≤ cntF m.p 2) (h1 : 0 < cntF m.p 3) :
    Calls Tryz.prog 135 #[.pointer (some ⟨gS, 0, none⟩), .agg #[.int .i64 (n : Int), .int .i64 (pg : Int)], .int .i64 (f : Int)] w fun e w' => ∃ (f' : Nat) (m'' : SpM), Done m0 n pg true f' m'' ∧ SpEnd w gS a k K (.tuple #[.int .i64 (f' : Int), .int .i64 0]) m'' e w' := by
  have hi := hP.inv
  have har1 : arM m n pg = some r := by rw [hP.stp.ar]; exact har
  have hmany : ∀ f' m'', FromCopy m n y pg f f' m'' → Done m0 n pg true f' m'' := by
    intro f' m'' h4
    obtain ⟨p1, F', p', t', ha, hd, rfl⟩ := h4.ex
    have g := newPg hi hy hpg har1 hk ha hd (fun j hj => (pageM_in hP.ent j).symm)
    refine ⟨g.inv, hP.stp.trans g.stp, ⟨g.ent, fun _ r' hr' hk' => ⟨g.use, g.one⟩⟩, fun j hj => (g.byt j hj).trans (hP.byt j hj), fun r' hr' hk' hc => ?_, ?_, g.lt⟩
    · rcases hc with hc | hc
      · cases hc
      · rw [har] at hr'; injection hr' with hr'; exact absurd (hr' ▸ hc) hk
    · exact (hP.cost.trans (g.cost0 (by rw [hP.ent]; exact en_ne _))).le (by omega) (by omega) (by omega)
  cases hc : pageC m.c (f : Int) with
  | some kk =>
    refine (alone_in gS a k K m w n y pg f h hy hpg hi.tabs hi.few h3 h1 hf kk hc).mono ?_
    rintro e' w' ⟨f', m'', h4, h5⟩
    exact ⟨f', m'', hmany f' m'' h4, h5⟩
  | none =>
    by_cases hl : (m.b (f : Int)).length < 2
    · refine (alone_same gS a k K m w n y pg f h hy hpg hi.tabs hi.few h3 h1 hf hc hl).mono ?_
      rintro e' w' h5
      refine ⟨f, m, ⟨hi, hP.stp, ⟨hP.ent, fun _ r' hr' hk' => ?_⟩, hP.byt, fun r' hr' hk' hc => hP.stat r' hr' hk', hP.cost.le (by omega) (by omega) (by omega), hf⟩, h5⟩
      obtain ⟨_, r2, hr2, c | ⟨_, _, c⟩⟩ := hi.ent_lt hP.ent
      · refine ⟨c.1, fun z hz => ?_⟩
        have hm : (⟨n, pg⟩ : Pl) ∈ m.b (f : Int) := (hi.back _ _).2 ⟨n, pg, rfl, hP.ent⟩
        match hb : m.b (f : Int), hl, hz, hm with
        | [], _, hz, _ => cases hz
        | [x], _, hz, hm =>
          rw [List.mem_singleton] at hz hm
          rw [hz, hm]
        | _ :: _ :: _, hl, _, _ => simp at hl; omega
      · rw [pageC_of hi.cok c] at hc
        cases hc
    · refine (alone_many gS a k K m w n y pg f h hy hpg hi.tabs hi.few h3 h1 hf hc (by omega)).mono ?_
      rintro e' w' ⟨f', m'', h4, h5⟩
      exact ⟨f', m'', hmany f' m'' h4, h5⟩
theorem page_ok (n pg : Nat) (wr : Bool) (y : SpX) (r : Ar) (h : SpMem w gS a k K m) (hi : Inv (arM m) m) (hy : m.x n = some y) (hpg : pg < 4096) (har : arM m n pg = some r) (hw : wr = true → r.w = true) (h6 : 6 ≤ cntF m.p 2) (h2 : 2 ≤ cntF m.p 3) :
    Calls Tryz.prog 83 #[.pointer (some ⟨gS, 0, none⟩), .agg #[.int .i64 (n : Int), .int .i64 (pg : Int)], .bool wr] w fun e w' => ∃ (f : Nat) (m' : SpM), Done m n pg wr f m' ∧ SpEnd w gS a k K (.tuple #[.int .i64 (f : Int), .int .i64 0]) m' e w' := by
  obtain ⟨fr, ap, aw, kd, fl, ofs⟩ := r
  have har' : findA y.a (pg : Int) = some ⟨fr, ap, aw, kd, fl, ofs⟩ := (arM_some hy pg).symm.trans har
  refine page_go gS a k K m w n y pg wr fr ap aw kd fl ofs (fun f m' => Paged m n pg f m' ∧ f < 1024) (fun f m' => Done m n pg wr f m') h hy hpg hi.tabs (hi.ars n y hy).1 har' hw ?_ ?_ ?_
  · intro V hV
    exact come_ok gS a k K m V n pg fr ap aw kd fl ofs y hV hi hy hpg har' (by omega) (by omega)
  · rintro rfl hk f m' V K' ⟨hP, hf⟩ hV
    obtain ⟨y', hy', _⟩ := hP.stp.proc hy
    have c2 := hP.cost.c2
    have c3 := hP.cost.c3
    exact alone_ok gS a k K' m' V n pg f y' _ m hV hi hP hf hy' hpg har hk (by omega) (by omega)
  · rintro hc f m' ⟨hP, hf⟩
    refine ⟨hP.inv, hP.stp, ⟨hP.ent, fun hw r' hr' hk' => ?_⟩, hP.byt, fun r' hr' hk' _ => hP.stat r' hr' hk', hP.cost.le (by omega) (by omega) (by omega), hf⟩
    rw [hP.stp.ar, har] at hr'
    injection hr' with hr'
    subst hr'
    rcases hc with hc | hc
    · rw [hc] at hw; cases hw
    · exact absurd hc hk'
end
end Go.Proofs.YtgjkdnpidobabaaGreat

namespace Go.Proofs.YtgjkdnpidobabaaGreat
open Go.RowKit
set_option linter.unusedVariables false

def NoX (m : SpM) (z : Int) : Prop := z < 0 ∨ ∀ n : Nat, z = (n : Int) → m.x n = none
section
variable (gS : Nat) (a : SpA) (k : SpK) (K : Nat → Prop) (m : SpM) (w : World)
theorem SpMem.fresh2 {w0 W V : World} (h : SpMem W gS a k K m) (h0 : Below w0.heap.size w0 W) (h1 : Below w0.heap.size w0 V) (hK : ∀ j, K j → j < w0.heap.size) (hs : W.heap.size ≤ V.heap.size) : SpMem V gS a k K m :=
  h.far hs fun j hj => (h1.block j (hK j hj)).trans (h0.block j (hK j hj)).symm
theorem SpMem.look_no {z : Int} (h : SpMem w gS a k K m) (wz : W64 z) (hz : NoX m z) : (Instr.lookup 82 (.map k.M) (.int .i64 z) false).run Tryz.prog w = .ok (.pointer none) w := by
  have := h.look z wz
  rw [ptrL_none hz] at this
  exact this
set_option maxRecDepth 100000 in
set_option maxHeartbeats 1000000 in
theorem exit_no (z : Int) (h : SpMem w gS a k K m) (wz : W64 z) (hz : NoX m z) :
    Calls Tryz.prog 21 #[.pointer (some ⟨gS, 0, none⟩), .int .i64 z] w (SpEnd w gS a k K (.int .i64 2) m) := by
  have LQ := SpMem.look_no gS a k K m w h wz hz
  have HA := Lib.hid (all_sp gS w k.M (h.cells.cell 6))
  have H := Lib.hid h
  clear h wz hz
  go_enter Tryz.func21, Tryz.ntmps21
  go_wp2_with fail
  refine HA.out.mono ?_
  rintro e w' ⟨rfl, hw⟩
  subst w'
  go_wp2_with fail
  go_ret
  exact ⟨rfl, K, H.out, Went.refl _ _⟩
set_option maxRecDepth 100000 in
set_option maxHeartbeats 1000000 in
theorem fork_no (z : Int) (t : Int) (h : SpMem w gS a k K m) (wz : W64 z) (hz : NoX m z) :
    Calls Tryz.prog 14 #[.pointer (some ⟨gS, 0, none⟩), .int .i64 z, .int .i64 t] w (SpEnd w gS a k K (.int .i64 2) m) := by
  have LQ := SpMem.look_no gS a k K m w h wz hz
  have HA := Lib.hid (all_sp gS w k.M (h.cells.cell 6))
  have H := Lib.hid h
  clear h wz hz
  go_enter Tryz.func14, Tryz.ntmps14
  go_wp2_with fail
  refine HA.out.mono ?_
  rintro e w' ⟨rfl, hw⟩
  subst w'
  go_wp2_with fail
  go_ret
  exact ⟨rfl, K, H.out, Went.refl _ _⟩
set_option maxRecDepth 100000 in
set_option maxHeartbeats 1000000 in
theorem change_no (z : Int) (fv : Value) (h : SpMem w gS a k K m) (wz : W64 z) (hz : NoX m z) :
    Calls Tryz.prog 35 #[.pointer (some ⟨gS, 0, none⟩), .int .i64 z, fv] w (SpEnd w gS a k K (.int .i64 2) m) := by
  have LQ := SpMem.look_no gS a k K m w h wz hz
  have HA := Lib.hid (all_sp gS w k.M (h.cells.cell 6))
  have H := Lib.hid h
  clear h wz hz
  go_enter Tryz.func35, Tryz.ntmps35
  go_wp2_with fail
  refine HA.out.mono ?_
  rintro e w' ⟨rfl, hw⟩
  subst w'
  go_wp2_with fail
  go_ret
  exact ⟨rfl, K, H.out, Went.refl _ _⟩
set_option maxRecDepth 100000 in
set_option maxHeartbeats 1000000 in
theorem tell_no (z : Int) (t : Int) (h : SpMem w gS a k K m) (wz : W64 z) (hz : NoX m z) :
    Calls Tryz.prog 20 #[.pointer (some ⟨gS, 0, none⟩), .int .i64 z, .int .i64 t] w (SpEnd w gS a k K (.tuple #[]) m) := by
  have LQ := SpMem.look_no gS a k K m w h wz hz
  have HA := Lib.hid (all_sp gS w k.M (h.cells.cell 6))
  have H := Lib.hid h
  clear h wz hz
  go_enter Tryz.func20, Tryz.ntmps20
  go_wp2_with fail
  refine HA.out.mono ?_
  rintro e w' ⟨rfl, hw⟩
  subst w'
  go_wp2_with fail
  go_end0
  exact ⟨rfl, K, H.out, Went.refl _ _⟩
set_option maxRecDepth 100000 in
set_option maxHeartbeats 1000000 in
theorem tree_no (z : Int) (h : SpMem w gS a k K m) (wz : W64 z) (hz : NoX m z) :
    Calls Tryz.prog 22 #[.pointer (some ⟨gS, 0, none⟩), .int .i64 z] w (SpEnd w gS a k K (.pointer none) m) := by
  have LQ := SpMem.look_no gS a k K m w h wz hz
  have HA := Lib.hid (all_sp gS w k.M (h.cells.cell 6))
  have H := Lib.hid h
  clear h wz hz
  go_enter Tryz.func22, Tryz.ntmps22
  go_wp2_with fail
  refine HA.out.mono ?_
  rintro e w' ⟨rfl, hw⟩
  subst w'
  go_wp2_with fail
  go_ret
  exact ⟨rfl, K, H.out, Went.refl _ _⟩
set_option maxRecDepth 100000 in
set_option maxHeartbeats 1000000 in
theorem areas_no (z : Int) (h : SpMem w gS a k K m) (wz : W64 z) (hz : NoX m z) :
    Calls Tryz.prog 23 #[.pointer (some ⟨gS, 0, none⟩), .int .i64 z] w (SpEnd w gS a k K (.slice none 0 0) m) := by
  have LQ := SpMem.look_no gS a k K m w h wz hz
  have HA := Lib.hid (all_sp gS w k.M (h.cells.cell 6))
  have H := Lib.hid h
  clear h wz hz
  go_enter Tryz.func23, Tryz.ntmps23
  go_wp2_with fail
  refine HA.out.mono ?_
  rintro e w' ⟨rfl, hw⟩
  subst w'
  go_wp2_with fail
  go_ret
  exact ⟨rfl, K, H.out, Went.refl _ _⟩
set_option maxRecDepth 100000 in
set_option maxHeartbeats 1000000 in
theorem ask_no (z : Int) (t u : Int) (b : Bool) (h : SpMem w gS a k K m) (wz : W64 z) (hz : NoX m z) :
    Calls Tryz.prog 38 #[.pointer (some ⟨gS, 0, none⟩), .int .i64 z, .int .i64 t, .int .i64 u, .bool b] w (SpEnd w gS a k K (.tuple #[.slice none 0 0, .int .i64 2]) m) := by
  have LQ := SpMem.look_no gS a k K m w h wz hz
  have HA := Lib.hid (all_sp gS w k.M (h.cells.cell 6))
  have H := Lib.hid h
  clear h wz hz
  go_enter Tryz.func38, Tryz.ntmps38
  go_wp2_with fail
  refine HA.out.mono ?_
  rintro e w' ⟨rfl, hw⟩
  subst w'
  go_wp2_with fail
  go_ret2
  exact ⟨rfl, K, H.out, Went.refl _ _⟩
set_option maxRecDepth 100000 in
set_option maxHeartbeats 1000000 in
theorem load_no (z t u : Int) (h : SpMem w gS a k K m) (wz : W64 z) (hz : NoX m z) :
    Calls Tryz.prog 15 #[.pointer (some ⟨gS, 0, none⟩), .int .i64 z, .int .i64 t, .int .i64 u] w (SpEnd w gS a k K (.tuple #[.slice none 0 0, .int .i64 2]) m) := by
  have HA := Lib.hid (ask_no gS a k K m w z t u false h wz hz)
  clear h wz hz
  go_enter Tryz.func15, Tryz.ntmps15
  go_wp2_with fail
  refine HA.out.mono ?_
  rintro e w' ⟨rfl, h2⟩
  have R := Lib.hid h2
  clear h2
  go_wp2_with fail
  go_ret2
  exact ⟨rfl, R.out⟩
set_option maxRecDepth 100000 in
set_option maxHeartbeats 1000000 in
theorem store_no (z t : Int) (A : Option Addr) (l c : Nat) (h : SpMem w gS a k K m) (wz : W64 z) (hz : NoX m z) :
    Calls Tryz.prog 13 #[.pointer (some ⟨gS, 0, none⟩), .int .i64 z, .int .i64 t, .slice A l c] w (SpEnd w gS a k K (.int .i64 2) m) := by
  have HA := Lib.hid (ask_no gS a k K m w z t (l : Int) true h wz hz)
  clear h wz hz
  go_enter Tryz.func13, Tryz.ntmps13
  go_wp2_with fail
  refine HA.out.mono ?_
  rintro e w' ⟨rfl, h2⟩
  have R := Lib.hid h2
  clear h2
  go_wp2_with fail
  go_ret
  exact ⟨rfl, R.out⟩
set_option maxRecDepth 100000 in
set_option maxHeartbeats 1000000 in
theorem signal_no (z : Int) (h : SpMem w gS a k K m) (wz : W64 z) (hz : NoX m z) :
    Calls Tryz.prog 19 #[.pointer (some ⟨gS, 0, none⟩), .int .i64 z] w (SpEnd w gS a k K (.tuple #[.agg #[.int .i64 0, .int .i64 0], .int .i64 2]) m) := by
  obtain ⟨W, hW⟩ : ∃ W, w.alloc (.cells #[.int .i64 0, .int .i64 0] 44) = W := ⟨_, rfl⟩
  have hb : Below w.heap.size w W := by rw [← hW]; exact belAl (Below.refl _ w) _
  have hP : Blk W w.heap.size 44 #[.int .i64 0, .int .i64 0] := by rw [← hW]; exact Blk.new w _ _
  have h1 := h.fresh hb
  have LQ := SpMem.look_no gS a k K m W h1 wz hz
  have HA := Lib.hid (all_sp gS W k.M (h1.cells.cell 6))
  have H := Lib.hid h1
  have HK := Lib.hid h.lt
  have HB := Lib.hid hb
  have HP := Lib.hid hP
  have s0 : W.cell? ⟨w.heap.size, 0, none⟩ = some (.int .i64 0) := hP.cell 0
  have s1 : W.cell? ⟨w.heap.size, 1, none⟩ = some (.int .i64 0) := hP.cell 1
  have f0 : W.frozen? ⟨w.heap.size, 0, none⟩ = false := hP.frozen 0
  have f1 : W.frozen? ⟨w.heap.size, 1, none⟩ = false := hP.frozen 1
  clear h wz hz hb hP h1
  go_enter Tryz.func19, Tryz.ntmps19
  go_wp2_with fail
  refine HA.out.mono ?_
  rintro e w' ⟨rfl, hw⟩
  subst w'
  go_wp2_with fail
  refine bodyPost_ret (results_row_tmp (p := 4) (u := 5) rfl _ _ w.heap.size 44 #[.int .i64 0, .int .i64 0] _ rfl ((HP.out.set_ 0 _).set_ 1 _) Tryz.underlying44 rfl (by kernel_rfl)) rfl ?_
  exact ⟨rfl, K, H.out.fresh2 gS a k K m HB.out ((HB.out.setCell (Nat.le_refl _) _).setCell (Nat.le_refl _) _) HK.out (by simp [World.setCell]), Went.of_below ((HB.out.setCell (Nat.le_refl _) _).setCell (Nat.le_refl _) _)⟩
set_option maxRecDepth 100000 in
set_option maxHeartbeats 1000000 in
theorem spput_none (z q kd nn : Int) (b : Bool) (h : SpMem w gS a k K m) (wz : W64 z) (hz : NoX m z) :
    Calls Tryz.prog 25 #[.pointer (some ⟨gS, 0, none⟩), .agg #[.int .i64 z, .int .i64 q], .agg #[.int .i64 kd, .int .i64 nn, .bool b]] w (SpEnd w gS a k K (.int .i64 2) m) := by
  have hbx := boxes w ⟨z, q⟩ kd nn b
  simp only at hbx
  obtain ⟨W, hW⟩ : ∃ W, (w.alloc (.cells #[.int .i64 z, .int .i64 q] 56)).alloc (.cells #[.int .i64 kd, .int .i64 nn, .bool b] 58) = W := ⟨_, rfl⟩
  rw [hW] at hbx
  have h1 := h.fresh hbx.bel
  have HA := Lib.hid (fun q => (show Calls Tryz.prog 43 #[.pointer (some ⟨gS, 0, none⟩)] (W.drewN q) fun e w' => e = .returned (.map k.M) ∧ ∃ q', w' = W.drewN q' from (all_sp gS (W.drewN q) k.M (h1.cells.cell 6)).mono (by rintro e w' ⟨rfl, rfl⟩; exact ⟨rfl, q, rfl⟩)))
  have LQ : ∀ q, (Instr.lookup 82 (.map k.M) (.int .i64 z) false).run Tryz.prog (W.drewN q) = .ok (.pointer none) (W.drewN q) := fun q => SpMem.look_no gS a k K m (W.drewN q) (h1.far (w' := W.drewN q) (Nat.le_refl _) fun _ _ => rfl) wz hz
  have p0 : W.cell? ⟨w.heap.size, 0, none⟩ = some (.int .i64 z) := hbx.pl.cell 0
  have R := Lib.hid (show ∀ q, SpGo w gS a k K m (W.drewN q) from fun q => ⟨K, h.fresh (below_drewN hbx.bel q), Went.of_below (below_drewN hbx.bel q)⟩)
  clear h hbx h1 wz hz
  go_enter Tryz.func25, Tryz.ntmps25
  go_wp2_with fail
  go_quiet (first | (go_at_call 43; exact HA.out _))
  go_wp2_with fail
  go_ret
  exact ⟨rfl, R.out _⟩
set_option maxRecDepth 100000 in
set_option maxHeartbeats 1000000 in
theorem map_no (z : Int) (r : Ar) (h : SpMem w gS a k K m) (wz : W64 z) (hz : NoX m z) :
    Calls Tryz.prog 12 #[.pointer (some ⟨gS, 0, none⟩), .int .i64 z, .agg #[.int .i64 r.fr, .int .i64 r.pg, .bool r.w, .int .i64 r.kd, .int .i64 r.fl, .int .i64 r.ofs]] w (SpEnd w gS a k K (.int .i64 2) m) := by
  obtain ⟨W, hW⟩ : ∃ W, (w.alloc (.cells #[.int .i64 r.fr, .int .i64 r.pg, .bool r.w, .int .i64 r.kd, .int .i64 r.fl, .int .i64 r.ofs] 29)) = W := ⟨_, rfl⟩
  have hb : Below w.heap.size w W := by rw [← hW]; exact (belAl (Below.refl _ w) _)
  have HA := Lib.hid (fun fv => change_no gS a k K m W z fv (h.fresh hb) wz hz)
  have G := Lib.hid (Went.of_below (K := K) hb)
  clear h wz hz hb
  go_enter Tryz.func12, Tryz.ntmps12
  go_wp2_with fail
  refine (HA.out _).mono ?_
  rintro e w' ⟨rfl, h2⟩
  have R := Lib.hid (h2.from_ G.out)
  clear h2
  go_wp2_with fail
  go_ret
  exact ⟨rfl, R.out⟩
set_option maxRecDepth 100000 in
set_option maxHeartbeats 1000000 in
theorem unmap_no (z : Int) (f p : Int) (h : SpMem w gS a k K m) (wz : W64 z) (hz : NoX m z) :
    Calls Tryz.prog 17 #[.pointer (some ⟨gS, 0, none⟩), .int .i64 z, .int .i64 f, .int .i64 p] w (SpEnd w gS a k K (.int .i64 2) m) := by
  obtain ⟨W, hW⟩ : ∃ W, ((((w.alloc (.cells #[.pointer (some ⟨gS, 0, none⟩)] 24)).alloc (.cells #[.int .i64 z] 3)).alloc (.cells #[.int .i64 f] 3)).alloc (.cells #[.int .i64 p] 3)) = W := ⟨_, rfl⟩
  have hb : Below w.heap.size w W := by rw [← hW]; exact (belAl (belAl (belAl (belAl (Below.refl _ w) _) _) _) _)
  have HA := Lib.hid (fun fv => change_no gS a k K m W z fv (h.fresh hb) wz hz)
  have b0 : W.cell? ⟨w.heap.size, 0, none⟩ = some (.pointer (some ⟨gS, 0, none⟩)) := by rw [← hW]; exact ((((Blk.new w _ _).al _).al _).al _).cell 0
  have b1 : W.cell? ⟨w.heap.size + 1, 0, none⟩ = some (.int .i64 z) := by rw [← hW]; exact (((Blk.new1 w _ _ _).al _).al _).cell 0
  have G := Lib.hid (Went.of_below (K := K) hb)
  clear h wz hz hb
  go_enter Tryz.func17, Tryz.ntmps17
  go_wp2_with fail
  refine (HA.out _).mono ?_
  rintro e w' ⟨rfl, h2⟩
  have R := Lib.hid (h2.from_ G.out)
  clear h2
  go_wp2_with fail
  go_ret
  exact ⟨rfl, R.out⟩
set_option maxRecDepth 100000 in
set_option maxHeartbeats 1000000 in
theorem protect_no (z : Int) (f p : Int) (b : Bool) (h : SpMem w gS a k K m) (wz : W64 z) (hz : NoX m z) :
    Calls Tryz.prog 18 #[.pointer (some ⟨gS, 0, none⟩), .int .i64 z, .int .i64 f, .int .i64 p, .bool b] w (SpEnd w gS a k K (.int .i64 2) m) := by
  obtain ⟨W, hW⟩ : ∃ W, (((w.alloc (.cells #[.int .i64 f] 3)).alloc (.cells #[.int .i64 p] 3)).alloc (.cells #[.bool b] 4)) = W := ⟨_, rfl⟩
  have hb : Below w.heap.size w W := by rw [← hW]; exact (belAl (belAl (belAl (Below.refl _ w) _) _) _)
  have HA := Lib.hid (fun fv => change_no gS a k K m W z fv (h.fresh hb) wz hz)
  have G := Lib.hid (Went.of_below (K := K) hb)
  clear h wz hz hb
  go_enter Tryz.func18, Tryz.ntmps18
  go_wp2_with fail
  refine (HA.out _).mono ?_
  rintro e w' ⟨rfl, h2⟩
  have R := Lib.hid (h2.from_ G.out)
  clear h2
  go_wp2_with fail
  go_ret
  exact ⟨rfl, R.out⟩
end
end Go.Proofs.YtgjkdnpidobabaaGreat

namespace Go.Proofs.YtgjkdnpidobabaaGreat
open Go.RowKit
set_option linter.unusedVariables false

structure Pc3 where
  f : Nat
  at_ : Nat
  n : Nat
def pcL3 (p : Pc3) : List Value := [.int .i64 (p.f : Int), .int .i64 (p.at_ : Int), .int .i64 (p.n : Int)]
def flat3 (l : List Pc3) : List Value := l.flatMap pcL3
theorem flat3_snoc (l : List Pc3) (p : Pc3) : flat3 (l ++ [p]) = flat3 l ++ pcL3 p := by
  unfold flat3
  rw [List.flatMap_append]
  simp
theorem Tryz.infoPc3 : (Tryz.prog.info? 101).map (fun i => (i.zero, i.size, i.bytes)) = some (some (.agg #[.int .i64 0, .int .i64 0, .int .i64 0]), 3, 24) := by kernel_rfl
theorem Went.row {w V w5 : World} {K K2 : Nat → Prop} {row : Option Nat} (h : Went w K V K2) (hg : V.grownBy w5 row) (hr : ∀ j, row = some j → w.heap.size ≤ j) : Went w K w5 K2 :=
  ⟨h.nk, hg.os.trans h.tr.os, hg.tape.trans h.tr.tape, hg.output.trans h.tr.output, Nat.le_trans h.tr.size hg.size, fun j hj hn => (hg.block j (Nat.lt_of_lt_of_le hj h.tr.size) fun e => by have := hr j e.symm; omega).trans (h.tr.block j hj hn)⟩
section
variable (gS : Nat) (a : SpA) (k : SpK) (K : Nat → Prop) (m : SpM) (w : World)
def AskAt (w : World) (gS : Nat) (a : SpA) (k : SpK) (K : Nat → Prop) (J : Nat → Nat → List Pc3 → SpM → Prop) (x rem : Nat) (v : Value) (wr : World) : Prop :=
  ∃ ps m' K', J x rem ps m' ∧ SpMem wr gS a k K' m' ∧ Went w K wr K' ∧ RowAt wr w.heap.size 3 v ps.length (flat3 ps) ∧ (∀ j, v.ownBlock = some j → ¬ K' j) ∧ ps.length + rem ≤ 64
theorem AskAt.below {J : Nat → Nat → List Pc3 → SpM → Prop} {x rem : Nat} {v : Value} {wr V : World} (h : AskAt w gS a k K J x rem v wr) (hb : Below wr.heap.size wr V) : AskAt w gS a k K J x rem v V := by
  obtain ⟨ps, m', K', h1, h2, h3, h4, h5, h6⟩ := h
  exact ⟨ps, m', K', h1, h2.fresh hb, h3.below hb, h4.fresh hb, h5, h6⟩
set_option maxRecDepth 100000 in
set_option maxHeartbeats 4000000 in
theorem ask_go (J : Nat → Nat → List Pc3 → SpM → Prop) (n : Nat) (y : SpX) (x len : Nat) (wb : Bool) (h : SpMem w gS a k K m) (hy : m.x n = some y) (hl : len ≤ 64) (hx : x + len ≤ 262144) (h0 : J x len [] m)
    (hstep : ∀ at_ rem ps m' V K', J at_ rem ps m' → 0 < rem → rem ≤ 64 → at_ + rem ≤ 262144 → SpMem V gS a k K' m' → Calls Tryz.prog 83 #[.pointer (some ⟨gS, 0, none⟩), .agg #[.int .i64 (n : Int), .int .i64 ((at_ / 64 : Nat) : Int)], .bool wb] V fun e w' => ∃ (f : Nat) (m'' : SpM), J (at_ + min rem (64 - at_ % 64)) (rem - min rem (64 - at_ % 64)) (ps ++ [⟨f, at_ % 64, min rem (64 - at_ % 64)⟩]) m'' ∧ SpEnd V gS a k K' (.tuple #[.int .i64 (f : Int), .int .i64 0]) m'' e w') :
    Calls Tryz.prog 38 #[.pointer (some ⟨gS, 0, none⟩), .int .i64 (n : Int), .int .i64 (x : Int), .int .i64 (len : Int), .bool wb] w fun e w' => ∃ v, e = .returned (.tuple #[v, .int .i64 0]) ∧ AskAt w gS a k K J (x + len) 0 v w' := by
  have LQ := (SpMem.look_ gS a k K m w h hy).look
  have HA := Lib.hid (all_sp gS w k.M (h.cells.cell 6))
  obtain ⟨iP, hiP, hz0, hz1, hz2⟩ := info_parts Tryz.infoPc3
  have HIP := Lib.hid hiP
  have HZ := Lib.hid (And.intro hz0 (And.intro hz1 hz2))
  have HS := Lib.hid hstep
  have H0 := Lib.hid (show AskAt w gS a k K J x len (.slice none 0 0) w from ⟨[], m, K, h0, h, Went.refl _ _, RowAt.nil_ _ _ _, (fun j hj => by cases hj), by simpa using hl⟩)
  have HXL := Lib.hid (And.intro hl hx)
  clear hiP hz0 hz1 hz2 hstep h hy h0
  go_enter Tryz.func38, Tryz.ntmps38
  go_wp2_with fail
  refine HA.out.mono ?_
  rintro e w' ⟨rfl, hw⟩
  subst w'
  have t1 : decide ((len : Int) < 0) = false := decide_eq_false (by omega)
  have t2 : decide ((64 : Int) < (len : Int)) = false := decide_eq_false (by omega)
  have t3 : decide ((x : Int) < 0) = false := decide_eq_false (by omega)
  have t4 : decide ((262144 : Int) - (len : Int) < (x : Int)) = false := decide_eq_false (by omega)
  go_wp2_with fail
  go_loopg [2, 3, 12] len (fun gg s2 s3 s12 wr => ∃ at_ : Nat, at_ + gg = x + len ∧ s2 = .int .i64 (at_ : Int) ∧ s3 = .int .i64 (gg : Int) ∧ AskAt w gS a k K J at_ gg s12 wr)
  case atStart => exact ⟨x, rfl, rfl, rfl, H0.out⟩
  case round =>
    obtain ⟨at_, hat, rfl, rfl, hr⟩ := hrel
    obtain ⟨s12, hs12, hr⟩ : ∃ u, u = _ ∧ AskAt w gS a k K J at_ gk u wr := ⟨_, rfl, hr⟩
    subst hs12
    obtain ⟨ps, m', K', hJ, h1, g1, hrow, hoff, hn⟩ := hr
    by_cases hg : gk = 0
    · subst hg
      obtain rfl : at_ = x + len := by omega
      have R := Lib.hid (show AskAt w gS a k K J (x + len) 0 s12 wr from ⟨ps, m', K', hJ, h1, g1, hrow, hoff, hn⟩)
      clear hJ h1 g1 hrow hoff hn hat
      go_wp2_with fail
      go_ret2
      exact ⟨_, rfl, R.out⟩
    · have hg0 : 0 < gk := by omega
      have hgl : gk ≤ 64 := by omega
      have hxl := HXL.out.2
      obtain ⟨q, hq⟩ : ∃ q, q = at_ / 64 := ⟨_, rfl⟩
      obtain ⟨fr, hfr⟩ : ∃ fr, fr = at_ % 64 := ⟨_, rfl⟩
      have hfr64 : fr < 64 := by omega
      obtain ⟨c, hc⟩ : ∃ c, c = min gk (64 - fr) := ⟨_, rfl⟩
      have hc1 : c ≤ gk := by omega
      have hc2 : 0 < c := by omega
      have hc3 : c + fr ≤ 64 := by omega
      have CP := Lib.hid (HS.out at_ gk ps m' wr K' hJ hg0 hgl (by omega) h1)
      rw [← hq, ← hfr, ← hc] at CP
      have G1 := Lib.hid g1
      have RW := Lib.hid hrow
      have OFF := Lib.hid hoff
      have HN := Lib.hid hn
      have t1 : decide ((0 : Int) < (gk : Int)) = true := decide_eq_true (by omega)
      have t2 : (at_ : Int) / 64 = (q : Int) := by omega
      have t2' : (at_ : Int).tdiv 64 = (q : Int) := by rw [Int.tdiv_eq_ediv_of_nonneg (by omega)]; omega
      have t3 : (at_ : Int) % 64 = (fr : Int) := by omega
      have t3' : (at_ : Int).tmod 64 = (fr : Int) := by rw [Int.tmod_eq_emod_of_nonneg (by omega)]; omega
      have t6 : IntKind.i64.wrap ((at_ : Int) + (c : Int)) = ((at_ + c : Nat) : Int) := by rw [IntKind.wrap_i64]; omega
      have t7 : IntKind.i64.wrap ((gk : Int) - (c : Int)) = ((gk - c : Nat) : Int) := by rw [IntKind.wrap_i64]; omega
      have HQF := Lib.hid (And.intro hq hfr)
      have HCI := Lib.hid (show min (gk : Int) (64 - (fr : Int)) = (c : Int) from by omega)
      clear hJ h1 g1 hrow hoff hn hq hfr hc
      go_wp2_with fail
      refine CP.out.mono ?_
      rintro e w2 ⟨f, m2, hJ2, rfl, K2, h2, g2⟩
      go_upto_region 12 with fail
      rw [HCI.out]
      have hwr : ∀ b, s12.ownBlock = some b → w.heap.size ≤ b ∧ b < wr.heap.size := RW.out.lt
      have off2 : ∀ b, s12.ownBlock = some b → ¬ K2 b := fun b hb hk => by
        rcases g2.nk b hk with c1 | c1
        · exact OFF.out b hb c1
        · have := (hwr b hb).2; omega
      have RW2 := RW.out.keep (w' := w2) (fun b hb => g2.tr.block b (hwr b hb).2 (OFF.out b hb)) g2.tr.size
      have hbV : Below w2.heap.size w2 ((w2.alloc (.cells #[.int .i64 (f : Int), .int .i64 (fr : Int), .int .i64 (c : Int)] 101)).alloc (.cells #[.int .i64 (f : Int), .int .i64 (fr : Int), .int .i64 (c : Int)] 101)) := belAl (belAl (Below.refl _ w2) _) _
      have ROW := Lib.hid (RW2.fresh hbV)
      have hbx : Blk ((w2.alloc (.cells #[.int .i64 (f : Int), .int .i64 (fr : Int), .int .i64 (c : Int)] 101)).alloc (.cells #[.int .i64 (f : Int), .int .i64 (fr : Int), .int .i64 (c : Int)] 101)) w2.heap.size 101 #[.int .i64 (f : Int), .int .i64 (fr : Int), .int .i64 (c : Int)] := (Blk.new w2 _ _).al _
      have HNEW := Lib.hid (show ∀ (j : Nat) (u : Value), (pcL3 ⟨f, fr, c⟩)[j]? = some u → ((w2.alloc (.cells #[.int .i64 (f : Int), .int .i64 (fr : Int), .int .i64 (c : Int)] 101)).alloc (.cells #[.int .i64 (f : Int), .int .i64 (fr : Int), .int .i64 (c : Int)] 101)).cell? ((⟨w2.heap.size + 1, 0, none⟩ : Addr).add j) = some u from fun j u hj => by
        have := cells_new (w2.alloc (.cells #[.int .i64 (f : Int), .int .i64 (fr : Int), .int .i64 (c : Int)] 101)) 101 (pcL3 ⟨f, fr, c⟩) j u hj
        rw [World.size_alloc] at this
        exact this)
      have HONE := Lib.hid (show ∀ u ∈ pcL3 ⟨f, fr, c⟩, u.oneCell' = true from fun u hu => by
        simp only [pcL3, List.mem_cons, List.not_mem_nil, or_false] at hu
        rcases hu with rfl | rfl | rfl <;> rfl)
      have HQ1 := Lib.hid (show ps.length + 1 ≤ maxLen from by have := HN.out; unfold maxLen; omega)
      have HQ2 := Lib.hid (show (ps.length + 1) * 24 ≤ 140737488355328 from by have := HN.out; omega)
      have HQ3 := Lib.hid (show w.heap.size ≤ ((w2.alloc (.cells #[.int .i64 (f : Int), .int .i64 (fr : Int), .int .i64 (c : Int)] 101)).alloc (.cells #[.int .i64 (f : Int), .int .i64 (fr : Int), .int .i64 (c : Int)] 101)).heap.size from by have := hbV.size; have := g2.tr.size; have := G1.out.tr.size; omega)
      have HBX := Lib.hid hbx
      have H2 := Lib.hid (h2.fresh hbV)
      have G2 := Lib.hid ((G1.out.trans g2).below hbV)
      have HWR := Lib.hid hwr
      have OFF2 := Lib.hid off2
      have HJ2 := Lib.hid hJ2
      have HSZ := Lib.hid (show wr.heap.size ≤ w2.heap.size ∧ w2.heap.size < ((w2.alloc (.cells #[.int .i64 (f : Int), .int .i64 (fr : Int), .int .i64 (c : Int)] 101)).alloc (.cells #[.int .i64 (f : Int), .int .i64 (fr : Int), .int .i64 (c : Int)] 101)).heap.size ∧ ∀ b, K2 b → b < w2.heap.size from ⟨g2.tr.size, by rw [World.size_alloc, World.size_alloc]; omega, h2.lt⟩)
      clear hwr off2 RW2 hbV hbx h2 g2 hJ2
      go_wp2_with ((refine wpList_append_at rfl (.tmp 62) (.tmp 64) 96 rfl w.heap.size 101 iP (.agg #[.int .i64 0, .int .i64 0, .int .i64 0]) 3 24 Tryz.underlying96 HIP.out HZ.out.1 HZ.out.2.1 HZ.out.2.2 rfl (by decide) _ ps.length (flat3 ps) rfl ROW.out ⟨w2.heap.size + 1, 0, none⟩ 1 (pcL3 ⟨f, fr, c⟩) rfl rfl HNEW.out HONE.out HQ1.out HQ2.out HQ3.out ?_; intro v5 w5 hr5 hg5 ho5))
      have hrg : ∀ b, s12.ownBlock = some b → w.heap.size ≤ b := fun b hb => (HWR.out b hb).1
      have h5 : SpMem w5 gS a k K2 m2 := H2.out.far hg5.size fun b hb => hg5.block b (H2.out.lt b hb) fun e => OFF2.out b e.symm hb
      have g5 : Went w K w5 K2 := G2.out.row hg5 hrg
      have hbx5 : Blk w5 w2.heap.size 101 #[.int .i64 (f : Int), .int .i64 (fr : Int), .int .i64 (c : Int)] := (hg5.block _ HBX.out.lt fun e => by have := (HWR.out _ e.symm).2; have := HSZ.out.1; omega).trans HBX.out
      have off5 : ∀ b, v5.ownBlock = some b → ¬ K2 b := fun b hb hk => by
        rcases ho5 with c1 | c1
        · exact OFF2.out b (c1 ▸ hb) hk
        · have h1 := c1 b hb
          have h2 := HSZ.out.2.2 b hk
          have h3 := HSZ.out.2.1
          omega
      have z2 : w5.cell? ⟨w2.heap.size, 2, none⟩ = some (.int .i64 (c : Int)) := hbx5.cell 2
      have A5 := Lib.hid (show AskAt w gS a k K J (at_ + c) (gk - c) v5 w5 from ⟨ps ++ [⟨f, fr, c⟩], m2, K2, HJ2.out, h5, g5, by rw [List.length_append, flat3_snoc]; exact hr5, off5, by rw [List.length_append]; simp only [List.length_singleton]; have := HN.out; omega⟩)
      clear hrg h5 g5 hbx5 off5 hr5 hg5 ho5
      go_wp2_with fail
      go_quiet (fail)
      go_wp2_with fail
      go_roundg (gk - c)
      case measure => omega
      case rel => exact ⟨at_ + c, by omega, by go_num, rfl, A5.out.below gS a k K w (below_drewN (Below.refl _ _) _)⟩
end
end Go.Proofs.YtgjkdnpidobabaaGreat

namespace Go.Proofs.YtgjkdnpidobabaaGreat
open Go.RowKit
set_option linter.unusedVariables false
theorem flat3_at {l : List Pc3} {j : Nat} {p : Pc3} (h : l[j]? = some p) (i : Nat) (u : Value) (hu : (pcL3 p)[i]? = some u) : (flat3 l)[j * 3 + i]? = some u := by
  induction l generalizing j with
  | nil => simp at h
  | cons a l ih =>
    show (pcL3 a ++ flat3 l)[j * 3 + i]? = some u
    have hi : i < 3 := (List.getElem?_eq_some_iff.1 hu).1
    cases j with
    | zero =>
      rw [List.getElem?_append_left (by show 0 * 3 + i < 3; omega), Nat.zero_mul, Nat.zero_add]
      simp at h
      rw [h]
      exact hu
    | succ j =>
      rw [List.getElem?_append_right (by show 3 ≤ _; omega), show (j + 1) * 3 + i - (pcL3 a).length = j * 3 + i by show (j + 1) * 3 + i - 3 = _; omega]
      exact ih (by simpa using h)
def bytes3 (F : Nat → List Nat) (l : List Pc3) : List Nat := l.flatMap fun p => win (F p.f) p.at_ p.n
theorem bytes3_take {F : Nat → List Nat} {l : List Pc3} {i : Nat} {p : Pc3} (h : l[i]? = some p) : bytes3 F (l.take (i + 1)) = bytes3 F (l.take i) ++ win (F p.f) p.at_ p.n := by
  unfold bytes3
  rw [List.take_add_one, h, List.flatMap_append]
  simp
theorem bytes3_byte {F : Nat → List Nat} {l : List Pc3} (h : ∀ p ∈ l, ∀ y ∈ win (F p.f) p.at_ p.n, y < 256) : ∀ y ∈ bytes3 F l, y < 256 := by
  intro y hy
  unfold bytes3 at hy
  rw [List.mem_flatMap] at hy
  obtain ⟨p, hp, hy⟩ := hy
  exact h p hp y hy
theorem bytes3_few {F : Nat → List Nat} {l : List Pc3} (h : ∀ p ∈ l, p.n ≤ 64) : (bytes3 F l).length ≤ 64 * l.length := by
  induction l with
  | nil => exact Nat.zero_le _
  | cons p l ih =>
    have e : bytes3 F (p :: l) = win (F p.f) p.at_ p.n ++ bytes3 F l := rfl
    rw [e, List.length_append, List.length_cons]
    have h1 := ih fun q hq => h q (List.mem_cons_of_mem _ hq)
    have h2 : (win (F p.f) p.at_ p.n).length ≤ p.n := by unfold win; simp; omega
    have h3 := h p List.mem_cons_self
    omega
section
variable (gS : Nat) (a : SpA) (k : SpK) (K : Nat → Prop) (m : SpM) (w : World)
set_option maxRecDepth 100000 in
set_option maxHeartbeats 4000000 in
theorem read_go (ps : List Pc3) (B : Nat) (v : Value) (h : SpMem w gS a k K m) (hrow : RowAt w B 3 v ps.length (flat3 ps)) (hn : ps.length ≤ 64) (hps : ∀ p ∈ ps, p.f < 1024 ∧ p.at_ + p.n ≤ 64) (hb : NoBad m.bad) :
    Calls Tryz.prog 39 #[.pointer (some ⟨gS, 0, none⟩), v] w fun e w' => ∃ u, e = .returned (.tuple #[u, .int .i64 0]) ∧ Bts w' w'.heap.size u (bytes3 m.F ps) ∧ NewV w u ∧ Below w.heap.size w w' := by
  obtain ⟨iU, hiU, hz0, hz1, hz2⟩ := info_parts Tryz.info8
  have HIU := Lib.hid hiU
  have HZ := Lib.hid (And.intro hz0 (And.intro hz1 hz2))
  have H := Lib.hid h
  have HR := Lib.hid hrow
  have HN := Lib.hid hn
  have HPS := Lib.hid hps
  have HBD := Lib.hid hb
  obtain ⟨A, c, hv, hnc⟩ := hrow.len
  subst hv
  obtain ⟨N, hN⟩ : ∃ N, N = ps.length := ⟨_, rfl⟩
  rw [← hN] at HR HN hnc hrow ⊢
  have HNN := Lib.hid hN
  clear hiU hz0 hz1 hz2 h hrow hn hps hb hN
  go_enter Tryz.func39, Tryz.ntmps39
  go_wp2_with fail
  go_loopg [6, 13] N (fun gg s6 s13 wr => ∃ i : Nat, i + gg = N ∧ s13 = .int .i64 (i : Int) ∧ Below w.heap.size w wr ∧ wr.ownsRow w.heap.size 5 1 s6 (bytes3 m.F (ps.take i)).length ((bytes3 m.F (ps.take i)).map bv))
  case atStart => exact ⟨0, by omega, rfl, Below.refl _ _, World.ownsRow_nil _ _ _ _⟩
  case round =>
    obtain ⟨i, hig, rfl, hbr, how⟩ := hrel
    obtain ⟨s6, hs6, how⟩ : ∃ u, u = _ ∧ wr.ownsRow w.heap.size 5 1 u (bytes3 m.F (ps.take i)).length ((bytes3 m.F (ps.take i)).map bv) := ⟨_, rfl, how⟩
    subst hs6
    have BR := Lib.hid hbr
    have OW := Lib.hid how
    by_cases hlt : i < N
    · have t4 : decide ((i : Int) < (N : Int)) = true := decide_eq_true (by omega)
      have t5 : (i : Int) < (N : Int) := by omega
      have t6 : (0 : Int) ≤ (i : Int) := by omega
      have hix : i < ps.length := by have := HNN.out; omega
      obtain ⟨p, hp⟩ : ∃ p, ps[i]? = some p := ⟨_, List.getElem?_eq_getElem hix⟩
      have hpp := HPS.out p (List.mem_of_getElem? hp)
      have HP := Lib.hid hp
      have RW := Lib.hid (HR.out.fresh hbr)
      obtain ⟨g, o, cap, hvv, hcc, hat⟩ := RW.out.some_ (by omega)
      injection hvv with q1 q2 q3
      subst q1
      subst q3
      have hgl : g < wr.heap.size := (RW.out.lt g rfl).2
      have a0 : wr.cell? ⟨g, o + i * 3, none⟩ = some (.int .i64 (p.f : Int)) := hat (i * 3 + 0) _ (flat3_at hp 0 _ rfl)
      have a1 : wr.cell? ⟨g, o + i * 3 + 1, none⟩ = some (.int .i64 (p.at_ : Int)) := by rw [Nat.add_assoc]; exact hat (i * 3 + 1) _ (flat3_at hp 1 _ rfl)
      have a2 : wr.cell? ⟨g, o + i * 3 + 2, none⟩ = some (.int .i64 (p.n : Int)) := by rw [Nat.add_assoc]; exact hat (i * 3 + 2) _ (flat3_at hp 2 _ rfl)
      obtain ⟨hpf, hpn⟩ := hpp
      have hW : Below w.heap.size w (wr.alloc (.cells #[.int .i64 (p.f : Int), .int .i64 (p.at_ : Int), .int .i64 (p.n : Int)] 101)) := belAl hbr _
      have hD := (H.out.fresh hW).drew
      have c0 : (wr.alloc (.cells #[.int .i64 (p.f : Int), .int .i64 (p.at_ : Int), .int .i64 (p.n : Int)] 101)).cell? ⟨gS, 0, none⟩ = some (.pointer (some ⟨a.R, 0, none⟩)) := hD.cells.cell 0
      have bx : Blk (wr.alloc (.cells #[.int .i64 (p.f : Int), .int .i64 (p.at_ : Int), .int .i64 (p.n : Int)] 101)) wr.heap.size 101 #[.int .i64 (p.f : Int), .int .i64 (p.at_ : Int), .int .i64 (p.n : Int)] := Blk.new wr _ _
      have x0 : (wr.alloc (.cells #[.int .i64 (p.f : Int), .int .i64 (p.at_ : Int), .int .i64 (p.n : Int)] 101)).cell? ⟨wr.heap.size, 0, none⟩ = some (.int .i64 (p.f : Int)) := bx.cell 0
      have x1 : (wr.alloc (.cells #[.int .i64 (p.f : Int), .int .i64 (p.at_ : Int), .int .i64 (p.n : Int)] 101)).cell? ⟨wr.heap.size, 1, none⟩ = some (.int .i64 (p.at_ : Int)) := bx.cell 1
      have x2 : (wr.alloc (.cells #[.int .i64 (p.f : Int), .int .i64 (p.at_ : Int), .int .i64 (p.n : Int)] 101)).cell? ⟨wr.heap.size, 2, none⟩ = some (.int .i64 (p.n : Int)) := bx.cell 2
      have RD := Lib.hid (show Calls Tryz.prog 84 #[.pointer (some ⟨a.R, 0, none⟩), .int .i64 (p.f : Int), .int .i64 (p.at_ : Int), .int .i64 (p.n : Int)] (wr.alloc (.cells #[.int .i64 (p.f : Int), .int .i64 (p.at_ : Int), .int .i64 (p.n : Int)] 101)).drew fun e w' => ∃ gb, e = .returned (.tuple #[.slice (some ⟨gb, 0, none⟩) p.n p.n, .int .i64 0]) ∧
          (w'.cell? ⟨gS, 0, none⟩ = some (.pointer (some ⟨a.R, 0, none⟩)) ∧ w'.cell? ⟨wr.heap.size, 0, none⟩ = some (.int .i64 (p.f : Int)) ∧ w'.cell? ⟨wr.heap.size, 1, none⟩ = some (.int .i64 (p.at_ : Int)) ∧ w'.cell? ⟨wr.heap.size, 2, none⟩ = some (.int .i64 (p.n : Int))) ∧
          Bts w' w'.heap.size (.slice (some ⟨gb, 0, none⟩) p.n p.n) (win (m.F p.f) p.at_ p.n) ∧ Below wr.heap.size wr w' from
        (read_yes a.R a.F 1024 m.F m.bad p.f p.at_ p.n _ hD.ramP.1 hpf hpn (HBD.out p.f hpf)).mono (by
          rintro e w2 ⟨rfl, hb, hbel, hsz⟩
          have q := hD.fresh hbel
          have q2 : Blk w2 wr.heap.size 101 #[.int .i64 (p.f : Int), .int .i64 (p.at_ : Int), .int .i64 (p.n : Int)] := (show Blk (World.drew (wr.alloc (.cells #[.int .i64 (p.f : Int), .int .i64 (p.at_ : Int), .int .i64 (p.n : Int)] 101))) wr.heap.size 101 #[.int .i64 (p.f : Int), .int .i64 (p.at_ : Int), .int .i64 (p.n : Int)] from bx).below hbel bx.lt
          have hlen := win_length (m.F p.f) p.at_ p.n (by have := hD.ramP.1.long hpf; omega)
          have hbyte := (hD.ramP.1.bts (B := a.F + 1) hpf hpn (fun _ => rfl) (Nat.lt_succ_self _)).byte
          exact ⟨_, rfl, ⟨q.cells.cell 0, q2.cell 0, q2.cell 1, q2.cell 2⟩, Bts.of_whole hb hlen (by unfold maxLen; omega) hbyte, ((belAl (Below.refl _ wr) _).drew).trans (hbel.mono (by show wr.heap.size ≤ (wr.alloc _).heap.size; rw [World.size_alloc]; omega))⟩))
      have HL := Lib.hid (win_length (m.F p.f) p.at_ p.n (by have := hD.ramP.1.long hpf; omega))
      have HPF := Lib.hid (And.intro hpf hpn)
      clear hbr how hp hat hix hW hD bx hpf hpn
      go_wp2_with fail
      go_region_held3 (fun w' => w'.cell? ⟨gS, 0, none⟩ = some (.pointer (some ⟨a.R, 0, none⟩)) ∧ w'.cell? ⟨wr.heap.size, 0, none⟩ = some (.int .i64 (p.f : Int)) ∧ w'.cell? ⟨wr.heap.size, 1, none⟩ = some (.int .i64 (p.at_ : Int)) ∧ w'.cell? ⟨wr.heap.size, 2, none⟩ = some (.int .i64 (p.n : Int)))
        (first | assumption | exact ⟨c0, x0, x1, x2⟩)
        ((go_at_call 84; refine RD.out.mono ?_; rintro e w' ⟨gb, rfl, hS, hbb, hbl⟩))
      have OW2 := Lib.hid (own_freshA OW.out hbl)
      have HB := Lib.hid hbb
      have HBL := Lib.hid hbl
      have HLN := Lib.hid (show (bytes3 m.F (ps.take i)).length ≤ 4096 from by
        have h1 := bytes3_few (F := m.F) (l := ps.take i) fun q hq => by have := (HPS.out q (List.mem_of_mem_take hq)).2; omega
        have h2 : (ps.take i).length ≤ i := by rw [List.length_take]; omega
        have h3 := HN.out
        omega)
      have HW0 := Lib.hid (show w.heap.size ≤ w'.heap.size from Nat.le_trans BR.out.size hbl.size)
      clear hbb hbl hS c0 x0 x1 x2
      go_wp2_with (at_builtin; refine wpList_append_bts rfl (.tmp 34) (.tmp 35) 22 rfl w.heap.size 5 iU Tryz.underlying22 HIU.out HZ.out.1 HZ.out.2.1 HZ.out.2.2 _ _ _ rfl OW2.out _ (win (m.F p.f) p.at_ p.n) rfl _ HB.out (by rw [HL.out]; have := HLN.out; have := HPF.out.2; omega) HW0.out ?_; intro v3 w3 O3 B3)
      have O4 : w3.ownsRow w.heap.size 5 1 v3 (bytes3 m.F (ps.take (i + 1))).length ((bytes3 m.F (ps.take (i + 1))).map bv) := by
        rw [bytes3_take HP.out, List.length_append]
        exact O3.out
      have B4 : Below w.heap.size w w3 := (BR.out.trans (HBL.out.mono BR.out.size)).trans B3.out
      have O5 := Lib.hid O4
      have B5 := Lib.hid B4
      clear O4 B4
      go_wp2_with fail
      go_roundg (N - (i + 1))
      case measure => omega
      case rel => exact ⟨i + 1, by omega, congrArg (Value.int .i64) (by have := HN.out; simp only [wrap64]; omega), B5.out, O5.out⟩
    · have hiN : i = N := by omega
      subst hiN
      have t4 : decide ((i : Int) < (i : Int)) = false := decide_eq_false (by omega)
      have FIN := Lib.hid (show Bts wr wr.heap.size s6 (bytes3 m.F ps) ∧ NewV w s6 ∧ Below w.heap.size w wr from by
        have e : ps.take i = ps := List.take_of_length_le (by have := HNN.out; omega)
        have ho := OW.out
        rw [e] at ho
        have hM := (H.out.fresh BR.out).ramP.1
        refine ⟨Bts.of_own ho (bytes3_byte fun p hp => ?_), fun x n c hv hn => own_new ho (Nat.le_refl _) x n c hv, BR.out⟩
        have h1 := HPS.out p hp
        exact (hM.bts (B := a.F + 1) h1.1 h1.2 (fun _ => rfl) (Nat.lt_succ_self _)).byte)
      clear hbr how
      go_wp2_with fail
      go_ret2
      exact ⟨_, rfl, FIN.out⟩
end
end Go.Proofs.YtgjkdnpidobabaaGreat

namespace Go.Proofs.YtgjkdnpidobabaaGreat
open Go.RowKit
set_option linter.unusedVariables false
section
variable (gS : Nat) (a : SpA) (k : SpK) (K : Nat → Prop) (m : SpM) (w : World)
def ReadOk (J : Nat → Nat → List Pc3 → SpM → Prop) (x : Nat) : Prop := ∀ ps m, J x 0 ps m → NoBad m.bad ∧ ∀ p ∈ ps, p.f < 1024 ∧ p.at_ + p.n ≤ 64
set_option maxRecDepth 100000 in
set_option maxHeartbeats 4000000 in
theorem loads_go (J : Nat → Nat → List Pc3 → SpM → Prop) (n : Int) (x len : Nat)
    (hA : Calls Tryz.prog 38 #[.pointer (some ⟨gS, 0, none⟩), .int .i64 n, .int .i64 (x : Int), .int .i64 (len : Int), .bool false] w fun e w' => ∃ v, e = .returned (.tuple #[v, .int .i64 0]) ∧ AskAt w gS a k K J (x + len) 0 v w')
    (hJ : ReadOk J (x + len)) :
    Calls Tryz.prog 15 #[.pointer (some ⟨gS, 0, none⟩), .int .i64 n, .int .i64 (x : Int), .int .i64 (len : Int)] w fun e w' => ∃ (u : Value) (ps : List Pc3) (m' : SpM) (K' : Nat → Prop), e = .returned (.tuple #[u, .int .i64 0]) ∧ J (x + len) 0 ps m' ∧ Bts w' w'.heap.size u (bytes3 m'.F ps) ∧ Off K' u ∧ SpMem w' gS a k K' m' ∧ Went w K w' K' := by
  have HA := Lib.hid hA
  have HJ := Lib.hid hJ
  clear hA hJ
  go_enter Tryz.func15, Tryz.ntmps15
  go_wp2_with fail
  refine HA.out.mono ?_
  rintro e w2 ⟨v, rfl, ps, m', K', hj, h2, g2, hrow, hoff, hn⟩
  obtain ⟨hb, hps⟩ := HJ.out ps m' hj
  have RD := Lib.hid (show Calls Tryz.prog 39 #[.pointer (some ⟨gS, 0, none⟩), v] w2 fun e w' => ∃ u : Value, e = .returned (.tuple #[u, .int .i64 0]) ∧ (J (x + len) 0 ps m' ∧ Bts w' w'.heap.size u (bytes3 m'.F ps) ∧ Off K' u ∧ SpMem w' gS a k K' m' ∧ Went w K w' K') from
    (read_go gS a k K' m' w2 ps w.heap.size v h2 hrow (by omega) hps hb).mono (by
      rintro e w3 ⟨u, rfl, q1, q2, q3⟩
      exact ⟨u, rfl, hj, q1, fun b o s n c he h0 hk => by have h5 : w2.heap.size ≤ b := q2 _ _ _ he h0; have := h2.lt b hk; omega, h2.fresh q3, g2.below q3⟩))
  obtain ⟨A, c, hv, -⟩ := hrow.len
  subst hv
  clear h2 g2 hrow hoff hn hb hps
  go_wp2_with fail
  refine RD.out.mono ?_
  rintro e w3 ⟨u, rfl, hR⟩
  have R := Lib.hid hR
  clear hR
  go_wp2_with fail
  go_ret2
  exact ⟨u, ps, m', K', rfl, R.out⟩
end
end Go.Proofs.YtgjkdnpidobabaaGreat

namespace Go.Proofs.YtgjkdnpidobabaaGreat
open Go.RowKit
set_option linter.unusedVariables false
section
variable (gS : Nat) (a : SpA) (k : SpK) (K : Nat → Prop) (m : SpM) (w : World)
end
end Go.Proofs.YtgjkdnpidobabaaGreat

namespace Go.Proofs.YtgjkdnpidobabaaGreat
open Go.RowKit
set_option linter.unusedVariables false

def IsBlk (v : Value) (j : Nat) : Prop := ∃ a n c, v = .slice (some a) n c ∧ a.block = j
theorem PartOk.setV {w : World} {gS : Nat} {a : SpA} {k : SpK} {m : SpM} {Ki : Nat → Prop} {i : Prt} {n : Nat} {v : Value} (h : PartOk w gS a k m Ki i) (hi : i ≠ .ar n) : PartOk w gS a (k.setV n v) m Ki i := by
  cases i with
  | ar n' =>
    intro y hy
    have e : upd k.v n v n' = k.v n' := upd_other _ _ _ fun e => hi (by rw [e])
    obtain ⟨h1, h2, h3, h4⟩ := h y hy
    refine ⟨?_, h2, ?_, ?_⟩
    · show Blk w (k.X n') _ #[_, upd k.v n v n', _]
      rw [e]; exact h1
    · show Ars w w.heap.size (upd k.v n v n') y.a
      rw [e]; exact h3
    · show InK Ki (upd k.v n v n')
      rw [e]; exact h4
  | _ => exact h
section
variable {w w0 : World} {gS : Nat} {a : SpA} {k : SpK} {K K0 : Nat → Prop} {m : SpM} {n : Nat} {y : SpX}
theorem SpMem.areaP (h : SpMem w gS a k K m) (hy : m.x n = some y) {v : Value} {l : List Ar} (hA : Ars w w.heap.size v l) (hoff : ∀ j, IsBlk v j → ¬ K j ∧ w0.heap.size ≤ j ∧ j < w.heap.size) (g : Went w0 K0 w K) :
    SpGo w0 gS a (k.setV n v) K0 (m.setX n (some ⟨y.t, l, y.q⟩)) (w.setCell ⟨k.X n, 1, none⟩ v) := by
  obtain ⟨κ, rfl, h⟩ := h
  obtain ⟨b1, b2, b3, b4⟩ := h.ok (.ar n) y hy
  have ho : Only (k.X n) w (w.setCell ⟨k.X n, 1, none⟩ v) := (Only.refl _ _).setCell 1 v
  have hne : ∀ i j, κ i j → i ≠ .ar n → j ≠ k.X n := fun i j hj hi e => hi (h.dis i (.ar n) j hj (e ▸ b2))
  have hsz : (w.setCell ⟨k.X n, 1, none⟩ v).heap.size = w.heap.size := ho.2
  have hin : SpIn (w.setCell ⟨k.X n, 1, none⟩ v) gS a (k.setV n v) (updI κ (fun i => i = .ar n) fun _ j => κ (.ar n) j ∨ IsBlk v j) (m.setX n (some ⟨y.t, l, y.q⟩)) := by
    refine ⟨fun i j hj => ?_, fun i i' j h1 h2 => ?_, x8_upd h.x8 hy, fun i => ?_⟩
    · rw [hsz]
      rcases hj with ⟨_, hj | hj⟩ | ⟨_, hj⟩
      · exact h.lt _ j hj
      · exact (hoff j hj).2.2
      · exact h.lt _ j hj
    · rcases h1 with ⟨rfl, h1 | h1⟩ | ⟨c1, h1⟩ <;> rcases h2 with ⟨rfl, h2 | h2⟩ | ⟨c2, h2⟩
      · rfl
      · rfl
      · exact h.dis _ _ j h1 h2
      · rfl
      · rfl
      · exact absurd ⟨_, h2⟩ (hoff j h1).1
      · exact h.dis _ _ j h1 h2
      · exact absurd ⟨_, h1⟩ (hoff j h2).1
      · exact h.dis _ _ j h1 h2
    · by_cases c : i = .ar n
      · subst c
        rw [updI_in (I := fun i => i = .ar n) rfl]
        intro z hz
        have : upd m.x n (some ⟨y.t, l, y.q⟩) n = some z := hz
        rw [upd_same] at this
        obtain rfl := Option.some.inj this
        have ev : (k.setV n v).v n = v := upd_same _ _ _
        refine ⟨?_, .inl b2, ?_, ?_⟩
        · rw [ev]; exact b1.set_ 1 v
        · rw [ev, hsz]
          exact hA.kept (Ki := IsBlk v) (fun a n' c' e => ⟨a, n', c', e, rfl⟩) fun j hj => ho.1.block j (hoff j hj).2.2 fun e => (hoff j hj).1 (by injection e with e; exact e ▸ ⟨_, b2⟩)
        · rw [ev]
          exact fun a n' c' e => .inr ⟨a, n', c', e, rfl⟩
      · rw [updI_out (I := fun i => i = .ar n) c]
        have h1 : PartOk (w.setCell ⟨k.X n, 1, none⟩ v) gS a k m (κ i) i := (h.ok i).far (Nat.le_of_eq hsz.symm) fun j hj => ho.1.block j (h.lt i j hj) fun e => hne i j hj c (by injection e)
        exact (h1.other (m' := m.setX n (some ⟨y.t, l, y.q⟩)) (y' := ⟨y.t, l, y.q⟩) hy rfl rfl rfl rfl rfl rfl rfl rfl rfl rfl (fun _ => rfl) (fun _ => rfl) (fun e => absurd e c)).setV c
  refine ⟨_, ⟨_, rfl, hin⟩, fun j hj => ?_, (g.trans ⟨fun j hj => .inl hj, Turns.of_only ho ⟨_, b2⟩⟩).tr⟩
  obtain ⟨i, ⟨_, hj | hj⟩ | ⟨_, hj⟩⟩ := hj
  · exact g.nk j ⟨_, hj⟩
  · exact .inr (hoff j hj).2.1
  · exact g.nk j ⟨_, hj⟩
end
section
variable (gS : Nat) (a : SpA) (k : SpK) (K : Nat → Prop) (m : SpM) (w : World)
def NewArs (w : World) (gS : Nat) (a : SpA) (k : SpK) (K : Nat → Prop) (n : Nat) (er : Int) (l : List Ar) (m' : SpM) (y' : SpX) (e : Ending) (w' : World) : Prop :=
  ∃ (A : Option Addr) (i c : Nat) (K' : Nat → Prop), e = .returned (.tuple #[.slice A i c, .int .i64 er]) ∧ SpMem w' gS a k K' m' ∧ m'.x n = some y' ∧ Went w K w' K' ∧ Ars w' w'.heap.size (.slice A i c) l ∧ ∀ j, IsBlk (.slice A i c) j → ¬ K' j ∧ w.heap.size ≤ j ∧ j < w'.heap.size
set_option maxRecDepth 100000 in
set_option maxHeartbeats 2000000 in
theorem change_go (g : Nat) (pre post : Array Value) (eg : ∀ args w, (callFunc g args).run Tryz.prog w = .ok (.enter g args) w) (n : Nat) (y y' : SpX) (er : Int) (l : List Ar) (m' : SpM) (h : SpMem w gS a k K m) (hy : m.x n = some y)
    (hcl : Calls Tryz.prog g (pre.push (.pointer (some ⟨k.X n, 0, none⟩)) ++ post) w (NewArs w gS a k K n er l m' y')) :
    Calls Tryz.prog 35 #[.pointer (some ⟨gS, 0, none⟩), .int .i64 (n : Int), .func (.func g) pre post] w fun e w' => ∃ k', SpEnd w gS a k' K (.int .i64 er) (if er = 0 then m'.setX n (some ⟨y'.t, l, y'.q⟩) else m') e w' := by
  have LQ := (SpMem.look_ gS a k K m w h hy).look
  have HA := Lib.hid (all_sp gS w k.M (h.cells.cell 6))
  have HC := Lib.hid hcl
  obtain ⟨M, hM⟩ : ∃ M, M = if er = 0 then m'.setX n (some ⟨y'.t, l, y'.q⟩) else m' := ⟨_, rfl⟩
  rw [← hM]
  have HM := Lib.hid hM
  clear h hy hcl hM
  go_enter Tryz.func35, Tryz.ntmps35
  go_wp2_with fail
  refine HA.out.mono ?_
  rintro e w' ⟨rfl, hw⟩
  subst w'
  go_wp2_with fail
  refine HC.out.mono ?_
  rintro e w2 ⟨A, i, c, K2, rfl, h2, hy2, g2, hA2, ho2⟩
  by_cases he : er = 0
  · subst he
    have HM2 := Lib.hid (HM.out.trans (if_pos rfl))
    clear HM
    have hp := (h2.proc hy2).1
    have c1 : w2.cell? ⟨k.X n, 1, none⟩ = some (k.v n) := hp.cell 1
    have f1 : w2.frozen? ⟨k.X n, 1, none⟩ = false := hp.frozen 1
    have R := Lib.hid (h2.areaP hy2 hA2 ho2 g2)
    clear h2 hy2 g2 hA2 ho2 hp
    go_wp2_with fail
    go_ret
    rw [HM2.out]
    exact ⟨_, rfl, R.out⟩
  · have HM2 := Lib.hid (HM.out.trans (if_neg he))
    clear HM
    have t1 : (er == 0) = false := beq_eq_false_iff_ne.2 he
    have R := Lib.hid (show SpGo w gS a k K m' w2 from ⟨K2, h2, g2⟩)
    clear h2 hy2 g2 hA2 ho2
    go_wp2_with fail
    go_ret
    rw [HM2.out]
    exact ⟨k, rfl, R.out⟩
end
end Go.Proofs.YtgjkdnpidobabaaGreat

namespace Go.Proofs.YtgjkdnpidobabaaGreat
open Go.RowKit
set_option linter.unusedVariables false

theorem enters_map : ∀ args w, (callFunc 36 args).run Tryz.prog w = .ok (.enter 36 args) w := enters_of Tryz.func36 (by kernel_rfl) rfl
theorem newArs {w w' : World} {gS : Nat} {a : SpA} {k : SpK} {K : Nat → Prop} {m : SpM} {n : Nat} {y : SpX} {er : Int} {v : Value} {l : List Ar} {e : Ending} (h : SpMem w gS a k K m) (hy : m.x n = some y) (he : e = .returned (.tuple #[v, .int .i64 er])) (hA : Ars w' w'.heap.size v l) (hn : NewA w w' v) (hb : Below w.heap.size w w') : NewArs w gS a k K n er l m y e w' := by
  obtain ⟨A, i, c, rfl, -⟩ := id hA
  refine ⟨A, i, c, K, he, h.fresh hb, hy, Went.of_below hb, hA, fun j hj => ?_⟩
  obtain ⟨b, n', c', e2, rfl⟩ := hj
  obtain ⟨h1, h2⟩ := hn b n' c' e2
  exact ⟨fun hk => by have := h.lt _ hk; omega, h1, h2⟩
section
variable (gS : Nat) (a : SpA) (k : SpK) (K : Nat → Prop) (m : SpM) (w : World)
set_option maxRecDepth 100000 in
set_option maxHeartbeats 2000000 in
theorem map_fn (n : Nat) (y : SpX) (gA : Nat) (fr ap : Int) (aw : Bool) (kd fl ofs : Int) (wa : WAr ⟨fr, ap, aw, kd, fl, ofs⟩) (h : SpMem w gS a k K m) (hy : m.x n = some y) (hl : listA y.a) (hn : y.a.length ≤ 4096) (b0 : Blk w gA 29 #[.int .i64 fr, .int .i64 ap, .bool aw, .int .i64 kd, .int .i64 fl, .int .i64 ofs]) :
    Calls Tryz.prog 36 #[.pointer (some ⟨k.X n, 0, none⟩), .pointer (some ⟨gA, 0, none⟩)] w (NewArs w gS a k K n (addE y.a ⟨fr, ap, aw, kd, fl, ofs⟩) (addL y.a ⟨fr, ap, aw, kd, fl, ofs⟩) m y) := by
  have hp := h.proc hy
  obtain ⟨A_, l_, c_, hv, -⟩ := id hp.2.2.1
  have cx : w.cell? ⟨k.X n, 1, none⟩ = some (.slice A_ l_ c_) := by rw [← hv]; exact hp.1.cell 1
  have hA := hp.2.2.1
  rw [hv] at hA
  have lx := hp.1.lt
  have lb0 := b0.lt
  have z0_0 : w.cell? ⟨gA, 0, none⟩ = some (.int .i64 fr) := b0.cell 0
  have z0_1 : w.cell? ⟨gA, 1, none⟩ = some (.int .i64 ap) := b0.cell 1
  have z0_2 : w.cell? ⟨gA, 2, none⟩ = some (.bool aw) := b0.cell 2
  have z0_3 : w.cell? ⟨gA, 3, none⟩ = some (.int .i64 kd) := b0.cell 3
  have z0_4 : w.cell? ⟨gA, 4, none⟩ = some (.int .i64 fl) := b0.cell 4
  have z0_5 : w.cell? ⟨gA, 5, none⟩ = some (.int .i64 ofs) := b0.cell 5
  have KEEP := Lib.hid (fun (V : World) (hV : Below w.heap.size w V) => (⟨(hV.cell (p := ⟨k.X n, 1, none⟩) lx).trans cx, (hV.cell (p := ⟨gA, 0, none⟩) lb0).trans z0_0, (hV.cell (p := ⟨gA, 1, none⟩) lb0).trans z0_1, (hV.cell (p := ⟨gA, 2, none⟩) lb0).trans z0_2, (hV.cell (p := ⟨gA, 3, none⟩) lb0).trans z0_3, (hV.cell (p := ⟨gA, 4, none⟩) lb0).trans z0_4, (hV.cell (p := ⟨gA, 5, none⟩) lb0).trans z0_5⟩ : V.cell? ⟨k.X n, 1, none⟩ = some (.slice A_ l_ c_) ∧ V.cell? ⟨gA, 0, none⟩ = some (.int .i64 fr) ∧ V.cell? ⟨gA, 1, none⟩ = some (.int .i64 ap) ∧ V.cell? ⟨gA, 2, none⟩ = some (.bool aw) ∧ V.cell? ⟨gA, 3, none⟩ = some (.int .i64 kd) ∧ V.cell? ⟨gA, 4, none⟩ = some (.int .i64 fl) ∧ V.cell? ⟨gA, 5, none⟩ = some (.int .i64 ofs)))
  have BR := Lib.hid (Below.refl w.heap.size w)
  have HC := Lib.hid (show Calls Tryz.prog 37 #[.slice A_ l_ c_, .agg #[.int .i64 fr, .int .i64 ap, .bool aw, .int .i64 kd, .int .i64 fl, .int .i64 ofs]] w.drew fun e w' => ∃ (A : Option Addr) (i c : Nat), e = .returned (.tuple #[.slice A i c, .int .i64 (addE y.a ⟨fr, ap, aw, kd, fl, ofs⟩)]) ∧ Below w.heap.size w w' ∧ Ars w' w'.heap.size (.slice A i c) (addL y.a ⟨fr, ap, aw, kd, fl, ofs⟩) ∧ NewA w w' (.slice A i c) from (area_addN w.drew (.slice A_ l_ c_) y.a ⟨fr, ap, aw, kd, fl, ofs⟩ wa (hA.fresh (Below.refl w.heap.size w).drew) hl hn).mono (by
    rintro e w' ⟨v', rfl, ⟨h1, h2⟩, h3⟩
    obtain ⟨A, i, c, rfl, -⟩ := id h1
    exact ⟨A, i, c, rfl, (Below.refl w.heap.size w).drew.trans h3, h1, h2⟩))
  have H := Lib.hid (And.intro h hy)
  clear h hy hl hn hp hv cx hA lx b0 lb0 z0_0 z0_1 z0_2 z0_3 z0_4 z0_5
  go_enter Tryz.func36, Tryz.ntmps36
  go_wp2_with fail
  go_region_held3 (fun w' => w'.cell? ⟨k.X n, 1, none⟩ = some (.slice A_ l_ c_) ∧ w'.cell? ⟨gA, 0, none⟩ = some (.int .i64 fr) ∧ w'.cell? ⟨gA, 1, none⟩ = some (.int .i64 ap) ∧ w'.cell? ⟨gA, 2, none⟩ = some (.bool aw) ∧ w'.cell? ⟨gA, 3, none⟩ = some (.int .i64 kd) ∧ w'.cell? ⟨gA, 4, none⟩ = some (.int .i64 fl) ∧ w'.cell? ⟨gA, 5, none⟩ = some (.int .i64 ofs))
    (first | with_reducible assumption | with_reducible exact KEEP.out _ BR.out.drew | with_reducible exact KEEP.out _ (by with_reducible assumption))
    ((go_at_call 37; refine HC.out.mono ?_; rintro e w' ⟨A, i, c, rfl, hb, hA, hn⟩))
  have R := Lib.hid (newArs (er := addE y.a ⟨fr, ap, aw, kd, fl, ofs⟩) H.out.1 H.out.2 rfl hA hn hb)
  clear hb hA hn
  go_wp2_with fail
  go_ret2
  exact R.out
set_option maxRecDepth 100000 in
set_option maxHeartbeats 2000000 in
theorem map_go (n : Nat) (y : SpX) (fr ap : Int) (aw : Bool) (kd fl ofs : Int) (wa : WAr ⟨fr, ap, aw, kd, fl, ofs⟩) (h : SpMem w gS a k K m) (hy : m.x n = some y) (hl : listA y.a) (hn : y.a.length ≤ 4096) :
    Calls Tryz.prog 12 #[.pointer (some ⟨gS, 0, none⟩), .int .i64 (n : Int), .agg #[.int .i64 fr, .int .i64 ap, .bool aw, .int .i64 kd, .int .i64 fl, .int .i64 ofs]] w fun e w' => ∃ k', SpEnd w gS a k' K (.int .i64 (addE y.a ⟨fr, ap, aw, kd, fl, ofs⟩)) (if addE y.a ⟨fr, ap, aw, kd, fl, ofs⟩ = 0 then m.setX n (some ⟨y.t, addL y.a ⟨fr, ap, aw, kd, fl, ofs⟩, y.q⟩) else m) e w' := by
  obtain ⟨W, hW⟩ : ∃ W, w.alloc (.cells #[.int .i64 fr, .int .i64 ap, .bool aw, .int .i64 kd, .int .i64 fl, .int .i64 ofs] 29) = W := ⟨_, rfl⟩
  have hb : Below w.heap.size w W := by rw [← hW]; exact belAl (Below.refl _ w) _
  have hP : Blk W w.heap.size 29 #[.int .i64 fr, .int .i64 ap, .bool aw, .int .i64 kd, .int .i64 fl, .int .i64 ofs] := by rw [← hW]; exact Blk.new w _ _
  have HC := Lib.hid (change_go gS a k K m W 36 #[] #[.pointer (some ⟨w.heap.size, 0, none⟩)] enters_map n y y _ _ m (h.fresh hb) hy (map_fn gS a k K m W n y w.heap.size fr ap aw kd fl ofs wa (h.fresh hb) hy hl hn hP))
  have G := Lib.hid (Went.of_below (K := K) hb)
  obtain ⟨M, hM⟩ : ∃ M, M = (if addE y.a ⟨fr, ap, aw, kd, fl, ofs⟩ = 0 then m.setX n (some ⟨y.t, addL y.a ⟨fr, ap, aw, kd, fl, ofs⟩, y.q⟩) else m) := ⟨_, rfl⟩
  rw [← hM] at HC ⊢
  clear hb hP h hy hl hn wa hM
  go_enter Tryz.func12, Tryz.ntmps12
  go_wp2_with fail
  refine HC.out.mono ?_
  rintro e w2 ⟨k', rfl, h2⟩
  have R := Lib.hid (h2.from_ G.out)
  clear h2
  go_wp2_with fail
  go_ret
  exact ⟨k', rfl, R.out⟩
end
end Go.Proofs.YtgjkdnpidobabaaGreat


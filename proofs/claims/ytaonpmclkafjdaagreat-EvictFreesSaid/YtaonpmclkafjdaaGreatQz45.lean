/-
  Put: the entry of a place, and Back and Swap by it.
  A frame is given, an entry is said: what becomes of the pool and its tables, as numbers.
  has and bring: a place has a frame; a new one is filled.
  What holds of a space between two calls, and what Put makes of that.
  What fills a frame: Zero, the disk's bytes, another frame's.
  fromFile, alone, come: the frame of a page.
  alone: a frame that a page may have written.
  come: the frame of a page of an area, by its entry.
  What users see of a space, and what one page's step makes of that.
  page: a page is asked for.
  A page that is asked for: what is left of the space.
  What a page's step leaves of all other pages, also where a slot comes in for many.
  A slot that is read, in a space.
  Processes that there are not.
  Tell, Signal, change, Map, Protect: what a process has beside its pages.
  A process has other areas: change, Map, Protect.
  A page in a slot comes into a frame, for all who hold the slot.
  come's arm for a slot.
  A page that is asked for, as one call.
  Map and Protect: areas are added, and changed.
  Conditions: those that each line bears.
-/
import Derived.Test.YtaonpmclkafjdaaGreatQz44
import Derived.Deep.RegionHeld3
import Derived.BigQuiet
import Derived.Deep.CutRange
import Derived.Test.YtaonpmclkafjdaaGreatQz01
set_option linter.unusedSimpArgs false
set_option linter.unusedSectionVars false
set_option linter.unusedVariables false
namespace Go.Proofs.YtaonpmclkafjdaaGreat
open Go.RowKit
set_option linter.unusedVariables false
theorem EnOk.wn {x:En}(h:EnOk x):W64 x.n:=WalkArith.wf_i64 (by have:=h.lo;omega)
theorem EnOk.noW {k n:Int}{b:Bool}(h:EnOk ⟨k,n,b⟩):EnOk ⟨k,n,false⟩:=by
  rcases h with h | h | h
  · exact .inl h
  · exact .inr (.inl ⟨h.1,h.2.1,h.2.2.1,rfl⟩)
  · exact .inr (.inr ⟨h.1,h.2.1,rfl⟩)
def takeM (m:SpM)(p:Pl)(e:En):SpM:=if e.k=1 then m.setB (updB m.b e.n (putP (m.b e.n) p)) else if e.k=2 then m.setS (holdS m.s e.n p) else m
def leaveM (m:SpM)(p:Pl)(e:En):SpM:=if e.k=1 then freeM m e.n p else if e.k=2 then m.setS (relS m.s e.n p) else m
structure Few (m:SpM):Prop where
  b:∀ f,(m.b f).length≤100000
  f:FewF m.b
  s:∀ n,(m.s n).length≤100000
structure Tabs (m:SpM):Prop where
  bad:NoBad m.bad
  live:∀ n y,m.x n=some y→y.t.live=true
  use:∀ n y,m.x n=some y→∀ f∈y.t.t,m.p.u.getD f 0=2
  two:∀ n y n' y',m.x n=some y→m.x n'=some y'→n'≠n→∀ f∈y'.t.t,f ∉ y.t.t
def putM (m:SpM)(n:Nat)(y:SpX)(pg:Nat)(x:En)(er:Nat)(F':Nat→List Nat)(p':PS)(t':TS):SpM :=
  if er=0 then (if (y.t.e.getD pg en0).k=x.k∧(y.t.e.getD pg en0).n=x.n then takeM (m.tree n y F' p' t') ⟨n,pg⟩ x else leaveM (takeM (m.tree n y F' p' t') ⟨n,pg⟩ x) ⟨n,pg⟩ (y.t.e.getD pg en0))
  else m.tree n y F' p' t'
section
variable (gS:Nat)(a:SpA)(k:SpK)(K:Nat→Prop)(m:SpM)(w:World)
theorem all_sp (mo:Option Nat)(hc:w.cell? ⟨gS,6,none⟩=some (.map mo)):Calls Tryz.prog 43 #[.pointer (some ⟨gS,0,none⟩)] w fun e w'=>e=.returned (.map mo)∧w'=w:=by
  go_enter Tryz.func43,Tryz.ntmps43
  go_wp2_with fail
  go_ret
  exact⟨rfl,rfl⟩
theorem take_any (p:Pl) (x:En) (h:SpMem w gS a k K m) (wp:WPl p) (hx:EnOk x) (hF:Few m) :
    Calls Tryz.prog 150 #[.pointer (some ⟨gS,0,none⟩),.agg #[.int .i64 p.c,.int .i64 p.g],.agg #[.int .i64 x.k,.int .i64 x.n,.bool x.w]] w (SpEnd w gS a k K (.tuple #[]) (takeM m p x)):=by
  obtain⟨kd,n,b⟩:=x
  unfold takeM
  by_cases h1:kd=1
  · subst h1
    rw[if_pos rfl]
    exact take_frame gS a k K m w p n b h wp hx.wn (hF.b _) hF.f
  · rw[if_neg h1]
    by_cases h2:kd=2
    · subst h2
      rw[if_pos rfl]
      exact take_slot gS a k K m w p n b h wp (hF.s _)
    · rw[if_neg h2]
      exact take_other gS a k K m w p kd n b h1 h2 h
theorem leave_any (p:Pl) (x:En) (h:SpMem w gS a k K m) (wp:WPl p) (hx:EnOk x) :
    Calls Tryz.prog 151 #[.pointer (some ⟨gS,0,none⟩),.agg #[.int .i64 p.c,.int .i64 p.g],.agg #[.int .i64 x.k,.int .i64 x.n,.bool x.w]] w (SpEnd w gS a k K (.tuple #[]) (leaveM m p x)):=by
  obtain⟨kd,n,b⟩:=x
  unfold leaveM
  by_cases h1:kd=1
  · subst h1
    rw[if_pos rfl]
    exact leave_frame gS a k K m w p n b h wp hx.wn
  · rw[if_neg h1]
    by_cases h2:kd=2
    · subst h2
      rw[if_pos rfl]
      exact leave_slot gS a k K m w p n b h wp
    · rw[if_neg h2]
      exact leave_other gS a k K m w p kd n b h1 h2 h
structure Look (w:World)(gS:Nat)(k:SpK)(n:Nat)(W:World):Prop where
  look:(Instr.lookup 42 (.map k.M) (.int .i64 (n:Int)) false).run Tryz.prog W=.ok (.pointer (some ⟨k.X n,0,none⟩)) W
  c0:W.cell? ⟨k.X n,0,none⟩=some (.pointer (some ⟨k.T n,0,none⟩))
  c6:W.cell? ⟨gS,6,none⟩=some (.map k.M)
theorem SpMem.look_ {n:Nat}{y:SpX}(h:SpMem w gS a k K m)(hy:m.x n=some y):Look w gS k n w:=by
  have hn:=h.x8 n y hy
  refine⟨?_,h.proc hy |>.1.cell 0,h.cells.cell 6⟩
  have:=h.look (n:Int) (WalkArith.wf_i64 (by omega))
  rw[ptrL_some hy] at this
  exact this
set_option maxRecDepth 100000 in
set_option maxHeartbeats 4000000 in
theorem put_any (n:Nat) (y:SpX) (pg:Nat) (x:En) (h:SpMem w gS a k K m) (hy:m.x n=some y) (hpg:pg < 4096) (hT:Tabs m) (hF:Few m) :
    Calls Tryz.prog 104 #[.pointer (some ⟨gS,0,none⟩),.agg #[.int .i64 (n:Int),.int .i64 (pg:Int)],.agg #[.int .i64 x.k,.int .i64 x.n,.bool x.w]] w fun e w' =>
      ∃ er F' p' t',SetIs y.t m.p (pg:Int) x er t' p'∧MoreT y.t m.p (pg:Int) x er t'∧(∀ f,f ∉ y.t.t→m.p.u.getD f 0≠1→F' f=m.F f)∧SpEnd w gS a k K (.int .i64 (er:Int)) (putM m n y pg x er F' p' t') e w':=by
  obtain⟨kd,nn,b⟩:=x
  have hbx:=boxes w ⟨n,pg⟩ kd nn b
  obtain⟨W,hW⟩:∃ W,(w.alloc (.cells #[.int .i64 (n:Int),.int .i64 (pg:Int)] 60)).alloc (.cells #[.int .i64 kd,.int .i64 nn,.bool b] 29)=W:=⟨_,rfl⟩
  rw[show (w.alloc (.cells #[.int .i64 ((⟨n,pg⟩:Pl).c),.int .i64 ((⟨n,pg⟩:Pl).g)] 60)).alloc (.cells #[.int .i64 kd,.int .i64 nn,.bool b] 29)=W from hW] at hbx
  have h1:=h.fresh hbx.bel
  have HA:=Lib.hid (fun q=>(show Calls Tryz.prog 43 #[.pointer (some ⟨gS,0,none⟩)] (W.drewN q) fun e w'=>e=.returned (.map k.M)∧∃ q',w'=W.drewN q' from (all_sp gS (W.drewN q) k.M (h1.cells.cell 6)).mono (by rintro e w' ⟨rfl,rfl⟩;exact⟨rfl,q,rfl⟩)))
  have LQ:∀ q,(Instr.lookup 42 (.map k.M) (.int .i64 (n:Int)) false).run Tryz.prog (W.drewN q)=.ok (.pointer (some ⟨k.X n,0,none⟩)) (W.drewN q):=fun q=>(SpMem.look_ gS a k K m (W.drewN q) (h1.far (w':=W.drewN q) (Nat.le_refl _) fun _ _=>rfl) hy).look
  have p0:W.cell? ⟨w.heap.size,0,none⟩=some (.int .i64 (n:Int)):=hbx.pl.cell 0
  have p1:W.cell? ⟨w.heap.size,1,none⟩=some (.int .i64 (pg:Int)):=hbx.pl.cell 1
  have H1:=Lib.hid h1
  have HB:=Lib.hid hbx
  have HY:=Lib.hid hy
  have HTT:=Lib.hid hT
  have HFF:=Lib.hid hF
  have HKL:=Lib.hid h.lt
  have HX8:=Lib.hid (h.x8 n y hy)
  clear h hbx h1 hT hF hy
  go_enter Tryz.func104,Tryz.ntmps104
  go_wp2_with fail
  go_quiet (first | (go_at_call 43;exact HA.out _))
  go_wp2_with fail
  obtain⟨W1,hW1⟩:∃ W1,W1=W.drewN nq:=⟨_,rfl⟩
  have hb0:Below W.heap.size W W1:=by rw[hW1];exact below_drewN (Below.refl _ _) _
  rw[← hW1]
  have h1:=H1.out.fresh hb0
  obtain⟨KP,KT,hM,hP,hTr,hA,hlift⟩:=h1.treeP HY.out
  have d0:W1.cell? ⟨k.X n,0,none⟩=some (.pointer (some ⟨k.T n,0,none⟩)):=(SpMem.look_ gS a k K m W1 h1 HY.out).c0
  have d1:W1.cell? ⟨w.heap.size,1,none⟩=some (.int .i64 (pg:Int)):=(HB.out.pl.below hb0 HB.out.pl.lt).cell 1
  have hx1:k.X n < W1.heap.size:=(h1.proc HY.out).1.lt
  have hx2:w.heap.size < W1.heap.size:=(HB.out.pl.below hb0 HB.out.pl.lt).lt
  have KEEP:=Lib.hid (fun (V:World) (hV:Below W1.heap.size W1 V)=>(⟨(hV.cell (p:=⟨k.X n,0,none⟩) hx1).trans d0,(hV.cell (p:=⟨w.heap.size,1,none⟩) hx2).trans d1,hV⟩:V.cell? ⟨k.X n,0,none⟩=some (.pointer (some ⟨k.T n,0,none⟩))∧V.cell? ⟨w.heap.size,1,none⟩=some (.int .i64 (pg:Int))∧Below W1.heap.size W1 V))
  have PB:=Lib.hid (fun (V:World) (hV:V.cell? ⟨k.X n,0,none⟩=some (.pointer (some ⟨k.T n,0,none⟩))∧V.cell? ⟨w.heap.size,1,none⟩=some (.int .i64 (pg:Int))∧Below W1.heap.size W1 V)=>hV.2.2)
  have hlive:=HTT.out.live n y HY.out
  have GQ:=Lib.hid (fun (V:World) (hV:Below W1.heap.size W1 V)=>((tree_get (k.T n) a.R a.F a.P KT m.F m.bad y.t V pg hpg (hM.below hV hM.lt.1 hM.lt.2) (hTr.fresh hV) HTT.out.bad hlive).mono (fun e w' h=>⟨h.1,h.2,hV.trans (h.2.mono hV.size)⟩):Calls Tryz.prog 13 #[.pointer (some ⟨k.T n,0,none⟩),.int .i64 (pg:Int)] V fun e w'=>e=.returned (.tuple #[.agg (enV (y.t.e.getD pg en0)),.int .i64 0])∧Below V.heap.size V w'∧Below W1.heap.size W1 w'))
  have BR:=Lib.hid (Below.refl W1.heap.size W1)
  have HB0:=Lib.hid hb0
  have GA:=Lib.hid (show Calls Tryz.prog 13 #[.pointer (some ⟨k.T n,0,none⟩),.int .i64 (pg:Int)] (W1.alloc (.cells #[.int .i64 0,.int .i64 0,.bool false] 29)).drew fun e w'=>e=.returned (.tuple #[.agg (enV (y.t.e.getD pg en0)),.int .i64 0]) ∧
      w'.cell? ⟨W1.heap.size,0,none⟩=some (.int .i64 0)∧w'.cell? ⟨W1.heap.size,1,none⟩=some (.int .i64 0)∧w'.cell? ⟨W1.heap.size,2,none⟩=some (.bool false)∧w'.frozen? ⟨W1.heap.size,0,none⟩=false∧w'.frozen? ⟨W1.heap.size,1,none⟩=false∧w'.frozen? ⟨W1.heap.size,2,none⟩=false ∧
      (∀ u0 u1 u2,Below W1.heap.size W1 (((w'.setCell ⟨W1.heap.size,0,none⟩ u0).setCell ⟨W1.heap.size,1,none⟩ u1).setCell ⟨W1.heap.size,2,none⟩ u2))∧Blk w' W1.heap.size 29 #[.int .i64 0,.int .i64 0,.bool false]∧Below W1.heap.size W1 w' from (GQ.out _ (belAl (Below.refl _ W1) _).drew).mono (fun e w' h=>by
    have hz:Blk w' W1.heap.size 29 #[.int .i64 0,.int .i64 0,.bool false]:=(show Blk (W1.alloc (.cells #[.int .i64 0,.int .i64 0,.bool false] 29)).drew W1.heap.size 29 #[.int .i64 0,.int .i64 0,.bool false] from Blk.new W1 _ _).below h.2.1 (Blk.lt (w:=(W1.alloc (.cells #[.int .i64 0,.int .i64 0,.bool false] 29)).drew) (Blk.new W1 _ _))
    exact⟨h.1,hz.cell 0,hz.cell 1,hz.cell 2,hz.frozen 0,hz.frozen 1,hz.frozen 2,fun u0 u1 u2=>((h.2.2.setCell (Nat.le_refl _) u0).setCell (Nat.le_refl _) u1).setCell (Nat.le_refl _) u2,hz,h.2.2⟩))
  obtain⟨⟨hk,hn,hw⟩,hhad⟩:∃ x:En,x=y.t.e.getD pg en0:=⟨_,rfl⟩
  rw[← hhad] at GQ GA
  have HHAD:=Lib.hid hhad
  have HHOK:=Lib.hid (show EnOk ⟨hk,hn,hw⟩ from by rw[hhad];exact getE_ok hTr.ok.eok pg)
  unfold enV at GQ GA
  clear hM hP hTr hA hlift h1 d0 d1 hx1 hx2 hb0 hlive LQ hhad p0 p1 hW hW1
  go_cut [8,9] from 18 to 52 (fun s8 s9 wx=>∃ g,s8=.pointer (some ⟨g,0,none⟩)∧s9=.int .i64 0∧Blk wx g 29 #[.int .i64 hk,.int .i64 hn,.bool hw]∧W1.heap.size≤g∧Below W1.heap.size W1 wx)
  case first =>
    go_region_held3 (fun w'=>w'.cell? ⟨k.X n,0,none⟩=some (.pointer (some ⟨k.T n,0,none⟩))∧w'.cell? ⟨w.heap.size,1,none⟩=some (.int .i64 (pg:Int))∧Below W1.heap.size W1 w')
      (first | assumption | exact KEEP.out _ BR.out.drew | exact KEEP.out _ (by assumption) | exact KEEP.out _ (belAl (PB.out _ (by assumption)) _) | exact KEEP.out _ (belAl (by assumption) _) | exact KEEP.out _ (PB.out _ (by assumption)) | exact KEEP.out _ (belAl BR.out _).drew | exact KEEP.out _ (hsb _ _ _))
      (first | (go_at_call 13;refine GA.out.mono ?_;rintro e w' ⟨rfl,z0,z1,z2,f0,f1,f2,hsb,hz,hbB⟩) | (go_at_call 13;refine (GQ.out _ ?_).mono ?_;(first | assumption | exact PB.out _ (by assumption));rintro e w' ⟨rfl,hbA,hbB⟩))
    all_goals (go_wp2_with fail;go_meet)
    all_goals (first | exact⟨_,rfl,rfl,((hz.set_ 0 _).set_ 1 _).set_ 2 _,Nat.le_refl _,hsb _ _ _⟩ | exact⟨_,rfl,rfl,Blk.new w' _ _,hbB.size,belAl hbB _⟩)
  case rest =>
    obtain⟨g,rfl,rfl,hg,hgs,hbg⟩:=hcut
    have hbW:Below W.heap.size W wc:=HB0.out.trans (hbg.mono HB0.out.size)
    have h2:=H1.out.fresh hbW
    have hKlt:∀ j,K j→j < w.heap.size:=HKL.out
    have hs1:w.heap.size+1 < W.heap.size:=HB.out.en.lt
    have hP2:Blk wc w.heap.size 60 #[.int .i64 (n:Int),.int .i64 (pg:Int)]:=HB.out.pl.below hbW HB.out.pl.lt
    have hE2:Blk wc (w.heap.size+1) 29 #[.int .i64 kd,.int .i64 nn,.bool b]:=HB.out.en.below hbW HB.out.en.lt
    have G2:=Lib.hid (((Went.of_below (K:=K) HB.out.bel).below hbW).drew)
    obtain⟨KP,KT,hM,hP,hTr,hA,hlift⟩:=h2.drew.treeP HY.out
    have HS:=Lib.hid (tree_set2 (k.T n) a.R a.F a.P KP KT m.F m.bad m.p y.t wc.drew (pg:Int) kd nn b hM hP hTr hA HTT.out.bad (HTT.out.use n y HY.out) (HTT.out.live n y HY.out))
    have HL:=Lib.hid hlift
    have d0:wc.cell? ⟨k.X n,0,none⟩=some (.pointer (some ⟨k.T n,0,none⟩)):=(SpMem.look_ gS a k K m wc h2 HY.out).c0
    have d1:wc.cell? ⟨w.heap.size,1,none⟩=some (.int .i64 (pg:Int)):=hP2.cell 1
    have q0:wc.cell? ⟨w.heap.size+1,0,none⟩=some (.int .i64 kd):=hE2.cell 0
    have q1:wc.cell? ⟨w.heap.size+1,1,none⟩=some (.int .i64 nn):=hE2.cell 1
    have q2:wc.cell? ⟨w.heap.size+1,2,none⟩=some (.bool b):=hE2.cell 2
    have HG:=Lib.hid hg
    have HP2:=Lib.hid hP2
    have HE2:=Lib.hid hE2
    have HGS:=Lib.hid (show W.heap.size≤g from Nat.le_trans HB0.out.size hgs)
    have HS1:=Lib.hid hs1
    clear hM hP hTr hA hlift h2 hP2 hE2 hg hgs hs1 hKlt hbg hbW
    go_wp2_with fail
    go_still_tail 7,(by kernel_rfl)
    change wpList _ _ _ _ _ wc.drew
    go_wp2_with fail
    refine HS.out.mono ?_
    rintro e w3 ⟨er,F',p',t',rfl,hset,hpost,hmore⟩
    have HSET:=Lib.hid hset
    have HMORE:=Lib.hid hmore
    have HFR:=Lib.hid (show ∀ f,f ∉ y.t.t→m.p.u.getD f 0≠1→F' f=m.F f from by obtain⟨_,_,_,_,_,_,_,_,h,_⟩:=hpost;exact h)
    obtain⟨K3,h3,g3a⟩:=HL.out F' p' t' w3 (fun n' y' hn hy' f hf=>⟨HTT.out.two n y n' y' HY.out hy' hn f hf,by rw[HTT.out.use n' y' hy' f hf];decide⟩) hpost
    have g3:=G2.out.trans g3a
    have hnk:∀ j,w.heap.size≤j→¬ K j:=fun j hj hk=>by have:=HKL.out j hk;omega
    have hg3:Blk w3 g 29 #[.int .i64 hk,.int .i64 hn,.bool hw]:=g3a.tr.blk HG.out (hnk g (by have:=HGS.out;have:=HB.out.bel.size;omega))
    have hP3:Blk w3 w.heap.size 60 #[.int .i64 (n:Int),.int .i64 (pg:Int)]:=g3a.tr.blk HP2.out (hnk _ (Nat.le_refl _))
    have hE3:Blk w3 (w.heap.size+1) 29 #[.int .i64 kd,.int .i64 nn,.bool b]:=g3a.tr.blk HE2.out (hnk _ (Nat.le_succ _))
    clear hset hpost hmore HS HL
    by_cases he:er=0
    · subst he
      have hxok:EnOk ⟨kd,nn,b⟩:=by
        rcases HSET.out with ⟨_,h,_⟩ | ⟨_,⟨_,h,_⟩ | ⟨_,h,_⟩ | ⟨h,_⟩⟩
        · omega
        · omega
        · omega
        · exact h
      have HXOK:=Lib.hid hxok
      have hwp:WPl ⟨(n:Int),(pg:Int)⟩:=⟨wf_nat n (by have:=HX8.out;omega),wf_nat pg (by omega)⟩
      have HWP:=Lib.hid hwp
      have HTK:=Lib.hid (take_any gS a k K3 (m.tree n y F' p' t') w3 ⟨n,pg⟩ ⟨kd,nn,b⟩ h3 hwp hxok ⟨HFF.out.b,HFF.out.f,HFF.out.s⟩)
      have G3:=Lib.hid g3
      have GA3:=Lib.hid g3a
      have HG3:=Lib.hid hg3
      have HP3:=Lib.hid hP3
      have HE3:=Lib.hid hE3
      have r0:w3.cell? ⟨w.heap.size,0,none⟩=some (.int .i64 (n:Int)):=hP3.cell 0
      have r1:w3.cell? ⟨w.heap.size,1,none⟩=some (.int .i64 (pg:Int)):=hP3.cell 1
      have q0:w3.cell? ⟨w.heap.size+1,0,none⟩=some (.int .i64 kd):=hE3.cell 0
      have q1:w3.cell? ⟨w.heap.size+1,1,none⟩=some (.int .i64 nn):=hE3.cell 1
      have q2:w3.cell? ⟨w.heap.size+1,2,none⟩=some (.bool b):=hE3.cell 2
      have t0:(((0:Nat):Int) != 0)=false:=rfl
      clear h3 g3 g3a hg3 hP3 hE3 hxok hwp
      go_wp2_with fail
      refine HTK.out.mono ?_
      rintro e w4 ⟨rfl,K4,h4,g4⟩
      have nk3:∀ j,w.heap.size≤j→j < wc.heap.size→¬ K3 j:=fun j hj hj2 hk=>by
        rcases GA3.out.nk j hk with c | c
        · exact hnk j hj c
        · exact absurd hj2 (Nat.not_lt.2 c)
      have hcs:wc.heap.size≤w3.heap.size:=GA3.out.tr.size
      have nk4:∀ j,w.heap.size≤j→j < wc.heap.size→¬ K4 j:=fun j hj hj2 hk=>by
        rcases g4.nk j hk with c | c
        · exact nk3 j hj hj2 c
        · omega
      have hgw:w.heap.size≤g:=by have:=HGS.out;have:=HB.out.bel.size;omega
      have hgE:g≠w.heap.size+1:=by have:=HGS.out;have:=HS1.out;omega
      have hgc:g < wc.heap.size:=HG.out.lt
      have hEc:w.heap.size+1 < wc.heap.size:=HE2.out.lt
      have hPc:w.heap.size < wc.heap.size:=HP2.out.lt
      have hg4:Blk w4 g 29 #[.int .i64 hk,.int .i64 hn,.bool hw]:=g4.tr.blk HG3.out (nk3 g hgw hgc)
      have hE4:Blk w4 (w.heap.size+1) 29 #[.int .i64 kd,.int .i64 nn,.bool b]:=g4.tr.blk HE3.out (nk3 _ (Nat.le_succ _) hEc)
      have hP4:Blk w4 w.heap.size 60 #[.int .i64 (n:Int),.int .i64 (pg:Int)]:=g4.tr.blk HP3.out (nk3 _ (Nat.le_refl _) hPc)
      have ho1:Only g w4 (w4.setCell ⟨g,2,none⟩ (.bool false)):=(Only.refl _ _).setCell 2 _
      obtain⟨V1,hV1⟩:∃ V,w4.setCell ⟨g,2,none⟩ (.bool false)=V:=⟨_,rfl⟩
      have hg5:Blk V1 g 29 #[.int .i64 hk,.int .i64 hn,.bool false]:=by rw[← hV1];exact hg4.set_ 2 _
      rw[hV1] at ho1
      have hE5:Blk V1 (w.heap.size+1) 29 #[.int .i64 kd,.int .i64 nn,.bool b]:=ho1.blk hE4 (fun e=>hgE e.symm)
      have hP5:Blk V1 w.heap.size 60 #[.int .i64 (n:Int),.int .i64 (pg:Int)]:=ho1.blk hP4 (fun e=>by have:=HGS.out;have:=HS1.out;omega)
      have ho2:Only (w.heap.size+1) V1 (V1.setCell ⟨w.heap.size+1,2,none⟩ (.bool false)):=(Only.refl _ _).setCell 2 _
      obtain⟨V2,hV2⟩:∃ V,V1.setCell ⟨w.heap.size+1,2,none⟩ (.bool false)=V:=⟨_,rfl⟩
      have hE6:Blk V2 (w.heap.size+1) 29 #[.int .i64 kd,.int .i64 nn,.bool false]:=by rw[← hV2];exact hE5.set_ 2 _
      rw[hV2] at ho2
      have hg6:Blk V2 g 29 #[.int .i64 hk,.int .i64 hn,.bool false]:=ho2.blk hg5 hgE
      have hP6:Blk V2 w.heap.size 60 #[.int .i64 (n:Int),.int .i64 (pg:Int)]:=ho2.blk hP5 (fun e=>by omega)
      have h6:SpMem V2 gS a k K4 (takeM (m.tree n y F' p' t') ⟨n,pg⟩ ⟨kd,nn,b⟩):=(h4.only ho1 (nk4 g hgw hgc)).only ho2 (nk4 _ (Nat.le_succ _) hEc)
      have g6:Went w K V2 K4:=⟨(G3.out.trans g4).nk,((G3.out.trans g4).tr.new_ ho1 hgw).new_ ho2 (Nat.le_succ _)⟩
      have zc:w4.cell? ⟨g,2,none⟩=some (.bool hw):=hg4.cell 2
      have zf:w4.frozen? ⟨g,2,none⟩=false:=hg4.frozen 2
      have yc:V1.cell? ⟨w.heap.size+1,2,none⟩=some (.bool b):=hE5.cell 2
      have yf:V1.frozen? ⟨w.heap.size+1,2,none⟩=false:=hE5.frozen 2
      have a0:V2.cell? ⟨g,0,none⟩=some (.int .i64 hk):=hg6.cell 0
      have a1:V2.cell? ⟨g,1,none⟩=some (.int .i64 hn):=hg6.cell 1
      have a2:V2.cell? ⟨g,2,none⟩=some (.bool false):=hg6.cell 2
      have b0:V2.cell? ⟨w.heap.size+1,0,none⟩=some (.int .i64 kd):=hE6.cell 0
      have b1:V2.cell? ⟨w.heap.size+1,1,none⟩=some (.int .i64 nn):=hE6.cell 1
      have b2:V2.cell? ⟨w.heap.size+1,2,none⟩=some (.bool false):=hE6.cell 2
      have c0:V2.cell? ⟨w.heap.size,0,none⟩=some (.int .i64 (n:Int)):=hP6.cell 0
      have c1:V2.cell? ⟨w.heap.size,1,none⟩=some (.int .i64 (pg:Int)):=hP6.cell 1
      have H6:=Lib.hid h6
      have G6:=Lib.hid g6
      have HW1:=Lib.hid hgE
      clear h4 g4 nk3 nk4 hcs hgw hgc hEc hPc hg4 hE4 hP4 ho1 hg5 hE5 hP5 ho2 hE6 hg6 hP6 h6 g6 hnk r0 r1 q0 q1 q2
      have LV:=Lib.hid (leave_any gS a k K4 (takeM (m.tree n y F' p' t') ⟨n,pg⟩ ⟨kd,nn,b⟩) V2 ⟨n,pg⟩ ⟨hk,hn,false⟩ H6.out HWP.out HHOK.out.noW)
      have HPM:=Lib.hid (show putM m n y pg ⟨kd,nn,b⟩ 0 F' p' t'=if hk=kd∧hn=nn then takeM (m.tree n y F' p' t') ⟨n,pg⟩ ⟨kd,nn,b⟩ else leaveM (takeM (m.tree n y F' p' t') ⟨n,pg⟩ ⟨kd,nn,b⟩) ⟨n,pg⟩ ⟨hk,hn,false⟩ from by
        unfold putM
        rw[if_pos rfl,← HHAD.out]
        rfl)
      clear HHAD HTK
      by_cases s1:hk=kd
      · subst s1
        by_cases s2:hn=nn
        · subst s2
          rw[if_pos ⟨rfl,rfl⟩] at HPM
          clear LV
          go_wp2_with fail
          go_ret
          refine⟨0,F',p',t',HSET.out,HMORE.out,HFR.out,rfl,K4,?_,G6.out⟩
          rw[HPM.out]
          exact H6.out
        · rw[if_neg (fun h=>s2 h.2)] at HPM
          have u1:(hn == nn)=false:=beq_eq_false_iff_ne.2 s2
          go_wp2_with fail
          refine LV.out.mono ?_
          rintro e w7 ⟨rfl,h7⟩
          have R:=Lib.hid (h7.from_ G6.out)
          clear h7
          go_wp2_with fail
          go_ret
          refine⟨0,F',p',t',HSET.out,HMORE.out,HFR.out,rfl,?_⟩
          rw[HPM.out]
          exact R.out
      · rw[if_neg (fun h=>s1 h.1)] at HPM
        have u1:(hk == kd)=false:=beq_eq_false_iff_ne.2 s1
        go_wp2_with fail
        refine LV.out.mono ?_
        rintro e w7 ⟨rfl,h7⟩
        have R:=Lib.hid (h7.from_ G6.out)
        clear h7
        go_wp2_with fail
        go_ret
        refine⟨0,F',p',t',HSET.out,HMORE.out,HFR.out,rfl,?_⟩
        rw[HPM.out]
        exact R.out
    · have t1:((er:Int) != 0)=true:=by rw[bne_iff_ne];omega
      have H3:=Lib.hid h3
      have G3:=Lib.hid g3
      clear h3 g3 g3a hg3 hP3 hE3 hnk
      go_wp2_with fail
      go_ret
      refine⟨er,F',p',t',HSET.out,HMORE.out,HFR.out,rfl,K3,?_,G3.out⟩
      rw[show putM m n y pg ⟨kd,nn,b⟩ er F' p' t'=m.tree n y F' p' t' from if_neg he]
      exact H3.out
end
end Go.Proofs.YtaonpmclkafjdaaGreat
namespace Go.Proofs.YtaonpmclkafjdaaGreat
open Go.RowKit
set_option linter.unusedVariables false
theorem filter_drop {P P':Nat→Bool}{N f:Nat}(hf:f < N)(h1:P f=true)(h2:P' f=false)(h3:∀ x,x≠f→P' x=P x):((List.range N).filter P').length+1=((List.range N).filter P).length:=by
  have hp:(f :: (List.range N).filter P').Perm ((List.range N).filter P):=by
    refine (List.perm_ext_iff_of_nodup ?_ (List.nodup_range.filter _)).2 fun x=>?_
    · refine List.nodup_cons.2 ⟨fun h=>?_,List.nodup_range.filter _⟩
      have:=(List.mem_filter.1 h).2
      rw[h2] at this
      cases this
    · rw[List.mem_cons,List.mem_filter,List.mem_filter,List.mem_range]
      by_cases c:x=f
      · subst c
        exact⟨fun _=>⟨hf,h1⟩,fun _=>.inl rfl⟩
      · rw[h3 x c]
        exact⟨fun h=>h.resolve_left c,fun h=>.inr h⟩
  have:=hp.length_eq
  rwa [List.length_cons] at this
theorem filter_same {P P':Nat→Bool}{N:Nat}(h:∀ x,x < N→P' x=P x):((List.range N).filter P').length=((List.range N).filter P).length:=by
  rw[List.filter_congr fun x hx=>h x (List.mem_range.1 hx)]
structure Alloc1 (p:PS)(use f:Nat)(p':PS):Prop where
  lt:f < 1024
  free:p.u.getD f 0=1
  zone:p.z.getD (f / 32) 0=3∧p.i.getD (f / 32) false=false
  z:p'.z=p.z
  i:p'.i=p.i
  u:∀ g,p'.u.getD g 0=if g=f then use else p.u.getD g 0
  len:p'.u.length=1024
  c2:cntF p' 2=cntF p 2
  c3:cntF p' 3+1=cntF p 3
theorem alloc_movable {p p':PS}{use f er:Nat}(h:AllocIs p (use:Int) 0 true f er p')(hp:PsOk p)(h2:2≤use)(h5:use≤5)(hc:0 < cntF p 3):er=0∧Alloc1 p use f p':=by
  rcases h with ⟨h,_⟩ | ⟨_,r3,r2,h3,h4,h⟩
  · omega
  · have hx:∃ g,RunF p 3 1 g:=by
      unfold cntF at hc
      obtain⟨g,hg⟩:=List.exists_mem_of_length_pos hc
      obtain⟨hg1,hg2⟩:=List.mem_filter.1 hg
      obtain⟨u1,z1,i1⟩:=of_decide_eq_true hg2
      refine⟨g,Nat.mod_one g,List.mem_range.1 hg1,z1,i1,fun k k1 k2=>?_⟩
      obtain rfl:k=g:=by omega
      exact u1
    obtain⟨g,hg⟩:=hx
    simp only[Int.toNat_zero,Nat.pow_zero] at h3 h4 h
    cases r3 with
    | none=>exact absurd hg (h3 g)
    | some q =>
      simp only[if_true,Option.or_some] at h
      obtain⟨rfl,rfl,rfl⟩:=h
      obtain⟨⟨_,q1,q2,q3,q4⟩,_⟩:=h3
      have qf:=q4 f (Nat.le_refl _) (Nat.lt_succ_self _)
      have hu:∀ x,(spanU (fun _=>(use:Int).toNat) p.u f (f+1)).getD x 0=if x=f then use else p.u.getD x 0:=by
        intro x
        rw[Int.toNat_natCast]
        by_cases c:x < p.u.length
        · rw[spanU_getD _ _ _ _ _ c]
          by_cases d:x=f
          · rw[if_pos d,if_pos (by omega)]
          · rw[if_neg d,if_neg (by omega)]
        · rw[if_neg (by rw[hp.u] at c;omega),List.getD_eq_getElem?_getD,List.getD_eq_getElem?_getD,List.getElem?_eq_none (by rw[spanU_length];omega),List.getElem?_eq_none (by omega)]
      refine⟨rfl,q1,qf,⟨q2,q3⟩,rfl,rfl,hu,by rw[spanU_length,hp.u],?_,?_⟩
      · unfold cntF
        refine filter_same fun x hx=>decide_eq_decide.2 ?_
        rw[hu x]
        by_cases c:x=f
        · subst c
          rw[if_pos rfl]
          constructor
          · rintro⟨h,_⟩;omega
          · rintro⟨_,h,_⟩;omega
        · rw[if_neg c]
      · unfold cntF
        refine filter_drop q1 (decide_eq_true ⟨qf,q2,q3⟩) (decide_eq_false ?_) fun x hx=>decide_eq_decide.2 ?_
        · rintro⟨h,_⟩
          rw[hu f,if_pos rfl] at h
          omega
        · rw[hu x,if_neg hx]
theorem distL_more {l l':List Nat}{x:Nat}(h:∀ y,y∈l'→y=x∨y∈l):(distL l').length≤(distL l).length+1:=by
  have:=List.Nodup.length_le_of_subset (l₁:=distL l') (l₂:=x :: distL l) (distL_nodup l') fun y hy=>by
    rcases h y (distL_mem.1 hy) with c | c
    · rw[c];exact List.mem_cons_self
    · exact List.mem_cons_of_mem _ (distL_mem.2 c)
  rwa [List.length_cons] at this
theorem tablesN_more {l l':List Nat}{x:Nat}(h:∀ y,y∈l'→y=x∨y∈l):tablesN l'≤tablesN l+3:=by
  have hm:∀ d:Nat,(distL (l'.map (· / d))).length≤(distL (l.map (· / d))).length+1:=fun d=>distL_more (x:=x / d) fun y hy=>by
    obtain⟨z,hz,rfl⟩:=List.mem_map.1 hy
    rcases h z hz with c | c
    · rw[c];exact .inl rfl
    · exact .inr (List.mem_map.2 ⟨z,c,rfl⟩)
  have h1:=hm 512
  have h2:=hm 64
  have h3:=hm 8
  unfold tablesN
  omega
theorem pagesOf_set {e:List En}{pg:Nat}{x:En}{y:Nat}(h:y∈pagesOf (e.set pg x)):y=pg∨y∈pagesOf e:=by
  by_cases c:y=pg
  · exact .inl c
  · rw[pagesOf_mem,getD_set_ne _ _ _ _ _ c] at h
    exact .inr (pagesOf_mem.2 h)
theorem set_ok {s s':TS} {p p':PS} {pg er:Nat} {x:En} (hs:SetIs s p (pg:Int) x er s' p') (hm:MoreT s p (pg:Int) x er s') (hok:TsOk s) (hl:s.live=true) (hx:EnOk x) (hpg:pg < 4096) (h3:3≤cntF p 2) :
    er=0∧s'.e=s.e.set pg x∧s'.live=true∧Step s p s' p'∧∀ f∈s'.t,f ∉ s.t→p.z.getD (f / 32) 0=2∧p.i.getD (f / 32) false=false:=by
  rcases hs with ⟨h,_⟩ | ⟨_,⟨h,_⟩ | ⟨_,rfl,_⟩ | ⟨_,rfl,h1,h2,h4⟩⟩
  · omega
  · exact absurd hx h
  · have h5:=hm.1 rfl
    rw[Int.toNat_natCast] at h5
    have h6:=tablesN_more (l:=pagesOf s.e) (l':=pagesOf (s.e.set pg x)) fun y hy=>pagesOf_set hy
    have h7:=hok.num hl
    omega
  · rw[Int.toNat_natCast] at h1
    exact⟨rfl,h1,h2,h4,hm.2⟩
theorem step_cnt {s s':TS} {p p':PS} (h:Step s p s' p') (hok:TsOk s) (hok':TsOk s') (hu:∀ f∈s.t,p.u.getD f 0=2) (hz:∀ f∈s.t,p.z.getD (f / 32) 0=2∧p.i.getD (f / 32) false=false)
    (hn:∀ f∈s'.t,f ∉ s.t→p.z.getD (f / 32) 0=2∧p.i.getD (f / 32) false=false):cntF p' 2+s'.t.length=cntF p 2+s.t.length∧cntF p' 3=cntF p 3:=by
  constructor
  · unfold cntF
    rw[← List.length_append,← List.length_append]
    refine ((List.perm_ext_iff_of_nodup ?_ ?_).2 fun f=>?_).length_eq
    · refine List.nodup_append.2 ⟨List.nodup_range.filter _,hok'.sorted.imp (fun {a b} h=>by omega),fun a ha b hb e=>?_⟩
      subst e
      obtain⟨_,h2⟩:=List.mem_filter.1 ha
      have h3:=(of_decide_eq_true h2).1
      rw[h.u a (hok'.tlt a hb),if_pos hb] at h3
      omega
    · refine List.nodup_append.2 ⟨List.nodup_range.filter _,hok.sorted.imp (fun {a b} h=>by omega),fun a ha b hb e=>?_⟩
      subst e
      obtain⟨_,h2⟩:=List.mem_filter.1 ha
      have h3:=(of_decide_eq_true h2).1
      rw[hu a hb] at h3
      omega
    · rw[List.mem_append,List.mem_append,List.mem_filter,List.mem_filter,List.mem_range,h.z,h.i]
      simp only[decide_eq_true_iff]
      constructor
      · rintro (⟨h1,h2,h3⟩ | h1)
        · rw[h.u f h1] at h2
          by_cases c:f∈s'.t
          · rw[if_pos c] at h2;omega
          · rw[if_neg c] at h2
            by_cases d:f∈s.t
            · exact .inr d
            · rw[if_neg d] at h2
              exact .inl ⟨h1,h2,h3⟩
        · by_cases d:f∈s.t
          · exact .inr d
          · exact .inl ⟨hok'.tlt f h1,h.new f h1 d,hn f h1 d⟩
      · rintro (⟨h1,h2,h3⟩ | h1)
        · by_cases c:f∈s'.t
          · exact .inr c
          · refine .inl ⟨h1,?_,h3⟩
            rw[h.u f h1,if_neg c,if_neg (fun d=>by have:=hu f d;omega)]
            exact h2
        · by_cases c:f∈s'.t
          · exact .inr c
          · refine .inl ⟨hok.tlt f h1,?_,hz f h1⟩
            rw[h.u f (hok.tlt f h1),if_neg c,if_pos h1]
  · unfold cntF
    refine filter_same fun f hf=>decide_eq_decide.2 ?_
    rw[h.u f hf,h.z,h.i]
    by_cases c:f∈s'.t
    · rw[if_pos c]
      have hzz:p.z.getD (f / 32) 0=2:=by
        by_cases d:f∈s.t
        · exact (hz f d).1
        · exact (hn f c d).1
      constructor
      · rintro⟨h,_⟩;omega
      · rintro⟨_,h,_⟩;omega
    · rw[if_neg c]
      by_cases d:f∈s.t
      · rw[if_pos d]
        have h1:=(hz f d).1
        constructor
        · rintro⟨_,h,_⟩;omega
        · rintro⟨_,h,_⟩;omega
      · rw[if_neg d]
end Go.Proofs.YtaonpmclkafjdaaGreat
namespace Go.Proofs.YtaonpmclkafjdaaGreat
open Go.RowKit
set_option linter.unusedVariables false
structure SetDone (m:SpM)(y:SpX)(pg:Nat)(x:En)(F':Nat→List Nat)(p':PS)(t':TS):Prop where
  e:t'.e=y.t.e.set pg x
  live:t'.live=true
  step:Step y.t m.p t' p'
  zone:∀ f∈t'.t,f ∉ y.t.t→m.p.z.getD (f / 32) 0=2∧m.p.i.getD (f / 32) false=false
  F:∀ f,f ∉ y.t.t→m.p.u.getD f 0≠1→F' f=m.F f
  ok:TsOk t'
theorem Tabs.alloc {m:SpM}{use f:Nat}{p1:PS}{F1:Nat→List Nat}(h:Tabs m)(ha:Alloc1 m.p use f p1):Tabs ((m.setP p1).setF F1) :=
  ⟨h.bad,h.live,fun n y hy g hg=>by
    show p1.u.getD g 0=2
    rw[ha.u,if_neg (fun e=>by have h1:=h.use n y hy g hg;have h2:=ha.free;rw[e] at h1;omega)]
    exact h.use n y hy g hg,h.two⟩
theorem takeM_x (m:SpM)(p:Pl)(x:En):(takeM m p x).x=m.x:=by
  unfold takeM
  split
  · rfl
  · split <;> rfl
theorem freeM_x (m:SpM)(n:Int)(p:Pl):(freeM m n p).x=m.x:=by
  unfold freeM
  split <;> rfl
theorem leaveM_x (m:SpM)(p:Pl)(x:En):(leaveM m p x).x=m.x:=by
  unfold leaveM
  split
  · exact freeM_x _ _ _
  · split <;> rfl
theorem putM_x (m:SpM)(n:Nat)(y:SpX)(pg:Nat)(x:En)(er:Nat)(F':Nat→List Nat)(p':PS)(t':TS):(putM m n y pg x er F' p' t').x=upd m.x n (some ⟨t',y.a,y.q⟩):=by
  unfold putM
  split
  · split
    · exact takeM_x _ _ _
    · rw[leaveM_x,takeM_x];rfl
  · rfl
section
variable (gS:Nat)(a:SpA)(k:SpK)(K:Nat→Prop)(m:SpM)(w:World)
theorem SpMem.tsok {n:Nat}{y:SpX}(h:SpMem w gS a k K m)(hy:m.x n=some y):TsOk y.t:=by
  obtain⟨_,_,_,_,h1,_⟩:=h.treeP hy
  exact h1.ok
theorem put_ok (n:Nat) (y:SpX) (pg:Nat) (x:En) (h:SpMem w gS a k K m) (hy:m.x n=some y) (hpg:pg < 4096) (hT:Tabs m) (hF:Few m) (hx:EnOk x) (h3:3≤cntF m.p 2) :
    Calls Tryz.prog 104 #[.pointer (some ⟨gS,0,none⟩),.agg #[.int .i64 (n:Int),.int .i64 (pg:Int)],.agg #[.int .i64 x.k,.int .i64 x.n,.bool x.w]] w fun e w' =>
      ∃ F' p' t',SetDone m y pg x F' p' t'∧SpEnd w gS a k K (.int .i64 0) (putM m n y pg x 0 F' p' t') e w':=by
  refine (put_any gS a k K m w n y pg x h hy hpg hT hF).mono ?_
  rintro e w' ⟨er,F',p',t',h1,h2,h4,h5,K',h6,h7⟩
  obtain⟨rfl,b1,b2,b3,b4⟩:=set_ok h1 h2 (h.tsok gS a k K m w hy) (hT.live n y hy) hx hpg h3
  refine⟨F',p',t',⟨b1,b2,b3,b4,h4,?_⟩,h5,K',h6,h7⟩
  exact h6.tsok gS a k K' _ w' (n:=n) (y:=⟨t',y.a,y.q⟩) (by rw[putM_x];exact upd_same _ _ _)
set_option maxRecDepth 100000 in
set_option maxHeartbeats 1000000 in
theorem has_ok (n:Nat) (y:SpX) (pg f:Nat) (hf:f < 1024) (h:SpMem w gS a k K m) (hy:m.x n=some y) (hpg:pg < 4096) (hT:Tabs m) (hF:Few m) (h3:3≤cntF m.p 2) :
    Calls Tryz.prog 209 #[.pointer (some ⟨gS,0,none⟩),.agg #[.int .i64 (n:Int),.int .i64 (pg:Int)],.int .i64 (f:Int)] w fun e w' =>
      ∃ F' p' t',SetDone m y pg ⟨1,f,false⟩ F' p' t'∧SpEnd w gS a k K (.tuple #[.int .i64 (f:Int),.int .i64 0]) (putM m n y pg ⟨1,f,false⟩ 0 F' p' t') e w':=by
  obtain⟨W,hW⟩:∃ W,w.alloc (.cells #[.int .i64 (n:Int),.int .i64 (pg:Int)] 60)=W:=⟨_,rfl⟩
  have hb:Below w.heap.size w W:=by rw[← hW];exact belAl (Below.refl _ w) _
  have hP:Blk W w.heap.size 60 #[.int .i64 (n:Int),.int .i64 (pg:Int)]:=by rw[← hW];exact Blk.new w _ _
  have HC:=Lib.hid (put_ok gS a k K m W n y pg ⟨1,f,false⟩ (h.fresh hb) hy hpg hT hF (.inl ⟨rfl,by simp,by simp only;omega⟩) h3)
  have G:=Lib.hid (Went.of_below (K:=K) hb)
  have p0:W.cell? ⟨w.heap.size,0,none⟩=some (.int .i64 (n:Int)):=hP.cell 0
  have p1:W.cell? ⟨w.heap.size,1,none⟩=some (.int .i64 (pg:Int)):=hP.cell 1
  clear hb hP h hy hT hF h3
  go_enter Tryz.func209,Tryz.ntmps209
  go_wp2_with fail
  refine HC.out.mono ?_
  rintro e w2 ⟨F',p',t',h1,rfl,h2⟩
  have H1:=Lib.hid h1
  have R:=Lib.hid (h2.from_ G.out)
  clear h1 h2
  go_wp2_with fail
  go_ret2
  exact⟨F',p',t',H1.out,rfl,R.out⟩
set_option maxRecDepth 100000 in
set_option maxHeartbeats 2000000 in
theorem bring_ok (g:Nat) (pre post:Array Value) (eg:∀ args w,(callFunc g args).run Tryz.prog w=.ok (.enter g args) w) (n:Nat) (y:SpX) (pg use:Nat) (B:List Nat) (hu:3≤use∧use≤4) (h:SpMem w gS a k K m) (hy:m.x n=some y) (hpg:pg < 4096) (hT:Tabs m) (hF:Few m) (h3:3≤cntF m.p 2) (hc:0 < cntF m.p 3)
    (hfill:∀ f p1 w1 K1,Alloc1 m.p use f p1→Went w K w1 K1→SpMem w1 gS a k K1 (m.setP p1)→Calls Tryz.prog g (pre.push (.int .i64 (f:Int)) ++ post) w1 (SpEnd w1 gS a k K1 (.int .i64 0) ((m.setP p1).setF (upd m.F f B)))) :
    Calls Tryz.prog 182 #[.pointer (some ⟨gS,0,none⟩),.agg #[.int .i64 (n:Int),.int .i64 (pg:Int)],.int .i64 (use:Int),.func (.func g) pre post] w fun e w' =>
      ∃ f p1 F' p' t',Alloc1 m.p use f p1∧SetDone ((m.setP p1).setF (upd m.F f B)) y pg ⟨1,f,false⟩ F' p' t'∧SpEnd w gS a k K (.tuple #[.int .i64 (f:Int),.int .i64 0]) (putM ((m.setP p1).setF (upd m.F f B)) n y pg ⟨1,f,false⟩ 0 F' p' t') e w':=by
  obtain⟨W,hW⟩:∃ W,w.alloc (.cells #[.int .i64 (n:Int),.int .i64 (pg:Int)] 60)=W:=⟨_,rfl⟩
  have hb:Below w.heap.size w W:=by rw[← hW];exact belAl (Below.refl _ w) _
  have hP:Blk W w.heap.size 60 #[.int .i64 (n:Int),.int .i64 (pg:Int)]:=by rw[← hW];exact Blk.new w _ _
  have h1:=h.fresh hb
  have c2:W.cell? ⟨gS,2,none⟩=some (.pointer (some ⟨a.P,0,none⟩)):=h1.cells.cell 2
  obtain⟨KP,hPm,-,hl⟩:=h1.poolP
  have HA:=Lib.hid (pool_alloc a.P KP m.p (use:Int) 0 true W hPm)
  have HOK:=Lib.hid hPm.ok
  have HL:=Lib.hid hl
  have G:=Lib.hid (Went.of_below (K:=K) hb)
  have HP:=Lib.hid hP
  have HK:=Lib.hid h.lt
  have HY:=Lib.hid hy
  have HT:=Lib.hid hT
  have HF:=Lib.hid hF
  have HX:=Lib.hid hfill
  have HU:=Lib.hid hu
  have HC:=Lib.hid (And.intro h3 hc)
  clear hb hP h1 hPm hl h hy hT hF hfill hu h3 hc
  go_enter Tryz.func182,Tryz.ntmps182
  go_wp2_with fail
  refine HA.out.mono ?_
  rintro e w2 ⟨f,er,p1,hal,K2,rfl,hp2,hn2,ht2⟩
  obtain⟨rfl,hal1⟩:=alloc_movable hal HOK.out (by have:=HU.out;omega) (by have:=HU.out;omega) HC.out.2
  obtain⟨K3,h3,g3⟩:=HL.out p1 w2 K2 hp2 hn2 ht2
  have AL:=Lib.hid hal1
  have FI:=Lib.hid (HX.out f p1 w2 K3 hal1 (G.out.trans g3) h3)
  have G3:=Lib.hid g3
  clear hal hal1 h3 g3 hp2 hn2 ht2 HA HL
  have t0:(((0:Nat):Int) != 0)=false:=rfl
  have t1:(((0:Nat):Int) == 0)=true:=rfl
  go_wp2_with fail
  refine FI.out.mono ?_
  rintro e w3 ⟨rfl,K4,h4,g4⟩
  have g34:=G3.out.trans g4
  have hP4:Blk w3 w.heap.size 60 #[.int .i64 (n:Int),.int .i64 (pg:Int)]:=g34.tr.blk HP.out fun hk=>Nat.lt_irrefl _ (HK.out _ hk)
  have p0:w3.cell? ⟨w.heap.size,0,none⟩=some (.int .i64 (n:Int)):=hP4.cell 0
  have p1c:w3.cell? ⟨w.heap.size,1,none⟩=some (.int .i64 (pg:Int)):=hP4.cell 1
  have hT4:Tabs ((m.setP p1).setF (upd m.F f B)):=HT.out.alloc AL.out
  have HS:=Lib.hid (has_ok gS a k K4 _ w3 n y pg f AL.out.lt h4 HY.out hpg hT4 ⟨HF.out.b,HF.out.f,HF.out.s⟩ (by show 3≤cntF p1 2;rw[AL.out.c2];exact HC.out.1))
  have G4:=Lib.hid g34
  clear h4 g4 g34 hP4 hT4 FI
  go_wp2_with fail
  refine HS.out.mono ?_
  rintro e w5 ⟨F',p',t',h5,rfl,h6⟩
  have H5:=Lib.hid h5
  have R:=Lib.hid ((h6.from_ G4.out).from_ G.out)
  clear h5 h6 HS
  go_wp2_with fail
  go_ret2
  exact⟨f,p1,F',p',t',AL.out,H5.out,rfl,R.out⟩
end
end Go.Proofs.YtaonpmclkafjdaaGreat
namespace Go.Proofs.YtaonpmclkafjdaaGreat
open Go.RowKit
set_option linter.unusedVariables false
def places:List Pl:=(List.range 8).flatMap fun (n:Nat)=>(List.range 4096).map fun (q:Nat)=>(⟨(n:Int),(q:Int)⟩:Pl)
theorem places_length:places.length=32768:=by
  unfold places
  rw[List.length_flatMap]
  simp
  decide
theorem places_mem {n pg:Nat}(hn:n < 8)(hp:pg < 4096):(⟨n,pg⟩:Pl)∈places:=List.mem_flatMap.2 ⟨n,List.mem_range.2 hn,List.mem_map.2 ⟨pg,List.mem_range.2 hp,rfl⟩⟩
def entM (m:SpM)(n pg:Nat):En:=match m.x n with
  | some y=>y.t.e.getD pg en0
  | none=>en0
theorem entM_some {m:SpM}{n:Nat}{y:SpX}(hy:m.x n=some y)(pg:Nat):entM m n pg=y.t.e.getD pg en0:=by unfold entM;rw[hy]
theorem entM_none {m:SpM}{n:Nat}(hy:m.x n=none)(pg:Nat):entM m n pg=en0:=by unfold entM;rw[hy]
theorem entM_congr {m m':SpM}(h:m'.x=m.x)(n pg:Nat):entM m' n pg=entM m n pg:=by unfold entM;rw[h]
def arM (m:SpM)(n pg:Nat):Option Ar:=match m.x n with
  | some y=>findA y.a (pg:Int)
  | none=>none
def Good (A:Nat→Nat→Option Ar)(m:SpM)(n pg:Nat)(x:En):Prop:=x=en0∨∃ f:Nat,x=⟨1,(f:Int),false⟩∧f < 1024∧∃ r,A n pg=some r ∧
  ((m.p.u.getD f 0=3∧r.kd≠2)∨(m.p.u.getD f 0=4∧r.kd≠1∧frameC m.c ⟨r.fl,r.ofs+(pg:Int) - r.fr⟩=some (f:Int)))
def GoodS (A:Nat→Nat→Option Ar)(n pg:Nat)(x:En):Prop:=∃ t:Nat,x=⟨2,(t:Int),false⟩∧t < 32∧∃ r,A n pg=some r∧r.kd≠2
structure Inv (A:Nat→Nat→Option Ar)(m:SpM):Prop where
  tabs:Tabs m
  zone:∀ n y,m.x n=some y→∀ f∈y.t.t,m.p.z.getD (f / 32) 0=2∧m.p.i.getD (f / 32) false=false
  tok:∀ n y,m.x n=some y→TsOk y.t
  x8:∀ n y,m.x n=some y→n < 8
  ars:∀ n y,m.x n=some y→listA y.a∧y.a.length≤16
  good:∀ n pg,Good A m n pg (entM m n pg)∨GoodS A n pg (entM m n pg)
  back:∀ (f:Int) (q:Pl),q∈m.b f↔∃ n pg:Nat,q=⟨n,pg⟩∧entM m n pg=⟨1,f,false⟩
  srt:∀ f,SrtP (m.b f)
  slot:∀ t n pg:Nat,m.x n≠none→((⟨n,pg⟩:Pl)∈m.s t↔entM m n pg=⟨2,(t:Int),false⟩)
  ssrt:∀ t,SrtP (m.s t)
  sin:∀ t,∀ q∈m.s t,q∈places
  cok:CsOk m.c
  ckey:∀ e∈m.c,(0≤e.k.c∧e.k.c < 4∧0≤e.k.g∧e.k.g < 16)∧∃ f:Nat,e.f=(f:Int)∧f < 1024∧m.p.u.getD f 0=4
  tr:m.T=Tr.none_
theorem frameC_some {es:CS}{k:Pl}{f:Int}(h:frameC es k=some f):∃ e∈es,e.k=k∧e.f=f:=by
  unfold frameC at h
  rw[Option.map_eq_some_iff] at h
  obtain⟨e,h1,h2⟩:=h
  exact⟨e,List.mem_of_find?_eq_some h1,by simpa using List.find?_some h1,h2⟩
theorem pageC_some {es:CS}{f:Int}{k:Pl}(h:pageC es f=some k):∃ e∈es,e.k=k∧e.f=f:=by
  unfold pageC at h
  rw[Option.map_eq_some_iff] at h
  obtain⟨e,h1,h2⟩:=h
  exact⟨e,List.mem_of_find?_eq_some h1,h2,by simpa using List.find?_some h1⟩
theorem frame_atU {es:CS}{i:Nat}{e:Ce}(h:CsOk es)(h2:es[i]?=some e):frameC es e.k=some e.f∧pageC es e.f=some e.k:=by
  have hc:es=es.take i ++ e :: es.drop (i+1):=by
    obtain⟨hi,rfl⟩:=List.getElem?_eq_some_iff.1 h2
    rw[List.getElem_cons_drop,List.take_append_drop]
  unfold frameC pageC
  have hp:=h
  rw[hc] at hp ⊢
  obtain⟨p1,p2,p3⟩:=List.pairwise_append.1 hp
  constructor
  · rw[List.find?_append,List.find?_eq_none.2 (fun x hx=>by simp[(p3 x hx e List.mem_cons_self).1]),Option.none_or,List.find?_cons_of_pos (by simp)]
    rfl
  · rw[List.find?_append,List.find?_eq_none.2 (fun x hx=>by simp[(p3 x hx e List.mem_cons_self).2]),Option.none_or,List.find?_cons_of_pos (by simp)]
    rfl
theorem pageC_of {es:CS}(hk:CsOk es){k:Pl}{f:Int}(h:frameC es k=some f):pageC es f=some k:=by
  obtain⟨e,he,rfl,rfl⟩:=frameC_some h
  obtain⟨i,hi,e1⟩:=List.mem_iff_getElem.1 he
  exact (frame_atU hk (i:=i) (by rw[List.getElem?_eq_getElem hi,e1])).2
theorem en_ne (f:Int):(⟨1,f,false⟩:En)≠en0:=fun e=>by injection e with e1;exact absurd e1 (by decide)
theorem es_ne (f:Int):(⟨2,f,false⟩:En)≠en0:=fun e=>by injection e with e1;exact absurd e1 (by decide)
theorem es_fr (f g:Int):(⟨2,f,false⟩:En)≠⟨1,g,false⟩:=fun e=>by injection e with e1;exact absurd e1 (by decide)
theorem es_inj {f g:Int}(h:(⟨2,f,false⟩:En)=⟨2,g,false⟩):f=g:=by injection h
theorem en_inj {f g:Int}(h:(⟨1,f,false⟩:En)=⟨1,g,false⟩):f=g:=by injection h
structure Rest (M M':SpM):Prop where
  F:M'.F=M.F
  bad:M'.bad=M.bad
  S:M'.S=M.S
  L:M'.L=M.L
  T:M'.T=M.T
  c:M'.c=M.c
  x:M'.x=M.x
theorem Rest.refl (M:SpM):Rest M M:=⟨rfl,rfl,rfl,rfl,rfl,rfl,rfl⟩
theorem Rest.trans {M M' M'':SpM}(h:Rest M M')(g:Rest M' M''):Rest M M'':=⟨g.F.trans h.F,g.bad.trans h.bad,g.S.trans h.S,g.L.trans h.L,g.T.trans h.T,g.c.trans h.c,g.x.trans h.x⟩
def Kinds (x:En):Prop:=x=en0∨(∃ f:Int,x=⟨1,f,false⟩)∨∃ t:Nat,t < 32∧x=⟨2,(t:Int),false⟩
theorem hold_is (s:SS)(t:Nat)(ht:t < 32)(pl:Pl)(hs:∀ t,SrtP (s t)):(∀ t',SrtP (holdS s (t:Int) pl t'))∧∀ t' q,q∈holdS s (t:Int) pl t'↔q∈s t'∨(q=pl∧t'=t):=by
  have e:holdS s (t:Int) pl=updS s t (putP (s t) pl):=by
    unfold holdS
    rw[if_pos (show isSlot (t:Int) from ⟨by omega,by omega⟩),Int.toNat_natCast]
  rw[e]
  constructor
  · intro t'
    by_cases c:t'=t
    · subst c;rw[updS_same];exact srt_putP (hs _)
    · rw[updS_other _ _ _ c];exact hs _
  · intro t' q
    by_cases c:t'=t
    · subst c
      rw[updS_same,mem_putP]
      exact⟨fun h=>h.elim (fun h=>.inr ⟨h,rfl⟩) .inl,fun h=>h.elim .inr fun h=>.inl h.1⟩
    · rw[updS_other _ _ _ c]
      exact⟨.inl,fun h=>h.elim id fun h=>absurd h.2 c⟩
theorem rel_is (s:SS)(t:Nat)(ht:t < 32)(pl:Pl)(hs:∀ t,SrtP (s t)):(∀ t',SrtP (relS s (t:Int) pl t'))∧∀ t' q,q∈relS s (t:Int) pl t'↔q∈s t'∧¬ (q=pl∧t'=t):=by
  have e:relS s (t:Int) pl=updS s t ((s t).erase pl):=by
    unfold relS
    rw[if_pos (show isSlot (t:Int) from ⟨by omega,by omega⟩),Int.toNat_natCast]
  rw[e]
  constructor
  · intro t'
    by_cases c:t'=t
    · subst c;rw[updS_same];exact srt_erase (hs _) _
    · rw[updS_other _ _ _ c];exact hs _
  · intro t' q
    by_cases c:t'=t
    · subst c
      rw[updS_same,mem_erase_srt (hs _)]
      exact⟨fun h=>⟨h.2,fun d=>h.1 d.1⟩,fun h=>⟨fun d=>h.2 ⟨d,rfl⟩,h.1⟩⟩
    · rw[updS_other _ _ _ c]
      exact⟨fun h=>⟨h,fun d=>c d.2⟩,fun h=>h.1⟩
structure TakeIs20 (M M':SpM)(pl:Pl)(x:En):Prop where
  rest:Rest M M'
  p:M'.p=M.p
  srt:∀ g,SrtP (M'.b g)
  ssrt:∀ t,SrtP (M'.s t)
  mem:∀ g q,q∈M'.b g↔q∈M.b g∨(q=pl∧x.k=1∧x.n=g)
  smem:∀ (t:Nat) q,q∈M'.s t↔q∈M.s t∨(q=pl∧x.k=2∧x.n=(t:Int))
theorem takeM_is (M:SpM)(pl:Pl)(x:En)(hx:Kinds x)(hs:∀ g,SrtP (M.b g))(hss:∀ t,SrtP (M.s t)):TakeIs20 M (takeM M pl x) pl x:=by
  rcases hx with rfl | ⟨f,rfl⟩ | ⟨t,ht,rfl⟩
  · have e:takeM M pl en0=M:=rfl
    rw[e]
    exact⟨Rest.refl _,rfl,hs,hss,fun g q=>⟨.inl,fun h=>h.elim id (fun h=>absurd h.2.1 (by decide))⟩,fun t q=>⟨.inl,fun h=>h.elim id (fun h=>absurd h.2.1 (by decide))⟩⟩
  · have e:takeM M pl ⟨1,f,false⟩=M.setB (updB M.b f (putP (M.b f) pl)):=rfl
    rw[e]
    refine⟨⟨rfl,rfl,rfl,rfl,rfl,rfl,rfl⟩,rfl,fun g=>?_,hss,fun g q=>?_,fun t q=>⟨.inl,fun h=>h.elim id (fun h=>absurd h.2.1 (show ¬ (1:Int)=2 by decide))⟩⟩
    · show SrtP (updB M.b f (putP (M.b f) pl) g)
      by_cases c:g=f
      · subst c;rw[updB_same];exact srt_putP (hs _)
      · rw[updB_other _ _ _ c];exact hs _
    · show q∈updB M.b f (putP (M.b f) pl) g↔_
      by_cases c:g=f
      · subst c
        rw[updB_same,mem_putP]
        constructor
        · rintro (h | h)
          · exact .inr ⟨h,rfl,rfl⟩
          · exact .inl h
        · rintro (h | ⟨h,-,-⟩)
          · exact .inr h
          · exact .inl h
      · rw[updB_other _ _ _ c]
        exact⟨.inl,fun h=>h.elim id fun h=>absurd h.2.2.symm c⟩
  · have e:takeM M pl ⟨2,(t:Int),false⟩=M.setS (holdS M.s (t:Int) pl):=rfl
    rw[e]
    obtain⟨a1,a2⟩:=hold_is M.s t ht pl hss
    refine⟨⟨rfl,rfl,rfl,rfl,rfl,rfl,rfl⟩,rfl,hs,a1,fun g q=>⟨.inl,fun h=>h.elim id (fun h=>absurd h.2.1 (show ¬ (2:Int)=1 by decide))⟩,fun t' q=>?_⟩
    refine (a2 t' q).trans ⟨fun h=>h.imp id fun h=>⟨h.1,rfl,by rw[h.2]⟩,fun h=>h.imp id fun h=>⟨h.1,?_⟩⟩
    have:(t:Int)=t':=h.2.2
    omega
set_option maxRecDepth 20000 in
theorem freeM_is (M:SpM) (f0:Nat) (hf:f0 < 1024) (pl:Pl) (hs:∀ g,SrtP (M.b g)) :
    Rest M (freeM M (f0:Int) pl)∧(freeM M (f0:Int) pl).s=M.s∧(∀ g,SrtP ((freeM M (f0:Int) pl).b g))∧(∀ g q,q∈(freeM M (f0:Int) pl).b g↔q∈M.b g∧¬ (q=pl∧g=(f0:Int))) ∧
      ((freeM M (f0:Int) pl).p=M.p∨(M.p.u.getD f0 0=3∧(∀ q,q ∉ (freeM M (f0:Int) pl).b (f0:Int))∧(freeM M (f0:Int) pl).p=⟨M.p.u.set f0 1,M.p.z,M.p.i⟩)) ∧
      ((∀ q,q ∉ (freeM M (f0:Int) pl).b (f0:Int))→(freeM M (f0:Int) pl).p.u.getD f0 0≠3):=by
  have hd:∀ g q,q∈(dropM M (f0:Int) pl).b g↔q∈M.b g∧¬ (q=pl∧g=(f0:Int)):=by
    intro g q
    show q∈updB M.b _ _ g↔_
    by_cases c:g=(f0:Int)
    · subst c
      rw[updB_same,mem_erase_srt (hs _)]
      constructor
      · rintro⟨h1,h2⟩;exact⟨h2,fun h=>h1 h.1⟩
      · rintro⟨h1,h2⟩;exact⟨fun h=>h2 ⟨h,rfl⟩,h1⟩
    · rw[updB_other _ _ _ c]
      exact⟨fun h=>⟨h,fun h'=>c h'.2⟩,fun h=>h.1⟩
  have hsd:∀ g,SrtP ((dropM M (f0:Int) pl).b g):=by
    intro g
    show SrtP (updB M.b _ _ g)
    by_cases c:g=(f0:Int)
    · subst c;rw[updB_same];exact srt_erase (hs _) _
    · rw[updB_other _ _ _ c];exact hs _
  have hu:useP M.p (f0:Int)=M.p.u.getD f0 0:=by
    unfold useP
    rw[if_pos ⟨by omega,by omega⟩,Int.toNat_natCast]
  unfold freeM
  split
  · rename_i c
    rw[hu] at c
    have e:(freeP M.p (f0:Int)).2=⟨M.p.u.set f0 1,M.p.z,M.p.i⟩:=by
      unfold freeP
      rw[hu,if_pos ⟨by omega,by omega⟩,Int.toNat_natCast]
    refine⟨⟨rfl,rfl,rfl,rfl,rfl,rfl,rfl⟩,rfl,hsd,hd,.inr ⟨c.1,fun q hq=>?_,e⟩,fun _ h3=>?_⟩
    · have:q∈(M.b (f0:Int)).erase pl:=by
        have h:q∈updB M.b (f0:Int) ((M.b (f0:Int)).erase pl) (f0:Int):=hq
        rwa [updB_same] at h
      rw[c.2] at this
      cases this
    · have h4:(freeP M.p (f0:Int)).2.u.getD f0 0=3:=h3
      rw[e] at h4
      have h5:(M.p.u.set f0 1).getD f0 0=3:=h4
      by_cases l:f0 < M.p.u.length
      · rw[getD_set_same _ _ _ _ l] at h5
        cases h5
      · rw[List.getD_eq_getElem?_getD,List.getElem?_eq_none (by rw[List.length_set];omega)] at h5
        cases h5
  · rename_i c
    refine⟨⟨rfl,rfl,rfl,rfl,rfl,rfl,rfl⟩,rfl,hsd,hd,.inl rfl,fun hq h3=>c ⟨by rw[hu];exact h3,?_⟩⟩
    refine List.eq_nil_iff_forall_not_mem.2 fun q hm=>hq q ?_
    show q∈updB M.b (f0:Int) ((M.b (f0:Int)).erase pl) (f0:Int)
    rw[updB_same]
    exact hm
structure PutIs (m:SpM)(n:Nat)(y:SpX)(pg:Nat)(x:En)(F':Nat→List Nat)(p':PS)(t':TS)(m1:SpM):Prop where
  rest:Rest (m.tree n y F' p' t') m1
  srt:∀ g,SrtP (m1.b g)
  ssrt:∀ t,SrtP (m1.s t)
  mem:∀ g q,q∈m1.b g↔(q=⟨n,pg⟩∧x.k=1∧x.n=g)∨(q≠⟨n,pg⟩∧q∈m.b g)
  smem:∀ (t:Nat) q,q∈m1.s t↔(q=⟨n,pg⟩∧x.k=2∧x.n=(t:Int))∨(q≠⟨n,pg⟩∧q∈m.s t)
  p:m1.p=p'∨∃ f0:Nat,f0 < 1024∧entM m n pg=⟨1,(f0:Int),false⟩∧p'.u.getD f0 0=3∧(∀ q,q ∉ m1.b (f0:Int))∧m1.p=⟨p'.u.set f0 1,p'.z,p'.i⟩
  lk:∀ f0:Nat,entM m n pg=⟨1,(f0:Int),false⟩→(∀ q,q ∉ m1.b (f0:Int))→m1.p.u.getD f0 0≠3
set_option maxRecDepth 20000 in
theorem putIs {A:Nat→Nat→Option Ar}{m:SpM}{n:Nat}{y:SpX}{pg:Nat}{x:En}{F':Nat→List Nat}{p':PS}{t':TS}(h:Inv A m)(hy:m.x n=some y)(hx:Kinds x):PutIs m n y pg x F' p' t' (putM m n y pg x 0 F' p' t'):=by
  have hb:∀ g,(⟨n,pg⟩:Pl)∈m.b g↔entM m n pg=⟨1,g,false⟩:=fun g=>by
    rw[h.back]
    constructor
    · rintro⟨n',q',e1,e2⟩
      injection e1 with a1 a2
      obtain rfl:n=n':=by omega
      obtain rfl:pg=q':=by omega
      exact e2
    · exact fun e=>⟨n,pg,rfl,e⟩
  have hsb:∀ t:Nat,(⟨n,pg⟩:Pl)∈m.s t↔entM m n pg=⟨2,(t:Int),false⟩:=fun t=>h.slot t n pg (by rw[hy];simp)
  have T:=takeM_is (m.tree n y F' p' t') ⟨n,pg⟩ x hx (fun g=>h.srt g) (fun t=>h.ssrt t)
  have tm:∀ g q,q∈(takeM (m.tree n y F' p' t') ⟨n,pg⟩ x).b g↔q∈m.b g∨(q=⟨n,pg⟩∧x.k=1∧x.n=g):=T.mem
  have ts:∀ (t:Nat) q,q∈(takeM (m.tree n y F' p' t') ⟨n,pg⟩ x).s t↔q∈m.s t∨(q=⟨n,pg⟩∧x.k=2∧x.n=(t:Int)):=T.smem
  have tp:(takeM (m.tree n y F' p' t') ⟨n,pg⟩ x).p=p':=T.p
  have e0:putM m n y pg x 0 F' p' t'=if (entM m n pg).k=x.k∧(entM m n pg).n=x.n then takeM (m.tree n y F' p' t') ⟨n,pg⟩ x else leaveM (takeM (m.tree n y F' p' t') ⟨n,pg⟩ x) ⟨n,pg⟩ (entM m n pg):=by
    rw[entM_some hy]
    rfl
  rw[e0]
  -- where nothing is let go of
  have keep:(∀ g,entM m n pg=⟨1,g,false⟩→x.k=1∧x.n=g)→(∀ t:Nat,entM m n pg=⟨2,(t:Int),false⟩→x.k=2∧x.n=(t:Int))→PutIs m n y pg x F' p' t' (takeM (m.tree n y F' p' t') ⟨n,pg⟩ x):=by
    intro k1 k2
    refine⟨T.rest,T.srt,T.ssrt,fun g q=>?_,fun t q=>?_,.inl tp,fun g e hq=>absurd ((tm _ _).2 (.inl ((hb _).2 e))) (hq _)⟩
    · rw[tm]
      constructor
      · rintro (c | c)
        · by_cases e:q=⟨n,pg⟩
          · rw[e,hb] at c
            exact .inl ⟨e,k1 g c⟩
          · exact .inr ⟨e,c⟩
        · exact .inl c
      · rintro (c | c)
        · exact .inr c
        · exact .inl c.2
    · rw[ts]
      constructor
      · rintro (c | c)
        · by_cases e:q=⟨n,pg⟩
          · rw[e,hsb] at c
            exact .inl ⟨e,k2 t c⟩
          · exact .inr ⟨e,c⟩
        · exact .inl c
      · rintro (c | c)
        · exact .inr c
        · exact .inl c.2
  by_cases c:(entM m n pg).k=x.k∧(entM m n pg).n=x.n
  · rw[if_pos c]
    refine keep (fun g e=>?_) (fun t e=>?_)
    · rw[e] at c
      exact⟨c.1.symm,c.2.symm⟩
    · rw[e] at c
      exact⟨c.1.symm,c.2.symm⟩
  · rw[if_neg c]
    rcases h.good n pg with (ho | ⟨f0,ho,hf0,-⟩) | ⟨t0,ho,ht0,-⟩
    · have e1:leaveM (takeM (m.tree n y F' p' t') ⟨n,pg⟩ x) ⟨n,pg⟩ (entM m n pg)=takeM (m.tree n y F' p' t') ⟨n,pg⟩ x:=by
        rw[ho]
        rfl
      rw[e1]
      refine keep (fun g e=>?_) (fun t e=>?_)
      · rw[ho] at e;exact absurd e.symm (en_ne _)
      · rw[ho] at e;exact absurd e.symm (es_ne _)
    · rw[ho]
      have e1:leaveM (takeM (m.tree n y F' p' t') ⟨n,pg⟩ x) ⟨n,pg⟩ ⟨1,(f0:Int),false⟩=freeM (takeM (m.tree n y F' p' t') ⟨n,pg⟩ x) (f0:Int) ⟨n,pg⟩:=rfl
      rw[e1]
      obtain⟨r1,rs,r2,r3,r4,r5⟩:=freeM_is (takeM (m.tree n y F' p' t') ⟨n,pg⟩ x) f0 hf0 ⟨n,pg⟩ T.srt
      refine⟨T.rest.trans r1,r2,fun t=>by rw[rs];exact T.ssrt t,fun g q=>?_,fun t q=>?_,?_,fun g e=>?_⟩
      rotate_right
      · have:=en_inj (ho.symm.trans e)
        obtain rfl:f0=g:=by omega
        exact r5
      · rw[r3,tm]
        constructor
        · rintro⟨d | d,e⟩
          · by_cases e2:q=⟨n,pg⟩
            · rw[e2,hb,ho] at d
              exact absurd ⟨e2,(en_inj d).symm⟩ e
            · exact .inr ⟨e2,d⟩
          · exact .inl d
        · rintro (d | d)
          · refine⟨.inr d,fun e=>c ?_⟩
            rw[ho]
            exact⟨d.2.1.symm,(d.2.2.trans e.2).symm⟩
          · exact⟨.inl d.2,fun e=>d.1 e.1⟩
      · rw[rs,ts]
        constructor
        · rintro (d | d)
          · by_cases e2:q=⟨n,pg⟩
            · rw[e2,hsb,ho] at d
              exact absurd d.symm (es_fr _ _)
            · exact .inr ⟨e2,d⟩
          · exact .inl d
        · rintro (d | d)
          · exact .inr d
          · exact .inl d.2
      · rw[tp] at r4
        rcases r4 with r4 | ⟨d1,d2,d3⟩
        · exact .inl r4
        · exact .inr ⟨f0,hf0,ho,d1,d2,d3⟩
    · rw[ho]
      have e1:leaveM (takeM (m.tree n y F' p' t') ⟨n,pg⟩ x) ⟨n,pg⟩ ⟨2,(t0:Int),false⟩=(takeM (m.tree n y F' p' t') ⟨n,pg⟩ x).setS (relS (takeM (m.tree n y F' p' t') ⟨n,pg⟩ x).s (t0:Int) ⟨n,pg⟩):=rfl
      rw[e1]
      obtain⟨r2,r3⟩:=rel_is (takeM (m.tree n y F' p' t') ⟨n,pg⟩ x).s t0 ht0 ⟨n,pg⟩ T.ssrt
      refine⟨T.rest.trans ⟨rfl,rfl,rfl,rfl,rfl,rfl,rfl⟩,T.srt,r2,fun g q=>?_,fun t q=>?_,.inl tp,fun g e _=>absurd (ho.symm.trans e) (es_fr _ _)⟩
      · show q∈(takeM (m.tree n y F' p' t') ⟨n,pg⟩ x).b g↔_
        rw[tm]
        constructor
        · rintro (d | d)
          · by_cases e2:q=⟨n,pg⟩
            · rw[e2,hb,ho] at d
              exact absurd d (es_fr _ _)
            · exact .inr ⟨e2,d⟩
          · exact .inl d
        · rintro (d | d)
          · exact .inr d
          · exact .inl d.2
      · refine (r3 t q).trans ?_
        rw[ts]
        constructor
        · rintro⟨d | d,e⟩
          · by_cases e2:q=⟨n,pg⟩
            · rw[e2,hsb,ho] at d
              have:=es_inj d
              exact absurd ⟨e2,by omega⟩ e
            · exact .inr ⟨e2,d⟩
          · exact .inl d
        · rintro (d | d)
          · refine⟨.inr d,fun e=>c ?_⟩
            rw[ho]
            have:=d.2.2
            exact⟨d.2.1.symm,by show (t0:Int)=x.n;rw[this,e.2]⟩
          · exact⟨.inl d.2,fun e=>d.1 e.1⟩
section
variable {A:Nat→Nat→Option Ar}{m m1:SpM}{n:Nat}{y:SpX}{pg:Nat}{x:En}{F':Nat→List Nat}{p':PS}{t':TS}
theorem PutIs.xs (h:PutIs m n y pg x F' p' t' m1):m1.x=upd m.x n (some ⟨t',y.a,y.q⟩):=h.rest.x
theorem PutIs.ent (h:PutIs m n y pg x F' p' t' m1)(hd:SetDone m y pg x F' p' t')(hy:m.x n=some y)(hl:y.t.e.length=4096)(hpg:pg < 4096)(n' q:Nat):entM m1 n' q=if n'=n∧q=pg then x else entM m n' q:=by
  by_cases c:n'=n
  · subst c
    have e:m1.x n'=some ⟨t',y.a,y.q⟩:=by rw[h.xs];exact upd_same _ _ _
    rw[entM_some e,entM_some hy]
    show t'.e.getD q en0=_
    rw[hd.e]
    by_cases d:q=pg
    · subst d
      rw[if_pos ⟨rfl,rfl⟩]
      exact getD_set_same _ _ _ _ (by omega)
    · rw[if_neg (fun e=>d e.2)]
      exact getD_set_ne _ _ _ _ _ d
  · rw[if_neg (fun e=>c e.1)]
    have e:m1.x n'=m.x n':=by rw[h.xs];exact upd_other _ _ _ c
    unfold entM
    rw[e]
theorem Inv.free_no (h:Inv A m){f:Nat}(hf:m.p.u.getD f 0≠3)(hf4:m.p.u.getD f 0≠4)(n' q:Nat):entM m n' q≠⟨1,(f:Int),false⟩:=by
  intro e
  rcases h.good n' q with (c | ⟨g,c,_,r,_,c2⟩) | ⟨t,c,_⟩
  · rw[c] at e;exact en_ne _ e.symm
  · rw[c] at e
    have:=en_inj e
    obtain rfl:g=f:=by omega
    rcases c2 with c2 | c2
    · exact hf c2.1
    · exact hf4 c2.1
  · rw[c] at e
    exact es_fr _ _ e
theorem PutIs.use (h:PutIs m n y pg x F' p' t' m1) (hd:SetDone m y pg x F' p' t') (hi:Inv A m) (hy:m.x n=some y) {f:Nat} (hf:f < 1024) (hu:m.p.u.getD f 0=3∨m.p.u.getD f 0=4) :
    p'.u.getD f 0=m.p.u.getD f 0∧(m1.p.u.getD f 0=m.p.u.getD f 0∨(m.p.u.getD f 0=3∧m1.p.u.getD f 0=1∧(∀ q,q ∉ m1.b (f:Int))∧entM m n pg=⟨1,(f:Int),false⟩)):=by
  have e:p'.u.getD f 0=m.p.u.getD f 0:=by
    rw[hd.step.u f hf,if_neg (fun c=>?_),if_neg (fun c=>?_)]
    · have:=hi.tabs.use n y hy f c;omega
    · by_cases c2:f∈y.t.t
      · have:=hi.tabs.use n y hy f c2;omega
      · have:=hd.step.new f c c2;omega
  refine⟨e,?_⟩
  rcases h.p with c | ⟨f0,h0,c1,c2,c3,c4⟩
  · rw[c];exact .inl e
  · rw[c4]
    by_cases d:f=f0
    · subst d
      refine .inr ⟨e.symm.trans c2,?_,c3,c1⟩
      refine getD_set_same _ _ _ _ ?_
      by_cases l:f < p'.u.length
      · exact l
      · rw[List.getD_eq_getElem?_getD,List.getElem?_eq_none (by omega)] at c2
        cases c2
    · left
      rw[← e]
      exact getD_set_ne _ _ _ _ _ d
theorem PutIs.z (h:PutIs m n y pg x F' p' t' m1)(hd:SetDone m y pg x F' p' t'):m1.p.z=m.p.z∧m1.p.i=m.p.i:=by
  rcases h.p with c | ⟨f0,h0,c1,c2,c3,c4⟩
  · rw[c];exact⟨hd.step.z,hd.step.i⟩
  · rw[c4];exact⟨hd.step.z,hd.step.i⟩
theorem Inv.put (hi:Inv A m)(hy:m.x n=some y)(hpg:pg < 4096)(hd:SetDone m y pg x F' p' t')(hg:Good A m n pg x∨GoodS A n pg x)(h:PutIs m n y pg x F' p' t' m1):Inv A m1:=by
  have hl:=(hi.tok n y hy).el
  have hent:=h.ent hd hy hl hpg
  have hz:=h.z hd
  have hback:∀ (f:Int) (q:Pl),q∈m1.b f↔∃ n' pg':Nat,q=⟨n',pg'⟩∧entM m1 n' pg'=⟨1,f,false⟩:=by
    intro f q
    rw[h.mem]
    constructor
    · rintro (⟨rfl,c1,c2⟩ | ⟨c1,c2⟩)
      · refine⟨n,pg,rfl,?_⟩
        rw[hent,if_pos ⟨rfl,rfl⟩]
        rcases hg with (rfl | ⟨g,rfl,_⟩) | ⟨t,rfl,_⟩
        · exact absurd c1 (by decide)
        · rw[← c2]
        · exact absurd c1 (show ¬ (2:Int)=1 by decide)
      · obtain⟨n',q',rfl,e⟩:=(hi.back _ _).1 c2
        refine⟨n',q',rfl,?_⟩
        rw[hent,if_neg]
        · exact e
        · rintro⟨rfl,rfl⟩;exact c1 rfl
    · rintro⟨n',q',rfl,e⟩
      rw[hent] at e
      by_cases c:n'=n∧q'=pg
      · obtain⟨rfl,rfl⟩:=c
        rw[if_pos ⟨rfl,rfl⟩] at e
        left
        rw[e]
        exact⟨rfl,rfl,rfl⟩
      · rw[if_neg c] at e
        refine .inr ⟨fun e2=>c ?_,(hi.back _ _).2 ⟨n',q',rfl,e⟩⟩
        injection e2 with a1 a2
        omega
  have hkeep:∀ n' q' (f:Nat),f < 1024→entM m1 n' q'=⟨1,(f:Int),false⟩→(m.p.u.getD f 0=3∨m.p.u.getD f 0=4)→m1.p.u.getD f 0=m.p.u.getD f 0:=by
    intro n' q' f hf e hu
    rcases (h.use hd hi hy hf hu).2 with c | ⟨_,_,c,_⟩
    · exact c
    · exact absurd ((hback _ _).2 ⟨n',q',rfl,e⟩) (c _)
  have hgood:∀ n' q' z,entM m1 n' q'=z→Good A m n' q' z→Good A m1 n' q' z:=by
    rintro n' q' z e (rfl | ⟨f,rfl,hf,r,hr,c⟩)
    · exact .inl rfl
    · have hk:=hkeep n' q' f hf e (by rcases c with c | c;exact .inl c.1;exact .inr c.1)
      refine .inr ⟨f,rfl,hf,r,hr,?_⟩
      rw[hk,h.rest.c]
      exact c
  have huse2:∀ f,f < 1024→p'.u.getD f 0=2→m1.p.u.getD f 0=2:=by
    intro f hf e
    rcases h.p with c | ⟨f0,h0,c1,c2,c3,c4⟩
    · rw[c];exact e
    · rw[c4]
      rw[getD_set_ne _ _ _ _ _ (fun d=>by rw[d] at e;omega)]
      exact e
  have hxs:=h.xs
  have hcase:∀ n' y',m1.x n'=some y'→(n'=n∧y'=⟨t',y.a,y.q⟩)∨(n'≠n∧m.x n'=some y'):=by
    intro n' y' e
    rw[hxs] at e
    by_cases c:n'=n
    · subst c
      rw[upd_same] at e
      exact .inl ⟨rfl,by injection e with e;exact e.symm⟩
    · rw[upd_other _ _ _ c] at e
      exact .inr ⟨c,e⟩
  have hxn:∀ n',m1.x n'≠none→m.x n'≠none:=fun n' e=>by
    by_cases c:n'=n
    · rw[c,hy];simp
    · rw[hxs,upd_other _ _ _ c] at e;exact e
  refine⟨⟨?_,?_,?_,?_⟩,?_,?_,?_,?_,?_,hback,h.srt,?_,h.ssrt,?_,?_,?_,?_⟩
  · rw[h.rest.bad];exact hi.tabs.bad
  · intro n' y' e
    rcases hcase n' y' e with ⟨rfl,rfl⟩ | ⟨c,e⟩
    · exact hd.live
    · exact hi.tabs.live n' y' e
  · intro n' y' e f hf
    rcases hcase n' y' e with ⟨rfl,rfl⟩ | ⟨c,e⟩
    · have hf1:=hd.ok.tlt f hf
      exact huse2 f hf1 (by rw[hd.step.u f hf1,if_pos hf])
    · have hf1:=(hi.tok n' y' e).tlt f hf
      have h2:=hi.tabs.use n' y' e f hf
      refine huse2 f hf1 ?_
      rw[hd.step.u f hf1]
      split
      · rfl
      · rw[if_neg (hi.tabs.two n y n' y' hy e c f hf)]
        exact h2
  · intro n1 y1 n2 y2 e1 e2 hne f hf2 hf1
    rcases hcase n1 y1 e1 with ⟨rfl,rfl⟩ | ⟨c1,e1⟩
    · rcases hcase n2 y2 e2 with ⟨rfl,rfl⟩ | ⟨c2,e2⟩
      · exact hne rfl
      · have h2:=hi.tabs.use n2 y2 e2 f hf2
        by_cases d:f∈y.t.t
        · exact hi.tabs.two _ _ _ _ hy e2 c2 f hf2 d
        · have:=hd.step.new f hf1 d;omega
    · rcases hcase n2 y2 e2 with ⟨rfl,rfl⟩ | ⟨c2,e2⟩
      · have h1:=hi.tabs.use n1 y1 e1 f hf1
        by_cases d:f∈y.t.t
        · exact hi.tabs.two _ _ _ _ hy e1 c1 f hf1 d
        · have:=hd.step.new f hf2 d;omega
      · exact hi.tabs.two _ _ _ _ e1 e2 hne f hf2 hf1
  · intro n' y' e f hf
    rw[hz.1,hz.2]
    rcases hcase n' y' e with ⟨rfl,rfl⟩ | ⟨c,e⟩
    · by_cases d:f∈y.t.t
      · exact hi.zone _ _ hy f d
      · exact hd.zone f hf d
    · exact hi.zone _ _ e f hf
  · intro n' y' e
    rcases hcase n' y' e with ⟨rfl,rfl⟩ | ⟨c,e⟩
    · exact hd.ok
    · exact hi.tok _ _ e
  · intro n' y' e
    rcases hcase n' y' e with ⟨rfl,rfl⟩ | ⟨c,e⟩
    · exact hi.x8 _ _ hy
    · exact hi.x8 _ _ e
  · intro n' y' e
    rcases hcase n' y' e with ⟨rfl,rfl⟩ | ⟨c,e⟩
    · exact hi.ars _ y hy
    · exact hi.ars _ _ e
  · intro n' q'
    have hs:Good A m n' q' (entM m1 n' q')∨GoodS A n' q' (entM m1 n' q'):=by
      rw[hent]
      by_cases c:n'=n∧q'=pg
      · rw[if_pos c,c.1,c.2];exact hg
      · rw[if_neg c];exact hi.good n' q'
    exact hs.imp (hgood n' q' _ rfl) id
  · intro t n' q' hn'
    have hs:=hi.slot t n' q' (hxn n' hn')
    rw[h.smem,hent]
    by_cases c:n'=n∧q'=pg
    · obtain⟨rfl,rfl⟩:=c
      rw[if_pos ⟨rfl,rfl⟩]
      constructor
      · rintro (⟨_,c1,c2⟩ | ⟨c1,_⟩)
        · rcases hg with (rfl | ⟨g,rfl,_⟩) | ⟨t1,rfl,_⟩
          · exact absurd c1 (by decide)
          · exact absurd c1 (show ¬ (1:Int)=2 by decide)
          · rw[← c2]
        · exact absurd rfl c1
      · intro e
        rw[e]
        exact .inl ⟨rfl,rfl,rfl⟩
    · rw[if_neg c,← hs]
      constructor
      · rintro (⟨c1,_⟩ | ⟨_,c2⟩)
        · injection c1 with a1 a2
          exact absurd (by omega) c
        · exact c2
      · exact fun e=>.inr ⟨fun c1=>c (by injection c1 with a1 a2;omega),e⟩
  · intro t q hq
    rcases (h.smem t q).1 hq with ⟨rfl,_⟩ | ⟨_,c⟩
    · exact places_mem (hi.x8 n y hy) hpg
    · exact hi.sin t q c
  · rw[h.rest.c];exact hi.cok
  · rw[h.rest.c]
    intro e he
    obtain⟨c1,f,c2,c3,c4⟩:=hi.ckey e he
    refine⟨c1,f,c2,c3,?_⟩
    rcases (h.use hd hi hy c3 (.inr c4)).2 with d | d
    · rw[d];exact c4
    · omega
  · rw[h.rest.T];exact hi.tr
theorem distL_subU {l l':List Nat}(h:∀ x,x∈l→x∈l'):(distL l).length≤(distL l').length :=
  List.Nodup.length_le_of_subset (distL_nodup l) fun x hx=>distL_mem.2 (h x (distL_mem.1 hx))
theorem tablesN_subU {l l':List Nat}(h:∀ x,x∈l→x∈l'):tablesN l≤tablesN l':=by
  unfold tablesN
  have hm:∀ d:Nat,∀ x,x∈l.map (· / d)→x∈l'.map (· / d):=fun d x hx=>by
    obtain⟨a,h1,h2⟩:=List.mem_map.1 hx
    exact List.mem_map.2 ⟨a,h a h1,h2⟩
  have h1:=distL_subU (hm 512)
  have h2:=distL_subU (hm 64)
  have h3:=distL_subU (hm 8)
  omega
theorem cntF_le {p p1:PS}{z:Nat}(h:∀ f,f < 1024→p.u.getD f 0=1→p1.u.getD f 0=1)(hz:p1.z=p.z)(hi:p1.i=p.i):cntF p z≤cntF p1 z:=by
  unfold cntF
  refine List.Nodup.length_le_of_subset (List.nodup_range.filter _) fun f hf=>?_
  obtain⟨h1,h2⟩:=List.mem_filter.1 hf
  obtain⟨c1,c2,c3⟩:=of_decide_eq_true h2
  refine List.mem_filter.2 ⟨h1,decide_eq_true ⟨h f (List.mem_range.1 h1) c1,?_,?_⟩⟩
  · rw[hz];exact c2
  · rw[hi];exact c3
theorem PutIs.cnt (h:PutIs m n y pg x F' p' t' m1) (hd:SetDone m y pg x F' p' t') (hi:Inv A m) (hy:m.x n=some y) :
    cntF m.p 2+y.t.t.length≤cntF m1.p 2+t'.t.length∧cntF m.p 3≤cntF m1.p 3∧t'.t.length≤y.t.t.length+3∧((entM m n pg≠en0∨x=en0)→t'.t.length≤y.t.t.length):=by
  obtain⟨c2,c3⟩:=step_cnt hd.step (hi.tok n y hy) hd.ok (hi.tabs.use n y hy) (hi.zone n y hy) hd.zone
  have hle:∀ z,cntF p' z≤cntF m1.p z:=by
    intro z
    rcases h.p with c | ⟨f0,h0,d1,d2,d3,d4⟩
    · rw[c];exact Nat.le_refl _
    · rw[d4]
      refine cntF_le (fun f hf e=>?_) rfl rfl
      by_cases d:f=f0
      · subst d;omega
      · show (p'.u.set f0 1).getD f 0=1
        rw[getD_set_ne _ _ _ _ _ d];exact e
  have l2:=hle 2
  have l3:=hle 3
  have n1:=(hi.tok n y hy).num (hi.tabs.live n y hy)
  have n2:=hd.ok.num hd.live
  rw[hd.e] at n2
  refine⟨by omega,by omega,?_,fun hne=>?_⟩
  · have:=tablesN_more (l:=pagesOf y.t.e) (l':=pagesOf (y.t.e.set pg x)) fun y hy=>pagesOf_set hy
    omega
  · rw[n1,n2]
    refine tablesN_subU fun z hz=>?_
    rw[pagesOf_mem] at hz ⊢
    refine⟨hz.1,?_⟩
    by_cases d:z=pg
    · subst d
      rw[getD_set_same _ _ _ _ (by rw[(hi.tok n y hy).el];exact hz.1)] at hz
      rcases hne with c | c
      · rw[entM_some hy] at c
        intro e0
        have h0:=hi.good n z
        rw[entM_some hy] at h0
        rcases h0 with (h0 | ⟨g,h0,_⟩) | ⟨t,h0,_⟩
        · exact c h0
        · rw[h0] at e0;exact absurd e0 (show ¬ (1:Int)=0 by decide)
        · rw[h0] at e0;exact absurd e0 (show ¬ (2:Int)=0 by decide)
      · rw[c] at hz
        exact absurd rfl hz.2
    · rw[getD_set_ne _ _ _ _ _ d] at hz
      exact hz.2
end
end Go.Proofs.YtaonpmclkafjdaaGreat
namespace Go.Proofs.YtaonpmclkafjdaaGreat
open Go.RowKit
set_option linter.unusedVariables false
theorem enters_zero:∀ args w,(callFunc 173 args).run Tryz.prog w=.ok (.enter 173 args) w:=enters_of Tryz.func173 (by kernel_rfl) rfl
theorem enters_copy:∀ args w,(callFunc 184 args).run Tryz.prog w=.ok (.enter 184 args) w:=enters_of Tryz.func184 (by kernel_rfl) rfl
theorem enters_filled:∀ args w,(callFunc 240 args).run Tryz.prog w=.ok (.enter 240 args) w:=enters_of Tryz.func240 (by kernel_rfl) rfl
theorem enters_read:∀ args w,(callFunc 210 args).run Tryz.prog w=.ok (.enter 210 args) w:=enters_of Tryz.func210 (by kernel_rfl) rfl
section
variable (gS:Nat)(a:SpA)(k:SpK)(K:Nat→Prop)(m:SpM)(w:World)
theorem ram_turn {F':Nat→List Nat}{r:Value}{e:Ending}{w':World}(h:SpMem w gS a k K m)(hF:∀ n y,m.x n=some y→∀ f∈y.t.t,F' f=m.F f)(hp:TurnPost w a.R a.F 1024 F' m.bad r e w'):SpEnd w gS a k K r (m.setF F') e w':=by
  obtain⟨rfl,h1,h2⟩:=hp
  exact⟨rfl,(h.ramP).2 F' w' hF h1 h2⟩
theorem fill_zero (use f:Nat) (p1:PS) (h:SpMem w gS a k K (m.setP p1)) (hT:Tabs m) (ha:Alloc1 m.p use f p1) :
    Calls Tryz.prog 173 #[.pointer (some ⟨a.R,0,none⟩),.int .i64 (f:Int)] w (SpEnd w gS a k K (.int .i64 0) ((m.setP p1).setF (upd m.F f zer))):=by
  refine (zero_yes a.R a.F 1024 m.F m.bad f w h.ramP.1 ha.lt (hT.bad f ha.lt)).mono fun e w' hp=>?_
  refine ram_turn gS a k K (m.setP p1) w h (fun n y hy g hg=>upd_other _ _ _ fun e=>?_) hp
  have h1:=hT.use n y hy g hg
  have h2:=ha.free
  rw[e] at h1
  omega
set_option maxRecDepth 100000 in
set_option maxHeartbeats 1000000 in
theorem fill_copy (use f f0 g1 g2:Nat) (p1:PS) (h:SpMem w gS a k K (m.setP p1)) (hT:Tabs m) (ha:Alloc1 m.p use f p1) (hf:f0 < 1024) (c1:w.cell? ⟨g1,0,none⟩=some (.pointer (some ⟨gS,0,none⟩))) (c2:w.cell? ⟨g2,0,none⟩=some (.int .i64 (f0:Int))) :
    Calls Tryz.prog 184 #[.int .i64 (f:Int),.pointer (some ⟨g1,0,none⟩),.pointer (some ⟨g2,0,none⟩)] w (SpEnd w gS a k K (.int .i64 0) ((m.setP p1).setF (upd m.F f (m.F f0)))):=by
  have c0:w.cell? ⟨gS,0,none⟩=some (.pointer (some ⟨a.R,0,none⟩)):=h.cells.cell 0
  have HC:=Lib.hid ((copy_yes a.R a.F 1024 m.F m.bad f0 f w.drew h.drew.ramP.1 hf ha.lt (hT.bad f0 hf) (hT.bad f ha.lt)).mono fun e w' hp=>ram_turn gS a k K (m.setP p1) w.drew h.drew (fun n y hy g hg=>upd_other _ _ _ fun e=>by
    have h1:=hT.use n y hy g hg
    have h2:=ha.free
    rw[e] at h1
    omega) hp)
  have G:=Lib.hid ((Went.refl w K).drew)
  clear h hT ha hf
  go_enter Tryz.func184,Tryz.ntmps184
  go_wp2_with fail
  go_still_tail 6,(by kernel_rfl)
  change wpList _ _ _ _ _ w.drew
  go_wp2_with fail
  refine HC.out.mono ?_
  rintro e w2 ⟨rfl,h2⟩
  have R:=Lib.hid (h2.from_ G.out)
  clear h2
  go_wp2_with fail
  go_ret
  exact⟨rfl,R.out⟩
set_option maxRecDepth 100000 in
set_option maxHeartbeats 1000000 in
theorem read_file (fl pg g1 g2:Nat) (ty:TypeId) (h:SpMem w gS a k K m) (hf:fl < 4) (hp:pg < 16) (hD:m.T=Tr.none_) (b1:Blk w g1 ty #[.pointer (some ⟨gS,0,none⟩)]) (b2:Blk w g2 85 #[.int .i64 (fl:Int),.int .i64 (pg:Int)]) (n1:¬ K g1) (n2:¬ K g2) :
    Calls Tryz.prog 210 #[.pointer (some ⟨g1,0,none⟩),.pointer (some ⟨g2,0,none⟩)] w fun e w'=>∃ v,e=.returned (.tuple #[v,.int .i64 0])∧Bts w' w'.heap.size v (last m.S m.L (96+(16 * fl+pg)))∧NewV w v∧SpGo w gS a k K m w':=by
  have c0:w.cell? ⟨gS,1,none⟩=some (.pointer (some ⟨a.D,0,none⟩)):=h.cells.cell 1
  have c1:w.cell? ⟨g1,0,none⟩=some (.pointer (some ⟨gS,0,none⟩)):=b1.cell 0
  have c2:w.cell? ⟨g2,0,none⟩=some (.int .i64 (fl:Int)):=b2.cell 0
  have c3:w.cell? ⟨g2,1,none⟩=some (.int .i64 (pg:Int)):=b2.cell 1
  obtain⟨hd,hl⟩:=h.drew.diskP
  have ht:m.T.ans=0:=by rw[hD];exact none_ans
  have hnx:m.T.next=m.T:=by rw[hD];exact none_next
  have hLL:=hd.last_ (f:=96+(16 * fl+pg)) (by omega)
  have HR:=Lib.hid (show Calls Tryz.prog 211 #[.pointer (some ⟨a.D,0,none⟩),.int .i64 (fl:Int),.int .i64 (pg:Int)] w.drew fun e w'=>∃ g,e=.returned (.tuple #[.slice (some ⟨g,0,none⟩) 64 64,.int .i64 0]) ∧
      (w'.cell? ⟨gS,1,none⟩=some (.pointer (some ⟨a.D,0,none⟩))∧w'.cell? ⟨g1,0,none⟩=some (.pointer (some ⟨gS,0,none⟩))∧w'.cell? ⟨g2,0,none⟩=some (.int .i64 (fl:Int))∧w'.cell? ⟨g2,1,none⟩=some (.int .i64 (pg:Int))) ∧
      w.heap.size≤g∧Bts w' w'.heap.size (.slice (some ⟨g,0,none⟩) 64 64) (last m.S m.L (96+(16 * fl+pg)))∧SpGo w gS a k K m w' from
    (fread_yes a.D a.D1 a.D2 192 m.S m.L m.T w.drew (fl:Int) (pg:Int) (96+(16 * fl+pg)) hd (by unfold PageAt;omega) (by omega) ht).mono (by
      rintro e w2 ⟨g,rfl,hg,hb,hd2,ht2⟩
      have R:=(hl m.L m.T w2 (by rw[← hnx];exact hd2) ht2).from_ ((Went.refl w K).drew)
      obtain⟨K2,h2,g2'⟩:=id R
      have q1:=g2'.tr.blk b1 n1
      have q2:=g2'.tr.blk b2 n2
      exact⟨g,rfl,⟨h2.cells.cell 1,q1.cell 0,q2.cell 0,q2.cell 1⟩,hg,Bts.of_whole hb hLL.1 (by simp[maxLen]) hLL.2,R⟩))
  clear h hd hl ht hnx hD b1 b2 n1 n2 hLL
  go_enter Tryz.func210,Tryz.ntmps210
  go_wp2_with fail
  go_region_held3 (fun w'=>w'.cell? ⟨gS,1,none⟩=some (.pointer (some ⟨a.D,0,none⟩))∧w'.cell? ⟨g1,0,none⟩=some (.pointer (some ⟨gS,0,none⟩))∧w'.cell? ⟨g2,0,none⟩=some (.int .i64 (fl:Int))∧w'.cell? ⟨g2,1,none⟩=some (.int .i64 (pg:Int)))
    (first | assumption | exact⟨c0,c1,c2,c3⟩)
    ((go_at_call 211;refine HR.out.mono ?_;rintro e w' ⟨g,rfl,hS,hg,hb,hR⟩))
  have HB:=Lib.hid hb
  have HG:=Lib.hid hg
  have R:=Lib.hid hR
  clear hb hg hR hS
  go_wp2_with fail
  go_ret2
  exact⟨_,rfl,HB.out,fun a n c e _=>by injection e with e _ _;injection e with e;rw[← e];exact HG.out,R.out⟩
set_option maxRecDepth 100000 in
set_option maxHeartbeats 1000000 in
theorem fill_read (use f rf g1 g2:Nat) (t1 t2:TypeId) (post:Array Value) (er:∀ args w,(callFunc rf args).run Tryz.prog w=.ok (.enter rf args) w) (B:List Nat) (hB:B.length=64) (p1:PS) (h:SpMem w gS a k K (m.setP p1)) (hT:Tabs m) (ha:Alloc1 m.p use f p1)
    (b1:Blk w g1 t1 #[.func (.func rf) #[] post]) (b2:Blk w g2 t2 #[.pointer (some ⟨gS,0,none⟩)]) (n2:¬ K g2)
    (hr:Calls Tryz.prog rf post w fun e w'=>∃ v,e=.returned (.tuple #[v,.int .i64 0])∧Bts w' w'.heap.size v B∧NewV w v∧SpGo w gS a k K (m.setP p1) w') :
    Calls Tryz.prog 240 #[.int .i64 (f:Int),.pointer (some ⟨g1,0,none⟩),.pointer (some ⟨g2,0,none⟩)] w (SpEnd w gS a k K (.int .i64 0) ((m.setP p1).setF (upd m.F f B))):=by
  have HR:=Lib.hid hr
  have HT:=Lib.hid hT
  have HA:=Lib.hid ha
  have HB2:=Lib.hid (And.intro b2 n2)
  have HBL:=Lib.hid hB
  have c1:w.cell? ⟨g1,0,none⟩=some (.func (.func rf) #[] post):=b1.cell 0
  have t0:(((0:Nat):Int) != 0)=false:=rfl
  clear hr hT ha h b1 b2 n2 hB
  go_enter Tryz.func240,Tryz.ntmps240
  go_wp2_with fail
  refine HR.out.mono ?_
  rintro e w2 ⟨v,rfl,hb,-,K2,h2,g2'⟩
  have q2:=g2'.tr.blk HB2.out.1 HB2.out.2
  have c2:w2.cell? ⟨g2,0,none⟩=some (.pointer (some ⟨gS,0,none⟩)):=q2.cell 0
  have c0:w2.cell? ⟨gS,0,none⟩=some (.pointer (some ⟨a.R,0,none⟩)):=h2.cells.cell 0
  have hlen:=h2.ramP.1.long (f:=f) HA.out.lt
  have hov:over (m.F f) 0 B=B:=over_all (m.F f) B (show (m.F f).length=B.length from hlen.trans HBL.out.symm)
  have HW:=Lib.hid ((write_yes a.R a.F 1024 m.F m.bad f 0 w2.heap.size v B w2 h2.ramP.1 HA.out.lt (by rw[HBL.out];exact Nat.le_refl _) (HT.out.bad f HA.out.lt) hb).mono fun e w' hp=>ram_turn gS a k K2 (m.setP p1) w2 h2 (F':=upd m.F f B) (fun n y hy g hg=>upd_other _ _ _ fun e=>by
    have h1:=HT.out.use n y hy g hg
    have h2:=HA.out.free
    rw[e] at h1
    omega) (by rw[hov] at hp;exact hp))
  obtain⟨A,l,c,rfl,-⟩:=hb
  have G:=Lib.hid g2'
  clear h2 g2' q2 hlen hov
  go_wp2_with fail
  refine HW.out.mono ?_
  rintro e w3 ⟨rfl,h3⟩
  have R:=Lib.hid (h3.from_ G.out)
  clear h3
  go_wp2_with fail
  go_ret
  exact⟨rfl,R.out⟩
end
end Go.Proofs.YtaonpmclkafjdaaGreat
namespace Go.Proofs.YtaonpmclkafjdaaGreat
open Go.RowKit
set_option linter.unusedVariables false
section
variable (gS:Nat)(a:SpA)(k:SpK)(K:Nat→Prop)(m:SpM)(w:World)
structure FromDisk (m:SpM)(n:Nat)(y:SpX)(pg:Nat)(key:Pl)(B:List Nat)(f:Nat)(m':SpM):Prop where
  ex:∃ p1 F' p' t',Alloc1 m.p 4 f p1∧SetDone ((m.setP p1).setF (upd m.F f B)) y pg ⟨1,f,false⟩ F' p' t' ∧
    m'=(putM ((m.setP p1).setF (upd m.F f B)) n y pg ⟨1,f,false⟩ 0 F' p' t').setC (putC m.c key f)
theorem takeM_c (m:SpM)(p:Pl)(x:En):(takeM m p x).c=m.c:=by
  unfold takeM
  split
  · rfl
  · split <;> rfl
theorem freeM_c (m:SpM)(n:Int)(p:Pl):(freeM m n p).c=m.c:=by
  unfold freeM
  split <;> rfl
theorem leaveM_c (m:SpM)(p:Pl)(x:En):(leaveM m p x).c=m.c:=by
  unfold leaveM
  split
  · exact freeM_c _ _ _
  · split <;> rfl
theorem putM_c (m:SpM)(n:Nat)(y:SpX)(pg:Nat)(x:En)(er:Nat)(F':Nat→List Nat)(p':PS)(t':TS):(putM m n y pg x er F' p' t').c=m.c:=by
  unfold putM
  split
  · split
    · exact takeM_c _ _ _
    · rw[leaveM_c,takeM_c];rfl
  · rfl
theorem boxes3 (w:World)(o1:Obj)(p:Pl)(c3:Array Value)(t3:TypeId):Below w.heap.size w (((w.alloc o1).alloc (.cells #[.int .i64 p.c,.int .i64 p.g] 60)).alloc (.cells c3 t3))∧Blk (((w.alloc o1).alloc (.cells #[.int .i64 p.c,.int .i64 p.g] 60)).alloc (.cells c3 t3)) (w.heap.size+1) 60 #[.int .i64 p.c,.int .i64 p.g] ∧
    Blk (((w.alloc o1).alloc (.cells #[.int .i64 p.c,.int .i64 p.g] 60)).alloc (.cells c3 t3)) (w.heap.size+2) t3 c3 :=
  ⟨belAl (belAl (belAl (Below.refl _ w) _) _) _,(Blk.new1 w _ _ _).al _,Blk.new2 w _ _ _ _⟩
set_option maxRecDepth 100000 in
set_option maxHeartbeats 4000000 in
theorem fromFile_in (n:Nat) (y:SpX) (pg f:Nat) (key:Pl) (h:SpMem w gS a k K m) (hy:m.x n=some y) (hpg:pg < 4096) (hT:Tabs m) (hF:Few m) (h3:3≤cntF m.p 2) (hf:f < 1024) (wk:WPlc key) (hc:frameC m.c key=some (f:Int)) :
    Calls Tryz.prog 183 #[.pointer (some ⟨gS,0,none⟩),.agg #[.int .i64 (n:Int),.int .i64 (pg:Int)],.agg #[.int .i64 key.c,.int .i64 key.g]] w fun e w' =>
      ∃ F' p' t',SetDone m y pg ⟨1,f,false⟩ F' p' t'∧SpEnd w gS a k K (.tuple #[.int .i64 (f:Int),.int .i64 0]) (putM m n y pg ⟨1,f,false⟩ 0 F' p' t') e w':=by
  have hbx:=boxes3 w (.cells #[.pointer (some ⟨gS,0,none⟩)] 24) ⟨n,pg⟩ #[.int .i64 key.c,.int .i64 key.g] 85
  obtain⟨W,hW⟩:∃ W,((w.alloc (.cells #[.pointer (some ⟨gS,0,none⟩)] 24)).alloc (.cells #[.int .i64 (n:Int),.int .i64 (pg:Int)] 60)).alloc (.cells #[.int .i64 key.c,.int .i64 key.g] 85)=W:=⟨_,rfl⟩
  have b0:Blk W w.heap.size 24 #[.pointer (some ⟨gS,0,none⟩)]:=by rw[← hW];exact ((Blk.new w _ _).al _).al _
  rw[show (⟨(n:Int),(pg:Int)⟩:Pl).c=(n:Int) from rfl,show (⟨(n:Int),(pg:Int)⟩:Pl).g=(pg:Int) from rfl,hW] at hbx
  obtain⟨hb,b1,b2⟩:=hbx
  have h1:=h.fresh hb
  obtain⟨KC,hC,-,-⟩:=h1.cacheP
  have c0:W.cell? ⟨w.heap.size,0,none⟩=some (.pointer (some ⟨gS,0,none⟩)):=b0.cell 0
  have c4:W.cell? ⟨gS,4,none⟩=some (.pointer (some ⟨a.C,0,none⟩)):=h1.cells.cell 4
  have q0:W.cell? ⟨w.heap.size+2,0,none⟩=some (.int .i64 key.c):=b2.cell 0
  have q1:W.cell? ⟨w.heap.size+2,1,none⟩=some (.int .i64 key.g):=b2.cell 1
  have HFR:=Lib.hid ((cache_frame a.C KC m.c W.drew key (hC.far fun _ _=>rfl) wk).mono (fun e w' h=>(⟨h.1.trans (by rw[hc];rfl),(Below.refl W.heap.size W).drew.trans h.2⟩:e=.returned (.tuple #[.int .i64 (f:Int),.bool true])∧Below W.heap.size W w')))
  have l0:=b0.lt
  have l4:=h1.cells.lt
  have l2:=b2.lt
  have KEEP:=Lib.hid (fun (V:World) (hV:Below W.heap.size W V)=>(⟨(hV.cell (p:=⟨w.heap.size,0,none⟩) l0).trans c0,(hV.cell (p:=⟨gS,4,none⟩) l4).trans c4,(hV.cell (p:=⟨w.heap.size+2,0,none⟩) l2).trans q0,(hV.cell (p:=⟨w.heap.size+2,1,none⟩) l2).trans q1⟩:V.cell? ⟨w.heap.size,0,none⟩=some (.pointer (some ⟨gS,0,none⟩))∧V.cell? ⟨gS,4,none⟩=some (.pointer (some ⟨a.C,0,none⟩))∧V.cell? ⟨w.heap.size+2,0,none⟩=some (.int .i64 key.c)∧V.cell? ⟨w.heap.size+2,1,none⟩=some (.int .i64 key.g)))
  have BR:=Lib.hid (Below.refl W.heap.size W)
  have HB:=Lib.hid (And.intro b0 b1)
  have HBL:=Lib.hid (Went.of_below (K:=K) hb)
  have HS:=Lib.hid (fun (V:World) (hV:Below W.heap.size W V)=>has_ok gS a k K m V n y pg f hf (h1.fresh hV) hy hpg hT hF h3)
  clear h hy hT hF h3 hf wk hc hb b0 b1 b2 h1 hC c0 c4 q0 q1 l0 l4 l2
  go_enter Tryz.func183,Tryz.ntmps183
  go_wp2_with fail
  go_region_held3 (fun w'=>w'.cell? ⟨w.heap.size,0,none⟩=some (.pointer (some ⟨gS,0,none⟩))∧w'.cell? ⟨gS,4,none⟩=some (.pointer (some ⟨a.C,0,none⟩))∧w'.cell? ⟨w.heap.size+2,0,none⟩=some (.int .i64 key.c)∧w'.cell? ⟨w.heap.size+2,1,none⟩=some (.int .i64 key.g))
    (first | assumption | exact KEEP.out _ BR.out.drew | exact KEEP.out _ (by assumption))
    ((go_at_call 55;refine HFR.out.mono ?_;rintro e w' ⟨rfl,hb2⟩))
  have q0:w'.cell? ⟨w.heap.size,0,none⟩=some (.pointer (some ⟨gS,0,none⟩)):=(HB.out.1.below hb2 HB.out.1.lt).cell 0
  have r0:w'.cell? ⟨w.heap.size+1,0,none⟩=some (.int .i64 (n:Int)):=(HB.out.2.below hb2 HB.out.2.lt).cell 0
  have r1:w'.cell? ⟨w.heap.size+1,1,none⟩=some (.int .i64 (pg:Int)):=(HB.out.2.below hb2 HB.out.2.lt).cell 1
  have S2:=Lib.hid (HS.out w' hb2)
  have G2:=Lib.hid (HBL.out.below hb2)
  clear hb2
  go_wp2_with fail
  refine S2.out.mono ?_
  rintro e w3 ⟨F',p',t',h5,rfl,h6⟩
  have H5:=Lib.hid h5
  have R:=Lib.hid (h6.from_ G2.out)
  clear h5 h6
  go_wp2_with fail
  go_ret2
  exact⟨F',p',t',H5.out,rfl,R.out⟩
theorem filled_any (rf:Nat) (post:Array Value) (V:World) :
    Calls Tryz.prog 206 #[.pointer (some ⟨gS,0,none⟩),.func (.func rf) #[] post] V fun e w'=>e=.returned (.func (.func 240) #[] #[.pointer (some ⟨V.heap.size+1,0,none⟩),.pointer (some ⟨V.heap.size,0,none⟩)])∧w'=(V.alloc (.cells #[.pointer (some ⟨gS,0,none⟩)] 24)).alloc (.cells #[.func (.func rf) #[] post] 288):=by
  go_enter Tryz.func206,Tryz.ntmps206
  go_wp2_with fail
  go_ret
  exact⟨rfl,rfl⟩
set_option maxRecDepth 100000 in
set_option maxHeartbeats 4000000 in
theorem fromFile_out (n:Nat) (y:SpX) (pg fl fp:Nat) (h:SpMem w gS a k K m) (hy:m.x n=some y) (hpg:pg < 4096) (hT:Tabs m) (hF:Few m) (h3:3≤cntF m.p 2) (h1f:0 < cntF m.p 3) (hlc:m.c.length≤100000) (hfl:fl < 4) (hfp:fp < 16) (hD:m.T=Tr.none_) (hc:frameC m.c ⟨fl,fp⟩=none) :
    Calls Tryz.prog 183 #[.pointer (some ⟨gS,0,none⟩),.agg #[.int .i64 (n:Int),.int .i64 (pg:Int)],.agg #[.int .i64 (fl:Int),.int .i64 (fp:Int)]] w fun e w' =>
      ∃ f m',FromDisk m n y pg ⟨fl,fp⟩ (last m.S m.L (96+(16 * fl+fp))) f m'∧SpEnd w gS a k K (.tuple #[.int .i64 (f:Int),.int .i64 0]) m' e w':=by
  have hbx:=boxes3 w (.cells #[.pointer (some ⟨gS,0,none⟩)] 24) ⟨n,pg⟩ #[.int .i64 (fl:Int),.int .i64 (fp:Int)] 85
  obtain⟨W,hW⟩:∃ W,((w.alloc (.cells #[.pointer (some ⟨gS,0,none⟩)] 24)).alloc (.cells #[.int .i64 (n:Int),.int .i64 (pg:Int)] 60)).alloc (.cells #[.int .i64 (fl:Int),.int .i64 (fp:Int)] 85)=W:=⟨_,rfl⟩
  have b0:Blk W w.heap.size 24 #[.pointer (some ⟨gS,0,none⟩)]:=by rw[← hW];exact ((Blk.new w _ _).al _).al _
  rw[show (⟨(n:Int),(pg:Int)⟩:Pl).c=(n:Int) from rfl,show (⟨(n:Int),(pg:Int)⟩:Pl).g=(pg:Int) from rfl,hW] at hbx
  obtain⟨hb,b1,b2⟩:=hbx
  have hWs:W.heap.size=w.heap.size+3:=by rw[← hW];simp
  have h1:=h.fresh hb
  obtain⟨KC,hC,-,-⟩:=h1.cacheP
  have wk:WPlc ⟨(fl:Int),(fp:Int)⟩:=⟨wf_nat fl (by omega),wf_nat fp (by omega)⟩
  have c0:W.cell? ⟨w.heap.size,0,none⟩=some (.pointer (some ⟨gS,0,none⟩)):=b0.cell 0
  have c4:W.cell? ⟨gS,4,none⟩=some (.pointer (some ⟨a.C,0,none⟩)):=h1.cells.cell 4
  have q0:W.cell? ⟨w.heap.size+2,0,none⟩=some (.int .i64 (fl:Int)):=b2.cell 0
  have q1:W.cell? ⟨w.heap.size+2,1,none⟩=some (.int .i64 (fp:Int)):=b2.cell 1
  have HFR:=Lib.hid ((cache_frame a.C KC m.c W.drew ⟨fl,fp⟩ (hC.far fun _ _=>rfl) wk).mono (fun e w' h=>(⟨h.1.trans (by rw[hc];rfl),(Below.refl W.heap.size W).drew.trans h.2⟩:e=.returned (.tuple #[.int .i64 0,.bool false])∧Below W.heap.size W w')))
  have l0:=b0.lt
  have l4:=h1.cells.lt
  have l2:=b2.lt
  have KEEP:=Lib.hid (fun (V:World) (hV:Below W.heap.size W V)=>(⟨(hV.cell (p:=⟨w.heap.size,0,none⟩) l0).trans c0,(hV.cell (p:=⟨gS,4,none⟩) l4).trans c4,(hV.cell (p:=⟨w.heap.size+2,0,none⟩) l2).trans q0,(hV.cell (p:=⟨w.heap.size+2,1,none⟩) l2).trans q1⟩:V.cell? ⟨w.heap.size,0,none⟩=some (.pointer (some ⟨gS,0,none⟩))∧V.cell? ⟨gS,4,none⟩=some (.pointer (some ⟨a.C,0,none⟩))∧V.cell? ⟨w.heap.size+2,0,none⟩=some (.int .i64 (fl:Int))∧V.cell? ⟨w.heap.size+2,1,none⟩=some (.int .i64 (fp:Int))))
  have BR:=Lib.hid (Below.refl W.heap.size W)
  have HB:=Lib.hid (And.intro b0 (And.intro b1 b2))
  have HBL:=Lib.hid hb
  have HWS:=Lib.hid hWs
  have H1:=Lib.hid h1
  have HY:=Lib.hid hy
  have HTT:=Lib.hid hT
  have HFF:=Lib.hid hF
  have HC:=Lib.hid (And.intro h3 h1f)
  have HLC:=Lib.hid hlc
  have HD:=Lib.hid hD
  have HK:=Lib.hid h.lt
  clear h hy hT hF h3 h1f hlc wk hc hb b0 b1 b2 h1 hC c0 c4 q0 q1 l0 l4 l2 hWs hD
  go_enter Tryz.func183,Tryz.ntmps183
  go_wp2_with fail
  go_region_held3 (fun w'=>w'.cell? ⟨w.heap.size,0,none⟩=some (.pointer (some ⟨gS,0,none⟩))∧w'.cell? ⟨gS,4,none⟩=some (.pointer (some ⟨a.C,0,none⟩))∧w'.cell? ⟨w.heap.size+2,0,none⟩=some (.int .i64 (fl:Int))∧w'.cell? ⟨w.heap.size+2,1,none⟩=some (.int .i64 (fp:Int)))
    (first | assumption | exact KEEP.out _ BR.out.drew | exact KEEP.out _ (by assumption))
    ((go_at_call 55;refine HFR.out.mono ?_;rintro e w' ⟨rfl,hb2⟩))
  have hKn:∀ j,w.heap.size≤j→¬ K j:=fun j hj hk=>by have:=HK.out j hk;omega
  have h2:=H1.out.fresh hb2
  have e0:=HB.out.1.below hb2 HB.out.1.lt
  have e1:=HB.out.2.1.below hb2 HB.out.2.1.lt
  have e2:=HB.out.2.2.below hb2 HB.out.2.2.lt
  obtain⟨V,hV⟩:∃ V,(w'.drew.alloc (.cells #[.pointer (some ⟨gS,0,none⟩)] 24)).alloc (.cells #[.func (.func 210) #[] #[.pointer (some ⟨w.heap.size,0,none⟩),.pointer (some ⟨w.heap.size+2,0,none⟩)]] 288)=V:=⟨_,rfl⟩
  have hbV:Below w'.heap.size w' V:=by rw[← hV];exact belAl (belAl ((Below.refl _ w').drew) _) _
  have v0:Blk V w'.heap.size 24 #[.pointer (some ⟨gS,0,none⟩)]:=by rw[← hV];exact (Blk.new w'.drew _ _).al _
  have v1:Blk V (w'.heap.size+1) 288 #[.func (.func 210) #[] #[.pointer (some ⟨w.heap.size,0,none⟩),.pointer (some ⟨w.heap.size+2,0,none⟩)]]:=by rw[← hV];exact Blk.new1 w'.drew _ _ _
  have e0V:=e0.below hbV e0.lt
  have e1V:=e1.below hbV e1.lt
  have e2V:=e2.below hbV e2.lt
  have hsw:w.heap.size≤w'.heap.size:=by have:=hb2.size;have:=HWS.out;omega
  have BRG:=Lib.hid (bring_ok gS a k K m V 240 #[] #[.pointer (some ⟨w'.heap.size+1,0,none⟩),.pointer (some ⟨w'.heap.size,0,none⟩)] enters_filled n y pg 4 (last m.S m.L (96+(16 * fl+fp))) (by omega) (h2.fresh hbV) HY.out hpg HTT.out HFF.out HC.out.1 HC.out.2 (by
    intro f p1 w1 K1 hal hw1 hm1
    have nk1:∀ j,w.heap.size≤j→j < V.heap.size→¬ K1 j:=fun j hj hj2 hk=>by
      rcases hw1.nk j hk with c | c
      · exact hKn j hj c
      · omega
    have o0:=hw1.tr.blk v0 (hKn _ hsw)
    have o1:=hw1.tr.blk v1 (hKn _ (by omega))
    have o2:=hw1.tr.blk e0V (hKn _ (Nat.le_refl _))
    have o3:=hw1.tr.blk e2V (hKn _ (by omega))
    have hll:=hm1.diskP.1.last_ (f:=96+(16 * fl+fp)) (by omega)
    refine fill_read gS a k K1 m w1 4 f 210 (w'.heap.size+1) w'.heap.size 288 24 #[.pointer (some ⟨w.heap.size,0,none⟩),.pointer (some ⟨w.heap.size+2,0,none⟩)] enters_read _ hll.1 p1 hm1 HTT.out hal o1 o0 (nk1 _ hsw v0.lt) ?_
    exact read_file gS a k K1 (m.setP p1) w1 fl fp w.heap.size (w.heap.size+2) 24 hm1 hfl hfp HD.out o2 o3 (nk1 _ (Nat.le_refl _) e0V.lt) (nk1 _ (by omega) e2V.lt)))
  have q0:w'.cell? ⟨w.heap.size,0,none⟩=some (.pointer (some ⟨gS,0,none⟩)):=e0.cell 0
  have r0:w'.cell? ⟨w.heap.size+1,0,none⟩=some (.int .i64 (n:Int)):=e1.cell 0
  have r1:w'.cell? ⟨w.heap.size+1,1,none⟩=some (.int .i64 (pg:Int)):=e1.cell 1
  have S0:=Lib.hid (show w'.drew.cell? ⟨w.heap.size,0,none⟩=some (.pointer (some ⟨gS,0,none⟩))∧w'.drew.cell? ⟨w.heap.size+1,0,none⟩=some (.int .i64 (n:Int))∧w'.drew.cell? ⟨w.heap.size+1,1,none⟩=some (.int .i64 (pg:Int)) from ⟨q0,r0,r1⟩)
  have SV:=Lib.hid (show V.cell? ⟨w.heap.size,0,none⟩=some (.pointer (some ⟨gS,0,none⟩))∧V.cell? ⟨w.heap.size+1,0,none⟩=some (.int .i64 (n:Int))∧V.cell? ⟨w.heap.size+1,1,none⟩=some (.int .i64 (pg:Int)) from ⟨e0V.cell 0,e1V.cell 0,e1V.cell 1⟩)
  have HFL:=Lib.hid ((filled_any gS 210 #[.pointer (some ⟨w.heap.size,0,none⟩),.pointer (some ⟨w.heap.size+2,0,none⟩)] w'.drew).mono (fun e w2 h=>(⟨h.1,h.2.trans hV⟩:_∧w2=V)))
  have BRG2:=Lib.hid (BRG.out.mono (fun e w3 h=>(by
    obtain⟨f,p1,F',p',t',h1,h2,rfl,K3,h4,g4⟩:=h
    refine⟨f,p1,F',p',t',rfl,⟨(g4.tr.blk e0V (hKn _ (Nat.le_refl _))).cell 0,(g4.tr.blk e1V (hKn _ (by omega))).cell 0,(g4.tr.blk e1V (hKn _ (by omega))).cell 1⟩,h1,h2,K3,h4,g4,g4.tr.blk e2V (hKn _ (by omega)),g4.tr.blk e0V (hKn _ (Nat.le_refl _))⟩ :
    ∃ (f:Nat) (p1:PS) (F':Nat→List Nat) (p':PS) (t':TS),e=.returned (.tuple #[.int .i64 (f:Int),.int .i64 0])∧(w3.cell? ⟨w.heap.size,0,none⟩=some (.pointer (some ⟨gS,0,none⟩))∧w3.cell? ⟨w.heap.size+1,0,none⟩=some (.int .i64 (n:Int))∧w3.cell? ⟨w.heap.size+1,1,none⟩=some (.int .i64 (pg:Int))) ∧
      Alloc1 m.p 4 f p1∧SetDone ((m.setP p1).setF (upd m.F f (last m.S m.L (96+(16 * fl+fp))))) y pg ⟨1,f,false⟩ F' p' t' ∧
      ∃ K3,SpMem w3 gS a k K3 (putM ((m.setP p1).setF (upd m.F f (last m.S m.L (96+(16 * fl+fp))))) n y pg ⟨1,f,false⟩ 0 F' p' t')∧Went V K w3 K3∧Blk w3 (w.heap.size+2) 85 #[.int .i64 (fl:Int),.int .i64 (fp:Int)]∧Blk w3 w.heap.size 24 #[.pointer (some ⟨gS,0,none⟩)])))
  have GV:=Lib.hid (((Went.of_below (K:=K) HBL.out).below hb2).below hbV)
  clear BRG hb2 hKn h2 e0 e1 e2 hbV v0 v1 e0V e1V e2V hsw HBL HWS HB H1
  go_wp2_with fail
  go_region_held3 (fun w'=>w'.cell? ⟨w.heap.size,0,none⟩=some (.pointer (some ⟨gS,0,none⟩))∧w'.cell? ⟨w.heap.size+1,0,none⟩=some (.int .i64 (n:Int))∧w'.cell? ⟨w.heap.size+1,1,none⟩=some (.int .i64 (pg:Int)))
    (first | assumption | exact S0.out | exact SV.out)
    (first | (go_at_call 206;refine HFL.out.mono ?_;rintro e w2 ⟨rfl,hw2⟩;subst w2) | (go_at_call 182;refine BRG2.out.mono ?_;rintro e w3 ⟨f,p1,F',p',t',rfl,hS3,hal,hsd,K3,h3,g3,bk3,b03⟩))
  have hCx:=h3.cells
  have z0:w3.cell? ⟨w.heap.size,0,none⟩=some (.pointer (some ⟨gS,0,none⟩)):=b03.cell 0
  have z4:w3.cell? ⟨gS,4,none⟩=some (.pointer (some ⟨a.C,0,none⟩)):=hCx.cell 4
  have y0:w3.cell? ⟨w.heap.size+2,0,none⟩=some (.int .i64 (fl:Int)):=bk3.cell 0
  have y1:w3.cell? ⟨w.heap.size+2,1,none⟩=some (.int .i64 (fp:Int)):=bk3.cell 1
  obtain⟨KC3,hC3,-,hl3⟩:=h3.drew.cacheP
  rw[putM_c] at hC3
  have HPU:=Lib.hid (cache_put a.C KC3 m.c w3.drew ⟨fl,fp⟩ (f:Int) hC3 ⟨wf_nat fl (by omega),wf_nat fp (by omega)⟩ (wf_nat f (by have:=hal.lt;omega)) HLC.out)
  have HL3:=Lib.hid (hl3 (putC m.c ⟨fl,fp⟩ (f:Int)))
  have G3:=Lib.hid ((GV.out.trans g3).drew)
  have AL:=Lib.hid hal
  have SD:=Lib.hid hsd
  have t0:((0:Int) != 0)=false:=rfl
  clear hCx hC3 hl3 h3 g3 hal hsd bk3 b03 hS3 q0 r0 r1 SV S0 HFL BRG2
  go_wp2_with fail
  go_still_tail 6,(by kernel_rfl)
  change wpList _ _ _ _ _ w3.drew
  go_wp2_with fail
  refine HPU.out.mono ?_
  rintro e w4 ⟨K4,rfl,h4,n4,t4⟩
  have R:=Lib.hid ((HL3.out w4 K4 h4 n4 t4).from_ G3.out)
  clear h4 n4 t4
  go_wp2_with fail
  go_ret2
  exact⟨f,_,⟨p1,F',p',t',AL.out,SD.out,rfl⟩,rfl,R.out⟩
end
end Go.Proofs.YtaonpmclkafjdaaGreat
namespace Go.Proofs.YtaonpmclkafjdaaGreat
open Go.RowKit
set_option linter.unusedVariables false
structure FromCopy (m:SpM)(n:Nat)(y:SpX)(pg f f':Nat)(m':SpM):Prop where
  ex:∃ p1 F' p' t',Alloc1 m.p 3 f' p1∧SetDone ((m.setP p1).setF (upd m.F f' (m.F f))) y pg ⟨1,f',false⟩ F' p' t'∧m'=putM ((m.setP p1).setF (upd m.F f' (m.F f))) n y pg ⟨1,f',false⟩ 0 F' p' t'
section
variable (gS:Nat)(a:SpA)(k:SpK)(K:Nat→Prop)(m:SpM)(w:World)
set_option maxRecDepth 100000 in
set_option maxHeartbeats 4000000 in
theorem alone_same (n:Nat) (y:SpX) (pg f:Nat) (h:SpMem w gS a k K m) (hy:m.x n=some y) (hpg:pg < 4096) (hT:Tabs m) (hF:Few m) (h3:3≤cntF m.p 2) (h1f:0 < cntF m.p 3) (hf:f < 1024) (hc:pageC m.c (f:Int)=none) (hl2:(m.b (f:Int)).length < 2) :
    Calls Tryz.prog 144 #[.pointer (some ⟨gS,0,none⟩),.agg #[.int .i64 (n:Int),.int .i64 (pg:Int)],.int .i64 (f:Int)] w fun e w'=>SpEnd w gS a k K (.tuple #[.int .i64 (f:Int),.int .i64 0]) m e w':=by
  have hbx:=boxes3 w (.cells #[.pointer (some ⟨gS,0,none⟩)] 24) ⟨n,pg⟩ #[.int .i64 (f:Int)] 3
  obtain⟨W,hW⟩:∃ W,((w.alloc (.cells #[.pointer (some ⟨gS,0,none⟩)] 24)).alloc (.cells #[.int .i64 (n:Int),.int .i64 (pg:Int)] 60)).alloc (.cells #[.int .i64 (f:Int)] 3)=W:=⟨_,rfl⟩
  have b0:Blk W w.heap.size 24 #[.pointer (some ⟨gS,0,none⟩)]:=by rw[← hW];exact ((Blk.new w _ _).al _).al _
  rw[show (⟨(n:Int),(pg:Int)⟩:Pl).c=(n:Int) from rfl,show (⟨(n:Int),(pg:Int)⟩:Pl).g=(pg:Int) from rfl,hW] at hbx
  obtain⟨hb,b1,b2⟩:=hbx
  have hWs:W.heap.size=w.heap.size+3:=by rw[← hW];simp
  have h1:=h.fresh hb
  obtain⟨KC,hC,-,-⟩:=h1.cacheP
  have C0_:W.cell? ⟨w.heap.size,0,none⟩=some (.pointer (some ⟨gS,0,none⟩)):=b0.cell 0
  have C1_:W.cell? ⟨gS,4,none⟩=some (.pointer (some ⟨a.C,0,none⟩)):=h1.cells.cell 4
  have C2_:W.cell? ⟨w.heap.size+2,0,none⟩=some (.int .i64 (f:Int)):=b2.cell 0
  have L0_:=b0.lt
  have L1_:=h1.cells.lt
  have L2_:=b2.lt
  have GQ:=Lib.hid (fun (V:World) (hV:Below W.heap.size W V)=>((cache_of a.C KC m.c V (f:Int) (hC.fresh hV) (wf_nat f (by omega))).mono (fun e w' h=>⟨h.1.trans (by rw[hc];rfl),h.2,hV.trans (h.2.mono hV.size)⟩):Calls Tryz.prog 41 #[.pointer (some ⟨a.C,0,none⟩),.int .i64 (f:Int)] V fun e w'=>e=.returned (.tuple #[.agg #[.int .i64 0,.int .i64 0],.bool false])∧Below V.heap.size V w'∧Below W.heap.size W w'))
  have KEEP:=Lib.hid (fun (V:World) (hV:Below W.heap.size W V)=>(⟨(hV.cell (p:=⟨w.heap.size,0,none⟩) L0_).trans C0_,(hV.cell (p:=⟨gS,4,none⟩) L1_).trans C1_,(hV.cell (p:=⟨w.heap.size+2,0,none⟩) L2_).trans C2_,hV⟩:V.cell? ⟨w.heap.size,0,none⟩=some (.pointer (some ⟨gS,0,none⟩))∧V.cell? ⟨gS,4,none⟩=some (.pointer (some ⟨a.C,0,none⟩))∧V.cell? ⟨w.heap.size+2,0,none⟩=some (.int .i64 (f:Int))∧Below W.heap.size W V))
  have PB:=Lib.hid (fun (V:World) (hV:V.cell? ⟨w.heap.size,0,none⟩=some (.pointer (some ⟨gS,0,none⟩))∧V.cell? ⟨gS,4,none⟩=some (.pointer (some ⟨a.C,0,none⟩))∧V.cell? ⟨w.heap.size+2,0,none⟩=some (.int .i64 (f:Int))∧Below W.heap.size W V)=>hV.2.2.2)
  have BR:=Lib.hid (Below.refl W.heap.size W)
  have GA:=Lib.hid (show Calls Tryz.prog 41 #[.pointer (some ⟨a.C,0,none⟩),.int .i64 (f:Int)] (W.alloc (.cells #[.int .i64 0,.int .i64 0] 85)).drew fun e w'=>e=.returned (.tuple #[.agg #[.int .i64 0,.int .i64 0],.bool false])∧w'.cell? ⟨W.heap.size,0,none⟩=some (.int .i64 0)∧w'.cell? ⟨W.heap.size,1,none⟩=some (.int .i64 0)∧w'.frozen? ⟨W.heap.size,0,none⟩=false∧w'.frozen? ⟨W.heap.size,1,none⟩=false∧(∀ u0 u1,Below W.heap.size W ((w'.setCell ⟨W.heap.size,0,none⟩ u0).setCell ⟨W.heap.size,1,none⟩ u1))∧Blk w' W.heap.size 85 #[.int .i64 0,.int .i64 0]∧Below W.heap.size W w' from (GQ.out _ (belAl (Below.refl _ W) _).drew).mono (fun e w' h=>by
    have hz:Blk w' W.heap.size 85 #[.int .i64 0,.int .i64 0]:=(show Blk (W.alloc (.cells #[.int .i64 0,.int .i64 0] 85)).drew W.heap.size 85 #[.int .i64 0,.int .i64 0] from Blk.new W _ _).below h.2.1 (Blk.lt (w:=(W.alloc (.cells #[.int .i64 0,.int .i64 0] 85)).drew) (Blk.new W _ _))
    exact⟨h.1,hz.cell 0,hz.cell 1,hz.frozen 0,hz.frozen 1,fun u0 u1=>((h.2.2.setCell (Nat.le_refl _) u0).setCell (Nat.le_refl _) u1),hz,h.2.2⟩))
  have HB:=Lib.hid (And.intro b0 (And.intro b1 b2))
  have HBL:=Lib.hid hb
  have HWS:=Lib.hid hWs
  have H1:=Lib.hid h1
  have HY:=Lib.hid hy
  have HTT:=Lib.hid hT
  have HFF:=Lib.hid hF
  have HC:=Lib.hid (And.intro h3 h1f)
  have HK:=Lib.hid h.lt
  clear h hy hT hF h3 h1f hc hb b0 b1 b2 h1 hC C0_ C1_ C2_ L0_ L1_ L2_ hWs
  go_enter Tryz.func144,Tryz.ntmps144
  go_wp2_with fail
  go_cut [8,9] from 10 to 38 (fun sA sB wx=>∃ g,sA=.pointer (some ⟨g,0,none⟩)∧sB=.bool false∧Blk wx g 85 #[.int .i64 0,.int .i64 0]∧W.heap.size≤g∧Below W.heap.size W wx)
  case first =>
    go_region_held3 (fun w'=>w'.cell? ⟨w.heap.size,0,none⟩=some (.pointer (some ⟨gS,0,none⟩))∧w'.cell? ⟨gS,4,none⟩=some (.pointer (some ⟨a.C,0,none⟩))∧w'.cell? ⟨w.heap.size+2,0,none⟩=some (.int .i64 (f:Int))∧Below W.heap.size W w')
      (first | assumption | exact KEEP.out _ BR.out.drew | exact KEEP.out _ (by assumption) | exact KEEP.out _ (belAl (PB.out _ (by assumption)) _) | exact KEEP.out _ (belAl (by assumption) _) | exact KEEP.out _ (PB.out _ (by assumption)) | exact KEEP.out _ (belAl BR.out _).drew | exact KEEP.out _ (hsb _ _))
      (first | (go_at_call 41;refine GA.out.mono ?_;rintro e w' ⟨rfl,z0,z1,f0,f1,hsb,hz,hbB⟩) | (go_at_call 41;refine (GQ.out _ ?_).mono ?_;(first | assumption | exact PB.out _ (by assumption));rintro e w' ⟨rfl,hbA,hbB⟩))
    all_goals (go_wp2_with fail;go_meet)
    all_goals (first | exact⟨_,rfl,rfl,((hz.set_ 0 _).set_ 1 _),Nat.le_refl _,hsb _ _⟩ | exact⟨_,rfl,rfl,Blk.new w' _ _,hbB.size,belAl hbB _⟩)
  case rest =>
    obtain⟨g,rfl,rfl,hg,hgs,hbg⟩:=hcut
    have hKn:∀ j,w.heap.size≤j→¬ K j:=fun j hj hk=>by have:=HK.out j hk;omega
    have h2:=H1.out.fresh hbg
    have e0:=HB.out.1.below hbg HB.out.1.lt
    have e1:=HB.out.2.1.below hbg HB.out.2.1.lt
    have e2:=HB.out.2.2.below hbg HB.out.2.2.lt
    have q0:wc.cell? ⟨w.heap.size,0,none⟩=some (.pointer (some ⟨gS,0,none⟩)):=e0.cell 0
    have q1:wc.cell? ⟨w.heap.size+1,0,none⟩=some (.int .i64 (n:Int)):=e1.cell 0
    have q2:wc.cell? ⟨w.heap.size+1,1,none⟩=some (.int .i64 (pg:Int)):=e1.cell 1
    have q3:wc.cell? ⟨w.heap.size+2,0,none⟩=some (.int .i64 (f:Int)):=e2.cell 0
    have q4:wc.cell? ⟨gS,3,none⟩=some (.pointer (some ⟨a.B,0,none⟩)):=h2.cells.cell 3
    obtain⟨KB,hB2,-,-⟩:=h2.backP
    have HO:=Lib.hid (back_of a.B KB m.b wc.drew (f:Int) (hB2.far fun _ _=>rfl) (wf_nat f (by omega)))
    have H2:=Lib.hid h2
    have GW:=Lib.hid ((Went.of_below (K:=K) HBL.out).below hbg)
    have HE:=Lib.hid (And.intro e0 (And.intro e1 e2))
    clear hKn h2 e0 e1 e2 hg hB2
    go_wp2_with fail
    go_still_tail 8,(by kernel_rfl)
    change wpList _ _ _ _ _ wc.drew
    go_wp2_with fail
    refine HO.out.mono ?_
    rintro e w3 ⟨v,rfl,hv,-,hb3⟩
    obtain⟨A,l,c,rfl,hl,-⟩:=hv
    have hbw:Below wc.heap.size wc w3:=(Below.refl wc.heap.size wc).drew.trans hb3
    have t1:decide ((l:Int) < 2)=true:=decide_eq_true (by omega)
    have q3:w3.cell? ⟨w.heap.size+2,0,none⟩=some (.int .i64 (f:Int)):=(HE.out.2.2.below hbw HE.out.2.2.lt).cell 0
    have R:=Lib.hid (show SpGo w gS a k K m w3 from ⟨K,H2.out.fresh hbw,GW.out.below hbw⟩)
    clear hb3 hl hbw
    go_wp2_with fail
    go_ret2
    exact⟨rfl,R.out⟩
set_option maxRecDepth 100000 in
set_option maxHeartbeats 4000000 in
theorem alone_many (n:Nat) (y:SpX) (pg f:Nat) (h:SpMem w gS a k K m) (hy:m.x n=some y) (hpg:pg < 4096) (hT:Tabs m) (hF:Few m) (h3:3≤cntF m.p 2) (h1f:0 < cntF m.p 3) (hf:f < 1024) (hc:pageC m.c (f:Int)=none) (hl2:2≤(m.b (f:Int)).length) :
    Calls Tryz.prog 144 #[.pointer (some ⟨gS,0,none⟩),.agg #[.int .i64 (n:Int),.int .i64 (pg:Int)],.int .i64 (f:Int)] w fun e w'=>∃ f' m',FromCopy m n y pg f f' m'∧SpEnd w gS a k K (.tuple #[.int .i64 (f':Int),.int .i64 0]) m' e w':=by
  have hbx:=boxes3 w (.cells #[.pointer (some ⟨gS,0,none⟩)] 24) ⟨n,pg⟩ #[.int .i64 (f:Int)] 3
  obtain⟨W,hW⟩:∃ W,((w.alloc (.cells #[.pointer (some ⟨gS,0,none⟩)] 24)).alloc (.cells #[.int .i64 (n:Int),.int .i64 (pg:Int)] 60)).alloc (.cells #[.int .i64 (f:Int)] 3)=W:=⟨_,rfl⟩
  have b0:Blk W w.heap.size 24 #[.pointer (some ⟨gS,0,none⟩)]:=by rw[← hW];exact ((Blk.new w _ _).al _).al _
  rw[show (⟨(n:Int),(pg:Int)⟩:Pl).c=(n:Int) from rfl,show (⟨(n:Int),(pg:Int)⟩:Pl).g=(pg:Int) from rfl,hW] at hbx
  obtain⟨hb,b1,b2⟩:=hbx
  have hWs:W.heap.size=w.heap.size+3:=by rw[← hW];simp
  have h1:=h.fresh hb
  obtain⟨KC,hC,-,-⟩:=h1.cacheP
  have C0_:W.cell? ⟨w.heap.size,0,none⟩=some (.pointer (some ⟨gS,0,none⟩)):=b0.cell 0
  have C1_:W.cell? ⟨gS,4,none⟩=some (.pointer (some ⟨a.C,0,none⟩)):=h1.cells.cell 4
  have C2_:W.cell? ⟨w.heap.size+2,0,none⟩=some (.int .i64 (f:Int)):=b2.cell 0
  have L0_:=b0.lt
  have L1_:=h1.cells.lt
  have L2_:=b2.lt
  have GQ:=Lib.hid (fun (V:World) (hV:Below W.heap.size W V)=>((cache_of a.C KC m.c V (f:Int) (hC.fresh hV) (wf_nat f (by omega))).mono (fun e w' h=>⟨h.1.trans (by rw[hc];rfl),h.2,hV.trans (h.2.mono hV.size)⟩):Calls Tryz.prog 41 #[.pointer (some ⟨a.C,0,none⟩),.int .i64 (f:Int)] V fun e w'=>e=.returned (.tuple #[.agg #[.int .i64 0,.int .i64 0],.bool false])∧Below V.heap.size V w'∧Below W.heap.size W w'))
  have KEEP:=Lib.hid (fun (V:World) (hV:Below W.heap.size W V)=>(⟨(hV.cell (p:=⟨w.heap.size,0,none⟩) L0_).trans C0_,(hV.cell (p:=⟨gS,4,none⟩) L1_).trans C1_,(hV.cell (p:=⟨w.heap.size+2,0,none⟩) L2_).trans C2_,hV⟩:V.cell? ⟨w.heap.size,0,none⟩=some (.pointer (some ⟨gS,0,none⟩))∧V.cell? ⟨gS,4,none⟩=some (.pointer (some ⟨a.C,0,none⟩))∧V.cell? ⟨w.heap.size+2,0,none⟩=some (.int .i64 (f:Int))∧Below W.heap.size W V))
  have PB:=Lib.hid (fun (V:World) (hV:V.cell? ⟨w.heap.size,0,none⟩=some (.pointer (some ⟨gS,0,none⟩))∧V.cell? ⟨gS,4,none⟩=some (.pointer (some ⟨a.C,0,none⟩))∧V.cell? ⟨w.heap.size+2,0,none⟩=some (.int .i64 (f:Int))∧Below W.heap.size W V)=>hV.2.2.2)
  have BR:=Lib.hid (Below.refl W.heap.size W)
  have GA:=Lib.hid (show Calls Tryz.prog 41 #[.pointer (some ⟨a.C,0,none⟩),.int .i64 (f:Int)] (W.alloc (.cells #[.int .i64 0,.int .i64 0] 85)).drew fun e w'=>e=.returned (.tuple #[.agg #[.int .i64 0,.int .i64 0],.bool false])∧w'.cell? ⟨W.heap.size,0,none⟩=some (.int .i64 0)∧w'.cell? ⟨W.heap.size,1,none⟩=some (.int .i64 0)∧w'.frozen? ⟨W.heap.size,0,none⟩=false∧w'.frozen? ⟨W.heap.size,1,none⟩=false∧(∀ u0 u1,Below W.heap.size W ((w'.setCell ⟨W.heap.size,0,none⟩ u0).setCell ⟨W.heap.size,1,none⟩ u1))∧Blk w' W.heap.size 85 #[.int .i64 0,.int .i64 0]∧Below W.heap.size W w' from (GQ.out _ (belAl (Below.refl _ W) _).drew).mono (fun e w' h=>by
    have hz:Blk w' W.heap.size 85 #[.int .i64 0,.int .i64 0]:=(show Blk (W.alloc (.cells #[.int .i64 0,.int .i64 0] 85)).drew W.heap.size 85 #[.int .i64 0,.int .i64 0] from Blk.new W _ _).below h.2.1 (Blk.lt (w:=(W.alloc (.cells #[.int .i64 0,.int .i64 0] 85)).drew) (Blk.new W _ _))
    exact⟨h.1,hz.cell 0,hz.cell 1,hz.frozen 0,hz.frozen 1,fun u0 u1=>((h.2.2.setCell (Nat.le_refl _) u0).setCell (Nat.le_refl _) u1),hz,h.2.2⟩))
  have HB:=Lib.hid (And.intro b0 (And.intro b1 b2))
  have HBL:=Lib.hid hb
  have HWS:=Lib.hid hWs
  have H1:=Lib.hid h1
  have HY:=Lib.hid hy
  have HTT:=Lib.hid hT
  have HFF:=Lib.hid hF
  have HC:=Lib.hid (And.intro h3 h1f)
  have HK:=Lib.hid h.lt
  clear h hy hT hF h3 h1f hc hb b0 b1 b2 h1 hC C0_ C1_ C2_ L0_ L1_ L2_ hWs
  go_enter Tryz.func144,Tryz.ntmps144
  go_wp2_with fail
  go_cut [8,9] from 10 to 38 (fun sA sB wx=>∃ g,sA=.pointer (some ⟨g,0,none⟩)∧sB=.bool false∧Blk wx g 85 #[.int .i64 0,.int .i64 0]∧W.heap.size≤g∧Below W.heap.size W wx)
  case first =>
    go_region_held3 (fun w'=>w'.cell? ⟨w.heap.size,0,none⟩=some (.pointer (some ⟨gS,0,none⟩))∧w'.cell? ⟨gS,4,none⟩=some (.pointer (some ⟨a.C,0,none⟩))∧w'.cell? ⟨w.heap.size+2,0,none⟩=some (.int .i64 (f:Int))∧Below W.heap.size W w')
      (first | assumption | exact KEEP.out _ BR.out.drew | exact KEEP.out _ (by assumption) | exact KEEP.out _ (belAl (PB.out _ (by assumption)) _) | exact KEEP.out _ (belAl (by assumption) _) | exact KEEP.out _ (PB.out _ (by assumption)) | exact KEEP.out _ (belAl BR.out _).drew | exact KEEP.out _ (hsb _ _))
      (first | (go_at_call 41;refine GA.out.mono ?_;rintro e w' ⟨rfl,z0,z1,f0,f1,hsb,hz,hbB⟩) | (go_at_call 41;refine (GQ.out _ ?_).mono ?_;(first | assumption | exact PB.out _ (by assumption));rintro e w' ⟨rfl,hbA,hbB⟩))
    all_goals (go_wp2_with fail;go_meet)
    all_goals (first | exact⟨_,rfl,rfl,((hz.set_ 0 _).set_ 1 _),Nat.le_refl _,hsb _ _⟩ | exact⟨_,rfl,rfl,Blk.new w' _ _,hbB.size,belAl hbB _⟩)
  case rest =>
    obtain⟨g,rfl,rfl,hg,hgs,hbg⟩:=hcut
    have hKn:∀ j,w.heap.size≤j→¬ K j:=fun j hj hk=>by have:=HK.out j hk;omega
    have h2:=H1.out.fresh hbg
    have e0:=HB.out.1.below hbg HB.out.1.lt
    have e1:=HB.out.2.1.below hbg HB.out.2.1.lt
    have e2:=HB.out.2.2.below hbg HB.out.2.2.lt
    have q0:wc.cell? ⟨w.heap.size,0,none⟩=some (.pointer (some ⟨gS,0,none⟩)):=e0.cell 0
    have q1:wc.cell? ⟨w.heap.size+1,0,none⟩=some (.int .i64 (n:Int)):=e1.cell 0
    have q2:wc.cell? ⟨w.heap.size+1,1,none⟩=some (.int .i64 (pg:Int)):=e1.cell 1
    have q3:wc.cell? ⟨w.heap.size+2,0,none⟩=some (.int .i64 (f:Int)):=e2.cell 0
    have q4:wc.cell? ⟨gS,3,none⟩=some (.pointer (some ⟨a.B,0,none⟩)):=h2.cells.cell 3
    obtain⟨KB,hB2,-,-⟩:=h2.backP
    have HO:=Lib.hid (back_of a.B KB m.b wc.drew (f:Int) (hB2.far fun _ _=>rfl) (wf_nat f (by omega)))
    have BRG:=Lib.hid (fun (V:World) (hV:Below wc.heap.size wc V)=>bring_ok gS a k K m V 184 #[] #[.pointer (some ⟨w.heap.size,0,none⟩),.pointer (some ⟨w.heap.size+1+1,0,none⟩)] enters_copy n y pg 3 (m.F f) (by omega) (h2.fresh hV) HY.out hpg HTT.out HFF.out HC.out.1 HC.out.2 (by
      intro f' p1 w1 K1 hal hw1 hm1
      have o0:=hw1.tr.blk (e0.below hV e0.lt) (hKn _ (Nat.le_refl _))
      have o2:=hw1.tr.blk (e2.below hV e2.lt) (hKn _ (by omega))
      exact fill_copy gS a k K1 m w1 3 f' f w.heap.size (w.heap.size+2) p1 hm1 HTT.out hal hf (o0.cell 0) (o2.cell 0)))
    have H2:=Lib.hid h2
    have GW:=Lib.hid ((Went.of_below (K:=K) HBL.out).below hbg)
    have HE:=Lib.hid (And.intro e0 (And.intro e1 e2))
    clear hKn h2 e0 e1 e2 hg hB2
    go_wp2_with fail
    go_still_tail 8,(by kernel_rfl)
    change wpList _ _ _ _ _ wc.drew
    go_wp2_with fail
    refine HO.out.mono ?_
    rintro e w3 ⟨v,rfl,hv,-,hb3⟩
    obtain⟨A,l,c,rfl,hl,-⟩:=hv
    have hbw:Below wc.heap.size wc w3:=(Below.refl wc.heap.size wc).drew.trans hb3
    have t1:decide ((l:Int) < 2)=false:=decide_eq_false (by omega)
    have q0:w3.cell? ⟨w.heap.size,0,none⟩=some (.pointer (some ⟨gS,0,none⟩)):=(HE.out.1.below hbw HE.out.1.lt).cell 0
    have q1:w3.cell? ⟨w.heap.size+1,0,none⟩=some (.int .i64 (n:Int)):=(HE.out.2.1.below hbw HE.out.2.1.lt).cell 0
    have q2:w3.cell? ⟨w.heap.size+1,1,none⟩=some (.int .i64 (pg:Int)):=(HE.out.2.1.below hbw HE.out.2.1.lt).cell 1
    have BRG:=Lib.hid (BRG.out w3 hbw)
    have G2:=Lib.hid (GW.out.below hbw)
    clear hb3 hl hbw
    go_wp2_with fail
    refine BRG.out.mono ?_
    rintro e w4 ⟨f',p1,F',p',t',h5,h6,rfl,h7⟩
    have H5:=Lib.hid (And.intro h5 h6)
    have R:=Lib.hid (h7.from_ G2.out)
    clear h5 h6 h7
    go_wp2_with fail
    go_ret2
    exact⟨f',_,⟨p1,F',p',t',H5.out.1,H5.out.2,rfl⟩,rfl,R.out⟩
set_option maxRecDepth 100000 in
set_option maxHeartbeats 4000000 in
theorem alone_in (n:Nat) (y:SpX) (pg f:Nat) (h:SpMem w gS a k K m) (hy:m.x n=some y) (hpg:pg < 4096) (hT:Tabs m) (hF:Few m) (h3:3≤cntF m.p 2) (h1f:0 < cntF m.p 3) (hf:f < 1024) (kk:Pl) (hc:pageC m.c (f:Int)=some kk) :
    Calls Tryz.prog 144 #[.pointer (some ⟨gS,0,none⟩),.agg #[.int .i64 (n:Int),.int .i64 (pg:Int)],.int .i64 (f:Int)] w fun e w'=>∃ f' m',FromCopy m n y pg f f' m'∧SpEnd w gS a k K (.tuple #[.int .i64 (f':Int),.int .i64 0]) m' e w':=by
  have hbx:=boxes3 w (.cells #[.pointer (some ⟨gS,0,none⟩)] 24) ⟨n,pg⟩ #[.int .i64 (f:Int)] 3
  obtain⟨W,hW⟩:∃ W,((w.alloc (.cells #[.pointer (some ⟨gS,0,none⟩)] 24)).alloc (.cells #[.int .i64 (n:Int),.int .i64 (pg:Int)] 60)).alloc (.cells #[.int .i64 (f:Int)] 3)=W:=⟨_,rfl⟩
  have b0:Blk W w.heap.size 24 #[.pointer (some ⟨gS,0,none⟩)]:=by rw[← hW];exact ((Blk.new w _ _).al _).al _
  rw[show (⟨(n:Int),(pg:Int)⟩:Pl).c=(n:Int) from rfl,show (⟨(n:Int),(pg:Int)⟩:Pl).g=(pg:Int) from rfl,hW] at hbx
  obtain⟨hb,b1,b2⟩:=hbx
  have hWs:W.heap.size=w.heap.size+3:=by rw[← hW];simp
  have h1:=h.fresh hb
  obtain⟨KC,hC,-,-⟩:=h1.cacheP
  have C0_:W.cell? ⟨w.heap.size,0,none⟩=some (.pointer (some ⟨gS,0,none⟩)):=b0.cell 0
  have C1_:W.cell? ⟨gS,4,none⟩=some (.pointer (some ⟨a.C,0,none⟩)):=h1.cells.cell 4
  have C2_:W.cell? ⟨w.heap.size+2,0,none⟩=some (.int .i64 (f:Int)):=b2.cell 0
  have L0_:=b0.lt
  have L1_:=h1.cells.lt
  have L2_:=b2.lt
  have GQ:=Lib.hid (fun (V:World) (hV:Below W.heap.size W V)=>((cache_of a.C KC m.c V (f:Int) (hC.fresh hV) (wf_nat f (by omega))).mono (fun e w' h=>⟨h.1.trans (by rw[hc];rfl),h.2,hV.trans (h.2.mono hV.size)⟩):Calls Tryz.prog 41 #[.pointer (some ⟨a.C,0,none⟩),.int .i64 (f:Int)] V fun e w'=>e=.returned (.tuple #[.agg #[.int .i64 kk.c,.int .i64 kk.g],.bool true])∧Below V.heap.size V w'∧Below W.heap.size W w'))
  have KEEP:=Lib.hid (fun (V:World) (hV:Below W.heap.size W V)=>(⟨(hV.cell (p:=⟨w.heap.size,0,none⟩) L0_).trans C0_,(hV.cell (p:=⟨gS,4,none⟩) L1_).trans C1_,(hV.cell (p:=⟨w.heap.size+2,0,none⟩) L2_).trans C2_,hV⟩:V.cell? ⟨w.heap.size,0,none⟩=some (.pointer (some ⟨gS,0,none⟩))∧V.cell? ⟨gS,4,none⟩=some (.pointer (some ⟨a.C,0,none⟩))∧V.cell? ⟨w.heap.size+2,0,none⟩=some (.int .i64 (f:Int))∧Below W.heap.size W V))
  have PB:=Lib.hid (fun (V:World) (hV:V.cell? ⟨w.heap.size,0,none⟩=some (.pointer (some ⟨gS,0,none⟩))∧V.cell? ⟨gS,4,none⟩=some (.pointer (some ⟨a.C,0,none⟩))∧V.cell? ⟨w.heap.size+2,0,none⟩=some (.int .i64 (f:Int))∧Below W.heap.size W V)=>hV.2.2.2)
  have BR:=Lib.hid (Below.refl W.heap.size W)
  have GA:=Lib.hid (show Calls Tryz.prog 41 #[.pointer (some ⟨a.C,0,none⟩),.int .i64 (f:Int)] (W.alloc (.cells #[.int .i64 0,.int .i64 0] 85)).drew fun e w'=>e=.returned (.tuple #[.agg #[.int .i64 kk.c,.int .i64 kk.g],.bool true])∧w'.cell? ⟨W.heap.size,0,none⟩=some (.int .i64 0)∧w'.cell? ⟨W.heap.size,1,none⟩=some (.int .i64 0)∧w'.frozen? ⟨W.heap.size,0,none⟩=false∧w'.frozen? ⟨W.heap.size,1,none⟩=false∧(∀ u0 u1,Below W.heap.size W ((w'.setCell ⟨W.heap.size,0,none⟩ u0).setCell ⟨W.heap.size,1,none⟩ u1))∧Blk w' W.heap.size 85 #[.int .i64 0,.int .i64 0]∧Below W.heap.size W w' from (GQ.out _ (belAl (Below.refl _ W) _).drew).mono (fun e w' h=>by
    have hz:Blk w' W.heap.size 85 #[.int .i64 0,.int .i64 0]:=(show Blk (W.alloc (.cells #[.int .i64 0,.int .i64 0] 85)).drew W.heap.size 85 #[.int .i64 0,.int .i64 0] from Blk.new W _ _).below h.2.1 (Blk.lt (w:=(W.alloc (.cells #[.int .i64 0,.int .i64 0] 85)).drew) (Blk.new W _ _))
    exact⟨h.1,hz.cell 0,hz.cell 1,hz.frozen 0,hz.frozen 1,fun u0 u1=>((h.2.2.setCell (Nat.le_refl _) u0).setCell (Nat.le_refl _) u1),hz,h.2.2⟩))
  have HB:=Lib.hid (And.intro b0 (And.intro b1 b2))
  have HBL:=Lib.hid hb
  have HWS:=Lib.hid hWs
  have H1:=Lib.hid h1
  have HY:=Lib.hid hy
  have HTT:=Lib.hid hT
  have HFF:=Lib.hid hF
  have HC:=Lib.hid (And.intro h3 h1f)
  have HK:=Lib.hid h.lt
  clear h hy hT hF h3 h1f hc hb b0 b1 b2 h1 hC C0_ C1_ C2_ L0_ L1_ L2_ hWs
  go_enter Tryz.func144,Tryz.ntmps144
  go_wp2_with fail
  go_cut [8,9] from 10 to 38 (fun sA sB wx=>∃ g,sA=.pointer (some ⟨g,0,none⟩)∧sB=.bool true∧Blk wx g 85 #[.int .i64 kk.c,.int .i64 kk.g]∧W.heap.size≤g∧Below W.heap.size W wx)
  case first =>
    go_region_held3 (fun w'=>w'.cell? ⟨w.heap.size,0,none⟩=some (.pointer (some ⟨gS,0,none⟩))∧w'.cell? ⟨gS,4,none⟩=some (.pointer (some ⟨a.C,0,none⟩))∧w'.cell? ⟨w.heap.size+2,0,none⟩=some (.int .i64 (f:Int))∧Below W.heap.size W w')
      (first | assumption | exact KEEP.out _ BR.out.drew | exact KEEP.out _ (by assumption) | exact KEEP.out _ (belAl (PB.out _ (by assumption)) _) | exact KEEP.out _ (belAl (by assumption) _) | exact KEEP.out _ (PB.out _ (by assumption)) | exact KEEP.out _ (belAl BR.out _).drew | exact KEEP.out _ (hsb _ _))
      (first | (go_at_call 41;refine GA.out.mono ?_;rintro e w' ⟨rfl,z0,z1,f0,f1,hsb,hz,hbB⟩) | (go_at_call 41;refine (GQ.out _ ?_).mono ?_;(first | assumption | exact PB.out _ (by assumption));rintro e w' ⟨rfl,hbA,hbB⟩))
    all_goals (go_wp2_with fail;go_meet)
    all_goals (first | exact⟨_,rfl,rfl,((hz.set_ 0 _).set_ 1 _),Nat.le_refl _,hsb _ _⟩ | exact⟨_,rfl,rfl,Blk.new w' _ _,hbB.size,belAl hbB _⟩)
  case rest =>
    obtain⟨g,rfl,rfl,hg,hgs,hbg⟩:=hcut
    have hKn:∀ j,w.heap.size≤j→¬ K j:=fun j hj hk=>by have:=HK.out j hk;omega
    have h2:=H1.out.fresh hbg
    have e0:=HB.out.1.below hbg HB.out.1.lt
    have e1:=HB.out.2.1.below hbg HB.out.2.1.lt
    have e2:=HB.out.2.2.below hbg HB.out.2.2.lt
    have q0:wc.cell? ⟨w.heap.size,0,none⟩=some (.pointer (some ⟨gS,0,none⟩)):=e0.cell 0
    have q1:wc.cell? ⟨w.heap.size+1,0,none⟩=some (.int .i64 (n:Int)):=e1.cell 0
    have q2:wc.cell? ⟨w.heap.size+1,1,none⟩=some (.int .i64 (pg:Int)):=e1.cell 1
    have q3:wc.cell? ⟨w.heap.size+2,0,none⟩=some (.int .i64 (f:Int)):=e2.cell 0
    have q4:wc.cell? ⟨gS,3,none⟩=some (.pointer (some ⟨a.B,0,none⟩)):=h2.cells.cell 3
    have BRG:=Lib.hid (fun (V:World) (hV:Below wc.heap.size wc V)=>bring_ok gS a k K m V 184 #[] #[.pointer (some ⟨w.heap.size,0,none⟩),.pointer (some ⟨w.heap.size+1+1,0,none⟩)] enters_copy n y pg 3 (m.F f) (by omega) (h2.fresh hV) HY.out hpg HTT.out HFF.out HC.out.1 HC.out.2 (by
      intro f' p1 w1 K1 hal hw1 hm1
      have o0:=hw1.tr.blk (e0.below hV e0.lt) (hKn _ (Nat.le_refl _))
      have o2:=hw1.tr.blk (e2.below hV e2.lt) (hKn _ (by omega))
      exact fill_copy gS a k K1 m w1 3 f' f w.heap.size (w.heap.size+2) p1 hm1 HTT.out hal hf (o0.cell 0) (o2.cell 0)))
    have GW:=Lib.hid ((Went.of_below (K:=K) HBL.out).below hbg)
    clear hKn h2 e0 e1 e2 hg hbg
    go_wp2_with fail
    go_quiet (fail)
    have BRG:=Lib.hid (BRG.out (wc.drewN nq) (below_drewN (Below.refl wc.heap.size wc) _))
    have G2:=Lib.hid (GW.out.below (below_drewN (Below.refl wc.heap.size wc) nq))
    go_wp2_with fail
    refine BRG.out.mono ?_
    rintro e w4 ⟨f',p1,F',p',t',h5,h6,rfl,h7⟩
    have H5:=Lib.hid (And.intro h5 h6)
    have R:=Lib.hid (h7.from_ G2.out)
    clear h5 h6 h7
    go_wp2_with fail
    go_ret2
    exact⟨f',_,⟨p1,F',p',t',H5.out.1,H5.out.2,rfl⟩,rfl,R.out⟩
end
end Go.Proofs.YtaonpmclkafjdaaGreat
namespace Go.Proofs.YtaonpmclkafjdaaGreat
open Go.RowKit
set_option linter.unusedVariables false
structure FromZero (m:SpM)(n:Nat)(y:SpX)(pg f:Nat)(m':SpM):Prop where
  ex:∃ p1 F' p' t',Alloc1 m.p 3 f p1∧SetDone ((m.setP p1).setF (upd m.F f zer)) y pg ⟨1,f,false⟩ F' p' t'∧m'=putM ((m.setP p1).setF (upd m.F f zer)) n y pg ⟨1,f,false⟩ 0 F' p' t'
structure FromIn (m:SpM)(n:Nat)(y:SpX)(pg f:Nat)(m':SpM):Prop where
  ex:∃ F' p' t',SetDone m y pg ⟨1,f,false⟩ F' p' t'∧m'=putM m n y pg ⟨1,f,false⟩ 0 F' p' t'
theorem boxesC (w:World)(p:Pl)(r:Ar)(x:En):Below w.heap.size w (((w.alloc (.cells #[.int .i64 p.c,.int .i64 p.g] 60)).alloc (.cells #[.int .i64 r.fr,.int .i64 r.pg,.bool r.w,.int .i64 r.kd,.int .i64 r.fl,.int .i64 r.ofs] 77)).alloc (.cells #[.int .i64 x.k,.int .i64 x.n,.bool x.w] 29)) ∧
    Blk (((w.alloc (.cells #[.int .i64 p.c,.int .i64 p.g] 60)).alloc (.cells #[.int .i64 r.fr,.int .i64 r.pg,.bool r.w,.int .i64 r.kd,.int .i64 r.fl,.int .i64 r.ofs] 77)).alloc (.cells #[.int .i64 x.k,.int .i64 x.n,.bool x.w] 29)) w.heap.size 60 #[.int .i64 p.c,.int .i64 p.g] ∧
    Blk (((w.alloc (.cells #[.int .i64 p.c,.int .i64 p.g] 60)).alloc (.cells #[.int .i64 r.fr,.int .i64 r.pg,.bool r.w,.int .i64 r.kd,.int .i64 r.fl,.int .i64 r.ofs] 77)).alloc (.cells #[.int .i64 x.k,.int .i64 x.n,.bool x.w] 29)) (w.heap.size+1) 77 #[.int .i64 r.fr,.int .i64 r.pg,.bool r.w,.int .i64 r.kd,.int .i64 r.fl,.int .i64 r.ofs] ∧
    Blk (((w.alloc (.cells #[.int .i64 p.c,.int .i64 p.g] 60)).alloc (.cells #[.int .i64 r.fr,.int .i64 r.pg,.bool r.w,.int .i64 r.kd,.int .i64 r.fl,.int .i64 r.ofs] 77)).alloc (.cells #[.int .i64 x.k,.int .i64 x.n,.bool x.w] 29)) (w.heap.size+2) 29 #[.int .i64 x.k,.int .i64 x.n,.bool x.w] :=
  ⟨belAl (belAl (belAl (Below.refl _ w) _) _) _,((Blk.new w _ _).al _).al _,(Blk.new1 w _ _ _).al _,Blk.new2 w _ _ _ _⟩
section
variable (gS:Nat)(a:SpA)(k:SpK)(K:Nat→Prop)(m:SpM)(w:World)
set_option maxRecDepth 100000 in
set_option maxHeartbeats 4000000 in
theorem come_frame (n pg:Nat) (rfr rpg:Int) (rw_:Bool) (rkd rfl_ rofs:Int) (xk xn:Int) (xw:Bool) (h:SpMem w gS a k K m) (hk:xk=1) :
    Calls Tryz.prog 143 #[.pointer (some ⟨gS,0,none⟩),.agg #[.int .i64 (n:Int),.int .i64 (pg:Int)],.agg #[.int .i64 rfr,.int .i64 rpg,.bool rw_,.int .i64 rkd,.int .i64 rfl_,.int .i64 rofs],.agg #[.int .i64 xk,.int .i64 xn,.bool xw]] w (SpEnd w gS a k K (.tuple #[.int .i64 xn,.int .i64 0]) m):=by
  have hbx:=boxesC w ⟨n,pg⟩ ⟨rfr,rpg,rw_,rkd,rfl_,rofs⟩ ⟨xk,xn,xw⟩
  simp only at hbx
  obtain⟨W,hW⟩:∃ W,((w.alloc (.cells #[.int .i64 (n:Int),.int .i64 (pg:Int)] 60)).alloc (.cells #[.int .i64 rfr,.int .i64 rpg,.bool rw_,.int .i64 rkd,.int .i64 rfl_,.int .i64 rofs] 77)).alloc (.cells #[.int .i64 xk,.int .i64 xn,.bool xw] 29)=W:=⟨_,rfl⟩
  rw[hW] at hbx
  obtain⟨hb,b0,b1,b2⟩:=hbx
  have hWs:W.heap.size=w.heap.size+3:=by rw[← hW];simp
  have p0:W.cell? ⟨w.heap.size,0,none⟩=some (.int .i64 (n:Int)):=b0.cell 0
  have p1:W.cell? ⟨w.heap.size,1,none⟩=some (.int .i64 (pg:Int)):=b0.cell 1
  have r0:W.cell? ⟨w.heap.size+1,0,none⟩=some (.int .i64 rfr):=b1.cell 0
  have r3:W.cell? ⟨w.heap.size+1,3,none⟩=some (.int .i64 rkd):=b1.cell 3
  have r4:W.cell? ⟨w.heap.size+1,4,none⟩=some (.int .i64 rfl_):=b1.cell 4
  have r5:W.cell? ⟨w.heap.size+1,5,none⟩=some (.int .i64 rofs):=b1.cell 5
  have x0:W.cell? ⟨w.heap.size+2,0,none⟩=some (.int .i64 xk):=b2.cell 0
  have x1:W.cell? ⟨w.heap.size+2,1,none⟩=some (.int .i64 xn):=b2.cell 1
  have R:=Lib.hid (show SpGo w gS a k K m W from ⟨K,h.fresh hb,Went.of_below hb⟩)
  subst hk
  clear h b0 b1 b2 hb hWs
  go_enter Tryz.func143,Tryz.ntmps143
  go_wp2_with fail
  go_ret2
  exact⟨rfl,R.out⟩
set_option maxRecDepth 100000 in
set_option maxHeartbeats 4000000 in
theorem come_zero (n pg:Nat) (rfr rpg:Int) (rw_:Bool) (rkd rfl_ rofs:Int) (xk xn:Int) (xw:Bool) (h:SpMem w gS a k K m) (y:SpX) (hy:m.x n=some y) (hpg:pg < 4096) (hT:Tabs m) (hF:Few m) (h3:3≤cntF m.p 2) (h1f:0 < cntF m.p 3) (hk:xk=0) (hkd:rkd=1) :
    Calls Tryz.prog 143 #[.pointer (some ⟨gS,0,none⟩),.agg #[.int .i64 (n:Int),.int .i64 (pg:Int)],.agg #[.int .i64 rfr,.int .i64 rpg,.bool rw_,.int .i64 rkd,.int .i64 rfl_,.int .i64 rofs],.agg #[.int .i64 xk,.int .i64 xn,.bool xw]] w fun e w'=>∃ f m',FromZero m n y pg f m'∧SpEnd w gS a k K (.tuple #[.int .i64 (f:Int),.int .i64 0]) m' e w':=by
  have hbx:=boxesC w ⟨n,pg⟩ ⟨rfr,rpg,rw_,rkd,rfl_,rofs⟩ ⟨xk,xn,xw⟩
  simp only at hbx
  obtain⟨W,hW⟩:∃ W,((w.alloc (.cells #[.int .i64 (n:Int),.int .i64 (pg:Int)] 60)).alloc (.cells #[.int .i64 rfr,.int .i64 rpg,.bool rw_,.int .i64 rkd,.int .i64 rfl_,.int .i64 rofs] 77)).alloc (.cells #[.int .i64 xk,.int .i64 xn,.bool xw] 29)=W:=⟨_,rfl⟩
  rw[hW] at hbx
  obtain⟨hb,b0,b1,b2⟩:=hbx
  have hWs:W.heap.size=w.heap.size+3:=by rw[← hW];simp
  have p0:W.cell? ⟨w.heap.size,0,none⟩=some (.int .i64 (n:Int)):=b0.cell 0
  have p1:W.cell? ⟨w.heap.size,1,none⟩=some (.int .i64 (pg:Int)):=b0.cell 1
  have r0:W.cell? ⟨w.heap.size+1,0,none⟩=some (.int .i64 rfr):=b1.cell 0
  have r3:W.cell? ⟨w.heap.size+1,3,none⟩=some (.int .i64 rkd):=b1.cell 3
  have r4:W.cell? ⟨w.heap.size+1,4,none⟩=some (.int .i64 rfl_):=b1.cell 4
  have r5:W.cell? ⟨w.heap.size+1,5,none⟩=some (.int .i64 rofs):=b1.cell 5
  have x0:W.cell? ⟨w.heap.size+2,0,none⟩=some (.int .i64 xk):=b2.cell 0
  have x1:W.cell? ⟨w.heap.size+2,1,none⟩=some (.int .i64 xn):=b2.cell 1
  have h1:=h.fresh hb
  have c0:W.cell? ⟨gS,0,none⟩=some (.pointer (some ⟨a.R,0,none⟩)):=h1.cells.cell 0
  have hKn:∀ j,w.heap.size≤j→¬ K j:=fun j hj hk=>by have:=h.lt j hk;omega
  have BRG:=Lib.hid ((bring_ok gS a k K m W.drew 173 #[.pointer (some ⟨a.R,0,none⟩)] #[] enters_zero n y pg 3 zer (by omega) h1.drew hy hpg hT hF h3 h1f (fun f p1 w1 K1 hal hw1 hm1=>fill_zero gS a k K1 m w1 3 f p1 hm1 hT hal)).mono (fun e w3 h=>(by
    obtain⟨f,p1,F',p',t',h2,h4,rfl,K3,h5,g5⟩:=h
    exact⟨f,_,rfl,⟨(g5.tr.blk (w:=W.drew) b0 (hKn _ (Nat.le_refl _))).cell 0,(g5.tr.blk (w:=W.drew) b0 (hKn _ (Nat.le_refl _))).cell 1,h5.cells.cell 0⟩,⟨p1,F',p',t',h2,h4,rfl⟩,K3,h5,(Went.of_below hb).drew.trans g5⟩ :
    ∃ (f:Nat) (m':SpM),e=.returned (.tuple #[.int .i64 (f:Int),.int .i64 0])∧(w3.cell? ⟨w.heap.size,0,none⟩=some (.int .i64 (n:Int))∧w3.cell? ⟨w.heap.size,1,none⟩=some (.int .i64 (pg:Int))∧w3.cell? ⟨gS,0,none⟩=some (.pointer (some ⟨a.R,0,none⟩)))∧FromZero m n y pg f m'∧SpGo w gS a k K m' w3)))
  subst hk hkd
  clear h b0 b1 b2 hb hWs hy hT hF h3 h1f h1 hKn
  go_enter Tryz.func143,Tryz.ntmps143
  go_wp2_with fail
  go_region_held3 (fun w'=>w'.cell? ⟨w.heap.size,0,none⟩=some (.int .i64 (n:Int))∧w'.cell? ⟨w.heap.size,1,none⟩=some (.int .i64 (pg:Int))∧w'.cell? ⟨gS,0,none⟩=some (.pointer (some ⟨a.R,0,none⟩)))
    (first | assumption | exact⟨p0,p1,c0⟩)
    ((go_at_call 182;refine BRG.out.mono ?_;rintro e w3 ⟨f,m',rfl,hS3,hz,hgo⟩))
  have HZ:=Lib.hid hz
  have R:=Lib.hid hgo
  clear hz hgo hS3
  go_wp2_with fail
  go_ret2
  exact⟨f,m',HZ.out,rfl,R.out⟩
set_option maxRecDepth 100000 in
set_option maxHeartbeats 4000000 in
theorem come_in (n pg:Nat) (rfr rpg:Int) (rw_:Bool) (rkd rfl_ rofs:Int) (xk xn:Int) (xw:Bool) (h:SpMem w gS a k K m) (y:SpX) (hy:m.x n=some y) (hpg:pg < 4096) (hT:Tabs m) (hF:Few m) (h3:3≤cntF m.p 2)  (f:Nat) (hf:f < 1024) (fl fp:Nat) (hk:xk=0) (hkd:rkd≠1) (hfl:rfl_=(fl:Int)) (hfp:rofs+(pg:Int) - rfr=(fp:Int)) (hl4:fl < 4) (hp16:fp < 16) (hf0:0≤rfr∧rfr≤4095) (ho0:0≤rofs∧rofs < 16) (hc:frameC m.c ⟨fl,fp⟩=some (f:Int)) :
    Calls Tryz.prog 143 #[.pointer (some ⟨gS,0,none⟩),.agg #[.int .i64 (n:Int),.int .i64 (pg:Int)],.agg #[.int .i64 rfr,.int .i64 rpg,.bool rw_,.int .i64 rkd,.int .i64 rfl_,.int .i64 rofs],.agg #[.int .i64 xk,.int .i64 xn,.bool xw]] w fun e w'=>∃ m',FromIn m n y pg f m'∧SpEnd w gS a k K (.tuple #[.int .i64 (f:Int),.int .i64 0]) m' e w':=by
  have hbx:=boxesC w ⟨n,pg⟩ ⟨rfr,rpg,rw_,rkd,rfl_,rofs⟩ ⟨xk,xn,xw⟩
  simp only at hbx
  obtain⟨W,hW⟩:∃ W,((w.alloc (.cells #[.int .i64 (n:Int),.int .i64 (pg:Int)] 60)).alloc (.cells #[.int .i64 rfr,.int .i64 rpg,.bool rw_,.int .i64 rkd,.int .i64 rfl_,.int .i64 rofs] 77)).alloc (.cells #[.int .i64 xk,.int .i64 xn,.bool xw] 29)=W:=⟨_,rfl⟩
  rw[hW] at hbx
  obtain⟨hb,b0,b1,b2⟩:=hbx
  have hWs:W.heap.size=w.heap.size+3:=by rw[← hW];simp
  have p0:W.cell? ⟨w.heap.size,0,none⟩=some (.int .i64 (n:Int)):=b0.cell 0
  have p1:W.cell? ⟨w.heap.size,1,none⟩=some (.int .i64 (pg:Int)):=b0.cell 1
  have r0:W.cell? ⟨w.heap.size+1,0,none⟩=some (.int .i64 rfr):=b1.cell 0
  have r3:W.cell? ⟨w.heap.size+1,3,none⟩=some (.int .i64 rkd):=b1.cell 3
  have r4:W.cell? ⟨w.heap.size+1,4,none⟩=some (.int .i64 rfl_):=b1.cell 4
  have r5:W.cell? ⟨w.heap.size+1,5,none⟩=some (.int .i64 rofs):=b1.cell 5
  have x0:W.cell? ⟨w.heap.size+2,0,none⟩=some (.int .i64 xk):=b2.cell 0
  have x1:W.cell? ⟨w.heap.size+2,1,none⟩=some (.int .i64 xn):=b2.cell 1
  have h1:=h.fresh hb
  have BRG:=Lib.hid (fromFile_in gS a k K m W n y pg f ⟨fl,fp⟩ h1 hy hpg hT hF h3 hf ⟨wf_nat fl (by omega),wf_nat fp (by omega)⟩ hc)
  have G:=Lib.hid (Went.of_below (K:=K) hb)
  have t1:(rkd == 1)=false:=beq_eq_false_iff_ne.2 hkd
  have hp0:(0:Int)≤(pg:Int):=by omega
  have hp1:(pg:Int) < 4096:=by omega
  subst hk hfl
  clear h b0 b1 b2 hb hWs hy hT hF h3 h1 hkd
  go_enter Tryz.func143,Tryz.ntmps143
  go_wp2_with fail
  refine BRG.out.mono ?_
  rintro e w3 ⟨F',p',t',h5,rfl,h6⟩
  have H5:=Lib.hid h5
  have R:=Lib.hid (h6.from_ G.out)
  clear h5 h6
  go_wp2_with fail
  go_ret2
  exact⟨_,⟨F',p',t',H5.out,rfl⟩,rfl,R.out⟩
set_option maxRecDepth 100000 in
set_option maxHeartbeats 4000000 in
theorem come_out (n pg:Nat) (rfr rpg:Int) (rw_:Bool) (rkd rfl_ rofs:Int) (xk xn:Int) (xw:Bool) (h:SpMem w gS a k K m) (y:SpX) (hy:m.x n=some y) (hpg:pg < 4096) (hT:Tabs m) (hF:Few m) (h3:3≤cntF m.p 2) (h1f:0 < cntF m.p 3) (hlc:m.c.length≤100000) (hD:m.T=Tr.none_) (fl fp:Nat) (hk:xk=0) (hkd:rkd≠1) (hfl:rfl_=(fl:Int)) (hfp:rofs+(pg:Int) - rfr=(fp:Int)) (hl4:fl < 4) (hp16:fp < 16) (hf0:0≤rfr∧rfr≤4095) (ho0:0≤rofs∧rofs < 16) (hc:frameC m.c ⟨fl,fp⟩=none) :
    Calls Tryz.prog 143 #[.pointer (some ⟨gS,0,none⟩),.agg #[.int .i64 (n:Int),.int .i64 (pg:Int)],.agg #[.int .i64 rfr,.int .i64 rpg,.bool rw_,.int .i64 rkd,.int .i64 rfl_,.int .i64 rofs],.agg #[.int .i64 xk,.int .i64 xn,.bool xw]] w fun e w'=>∃ f m',FromDisk m n y pg ⟨fl,fp⟩ (last m.S m.L (96+(16 * fl+fp))) f m'∧SpEnd w gS a k K (.tuple #[.int .i64 (f:Int),.int .i64 0]) m' e w':=by
  have hbx:=boxesC w ⟨n,pg⟩ ⟨rfr,rpg,rw_,rkd,rfl_,rofs⟩ ⟨xk,xn,xw⟩
  simp only at hbx
  obtain⟨W,hW⟩:∃ W,((w.alloc (.cells #[.int .i64 (n:Int),.int .i64 (pg:Int)] 60)).alloc (.cells #[.int .i64 rfr,.int .i64 rpg,.bool rw_,.int .i64 rkd,.int .i64 rfl_,.int .i64 rofs] 77)).alloc (.cells #[.int .i64 xk,.int .i64 xn,.bool xw] 29)=W:=⟨_,rfl⟩
  rw[hW] at hbx
  obtain⟨hb,b0,b1,b2⟩:=hbx
  have hWs:W.heap.size=w.heap.size+3:=by rw[← hW];simp
  have p0:W.cell? ⟨w.heap.size,0,none⟩=some (.int .i64 (n:Int)):=b0.cell 0
  have p1:W.cell? ⟨w.heap.size,1,none⟩=some (.int .i64 (pg:Int)):=b0.cell 1
  have r0:W.cell? ⟨w.heap.size+1,0,none⟩=some (.int .i64 rfr):=b1.cell 0
  have r3:W.cell? ⟨w.heap.size+1,3,none⟩=some (.int .i64 rkd):=b1.cell 3
  have r4:W.cell? ⟨w.heap.size+1,4,none⟩=some (.int .i64 rfl_):=b1.cell 4
  have r5:W.cell? ⟨w.heap.size+1,5,none⟩=some (.int .i64 rofs):=b1.cell 5
  have x0:W.cell? ⟨w.heap.size+2,0,none⟩=some (.int .i64 xk):=b2.cell 0
  have x1:W.cell? ⟨w.heap.size+2,1,none⟩=some (.int .i64 xn):=b2.cell 1
  have h1:=h.fresh hb
  have BRG:=Lib.hid (fromFile_out gS a k K m W n y pg fl fp h1 hy hpg hT hF h3 h1f hlc hl4 hp16 hD hc)
  have G:=Lib.hid (Went.of_below (K:=K) hb)
  have t1:(rkd == 1)=false:=beq_eq_false_iff_ne.2 hkd
  have hp0:(0:Int)≤(pg:Int):=by omega
  have hp1:(pg:Int) < 4096:=by omega
  subst hk hfl
  clear h b0 b1 b2 hb hWs hy hT hF h3 h1 hkd
  go_enter Tryz.func143,Tryz.ntmps143
  go_wp2_with fail
  refine BRG.out.mono ?_
  rintro e w3 ⟨f,m',h5,rfl,h6⟩
  have H5:=Lib.hid h5
  have R:=Lib.hid (h6.from_ G.out)
  clear h5 h6
  go_wp2_with fail
  go_ret2
  exact⟨f,m',H5.out,rfl,R.out⟩
end
end Go.Proofs.YtaonpmclkafjdaaGreat
namespace Go.Proofs.YtaonpmclkafjdaaGreat
open Go.RowKit
set_option linter.unusedVariables false
def keyI (i:Nat):Pl:=⟨((i / 16:Nat):Int),((i % 16:Nat):Int)⟩
def fileM (m:SpM)(i j:Nat):Nat:=match frameC m.c (keyI i) with
  | some f=>(m.F f.toNat).getD j 0
  | none=>(last m.S m.L (96+i)).getD j 0
def slotM (m:SpM)(t j:Nat):Nat:=(last m.S m.L (160+t)).getD j 0
def pageM (m:SpM)(n pg j:Nat):Nat:=if (entM m n pg).k=1 then (m.F (entM m n pg).n.toNat).getD j 0 else if (entM m n pg).k=2 then slotM m (entM m n pg).n.toNat j else match arM m n pg with
  | some r=>if r.kd=1 then 0 else fileM m (fileIx r pg) j
  | none=>0
def hasAnon (m:SpM)(n pg:Nat):Prop:=((entM m n pg).k=1∧m.p.u.getD (entM m n pg).n.toNat 0=3)∨(entM m n pg).k=2
theorem pageM_slot {m:SpM}{n pg t:Nat}(h:entM m n pg=⟨2,(t:Int),false⟩)(j:Nat):pageM m n pg j=slotM m t j:=by
  unfold pageM
  rw[h,if_neg (show ¬ (2:Int)=1 by decide),if_pos rfl]
  rfl
theorem pageM_no {m:SpM}{n pg:Nat}(h:entM m n pg=en0)(j:Nat):pageM m n pg j=match arM m n pg with
    | some r=>if r.kd=1 then 0 else fileM m (fileIx r pg) j
    | none=>0:=by
  unfold pageM
  rw[h,if_neg (by decide),if_neg (by decide)]
theorem hasAnon_slot {m:SpM}{n pg t:Nat}(h:entM m n pg=⟨2,(t:Int),false⟩):hasAnon m n pg:=by
  unfold hasAnon
  rw[h]
  exact .inr rfl
theorem pageM_in {m:SpM}{n pg f:Nat}(h:entM m n pg=⟨1,(f:Int),false⟩)(j:Nat):pageM m n pg j=(m.F f).getD j 0:=by
  unfold pageM
  rw[h,if_pos rfl]
  rfl
theorem hasAnon_in {m:SpM}{n pg f:Nat}(h:entM m n pg=⟨1,(f:Int),false⟩):hasAnon m n pg↔m.p.u.getD f 0=3:=by
  unfold hasAnon
  rw[h]
  exact⟨fun h=>h.elim (fun h=>h.2) (fun h=>absurd h (show ¬ (1:Int)=2 by decide)),fun h=>.inl ⟨rfl,h⟩⟩
theorem hasAnon_no {m:SpM}{n pg:Nat}(h:entM m n pg=en0):¬ hasAnon m n pg:=by
  unfold hasAnon
  rw[h]
  exact fun h=>h.elim (fun h=>absurd h.1 (by decide)) (fun h=>absurd h (by decide))
theorem arM_some {m:SpM}{n:Nat}{y:SpX}(hy:m.x n=some y)(pg:Nat):arM m n pg=findA y.a (pg:Int):=by unfold arM;rw[hy]
theorem arM_of {m m1:SpM}(h:∀ n,(m1.x n).map (fun y=>(y.a,y.q))=(m.x n).map (fun y=>(y.a,y.q))):arM m1=arM m:=by
  funext n pg
  have e:=h n
  unfold arM
  cases c:m.x n with
  | none =>
    rw[c,Option.map_none,Option.map_eq_none_iff] at e
    rw[e]
  | some y =>
    rw[c,Option.map_some,Option.map_eq_some_iff] at e
    obtain⟨y1,e1,e2⟩:=e
    rw[e1]
    injection e2 with e3 e4
    show findA y1.a _=findA y.a _
    rw[e3]
structure Stp (n pg:Nat)(m m1:SpM):Prop where
  xs:∀ n',(m1.x n').map (fun y=>(y.a,y.q))=(m.x n').map (fun y=>(y.a,y.q))
  ent:∀ n' q,¬ (n'=n∧q=pg)→entM m1 n' q=entM m n' q
  frm:∀ n' q (f:Nat),¬ (n'=n∧q=pg)→entM m n' q=⟨1,(f:Int),false⟩→m1.F f=m.F f∧m1.p.u.getD f 0=m.p.u.getD f 0∧(m.p.u.getD f 0=3→∀ z∈m1.b (f:Int),z∈m.b (f:Int))
  fil:∀ i j,fileM m1 i j=fileM m i j
  slt:∀ t j,slotM m1 t j=slotM m t j
theorem Stp.refl (n pg:Nat)(m:SpM):Stp n pg m m:=⟨fun _=>rfl,fun _ _ _=>rfl,fun _ _ _ _ _=>⟨rfl,rfl,fun _ _ h=>h⟩,fun _ _=>rfl,fun _ _=>rfl⟩
theorem Stp.trans {n pg:Nat}{m m1 m2:SpM}(h:Stp n pg m m1)(g:Stp n pg m1 m2):Stp n pg m m2:=by
  refine⟨fun n'=>(g.xs n').trans (h.xs n'),fun n' q c=>(g.ent n' q c).trans (h.ent n' q c),fun n' q f c e=>?_,fun i j=>(g.fil i j).trans (h.fil i j),fun t j=>(g.slt t j).trans (h.slt t j)⟩
  obtain⟨a1,a2,a3⟩:=h.frm n' q f c e
  obtain⟨b1,b2,b3⟩:=g.frm n' q f c ((h.ent n' q c).trans e)
  exact⟨b1.trans a1,b2.trans a2,fun u z hz=>a3 u z (b3 (a2.trans u) z hz)⟩
theorem Stp.ar {n pg:Nat}{m m1:SpM}(h:Stp n pg m m1):arM m1=arM m:=arM_of h.xs
structure Cost0 (c2 c3 tt:Nat)(m m1:SpM):Prop where
  c2:cntF m.p 2≤cntF m1.p 2+c2
  c3:cntF m.p 3≤cntF m1.p 3+c3
  tt:∀ n y,m1.x n=some y→∃ y0,m.x n=some y0∧y.t.t.length≤y0.t.t.length+tt
  fre:∀ (t n:Nat) (q:Int),m1.x n=none→(⟨(n:Int),q⟩:Pl)∈m1.s t→m.x n=none∧(⟨(n:Int),q⟩:Pl)∈m.s t
theorem Cost0.refl (m:SpM):Cost0 0 0 0 m m:=⟨by omega,by omega,fun n y h=>⟨y,h,by omega⟩,fun _ _ _ a b=>⟨a,b⟩⟩
set_option maxRecDepth 20000 in
theorem Cost0.trans {a2 a3 at_ b2 b3 bt:Nat}{m m1 m2:SpM}(h:Cost0 a2 a3 at_ m m1)(g:Cost0 b2 b3 bt m1 m2):Cost0 (a2+b2) (a3+b3) (at_+bt) m m2:=by
  have h1:=h.c2;have h2:=h.c3;have g1:=g.c2;have g2:=g.c3
  refine⟨by omega,by omega,fun n y e=>?_,fun t n q a b=>h.fre t n q (g.fre t n q a b).1 (g.fre t n q a b).2⟩
  obtain⟨y1,e1,l1⟩:=g.tt n y e
  obtain⟨y0,e0,l0⟩:=h.tt n y1 e1
  exact⟨y0,e0,by omega⟩
theorem Cost0.le {a2 a3 at_ b2 b3 bt:Nat}{m m1:SpM}(h:Cost0 a2 a3 at_ m m1)(l2:a2≤b2)(l3:a3≤b3)(lt:at_≤bt):Cost0 b2 b3 bt m m1:=by
  have h1:=h.c2;have h2:=h.c3
  refine⟨by omega,by omega,fun n y e=>?_,h.fre⟩
  obtain⟨y0,e0,l0⟩:=h.tt n y e
  exact⟨y0,e0,by omega⟩
def Leak (m:SpM)(f:Nat):Prop:=(m.p.u.getD f 0=3∧∀ q,q ∉ m.b (f:Int))∨(m.p.u.getD f 0=4∧∀ e∈m.c,e.f≠(f:Int))∨(m.p.u.getD f 0=2∧∀ n y,m.x n=some y→f ∉ y.t.t)
structure Zo (m:SpM):Prop where
  all:∀ n q (f:Nat),entM m n q=⟨1,(f:Int),false⟩→m.p.z.getD (f / 32) 0=3
  cac:∀ e∈m.c,∀ f:Nat,e.f=(f:Int)→m.p.z.getD (f / 32) 0=3
structure KpR (m m1:SpM):Prop where
  z:m1.p.z=m.p.z
  i:m1.p.i=m.p.i
  S:m1.S=m.S
  L:m1.L=m.L
  T:m1.T=m.T
  bad:m1.bad=m.bad
  zo:Zo m→Zo m1
theorem KpR.refl (m:SpM):KpR m m:=⟨rfl,rfl,rfl,rfl,rfl,rfl,id⟩
theorem KpR.trans {m m1 m2:SpM}(h:KpR m m1)(g:KpR m1 m2):KpR m m2:=⟨g.z.trans h.z,g.i.trans h.i,g.S.trans h.S,g.L.trans h.L,g.T.trans h.T,g.bad.trans h.bad,fun z=>g.zo (h.zo z)⟩
structure Kp (m m1:SpM):Prop extends KpR m m1 where
  lk:∀ f,f < 1024→Leak m1 f→Leak m f
theorem Kp.refl (m:SpM):Kp m m:=⟨KpR.refl m,fun _ _ h=>h⟩
theorem Kp.trans {m m1 m2:SpM}(h:Kp m m1)(g:Kp m1 m2):Kp m m2:=⟨h.toKpR.trans g.toKpR,fun f hf l=>h.lk f hf (g.lk f hf l)⟩
structure Cost (c2 c3 tt:Nat)(m m1:SpM):Prop extends Cost0 c2 c3 tt m m1 where
  kp:Kp m m1
theorem Cost.refl (m:SpM):Cost 0 0 0 m m:=⟨Cost0.refl m,Kp.refl m⟩
theorem Cost.trans {a2 a3 at_ b2 b3 bt:Nat}{m m1 m2:SpM}(h:Cost a2 a3 at_ m m1)(g:Cost b2 b3 bt m1 m2):Cost (a2+b2) (a3+b3) (at_+bt) m m2:=⟨h.toCost0.trans g.toCost0,h.kp.trans g.kp⟩
theorem Cost.le {a2 a3 at_ b2 b3 bt:Nat}{m m1:SpM}(h:Cost a2 a3 at_ m m1)(l2:a2≤b2)(l3:a3≤b3)(lt:at_≤bt):Cost b2 b3 bt m m1:=⟨h.toCost0.le l2 l3 lt,h.kp⟩
section
variable {A:Nat→Nat→Option Ar}{m m1:SpM}{n pg:Nat}{y:SpX}{x:En}{F':Nat→List Nat}{p1 p':PS}{t':TS}{use f:Nat}{B:List Nat}
theorem Inv.key_use (h:Inv A m){k:Pl}{g:Int}(e:frameC m.c k=some g):∃ f:Nat,g=(f:Int)∧f < 1024∧m.p.u.getD f 0=4:=by
  obtain⟨c,hc,_,rfl⟩:=frameC_some e
  exact (h.ckey c hc).2
theorem Inv.alloc (h:Inv A m)(ha:Alloc1 m.p use f p1):Inv A ((m.setP p1).setF (upd m.F f B)):=by
  have hu:∀ g,m.p.u.getD g 0=3∨m.p.u.getD g 0=4→p1.u.getD g 0=m.p.u.getD g 0:=fun g hg=>by
    rw[ha.u,if_neg]
    rintro rfl
    have:=ha.free
    omega
  refine⟨h.tabs.alloc ha,fun n y hy g hg=>?_,h.tok,h.x8,h.ars,fun n pg=>?_,h.back,h.srt,h.slot,h.ssrt,h.sin,h.cok,fun e he=>?_,h.tr⟩
  · show p1.z.getD _ 0=2∧p1.i.getD _ false=false
    rw[ha.z,ha.i]
    exact h.zone n y hy g hg
  · rcases h.good n pg with (c | ⟨g,c,hg,r,hr,c2⟩) | c
    · exact .inl (.inl c)
    rotate_left
    · exact .inr c
    · refine .inl (.inr ⟨g,c,hg,r,hr,?_⟩)
      show (p1.u.getD g 0=3∧_)∨(p1.u.getD g 0=4∧_)
      rw[hu g (by rcases c2 with c2 | c2;exact .inl c2.1;exact .inr c2.1)]
      exact c2
  · obtain⟨c1,g,c2,c3,c4⟩:=h.ckey e he
    exact⟨c1,g,c2,c3,(hu g (.inr c4)).trans c4⟩
theorem Stp.alloc (n pg:Nat)(h:Inv A m)(ha:Alloc1 m.p use f p1):Stp n pg m ((m.setP p1).setF (upd m.F f B)):=by
  have hne:∀ g,m.p.u.getD g 0=3∨m.p.u.getD g 0=4→g≠f:=fun g hg=>by
    rintro rfl
    have:=ha.free
    omega
  refine⟨fun _=>rfl,fun _ _ _=>rfl,fun n' q g c e=>?_,fun i j=>?_,fun _ _=>rfl⟩
  · have hg:m.p.u.getD g 0=3∨m.p.u.getD g 0=4:=by
      rcases h.good n' q with (d | ⟨g',d,_,r,_,d2⟩) | ⟨t,d,_⟩
      rotate_left 2
      · rw[d] at e;exact absurd e (es_fr _ _)
      · rw[d] at e;exact absurd e.symm (en_ne _)
      · rw[d] at e
        have:=en_inj e
        obtain rfl:g'=g:=by omega
        rcases d2 with d2 | d2
        · exact .inl d2.1
        · exact .inr d2.1
    refine⟨upd_other _ _ _ (hne g hg),?_,fun _ z hz=>hz⟩
    show p1.u.getD g 0=_
    rw[ha.u,if_neg (hne g hg)]
  · unfold fileM
    show (match frameC m.c (keyI i) with | some g=>(upd m.F f B g.toNat).getD j 0 | none=>_)=_
    cases e:frameC m.c (keyI i) with
    | none=>rfl
    | some g =>
      obtain⟨g',rfl,_,hu⟩:=h.key_use e
      simp only[Int.toNat_natCast]
      rw[upd_other _ _ _ (hne g' (.inr hu))]
theorem Cost0.alloc (ha:Alloc1 m.p use f p1):Cost0 0 1 0 m ((m.setP p1).setF (upd m.F f B)):=by
  have h2:=ha.c2;have h3:=ha.c3
  refine⟨?_,?_,fun n y h=>⟨y,h,by omega⟩,fun _ _ _ a b=>⟨a,b⟩⟩
  · show _≤cntF p1 2+0;omega
  · show _≤cntF p1 3+1;omega
theorem PutIs.xs' (h:PutIs m n y pg x F' p' t' m1)(hy:m.x n=some y)(n':Nat):(m1.x n').map (fun y=>(y.a,y.q))=(m.x n').map (fun y=>(y.a,y.q)):=by
  rw[h.xs]
  by_cases c:n'=n
  · subst c;rw[upd_same,hy];rfl
  · rw[upd_other _ _ _ c]
theorem PutIs.byt (h:PutIs m n y pg x F' p' t' m1)(hd:SetDone m y pg x F' p' t')(hi:Inv A m)(hy:m.x n=some y){f:Nat}(hu:m.p.u.getD f 0=3∨m.p.u.getD f 0=4):m1.F f=m.F f:=by
  have e:m1.F=F':=h.rest.F
  rw[e]
  refine hd.F f (fun c=>?_) (by omega)
  have:=hi.tabs.use n y hy f c
  omega
theorem PutIs.fil (h:PutIs m n y pg x F' p' t' m1)(hd:SetDone m y pg x F' p' t')(hi:Inv A m)(hy:m.x n=some y)(i j:Nat):fileM m1 i j=fileM m i j:=by
  have ec:m1.c=m.c:=h.rest.c
  have eS:m1.S=m.S:=h.rest.S
  have eL:m1.L=m.L:=h.rest.L
  unfold fileM
  rw[ec,eS,eL]
  cases e:frameC m.c (keyI i) with
  | none=>rfl
  | some g =>
    obtain⟨g',rfl,_,hu⟩:=hi.key_use e
    simp only[Int.toNat_natCast]
    rw[h.byt hd hi hy (.inr hu)]
theorem Stp.put (h:PutIs m n y pg x F' p' t' m1) (hd:SetDone m y pg x F' p' t') (hi:Inv A m) (hy:m.x n=some y) (hpg:pg < 4096) (hg:Good A m n pg x∨GoodS A n pg x)
    (hn:∀ f:Nat,x=⟨1,(f:Int),false⟩→m.p.u.getD f 0=3→∀ n' q,¬ (n'=n∧q=pg)→entM m n' q≠⟨1,(f:Int),false⟩):Stp n pg m m1:=by
  have hent:=h.ent hd hy (hi.tok n y hy).el hpg
  have hiv:=hi.put hy hpg hd hg h
  refine⟨h.xs' hy,fun n' q c=>by rw[hent,if_neg c],fun n' q f c e=>?_,h.fil hd hi hy,fun t j=>by unfold slotM;rw[show m1.S=m.S from h.rest.S,show m1.L=m.L from h.rest.L]⟩
  have hu:f < 1024∧(m.p.u.getD f 0=3∨m.p.u.getD f 0=4):=by
    rcases hi.good n' q with (d | ⟨g',d,d1,r,_,d2⟩) | ⟨t,d,_⟩
    rotate_left 2
    · rw[d] at e;exact absurd e (es_fr _ _)
    · rw[d] at e;exact absurd e.symm (en_ne _)
    · rw[d] at e
      have:=en_inj e
      obtain rfl:g'=f:=by omega
      refine⟨d1,?_⟩
      rcases d2 with d2 | d2
      · exact .inl d2.1
      · exact .inr d2.1
  refine⟨h.byt hd hi hy hu.2,?_,fun u z hz=>?_⟩
  · rcases (h.use hd hi hy hu.1 hu.2).2 with d | ⟨_,_,d,_⟩
    · exact d
    · refine absurd ((hiv.back (f:Int) ⟨n',q⟩).2 ⟨n',q,rfl,?_⟩) (d _)
      rw[hent,if_neg c];exact e
  · rcases (h.mem _ _).1 hz with ⟨d1,d2,d3⟩ | d
    · rcases hg with (rfl | ⟨g,rfl,_⟩) | ⟨t,rfl,_⟩
      · exact absurd d2 (by decide)
      rotate_left
      · exact absurd d2 (show ¬ (2:Int)=1 by decide)
      · have:g=f:=by have:(g:Int)=f:=d3;omega
        subst this
        exact absurd e (hn g rfl u n' q c)
    · exact d.2
theorem Cost0.put (h:PutIs m n y pg x F' p' t' m1)(hd:SetDone m y pg x F' p' t')(hi:Inv A m)(hy:m.x n=some y):Cost0 3 0 3 m m1∧((entM m n pg≠en0∨x=en0)→Cost0 0 0 0 m m1):=by
  obtain⟨c1,c2,c3,c4⟩:=h.cnt hd hi hy
  have tt:∀ t,t'.t.length≤y.t.t.length+t→∀ n2 y2,m1.x n2=some y2→∃ y0,m.x n2=some y0∧y2.t.t.length≤y0.t.t.length+t:=by
    intro t ht n2 y2 e
    rw[h.xs] at e
    by_cases c:n2=n
    · subst c
      rw[upd_same] at e
      injection e with e
      subst e
      exact⟨y,hy,ht⟩
    · rw[upd_other _ _ _ c] at e
      exact⟨y2,e,by omega⟩
  have fre:∀ (t n2:Nat) (q:Int),m1.x n2=none→(⟨(n2:Int),q⟩:Pl)∈m1.s t→m.x n2=none∧(⟨(n2:Int),q⟩:Pl)∈m.s t:=by
    intro t n2 q e hq
    rw[h.xs] at e
    by_cases c:n2=n
    · subst c
      rw[upd_same] at e
      cases e
    · rw[upd_other _ _ _ c] at e
      rcases (h.smem t _).1 hq with ⟨d,_⟩ | d
      · injection d with d1 d2
        exact absurd (by omega) c
      · exact⟨e,d.2⟩
  refine⟨⟨by omega,by omega,tt 3 c3,fre⟩,fun hne=>?_⟩
  have:=c4 hne
  exact⟨by omega,by omega,tt 0 (by omega),fre⟩
theorem KpR.alloc (ha:Alloc1 m.p use f p1):KpR m ((m.setP p1).setF (upd m.F f B)):=by
  refine⟨ha.z,ha.i,rfl,rfl,rfl,rfl,fun z=>⟨fun n q g e=>?_,fun e he g eg=>?_⟩⟩
  · show p1.z.getD _ 0=3
    rw[ha.z]
    exact z.all n q g e
  · show p1.z.getD _ 0=3
    rw[ha.z]
    exact z.cac e he g eg
theorem KpR.put (h:PutIs m n y pg x F' p' t' m1)(hd:SetDone m y pg x F' p' t')(hi:Inv A m)(hy:m.x n=some y)(hpg:pg < 4096)(hz:Zo m→∀ f:Nat,x=⟨1,(f:Int),false⟩→m.p.z.getD (f / 32) 0=3):KpR m m1:=by
  have e:=h.z hd
  refine⟨e.1,e.2,h.rest.S,h.rest.L,h.rest.T,h.rest.bad,fun z=>⟨fun n' q g e'=>?_,fun e' he g eg=>?_⟩⟩
  · rw[e.1]
    rw[h.ent hd hy (hi.tok n y hy).el hpg] at e'
    split at e'
    · exact hz z g e'
    · exact z.all n' q g e'
  · rw[e.1]
    rw[show m1.c=m.c from h.rest.c] at he
    exact z.cac e' he g eg
theorem PutIs.leak (h:PutIs m n y pg x F' p' t' m1)(hd:SetDone m y pg x F' p' t')(hi:Inv A m)(hy:m.x n=some y){g:Nat}(hg:g < 1024)(l:Leak m1 g):Leak m g:=by
  have hu:∀ v,v≠1→m1.p.u.getD g 0=v→p'.u.getD g 0=v:=by
    intro v hv e
    rcases h.p with c | ⟨f0,h0,c1,c2,c3,c4⟩
    · rw[c] at e;exact e
    · rw[c4] at e
      by_cases d:g=f0
      · subst d
        have e':(p'.u.set g 1).getD g 0=v:=e
        by_cases l:g < p'.u.length
        · rw[getD_set_same _ _ _ _ l] at e'
          exact absurd e'.symm hv
        · rw[List.getD_eq_getElem?_getD,List.getElem?_eq_none (by omega)] at c2
          cases c2
      · have e':(p'.u.set f0 1).getD g 0=v:=e
        rwa [getD_set_ne _ _ _ _ _ d] at e'
  have hold:∀ v,v≠1→v≠2→m1.p.u.getD g 0=v→m.p.u.getD g 0=v:=by
    intro v h1 h2 e
    have e2:=hu v h1 e
    rw[hd.step.u g hg] at e2
    split at e2
    · exact absurd e2.symm h2
    · split at e2
      · exact absurd e2.symm h1
      · exact e2
  rcases l with ⟨l1,l2⟩ | ⟨l1,l2⟩ | ⟨l1,l2⟩
  · refine .inl ⟨hold 3 (by decide) (by decide) l1,fun q hq=>?_⟩
    by_cases c:q=⟨n,pg⟩
    · subst c
      obtain⟨n',q',e1,e2⟩:=(hi.back _ _).1 hq
      injection e1 with a1 a2
      obtain rfl:n=n':=by omega
      obtain rfl:pg=q':=by omega
      exact h.lk g e2 l2 l1
    · exact l2 q ((h.mem _ _).2 (.inr ⟨c,hq⟩))
  · refine .inr (.inl ⟨hold 4 (by decide) (by decide) l1,?_⟩)
    rw[← show m1.c=m.c from h.rest.c]
    exact l2
  · have e2:=hu 2 (by decide) l1
    have hnt:g ∉ t'.t:=l2 n ⟨t',y.a,y.q⟩ (by rw[h.xs];exact upd_same _ _ _)
    rw[hd.step.u g hg,if_neg hnt] at e2
    have hno:g ∉ y.t.t:=fun c=>by rw[if_pos c] at e2;cases e2
    rw[if_neg hno] at e2
    refine .inr (.inr ⟨e2,fun n2 y2 hy2 hm=>?_⟩)
    by_cases c:n2=n
    · subst c
      rw[hy] at hy2
      injection hy2 with hy2
      exact hno (hy2 ▸ hm)
    · exact l2 n2 y2 (by rw[h.xs,upd_other _ _ _ c];exact hy2) hm
theorem PutIs.z3 (h:PutIs m n y pg x F' p' t' m1)(hd:SetDone m y pg x F' p' t')(hi:Inv A m)(hy:m.x n=some y){g:Nat}(hg:g < 1024)(hz:m.p.z.getD (g / 32) 0=3)(hne:entM m n pg≠⟨1,(g:Int),false⟩):m1.p.u.getD g 0=m.p.u.getD g 0:=by
  have e1:p'.u.getD g 0=m.p.u.getD g 0:=by
    rw[hd.step.u g hg,if_neg (fun c=>?_),if_neg (fun c=>?_)]
    · have:=(hi.zone n y hy g c).1;omega
    · by_cases d:g∈y.t.t
      · have:=(hi.zone n y hy g d).1;omega
      · have:=(hd.zone g c d).1;omega
  rcases h.p with c | ⟨f0,h0,c1,c2,c3,c4⟩
  · rw[c];exact e1
  · rw[c4,← e1]
    exact getD_set_ne _ _ _ _ _ (fun d=>hne (by rw[d];exact c1))
theorem Kp.put (h:PutIs m n y pg x F' p' t' m1)(hd:SetDone m y pg x F' p' t')(hi:Inv A m)(hy:m.x n=some y)(hpg:pg < 4096)(hz:Zo m→∀ f:Nat,x=⟨1,(f:Int),false⟩→m.p.z.getD (f / 32) 0=3):Kp m m1 :=
  ⟨KpR.put h hd hi hy hpg hz,fun g hg l=>h.leak hd hi hy hg l⟩
theorem Cost.put (h:PutIs m n y pg x F' p' t' m1)(hd:SetDone m y pg x F' p' t')(hi:Inv A m)(hy:m.x n=some y)(hpg:pg < 4096)(hz:Zo m→∀ f:Nat,x=⟨1,(f:Int),false⟩→m.p.z.getD (f / 32) 0=3):Cost 3 0 3 m m1∧((entM m n pg≠en0∨x=en0)→Cost 0 0 0 m m1) :=
  ⟨⟨(Cost0.put h hd hi hy).1,Kp.put h hd hi hy hpg hz⟩,fun c=>⟨(Cost0.put h hd hi hy).2 c,Kp.put h hd hi hy hpg hz⟩⟩
theorem Kp.new (ha:Alloc1 m.p use f p1)(h:PutIs ((m.setP p1).setF (upd m.F f B)) n y pg ⟨1,(f:Int),false⟩ F' p' t' m1)(hd:SetDone ((m.setP p1).setF (upd m.F f B)) y pg ⟨1,(f:Int),false⟩ F' p' t')(hi:Inv A ((m.setP p1).setF (upd m.F f B)))(hy:m.x n=some y)(hpg:pg < 4096)(hu:m1.p.u.getD f 0=3):Kp m m1:=by
  refine⟨(KpR.alloc ha (B:=B)).trans (KpR.put h hd hi hy hpg fun _ g e=>?_),fun g hg l=>?_⟩
  · have:=en_inj e
    obtain rfl:f=g:=by omega
    show p1.z.getD _ 0=3
    rw[ha.z]
    exact ha.zone.1
  · have hne:g≠f:=by
      rintro rfl
      rcases l with l | l | l
      · exact l.2 ⟨n,pg⟩ ((h.mem _ _).2 (.inl ⟨rfl,rfl,rfl⟩))
      · omega
      · omega
    have l2:=h.leak hd hi hy hg l
    have e:((m.setP p1).setF (upd m.F f B)).p.u.getD g 0=m.p.u.getD g 0:=by
      show p1.u.getD g 0=_
      rw[ha.u,if_neg hne]
    unfold Leak at l2
    rw[e] at l2
    exact l2
end
theorem find_app {es:CS}{p:Ce→Bool}{e:Ce}:(es ++ [e]).find? p=(es.find? p).or (if p e then some e else none):=by
  rw[List.find?_append]
  by_cases c:p e=true <;> simp[List.find?_cons,c]
theorem freeC_of {es:CS}{k:Pl}{f:Int}(hk:frameC es k=none)(hf:∀ e∈es,e.f≠f):freeC es k f=true:=by
  unfold freeC
  rw[Bool.and_eq_true,Bool.not_eq_true',Bool.not_eq_true']
  constructor
  · unfold frameC at hk
    rw[Option.map_eq_none_iff] at hk
    unfold hasC
    rw[List.any_eq_false]
    intro e he
    simpa using List.find?_eq_none.1 hk e he
  · unfold busyC
    rw[List.any_eq_false]
    intro e he
    simpa using hf e he
theorem frameC_put {es:CS}{k k':Pl}{f:Int}(hk:frameC es k=none)(hf:∀ e∈es,e.f≠f):frameC (putC es k f) k'=if k'=k then some f else frameC es k':=by
  have hfree:freeC es k f=true:=freeC_of hk hf
  unfold putC
  rw[if_pos hfree]
  unfold frameC at *
  rw[find_app]
  by_cases c:k'=k
  · subst c
    rw[if_pos rfl]
    rw[Option.map_eq_none_iff] at hk
    rw[hk]
    simp
  · rw[if_neg c]
    have:decide (k=k')=false:=by simpa using fun e:k=k'=>c e.symm
    simp only[this]
    simp
theorem Inv.cache {A:Nat→Nat→Option Ar}{m:SpM}(h:Inv A m){k:Pl}{f:Nat}(hk:frameC m.c k=none)(hr:0≤k.c∧k.c < 4∧0≤k.g∧k.g < 16)(hf:f < 1024)(hu:m.p.u.getD f 0=4)(hno:∀ e∈m.c,e.f≠(f:Int)):Inv A (m.setC (putC m.c k f)):=by
  refine⟨⟨h.tabs.bad,h.tabs.live,h.tabs.use,h.tabs.two⟩,h.zone,h.tok,h.x8,h.ars,fun n pg=>?_,h.back,h.srt,h.slot,h.ssrt,h.sin,csOk_put h.cok,fun e he=>?_,h.tr⟩
  · rcases h.good n pg with (c | ⟨g,c,hg,r,hr,c2⟩) | c
    · exact .inl (.inl c)
    rotate_left
    · exact .inr c
    · refine .inl (.inr ⟨g,c,hg,r,hr,?_⟩)
      rcases c2 with c2 | ⟨c2,c3,c4⟩
      · exact .inl c2
      · refine .inr ⟨c2,c3,?_⟩
        show frameC (putC m.c k f) _=_
        rw[frameC_put hk hno,if_neg]
        · exact c4
        · intro e
          rw[e,hk] at c4
          cases c4
  · have he':e∈putC m.c k (f:Int):=he
    unfold putC at he'
    split at he'
    · rcases List.mem_append.1 he' with c | c
      · exact h.ckey e c
      · rw[List.mem_singleton] at c
        subst c
        exact⟨hr,f,rfl,hf,hu⟩
    · exact h.ckey e he'
theorem keyI_ix {k:Pl}(hr:0≤k.c∧k.c < 4∧0≤k.g∧k.g < 16):keyI (16 * k.c.toNat+k.g.toNat)=k:=by
  obtain⟨c,g⟩:=k
  obtain⟨h1,h2,h3,h4⟩:=hr
  simp only at h1 h2 h3 h4
  unfold keyI
  rw[Pl.mk.injEq]
  simp only
  constructor <;> omega
theorem keyI_inj {i:Nat}{k:Pl}(h:keyI i=k):i=16 * k.c.toNat+k.g.toNat:=by
  subst h
  unfold keyI
  simp only[Int.toNat_natCast]
  omega
theorem Stp.cache {A:Nat→Nat→Option Ar} (n pg:Nat) {m:SpM} (h:Inv A m) {k:Pl} {f:Nat} (hk:frameC m.c k=none) (hr:0≤k.c∧k.c < 4∧0≤k.g∧k.g < 16) (hno:∀ e∈m.c,e.f≠(f:Int))
    (hB:m.F f=last m.S m.L (96+(16 * k.c.toNat+k.g.toNat))):Stp n pg m (m.setC (putC m.c k f)):=by
  refine⟨fun _=>rfl,fun _ _ _=>rfl,fun n' q g c e=>⟨rfl,rfl,fun _ z hz=>hz⟩,fun i j=>?_,fun _ _=>rfl⟩
  unfold fileM
  show (match frameC (putC m.c k f) (keyI i) with | some g=>_ | none=>_)=_
  rw[frameC_put hk hno]
  by_cases c:keyI i=k
  · rw[if_pos c,c,hk]
    simp only[Int.toNat_natCast]
    show (m.F f).getD j 0=(last m.S m.L (96+i)).getD j 0
    rw[hB,keyI_inj c]
  · rw[if_neg c]
    rfl
theorem putM_setC (m:SpM)(c:CS)(n:Nat)(y:SpX)(pg:Nat)(x:En)(F':Nat→List Nat)(p':PS)(t':TS):(putM m n y pg x 0 F' p' t').setC c=putM (m.setC c) n y pg x 0 F' p' t':=by
  have ht:∀ (M:SpM) pl x,(takeM M pl x).setC c=takeM (M.setC c) pl x:=by
    intro M pl x
    unfold takeM
    split
    · rfl
    · split <;> rfl
  have hf:∀ (M:SpM) z pl,(freeM M z pl).setC c=freeM (M.setC c) z pl:=by
    intro M z pl
    unfold freeM
    show _=if useP M.p z=3∧(M.b z).erase pl=[] then _ else _
    split <;> rfl
  have hl:∀ (M:SpM) pl x,(leaveM M pl x).setC c=leaveM (M.setC c) pl x:=by
    intro M pl x
    unfold leaveM
    split
    · exact hf _ _ _
    · split <;> rfl
  unfold putM
  split
  · split
    · rw[ht];rfl
    · rw[hl,ht];rfl
  · rfl
end Go.Proofs.YtaonpmclkafjdaaGreat
namespace Go.Proofs.YtaonpmclkafjdaaGreat
open Go.RowKit
set_option linter.unusedVariables false
section
variable (gS:Nat)(a:SpA)(k:SpK)(K:Nat→Prop)(m:SpM)(w:World)
set_option maxRecDepth 100000 in
set_option maxHeartbeats 8000000 in
theorem page_go (n:Nat) (y:SpX) (pg:Nat) (wr:Bool) (fr ap:Int) (aw:Bool) (kd fl ofs:Int) (P Q:Nat→SpM→Prop) (h:SpMem w gS a k K m) (hy:m.x n=some y) (hpg:pg < 4096) (hT:Tabs m) (hla:listA y.a) (har:findA y.a (pg:Int)=some ⟨fr,ap,aw,kd,fl,ofs⟩) (hw:wr=true→aw=true)
    (hcome:∀ V,SpMem V gS a k K m→Calls Tryz.prog 143 #[.pointer (some ⟨gS,0,none⟩),.agg #[.int .i64 (n:Int),.int .i64 (pg:Int)],.agg #[.int .i64 fr,.int .i64 ap,.bool aw,.int .i64 kd,.int .i64 fl,.int .i64 ofs],.agg #[.int .i64 (y.t.e.getD pg en0).k,.int .i64 (y.t.e.getD pg en0).n,.bool (y.t.e.getD pg en0).w]] V fun e w'=>∃ (f:Nat) (m':SpM),P f m'∧SpEnd V gS a k K (.tuple #[.int .i64 (f:Int),.int .i64 0]) m' e w')
    (halone:wr=true→kd≠2→∀ f m' V K',P f m'→SpMem V gS a k K' m'→Calls Tryz.prog 144 #[.pointer (some ⟨gS,0,none⟩),.agg #[.int .i64 (n:Int),.int .i64 (pg:Int)],.int .i64 (f:Int)] V fun e w'=>∃ (f':Nat) (m'':SpM),Q f' m''∧SpEnd V gS a k K' (.tuple #[.int .i64 (f':Int),.int .i64 0]) m'' e w')
    (hPQ:(wr=false∨kd=2)→∀ f m',P f m'→Q f m') :
    Calls Tryz.prog 93 #[.pointer (some ⟨gS,0,none⟩),.agg #[.int .i64 (n:Int),.int .i64 (pg:Int)],.bool wr] w fun e w'=>∃ (f:Nat) (m':SpM),Q f m'∧SpEnd w gS a k K (.tuple #[.int .i64 (f:Int),.int .i64 0]) m' e w':=by
  obtain⟨W,hW⟩:∃ W,w.alloc (.cells #[.int .i64 (n:Int),.int .i64 (pg:Int)] 60)=W:=⟨_,rfl⟩
  have hb:Below w.heap.size w W:=by rw[← hW];exact belAl (Below.refl _ w) _
  have hP:Blk W w.heap.size 60 #[.int .i64 (n:Int),.int .i64 (pg:Int)]:=by rw[← hW];exact Blk.new w _ _
  have h1:=h.fresh hb
  have LQ:∀ q,(Instr.lookup 42 (.map k.M) (.int .i64 (n:Int)) false).run Tryz.prog (W.drewN q)=.ok (.pointer (some ⟨k.X n,0,none⟩)) (W.drewN q):=fun q=>(SpMem.look_ gS a k K m (W.drewN q) (h1.far (w':=W.drewN q) (Nat.le_refl _) fun _ _=>rfl) hy).look
  have c6:W.cell? ⟨gS,6,none⟩=some (.map k.M):=h1.cells.cell 6
  have p0:W.cell? ⟨w.heap.size,0,none⟩=some (.int .i64 (n:Int)):=hP.cell 0
  have p1:W.cell? ⟨w.heap.size,1,none⟩=some (.int .i64 (pg:Int)):=hP.cell 1
  have H1:=Lib.hid h1
  have HP:=Lib.hid hP
  have HBL:=Lib.hid hb
  have HY:=Lib.hid hy
  have HK:=Lib.hid h.lt
  have HLA:=Lib.hid hla
  have HAR:=Lib.hid har
  have HT:=Lib.hid hT
  have HCO:=Lib.hid hcome
  have HAL:=Lib.hid halone
  have HPQ:=Lib.hid hPQ
  clear h hy hla hb hP h1 har hT hcome halone hPQ
  go_enter Tryz.func93,Tryz.ntmps93
  go_wp2_with fail
  go_quiet (fail)
  go_wp2_with fail
  obtain⟨W1,hW1⟩:∃ W1,W1=W.drewN nq:=⟨_,rfl⟩
  have hb0:Below W.heap.size W W1:=by rw[hW1];exact below_drewN (Below.refl _ _) _
  rw[← hW1]
  have h1:=H1.out.fresh hb0
  have hpr:=h1.proc HY.out
  have hP1:=HP.out.below hb0 HP.out.lt
  obtain⟨A_,l_,c_,hv,-⟩:=id hpr.2.2.1
  have C0_:W1.cell? ⟨k.X n,1,none⟩=some (.slice A_ l_ c_):=by rw[← hv];exact hpr.1.cell 1
  have C1_:W1.cell? ⟨w.heap.size,1,none⟩=some (.int .i64 (pg:Int)):=hP1.cell 1
  have L0_:=hpr.1.lt
  have L1_:=hP1.lt
  have GQ:=Lib.hid (fun (V:World) (hV:Below W1.heap.size W1 V)=>((area_find V (.slice A_ l_ c_) y.a (pg:Int) (hv ▸ hpr.2.2.1.fresh hV) HLA.out (by omega)).mono (fun e w' h=>⟨h.1.trans (by rw[HAR.out];rfl),h.2,hV.trans (h.2.mono hV.size)⟩):Calls Tryz.prog 142 #[.slice A_ l_ c_,.int .i64 (pg:Int)] V fun e w'=>e=.returned (.tuple #[.agg #[.int .i64 fr,.int .i64 ap,.bool aw,.int .i64 kd,.int .i64 fl,.int .i64 ofs],.bool true])∧Below V.heap.size V w'∧Below W1.heap.size W1 w'))
  have KEEP:=Lib.hid (fun (V:World) (hV:Below W1.heap.size W1 V)=>(⟨(hV.cell (p:=⟨k.X n,1,none⟩) L0_).trans C0_,(hV.cell (p:=⟨w.heap.size,1,none⟩) L1_).trans C1_,hV⟩:V.cell? ⟨k.X n,1,none⟩=some (.slice A_ l_ c_)∧V.cell? ⟨w.heap.size,1,none⟩=some (.int .i64 (pg:Int))∧Below W1.heap.size W1 V))
  have PB:=Lib.hid (fun (V:World) (hV:V.cell? ⟨k.X n,1,none⟩=some (.slice A_ l_ c_)∧V.cell? ⟨w.heap.size,1,none⟩=some (.int .i64 (pg:Int))∧Below W1.heap.size W1 V)=>hV.2.2)
  have BR:=Lib.hid (Below.refl W1.heap.size W1)
  have GA:=Lib.hid (show Calls Tryz.prog 142 #[.slice A_ l_ c_,.int .i64 (pg:Int)] (W1.alloc (.cells #[.int .i64 0,.int .i64 0,.bool false,.int .i64 0,.int .i64 0,.int .i64 0] 77)).drew fun e w'=>e=.returned (.tuple #[.agg #[.int .i64 fr,.int .i64 ap,.bool aw,.int .i64 kd,.int .i64 fl,.int .i64 ofs],.bool true])∧w'.cell? ⟨W1.heap.size,0,none⟩=some (.int .i64 0)∧w'.cell? ⟨W1.heap.size,1,none⟩=some (.int .i64 0)∧w'.cell? ⟨W1.heap.size,2,none⟩=some (.bool false)∧w'.cell? ⟨W1.heap.size,3,none⟩=some (.int .i64 0)∧w'.cell? ⟨W1.heap.size,4,none⟩=some (.int .i64 0)∧w'.cell? ⟨W1.heap.size,5,none⟩=some (.int .i64 0)∧w'.frozen? ⟨W1.heap.size,0,none⟩=false∧w'.frozen? ⟨W1.heap.size,1,none⟩=false∧w'.frozen? ⟨W1.heap.size,2,none⟩=false∧w'.frozen? ⟨W1.heap.size,3,none⟩=false∧w'.frozen? ⟨W1.heap.size,4,none⟩=false∧w'.frozen? ⟨W1.heap.size,5,none⟩=false∧(∀ u0 u1 u2 u3 u4 u5,Below W1.heap.size W1 ((((((w'.setCell ⟨W1.heap.size,0,none⟩ u0).setCell ⟨W1.heap.size,1,none⟩ u1).setCell ⟨W1.heap.size,2,none⟩ u2).setCell ⟨W1.heap.size,3,none⟩ u3).setCell ⟨W1.heap.size,4,none⟩ u4).setCell ⟨W1.heap.size,5,none⟩ u5))∧Blk w' W1.heap.size 77 #[.int .i64 0,.int .i64 0,.bool false,.int .i64 0,.int .i64 0,.int .i64 0]∧Below W1.heap.size W1 w' from (GQ.out _ (belAl (Below.refl _ W1) _).drew).mono (fun e w' h=>by
    have hz:Blk w' W1.heap.size 77 #[.int .i64 0,.int .i64 0,.bool false,.int .i64 0,.int .i64 0,.int .i64 0]:=(show Blk (W1.alloc (.cells #[.int .i64 0,.int .i64 0,.bool false,.int .i64 0,.int .i64 0,.int .i64 0] 77)).drew W1.heap.size 77 #[.int .i64 0,.int .i64 0,.bool false,.int .i64 0,.int .i64 0,.int .i64 0] from Blk.new W1 _ _).below h.2.1 (Blk.lt (w:=(W1.alloc (.cells #[.int .i64 0,.int .i64 0,.bool false,.int .i64 0,.int .i64 0,.int .i64 0] 77)).drew) (Blk.new W1 _ _))
    exact⟨h.1,hz.cell 0,hz.cell 1,hz.cell 2,hz.cell 3,hz.cell 4,hz.cell 5,hz.frozen 0,hz.frozen 1,hz.frozen 2,hz.frozen 3,hz.frozen 4,hz.frozen 5,fun u0 u1 u2 u3 u4 u5=>((((((h.2.2.setCell (Nat.le_refl _) u0).setCell (Nat.le_refl _) u1).setCell (Nat.le_refl _) u2).setCell (Nat.le_refl _) u3).setCell (Nat.le_refl _) u4).setCell (Nat.le_refl _) u5),hz,h.2.2⟩))
  have HB0:=Lib.hid hb0
  have HPR:=Lib.hid hpr
  clear h1 hpr hP1 hv C0_ C1_ L0_ L1_ hb0 LQ c6 p0 p1 hW hW1
  go_cut [9,10] from 14 to 81 (fun sA sB wx=>∃ g,sA=.pointer (some ⟨g,0,none⟩)∧sB=.bool true∧Blk wx g 77 #[.int .i64 fr,.int .i64 ap,.bool aw,.int .i64 kd,.int .i64 fl,.int .i64 ofs]∧W1.heap.size≤g∧Below W1.heap.size W1 wx)
  case first =>
    go_region_held3 (fun w'=>w'.cell? ⟨k.X n,1,none⟩=some (.slice A_ l_ c_)∧w'.cell? ⟨w.heap.size,1,none⟩=some (.int .i64 (pg:Int))∧Below W1.heap.size W1 w')
      (first | with_reducible assumption | with_reducible exact KEEP.out _ BR.out.drew | with_reducible exact KEEP.out _ (hsb _ _ _ _ _ _) | with_reducible exact KEEP.out _ (belAl (PB.out _ (by with_reducible assumption)) _) | with_reducible exact KEEP.out _ (belAl (by with_reducible assumption) _) | with_reducible exact KEEP.out _ (belAl BR.out _).drew | with_reducible exact KEEP.out _ (PB.out _ (by with_reducible assumption)) | with_reducible exact KEEP.out _ (by with_reducible assumption))
      (first | (go_at_call 142;refine GA.out.mono ?_;rintro e w' ⟨rfl,z0,z1,z2,z3,z4,z5,f0,f1,f2,f3,f4,f5,hsb,hz,hbB⟩) | (go_at_call 142;refine (GQ.out _ ?_).mono ?_;(first | assumption | exact PB.out _ (by assumption));rintro e w' ⟨rfl,hbA,hbB⟩))
    all_goals (go_wp2_with fail;go_meet)
    all_goals (first | exact⟨_,rfl,rfl,((((((hz.set_ 0 _).set_ 1 _).set_ 2 _).set_ 3 _).set_ 4 _).set_ 5 _),Nat.le_refl _,hsb _ _ _ _ _ _⟩ | exact⟨_,rfl,rfl,Blk.new w' _ _,hbB.size,belAl hbB _⟩)
  case rest =>
    obtain⟨g1,rfl,rfl,hg1,hgs1,hbg1⟩:=hcut
    have hb2:=HB0.out.trans (hbg1.mono HB0.out.size)
    have h2:=H1.out.fresh hb2
    have hpr:=h2.proc HY.out
    have hP2:=HP.out.below hb2 HP.out.lt
    obtain⟨W2,hW2⟩:∃ W2,W2=wc:=⟨_,rfl⟩
    rw[← hW2] at hg1 hbg1 hb2 h2 hpr hP2 ⊢
    have Cb0_:W2.cell? ⟨k.X n,0,none⟩=some (.pointer (some ⟨k.T n,0,none⟩)):=hpr.1.cell 0
    have Cb1_:W2.cell? ⟨w.heap.size,1,none⟩=some (.int .i64 (pg:Int)):=hP2.cell 1
    have Lb0_:=hpr.1.lt
    have Lb1_:=hP2.lt
    obtain⟨KP,KT,hM,hPo,hTr,hA,-⟩:=h2.treeP HY.out
    obtain⟨⟨ek,en,ew⟩,hhad⟩:∃ x:En,x=y.t.e.getD pg en0:=⟨_,rfl⟩
    have GQ2:=Lib.hid (fun (V:World) (hV:Below W2.heap.size W2 V)=>((tree_get (k.T n) a.R a.F a.P KT m.F m.bad y.t V pg hpg (hM.below hV hM.lt.1 hM.lt.2) (hTr.fresh hV) HT.out.bad (HT.out.live n y HY.out)).mono (fun e w' h=>⟨h.1.trans (by rw[← hhad];rfl),h.2,hV.trans (h.2.mono hV.size)⟩):Calls Tryz.prog 13 #[.pointer (some ⟨k.T n,0,none⟩),.int .i64 (pg:Int)] V fun e w'=>e=.returned (.tuple #[.agg #[.int .i64 ek,.int .i64 en,.bool ew],.int .i64 0])∧Below V.heap.size V w'∧Below W2.heap.size W2 w'))
    rw[← hhad] at HCO
    have KEEPb:=Lib.hid (fun (V:World) (hV:Below W2.heap.size W2 V)=>(⟨(hV.cell (p:=⟨k.X n,0,none⟩) Lb0_).trans Cb0_,(hV.cell (p:=⟨w.heap.size,1,none⟩) Lb1_).trans Cb1_,hV⟩:V.cell? ⟨k.X n,0,none⟩=some (.pointer (some ⟨k.T n,0,none⟩))∧V.cell? ⟨w.heap.size,1,none⟩=some (.int .i64 (pg:Int))∧Below W2.heap.size W2 V))
    have PBb:=Lib.hid (fun (V:World) (hV:V.cell? ⟨k.X n,0,none⟩=some (.pointer (some ⟨k.T n,0,none⟩))∧V.cell? ⟨w.heap.size,1,none⟩=some (.int .i64 (pg:Int))∧Below W2.heap.size W2 V)=>hV.2.2)
    have BRb:=Lib.hid (Below.refl W2.heap.size W2)
    have GAb:=Lib.hid (show Calls Tryz.prog 13 #[.pointer (some ⟨k.T n,0,none⟩),.int .i64 (pg:Int)] (W2.alloc (.cells #[.int .i64 0,.int .i64 0,.bool false] 29)).drew fun e w'=>e=.returned (.tuple #[.agg #[.int .i64 ek,.int .i64 en,.bool ew],.int .i64 0])∧w'.cell? ⟨W2.heap.size,0,none⟩=some (.int .i64 0)∧w'.cell? ⟨W2.heap.size,1,none⟩=some (.int .i64 0)∧w'.cell? ⟨W2.heap.size,2,none⟩=some (.bool false)∧w'.frozen? ⟨W2.heap.size,0,none⟩=false∧w'.frozen? ⟨W2.heap.size,1,none⟩=false∧w'.frozen? ⟨W2.heap.size,2,none⟩=false∧(∀ u0 u1 u2,Below W2.heap.size W2 (((w'.setCell ⟨W2.heap.size,0,none⟩ u0).setCell ⟨W2.heap.size,1,none⟩ u1).setCell ⟨W2.heap.size,2,none⟩ u2))∧Blk w' W2.heap.size 29 #[.int .i64 0,.int .i64 0,.bool false]∧Below W2.heap.size W2 w' from (GQ2.out _ (belAl (Below.refl _ W2) _).drew).mono (fun e w' h=>by
      have hz:Blk w' W2.heap.size 29 #[.int .i64 0,.int .i64 0,.bool false]:=(show Blk (W2.alloc (.cells #[.int .i64 0,.int .i64 0,.bool false] 29)).drew W2.heap.size 29 #[.int .i64 0,.int .i64 0,.bool false] from Blk.new W2 _ _).below h.2.1 (Blk.lt (w:=(W2.alloc (.cells #[.int .i64 0,.int .i64 0,.bool false] 29)).drew) (Blk.new W2 _ _))
      exact⟨h.1,hz.cell 0,hz.cell 1,hz.cell 2,hz.frozen 0,hz.frozen 1,hz.frozen 2,fun u0 u1 u2=>(((h.2.2.setCell (Nat.le_refl _) u0).setCell (Nat.le_refl _) u1).setCell (Nat.le_refl _) u2),hz,h.2.2⟩))
    have HG1:=Lib.hid hg1
    have HGS1:=Lib.hid (show w.heap.size < g1 from by have:=HP.out.lt;have:=HB0.out.size;omega)
    have HB2:=Lib.hid hb2
    have g1c:W2.cell? ⟨g1,2,none⟩=some (.bool aw):=hg1.cell 2
    clear hg1 hgs1 hbg1 hb2 h2 hpr hP2 Cb0_ Cb1_ Lb0_ Lb1_ hM hPo hTr hA hhad hW2
    have HCUT:True:=trivial
    cases wr with
    | false =>
      have HPQ2:=Lib.hid (HPQ.out (.inl rfl))
      clear hw HPQ HAL
      go_wp2_with fail
      go_cut [11,12] from 41 to 81 (fun sA sB wx=>∃ g,sA=.pointer (some ⟨g,0,none⟩)∧sB=.int .i64 0∧Blk wx g 29 #[.int .i64 ek,.int .i64 en,.bool ew]∧W2.heap.size≤g∧Below W2.heap.size W2 wx)
      case first =>
        go_region_held3 (fun w'=>w'.cell? ⟨k.X n,0,none⟩=some (.pointer (some ⟨k.T n,0,none⟩))∧w'.cell? ⟨w.heap.size,1,none⟩=some (.int .i64 (pg:Int))∧Below W2.heap.size W2 w')
          (first | with_reducible assumption | with_reducible exact KEEPb.out _ BRb.out.drew | with_reducible exact KEEPb.out _ (hsb _ _ _) | with_reducible exact KEEPb.out _ (belAl (PBb.out _ (by with_reducible assumption)) _) | with_reducible exact KEEPb.out _ (belAl (by with_reducible assumption) _) | with_reducible exact KEEPb.out _ (belAl BRb.out _).drew | with_reducible exact KEEPb.out _ (PBb.out _ (by with_reducible assumption)) | with_reducible exact KEEPb.out _ (by with_reducible assumption))
          (first | (go_at_call 13;refine GAb.out.mono ?_;rintro e w' ⟨rfl,z0,z1,z2,f0,f1,f2,hsb,hz,hbB⟩) | (go_at_call 13;refine (GQ2.out _ ?_).mono ?_;(first | assumption | exact PBb.out _ (by assumption));rintro e w' ⟨rfl,hbA,hbB⟩))
        all_goals (go_wp2_with fail;go_meet)
        all_goals (first | exact⟨_,rfl,rfl,(((hz.set_ 0 _).set_ 1 _).set_ 2 _),Nat.le_refl _,hsb _ _ _⟩ | exact⟨_,rfl,rfl,Blk.new w' _ _,hbB.size,belAl hbB _⟩)
      case rest =>
        obtain⟨g2,rfl,rfl,hg2,hgs2,hbg2⟩:=hcut
        have hb3:=HB2.out.trans (hbg2.mono HB2.out.size)
        have h3:=H1.out.fresh hb3
        have hP3:=HP.out.below hb3 HP.out.lt
        have hg13:=HG1.out.below hbg2 HG1.out.lt
        have CC:=Lib.hid (HCO.out wc h3)
        have G3:=Lib.hid ((Went.of_below (K:=K) HBL.out).below hb3)
        have HX3:=Lib.hid (And.intro hP3 hg13)
        have q0:wc.cell? ⟨w.heap.size,0,none⟩=some (.int .i64 (n:Int)):=hP3.cell 0
        have q1:wc.cell? ⟨w.heap.size,1,none⟩=some (.int .i64 (pg:Int)):=hP3.cell 1
        have a0:wc.cell? ⟨g1,0,none⟩=some (.int .i64 fr):=hg13.cell 0
        have a1:wc.cell? ⟨g1,1,none⟩=some (.int .i64 ap):=hg13.cell 1
        have a2:wc.cell? ⟨g1,2,none⟩=some (.bool aw):=hg13.cell 2
        have a3:wc.cell? ⟨g1,3,none⟩=some (.int .i64 kd):=hg13.cell 3
        have a4:wc.cell? ⟨g1,4,none⟩=some (.int .i64 fl):=hg13.cell 4
        have a5:wc.cell? ⟨g1,5,none⟩=some (.int .i64 ofs):=hg13.cell 5
        have e0:wc.cell? ⟨g2,0,none⟩=some (.int .i64 ek):=hg2.cell 0
        have e1:wc.cell? ⟨g2,1,none⟩=some (.int .i64 en):=hg2.cell 1
        have e2:wc.cell? ⟨g2,2,none⟩=some (.bool ew):=hg2.cell 2
        clear hb3 h3 hP3 hg13 hg2 hgs2 hbg2
        go_wp2_with fail
        refine CC.out.mono ?_
        rintro e w4 ⟨f,m',hp,rfl,K4,h4,g4⟩
        have R:=Lib.hid (show SpGo w gS a k K m' w4 from ⟨K4,h4,G3.out.trans g4⟩)
        have HPP:=Lib.hid (HPQ2.out f m' hp)
        clear h4 g4 hp
        go_wp2_with fail
        go_ret2
        exact⟨f,m',HPP.out,rfl,R.out⟩
    | true =>
      obtain rfl:aw=true:=hw rfl
      have HAL2:=Lib.hid (HAL.out rfl)
      have HPQ2:=Lib.hid (fun h=>HPQ.out (.inr h))
      clear hw HPQ HAL
      go_wp2_with fail
      go_cut [11,12] from 41 to 81 (fun sA sB wx=>∃ g,sA=.pointer (some ⟨g,0,none⟩)∧sB=.int .i64 0∧Blk wx g 29 #[.int .i64 ek,.int .i64 en,.bool ew]∧W2.heap.size≤g∧Below W2.heap.size W2 wx)
      case first =>
        go_region_held3 (fun w'=>w'.cell? ⟨k.X n,0,none⟩=some (.pointer (some ⟨k.T n,0,none⟩))∧w'.cell? ⟨w.heap.size,1,none⟩=some (.int .i64 (pg:Int))∧Below W2.heap.size W2 w')
          (first | with_reducible assumption | with_reducible exact KEEPb.out _ BRb.out.drew | with_reducible exact KEEPb.out _ (hsb _ _ _) | with_reducible exact KEEPb.out _ (belAl (PBb.out _ (by with_reducible assumption)) _) | with_reducible exact KEEPb.out _ (belAl (by with_reducible assumption) _) | with_reducible exact KEEPb.out _ (belAl BRb.out _).drew | with_reducible exact KEEPb.out _ (PBb.out _ (by with_reducible assumption)) | with_reducible exact KEEPb.out _ (by with_reducible assumption))
          (first | (go_at_call 13;refine GAb.out.mono ?_;rintro e w' ⟨rfl,z0,z1,z2,f0,f1,f2,hsb,hz,hbB⟩) | (go_at_call 13;refine (GQ2.out _ ?_).mono ?_;(first | assumption | exact PBb.out _ (by assumption));rintro e w' ⟨rfl,hbA,hbB⟩))
        all_goals (go_wp2_with fail;go_meet)
        all_goals (first | exact⟨_,rfl,rfl,(((hz.set_ 0 _).set_ 1 _).set_ 2 _),Nat.le_refl _,hsb _ _ _⟩ | exact⟨_,rfl,rfl,Blk.new w' _ _,hbB.size,belAl hbB _⟩)
      case rest =>
        obtain⟨g2,rfl,rfl,hg2,hgs2,hbg2⟩:=hcut
        have hb3:=HB2.out.trans (hbg2.mono HB2.out.size)
        have h3:=H1.out.fresh hb3
        have hP3:=HP.out.below hb3 HP.out.lt
        have hg13:=HG1.out.below hbg2 HG1.out.lt
        have CC:=Lib.hid (HCO.out wc h3)
        have G3:=Lib.hid ((Went.of_below (K:=K) HBL.out).below hb3)
        have HX3:=Lib.hid (And.intro hP3 hg13)
        have q0:wc.cell? ⟨w.heap.size,0,none⟩=some (.int .i64 (n:Int)):=hP3.cell 0
        have q1:wc.cell? ⟨w.heap.size,1,none⟩=some (.int .i64 (pg:Int)):=hP3.cell 1
        have a0:wc.cell? ⟨g1,0,none⟩=some (.int .i64 fr):=hg13.cell 0
        have a1:wc.cell? ⟨g1,1,none⟩=some (.int .i64 ap):=hg13.cell 1
        have a2:wc.cell? ⟨g1,2,none⟩=some (.bool true):=hg13.cell 2
        have a3:wc.cell? ⟨g1,3,none⟩=some (.int .i64 kd):=hg13.cell 3
        have a4:wc.cell? ⟨g1,4,none⟩=some (.int .i64 fl):=hg13.cell 4
        have a5:wc.cell? ⟨g1,5,none⟩=some (.int .i64 ofs):=hg13.cell 5
        have e0:wc.cell? ⟨g2,0,none⟩=some (.int .i64 ek):=hg2.cell 0
        have e1:wc.cell? ⟨g2,1,none⟩=some (.int .i64 en):=hg2.cell 1
        have e2:wc.cell? ⟨g2,2,none⟩=some (.bool ew):=hg2.cell 2
        clear hb3 h3 hP3 hg13 hg2 hgs2 hbg2
        go_wp2_with fail
        refine CC.out.mono ?_
        rintro e w4 ⟨f,m',hp,rfl,K4,h4,g4⟩
        have hKn:∀ j,w.heap.size≤j→¬ K j:=fun j hj hk=>by have:=HK.out j hk;omega
        have hP4:=g4.tr.blk HX3.out.1 (hKn _ (Nat.le_refl _))
        have hg4:=g4.tr.blk HX3.out.2 (hKn _ (Nat.le_of_lt HGS1.out))
        have a3:w4.cell? ⟨g1,3,none⟩=some (.int .i64 kd):=hg4.cell 3
        have q0:w4.cell? ⟨w.heap.size,0,none⟩=some (.int .i64 (n:Int)):=hP4.cell 0
        have q1:w4.cell? ⟨w.heap.size,1,none⟩=some (.int .i64 (pg:Int)):=hP4.cell 1
        by_cases hkd:kd=2
        · have R:=Lib.hid (show SpGo w gS a k K m' w4 from ⟨K4,h4,G3.out.trans g4⟩)
          have HPP:=Lib.hid (HPQ2.out hkd f m' hp)
          subst hkd
          clear h4 g4 hp hKn hP4 hg4
          go_wp2_with fail
          go_ret2
          exact⟨f,m',HPP.out,rfl,R.out⟩
        · have AA:=Lib.hid (HAL2.out hkd f m' w4 K4 hp h4)
          have G4:=Lib.hid (G3.out.trans g4)
          have t1:(kd == 2)=false:=beq_eq_false_iff_ne.2 hkd
          clear h4 g4 hp hKn hP4 hg4 hkd
          go_wp2_with fail
          refine AA.out.mono ?_
          rintro e w5 ⟨f',m'',hq,rfl,h5⟩
          have R:=Lib.hid (h5.from_ G4.out)
          have HQ:=Lib.hid hq
          clear h5 hq
          go_wp2_with fail
          go_ret2
          exact⟨f',m'',HQ.out,rfl,R.out⟩
end
end Go.Proofs.YtaonpmclkafjdaaGreat
namespace Go.Proofs.YtaonpmclkafjdaaGreat
open Go.RowKit
set_option linter.unusedVariables false
theorem Inv.at_ {A:Nat→Nat→Option Ar}{m:SpM}(h:Inv A m){n pg:Nat}{f:Int}(e:entM m n pg=⟨1,f,false⟩):n < 8∧pg < 4096∧∃ y,m.x n=some y:=by
  cases c:m.x n with
  | none=>rw[entM_none c] at e;exact absurd e.symm (en_ne _)
  | some y =>
    refine⟨h.x8 n y c,?_,y,rfl⟩
    rw[entM_some c] at e
    by_cases d:pg < 4096
    · exact d
    · rw[List.getD_eq_getElem?_getD,List.getElem?_eq_none (by rw[(h.tok n y c).el];omega)] at e
      exact absurd e.symm (en_ne _)
theorem Inv.few {A:Nat→Nat→Option Ar}{m:SpM}(h:Inv A m):Few m:=by
  refine⟨fun f=>?_,⟨(List.range 1024).map fun (f:Nat)=>(f:Int),by simp,fun g hg=>?_⟩,fun t=>?_⟩
  · have:=nodupC_le (l:=m.b f) (m:=places) (srt_nodup (h.srt f)) fun q hq=>by
      obtain⟨n,pg,rfl,e⟩:=(h.back f q).1 hq
      obtain⟨h1,h2,_⟩:=h.at_ e
      exact places_mem h1 h2
    rw[places_length] at this
    omega
  · obtain⟨q,hq⟩:=List.exists_mem_of_ne_nil _ hg
    obtain⟨n,pg,rfl,e⟩:=(h.back g q).1 hq
    rcases h.good n pg with (c | ⟨f,c,hf,_⟩) | ⟨t,c,_⟩
    · rw[c] at e;exact absurd e.symm (en_ne _)
    · rw[c] at e
      have:=en_inj e
      exact List.mem_map.2 ⟨f,List.mem_range.2 hf,this⟩
    · rw[c] at e;exact absurd e (es_fr _ _)
  · have:=nodupC_le (l:=m.s t) (m:=places) (srt_nodup (h.ssrt t)) (h.sin t)
    rw[places_length] at this
    omega
theorem Inv.cfew {A:Nat→Nat→Option Ar}{m:SpM}(h:Inv A m):m.c.length≤100000:=by
  have:=nodupC_le (l:=m.c.map (·.k)) (m:=(List.range 4).flatMap fun (n:Nat)=>(List.range 16).map fun (q:Nat)=>(⟨(n:Int),(q:Int)⟩:Pl)) (keys_nodup h.cok) fun q hq=>by
    obtain⟨e,he,rfl⟩:=List.mem_map.1 hq
    obtain⟨⟨h1,h2,h3,h4⟩,_⟩:=h.ckey e he
    refine List.mem_flatMap.2 ⟨e.k.c.toNat,List.mem_range.2 (by omega),List.mem_map.2 ⟨e.k.g.toNat,List.mem_range.2 (by omega),?_⟩⟩
    rw[Int.toNat_of_nonneg h1,Int.toNat_of_nonneg h3]
  rw[List.length_map,List.length_flatMap] at this
  simp at this
  have e:(List.map (fun _=>16) (List.range 4)).sum=64:=by decide
  omega
theorem key_ix {r:Ar} {pg:Nat} (hs:soundA r) (hh:hasA r (pg:Int)) (hk:r.kd≠1) :
    (0≤r.fl∧r.fl < 4∧0≤r.ofs+(pg:Int) - r.fr∧r.ofs+(pg:Int) - r.fr < 16)∧keyI (fileIx r pg)=⟨r.fl,r.ofs+(pg:Int) - r.fr⟩∧fileIx r pg=16 * r.fl.toNat+(r.ofs+(pg:Int) - r.fr).toNat:=by
  obtain⟨⟨_,_,h3,h4,h5,h6⟩,c | ⟨_,c1,c2,c3,c4,c5⟩⟩:=hs
  · exact absurd c.1 hk
  · obtain⟨g1,g2⟩:=hh
    have hr:0≤r.fl∧r.fl < 4∧0≤r.ofs+(pg:Int) - r.fr∧r.ofs+(pg:Int) - r.fr < 16:=⟨c1,c2,by omega,by omega⟩
    have e:fileIx r pg=16 * r.fl.toNat+(r.ofs+(pg:Int) - r.fr).toNat:=by
      unfold fileIx
      omega
    refine⟨hr,?_,e⟩
    rw[e]
    exact keyI_ix (k:=⟨r.fl,r.ofs+(pg:Int) - r.fr⟩) hr
section
variable {m m1:SpM}{n pg f:Nat}{y:SpX}{r:Ar}{p1 p':PS}{F':Nat→List Nat}{t':TS}{B:List Nat}
structure NewPg (m:SpM)(n pg f:Nat)(m1:SpM):Prop where
  inv:Inv (arM m1) m1
  stp:Stp n pg m m1
  ent:entM m1 n pg=⟨1,(f:Int),false⟩
  byt:∀ j,j < 64→pageM m1 n pg j=pageM m n pg j
  use:m1.p.u.getD f 0=3
  one:∀ z∈m1.b (f:Int),z=⟨n,pg⟩
  lt:f < 1024
  cost:Cost 3 1 3 m m1
  cost0:entM m n pg≠en0→Cost 0 1 0 m m1
theorem newPg (hi:Inv (arM m) m) (hy:m.x n=some y) (hpg:pg < 4096) (har:arM m n pg=some r) (hk:r.kd≠2) (ha:Alloc1 m.p 3 f p1)
    (hd:SetDone ((m.setP p1).setF (upd m.F f B)) y pg ⟨1,(f:Int),false⟩ F' p' t') (hB:∀ j,j < 64→B.getD j 0=pageM m n pg j) :
    NewPg m n pg f (putM ((m.setP p1).setF (upd m.F f B)) n y pg ⟨1,(f:Int),false⟩ 0 F' p' t'):=by
  have hiA:Inv (arM m) ((m.setP p1).setF (upd m.F f B)):=hi.alloc ha
  have hp:=putIs (n:=n) (y:=y) (pg:=pg) (x:=⟨1,(f:Int),false⟩) (F':=F') (p':=p') (t':=t') hiA hy (.inr (.inl ⟨f,rfl⟩))
  have hu:((m.setP p1).setF (upd m.F f B)).p.u.getD f 0=3:=by
    show p1.u.getD f 0=3
    rw[ha.u,if_pos rfl]
  have hg:Good (arM m) ((m.setP p1).setF (upd m.F f B)) n pg ⟨1,(f:Int),false⟩:=.inr ⟨f,rfl,ha.lt,r,har,.inl ⟨hu,hk⟩⟩
  have hno:∀ n' q,entM m n' q≠⟨1,(f:Int),false⟩:=hi.free_no (by rw[ha.free];decide) (by rw[ha.free];decide)
  have hiv:=hiA.put hy hpg hd (.inl hg) hp
  have sP:=Stp.put hp hd hiA hy hpg (.inl hg) (fun g e _ n' q _=>by rw[← e];exact hno n' q)
  have s:=(Stp.alloc n pg hi ha (B:=B)).trans sP
  have hent:=(hp.ent hd hy (hi.tok n y hy).el hpg n pg).trans (if_pos ⟨rfl,rfl⟩)
  have hc:=Cost0.put hp hd hiA hy
  have huse:(putM ((m.setP p1).setF (upd m.F f B)) n y pg ⟨1,(f:Int),false⟩ 0 F' p' t').p.u.getD f 0=3:=by
    rcases (hp.use hd hiA hy ha.lt (.inl hu)).2 with c | ⟨_,_,_,c⟩
    · rw[c];exact hu
    · exact absurd c (hno n pg)
  have hkp:=Kp.new ha hp hd hiA hy hpg huse
  refine⟨?_,s,hent,fun j hj=>?_,huse,fun z hz=>?_,ha.lt,⟨((Cost0.alloc ha).trans hc.1).le (by omega) (by omega) (by omega),hkp⟩,fun h0=>⟨((Cost0.alloc ha).trans (hc.2 (.inl h0))).le (by omega) (by omega) (by omega),hkp⟩⟩
  · rw[s.ar];exact hiv
  · rw[pageM_in hent,hp.byt hd hiA hy (.inl hu)]
    show (upd m.F f B f).getD j 0=_
    rw[upd_same]
    exact hB j hj
  · rcases (hp.mem _ _).1 hz with c | c
    · exact c.1
    · obtain⟨n',q,rfl,e⟩:=(hi.back _ _).1 c.2
      exact absurd e (hno n' q)
structure Paged (m:SpM)(n pg f:Nat)(m1:SpM):Prop where
  inv:Inv (arM m1) m1
  stp:Stp n pg m m1
  ent:entM m1 n pg=⟨1,(f:Int),false⟩
  byt:∀ j,j < 64→pageM m1 n pg j=pageM m n pg j
  stat:∀ r,arM m n pg=some r→r.kd≠1→(hasAnon m1 n pg↔hasAnon m n pg)
  cost:Cost 3 1 3 m m1
theorem paged_same (hi:Inv (arM m) m)(he:entM m n pg=⟨1,(f:Int),false⟩):Paged m n pg f m :=
  ⟨hi,Stp.refl _ _ _,he,fun _ _=>rfl,fun _ _ _=>Iff.rfl,(Cost.refl m).le (by omega) (by omega) (by omega)⟩
theorem paged_zero (hi:Inv (arM m) m)(hy:m.x n=some y)(hpg:pg < 4096)(har:arM m n pg=some r)(hk:r.kd=1)(he:entM m n pg=en0)(h:FromZero m n y pg f m1):Paged m n pg f m1:=by
  obtain⟨p1,F',p',t',ha,hd,rfl⟩:=h.ex
  have g:=newPg hi hy hpg har (by rw[hk];decide) ha hd (fun j hj=>by
    rw[pageM_no he,har]
    simp only[hk,if_true]
    unfold zer
    rw[List.getD_eq_getElem?_getD,List.getElem?_replicate,if_pos hj]
    rfl)
  exact⟨g.inv,g.stp,g.ent,g.byt,fun r' hr' hk'=>by rw[har] at hr';injection hr' with hr';exact absurd (hr' ▸ hk) hk',g.cost⟩
theorem file_page (har:arM m n pg=some r)(hk:r.kd≠1)(he:entM m n pg=en0)(j:Nat):pageM m n pg j=fileM m (fileIx r pg) j:=by
  rw[pageM_no he,har]
  simp only[hk,if_false]
theorem paged_in (hi:Inv (arM m) m) (hy:m.x n=some y) (hpg:pg < 4096) (har:arM m n pg=some r) (hk:r.kd≠1) (hs:soundA r) (hh:hasA r (pg:Int)) (he:entM m n pg=en0) (hf:f < 1024) (hu:m.p.u.getD f 0=4)
    (hc:frameC m.c ⟨r.fl,r.ofs+(pg:Int) - r.fr⟩=some (f:Int)) (hB:∀ j,j < 64→(m.F f).getD j 0=fileM m (fileIx r pg) j) (hd:SetDone m y pg ⟨1,(f:Int),false⟩ F' p' t') :
    Paged m n pg f (putM m n y pg ⟨1,(f:Int),false⟩ 0 F' p' t'):=by
  have hp:=putIs (n:=n) (y:=y) (pg:=pg) (x:=⟨1,(f:Int),false⟩) (F':=F') (p':=p') (t':=t') hi hy (.inr (.inl ⟨f,rfl⟩))
  have hg:Good (arM m) m n pg ⟨1,(f:Int),false⟩:=.inr ⟨f,rfl,hf,r,har,.inr ⟨hu,hk,hc⟩⟩
  have hiv:=hi.put hy hpg hd (.inl hg) hp
  have s:=Stp.put hp hd hi hy hpg (.inl hg) (fun g e u n' q _=>by have:=en_inj e;have e2:f=g:=(by omega);rw[e2] at hu;omega)
  have hent:=(hp.ent hd hy (hi.tok n y hy).el hpg n pg).trans (if_pos ⟨rfl,rfl⟩)
  have hcs:=Cost.put hp hd hi hy hpg fun z g e=>by
    have:=en_inj e
    obtain rfl:f=g:=by omega
    obtain⟨e1,h1,_,h2⟩:=frameC_some hc
    exact z.cac e1 h1 f h2
  refine⟨?_,s,hent,fun j hj=>?_,fun r' hr' hk'=>?_,hcs.1.le (by omega) (by omega) (by omega)⟩
  · rw[s.ar];exact hiv
  · rw[pageM_in hent,hp.byt hd hi hy (.inr hu),file_page har hk he]
    exact hB j hj
  · rw[hasAnon_in hent]
    refine⟨fun e=>?_,fun e=>absurd e (hasAnon_no he)⟩
    rcases (hp.use hd hi hy hf (.inr hu)).2 with c | ⟨c,_⟩
    · omega
    · omega
theorem paged_out (hi:Inv (arM m) m) (hy:m.x n=some y) (hpg:pg < 4096) (har:arM m n pg=some r) (hk:r.kd≠1) (hs:soundA r) (hh:hasA r (pg:Int)) (he:entM m n pg=en0)
    (hc:frameC m.c ⟨r.fl,r.ofs+(pg:Int) - r.fr⟩=none) (h:FromDisk m n y pg ⟨r.fl,r.ofs+(pg:Int) - r.fr⟩ (last m.S m.L (96+(16 * r.fl.toNat+(r.ofs+(pg:Int) - r.fr).toNat))) f m1):Paged m n pg f m1:=by
  obtain⟨p1,F',p',t',ha,hd,rfl⟩:=h.ex
  obtain⟨hr,ek,ei⟩:=key_ix hs hh hk
  generalize hBe:last m.S m.L (96+(16 * r.fl.toNat+(r.ofs+(pg:Int) - r.fr).toNat))=B at *
  have hno4:∀ e∈m.c,e.f≠(f:Int):=by
    intro e hx ef
    obtain⟨_,g,e1,_,e2⟩:=hi.ckey e hx
    rw[ef] at e1
    obtain rfl:f=g:=by omega
    rw[ha.free] at e2
    cases e2
  have hiA:Inv (arM m) ((m.setP p1).setF (upd m.F f B)):=hi.alloc ha
  have hu:((m.setP p1).setF (upd m.F f B)).p.u.getD f 0=4:=by
    show p1.u.getD f 0=4
    rw[ha.u,if_pos rfl]
  have hiC:Inv (arM m) (((m.setP p1).setF (upd m.F f B)).setC (putC m.c ⟨r.fl,r.ofs+(pg:Int) - r.fr⟩ f)):=hiA.cache hc hr ha.lt hu hno4
  have sA:=Stp.alloc n pg hi ha (B:=B)
  have sC:Stp n pg ((m.setP p1).setF (upd m.F f B)) (((m.setP p1).setF (upd m.F f B)).setC (putC m.c ⟨r.fl,r.ofs+(pg:Int) - r.fr⟩ f)):=Stp.cache n pg hiA hc hr hno4 (by
    show upd m.F f B f=last m.S m.L _
    rw[upd_same,hBe])
  have hcC:frameC (((m.setP p1).setF (upd m.F f B)).setC (putC m.c ⟨r.fl,r.ofs+(pg:Int) - r.fr⟩ f)).c ⟨r.fl,r.ofs+(pg:Int) - r.fr⟩=some (f:Int):=by
    show frameC (putC m.c _ _) _=_
    rw[frameC_put hc hno4,if_pos rfl]
  have hdC:SetDone (((m.setP p1).setF (upd m.F f B)).setC (putC m.c ⟨r.fl,r.ofs+(pg:Int) - r.fr⟩ f)) y pg ⟨1,(f:Int),false⟩ F' p' t':=⟨hd.e,hd.live,hd.step,hd.zone,hd.F,hd.ok⟩
  have hfil:∀ j,j < 64→((((m.setP p1).setF (upd m.F f B)).setC (putC m.c ⟨r.fl,r.ofs+(pg:Int) - r.fr⟩ f)).F f).getD j 0=fileM (((m.setP p1).setF (upd m.F f B)).setC (putC m.c ⟨r.fl,r.ofs+(pg:Int) - r.fr⟩ f)) (fileIx r pg) j:=by
    intro j hj
    unfold fileM
    rw[ek,hcC]
    simp only[Int.toNat_natCast]
  have g:=paged_in (m:=((m.setP p1).setF (upd m.F f B)).setC (putC m.c ⟨r.fl,r.ofs+(pg:Int) - r.fr⟩ f)) (y:=y) (r:=r) hiC hy hpg har hk hs hh he ha.lt hu hcC hfil hdC
  rw[putM_setC]
  have s:=sA.trans sC
  refine⟨g.inv,s.trans g.stp,g.ent,fun j hj=>?_,fun r' hr' hk'=>?_,?_⟩
  · rw[g.byt j hj]
    refine (file_page (m:=((m.setP p1).setF (upd m.F f B)).setC (putC m.c ⟨r.fl,r.ofs+(pg:Int) - r.fr⟩ f)) har hk he j).trans ?_
    rw[file_page har hk he]
    exact s.fil _ _
  · rw[g.stat r' hr' hk']
    exact⟨fun c=>absurd c (hasAnon_no he),fun c=>absurd c (hasAnon_no he)⟩
  · have c1:=Cost0.alloc (m:=m) (B:=B) ha
    have hpC:=putIs (n:=n) (y:=y) (pg:=pg) (x:=⟨1,(f:Int),false⟩) (F':=F') (p':=p') (t':=t') hiC hy (.inr (.inl ⟨f,rfl⟩))
    have hcs:=Cost0.put hpC hdC hiC hy
    have c2:Cost0 0 1 0 m (((m.setP p1).setF (upd m.F f B)).setC (putC m.c ⟨r.fl,r.ofs+(pg:Int) - r.fr⟩ f)):=⟨c1.c2,c1.c3,c1.tt,c1.fre⟩
    have hzf:p1.z.getD (f / 32) 0=3:=by rw[ha.z];exact ha.zone.1
    have hfree:freeC m.c ⟨r.fl,r.ofs+(pg:Int) - r.fr⟩ f=true:=freeC_of hc hno4
    have hmem:∀ e,e∈putC m.c ⟨r.fl,r.ofs+(pg:Int) - r.fr⟩ (f:Int)↔e∈m.c∨e=⟨⟨r.fl,r.ofs+(pg:Int) - r.fr⟩,(f:Int),false⟩:=by
      intro e
      unfold putC
      rw[if_pos hfree,List.mem_append,List.mem_singleton]
    have kR:KpR m (((m.setP p1).setF (upd m.F f B)).setC (putC m.c ⟨r.fl,r.ofs+(pg:Int) - r.fr⟩ f)):=by
      have k:=KpR.alloc ha (B:=B)
      refine⟨k.z,k.i,k.S,k.L,k.T,k.bad,fun z=>⟨(k.zo z).all,fun e he g eg=>?_⟩⟩
      rcases (hmem e).1 he with h1 | h1
      · exact (k.zo z).cac e h1 g eg
      · rw[h1] at eg
        have eg':(f:Int)=g:=eg
        obtain rfl:f=g:=by omega
        exact hzf
    refine⟨(c2.trans hcs.1).le (by omega) (by omega) (by omega),kR.trans (KpR.put hpC hdC hiC hy hpg fun _ g' e=>?_),fun g' hg l=>?_⟩
    · have:=en_inj e
      obtain rfl:f=g':=by omega
      exact hzf
    · have l2:=hpC.leak hdC hiC hy hg l
      have hne:g'≠f:=by
        intro e0
        rw[e0] at l2
        have hu4:(((m.setP p1).setF (upd m.F f B)).setC (putC m.c ⟨r.fl,r.ofs+(pg:Int) - r.fr⟩ f)).p.u.getD f 0=4:=hu
        rcases l2 with l2 | l2 | l2
        · omega
        · exact l2.2 _ ((hmem _).2 (.inr rfl)) rfl
        · omega
      have e:(((m.setP p1).setF (upd m.F f B)).setC (putC m.c ⟨r.fl,r.ofs+(pg:Int) - r.fr⟩ f)).p.u.getD g' 0=m.p.u.getD g' 0:=by
        show p1.u.getD g' 0=_
        rw[ha.u,if_neg hne]
      unfold Leak at l2
      rw[e] at l2
      exact l2.imp id fun l2=>l2.imp (fun l2=>⟨l2.1,fun e he=>l2.2 e ((hmem e).2 (.inl he))⟩) id
end
end Go.Proofs.YtaonpmclkafjdaaGreat
namespace Go.Proofs.YtaonpmclkafjdaaGreat
open Go.RowKit
set_option linter.unusedVariables false
section
variable {m m1 m2:SpM}{n pg:Nat}{A:Nat→Nat→Option Ar}
theorem Inv.ent_three (h:Inv A m)(n pg:Nat):entM m n pg=en0∨(∃ f:Nat,entM m n pg=⟨1,(f:Int),false⟩∧f < 1024∧∃ r,A n pg=some r∧((m.p.u.getD f 0=3∧r.kd≠2)∨(m.p.u.getD f 0=4∧r.kd≠1∧frameC m.c ⟨r.fl,r.ofs+(pg:Int) - r.fr⟩=some (f:Int))))∨∃ t:Nat,entM m n pg=⟨2,(t:Int),false⟩∧t < 32∧∃ r,A n pg=some r∧r.kd≠2:=by
  rcases h.good n pg with (c | c) | c
  · exact .inl c
  · exact .inr (.inl c)
  · exact .inr (.inr c)
theorem Stp.page (s:Stp n pg m m1)(hi:Inv A m){n' q:Nat}(hne:¬ (n'=n∧q=pg))(j:Nat):pageM m1 n' q j=pageM m n' q j:=by
  have e1:=s.ent n' q hne
  rcases hi.ent_three n' q with e | ⟨f,e,_⟩ | ⟨t,e,_⟩
  · rw[pageM_no e,pageM_no (e1.trans e),s.ar]
    cases arM m n' q with
    | none=>rfl
    | some r=>simp only[s.fil]
  · rw[pageM_in e,pageM_in (e1.trans e),(s.frm n' q f hne e).1]
  · rw[pageM_slot e,pageM_slot (e1.trans e),s.slt]
theorem Stp.anon (s:Stp n pg m m1)(hi:Inv A m){n' q:Nat}(hne:¬ (n'=n∧q=pg)):hasAnon m1 n' q↔hasAnon m n' q:=by
  have e1:=s.ent n' q hne
  rcases hi.ent_three n' q with e | ⟨f,e,_⟩ | ⟨t,e,_⟩
  · exact⟨fun c=>absurd c (hasAnon_no (e1.trans e)),fun c=>absurd c (hasAnon_no e)⟩
  · rw[hasAnon_in e,hasAnon_in (e1.trans e),(s.frm n' q f hne e).2.1]
  · exact⟨fun _=>hasAnon_slot e,fun _=>hasAnon_slot (e1.trans e)⟩
structure Stq (n pg:Nat)(m m1:SpM):Prop where
  xs:∀ n',(m1.x n').map (fun y=>(y.a,y.q))=(m.x n').map (fun y=>(y.a,y.q))
  ent:∀ n' q,¬ (n'=n∧q=pg)→(entM m n' q).k≠2→entM m1 n' q=entM m n' q
  frm:∀ n' q (f:Nat),¬ (n'=n∧q=pg)→entM m n' q=⟨1,(f:Int),false⟩→m1.F f=m.F f∧m1.p.u.getD f 0=m.p.u.getD f 0∧(m.p.u.getD f 0=3→∀ z∈m1.b (f:Int),z∈m.b (f:Int))
  fil:∀ i j,fileM m1 i j=fileM m i j
  slt:∀ t j,slotM m1 t j=slotM m t j
  pgs:∀ n' q j,¬ (n'=n∧q=pg)→j < 64→pageM m1 n' q j=pageM m n' q j
  ano:∀ n' q,¬ (n'=n∧q=pg)→(hasAnon m1 n' q↔hasAnon m n' q)
theorem Stp.q (s:Stp n pg m m1)(hi:Inv A m):Stq n pg m m1:=⟨s.xs,fun n' q c _=>s.ent n' q c,s.frm,s.fil,s.slt,fun n' q j c _=>s.page hi c j,fun n' q c=>s.anon hi c⟩
theorem Stq.trans (h:Stq n pg m m1)(g:Stq n pg m1 m2):Stq n pg m m2:=by
  refine⟨fun n'=>(g.xs n').trans (h.xs n'),fun n' q c e=>?_,fun n' q f c e=>?_,fun i j=>(g.fil i j).trans (h.fil i j),fun t j=>(g.slt t j).trans (h.slt t j),fun n' q j c hj=>(g.pgs n' q j c hj).trans (h.pgs n' q j c hj),fun n' q c=>(g.ano n' q c).trans (h.ano n' q c)⟩
  · have e1:=h.ent n' q c e
    rw[← e1] at e
    exact (g.ent n' q c e).trans e1
  · have e1:=h.ent n' q c (by rw[e];exact show ¬ (1:Int)=2 by decide)
    obtain⟨a1,a2,a3⟩:=h.frm n' q f c e
    obtain⟨b1,b2,b3⟩:=g.frm n' q f c (e1.trans e)
    exact⟨b1.trans a1,b2.trans a2,fun u z hz=>a3 u z (b3 (a2.trans u) z hz)⟩
theorem Stq.ar (h:Stq n pg m m1):arM m1=arM m:=arM_of h.xs
def SlD (m:SpM)(n pg sl:Nat)(l:List Pl)(i n' q:Nat):Prop:=(n'=n∧q=pg)∨(entM m n' q=⟨2,(sl:Int),false⟩∧∃ j,j < i∧l[j]?=some ⟨(n':Int),(q:Int)⟩)
noncomputable instance (m:SpM) (n pg sl:Nat) (l:List Pl) (i n' q:Nat):Decidable (SlD m n pg sl l i n' q):=Classical.propDecidable _
structure SlotJ (m:SpM)(n pg sl f:Nat)(l:List Pl)(i:Nat)(m1:SpM):Prop where
  inv:Inv (arM m) m1
  xs:∀ n',(m1.x n').map (fun y=>(y.a,y.q))=(m.x n').map (fun y=>(y.a,y.q))
  ent:∀ n' q:Nat,entM m1 n' q=if SlD m n pg sl l i n' q then ⟨1,(f:Int),false⟩ else entM m n' q
  frm:∀ n' q (g:Nat),entM m n' q=⟨1,(g:Int),false⟩→m1.F g=m.F g∧m1.p.u.getD g 0=m.p.u.getD g 0∧∀ z∈m1.b (g:Int),z∈m.b (g:Int)
  fil:∀ i j,fileM m1 i j=fileM m i j
  slt:∀ t j,slotM m1 t j=slotM m t j
  lt:f < 1024
  use:m1.p.u.getD f 0=3
  new:m.p.u.getD f 0=1
  byt:∀ j,j < 64→(m1.F f).getD j 0=slotM m sl j
  cost:Cost 0 1 0 m m1
  zon:m.p.z.getD (f / 32) 0=3
variable {y:SpX}{sl f:Nat}{l:List Pl}{p1 p':PS}{F':Nat→List Nat}{t':TS}{i:Nat}
theorem SlotJ.start (hi:Inv (arM m) m) (hy:m.x n=some y) (hpg:pg < 4096) (he:entM m n pg=⟨2,(sl:Int),false⟩) (ha:Alloc1 m.p 3 f p1)
    (hd:SetDone ((m.setP p1).setF (upd m.F f (last m.S m.L (160+sl)))) y pg ⟨1,(f:Int),false⟩ F' p' t') :
    SlotJ m n pg sl f l 0 (putM ((m.setP p1).setF (upd m.F f (last m.S m.L (160+sl)))) n y pg ⟨1,(f:Int),false⟩ 0 F' p' t')∧NewPg m n pg f (putM ((m.setP p1).setF (upd m.F f (last m.S m.L (160+sl)))) n y pg ⟨1,(f:Int),false⟩ 0 F' p' t'):=by
  rcases hi.ent_three n pg with e | ⟨g,e,_⟩ | ⟨t,e,ht,r,hr,hk⟩
  · rw[he] at e;exact absurd e (es_ne _)
  · rw[he] at e;exact absurd e (es_fr _ _)
  have g:=newPg hi hy hpg hr hk ha hd (fun j hj=>(pageM_slot he j).symm)
  refine⟨⟨?_,g.stp.xs,fun n' q=>?_,fun n' q g' e'=>?_,g.stp.fil,g.stp.slt,g.lt,g.use,ha.free,fun j hj=>?_,g.cost0 (by rw[he];exact es_ne _),ha.zone.1⟩,g⟩
  · rw[← g.stp.ar];exact g.inv
  · by_cases c:n'=n∧q=pg
    · rw[if_pos (.inl c),c.1,c.2]
      exact g.ent
    · rw[if_neg (by rintro (d | ⟨_,j,hj,_⟩);exact c d;exact absurd hj (Nat.not_lt_zero j))]
      exact g.stp.ent n' q c
  · have c:¬ (n'=n∧q=pg):=by
      rintro⟨rfl,rfl⟩
      rw[he] at e'
      exact es_fr _ _ e'
    obtain⟨a1,a2,a3⟩:=g.stp.frm n' q g' c e'
    refine⟨a1,a2,fun z hz=>?_⟩
    rcases hi.ent_three n' q with e2 | ⟨g2,e2,_,r2,_,d⟩ | ⟨t2,e2,_⟩
    · rw[e2] at e';exact absurd e'.symm (en_ne _)
    · rw[e2] at e'
      have:=en_inj e'
      obtain rfl:g2=g':=by omega
      rcases d with d | d
      · exact a3 d.1 z hz
      · -- a frame of a file: only the new frame has one more place
        have hp:=putIs (n:=n) (y:=y) (pg:=pg) (x:=⟨1,(f:Int),false⟩) (F':=F') (p':=p') (t':=t') (hi.alloc ha (B:=last m.S m.L (160+sl))) hy (.inr (.inl ⟨f,rfl⟩))
        rcases (hp.mem _ _).1 hz with ⟨_,_,c3⟩ | c3
        · have c4:(f:Int)=g2:=c3
          have:=ha.free
          have c5:f=g2:=by omega
          rw[c5] at this
          omega
        · exact c3.2
    · rw[e2] at e';exact absurd e' (es_fr _ _)
  · rw[← pageM_in g.ent j,g.byt j hj,pageM_slot he]
theorem SlotJ.step {n' q':Nat} {z:SpX} (hi:Inv (arM m) m) (h:SlotJ m n pg sl f l i m1) (hl:l[i]?=some ⟨(n':Int),(q':Int)⟩) (hsrt:SrtP l) (hz:m1.x n'=some z) (hq:q' < 4096) (he:entM m n' q'=⟨2,(sl:Int),false⟩) (hne:¬ (n'=n∧q'=pg))
    (hd:SetDone m1 z q' ⟨1,(f:Int),false⟩ F' p' t'):SlotJ m n pg sl f l (i+1) (putM m1 n' z q' ⟨1,(f:Int),false⟩ 0 F' p' t'):=by
  have hfree:∀ n2 q2,entM m n2 q2≠⟨1,(f:Int),false⟩:=hi.free_no (by rw[h.new];decide) (by rw[h.new];decide)
  have hold:entM m1 n' q'=⟨2,(sl:Int),false⟩:=by
    rw[h.ent,if_neg,he]
    rintro (d | ⟨_,j,hj,hlj⟩)
    · exact hne d
    · obtain⟨h1,e1⟩:=List.getElem?_eq_some_iff.1 hl
      obtain⟨h2,e2⟩:=List.getElem?_eq_some_iff.1 hlj
      have:=List.pairwise_iff_getElem.1 hsrt j i h2 h1 hj
      rw[e1,e2] at this
      exact ltP.irr _ this
  rcases hi.ent_three n' q' with e | ⟨g,e,_⟩ | ⟨t,e,ht,r,hr,hk⟩
  · rw[he] at e;exact absurd e (es_ne _)
  · rw[he] at e;exact absurd e (es_fr _ _)
  have hg:Good (arM m) m1 n' q' ⟨1,(f:Int),false⟩:=.inr ⟨f,rfl,h.lt,r,hr,.inl ⟨h.use,hk⟩⟩
  have hp:=putIs (n:=n') (y:=z) (pg:=q') (x:=⟨1,(f:Int),false⟩) (F':=F') (p':=p') (t':=t') h.inv hz (.inr (.inl ⟨f,rfl⟩))
  have hent:=hp.ent hd hz (h.inv.tok n' z hz).el hq
  have hkeep:∀ g:Nat,g < 1024→(m1.p.u.getD g 0=3∨m1.p.u.getD g 0=4)→(putM m1 n' z q' ⟨1,(f:Int),false⟩ 0 F' p' t').p.u.getD g 0=m1.p.u.getD g 0:=by
    intro g hg' hu
    rcases (hp.use hd h.inv hz hg' hu).2 with c | ⟨_,_,_,c⟩
    · exact c
    · rw[hold] at c;exact absurd c (es_fr _ _)
  refine⟨h.inv.put hz hq hd (.inl hg) hp,fun n2=>(hp.xs' hz n2).trans (h.xs n2),fun n2 q2=>?_,fun n2 q2 g e2=>?_,fun a b=>(hp.fil hd h.inv hz a b).trans (h.fil a b),fun a b=>?_,h.lt,(hkeep f h.lt (.inl h.use)).trans h.use,h.new,fun j hj=>?_,(h.cost.trans ((Cost.put hp hd h.inv hz hq fun _ g e=>(by
    have:=en_inj e
    obtain rfl:f=g:=by omega
    rw[h.cost.kp.z]
    exact h.zon)).2 (.inl (by rw[hold];exact es_ne _)))).le (by omega) (by omega) (by omega),h.zon⟩
  · rw[hent]
    by_cases c:n2=n'∧q2=q'
    · rw[if_pos c,if_pos]
      obtain⟨rfl,rfl⟩:=c
      exact .inr ⟨he,i,by omega,hl⟩
    · rw[if_neg c,h.ent]
      by_cases d:SlD m n pg sl l i n2 q2
      · rw[if_pos d,if_pos]
        exact d.imp id fun ⟨d1,j,d2,d3⟩=>⟨d1,j,by omega,d3⟩
      · rw[if_neg d,if_neg]
        rintro (d1 | ⟨d1,j,d2,d3⟩)
        · exact d (.inl d1)
        · by_cases c2:j=i
          · rw[c2,hl] at d3
            injection d3 with d3
            injection d3 with d4 d5
            exact c ⟨by omega,by omega⟩
          · exact d (.inr ⟨d1,j,by omega,d3⟩)
  · obtain⟨b1,b2,b3⟩:=h.frm n2 q2 g e2
    rcases hi.ent_three n2 q2 with e3 | ⟨g2,e3,hg2,r2,_,d⟩ | ⟨t2,e3,_⟩
    · rw[e3] at e2;exact absurd e2.symm (en_ne _)
    · rw[e3] at e2
      have:=en_inj e2
      obtain rfl:g2=g:=by omega
      have hu:m1.p.u.getD g2 0=3∨m1.p.u.getD g2 0=4:=by
        rw[b2]
        rcases d with d | d
        · exact .inl d.1
        · exact .inr d.1
      refine⟨(hp.byt hd h.inv hz hu).trans b1,(hkeep g2 hg2 hu).trans b2,fun z' hz'=>?_⟩
      rcases (hp.mem _ _).1 hz' with ⟨_,_,c3⟩ | c3
      · have c4:(f:Int)=g2:=c3
        have c5:f=g2:=by omega
        rw[← c5] at e3
        exact absurd e3 (hfree n2 q2)
      · exact b3 z' c3.2
    · rw[e3] at e2;exact absurd e2 (es_fr _ _)
  · refine Eq.trans ?_ (h.slt a b)
    unfold slotM
    rw[show (putM m1 n' z q' ⟨1,(f:Int),false⟩ 0 F' p' t').S=m1.S from hp.rest.S,show (putM m1 n' z q' ⟨1,(f:Int),false⟩ 0 F' p' t').L=m1.L from hp.rest.L]
  · rw[hp.byt hd h.inv hz (.inl h.use)]
    exact h.byt j hj
theorem SlotJ.skip {n' q':Nat}(h:SlotJ m n pg sl f l i m1)(hl:l[i]?=some ⟨(n':Int),(q':Int)⟩)(hn:m.x n'=none):SlotJ m n pg sl f l (i+1) m1:=by
  refine⟨h.inv,h.xs,fun n2 q2=>?_,h.frm,h.fil,h.slt,h.lt,h.use,h.new,h.byt,h.cost,h.zon⟩
  rw[h.ent]
  by_cases d:SlD m n pg sl l i n2 q2
  · rw[if_pos d,if_pos]
    exact d.imp id fun ⟨d1,j,d2,d3⟩=>⟨d1,j,by omega,d3⟩
  · rw[if_neg d,if_neg]
    rintro (d1 | ⟨d1,j,d2,d3⟩)
    · exact d (.inl d1)
    · by_cases c2:j=i
      · rw[c2,hl] at d3
        injection d3 with d3
        injection d3 with d4 d5
        have e:n2=n':=by omega
        rw[e,entM_none hn] at d1
        exact absurd d1.symm (es_ne _)
      · exact d (.inr ⟨d1,j,by omega,d3⟩)
theorem SlotJ.done (hi:Inv (arM m) m) (h:SlotJ m n pg sl f l l.length m1) (hpe:entM m n pg=⟨2,(sl:Int),false⟩) (hall:∀ n' q:Nat,entM m n' q=⟨2,(sl:Int),false⟩→¬ (n'=n∧q=pg)→∃ j,j < l.length∧l[j]?=some ⟨(n':Int),(q:Int)⟩) :
    Stq n pg m m1∧entM m1 n pg=⟨1,(f:Int),false⟩∧(∀ j,j < 64→pageM m1 n pg j=pageM m n pg j)∧∀ n' q,entM m1 n' q=if entM m n' q=⟨2,(sl:Int),false⟩ then ⟨1,(f:Int),false⟩ else entM m n' q:=by
  have hent:∀ n' q,¬ (n'=n∧q=pg)→entM m n' q≠⟨2,(sl:Int),false⟩→entM m1 n' q=entM m n' q:=by
    intro n' q c e
    rw[h.ent,if_neg]
    rintro (d | ⟨d,_⟩)
    · exact c d
    · exact e d
  have hsl:∀ n' q,entM m n' q=⟨2,(sl:Int),false⟩→entM m1 n' q=⟨1,(f:Int),false⟩:=by
    intro n' q e
    rw[h.ent,if_pos]
    by_cases c:n'=n∧q=pg
    · exact .inl c
    · exact .inr ⟨e,hall n' q e c⟩
  have har:arM m1=arM m:=arM_of h.xs
  refine⟨⟨h.xs,fun n' q c e=>hent n' q c (fun e2=>e (by rw[e2])),fun n' q g c e=>?_,h.fil,h.slt,fun n' q j c hj=>?_,fun n' q c=>?_⟩,hsl n pg hpe,fun j hj=>?_,fun n' q=>?_⟩
  rotate_right
  · by_cases c:entM m n' q=⟨2,(sl:Int),false⟩
    · rw[if_pos c];exact hsl n' q c
    · rw[if_neg c]
      refine hent n' q (fun d=>c ?_) c
      rw[d.1,d.2]
      exact hpe
  · obtain⟨b1,b2,b3⟩:=h.frm n' q g e
    exact⟨b1,b2,fun _=>b3⟩
  · by_cases e:entM m n' q=⟨2,(sl:Int),false⟩
    · rw[pageM_slot e,pageM_in (hsl n' q e)]
      exact h.byt j hj
    · have e1:=hent n' q c e
      rcases hi.ent_three n' q with e2 | ⟨g,e2,_⟩ | ⟨t,e2,_⟩
      · rw[pageM_no e2,pageM_no (e1.trans e2),har]
        cases arM m n' q with
        | none=>rfl
        | some r=>simp only[h.fil]
      · rw[pageM_in e2,pageM_in (e1.trans e2),(h.frm n' q g e2).1]
      · rw[pageM_slot e2,pageM_slot (e1.trans e2),h.slt]
  · by_cases e:entM m n' q=⟨2,(sl:Int),false⟩
    · exact⟨fun _=>hasAnon_slot e,fun _=>(hasAnon_in (hsl n' q e)).2 h.use⟩
    · have e1:=hent n' q c e
      rcases hi.ent_three n' q with e2 | ⟨g,e2,_⟩ | ⟨t,e2,_⟩
      · exact⟨fun d=>absurd d (hasAnon_no (e1.trans e2)),fun d=>absurd d (hasAnon_no e2)⟩
      · rw[hasAnon_in e2,hasAnon_in (e1.trans e2),(h.frm n' q g e2).2.1]
      · exact⟨fun _=>hasAnon_slot e2,fun _=>hasAnon_slot (e1.trans e2)⟩
  · rw[pageM_slot hpe,pageM_in (hsl n pg hpe)]
    exact h.byt j hj
end
end Go.Proofs.YtaonpmclkafjdaaGreat
namespace Go.Proofs.YtaonpmclkafjdaaGreat
open Go.RowKit
set_option linter.unusedVariables false
theorem enters_slot:∀ args w,(callFunc 207 args).run Tryz.prog w=.ok (.enter 207 args) w:=enters_of Tryz.func207 (by kernel_rfl) rfl
section
variable (gS:Nat)(a:SpA)(k:SpK)(K:Nat→Prop)(m:SpM)(w:World)
theorem read_slot (sl g1 g2:Nat) (ty ty2:TypeId) (h:SpMem w gS a k K m) (hs:sl < 32) (hD:m.T=Tr.none_) (b1:Blk w g1 ty #[.pointer (some ⟨gS,0,none⟩)]) (b2:Blk w g2 ty2 #[.int .i64 (sl:Int)]) (n1:¬ K g1) (n2:¬ K g2) :
    Calls Tryz.prog 207 #[.pointer (some ⟨g1,0,none⟩),.pointer (some ⟨g2,0,none⟩)] w fun e w'=>∃ v,e=.returned (.tuple #[v,.int .i64 0])∧Bts w' w'.heap.size v (last m.S m.L (160+sl))∧NewV w v∧SpGo w gS a k K m w':=by
  have c0:w.cell? ⟨gS,1,none⟩=some (.pointer (some ⟨a.D,0,none⟩)):=h.cells.cell 1
  have c1:w.cell? ⟨g1,0,none⟩=some (.pointer (some ⟨gS,0,none⟩)):=b1.cell 0
  have c2:w.cell? ⟨g2,0,none⟩=some (.int .i64 (sl:Int)):=b2.cell 0
  obtain⟨hd,hl⟩:=h.drew.diskP
  have ht:m.T.ans=0:=by rw[hD];exact none_ans
  have hnx:m.T.next=m.T:=by rw[hD];exact none_next
  have hLL:=hd.last_ (f:=160+sl) (by omega)
  have HR:=Lib.hid (show Calls Tryz.prog 208 #[.pointer (some ⟨a.D,0,none⟩),.int .i64 (sl:Int)] w.drew fun e w'=>∃ g,e=.returned (.tuple #[.slice (some ⟨g,0,none⟩) 64 64,.int .i64 0]) ∧
      (w'.cell? ⟨gS,1,none⟩=some (.pointer (some ⟨a.D,0,none⟩))∧w'.cell? ⟨g1,0,none⟩=some (.pointer (some ⟨gS,0,none⟩))∧w'.cell? ⟨g2,0,none⟩=some (.int .i64 (sl:Int))) ∧
      w.heap.size≤g∧Bts w' w'.heap.size (.slice (some ⟨g,0,none⟩) 64 64) (last m.S m.L (160+sl))∧SpGo w gS a k K m w' from
    (fslot_yes a.D a.D1 a.D2 192 m.S m.L m.T w.drew (sl:Int) (160+sl) hd (by unfold SlotAt;omega) (by omega) ht).mono (by
      rintro e w2 ⟨g,rfl,hg,hb,hd2,ht2⟩
      have R:=(hl m.L m.T w2 (by rw[← hnx];exact hd2) ht2).from_ ((Went.refl w K).drew)
      obtain⟨K2,h2,g2'⟩:=id R
      have q1:=g2'.tr.blk b1 n1
      have q2:=g2'.tr.blk b2 n2
      exact⟨g,rfl,⟨h2.cells.cell 1,q1.cell 0,q2.cell 0⟩,hg,Bts.of_whole hb hLL.1 (by simp[maxLen]) hLL.2,R⟩))
  clear h hd hl ht hnx hD b1 b2 n1 n2 hLL
  go_enter Tryz.func207,Tryz.ntmps207
  go_wp2_with fail
  go_region_held3 (fun w'=>w'.cell? ⟨gS,1,none⟩=some (.pointer (some ⟨a.D,0,none⟩))∧w'.cell? ⟨g1,0,none⟩=some (.pointer (some ⟨gS,0,none⟩))∧w'.cell? ⟨g2,0,none⟩=some (.int .i64 (sl:Int)))
    (first | assumption | exact⟨c0,c1,c2⟩)
    ((go_at_call 208;refine HR.out.mono ?_;rintro e w' ⟨g,rfl,hS,hg,hb,hR⟩))
  have HB:=Lib.hid hb
  have HG:=Lib.hid hg
  have R:=Lib.hid hR
  clear hb hg hR hS
  go_wp2_with fail
  go_ret2
  exact⟨_,rfl,HB.out,fun a n c e _=>by injection e with e _ _;injection e with e;rw[← e];exact HG.out,R.out⟩
set_option maxRecDepth 100000 in
set_option maxHeartbeats 1000000 in
end
end Go.Proofs.YtaonpmclkafjdaaGreat
namespace Go.Proofs.YtaonpmclkafjdaaGreat
open Go.RowKit
set_option linter.unusedVariables false
def NoX (m:SpM)(z:Int):Prop:=z < 0∨∀ n:Nat,z=(n:Int)→m.x n=none
section
variable (gS:Nat)(a:SpA)(k:SpK)(K:Nat→Prop)(m:SpM)(w:World)
theorem SpMem.look_no {z:Int}(h:SpMem w gS a k K m)(wz:W64 z)(hz:NoX m z):(Instr.lookup 42 (.map k.M) (.int .i64 z) false).run Tryz.prog w=.ok (.pointer none) w:=by
  have:=h.look z wz
  rw[ptrL_none hz] at this
  exact this
set_option maxRecDepth 100000 in
set_option maxHeartbeats 1000000 in
theorem spput_none (z q kd nn:Int) (b:Bool) (h:SpMem w gS a k K m) (wz:W64 z) (hz:NoX m z) :
    Calls Tryz.prog 104 #[.pointer (some ⟨gS,0,none⟩),.agg #[.int .i64 z,.int .i64 q],.agg #[.int .i64 kd,.int .i64 nn,.bool b]] w (SpEnd w gS a k K (.int .i64 2) m):=by
  have hbx:=boxes w ⟨z,q⟩ kd nn b
  simp only at hbx
  obtain⟨W,hW⟩:∃ W,(w.alloc (.cells #[.int .i64 z,.int .i64 q] 60)).alloc (.cells #[.int .i64 kd,.int .i64 nn,.bool b] 29)=W:=⟨_,rfl⟩
  rw[hW] at hbx
  have h1:=h.fresh hbx.bel
  have HA:=Lib.hid (fun q=>(show Calls Tryz.prog 43 #[.pointer (some ⟨gS,0,none⟩)] (W.drewN q) fun e w'=>e=.returned (.map k.M)∧∃ q',w'=W.drewN q' from (all_sp gS (W.drewN q) k.M (h1.cells.cell 6)).mono (by rintro e w' ⟨rfl,rfl⟩;exact⟨rfl,q,rfl⟩)))
  have LQ:∀ q,(Instr.lookup 42 (.map k.M) (.int .i64 z) false).run Tryz.prog (W.drewN q)=.ok (.pointer none) (W.drewN q):=fun q=>SpMem.look_no gS a k K m (W.drewN q) (h1.far (w':=W.drewN q) (Nat.le_refl _) fun _ _=>rfl) wz hz
  have p0:W.cell? ⟨w.heap.size,0,none⟩=some (.int .i64 z):=hbx.pl.cell 0
  have R:=Lib.hid (show ∀ q,SpGo w gS a k K m (W.drewN q) from fun q=>⟨K,h.fresh (below_drewN hbx.bel q),Went.of_below (below_drewN hbx.bel q)⟩)
  clear h hbx h1 wz hz
  go_enter Tryz.func104,Tryz.ntmps104
  go_wp2_with fail
  go_quiet (first | (go_at_call 43;exact HA.out _))
  go_wp2_with fail
  go_ret
  exact⟨rfl,R.out _⟩
end
end Go.Proofs.YtaonpmclkafjdaaGreat
namespace Go.Proofs.YtaonpmclkafjdaaGreat
open Go.RowKit
set_option linter.unusedVariables false
section
variable (gS:Nat)(a:SpA)(k:SpK)(K:Nat→Prop)(m:SpM)(w:World)
end
end Go.Proofs.YtaonpmclkafjdaaGreat
namespace Go.Proofs.YtaonpmclkafjdaaGreat
open Go.RowKit
set_option linter.unusedVariables false
def IsBlk (v:Value)(j:Nat):Prop:=∃ a n c,v=.slice (some a) n c∧a.block=j
theorem PartOk.setV {w:World}{gS:Nat}{a:SpA}{k:SpK}{m:SpM}{Ki:Nat→Prop}{i:Prt}{n:Nat}{v:Value}(h:PartOk w gS a k m Ki i)(hi:i≠.ar n):PartOk w gS a (k.setV n v) m Ki i:=by
  cases i with
  | ar n' =>
    intro y hy
    have e:upd k.v n v n'=k.v n':=upd_other _ _ _ fun e=>hi (by rw[e])
    obtain⟨h1,h2,h3,h4⟩:=h y hy
    refine⟨?_,h2,?_,?_⟩
    · show Blk w (k.X n') _ #[_,upd k.v n v n',_]
      rw[e];exact h1
    · show Ars w w.heap.size (upd k.v n v n') y.a
      rw[e];exact h3
    · show InK Ki (upd k.v n v n')
      rw[e];exact h4
  | _=>exact h
section
variable {w w0:World}{gS:Nat}{a:SpA}{k:SpK}{K K0:Nat→Prop}{m:SpM}{n:Nat}{y:SpX}
theorem SpMem.areaP (h:SpMem w gS a k K m) (hy:m.x n=some y) {v:Value} {l:List Ar} (hA:Ars w w.heap.size v l) (hoff:∀ j,IsBlk v j→¬ K j∧w0.heap.size≤j∧j < w.heap.size) (g:Went w0 K0 w K) :
    SpGo w0 gS a (k.setV n v) K0 (m.setX n (some ⟨y.t,l,y.q⟩)) (w.setCell ⟨k.X n,1,none⟩ v):=by
  obtain⟨κ,rfl,h⟩:=h
  obtain⟨b1,b2,b3,b4⟩:=h.ok (.ar n) y hy
  have ho:Only (k.X n) w (w.setCell ⟨k.X n,1,none⟩ v):=(Only.refl _ _).setCell 1 v
  have hne:∀ i j,κ i j→i≠.ar n→j≠k.X n:=fun i j hj hi e=>hi (h.dis i (.ar n) j hj (e ▸ b2))
  have hsz:(w.setCell ⟨k.X n,1,none⟩ v).heap.size=w.heap.size:=ho.2
  have hin:SpIn (w.setCell ⟨k.X n,1,none⟩ v) gS a (k.setV n v) (updI κ (fun i=>i=.ar n) fun _ j=>κ (.ar n) j∨IsBlk v j) (m.setX n (some ⟨y.t,l,y.q⟩)):=by
    refine⟨fun i j hj=>?_,fun i i' j h1 h2=>?_,x8_upd h.x8 hy,fun i=>?_⟩
    · rw[hsz]
      rcases hj with ⟨_,hj | hj⟩ | ⟨_,hj⟩
      · exact h.lt _ j hj
      · exact (hoff j hj).2.2
      · exact h.lt _ j hj
    · rcases h1 with ⟨rfl,h1 | h1⟩ | ⟨c1,h1⟩ <;> rcases h2 with ⟨rfl,h2 | h2⟩ | ⟨c2,h2⟩
      · rfl
      · rfl
      · exact h.dis _ _ j h1 h2
      · rfl
      · rfl
      · exact absurd ⟨_,h2⟩ (hoff j h1).1
      · exact h.dis _ _ j h1 h2
      · exact absurd ⟨_,h1⟩ (hoff j h2).1
      · exact h.dis _ _ j h1 h2
    · by_cases c:i=.ar n
      · subst c
        rw[updI_in (I:=fun i=>i=.ar n) rfl]
        intro z hz
        have:upd m.x n (some ⟨y.t,l,y.q⟩) n=some z:=hz
        rw[upd_same] at this
        obtain rfl:=Option.some.inj this
        have ev:(k.setV n v).v n=v:=upd_same _ _ _
        refine⟨?_,.inl b2,?_,?_⟩
        · rw[ev];exact b1.set_ 1 v
        · rw[ev,hsz]
          exact hA.kept (Ki:=IsBlk v) (fun a n' c' e=>⟨a,n',c',e,rfl⟩) fun j hj=>ho.1.block j (hoff j hj).2.2 fun e=>(hoff j hj).1 (by injection e with e;exact e ▸ ⟨_,b2⟩)
        · rw[ev]
          exact fun a n' c' e=>.inr ⟨a,n',c',e,rfl⟩
      · rw[updI_out (I:=fun i=>i=.ar n) c]
        have h1:PartOk (w.setCell ⟨k.X n,1,none⟩ v) gS a k m (κ i) i:=(h.ok i).far (Nat.le_of_eq hsz.symm) fun j hj=>ho.1.block j (h.lt i j hj) fun e=>hne i j hj c (by injection e)
        exact (h1.other (m':=m.setX n (some ⟨y.t,l,y.q⟩)) (y':=⟨y.t,l,y.q⟩) hy rfl rfl rfl rfl rfl rfl rfl rfl rfl rfl (fun _=>rfl) (fun _=>rfl) (fun e=>absurd e c)).setV c
  refine⟨_,⟨_,rfl,hin⟩,fun j hj=>?_,(g.trans ⟨fun j hj=>.inl hj,Turns.of_only ho ⟨_,b2⟩⟩).tr⟩
  obtain⟨i,⟨_,hj | hj⟩ | ⟨_,hj⟩⟩:=hj
  · exact g.nk j ⟨_,hj⟩
  · exact .inr (hoff j hj).2.1
  · exact g.nk j ⟨_,hj⟩
end
section
variable (gS:Nat)(a:SpA)(k:SpK)(K:Nat→Prop)(m:SpM)(w:World)
def NewArs (w:World)(gS:Nat)(a:SpA)(k:SpK)(K:Nat→Prop)(n:Nat)(er:Int)(l:List Ar)(m':SpM)(y':SpX)(e:Ending)(w':World):Prop :=
  ∃ (A:Option Addr) (i c:Nat) (K':Nat→Prop),e=.returned (.tuple #[.slice A i c,.int .i64 er])∧SpMem w' gS a k K' m'∧m'.x n=some y'∧Went w K w' K'∧Ars w' w'.heap.size (.slice A i c) l∧∀ j,IsBlk (.slice A i c) j→¬ K' j∧w.heap.size≤j∧j < w'.heap.size
set_option maxRecDepth 100000 in
set_option maxHeartbeats 2000000 in
theorem change_go (g:Nat) (pre post:Array Value) (eg:∀ args w,(callFunc g args).run Tryz.prog w=.ok (.enter g args) w) (n:Nat) (y y':SpX) (er:Int) (l:List Ar) (m':SpM) (h:SpMem w gS a k K m) (hy:m.x n=some y)
    (hcl:Calls Tryz.prog g (pre.push (.pointer (some ⟨k.X n,0,none⟩)) ++ post) w (NewArs w gS a k K n er l m' y')) :
    Calls Tryz.prog 90 #[.pointer (some ⟨gS,0,none⟩),.int .i64 (n:Int),.func (.func g) pre post] w fun e w'=>∃ k',SpEnd w gS a k' K (.int .i64 er) (if er=0 then m'.setX n (some ⟨y'.t,l,y'.q⟩) else m') e w':=by
  have LQ:=(SpMem.look_ gS a k K m w h hy).look
  have HA:=Lib.hid (all_sp gS w k.M (h.cells.cell 6))
  have HC:=Lib.hid hcl
  obtain⟨M,hM⟩:∃ M,M=if er=0 then m'.setX n (some ⟨y'.t,l,y'.q⟩) else m':=⟨_,rfl⟩
  rw[← hM]
  have HM:=Lib.hid hM
  clear h hy hcl hM
  go_enter Tryz.func90,Tryz.ntmps90
  go_wp2_with fail
  refine HA.out.mono ?_
  rintro e w' ⟨rfl,hw⟩
  subst w'
  go_wp2_with fail
  refine HC.out.mono ?_
  rintro e w2 ⟨A,i,c,K2,rfl,h2,hy2,g2,hA2,ho2⟩
  by_cases he:er=0
  · subst he
    have HM2:=Lib.hid (HM.out.trans (if_pos rfl))
    clear HM
    have hp:=(h2.proc hy2).1
    have c1:w2.cell? ⟨k.X n,1,none⟩=some (k.v n):=hp.cell 1
    have f1:w2.frozen? ⟨k.X n,1,none⟩=false:=hp.frozen 1
    have R:=Lib.hid (h2.areaP hy2 hA2 ho2 g2)
    clear h2 hy2 g2 hA2 ho2 hp
    go_wp2_with fail
    go_ret
    rw[HM2.out]
    exact⟨_,rfl,R.out⟩
  · have HM2:=Lib.hid (HM.out.trans (if_neg he))
    clear HM
    have t1:(er == 0)=false:=beq_eq_false_iff_ne.2 he
    have R:=Lib.hid (show SpGo w gS a k K m' w2 from ⟨K2,h2,g2⟩)
    clear h2 hy2 g2 hA2 ho2
    go_wp2_with fail
    go_ret
    rw[HM2.out]
    exact⟨k,rfl,R.out⟩
end
end Go.Proofs.YtaonpmclkafjdaaGreat
namespace Go.Proofs.YtaonpmclkafjdaaGreat
open Go.RowKit
set_option linter.unusedVariables false
theorem pls_went {w w':World}{K K':Nat→Prop}{v:Value}{l:List Pl}(h:Pls w w.heap.size v l)(ho:∀ j,0 < l.length→IsBlk v j→¬ K j∧j < w.heap.size)(g:Went w K w' K'):Pls w' w'.heap.size v l∧∀ j,0 < l.length→IsBlk v j→¬ K' j∧j < w'.heap.size:=by
  constructor
  · obtain⟨A,n,c,h1,h2,h3,h4,h5,h7⟩:=h
    refine⟨A,n,c,h1,h2,h3,h4,h5,fun h0=>?_⟩
    obtain⟨b,o,e,hb,hc⟩:=h7 h0
    have hk:=g.tr.block b hb (ho b (by omega) ⟨_,n,c,by rw[h1,e],rfl⟩).1
    exact⟨b,o,e,Nat.lt_of_lt_of_le hb g.tr.size,fun j hj=>⟨(heap_cell hk).trans (hc j hj).1,(heap_cell hk).trans (hc j hj).2⟩⟩
  · intro j h0 hj
    refine⟨fun hk=>?_,Nat.lt_of_lt_of_le (ho j h0 hj).2 g.tr.size⟩
    rcases g.nk j hk with c | c
    · exact (ho j h0 hj).1 c
    · have:=(ho j h0 hj).2;omega
section
variable (gS:Nat)(a:SpA)(k:SpK)(K:Nat→Prop)(m:SpM)(w:World)
def SlAt (w:World)(gS:Nat)(a:SpA)(k:SpK)(K:Nat→Prop)(J:Nat→SpM→Prop)(l:List Pl)(row:Value)(gs:Nat)(i:Nat)(wr:World):Prop :=
  ∃ m' K',J i m'∧SpMem wr gS a k K' m'∧Went w K wr K'∧Pls wr wr.heap.size row l∧(∀ j,0 < l.length→IsBlk row j→¬ K' j∧j < wr.heap.size)∧(Blk wr gs 24 #[.pointer (some ⟨gS,0,none⟩)]∧¬ K' gs)
set_option maxRecDepth 100000 in
set_option maxHeartbeats 8000000 in
theorem fromSlot_go (J:Nat→Nat→SpM→Prop) (n:Nat) (y:SpX) (pg sl:Nat) (l:List Pl) (h:SpMem w gS a k K m) (hy:m.x n=some y) (hpg:pg < 4096) (hT:Tabs m) (hF:Few m) (h3:3≤cntF m.p 2) (h1f:0 < cntF m.p 3) (hsl:sl < 32) (hD:m.T=Tr.none_)
    (hJ0:∀ (f:Nat) (p1:PS) (F':Nat→List Nat) (p':PS) (t':TS),Alloc1 m.p 3 f p1→SetDone ((m.setP p1).setF (upd m.F f (last m.S m.L (160+sl)))) y pg ⟨1,f,false⟩ F' p' t'→J f 0 (putM ((m.setP p1).setF (upd m.F f (last m.S m.L (160+sl)))) n y pg ⟨1,f,false⟩ 0 F' p' t')∧(putM ((m.setP p1).setF (upd m.F f (last m.S m.L (160+sl)))) n y pg ⟨1,f,false⟩ 0 F' p' t').s sl=l) (hlen:l.length≤100000)
    (hstep:∀ (f i:Nat) (qc qg:Int) (m':SpM) (V:World) (K':Nat→Prop),l[i]?=some ⟨qc,qg⟩→J f i m'→SpMem V gS a k K' m'→Calls Tryz.prog 104 #[.pointer (some ⟨gS,0,none⟩),.agg #[.int .i64 qc,.int .i64 qg],.agg #[.int .i64 1,.int .i64 (f:Int),.bool false]] V fun e w'=>∃ (er:Int) (m'':SpM),J f (i+1) m''∧SpEnd V gS a k K' (.int .i64 er) m'' e w') :
    Calls Tryz.prog 181 #[.pointer (some ⟨gS,0,none⟩),.agg #[.int .i64 (n:Int),.int .i64 (pg:Int)],.int .i64 (sl:Int)] w fun e w' =>
      ∃ f m',J f l.length m'∧SpEnd w gS a k K (.tuple #[.int .i64 (f:Int),.int .i64 0]) m' e w':=by
  have hbx:=boxes3 w (.cells #[.pointer (some ⟨gS,0,none⟩)] 24) ⟨n,pg⟩ #[.int .i64 (sl:Int)] 3
  obtain⟨W,hW⟩:∃ W,((w.alloc (.cells #[.pointer (some ⟨gS,0,none⟩)] 24)).alloc (.cells #[.int .i64 (n:Int),.int .i64 (pg:Int)] 60)).alloc (.cells #[.int .i64 (sl:Int)] 3)=W:=⟨_,rfl⟩
  have b0:Blk W w.heap.size 24 #[.pointer (some ⟨gS,0,none⟩)]:=by rw[← hW];exact ((Blk.new w _ _).al _).al _
  rw[show (⟨(n:Int),(pg:Int)⟩:Pl).c=(n:Int) from rfl,show (⟨(n:Int),(pg:Int)⟩:Pl).g=(pg:Int) from rfl,hW] at hbx
  obtain⟨hb,b1,b2⟩:=hbx
  have hWs:W.heap.size=w.heap.size+3:=by rw[← hW];simp
  have h1:=h.fresh hb
  have hK:=h.lt
  have hKn:∀ j,w.heap.size≤j→¬ K j:=fun j hj hk=>by have:=hK j hk;omega
  obtain⟨V,hV⟩:∃ V,(W.drew.alloc (.cells #[.pointer (some ⟨gS,0,none⟩)] 24)).alloc (.cells #[.func (.func 207) #[] #[.pointer (some ⟨w.heap.size,0,none⟩),.pointer (some ⟨w.heap.size+2,0,none⟩)]] 288)=V:=⟨_,rfl⟩
  have hbV:Below W.heap.size W V:=by rw[← hV];exact belAl (belAl ((Below.refl _ W).drew) _) _
  have v0:Blk V W.heap.size 24 #[.pointer (some ⟨gS,0,none⟩)]:=by rw[← hV];exact (Blk.new W.drew _ _).al _
  have v1:Blk V (W.heap.size+1) 288 #[.func (.func 207) #[] #[.pointer (some ⟨w.heap.size,0,none⟩),.pointer (some ⟨w.heap.size+2,0,none⟩)]]:=by rw[← hV];exact Blk.new1 W.drew _ _ _
  have e0V:=b0.below hbV b0.lt
  have e1V:=b1.below hbV b1.lt
  have e2V:=b2.below hbV b2.lt
  have BRG:=bring_ok gS a k K m V 240 #[] #[.pointer (some ⟨W.heap.size+1,0,none⟩),.pointer (some ⟨W.heap.size,0,none⟩)] enters_filled n y pg 3 (last m.S m.L (160+sl)) (by omega) (h1.fresh hbV) hy hpg hT hF h3 h1f (by
    intro f p1 w1 K1 hal hw1 hm1
    have nk1:∀ j,w.heap.size≤j→j < V.heap.size→¬ K1 j:=fun j hj hj2 hk=>by
      rcases hw1.nk j hk with c | c
      · exact hKn j hj c
      · omega
    have o0:=hw1.tr.blk v0 (hKn _ (by omega))
    have o1:=hw1.tr.blk v1 (hKn _ (by omega))
    have o2:=hw1.tr.blk e0V (hKn _ (Nat.le_refl _))
    have o3:=hw1.tr.blk e2V (hKn _ (by omega))
    have hll:=hm1.diskP.1.last_ (f:=160+sl) (by omega)
    refine fill_read gS a k K1 m w1 3 f 207 (W.heap.size+1) W.heap.size 288 24 #[.pointer (some ⟨w.heap.size,0,none⟩),.pointer (some ⟨w.heap.size+2,0,none⟩)] enters_slot _ hll.1 p1 hm1 hT hal o1 o0 (nk1 _ (by omega) v0.lt) ?_
    exact read_slot gS a k K1 (m.setP p1) w1 sl w.heap.size (w.heap.size+2) 24 3 hm1 hsl hD o2 o3 (nk1 _ (Nat.le_refl _) e0V.lt) (nk1 _ (by omega) e2V.lt))
  have q0:W.cell? ⟨w.heap.size,0,none⟩=some (.pointer (some ⟨gS,0,none⟩)):=b0.cell 0
  have r0:W.cell? ⟨w.heap.size+1,0,none⟩=some (.int .i64 (n:Int)):=b1.cell 0
  have r1:W.cell? ⟨w.heap.size+1,1,none⟩=some (.int .i64 (pg:Int)):=b1.cell 1
  have S0:=Lib.hid (show W.drew.cell? ⟨w.heap.size,0,none⟩=some (.pointer (some ⟨gS,0,none⟩))∧W.drew.cell? ⟨w.heap.size+1,0,none⟩=some (.int .i64 (n:Int))∧W.drew.cell? ⟨w.heap.size+1,1,none⟩=some (.int .i64 (pg:Int)) from ⟨q0,r0,r1⟩)
  have SV:=Lib.hid (show V.cell? ⟨w.heap.size,0,none⟩=some (.pointer (some ⟨gS,0,none⟩))∧V.cell? ⟨w.heap.size+1,0,none⟩=some (.int .i64 (n:Int))∧V.cell? ⟨w.heap.size+1,1,none⟩=some (.int .i64 (pg:Int)) from ⟨e0V.cell 0,e1V.cell 0,e1V.cell 1⟩)
  have HFL:=Lib.hid ((filled_any gS 207 #[.pointer (some ⟨w.heap.size,0,none⟩),.pointer (some ⟨w.heap.size+2,0,none⟩)] W.drew).mono (fun e w2 h=>(⟨h.1,h.2.trans hV⟩:_∧w2=V)))
  have GV:=(Went.of_below (K:=K) hb).below hbV
  have BRG2:=Lib.hid (BRG.mono (fun e w3 h=>(by
    obtain⟨f,p1,F',p',t',h1,h2,rfl,K3,h4,g4⟩:=h
    obtain⟨j1,j2⟩:=hJ0 f p1 F' p' t' h1 h2
    have gg:=GV.trans g4
    refine⟨f,_,K3,rfl,⟨(g4.tr.blk e0V (hKn _ (Nat.le_refl _))).cell 0,(g4.tr.blk e1V (hKn _ (by omega))).cell 0,(g4.tr.blk e1V (hKn _ (by omega))).cell 1⟩,j1,j2,h4,gg,g4.tr.blk e2V (hKn _ (by omega)),g4.tr.blk e0V (hKn _ (Nat.le_refl _)),fun hk=>?_,fun hk=>?_⟩
    · rcases g4.nk _ hk with c | c
      · exact hKn _ (by omega) c
      · have:=e2V.lt;omega
    · rcases g4.nk _ hk with c | c
      · exact hKn _ (Nat.le_refl _) c
      · have:=e0V.lt;omega :
    ∃ (f:Nat) (m3:SpM) (K3:Nat→Prop),e=.returned (.tuple #[.int .i64 (f:Int),.int .i64 0])∧(w3.cell? ⟨w.heap.size,0,none⟩=some (.pointer (some ⟨gS,0,none⟩))∧w3.cell? ⟨w.heap.size+1,0,none⟩=some (.int .i64 (n:Int))∧w3.cell? ⟨w.heap.size+1,1,none⟩=some (.int .i64 (pg:Int))) ∧
      J f 0 m3∧m3.s sl=l∧SpMem w3 gS a k K3 m3∧Went w K w3 K3∧Blk w3 (w.heap.size+2) 3 #[.int .i64 (sl:Int)]∧Blk w3 w.heap.size 24 #[.pointer (some ⟨gS,0,none⟩)]∧¬ K3 (w.heap.size+2)∧¬ K3 w.heap.size)))
  obtain⟨N,hN⟩:∃ N,N=l.length:=⟨_,rfl⟩
  have HN:=Lib.hid (And.intro hN (show N≤100000 from by omega))
  have HST:=Lib.hid hstep
  have HSL:=Lib.hid hsl
  clear BRG hb b0 b1 b2 h1 hK hKn hbV v0 v1 e0V e1V e2V h hy hpg hT hF h3 h1f hD hJ0 hlen hstep hN hWs GV hsl
  go_enter Tryz.func181,Tryz.ntmps181
  go_wp2_with fail
  go_region_held3 (fun w'=>w'.cell? ⟨w.heap.size,0,none⟩=some (.pointer (some ⟨gS,0,none⟩))∧w'.cell? ⟨w.heap.size+1,0,none⟩=some (.int .i64 (n:Int))∧w'.cell? ⟨w.heap.size+1,1,none⟩=some (.int .i64 (pg:Int)))
    (first | assumption | exact S0.out | exact SV.out)
    (first | (go_at_call 206;refine HFL.out.mono ?_;rintro e w2 ⟨rfl,hw2⟩;subst w2) | (go_at_call 182;refine BRG2.out.mono ?_;rintro e w3 ⟨f,m3,K3,rfl,hS3,hj3,hs3,h3,g3,bk3,b03,nk2,nk0⟩))
  have z0:w3.cell? ⟨w.heap.size,0,none⟩=some (.pointer (some ⟨gS,0,none⟩)):=b03.cell 0
  have z5:w3.cell? ⟨gS,5,none⟩=some (.pointer (some ⟨a.S,0,none⟩)):=h3.cells.cell 5
  have y0:w3.cell? ⟨w.heap.size+2,0,none⟩=some (.int .i64 (sl:Int)):=bk3.cell 0
  have l0:=b03.lt
  have l5:=h3.cells.lt
  have l2:=bk3.lt
  have KEEP:=Lib.hid (fun (V:World) (hV:Below w3.heap.size w3 V)=>(⟨(hV.cell (p:=⟨w.heap.size,0,none⟩) l0).trans z0,(hV.cell (p:=⟨gS,5,none⟩) l5).trans z5,(hV.cell (p:=⟨w.heap.size+2,0,none⟩) l2).trans y0⟩:V.cell? ⟨w.heap.size,0,none⟩=some (.pointer (some ⟨gS,0,none⟩))∧V.cell? ⟨gS,5,none⟩=some (.pointer (some ⟨a.S,0,none⟩))∧V.cell? ⟨w.heap.size+2,0,none⟩=some (.int .i64 (sl:Int))))
  have BR:=Lib.hid (Below.refl w3.heap.size w3)
  obtain⟨KS,hSw,-,-⟩:=h3.drew.swapP
  have OF:=Lib.hid (show Calls Tryz.prog 120 #[.pointer (some ⟨a.S,0,none⟩),.int .i64 (sl:Int)] w3.drew fun e w'=>∃ (A:Option Addr) (c:Nat),e=.returned (.slice A N c)∧Below w3.heap.size w3 w'∧SlAt w gS a k K (J f) l (.slice A N c) w.heap.size 0 w' from
    (swap_of a.S KS m3.s w3.drew sl HSL.out hSw).mono (by
      rintro e w' ⟨v,rfl,p1,p2,p3⟩
      rw[hs3] at p1
      have hbel:=(Below.refl w3.heap.size w3).drew.trans p3
      obtain⟨A,n',c,rfl,e2,-⟩:=id p1
      obtain rfl:N=n':=by rw[HN.out.1];exact e2
      refine⟨A,c,rfl,hbel,m3,K3,hj3,h3.fresh hbel,g3.below hbel,p1,fun j h0 hj=>?_,b03.below hbel b03.lt,nk0⟩
      obtain⟨ad,n2,c2,e1,e3⟩:=hj
      injection e1 with e4 e5 e6
      have q2:w3.heap.size≤ad.block:=p2 ad N c (by rw[e4]) (by have:=HN.out.1;omega)
      obtain⟨A',n3,c3,f1,f2,f3,f4,f5,f6⟩:=p1
      injection f1 with f7 f8 f9
      obtain⟨b,o,f10,f11,-⟩:=f6 (by rw[← f2];exact h0)
      rw[← f7,e4] at f10
      injection f10 with f10
      have q3:ad.block=b:=by rw[f10]
      exact⟨fun hk=>by have:=h3.lt j hk;omega,by omega⟩))
  have HJ:=Lib.hid hj3
  clear hj3 hs3 h3 g3 bk3 b03 nk2 nk0 z0 z5 y0 l0 l5 l2 hSw hS3 BRG2 HFL S0 SV
  go_wp2_with fail
  go_region_held3 (fun w'=>w'.cell? ⟨w.heap.size,0,none⟩=some (.pointer (some ⟨gS,0,none⟩))∧w'.cell? ⟨gS,5,none⟩=some (.pointer (some ⟨a.S,0,none⟩))∧w'.cell? ⟨w.heap.size+2,0,none⟩=some (.int .i64 (sl:Int)))
    (first | with_reducible assumption | with_reducible exact KEEP.out _ BR.out.drew | with_reducible exact KEEP.out _ (by with_reducible assumption))
    ((go_at_call 120;refine OF.out.mono ?_;rintro e w4 ⟨A2,c2,rfl,hb4,hsl4⟩))
  have P0:=Lib.hid hsl4
  clear hsl4 hb4
  go_wp2_with fail
  go_loopg [31] N (fun gg s31 wr=>∃ i:Nat,i+gg=N∧s31=.int .i64 (i:Int)∧SlAt w gS a k K (J f) l (.slice A2 N c2) w.heap.size i wr)
  case atStart=>exact⟨0,by omega,rfl,P0.out⟩
  case round =>
    obtain⟨i,hig,rfl,hst⟩:=hrel
    by_cases hlt:i < N
    · obtain⟨⟨qc,qg⟩,hp⟩:∃ p,l[i]?=some p:=⟨_,List.getElem?_eq_getElem (by have:=HN.out.1;omega)⟩
      obtain⟨mi,Ki,hj,h1,g1,hpl,hoff,hs⟩:=hst
      obtain⟨A',n',c',f1,f2,f3,f4,f5,f6⟩:=id hpl
      injection f1 with f7 f8 f9
      subst f7 f8 f9
      obtain⟨g,o,rfl,hgl,hat⟩:=f6 (by omega)
      obtain⟨a0',a1'⟩:=hat i (by omega)
      have eg:l.getD i pl0=⟨qc,qg⟩:=by rw[List.getD_eq_getElem?_getD,hp];rfl
      rw[eg] at a0' a1'
      have a0:wr.cell? ⟨g,o+i * 2,none⟩=some (.int .i64 qc):=a0'
      have a1:wr.cell? ⟨g,o+i * 2+1,none⟩=some (.int .i64 qg):=a1'
      have t4:decide ((i:Int) < (N:Int))=true:=decide_eq_true (by omega)
      have t5:(i:Int) < (N:Int):=by omega
      have t6:(0:Int)≤(i:Int):=by omega
      have hbW:Below wr.heap.size wr (wr.alloc (.cells #[.int .i64 qc,.int .i64 qg] 60)):=belAl (Below.refl _ _) _
      have bx:Blk (wr.alloc (.cells #[.int .i64 qc,.int .i64 qg] 60)) wr.heap.size 60 #[.int .i64 qc,.int .i64 qg]:=Blk.new wr _ _
      have x0:(wr.alloc (.cells #[.int .i64 qc,.int .i64 qg] 60)).cell? ⟨wr.heap.size,0,none⟩=some (.int .i64 qc):=bx.cell 0
      have x1:(wr.alloc (.cells #[.int .i64 qc,.int .i64 qg] 60)).cell? ⟨wr.heap.size,1,none⟩=some (.int .i64 qg):=bx.cell 1
      have s0:(wr.alloc (.cells #[.int .i64 qc,.int .i64 qg] 60)).cell? ⟨w.heap.size,0,none⟩=some (.pointer (some ⟨gS,0,none⟩)):=(hs.1.al _).cell 0
      have PC:=Lib.hid (show Calls Tryz.prog 104 #[.pointer (some ⟨gS,0,none⟩),.agg #[.int .i64 qc,.int .i64 qg],.agg #[.int .i64 1,.int .i64 (f:Int),.bool false]] (wr.alloc (.cells #[.int .i64 qc,.int .i64 qg] 60)) fun e w'=>∃ er:Int,e=.returned (.int .i64 er)∧SlAt w gS a k K (J f) l (.slice (some ⟨g,o,none⟩) N c2) w.heap.size (i+1) w' from
        (HST.out f i qc qg mi _ Ki hp hj (h1.fresh hbW)).mono (by
          rintro e w' ⟨er,m'',hj2,rfl,K2,h2,g2⟩
          have gw:Went wr Ki w' K2:=(Went.of_below hbW).trans g2
          obtain⟨r1,r2⟩:=pls_went hpl hoff gw
          refine⟨er,rfl,m'',K2,hj2,h2,g1.trans gw,r1,r2,gw.tr.blk hs.1 hs.2,fun hk=>?_⟩
          rcases gw.nk _ hk with c | c
          · exact hs.2 c
          · have:=hs.1.lt;omega))
      clear hp hj h1 g1 hpl hoff hat hbW bx hs f2 f3 f4 f5 f6 a0' a1' eg
      go_wp2_with fail
      refine PC.out.mono ?_
      rintro e w5 ⟨er,rfl,hp5⟩
      have P5:=Lib.hid hp5
      clear hp5
      go_wp2_with fail
      go_roundg (N - (i+1))
      case measure=>omega
      case rel=>exact⟨i+1,by omega,congrArg (Value.int .i64) (by have:=HN.out.2;first | omega | (simp only[wrap64];omega)),P5.out⟩
    · have hin:i=N:=by omega
      have t4:decide ((i:Int) < (N:Int))=false:=decide_eq_false (by omega)
      have PE:=Lib.hid (show SlAt w gS a k K (J f) l (.slice A2 N c2) w.heap.size N wr from hin ▸ hst)
      clear hst
      go_wp2_with fail
      go_ret2
      obtain⟨m',K',h1,h2,h3,_⟩:=PE.out
      rw[HN.out.1] at h1
      exact⟨f,m',h1,rfl,K',h2,h3⟩
end
end Go.Proofs.YtaonpmclkafjdaaGreat
namespace Go.Proofs.YtaonpmclkafjdaaGreat
open Go.RowKit
set_option linter.unusedVariables false
section
variable (gS:Nat)(a:SpA)(k:SpK)(K:Nat→Prop)(m:SpM)(w:World)
set_option maxRecDepth 100000 in
set_option maxHeartbeats 4000000 in
theorem come_slot (n pg sl:Nat) (rfr rpg:Int) (rw_:Bool) (rkd rfl_ rofs:Int) (P:Nat→SpM→Prop) (h:SpMem w gS a k K m)
    (hs:∀ V,SpMem V gS a k K m→Calls Tryz.prog 181 #[.pointer (some ⟨gS,0,none⟩),.agg #[.int .i64 (n:Int),.int .i64 (pg:Int)],.int .i64 (sl:Int)] V fun e w'=>∃ f m',P f m'∧SpEnd V gS a k K (.tuple #[.int .i64 (f:Int),.int .i64 0]) m' e w') :
    Calls Tryz.prog 143 #[.pointer (some ⟨gS,0,none⟩),.agg #[.int .i64 (n:Int),.int .i64 (pg:Int)],.agg #[.int .i64 rfr,.int .i64 rpg,.bool rw_,.int .i64 rkd,.int .i64 rfl_,.int .i64 rofs],.agg #[.int .i64 2,.int .i64 (sl:Int),.bool false]] w fun e w'=>∃ (f:Nat) (m':SpM),P f m'∧SpEnd w gS a k K (.tuple #[.int .i64 (f:Int),.int .i64 0]) m' e w':=by
  have hbx:=boxesC w ⟨n,pg⟩ ⟨rfr,rpg,rw_,rkd,rfl_,rofs⟩ ⟨2,(sl:Int),false⟩
  simp only at hbx
  obtain⟨W,hW⟩:∃ W,((w.alloc (.cells #[.int .i64 (n:Int),.int .i64 (pg:Int)] 60)).alloc (.cells #[.int .i64 rfr,.int .i64 rpg,.bool rw_,.int .i64 rkd,.int .i64 rfl_,.int .i64 rofs] 77)).alloc (.cells #[.int .i64 2,.int .i64 (sl:Int),.bool false] 29)=W:=⟨_,rfl⟩
  rw[hW] at hbx
  obtain⟨hb,b0,b1,b2⟩:=hbx
  have p0:W.cell? ⟨w.heap.size,0,none⟩=some (.int .i64 (n:Int)):=b0.cell 0
  have p1:W.cell? ⟨w.heap.size,1,none⟩=some (.int .i64 (pg:Int)):=b0.cell 1
  have x0:W.cell? ⟨w.heap.size+2,0,none⟩=some (.int .i64 2):=b2.cell 0
  have x1:W.cell? ⟨w.heap.size+2,1,none⟩=some (.int .i64 (sl:Int)):=b2.cell 1
  have BRG:=Lib.hid (hs W (h.fresh hb))
  have G:=Lib.hid (Went.of_below (K:=K) hb)
  clear h b0 b1 b2 hb hs
  go_enter Tryz.func143,Tryz.ntmps143
  go_wp2_with fail
  refine BRG.out.mono ?_
  rintro e w3 ⟨f,m',hP,rfl,h6⟩
  have H5:=Lib.hid hP
  have R:=Lib.hid (SpGo.from_ G.out h6)
  clear hP h6
  go_wp2_with fail
  go_ret2
  exact⟨f,m',H5.out,rfl,R.out⟩
end
end Go.Proofs.YtaonpmclkafjdaaGreat
namespace Go.Proofs.YtaonpmclkafjdaaGreat
open Go.RowKit
set_option linter.unusedVariables false
def HasPg (m:SpM)(n pg f:Nat)(wr:Bool):Prop:=entM m n pg=⟨1,(f:Int),false⟩∧(wr=true→∀ r,arM m n pg=some r→r.kd≠2→m.p.u.getD f 0=3∧∀ z∈m.b (f:Int),z=⟨n,pg⟩)
theorem HasPg.stp {m m1:SpM}{n pg pg' f:Nat}{wr:Bool}(h:HasPg m n pg f wr)(s:Stq n pg' m m1)(hne:pg≠pg'):HasPg m1 n pg f wr:=by
  obtain⟨h1,h2⟩:=h
  have c:¬ (n=n∧pg=pg'):=fun c=>hne c.2
  obtain⟨_,b2,b3⟩:=s.frm n pg f c h1
  refine⟨(s.ent n pg c (by rw[h1];exact show ¬ (1:Int)=2 by decide)).trans h1,fun hw r hr hk=>?_⟩
  rw[s.ar] at hr
  obtain⟨c1,c2⟩:=h2 hw r hr hk
  exact⟨b2.trans c1,fun z hz=>c2 z (b3 c1 z hz)⟩
structure Done (m:SpM)(n pg:Nat)(wr:Bool)(f:Nat)(m1:SpM):Prop where
  inv:Inv (arM m1) m1
  stp:Stq n pg m m1
  has:HasPg m1 n pg f wr
  byt:∀ j,j < 64→pageM m1 n pg j=pageM m n pg j
  stat:∀ r,arM m n pg=some r→r.kd≠1→(wr=false∨r.kd=2)→(hasAnon m1 n pg↔hasAnon m n pg)
  cost:Cost 3 2 3 m m1
  lt:f < 1024
  ents:∃ g:Nat,(wr=false→g=f)∧(wr=false→(entM m n pg).k=1→m1=m)∧∀ n' q,entM m1 n' q=if n'=n∧q=pg then ⟨1,(f:Int),false⟩ else if (entM m n pg).k=2∧entM m n' q=entM m n pg then ⟨1,(g:Int),false⟩ else entM m n' q
theorem Inv.ent_lt {A:Nat→Nat→Option Ar}{m:SpM}(h:Inv A m){n pg f:Nat}(e:entM m n pg=⟨1,(f:Int),false⟩):f < 1024∧∃ r,A n pg=some r∧((m.p.u.getD f 0=3∧r.kd≠2)∨(m.p.u.getD f 0=4∧r.kd≠1∧frameC m.c ⟨r.fl,r.ofs+(pg:Int) - r.fr⟩=some (f:Int))):=by
  rcases h.ent_three n pg with c | ⟨g,c,c1,r,c2⟩ | ⟨t,c,_⟩
  · rw[c] at e;exact absurd e.symm (en_ne _)
  · rw[c] at e
    have:=en_inj e
    obtain rfl:g=f:=by omega
    exact⟨c1,r,c2⟩
  · rw[c] at e;exact absurd e (es_fr _ _)
structure PagedQ (m:SpM)(n pg f:Nat)(m1:SpM):Prop where
  inv:Inv (arM m1) m1
  stp:Stq n pg m m1
  ent:entM m1 n pg=⟨1,(f:Int),false⟩
  byt:∀ j,j < 64→pageM m1 n pg j=pageM m n pg j
  stat:∀ r,arM m n pg=some r→r.kd≠1→(hasAnon m1 n pg↔hasAnon m n pg)
  cost:Cost 3 1 3 m m1
  res:(entM m n pg).k=1→m1=m
  ents:∀ n' q,entM m1 n' q=if n'=n∧q=pg then ⟨1,(f:Int),false⟩ else if (entM m n pg).k=2∧entM m n' q=entM m n pg then ⟨1,(f:Int),false⟩ else entM m n' q
theorem Paged.q {m m1:SpM}{n pg f:Nat}{A:Nat→Nat→Option Ar}(h:Paged m n pg f m1)(hi:Inv A m)(hk:(entM m n pg).k≠2)(hres:(entM m n pg).k=1→m1=m):PagedQ m n pg f m1:=⟨h.inv,h.stp.q hi,h.ent,h.byt,h.stat,h.cost,hres,fun n' q=>by
  by_cases c:n'=n∧q=pg
  · rw[if_pos c,c.1,c.2];exact h.ent
  · rw[if_neg c,if_neg (fun d=>hk d.1)];exact h.stp.ent n' q c⟩
theorem Stq.proc {m m1:SpM}{n pg n':Nat}{y:SpX}(s:Stq n pg m m1)(hy:m.x n'=some y):∃ y1,m1.x n'=some y1∧y1.a=y.a∧y1.q=y.q:=by
  have e:=s.xs n'
  rw[hy,Option.map_some,Option.map_eq_some_iff] at e
  obtain⟨y1,e1,e2⟩:=e
  injection e2 with e3 e4
  exact⟨y1,e1,e3,e4⟩
section
variable (gS:Nat)(a:SpA)(k:SpK)(K:Nat→Prop)(m:SpM)(w:World)
theorem put_s {n pg sl f:Nat} {y:SpX} {F':Nat→List Nat} {p1 p':PS} {t':TS} {B:List Nat} (hy:m.x n=some y) (he:entM m n pg=⟨2,(sl:Int),false⟩) (hsl:sl < 32) :
    (putM ((m.setP p1).setF (upd m.F f B)) n y pg ⟨1,(f:Int),false⟩ 0 F' p' t').s sl=(m.s sl).erase ⟨n,pg⟩:=by
  have e0:putM ((m.setP p1).setF (upd m.F f B)) n y pg ⟨1,(f:Int),false⟩ 0 F' p' t'=if (entM m n pg).k=1∧(entM m n pg).n=(f:Int) then takeM (((m.setP p1).setF (upd m.F f B)).tree n y F' p' t') ⟨n,pg⟩ ⟨1,(f:Int),false⟩ else leaveM (takeM (((m.setP p1).setF (upd m.F f B)).tree n y F' p' t') ⟨n,pg⟩ ⟨1,(f:Int),false⟩) ⟨n,pg⟩ (entM m n pg):=by
    rw[entM_some hy]
    rfl
  rw[e0,he,if_neg (fun c=>absurd c.1 (show ¬ (2:Int)=1 by decide))]
  show relS m.s (sl:Int) ⟨n,pg⟩ sl=_
  unfold relS
  rw[if_pos (show isSlot (sl:Int) from ⟨by omega,by omega⟩),Int.toNat_natCast,updS_same]
set_option maxRecDepth 100000 in
theorem slot_ok (n pg sl:Nat) (y:SpX) (h:SpMem w gS a k K m) (hi:Inv (arM m) m) (hy:m.x n=some y) (hpg:pg < 4096) (he:entM m n pg=⟨2,(sl:Int),false⟩) (hsl:sl < 32) (h3:3≤cntF m.p 2) (h1:0 < cntF m.p 3) :
    Calls Tryz.prog 181 #[.pointer (some ⟨gS,0,none⟩),.agg #[.int .i64 (n:Int),.int .i64 (pg:Int)],.int .i64 (sl:Int)] w fun e w'=>∃ (f:Nat) (m':SpM),(PagedQ m n pg f m'∧f < 1024)∧SpEnd w gS a k K (.tuple #[.int .i64 (f:Int),.int .i64 0]) m' e w':=by
  have hsrt:SrtP ((m.s sl).erase ⟨n,pg⟩):=srt_erase (hi.ssrt sl) _
  have hmem:∀ q,q∈(m.s sl).erase ⟨n,pg⟩↔q≠⟨n,pg⟩∧q∈m.s sl:=fun q=>mem_erase_srt (hi.ssrt sl)
  have hlen:((m.s sl).erase ⟨n,pg⟩).length≤100000:=Nat.le_trans List.erase_sublist.length_le (hi.few.s sl)
  refine (fromSlot_go gS a k K m w (fun f i m1=>SlotJ m n pg sl f ((m.s sl).erase ⟨n,pg⟩) i m1) n y pg sl ((m.s sl).erase ⟨n,pg⟩) h hy hpg hi.tabs hi.few h3 h1 hsl hi.tr (fun f p1 F' p' t' ha hd=>⟨(SlotJ.start hi hy hpg he ha hd).1,put_s m hy he hsl⟩) hlen ?_).mono ?_
  · intro f i qc qg m' V K' hl hJ hV
    have hq:=(hmem _).1 (List.mem_of_getElem? hl)
    obtain⟨n',hn',hq2⟩:=List.mem_flatMap.1 (hi.sin sl _ hq.2)
    obtain⟨q',hq',e⟩:=List.mem_map.1 hq2
    injection e with e1 e2
    subst e1 e2
    have hn8:=List.mem_range.1 hn'
    have hq4:=List.mem_range.1 hq'
    cases hx:m.x n' with
    | none =>
      have hx':m'.x n'=none:=by
        have:=hJ.xs n'
        rw[hx,Option.map_none,Option.map_eq_none_iff] at this
        exact this
      refine (spput_none gS a k K' m' V (n':Int) (q':Int) 1 (f:Int) false hV (WalkArith.wf_i64 (by omega)) (.inr fun n2 e2=>by
        have e3:n'=n2:=by omega
        rw[← e3]
        exact hx')).mono ?_
      intro e w' hE
      exact⟨2,m',hJ.skip hl hx,hE⟩
    | some z0 =>
      have hes:entM m n' q'=⟨2,(sl:Int),false⟩:=(hi.slot sl n' q' (by rw[hx];simp)).1 hq.2
      have:=hJ.xs n'
      rw[hx,Option.map_some] at this
      obtain⟨z,hz,_⟩:=Option.map_eq_some_iff.1 this
      have hne:¬ (n'=n∧q'=pg):=by
        rintro⟨rfl,rfl⟩
        exact hq.1 rfl
      have hc:=hJ.cost.c2
      refine (put_ok gS a k K' m' V n' z q' ⟨1,(f:Int),false⟩ hV hz hq4 hJ.inv.tabs hJ.inv.few (.inl ⟨rfl,by show (0:Int)≤(f:Int);omega,by show (f:Int) < 1024;have:=hJ.lt;omega⟩) (by omega)).mono ?_
      rintro e w' ⟨F',p',t',hd,hE⟩
      exact⟨0,_,hJ.step hi hl hsrt hz hq4 hes hne hd,hE⟩
  · rintro e w' ⟨f,m',hJ,hE⟩
    obtain⟨g1,g2,g3,g4⟩:=hJ.done hi he fun n' q e2 c=>by
      obtain⟨n8,q4,y',hy'⟩:n' < 8∧q < 4096∧∃ y',m.x n'=some y':=by
        cases hx:m.x n' with
        | none=>rw[entM_none hx] at e2;exact absurd e2.symm (es_ne _)
        | some y' =>
          refine⟨hi.x8 n' y' hx,?_,y',rfl⟩
          rw[entM_some hx] at e2
          by_cases d:q < 4096
          · exact d
          · rw[List.getD_eq_getElem?_getD,List.getElem?_eq_none (by rw[(hi.tok n' y' hx).el];omega)] at e2
            exact absurd e2.symm (es_ne _)
      have hq:(⟨n',q⟩:Pl)∈(m.s sl).erase ⟨n,pg⟩:=(hmem _).2 ⟨fun e3=>c (by injection e3 with a1 a2;omega),(hi.slot sl n' q (by rw[hy'];simp)).2 e2⟩
      obtain⟨j,hj,e3⟩:=List.mem_iff_getElem.1 hq
      exact⟨j,hj,by rw[List.getElem?_eq_getElem hj,e3]⟩
    refine⟨f,m',⟨⟨by rw[g1.ar];exact hJ.inv,g1,g2,g3,fun r hr hk=>?_,hJ.cost.le (by omega) (by omega) (by omega),fun c=>(by rw[he] at c;exact absurd c (show ¬ (2:Int)=1 by decide)),fun n' q=>?_⟩,hJ.lt⟩,hE⟩
    · rw[hasAnon_in g2]
      exact⟨fun _=>hasAnon_slot he,fun _=>hJ.use⟩
    · by_cases c:n'=n∧q=pg
      · rw[if_pos c,c.1,c.2];exact g2
      · rw[if_neg c,g4,he]
        by_cases d:entM m n' q=⟨2,(sl:Int),false⟩
        · rw[if_pos d,if_pos ⟨rfl,d⟩]
        · rw[if_neg d,if_neg (fun e=>d e.2)]
theorem come_ok (n pg:Nat) (fr ap:Int) (aw:Bool) (kd fl ofs:Int) (y:SpX) (h:SpMem w gS a k K m) (hi:Inv (arM m) m) (hy:m.x n=some y) (hpg:pg < 4096) (har:findA y.a (pg:Int)=some ⟨fr,ap,aw,kd,fl,ofs⟩) (h3:3≤cntF m.p 2) (h1:0 < cntF m.p 3) :
    Calls Tryz.prog 143 #[.pointer (some ⟨gS,0,none⟩),.agg #[.int .i64 (n:Int),.int .i64 (pg:Int)],.agg #[.int .i64 fr,.int .i64 ap,.bool aw,.int .i64 kd,.int .i64 fl,.int .i64 ofs],.agg #[.int .i64 (y.t.e.getD pg en0).k,.int .i64 (y.t.e.getD pg en0).n,.bool (y.t.e.getD pg en0).w]] w fun e w'=>∃ (f:Nat) (m':SpM),(PagedQ m n pg f m'∧f < 1024)∧SpEnd w gS a k K (.tuple #[.int .i64 (f:Int),.int .i64 0]) m' e w':=by
  have ha:arM m n pg=some ⟨fr,ap,aw,kd,fl,ofs⟩:=(arM_some hy pg).trans har
  have hm:=(findA_iff (hi.ars n y hy).1).1 har
  have hs:=(hi.ars n y hy).1.1 _ hm.1
  rw[← entM_some hy pg]
  rcases hi.ent_three n pg with e | ⟨f,e,hf,_⟩ | ⟨sl,e,hsl,_⟩
  · by_cases hk:kd=1
    · rw[e]
      refine (come_zero gS a k K m w n pg fr ap aw kd fl ofs 0 0 false h y hy hpg hi.tabs hi.few h3 h1 rfl hk).mono ?_
      rintro e' w' ⟨f,m',h4,h5⟩
      refine⟨f,m',⟨(paged_zero hi hy hpg ha hk e h4).q hi (by rw[e];decide) (fun c=>by rw[e] at c;exact absurd c (by decide)),?_⟩,h5⟩
      obtain⟨p1,F',p',t',h6,_⟩:=h4.ex
      exact h6.lt
    · rw[e]
      obtain⟨⟨r1,r2,r3,r4⟩,ek,ei⟩:=key_ix hs hm.2 hk
      simp only at r1 r2 r3 r4 ek ei
      obtain⟨⟨_,_,s3,s4,s5,s6⟩,sk⟩:=hs
      simp only at s3 s4 s5 s6 sk
      have e1:fl=((fl.toNat:Nat):Int):=(Int.toNat_of_nonneg r1).symm
      have e2:ofs+(pg:Int) - fr=(((ofs+(pg:Int) - fr).toNat:Nat):Int):=(Int.toNat_of_nonneg r3).symm
      cases hc:frameC m.c ⟨fl,ofs+(pg:Int) - fr⟩ with
      | none =>
        refine (come_out gS a k K m w n pg fr ap aw kd fl ofs 0 0 false h y hy hpg hi.tabs hi.few h3 h1 hi.cfew hi.tr fl.toNat (ofs+(pg:Int) - fr).toNat rfl hk e1 e2 (by omega) (by omega) (by omega) (by omega) (by rw[← e1,← e2];exact hc)).mono ?_
        rintro e' w' ⟨f,m',h4,h5⟩
        rw[← e1,← e2] at h4
        refine⟨f,m',⟨(paged_out hi hy hpg ha hk (by exact (hi.ars n y hy).1.1 _ hm.1) hm.2 e hc h4).q hi (by rw[e];decide) (fun c=>by rw[e] at c;exact absurd c (by decide)),?_⟩,h5⟩
        obtain⟨p1,F',p',t',h6,_⟩:=h4.ex
        exact h6.lt
      | some g =>
        obtain⟨f,rfl,hf,hu⟩:=hi.key_use hc
        refine (come_in gS a k K m w n pg fr ap aw kd fl ofs 0 0 false h y hy hpg hi.tabs hi.few h3 f hf fl.toNat (ofs+(pg:Int) - fr).toNat rfl hk e1 e2 (by omega) (by omega) (by omega) (by omega) (by rw[← e1,← e2];exact hc)).mono ?_
        rintro e' w' ⟨m',h4,h5⟩
        refine⟨f,m',⟨?_,hf⟩,h5⟩
        obtain⟨F',p',t',h6,rfl⟩:=h4.ex
        refine Paged.q ?_ hi (by rw[e];decide) (fun c=>by rw[e] at c;exact absurd c (by decide))
        refine paged_in hi hy hpg ha hk ((hi.ars n y hy).1.1 _ hm.1) hm.2 e hf hu hc (fun j hj=>?_) h6
        unfold fileM
        rw[ek,hc]
        rfl
  · rw[e]
    refine (come_frame gS a k K m w n pg fr ap aw kd fl ofs 1 (f:Int) false h rfl).mono ?_
    rintro e' w' h5
    exact⟨f,m,⟨(paged_same hi e).q hi (by rw[e];exact show ¬ (1:Int)=2 by decide) (fun _=>rfl),hf⟩,h5⟩
  · rw[e]
    exact come_slot gS a k K m w n pg sl fr ap aw kd fl ofs _ h fun V hV=>slot_ok gS a k K m V n pg sl y hV hi hy hpg e hsl h3 h1
theorem alone_ok (n pg f:Nat) (y:SpX) (r:Ar) (m0:SpM) (h:SpMem w gS a k K m) (hi0:Inv (arM m0) m0) (hP:PagedQ m0 n pg f m) (hf:f < 1024) (hy:m.x n=some y) (hpg:pg < 4096) (har:arM m0 n pg=some r) (hk:r.kd≠2) (h3:3≤cntF m.p 2) (h1:0 < cntF m.p 3) :
    Calls Tryz.prog 144 #[.pointer (some ⟨gS,0,none⟩),.agg #[.int .i64 (n:Int),.int .i64 (pg:Int)],.int .i64 (f:Int)] w fun e w'=>∃ (f':Nat) (m'':SpM),Done m0 n pg true f' m''∧SpEnd w gS a k K (.tuple #[.int .i64 (f':Int),.int .i64 0]) m'' e w':=by
  have hi:=hP.inv
  have har1:arM m n pg=some r:=by rw[hP.stp.ar];exact har
  have hmany:∀ f' m'',FromCopy m n y pg f f' m''→Done m0 n pg true f' m'':=by
    intro f' m'' h4
    obtain⟨p1,F',p',t',ha,hd,rfl⟩:=h4.ex
    have g:=newPg hi hy hpg har1 hk ha hd (fun j hj=>(pageM_in hP.ent j).symm)
    refine⟨g.inv,hP.stp.trans (g.stp.q hi),⟨g.ent,fun _ r' hr' hk'=>⟨g.use,g.one⟩⟩,fun j hj=>(g.byt j hj).trans (hP.byt j hj),fun r' hr' hk' hc=>?_,?_,g.lt,f,fun e=>(by cases e),fun e=>(by cases e),fun n' q=>?_⟩
    · rcases hc with hc | hc
      · cases hc
      · rw[har] at hr';injection hr' with hr';exact absurd (hr' ▸ hc) hk
    · exact (hP.cost.trans (g.cost0 (by rw[hP.ent];exact en_ne _))).le (by omega) (by omega) (by omega)
    · by_cases c:n'=n∧q=pg
      · rw[if_pos c,c.1,c.2];exact g.ent
      · rw[if_neg c,g.stp.ent n' q c,hP.ents,if_neg c]
  cases hc:pageC m.c (f:Int) with
  | some kk =>
    refine (alone_in gS a k K m w n y pg f h hy hpg hi.tabs hi.few h3 h1 hf kk hc).mono ?_
    rintro e' w' ⟨f',m'',h4,h5⟩
    exact⟨f',m'',hmany f' m'' h4,h5⟩
  | none =>
    by_cases hl:(m.b (f:Int)).length < 2
    · refine (alone_same gS a k K m w n y pg f h hy hpg hi.tabs hi.few h3 h1 hf hc hl).mono ?_
      rintro e' w' h5
      refine⟨f,m,⟨hi,hP.stp,⟨hP.ent,fun _ r' hr' hk'=>?_⟩,hP.byt,fun r' hr' hk' hc=>hP.stat r' hr' hk',hP.cost.le (by omega) (by omega) (by omega),hf,f,fun e=>(by cases e),fun e=>(by cases e),hP.ents⟩,h5⟩
      obtain⟨_,r2,hr2,c | ⟨_,_,c⟩⟩:=hi.ent_lt hP.ent
      · refine⟨c.1,fun z hz=>?_⟩
        have hm:(⟨n,pg⟩:Pl)∈m.b (f:Int):=(hi.back _ _).2 ⟨n,pg,rfl,hP.ent⟩
        match hb:m.b (f:Int),hl,hz,hm with
        | [],_,hz,_=>cases hz
        | [x],_,hz,hm =>
          rw[List.mem_singleton] at hz hm
          rw[hz,hm]
        | _ :: _ :: _,hl,_,_=>simp at hl;omega
      · rw[pageC_of hi.cok c] at hc
        cases hc
    · refine (alone_many gS a k K m w n y pg f h hy hpg hi.tabs hi.few h3 h1 hf hc (by omega)).mono ?_
      rintro e' w' ⟨f',m'',h4,h5⟩
      exact⟨f',m'',hmany f' m'' h4,h5⟩
theorem page_ok (n pg:Nat) (wr:Bool) (y:SpX) (r:Ar) (h:SpMem w gS a k K m) (hi:Inv (arM m) m) (hy:m.x n=some y) (hpg:pg < 4096) (har:arM m n pg=some r) (hw:wr=true→r.w=true) (h6:6≤cntF m.p 2) (h2:2≤cntF m.p 3) :
    Calls Tryz.prog 93 #[.pointer (some ⟨gS,0,none⟩),.agg #[.int .i64 (n:Int),.int .i64 (pg:Int)],.bool wr] w fun e w'=>∃ (f:Nat) (m':SpM),Done m n pg wr f m'∧SpEnd w gS a k K (.tuple #[.int .i64 (f:Int),.int .i64 0]) m' e w':=by
  obtain⟨fr,ap,aw,kd,fl,ofs⟩:=r
  have har':findA y.a (pg:Int)=some ⟨fr,ap,aw,kd,fl,ofs⟩:=(arM_some hy pg).symm.trans har
  refine page_go gS a k K m w n y pg wr fr ap aw kd fl ofs (fun f m'=>PagedQ m n pg f m'∧f < 1024) (fun f m'=>Done m n pg wr f m') h hy hpg hi.tabs (hi.ars n y hy).1 har' hw ?_ ?_ ?_
  · intro V hV
    exact come_ok gS a k K m V n pg fr ap aw kd fl ofs y hV hi hy hpg har' (by omega) (by omega)
  · rintro rfl hk f m' V K' ⟨hP,hf⟩ hV
    obtain⟨y',hy',_⟩:=hP.stp.proc hy
    have c2:=hP.cost.c2
    have c3:=hP.cost.c3
    exact alone_ok gS a k K' m' V n pg f y' _ m hV hi hP hf hy' hpg har hk (by omega) (by omega)
  · rintro hc f m' ⟨hP,hf⟩
    refine⟨hP.inv,hP.stp,⟨hP.ent,fun hw r' hr' hk'=>?_⟩,hP.byt,fun r' hr' hk' _=>hP.stat r' hr' hk',hP.cost.le (by omega) (by omega) (by omega),hf,f,fun _=>rfl,fun _=>hP.res,hP.ents⟩
    rw[hP.stp.ar,har] at hr'
    injection hr' with hr'
    subst hr'
    rcases hc with hc | hc
    · rw[hc] at hw;cases hw
    · exact absurd hc hk'
end
end Go.Proofs.YtaonpmclkafjdaaGreat
namespace Go.Proofs.YtaonpmclkafjdaaGreat
open Go.RowKit
set_option linter.unusedVariables false
theorem enters_map:∀ args w,(callFunc 91 args).run Tryz.prog w=.ok (.enter 91 args) w:=enters_of Tryz.func91 (by kernel_rfl) rfl
theorem newArs {w w':World}{gS:Nat}{a:SpA}{k:SpK}{K:Nat→Prop}{m:SpM}{n:Nat}{y:SpX}{er:Int}{v:Value}{l:List Ar}{e:Ending}(h:SpMem w gS a k K m)(hy:m.x n=some y)(he:e=.returned (.tuple #[v,.int .i64 er]))(hA:Ars w' w'.heap.size v l)(hn:NewA w w' v)(hb:Below w.heap.size w w'):NewArs w gS a k K n er l m y e w':=by
  obtain⟨A,i,c,rfl,-⟩:=id hA
  refine⟨A,i,c,K,he,h.fresh hb,hy,Went.of_below hb,hA,fun j hj=>?_⟩
  obtain⟨b,n',c',e2,rfl⟩:=hj
  obtain⟨h1,h2⟩:=hn b n' c' e2
  exact⟨fun hk=>by have:=h.lt _ hk;omega,h1,h2⟩
section
variable (gS:Nat)(a:SpA)(k:SpK)(K:Nat→Prop)(m:SpM)(w:World)
set_option maxRecDepth 100000 in
set_option maxHeartbeats 2000000 in
theorem map_fn (n:Nat) (y:SpX) (gA:Nat) (fr ap:Int) (aw:Bool) (kd fl ofs:Int) (wa:WAr ⟨fr,ap,aw,kd,fl,ofs⟩) (h:SpMem w gS a k K m) (hy:m.x n=some y) (hl:listA y.a) (hn:y.a.length≤4096) (b0:Blk w gA 77 #[.int .i64 fr,.int .i64 ap,.bool aw,.int .i64 kd,.int .i64 fl,.int .i64 ofs]) :
    Calls Tryz.prog 91 #[.pointer (some ⟨k.X n,0,none⟩),.pointer (some ⟨gA,0,none⟩)] w (NewArs w gS a k K n (addE y.a ⟨fr,ap,aw,kd,fl,ofs⟩) (addL y.a ⟨fr,ap,aw,kd,fl,ofs⟩) m y):=by
  have hp:=h.proc hy
  obtain⟨A_,l_,c_,hv,-⟩:=id hp.2.2.1
  have cx:w.cell? ⟨k.X n,1,none⟩=some (.slice A_ l_ c_):=by rw[← hv];exact hp.1.cell 1
  have hA:=hp.2.2.1
  rw[hv] at hA
  have lx:=hp.1.lt
  have lb0:=b0.lt
  have z0_0:w.cell? ⟨gA,0,none⟩=some (.int .i64 fr):=b0.cell 0
  have z0_1:w.cell? ⟨gA,1,none⟩=some (.int .i64 ap):=b0.cell 1
  have z0_2:w.cell? ⟨gA,2,none⟩=some (.bool aw):=b0.cell 2
  have z0_3:w.cell? ⟨gA,3,none⟩=some (.int .i64 kd):=b0.cell 3
  have z0_4:w.cell? ⟨gA,4,none⟩=some (.int .i64 fl):=b0.cell 4
  have z0_5:w.cell? ⟨gA,5,none⟩=some (.int .i64 ofs):=b0.cell 5
  have KEEP:=Lib.hid (fun (V:World) (hV:Below w.heap.size w V)=>(⟨(hV.cell (p:=⟨k.X n,1,none⟩) lx).trans cx,(hV.cell (p:=⟨gA,0,none⟩) lb0).trans z0_0,(hV.cell (p:=⟨gA,1,none⟩) lb0).trans z0_1,(hV.cell (p:=⟨gA,2,none⟩) lb0).trans z0_2,(hV.cell (p:=⟨gA,3,none⟩) lb0).trans z0_3,(hV.cell (p:=⟨gA,4,none⟩) lb0).trans z0_4,(hV.cell (p:=⟨gA,5,none⟩) lb0).trans z0_5⟩:V.cell? ⟨k.X n,1,none⟩=some (.slice A_ l_ c_)∧V.cell? ⟨gA,0,none⟩=some (.int .i64 fr)∧V.cell? ⟨gA,1,none⟩=some (.int .i64 ap)∧V.cell? ⟨gA,2,none⟩=some (.bool aw)∧V.cell? ⟨gA,3,none⟩=some (.int .i64 kd)∧V.cell? ⟨gA,4,none⟩=some (.int .i64 fl)∧V.cell? ⟨gA,5,none⟩=some (.int .i64 ofs)))
  have BR:=Lib.hid (Below.refl w.heap.size w)
  have HC:=Lib.hid (show Calls Tryz.prog 92 #[.slice A_ l_ c_,.agg #[.int .i64 fr,.int .i64 ap,.bool aw,.int .i64 kd,.int .i64 fl,.int .i64 ofs]] w.drew fun e w'=>∃ (A:Option Addr) (i c:Nat),e=.returned (.tuple #[.slice A i c,.int .i64 (addE y.a ⟨fr,ap,aw,kd,fl,ofs⟩)])∧Below w.heap.size w w'∧Ars w' w'.heap.size (.slice A i c) (addL y.a ⟨fr,ap,aw,kd,fl,ofs⟩)∧NewA w w' (.slice A i c) from (area_addN w.drew (.slice A_ l_ c_) y.a ⟨fr,ap,aw,kd,fl,ofs⟩ wa (hA.fresh (Below.refl w.heap.size w).drew) hl hn).mono (by
    rintro e w' ⟨v',rfl,⟨h1,h2⟩,h3⟩
    obtain⟨A,i,c,rfl,-⟩:=id h1
    exact⟨A,i,c,rfl,(Below.refl w.heap.size w).drew.trans h3,h1,h2⟩))
  have H:=Lib.hid (And.intro h hy)
  clear h hy hl hn hp hv cx hA lx b0 lb0 z0_0 z0_1 z0_2 z0_3 z0_4 z0_5
  go_enter Tryz.func91,Tryz.ntmps91
  go_wp2_with fail
  go_region_held3 (fun w'=>w'.cell? ⟨k.X n,1,none⟩=some (.slice A_ l_ c_)∧w'.cell? ⟨gA,0,none⟩=some (.int .i64 fr)∧w'.cell? ⟨gA,1,none⟩=some (.int .i64 ap)∧w'.cell? ⟨gA,2,none⟩=some (.bool aw)∧w'.cell? ⟨gA,3,none⟩=some (.int .i64 kd)∧w'.cell? ⟨gA,4,none⟩=some (.int .i64 fl)∧w'.cell? ⟨gA,5,none⟩=some (.int .i64 ofs))
    (first | with_reducible assumption | with_reducible exact KEEP.out _ BR.out.drew | with_reducible exact KEEP.out _ (by with_reducible assumption))
    ((go_at_call 92;refine HC.out.mono ?_;rintro e w' ⟨A,i,c,rfl,hb,hA,hn⟩))
  have R:=Lib.hid (newArs (er:=addE y.a ⟨fr,ap,aw,kd,fl,ofs⟩) H.out.1 H.out.2 rfl hA hn hb)
  clear hb hA hn
  go_wp2_with fail
  go_ret2
  exact R.out
set_option maxRecDepth 100000 in
set_option maxHeartbeats 2000000 in
theorem map_go (n:Nat) (y:SpX) (fr ap:Int) (aw:Bool) (kd fl ofs:Int) (wa:WAr ⟨fr,ap,aw,kd,fl,ofs⟩) (h:SpMem w gS a k K m) (hy:m.x n=some y) (hl:listA y.a) (hn:y.a.length≤4096) :
    Calls Tryz.prog 37 #[.pointer (some ⟨gS,0,none⟩),.int .i64 (n:Int),.agg #[.int .i64 fr,.int .i64 ap,.bool aw,.int .i64 kd,.int .i64 fl,.int .i64 ofs]] w fun e w'=>∃ k',SpEnd w gS a k' K (.int .i64 (addE y.a ⟨fr,ap,aw,kd,fl,ofs⟩)) (if addE y.a ⟨fr,ap,aw,kd,fl,ofs⟩=0 then m.setX n (some ⟨y.t,addL y.a ⟨fr,ap,aw,kd,fl,ofs⟩,y.q⟩) else m) e w':=by
  obtain⟨W,hW⟩:∃ W,w.alloc (.cells #[.int .i64 fr,.int .i64 ap,.bool aw,.int .i64 kd,.int .i64 fl,.int .i64 ofs] 77)=W:=⟨_,rfl⟩
  have hb:Below w.heap.size w W:=by rw[← hW];exact belAl (Below.refl _ w) _
  have hP:Blk W w.heap.size 77 #[.int .i64 fr,.int .i64 ap,.bool aw,.int .i64 kd,.int .i64 fl,.int .i64 ofs]:=by rw[← hW];exact Blk.new w _ _
  have HC:=Lib.hid (change_go gS a k K m W 91 #[] #[.pointer (some ⟨w.heap.size,0,none⟩)] enters_map n y y _ _ m (h.fresh hb) hy (map_fn gS a k K m W n y w.heap.size fr ap aw kd fl ofs wa (h.fresh hb) hy hl hn hP))
  have G:=Lib.hid (Went.of_below (K:=K) hb)
  obtain⟨M,hM⟩:∃ M,M=(if addE y.a ⟨fr,ap,aw,kd,fl,ofs⟩=0 then m.setX n (some ⟨y.t,addL y.a ⟨fr,ap,aw,kd,fl,ofs⟩,y.q⟩) else m):=⟨_,rfl⟩
  rw[← hM] at HC ⊢
  clear hb hP h hy hl hn wa hM
  go_enter Tryz.func37,Tryz.ntmps37
  go_wp2_with fail
  refine HC.out.mono ?_
  rintro e w2 ⟨k',rfl,h2⟩
  have R:=Lib.hid (h2.from_ G.out)
  clear h2
  go_wp2_with fail
  go_ret
  exact⟨k',rfl,R.out⟩
end
end Go.Proofs.YtaonpmclkafjdaaGreat

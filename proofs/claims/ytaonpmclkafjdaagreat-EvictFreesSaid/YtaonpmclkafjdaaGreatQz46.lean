/-
  ask: each page on the way is asked for, in order.
  read: the bytes of pieces, one behind the other; Load.
  Load: the bytes of the pages on the way.
  Store: the bytes of the pages on the way are written.
  What users see of a space, as numbers, and what a written piece makes of that.
  Load and Store, as users see them.
  Areas and what waits are others: what users see then.
  ask, Load and Store of which the first page is denied.
  Processes in memory as users see them, and what calls make of that.
  New: a space without processes.
  A process comes, in memory: its tree, the map of processes, its cells and what waits.
  Spawn, walked.
  having: which pages of a tree have something.
  Conditions: those that each line bears.
-/
import Derived.Test.YtaonpmclkafjdaaGreatQz45
import Derived.Test.YtaonpmclkafjdaaGreatQz16
import Derived.Deep.RegionHeld3
import Derived.BigQuiet
set_option linter.unusedSimpArgs false
set_option linter.unusedSectionVars false
set_option linter.unusedVariables false
namespace Go.Proofs.YtaonpmclkafjdaaGreat
open Go.RowKit
set_option linter.unusedVariables false
structure Pc3 where
  f:Nat
  at_:Nat
  n:Nat
def pcL3 (p:Pc3):List Value:=[.int .i64 (p.f:Int),.int .i64 (p.at_:Int),.int .i64 (p.n:Int)]
def flat3 (l:List Pc3):List Value:=l.flatMap pcL3
theorem flat3_snoc (l:List Pc3)(p:Pc3):flat3 (l ++ [p])=flat3 l ++ pcL3 p:=by
  unfold flat3
  rw[List.flatMap_append]
  simp
theorem Tryz.infoPc3:(Tryz.prog.info? 83).map (fun i=>(i.zero,i.size,i.bytes))=some (some (.agg #[.int .i64 0,.int .i64 0,.int .i64 0]),3,24):=by kernel_rfl
theorem Went.row {w V w5:World}{K K2:Nat→Prop}{row:Option Nat}(h:Went w K V K2)(hg:V.grownBy w5 row)(hr:∀ j,row=some j→w.heap.size≤j):Went w K w5 K2 :=
  ⟨h.nk,hg.os.trans h.tr.os,hg.tape.trans h.tr.tape,hg.output.trans h.tr.output,Nat.le_trans h.tr.size hg.size,fun j hj hn=>(hg.block j (Nat.lt_of_lt_of_le hj h.tr.size) fun e=>by have:=hr j e.symm;omega).trans (h.tr.block j hj hn)⟩
section
variable (gS:Nat)(a:SpA)(k:SpK)(K:Nat→Prop)(m:SpM)(w:World)
def AskAt (w:World)(gS:Nat)(a:SpA)(k:SpK)(K:Nat→Prop)(J:Nat→Nat→List Pc3→SpM→Prop)(x rem:Nat)(v:Value)(wr:World):Prop :=
  ∃ ps m' K',J x rem ps m'∧SpMem wr gS a k K' m'∧Went w K wr K'∧RowAt wr w.heap.size 3 v ps.length (flat3 ps)∧(∀ j,v.ownBlock=some j→¬ K' j)∧ps.length+rem≤64
theorem AskAt.below {J:Nat→Nat→List Pc3→SpM→Prop}{x rem:Nat}{v:Value}{wr V:World}(h:AskAt w gS a k K J x rem v wr)(hb:Below wr.heap.size wr V):AskAt w gS a k K J x rem v V:=by
  obtain⟨ps,m',K',h1,h2,h3,h4,h5,h6⟩:=h
  exact⟨ps,m',K',h1,h2.fresh hb,h3.below hb,h4.fresh hb,h5,h6⟩
set_option maxRecDepth 100000 in
set_option maxHeartbeats 4000000 in
theorem ask_go (J:Nat→Nat→List Pc3→SpM→Prop) (n:Nat) (y:SpX) (x len:Nat) (wb:Bool) (h:SpMem w gS a k K m) (hy:m.x n=some y) (hl:len≤64) (hx:x+len≤262144) (h0:J x len [] m)
    (hstep:∀ at_ rem ps m' V K',J at_ rem ps m'→0 < rem→rem≤64→at_+rem≤262144→SpMem V gS a k K' m'→Calls Tryz.prog 93 #[.pointer (some ⟨gS,0,none⟩),.agg #[.int .i64 (n:Int),.int .i64 ((at_ / 64:Nat):Int)],.bool wb] V fun e w'=>∃ (f:Nat) (m'':SpM),J (at_+min rem (64 - at_ % 64)) (rem - min rem (64 - at_ % 64)) (ps ++ [⟨f,at_ % 64,min rem (64 - at_ % 64)⟩]) m''∧SpEnd V gS a k K' (.tuple #[.int .i64 (f:Int),.int .i64 0]) m'' e w') :
    Calls Tryz.prog 38 #[.pointer (some ⟨gS,0,none⟩),.int .i64 (n:Int),.int .i64 (x:Int),.int .i64 (len:Int),.bool wb] w fun e w'=>∃ v,e=.returned (.tuple #[v,.int .i64 0])∧AskAt w gS a k K J (x+len) 0 v w':=by
  have LQ:=(SpMem.look_ gS a k K m w h hy).look
  have HA:=Lib.hid (all_sp gS w k.M (h.cells.cell 6))
  obtain⟨iP,hiP,hz0,hz1,hz2⟩:=info_parts Tryz.infoPc3
  have HIP:=Lib.hid hiP
  have HZ:=Lib.hid (And.intro hz0 (And.intro hz1 hz2))
  have HS:=Lib.hid hstep
  have H0:=Lib.hid (show AskAt w gS a k K J x len (.slice none 0 0) w from ⟨[],m,K,h0,h,Went.refl _ _,RowAt.nil_ _ _ _,(fun j hj=>by cases hj),by simpa using hl⟩)
  have HXL:=Lib.hid (And.intro hl hx)
  clear hiP hz0 hz1 hz2 hstep h hy h0
  go_enter Tryz.func38,Tryz.ntmps38
  go_wp2_with fail
  refine HA.out.mono ?_
  rintro e w' ⟨rfl,hw⟩
  subst w'
  have t1:decide ((len:Int) < 0)=false:=decide_eq_false (by omega)
  have t2:decide ((64:Int) < (len:Int))=false:=decide_eq_false (by omega)
  have t3:decide ((x:Int) < 0)=false:=decide_eq_false (by omega)
  have t4:decide ((262144:Int) - (len:Int) < (x:Int))=false:=decide_eq_false (by omega)
  go_wp2_with fail
  go_loopg [2,3,12] len (fun gg s2 s3 s12 wr=>∃ at_:Nat,at_+gg=x+len∧s2=.int .i64 (at_:Int)∧s3=.int .i64 (gg:Int)∧AskAt w gS a k K J at_ gg s12 wr)
  case atStart=>exact⟨x,rfl,rfl,rfl,H0.out⟩
  case round =>
    obtain⟨at_,hat,rfl,rfl,hr⟩:=hrel
    obtain⟨s12,hs12,hr⟩:∃ u,u=_∧AskAt w gS a k K J at_ gk u wr:=⟨_,rfl,hr⟩
    subst hs12
    obtain⟨ps,m',K',hJ,h1,g1,hrow,hoff,hn⟩:=hr
    by_cases hg:gk=0
    · subst hg
      obtain rfl:at_=x+len:=by omega
      have R:=Lib.hid (show AskAt w gS a k K J (x+len) 0 s12 wr from ⟨ps,m',K',hJ,h1,g1,hrow,hoff,hn⟩)
      clear hJ h1 g1 hrow hoff hn hat
      go_wp2_with fail
      go_ret2
      exact⟨_,rfl,R.out⟩
    · have hg0:0 < gk:=by omega
      have hgl:gk≤64:=by omega
      have hxl:=HXL.out.2
      obtain⟨q,hq⟩:∃ q,q=at_ / 64:=⟨_,rfl⟩
      obtain⟨fr,hfr⟩:∃ fr,fr=at_ % 64:=⟨_,rfl⟩
      have hfr64:fr < 64:=by omega
      obtain⟨c,hc⟩:∃ c,c=min gk (64 - fr):=⟨_,rfl⟩
      have hc1:c≤gk:=by omega
      have hc2:0 < c:=by omega
      have hc3:c+fr≤64:=by omega
      have CP:=Lib.hid (HS.out at_ gk ps m' wr K' hJ hg0 hgl (by omega) h1)
      rw[← hq,← hfr,← hc] at CP
      have G1:=Lib.hid g1
      have RW:=Lib.hid hrow
      have OFF:=Lib.hid hoff
      have HN:=Lib.hid hn
      have t1:decide ((0:Int) < (gk:Int))=true:=decide_eq_true (by omega)
      have t2:(at_:Int) / 64=(q:Int):=by omega
      have t2':(at_:Int).tdiv 64=(q:Int):=by rw[Int.tdiv_eq_ediv_of_nonneg (by omega)];omega
      have t3:(at_:Int) % 64=(fr:Int):=by omega
      have t3':(at_:Int).tmod 64=(fr:Int):=by rw[Int.tmod_eq_emod_of_nonneg (by omega)];omega
      have t6:IntKind.i64.wrap ((at_:Int)+(c:Int))=((at_+c:Nat):Int):=by rw[IntKind.wrap_i64];omega
      have t7:IntKind.i64.wrap ((gk:Int) - (c:Int))=((gk - c:Nat):Int):=by rw[IntKind.wrap_i64];omega
      have HQF:=Lib.hid (And.intro hq hfr)
      have HCI:=Lib.hid (show min (gk:Int) (64 - (fr:Int))=(c:Int) from by omega)
      clear hJ h1 g1 hrow hoff hn hq hfr hc
      go_wp2_with fail
      refine CP.out.mono ?_
      rintro e w2 ⟨f,m2,hJ2,rfl,K2,h2,g2⟩
      go_upto_region 12 with fail
      rw[HCI.out]
      have hwr:∀ b,s12.ownBlock=some b→w.heap.size≤b∧b < wr.heap.size:=RW.out.lt
      have off2:∀ b,s12.ownBlock=some b→¬ K2 b:=fun b hb hk=>by
        rcases g2.nk b hk with c1 | c1
        · exact OFF.out b hb c1
        · have:=(hwr b hb).2;omega
      have RW2:=RW.out.keep (w':=w2) (fun b hb=>g2.tr.block b (hwr b hb).2 (OFF.out b hb)) g2.tr.size
      have hbV:Below w2.heap.size w2 ((w2.alloc (.cells #[.int .i64 (f:Int),.int .i64 (fr:Int),.int .i64 (c:Int)] 83)).alloc (.cells #[.int .i64 (f:Int),.int .i64 (fr:Int),.int .i64 (c:Int)] 83)):=belAl (belAl (Below.refl _ w2) _) _
      have ROW:=Lib.hid (RW2.fresh hbV)
      have hbx:Blk ((w2.alloc (.cells #[.int .i64 (f:Int),.int .i64 (fr:Int),.int .i64 (c:Int)] 83)).alloc (.cells #[.int .i64 (f:Int),.int .i64 (fr:Int),.int .i64 (c:Int)] 83)) w2.heap.size 83 #[.int .i64 (f:Int),.int .i64 (fr:Int),.int .i64 (c:Int)]:=(Blk.new w2 _ _).al _
      have HNEW:=Lib.hid (show ∀ (j:Nat) (u:Value),(pcL3 ⟨f,fr,c⟩)[j]?=some u→((w2.alloc (.cells #[.int .i64 (f:Int),.int .i64 (fr:Int),.int .i64 (c:Int)] 83)).alloc (.cells #[.int .i64 (f:Int),.int .i64 (fr:Int),.int .i64 (c:Int)] 83)).cell? ((⟨w2.heap.size+1,0,none⟩:Addr).add j)=some u from fun j u hj=>by
        have:=cells_new (w2.alloc (.cells #[.int .i64 (f:Int),.int .i64 (fr:Int),.int .i64 (c:Int)] 83)) 83 (pcL3 ⟨f,fr,c⟩) j u hj
        rw[World.size_alloc] at this
        exact this)
      have HONE:=Lib.hid (show ∀ u∈pcL3 ⟨f,fr,c⟩,u.oneCell'=true from fun u hu=>by
        simp only[pcL3,List.mem_cons,List.not_mem_nil,or_false] at hu
        rcases hu with rfl | rfl | rfl <;> rfl)
      have HQ1:=Lib.hid (show ps.length+1≤maxLen from by have:=HN.out;unfold maxLen;omega)
      have HQ2:=Lib.hid (show (ps.length+1) * 24≤140737488355328 from by have:=HN.out;omega)
      have HQ3:=Lib.hid (show w.heap.size≤((w2.alloc (.cells #[.int .i64 (f:Int),.int .i64 (fr:Int),.int .i64 (c:Int)] 83)).alloc (.cells #[.int .i64 (f:Int),.int .i64 (fr:Int),.int .i64 (c:Int)] 83)).heap.size from by have:=hbV.size;have:=g2.tr.size;have:=G1.out.tr.size;omega)
      have HBX:=Lib.hid hbx
      have H2:=Lib.hid (h2.fresh hbV)
      have G2:=Lib.hid ((G1.out.trans g2).below hbV)
      have HWR:=Lib.hid hwr
      have OFF2:=Lib.hid off2
      have HJ2:=Lib.hid hJ2
      have HSZ:=Lib.hid (show wr.heap.size≤w2.heap.size∧w2.heap.size < ((w2.alloc (.cells #[.int .i64 (f:Int),.int .i64 (fr:Int),.int .i64 (c:Int)] 83)).alloc (.cells #[.int .i64 (f:Int),.int .i64 (fr:Int),.int .i64 (c:Int)] 83)).heap.size∧∀ b,K2 b→b < w2.heap.size from ⟨g2.tr.size,by rw[World.size_alloc,World.size_alloc];omega,h2.lt⟩)
      clear hwr off2 RW2 hbV hbx h2 g2 hJ2
      go_wp2_with ((refine wpList_append_at rfl (.tmp 62) (.tmp 64) 78 rfl w.heap.size 83 iP (.agg #[.int .i64 0,.int .i64 0,.int .i64 0]) 3 24 Tryz.underlying78 HIP.out HZ.out.1 HZ.out.2.1 HZ.out.2.2 rfl (by decide) _ ps.length (flat3 ps) rfl ROW.out ⟨w2.heap.size+1,0,none⟩ 1 (pcL3 ⟨f,fr,c⟩) rfl rfl HNEW.out HONE.out HQ1.out HQ2.out HQ3.out ?_;intro v5 w5 hr5 hg5 ho5))
      have hrg:∀ b,s12.ownBlock=some b→w.heap.size≤b:=fun b hb=>(HWR.out b hb).1
      have h5:SpMem w5 gS a k K2 m2:=H2.out.far hg5.size fun b hb=>hg5.block b (H2.out.lt b hb) fun e=>OFF2.out b e.symm hb
      have g5:Went w K w5 K2:=G2.out.row hg5 hrg
      have hbx5:Blk w5 w2.heap.size 83 #[.int .i64 (f:Int),.int .i64 (fr:Int),.int .i64 (c:Int)]:=(hg5.block _ HBX.out.lt fun e=>by have:=(HWR.out _ e.symm).2;have:=HSZ.out.1;omega).trans HBX.out
      have off5:∀ b,v5.ownBlock=some b→¬ K2 b:=fun b hb hk=>by
        rcases ho5 with c1 | c1
        · exact OFF2.out b (c1 ▸ hb) hk
        · have h1:=c1 b hb
          have h2:=HSZ.out.2.2 b hk
          have h3:=HSZ.out.2.1
          omega
      have z2:w5.cell? ⟨w2.heap.size,2,none⟩=some (.int .i64 (c:Int)):=hbx5.cell 2
      have A5:=Lib.hid (show AskAt w gS a k K J (at_+c) (gk - c) v5 w5 from ⟨ps ++ [⟨f,fr,c⟩],m2,K2,HJ2.out,h5,g5,by rw[List.length_append,flat3_snoc];exact hr5,off5,by rw[List.length_append];simp only[List.length_singleton];have:=HN.out;omega⟩)
      clear hrg h5 g5 hbx5 off5 hr5 hg5 ho5
      go_wp2_with fail
      go_quiet (fail)
      go_wp2_with fail
      go_roundg (gk - c)
      case measure=>omega
      case rel=>exact⟨at_+c,by omega,by go_num,rfl,A5.out.below gS a k K w (below_drewN (Below.refl _ _) _)⟩
end
end Go.Proofs.YtaonpmclkafjdaaGreat
namespace Go.Proofs.YtaonpmclkafjdaaGreat
open Go.RowKit
set_option linter.unusedVariables false
theorem flat3_at {l:List Pc3}{j:Nat}{p:Pc3}(h:l[j]?=some p)(i:Nat)(u:Value)(hu:(pcL3 p)[i]?=some u):(flat3 l)[j * 3+i]?=some u:=by
  induction l generalizing j with
  | nil=>simp at h
  | cons a l ih =>
    show (pcL3 a ++ flat3 l)[j * 3+i]?=some u
    have hi:i < 3:=(List.getElem?_eq_some_iff.1 hu).1
    cases j with
    | zero =>
      rw[List.getElem?_append_left (by show 0 * 3+i < 3;omega),Nat.zero_mul,Nat.zero_add]
      simp at h
      rw[h]
      exact hu
    | succ j =>
      rw[List.getElem?_append_right (by show 3≤_;omega),show (j+1) * 3+i - (pcL3 a).length=j * 3+i by show (j+1) * 3+i - 3=_;omega]
      exact ih (by simpa using h)
def bytes3 (F:Nat→List Nat)(l:List Pc3):List Nat:=l.flatMap fun p=>win (F p.f) p.at_ p.n
theorem bytes3_take {F:Nat→List Nat}{l:List Pc3}{i:Nat}{p:Pc3}(h:l[i]?=some p):bytes3 F (l.take (i+1))=bytes3 F (l.take i) ++ win (F p.f) p.at_ p.n:=by
  unfold bytes3
  rw[List.take_add_one,h,List.flatMap_append]
  simp
theorem bytes3_byte {F:Nat→List Nat}{l:List Pc3}(h:∀ p∈l,∀ y∈win (F p.f) p.at_ p.n,y < 256):∀ y∈bytes3 F l,y < 256:=by
  intro y hy
  unfold bytes3 at hy
  rw[List.mem_flatMap] at hy
  obtain⟨p,hp,hy⟩:=hy
  exact h p hp y hy
theorem bytes3_few {F:Nat→List Nat}{l:List Pc3}(h:∀ p∈l,p.n≤64):(bytes3 F l).length≤64 * l.length:=by
  induction l with
  | nil=>exact Nat.zero_le _
  | cons p l ih =>
    have e:bytes3 F (p :: l)=win (F p.f) p.at_ p.n ++ bytes3 F l:=rfl
    rw[e,List.length_append,List.length_cons]
    have h1:=ih fun q hq=>h q (List.mem_cons_of_mem _ hq)
    have h2:(win (F p.f) p.at_ p.n).length≤p.n:=by unfold win;simp;omega
    have h3:=h p List.mem_cons_self
    omega
section
variable (gS:Nat)(a:SpA)(k:SpK)(K:Nat→Prop)(m:SpM)(w:World)
set_option maxRecDepth 100000 in
set_option maxHeartbeats 4000000 in
theorem read_go (ps:List Pc3) (B:Nat) (v:Value) (h:SpMem w gS a k K m) (hrow:RowAt w B 3 v ps.length (flat3 ps)) (hn:ps.length≤64) (hps:∀ p∈ps,p.f < 1024∧p.at_+p.n≤64) (hb:NoBad m.bad) :
    Calls Tryz.prog 39 #[.pointer (some ⟨gS,0,none⟩),v] w fun e w'=>∃ u,e=.returned (.tuple #[u,.int .i64 0])∧Bts w' w'.heap.size u (bytes3 m.F ps)∧NewV w u∧Below w.heap.size w w':=by
  obtain⟨iU,hiU,hz0,hz1,hz2⟩:=info_parts Tryz.info8
  have HIU:=Lib.hid hiU
  have HZ:=Lib.hid (And.intro hz0 (And.intro hz1 hz2))
  have H:=Lib.hid h
  have HR:=Lib.hid hrow
  have HN:=Lib.hid hn
  have HPS:=Lib.hid hps
  have HBD:=Lib.hid hb
  obtain⟨A,c,hv,hnc⟩:=hrow.len
  subst hv
  obtain⟨N,hN⟩:∃ N,N=ps.length:=⟨_,rfl⟩
  rw[← hN] at HR HN hnc hrow ⊢
  have HNN:=Lib.hid hN
  clear hiU hz0 hz1 hz2 h hrow hn hps hb hN
  go_enter Tryz.func39,Tryz.ntmps39
  go_wp2_with fail
  go_loopg [6,13] N (fun gg s6 s13 wr=>∃ i:Nat,i+gg=N∧s13=.int .i64 (i:Int)∧Below w.heap.size w wr∧wr.ownsRow w.heap.size 5 1 s6 (bytes3 m.F (ps.take i)).length ((bytes3 m.F (ps.take i)).map bv))
  case atStart=>exact⟨0,by omega,rfl,Below.refl _ _,World.ownsRow_nil _ _ _ _⟩
  case round =>
    obtain⟨i,hig,rfl,hbr,how⟩:=hrel
    obtain⟨s6,hs6,how⟩:∃ u,u=_∧wr.ownsRow w.heap.size 5 1 u (bytes3 m.F (ps.take i)).length ((bytes3 m.F (ps.take i)).map bv):=⟨_,rfl,how⟩
    subst hs6
    have BR:=Lib.hid hbr
    have OW:=Lib.hid how
    by_cases hlt:i < N
    · have t4:decide ((i:Int) < (N:Int))=true:=decide_eq_true (by omega)
      have t5:(i:Int) < (N:Int):=by omega
      have t6:(0:Int)≤(i:Int):=by omega
      have hix:i < ps.length:=by have:=HNN.out;omega
      obtain⟨p,hp⟩:∃ p,ps[i]?=some p:=⟨_,List.getElem?_eq_getElem hix⟩
      have hpp:=HPS.out p (List.mem_of_getElem? hp)
      have HP:=Lib.hid hp
      have RW:=Lib.hid (HR.out.fresh hbr)
      obtain⟨g,o,cap,hvv,hcc,hat⟩:=RW.out.some_ (by omega)
      injection hvv with q1 q2 q3
      subst q1
      subst q3
      have hgl:g < wr.heap.size:=(RW.out.lt g rfl).2
      have a0:wr.cell? ⟨g,o+i * 3,none⟩=some (.int .i64 (p.f:Int)):=hat (i * 3+0) _ (flat3_at hp 0 _ rfl)
      have a1:wr.cell? ⟨g,o+i * 3+1,none⟩=some (.int .i64 (p.at_:Int)):=by rw[Nat.add_assoc];exact hat (i * 3+1) _ (flat3_at hp 1 _ rfl)
      have a2:wr.cell? ⟨g,o+i * 3+2,none⟩=some (.int .i64 (p.n:Int)):=by rw[Nat.add_assoc];exact hat (i * 3+2) _ (flat3_at hp 2 _ rfl)
      obtain⟨hpf,hpn⟩:=hpp
      have hW:Below w.heap.size w (wr.alloc (.cells #[.int .i64 (p.f:Int),.int .i64 (p.at_:Int),.int .i64 (p.n:Int)] 83)):=belAl hbr _
      have hD:=(H.out.fresh hW).drew
      have c0:(wr.alloc (.cells #[.int .i64 (p.f:Int),.int .i64 (p.at_:Int),.int .i64 (p.n:Int)] 83)).cell? ⟨gS,0,none⟩=some (.pointer (some ⟨a.R,0,none⟩)):=hD.cells.cell 0
      have bx:Blk (wr.alloc (.cells #[.int .i64 (p.f:Int),.int .i64 (p.at_:Int),.int .i64 (p.n:Int)] 83)) wr.heap.size 83 #[.int .i64 (p.f:Int),.int .i64 (p.at_:Int),.int .i64 (p.n:Int)]:=Blk.new wr _ _
      have x0:(wr.alloc (.cells #[.int .i64 (p.f:Int),.int .i64 (p.at_:Int),.int .i64 (p.n:Int)] 83)).cell? ⟨wr.heap.size,0,none⟩=some (.int .i64 (p.f:Int)):=bx.cell 0
      have x1:(wr.alloc (.cells #[.int .i64 (p.f:Int),.int .i64 (p.at_:Int),.int .i64 (p.n:Int)] 83)).cell? ⟨wr.heap.size,1,none⟩=some (.int .i64 (p.at_:Int)):=bx.cell 1
      have x2:(wr.alloc (.cells #[.int .i64 (p.f:Int),.int .i64 (p.at_:Int),.int .i64 (p.n:Int)] 83)).cell? ⟨wr.heap.size,2,none⟩=some (.int .i64 (p.n:Int)):=bx.cell 2
      have RD:=Lib.hid (show Calls Tryz.prog 94 #[.pointer (some ⟨a.R,0,none⟩),.int .i64 (p.f:Int),.int .i64 (p.at_:Int),.int .i64 (p.n:Int)] (wr.alloc (.cells #[.int .i64 (p.f:Int),.int .i64 (p.at_:Int),.int .i64 (p.n:Int)] 83)).drew fun e w'=>∃ gb,e=.returned (.tuple #[.slice (some ⟨gb,0,none⟩) p.n p.n,.int .i64 0]) ∧
          (w'.cell? ⟨gS,0,none⟩=some (.pointer (some ⟨a.R,0,none⟩))∧w'.cell? ⟨wr.heap.size,0,none⟩=some (.int .i64 (p.f:Int))∧w'.cell? ⟨wr.heap.size,1,none⟩=some (.int .i64 (p.at_:Int))∧w'.cell? ⟨wr.heap.size,2,none⟩=some (.int .i64 (p.n:Int))) ∧
          Bts w' w'.heap.size (.slice (some ⟨gb,0,none⟩) p.n p.n) (win (m.F p.f) p.at_ p.n)∧Below wr.heap.size wr w' from
        (read_yes a.R a.F 1024 m.F m.bad p.f p.at_ p.n _ hD.ramP.1 hpf hpn (HBD.out p.f hpf)).mono (by
          rintro e w2 ⟨rfl,hb,hbel,hsz⟩
          have q:=hD.fresh hbel
          have q2:Blk w2 wr.heap.size 83 #[.int .i64 (p.f:Int),.int .i64 (p.at_:Int),.int .i64 (p.n:Int)]:=(show Blk (World.drew (wr.alloc (.cells #[.int .i64 (p.f:Int),.int .i64 (p.at_:Int),.int .i64 (p.n:Int)] 83))) wr.heap.size 83 #[.int .i64 (p.f:Int),.int .i64 (p.at_:Int),.int .i64 (p.n:Int)] from bx).below hbel bx.lt
          have hlen:=win_length (m.F p.f) p.at_ p.n (by have:=hD.ramP.1.long hpf;omega)
          have hbyte:=(hD.ramP.1.bts (B:=a.F+1) hpf hpn (fun _=>rfl) (Nat.lt_succ_self _)).byte
          exact⟨_,rfl,⟨q.cells.cell 0,q2.cell 0,q2.cell 1,q2.cell 2⟩,Bts.of_whole hb hlen (by unfold maxLen;omega) hbyte,((belAl (Below.refl _ wr) _).drew).trans (hbel.mono (by show wr.heap.size≤(wr.alloc _).heap.size;rw[World.size_alloc];omega))⟩))
      have HL:=Lib.hid (win_length (m.F p.f) p.at_ p.n (by have:=hD.ramP.1.long hpf;omega))
      have HPF:=Lib.hid (And.intro hpf hpn)
      clear hbr how hp hat hix hW hD bx hpf hpn
      go_wp2_with fail
      go_region_held3 (fun w'=>w'.cell? ⟨gS,0,none⟩=some (.pointer (some ⟨a.R,0,none⟩))∧w'.cell? ⟨wr.heap.size,0,none⟩=some (.int .i64 (p.f:Int))∧w'.cell? ⟨wr.heap.size,1,none⟩=some (.int .i64 (p.at_:Int))∧w'.cell? ⟨wr.heap.size,2,none⟩=some (.int .i64 (p.n:Int)))
        (first | assumption | exact⟨c0,x0,x1,x2⟩)
        ((go_at_call 94;refine RD.out.mono ?_;rintro e w' ⟨gb,rfl,hS,hbb,hbl⟩))
      have OW2:=Lib.hid (own_freshA OW.out hbl)
      have HB:=Lib.hid hbb
      have HBL:=Lib.hid hbl
      have HLN:=Lib.hid (show (bytes3 m.F (ps.take i)).length≤4096 from by
        have h1:=bytes3_few (F:=m.F) (l:=ps.take i) fun q hq=>by have:=(HPS.out q (List.mem_of_mem_take hq)).2;omega
        have h2:(ps.take i).length≤i:=by rw[List.length_take];omega
        have h3:=HN.out
        omega)
      have HW0:=Lib.hid (show w.heap.size≤w'.heap.size from Nat.le_trans BR.out.size hbl.size)
      clear hbb hbl hS c0 x0 x1 x2
      go_wp2_with (at_builtin;refine wpList_append_bts rfl (.tmp 34) (.tmp 35) 22 rfl w.heap.size 5 iU Tryz.underlying22 HIU.out HZ.out.1 HZ.out.2.1 HZ.out.2.2 _ _ _ rfl OW2.out _ (win (m.F p.f) p.at_ p.n) rfl _ HB.out (by rw[HL.out];have:=HLN.out;have:=HPF.out.2;omega) HW0.out ?_;intro v3 w3 O3 B3)
      have O4:w3.ownsRow w.heap.size 5 1 v3 (bytes3 m.F (ps.take (i+1))).length ((bytes3 m.F (ps.take (i+1))).map bv):=by
        rw[bytes3_take HP.out,List.length_append]
        exact O3.out
      have B4:Below w.heap.size w w3:=(BR.out.trans (HBL.out.mono BR.out.size)).trans B3.out
      have O5:=Lib.hid O4
      have B5:=Lib.hid B4
      clear O4 B4
      go_wp2_with fail
      go_roundg (N - (i+1))
      case measure=>omega
      case rel=>exact⟨i+1,by omega,congrArg (Value.int .i64) (by have:=HN.out;simp only[wrap64];omega),B5.out,O5.out⟩
    · have hiN:i=N:=by omega
      subst hiN
      have t4:decide ((i:Int) < (i:Int))=false:=decide_eq_false (by omega)
      have FIN:=Lib.hid (show Bts wr wr.heap.size s6 (bytes3 m.F ps)∧NewV w s6∧Below w.heap.size w wr from by
        have e:ps.take i=ps:=List.take_of_length_le (by have:=HNN.out;omega)
        have ho:=OW.out
        rw[e] at ho
        have hM:=(H.out.fresh BR.out).ramP.1
        refine⟨Bts.of_own ho (bytes3_byte fun p hp=>?_),fun x n c hv hn=>own_new ho (Nat.le_refl _) x n c hv,BR.out⟩
        have h1:=HPS.out p hp
        exact (hM.bts (B:=a.F+1) h1.1 h1.2 (fun _=>rfl) (Nat.lt_succ_self _)).byte)
      clear hbr how
      go_wp2_with fail
      go_ret2
      exact⟨_,rfl,FIN.out⟩
end
end Go.Proofs.YtaonpmclkafjdaaGreat
namespace Go.Proofs.YtaonpmclkafjdaaGreat
open Go.RowKit
set_option linter.unusedVariables false
section
variable (gS:Nat)(a:SpA)(k:SpK)(K:Nat→Prop)(m:SpM)(w:World)
def ReadOk (J:Nat→Nat→List Pc3→SpM→Prop)(x:Nat):Prop:=∀ ps m,J x 0 ps m→NoBad m.bad∧∀ p∈ps,p.f < 1024∧p.at_+p.n≤64
set_option maxRecDepth 100000 in
set_option maxHeartbeats 4000000 in
theorem loads_go (J:Nat→Nat→List Pc3→SpM→Prop) (n:Int) (x len:Nat)
    (hA:Calls Tryz.prog 38 #[.pointer (some ⟨gS,0,none⟩),.int .i64 n,.int .i64 (x:Int),.int .i64 (len:Int),.bool false] w fun e w'=>∃ v,e=.returned (.tuple #[v,.int .i64 0])∧AskAt w gS a k K J (x+len) 0 v w')
    (hJ:ReadOk J (x+len)) :
    Calls Tryz.prog 24 #[.pointer (some ⟨gS,0,none⟩),.int .i64 n,.int .i64 (x:Int),.int .i64 (len:Int)] w fun e w'=>∃ (u:Value) (ps:List Pc3) (m':SpM) (K':Nat→Prop),e=.returned (.tuple #[u,.int .i64 0])∧J (x+len) 0 ps m'∧Bts w' w'.heap.size u (bytes3 m'.F ps)∧Off K' u∧SpMem w' gS a k K' m'∧Went w K w' K':=by
  have HA:=Lib.hid hA
  have HJ:=Lib.hid hJ
  clear hA hJ
  go_enter Tryz.func24,Tryz.ntmps24
  go_wp2_with fail
  refine HA.out.mono ?_
  rintro e w2 ⟨v,rfl,ps,m',K',hj,h2,g2,hrow,hoff,hn⟩
  obtain⟨hb,hps⟩:=HJ.out ps m' hj
  have RD:=Lib.hid (show Calls Tryz.prog 39 #[.pointer (some ⟨gS,0,none⟩),v] w2 fun e w'=>∃ u:Value,e=.returned (.tuple #[u,.int .i64 0])∧(J (x+len) 0 ps m'∧Bts w' w'.heap.size u (bytes3 m'.F ps)∧Off K' u∧SpMem w' gS a k K' m'∧Went w K w' K') from
    (read_go gS a k K' m' w2 ps w.heap.size v h2 hrow (by omega) hps hb).mono (by
      rintro e w3 ⟨u,rfl,q1,q2,q3⟩
      exact⟨u,rfl,hj,q1,fun b o s n c he h0 hk=>by have h5:w2.heap.size≤b:=q2 _ _ _ he h0;have:=h2.lt b hk;omega,h2.fresh q3,g2.below q3⟩))
  obtain⟨A,c,hv,-⟩:=hrow.len
  subst hv
  clear h2 g2 hrow hoff hn hb hps
  go_wp2_with fail
  refine RD.out.mono ?_
  rintro e w3 ⟨u,rfl,hR⟩
  have R:=Lib.hid hR
  clear hR
  go_wp2_with fail
  go_ret2
  exact⟨u,ps,m',K',rfl,R.out⟩
end
end Go.Proofs.YtaonpmclkafjdaaGreat
namespace Go.Proofs.YtaonpmclkafjdaaGreat
open Go.RowKit
set_option linter.unusedVariables false
def wrote (m:SpM)(p:Pc3)(ys:List Nat):SpM :=
  (m.setF (upd m.F p.f (over (m.F p.f) p.at_ ys))).setC (match pageC m.c (p.f:Int) with | some kk=>markC m.c kk true | none=>m.c)
def wroteM:SpM→List Pc3→List Nat→SpM
  | m,[],_=>m
  | m,p :: ps,ys=>wroteM (wrote m p (ys.take p.n)) ps (ys.drop p.n)
def lenP:List Pc3→Nat
  | []=>0
  | p :: ps=>p.n+lenP ps
structure WriteOk (m:SpM)(ps:List Pc3):Prop where
  bad:NoBad m.bad
  lt:∀ p∈ps,p.f < 1024∧p.at_+p.n≤64∧0 < p.n
  tab:∀ p∈ps,∀ n y,m.x n=some y→∀ f∈y.t.t,f≠p.f
  key:∀ p∈ps,∀ kk,pageC m.c (p.f:Int)=some kk→WPlc kk
theorem drop_at {ps:List Pc3}{i:Nat}{p:Pc3}(h:ps[i]?=some p):ps.drop i=p :: ps.drop (i+1):=by
  obtain⟨hi,he⟩:=List.getElem?_eq_some_iff.1 h
  rw[List.drop_eq_getElem_cons hi,he]
theorem bts_went {w w':World}{K K':Nat→Prop}{v:Value}{b:List Nat}(h:Bts w w.heap.size v b)(ho:Off K v)(g:Went w K w' K'):Bts w' w'.heap.size v b∧Off K' v:=by
  have h0:=h
  obtain⟨A,n,c,rfl,hl,hm,⟨hnc,hA⟩,hc,hb,hx⟩:=h
  refine⟨⟨A,n,c,rfl,hl,hm,⟨hnc,hA⟩,hc,hb,fun hn=>?_⟩,fun b' o s n' c' e hn hk=>?_⟩
  · obtain⟨g1,o,rfl,hlt,hat⟩:=hx hn
    have hk:=ho g1 o none n c rfl hn
    have e:=g.tr.block g1 hlt hk
    refine⟨g1,o,rfl,Nat.lt_of_lt_of_le hlt g.tr.size,fun j hj=>?_⟩
    rw[show w'.cell? ⟨g1,o+j,none⟩=w.cell? ⟨g1,o+j,none⟩ from cell_of_heap e]
    exact hat j hj
  · injection e with e1 e2 e3
    subst e1 e2 e3
    obtain⟨g1,o1,e4,hlt,-⟩:=hx hn
    injection e4 with e4
    injection e4 with e4 e5 e6
    subst e4
    rcases g.nk b' hk with c1 | c1
    · exact ho _ _ _ _ _ rfl hn c1
    · omega
section
variable (gS:Nat)(a:SpA)(k:SpK)(K:Nat→Prop)(m:SpM)(w:World)
def StoAt (w:World)(gS:Nat)(a:SpA)(k:SpK)(K:Nat→Prop)(M:SpM)(row:Value)(all ps:List Pc3)(s3:Value)(wr:World):Prop :=
  ∃ mi Ki ys,SpMem wr gS a k Ki mi∧Went w K wr Ki∧wroteM mi ps ys=M∧Bts wr wr.heap.size s3 ys∧Off Ki s3∧ys.length=lenP ps∧WriteOk mi ps∧RowAt wr w.heap.size 3 row all.length (flat3 all)∧∀ j,row.ownBlock=some j→¬ Ki j
theorem row_went {w0 w w':World}{K K':Nat→Prop}{v:Value}{n:Nat}{xs:List Value}(h:RowAt w w0.heap.size 3 v n xs)(ho:∀ j,v.ownBlock=some j→¬ K j)(g:Went w K w' K'):RowAt w' w0.heap.size 3 v n xs∧∀ j,v.ownBlock=some j→¬ K' j :=
  ⟨h.keep (fun b hb=>g.tr.block b (h.lt b hb).2 (ho b hb)) g.tr.size,fun j hj hk=>by
    rcases g.nk j hk with c1 | c1
    · exact ho j hj c1
    · have:=(h.lt j hj).2;omega⟩
theorem WriteOk.step {m:SpM}{p:Pc3}{ps:List Pc3}(h:WriteOk m (p :: ps))(ys:List Nat):WriteOk (wrote m p ys) ps:=by
  refine⟨h.bad,fun q hq=>h.lt q (List.mem_cons_of_mem _ hq),fun q hq=>h.tab q (List.mem_cons_of_mem _ hq),fun q hq kk hk=>?_⟩
  have h1:=h.key q (List.mem_cons_of_mem _ hq)
  unfold wrote at hk
  cases hc:pageC m.c (p.f:Int) with
  | none=>rw[hc] at hk;exact h1 kk hk
  | some k0 =>
    rw[hc] at hk
    refine h1 kk ?_
    rw[← hk]
    show _=pageC (markC m.c k0 true) _
    unfold pageC markC
    generalize m.c=es
    induction es with
    | nil=>rfl
    | cons e es ih =>
      rw[List.map_cons,List.find?_cons,List.find?_cons]
      have e1:(if e.k=k0 then (⟨e.k,e.f,true⟩:Ce) else e).f=e.f:=by split <;> rfl
      have e2:(if e.k=k0 then (⟨e.k,e.f,true⟩:Ce) else e).k=e.k:=by split <;> rfl
      rw[e1]
      by_cases hf:e.f=(q.f:Int)
      · rw[decide_eq_true hf]
        exact congrArg some e2.symm
      · rw[decide_eq_false hf]
        exact ih
theorem sto_next {wr:World} {mi:SpM} {Ki:Nat→Prop} {M:SpM} {row:Value} {all ps:List Pc3} {g o l c n:Nat} {ys:List Nat} (h1:SpMem wr gS a k Ki mi) (h2:Went w K wr Ki) (h3:wroteM mi ps (ys.drop n)=M) (h4:Bts wr wr.heap.size (.slice (some ⟨g,o,none⟩) l c) ys) (h5:Off Ki (.slice (some ⟨g,o,none⟩) l c)) (h6:ys.length=n+lenP ps) (hlc:l≤c) (h7:WriteOk mi ps)
    (h8:RowAt wr w.heap.size 3 row all.length (flat3 all)) (h9:∀ j,row.ownBlock=some j→¬ Ki j):StoAt w gS a k K M row all ps (.slice (some ⟨g,o+n,none⟩) (l - n) (c - n)) wr:=by
  have h0:=h4
  obtain⟨A,l',c',e,hl,hm,hcc,hcm,hby,hx⟩:=h0
  injection e with e1 e2 e3
  subst e1 e2 e3
  have hwin:win ys n (l - n)=ys.drop n:=by
    unfold win
    rw[List.take_of_length_le]
    rw[List.length_drop]
    omega
  have hb:=h4.cut (a:=n) (k:=l - n) (c':=c - n) (by omega) (by omega) (by omega)
  rw[hwin] at hb
  refine⟨mi,Ki,ys.drop n,h1,h2,h3,hb,fun b' o' s n' c' e hn hk=>?_,by rw[List.length_drop];omega,h7,h8,h9⟩
  injection e with e1 e2 e3
  injection e1 with e1
  injection e1 with e1 e4 e5
  subst e1
  exact h5 _ _ _ _ _ rfl (by omega) hk
theorem sto_last {wr:World} {mi:SpM} {Ki:Nat→Prop} {M:SpM} {row:Value} {all ps:List Pc3} {g o l c n:Nat} {ys:List Nat} (h1:SpMem wr gS a k Ki mi) (h2:Went w K wr Ki) (h3:wroteM mi ps (ys.drop n)=M) (h4:Bts wr wr.heap.size (.slice (some ⟨g,o,none⟩) l c) ys) (h6:ys.length=n+lenP ps) (hlc:l≤c) (hl:ys.length=l) (hcn:c=n) (h7:WriteOk mi ps)
    (h8:RowAt wr w.heap.size 3 row all.length (flat3 all)) (h9:∀ j,row.ownBlock=some j→¬ Ki j):StoAt w gS a k K M row all ps (.slice (some ⟨g,o,none⟩) (l - n) 0) wr:=by
  have e0:l - n=0:=by omega
  rw[e0]
  have hb:=h4.cut (a:=0) (k:=0) (c':=0) (by omega) (by omega) (by unfold maxLen;omega)
  have e1:ys.drop n=[]:=List.drop_of_length_le (by omega)
  refine⟨mi,Ki,[],h1,h2,by rw[← e1];exact h3,hb,fun b' o' s n' c' e hn hk=>?_,by simp only[List.length_nil];omega,h7,h8,h9⟩
  injection e with _ e2 _
  omega
set_option maxRecDepth 100000 in
set_option maxHeartbeats 4000000 in
theorem store_go (J:Nat→Nat→List Pc3→SpM→Prop) (n:Int) (x:Nat) (v:Value) (ys:List Nat)
    (hA:Calls Tryz.prog 38 #[.pointer (some ⟨gS,0,none⟩),.int .i64 n,.int .i64 (x:Int),.int .i64 (ys.length:Int),.bool true] w fun e w'=>∃ v,e=.returned (.tuple #[v,.int .i64 0])∧AskAt w gS a k K J (x+ys.length) 0 v w')
    (hJ:∀ ps m,J (x+ys.length) 0 ps m→WriteOk m ps∧lenP ps=ys.length) (hv:Bts w w.heap.size v ys) (ho:Off K v) :
    Calls Tryz.prog 11 #[.pointer (some ⟨gS,0,none⟩),.int .i64 n,.int .i64 (x:Int),v] w fun e w'=>∃ ps m',J (x+ys.length) 0 ps m'∧SpEnd w gS a k K (.int .i64 0) (wroteM m' ps ys) e w':=by
  have HA:=Lib.hid hA
  have HJ:=Lib.hid hJ
  have HV:=Lib.hid (And.intro hv ho)
  obtain⟨A,l,c,rfl,hl,-⟩:=hv
  rw[hl] at HA HJ ⊢
  have HL:=Lib.hid hl
  clear hA hJ ho hl
  go_enter Tryz.func11,Tryz.ntmps11
  go_wp2_with fail
  refine HA.out.mono ?_
  rintro e w2 ⟨v2,rfl,ps,m',K',hj,h2,g2,hrow,hoff,hn⟩
  obtain⟨hwo,hlp⟩:=HJ.out ps m' hj
  obtain⟨q1,q2⟩:=bts_went HV.out.1 HV.out.2 g2
  obtain⟨A2,c2,hv2,hc2⟩:=hrow.len
  subst hv2
  obtain⟨N,hN⟩:∃ N,N=ps.length:=⟨_,rfl⟩
  have RD:=Lib.hid (show Calls Tryz.prog 39 #[.pointer (some ⟨gS,0,none⟩),.slice A2 ps.length c2] w2 fun e w'=>∃ u:Value,e=.returned (.tuple #[u,.int .i64 0])∧(StoAt w gS a k K (wroteM m' ps ys) (.slice A2 ps.length c2) ps ps (.slice A l c) w') from
    (read_go gS a k K' m' w2 ps w.heap.size _ h2 hrow (by omega) (fun p hp=>by have:=hwo.lt p hp;omega) hwo.bad).mono (by
      rintro e w3 ⟨u,rfl,-,-,q3⟩
      exact⟨u,rfl,⟨m',K',ys,h2.fresh q3,g2.below q3,rfl,(q1.below q3).more q3.size,q2,by rw[HL.out];exact hlp.symm,hwo,hrow.fresh q3,hoff⟩⟩))
  rw[← hN] at RD
  have HJ2:=Lib.hid hj
  have HN:=Lib.hid (And.intro hN (show N≤64 from by omega))
  rw[← hN] at hc2
  rw[← hN]
  clear hj h2 g2 hrow hoff hn hwo hlp q1 q2 hN
  go_wp2_with fail
  refine RD.out.mono ?_
  rintro e w3 ⟨u,rfl,hst⟩
  have ST:=Lib.hid hst
  clear hst
  go_wp2_with fail
  go_loopg [3,40] N (fun gg s3 s40 wr=>∃ i:Nat,i+gg=N∧s40=.int .i64 (i:Int)∧StoAt w gS a k K (wroteM m' ps ys) (.slice A2 N c2) ps (ps.drop i) s3 wr)
  case atStart=>exact⟨0,by omega,rfl,ST.out⟩
  case round =>
    obtain⟨i,hig,rfl,hst⟩:=hrel
    obtain⟨s3,hs3,hst⟩:∃ u,u=_∧StoAt w gS a k K (wroteM m' ps ys) (.slice A2 N c2) ps (ps.drop i) u wr:=⟨_,rfl,hst⟩
    subst hs3
    by_cases hlt:i < N
    · obtain⟨p,hp⟩:∃ p,ps[i]?=some p:=⟨_,List.getElem?_eq_getElem (by have:=HN.out.1;omega)⟩
      rw[drop_at hp] at hst
      obtain⟨mi,Ki,yi,h1,g1,hw,hb,ho3,hlen,hok,hrow,hoff⟩:=hst
      obtain⟨hpf,hpn,hp0⟩:=hok.lt p List.mem_cons_self
      have hlen2:yi.length=p.n+lenP (ps.drop (i+1)):=hlen
      obtain⟨A3,l3,c3,rfl,hl3,hm3,⟨hnc3,-⟩,-,-,hx3⟩:=id hb
      obtain⟨g3,o3,rfl,hlt3,-⟩:=hx3 (by omega)
      obtain⟨g,o,cap,hvv,hcc,hat⟩:=hrow.some_ (by have:=HN.out.1;omega)
      injection hvv with q1 q2 q3
      subst q1
      subst q3
      clear q2
      have hgl:g < wr.heap.size:=(hrow.lt g rfl).2
      have a0:wr.cell? ⟨g,o+i * 3,none⟩=some (.int .i64 (p.f:Int)):=hat (i * 3+0) _ (flat3_at hp 0 _ rfl)
      have a1:wr.cell? ⟨g,o+i * 3+1,none⟩=some (.int .i64 (p.at_:Int)):=by rw[Nat.add_assoc];exact hat (i * 3+1) _ (flat3_at hp 1 _ rfl)
      have a2:wr.cell? ⟨g,o+i * 3+2,none⟩=some (.int .i64 (p.n:Int)):=by rw[Nat.add_assoc];exact hat (i * 3+2) _ (flat3_at hp 2 _ rfl)
      have t4:decide ((i:Int) < (N:Int))=true:=decide_eq_true (by omega)
      have t5:(i:Int) < (N:Int):=by omega
      have t6:(0:Int)≤(i:Int):=by omega
      have hbW:Below wr.heap.size wr (wr.alloc (.cells #[.int .i64 (p.f:Int),.int .i64 (p.at_:Int),.int .i64 (p.n:Int)] 83)):=belAl (Below.refl _ _) _
      have hD:=(h1.fresh hbW).drew
      have bx:Blk (wr.alloc (.cells #[.int .i64 (p.f:Int),.int .i64 (p.at_:Int),.int .i64 (p.n:Int)] 83)) wr.heap.size 83 #[.int .i64 (p.f:Int),.int .i64 (p.at_:Int),.int .i64 (p.n:Int)]:=Blk.new wr _ _
      have hbx:¬ Ki wr.heap.size:=fun hk=>Nat.lt_irrefl _ (h1.lt _ hk)
      have c0:(wr.alloc (.cells #[.int .i64 (p.f:Int),.int .i64 (p.at_:Int),.int .i64 (p.n:Int)] 83)).cell? ⟨gS,0,none⟩=some (.pointer (some ⟨a.R,0,none⟩)):=hD.cells.cell 0
      have x0:(wr.alloc (.cells #[.int .i64 (p.f:Int),.int .i64 (p.at_:Int),.int .i64 (p.n:Int)] 83)).cell? ⟨wr.heap.size,0,none⟩=some (.int .i64 (p.f:Int)):=bx.cell 0
      have x1:(wr.alloc (.cells #[.int .i64 (p.f:Int),.int .i64 (p.at_:Int),.int .i64 (p.n:Int)] 83)).cell? ⟨wr.heap.size,1,none⟩=some (.int .i64 (p.at_:Int)):=bx.cell 1
      have x2:(wr.alloc (.cells #[.int .i64 (p.f:Int),.int .i64 (p.at_:Int),.int .i64 (p.n:Int)] 83)).cell? ⟨wr.heap.size,2,none⟩=some (.int .i64 (p.n:Int)):=bx.cell 2
      have hbt:Bts (World.drew (wr.alloc (.cells #[.int .i64 (p.f:Int),.int .i64 (p.at_:Int),.int .i64 (p.n:Int)] 83))) (wr.alloc (.cells #[.int .i64 (p.f:Int),.int .i64 (p.at_:Int),.int .i64 (p.n:Int)] 83)).heap.size (.slice (some ⟨g3,o3,none⟩) p.n c3) (yi.take p.n):=((hb.below hbW).more hbW.size).front p.n (by omega)
      have HW:=Lib.hid (show Calls Tryz.prog 40 #[.pointer (some ⟨a.R,0,none⟩),.int .i64 (p.f:Int),.int .i64 (p.at_:Int),.slice (some ⟨g3,o3,none⟩) p.n c3] (World.drew (wr.alloc (.cells #[.int .i64 (p.f:Int),.int .i64 (p.at_:Int),.int .i64 (p.n:Int)] 83))) fun e w'=>e=.returned (.int .i64 0) ∧
          (w'.cell? ⟨gS,0,none⟩=some (.pointer (some ⟨a.R,0,none⟩))∧w'.cell? ⟨wr.heap.size,0,none⟩=some (.int .i64 (p.f:Int))∧w'.cell? ⟨wr.heap.size,1,none⟩=some (.int .i64 (p.at_:Int))∧w'.cell? ⟨wr.heap.size,2,none⟩=some (.int .i64 (p.n:Int)))∧Blk w' wr.heap.size 83 #[.int .i64 (p.f:Int),.int .i64 (p.at_:Int),.int .i64 (p.n:Int)]∧(∃ K2,SpMem w' gS a k K2 (mi.setF (upd mi.F p.f (over (mi.F p.f) p.at_ (yi.take p.n))))∧Went wr Ki w' K2∧¬ K2 wr.heap.size) from
        (write_yes a.R a.F 1024 mi.F mi.bad p.f p.at_ _ _ (yi.take p.n) _ hD.ramP.1 hpf (by rw[List.length_take];omega) (hok.bad p.f hpf) hbt).mono (by
          intro e w' hpost
          obtain⟨rfl,hgo⟩:=ram_turn gS a k Ki mi (World.drew (wr.alloc (.cells #[.int .i64 (p.f:Int),.int .i64 (p.at_:Int),.int .i64 (p.n:Int)] 83))) hD (F':=upd mi.F p.f (over (mi.F p.f) p.at_ (yi.take p.n))) (fun n y hy f hf=>upd_other _ _ _ (hok.tab p List.mem_cons_self n y hy f hf)) hpost
          obtain⟨K2,h2,g2⟩:=id hgo
          have q2:=g2.tr.blk (show Blk (World.drew (wr.alloc (.cells #[.int .i64 (p.f:Int),.int .i64 (p.at_:Int),.int .i64 (p.n:Int)] 83))) wr.heap.size 83 #[.int .i64 (p.f:Int),.int .i64 (p.at_:Int),.int .i64 (p.n:Int)] from bx) hbx
          exact⟨rfl,⟨h2.cells.cell 0,q2.cell 0,q2.cell 1,q2.cell 2⟩,q2,K2,h2,(((Went.refl wr Ki).below hbW).drew).trans g2,fun hk=>by
            rcases g2.nk _ hk with c1 | c1
            · exact hbx c1
            · have hsz:(World.drew (wr.alloc (.cells #[.int .i64 (p.f:Int),.int .i64 (p.at_:Int),.int .i64 (p.n:Int)] 83))).heap.size=wr.heap.size+1:=World.size_alloc _ _
              omega⟩))
      have hnl:(p.n:Int)≤(l3:Int):=by omega
      have hnc:(p.n:Int)≤(c3:Int):=by omega
      have hn0:(0:Int)≤(p.n:Int):=by omega
      have ST3:=Lib.hid (show SpMem wr gS a k Ki mi∧Went w K wr Ki∧wroteM (wrote mi p (yi.take p.n)) (ps.drop (i+1)) (yi.drop p.n)=wroteM m' ps ys∧Bts wr wr.heap.size (.slice (some ⟨g3,o3,none⟩) l3 c3) yi∧Off Ki (.slice (some ⟨g3,o3,none⟩) l3 c3)∧yi.length=p.n+lenP (ps.drop (i+1))∧WriteOk mi (p :: ps.drop (i+1))∧RowAt wr w.heap.size 3 (.slice (some ⟨g,o,none⟩) N c2) ps.length (flat3 ps)∧∀ j,(Value.slice (some ⟨g,o,none⟩) N c2).ownBlock=some j→¬ Ki j from ⟨h1,g1,hw,hb,ho3,hlen2,hok,hrow,hoff⟩)
      have HP:=Lib.hid (And.intro hpf (And.intro hpn hp0))
      have HL3:=Lib.hid (And.intro hl3 hnc3)
      clear hp h1 g1 hw hb ho3 hlen hlen2 hok hrow hoff hpf hpn hp0 hat hbW hD bx hbt hbx hx3 hl3 hnc3
      go_wp2_with fail
      go_region_held3 (fun w'=>w'.cell? ⟨gS,0,none⟩=some (.pointer (some ⟨a.R,0,none⟩))∧w'.cell? ⟨wr.heap.size,0,none⟩=some (.int .i64 (p.f:Int))∧w'.cell? ⟨wr.heap.size,1,none⟩=some (.int .i64 (p.at_:Int))∧w'.cell? ⟨wr.heap.size,2,none⟩=some (.int .i64 (p.n:Int)))
        (first | assumption | exact⟨c0,x0,x1,x2⟩)
        ((go_at_call 40;refine HW.out.mono ?_;rintro e W1 ⟨rfl,hS,hbb,hgo⟩))
      obtain⟨K2,h2,g2,hbx2⟩:=hgo
      obtain⟨KC,hC,-,-⟩:=h2.cacheP
      have C0_:W1.cell? ⟨gS,4,none⟩=some (.pointer (some ⟨a.C,0,none⟩)):=h2.cells.cell 4
      have C1_:W1.cell? ⟨wr.heap.size,0,none⟩=some (.int .i64 (p.f:Int)):=hbb.cell 0
      have L0_:=h2.cells.lt
      have L1_:=hbb.lt
      have hpf:=HP.out.1
      cases hc:pageC mi.c (p.f:Int) with
      | none =>
        have GQ:=Lib.hid (fun (V:World) (hV:Below W1.heap.size W1 V)=>((cache_of a.C KC mi.c V (p.f:Int) (hC.fresh hV) (wf_nat p.f (by omega))).mono (fun e w' h=>⟨h.1.trans (by rw[hc];rfl),h.2,hV.trans (h.2.mono hV.size)⟩):Calls Tryz.prog 41 #[.pointer (some ⟨a.C,0,none⟩),.int .i64 (p.f:Int)] V fun e w'=>e=.returned (.tuple #[.agg #[.int .i64 0,.int .i64 0],.bool false])∧Below V.heap.size V w'∧Below W1.heap.size W1 w'))
        have KEEP:=Lib.hid (fun (V:World) (hV:Below W1.heap.size W1 V)=>(⟨(hV.cell (p:=⟨gS,4,none⟩) L0_).trans C0_,(hV.cell (p:=⟨wr.heap.size,0,none⟩) L1_).trans C1_,hV⟩:V.cell? ⟨gS,4,none⟩=some (.pointer (some ⟨a.C,0,none⟩))∧V.cell? ⟨wr.heap.size,0,none⟩=some (.int .i64 (p.f:Int))∧Below W1.heap.size W1 V))
        have PB:=Lib.hid (fun (V:World) (hV:V.cell? ⟨gS,4,none⟩=some (.pointer (some ⟨a.C,0,none⟩))∧V.cell? ⟨wr.heap.size,0,none⟩=some (.int .i64 (p.f:Int))∧Below W1.heap.size W1 V)=>hV.2.2)
        have BR:=Lib.hid (Below.refl W1.heap.size W1)
        have GA:=Lib.hid (show Calls Tryz.prog 41 #[.pointer (some ⟨a.C,0,none⟩),.int .i64 (p.f:Int)] (W1.alloc (.cells #[.int .i64 0,.int .i64 0] 85)).drew fun e w'=>e=.returned (.tuple #[.agg #[.int .i64 0,.int .i64 0],.bool false])∧w'.cell? ⟨W1.heap.size,0,none⟩=some (.int .i64 0)∧w'.cell? ⟨W1.heap.size,1,none⟩=some (.int .i64 0)∧w'.frozen? ⟨W1.heap.size,0,none⟩=false∧w'.frozen? ⟨W1.heap.size,1,none⟩=false∧(∀ u0 u1,Below W1.heap.size W1 ((w'.setCell ⟨W1.heap.size,0,none⟩ u0).setCell ⟨W1.heap.size,1,none⟩ u1))∧Blk w' W1.heap.size 85 #[.int .i64 0,.int .i64 0]∧Below W1.heap.size W1 w' from (GQ.out _ (belAl (Below.refl _ W1) _).drew).mono (fun e w' h=>by
          have hz:Blk w' W1.heap.size 85 #[.int .i64 0,.int .i64 0]:=(show Blk (W1.alloc (.cells #[.int .i64 0,.int .i64 0] 85)).drew W1.heap.size 85 #[.int .i64 0,.int .i64 0] from Blk.new W1 _ _).below h.2.1 (Blk.lt (w:=(W1.alloc (.cells #[.int .i64 0,.int .i64 0] 85)).drew) (Blk.new W1 _ _))
          exact⟨h.1,hz.cell 0,hz.cell 1,hz.frozen 0,hz.frozen 1,fun u0 u1=>((h.2.2.setCell (Nat.le_refl _) u0).setCell (Nat.le_refl _) u1),hz,h.2.2⟩))
        have HBB:=Lib.hid hbb
        have HGO:=Lib.hid (And.intro h2 g2)
        have HBX2:=Lib.hid hbx2
        have HCC:=Lib.hid hc
        clear hc hbb h2 g2 hbx2 hC C0_ C1_ L0_ L1_ hS c0 x0 x1 x2
        go_wp2_with fail
        go_cut [15,16] from 57 to 66 (fun sA sB wx=>∃ g,sA=.pointer (some ⟨g,0,none⟩)∧sB=.bool false∧Blk wx g 85 #[.int .i64 0,.int .i64 0]∧W1.heap.size≤g∧Below W1.heap.size W1 wx)
        case first =>
          go_region_held3 (fun w'=>w'.cell? ⟨gS,4,none⟩=some (.pointer (some ⟨a.C,0,none⟩))∧w'.cell? ⟨wr.heap.size,0,none⟩=some (.int .i64 (p.f:Int))∧Below W1.heap.size W1 w')
            (first | with_reducible assumption | with_reducible exact KEEP.out _ BR.out.drew | with_reducible exact KEEP.out _ (hsb _ _) | with_reducible exact KEEP.out _ (belAl (PB.out _ (by with_reducible assumption)) _) | with_reducible exact KEEP.out _ (belAl (by with_reducible assumption) _) | with_reducible exact KEEP.out _ (belAl BR.out _).drew | with_reducible exact KEEP.out _ (PB.out _ (by with_reducible assumption)) | with_reducible exact KEEP.out _ (by with_reducible assumption))
            (first | (go_at_call 41;refine GA.out.mono ?_;rintro e w' ⟨rfl,z0,z1,f0,f1,hsb,hz,hbB⟩) | (go_at_call 41;refine (GQ.out _ ?_).mono ?_;(first | assumption | exact PB.out _ (by assumption));rintro e w' ⟨rfl,hbA,hbB⟩))
          all_goals (go_wp2_with fail;go_meet)
          all_goals (first | exact⟨_,rfl,rfl,((hz.set_ 0 _).set_ 1 _),Nat.le_refl _,hsb _ _⟩ | exact⟨_,rfl,rfl,Blk.new w' _ _,hbB.size,belAl hbB _⟩)
        case rest =>
          obtain⟨gk,rfl,rfl,hgk,hgs,hbg⟩:=hcut
          have h3:=HGO.out.1.fresh hbg
          have gg3:=HGO.out.2.below hbg
          have b3:=HBB.out.below hbg HBB.out.lt
          have z2:wc.cell? ⟨wr.heap.size,2,none⟩=some (.int .i64 (p.n:Int)):=b3.cell 2
          have S9:=Lib.hid (show (¬ c3=p.n→StoAt w gS a k K (wroteM m' ps ys) (.slice (some ⟨g,o,none⟩) N c2) ps (ps.drop (i+1)) (.slice (some ⟨g3,o3+p.n,none⟩) (l3 - p.n) (c3 - p.n)) wc)∧(c3=p.n→StoAt w gS a k K (wroteM m' ps ys) (.slice (some ⟨g,o,none⟩) N c2) ps (ps.drop (i+1)) (.slice (some ⟨g3,o3,none⟩) (l3 - p.n) 0) wc) from by
            obtain⟨s1,s2,s3,s4,s5,s6,s7,s8,s9⟩:=ST3.out
            have ew:wrote mi p (yi.take p.n)=mi.setF (upd mi.F p.f (over (mi.F p.f) p.at_ (yi.take p.n))):=by
              unfold wrote
              rw[HCC.out]
              try rfl
            obtain⟨r1,r2⟩:=row_went s8 s9 gg3
            obtain⟨q1,q2⟩:=bts_went s4 s5 gg3
            exact⟨fun _=>sto_next gS a k K w h3 (s2.trans gg3) (by rw[← ew];exact s3) q1 q2 s6 HL3.out.2 (by rw[← ew];exact s7.step _) r1 r2,
              fun hcn=>sto_last gS a k K w h3 (s2.trans gg3) (by rw[← ew];exact s3) q1 s6 HL3.out.2 HL3.out.1 hcn (by rw[← ew];exact s7.step _) r1 r2⟩)
          clear h3 gg3 b3 hgs hbg hgk
          go_wp2_with fail
          · go_roundg (N - (i+1))
            case measure=>omega
            case rel=>exact⟨i+1,by omega,congrArg (Value.int .i64) (by have:=HN.out.2;simp only[wrap64];omega),S9.out.2 (by assumption)⟩
          · go_roundg (N - (i+1))
            case measure=>omega
            case rel=>exact⟨i+1,by omega,congrArg (Value.int .i64) (by have:=HN.out.2;simp only[wrap64];omega),S9.out.1 (by assumption)⟩
      | some kk =>
        have GQ:=Lib.hid (fun (V:World) (hV:Below W1.heap.size W1 V)=>((cache_of a.C KC mi.c V (p.f:Int) (hC.fresh hV) (wf_nat p.f (by omega))).mono (fun e w' h=>⟨h.1.trans (by rw[hc];rfl),h.2,hV.trans (h.2.mono hV.size)⟩):Calls Tryz.prog 41 #[.pointer (some ⟨a.C,0,none⟩),.int .i64 (p.f:Int)] V fun e w'=>e=.returned (.tuple #[.agg #[.int .i64 kk.c,.int .i64 kk.g],.bool true])∧Below V.heap.size V w'∧Below W1.heap.size W1 w'))
        have KEEP:=Lib.hid (fun (V:World) (hV:Below W1.heap.size W1 V)=>(⟨(hV.cell (p:=⟨gS,4,none⟩) L0_).trans C0_,(hV.cell (p:=⟨wr.heap.size,0,none⟩) L1_).trans C1_,hV⟩:V.cell? ⟨gS,4,none⟩=some (.pointer (some ⟨a.C,0,none⟩))∧V.cell? ⟨wr.heap.size,0,none⟩=some (.int .i64 (p.f:Int))∧Below W1.heap.size W1 V))
        have PB:=Lib.hid (fun (V:World) (hV:V.cell? ⟨gS,4,none⟩=some (.pointer (some ⟨a.C,0,none⟩))∧V.cell? ⟨wr.heap.size,0,none⟩=some (.int .i64 (p.f:Int))∧Below W1.heap.size W1 V)=>hV.2.2)
        have BR:=Lib.hid (Below.refl W1.heap.size W1)
        have GA:=Lib.hid (show Calls Tryz.prog 41 #[.pointer (some ⟨a.C,0,none⟩),.int .i64 (p.f:Int)] (W1.alloc (.cells #[.int .i64 0,.int .i64 0] 85)).drew fun e w'=>e=.returned (.tuple #[.agg #[.int .i64 kk.c,.int .i64 kk.g],.bool true])∧w'.cell? ⟨W1.heap.size,0,none⟩=some (.int .i64 0)∧w'.cell? ⟨W1.heap.size,1,none⟩=some (.int .i64 0)∧w'.frozen? ⟨W1.heap.size,0,none⟩=false∧w'.frozen? ⟨W1.heap.size,1,none⟩=false∧(∀ u0 u1,Below W1.heap.size W1 ((w'.setCell ⟨W1.heap.size,0,none⟩ u0).setCell ⟨W1.heap.size,1,none⟩ u1))∧Blk w' W1.heap.size 85 #[.int .i64 0,.int .i64 0]∧Below W1.heap.size W1 w' from (GQ.out _ (belAl (Below.refl _ W1) _).drew).mono (fun e w' h=>by
          have hz:Blk w' W1.heap.size 85 #[.int .i64 0,.int .i64 0]:=(show Blk (W1.alloc (.cells #[.int .i64 0,.int .i64 0] 85)).drew W1.heap.size 85 #[.int .i64 0,.int .i64 0] from Blk.new W1 _ _).below h.2.1 (Blk.lt (w:=(W1.alloc (.cells #[.int .i64 0,.int .i64 0] 85)).drew) (Blk.new W1 _ _))
          exact⟨h.1,hz.cell 0,hz.cell 1,hz.frozen 0,hz.frozen 1,fun u0 u1=>((h.2.2.setCell (Nat.le_refl _) u0).setCell (Nat.le_refl _) u1),hz,h.2.2⟩))
        have HBB:=Lib.hid hbb
        have HGO:=Lib.hid (And.intro h2 g2)
        have HBX2:=Lib.hid hbx2
        have HCC:=Lib.hid hc
        clear hc hbb h2 g2 hbx2 hC C0_ C1_ L0_ L1_ hS c0 x0 x1 x2
        go_wp2_with fail
        go_cut [15,16] from 57 to 66 (fun sA sB wx=>∃ g,sA=.pointer (some ⟨g,0,none⟩)∧sB=.bool true∧Blk wx g 85 #[.int .i64 kk.c,.int .i64 kk.g]∧W1.heap.size≤g∧Below W1.heap.size W1 wx)
        case first =>
          go_region_held3 (fun w'=>w'.cell? ⟨gS,4,none⟩=some (.pointer (some ⟨a.C,0,none⟩))∧w'.cell? ⟨wr.heap.size,0,none⟩=some (.int .i64 (p.f:Int))∧Below W1.heap.size W1 w')
            (first | with_reducible assumption | with_reducible exact KEEP.out _ BR.out.drew | with_reducible exact KEEP.out _ (hsb _ _) | with_reducible exact KEEP.out _ (belAl (PB.out _ (by with_reducible assumption)) _) | with_reducible exact KEEP.out _ (belAl (by with_reducible assumption) _) | with_reducible exact KEEP.out _ (belAl BR.out _).drew | with_reducible exact KEEP.out _ (PB.out _ (by with_reducible assumption)) | with_reducible exact KEEP.out _ (by with_reducible assumption))
            (first | (go_at_call 41;refine GA.out.mono ?_;rintro e w' ⟨rfl,z0,z1,f0,f1,hsb,hz,hbB⟩) | (go_at_call 41;refine (GQ.out _ ?_).mono ?_;(first | assumption | exact PB.out _ (by assumption));rintro e w' ⟨rfl,hbA,hbB⟩))
          all_goals (go_wp2_with fail;go_meet)
          all_goals (first | exact⟨_,rfl,rfl,((hz.set_ 0 _).set_ 1 _),Nat.le_refl _,hsb _ _⟩ | exact⟨_,rfl,rfl,Blk.new w' _ _,hbB.size,belAl hbB _⟩)
        case rest =>
          obtain⟨gk,rfl,rfl,hgk,hgs,hbg⟩:=hcut
          have h3:=HGO.out.1.fresh hbg
          have gg3:=HGO.out.2.below hbg
          have b3:=HBB.out.below hbg HBB.out.lt
          obtain⟨KC3,hC3,-,hl3⟩:=h3.drew.cacheP
          have HM:=Lib.hid (cache_mark a.C KC3 mi.c wc.drew kk true hC3 (ST3.out.2.2.2.2.2.2.1.key p List.mem_cons_self kk HCC.out))
          have HLC:=Lib.hid (hl3 (markC mi.c kk true))
          have y0:wc.cell? ⟨gk,0,none⟩=some (.int .i64 kk.c):=hgk.cell 0
          have y1:wc.cell? ⟨gk,1,none⟩=some (.int .i64 kk.g):=hgk.cell 1
          have y4:wc.cell? ⟨gS,4,none⟩=some (.pointer (some ⟨a.C,0,none⟩)):=h3.cells.cell 4
          have G3:=Lib.hid gg3.drew
          have B3:=Lib.hid b3
          clear h3 gg3 b3 hC3 hl3 hgs hbg hgk
          go_wp2_with fail
          go_still_tail 5,(by kernel_rfl)
          change wpList _ _ _ _ _ wc.drew
          go_wp2_with fail
          refine HM.out.mono ?_
          rintro e w4 ⟨K4,rfl,h4,n4,t4'⟩
          obtain⟨K5,h5,g5⟩:=HLC.out w4 K4 h4 n4 t4'
          have gg:=G3.out.trans g5
          have b4:=g5.tr.blk (show Blk wc.drew wr.heap.size 83 #[.int .i64 (p.f:Int),.int .i64 (p.at_:Int),.int .i64 (p.n:Int)] from B3.out) HBX2.out
          have z2:w4.cell? ⟨wr.heap.size,2,none⟩=some (.int .i64 (p.n:Int)):=b4.cell 2
          have S9:=Lib.hid (show (¬ c3=p.n→StoAt w gS a k K (wroteM m' ps ys) (.slice (some ⟨g,o,none⟩) N c2) ps (ps.drop (i+1)) (.slice (some ⟨g3,o3+p.n,none⟩) (l3 - p.n) (c3 - p.n)) w4)∧(c3=p.n→StoAt w gS a k K (wroteM m' ps ys) (.slice (some ⟨g,o,none⟩) N c2) ps (ps.drop (i+1)) (.slice (some ⟨g3,o3,none⟩) (l3 - p.n) 0) w4) from by
            obtain⟨s1,s2,s3,s4,s5,s6,s7,s8,s9⟩:=ST3.out
            have ew:wrote mi p (yi.take p.n)=(mi.setF (upd mi.F p.f (over (mi.F p.f) p.at_ (yi.take p.n)))).setC (markC mi.c kk true):=by
              unfold wrote
              rw[HCC.out]
              try rfl
            obtain⟨r1,r2⟩:=row_went s8 s9 gg
            obtain⟨q1,q2⟩:=bts_went s4 s5 gg
            exact⟨fun _=>sto_next gS a k K w h5 (s2.trans gg) (by rw[← ew];exact s3) q1 q2 s6 HL3.out.2 (by rw[← ew];exact s7.step _) r1 r2,
              fun hcn=>sto_last gS a k K w h5 (s2.trans gg) (by rw[← ew];exact s3) q1 s6 HL3.out.2 HL3.out.1 hcn (by rw[← ew];exact s7.step _) r1 r2⟩)
          clear h4 n4 t4' h5 g5 gg b4
          go_wp2_with fail
          · go_roundg (N - (i+1))
            case measure=>omega
            case rel=>exact⟨i+1,by omega,congrArg (Value.int .i64) (by have:=HN.out.2;simp only[wrap64];omega),S9.out.2 (by assumption)⟩
          · go_roundg (N - (i+1))
            case measure=>omega
            case rel=>exact⟨i+1,by omega,congrArg (Value.int .i64) (by have:=HN.out.2;simp only[wrap64];omega),S9.out.1 (by assumption)⟩
    · have hiN:i=N:=by omega
      subst hiN
      have hst2:=hst
      obtain⟨mi,Ki,yi,h1,g1,hw,-⟩:=hst2
      have e:ps.drop i=[]:=List.drop_of_length_le (by have:=HN.out.1;omega)
      rw[e] at hw
      have t4:decide ((i:Int) < (i:Int))=false:=decide_eq_false (by omega)
      have FIN:=Lib.hid (show SpGo w gS a k K (wroteM m' ps ys) wr from ⟨Ki,by rw[← hw];exact h1,g1⟩)
      clear hst h1 g1 hw e
      go_wp2_with fail
      go_ret
      exact⟨ps,m',HJ2.out,rfl,FIN.out⟩
end
end Go.Proofs.YtaonpmclkafjdaaGreat
namespace Go.Proofs.YtaonpmclkafjdaaGreat
open Go.RowKit
set_option linter.unusedVariables false
structure Sees (ex:Nat→Nat→Prop)(m:SpM)(W:UW):Prop where
  pr:∀ n,W.pr n=(m.x n).map fun y=>⟨y.a,y.q.map (·.g)⟩
  qc:∀ n y,m.x n=some y→∀ p∈y.q,p.c=(n:Int)
  fl:∀ i j,i < 64→j < 64→W.fl i j=fileM m i j
  page:∀ n pg j,j < 64→W.area n pg≠none→W.page n pg j=pageM m n pg j
  own:∀ n pg r,W.area n pg=some r→r.kd≠1→¬ ex n pg→(W.own n pg=none↔¬ hasAnon m n pg)
  out:∀ n pg,W.area n pg=none→W.own n pg=none
section
variable {ex ex':Nat→Nat→Prop}{m m1:SpM}{W W':UW}{n pg:Nat}{A:Nat→Nat→Option Ar}
theorem Sees.area (h:Sees ex m W)(n pg:Nat):W.area n pg=arM m n pg:=by
  unfold UW.area arM
  rw[h.pr]
  cases m.x n <;> rfl
theorem Sees.proc (h:Sees ex m W)(hp:W.pr n≠none):∃ y,m.x n=some y∧W.pr n=some ⟨y.a,y.q.map (·.g)⟩:=by
  have e:=h.pr n
  cases c:m.x n with
  | none=>rw[c] at e;exact absurd e hp
  | some y=>rw[c] at e;exact⟨y,rfl,e⟩
theorem Sees.stp (h:Sees ex m W) (hi:Inv A m) (s:Stq n pg m m1) (hb:∀ j,j < 64→pageM m1 n pg j=pageM m n pg j) (hx:∀ n' q,ex n' q→ex' n' q)
    (hs:¬ ex' n pg→∀ r,arM m n pg=some r→r.kd≠1→(hasAnon m1 n pg↔hasAnon m n pg)):Sees ex' m1 W:=by
  refine⟨fun n'=>?_,fun n' y hy=>?_,fun i j hi hj=>(h.fl i j hi hj).trans (s.fil i j).symm,fun n' q j hj ha=>?_,fun n' q r hr hk hne=>?_,h.out⟩
  · rw[h.pr]
    have e:=s.xs n'
    cases c:m.x n' with
    | none =>
      rw[c,Option.map_none,Option.map_eq_none_iff] at e
      rw[e]
    | some y =>
      obtain⟨y1,e1,e2,e3⟩:=s.proc c
      rw[e1,Option.map_some,Option.map_some,e2,e3]
  · have e:=s.xs n'
    rw[hy,Option.map_some] at e
    obtain⟨y0,e1,e2⟩:=Option.map_eq_some_iff.1 e.symm
    injection e2 with e3 e4
    rw[← e4]
    exact h.qc n' y0 e1
  · rw[h.page n' q j hj ha]
    by_cases c:n'=n∧q=pg
    · obtain⟨rfl,rfl⟩:=c
      exact (hb j hj).symm
    · exact (s.pgs n' q j c hj).symm
  · rw[h.own n' q r hr hk (fun c=>hne (hx _ _ c))]
    by_cases c:n'=n∧q=pg
    · obtain⟨rfl,rfl⟩:=c
      rw[hs hne r ((h.area _ _).symm.trans hr) hk]
    · rw[s.ano n' q c]
theorem Sees.mono (h:Sees ex m W)(hx:∀ n' q,ex n' q→ex' n' q):Sees ex' m W:=⟨h.pr,h.qc,h.fl,h.page,fun n pg r hr hk hne=>h.own n pg r hr hk fun c=>hne (hx _ _ c),h.out⟩
theorem byte_page (W:UW)(n q j:Nat)(hj:j < 64):W.byte n (64 * q+j)=W.page n q j:=by
  unfold UW.byte
  rw[show (64 * q+j) / 64=q by omega,show (64 * q+j) % 64=j by omega]
theorem flB_page (W:UW)(i j:Nat)(hj:j < 64):W.flB (64 * i+j)=W.fl i j:=by
  unfold UW.flB
  rw[show (64 * i+j) / 64=i by omega,show (64 * i+j) % 64=j by omega]
end
theorem frameC_mark (es:CS)(k:Pl)(d:Bool)(k':Pl):frameC (markC es k d) k'=frameC es k':=by
  unfold frameC markC
  rw[List.find?_map]
  have e:((fun e:Ce=>decide (e.k=k')) ∘ fun e:Ce=>if e.k=k then (⟨e.k,e.f,d⟩:Ce) else e)=fun e:Ce=>decide (e.k=k'):=by
    funext e
    simp only[Function.comp]
    split <;> rfl
  rw[e]
  cases es.find? (fun e:Ce=>decide (e.k=k')) with
  | none=>rfl
  | some e =>
    simp only[Option.map_some]
    split <;> rfl
theorem mark_mem {es:CS}{k:Pl}{d:Bool}{e:Ce}(h:e∈markC es k d):∃ e'∈es,e'.k=e.k∧e'.f=e.f:=by
  unfold markC at h
  obtain⟨e',h1,rfl⟩:=List.mem_map.1 h
  refine⟨e',h1,?_⟩
  split <;> exact⟨rfl,rfl⟩
section
variable {ex:Nat→Nat→Prop}{m:SpM}{W:UW}{n x:Nat}{A:Nat→Nat→Option Ar}{p:Pc3}{ys:List Nat}{r:Ar}
theorem wrote_c (hk:CsOk m.c):CsOk (wrote m p ys).c∧(∀ k,frameC (wrote m p ys).c k=frameC m.c k)∧∀ e∈(wrote m p ys).c,∃ e'∈m.c,e'.k=e.k∧e'.f=e.f:=by
  have e:(wrote m p ys).c=match pageC m.c (p.f:Int) with | some kk=>markC m.c kk true | none=>m.c:=rfl
  rw[e]
  cases pageC m.c (p.f:Int) with
  | none=>exact⟨hk,fun _=>rfl,fun e he=>⟨e,he,rfl,rfl⟩⟩
  | some kk=>exact⟨csOk_mark hk,fun k=>frameC_mark _ _ _ _,fun e he=>mark_mem he⟩
theorem Inv.wrote (h:Inv A m):Inv A (wrote m p ys):=by
  obtain⟨c1,c2,c3⟩:=wrote_c (p:=p) (ys:=ys) h.cok
  refine⟨⟨h.tabs.bad,h.tabs.live,h.tabs.use,h.tabs.two⟩,h.zone,h.tok,h.x8,h.ars,fun n pg=>?_,h.back,h.srt,h.slot,h.ssrt,h.sin,c1,fun e he=>?_,h.tr⟩
  · rcases h.good n pg with (c | ⟨g,c,hg,r,hr,d⟩) | c
    · exact .inl (.inl c)
    · refine .inl (.inr ⟨g,c,hg,r,hr,?_⟩)
      rw[c2]
      exact d
    · exact .inr c
  · obtain⟨e',h1,h2,h3⟩:=c3 e he
    rw[← h2,← h3]
    exact h.ckey e' h1
theorem wrote_F (g:Nat):(wrote m p ys).F g=if g=p.f then over (m.F p.f) p.at_ ys else m.F g:=by
  show upd m.F p.f _ g=_
  by_cases c:g=p.f
  · rw[c,upd_same,if_pos rfl]
  · rw[upd_other _ _ _ c,if_neg c]
theorem wrote_page (hi:Inv A m)(n' q j:Nat)(hne:entM m n' q≠⟨1,(p.f:Int),false⟩)(hf:∀ i,fileM (wrote m p ys) i j=fileM m i j):pageM (wrote m p ys) n' q j=pageM m n' q j:=by
  rcases hi.ent_three n' q with e | ⟨f,e,_⟩ | ⟨t,e,_⟩
  · have e':entM (wrote m p ys) n' q=en0:=e
    rw[pageM_no e,pageM_no e']
    show (match arM m n' q with | some r=>if r.kd=1 then 0 else fileM (wrote m p ys) (fileIx r q) j | none=>0)=_
    cases arM m n' q with
    | none=>rfl
    | some r=>simp only[hf]
  · have e':entM (wrote m p ys) n' q=⟨1,(f:Int),false⟩:=e
    rw[pageM_in e,pageM_in e',wrote_F,if_neg]
    rintro rfl
    exact hne e
  · have e':entM (wrote m p ys) n' q=⟨2,(t:Int),false⟩:=e
    rw[pageM_slot e,pageM_slot e']
    rfl
theorem Sees.wrote_own (hi:Inv (arM m) m) (hs:Sees ex m W) (hO:Has W n r) (hk:r.kd≠2) (hat:p.at_=x % 64) (hn0:0 < p.n) (hn:p.at_+p.n≤64) (hp:HasPg m n (x / 64) p.f true) (hl:ys.length=p.n) (hF:(m.F p.f).length=64) (hin:∀ j,j < p.n→inAr r (x+j)) :
    Sees (fun n' q=>ex n' q∧¬ (n'=n∧q=x / 64)) (wrote m p ys) (storeU W n x ys):=by
  have hr:arM m n (x / 64)=some r:=by
    rw[← hs.area]
    have:=hin 0 hn0
    exact hO.area this.1 this.2
  obtain⟨hu,hone⟩:=hp.2 rfl r hr hk
  have hnc:∀ k g,frameC m.c k=some g→g≠(p.f:Int):=by
    intro k g hg e
    obtain⟨f,rfl,_,h4⟩:=hi.key_use hg
    obtain rfl:f=p.f:=by omega
    omega
  have hcf:∀ k,frameC (wrote m p ys).c k=frameC m.c k:=(wrote_c hi.cok).2.1
  have hfil:∀ i j,fileM (wrote m p ys) i j=fileM m i j:=by
    intro i j
    unfold fileM
    rw[hcf]
    cases e:frameC m.c (keyI i) with
    | none=>rfl
    | some g =>
      simp only
      rw[wrote_F,if_neg]
      intro c
      obtain⟨f,rfl,_,h4⟩:=hi.key_use e
      exact hnc _ _ e (by rw[← c];rfl)
  have honly:∀ n' q,¬ (n'=n∧q=x / 64)→entM m n' q≠⟨1,(p.f:Int),false⟩:=by
    intro n' q hne e
    have:=hone _ ((hi.back (p.f:Int) ⟨n',q⟩).2 ⟨n',q,rfl,e⟩)
    injection this with a1 a2
    exact hne (by omega)
  obtain⟨s1,s2,s3,s4,s5,s6,s7⟩:=storeU_own hk ys W x hO (fun j hj=>hin j (by omega))
  have harea:∀ n' q,(storeU W n x ys).area n' q=W.area n' q:=fun n' q=>UW.area_congr (by rw[s1]) q
  refine⟨fun n'=>by rw[s1];exact hs.pr n',hs.qc,fun i j h1 h2=>by rw[s2,hfil];exact hs.fl i j h1 h2,fun n' q j hj ha=>?_,fun n' q r' hr' hk' hne=>?_,fun n' q ha=>?_⟩
  · rw[harea] at ha
    rw[← byte_page _ _ _ _ hj,s7]
    by_cases c:n'=n∧q=x / 64
    · obtain⟨rfl,rfl⟩:=c
      have e':entM (wrote m p ys) n' (x / 64)=⟨1,(p.f:Int),false⟩:=hp.1
      rw[pageM_in e',wrote_F,if_pos rfl,over_getD _ _ _ (by omega)]
      by_cases d:p.at_≤j∧j < p.at_+ys.length
      · rw[if_pos ⟨rfl,by omega,by omega⟩,if_pos d]
        congr 1
        omega
      · rw[if_neg (by rintro⟨_,d1,d2⟩;exact d ⟨by omega,by omega⟩),if_neg d,byte_page _ _ _ _ hj,hs.page _ _ _ hj ha,pageM_in hp.1]
    · rw[if_neg (by rintro⟨d1,d2,d3⟩;exact c ⟨d1,by omega⟩),byte_page _ _ _ _ hj,hs.page _ _ _ hj ha]
      exact (wrote_page hi n' q j (honly n' q c) (fun i=>hfil i j)).symm
  · rw[harea] at hr'
    have hh:hasAnon (wrote m p ys) n' q↔hasAnon m n' q:=Iff.rfl
    rw[hh]
    by_cases c:n'=n∧q=x / 64
    · obtain⟨rfl,rfl⟩:=c
      have h1:=s5 0 (by omega)
      rw[Nat.add_zero] at h1
      exact⟨fun e=>absurd e h1,fun e=>absurd ((hasAnon_in hp.1).2 hu) e⟩
    · have e:(storeU W n x ys).own n' q=W.own n' q:=by
        by_cases d:n'=n
        · subst d
          exact s6 q fun j hj e=>c ⟨rfl,by omega⟩
        · exact s3 n' q d
      rw[e]
      exact hs.own n' q r' hr' hk' fun h=>hne ⟨h,c⟩
  · rw[harea] at ha
    have c:¬ (n'=n∧q=x / 64):=by
      rintro⟨rfl,rfl⟩
      rw[hs.area,hr] at ha
      cases ha
    have e:(storeU W n x ys).own n' q=W.own n' q:=by
      by_cases d:n'=n
      · subst d
        exact s6 q fun j hj e=>c ⟨rfl,by omega⟩
      · exact s3 n' q d
    rw[e]
    exact hs.out n' q ha
theorem Sees.wrote_shared (hi:Inv (arM m) m) (hs:Sees ex m W) (hex:∀ n q,¬ ex n q) (hO:Has W n r) (hrs:soundA r) (hk:r.kd=2) (hat:p.at_=x % 64) (hn0:0 < p.n) (hn:p.at_+p.n≤64) (hp:HasPg m n (x / 64) p.f true) (hl:ys.length=p.n) (hF:(m.F p.f).length=64) (hin:∀ j,j < p.n→inAr r (x+j)) :
    Sees ex (wrote m p ys) (storeU W n x ys):=by
  have hin0:=hin 0 hn0
  rw[Nat.add_zero] at hin0
  have hr:arM m n (x / 64)=some r:=by
    rw[← hs.area]
    exact hO.area hin0.1 hin0.2
  have hfr:0≤r.fr:=hrs.1.2.2.1
  obtain⟨hf,r',hr',hg⟩:=hi.ent_lt hp.1
  rw[hr] at hr'
  injection hr' with hr'
  subst hr'
  rcases hg with ⟨_,hg⟩ | ⟨hu,hk1,hkey⟩
  · exact absurd hk hg
  obtain⟨_,ek,_⟩:=key_ix hrs (show hasA r ((x / 64:Nat):Int) from hin0) hk1
  have hcf:∀ k,frameC (wrote m p ys).c k=frameC m.c k:=(wrote_c hi.cok).2.1
  have hfx:FA r x=64 * fileIx r (x / 64)+x % 64:=by
    have h1:=hin0.1
    unfold FA fileIx
    omega
  have hfil:∀ i j,j < 64→fileM (wrote m p ys) i j=if i=fileIx r (x / 64)∧p.at_≤j∧j < p.at_+ys.length then ys.getD (j - p.at_) 0 else fileM m i j:=by
    intro i j hj
    unfold fileM
    rw[hcf]
    by_cases c:i=fileIx r (x / 64)
    · rw[c,ek,hkey]
      simp only[Int.toNat_natCast,true_and]
      rw[wrote_F,if_pos rfl,over_getD _ _ _ (by omega)]
    · rw[if_neg (fun d=>c d.1)]
      cases e:frameC m.c (keyI i) with
      | none=>rfl
      | some g =>
        simp only
        rw[wrote_F,if_neg]
        intro d
        obtain⟨f,rfl,_,h4⟩:=hi.key_use e
        have d':f=p.f:=d
        rw[d'] at e
        have e1:=pageC_of hi.cok e
        rw[← ek] at hkey
        rw[pageC_of hi.cok hkey] at e1
        injection e1 with e1
        have e2:=keyI_inj e1
        have e3:=keyI_inj (i:=i) (k:=keyI i) rfl
        exact c (by omega)
  obtain⟨s1,s2,s3⟩:=storeU_shared hk hfr ys W x hO (fun j hj=>hin j (by omega))
  have harea:∀ n' q,(storeU W n x ys).area n' q=W.area n' q:=fun n' q=>UW.area_congr (by rw[s1]) q
  have hfl:∀ i j,i < 64→j < 64→(storeU W n x ys).fl i j=fileM (wrote m p ys) i j:=by
    intro i j h1 h2
    rw[← flB_page _ _ _ h2,s3,hfil i j h2]
    by_cases c:i=fileIx r (x / 64)∧p.at_≤j∧j < p.at_+ys.length
    · rw[if_pos c,if_pos ⟨by omega,by omega⟩]
      congr 1
      omega
    · rw[if_neg c,if_neg (by rintro⟨d1,d2⟩;exact c ⟨by omega,by omega,by omega⟩),flB_page _ _ _ h2]
      exact hs.fl i j h1 h2
  refine⟨fun n'=>by rw[s1];exact hs.pr n',hs.qc,hfl,fun n' q j hj ha=>?_,fun n' q r' hr' hk' hne=>?_,fun n' q ha=>?_⟩
  · rw[harea] at ha
    obtain⟨b,hb⟩:=Option.ne_none_iff_exists'.1 ha
    have hbm:arM m n' q=some b:=(hs.area _ _).symm.trans hb
    by_cases c:W.own n' q≠none∨b.kd=1
    · have e1:(storeU W n x ys).page n' q j=W.page n' q j:=by
        unfold UW.page
        rw[s2,harea,hb]
        cases d:W.own n' q with
        | some f=>rfl
        | none =>
          rcases c with c | c
          · exact absurd d c
          · simp only[c,if_true]
      rw[e1,hs.page _ _ _ hj ha]
      have hne:entM m n' q≠⟨1,(p.f:Int),false⟩:=by
        intro e
        obtain⟨_,b',hb',d⟩:=hi.ent_lt e
        rw[hbm] at hb'
        injection hb' with hb'
        subst hb'
        rcases d with ⟨d,_⟩ | ⟨_,d,_⟩
        · omega
        · rcases c with c | c
          · refine c ((hs.own n' q b hb d (hex _ _)).2 fun h=>?_)
            rw[hasAnon_in e] at h
            omega
          · exact d c
      rcases hi.ent_three n' q with e | ⟨f,e,_⟩ | ⟨t,e,_⟩
      · have e':entM (wrote m p ys) n' q=en0:=e
        have hb1:b.kd=1:=by
          rcases c with c | c
          · by_cases d:b.kd=1
            · exact d
            · exact absurd ((hs.own n' q b hb d (hex _ _)).2 (hasAnon_no e)) c
          · exact c
        rw[pageM_no e,pageM_no e']
        show _=(match arM m n' q with | some r=>if r.kd=1 then 0 else fileM (wrote m p ys) (fileIx r q) j | none=>0)
        rw[hbm]
        simp only[hb1,if_true]
      · have e':entM (wrote m p ys) n' q=⟨1,(f:Int),false⟩:=e
        rw[pageM_in e,pageM_in e',wrote_F,if_neg]
        rintro rfl
        exact hne e
      · have e':entM (wrote m p ys) n' q=⟨2,(t:Int),false⟩:=e
        rw[pageM_slot e,pageM_slot e']
        rfl
    · have c1:W.own n' q=none:=by
        by_cases d:W.own n' q=none
        · exact d
        · exact absurd (.inl d) c
      have c2:b.kd≠1:=fun d=>c (.inr d)
      obtain⟨y',hy'⟩:∃ y',m.x n'=some y':=by
        cases d:m.x n' with
        | none=>unfold arM at hbm;rw[d] at hbm;cases hbm
        | some y'=>exact⟨y',rfl⟩
      have hbs:=(findA_iff (hi.ars n' y' hy').1).1 ((arM_some hy' q).symm.trans hbm)
      obtain⟨⟨b1,b2,b3,b4⟩,ekb,eib⟩:=key_ix ((hi.ars n' y' hy').1.1 _ hbs.1) hbs.2 c2
      have e1:(storeU W n x ys).page n' q j=(storeU W n x ys).fl (fileIx b q) j:=by
        unfold UW.page
        rw[s2,harea,hb,c1]
        simp only[c2,if_false]
      rw[e1,hfl _ _ (by omega) hj]
      rcases hi.ent_three n' q with e | ⟨f,e,_,b',hb',d⟩ | ⟨t,e,_⟩
      · exact (file_page (m:=wrote m p ys) (n:=n') (pg:=q) hbm c2 e j).symm
      · have e':entM (wrote m p ys) n' q=⟨1,(f:Int),false⟩:=e
        rw[hbm] at hb'
        injection hb' with hb'
        subst hb'
        rw[pageM_in e']
        rcases d with ⟨d,_⟩ | ⟨_,_,d⟩
        · exact absurd ((hasAnon_in e).2 d) ((hs.own n' q b hb c2 (hex _ _)).1 c1)
        · unfold fileM
          rw[hcf,ekb,d]
          rfl
      · exact absurd (hasAnon_slot e) ((hs.own n' q b hb c2 (hex _ _)).1 c1)
  · rw[harea] at hr'
    rw[s2]
    exact hs.own n' q r' hr' hk' hne
  · rw[harea] at ha
    rw[s2]
    exact hs.out n' q ha
end
end Go.Proofs.YtaonpmclkafjdaaGreat
namespace Go.Proofs.YtaonpmclkafjdaaGreat
open Go.RowKit
set_option linter.unusedVariables false
def Pcs (m:SpM)(n:Nat)(wr:Bool):Nat→List Pc3→Prop
  | _,[]=>True
  | x,p :: ps=>(p.at_=x % 64∧0 < p.n∧p.at_+p.n≤64∧p.f < 1024)∧HasPg m n (x / 64) p.f wr∧Pcs m n wr (x+p.n) ps
theorem lenP_append (ps:List Pc3)(p:Pc3):lenP (ps ++ [p])=lenP ps+p.n:=by
  induction ps with
  | nil=>show p.n+0=0+p.n;omega
  | cons q ps ih=>show q.n+lenP (ps ++ [p])=q.n+lenP ps+p.n;omega
section
variable {m m1:SpM}{n pg:Nat}{wr:Bool}
theorem Pcs.snoc {ps:List Pc3}{p:Pc3}:∀ {x:Nat},Pcs m n wr x ps→(p.at_=(x+lenP ps) % 64∧0 < p.n∧p.at_+p.n≤64∧p.f < 1024)→HasPg m n ((x+lenP ps) / 64) p.f wr→Pcs m n wr x (ps ++ [p]):=by
  induction ps with
  | nil=>intro x _ h1 h2;exact⟨h1,h2,trivial⟩
  | cons q ps ih =>
    rintro x ⟨a1,a2,a3⟩ h1 h2
    have e:x+lenP (q :: ps)=x+q.n+lenP ps:=by show x+(q.n+lenP ps)=_;omega
    rw[e] at h1 h2
    exact⟨a1,a2,ih a3 h1 h2⟩
theorem Pcs.stp (s:Stq n pg m m1){ps:List Pc3}:∀ {x:Nat},Pcs m n wr x ps→(∀ z,x≤z→z < x+lenP ps→z / 64≠pg)→Pcs m1 n wr x ps:=by
  induction ps with
  | nil=>exact fun _ _=>trivial
  | cons q ps ih =>
    rintro x ⟨a1,a2,a3⟩ hz
    have e:x+lenP (q :: ps)=x+q.n+lenP ps:=by show x+(q.n+lenP ps)=_;omega
    rw[e] at hz
    exact⟨a1,a2.stp s (hz x (Nat.le_refl _) (by have:=a1.2.1;omega)),ih a3 fun z h1 h2=>hz z (by omega) h2⟩
theorem Pcs.all {ps:List Pc3}:∀ {x:Nat},Pcs m n wr x ps→∀ p∈ps,(p.f < 1024∧p.at_+p.n≤64∧0 < p.n)∧∃ q,HasPg m n q p.f wr:=by
  induction ps with
  | nil=>exact fun _ p hp=>absurd hp List.not_mem_nil
  | cons q ps ih =>
    rintro x ⟨a1,a2,a3⟩ p hp
    rcases List.mem_cons.1 hp with rfl | hp
    · exact⟨⟨a1.2.2.2,a1.2.2.1,a1.2.1⟩,_,a2⟩
    · exact ih a3 p hp
end
theorem bytesU_add (W:UW)(n x b c:Nat):bytesU W n x (b+c)=bytesU W n x b ++ bytesU W n (x+b) c:=by
  unfold bytesU
  rw[List.range_add,List.map_append,List.map_map]
  congr 1
  refine List.map_congr_left fun j _=>?_
  show W.byte n (x+(b+j))=W.byte n (x+b+j)
  rw[Nat.add_assoc]
theorem win_page {ex:Nat→Nat→Prop}{m:SpM}{W:UW}{n x f k:Nat}(hs:Sees ex m W)(he:entM m n (x / 64)=⟨1,(f:Int),false⟩)(ha:W.area n (x / 64)≠none)(hF:(m.F f).length=64)(hk:x % 64+k≤64):win (m.F f) (x % 64) k=bytesU W n x k:=by
  refine List.ext_getElem ?_ fun j h1 h2=>?_
  · rw[win_length _ _ _ (by omega),bytesU_length]
  · rw[win_length _ _ _ (by omega)] at h1
    have e1:(win (m.F f) (x % 64) k)[j]'(by rw[win_length _ _ _ (by omega)];exact h1)=(win (m.F f) (x % 64) k).getD j 0:=by
      rw[List.getD_eq_getElem?_getD,List.getElem?_eq_getElem (by rw[win_length _ _ _ (by omega)];exact h1)]
      rfl
    rw[e1,win_getD _ _ _ _ h1]
    simp only[bytesU,List.getElem_map,List.getElem_range]
    have e2:x+j=64 * (x / 64)+(x % 64+j):=by omega
    rw[e2,byte_page _ _ _ _ (by omega),hs.page _ _ _ (by omega) ha,pageM_in he]
theorem pcs_bytes {ex:Nat→Nat→Prop}{m:SpM}{W:UW}{n:Nat}{wr:Bool}(hs:Sees ex m W)(hF:∀ f,f < 1024→(m.F f).length=64):∀ (ps:List Pc3) (x:Nat),Pcs m n wr x ps→(∀ z,x≤z→z < x+lenP ps→W.area n (z / 64)≠none)→bytes3 m.F ps=bytesU W n x (lenP ps):=by
  intro ps
  induction ps with
  | nil=>intro x _ _;rfl
  | cons p ps ih =>
    rintro x ⟨a1,a2,a3⟩ hz
    have e:x+lenP (p :: ps)=x+p.n+lenP ps:=by show x+(p.n+lenP ps)=_;omega
    rw[e] at hz
    show win (m.F p.f) p.at_ p.n ++ bytes3 m.F ps=bytesU W n x (p.n+lenP ps)
    rw[bytesU_add,ih (x+p.n) a3 (fun z h1 h2=>hz z (by omega) h2),a1.1,win_page hs a2.1 (hz x (Nat.le_refl _) (by have:=a1.2.1;omega)) (hF _ a1.2.2.2) (by have:=a1.1;have:=a1.2.2.1;omega)]
theorem one_of {α:Type}{l:List α}{a b c:α}(h:l ++ [a]=[b,c]):∃ p,l=[p]:=by
  match l,h with
  | [],h=>simp at h
  | [d],_=>exact⟨d,rfl⟩
  | _ :: _ :: _,h=>simp at h
theorem two_pieces {at_ x lp rem len:Nat}(e1:at_=x+lp)(e2:lp+rem=len)(e6:at_ / 64=x / 64+1)(h0:0 < rem):64 < x % 64+len:=by omega
structure AskJ (W:UW)(n x len:Nat)(wr:Bool)(m0:SpM)(at_ rem:Nat)(ps:List Pc3)(m:SpM):Prop where
  inv:Inv (arM m) m
  sees:Sees (fun n' q=>wr=true∧n'=n∧(∃ z,x≤z∧z < x+lenP ps∧q=z / 64)∧∃ r,W.area n' q=some r∧r.kd≠2) m W
  here:at_=x+lenP ps
  sum:lenP ps+rem=len
  al:0 < rem→lenP ps=0∨at_ % 64=0
  pgs:0 < rem→at_ / 64=x / 64+ps.length
  most:ps.length≤2
  pcs:Pcs m n wr x ps
  cost:Cost (3 * ps.length) (2 * ps.length) (3 * ps.length) m0 m
  lens:∀ f,f < 1024→(m.F f).length=64
  nil_:ps=[]→m=m0
  two_:∀ p q,ps=[p,q]→64 < x % 64+len
  one_:∀ p,ps=[p]→∃ g:Nat,(wr=false→g=p.f)∧(wr=false→(entM m0 n (x / 64)).k=1→m=m0)∧∀ n' q,entM m n' q=if n'=n∧q=x / 64 then ⟨1,(p.f:Int),false⟩ else if (entM m0 n (x / 64)).k=2∧entM m0 n' q=entM m0 n (x / 64) then ⟨1,(g:Int),false⟩ else entM m0 n' q
theorem SpMem.lens {w:World}{gS:Nat}{a:SpA}{k:SpK}{K:Nat→Prop}{m:SpM}(h:SpMem w gS a k K m):∀ f,f < 1024→(m.F f).length=64:=by
  obtain⟨cur,_,_,_,_,h1⟩:=h.ramP.1
  exact fun f hf=>(h1 f hf).1
section
variable (gS:Nat)(a:SpA)(k:SpK)(m0:SpM)(W:UW)(n x len:Nat)(wr:Bool)
theorem askJ_step (h9:9≤cntF m0.p 2) (h4:4≤cntF m0.p 3) (hlen:len≤64) (hpr:W.pr n≠none) (hmay:W.mayAll n x len wr) (at_ rem:Nat) (ps:List Pc3) (m:SpM) (V:World) (K:Nat→Prop) (hJ:AskJ W n x len wr m0 at_ rem ps m) (h0:0 < rem) (h64:rem≤64) (hx:at_+rem≤262144) (h:SpMem V gS a k K m) :
    Calls Tryz.prog 93 #[.pointer (some ⟨gS,0,none⟩),.agg #[.int .i64 (n:Int),.int .i64 ((at_ / 64:Nat):Int)],.bool wr] V fun e w'=>∃ (f:Nat) (m'':SpM),AskJ W n x len wr m0 (at_+min rem (64 - at_ % 64)) (rem - min rem (64 - at_ % 64)) (ps ++ [⟨f,at_ % 64,min rem (64 - at_ % 64)⟩]) m''∧SpEnd V gS a k K (.tuple #[.int .i64 (f:Int),.int .i64 0]) m'' e w':=by
  obtain⟨y,hy,-⟩:=hJ.sees.proc hpr
  have e1:=hJ.here
  have e2:=hJ.sum
  have e3:=hJ.pgs h0
  have e4:=hJ.al h0
  have hl1:ps.length≤1:=by omega
  have c2:=hJ.cost.c2
  have c3:=hJ.cost.c3
  obtain⟨r,hr,hw⟩:=hmay at_ (by omega) (by omega)
  have hr':arM m n (at_ / 64)=some r:=(hJ.sees.area _ _).symm.trans hr
  refine (page_ok gS a k K m V n (at_ / 64) wr y r h hJ.inv hy (by omega) hr' hw (by omega) (by omega)).mono ?_
  rintro e w' ⟨f,m'',hD,hE⟩
  refine⟨f,m'',?_,hE⟩
  obtain⟨t,ht⟩:∃ t,t=min rem (64 - at_ % 64):=⟨_,rfl⟩
  rw[← ht]
  have t0:0 < t:=by omega
  have t1:t≤rem:=by omega
  have t2:at_ % 64+t≤64:=by omega
  have t3:t < rem→at_ % 64+t=64:=by omega
  have hlen2:(ps ++ [(⟨f,at_ % 64,t⟩:Pc3)]).length=ps.length+1:=by simp
  have hlp:lenP (ps ++ [(⟨f,at_ % 64,t⟩:Pc3)])=lenP ps+t:=lenP_append _ _
  refine⟨hD.inv,?_,by rw[hlp];omega,by rw[hlp];omega,fun hp=>.inr (by omega),fun hp=>by rw[hlen2];omega,by omega,?_,?_,?_,fun h=>absurd h (by simp),fun p q hpq=>?_,fun p hp=>?_⟩
  rotate_right 2
  · obtain⟨p',rfl⟩:=one_of hpq
    exact two_pieces e1 e2 (hJ.pgs h0) h0
  · have hps:ps=[]:=by
      cases ps with
      | nil=>rfl
      | cons a l=>simp at hp
    subst hps
    have h3:=hJ.nil_ rfl
    subst h3
    have hp':(⟨f,at_ % 64,t⟩:Pc3)=p:=by simpa using hp
    subst hp'
    have e5:at_ / 64=x / 64:=by rw[e1];show (x+0) / 64=_;rw[Nat.add_zero]
    have h4:=hD.ents
    rw[e5] at h4
    exact h4
  · refine hJ.sees.stp hJ.inv hD.stp hD.byt (fun n' q hq=>?_) fun hne r2 hr2 hk2=>?_
    · obtain⟨q1,q2,⟨z,q3,q4,q5⟩,q6⟩:=hq
      exact⟨q1,q2,⟨z,q3,by rw[hlp];omega,q5⟩,q6⟩
    · refine hD.stat r2 hr2 hk2 ?_
      by_cases c:wr=false
      · exact .inl c
      · right
        by_cases d:r2.kd=2
        · exact d
        · exact absurd ⟨by simpa using c,rfl,⟨at_,by omega,by rw[hlp];omega,rfl⟩,r2,(hJ.sees.area _ _).trans hr2,d⟩ hne
  · refine Pcs.snoc (Pcs.stp hD.stp hJ.pcs fun z z1 z2=>?_) ⟨by rw[← e1],t0,t2,hD.lt⟩ (by rw[← e1];exact hD.has)
    omega
  · rw[hlen2]
    exact (hJ.cost.trans hD.cost).le (by omega) (by omega) (by omega)
  · obtain⟨_,K3,h3,_⟩:=hE
    exact SpMem.lens h3
theorem askJ_zero (hl:∀ f,f < 1024→(m0.F f).length=64)(hi:Inv (arM m0) m0)(hs:Sees (fun _ _=>False) m0 W):AskJ W n x len wr m0 x len [] m0 :=
  ⟨hi,hs.mono fun _ _ h=>h.elim,rfl,by show 0+len=len;omega,fun _=>.inl rfl,fun _=>rfl,by decide,trivial,Cost.refl m0,hl,fun _=>rfl,fun p q hpq=>(by cases hpq),fun p hp=>by cases hp⟩
end
theorem storeU_append (n:Nat):∀ (b c:List Nat) (W:UW) (x:Nat),storeU W n x (b ++ c)=storeU (storeU W n x b) n (x+b.length) c:=by
  intro b
  induction b with
  | nil=>intro c W x;rfl
  | cons y b ih =>
    intro c W x
    show storeU (putU W n x y) n (x+1) (b ++ c)=storeU (storeU (putU W n x y) n (x+1) b) n (x+(b.length+1)) c
    rw[ih,show x+1+b.length=x+(b.length+1) by omega]
theorem Pcs.wrote {m:SpM}{n:Nat}{wr:Bool}{p:Pc3}{ys:List Nat}{ps:List Pc3}:∀ {x:Nat},Pcs m n wr x ps→Pcs (wrote m p ys) n wr x ps:=by
  induction ps with
  | nil=>exact fun _=>trivial
  | cons q ps ih=>exact fun ⟨a1,a2,a3⟩=>⟨a1,a2,ih a3⟩
theorem wroteM_rest:∀ (ps:List Pc3) (m:SpM) (ys:List Nat),(wroteM m ps ys).p=m.p∧(wroteM m ps ys).x=m.x∧(wroteM m ps ys).s=m.s:=by
  intro ps
  induction ps with
  | nil=>exact fun _ _=>⟨rfl,rfl,rfl⟩
  | cons p ps ih=>exact fun m ys=>ih (wrote m p (ys.take p.n)) (ys.drop p.n)
theorem wrote_len {m:SpM}{p:Pc3}{ys:List Nat}(hF:∀ f,f < 1024→(m.F f).length=64)(h:p.at_+ys.length≤64)(hf:p.f < 1024):∀ f,f < 1024→((wrote m p ys).F f).length=64:=by
  intro f h1
  rw[wrote_F]
  split
  · rw[over_length _ _ _ (by rw[hF _ hf];exact h)]
    exact hF _ hf
  · exact hF f h1
theorem sees_wroteM {r:Ar}{n:Nat}:∀ (ps:List Pc3) (m:SpM) (W:UW) (x:Nat) (ys:List Nat) (ex:Nat→Nat→Prop),Inv (arM m) m→Sees ex m W→(r.kd=2→∀ n q,¬ ex n q)→Has W n r→(ps≠[]→soundA r)→Pcs m n true x ps→ys.length=lenP ps→(∀ f,f < 1024→(m.F f).length=64)→(∀ j,j < lenP ps→inAr r (x+j)) →
    Inv (arM (wroteM m ps ys)) (wroteM m ps ys)∧Sees (fun n' q=>ex n' q∧¬ (n'=n∧∃ z,x≤z∧z < x+lenP ps∧q=z / 64)) (wroteM m ps ys) (storeU W n x ys):=by
  intro ps
  induction ps with
  | nil =>
    intro m W x ys ex hi hs _ _ _ _ hl _ _
    have e:ys=[]:=List.eq_nil_of_length_eq_zero hl
    subst e
    exact⟨hi,hs.mono fun n' q hq=>⟨hq,fun ⟨_,z,z1,z2,_⟩=>absurd z2 (show ¬ z < x+0 by omega)⟩⟩
  | cons p ps ih =>
    intro m W x ys ex hi hs hex hO hrs0 hP hl hF hin
    have hrs:=hrs0 (by simp)
    obtain⟨a1,a2,a3⟩:=hP
    have hle:ys.length=p.n+lenP ps:=hl
    have e:x+lenP (p :: ps)=x+p.n+lenP ps:=by show x+(p.n+lenP ps)=_;omega
    have hlp:lenP (p :: ps)=p.n+lenP ps:=rfl
    have ht:(ys.take p.n).length=p.n:=by rw[List.length_take];omega
    have hd:(ys.drop p.n).length=lenP ps:=by rw[List.length_drop];omega
    have es:storeU W n x ys=storeU (storeU W n x (ys.take p.n)) n (x+p.n) (ys.drop p.n):=by
      have:=storeU_append n (ys.take p.n) (ys.drop p.n) W x
      rw[List.take_append_drop,ht] at this
      exact this
    have hin1:∀ j,j < p.n→inAr r (x+j):=fun j hj=>hin j (by omega)
    have hs1:Sees (fun n' q=>ex n' q∧¬ (n'=n∧q=x / 64)) (wrote m p (ys.take p.n)) (storeU W n x (ys.take p.n)):=by
      by_cases hk:r.kd=2
      · exact (hs.wrote_shared hi (hex hk) hO hrs hk a1.1 a1.2.1 a1.2.2.1 a2 ht (hF _ a1.2.2.2) hin1).mono fun n' q hq=>absurd hq (hex hk _ _)
      · exact hs.wrote_own hi hO hk a1.1 a1.2.1 a1.2.2.1 a2 ht (hF _ a1.2.2.2) hin1
    have hpr:(storeU W n x (ys.take p.n)).pr=W.pr:=by
      by_cases hk:r.kd=2
      · exact (storeU_shared hk hrs.1.2.2.1 _ W x hO (fun j hj=>hin1 j (by omega))).1
      · exact (storeU_own hk _ W x hO (fun j hj=>hin1 j (by omega))).1
    obtain⟨g1,g2⟩:=ih (wrote m p (ys.take p.n)) (storeU W n x (ys.take p.n)) (x+p.n) (ys.drop p.n) _ hi.wrote hs1 (fun hk n' q hq=>hex hk _ _ hq.1) (hO.congr (by rw[hpr])) (fun _=>hrs) a3.wrote hd (wrote_len hF (by have:=a1.2.2.1;omega) a1.2.2.2) (fun j hj=>by have:=hin (p.n+j) (by omega);rwa [← Nat.add_assoc] at this)
    refine⟨g1,?_⟩
    rw[es]
    refine g2.mono fun n' q hq=>⟨hq.1.1,fun ⟨c1,z,z1,z2,z3⟩=>?_⟩
    rw[e] at z2
    by_cases c:z < x+p.n
    · refine hq.1.2 ⟨c1,?_⟩
      have:=a1.1
      have:=a1.2.2.1
      omega
    · exact hq.2 ⟨c1,z,by omega,z2,z3⟩
end Go.Proofs.YtaonpmclkafjdaaGreat
namespace Go.Proofs.YtaonpmclkafjdaaGreat
open Go.RowKit
set_option linter.unusedVariables false
def samePg (r r':Ar)(q:Int):Prop:=r'.kd=r.kd∧(r.kd≠1→r'.fl=r.fl∧r'.ofs+q - r'.fr=r.ofs+q - r.fr)
theorem samePg.refl (r:Ar)(q:Int):samePg r r q:=⟨rfl,fun _=>⟨rfl,rfl⟩⟩
section
variable {m:SpM}{n:Nat}{y y':SpX}{A':Nat→Nat→Option Ar}{W:UW}{l:List Ar}
theorem entM_setX (hy:m.x n=some y)(ht:y'.t=y.t)(n' q:Nat):entM (m.setX n (some y')) n' q=entM m n' q:=by
  by_cases c:n'=n
  · subst c
    rw[entM_some hy,entM_some (m:=m.setX n' (some y')) (y:=y') (upd_same _ _ _),ht]
  · have e:(m.setX n (some y')).x n'=m.x n':=upd_other _ _ _ c
    unfold entM
    rw[e]
theorem arM_setX (hy:m.x n=some y)(n' q:Nat):arM (m.setX n (some y')) n' q=if n'=n then findA y'.a (q:Int) else arM m n' q:=by
  by_cases c:n'=n
  · subst c
    rw[if_pos rfl]
    exact arM_some (m:=m.setX n' (some y')) (y:=y') (upd_same _ _ _) q
  · have e:(m.setX n (some y')).x n'=m.x n':=upd_other _ _ _ c
    rw[if_neg c]
    unfold arM
    rw[e]
theorem Inv.setX {A:Nat→Nat→Option Ar}(hi:Inv A m)(hy:m.x n=some y)(ht:y'.t=y.t)(hl:listA y'.a∧y'.a.length≤16)(hg:∀ n' q,Good A' m n' q (entM m n' q)∨GoodS A' n' q (entM m n' q)):Inv A' (m.setX n (some y')):=by
  have hcase:∀ n' z,(m.setX n (some y')).x n'=some z→(n'=n∧z=y')∨(n'≠n∧m.x n'=some z):=by
    intro n' z e
    have e':upd m.x n (some y') n'=some z:=e
    by_cases c:n'=n
    · subst c
      rw[upd_same] at e'
      exact .inl ⟨rfl,by injection e' with e';exact e'.symm⟩
    · rw[upd_other _ _ _ c] at e'
      exact .inr ⟨c,e'⟩
  have hent:=entM_setX (m:=m) (y':=y') hy ht
  refine⟨⟨hi.tabs.bad,?_,?_,?_⟩,?_,?_,?_,?_,fun n' q=>?_,fun f q=>?_,hi.srt,fun t n' q hx=>?_,hi.ssrt,hi.sin,hi.cok,hi.ckey,hi.tr⟩
  · intro n' z e
    rcases hcase n' z e with ⟨rfl,rfl⟩ | ⟨c,e⟩
    · rw[ht];exact hi.tabs.live _ _ hy
    · exact hi.tabs.live _ _ e
  · intro n' z e
    rcases hcase n' z e with ⟨rfl,rfl⟩ | ⟨c,e⟩
    · rw[ht];exact hi.tabs.use _ _ hy
    · exact hi.tabs.use _ _ e
  · intro n1 z1 n2 z2 e1 e2
    rcases hcase n1 z1 e1 with ⟨rfl,rfl⟩ | ⟨c1,d1⟩ <;> rcases hcase n2 z2 e2 with ⟨rfl,rfl⟩ | ⟨c2,d2⟩
    · exact fun h=>absurd rfl h
    · rw[ht];exact hi.tabs.two _ _ _ _ hy d2
    · rw[ht];exact hi.tabs.two _ _ _ _ d1 hy
    · exact hi.tabs.two _ _ _ _ d1 d2
  · intro n' z e
    rcases hcase n' z e with ⟨rfl,rfl⟩ | ⟨c,e⟩
    · rw[ht];exact hi.zone _ _ hy
    · exact hi.zone _ _ e
  · intro n' z e
    rcases hcase n' z e with ⟨rfl,rfl⟩ | ⟨c,e⟩
    · rw[ht];exact hi.tok _ _ hy
    · exact hi.tok _ _ e
  · intro n' z e
    rcases hcase n' z e with ⟨rfl,rfl⟩ | ⟨c,e⟩
    · exact hi.x8 _ _ hy
    · exact hi.x8 _ _ e
  · intro n' z e
    rcases hcase n' z e with ⟨rfl,rfl⟩ | ⟨c,e⟩
    · exact hl
    · exact hi.ars _ _ e
  · rw[hent];exact hg n' q
  · rw[show (m.setX n (some y')).b=m.b from rfl,hi.back]
    constructor
    · rintro⟨n',q',e1,e2⟩;exact⟨n',q',e1,(hent n' q').trans e2⟩
    · rintro⟨n',q',e1,e2⟩;exact⟨n',q',e1,(hent n' q').symm.trans e2⟩
  · rw[hent]
    refine hi.slot t n' q fun c=>?_
    have c':n'≠n:=by
      rintro rfl
      rw[hy] at c
      cases c
    exact hx ((upd_other _ _ _ c').trans c)
theorem Inv.areas (hi:Inv (arM m) m) (hy:m.x n=some y) (hl:listA l) (hn:l.length≤16) (hK:∀ q:Nat,(∃ r r',findA y.a (q:Int)=some r∧findA l (q:Int)=some r'∧samePg r r' q)∨entM m n q=en0) :
    Inv (arM (m.setX n (some ⟨y.t,l,y.q⟩))) (m.setX n (some ⟨y.t,l,y.q⟩)):=by
  refine hi.setX hy rfl ⟨hl,hn⟩ fun n' q=>?_
  by_cases c:n'=n
  · subst c
    rcases hK q with ⟨r,r',h1,h2,h3,h4⟩ | h
    · rcases hi.good n' q with (e | ⟨f,e,hf,r2,hr2,d⟩) | ⟨t,e,ht,r2,hr2,d⟩
      · exact .inl (.inl e)
      · refine .inl (.inr ⟨f,e,hf,r',?_,?_⟩)
        · rw[arM_setX hy,if_pos rfl];exact h2
        · rw[arM_some hy,h1] at hr2
          injection hr2 with hr2
          subst hr2
          rw[h3]
          rcases d with d | ⟨d1,d2,d3⟩
          · exact .inl d
          · obtain⟨k1,k2⟩:=h4 d2
            exact .inr ⟨d1,d2,by rw[k1,k2];exact d3⟩
      · refine .inr ⟨t,e,ht,r',?_,?_⟩
        · rw[arM_setX hy,if_pos rfl];exact h2
        · rw[arM_some hy,h1] at hr2
          injection hr2 with hr2
          subst hr2
          rw[h3]
          exact d
    · exact .inl (.inl h)
  · rcases hi.good n' q with (e | ⟨f,e,hf,r2,hr2,d⟩) | ⟨t,e,ht,r2,hr2,d⟩
    · exact .inl (.inl e)
    · exact .inl (.inr ⟨f,e,hf,r2,by rw[arM_setX hy,if_neg c];exact hr2,d⟩)
    · exact .inr ⟨t,e,ht,r2,by rw[arM_setX hy,if_neg c];exact hr2,d⟩
theorem ix_same {r r':Ar}{q:Nat}(hs:soundA r)(hs':soundA r')(hh:hasA r q)(hh':hasA r' q)(hk:r.kd≠1)(h:samePg r r' q):fileIx r' q=fileIx r q:=by
  obtain⟨k1,k2⟩:=h.2 hk
  have e1:=(key_ix hs hh hk).2.2
  have e2:=(key_ix hs' hh' (by rw[h.1];exact hk)).2.2
  rw[e1,e2,k1,k2]
theorem Sees.areas (hs:Sees (fun _ _=>False) m W) (hi:Inv (arM m) m) (hy:m.x n=some y) (hl:listA l) (hK:∀ q:Nat,(∃ r r',findA y.a (q:Int)=some r∧findA l (q:Int)=some r'∧samePg r r' q)∨(entM m n q=en0∧W.own n q=none)) :
    Sees (fun _ _=>False) (m.setX n (some ⟨y.t,l,y.q⟩)) (arsU W n l):=by
  have hent:=entM_setX (m:=m) (y':=⟨y.t,l,y.q⟩) hy rfl
  have hpn:W.pr n=some ⟨y.a,y.q.map (·.g)⟩:=by rw[hs.pr,hy];rfl
  have hpr:∀ n',(arsU W n l).pr n'=if n'=n then some ⟨l,y.q.map (·.g)⟩ else W.pr n':=by
    intro n'
    show upd W.pr n ((W.pr n).map fun p=>⟨l,p.sg⟩) n'=_
    by_cases c:n'=n
    · subst c;rw[upd_same,if_pos rfl,hpn];rfl
    · rw[upd_other _ _ _ c,if_neg c]
  have har:∀ n' q,(arsU W n l).area n' q=if n'=n then findA l (q:Int) else W.area n' q:=by
    intro n' q
    unfold UW.area
    rw[hpr]
    by_cases c:n'=n
    · rw[if_pos c,if_pos c]
    · rw[if_neg c,if_neg c]
  have hown:∀ n' q,(arsU W n l).own n' q=W.own n' q:=fun _ _=>rfl
  have hanon:∀ n' q,hasAnon (m.setX n (some ⟨y.t,l,y.q⟩)) n' q↔hasAnon m n' q:=by
    intro n' q
    unfold hasAnon
    rw[hent]
    exact Iff.rfl
  refine⟨fun n'=>?_,fun n' z e=>?_,hs.fl,fun n' q j hj ha=>?_,fun n' q r hr hk hne=>?_,fun n' q ha=>?_⟩
  · rw[hpr]
    show _=Option.map _ (upd m.x n _ n')
    by_cases c:n'=n
    · subst c;rw[if_pos rfl,upd_same];rfl
    · rw[if_neg c,upd_other _ _ _ c];exact hs.pr n'
  · have e':upd m.x n (some ⟨y.t,l,y.q⟩) n'=some z:=e
    by_cases c:n'=n
    · subst c
      rw[upd_same] at e'
      injection e' with e'
      subst e'
      exact hs.qc n' y hy
    · rw[upd_other _ _ _ c] at e'
      exact hs.qc n' z e'
  · by_cases c:n'=n
    · subst c
      rw[har,if_pos rfl] at ha
      obtain⟨r',hr'⟩:=Option.ne_none_iff_exists'.1 ha
      have hm':=(findA_iff hl).1 hr'
      have eP:(arsU W n' l).page n' q j=match W.own n' q with | some b=>b j | none=>if r'.kd=1 then 0 else W.fl (fileIx r' q) j:=by
        unfold UW.page
        rw[hown,har,if_pos rfl,hr']
        cases W.own n' q with
        | some b=>rfl
        | none =>
          show (if r'.kd=1 then (fun _=>0) else W.fl (fileIx r' q)) j=_
          split <;> rfl
      have eM:entM m n' q=en0→pageM (m.setX n' (some ⟨y.t,l,y.q⟩)) n' q j=if r'.kd=1 then 0 else fileM m (fileIx r' q) j:=by
        intro e
        rw[pageM_no ((hent n' q).trans e),arM_setX hy,if_pos rfl,hr']
        rfl
      have hix:r'.kd≠1→fileIx r' q < 64:=by
        intro hk
        obtain⟨h1,-,h2⟩:=key_ix (hl.1 _ hm'.1) hm'.2 hk
        omega
      rcases hK q with ⟨r,r2,h1,h2,h3⟩ | ⟨h1,h2⟩
      · rw[hr'] at h2
        injection h2 with h2
        subst h2
        have hm:=(findA_iff (hi.ars n' y hy).1).1 h1
        have ha0:W.area n' q=some r:=by rw[hs.area,arM_some hy];exact h1
        have e1:(arsU W n' l).page n' q j=W.page n' q j:=by
          rw[eP]
          unfold UW.page
          rw[ha0]
          cases W.own n' q with
          | some b=>rfl
          | none =>
            show _=(if r.kd=1 then (fun _=>0) else W.fl (fileIx r q)) j
            rw[h3.1]
            by_cases c:r.kd=1
            · rw[if_pos c,if_pos c]
            · rw[if_neg c,if_neg c,ix_same ((hi.ars n' y hy).1.1 _ hm.1) (hl.1 _ hm'.1) hm.2 hm'.2 c h3]
        rw[e1,hs.page _ _ _ hj (by rw[ha0];simp)]
        rcases hi.ent_three n' q with e | ⟨f,e,_⟩ | ⟨t,e,_⟩
        · rw[eM e,pageM_no e,arM_some hy,h1]
          simp only
          rw[h3.1]
          by_cases c:r.kd=1
          · rw[if_pos c,if_pos c]
          · rw[if_neg c,if_neg c,ix_same ((hi.ars n' y hy).1.1 _ hm.1) (hl.1 _ hm'.1) hm.2 hm'.2 c h3]
        · rw[pageM_in e,pageM_in ((hent n' q).trans e)]
          rfl
        · rw[pageM_slot e,pageM_slot ((hent n' q).trans e)]
          rfl
      · rw[eP,eM h1,h2]
        simp only
        by_cases c:r'.kd=1
        · rw[if_pos c,if_pos c]
        · rw[if_neg c,if_neg c]
          exact hs.fl _ _ (hix c) hj
    · rw[har,if_neg c] at ha
      have e1:(arsU W n l).page n' q j=W.page n' q j:=by
        unfold UW.page
        rw[hown,har,if_neg c]
        rfl
      rw[e1,hs.page _ _ _ hj ha]
      unfold pageM
      rw[hent,arM_setX hy,if_neg c]
      rfl
  · rw[har] at hr
    rw[hown,hanon]
    by_cases c:n'=n
    · subst c
      rw[if_pos rfl] at hr
      rcases hK q with ⟨r0,r2,h1,h2,h3⟩ | ⟨h1,h2⟩
      · rw[hr] at h2
        injection h2 with h2
        subst h2
        exact hs.own n' q r0 (by rw[hs.area,arM_some hy];exact h1) (by rw[← h3.1];exact hk) id
      · exact⟨fun _=>hasAnon_no h1,fun _=>h2⟩
    · rw[if_neg c] at hr
      exact hs.own n' q r hr hk id
  · rw[har] at ha
    rw[hown]
    by_cases c:n'=n
    · subst c
      rw[if_pos rfl] at ha
      rcases hK q with ⟨r0,r2,h1,h2,h3⟩ | ⟨h1,h2⟩
      · rw[h2] at ha;cases ha
      · exact h2
    · rw[if_neg c] at ha
      exact hs.out n' q ha
end
theorem add_ok {l:List Ar}{a:Ar}(h:listA l)(e:addE l a=0):listA (insA l a)∧(insA l a).length≤16∧∀ q r,findA l q=some r→findA (insA l a) q=some r:=by
  unfold addE at e
  split at e
  · rename_i hs
    split at e
    · exact absurd e (by decide)
    · rename_i hn
      split at e
      · exact absurd e (by decide)
      · rename_i hl
        have hn':inA l a.fr a.pg=[]:=by
          by_cases c:inA l a.fr a.pg=[]
          · exact c
          · exact absurd c hn
        have hL:listA (insA l a):=by
          refine insA_list h hs fun x hx=>?_
          by_cases c:apartA x a
          · exact c
          · unfold apartA at c
            have hx1:=(h.1 x hx).1
            have ha1:=hs.1
            obtain⟨y,hy,_⟩:=piece_has (a:=x) (s:=a.fr) (e:=a.fr+a.pg) (q:=if x.fr≤a.fr then a.fr else x.fr) (by unfold hasA;split <;> omega) (by split <;> omega) (by split <;> omega)
            have:y∈inA l a.fr a.pg:=mem_inA.2 ⟨x,hx,hy⟩
            rw[hn'] at this
            cases this
        refine⟨hL,by rw[insA_length];omega,fun q r hr=>?_⟩
        obtain⟨h1,h2⟩:=(findA_iff h).1 hr
        exact (findA_iff hL).2 ⟨mem_insA.2 (.inr h1),h2⟩
  · exact absurd e (by decide)
end Go.Proofs.YtaonpmclkafjdaaGreat
namespace Go.Proofs.YtaonpmclkafjdaaGreat
open Go.RowKit
set_option linter.unusedVariables false
section
variable (gS:Nat)(a:SpA)(k:SpK)(K:Nat→Prop)(m:SpM)(w:World)
set_option maxRecDepth 100000 in
set_option maxHeartbeats 4000000 in
theorem tree_go (n:Nat) (y:SpX) (h:SpMem w gS a k K m) (hy:m.x n=some y) :
    Calls Tryz.prog 12 #[.pointer (some ⟨gS,0,none⟩),.int .i64 (n:Int)] w fun e w'=>e=.returned (.pointer (some ⟨k.T n,0,none⟩))∧w'=w:=by
  have LQ:=(SpMem.look_ gS a k K m w h hy).look
  have hc0:=(SpMem.look_ gS a k K m w h hy).c0
  have HA:=Lib.hid (all_sp gS w k.M (h.cells.cell 6))
  go_enter Tryz.func12,Tryz.ntmps12
  go_wp2_with fail
  refine HA.out.mono ?_
  rintro e w' ⟨rfl,hw⟩
  subst w'
  go_wp2_with fail
  go_ret
  exact⟨rfl,rfl⟩
end
end Go.Proofs.YtaonpmclkafjdaaGreat
namespace Go.Proofs.YtaonpmclkafjdaaGreat
open Go.RowKit
set_option linter.unusedVariables false
abbrev WAr' (a:Ar):Prop:=(Lit.int .i64 a.fr).wf=true∧(Lit.int .i64 a.pg).wf=true∧(Lit.int .i64 a.kd).wf=true∧(Lit.int .i64 a.fl).wf=true∧(Lit.int .i64 a.ofs).wf=true
structure SpOk (m:SpM)(W:UW)(nr mv u:Nat):Prop where
  inv:Inv (arM m) m
  sees:Sees (fun _ _=>False) m W
  nr:nr≤cntF m.p 2
  mv:mv≤cntF m.p 3
  tb:∀ n y,m.x n=some y→y.t.t.length≤u
  fre:∀ (t n:Nat) (q:Int),m.x n=none→(⟨(n:Int),q⟩:Pl) ∉ m.s t
theorem fre_setX {m:SpM}{n:Nat}{y y':SpX}(hy:m.x n=some y)(h:∀ (t n:Nat) (q:Int),m.x n=none→(⟨(n:Int),q⟩:Pl) ∉ m.s t)(t n':Nat)(q:Int)(e:(m.setX n (some y')).x n'=none):(⟨(n':Int),q⟩:Pl) ∉ (m.setX n (some y')).s t:=by
  have e':upd m.x n (some y') n'=none:=e
  by_cases c:n'=n
  · subst c
    rw[upd_same] at e'
    cases e'
  · rw[upd_other _ _ _ c] at e'
    exact h t n' q e'
def SpcMem (w:World)(gS:Nat)(K:Nat→Prop)(W:UW)(nr mv u:Nat):Prop:=∃ a k m,SpMem w gS a k K m∧SpOk m W nr mv u
section
variable {w w':World}{gS:Nat}{K:Nat→Prop}{W:UW}{nr mv u:Nat}
theorem SpOk.le {m:SpM}{nr' mv' u':Nat}(h:SpOk m W nr mv u)(h1:nr'≤nr)(h2:mv'≤mv)(h3:u≤u'):SpOk m W nr' mv' u':=by
  have a1:=h.nr
  have a2:=h.mv
  exact⟨h.inv,h.sees,by omega,by omega,fun n y e=>by have:=h.tb n y e;omega,h.fre⟩
end
section
variable (gS:Nat)(K:Nat→Prop)(W:UW)(nr mv u:Nat)(w:World)
def NoPr (W:UW)(k:Int):Prop:=k < 0∨∀ n:Nat,k=(n:Int)→W.pr n=none
variable (k:Int)(wk:(Lit.int .i64 k).wf=true)(hk:NoPr W k)(h:SpcMem w gS K W nr mv u)
include wk h
include hk
end
end Go.Proofs.YtaonpmclkafjdaaGreat
namespace Go.Proofs.YtaonpmclkafjdaaGreat
open Go.RowKit
set_option linter.unusedVariables false
section
variable (w:World)(gR gF gD gD1 gD2 gP:Nat)(F:Nat→List Nat)(bad:Nat→Bool)(S:Nat→List Nat)(L:Nat→Option (List Nat))(T:Tr)(KP:Nat→Prop)(p:PS)
def newK (gR gF gD gD1 gD2:Nat)(KP KB KC KS:Nat→Prop)(gS:Nat):Prt→Nat→Prop
  | .R=>fun j=>j=gR∨j=gF
  | .D=>dk gD gD1 gD2
  | .P=>KP
  | .B=>KB
  | .C=>KC
  | .S=>KS
  | .top=>fun j=>j=gS
  | _=>fun _=>False
set_option maxRecDepth 100000 in
theorem newIn (KB KC KS:Nat→Prop) (gB gC gW:Nat) (w1 w2 w3:World) (hR:Mem w gR gF 1024 F bad) (hD:Dsk w gD gD1 gD2 192 S L T) (hP:PoolMem w gP KP p)
    (h1:∀ k,k=gR∨k=gF→¬ dk gD gD1 gD2 k∧¬ KP k) (h2:∀ k,dk gD gD1 gD2 k→¬ KP k)
    (b1:BackMem w1 gB KB bs0) (b2:∀ k,KB k→w.heap.size≤k) (b3:Below w.heap.size w w1) (c1:CacMem w2 gC KC []) (c2:∀ k,KC k→w1.heap.size≤k) (c3:Below w1.heap.size w1 w2)
    (s1:SwpMem w3 gW KS ss0) (s2:∀ k,KS k→w2.heap.size≤k) (s3:Below w2.heap.size w2 w3) (cs:Array Value)
    (hcs:cs=#[.pointer (some ⟨gR,0,none⟩),.pointer (some ⟨gD,0,none⟩),.pointer (some ⟨gP,0,none⟩),.pointer (some ⟨gB,0,none⟩),.pointer (some ⟨gC,0,none⟩),.pointer (some ⟨gW,0,none⟩),.map none]) :
    SpMem (w3.alloc (.cells cs 44)) w3.heap.size ⟨gR,gF,gD,gD1,gD2,gP,gB,gC,gW⟩ ⟨none,fun _=>0,fun _=>0,fun _=>0,fun _=>.bool false⟩ (fun j=>∃ i,newK gR gF gD gD1 gD2 KP KB KC KS w3.heap.size i j) ⟨F,bad,S,L,T,p,bs0,[],ss0,fun _=>none⟩:=by
  have hrl:=hR.lt
  have hdl:=hD.lt
  have hpl:=hP.lt
  have hbl:=b1.lt
  have hcl:=c1.lt
  have hsl:=s1.lt
  have z1:=b3.size
  have z2:=c3.size
  have z3:=s3.size
  have r0:∀ j,dk gD gD1 gD2 j→j < w.heap.size:=by
    rintro j (rfl | rfl | rfl)
    · exact hdl.1
    · exact hdl.2.1
    · exact hdl.2.2
  obtain⟨rk,hrk⟩:∃ rk:Prt→Nat × Nat,rk=fun i=>match i with | .B=>(w.heap.size,w1.heap.size) | .C=>(w1.heap.size,w2.heap.size) | .S=>(w2.heap.size,w3.heap.size) | .top=>(w3.heap.size,w3.heap.size+1) | _=>(0,w.heap.size):=⟨_,rfl⟩
  have hr:∀ i j,newK gR gF gD gD1 gD2 KP KB KC KS w3.heap.size i j→(rk i).1≤j∧j < (rk i).2:=by
    intro i j h
    rw[hrk]
    cases i with
    | R=>rcases h with rfl | rfl;exact⟨Nat.zero_le _,hrl.1⟩;exact⟨Nat.zero_le _,hrl.2⟩
    | D=>exact⟨Nat.zero_le _,r0 j h⟩
    | P=>exact⟨Nat.zero_le _,hpl j h⟩
    | B=>exact⟨b2 j h,hbl j h⟩
    | C=>exact⟨c2 j h,hcl j h⟩
    | S=>exact⟨s2 j h,hsl j h⟩
    | top=>have h':j=w3.heap.size:=h;show w3.heap.size≤j∧j < w3.heap.size+1;omega
    | tr n=>exact h.elim
    | qu n=>exact h.elim
    | ar n=>exact h.elim
  have bA:Below w.heap.size w w3:=b3.trans ((c3.mono z1).trans (s3.mono (by omega)))
  have bZ:Below w3.heap.size w3 (w3.alloc (.cells cs 44)):=(Below.refl _ w3).alloc (Nat.le_refl _) _
  have bW:Below w.heap.size w (w3.alloc (.cells cs 44)):=bA.trans (bZ.mono bA.size)
  refine⟨_,rfl,⟨fun i j h=>?_,fun i i' j h h'=>?_,fun n y h=>(by cases h),fun i=>?_⟩⟩
  · have:=hr i j h
    rw[hrk] at this
    rw[World.size_alloc]
    cases i <;> simp only at this <;> omega
  · have q1:=hr i j h
    have q2:=hr i' j h'
    rw[hrk] at q1 q2
    cases i with
    | tr n=>exact h.elim
    | qu n=>exact h.elim
    | ar n=>exact h.elim
    | R =>
      cases i' with
      | tr n=>exact h'.elim
      | qu n=>exact h'.elim
      | ar n=>exact h'.elim
      | R=>rfl
      | D=>exact absurd h' (h1 j h).1
      | P=>exact absurd h' (h1 j h).2
      | _=>simp only at q1 q2;omega
    | D =>
      cases i' with
      | tr n=>exact h'.elim
      | qu n=>exact h'.elim
      | ar n=>exact h'.elim
      | R=>exact absurd h (h1 j h').1
      | D=>rfl
      | P=>exact absurd h' (h2 j h)
      | _=>simp only at q1 q2;omega
    | P =>
      cases i' with
      | tr n=>exact h'.elim
      | qu n=>exact h'.elim
      | ar n=>exact h'.elim
      | R=>exact absurd h (h1 j h').2
      | D=>exact absurd h (h2 j h')
      | P=>rfl
      | _=>simp only at q1 q2;omega
    | _ =>
      cases i' with
      | tr n=>exact h'.elim
      | qu n=>exact h'.elim
      | ar n=>exact h'.elim
      | _=>first | rfl | (simp only at q1 q2;omega)
  · cases i with
    | R=>exact⟨hR.far (bW.block _ hrl.1) (bW.block _ hrl.2),fun j=>Iff.rfl⟩
    | D=>exact⟨hD.far (bW.block _ hdl.1) (bW.block _ hdl.2.1) (bW.block _ hdl.2.2),fun j=>Iff.rfl⟩
    | P=>exact hP.far fun j hj=>bW.block j (hpl j hj)
    | B=>exact b1.far fun j hj=>((bZ.mono z3).block j (Nat.lt_of_lt_of_le (hbl j hj) z2)).trans ((s3.mono z2).block j (hbl j hj) |>.trans (c3.block j (hbl j hj)))
    | C=>exact c1.far fun j hj=>((bZ.mono z3).block j (hcl j hj)).trans (s3.block j (hcl j hj))
    | S=>exact s1.far fun j hj=>bZ.block j (hsl j hj)
    | top =>
      refine⟨?_,fun j=>⟨fun h=>.inl h,fun h=>h.elim id (fun h=>by cases h)⟩,fun _ _=>rfl,fun g h=>by cases h⟩
      subst hcs
      exact Blk.new w3 _ _
    | tr n=>exact fun y h=>by cases h
    | qu n=>exact fun y h=>by cases h
    | ar n=>exact fun y h=>by cases h
set_option maxRecDepth 100000 in
set_option maxHeartbeats 2000000 in
theorem spnew_go (hR:Mem w gR gF 1024 F bad) (hD:Dsk w gD gD1 gD2 192 S L T) (hP:PoolMem w gP KP p)
    (h1:∀ k,k=gR∨k=gF→¬ dk gD gD1 gD2 k∧¬ KP k) (h2:∀ k,dk gD gD1 gD2 k→¬ KP k) :
    Calls Tryz.prog 33 #[.pointer (some ⟨gR,0,none⟩),.pointer (some ⟨gD,0,none⟩),.pointer (some ⟨gP,0,none⟩)] w fun e w'=>∃ gS a k K,e=.returned (.pointer (some ⟨gS,0,none⟩))∧SpMem w' gS a k K ⟨F,bad,S,L,T,p,bs0,[],ss0,fun _=>none⟩∧(∀ j,K j→j=gR∨j=gF∨dk gD gD1 gD2 j∨KP j∨w.heap.size≤j)∧Below w.heap.size w w':=by
  have H:=Lib.hid (And.intro hR (And.intro hD (And.intro hP (And.intro h1 h2))))
  clear hR hD hP h1 h2
  go_enter Tryz.func33,Tryz.ntmps33
  go_wp2_with fail
  refine (back_new w).mono ?_
  rintro e w1 ⟨gB,KB,rfl,b1,b2,b3⟩
  have B1:=Lib.hid (And.intro b1 (And.intro b2 b3))
  clear b1 b2 b3
  go_wp2_with fail
  refine (cache_new w1).mono ?_
  rintro e w2 ⟨gC,KC,rfl,c1,c2,c3⟩
  have C1:=Lib.hid (And.intro c1 (And.intro c2 c3))
  clear c1 c2 c3
  go_wp2_with fail
  refine (swap_new w2).mono ?_
  rintro e w3 ⟨gW,KS,rfl,s1,s2,s3⟩
  have S1:=Lib.hid (And.intro s1 (And.intro s2 s3))
  clear s1 s2 s3
  go_wp2_with fail
  go_ret
  obtain⟨hR,hD,hP,h1,h2⟩:=H.out
  obtain⟨b1,b2,b3⟩:=B1.out
  obtain⟨c1,c2,c3⟩:=C1.out
  obtain⟨s1,s2,s3⟩:=S1.out
  have z1:=b3.size
  have z2:=c3.size
  have z3:=s3.size
  refine⟨_,_,_,_,rfl,newIn w gR gF gD gD1 gD2 gP F bad S L T KP p KB KC KS gB gC gW w1 w2 w3 hR hD hP h1 h2 b1 b2 b3 c1 c2 c3 s1 s2 s3 _ rfl,?_,?_⟩
  · rintro j ⟨i,h⟩
    cases i with
    | R=>exact h.elim .inl fun h=>.inr (.inl h)
    | D=>exact .inr (.inr (.inl h))
    | P=>exact .inr (.inr (.inr (.inl h)))
    | B=>exact .inr (.inr (.inr (.inr (b2 j h))))
    | C=>exact .inr (.inr (.inr (.inr (Nat.le_trans z1 (c2 j h)))))
    | S=>exact .inr (.inr (.inr (.inr (Nat.le_trans (Nat.le_trans z1 z2) (s2 j h)))))
    | top=>exact .inr (.inr (.inr (.inr (by have h':j=w3.heap.size:=h;omega))))
    | _=>exact h.elim
  · exact (b3.trans ((c3.mono z1).trans (s3.mono (Nat.le_trans z1 z2)))).alloc (Nat.le_trans (Nat.le_trans z1 z2) z3) _
end
end Go.Proofs.YtaonpmclkafjdaaGreat
namespace Go.Proofs.YtaonpmclkafjdaaGreat
open Go.RowKit
set_option linter.unusedVariables false
section
variable {w w':World}{gS:Nat}{a:SpA}{k k':SpK}{κ:Prt→Nat→Prop}{m m':SpM}{K:Nat→Prop}{n:Nat}
theorem SpIn.step' (h:SpIn w gS a k κ m) (I:Prt→Prop) (κn:Prt→Nat→Prop) (t:Turns (fun j=>∃ i,I i∧κ i j) w w')
    (hnew:∀ i j,I i→κn i j→κ i j∨∀ i',¬ κ i' j) (hlt:∀ i j,I i→κn i j→j < w'.heap.size) (hdis:∀ i i' j,I i→I i'→κn i j→κn i' j→i=i')
    (x8:∀ n y,m'.x n=some y→n < 8)
    (hok:∀ i,¬ I i→PartOk w' gS a k m (κ i) i→PartOk w' gS a k' m' (κ i) i) (hown:∀ i,I i→PartOk w' gS a k' m' (κn i) i):SpIn w' gS a k' (updI κ I κn) m':=by
  refine⟨fun i j hj=>?_,fun i i' j h1 h2=>?_,x8,fun i=>?_⟩
  · rcases hj with ⟨h1,h2⟩ | ⟨h1,h2⟩
    · exact hlt i j h1 h2
    · exact Nat.lt_of_lt_of_le (h.lt i j h2) t.size
  · rcases h1 with ⟨a1,a2⟩ | ⟨a1,a2⟩
    · rcases h2 with ⟨b1,b2⟩ | ⟨b1,b2⟩
      · exact hdis i i' j a1 b1 a2 b2
      · rcases hnew i j a1 a2 with c | c
        · exact h.dis i i' j c b2
        · exact absurd b2 (c i')
    · rcases h2 with ⟨b1,b2⟩ | ⟨b1,b2⟩
      · rcases hnew i' j b1 b2 with c | c
        · exact h.dis i i' j a2 c
        · exact absurd a2 (c i)
      · exact h.dis i i' j a2 b2
  · by_cases c:I i
    · rw[updI_in c]
      exact hown i c
    · rw[updI_out c]
      exact hok i c ((h.ok i).far t.size fun j hj=>t.block j (h.lt i j hj) fun ⟨i',c1,c2⟩=>c (h.dis i' i j c2 hj ▸ c1))
def t0 (r:Nat):TS:=⟨List.replicate 4096 en0,[r],true⟩
structure Loose (w0 w:World)(a:SpA)(K KT:Nat→Prop)(gT:Nat)(F:Nat→List Nat)(t:TS):Prop where
  tree:TreeMem w gT KT a.R a.P F t
  ap:∀ j,KT j→¬ K j∧w0.heap.size≤j
theorem first_run {p:PS}{r:Nat}(h:FirstF p 2 (2 ^ 0) (some r)):r < 1024∧p.u.getD r 0=1∧p.z.getD (r / 32) 0=2∧p.i.getD (r / 32) false=false:=by
  obtain⟨⟨_,q1,q2,q3,q4⟩,_⟩:=h
  exact⟨q1,q4 r (Nat.le_refl _) (by omega),q2,q3⟩
theorem SpMem.newTree (h:SpMem w gS a k K m)(hT:Tabs m):∃ KP,Mem w a.R a.F 1024 m.F m.bad∧PoolMem w a.P KP m.p∧¬ KP a.R∧¬ KP a.F ∧
    ∀ w1 r gT F' K' KT',FirstF m.p 2 (2 ^ 0) (some r)→Mem w1 a.R a.F 1024 F' m.bad→PoolMem w1 a.P K' ⟨m.p.u.set r 2,m.p.z,m.p.i⟩→TreeMem w1 gT KT' a.R a.P F' (t0 r)→Apart a.R a.F K' KT'→NewK w KP K'→(∀ j,KT' j→w.heap.size≤j)→(∀ f,f≠r→F' f=m.F f)→Turns (fun j=>KP j∨j=a.F) w w1 →
      ∃ K1,SpMem w1 gS a k K1 ((m.setP ⟨m.p.u.set r 2,m.p.z,m.p.i⟩).setF F')∧Went w K w1 K1∧Loose w w1 a K1 KT' gT F' (t0 r):=by
  obtain⟨κ,rfl,h⟩:=h
  have hR:=h.ok .R
  have hP:PoolMem w a.P (κ .P) m.p:=h.ok .P
  have dR:∀ j,j=a.R∨j=a.F→κ .R j:=fun j hj=>(hR.2 j).2 hj
  refine⟨κ .P,hR.1,hP,fun c=>(by cases h.dis _ _ _ c (dR _ (.inl rfl))),fun c=>(by cases h.dis _ _ _ c (dR _ (.inr rfl))),?_⟩
  intro w1 r gT F' K' KT' hr hM hP' hT' hA hN hnew hF t
  obtain⟨r1,r2,r3,r4⟩:=first_run hr
  obtain⟨A1,A2,A3,A4,A5⟩:=hA
  have hlt:=hP'.lt
  have ht:Turns (fun j=>∃ i,(i=Prt.R∨i=Prt.P)∧κ i j) w w1:=t.mono fun j hj=>by
    rcases hj with c | c
    · exact⟨.P,.inr rfl,c⟩
    · exact⟨.R,.inl rfl,dR j (.inr c)⟩
  have hs:=h.step (w':=w1) (k':=k) (m':=(m.setP ⟨m.p.u.set r 2,m.p.z,m.p.i⟩).setF F') (fun i=>i=.R∨i=.P) (fun i=>match i with | .P=>K' | _=>κ i) ht
    (by
      rintro i j (rfl | rfl) hj
      · exact .inl hj
      · exact hN j hj)
    (by
      rintro i j (rfl | rfl) hj
      · exact Nat.lt_of_lt_of_le (h.lt _ j hj) t.size
      · exact hlt j hj)
    (by
      rintro i i' j (rfl | rfl) (rfl | rfl) h1 h2
      · rfl
      · rcases (hR.2 j).1 h1 with rfl | rfl
        · exact absurd h2 A1
        · exact absurd h2 A2
      · rcases (hR.2 j).1 h2 with rfl | rfl
        · exact absurd h1 A1
        · exact absurd h1 A2
      · rfl)
    h.x8
    (by
      intro i hi hp
      cases i with
      | R=>exact absurd (.inl rfl) hi
      | P=>exact absurd (.inr rfl) hi
      | tr n =>
        intro y hy
        refine (hp y hy).frames fun f hf=>hF f ?_
        rintro rfl
        have:=hT.use n y hy f hf
        omega
      | _=>exact hp)
    (by
      rintro i (rfl | rfl)
      · exact⟨hM,hR.2⟩
      · exact hP')
  refine⟨_,⟨_,rfl,hs⟩,⟨?_,t.mono ?_⟩,hT',?_⟩
  · rintro j ⟨i,⟨rfl | rfl,c⟩ | ⟨_,c⟩⟩
    · exact .inl ⟨_,c⟩
    · rcases hN j c with d | d
      · exact .inl ⟨_,d⟩
      · exact .inr d
    · exact .inl ⟨_,c⟩
  · rintro j (c | c)
    · exact⟨.P,c⟩
    · exact⟨.R,dR j (.inr c)⟩
  · intro j hj
    refine⟨?_,hnew j hj⟩
    have hge:=hnew j hj
    rintro⟨i,⟨rfl | rfl,c⟩ | ⟨_,c⟩⟩
    · have:=h.lt _ j c;omega
    · exact A5 j c hj
    · have:=h.lt _ j c;omega
def SpK.setM (k:SpK)(g:Nat):SpK:=⟨some g,k.X,k.T,k.Q,k.v⟩
theorem SpMem.newMap (h:SpMem w gS a k K m)(hM:k.M=none):SpGo w gS a (k.setM w.heap.size) K m ((w.alloc (.map #[] 0)).setCell ⟨gS,6,none⟩ (.map (some w.heap.size))):=by
  obtain⟨κ,rfl,h⟩:=h
  obtain⟨h1,h2,h3,h4⟩:=h.ok .top
  have hl:=h1.lt
  have hb:Below w.heap.size w (w.alloc (.map #[] 0)):=(Below.refl _ w).alloc (Nat.le_refl _) _
  have hB:=h1.below hb hl
  have ho:Only gS (w.alloc (.map #[] 0)) ((w.alloc (.map #[] 0)).setCell ⟨gS,6,none⟩ (.map (some w.heap.size))):=(Only.refl gS _).setCell 6 _
  have hm0:MapK EI (w.alloc (.map #[] 0)) w.heap.size 0 (ptrL m.x k.X):=(MapK.made w EI 0).congr fun z=>by
    unfold ptrL
    rw[if_neg]
    rintro⟨_,c⟩
    rw[h3 hM] at c
    cases c
  have hs:SpGo w gS a (k.setM w.heap.size) (fun j=>∃ i,κ i j) m ((w.alloc (.map #[] 0)).setCell ⟨gS,6,none⟩ (.map (some w.heap.size))):=by
    refine h.one (k':=k.setM w.heap.size) .top (fun j=>j=gS∨j=w.heap.size) ((Turns.of_below hb (Nat.le_refl _)).trans (Turns.of_only ho ((h2 gS).2 (.inl rfl)))) ?_ ?_ h.x8 ?_ ?_
    · rintro j (rfl | rfl)
      · exact .inl ((h2 _).2 (.inl rfl))
      · exact .inr (Nat.le_refl _)
    · have e:((w.alloc (.map #[] 0)).setCell ⟨gS,6,none⟩ (.map (some w.heap.size))).heap.size=w.heap.size+1:=by rw[ho.2,World.size_alloc]
      rintro j (rfl | rfl) <;> omega
    · intro j hj hp
      cases j with
      | top=>exact absurd rfl hj
      | _=>exact hp
    · refine⟨?_,fun j=>⟨fun c=>c.elim .inl fun c=>.inr (by rw[c];rfl),fun c=>c.elim .inl fun c=>.inr (by injection c with c;exact c.symm)⟩,fun c=>(by cases c),fun g hg=>?_⟩
      · have:=hB.set_ 6 (.map (some w.heap.size))
        rw[hM] at this
        exact this
      · have hg':some w.heap.size=some g:=hg
        injection hg' with hg'
        subst hg'
        exact⟨0,hm0.far (ho.1.block _ hm0.blk (fun e=>by injection e with e;omega))⟩
  exact hs
theorem ptrL_tight {g c:Nat}{x:Nat→Option SpX}{X:Nat→Nat}(h8:∀ n y,x n=some y→n < 8)(h:MapK EI w g c (ptrL x X)):∃ c,c≤8∧MapK EI w g c (ptrL x X):=by
  have hn:(((List.range 8).filter fun n=>(x n).isSome).map fun (n:Nat)=>(n:Int)).Nodup:=List.pairwise_map.2 ((List.nodup_range.filter _).imp fun h e=>h (by omega))
  obtain⟨D,d1,_,d2,d3⟩:=h.tight hn (fun z=>by
    rw[List.mem_map]
    unfold ptrL
    constructor
    · rintro⟨n,hn,rfl⟩
      obtain⟨_,h2⟩:=List.mem_filter.1 hn
      rw[if_pos ⟨by omega,by rw[Int.toNat_natCast];exact h2⟩]
      simp
    · intro e
      split at e
      · rename_i c
        obtain⟨y,hy⟩:=Option.isSome_iff_exists.1 c.2
        exact⟨z.toNat,List.mem_filter.2 ⟨List.mem_range.2 (h8 _ y hy),c.2⟩,Int.toNat_of_nonneg c.1⟩
      · exact absurd rfl e)
  refine⟨_,?_,D,d1,d2,d3⟩
  have:=List.length_filter_le (fun n=>(x n).isSome) (List.range 8)
  rw[List.length_range] at this
  rw[List.length_map]
  exact this
def SpK.add (k:SpK)(n gX gT gQ:Nat):SpK:=⟨k.M,upd k.X n gX,upd k.T n gT,upd k.Q n gQ,upd k.v n (.slice none 0 0)⟩
set_option maxRecDepth 100000 in
theorem SpMem.newProc {w0 V:World} {g gT gQ r:Nat} {KT KQ:Nat→Prop} (h:SpMem w gS a k K m) (hM:k.M=some g) (hx:m.x n=none) (hn:n < 8) (hL:Loose w0 w a K KT gT m.F (t0 r))
    (hb:Below w.heap.size w V) (hQ:SigMem V gQ KQ 16 []) (hQn:∀ j,KQ j→w.heap.size≤j) :
    ∃ Y,(Instr.mapUpdate 42 (.map (some g)) (.int .i64 (n:Int)) (.pointer (some ⟨V.heap.size,0,none⟩))).run Tryz.prog (V.alloc (.cells #[.pointer (some ⟨gT,0,none⟩),.slice none 0 0,.pointer (some ⟨gQ,0,none⟩)] 94))=.ok () Y ∧
      ∃ K2,SpMem Y gS a (k.add n V.heap.size gT gQ) K2 (m.setX n (some ⟨t0 r,[],[]⟩))∧(∀ j,K2 j→K j∨w0.heap.size≤j∨w.heap.size≤j)∧Turns K w Y:=by
  have hKl:=h.lt
  obtain⟨κ,rfl,h⟩:=h
  obtain⟨h1,h2,h3,h4⟩:=h.ok .top
  obtain⟨c0,hc0⟩:=h4 g hM
  obtain⟨c,hc,hmk⟩:=ptrL_tight h.x8 hc0
  have hg:=hmk.blk
  have hTl:=hL.tree.lt
  have hQl:=hQ.lt
  obtain⟨V1,hV1⟩:∃ V1,V.alloc (.cells #[.pointer (some ⟨gT,0,none⟩),.slice none 0 0,.pointer (some ⟨gQ,0,none⟩)] 94)=V1:=⟨_,rfl⟩
  have hbV:Below w.heap.size w V1:=by rw[← hV1];exact hb.alloc hb.size _
  have hb1:Below V.heap.size V V1:=by rw[← hV1];exact (Below.refl _ V).alloc (Nat.le_refl _) _
  have hX:Blk V1 V.heap.size 94 #[.pointer (some ⟨gT,0,none⟩),.slice none 0 0,.pointer (some ⟨gQ,0,none⟩)]:=by rw[← hV1];exact Blk.new V _ _
  have hXl:=hX.lt
  have hwV:=hb.size
  rw[hV1]
  have hm1:MapK EI V1 g c (ptrL m.x k.X):=hmk.far (hbV.block g hg)
  obtain⟨Y,hrun,hm2,hoY⟩:=hm1.run_store Tryz.underlying42 (by omega) (n:Int) (WalkArith.wf_i64 (by omega)) (.pointer (some ⟨V.heap.size,0,none⟩))
  refine⟨Y,hrun,?_⟩
  have hsz:Y.heap.size=V1.heap.size:=hoY.2
  have kg:κ .top g:=(h2 g).2 (.inr hM)
  have ne:∀ j,(∀ i,¬ κ i j)→j≠g:=fun j hj e=>hj .top (e ▸ kg)
  have keepY:∀ j,j < V1.heap.size→j≠g→Y.heap[j]?=V1.heap[j]?:=fun j hj hne=>hoY.1.block j hj fun e=>hne (by injection e with e)
  have nT:∀ j,KT j→∀ i,¬ κ i j:=fun j hj i hi=>(hL.ap j hj).1 ⟨i,hi⟩
  have nW:∀ j,w.heap.size≤j→∀ i,¬ κ i j:=fun j hj i hi=>by have:=h.lt i j hi;omega
  have tT:Turns (fun j=>κ .top j) w Y:=(Turns.of_below hbV (Nat.le_refl _)).trans (Turns.of_only hoY kg)
  have hs:=h.step' (w':=Y) (k':=k.add n V.heap.size gT gQ) (m':=m.setX n (some ⟨t0 r,[],[]⟩)) (fun i=>i=.top∨i=.tr n∨i=.qu n∨i=.ar n) (fun i=>match i with | .tr _=>KT | .qu _=>KQ | .ar _=>(fun j=>j=V.heap.size) | i=>κ i) (tT.mono fun j hj=>⟨.top,.inl rfl,hj⟩)
    (by
      rintro i j (rfl | rfl | rfl | rfl) hj
      · exact .inl hj
      · exact .inr (nT j hj)
      · exact .inr (nW j (hQn j hj))
      · have hj':j=V.heap.size:=hj
        exact .inr (nW j (by omega)))
    (by
      rw[hsz]
      rintro i j (rfl | rfl | rfl | rfl) hj
      · exact Nat.lt_of_lt_of_le (h.lt .top j hj) hbV.size
      · exact Nat.lt_of_lt_of_le (hTl j hj) hbV.size
      · exact Nat.lt_of_lt_of_le (hQl j hj) hb1.size
      · have hj':j=V.heap.size:=hj
        omega)
    (by
      have q1:∀ j,κ .top j→KT j→False:=fun j a b=>nT j b _ a
      have q2:∀ j,κ .top j→KQ j→False:=fun j a b=>nW j (hQn j b) _ a
      have q3:∀ j,κ .top j→j=V.heap.size→False:=fun j a b=>nW j (by omega) _ a
      have q4:∀ j,KT j→KQ j→False:=fun j a b=>by have:=hTl j a;have:=hQn j b;omega
      have q5:∀ j,KT j→j=V.heap.size→False:=fun j a b=>by have:=hTl j a;omega
      have q6:∀ j,KQ j→j=V.heap.size→False:=fun j a b=>by have:=hQl j a;omega
      rintro i i' j (rfl | rfl | rfl | rfl) (rfl | rfl | rfl | rfl) d1 d2
      · rfl
      · exact (q1 j d1 d2).elim
      · exact (q2 j d1 d2).elim
      · exact (q3 j d1 d2).elim
      · exact (q1 j d2 d1).elim
      · rfl
      · exact (q4 j d1 d2).elim
      · exact (q5 j d1 d2).elim
      · exact (q2 j d2 d1).elim
      · exact (q4 j d2 d1).elim
      · rfl
      · exact (q6 j d1 d2).elim
      · exact (q3 j d2 d1).elim
      · exact (q5 j d2 d1).elim
      · exact (q6 j d2 d1).elim
      · rfl)
    (by
      intro n' y hy
      have hy':upd m.x n (some ⟨t0 r,[],[]⟩) n'=some y:=hy
      by_cases e:n'=n
      · omega
      · rw[upd_other _ _ _ e] at hy'
        exact h.x8 n' y hy')
    (by
      intro i hi hp
      have key:∀ n',n'≠n→∀ y,(m.setX n (some ⟨t0 r,[],[]⟩)).x n'=some y→m.x n'=some y:=fun n' e y hy=>by
        have hy':upd m.x n (some ⟨t0 r,[],[]⟩) n'=some y:=hy
        rw[upd_other _ _ _ e] at hy'
        exact hy'
      cases i with
      | top=>exact absurd (.inl rfl) hi
      | tr n' =>
        have e:n'≠n:=fun e=>hi (.inr (.inl (by rw[e])))
        intro y hy
        show TreeMem Y (upd k.T n gT n') (κ (.tr n')) a.R a.P m.F y.t
        rw[upd_other _ _ _ e]
        exact hp y (key n' e y hy)
      | qu n' =>
        have e:n'≠n:=fun e=>hi (.inr (.inr (.inl (by rw[e]))))
        intro y hy
        show SigMem Y (upd k.Q n gQ n') (κ (.qu n')) 16 y.q
        rw[upd_other _ _ _ e]
        exact hp y (key n' e y hy)
      | ar n' =>
        have e:n'≠n:=fun e=>hi (.inr (.inr (.inr (by rw[e]))))
        intro y hy
        have:=hp y (key n' e y hy)
        show Blk Y (upd k.X n V.heap.size n') _ #[.pointer (some ⟨upd k.T n gT n',0,none⟩),upd k.v n (.slice none 0 0) n',.pointer (some ⟨upd k.Q n gQ n',0,none⟩)]∧κ (.ar n') (upd k.X n V.heap.size n')∧Ars Y Y.heap.size (upd k.v n (.slice none 0 0) n') y.a∧InK (κ (.ar n')) (upd k.v n (.slice none 0 0) n')
        rw[upd_other _ _ _ e,upd_other _ _ _ e,upd_other _ _ _ e,upd_other _ _ _ e]
        exact this
      | _=>exact hp)
    (by
      have hxn:∀ y,(m.setX n (some ⟨t0 r,[],[]⟩)).x n=some y→y=⟨t0 r,[],[]⟩:=fun y hy=>by
        have hy':upd m.x n (some ⟨t0 r,[],[]⟩) n=some y:=hy
        rw[upd_same] at hy'
        injection hy' with hy'
        exact hy'.symm
      have far1:∀ j,j < w.heap.size→j≠g→Y.heap[j]?=w.heap[j]?:=fun j hj e=>(keepY j (Nat.lt_of_lt_of_le hj hbV.size) e).trans (hbV.block j hj)
      rintro i (rfl | rfl | rfl | rfl)
      · have hgS:gS≠g:=h1.noMap hmk.isMap |>.symm
        refine⟨?_,h2,fun e=>(by have e':k.M=none:=e;rw[hM] at e';cases e'),fun g' hg'=>?_⟩
        · unfold Blk
          rw[far1 gS h1.lt hgS]
          exact h1
        · have e:k.M=some g':=hg'
          rw[hM] at e
          injection e with e
          subst e
          refine⟨c+1,hm2.congr fun z=>?_⟩
          show updK (ptrL m.x k.X) (n:Int) (some (.pointer (some ⟨V.heap.size,0,none⟩))) z=ptrL (upd m.x n (some ⟨t0 r,[],[]⟩)) (upd k.X n V.heap.size) z
          unfold updK
          by_cases e:z=(n:Int)
          · subst e
            rw[if_pos rfl,ptrL_some (upd_same _ _ _),upd_same]
          · rw[if_neg e]
            unfold ptrL
            by_cases z0:0≤z
            · rw[upd_other _ _ _ (by omega),upd_other _ _ _ (by omega)]
            · rw[if_neg (fun d=>z0 d.1),if_neg (fun d=>z0 d.1)]
      · intro y hy
        obtain rfl:=hxn y hy
        show TreeMem Y (upd k.T n gT n) KT a.R a.P m.F (t0 r)
        rw[upd_same]
        exact hL.tree.far fun j hj=>far1 j (hTl j hj) (ne j (nT j hj))
      · intro y hy
        obtain rfl:=hxn y hy
        show SigMem Y (upd k.Q n gQ n) KQ 16 []
        rw[upd_same]
        exact hQ.far fun j hj=>(keepY j (Nat.lt_of_lt_of_le (hQl j hj) hb1.size) (ne j (nW j (hQn j hj)))).trans (hb1.block j (hQl j hj))
      · intro y hy
        obtain rfl:=hxn y hy
        show Blk Y (upd k.X n V.heap.size n) _ #[.pointer (some ⟨upd k.T n gT n,0,none⟩),upd k.v n (.slice none 0 0) n,.pointer (some ⟨upd k.Q n gQ n,0,none⟩)]∧upd k.X n V.heap.size n=V.heap.size∧Ars Y Y.heap.size (upd k.v n (.slice none 0 0) n) []∧InK (fun j=>j=V.heap.size) (upd k.v n (.slice none 0 0) n)
        rw[upd_same,upd_same,upd_same,upd_same]
        refine⟨?_,rfl,Gs.nil_ _ _,fun A l c e=>by cases e⟩
        unfold Blk
        rw[keepY _ hXl (by omega)]
        exact hX)
  refine⟨_,⟨_,rfl,hs⟩,?_,tT.mono fun j hj=>⟨.top,hj⟩⟩
  rintro j ⟨i,⟨rfl | rfl | rfl | rfl,d⟩ | ⟨_,d⟩⟩
  · exact .inl ⟨_,d⟩
  · exact .inr (.inl (hL.ap j d).2)
  · exact .inr (.inr (hQn j d))
  · have d':j=V.heap.size:=d
    exact .inr (.inr (by omega))
  · exact .inl ⟨_,d⟩
end
end Go.Proofs.YtaonpmclkafjdaaGreat
namespace Go.Proofs.YtaonpmclkafjdaaGreat
open Go.RowKit
set_option linter.unusedVariables false
theorem fst_some {p:PS}(h:0 < cntF p 2):¬ FirstF p 2 (2 ^ 0) none:=by
  intro hn
  unfold cntF at h
  obtain⟨g,hg⟩:=List.exists_mem_of_length_pos h
  obtain⟨hg1,hg2⟩:=List.mem_filter.1 hg
  obtain⟨u1,z1,i1⟩:=of_decide_eq_true hg2
  refine hn g ⟨Nat.mod_one g,List.mem_range.1 hg1,z1,i1,fun k k1 k2=>?_⟩
  obtain rfl:k=g:=by omega
  exact u1
theorem eqPr_some (m:Nat)(w:World):(binOp .eql 42 (.map (some m)) (.map none)).run Tryz.prog w=.ok (.bool false) w:=by kernel_rfl
theorem eqPr_none (w:World):(binOp .eql 42 (.map none) (.map none)).run Tryz.prog w=.ok (.bool true) w:=by kernel_rfl
def spawnM (m:SpM)(n r:Nat)(F':Nat→List Nat):SpM:=((m.setP ⟨m.p.u.set r 2,m.p.z,m.p.i⟩).setF F').setX n (some ⟨t0 r,[],[]⟩)
section
variable (gS:Nat)(a:SpA)(k:SpK)(K:Nat→Prop)(m:SpM)(w:World)
def Tree1 (w:World)(gS:Nat)(a:SpA)(k:SpK)(K:Nat→Prop)(m:SpM)(gT r:Nat)(F':Nat→List Nat)(w1:World):Prop :=
  FirstF m.p 2 (2 ^ 0) (some r)∧(∀ f,f≠r→F' f=m.F f)∧∃ K1 KT,SpMem w1 gS a k K1 ((m.setP ⟨m.p.u.set r 2,m.p.z,m.p.i⟩).setF F')∧Went w K w1 K1∧Loose w w1 a K1 KT gT F' (t0 r)
theorem tree_at (h:SpMem w gS a k K m) (hT:Tabs m) (hc:0 < cntF m.p 2) :
    Calls Tryz.prog 88 #[.pointer (some ⟨a.R,0,none⟩),.pointer (some ⟨a.P,0,none⟩)] w.drew fun e w1=>∃ gT r F',e=.returned (.tuple #[.pointer (some ⟨gT,0,none⟩),.int .i64 0])∧Tree1 w gS a k K m gT r F' w1∧w1.cell? ⟨gS,0,none⟩=some (.pointer (some ⟨a.R,0,none⟩))∧w1.cell? ⟨gS,2,none⟩=some (.pointer (some ⟨a.P,0,none⟩)):=by
  obtain⟨KP,h1,h2,h3,h4,h5⟩:=SpMem.newTree h.drew hT
  refine (tree_new a.R a.F a.P KP m.F m.bad m.p w.drew h1 h2 h3 h4 hT.bad).mono ?_
  rintro e w1 ⟨r,hr,hcase⟩
  cases r with
  | none=>exact absurd hr (fst_some hc)
  | some r =>
    obtain⟨gT,F',K',KT',rfl,c1,c2,c3,c4,c5,c6,c7,c8⟩:=hcase
    obtain⟨K1,d1,d2,d3⟩:=h5 w1 r gT F' K' KT' hr c1 c2 c3 c4 c5 c6 c7 c8
    exact⟨gT,r,F',rfl,⟨hr,c7,K1,KT',d1,(Went.refl w K).drew.trans d2,⟨d3.tree,d3.ap⟩⟩,d1.cells.cell 0,d1.cells.cell 2⟩
theorem sig_at {w0 V:World} {K0 KT:Nat→Prop} {g gT r n:Nat} {m1:SpM} (h:SpMem V gS a k K m1) (hM:k.M=some g) (hx:m1.x n=none) (hn:n < 8) (hL:Loose w0 V a K KT gT m1.F (t0 r)) (hW:Went w0 K0 V K) :
    Calls Tryz.prog 89 #[.int .i64 16] V.drew fun e w'=>∃ gQ Y,e=.returned (.pointer (some ⟨gQ,0,none⟩)) ∧
      (Instr.mapUpdate 42 (.map (some g)) (.int .i64 (n:Int)) (.pointer (some ⟨w'.heap.size,0,none⟩))).run Tryz.prog (w'.alloc (.cells #[.pointer (some ⟨gT,0,none⟩),.slice none 0 0,.pointer (some ⟨gQ,0,none⟩)] 94))=.ok () Y∧(∃ k',SpGo w0 gS a k' K0 (m1.setX n (some ⟨t0 r,[],[]⟩)) Y∧∀ n',n'≠n→k'.X n'=k.X n')∧Below V.heap.size V w'∧Y.cell? ⟨gS,6,none⟩=some (.map (some g)):=by
  refine (signal_new V.drew 16).mono ?_
  rintro e w' ⟨gQ,KQ,rfl,q1,q2,q3⟩
  have q1':SigMem w' gQ KQ 16 []:=q1
  have hz:w0.heap.size≤V.heap.size:=hW.tr.size
  obtain⟨Y,y1,K2,y2,y3,y4⟩:=SpMem.newProc h hM hx hn hL ((Below.refl V.heap.size V).drew.trans q3) q1' q2
  refine⟨gQ,Y,rfl,y1,⟨_,⟨K2,y2,⟨fun j hj=>?_,?_⟩⟩,fun n' hn'=>upd_other _ _ _ hn'⟩,(Below.refl V.heap.size V).drew.trans q3,?_⟩
  · rcases y3 j hj with c | c | c
    · exact hW.nk j c
    · exact .inr c
    · exact .inr (by omega)
  · exact (hW.trans (w'':=Y) (K'':=K) ⟨fun j hj=>.inl hj,y4⟩).tr
  · have:=y2.cells.cell 6
    rw[show (k.add n w'.heap.size gT gQ).M=k.M from rfl,hM] at this
    exact this
set_option maxRecDepth 100000 in
set_option maxHeartbeats 4000000 in
theorem spawn_some (n:Nat) (g:Nat) (hM:k.M=some g) (hn:n < 8) (h:SpMem w gS a k K m) (hT:Tabs m) (hx:m.x n=none) (hc:0 < cntF m.p 2) :
    Calls Tryz.prog 36 #[.pointer (some ⟨gS,0,none⟩),.int .i64 (n:Int)] w fun e w'=>∃ k' r F',FirstF m.p 2 (2 ^ 0) (some r)∧(∀ f,f≠r→F' f=m.F f)∧SpEnd w gS a k' K (.int .i64 0) (spawnM m n r F') e w'∧∀ n',n'≠n→k'.X n'=k.X n':=by
  have LQ:=SpMem.look_no gS a k K m w h (show (Lit.int .i64 (n:Int)).wf=true from WalkArith.wf_i64 (by omega)) (.inr fun n' e=>by
    have e2:n=n':=by omega
    rw[← e2]
    exact hx)
  have c6:w.cell? ⟨gS,6,none⟩=some (.map k.M):=h.cells.cell 6
  rw[hM] at LQ c6
  have c0:w.cell? ⟨gS,0,none⟩=some (.pointer (some ⟨a.R,0,none⟩)):=h.cells.cell 0
  have c2:w.cell? ⟨gS,2,none⟩=some (.pointer (some ⟨a.P,0,none⟩)):=h.cells.cell 2
  have t1:decide ((n:Int) < 0)=false:=decide_eq_false (by omega)
  have t2:decide (8≤(n:Int))=false:=decide_eq_false (by omega)
  have hl:=h.cells.lt
  have KEEP:=Lib.hid (fun (V:World) (hV:Below w.heap.size w V)=>(⟨(hV.cell (p:=⟨gS,0,none⟩) hl).trans c0,(hV.cell (p:=⟨gS,2,none⟩) hl).trans c2⟩:V.cell? ⟨gS,0,none⟩=some (.pointer (some ⟨a.R,0,none⟩))∧V.cell? ⟨gS,2,none⟩=some (.pointer (some ⟨a.P,0,none⟩))))
  have BR:=Lib.hid (Below.refl w.heap.size w)
  have TC:=Lib.hid (tree_at gS a k K m w h hT hc)
  have H:=Lib.hid (And.intro hM (And.intro hn hx))
  have q2:=@run_makeMap Tryz.prog
  clear h hT hx hc hn hl hM
  go_enter Tryz.func36,Tryz.ntmps36
  go_wp2_with fail
  go_region_held3 (fun w'=>w'.cell? ⟨gS,0,none⟩=some (.pointer (some ⟨a.R,0,none⟩))∧w'.cell? ⟨gS,2,none⟩=some (.pointer (some ⟨a.P,0,none⟩)))
    (first | with_reducible assumption | with_reducible exact KEEP.out _ BR.out.drew | with_reducible exact KEEP.out _ (by with_reducible assumption))
    ((go_at_call 88;refine TC.out.mono ?_;rintro e w1 ⟨gT,r,F',rfl,hT1,hcb⟩))
  obtain⟨hr,hF,K1,KT,d1,d2,d3⟩:=hT1
  clear hcb
  have c6':w1.cell? ⟨gS,6,none⟩=some (.map (some g)):=by
    have:=d1.cells.cell 6
    rw[H.out.1] at this
    exact this
  have hl1:=d1.cells.lt
  have KEEP1:=Lib.hid (fun (V:World) (hV:Below w1.heap.size w1 V)=>(hV.cell (p:=⟨gS,6,none⟩) hl1).trans c6')
  have BR1:=Lib.hid (Below.refl w1.heap.size w1)
  have SG:=Lib.hid (sig_at gS a k K1 d1 H.out.1 (show (((m.setP ⟨m.p.u.set r 2,m.p.z,m.p.i⟩).setF F').x n)=none from H.out.2.2) H.out.2.1 d3 d2)
  have R0:=Lib.hid (And.intro hr hF)
  clear hr hF d1 d2 d3 hl1
  have q3:=eqPr_some g
  go_wp2_with fail
  go_region_held3 (fun w'=>w'.cell? ⟨gS,6,none⟩=some (.map (some g)))
    (first | with_reducible assumption | with_reducible exact KEEP1.out _ BR1.out.drew | with_reducible exact KEEP1.out _ (belAl (by with_reducible assumption) _) | with_reducible exact KEEP1.out _ (by with_reducible assumption))
    ((go_at_call 89;refine SG.out.mono ?_;rintro e w5 ⟨gQ,Y,rfl,hY,hR,hbQ,hcY⟩))
  have RR:=Lib.hid hR
  clear hR
  go_wp2_with fail
  go_ret
  obtain⟨k',h9,h8⟩:=RR.out
  exact⟨k',r,F',R0.out.1,R0.out.2,⟨rfl,h9⟩,h8⟩
set_option maxRecDepth 100000 in
set_option maxHeartbeats 4000000 in
theorem spawn_none (n:Nat) (hM:k.M=none) (hn:n < 8) (h:SpMem w gS a k K m) (hT:Tabs m) (hx:m.x n=none) (hc:0 < cntF m.p 2) :
    Calls Tryz.prog 36 #[.pointer (some ⟨gS,0,none⟩),.int .i64 (n:Int)] w fun e w'=>∃ k' r F',FirstF m.p 2 (2 ^ 0) (some r)∧(∀ f,f≠r→F' f=m.F f)∧SpEnd w gS a k' K (.int .i64 0) (spawnM m n r F') e w'∧∀ n',n'≠n→k'.X n'=k.X n':=by
  have LQ:=SpMem.look_no gS a k K m w h (show (Lit.int .i64 (n:Int)).wf=true from WalkArith.wf_i64 (by omega)) (.inr fun n' e=>by
    have e2:n=n':=by omega
    rw[← e2]
    exact hx)
  have c6:w.cell? ⟨gS,6,none⟩=some (.map k.M):=h.cells.cell 6
  rw[hM] at LQ c6
  have c0:w.cell? ⟨gS,0,none⟩=some (.pointer (some ⟨a.R,0,none⟩)):=h.cells.cell 0
  have c2:w.cell? ⟨gS,2,none⟩=some (.pointer (some ⟨a.P,0,none⟩)):=h.cells.cell 2
  have t1:decide ((n:Int) < 0)=false:=decide_eq_false (by omega)
  have t2:decide (8≤(n:Int))=false:=decide_eq_false (by omega)
  have hl:=h.cells.lt
  have KEEP:=Lib.hid (fun (V:World) (hV:Below w.heap.size w V)=>(⟨(hV.cell (p:=⟨gS,0,none⟩) hl).trans c0,(hV.cell (p:=⟨gS,2,none⟩) hl).trans c2⟩:V.cell? ⟨gS,0,none⟩=some (.pointer (some ⟨a.R,0,none⟩))∧V.cell? ⟨gS,2,none⟩=some (.pointer (some ⟨a.P,0,none⟩))))
  have BR:=Lib.hid (Below.refl w.heap.size w)
  have TC:=Lib.hid (tree_at gS a k K m w h hT hc)
  have H:=Lib.hid (And.intro hM (And.intro hn hx))
  have q2:=@run_makeMap Tryz.prog
  clear h hT hx hc hn hl hM
  go_enter Tryz.func36,Tryz.ntmps36
  go_wp2_with fail
  go_region_held3 (fun w'=>w'.cell? ⟨gS,0,none⟩=some (.pointer (some ⟨a.R,0,none⟩))∧w'.cell? ⟨gS,2,none⟩=some (.pointer (some ⟨a.P,0,none⟩)))
    (first | with_reducible assumption | with_reducible exact KEEP.out _ BR.out.drew | with_reducible exact KEEP.out _ (by with_reducible assumption))
    ((go_at_call 88;refine TC.out.mono ?_;rintro e w1 ⟨gT,r,F',rfl,hT1,hcb⟩))
  obtain⟨hr,hF,K1,KT,d1,d2,d3⟩:=hT1
  clear hcb
  have c6':w1.cell? ⟨gS,6,none⟩=some (.map none):=by
    have:=d1.cells.cell 6
    rw[H.out.1] at this
    exact this
  have bA:=d1.cells.al (.map #[] 0)
  rw[H.out.1] at bA
  have ca:(w1.alloc (.map #[] 0)).cell? ⟨gS,6,none⟩=some (.map none):=bA.cell 6
  have fa:(w1.alloc (.map #[] 0)).frozen? ⟨gS,6,none⟩=false:=bA.frozen 6
  clear bA
  obtain⟨K2,e1,e2⟩:=SpMem.newMap d1 H.out.1
  have d3':Loose w ((w1.alloc (.map #[] 0)).setCell ⟨gS,6,none⟩ (.map (some w1.heap.size))) a K2 KT gT F' (t0 r):=by
    have hlt:=d3.tree.lt
    refine⟨d3.tree.far fun j hj=>e2.tr.block j (hlt j hj) (d3.ap j hj).1,fun j hj=>⟨fun hk=>?_,(d3.ap j hj).2⟩⟩
    rcases e2.nk j hk with c | c
    · exact (d3.ap j hj).1 c
    · have:=hlt j hj;omega
  have hl1:=e1.cells.lt
  have c6'':((w1.alloc (.map #[] 0)).setCell ⟨gS,6,none⟩ (.map (some w1.heap.size))).cell? ⟨gS,6,none⟩=some (.map (some w1.heap.size)):=e1.cells.cell 6
  have KEEP1:=Lib.hid (fun (V:World) (hV:Below ((w1.alloc (.map #[] 0)).setCell ⟨gS,6,none⟩ (.map (some w1.heap.size))).heap.size ((w1.alloc (.map #[] 0)).setCell ⟨gS,6,none⟩ (.map (some w1.heap.size))) V)=>(hV.cell (p:=⟨gS,6,none⟩) hl1).trans c6'')
  have BR1:=Lib.hid (Below.refl ((w1.alloc (.map #[] 0)).setCell ⟨gS,6,none⟩ (.map (some w1.heap.size))).heap.size ((w1.alloc (.map #[] 0)).setCell ⟨gS,6,none⟩ (.map (some w1.heap.size))))
  have SG:=Lib.hid (sig_at gS a (k.setM w1.heap.size) K2 e1 (show (k.setM w1.heap.size).M=some w1.heap.size from rfl) (show (((m.setP ⟨m.p.u.set r 2,m.p.z,m.p.i⟩).setF F').x n)=none from H.out.2.2) H.out.2.1 d3' (d2.trans e2))
  have R0:=Lib.hid (And.intro hr hF)
  clear hr hF d1 d2 d3 hl1 e1 e2 d3' c6''
  have q3:=eqPr_none
  go_wp2_with fail
  go_region_held3 (fun w'=>w'.cell? ⟨gS,6,none⟩=some (.map (some w1.heap.size)))
    (first | with_reducible assumption | with_reducible exact KEEP1.out _ BR1.out.drew | with_reducible exact KEEP1.out _ (belAl (by with_reducible assumption) _) | with_reducible exact KEEP1.out _ (by with_reducible assumption))
    ((go_at_call 89;refine SG.out.mono ?_;rintro e w5 ⟨gQ,Y,rfl,hY,hR,hbQ,hcY⟩))
  have RR:=Lib.hid hR
  clear hR
  go_wp2_with fail
  go_ret
  obtain⟨k',h9,h8⟩:=RR.out
  exact⟨k',r,F',R0.out.1,R0.out.2,⟨rfl,h9⟩,h8⟩
theorem spawn_go (n:Nat) (hn:n < 8) (h:SpMem w gS a k K m) (hT:Tabs m) (hx:m.x n=none) (hc:0 < cntF m.p 2) :
    Calls Tryz.prog 36 #[.pointer (some ⟨gS,0,none⟩),.int .i64 (n:Int)] w fun e w'=>∃ k' r F',FirstF m.p 2 (2 ^ 0) (some r)∧(∀ f,f≠r→F' f=m.F f)∧SpEnd w gS a k' K (.int .i64 0) (spawnM m n r F') e w'∧∀ n',n'≠n→k'.X n'=k.X n':=by
  cases hM:k.M with
  | none=>exact spawn_none gS a k K m w n hM hn h hT hx hc
  | some g=>exact spawn_some gS a k K m w n g hM hn h hT hx hc
end
end Go.Proofs.YtaonpmclkafjdaaGreat
namespace Go.Proofs.YtaonpmclkafjdaaGreat
open Go.RowKit
set_option linter.unusedVariables false
section
end
end Go.Proofs.YtaonpmclkafjdaaGreat

/-
  The statements' beginning: processes over so many sections of each zone.
  Processes of which it is known what they have: the short way to walk.
  Calls of a space of which the state is known.
  Fork, Spawn, Map of a space of which the state is known.
  A space of which the state is known, beside bytes and blocks: the short way to walk.
  The statements' beginning: one process over one section of each zone.
  Conditions: those that each line bears.
-/
import Derived.Test.YtaonpmclkafjdaaGreatQz48
import Derived.Test.YtaonpmclkafjdaaGreatQz49
import Derived.Deep.RegionHeld3
import Derived.Deep.DrawnRows
import Derived.Deep.QuietTactic
import Derived.BigQuiet
import Derived.Test.YtaonpmclkafjdaaGreatQz03
set_option linter.unusedSimpArgs false
set_option linter.unusedSectionVars false
set_option linter.unusedVariables false
namespace Go.Proofs.YtaonpmclkafjdaaGreat
open Go.RowKit
set_option linter.unusedVariables false
section
variable {w wx wy:World}{d gP i j:Nat}
end
end Go.Proofs.YtaonpmclkafjdaaGreat
namespace Go.Proofs.YtaonpmclkafjdaaGreat
open Go.RowKit
set_option linter.unusedVariables false
theorem Bts.keepK {wx w':World}{K K':Nat→Prop}{v:Value}{b:List Nat}(h:Bts wx wx.heap.size v b)(ho:Off K v)(ht:Turns K wx w')(hk:∀ k,K' k→K k∨wx.heap.size≤k):Bts w' w'.heap.size v b∧Off K' v:=by
  obtain⟨A,n,c,rfl,hl,h1,h2,h3,h4,h5⟩:=h
  constructor
  · refine⟨A,n,c,rfl,hl,h1,h2,h3,h4,fun hn=>?_⟩
    obtain⟨bk,off,rfl,hb,hc⟩:=h5 hn
    refine⟨bk,off,rfl,Nat.lt_of_lt_of_le hb ht.size,fun j hj=>?_⟩
    rw[World.cell?_of_block (ht.block bk hb (ho bk off none n c rfl hn))]
    exact hc j hj
  · intro bk o s n' c' e hn hK
    injection e with e1 e2 e3
    subst e1 e2 e3
    obtain⟨bk',off,e4,hb,hc⟩:=h5 hn
    injection e4 with e4
    injection e4 with e5 e6 e7
    subst e5 e6 e7
    rcases hk _ hK with r | r
    · exact ho _ _ _ _ _ rfl hn r
    · omega
theorem Bts.off {w:World}{B:Nat}{v:Value}{b:List Nat}{K:Nat→Prop}(h:Bts w B v b)(hK:∀ k,K k→B≤k):Off K v:=by
  intro bk o s n c e hn hk
  have h1:=hK bk hk
  obtain⟨A',n',c2,e2,_,_,_,_,_,h2⟩:=h
  rw[e] at e2
  injection e2 with e3 e4 e5
  subst e4
  obtain⟨bk',off,e6,hb,hc⟩:=h2 hn
  rw[e6] at e3
  injection e3 with e3
  injection e3 with e7 e8 e9
  omega
theorem Blk.keepK {wx w':World}{K K':Nat→Prop}{g:Nat}{t:TypeId}{cs:Array Value}(h:Blk wx g t cs)(ho:¬ K g)(ht:Turns K wx w')(hk:∀ k,K' k→K k∨wx.heap.size≤k):Blk w' g t cs∧¬ K' g:=by
  refine⟨ht.blk h ho,fun hg=>?_⟩
  have:=h.lt
  rcases hk _ hg with r | r
  · exact ho r
  · omega
section
variable {w wx wy:World}{gS:Nat}{W W':UW}{nr mv u nr' mv' u':Nat}{H:List (Value × List Nat)}{L:List (Nat × TypeId × Array Value)}{v:Value}{b ys:List Nat}
end
theorem spawn_pr (W:UW)(n:Nat):(spawnU W n).pr n=some ⟨[],[]⟩:=upd_same _ _ _
theorem ars_pr {W:UW}{n:Nat}{p:Prc}(h:W.pr n=some p)(l:List Ar):(arsU W n l).pr n=some ⟨l,p.sg⟩:=by
  unfold arsU
  simp only[h,Option.map_some]
  exact upd_same _ _ _
theorem ars_ne (W:UW){n m:Nat}(l:List Ar)(h:m≠n):(arsU W n l).pr m=W.pr m:=upd_other _ _ _ h
end Go.Proofs.YtaonpmclkafjdaaGreat
namespace Go.Proofs.YtaonpmclkafjdaaGreat
open Go.RowKit
set_option linter.unusedVariables false
theorem one_or_two {l:List Pc3}(h0:l≠[])(h2:l.length≤2):(∃ p,l=[p])∨∃ p q,l=[p,q]:=by
  match l,h0,h2 with
  | [],h,_=>exact absurd rfl h
  | [p],_,_=>exact .inl ⟨p,rfl⟩
  | [p,q],_,_=>exact .inr ⟨p,q,rfl⟩
  | _ :: _ :: _ :: _,_,h=>simp at h
def EntsR (m:SpM)(n pg f g:Nat)(m':SpM):Prop:=∀ n' q,entM m' n' q=if n'=n∧q=pg then ⟨1,(f:Int),false⟩ else if (entM m n pg).k=2∧entM m n' q=entM m n pg then ⟨1,(g:Int),false⟩ else entM m n' q
theorem wroteM_c {A:Nat→Nat→Option Ar}:∀ (ps:List Pc3) (m:SpM) (ys:List Nat),Inv A m→(∀ k,frameC (wroteM m ps ys).c k=frameC m.c k)∧(∀ e∈(wroteM m ps ys).c,∃ e'∈m.c,e'.k=e.k∧e'.f=e.f)∧(∀ e∈m.c,∃ e'∈(wroteM m ps ys).c,e'.k=e.k∧e'.f=e.f)∧(wroteM m ps ys).S=m.S∧(wroteM m ps ys).L=m.L∧(wroteM m ps ys).T=m.T∧(wroteM m ps ys).bad=m.bad∧(wroteM m ps ys).b=m.b:=by
  intro ps
  induction ps with
  | nil=>exact fun m ys _=>⟨fun _=>rfl,fun e he=>⟨e,he,rfl,rfl⟩,fun e he=>⟨e,he,rfl,rfl⟩,rfl,rfl,rfl,rfl,rfl⟩
  | cons p ps ih =>
    intro m ys hi
    obtain⟨h1,h2,h3,h4,h5,h6,h7,h8⟩:=ih (wrote m p (ys.take p.n)) (ys.drop p.n) hi.wrote
    obtain⟨c1,c2,c3⟩:=wrote_c (p:=p) (ys:=ys.take p.n) hi.cok
    refine⟨fun k=>(h1 k).trans (c2 k),fun e he=>?_,fun e he=>?_,h4,h5,h6,h7,h8⟩
    · obtain⟨e1,a1,a2,a3⟩:=h2 e he
      obtain⟨e0,b1,b2,b3⟩:=c3 e1 a1
      exact⟨e0,b1,b2.trans a2,b3.trans a3⟩
    · have:∃ e'∈(wrote m p (ys.take p.n)).c,e'.k=e.k∧e'.f=e.f:=by
        have ec:(wrote m p (ys.take p.n)).c=match pageC m.c (p.f:Int) with | some kk=>markC m.c kk true | none=>m.c:=rfl
        rw[ec]
        cases pageC m.c (p.f:Int) with
        | none=>exact⟨e,he,rfl,rfl⟩
        | some kk=>exact⟨if e.k=kk then ⟨e.k,e.f,true⟩ else e,List.mem_map.2 ⟨e,he,rfl⟩,by split <;> rfl,by split <;> rfl⟩
      obtain⟨e1,a1,a2,a3⟩:=this
      obtain⟨e0,b1,b2,b3⟩:=h3 e1 a1
      exact⟨e0,b1,b2.trans a2,b3.trans a3⟩
theorem wroteM_kp {A:Nat→Nat→Option Ar}{ps:List Pc3}{m:SpM}{ys:List Nat}(hi:Inv A m):Kp m (wroteM m ps ys):=by
  obtain⟨h1,h2,h3,h4,h5,h6,h7,h8⟩:=wroteM_c ps m ys hi
  obtain⟨p1,p2,p3⟩:=wroteM_rest ps m ys
  refine⟨⟨by rw[p1],by rw[p1],h4,h5,h6,h7,fun z=>⟨fun n q f e=>?_,fun e he f ef=>?_⟩⟩,fun f hf l=>?_⟩
  · rw[entM_congr p2] at e
    rw[p1]
    exact z.all n q f e
  · obtain⟨e',a1,a2,a3⟩:=h2 e he
    rw[p1]
    exact z.cac e' a1 f (a3.trans ef)
  · unfold Leak at l ⊢
    rw[p1,p2,h8] at l
    refine l.imp id fun l=>l.imp (fun l=>⟨l.1,fun e he ef=>?_⟩) id
    obtain⟨e',a1,a2,a3⟩:=h3 e he
    exact l.2 e' a1 (a3.trans ef)
theorem dirty_markT {es:CS}{κ:Pl}(h:∃ e∈es,e.k=κ):dirtyC (markC es κ true) κ=true:=by
  obtain⟨e,he,rfl⟩:=h
  unfold dirtyC markC
  rw[List.any_eq_true]
  exact⟨⟨e.k,e.f,true⟩,List.mem_map.2 ⟨e,he,if_pos rfl⟩,by simp⟩
structure StoR (m:SpM)(n pg:Nat)(r:Ar)(m':SpM):Prop where
  kp:Kp m m'
  ents:∃ f g:Nat,f < 1024∧EntsR m n pg f g m'∧(r.kd=2→frameC m'.c ⟨r.fl,r.ofs+(pg:Int) - r.fr⟩=some (f:Int)∧dirtyC m'.c ⟨r.fl,r.ofs+(pg:Int) - r.fr⟩=true)∧(r.kd=1→m'.p.u.getD f 0=3)
section
variable (gS:Nat)(sa:SpA)(sk:SpK)(K:Nat→Prop)(m:SpM)(W:UW)(nr mv u:Nat)(w:World)
theorem store_none (n x:Nat) (v:Value) (hp:W.pr n≠none) (hb:Bts w w.heap.size v []) (hx:x≤262144) (h1:SpMem w gS sa sk K m) (h2:SpOk m W (nr+9) (mv+4) u) (ho:Off K v) :
    Calls Tryz.prog 11 #[.pointer (some ⟨gS,0,none⟩),.int .i64 (n:Int),.int .i64 (x:Int),v] w (SpEnd w gS sa sk K (.int .i64 0) m):=by
  obtain⟨y,hy,hpy⟩:=h2.sees.proc hp
  have a1:=h2.nr
  have a2:=h2.mv
  refine (store_go gS sa sk K w (AskJ W n x 0 true m) (n:Int) x v [] (ask_go gS sa sk K m w (AskJ W n x 0 true m) n y x 0 true h1 hy (by omega) (by omega) (askJ_zero m W n x 0 true (SpMem.lens h1) h2.inv h2.sees) fun at_ rem ps m' V K' hJ r0 r1 r2 hV=>absurd r0 (by have:=hJ.sum;omega)) (fun ps m' hJ=>?_) hb ho).mono ?_
  · have hps:ps=[]:=by
      cases ps with
      | nil=>rfl
      | cons p ps =>
        have h1:=hJ.pcs.1.2.1
        have h2:=hJ.sum
        have h3:lenP (p :: ps)=p.n+lenP ps:=rfl
        omega
    subst hps
    exact⟨⟨hJ.inv.tabs.bad,fun p hp=>absurd hp List.not_mem_nil,fun p hp=>absurd hp List.not_mem_nil,fun p hp=>absurd hp List.not_mem_nil⟩,by decide⟩
  · rintro e w' ⟨ps,m',hJ,h3⟩
    have hps:ps=[]:=by
      cases ps with
      | nil=>rfl
      | cons p ps =>
        have h1:=hJ.pcs.1.2.1
        have h2:=hJ.sum
        have h3:lenP (p :: ps)=p.n+lenP ps:=rfl
        omega
    subst hps
    have:=hJ.nil_ rfl
    subst this
    exact h3
set_option maxHeartbeats 1000000 in
theorem store_m1 (n x:Nat) (v:Value) (b:List Nat) (r:Ar) (hO:Has W n r) (hw:r.w=true) (hb:Bts w w.heap.size v b) (ho:Off K v) (h0:0 < b.length) (hpg:x % 64+b.length≤64) (hx:x+b.length≤262144) (hin:∀ j,j < b.length→inAr r (x+j)) (h1:SpMem w gS sa sk K m) (h2:SpOk m W (nr+9) (mv+4) u) :
    Calls Tryz.prog 11 #[.pointer (some ⟨gS,0,none⟩),.int .i64 (n:Int),.int .i64 (x:Int),v] w fun e w'=>∃ m',SpEnd w gS sa sk K (.int .i64 0) m' e w'∧SpOk m' (storeU W n x b) (nr+6) (mv+2) (u+3)∧StoR m n (x / 64) r m':=by
  have hp:W.pr n≠none:=hO.pr_ne
  have hl:b.length≤64:=by omega
  obtain⟨y,hy,hpy⟩:=h2.sees.proc hp
  have hz0:=hin 0 h0
  rw[Nat.add_zero] at hz0
  have har:arM m n (x / 64)=some r:=(h2.sees.area _ _).symm.trans (hO.area hz0.1 hz0.2)
  have hfm:=(findA_iff (h2.inv.ars n y hy).1).1 ((arM_some hy _).symm.trans har)
  have hrs:soundA r:=(h2.inv.ars n y hy).1.1 r hfm.1
  have hm:W.mayAll n x b.length true:=mayAll_one hO (fun _=>hw) hin
  have a1:=h2.nr
  have a2:=h2.mv
  refine (store_go gS sa sk K w (AskJ W n x b.length true m) (n:Int) x v b (ask_go gS sa sk K m w (AskJ W n x b.length true m) n y x b.length true h1 hy hl hx (askJ_zero m W n x b.length true (SpMem.lens h1) h2.inv h2.sees) fun at_ rem ps m' V K' hJ r0 r1 r2 hV =>
    askJ_step gS sa sk m W n x b.length true (by omega) (by omega) hl hp hm at_ rem ps m' V K' hJ r0 r1 r2 hV) (fun ps m' hJ=>?_) hb ho).mono ?_
  · refine⟨⟨hJ.inv.tabs.bad,fun p hp=>⟨(hJ.pcs.all p hp).1.1,(hJ.pcs.all p hp).1.2.1,(hJ.pcs.all p hp).1.2.2⟩,fun p hp n' y' hy' f hf e=>?_,fun p hp kk hk=>?_⟩,by have:=hJ.sum;omega⟩
    · obtain⟨q,hq,_⟩:=(hJ.pcs.all p hp).2
      obtain⟨_,r',_,d⟩:=hJ.inv.ent_lt hq
      have h2':=hJ.inv.tabs.use n' y' hy' f hf
      rw[e] at h2'
      rcases d with d | d
      · omega
      · omega
    · obtain⟨c,hc,rfl,_⟩:=pageC_some hk
      obtain⟨⟨q1,q2,q3,q4⟩,_⟩:=hJ.inv.ckey c hc
      exact⟨WalkArith.wf_i64 (by omega),WalkArith.wf_i64 (by omega)⟩
  · rintro e w' ⟨ps,m',hJ,hE⟩
    obtain⟨p1,p2,p3⟩:=wroteM_rest ps m' b
    have c:=hJ.cost
    have c2:=c.c2
    have c3:=c.c3
    have hm2:=hJ.most
    have hsum:=hJ.sum
    have hone:∃ p,ps=[p]:=by
      rcases one_or_two (l:=ps) (fun e=>(by rw[e] at hsum;have:lenP []=0:=rfl;omega)) hm2 with h | ⟨p,q,h⟩
      · exact h
      · exact absurd (hJ.two_ p q h) (by omega)
    have hl1:ps.length=1:=by obtain⟨p,hp⟩:=hone;rw[hp];rfl
    obtain⟨g1,g2⟩:=sees_wroteM (r:=r) ps m' W x b _ hJ.inv hJ.sees (fun hk n' q hq=>by
      obtain⟨_,rfl,⟨z,z1,z2,rfl⟩,r',hr',hk'⟩:=hq
      have hz:=hin (z - x) (by omega)
      rw[show x+(z - x)=z by omega] at hz
      rw[hO.area hz.1 hz.2] at hr'
      injection hr' with hr'
      exact hk' (hr' ▸ hk)) hO (fun _=>hrs) hJ.pcs (by omega) hJ.lens (fun j hj=>hin j (by omega))
    refine⟨_,hE,⟨g1,g2.mono fun n' q hq=>hq.2 ⟨hq.1.2.1,hq.1.2.2.1⟩,by rw[p1];omega,by rw[p1];omega,fun n' z e=>?_,fun t n' q e1 e2=>by rw[p2] at e1;rw[p3] at e2;exact h2.fre t n' q (c.fre t n' q e1 e2).1 (c.fre t n' q e1 e2).2⟩,⟨c.kp.trans (wroteM_kp hJ.inv),?_⟩⟩
    · rw[p2] at e
      obtain⟨y0,e0,l0⟩:=c.tt n' z e
      have:=h2.tb n' y0 e0
      omega
    · -- one piece
      obtain⟨p,rfl⟩:=hone
      obtain⟨g,-,-,hg⟩:=hJ.one_ p rfl
      obtain⟨⟨q1,q2,q3,q4⟩,hq,-⟩:=hJ.pcs
      refine⟨p.f,g,q4,fun n' q=>(entM_congr p2 n' q).trans (hg n' q),fun hk=>?_,fun hk=>?_⟩
      · obtain⟨_,r',hr',d⟩:=hJ.inv.ent_lt hq.1
        have hr2:arM m' n (x / 64)=some r:=(hJ.sees.area _ _).symm.trans (hO.area hz0.1 hz0.2)
        rw[hr2] at hr'
        injection hr' with hr'
        subst hr'
        rcases d with d | ⟨_,_,d⟩
        · exact absurd hk d.2
        · have hpc:=pageC_of hJ.inv.cok d
          obtain⟨e0,he0,k0,_⟩:=frameC_some d
          have ec:(wroteM m' [p] b).c=markC m'.c ⟨r.fl,r.ofs+((x / 64:Nat):Int) - r.fr⟩ true:=by
            show (match pageC m'.c (p.f:Int) with | some kk=>markC m'.c kk true | none=>m'.c)=_
            rw[hpc]
          rw[ec]
          exact⟨(frameC_mark _ _ _ _).trans d,dirty_markT ⟨e0,he0,k0⟩⟩
      · obtain⟨_,r',hr',d⟩:=hJ.inv.ent_lt hq.1
        have hr2:arM m' n (x / 64)=some r:=(hJ.sees.area _ _).symm.trans (hO.area hz0.1 hz0.2)
        rw[hr2] at hr'
        injection hr' with hr'
        subst hr'
        rw[p1]
        rcases d with d | d
        · exact d.1
        · exact absurd hk d.2.1
theorem store_m (n x:Nat) (v:Value) (b:List Nat) (r:Ar) (hO:Has W n r) (hw:r.w=true) (hb:Bts w w.heap.size v b) (ho:Off K v) (h0:0 < b.length) (hpg:x % 64+b.length≤64) (hx:x+b.length≤262144) (hin:∀ j,j < b.length→inAr r (x+j)) (h1:SpMem w gS sa sk K m) (h2:SpOk m W (nr+9) (mv+4) u) :
    Calls Tryz.prog 11 #[.pointer (some ⟨gS,0,none⟩),.int .i64 (n:Int),.int .i64 (x:Int),v] w fun e w'=>∃ m',SpEnd w gS sa sk K (.int .i64 0) m' e w'∧SpOk m' (storeU W n x b) (nr+3) mv (u+6)∧StoR m n (x / 64) r m' :=
  (store_m1 gS sa sk K m W nr mv u w n x v b r hO hw hb ho h0 hpg hx hin h1 h2).mono fun e w' ⟨m',g1,g2,g3⟩=>⟨m',g1,g2.le (by omega) (by omega) (by omega),g3⟩
set_option maxHeartbeats 1000000 in
theorem load_m1 (n x len:Nat) (hp:W.pr n≠none) (h0:0 < len) (hpg:x % 64+len≤64) (hx:x+len≤262144) (hm:W.mayAll n x len false) (h1:SpMem w gS sa sk K m) (h2:SpOk m W (nr+9) (mv+4) u) :
    Calls Tryz.prog 24 #[.pointer (some ⟨gS,0,none⟩),.int .i64 (n:Int),.int .i64 (x:Int),.int .i64 (len:Int)] w fun e w'=>∃ (v:Value) (m':SpM) (K':Nat→Prop),e=.returned (.tuple #[v,.int .i64 0])∧SpMem w' gS sa sk K' m'∧Went w K w' K'∧Bts w' w'.heap.size v (bytesU W n x len)∧Off K' v∧SpOk m' W (nr+6) (mv+2) (u+3)∧Kp m m'∧∃ f:Nat,f < 1024∧EntsR m n (x / 64) f f m'∧((entM m n (x / 64)).k=1→m'=m):=by
  have hl:len≤64:=by omega
  obtain⟨y,hy,-⟩:=h2.sees.proc hp
  have a1:=h2.nr
  have a2:=h2.mv
  refine (loads_go gS sa sk K w (AskJ W n x len false m) (n:Int) x len (ask_go gS sa sk K m w (AskJ W n x len false m) n y x len false h1 hy hl hx (askJ_zero m W n x len false (SpMem.lens h1) h2.inv h2.sees) fun at_ rem ps m' V K' hJ r0 r1 r2 hV =>
    askJ_step gS sa sk m W n x len false (by omega) (by omega) hl hp hm at_ rem ps m' V K' hJ r0 r1 r2 hV) fun ps m' hJ=>⟨hJ.inv.tabs.bad,fun p hp=>⟨(hJ.pcs.all p hp).1.1,(hJ.pcs.all p hp).1.2.1⟩⟩).mono ?_
  rintro e w' ⟨v,ps,m',K',rfl,hJ,hb,ho,h3,h4⟩
  have c:=hJ.cost
  have c2:=c.c2
  have c3:=c.c3
  have hm2:=hJ.most
  have hsee:Sees (fun _ _=>False) m' W:=hJ.sees.mono fun _ _ hq=>by cases hq.1
  have hsum:=hJ.sum
  have hby:=pcs_bytes hsee hJ.lens ps x hJ.pcs fun z z1 z2=>by
    obtain⟨r,hr,_⟩:=hm z z1 (by omega)
    rw[hr]
    simp
  rw[hby,show lenP ps=len by omega] at hb
  have hone:∃ p,ps=[p]:=by
    rcases one_or_two (l:=ps) (fun e=>(by rw[e] at hsum;have:lenP []=0:=rfl;omega)) hm2 with h | ⟨p,q,h⟩
    · exact h
    · exact absurd (hJ.two_ p q h) (by omega)
  have hl1:ps.length=1:=by obtain⟨p,hp⟩:=hone;rw[hp];rfl
  refine⟨v,m',K',rfl,h3,h4,hb,ho,⟨hJ.inv,hsee,by omega,by omega,fun n' z e=>?_,fun t n' q e1 e2=>h2.fre t n' q (c.fre t n' q e1 e2).1 (c.fre t n' q e1 e2).2⟩,c.kp,?_⟩
  · obtain⟨y0,e0,l0⟩:=c.tt n' z e
    have:=h2.tb n' y0 e0
    omega
  · obtain⟨p,rfl⟩:=hone
    obtain⟨g,hgf,hgr,hg⟩:=hJ.one_ p rfl
    rw[hgf rfl] at hg
    obtain⟨⟨q1,q2,q3,q4⟩,hq,-⟩:=hJ.pcs
    exact⟨p.f,q4,hg,hgr rfl⟩
theorem load_m (n x len:Nat) (hp:W.pr n≠none) (h0:0 < len) (hpg:x % 64+len≤64) (hx:x+len≤262144) (hm:W.mayAll n x len false) (h1:SpMem w gS sa sk K m) (h2:SpOk m W (nr+9) (mv+4) u) :
    Calls Tryz.prog 24 #[.pointer (some ⟨gS,0,none⟩),.int .i64 (n:Int),.int .i64 (x:Int),.int .i64 (len:Int)] w fun e w'=>∃ (v:Value) (m':SpM) (K':Nat→Prop),e=.returned (.tuple #[v,.int .i64 0])∧SpMem w' gS sa sk K' m'∧Went w K w' K'∧Bts w' w'.heap.size v (bytesU W n x len)∧Off K' v∧SpOk m' W (nr+3) mv (u+6)∧Kp m m'∧∃ f:Nat,f < 1024∧EntsR m n (x / 64) f f m' :=
  (load_m1 gS sa sk K m W nr mv u w n x len hp h0 hpg hx hm h1 h2).mono fun e w' ⟨v,m',K',g1,g2,g3,g4,g5,g6,g7,f,g8,g9,_⟩=>⟨v,m',K',g1,g2,g3,g4,g5,g6.le (by omega) (by omega) (by omega),g7,f,g8,g9⟩
end
end Go.Proofs.YtaonpmclkafjdaaGreat
namespace Go.Proofs.YtaonpmclkafjdaaGreat
open Go.RowKit
set_option linter.unusedVariables false
theorem spawn_kp {m:SpM}{n r:Nat}{F':Nat→List Nat}(hx:m.x n=none)(hr:m.p.u.getD r 0=1):Kp m (spawnM m n r F'):=by
  refine⟨⟨rfl,rfl,rfl,rfl,rfl,rfl,fun z=>⟨fun n' q f e=>?_,z.cac⟩⟩,fun f hf l=>?_⟩
  · rw[spawn_ent hx] at e
    exact z.all n' q f e
  · unfold Leak at l ⊢
    rw[spawn_use hr] at l
    by_cases c:f=r
    · rw[if_pos c] at l
      rcases l with l | l | l
      · omega
      · omega
      · exact absurd (by show f∈[r];rw[c];exact List.mem_cons_self) (l.2 n ⟨t0 r,[],[]⟩ (upd_same _ _ _))
    · rw[if_neg c] at l
      refine l.imp id fun l=>l.imp id fun l=>⟨l.1,fun n' y hy=>?_⟩
      by_cases d:n'=n
      · rw[d,hx] at hy;cases hy
      · exact l.2 n' y ((upd_other _ _ _ d).trans hy)
theorem setX_kp {m:SpM}{n:Nat}{y y':SpX}(hy:m.x n=some y)(ht:y'.t=y.t):Kp m (m.setX n (some y')):=by
  refine⟨⟨rfl,rfl,rfl,rfl,rfl,rfl,fun z=>⟨fun n' q f e=>?_,z.cac⟩⟩,fun f hf l=>?_⟩
  · rw[entM_setX hy (by rw[ht])] at e
    exact z.all n' q f e
  · refine l.imp id fun l=>l.imp id fun l=>⟨l.1,fun n' y2 hy2=>?_⟩
    by_cases d:n'=n
    · subst d
      rw[hy] at hy2
      injection hy2 with hy2
      have:=l.2 n' y' (upd_same _ _ _)
      rw[ht,hy2] at this
      exact this
    · exact l.2 n' y2 ((upd_other _ _ _ d).trans hy2)
section
variable (gS:Nat)(a:SpA)(k:SpK)(K:Nat→Prop)(m:SpM)(W:UW)(nr mv u:Nat)(w:World)
set_option maxRecDepth 100000 in
theorem spawn_m (n:Nat) (hn:n < 8) (hp:W.pr n=none) (h1:SpMem w gS a k K m) (h2:SpOk m W (nr+1) mv u) :
    Calls Tryz.prog 36 #[.pointer (some ⟨gS,0,none⟩),.int .i64 (n:Int)] w fun e w'=>∃ k' m',SpEnd w gS a k' K (.int .i64 0) m' e w'∧SpOk m' (spawnU W n) nr mv (u+1)∧Kp m m'∧m'.c=m.c∧m'.s=m.s∧m'.b=m.b∧∀ n' q,entM m' n' q=entM m n' q:=by
  have hx:m.x n=none:=by
    have:=h2.sees.pr n
    rw[hp] at this
    exact Option.map_eq_none_iff.1 this.symm
  have hnr:=h2.nr
  refine (spawn_go gS a k K m w n hn h1 h2.inv.tabs hx (by omega)).mono ?_
  rintro e w' ⟨k',r,F',hr,hF,h3,-⟩
  obtain⟨r1,r2,r3,r4⟩:=first_run hr
  have hc:=spawn_cnt (n:=n) (F':=F') hr
  have htk:TsOk (t0 r):=by
    obtain⟨_,K',h4,_⟩:=id h3
    exact h4.tsok gS a k' K' _ w' (n:=n) (y:=⟨t0 r,[],[]⟩) (upd_same _ _ _)
  refine⟨k',_,h3,⟨?_,h2.sees.spawn h2.inv hx r2 hF,by omega,by have:=h2.mv;omega,fun n' y e=>?_,fun t n' q e=>?_⟩,spawn_kp hx r2,rfl,rfl,rfl,spawn_ent hx⟩
  · rw[spawn_ar hx]
    exact h2.inv.spawn hn hx hr htk fun t q=>h2.fre t n q hx
  · rcases spawn_case e with ⟨rfl,rfl⟩ | ⟨c,e⟩
    · show [r].length≤u+1
      simp
    · have:=h2.tb n' y e
      omega
  · refine h2.fre t n' q ?_
    by_cases c:n'=n
    · rw[c];exact hx
    · exact (upd_other _ _ _ c).symm.trans e
theorem map_m (n:Nat) (P:Prc) (r:Ar) (wa:WAr' r) (hp:W.pr n=some P) (he:addE P.ars r=0) (h1:SpMem w gS a k K m) (h2:SpOk m W nr mv u) :
    Calls Tryz.prog 37 #[.pointer (some ⟨gS,0,none⟩),.int .i64 (n:Int),.agg (arL r).toArray] w fun e w'=>∃ k' m',SpEnd w gS a k' K (.int .i64 0) m' e w'∧SpOk m' (arsU W n (insA P.ars r)) nr mv u∧Kp m m'∧m'.c=m.c∧m'.s=m.s∧m'.b=m.b∧∀ n' q,entM m' n' q=entM m n' q:=by
  obtain⟨y,hy,hpy⟩:=h2.sees.proc (n:=n) (by rw[hp];simp)
  rw[hp] at hpy
  injection hpy with hpy
  subst hpy
  obtain⟨fr,ap,aw,kd,fl,ofs⟩:=r
  obtain⟨l1,l2⟩:=h2.inv.ars n y hy
  refine (map_go gS a k K m w n y fr ap aw kd fl ofs wa h1 hy l1 (by omega)).mono ?_
  rintro e w' ⟨k',h3⟩
  have c:addE y.a ⟨fr,ap,aw,kd,fl,ofs⟩=0:=he
  obtain⟨g1,g2,g3⟩:=add_ok l1 c
  have hK:∀ q:Nat,(∃ r r',findA y.a (q:Int)=some r∧findA (insA y.a ⟨fr,ap,aw,kd,fl,ofs⟩) (q:Int)=some r'∧samePg r r' q)∨(entM m n q=en0∧W.own n q=none):=by
    intro q
    cases d:findA y.a (q:Int) with
    | some r=>exact .inl ⟨r,r,rfl,g3 _ _ d,samePg.refl _ _⟩
    | none =>
      have d':arM m n q=none:=(arM_some hy q).trans d
      refine .inr ⟨?_,h2.sees.out n q ((h2.sees.area n q).trans d')⟩
      rcases h2.inv.ent_three n q with e | ⟨f,_,_,r,hr,_⟩ | ⟨t,_,_,r,hr,_⟩
      · exact e
      · rw[d'] at hr;cases hr
      · rw[d'] at hr;cases hr
  have e2:addL y.a ⟨fr,ap,aw,kd,fl,ofs⟩=insA y.a ⟨fr,ap,aw,kd,fl,ofs⟩:=by
    unfold addL
    rw[if_pos c]
  rw[c,if_pos rfl,e2] at h3
  refine⟨k',_,h3,⟨h2.inv.areas hy g1 g2 fun q=>(hK q).imp id fun h=>h.1,h2.sees.areas h2.inv hy g1 hK,h2.nr,h2.mv,fun n' z e=>?_,fre_setX hy h2.fre⟩,setX_kp hy rfl,rfl,rfl,rfl,fun n' q=>entM_setX (y':=⟨y.t,insA y.a ⟨fr,ap,aw,kd,fl,ofs⟩,y.q⟩) hy rfl n' q⟩
  have e':upd m.x n _ n'=some z:=e
  by_cases d:n'=n
  · subst d
    rw[upd_same] at e'
    injection e' with e'
    subst e'
    exact h2.tb n' y hy
  · rw[upd_other _ _ _ d] at e'
    exact h2.tb n' z e'
end
end Go.Proofs.YtaonpmclkafjdaaGreat
namespace Go.Proofs.YtaonpmclkafjdaaGreat
open Go.RowKit
set_option linter.unusedVariables false
structure OnM (p:PS)(a b:Nat):Prop where
  ul:p.u.length=1024
  zl:p.z.length=32
  il:p.i.length=32
  z:∀ s,s < 32→p.z.getD s 0=if s < a then (if s=0 then 2 else 3) else 0
  i:∀ s,p.i.getD s false=false
  u:∀ f,f < 1024→p.u.getD f 0=if f / 32 < a then 1 else 0
  ab:a=b+1∨(a=0∧b=0)
theorem onM_new:OnM ps0 0 0:=⟨onS_new.ul,onS_new.zl,onS_new.il,fun s hs=>by rw[ps0_z,if_neg (Nat.not_lt_zero s)],ps0_i,fun f hf=>by rw[ps0_u,if_neg (Nat.not_lt_zero _)],.inr ⟨rfl,rfl⟩⟩
theorem OnM.next {p:PS}{a b:Nat}(h:OnM p a b)(ha:a < 32)(z:Nat)(hz:z=if a=0 then 2 else 3):∃ p',onP p (a:Int) (z:Int) []=(0,p')∧OnM p' (a+1) a:=by
  have hz2:z=2∨z=3:=by rw[hz];split <;> omega
  have h0:p.z.getD a 0=0:=by rw[h.z a ha,if_neg (Nat.lt_irrefl _)]
  have hf0:∀ f,32 * a≤f→f < 32 * a+32→p.u.getD f 0=0:=fun f h1 h2=>by rw[h.u f (by omega),if_neg (by omega)]
  refine⟨_,onP_new ha hz2 h0,?_,?_,?_,fun t ht=>?_,fun t=>?_,fun f hf=>?_,.inl rfl⟩
  · show (badU a (spanU freshG p.u (32 * a) (32 * a+32)) []).length=1024
    rw[badU_length,spanU_length,h.ul]
  · show (p.z.set a z).length=32
    rw[List.length_set,h.zl]
  · show (p.i.set a false).length=32
    rw[List.length_set,h.il]
  · show (p.z.set a z).getD t 0=_
    by_cases c:t=a
    · subst c
      rw[getD_set_same _ _ _ _ (by rw[h.zl];exact ha),if_pos (Nat.lt_succ_self _),hz]
    · rw[getD_set_ne _ _ _ _ _ c,h.z t ht]
      by_cases d:t < a
      · rw[if_pos d,if_pos (show t < a+1 by omega)]
      · rw[if_neg d,if_neg (show ¬ t < a+1 by omega)]
  · show (p.i.set a false).getD t false=false
    by_cases c:t=a
    · subst c
      rw[getD_set_same _ _ _ _ (by rw[h.il];exact ha)]
    · rw[getD_set_ne _ _ _ _ _ c,h.i]
  · refine (on_clean (p:=p) (s:=a) h.ul hf).trans ?_
    by_cases c:32 * a≤f∧f < 32 * a+32
    · rw[if_pos c,hf0 f c.1 c.2,if_pos (by omega)]
      rfl
    · rw[if_neg c,h.u f hf]
      by_cases d:f / 32 < a
      · rw[if_pos d,if_pos (by omega)]
      · rw[if_neg d,if_neg (by omega)]
theorem lenZ1:((List.range 1024).filter fun f=>decide (f / 32 < 1)).length=32:=by kernel_rfl
theorem lenZm1:((List.range 1024).filter fun f=>decide (1≤f / 32∧f / 32 < 1+1)).length=32:=by kernel_rfl
theorem lenZm2:((List.range 1024).filter fun f=>decide (1≤f / 32∧f / 32 < 2+1)).length=64:=by kernel_rfl
theorem lenZm3:((List.range 1024).filter fun f=>decide (1≤f / 32∧f / 32 < 3+1)).length=96:=by kernel_rfl
theorem OnM.cnt2 {p:PS}{b:Nat}(h:OnM p (b+1) b)(hb:b≤3):cntF p 2=32:=by
  rw[← lenZ1]
  refine filter_len_congr fun f hf=>?_
  have hf:=List.mem_range.1 hf
  rw[h.u f hf,h.z _ (by omega),h.i]
  by_cases c:f / 32 < 1
  · have e1:f / 32 < b+1:=by omega
    have e2:f / 32=0:=by omega
    simp[c,e1,e2]
  · have e2:¬ f / 32=0:=by omega
    by_cases d:f / 32 < b+1
    · simp[d,e2]
    · simp[d,e2]
theorem OnM.cnt3 {p:PS}{b:Nat}(h:OnM p (b+1) b)(h1:1≤b)(hb:b≤3):cntF p 3=32 * b:=by
  have hl:((List.range 1024).filter fun f=>decide (1≤f / 32∧f / 32 < b+1)).length=32 * b:=by
    have:b=1∨b=2∨b=3:=by omega
    rcases this with rfl | rfl | rfl
    · exact lenZm1
    · exact lenZm2
    · exact lenZm3
  rw[← hl]
  refine filter_len_congr fun f hf=>?_
  have hf:=List.mem_range.1 hf
  rw[h.u f hf,h.z _ (by omega),h.i]
  by_cases c:f / 32=0
  · have e1:¬ (1≤f / 32):=by omega
    simp[c]
  · have e1:1≤f / 32:=by omega
    by_cases d:f / 32 < b+1
    · simp[c,d,e1]
    · simp[c,d,e1]
def SpQ (w wx:World)(gS:Nat)(a:SpA)(m:SpM)(H:List (Value × List Nat))(L:List (Nat × TypeId × Array Value)):Prop :=
  ∃ (k:SpK) (K:Nat→Prop),SpMem wx gS a k K m∧(∀ j,K j→w.heap.size≤j)∧Below w.heap.size w wx∧(∀ x∈H,Bts wx wx.heap.size x.1 x.2∧Off K x.1)∧∀ y∈L,Blk wx y.1 y.2.1 y.2.2∧¬ K y.1
section
variable {w wx wy:World}{gS:Nat}{a:SpA}{m:SpM}{H:List (Value × List Nat)}{L:List (Nat × TypeId × Array Value)}{v:Value}{b ys:List Nat}
theorem SpQ.below (h:SpQ w wx gS a m H L):Below w.heap.size w wx:=by
  obtain⟨k,K,_,_,h3,_⟩:=h
  exact h3
theorem SpQ.bts (h:SpQ w wx gS a m H L){x:Value × List Nat}(hx:x∈H):Bts wx wx.heap.size x.1 x.2:=by
  obtain⟨k,K,_,_,_,h4,_⟩:=h
  exact (h4 x hx).1
theorem SpQ.blk (h:SpQ w wx gS a m H L){g:Nat}{t:TypeId}{cs:Array Value}(hx:(g,t,cs)∈L):Blk wx g t cs:=by
  obtain⟨k,K,_,_,_,_,h5⟩:=h
  exact (h5 _ hx).1
theorem SpQ.cells (h:SpQ w wx gS a m H L):∃ k:SpK,Blk wx gS 44 #[.pointer (some ⟨a.R,0,none⟩),.pointer (some ⟨a.D,0,none⟩),.pointer (some ⟨a.P,0,none⟩),.pointer (some ⟨a.B,0,none⟩),.pointer (some ⟨a.C,0,none⟩),.pointer (some ⟨a.S,0,none⟩),.map k.M]:=by
  obtain⟨k,K,h1,_⟩:=h
  exact⟨k,h1.cells⟩
theorem SpQ.fresh (h:SpQ w wx gS a m H L)(hb:Below wx.heap.size wx wy):SpQ w wy gS a m H L:=by
  obtain⟨k,K,h1,h2,h3,h4,h5⟩:=h
  exact⟨k,K,h1.fresh hb,h2,h3.trans (hb.mono h3.size),fun x hx=>⟨((h4 x hx).1.below hb).more hb.size,(h4 x hx).2⟩,fun y hy=>⟨(h5 y hy).1.below hb (h5 y hy).1.lt,(h5 y hy).2⟩⟩
theorem SpQ.made (h:SpQ w wx gS a m H L)(t:TypeId)(cs:Array Value):SpQ w (wx.alloc (.cells cs t)) gS a m H ((wx.heap.size,t,cs) :: L):=by
  have hb:=(Below.refl wx.heap.size wx).alloc (Nat.le_refl _) (.cells cs t)
  obtain⟨k,K0,k1,k2,k3,k4,k5⟩:=h
  have hl:¬ K0 wx.heap.size:=fun hk=>Nat.lt_irrefl _ (k1.lt _ hk)
  refine⟨k,K0,k1.fresh hb,k2,k3.trans (hb.mono k3.size),fun x hx=>⟨((k4 x hx).1.below hb).more hb.size,(k4 x hx).2⟩,fun y hy=>?_⟩
  rcases List.mem_cons.1 hy with rfl | hy
  · exact⟨Blk.new wx t cs,hl⟩
  · exact⟨(k5 y hy).1.below hb (k5 y hy).1.lt,(k5 y hy).2⟩
theorem SpQ.went {k':SpK} {K K':Nat→Prop} {m':SpM} (h2:∀ j,K j→w.heap.size≤j) (h3:Below w.heap.size w wx) (h4:∀ x∈H,Bts wx wx.heap.size x.1 x.2∧Off K x.1) (h5:∀ y∈L,Blk wx y.1 y.2.1 y.2.2∧¬ K y.1)
    (h1:SpMem wy gS a k' K' m') (hw:Went wx K wy K'):SpQ w wy gS a m' H L :=
  ⟨k',K',h1,fun j hj=>(hw.nk j hj).elim (h2 j) (fun r=>Nat.le_trans h3.size r),h3.trans (hw.tr.below h2 h3.size),fun x hx=>(h4 x hx).1.keepK (h4 x hx).2 hw.tr hw.nk,fun y hy=>(h5 y hy).1.keepK (h5 y hy).2 hw.tr hw.nk⟩
theorem q_of {P:Program} {f:FuncId} {args:Array Value} {R:SpM→Prop} (h:SpQ w wx gS a m H L) (c:∀ k K,SpMem wx gS a k K m→Calls P f args wx fun e w'=>∃ k' m',R m'∧SpEnd wx gS a k' K v m' e w') :
    Calls P f args wx fun e w'=>e=.returned v∧∃ m',R m'∧SpQ w w' gS a m' H L:=by
  obtain⟨k,K,h1,h2,h3,h4,h5⟩:=h
  refine (c k K h1).mono fun e w' hp=>?_
  obtain⟨k',m',hR,he,K',g1,g2⟩:=hp
  exact⟨he,m',hR,SpQ.went h2 h3 h4 h5 g1 g2⟩
theorem q_in {P:Program} {f:FuncId} {args:Array Value} {vb:Value} {R:SpM→Prop} (h:SpQ w wx gS a m H L) (hb:Bts w w.heap.size vb b) (c:∀ k K,SpMem wx gS a k K m→Bts wx wx.heap.size vb b→Off K vb→Calls P f args wx fun e w'=>∃ k' m',R m'∧SpEnd wx gS a k' K v m' e w') :
    Calls P f args wx fun e w'=>e=.returned v∧∃ m',R m'∧SpQ w w' gS a m' H L:=by
  obtain⟨k,K,h1,h2,h3,h4,h5⟩:=h
  refine (c k K h1 ((hb.below h3).more h3.size) (hb.off h2)).mono fun e w' hp=>?_
  obtain⟨k',m',hR,he,K',g1,g2⟩:=hp
  exact⟨he,m',hR,SpQ.went h2 h3 h4 h5 g1 g2⟩
theorem q_new {P:Program} {f:FuncId} {args:Array Value} {vb:Value} {R:SpM→Prop} (h:SpQ w wx gS a m H L) (hy:Below wx.heap.size wx wy) (hb:Bts wy wy.heap.size vb b) (hn:∀ bk o s n c,vb=.slice (some ⟨bk,o,s⟩) n c→wx.heap.size≤bk)
    (c:∀ k K,SpMem wy gS a k K m→Bts wy wy.heap.size vb b→Off K vb→Calls P f args wy fun e w'=>∃ k' m',R m'∧SpEnd wy gS a k' K v m' e w') :
    Calls P f args wy fun e w'=>e=.returned v∧∃ m',R m'∧SpQ w w' gS a m' H L:=by
  obtain⟨k,K,h1,h2,h3,h4,h5⟩:=h
  have hl:=h1.lt
  refine (c k K (h1.fresh hy) hb (fun bk o s n c e _ hk=>?_)).mono fun e w' hp=>?_
  · have:=hn _ _ _ _ _ e
    have:=hl _ hk
    omega
  · obtain⟨k',m',hR,he,K',g1,g2⟩:=hp
    exact⟨he,m',hR,SpQ.went h2 (h3.trans (hy.mono h3.size)) (fun x hx=>⟨((h4 x hx).1.below hy).more hy.size,(h4 x hx).2⟩) (fun y hy'=>⟨(h5 y hy').1.below hy (h5 y hy').1.lt,(h5 y hy').2⟩) g1 g2⟩
theorem q_load {P:Program} {f:FuncId} {args:Array Value} {R:SpM→Prop} (h:SpQ w wx gS a m H L) (c:∀ k K,SpMem wx gS a k K m→Calls P f args wx fun e w'=>∃ (v:Value) (m':SpM) (K':Nat→Prop),e=.returned (.tuple #[v,.int .i64 0])∧SpMem w' gS a k K' m'∧Went wx K w' K'∧Bts w' w'.heap.size v ys∧Off K' v∧R m') :
    Calls P f args wx fun e w'=>∃ v m',e=.returned (.tuple #[v,.int .i64 0])∧R m'∧SpQ w w' gS a m' ((v,ys) :: H) L:=by
  obtain⟨k,K,h1,h2,h3,h4,h5⟩:=h
  refine (c k K h1).mono fun e w' hp=>?_
  obtain⟨v,m',K',rfl,g1,g2,g3,g4,hR⟩:=hp
  obtain⟨k2,K2,e1,e2,e3,e4,e5⟩:=SpQ.went h2 h3 h4 h5 g1 g2
  refine⟨v,m',rfl,hR,k,K',g1,fun j hj=>(g2.nk j hj).elim (h2 j) (fun r=>Nat.le_trans h3.size r),h3.trans (g2.tr.below h2 h3.size),fun x hx=>?_,fun y hy=>(h5 y hy).1.keepK (h5 y hy).2 g2.tr g2.nk⟩
  rcases List.mem_cons.1 hx with rfl | hx
  · exact⟨g3,g4⟩
  · exact (h4 x hx).1.keepK (h4 x hx).2 g2.tr g2.nk
theorem q_read {P:Program} {f:FuncId} {args:Array Value} (h:SpQ w wx gS a m H L) (c:∀ k K,SpMem wx gS a k K m→Calls P f args wx fun e w'=>e=.returned v∧Below wx.heap.size wx w') :
    Calls P f args wx fun e w'=>e=.returned v∧SpQ w w' gS a m H L:=by
  have h0:=h
  obtain⟨k,K,h1,h2,h3,h4,h5⟩:=h
  exact (c k K h1).mono fun e w' hp=>⟨hp.1,h0.fresh hp.2⟩
end
end Go.Proofs.YtaonpmclkafjdaaGreat
namespace Go.Proofs.YtaonpmclkafjdaaGreat
open Go.RowKit
set_option linter.unusedVariables false
theorem spOk_new {F:Nat→List Nat} {S:Nat→List Nat} {L:Nat→Option (List Nat)} {p:PS} {nr mv:Nat} (hn:nr≤cntF p 2) (hm:mv≤cntF p 3) :
    SpOk ⟨F,fun _=>false,S,L,Tr.none_,p,bs0,[],ss0,fun _=>none⟩ (uw0 fun i j=>(last S L (96+i)).getD j 0) nr mv 0:=by
  have hent:∀ n q,entM ⟨F,fun _=>false,S,L,Tr.none_,p,bs0,[],ss0,fun _=>none⟩ n q=en0:=fun _ _=>rfl
  refine⟨⟨⟨fun _ _=>rfl,fun n y e=>(by cases e),fun n y e=>(by cases e),fun n y _ _ e=>(by cases e)⟩,fun n y e=>(by cases e),fun n y e=>(by cases e),fun n y e=>(by cases e),fun n y e=>(by cases e),fun n q=>.inl (.inl rfl),fun f q=>⟨fun hq=>absurd hq List.not_mem_nil,fun ⟨n,q',_,e⟩=>?_⟩,fun f=>List.Pairwise.nil,fun t n q hq=>absurd rfl hq,fun t=>List.Pairwise.nil,fun t q hq=>absurd hq List.not_mem_nil,List.Pairwise.nil,fun e he=>absurd he List.not_mem_nil,rfl⟩,⟨fun n=>rfl,fun n y e=>(by cases e),fun i j _ _=>rfl,fun n q j _ ha=>absurd rfl ha,fun n q r hr=>(by cases hr),fun _ _ _=>rfl⟩,hn,hm,fun n y e=>(by cases e),fun t n q _=>List.not_mem_nil⟩
  rw[hent] at e
  exact absurd e.symm (en_ne _)
def aOwn:Ar:=⟨0,8,true,1,0,0⟩
def aShr:Ar:=⟨8,8,true,2,0,0⟩
def aPri:Ar:=⟨16,8,true,3,0,4⟩
def ars3:List Ar:=[aOwn,aShr,aPri]
structure Fr0 (b:Nat)(m:SpM)(W:UW):Prop where
  ok:SpOk m W 31 (32 * b) 1
  ent:∀ n q,entM m n q=en0
  c:m.c=[]
  s:∀ t,m.s t=[]
  lk:∀ f,f < 1024→¬ Leak m f
  z:∀ s,s < 32→m.p.z.getD s 0=if s < b+1 then (if s=0 then 2 else 3) else 0
  i:∀ s,m.p.i.getD s false=false
  S:m.S=fun _=>zer
  L:m.L=fun _=>none
  pr:W.pr 0=some ⟨ars3,[]⟩
  prn:∀ n,n≠0→W.pr n=none
  own:∀ n q,W.own n q=none
  fl:∀ i j,W.fl i j=0
theorem ins1:insA [] aOwn=[aOwn]:=by decide
theorem ins2:insA [aOwn] aShr=[aOwn,aShr]:=by decide
theorem ins3:insA [aOwn,aShr] aPri=ars3:=by decide
theorem add1:addE [] aOwn=0:=by decide
theorem add2:addE [aOwn] aShr=0:=by decide
theorem add3:addE [aOwn,aShr] aPri=0:=by decide
section
variable {b:Nat}{m:SpM}{W:UW}
theorem has_of {W:UW}{sg:List Int}(h:W.pr 0=some ⟨ars3,sg⟩)(r:Ar)(hr:r=aOwn∨r=aShr∨r=aPri):Has W 0 r:=by
  refine⟨_,h,fun q h1 h2=>?_⟩
  show findA [aOwn,aShr,aPri] (q:Int)=some r
  unfold findA
  have n0:(8:Int)≤(q:Int)→¬ decide (aOwn.fr≤(q:Int)∧(q:Int) < aOwn.fr+aOwn.pg)=true:=fun h e=>by
    have e2:=(of_decide_eq_true e).2
    have e3:(q:Int) < 0+8:=e2
    omega
  have n1:(16:Int)≤(q:Int)→¬ decide (aShr.fr≤(q:Int)∧(q:Int) < aShr.fr+aShr.pg)=true:=fun h e=>by
    have e2:=(of_decide_eq_true e).2
    have e3:(q:Int) < 8+8:=e2
    omega
  rcases hr with rfl | rfl | rfl
  · exact List.find?_cons_of_pos (decide_eq_true ⟨h1,h2⟩)
  · have a1:(8:Int)≤(q:Int):=h1
    rw[List.find?_cons_of_neg (p:=fun a:Ar=>decide (a.fr≤(q:Int)∧(q:Int) < a.fr+a.pg)) (n0 a1)]
    exact List.find?_cons_of_pos (decide_eq_true ⟨h1,h2⟩)
  · have a1:(16:Int)≤(q:Int):=h1
    rw[List.find?_cons_of_neg (p:=fun a:Ar=>decide (a.fr≤(q:Int)∧(q:Int) < a.fr+a.pg)) (n0 (by omega)),List.find?_cons_of_neg (p:=fun a:Ar=>decide (a.fr≤(q:Int)∧(q:Int) < a.fr+a.pg)) (n1 a1)]
    exact List.find?_cons_of_pos (decide_eq_true ⟨h1,h2⟩)
theorem Fr0.has (h:Fr0 b m W)(r:Ar)(hr:r=aOwn∨r=aShr∨r=aPri):Has W 0 r:=has_of h.pr r hr
theorem Fr0.zo (h:Fr0 b m W):Zo m:=⟨fun n q f e=>by rw[h.ent] at e;exact absurd e.symm (en_ne _),fun e he=>by rw[h.c] at he;cases he⟩
end
theorem zer_get (j:Nat):zer.getD j 0=0:=by
  unfold zer
  rw[List.getD_eq_getElem?_getD,List.getElem?_replicate]
  split <;> rfl
theorem fr0_end {p:PS} {b:Nat} (hp:OnM p (b+1) b) {F:Nat→List Nat} {m1 m2 m3 m4:SpM} {W0:UW} (hW0:W0=uw0 fun i j=>(last (fun _=>zer) (fun _=>none) (96+i)).getD j 0)
    (k1:Kp ⟨F,fun _=>false,fun _=>zer,fun _=>none,Tr.none_,p,bs0,[],ss0,fun _=>none⟩ m4) (hent:∀ n q,entM m4 n q=en0) (hc:m4.c=[]) (hs:∀ t,m4.s t=[])
    (ho:SpOk m4 (arsU (arsU (arsU (spawnU W0 0) 0 [aOwn]) 0 [aOwn,aShr]) 0 ars3) 31 (32 * b) 1):Fr0 b m4 (arsU (arsU (arsU (spawnU W0 0) 0 [aOwn]) 0 [aOwn,aShr]) 0 ars3):=by
  have hsp:(spawnU W0 0).pr 0=some ⟨[],[]⟩:=spawn_pr _ _
  have h1:=ars_pr hsp [aOwn]
  have h2:=ars_pr h1 [aOwn,aShr]
  have h3:=ars_pr h2 ars3
  refine⟨ho,hent,hc,hs,fun f hf l=>?_,fun s hs=>by rw[k1.z];exact hp.z s hs,fun s=>by rw[k1.i];exact hp.i s,k1.S,k1.L,h3,fun n hn=>?_,fun n q=>?_,fun i j=>?_⟩
  · have hu:p.u.getD f 0=if f / 32 < b+1 then 1 else 0:=hp.u f hf
    rcases k1.lk f hf l with l | l | l
    · have:p.u.getD f 0=3:=l.1
      split at hu <;> omega
    · have:p.u.getD f 0=4:=l.1
      split at hu <;> omega
    · have:p.u.getD f 0=2:=l.1
      split at hu <;> omega
  · rw[ars_ne _ _ hn,ars_ne _ _ hn,ars_ne _ _ hn]
    show upd W0.pr 0 _ n=none
    rw[upd_other _ _ _ hn,hW0]
    rfl
  · show W0.own n q=none
    rw[hW0]
    rfl
  · show W0.fl i j=0
    rw[hW0]
    show (last (fun _=>zer) (fun _=>none) (96+i)).getD j 0=0
    exact zer_get j
def Fr0Post (w:World)(b:Nat)(e:Ending)(w':World):Prop:=∃ (gS:Nat) (a:SpA) (m:SpM) (W:UW),e=.returned (.pointer (some ⟨gS,0,none⟩))∧Fr0 b m W∧SpQ w w' gS a m [] []
set_option maxRecDepth 20000 in
set_option maxHeartbeats 4000000 in
theorem fresh20_any (w:World):Calls Tryz.prog 10 #[] w (Fr0Post w 1):=by
  go_enter Tryz.func10,Tryz.ntmps10
  go_wp2_with fail
  refine (pool_new w).mono ?_
  rintro e w1 ⟨gP,KP,rfl,hm1,hk1,hb1⟩
  obtain⟨p1,hp1,ho1⟩:=onM_new.next (by omega) 2 rfl
  obtain⟨p2,hp2,ho2⟩:=ho1.next (by omega) 3 rfl
  have HM1:=Lib.hid hm1
  have HK1:=Lib.hid hk1
  have HB1:=Lib.hid hb1
  have HP1:=Lib.hid hp1
  have HP2:=Lib.hid hp2
  have HO2:=Lib.hid ho2
  clear hm1 hk1 hb1 hp1 hp2 ho1 ho2
  go_wp2_with fail
  refine (pool_online gP KP ps0 0 2 (.slice none 0 0) [] w1 HM1.out (Its.nil_ _ _) (fun b o s n c e=>(by injection e with e;cases e))).mono ?_
  rintro e w2 ⟨K2,rfl,hm2,hk2,ht2⟩
  rw[show onP ps0 (0:Int) 2 []=(0,p1) from HP1.out] at hm2 ⊢
  have HM2:=Lib.hid hm2
  have HK2:=Lib.hid (show ∀ k,K2 k→w.heap.size≤k from fun k hk=>(hk2 k hk).elim (HK1.out k) (fun h=>Nat.le_trans HB1.out.size h))
  have HB2:=Lib.hid (HB1.out.trans (ht2.below HK1.out HB1.out.size))
  clear hm2 hk2 ht2
  go_wp2_with fail
  refine (pool_online gP K2 p1 1 3 (.slice none 0 0) [] w2 HM2.out (Its.nil_ _ _) (fun b o s n c e=>(by injection e with e;cases e))).mono ?_
  rintro e w3 ⟨K3,rfl,hm3,hk3,ht3⟩
  rw[show onP p1 (1:Int) 3 []=(0,p2) from HP2.out] at hm3 ⊢
  have HM3:=Lib.hid hm3
  have HK3:=Lib.hid (show ∀ k,K3 k→w.heap.size≤k from fun k hk=>(hk3 k hk).elim (HK2.out k) (fun h=>Nat.le_trans HB2.out.size h))
  have HB3:=Lib.hid (HB2.out.trans (ht3.below HK2.out HB2.out.size))
  clear hm3 hk3 ht3
  go_wp2_with fail
  refine (new_any 1024 1024 w3 (by unfold Near;omega)).mono ?_
  rintro e w4 ⟨rfl,hm4,hb4,hz4⟩
  have HM4:=Lib.hid hm4
  have HB4:=Lib.hid hb4
  clear hm4 hb4 hz4
  go_wp2_with fail
  refine (dnew_any 192 192 w4 (by unfold NearD;omega)).mono ?_
  rintro e w5 ⟨rfl,hd5,hb5,hz5⟩
  have l3:=HM3.out.lt
  have lM:=HM4.out.lt
  have HP5:=Lib.hid (HM3.out.fresh (HB4.out.trans (hb5.mono HB4.out.size)))
  have HM5:=Lib.hid (HM4.out.below hb5 HM4.out.lt.1 HM4.out.lt.2)
  have HD5:=Lib.hid hd5
  have HB5:=Lib.hid (HB3.out.trans ((HB4.out.trans (hb5.mono HB4.out.size)).mono HB3.out.size))
  have HS5:=Lib.hid (And.intro l3 (And.intro lM (And.intro HB4.out.size HB3.out.size)))
  clear hd5 hb5 hz5 l3 lM
  go_wp2_with fail
  refine (spnew_go w5 (w3.heap.size+1) w3.heap.size (w4.heap.size+2) w4.heap.size (w4.heap.size+1) gP _ (fun _=>false) (fun _=>zer) (fun _=>none) Tr.none_ K3 p2 HM5.out HD5.out HP5.out ?_ ?_).mono ?_
  · obtain⟨l3,lM,s4,s3⟩:=HS5.out
    intro q hq
    refine⟨fun hd=>?_,fun hp=>?_⟩
    · have:w4.heap.size≤q:=by rcases hd with rfl | rfl | rfl <;> omega
      rcases hq with rfl | rfl
      · have:=lM.1;omega
      · have:=lM.2;omega
    · have:=l3 q hp
      rcases hq with rfl | rfl <;> omega
  · obtain⟨l3,lM,s4,s3⟩:=HS5.out
    intro q hq hp
    have:=l3 q hp
    rcases hq with rfl | rfl | rfl <;> omega
  rintro e w6 ⟨gS,a,k,K,rfl,h6,hk6,hb6⟩
  have HQ6:=Lib.hid (show SpQ w w6 gS a ⟨_,fun _=>false,fun _=>zer,fun _=>none,Tr.none_,p2,bs0,[],ss0,fun _=>none⟩ [] [] from ⟨k,K,h6,fun j hj=>by
    obtain⟨l3,lM,s4,s3⟩:=HS5.out
    have s5:=HB5.out.size
    rcases hk6 j hj with r | r | r | r | r
    · omega
    · omega
    · rcases r with rfl | rfl | rfl <;> omega
    · exact HK3.out j r
    · omega,HB5.out.trans (hb6.mono HB5.out.size),fun x hx=>absurd hx List.not_mem_nil,fun x hx=>absurd hx List.not_mem_nil⟩)
  clear h6 hk6 hb6
  obtain⟨F0,hF0⟩:∃ F0:Nat→List Nat,(fun _=>zer)=F0:=⟨_,rfl⟩
  have HO6:=Lib.hid (show SpOk ⟨fun _=>zer,fun _=>false,fun _=>zer,fun _=>none,Tr.none_,p2,bs0,[],ss0,fun _=>none⟩ _ 32 32 0 from spOk_new (by rw[HO2.out.cnt2 (by omega)];exact Nat.le_refl _) (by rw[HO2.out.cnt3 (by omega) (by omega)];exact Nat.le_refl _))
  clear hF0
  go_wp2_with fail
  refine (q_of HQ6.out fun k K h=>spawn_m gS a k K _ _ 31 32 0 w6 0 (by omega) rfl h HO6.out |>.mono fun e w' h=>(by
    obtain⟨k',m',h1,h2⟩:=h
    exact⟨k',m',h2,h1⟩)).mono ?_
  rintro e w7 ⟨rfl,m1,hR1,hq7⟩
  have HQ7:=Lib.hid hq7
  have R1:=Lib.hid hR1
  clear hq7 hR1
  go_wp2_with fail
  refine (q_of HQ7.out fun k K h=>map_m gS a k K m1 _ 31 32 1 w7 0 ⟨[],[]⟩ aOwn ⟨by decide,by decide,by decide,by decide,by decide⟩ (spawn_pr _ _) add1 h R1.out.1 |>.mono fun e w' h=>(by
    obtain⟨k',m',h1,h2⟩:=h
    exact⟨k',m',h2,h1⟩)).mono ?_
  rintro e w8 ⟨rfl,m2,hR2,hq8⟩
  have HQ8:=Lib.hid hq8
  have R2:=Lib.hid hR2
  clear hq8 hR2
  rw[ins1] at R2
  go_wp2_with fail
  refine (q_of HQ8.out fun k K h=>map_m gS a k K m2 _ 31 32 1 w8 0 ⟨[aOwn],[]⟩ aShr ⟨by decide,by decide,by decide,by decide,by decide⟩ (ars_pr (spawn_pr _ _) _) add2 h R2.out.1 |>.mono fun e w' h=>(by
    obtain⟨k',m',h1,h2⟩:=h
    exact⟨k',m',h2,h1⟩)).mono ?_
  rintro e w9 ⟨rfl,m3,hR3,hq9⟩
  have HQ9:=Lib.hid hq9
  have R3:=Lib.hid hR3
  clear hq9 hR3
  rw[ins2] at R3
  go_wp2_with fail
  refine (q_of HQ9.out fun k K h=>map_m gS a k K m3 _ 31 32 1 w9 0 ⟨[aOwn,aShr],[]⟩ aPri ⟨by decide,by decide,by decide,by decide,by decide⟩ (ars_pr (ars_pr (spawn_pr _ _) _) _) add3 h R3.out.1 |>.mono fun e w' h=>(by
    obtain⟨k',m',h1,h2⟩:=h
    exact⟨k',m',h2,h1⟩)).mono ?_
  rintro e w10 ⟨rfl,m4,hR4,hq10⟩
  have HQ10:=Lib.hid hq10
  have R4:=Lib.hid hR4
  clear hq10 hR4
  rw[ins3] at R4
  go_wp2_with fail
  go_ret
  obtain⟨o1,k1,c1,s1,b1,e1⟩:=R1.out
  obtain⟨o2,k2,c2,s2,b2,e2⟩:=R2.out
  obtain⟨o3,k3,c3,s3,b3,e3⟩:=R3.out
  obtain⟨o4,k4,c4,s4,b4,e4⟩:=R4.out
  exact⟨gS,a,m4,_,rfl,fr0_end (m1:=m1) (m2:=m2) (m3:=m3) HO2.out rfl (((k1.trans k2).trans k3).trans k4) (fun n q=>by rw[e4,e3,e2,e1];rfl) (by rw[c4,c3,c2,c1]) (fun t=>by rw[s4,s3,s2,s1];rfl) o4,HQ10.out⟩
end Go.Proofs.YtaonpmclkafjdaaGreat

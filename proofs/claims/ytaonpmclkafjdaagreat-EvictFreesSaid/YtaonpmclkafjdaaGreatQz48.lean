/-
  New and Spawn, as users see them.
  share: the pages that a tree has are put into another process.
  Fork, walked.
  Unmap, walked.
  Unmap, as users see it.
  Fork, as users see it.
  Space's contracts, as users see them: what the statements' walks ask for.
  A page goes out: all who had its frame hold a slot.
  A page leaves the cache; a slot's sector and a file's are written.
  A space with another one's disk and cache: what Put makes of it is the same.
  empty: all who have a frame have something else; reached: whether each of them can be asked.
  reached: all who have a frame can be asked.
  bytes: all of a frame; clean: a page of a file that is dirty is on the disk.
  Out: a page goes out.
  Drop: a page of a file leaves memory.
  Sync: a file's pages are written, and sure.
  Out and Drop, as users see them: nothing.
  Drop, as users see it: nothing.
  Sync, as users see it: nothing; what it leaves on the disk.
  Conditions: those that each line bears.
-/
import Derived.Test.YtaonpmclkafjdaaGreatQz46
import Derived.Test.YtaonpmclkafjdaaGreatQz47
import Derived.Deep.RegionHeld3
import Derived.Test.YtaonpmclkafjdaaGreatQz38
set_option linter.unusedSimpArgs false
set_option linter.unusedSectionVars false
set_option linter.unusedVariables false
namespace Go.Proofs.YtaonpmclkafjdaaGreat
open Go.RowKit
set_option linter.unusedVariables false
section
variable {m:SpM}{n r:Nat}{F':Nat→List Nat}{W:UW}{nr mv u:Nat}
theorem spawn_ent (hx:m.x n=none)(n' q:Nat):entM (spawnM m n r F') n' q=entM m n' q:=by
  by_cases c:n'=n
  · subst c
    rw[entM_none hx,entM_some (m:=spawnM m n' r F') (y:=⟨t0 r,[],[]⟩) (upd_same _ _ _)]
    show (List.replicate 4096 en0).getD q en0=en0
    rw[List.getD_eq_getElem?_getD,List.getElem?_replicate]
    split <;> rfl
  · have e:(spawnM m n r F').x n'=m.x n':=upd_other _ _ _ c
    unfold entM
    rw[e]
theorem spawn_ar (hx:m.x n=none):arM (spawnM m n r F')=arM m:=by
  funext n' q
  by_cases c:n'=n
  · subst c
    rw[arM_some (m:=spawnM m n' r F') (y:=⟨t0 r,[],[]⟩) (upd_same _ _ _)]
    unfold arM
    rw[hx]
    rfl
  · have e:(spawnM m n r F').x n'=m.x n':=upd_other _ _ _ c
    unfold arM
    rw[e]
theorem spawn_case {n':Nat}{y:SpX}(h:(spawnM m n r F').x n'=some y):(n'=n∧y=⟨t0 r,[],[]⟩)∨(n'≠n∧m.x n'=some y):=by
  have h':upd m.x n (some ⟨t0 r,[],[]⟩) n'=some y:=h
  by_cases c:n'=n
  · subst c
    rw[upd_same] at h'
    exact .inl ⟨rfl,by injection h' with h';exact h'.symm⟩
  · rw[upd_other _ _ _ c] at h'
    exact .inr ⟨c,h'⟩
theorem spawn_use (hr:m.p.u.getD r 0=1)(f:Nat):(spawnM m n r F').p.u.getD f 0=if f=r then 2 else m.p.u.getD f 0:=by
  show (m.p.u.set r 2).getD f 0=_
  by_cases c:f=r
  · subst c
    rw[if_pos rfl]
    refine getD_set_same _ _ _ _ ?_
    by_cases l:f < m.p.u.length
    · exact l
    · rw[List.getD_eq_getElem?_getD,List.getElem?_eq_none (by omega)] at hr
      cases hr
  · rw[if_neg c,getD_set_ne _ _ _ _ _ c]
set_option maxRecDepth 100000 in
theorem Inv.spawn {A:Nat→Nat→Option Ar}(hi:Inv A m)(hn:n < 8)(hx:m.x n=none)(hr:FirstF m.p 2 (2 ^ 0) (some r))(ht:TsOk (t0 r))(hfr:∀ (t:Nat) (q:Int),(⟨(n:Int),q⟩:Pl) ∉ m.s t):Inv A (spawnM m n r F'):=by
  obtain⟨r1,r2,r3,r4⟩:=first_run hr
  have hu:=spawn_use (n:=n) (F':=F') r2
  have ho:∀ f,f≠r→(spawnM m n r F').p.u.getD f 0=m.p.u.getD f 0:=fun f c=>by rw[hu,if_neg c]
  have hne:∀ f,m.p.u.getD f 0≠1→f≠r:=fun f c e=>c (e ▸ r2)
  have hent:=spawn_ent (r:=r) (F':=F') hx
  refine⟨⟨hi.tabs.bad,?_,?_,?_⟩,?_,?_,?_,?_,fun n' q=>?_,fun f q=>?_,hi.srt,fun t n' q hq=>?_,hi.ssrt,hi.sin,hi.cok,fun e he=>?_,hi.tr⟩
  · intro n' y e
    rcases spawn_case e with ⟨rfl,rfl⟩ | ⟨c,e⟩
    · rfl
    · exact hi.tabs.live _ _ e
  · intro n' y e f hf
    rcases spawn_case e with ⟨rfl,rfl⟩ | ⟨c,e⟩
    · have hf':f∈[r]:=hf
      rw[List.mem_singleton] at hf'
      rw[hu,if_pos hf']
    · have h2:=hi.tabs.use _ _ e f hf
      rw[ho f (hne f (by omega))]
      exact h2
  · intro n1 y1 n2 y2 e1 e2 hd f hf2 hf1
    rcases spawn_case e1 with ⟨rfl,rfl⟩ | ⟨c1,d1⟩ <;> rcases spawn_case e2 with ⟨rfl,rfl⟩ | ⟨c2,d2⟩
    · exact hd rfl
    · have h2:=hi.tabs.use _ _ d2 f hf2
      have hf':f∈[r]:=hf1
      rw[List.mem_singleton] at hf'
      rw[hf'] at h2
      omega
    · have h1:=hi.tabs.use _ _ d1 f hf1
      have hf':f∈[r]:=hf2
      rw[List.mem_singleton] at hf'
      rw[hf'] at h1
      omega
    · exact hi.tabs.two _ _ _ _ d1 d2 hd f hf2 hf1
  · intro n' y e f hf
    rcases spawn_case e with ⟨rfl,rfl⟩ | ⟨c,e⟩
    · have hf':f∈[r]:=hf
      rw[List.mem_singleton] at hf'
      rw[hf']
      exact⟨r3,r4⟩
    · exact hi.zone _ _ e f hf
  · intro n' y e
    rcases spawn_case e with ⟨rfl,rfl⟩ | ⟨c,e⟩
    · exact ht
    · exact hi.tok _ _ e
  · intro n' y e
    rcases spawn_case e with ⟨rfl,rfl⟩ | ⟨c,e⟩
    · exact hn
    · exact hi.x8 _ _ e
  · intro n' y e
    rcases spawn_case e with ⟨rfl,rfl⟩ | ⟨c,e⟩
    · exact⟨listA_nil,Nat.zero_le _⟩
    · exact hi.ars _ _ e
  · rw[hent]
    rcases hi.good n' q with (c | ⟨f,c,hf,d,hd,h⟩) | c
    · exact .inl (.inl c)
    · refine .inl (.inr ⟨f,c,hf,d,hd,?_⟩)
      rw[ho f (hne f (by rcases h with h | h <;> omega))]
      exact h
    · exact .inr c
  · rw[show (spawnM m n r F').b=m.b from rfl,hi.back]
    constructor
    · rintro⟨n',q',e1,e2⟩;exact⟨n',q',e1,(hent n' q').trans e2⟩
    · rintro⟨n',q',e1,e2⟩;exact⟨n',q',e1,(hent n' q').symm.trans e2⟩
  · rw[hent]
    by_cases c:n'=n
    · subst c
      rw[entM_none hx]
      exact⟨fun d=>absurd d (hfr t _),fun d=>absurd d.symm (es_ne _)⟩
    · exact hi.slot t n' q fun d=>hq ((upd_other _ _ _ c).trans d)
  · obtain⟨c1,f,c2,c3,c4⟩:=hi.ckey e he
    exact⟨c1,f,c2,c3,(ho f (hne f (by omega))).trans c4⟩
theorem spawn_file {A:Nat→Nat→Option Ar}(hi:Inv A m)(hr:m.p.u.getD r 0=1)(hF:∀ f,f≠r→F' f=m.F f)(i j:Nat):fileM (spawnM m n r F') i j=fileM m i j:=by
  unfold fileM
  show (match frameC m.c (keyI i) with | some f=>(F' f.toNat).getD j 0 | none=>_)=_
  cases e:frameC m.c (keyI i) with
  | none=>rfl
  | some g =>
    obtain⟨g',rfl,_,hu⟩:=hi.key_use e
    simp only[Int.toNat_natCast]
    rw[hF g' (by rintro rfl;omega)]
theorem spawn_page {A:Nat→Nat→Option Ar}(hi:Inv A m)(hx:m.x n=none)(hr:m.p.u.getD r 0=1)(hF:∀ f,f≠r→F' f=m.F f)(n' q j:Nat):pageM (spawnM m n r F') n' q j=pageM m n' q j:=by
  have hent:=spawn_ent (r:=r) (F':=F') hx n' q
  rcases hi.ent_three n' q with e | ⟨f,e,_,d,_,h⟩ | ⟨t,e,_⟩
  · rw[pageM_no e,pageM_no (hent.trans e),spawn_ar hx]
    cases arM m n' q with
    | none=>rfl
    | some d=>simp only[spawn_file hi hr hF]
  · rw[pageM_in e,pageM_in (hent.trans e)]
    show (F' f).getD j 0=_
    rw[hF f (by rintro rfl;rcases h with h | h <;> omega)]
  · rw[pageM_slot e,pageM_slot (hent.trans e)]
    rfl
theorem spawn_anon {A:Nat→Nat→Option Ar}(hi:Inv A m)(hx:m.x n=none)(hr:m.p.u.getD r 0=1)(n' q:Nat):hasAnon (spawnM m n r F') n' q↔hasAnon m n' q:=by
  have hent:=spawn_ent (r:=r) (F':=F') hx n' q
  rcases hi.ent_three n' q with e | ⟨f,e,_,d,_,h⟩ | ⟨t,e,_⟩
  · exact⟨fun c=>absurd c (hasAnon_no (hent.trans e)),fun c=>absurd c (hasAnon_no e)⟩
  · rw[hasAnon_in e,hasAnon_in (hent.trans e),spawn_use hr,if_neg (by rintro rfl;rcases h with h | h <;> omega)]
  · exact⟨fun _=>hasAnon_slot e,fun _=>hasAnon_slot (hent.trans e)⟩
theorem Sees.spawn (hs:Sees (fun _ _=>False) m W){A:Nat→Nat→Option Ar}(hi:Inv A m)(hx:m.x n=none)(hr:m.p.u.getD r 0=1)(hF:∀ f,f≠r→F' f=m.F f):Sees (fun _ _=>False) (spawnM m n r F') (spawnU W n):=by
  have hpr:∀ n',(spawnU W n).pr n'=if n'=n then some ⟨[],[]⟩ else W.pr n':=by
    intro n'
    show upd W.pr n _ n'=_
    by_cases c:n'=n
    · subst c;rw[upd_same,if_pos rfl]
    · rw[upd_other _ _ _ c,if_neg c]
  have hpn:W.pr n=none:=by rw[hs.pr,hx];rfl
  have har:∀ n' q,(spawnU W n).area n' q=W.area n' q:=by
    intro n' q
    unfold UW.area
    rw[hpr]
    by_cases c:n'=n
    · rw[if_pos c,c,hpn];rfl
    · rw[if_neg c]
  refine⟨fun n'=>?_,fun n' y e=>?_,fun i j h1 h2=>(hs.fl i j h1 h2).trans (spawn_file hi hr hF i j).symm,fun n' q j hj ha=>?_,fun n' q d hd hk hne=>?_,fun n' q ha=>?_⟩
  · rw[hpr]
    show _=Option.map _ (upd m.x n _ n')
    by_cases c:n'=n
    · subst c;rw[if_pos rfl,upd_same];rfl
    · rw[if_neg c,upd_other _ _ _ c];exact hs.pr n'
  · rcases spawn_case e with ⟨rfl,rfl⟩ | ⟨c,e⟩
    · intro p hp;exact absurd hp List.not_mem_nil
    · exact hs.qc n' y e
  · rw[har] at ha
    rw[spawn_page hi hx hr hF]
    refine Eq.trans ?_ (hs.page n' q j hj ha)
    unfold UW.page
    rw[har]
    rfl
  · rw[har] at hd
    rw[spawn_anon hi hx hr]
    exact hs.own n' q d hd hk id
  · rw[har] at ha
    exact hs.out n' q ha
theorem spawn_cnt (hr:FirstF m.p 2 (2 ^ 0) (some r)):cntF (spawnM m n r F').p 2+1=cntF m.p 2∧cntF (spawnM m n r F').p 3=cntF m.p 3:=by
  obtain⟨r1,r2,r3,r4⟩:=first_run hr
  have hu:=spawn_use (n:=n) (F':=F') r2
  constructor
  · unfold cntF
    refine filter_drop r1 (decide_eq_true ⟨r2,r3,r4⟩) (decide_eq_false ?_) fun x hx=>decide_eq_decide.2 ?_
    · rintro⟨h,_⟩
      rw[hu,if_pos rfl] at h
      cases h
    · rw[hu,if_neg hx]
      exact Iff.rfl
  · unfold cntF
    refine filter_same fun x hx=>decide_eq_decide.2 ?_
    rw[hu]
    by_cases c:x=r
    · subst c
      rw[if_pos rfl]
      constructor
      · rintro⟨h,_⟩;cases h
      · rintro⟨_,h,_⟩
        omega
    · rw[if_neg c]
      exact Iff.rfl
end
section
variable (gS:Nat)(K:Nat→Prop)(W:UW)(nr mv u:Nat)(w:World)
end
end Go.Proofs.YtaonpmclkafjdaaGreat
namespace Go.Proofs.YtaonpmclkafjdaaGreat
open Go.RowKit
set_option linter.unusedVariables false
section
variable (gS:Nat)(a:SpA)(k:SpK)(K:Nat→Prop)(m:SpM)(w:World)
end
end Go.Proofs.YtaonpmclkafjdaaGreat
namespace Go.Proofs.YtaonpmclkafjdaaGreat
open Go.RowKit
set_option linter.unusedVariables false
section
variable (gS:Nat)(a:SpA)(k:SpK)(K:Nat→Prop)(m:SpM)(w:World)
end
end Go.Proofs.YtaonpmclkafjdaaGreat
namespace Go.Proofs.YtaonpmclkafjdaaGreat
open Go.RowKit
section
variable (gS:Nat)(a:SpA)(k:SpK)(K:Nat→Prop)(m:SpM)(w:World)
end
end Go.Proofs.YtaonpmclkafjdaaGreat
namespace Go.Proofs.YtaonpmclkafjdaaGreat
open Go.RowKit
set_option linter.unusedVariables false
def amongL (l:List (Nat × En))(i q:Nat):Prop:=∃ j,j < i∧∃ e,l[j]?=some (q,e)
noncomputable instance (l:List (Nat × En)) (i q:Nat):Decidable (amongL l i q):=Classical.propDecidable _
section
variable (gS:Nat)(K:Nat→Prop)(W:UW)(nr mv u:Nat)(w:World)
end
section
variable (gS:Nat)(a:SpA)(k:SpK)(K:Nat→Prop)(m:SpM)(w:World)
end
section
variable (gS:Nat)(K:Nat→Prop)(W:UW)(nr mv u:Nat)(w:World)
end
end Go.Proofs.YtaonpmclkafjdaaGreat
namespace Go.Proofs.YtaonpmclkafjdaaGreat
open Go.RowKit
set_option linter.unusedVariables false
section
variable {m1 m:SpM}{n0 n:Nat}{y0:SpX}{l:List (Nat × En)}{i:Nat}
end
section
variable {m m2:SpM}{W:UW}{n0 n r:Nat}{F':Nat→List Nat}{y0 y:SpX}
end
section
variable (gS:Nat)(K:Nat→Prop)(W:UW)(nr mv u:Nat)(w:World)
end
end Go.Proofs.YtaonpmclkafjdaaGreat
namespace Go.Proofs.YtaonpmclkafjdaaGreat
open Go.RowKit
end Go.Proofs.YtaonpmclkafjdaaGreat
namespace Go.Proofs.YtaonpmclkafjdaaGreat
open Go.RowKit
set_option linter.unusedVariables false
section
variable {m m1:SpM}{f sl:Nat}{x:En}{l:List Pl}{i:Nat}{W:UW}{ex:Nat→Nat→Prop}
theorem Sees.view (h:Sees ex m W) (xs:∀ n',(m1.x n').map (fun y=>(y.a,y.q))=(m.x n').map (fun y=>(y.a,y.q))) (fil:∀ i j,i < 64→j < 64→fileM m1 i j=fileM m i j)
    (pgs:∀ n q j,j < 64→pageM m1 n q j=pageM m n q j) (ano:∀ n q,hasAnon m1 n q↔hasAnon m n q):Sees ex m1 W:=by
  refine⟨fun n'=>?_,fun n' y hy=>?_,fun i j hi hj=>(h.fl i j hi hj).trans (fil i j hi hj).symm,fun n q j hj ha=>(h.page n q j hj ha).trans (pgs n q j hj).symm,fun n q r hr hk hne=>(h.own n q r hr hk hne).trans (not_congr (ano n q)).symm,h.out⟩
  · rw[h.pr]
    have e:=xs n'
    cases c:m.x n' with
    | none =>
      rw[c,Option.map_none,Option.map_eq_none_iff] at e
      rw[e]
    | some y =>
      rw[c,Option.map_some,Option.map_eq_some_iff] at e
      obtain⟨y1,e1,e2⟩:=e
      injection e2 with e3 e4
      rw[e1,Option.map_some,Option.map_some,e3,e4]
  · have e:=xs n'
    rw[hy,Option.map_some] at e
    obtain⟨y0,e1,e2⟩:=Option.map_eq_some_iff.1 e.symm
    injection e2 with e3 e4
    rw[← e4]
    exact h.qc n' y0 e1
def OutD (m:SpM)(f:Nat)(l:List Pl)(i n q:Nat):Prop:=entM m n q=⟨1,(f:Int),false⟩∧∃ j,j < i∧l[j]?=some ⟨(n:Int),(q:Int)⟩
noncomputable instance (m:SpM) (f:Nat) (l:List Pl) (i n q:Nat):Decidable (OutD m f l i n q):=Classical.propDecidable _
structure OutJ (m:SpM)(f:Nat)(x:En)(l:List Pl)(i:Nat)(m1:SpM):Prop where
  inv:Inv (arM m) m1
  xs:∀ n',(m1.x n').map (fun y=>(y.a,y.q))=(m.x n').map (fun y=>(y.a,y.q))
  ent:∀ n q:Nat,entM m1 n q=if OutD m f l i n q then x else entM m n q
  frm:∀ n q (g:Nat),entM m1 n q=⟨1,(g:Int),false⟩→m1.F g=m.F g∧m1.p.u.getD g 0=m.p.u.getD g 0
  fil:∀ i j,fileM m1 i j=fileM m i j
  slt:∀ t j,slotM m1 t j=slotM m t j
  cost:Cost 0 0 0 m m1
  fr:m1.p.u.getD f 0=m.p.u.getD f 0∨(m.p.u.getD f 0=3∧m1.p.u.getD f 0=1∧∀ q,q ∉ m1.b (f:Int))
  u3:∀ g,g < 1024→g≠f→m.p.z.getD (g / 32) 0=3→m1.p.u.getD g 0=m.p.u.getD g 0
  rest:m1.c=m.c
theorem OutJ.start (hi:Inv (arM m) m):OutJ m f x l 0 m :=
  ⟨hi,fun _=>rfl,fun n q=>(if_neg fun ⟨_,j,hj,_⟩=>absurd hj (Nat.not_lt_zero j)).symm,fun _ _ _ _=>⟨rfl,rfl⟩,fun _ _=>rfl,fun _ _=>rfl,Cost.refl m,.inl rfl,fun _ _ _ _=>rfl,rfl⟩
def OutX (m:SpM)(f:Nat)(x:En):Prop:=x=en0∨∃ sl:Nat,sl < 32∧x=⟨2,(sl:Int),false⟩∧m.p.u.getD f 0=3
theorem OutJ.step {n q:Nat} {z:SpX} {F':Nat→List Nat} {p':PS} {t':TS} (hi:Inv (arM m) m) (h:OutJ m f x l i m1) (hx:OutX m f x) (hl:l[i]?=some ⟨(n:Int),(q:Int)⟩) (hz:m1.x n=some z) (hq:q < 4096) (he:entM m n q=⟨1,(f:Int),false⟩) (hnd:∀ j,j < i→l[j]?≠some ⟨(n:Int),(q:Int)⟩)
    (hd:SetDone m1 z q x F' p' t'):OutJ m f x l (i+1) (putM m1 n z q x 0 F' p' t'):=by
  have hold:entM m1 n q=⟨1,(f:Int),false⟩:=by
    rw[h.ent,if_neg]
    · exact he
    · rintro⟨_,j,hj,e⟩
      exact hnd j hj e
  have hne:entM m1 n q≠en0:=by rw[hold];exact en_ne _
  have hxf:∀ g:Int,x≠⟨1,g,false⟩:=by
    intro g e
    rcases hx with c | ⟨t,_,c,_⟩
    · rw[c] at e;exact en_ne _ e.symm
    · rw[c] at e;exact es_fr _ _ e
  have hk:Kinds x:=by
    rcases hx with c | ⟨t,ht,c,_⟩
    · exact .inl c
    · exact .inr (.inr ⟨t,ht,c⟩)
  have hg:Good (arM m) m1 n q x∨GoodS (arM m) n q x:=by
    rcases hx with c | ⟨t,ht,c,hu⟩
    · exact .inl (.inl c)
    · obtain⟨_,r,hr,d | d⟩:=hi.ent_lt he
      · exact .inr ⟨t,c,ht,r,hr,d.2⟩
      · omega
  have hp:=putIs (n:=n) (y:=z) (pg:=q) (x:=x) (F':=F') (p':=p') (t':=t') h.inv hz hk
  have hiv:=h.inv.put hz hq hd hg hp
  have s:=Stp.put hp hd h.inv hz hq hg (fun g e _=>absurd e (hxf _))
  have hent:=hp.ent hd hz (h.inv.tok n z hz).el hq
  have hc:=(Cost.put hp hd h.inv hz hq fun _ g e=>absurd e (hxf _)).2 (.inl hne)
  refine⟨hiv,fun n'=>(s.xs n').trans (h.xs n'),fun n2 q2=>?_,fun n2 q2 g e2=>?_,fun a b=>(s.fil a b).trans (h.fil a b),fun a b=>(s.slt a b).trans (h.slt a b),(h.cost.trans hc).le (by omega) (by omega) (by omega),?_,fun g hg hgf hz3=>?_,hp.rest.c.trans h.rest⟩
  rotate_right 2
  · have hfu:m1.p.u.getD f 0=m.p.u.getD f 0:=by
      rcases h.fr with c | ⟨_,_,c⟩
      · exact c
      · exact absurd ((h.inv.back _ _).2 ⟨n,q,rfl,hold⟩) (c _)
    obtain⟨hfl,_,_,d⟩:=hi.ent_lt he
    rcases (hp.use hd h.inv hz hfl (by rw[hfu];exact d.imp (fun d=>d.1) (fun d=>d.1))).2 with c | ⟨c1,c2,c3,_⟩
    · exact .inl (c.trans hfu)
    · exact .inr ⟨hfu.symm.trans c1,c2,c3⟩
  · refine Eq.trans ?_ (h.u3 g hg hgf hz3)
    refine hp.z3 hd h.inv hz hg (by rw[h.cost.kp.z];exact hz3) fun e=>?_
    rw[hold] at e
    have:=en_inj e
    exact hgf (by omega)
  · rw[hent]
    by_cases c:n2=n∧q2=q
    · rw[if_pos c,if_pos]
      obtain⟨rfl,rfl⟩:=c
      exact⟨he,i,by omega,hl⟩
    · rw[if_neg c,h.ent]
      by_cases d:OutD m f l i n2 q2
      · rw[if_pos d,if_pos]
        obtain⟨d1,j,d2,d3⟩:=d
        exact⟨d1,j,by omega,d3⟩
      · rw[if_neg d,if_neg]
        rintro⟨d1,j,d2,d3⟩
        by_cases c2:j=i
        · rw[c2,hl] at d3
          injection d3 with d3
          injection d3 with d4 d5
          exact c ⟨by omega,by omega⟩
        · exact d ⟨d1,j,by omega,d3⟩
  · have c:¬ (n2=n∧q2=q):=by
      intro c
      rw[hent,if_pos c] at e2
      exact hxf _ e2
    have e3:entM m1 n2 q2=⟨1,(g:Int),false⟩:=(s.ent n2 q2 c).symm.trans e2
    obtain⟨a1,a2,_⟩:=s.frm n2 q2 g c e3
    obtain⟨b1,b2⟩:=h.frm n2 q2 g e3
    exact⟨a1.trans b1,a2.trans b2⟩
theorem OutJ.ents (h:OutJ m f x l l.length m1)(hall:∀ n q:Nat,entM m n q=⟨1,(f:Int),false⟩→(⟨(n:Int),(q:Int)⟩:Pl)∈l)(n q:Nat):entM m1 n q=if entM m n q=⟨1,(f:Int),false⟩ then x else entM m n q:=by
  rw[h.ent]
  by_cases c:entM m n q=⟨1,(f:Int),false⟩
  · obtain⟨j,hj,e⟩:=List.mem_iff_getElem.1 (hall n q c)
    rw[if_pos c,if_pos ⟨c,j,hj,by rw[List.getElem?_eq_getElem hj,e]⟩]
  · rw[if_neg c,if_neg (fun d=>c d.1)]
theorem OutJ.done (hi:Inv (arM m) m) (h:OutJ m f ⟨2,(sl:Int),false⟩ l l.length m1) (hu:m.p.u.getD f 0=3) (hb:∀ j,j < 64→slotM m sl j=(m.F f).getD j 0) (hall:∀ n q:Nat,entM m n q=⟨1,(f:Int),false⟩→(⟨(n:Int),(q:Int)⟩:Pl)∈l) :
    (∀ n q,entM m1 n q=if entM m n q=⟨1,(f:Int),false⟩ then ⟨2,(sl:Int),false⟩ else entM m n q)∧(∀ n q j,j < 64→pageM m1 n q j=pageM m n q j)∧(∀ n q,hasAnon m1 n q↔hasAnon m n q)∧Inv (arM m1) m1:=by
  have har:arM m1=arM m:=arM_of h.xs
  have ent:=h.ents hall
  refine⟨ent,fun n q j hj=>?_,fun n q=>?_,by rw[har];exact h.inv⟩
  · by_cases c:entM m n q=⟨1,(f:Int),false⟩
    · have e:=ent n q
      rw[if_pos c] at e
      rw[pageM_in c,pageM_slot e,h.slt,hb j hj]
    · have e:=ent n q
      rw[if_neg c] at e
      rcases hi.ent_three n q with d | ⟨g,d,_⟩ | ⟨t,d,_⟩
      · rw[pageM_no d,pageM_no (e.trans d),har]
        cases arM m n q with
        | none=>rfl
        | some r=>simp only[h.fil]
      · rw[pageM_in d,pageM_in (e.trans d),(h.frm n q g (e.trans d)).1]
      · rw[pageM_slot d,pageM_slot (e.trans d),h.slt]
  · by_cases c:entM m n q=⟨1,(f:Int),false⟩
    · have e:=ent n q
      rw[if_pos c] at e
      exact⟨fun _=>(hasAnon_in c).2 hu,fun _=>hasAnon_slot e⟩
    · have e:=ent n q
      rw[if_neg c] at e
      rcases hi.ent_three n q with d | ⟨g,d,_⟩ | ⟨t,d,_⟩
      · exact⟨fun a=>absurd a (hasAnon_no (e.trans d)),fun a=>absurd a (hasAnon_no d)⟩
      · rw[hasAnon_in d,hasAnon_in (e.trans d),(h.frm n q g (e.trans d)).2]
      · exact⟨fun _=>hasAnon_slot d,fun _=>hasAnon_slot (e.trans d)⟩
theorem OutJ.gone (hi:Inv (arM m) m) (h:OutJ m f en0 l l.length m1) (hu:m.p.u.getD f 0=4) (hall:∀ n q:Nat,entM m n q=⟨1,(f:Int),false⟩→(⟨(n:Int),(q:Int)⟩:Pl)∈l) :
    (∀ n q,entM m1 n q≠⟨1,(f:Int),false⟩)∧(∀ n q j,j < 64→pageM m1 n q j=pageM m n q j)∧(∀ n q,hasAnon m1 n q↔hasAnon m n q)∧Inv (arM m1) m1:=by
  have har:arM m1=arM m:=arM_of h.xs
  have ent:=h.ents hall
  refine⟨fun n q e=>?_,fun n q j hj=>?_,fun n q=>?_,by rw[har];exact h.inv⟩
  · rw[ent] at e
    split at e
    · exact en_ne _ e.symm
    · rename_i c
      exact c e
  · by_cases c:entM m n q=⟨1,(f:Int),false⟩
    · have e:=ent n q
      rw[if_pos c] at e
      obtain⟨_,r,hr,d | ⟨_,d2,d3⟩⟩:=hi.ent_lt c
      · omega
      · obtain⟨y,hy⟩:∃ y,m.x n=some y:=by
          cases d:m.x n with
          | none=>rw[entM_none d] at c;exact absurd c.symm (en_ne _)
          | some y=>exact⟨y,rfl⟩
        have hbs:=(findA_iff (hi.ars n y hy).1).1 ((arM_some hy q).symm.trans hr)
        obtain⟨_,ek,_⟩:=key_ix ((hi.ars n y hy).1.1 _ hbs.1) hbs.2 d2
        rw[pageM_in c,pageM_no e,har,hr]
        simp only[d2,if_false]
        rw[h.fil]
        unfold fileM
        rw[ek,d3]
        rfl
    · have e:=ent n q
      rw[if_neg c] at e
      rcases hi.ent_three n q with d | ⟨g,d,_⟩ | ⟨t,d,_⟩
      · rw[pageM_no d,pageM_no (e.trans d),har]
        cases arM m n q with
        | none=>rfl
        | some r=>simp only[h.fil]
      · rw[pageM_in d,pageM_in (e.trans d),(h.frm n q g (e.trans d)).1]
      · rw[pageM_slot d,pageM_slot (e.trans d),h.slt]
  · by_cases c:entM m n q=⟨1,(f:Int),false⟩
    · have e:=ent n q
      rw[if_pos c] at e
      rw[hasAnon_in c]
      exact⟨fun a=>absurd a (hasAnon_no e),fun a=>by omega⟩
    · have e:=ent n q
      rw[if_neg c] at e
      rcases hi.ent_three n q with d | ⟨g,d,_⟩ | ⟨t,d,_⟩
      · exact⟨fun a=>absurd a (hasAnon_no (e.trans d)),fun a=>absurd a (hasAnon_no d)⟩
      · rw[hasAnon_in d,hasAnon_in (e.trans d),(h.frm n q g (e.trans d)).2]
      · exact⟨fun _=>hasAnon_slot d,fun _=>hasAnon_slot (e.trans d)⟩
end
end Go.Proofs.YtaonpmclkafjdaaGreat
namespace Go.Proofs.YtaonpmclkafjdaaGreat
open Go.RowKit
set_option linter.unusedVariables false
theorem frameC_drop (es:CS)(k k':Pl):frameC (dropC es k) k'=if k'=k then none else frameC es k':=by
  unfold frameC dropC
  induction es with
  | nil=>simp
  | cons e es ih =>
    rw[List.filter_cons]
    by_cases c:e.k=k
    · rw[if_neg (by simp[c]),ih]
      by_cases d:k'=k
      · rw[if_pos d,if_pos d]
      · rw[if_neg d,if_neg d,List.find?_cons_of_neg (by simp only[decide_eq_true_eq];exact fun e'=>d (e'.symm.trans c))]
    · rw[if_pos (by simp[c])]
      by_cases d:e.k=k'
      · rw[List.find?_cons_of_pos (by simp only[decide_eq_true_eq];exact d),List.find?_cons_of_pos (by simp only[decide_eq_true_eq];exact d),if_neg (by rw[← d];exact c)]
      · rw[List.find?_cons_of_neg (by simp only[decide_eq_true_eq];exact d),List.find?_cons_of_neg (by simp only[decide_eq_true_eq];exact d),ih]
section
variable {A:Nat→Nat→Option Ar}{m:SpM}{k:Pl}{f:Nat}
theorem Inv.uncache (h:Inv A m)(hk:frameC m.c k=some (f:Int))(hno:∀ n q,entM m n q≠⟨1,(f:Int),false⟩):Inv A (m.setC (dropC m.c k)):=by
  refine⟨⟨h.tabs.bad,h.tabs.live,h.tabs.use,h.tabs.two⟩,h.zone,h.tok,h.x8,h.ars,fun n pg=>?_,h.back,h.srt,h.slot,h.ssrt,h.sin,csOk_drop h.cok,fun e he=>?_,h.tr⟩
  · rcases h.good n pg with (c | ⟨g,c,hg,r,hr,c2⟩) | c
    · exact .inl (.inl c)
    · refine .inl (.inr ⟨g,c,hg,r,hr,?_⟩)
      rcases c2 with c2 | ⟨c2,c3,c4⟩
      · exact .inl c2
      · refine .inr ⟨c2,c3,?_⟩
        show frameC (dropC m.c k) _=_
        rw[frameC_drop,if_neg]
        · exact c4
        · intro e
          rw[e,hk] at c4
          injection c4 with c4
          rw[← c4] at c
          exact hno _ _ c
    · exact .inr c
  · exact h.ckey e (List.mem_filter.1 he).1
theorem uncache_file {i0:Nat}(hi0:keyI i0=k)(hk:frameC m.c k=some (f:Int))(hb:∀ j,j < 64→(last m.S m.L (96+i0)).getD j 0=(m.F f).getD j 0)(i j:Nat)(hj:j < 64)(hinj:keyI i=k→i=i0):fileM (m.setC (dropC m.c k)) i j=fileM m i j:=by
  unfold fileM
  show (match frameC (dropC m.c k) (keyI i) with | some f=>(m.F f.toNat).getD j 0 | none=>(last m.S m.L (96+i)).getD j 0)=_
  rw[frameC_drop]
  by_cases c:keyI i=k
  · have e:=hinj c
    subst e
    rw[if_pos c,c,hk]
    simp only
    rw[hb j hj]
    rfl
  · rw[if_neg c]
    rfl
theorem Inv.disk (h:Inv A m)(S:Nat→List Nat)(L:Nat→Option (List Nat)):Inv A ⟨m.F,m.bad,S,L,m.T,m.p,m.b,m.c,m.s,m.x⟩ :=
  ⟨⟨h.tabs.bad,h.tabs.live,h.tabs.use,h.tabs.two⟩,h.zone,h.tok,h.x8,h.ars,h.good,h.back,h.srt,h.slot,h.ssrt,h.sin,h.cok,h.ckey,h.tr⟩
theorem slot_file {S:Nat→List Nat}{L:Nat→Option (List Nat)}(hS:∀ s,s < 160→last S L s=last m.S m.L s)(i j:Nat)(hi:i < 64):fileM ⟨m.F,m.bad,S,L,m.T,m.p,m.b,m.c,m.s,m.x⟩ i j=fileM m i j:=by
  unfold fileM
  cases frameC m.c (keyI i) with
  | some g=>rfl
  | none=>show (last S L (96+i)).getD j 0=_;rw[hS _ (by omega)]
theorem slot_page {S:Nat→List Nat}{L:Nat→Option (List Nat)}{sl:Nat}(h:Inv (arM m) m)(hS:∀ s,s≠160+sl→last S L s=last m.S m.L s)(hsl:m.s sl=[])(n q j:Nat):pageM ⟨m.F,m.bad,S,L,m.T,m.p,m.b,m.c,m.s,m.x⟩ n q j=pageM m n q j:=by
  rcases h.ent_three n q with e | ⟨g,e,_⟩ | ⟨t,e,_⟩
  · have e':entM ⟨m.F,m.bad,S,L,m.T,m.p,m.b,m.c,m.s,m.x⟩ n q=en0:=e
    rw[pageM_no e,pageM_no e']
    show (match arM m n q with | some r=>if r.kd=1 then 0 else fileM ⟨m.F,m.bad,S,L,m.T,m.p,m.b,m.c,m.s,m.x⟩ (fileIx r q) j | none=>0)=_
    cases c:arM m n q with
    | none=>rfl
    | some r =>
      simp only
      by_cases hk:r.kd=1
      · rw[if_pos hk,if_pos hk]
      · obtain⟨y,hy⟩:∃ y,m.x n=some y:=by
          cases d:m.x n with
          | none=>unfold arM at c;rw[d] at c;cases c
          | some y=>exact⟨y,rfl⟩
        have hbs:=(findA_iff (h.ars n y hy).1).1 ((arM_some hy q).symm.trans c)
        obtain⟨h1,_,h2⟩:=key_ix ((h.ars n y hy).1.1 _ hbs.1) hbs.2 hk
        rw[if_neg hk,if_neg hk]
        unfold fileM
        show (match frameC m.c (keyI (fileIx r q)) with | some f=>(m.F f.toNat).getD j 0 | none=>(last S L (96+fileIx r q)).getD j 0)=_
        rw[hS _ (by omega)]
        rfl
  · have e':entM ⟨m.F,m.bad,S,L,m.T,m.p,m.b,m.c,m.s,m.x⟩ n q=⟨1,(g:Int),false⟩:=e
    rw[pageM_in e,pageM_in e']
  · have e':entM ⟨m.F,m.bad,S,L,m.T,m.p,m.b,m.c,m.s,m.x⟩ n q=⟨2,(t:Int),false⟩:=e
    rw[pageM_slot e,pageM_slot e']
    have hne:t≠sl:=by
      rintro rfl
      have hx:m.x n≠none:=fun d=>by rw[entM_none d] at e;exact absurd e.symm (es_ne _)
      have:=(h.slot t n q hx).2 e
      rw[hsl] at this
      exact absurd this List.not_mem_nil
    unfold slotM
    show (last S L (160+t)).getD j 0=_
    rw[hS _ (by omega)]
end
end Go.Proofs.YtaonpmclkafjdaaGreat
namespace Go.Proofs.YtaonpmclkafjdaaGreat
open Go.RowKit
set_option linter.unusedVariables false
def SpM.on (M m:SpM):SpM:=⟨M.F,M.bad,m.S,m.L,m.T,M.p,M.b,m.c,M.s,M.x⟩
theorem putM_on (M m:SpM)(n:Nat)(y:SpX)(pg:Nat)(x:En)(F':Nat→List Nat)(p':PS)(t':TS):(putM M n y pg x 0 F' p' t').on m=putM (M.on m) n y pg x 0 F' p' t':=by
  have ht:∀ (M:SpM) pl x,(takeM M pl x).on m=takeM (M.on m) pl x:=by
    intro M pl x
    unfold takeM
    split
    · rfl
    · split <;> rfl
  have hf:∀ (M:SpM) z pl,(freeM M z pl).on m=freeM (M.on m) z pl:=by
    intro M z pl
    unfold freeM
    show _=if useP M.p z=3∧(M.b z).erase pl=[] then _ else _
    split <;> rfl
  have hl:∀ (M:SpM) pl x,(leaveM M pl x).on m=leaveM (M.on m) pl x:=by
    intro M pl x
    unfold leaveM
    split
    · exact hf _ _ _
    · split <;> rfl
  unfold putM
  split
  · split
    · rw[ht];rfl
    · rw[hl,ht];rfl
  · rfl
theorem SetDone.of_on {M m:SpM}{y:SpX}{pg:Nat}{x:En}{F':Nat→List Nat}{p':PS}{t':TS}(h:SetDone (M.on m) y pg x F' p' t'):SetDone M y pg x F' p' t':=⟨h.e,h.live,h.step,h.zone,h.F,h.ok⟩
theorem Tabs.on {M:SpM}(h:Tabs M)(m:SpM):Tabs (M.on m):=⟨h.bad,h.live,h.use,h.two⟩
theorem Few.on {M:SpM}(h:Few M)(m:SpM):Few (M.on m):=⟨h.b,h.f,h.s⟩
set_option maxRecDepth 20000 in
theorem Inv.freed {A:Nat→Nat→Option Ar}{m:SpM}{f:Nat}(h:Inv A m)(hf:f < 1024)(hu:m.p.u.getD f 0=3∨m.p.u.getD f 0=4∨m.p.u.getD f 0=1)(hno:∀ n q,entM m n q≠⟨1,(f:Int),false⟩)(hc:∀ e∈m.c,e.f≠(f:Int)):Inv A (m.setP (freeP m.p f).2):=by
  have hus:useP m.p (f:Int)=m.p.u.getD f 0:=by
    unfold useP
    rw[if_pos ⟨by omega,by omega⟩,Int.toNat_natCast]
  have hz:(freeP m.p f).2.z=m.p.z∧(freeP m.p f).2.i=m.p.i:=by
    unfold freeP
    split <;> exact⟨rfl,rfl⟩
  have ho:∀ g,g≠f→(freeP m.p f).2.u.getD g 0=m.p.u.getD g 0:=by
    intro g c
    unfold freeP
    split
    · rw[Int.toNat_natCast]
      exact getD_set_ne _ _ _ _ _ c
    · rfl
  refine⟨⟨h.tabs.bad,h.tabs.live,fun n y e g hg=>?_,h.tabs.two⟩,fun n y e g hg=>?_,h.tok,h.x8,h.ars,fun n q=>?_,h.back,h.srt,h.slot,h.ssrt,h.sin,h.cok,fun e he=>?_,h.tr⟩
  · have h2:=h.tabs.use n y e g hg
    refine (ho g ?_).trans h2
    rintro rfl
    omega
  · show (freeP m.p f).2.z.getD _ 0=2∧(freeP m.p f).2.i.getD _ false=false
    rw[hz.1,hz.2]
    exact h.zone n y e g hg
  · rcases h.good n q with (c | ⟨g,c,hg,r,hr,c2⟩) | c
    · exact .inl (.inl c)
    · refine .inl (.inr ⟨g,c,hg,r,hr,?_⟩)
      show ((freeP m.p f).2.u.getD g 0=3∧_)∨((freeP m.p f).2.u.getD g 0=4∧_)
      rw[ho g ?_]
      · exact c2
      · rintro rfl
        exact hno n q c
    · exact .inr c
  · obtain⟨c1,g,c2,c3,c4⟩:=h.ckey e he
    refine⟨c1,g,c2,c3,(ho g ?_).trans c4⟩
    rintro rfl
    exact hc e he c2
set_option maxRecDepth 20000 in
theorem freeP_u {p:PS}{f:Nat}(hp:f < p.u.length)(hf:f < 1024)(hu:p.u.getD f 0=3∨p.u.getD f 0=4∨p.u.getD f 0=1):(freeP p f).2.u.getD f 0=1:=by
  have hus:useP p (f:Int)=p.u.getD f 0:=by
    unfold useP
    rw[if_pos ⟨by omega,by omega⟩,Int.toNat_natCast]
  unfold freeP
  rw[hus]
  split
  · rw[Int.toNat_natCast]
    exact getD_set_same _ _ _ _ hp
  · rename_i c
    rcases hu with hu | hu | hu
    · rw[hu] at c;exact absurd ⟨by decide,by decide⟩ c
    · rw[hu] at c;exact absurd ⟨by decide,by decide⟩ c
    · exact hu
theorem freeP_other {p:PS}{f g:Nat}(c:g≠f):(freeP p f).2.u.getD g 0=p.u.getD g 0:=by
  unfold freeP
  split
  · rw[Int.toNat_natCast]
    exact getD_set_ne _ _ _ _ _ c
  · rfl
theorem freeP_zi (p:PS)(f:Int):(freeP p f).2.z=p.z∧(freeP p f).2.i=p.i:=by
  unfold freeP
  split <;> exact⟨rfl,rfl⟩
theorem freeP_cnt {p:PS}(f z:Nat)(hu:p.u.getD f 0=3∨p.u.getD f 0=4∨p.u.getD f 0=1):cntF p z≤cntF (freeP p f).2 z:=by
  refine cntF_le (fun g hg e=>?_) (freeP_zi p f).1 (freeP_zi p f).2
  by_cases c:g=f
  · subst c
    by_cases l:g < p.u.length
    · exact freeP_u l hg hu
    · rw[List.getD_eq_getElem?_getD,List.getElem?_eq_none (Nat.le_of_not_lt l)] at e
      cases e
  · rw[freeP_other c];exact e
end Go.Proofs.YtaonpmclkafjdaaGreat
namespace Go.Proofs.YtaonpmclkafjdaaGreat
open Go.RowKit
set_option linter.unusedVariables false
section
variable (gS:Nat)(a:SpA)(k:SpK)(K:Nat→Prop)(m:SpM)(w:World)
def EmAt (w:World)(gS:Nat)(a:SpA)(k:SpK)(K:Nat→Prop)(J:Nat→SpM→Prop)(l:List Pl)(row:Value)(g:Nat)(ty:TypeId)(cs:Array Value)(i:Nat)(wr:World):Prop :=
  ∃ m' K',J i m'∧SpMem wr gS a k K' m'∧Went w K wr K'∧Pls wr wr.heap.size row l∧(∀ j,0 < l.length→IsBlk row j→¬ K' j∧j < wr.heap.size)∧(Blk wr g ty cs∧¬ K' g)
theorem pls_new {w w':World}{v:Value}{l:List Pl}(hp:Pls w' w'.heap.size v l)(hn:NewV w v)(hK:∀ j,K j→j < w.heap.size)(j:Nat)(h0:0 < l.length)(hj:IsBlk v j):¬ K j∧j < w'.heap.size:=by
  obtain⟨ad,n2,c2,e1,e3⟩:=hj
  obtain⟨A',n3,c3,f1,f2,f3,f4,f5,f6⟩:=hp
  rw[e1] at f1
  injection f1 with f7 f8 f9
  subst f8 f9
  have q2:w.heap.size≤ad.block:=hn ad n2 c2 e1 (by omega)
  obtain⟨b,o,f10,f11,-⟩:=f6 (by omega)
  rw[← f7] at f10
  injection f10 with f10
  have q3:ad.block=b:=by rw[f10]
  exact⟨fun hk=>by have:=hK j hk;omega,by omega⟩
set_option maxRecDepth 100000 in
set_option maxHeartbeats 8000000 in
theorem empty_go (J:Nat→SpM→Prop) (f:Nat) (hf:f < 1024) (xk xn:Int) (xw:Bool) (l:List Pl) (hl:m.b (f:Int)=l) (hlen:l.length≤100000) (h:SpMem w gS a k K m) (h0:J 0 m)
    (hstep:∀ (i:Nat) (qc qg:Int) (m':SpM) (V:World) (K':Nat→Prop),l[i]?=some ⟨qc,qg⟩→J i m'→SpMem V gS a k K' m'→Calls Tryz.prog 104 #[.pointer (some ⟨gS,0,none⟩),.agg #[.int .i64 qc,.int .i64 qg],.agg #[.int .i64 xk,.int .i64 xn,.bool xw]] V fun e w'=>∃ (er:Int) (m'':SpM),J (i+1) m''∧SpEnd V gS a k K' (.int .i64 er) m'' e w') :
    Calls Tryz.prog 53 #[.pointer (some ⟨gS,0,none⟩),.int .i64 (f:Int),.agg #[.int .i64 xk,.int .i64 xn,.bool xw]] w fun e w'=>∃ m',J l.length m'∧SpEnd w gS a k K (.tuple #[]) (m'.setP (freeP m'.p (f:Int)).2) e w':=by
  obtain⟨W,hW⟩:∃ W,w.alloc (.cells #[.int .i64 xk,.int .i64 xn,.bool xw] 29)=W:=⟨_,rfl⟩
  have hb:Below w.heap.size w W:=by rw[← hW];exact belAl (Below.refl _ w) _
  have bE:Blk W w.heap.size 29 #[.int .i64 xk,.int .i64 xn,.bool xw]:=by rw[← hW];exact Blk.new w _ _
  have h1:=h.fresh hb
  have hK:=h.lt
  have hKn:¬ K w.heap.size:=fun hk=>Nat.lt_irrefl _ (hK _ hk)
  have c3:W.cell? ⟨gS,3,none⟩=some (.pointer (some ⟨a.B,0,none⟩)):=h1.cells.cell 3
  have e0:W.cell? ⟨w.heap.size,0,none⟩=some (.int .i64 xk):=bE.cell 0
  have e1:W.cell? ⟨w.heap.size,1,none⟩=some (.int .i64 xn):=bE.cell 1
  have e2:W.cell? ⟨w.heap.size,2,none⟩=some (.bool xw):=bE.cell 2
  obtain⟨KB,hB,-,-⟩:=h1.backP
  obtain⟨N,hN⟩:∃ N,N=l.length:=⟨_,rfl⟩
  have HN:=Lib.hid (And.intro hN (show N≤100000 from by omega))
  have OF:=Lib.hid (show Calls Tryz.prog 101 #[.pointer (some ⟨a.B,0,none⟩),.int .i64 (f:Int)] W fun e w'=>∃ (A:Option Addr) (c:Nat),e=.returned (.slice A N c)∧EmAt w gS a k K J l (.slice A N c) w.heap.size 29 #[.int .i64 xk,.int .i64 xn,.bool xw] 0 w' from
    (back_of a.B KB m.b W (f:Int) hB (WalkArith.wf_i64 (by omega))).mono (by
      rintro e w' ⟨v,rfl,p1,p2,p3⟩
      rw[hl] at p1
      have hbel:Below w.heap.size w w':=hb.trans (p3.mono hb.size)
      obtain⟨A,n',c,rfl,q2,-⟩:=id p1
      obtain rfl:N=n':=by rw[HN.out.1];exact q2
      exact⟨A,c,rfl,m,K,h0,h.fresh hbel,Went.of_below hbel,p1,fun j hj0 hj=>pls_new K p1 p2 (fun j hk=>Nat.lt_of_lt_of_le (hK j hk) hb.size) j hj0 hj,bE.below p3 bE.lt,hKn⟩))
  have HST:=Lib.hid hstep
  have HF:=Lib.hid hf
  clear hb bE h1 hK hKn hB hl hlen h h0 hstep hN hf
  go_enter Tryz.func53,Tryz.ntmps53
  go_wp2_with fail
  refine OF.out.mono ?_
  rintro e w2 ⟨A2,c2,rfl,hst0⟩
  have P0:=Lib.hid hst0
  clear hst0
  go_wp2_with fail
  go_loopg [15] N (fun gg s15 wr=>∃ i:Nat,i+gg=N∧s15=.int .i64 (i:Int)∧EmAt w gS a k K J l (.slice A2 N c2) w.heap.size 29 #[.int .i64 xk,.int .i64 xn,.bool xw] i wr)
  case atStart=>exact⟨0,by omega,rfl,P0.out⟩
  case round =>
    obtain⟨i,hig,rfl,hst⟩:=hrel
    by_cases hlt:i < N
    · obtain⟨⟨qc,qg⟩,hp⟩:∃ p,l[i]?=some p:=⟨_,List.getElem?_eq_getElem (by have:=HN.out.1;omega)⟩
      obtain⟨mi,Ki,hj,h1,g1,hpl,hoff,hs⟩:=hst
      obtain⟨A',n',c',f1,f2,f3,f4,f5,f6⟩:=id hpl
      injection f1 with f7 f8 f9
      subst f7 f8 f9
      obtain⟨g,o,rfl,hgl,hat⟩:=f6 (by omega)
      obtain⟨a0',a1'⟩:=hat i (by omega)
      have eg:l.getD i pl0=⟨qc,qg⟩:=by rw[List.getD_eq_getElem?_getD,hp];rfl
      rw[eg] at a0' a1'
      have a0:wr.cell? ⟨g,o+i * 2,none⟩=some (.int .i64 qc):=a0'
      have a1:wr.cell? ⟨g,o+i * 2+1,none⟩=some (.int .i64 qg):=a1'
      have t4:decide ((i:Int) < (N:Int))=true:=decide_eq_true (by omega)
      have t5:(i:Int) < (N:Int):=by omega
      have t6:(0:Int)≤(i:Int):=by omega
      have hbW:Below wr.heap.size wr (wr.alloc (.cells #[.int .i64 qc,.int .i64 qg] 60)):=belAl (Below.refl _ _) _
      have bx:Blk (wr.alloc (.cells #[.int .i64 qc,.int .i64 qg] 60)) wr.heap.size 60 #[.int .i64 qc,.int .i64 qg]:=Blk.new wr _ _
      have x0:(wr.alloc (.cells #[.int .i64 qc,.int .i64 qg] 60)).cell? ⟨wr.heap.size,0,none⟩=some (.int .i64 qc):=bx.cell 0
      have x1:(wr.alloc (.cells #[.int .i64 qc,.int .i64 qg] 60)).cell? ⟨wr.heap.size,1,none⟩=some (.int .i64 qg):=bx.cell 1
      have s0:(wr.alloc (.cells #[.int .i64 qc,.int .i64 qg] 60)).cell? ⟨w.heap.size,0,none⟩=some (.int .i64 xk):=(hs.1.al _).cell 0
      have s1:(wr.alloc (.cells #[.int .i64 qc,.int .i64 qg] 60)).cell? ⟨w.heap.size,1,none⟩=some (.int .i64 xn):=(hs.1.al _).cell 1
      have s2:(wr.alloc (.cells #[.int .i64 qc,.int .i64 qg] 60)).cell? ⟨w.heap.size,2,none⟩=some (.bool xw):=(hs.1.al _).cell 2
      have PC:=Lib.hid (show Calls Tryz.prog 104 #[.pointer (some ⟨gS,0,none⟩),.agg #[.int .i64 qc,.int .i64 qg],.agg #[.int .i64 xk,.int .i64 xn,.bool xw]] (wr.alloc (.cells #[.int .i64 qc,.int .i64 qg] 60)) fun e w'=>∃ er:Int,e=.returned (.int .i64 er)∧EmAt w gS a k K J l (.slice (some ⟨g,o,none⟩) N c2) w.heap.size 29 #[.int .i64 xk,.int .i64 xn,.bool xw] (i+1) w' from
        (HST.out i qc qg mi _ Ki hp hj (h1.fresh hbW)).mono (by
          rintro e w' ⟨er,m'',hj2,rfl,K2,h2,g2⟩
          have gw:Went wr Ki w' K2:=(Went.of_below hbW).trans g2
          obtain⟨r1,r2⟩:=pls_went hpl hoff gw
          refine⟨er,rfl,m'',K2,hj2,h2,g1.trans gw,r1,r2,gw.tr.blk hs.1 hs.2,fun hk=>?_⟩
          rcases gw.nk _ hk with c | c
          · exact hs.2 c
          · have:=hs.1.lt;omega))
      clear hp hj h1 g1 hpl hoff hat hbW bx hs f2 f3 f4 f5 f6 a0' a1' eg
      go_wp2_with fail
      refine PC.out.mono ?_
      rintro e w5 ⟨er,rfl,hp5⟩
      have P5:=Lib.hid hp5
      clear hp5
      go_wp2_with fail
      go_roundg (N - (i+1))
      case measure=>omega
      case rel=>exact⟨i+1,by omega,congrArg (Value.int .i64) (by have:=HN.out.2;first | omega | (simp only[wrap64];omega)),P5.out⟩
    · have hin:i=N:=by omega
      have t4:decide ((i:Int) < (N:Int))=false:=decide_eq_false (by omega)
      subst hin
      obtain⟨mi,Ki,hj,h1,g1,-⟩:=hst
      have q2:wr.cell? ⟨gS,2,none⟩=some (.pointer (some ⟨a.P,0,none⟩)):=h1.cells.cell 2
      obtain⟨KP,hP,-,hl⟩:=h1.poolP
      have HP:=Lib.hid (pool_free a.P KP mi.p (f:Int) wr hP)
      have HL:=Lib.hid (hl (freeP mi.p (f:Int)).2)
      have G1:=Lib.hid g1
      rw[HN.out.1] at hj
      have HJ:=Lib.hid hj
      clear hj h1 g1 hP hl
      go_wp2_with fail
      refine HP.out.mono ?_
      rintro e w6 ⟨K6,rfl,p6,n6,u6⟩
      have R:=Lib.hid ((HL.out w6 K6 p6 n6 u6).from_ G1.out)
      clear p6 n6 u6
      go_wp2_with fail
      go_end0
      exact⟨mi,HJ.out,rfl,R.out⟩
end
end Go.Proofs.YtaonpmclkafjdaaGreat
namespace Go.Proofs.YtaonpmclkafjdaaGreat
open Go.RowKit
set_option linter.unusedVariables false
section
variable (gS:Nat)(a:SpA)(k:SpK)(K:Nat→Prop)(m:SpM)(w:World)
set_option maxRecDepth 100000 in
set_option maxHeartbeats 8000000 in
theorem reached_go (f:Nat) (hf:f < 1024) (l:List Pl) (hl:m.b (f:Int)=l) (hlen:l.length≤100000) (h:SpMem w gS a k K m) (hb:NoBad m.bad)
    (hall:∀ (i:Nat) (qc qg:Int),l[i]?=some ⟨qc,qg⟩→∃ (n pg:Nat) (y:SpX),qc=(n:Int)∧qg=(pg:Int)∧m.x n=some y∧pg < 4096∧y.t.live=true∧y.t.e.getD pg en0=⟨1,(f:Int),false⟩) :
    Calls Tryz.prog 50 #[.pointer (some ⟨gS,0,none⟩),.int .i64 (f:Int)] w fun e w'=>e=.returned (.int .i64 0)∧Below w.heap.size w w':=by
  have hK:=h.lt
  have c3:w.cell? ⟨gS,3,none⟩=some (.pointer (some ⟨a.B,0,none⟩)):=h.cells.cell 3
  obtain⟨KB,hB,-,-⟩:=h.backP
  obtain⟨N,hN⟩:∃ N,N=l.length:=⟨_,rfl⟩
  have HN:=Lib.hid (And.intro hN (show N≤100000 from by omega))
  have OF:=Lib.hid (show Calls Tryz.prog 101 #[.pointer (some ⟨a.B,0,none⟩),.int .i64 (f:Int)] w fun e w'=>∃ (A:Option Addr) (c:Nat),e=.returned (.slice A N c)∧Pls w' w'.heap.size (.slice A N c) l∧Below w.heap.size w w' from
    (back_of a.B KB m.b w (f:Int) hB (WalkArith.wf_i64 (by omega))).mono (by
      rintro e w' ⟨v,rfl,p1,p2,p3⟩
      rw[hl] at p1
      obtain⟨A,n',c,rfl,q2,-⟩:=id p1
      obtain rfl:N=n':=by rw[HN.out.1];exact q2
      exact⟨A,c,rfl,p1,p3⟩))
  have HA:=Lib.hid hall
  have H:=Lib.hid h
  have HBD:=Lib.hid hb
  clear h hK hB hl hlen hb hall hN hf
  go_enter Tryz.func50,Tryz.ntmps50
  go_wp2_with fail
  refine OF.out.mono ?_
  rintro e w2 ⟨A2,c2,rfl,hpl2,hb2⟩
  have P0:=Lib.hid (And.intro hpl2 hb2)
  clear hpl2 hb2
  go_wp2_with fail
  go_loopg [16] N (fun gg s16 wr=>∃ i:Nat,i+gg=N∧s16=.int .i64 (i:Int)∧Pls wr wr.heap.size (.slice A2 N c2) l∧Below w.heap.size w wr)
  case atStart=>exact⟨0,by omega,rfl,P0.out.1,P0.out.2⟩
  case round =>
    obtain⟨i,hig,rfl,hpl,hbr⟩:=hrel
    by_cases hlt:i < N
    · obtain⟨⟨qc,qg⟩,hp⟩:∃ p,l[i]?=some p:=⟨_,List.getElem?_eq_getElem (by have:=HN.out.1;omega)⟩
      obtain⟨n,pg,y,rfl,rfl,hy,hpg,hlv,hent⟩:=HA.out i _ _ hp
      obtain⟨A',n',c',f1,f2,f3,f4,f5,f6⟩:=id hpl
      injection f1 with f7 f8 f9
      subst f7 f8 f9
      obtain⟨g,o,rfl,hgl,hat⟩:=f6 (by omega)
      obtain⟨a0',a1'⟩:=hat i (by omega)
      have eg:l.getD i pl0=⟨(n:Int),(pg:Int)⟩:=by rw[List.getD_eq_getElem?_getD,hp];rfl
      rw[eg] at a0' a1'
      have a0:wr.cell? ⟨g,o+i * 2,none⟩=some (.int .i64 (n:Int)):=a0'
      have a1:wr.cell? ⟨g,o+i * 2+1,none⟩=some (.int .i64 (pg:Int)):=a1'
      have t4:decide ((i:Int) < (N:Int))=true:=decide_eq_true (by omega)
      have t5:(i:Int) < (N:Int):=by omega
      have t6:(0:Int)≤(i:Int):=by omega
      obtain⟨W1,hW1⟩:∃ W1,wr.alloc (.cells #[.int .i64 (n:Int),.int .i64 (pg:Int)] 60)=W1:=⟨_,rfl⟩
      have hbW:Below wr.heap.size wr W1:=by rw[← hW1];exact belAl (Below.refl _ _) _
      have bx:Blk W1 wr.heap.size 60 #[.int .i64 (n:Int),.int .i64 (pg:Int)]:=by rw[← hW1];exact Blk.new wr _ _
      have C0_:W1.cell? ⟨wr.heap.size,0,none⟩=some (.int .i64 (n:Int)):=bx.cell 0
      have C1_:W1.cell? ⟨wr.heap.size,1,none⟩=some (.int .i64 (pg:Int)):=bx.cell 1
      have L0_:=bx.lt
      have L1_:=bx.lt
      have hbw1:Below w.heap.size w W1:=hbr.trans (hbW.mono hbr.size)
      have TQ:=Lib.hid (fun (V:World) (hV:Below W1.heap.size W1 V)=>tree_go gS a k K m V n y (H.out.fresh (hbw1.trans (hV.mono hbw1.size))) hy)
      obtain⟨KP,KT,hM,hP,hTr,hAp,-⟩:=(H.out.fresh hbw1).treeP hy
      have GQ:=Lib.hid (fun (V:World) (hV:Below W1.heap.size W1 V)=>((tree_get (k.T n) a.R a.F a.P KT m.F m.bad y.t V pg hpg (hM.below hV hM.lt.1 hM.lt.2) (hTr.fresh hV) HBD.out hlv).mono (fun e w' h=>⟨by rw[h.1,hent];rfl,h.2,hV.trans (h.2.mono hV.size)⟩):Calls Tryz.prog 13 #[.pointer (some ⟨k.T n,0,none⟩),.int .i64 (pg:Int)] V fun e w'=>e=.returned (.tuple #[.agg #[.int .i64 1,.int .i64 (f:Int),.bool false],.int .i64 0])∧Below V.heap.size V w'∧Below W1.heap.size W1 w'))
      have KEEP:=Lib.hid (fun (V:World) (hV:Below W1.heap.size W1 V)=>(⟨(hV.cell (p:=⟨wr.heap.size,0,none⟩) L0_).trans C0_,(hV.cell (p:=⟨wr.heap.size,1,none⟩) L1_).trans C1_,hV⟩:V.cell? ⟨wr.heap.size,0,none⟩=some (.int .i64 (n:Int))∧V.cell? ⟨wr.heap.size,1,none⟩=some (.int .i64 (pg:Int))∧Below W1.heap.size W1 V))
      have PB:=Lib.hid (fun (V:World) (hV:V.cell? ⟨wr.heap.size,0,none⟩=some (.int .i64 (n:Int))∧V.cell? ⟨wr.heap.size,1,none⟩=some (.int .i64 (pg:Int))∧Below W1.heap.size W1 V)=>hV.2.2)
      have BR:=Lib.hid (Below.refl W1.heap.size W1)
      have GA:=Lib.hid (show Calls Tryz.prog 13 #[.pointer (some ⟨k.T n,0,none⟩),.int .i64 (pg:Int)] (W1.alloc (.cells #[.int .i64 0,.int .i64 0,.bool false] 29)).drew fun e w'=>e=.returned (.tuple #[.agg #[.int .i64 1,.int .i64 (f:Int),.bool false],.int .i64 0])∧w'.cell? ⟨W1.heap.size,0,none⟩=some (.int .i64 0)∧w'.cell? ⟨W1.heap.size,1,none⟩=some (.int .i64 0)∧w'.cell? ⟨W1.heap.size,2,none⟩=some (.bool false)∧w'.frozen? ⟨W1.heap.size,0,none⟩=false∧w'.frozen? ⟨W1.heap.size,1,none⟩=false∧w'.frozen? ⟨W1.heap.size,2,none⟩=false∧(∀ u0 u1 u2,Below W1.heap.size W1 (((w'.setCell ⟨W1.heap.size,0,none⟩ u0).setCell ⟨W1.heap.size,1,none⟩ u1).setCell ⟨W1.heap.size,2,none⟩ u2))∧Blk w' W1.heap.size 29 #[.int .i64 0,.int .i64 0,.bool false]∧Below W1.heap.size W1 w' from (GQ.out _ (belAl (Below.refl _ W1) _).drew).mono (fun e w' h=>by
        have hz:Blk w' W1.heap.size 29 #[.int .i64 0,.int .i64 0,.bool false]:=(show Blk (W1.alloc (.cells #[.int .i64 0,.int .i64 0,.bool false] 29)).drew W1.heap.size 29 #[.int .i64 0,.int .i64 0,.bool false] from Blk.new W1 _ _).below h.2.1 (Blk.lt (w:=(W1.alloc (.cells #[.int .i64 0,.int .i64 0,.bool false] 29)).drew) (Blk.new W1 _ _))
        exact⟨h.1,hz.cell 0,hz.cell 1,hz.cell 2,hz.frozen 0,hz.frozen 1,hz.frozen 2,fun u0 u1 u2=>(((h.2.2.setCell (Nat.le_refl _) u0).setCell (Nat.le_refl _) u1).setCell (Nat.le_refl _) u2),hz,h.2.2⟩))
      have PL:=Lib.hid (hpl.fresh hbW)
      have BW:=Lib.hid hbw1
      clear hp hy hpg hlv hent hpl hat hbW bx f2 f3 f4 f5 f6 a0' a1' eg hbr hgl hM hP hTr hAp hbw1 L0_ L1_
      go_wp2_with fail
      clear hW1
      go_cut [7,8] from 20 to 29 (fun sA sB wx=>∃ g,sA=.pointer (some ⟨g,0,none⟩)∧sB=.int .i64 0∧Blk wx g 29 #[.int .i64 1,.int .i64 (f:Int),.bool false]∧W1.heap.size≤g∧Below W1.heap.size W1 wx)
      case first =>
        go_region_held3 (fun w'=>w'.cell? ⟨wr.heap.size,0,none⟩=some (.int .i64 (n:Int))∧w'.cell? ⟨wr.heap.size,1,none⟩=some (.int .i64 (pg:Int))∧Below W1.heap.size W1 w')
          (first | with_reducible assumption | with_reducible exact KEEP.out _ BR.out.drew | with_reducible exact KEEP.out _ (hsb _ _ _) | with_reducible exact KEEP.out _ (belAl (PB.out _ (by with_reducible assumption)) _) | with_reducible exact KEEP.out _ (belAl (by with_reducible assumption) _) | with_reducible exact KEEP.out _ (belAl BR.out _).drew | with_reducible exact KEEP.out _ (PB.out _ (by with_reducible assumption)) | with_reducible exact KEEP.out _ (by with_reducible assumption))
          (first | (go_at_call 12;refine (TQ.out _ ?_).mono ?_;(first | assumption | exact PB.out _ (by assumption) | exact BR.out.drew | exact (belAl BR.out _).drew | exact hsbT);rintro e w' ⟨rfl,hw⟩;subst w') | (go_at_call 13;refine GA.out.mono ?_;rintro e w' ⟨rfl,z0,z1,z2,f0,f1,f2,hsb,hz,hbB⟩) | (go_at_call 13;refine (GQ.out _ ?_).mono ?_;(first | assumption | exact PB.out _ (by assumption));rintro e w' ⟨rfl,hbA,hbB⟩))
        all_goals (go_wp2_with fail;go_meet)
        all_goals (first | exact⟨_,rfl,rfl,(((hz.set_ 0 _).set_ 1 _).set_ 2 _),Nat.le_refl _,hsb _ _ _⟩ | exact⟨_,rfl,rfl,Blk.new w' _ _,hbB.size,belAl hbB _⟩)
      case rest =>
        obtain⟨ge,rfl,rfl,hge,hgs,hbg⟩:=hcut
        have PL2:=Lib.hid (PL.out.fresh hbg)
        have BW2:=Lib.hid (BW.out.trans (hbg.mono BW.out.size))
        clear hge hgs hbg
        go_wp2_with fail
        go_roundg (N - (i+1))
        case measure=>omega
        case rel=>exact⟨i+1,by omega,congrArg (Value.int .i64) (by have:=HN.out.2;first | omega | (simp only[wrap64];omega)),PL2.out,BW2.out⟩
    · have hin:i=N:=by omega
      have t4:decide ((i:Int) < (N:Int))=false:=decide_eq_false (by omega)
      have B:=Lib.hid hbr
      clear hpl hbr
      go_wp2_with fail
      go_ret
      exact⟨rfl,B.out⟩
end
end Go.Proofs.YtaonpmclkafjdaaGreat
namespace Go.Proofs.YtaonpmclkafjdaaGreat
open Go.RowKit
set_option linter.unusedVariables false
theorem Bts.len64 {w:World}{B:Nat}{A:Option Addr}{c:Nat}{ys:List Nat}(h:Bts w B (.slice A 64 c) ys):ys.length=64:=by
  obtain⟨A',n,c',e,h1,_⟩:=h
  injection e with _ e2 _
  omega
theorem bts_only {w w1 w2:World}{v:Value}{ys:List Nat}{g:Nat}(h:Bts w1 w1.heap.size v ys)(hn:NewV w v)(hg:g < w.heap.size)(ho:Only g w1.drew w2):Bts w2 w1.heap.size v ys:=by
  obtain⟨A,n,c,e1,h1,h2,h3,h4,h5,h6⟩:=h
  refine⟨A,n,c,e1,h1,h2,h3,h4,h5,fun h0=>?_⟩
  obtain⟨b,o,e2,hb,hc⟩:=h6 h0
  refine⟨b,o,e2,hb,fun j hj=>?_⟩
  have hk:w2.heap[b]?=w1.heap[b]?:=ho.1.block b hb (fun e=>by
    injection e with e
    have:=hn ⟨b,o,none⟩ n c (by rw[e1,e2]) h0
    have t:w.heap.size≤b:=this
    omega)
  exact (heap_cell (p:=⟨b,o+j,none⟩) hk).trans (hc j hj)
theorem SpMem.diskK {w:World}{gS:Nat}{a:SpA}{k:SpK}{K:Nat→Prop}{m:SpM}(h:SpMem w gS a k K m):K a.D∧K a.D1∧K a.D2:=by
  obtain⟨κ,rfl,h⟩:=h
  have e:=(h.ok .D).2
  exact⟨⟨.D,(e _).2 (.inl rfl)⟩,⟨.D,(e _).2 (.inr (.inl rfl))⟩,⟨.D,(e _).2 (.inr (.inr rfl))⟩⟩
section
variable (gS:Nat)(a:SpA)(k:SpK)(K:Nat→Prop)(m:SpM)(w:World)
set_option maxRecDepth 100000 in
set_option maxHeartbeats 1000000 in
theorem bytes_go (f:Nat) (hf:f < 1024) (hb:m.bad f=false) (h:SpMem w gS a k K m) :
    Calls Tryz.prog 51 #[.pointer (some ⟨gS,0,none⟩),.int .i64 (f:Int)] w fun e w'=>∃ (A:Option Addr) (c:Nat),e=.returned (.tuple #[.slice A 64 c,.int .i64 0])∧Bts w' w'.heap.size (.slice A 64 c) (m.F f)∧NewV w (.slice A 64 c)∧Below w.heap.size w w':=by
  have c0:w.cell? ⟨gS,0,none⟩=some (.pointer (some ⟨a.R,0,none⟩)):=h.cells.cell 0
  have HR:=Lib.hid (show Calls Tryz.prog 94 #[.pointer (some ⟨a.R,0,none⟩),.int .i64 (f:Int),.int .i64 0,.int .i64 64] w fun e w'=>∃ gb:Nat,e=.returned (.tuple #[.slice (some ⟨gb,0,none⟩) 64 64,.int .i64 0])∧Bts w' w'.heap.size (.slice (some ⟨gb,0,none⟩) 64 64) (m.F f)∧w.heap.size≤gb∧Below w.heap.size w w' from
    (read_yes a.R a.F 1024 m.F m.bad f 0 64 w h.ramP.1 hf (Nat.le_refl _) hb).mono (by
      rintro e w2 ⟨rfl,hb2,hbel,hsz⟩
      have hl:=h.ramP.1.long (f:=f) hf
      have hw:win (m.F f) 0 64=m.F f:=by unfold win;rw[List.drop_zero,List.take_of_length_le (by omega)]
      have hbyte:=(h.ramP.1.bts (B:=a.F+1) hf (show 0+64≤64 from Nat.le_refl _) (fun _=>rfl) (Nat.lt_succ_self _)).byte
      rw[hw] at hb2 hbyte
      exact⟨_,rfl,Bts.of_whole hb2 hl (by unfold maxLen;omega) hbyte,Nat.le_refl _,hbel⟩))
  clear h hb
  go_enter Tryz.func51,Tryz.ntmps51
  go_wp2_with fail
  refine HR.out.mono ?_
  rintro e w2 ⟨gb,rfl,hbb,hg,hbel⟩
  have R:=Lib.hid (And.intro hbb (And.intro hg hbel))
  clear hbb hg hbel
  go_wp2_with fail
  go_ret2
  exact⟨_,_,rfl,R.out.1,fun a n c e _=>by injection e with e _ _;injection e with e;rw[← e];exact R.out.2.1,R.out.2.2⟩
set_option maxRecDepth 100000 in
set_option maxHeartbeats 4000000 in
theorem clean_bad (fl pg:Nat) (hfl:fl < 4) (hpg:pg < 16) (f:Nat) (hf:f < 1024) (hbad:m.bad f=false) (hd:dirtyC m.c ⟨(fl:Int),(pg:Int)⟩=true) (hc:frameC m.c ⟨(fl:Int),(pg:Int)⟩=some (f:Int)) (ht:m.T.ans≠0) (h:SpMem w gS a k K m) :
    Calls Tryz.prog 56 #[.pointer (some ⟨gS,0,none⟩),.agg #[.int .i64 (fl:Int),.int .i64 (pg:Int)]] w (SpEnd w gS a k K (.int .i64 (m.T.ans:Int)) (m.setD m.L m.T.next)):=by
  have wfl:(Lit.int .i64 (fl:Int)).wf=true:=WalkArith.wf_i64 (by omega)
  have wpg:(Lit.int .i64 (pg:Int)).wf=true:=WalkArith.wf_i64 (by omega)
  have hwk:WPlc ⟨(fl:Int),(pg:Int)⟩:=⟨wfl,wpg⟩
  obtain⟨W,hW⟩:∃ W,w.alloc (.cells #[.int .i64 (fl:Int),.int .i64 (pg:Int)] 85)=W:=⟨_,rfl⟩
  have hb:Below w.heap.size w W:=by rw[← hW];exact belAl (Below.refl _ w) _
  have bK:Blk W w.heap.size 85 #[.int .i64 (fl:Int),.int .i64 (pg:Int)]:=by rw[← hW];exact Blk.new w _ _
  have h1:=h.fresh hb
  have hK:=h.lt
  have hKn:¬ K w.heap.size:=fun hk=>Nat.lt_irrefl _ (hK _ hk)
  have c4:W.cell? ⟨gS,4,none⟩=some (.pointer (some ⟨a.C,0,none⟩)):=h1.cells.cell 4
  have x0:W.cell? ⟨w.heap.size,0,none⟩=some (.int .i64 (fl:Int)):=bK.cell 0
  have x1:W.cell? ⟨w.heap.size,1,none⟩=some (.int .i64 (pg:Int)):=bK.cell 1
  have l4:=h1.cells.lt
  have lx:=bK.lt
  have KEEP:=Lib.hid (fun (V:World) (hV:Below W.heap.size W V)=>(⟨(hV.cell (p:=⟨gS,4,none⟩) l4).trans c4,(hV.cell (p:=⟨w.heap.size,0,none⟩) lx).trans x0,(hV.cell (p:=⟨w.heap.size,1,none⟩) lx).trans x1,hV⟩:V.cell? ⟨gS,4,none⟩=some (.pointer (some ⟨a.C,0,none⟩))∧V.cell? ⟨w.heap.size,0,none⟩=some (.int .i64 (fl:Int))∧V.cell? ⟨w.heap.size,1,none⟩=some (.int .i64 (pg:Int))∧Below W.heap.size W V))
  have PB:=Lib.hid (fun (V:World) (hV:V.cell? ⟨gS,4,none⟩=some (.pointer (some ⟨a.C,0,none⟩))∧V.cell? ⟨w.heap.size,0,none⟩=some (.int .i64 (fl:Int))∧V.cell? ⟨w.heap.size,1,none⟩=some (.int .i64 (pg:Int))∧Below W.heap.size W V)=>hV.2.2.2)
  have BR:=Lib.hid (Below.refl W.heap.size W)
  have DQ:=Lib.hid (fun (V:World) (hV:Below W.heap.size W V)=>(by
    obtain⟨KC,hC,-,-⟩:=(h1.fresh hV).cacheP
    exact ((cache_dirty a.C KC m.c V ⟨(fl:Int),(pg:Int)⟩ hC hwk).mono (fun e w' h=>⟨by rw[h.1,hd],hV.trans (h.2.mono hV.size)⟩)):Calls Tryz.prog 105 #[.pointer (some ⟨a.C,0,none⟩),.agg #[.int .i64 (fl:Int),.int .i64 (pg:Int)]] V fun e w'=>e=.returned (.bool true)∧Below W.heap.size W w'))
  have FQ:=Lib.hid (fun (V:World) (hV:Below W.heap.size W V)=>(by
    obtain⟨KC,hC,-,-⟩:=(h1.fresh hV).cacheP
    exact ((cache_frame a.C KC m.c V ⟨(fl:Int),(pg:Int)⟩ hC hwk).mono (fun e w' h=>⟨by rw[h.1,hc];rfl,hV.trans (h.2.mono hV.size)⟩)):Calls Tryz.prog 55 #[.pointer (some ⟨a.C,0,none⟩),.agg #[.int .i64 (fl:Int),.int .i64 (pg:Int)]] V fun e w'=>e=.returned (.tuple #[.int .i64 (f:Int),.bool true])∧Below W.heap.size W w'))
  have YQ:=Lib.hid (fun (V:World) (hV:Below W.heap.size W V)=>bytes_go gS a k K m V f hf hbad (h1.fresh hV))
  have HS:=Lib.hid h1
  have HWW:=Lib.hid hW
  have HB:=Lib.hid hb
  have HKL:=Lib.hid hK
  have HBK:=Lib.hid bK
  have HT:=Lib.hid ht
  have HP:=Lib.hid (And.intro hfl hpg)
  have HWK:=Lib.hid hwk
  clear h h1 hb bK hK hKn c4 x0 x1 l4 lx hwk hd hc hf hbad hW ht hfl hpg wfl wpg
  go_enter Tryz.func56,Tryz.ntmps56
  go_wp2_with fail
  rw[HWW.out]
  go_region_held3 (fun w'=>w'.cell? ⟨gS,4,none⟩=some (.pointer (some ⟨a.C,0,none⟩))∧w'.cell? ⟨w.heap.size,0,none⟩=some (.int .i64 (fl:Int))∧w'.cell? ⟨w.heap.size,1,none⟩=some (.int .i64 (pg:Int))∧Below W.heap.size W w')
    (first | with_reducible assumption | with_reducible exact KEEP.out _ BR.out.drew | with_reducible exact KEEP.out _ (by with_reducible assumption) | with_reducible exact KEEP.out _ (PB.out _ (by with_reducible assumption)))
    ((go_at_call 105;refine (DQ.out _ ?_).mono ?_;(first | assumption | exact PB.out _ (by assumption) | exact BR.out.drew);rintro e w2 ⟨rfl,hb2⟩))
  have BR2:=Lib.hid hb2
  clear hb2
  have KEEP2:=Lib.hid (fun (V:World) (hV:Below w2.heap.size w2 V)=>KEEP.out V (BR2.out.trans (hV.mono BR2.out.size)))
  have BRW:=Lib.hid (Below.refl w2.heap.size w2)
  go_wp2_with fail
  go_region_held3 (fun w'=>w'.cell? ⟨gS,4,none⟩=some (.pointer (some ⟨a.C,0,none⟩))∧w'.cell? ⟨w.heap.size,0,none⟩=some (.int .i64 (fl:Int))∧w'.cell? ⟨w.heap.size,1,none⟩=some (.int .i64 (pg:Int))∧Below W.heap.size W w')
    (first | with_reducible assumption | with_reducible exact KEEP2.out _ BRW.out.drew | with_reducible exact KEEP.out _ (by with_reducible assumption) | with_reducible exact KEEP.out _ (PB.out _ (by with_reducible assumption)))
    ((go_at_call 55;refine (FQ.out _ ?_).mono ?_;(first | assumption | exact PB.out _ (by assumption) | exact PB.out _ (KEEP2.out _ BRW.out.drew));rintro e w3 ⟨rfl,hb3⟩))
  have B3:=Lib.hid hb3
  clear hb3
  go_wp2_with fail
  refine (YQ.out _ B3.out).mono ?_
  rintro e w4 ⟨A4,c4,rfl,hbt,hnw,hb4⟩
  have B4:=Lib.hid (B3.out.trans (hb4.mono B3.out.size))
  have h4:=HS.out.fresh B4.out
  have d1:w4.cell? ⟨gS,1,none⟩=some (.pointer (some ⟨a.D,0,none⟩)):=h4.cells.cell 1
  have bK4:Blk w4 w.heap.size 85 #[.int .i64 (fl:Int),.int .i64 (pg:Int)]:=HBK.out.below B4.out HBK.out.lt
  have y0:w4.cell? ⟨w.heap.size,0,none⟩=some (.int .i64 (fl:Int)):=bK4.cell 0
  have y1:w4.cell? ⟨w.heap.size,1,none⟩=some (.int .i64 (pg:Int)):=bK4.cell 1
  have nK4:¬ K w.heap.size:=fun hk=>Nat.lt_irrefl _ (HKL.out _ hk)
  obtain⟨hd4,hl4⟩:=h4.drew.diskP
  have WQ:=Lib.hid (show Calls Tryz.prog 106 #[.pointer (some ⟨a.D,0,none⟩),.int .i64 (fl:Int),.int .i64 (pg:Int),.slice A4 64 c4] w4.drew fun e w'=>e=.returned (.int .i64 (m.T.ans:Int))∧(w'.cell? ⟨gS,1,none⟩=some (.pointer (some ⟨a.D,0,none⟩))∧w'.cell? ⟨w.heap.size,0,none⟩=some (.int .i64 (fl:Int))∧w'.cell? ⟨w.heap.size,1,none⟩=some (.int .i64 (pg:Int)))∧SpGo w gS a k K (m.setD m.L m.T.next) w' from
    (fwrite_bad a.D a.D1 a.D2 192 m.S m.L m.T w4.drew A4 c4 (fl:Int) (pg:Int) (96+(16 * fl+pg)) hd4 (by unfold PageAt;have:=HP.out;omega) (by have:=HP.out;omega) HT.out).mono (by
      rintro e w5 ⟨rfl,hd5,ht5⟩
      obtain⟨K5,h5,g5⟩:=hl4 m.L m.T.next w5 hd5 ht5
      have q:=g5.tr.blk (show Blk w4.drew w.heap.size 85 #[.int .i64 (fl:Int),.int .i64 (pg:Int)] from bK4) nK4
      exact⟨rfl,⟨h5.cells.cell 1,q.cell 0,q.cell 1⟩,K5,h5,(((Went.of_below (K:=K) HB.out).below B4.out).drew).trans g5⟩))
  have S4:=Lib.hid (show w4.drew.cell? ⟨gS,1,none⟩=some (.pointer (some ⟨a.D,0,none⟩))∧w4.drew.cell? ⟨w.heap.size,0,none⟩=some (.int .i64 (fl:Int))∧w4.drew.cell? ⟨w.heap.size,1,none⟩=some (.int .i64 (pg:Int)) from ⟨d1,y0,y1⟩)
  have tz:((m.T.ans:Int) == 0)=false:=beq_eq_false_iff_ne.2 (by have:=HT.out;omega)
  obtain⟨an,han⟩:∃ an,an=m.T.ans:=⟨_,rfl⟩
  rw[← han] at WQ tz ⊢
  have HAN:=Lib.hid han
  clear hbt hnw hb4 h4 bK4 hd4 hl4 nK4 han
  go_wp2_with fail
  go_region_held3 (fun w'=>w'.cell? ⟨gS,1,none⟩=some (.pointer (some ⟨a.D,0,none⟩))∧w'.cell? ⟨w.heap.size,0,none⟩=some (.int .i64 (fl:Int))∧w'.cell? ⟨w.heap.size,1,none⟩=some (.int .i64 (pg:Int)))
    (first | with_reducible assumption | with_reducible exact S4.out)
    ((go_at_call 106;refine WQ.out.mono ?_;rintro e w5 ⟨rfl,hS5,h5⟩))
  have R:=Lib.hid h5
  clear h5 hS5
  go_wp2_with fail
  go_ret
  exact⟨by rw[← HAN.out];rfl,R.out⟩
set_option maxRecDepth 100000 in
set_option maxHeartbeats 4000000 in
theorem clean_yes (fl pg:Nat) (hfl:fl < 4) (hpg:pg < 16) (f:Nat) (hf:f < 1024) (hbad:m.bad f=false) (hd:dirtyC m.c ⟨(fl:Int),(pg:Int)⟩=true) (hc:frameC m.c ⟨(fl:Int),(pg:Int)⟩=some (f:Int)) (ht:m.T.ans=0) (h:SpMem w gS a k K m) :
    Calls Tryz.prog 56 #[.pointer (some ⟨gS,0,none⟩),.agg #[.int .i64 (fl:Int),.int .i64 (pg:Int)]] w (SpEnd w gS a k K (.int .i64 0) ((m.setD (upd m.L (96+(16 * fl+pg)) (some (m.F f))) m.T.next).setC (markC m.c ⟨(fl:Int),(pg:Int)⟩ false))):=by
  have wfl:(Lit.int .i64 (fl:Int)).wf=true:=WalkArith.wf_i64 (by omega)
  have wpg:(Lit.int .i64 (pg:Int)).wf=true:=WalkArith.wf_i64 (by omega)
  have hwk:WPlc ⟨(fl:Int),(pg:Int)⟩:=⟨wfl,wpg⟩
  obtain⟨W,hW⟩:∃ W,w.alloc (.cells #[.int .i64 (fl:Int),.int .i64 (pg:Int)] 85)=W:=⟨_,rfl⟩
  have hb:Below w.heap.size w W:=by rw[← hW];exact belAl (Below.refl _ w) _
  have bK:Blk W w.heap.size 85 #[.int .i64 (fl:Int),.int .i64 (pg:Int)]:=by rw[← hW];exact Blk.new w _ _
  have h1:=h.fresh hb
  have hK:=h.lt
  have hKn:¬ K w.heap.size:=fun hk=>Nat.lt_irrefl _ (hK _ hk)
  have c4:W.cell? ⟨gS,4,none⟩=some (.pointer (some ⟨a.C,0,none⟩)):=h1.cells.cell 4
  have x0:W.cell? ⟨w.heap.size,0,none⟩=some (.int .i64 (fl:Int)):=bK.cell 0
  have x1:W.cell? ⟨w.heap.size,1,none⟩=some (.int .i64 (pg:Int)):=bK.cell 1
  have l4:=h1.cells.lt
  have lx:=bK.lt
  have KEEP:=Lib.hid (fun (V:World) (hV:Below W.heap.size W V)=>(⟨(hV.cell (p:=⟨gS,4,none⟩) l4).trans c4,(hV.cell (p:=⟨w.heap.size,0,none⟩) lx).trans x0,(hV.cell (p:=⟨w.heap.size,1,none⟩) lx).trans x1,hV⟩:V.cell? ⟨gS,4,none⟩=some (.pointer (some ⟨a.C,0,none⟩))∧V.cell? ⟨w.heap.size,0,none⟩=some (.int .i64 (fl:Int))∧V.cell? ⟨w.heap.size,1,none⟩=some (.int .i64 (pg:Int))∧Below W.heap.size W V))
  have PB:=Lib.hid (fun (V:World) (hV:V.cell? ⟨gS,4,none⟩=some (.pointer (some ⟨a.C,0,none⟩))∧V.cell? ⟨w.heap.size,0,none⟩=some (.int .i64 (fl:Int))∧V.cell? ⟨w.heap.size,1,none⟩=some (.int .i64 (pg:Int))∧Below W.heap.size W V)=>hV.2.2.2)
  have BR:=Lib.hid (Below.refl W.heap.size W)
  have DQ:=Lib.hid (fun (V:World) (hV:Below W.heap.size W V)=>(by
    obtain⟨KC,hC,-,-⟩:=(h1.fresh hV).cacheP
    exact ((cache_dirty a.C KC m.c V ⟨(fl:Int),(pg:Int)⟩ hC hwk).mono (fun e w' h=>⟨by rw[h.1,hd],hV.trans (h.2.mono hV.size)⟩)):Calls Tryz.prog 105 #[.pointer (some ⟨a.C,0,none⟩),.agg #[.int .i64 (fl:Int),.int .i64 (pg:Int)]] V fun e w'=>e=.returned (.bool true)∧Below W.heap.size W w'))
  have FQ:=Lib.hid (fun (V:World) (hV:Below W.heap.size W V)=>(by
    obtain⟨KC,hC,-,-⟩:=(h1.fresh hV).cacheP
    exact ((cache_frame a.C KC m.c V ⟨(fl:Int),(pg:Int)⟩ hC hwk).mono (fun e w' h=>⟨by rw[h.1,hc];rfl,hV.trans (h.2.mono hV.size)⟩)):Calls Tryz.prog 55 #[.pointer (some ⟨a.C,0,none⟩),.agg #[.int .i64 (fl:Int),.int .i64 (pg:Int)]] V fun e w'=>e=.returned (.tuple #[.int .i64 (f:Int),.bool true])∧Below W.heap.size W w'))
  have YQ:=Lib.hid (fun (V:World) (hV:Below W.heap.size W V)=>bytes_go gS a k K m V f hf hbad (h1.fresh hV))
  have HS:=Lib.hid h1
  have HWW:=Lib.hid hW
  have HB:=Lib.hid hb
  have HKL:=Lib.hid hK
  have HBK:=Lib.hid bK
  have HT:=Lib.hid ht
  have HP:=Lib.hid (And.intro hfl hpg)
  have HWK:=Lib.hid hwk
  clear h h1 hb bK hK hKn c4 x0 x1 l4 lx hwk hd hc hf hbad hW ht hfl hpg wfl wpg
  go_enter Tryz.func56,Tryz.ntmps56
  go_wp2_with fail
  rw[HWW.out]
  go_region_held3 (fun w'=>w'.cell? ⟨gS,4,none⟩=some (.pointer (some ⟨a.C,0,none⟩))∧w'.cell? ⟨w.heap.size,0,none⟩=some (.int .i64 (fl:Int))∧w'.cell? ⟨w.heap.size,1,none⟩=some (.int .i64 (pg:Int))∧Below W.heap.size W w')
    (first | with_reducible assumption | with_reducible exact KEEP.out _ BR.out.drew | with_reducible exact KEEP.out _ (by with_reducible assumption) | with_reducible exact KEEP.out _ (PB.out _ (by with_reducible assumption)))
    ((go_at_call 105;refine (DQ.out _ ?_).mono ?_;(first | assumption | exact PB.out _ (by assumption) | exact BR.out.drew);rintro e w2 ⟨rfl,hb2⟩))
  have BR2:=Lib.hid hb2
  clear hb2
  have KEEP2:=Lib.hid (fun (V:World) (hV:Below w2.heap.size w2 V)=>KEEP.out V (BR2.out.trans (hV.mono BR2.out.size)))
  have BRW:=Lib.hid (Below.refl w2.heap.size w2)
  go_wp2_with fail
  go_region_held3 (fun w'=>w'.cell? ⟨gS,4,none⟩=some (.pointer (some ⟨a.C,0,none⟩))∧w'.cell? ⟨w.heap.size,0,none⟩=some (.int .i64 (fl:Int))∧w'.cell? ⟨w.heap.size,1,none⟩=some (.int .i64 (pg:Int))∧Below W.heap.size W w')
    (first | with_reducible assumption | with_reducible exact KEEP2.out _ BRW.out.drew | with_reducible exact KEEP.out _ (by with_reducible assumption) | with_reducible exact KEEP.out _ (PB.out _ (by with_reducible assumption)))
    ((go_at_call 55;refine (FQ.out _ ?_).mono ?_;(first | assumption | exact PB.out _ (by assumption) | exact PB.out _ (KEEP2.out _ BRW.out.drew));rintro e w3 ⟨rfl,hb3⟩))
  have B3:=Lib.hid hb3
  clear hb3
  go_wp2_with fail
  refine (YQ.out _ B3.out).mono ?_
  rintro e w4 ⟨A4,c4,rfl,hbt,hnw,hb4⟩
  have B4:=Lib.hid (B3.out.trans (hb4.mono B3.out.size))
  have h4:=HS.out.fresh B4.out
  have d1:w4.cell? ⟨gS,1,none⟩=some (.pointer (some ⟨a.D,0,none⟩)):=h4.cells.cell 1
  have bK4:Blk w4 w.heap.size 85 #[.int .i64 (fl:Int),.int .i64 (pg:Int)]:=HBK.out.below B4.out HBK.out.lt
  have y0:w4.cell? ⟨w.heap.size,0,none⟩=some (.int .i64 (fl:Int)):=bK4.cell 0
  have y1:w4.cell? ⟨w.heap.size,1,none⟩=some (.int .i64 (pg:Int)):=bK4.cell 1
  have nK4:¬ K w.heap.size:=fun hk=>Nat.lt_irrefl _ (HKL.out _ hk)
  obtain⟨hd4,hl4⟩:=h4.drew.diskP
  have hBW:∀ w',Only a.D w4.drew w'→∃ B,Bts w' B (.slice A4 64 c4) (m.F f)∧B≤w4.drew.heap.size:=fun w' ho=>⟨w4.heap.size,bts_only hbt hnw (by
    have:=HKL.out _ HS.out.diskK.1
    have:=HB.out.size
    have:=B3.out.size
    omega) ho,Nat.le_refl _⟩
  have WQ:=Lib.hid (show Calls Tryz.prog 106 #[.pointer (some ⟨a.D,0,none⟩),.int .i64 (fl:Int),.int .i64 (pg:Int),.slice A4 64 c4] w4.drew fun e w'=>e=.returned (.int .i64 0)∧(w'.cell? ⟨gS,1,none⟩=some (.pointer (some ⟨a.D,0,none⟩))∧w'.cell? ⟨w.heap.size,0,none⟩=some (.int .i64 (fl:Int))∧w'.cell? ⟨w.heap.size,1,none⟩=some (.int .i64 (pg:Int)))∧Blk w' w.heap.size 85 #[.int .i64 (fl:Int),.int .i64 (pg:Int)]∧∃ K5,SpMem w' gS a k K5 (m.setD (upd m.L (96+(16 * fl+pg)) (some (m.F f))) m.T.next)∧Went w K w' K5∧¬ K5 w.heap.size from
    (fwrite_yes a.D a.D1 a.D2 192 m.S m.L m.T w4.drew (.slice A4 64 c4) (m.F f) (fl:Int) (pg:Int) (96+(16 * fl+pg)) hd4 (by unfold PageAt;have:=HP.out;omega) (by have:=HP.out;omega) HT.out hBW hbt.len64).mono (by
      rintro e w5 ⟨rfl,hd5,ht5⟩
      obtain⟨K5,h5,g5⟩:=hl4 _ m.T.next w5 hd5 ht5
      have q:=g5.tr.blk (show Blk w4.drew w.heap.size 85 #[.int .i64 (fl:Int),.int .i64 (pg:Int)] from bK4) nK4
      refine⟨rfl,⟨h5.cells.cell 1,q.cell 0,q.cell 1⟩,q,K5,h5,(((Went.of_below (K:=K) HB.out).below B4.out).drew).trans g5,fun hk=>?_⟩
      rcases g5.nk _ hk with c | c
      · exact nK4 c
      · have:=bK4.lt
        have c':w4.heap.size≤w.heap.size:=c
        omega))
  have S4:=Lib.hid (show w4.drew.cell? ⟨gS,1,none⟩=some (.pointer (some ⟨a.D,0,none⟩))∧w4.drew.cell? ⟨w.heap.size,0,none⟩=some (.int .i64 (fl:Int))∧w4.drew.cell? ⟨w.heap.size,1,none⟩=some (.int .i64 (pg:Int)) from ⟨d1,y0,y1⟩)
  clear hbt hnw hb4 h4 bK4 hd4 hl4 nK4 hBW
  go_wp2_with fail
  go_region_held3 (fun w'=>w'.cell? ⟨gS,1,none⟩=some (.pointer (some ⟨a.D,0,none⟩))∧w'.cell? ⟨w.heap.size,0,none⟩=some (.int .i64 (fl:Int))∧w'.cell? ⟨w.heap.size,1,none⟩=some (.int .i64 (pg:Int)))
    (first | with_reducible assumption | with_reducible exact S4.out)
    ((go_at_call 106;refine WQ.out.mono ?_;rintro e w5 ⟨rfl,hS5,hK5,K5,h5,g5,n5⟩))
  have z4:w5.cell? ⟨gS,4,none⟩=some (.pointer (some ⟨a.C,0,none⟩)):=h5.cells.cell 4
  have z0:w5.cell? ⟨w.heap.size,0,none⟩=some (.int .i64 (fl:Int)):=hK5.cell 0
  have z1:w5.cell? ⟨w.heap.size,1,none⟩=some (.int .i64 (pg:Int)):=hK5.cell 1
  obtain⟨KC,hC,-,hlC⟩:=h5.drew.cacheP
  have MQ:=Lib.hid (show Calls Tryz.prog 42 #[.pointer (some ⟨a.C,0,none⟩),.agg #[.int .i64 (fl:Int),.int .i64 (pg:Int)],.bool false] w5.drew fun e w'=>∃ b:Bool,e=.returned (.bool b)∧(w'.cell? ⟨gS,4,none⟩=some (.pointer (some ⟨a.C,0,none⟩))∧w'.cell? ⟨w.heap.size,0,none⟩=some (.int .i64 (fl:Int))∧w'.cell? ⟨w.heap.size,1,none⟩=some (.int .i64 (pg:Int)))∧SpGo w gS a k K ((m.setD (upd m.L (96+(16 * fl+pg)) (some (m.F f))) m.T.next).setC (markC m.c ⟨(fl:Int),(pg:Int)⟩ false)) w' from
    (cache_mark a.C KC m.c w5.drew ⟨(fl:Int),(pg:Int)⟩ false hC HWK.out).mono (by
      rintro e w6 ⟨K6,rfl,h6,n6,t6⟩
      obtain⟨K7,h7,g7⟩:=hlC (markC m.c ⟨(fl:Int),(pg:Int)⟩ false) w6 K6 h6 n6 t6
      have q:=g7.tr.blk (show Blk w5.drew w.heap.size 85 #[.int .i64 (fl:Int),.int .i64 (pg:Int)] from hK5) n5
      exact⟨_,rfl,⟨h7.cells.cell 4,q.cell 0,q.cell 1⟩,K7,h7,g5.drew.trans g7⟩))
  have S5:=Lib.hid (show w5.drew.cell? ⟨gS,4,none⟩=some (.pointer (some ⟨a.C,0,none⟩))∧w5.drew.cell? ⟨w.heap.size,0,none⟩=some (.int .i64 (fl:Int))∧w5.drew.cell? ⟨w.heap.size,1,none⟩=some (.int .i64 (pg:Int)) from ⟨z4,z0,z1⟩)
  clear h5 g5 n5 hK5 hS5 hC hlC
  go_wp2_with fail
  go_region_held3 (fun w'=>w'.cell? ⟨gS,4,none⟩=some (.pointer (some ⟨a.C,0,none⟩))∧w'.cell? ⟨w.heap.size,0,none⟩=some (.int .i64 (fl:Int))∧w'.cell? ⟨w.heap.size,1,none⟩=some (.int .i64 (pg:Int)))
    (first | with_reducible assumption | with_reducible exact S5.out)
    ((go_at_call 42;refine MQ.out.mono ?_;rintro e w6 ⟨b6,rfl,hS6,h6⟩))
  have R:=Lib.hid h6
  clear h6 hS6
  go_wp2_with fail
  go_ret
  exact⟨rfl,R.out⟩
end
end Go.Proofs.YtaonpmclkafjdaaGreat
namespace Go.Proofs.YtaonpmclkafjdaaGreat
open Go.RowKit
set_option linter.unusedVariables false
theorem bts_only' {w w1 w2:World}{v:Value}{ys:List Nat}{g:Nat}(h:Bts w1 w1.heap.size v ys)(hn:NewV w v)(hg:g < w.heap.size)(ho:Only g w1 w2):Bts w2 w1.heap.size v ys:=by
  obtain⟨A,n,c,e1,h1,h2,h3,h4,h5,h6⟩:=h
  refine⟨A,n,c,e1,h1,h2,h3,h4,h5,fun h0=>?_⟩
  obtain⟨b,o,e2,hb,hc⟩:=h6 h0
  refine⟨b,o,e2,hb,fun j hj=>?_⟩
  have hk:w2.heap[b]?=w1.heap[b]?:=ho.1.block b hb (fun e=>by
    injection e with e
    have:=hn ⟨b,o,none⟩ n c (by rw[e1,e2]) h0
    have t:w.heap.size≤b:=this
    omega)
  exact (heap_cell (p:=⟨b,o+j,none⟩) hk).trans (hc j hj)
section
variable (gS:Nat)(a:SpA)(k:SpK)(K:Nat→Prop)(m:SpM)(w:World)
theorem get_at (n:Nat) (y:SpX) (pg:Nat) (x:En) (hy:m.x n=some y) (hpg:pg < 4096) (hb:NoBad m.bad) (hl:y.t.live=true) (hx:y.t.e.getD pg en0=x) (V:World) (h:SpMem V gS a k K m) :
    Calls Tryz.prog 13 #[.pointer (some ⟨k.T n,0,none⟩),.int .i64 (pg:Int)] V fun e w'=>e=.returned (.tuple #[.agg #[.int .i64 x.k,.int .i64 x.n,.bool x.w],.int .i64 0])∧Below V.heap.size V w':=by
  obtain⟨KP,KT,hM,hP,hTr,hAp,-⟩:=h.treeP hy
  refine (tree_get (k.T n) a.R a.F a.P KT m.F m.bad y.t V pg hpg hM hTr hb hl).mono ?_
  intro e w' h
  rw[hx] at h
  exact h
set_option maxRecDepth 100000 in
set_option maxHeartbeats 4000000 in
theorem out_none (n:Nat) (y:SpX) (pg:Nat) (xk xn:Int) (xw:Bool) (hx:y.t.e.getD pg en0=⟨xk,xn,xw⟩) (hk:xk≠1) (hy:m.x n=some y) (hpg:pg < 4096) (hb:NoBad m.bad) (hlv:y.t.live=true) (h:SpMem w gS a k K m) :
    Calls Tryz.prog 14 #[.pointer (some ⟨gS,0,none⟩),.int .i64 (n:Int),.int .i64 (pg:Int)] w fun e w'=>e=.returned (.int .i64 2)∧Below w.heap.size w w':=by
  have TQ:=Lib.hid (tree_go gS a k K m w n y h hy)
  have GQ:=Lib.hid (get_at gS a k K m n y pg ⟨xk,xn,xw⟩ hy hpg hb hlv hx w h)
  have t1:(xk != 1)=true:=by rw[bne_iff_ne];exact hk
  clear h hy hpg hb hlv hx hk
  go_enter Tryz.func14,Tryz.ntmps14
  go_wp2_with fail
  refine TQ.out.mono ?_
  rintro e w' ⟨rfl,hw⟩
  subst w'
  go_wp2_with fail
  refine GQ.out.mono ?_
  rintro e w2 ⟨rfl,hb2⟩
  have B2:=Lib.hid hb2
  have B3:=Lib.hid (show Below w2.heap.size w2 (w2.alloc (.cells #[.int .i64 xk,.int .i64 xn,.bool xw] 29)) from belAl (Below.refl _ _) _)
  have bx:Blk (w2.alloc (.cells #[.int .i64 xk,.int .i64 xn,.bool xw] 29)) w2.heap.size 29 #[.int .i64 xk,.int .i64 xn,.bool xw]:=Blk.new w2 _ _
  have x0:(w2.alloc (.cells #[.int .i64 xk,.int .i64 xn,.bool xw] 29)).cell? ⟨w2.heap.size,0,none⟩=some (.int .i64 xk):=bx.cell 0
  clear hb2 bx
  go_wp2_with fail
  go_quiet (fail)
  go_wp2_with fail
  go_ret
  exact⟨rfl,(B2.out.trans (B3.out.mono B2.out.size)).trans (below_drewN (Below.refl _ _) _ |>.mono (by have:=B2.out.size;have:=B3.out.size;omega))⟩
set_option maxRecDepth 100000 in
set_option maxHeartbeats 4000000 in
theorem out_yes (n:Nat) (y:SpX) (pg:Nat) (f sl:Nat) (l:List Pl) (J:Nat→SpM→Prop) (hf:f < 1024) (hx:y.t.e.getD pg en0=⟨1,(f:Int),false⟩) (hu:m.p.u.getD f 0=3) (ht:TakeIs m.s (some sl)) (hT:m.T.ans=0) (hl:m.b (f:Int)=l) (hlen:l.length≤100000)
    (hall:∀ (i:Nat) (qc qg:Int),l[i]?=some ⟨qc,qg⟩→∃ (n pg:Nat) (y:SpX),qc=(n:Int)∧qg=(pg:Int)∧m.x n=some y∧pg < 4096∧y.t.live=true∧y.t.e.getD pg en0=⟨1,(f:Int),false⟩)
    (h0:J 0 (m.setD (upd m.L (160+sl) (some (m.F f))) m.T.next))
    (hstep:∀ (i:Nat) (qc qg:Int) (m':SpM) (V:World) (K':Nat→Prop),l[i]?=some ⟨qc,qg⟩→J i m'→SpMem V gS a k K' m'→Calls Tryz.prog 104 #[.pointer (some ⟨gS,0,none⟩),.agg #[.int .i64 qc,.int .i64 qg],.agg #[.int .i64 2,.int .i64 (sl:Int),.bool false]] V fun e w'=>∃ (er:Int) (m'':SpM),J (i+1) m''∧SpEnd V gS a k K' (.int .i64 er) m'' e w')
    (hy:m.x n=some y) (hpg:pg < 4096) (hb:NoBad m.bad) (hlv:y.t.live=true) (h:SpMem w gS a k K m) :
    Calls Tryz.prog 14 #[.pointer (some ⟨gS,0,none⟩),.int .i64 (n:Int),.int .i64 (pg:Int)] w fun e w'=>∃ m',J l.length m'∧SpEnd w gS a k K (.int .i64 0) (m'.setP (freeP m'.p (f:Int)).2) e w':=by
  have TQ:=Lib.hid (tree_go gS a k K m w n y h hy)
  have GQ:=Lib.hid (get_at gS a k K m n y pg ⟨1,(f:Int),false⟩ hy hpg hb hlv hx w h)
  have c2:∀ V,Below w.heap.size w V→V.cell? ⟨gS,2,none⟩=some (.pointer (some ⟨a.P,0,none⟩)):=fun V hV=>(h.fresh hV).cells.cell 2
  have c5:∀ V,Below w.heap.size w V→V.cell? ⟨gS,5,none⟩=some (.pointer (some ⟨a.S,0,none⟩)):=fun V hV=>(h.fresh hV).cells.cell 5
  have C2:=Lib.hid c2
  have C5:=Lib.hid c5
  obtain⟨KP0,hP0,-,-⟩:=h.poolP
  have hus:useP m.p (f:Int)=3:=by
    unfold useP
    rw[if_pos ⟨by omega,by omega⟩,Int.toNat_natCast]
    exact hu
  have UQ:=Lib.hid (fun (V:World) (hV:Below w.heap.size w V)=>(by
    obtain⟨KP,hP,-,-⟩:=(h.fresh hV).poolP
    have:=pool_use_at a.P m.p f V hP.2.1
    rw[hus] at this
    exact this.mono (fun e w' h=>⟨h.1,h.2.symm⟩):Calls Tryz.prog 17 #[.pointer (some ⟨a.P,0,none⟩),.int .i64 (f:Int)] V fun e w'=>e=.returned (.int .i64 ((3:Nat):Int))∧w'=V))
  have hsl:sl < 32:=ht.1
  have TKQ:=Lib.hid (fun (V:World) (hV:Below w.heap.size w V) (ge:Nat) (hge:Blk V ge 29 #[.int .i64 1,.int .i64 (f:Int),.bool false])=>(by
    obtain⟨KS,hS,-,-⟩:=(h.fresh hV).swapP
    exact (swap_take a.S KS m.s V hS).mono (by
      rintro e w' ⟨r,rfl,hr,hb'⟩
      rw[hr.uniq ht]
      exact⟨rfl,hge.below hb' hge.lt,hV.trans (hb'.mono hV.size)⟩):Calls Tryz.prog 49 #[.pointer (some ⟨a.S,0,none⟩)] V fun e w'=>e=.returned (.tuple #[.int .i64 (sl:Int),.bool true])∧Blk w' ge 29 #[.int .i64 1,.int .i64 (f:Int),.bool false]∧Below w.heap.size w w'))
  have RQ:=Lib.hid (fun (V:World) (hV:Below w.heap.size w V)=>reached_go gS a k K m V f hf l hl hlen (h.fresh hV) hb hall)
  have YQ:=Lib.hid (fun (V:World) (hV:Below w.heap.size w V)=>bytes_go gS a k K m V f hf (hb f hf) (h.fresh hV))
  have H:=Lib.hid h
  have HT:=Lib.hid hT
  have HSL:=Lib.hid hsl
  have HE:=Lib.hid (fun (V:World) (K':Nat→Prop) (hV:SpMem V gS a k K' (m.setD (upd m.L (160+sl) (some (m.F f))) m.T.next))=>empty_go gS a k K' (m.setD (upd m.L (160+sl) (some (m.F f))) m.T.next) V J f hf 2 (sl:Int) false l hl hlen hV h0 hstep)
  clear h hy hpg hb hlv hx hf hu ht c2 c5 hP0 hus hT hl hlen hall h0 hstep hsl
  go_enter Tryz.func14,Tryz.ntmps14
  go_wp2_with fail
  refine TQ.out.mono ?_
  rintro e w' ⟨rfl,hw⟩
  subst w'
  go_wp2_with fail
  refine GQ.out.mono ?_
  rintro e w2 ⟨rfl,hb2⟩
  have B2:=Lib.hid hb2
  have b23:Below w2.heap.size w2 (w2.alloc (.cells #[.int .i64 1,.int .i64 (f:Int),.bool false] 29)):=belAl (Below.refl _ _) _
  have B3:=Lib.hid (hb2.trans (b23.mono hb2.size))
  have bx:Blk (w2.alloc (.cells #[.int .i64 1,.int .i64 (f:Int),.bool false] 29)) w2.heap.size 29 #[.int .i64 1,.int .i64 (f:Int),.bool false]:=Blk.new w2 _ _
  have x0:(w2.alloc (.cells #[.int .i64 1,.int .i64 (f:Int),.bool false] 29)).cell? ⟨w2.heap.size,0,none⟩=some (.int .i64 1):=bx.cell 0
  have x1:(w2.alloc (.cells #[.int .i64 1,.int .i64 (f:Int),.bool false] 29)).cell? ⟨w2.heap.size,1,none⟩=some (.int .i64 (f:Int)):=bx.cell 1
  have q2:(w2.alloc (.cells #[.int .i64 1,.int .i64 (f:Int),.bool false] 29)).cell? ⟨gS,2,none⟩=some (.pointer (some ⟨a.P,0,none⟩)):=C2.out _ B3.out
  have HU:=Lib.hid (fun q=>UQ.out ((w2.alloc (.cells #[.int .i64 1,.int .i64 (f:Int),.bool false] 29)).drewN q) (B3.out.trans (below_drewN (Below.refl _ _) _ |>.mono B3.out.size)))
  have BX:=Lib.hid bx
  clear hb2 bx b23
  go_wp2_with fail
  go_quiet (first | (go_at_call 17;refine (HU.out _).mono ?_;rintro e w' ⟨rfl,rfl⟩;exact⟨rfl,_,rfl⟩))
  obtain⟨W4,hW4⟩:∃ W4,W4=(w2.alloc (.cells #[.int .i64 1,.int .i64 (f:Int),.bool false] 29)).drewN nq:=⟨_,rfl⟩
  have b34:Below (w2.alloc (.cells #[.int .i64 1,.int .i64 (f:Int),.bool false] 29)).heap.size (w2.alloc (.cells #[.int .i64 1,.int .i64 (f:Int),.bool false] 29)) W4:=by rw[hW4];exact below_drewN (Below.refl _ _) _
  rw[← hW4]
  have B4:=Lib.hid (B3.out.trans (b34.mono B3.out.size))
  have BX4:=Lib.hid (BX.out.below b34 BX.out.lt)
  have q5:W4.cell? ⟨gS,5,none⟩=some (.pointer (some ⟨a.S,0,none⟩)):=C5.out _ B4.out
  have SQ:=Lib.hid (TKQ.out W4 B4.out (w2.heap.size) BX4.out)
  clear b34 hW4 x0 x1 q2
  go_wp2_with fail
  refine SQ.out.mono ?_
  rintro e w5 ⟨rfl,hbx5,hb5⟩
  have B5:=Lib.hid hb5
  have BX5:=Lib.hid hbx5
  have RC:=Lib.hid (RQ.out w5 hb5)
  have x1:w5.cell? ⟨w2.heap.size,1,none⟩=some (.int .i64 (f:Int)):=hbx5.cell 1
  clear hb5 hbx5
  go_wp2_with fail
  refine RC.out.mono ?_
  rintro e w6 ⟨rfl,hb6⟩
  have B6:=Lib.hid (B5.out.trans (hb6.mono B5.out.size))
  have BX6:=Lib.hid (BX5.out.below hb6 BX5.out.lt)
  have YC:=Lib.hid (YQ.out w6 B6.out)
  have x6:w6.cell? ⟨w2.heap.size,1,none⟩=some (.int .i64 (f:Int)):=BX6.out.cell 1
  clear hb6 x1
  go_wp2_with fail
  refine YC.out.mono ?_
  rintro e w7 ⟨A7,c7,rfl,hbt,hnw,hb7⟩
  have B7:=Lib.hid (B6.out.trans (hb7.mono B6.out.size))
  have BX7:=Lib.hid (BX6.out.below hb7 BX6.out.lt)
  have h7:=H.out.fresh B7.out
  have d1:w7.cell? ⟨gS,1,none⟩=some (.pointer (some ⟨a.D,0,none⟩)):=h7.cells.cell 1
  obtain⟨hd7,hl7⟩:=h7.diskP
  have nK7:¬ K w2.heap.size:=fun hk=>by
    have:=H.out.lt _ hk
    have:=B2.out.size
    omega
  have hBW:∀ w',Only a.D w7 w'→∃ B,Bts w' B (.slice A7 64 c7) (m.F f)∧B≤w7.heap.size:=fun w' ho=>⟨w7.heap.size,bts_only' hbt hnw (by
    have:=H.out.lt _ H.out.diskK.1
    have:=B6.out.size
    omega) ho,Nat.le_refl _⟩
  have WQ:=Lib.hid (show Calls Tryz.prog 52 #[.pointer (some ⟨a.D,0,none⟩),.int .i64 (sl:Int),.slice A7 64 c7] w7 fun e w'=>e=.returned (.int .i64 0)∧Blk w' w2.heap.size 29 #[.int .i64 1,.int .i64 (f:Int),.bool false]∧∃ K8,SpMem w' gS a k K8 (m.setD (upd m.L (160+sl) (some (m.F f))) m.T.next)∧Went w K w' K8 from
    (fwslot_yes a.D a.D1 a.D2 192 m.S m.L m.T w7 (.slice A7 64 c7) (m.F f) (sl:Int) (160+sl) hd7 (by unfold SlotAt;have:=HSL.out;omega) (by have:=HSL.out;omega) HT.out hBW hbt.len64).mono (by
      rintro e w8 ⟨rfl,hd8,ht8⟩
      obtain⟨K8,h8,g8⟩:=hl7 _ m.T.next w8 hd8 ht8
      exact⟨rfl,g8.tr.blk BX7.out nK7,K8,h8,((Went.refl w K).below B7.out).trans g8⟩))
  clear hbt hnw hb7 h7 hd7 hl7 nK7 hBW x6
  go_wp2_with fail
  refine WQ.out.mono ?_
  rintro e w8 ⟨rfl,hbx8,K8,h8,g8⟩
  have x8:w8.cell? ⟨w2.heap.size,1,none⟩=some (.int .i64 (f:Int)):=hbx8.cell 1
  have EC:=Lib.hid (HE.out w8 K8 h8)
  have G8:=Lib.hid g8
  clear hbx8 h8 g8
  go_wp2_with fail
  refine EC.out.mono ?_
  rintro e w9 ⟨m',hJ,rfl,h9⟩
  have HJ:=Lib.hid hJ
  have R:=Lib.hid (SpGo.from_ G8.out h9)
  clear hJ h9
  go_wp2_with fail
  go_ret
  exact⟨m',HJ.out,rfl,R.out⟩
end
end Go.Proofs.YtaonpmclkafjdaaGreat
namespace Go.Proofs.YtaonpmclkafjdaaGreat
open Go.RowKit
set_option linter.unusedVariables false
theorem isFile_yes (fl:Nat)(hfl:fl < 4)(w:World):Calls Tryz.prog 54 #[.int .i64 (fl:Int)] w fun e w'=>e=.returned (.bool true)∧w'=w:=by
  have t0:decide ((0:Int)≤(fl:Int))=true:=decide_eq_true (by omega)
  have t1:decide ((fl:Int) < 4)=true:=decide_eq_true (by omega)
  go_enter Tryz.func54,Tryz.ntmps54
  go_wp2_with fail
  go_ret
  exact⟨rfl,rfl⟩
section
variable (gS:Nat)(a:SpA)(k:SpK)(K:Nat→Prop)(m:SpM)(w:World)
set_option maxRecDepth 100000 in
set_option maxHeartbeats 4000000 in
theorem evdrop_none (fl pg:Nat) (hfl:fl < 4) (hpg:pg < 16) (hc:frameC m.c ⟨(fl:Int),(pg:Int)⟩=none) (h:SpMem w gS a k K m) :
    Calls Tryz.prog 15 #[.pointer (some ⟨gS,0,none⟩),.int .i64 (fl:Int),.int .i64 (pg:Int)] w fun e w'=>e=.returned (.int .i64 2)∧Below w.heap.size w w':=by
  have wfl:(Lit.int .i64 (fl:Int)).wf=true:=WalkArith.wf_i64 (by omega)
  have wpg:(Lit.int .i64 (pg:Int)).wf=true:=WalkArith.wf_i64 (by omega)
  have hwk:WPlc ⟨(fl:Int),(pg:Int)⟩:=⟨wfl,wpg⟩
  have hb:Below w.heap.size w (w.alloc (.cells #[.int .i64 (fl:Int),.int .i64 (pg:Int)] 85)):=belAl (Below.refl _ w) _
  have bK:Blk (w.alloc (.cells #[.int .i64 (fl:Int),.int .i64 (pg:Int)] 85)) w.heap.size 85 #[.int .i64 (fl:Int),.int .i64 (pg:Int)]:=Blk.new w _ _
  have h1:=h.fresh hb
  have hK:=h.lt
  have c4:(w.alloc (.cells #[.int .i64 (fl:Int),.int .i64 (pg:Int)] 85)).cell? ⟨gS,4,none⟩=some (.pointer (some ⟨a.C,0,none⟩)):=h1.cells.cell 4
  have x0:(w.alloc (.cells #[.int .i64 (fl:Int),.int .i64 (pg:Int)] 85)).cell? ⟨w.heap.size,0,none⟩=some (.int .i64 (fl:Int)):=bK.cell 0
  have x1:(w.alloc (.cells #[.int .i64 (fl:Int),.int .i64 (pg:Int)] 85)).cell? ⟨w.heap.size,1,none⟩=some (.int .i64 (pg:Int)):=bK.cell 1
  have l4:=h1.cells.lt
  have lx:=bK.lt
  have KEEP:=Lib.hid (fun (V:World) (hV:Below (w.alloc (.cells #[.int .i64 (fl:Int),.int .i64 (pg:Int)] 85)).heap.size (w.alloc (.cells #[.int .i64 (fl:Int),.int .i64 (pg:Int)] 85)) V)=>(⟨(hV.cell (p:=⟨gS,4,none⟩) l4).trans c4,(hV.cell (p:=⟨w.heap.size,0,none⟩) lx).trans x0,(hV.cell (p:=⟨w.heap.size,1,none⟩) lx).trans x1,hV⟩:V.cell? ⟨gS,4,none⟩=some (.pointer (some ⟨a.C,0,none⟩))∧V.cell? ⟨w.heap.size,0,none⟩=some (.int .i64 (fl:Int))∧V.cell? ⟨w.heap.size,1,none⟩=some (.int .i64 (pg:Int))∧Below (w.alloc (.cells #[.int .i64 (fl:Int),.int .i64 (pg:Int)] 85)).heap.size (w.alloc (.cells #[.int .i64 (fl:Int),.int .i64 (pg:Int)] 85)) V))
  have PB:=Lib.hid (fun (V:World) (hV:V.cell? ⟨gS,4,none⟩=some (.pointer (some ⟨a.C,0,none⟩))∧V.cell? ⟨w.heap.size,0,none⟩=some (.int .i64 (fl:Int))∧V.cell? ⟨w.heap.size,1,none⟩=some (.int .i64 (pg:Int))∧Below (w.alloc (.cells #[.int .i64 (fl:Int),.int .i64 (pg:Int)] 85)).heap.size (w.alloc (.cells #[.int .i64 (fl:Int),.int .i64 (pg:Int)] 85)) V)=>hV.2.2.2)
  have BR:=Lib.hid (Below.refl (w.alloc (.cells #[.int .i64 (fl:Int),.int .i64 (pg:Int)] 85)).heap.size (w.alloc (.cells #[.int .i64 (fl:Int),.int .i64 (pg:Int)] 85)))
  have FQ:=Lib.hid (fun (V:World) (hV:Below (w.alloc (.cells #[.int .i64 (fl:Int),.int .i64 (pg:Int)] 85)).heap.size (w.alloc (.cells #[.int .i64 (fl:Int),.int .i64 (pg:Int)] 85)) V)=>(by
    obtain⟨KC,hC,-,-⟩:=(h1.fresh hV).cacheP
    exact ((cache_frame a.C KC m.c V ⟨(fl:Int),(pg:Int)⟩ hC hwk).mono (fun e w' h=>⟨by rw[h.1,hc];rfl,hV.trans (h.2.mono hV.size)⟩)):Calls Tryz.prog 55 #[.pointer (some ⟨a.C,0,none⟩),.agg #[.int .i64 (fl:Int),.int .i64 (pg:Int)]] V fun e w'=>e=.returned (.tuple #[.int .i64 0,.bool false])∧Below (w.alloc (.cells #[.int .i64 (fl:Int),.int .i64 (pg:Int)] 85)).heap.size (w.alloc (.cells #[.int .i64 (fl:Int),.int .i64 (pg:Int)] 85)) w'))
  have IQ:=Lib.hid (isFile_yes fl hfl w)
  have t0:decide ((pg:Int) < 0)=false:=decide_eq_false (by omega)
  have t1:decide (16≤(pg:Int))=false:=decide_eq_false (by omega)
  have HB:=Lib.hid hb
  clear h h1 hb bK hK c4 x0 x1 l4 lx hwk hc wfl wpg hfl hpg
  go_enter Tryz.func15,Tryz.ntmps15
  go_wp2_with fail
  refine IQ.out.mono ?_
  rintro e w' ⟨rfl,hw⟩
  subst w'
  go_wp2_with fail
  go_region_held3 (fun w'=>w'.cell? ⟨gS,4,none⟩=some (.pointer (some ⟨a.C,0,none⟩))∧w'.cell? ⟨w.heap.size,0,none⟩=some (.int .i64 (fl:Int))∧w'.cell? ⟨w.heap.size,1,none⟩=some (.int .i64 (pg:Int))∧Below (w.alloc (.cells #[.int .i64 (fl:Int),.int .i64 (pg:Int)] 85)).heap.size (w.alloc (.cells #[.int .i64 (fl:Int),.int .i64 (pg:Int)] 85)) w')
    (first | with_reducible assumption | with_reducible exact KEEP.out _ BR.out.drew | with_reducible exact KEEP.out _ (by with_reducible assumption) | with_reducible exact KEEP.out _ (PB.out _ (by with_reducible assumption)))
    ((go_at_call 55;refine (FQ.out _ ?_).mono ?_;(first | assumption | exact PB.out _ (by assumption) | exact BR.out.drew);rintro e w2 ⟨rfl,hb2⟩))
  have B2:=Lib.hid (HB.out.trans (hb2.mono HB.out.size))
  clear hb2
  go_wp2_with fail
  go_ret
  exact⟨rfl,B2.out⟩
set_option maxRecDepth 100000 in
set_option maxHeartbeats 4000000 in
theorem evdrop_er (fl pg:Nat) (hfl:fl < 4) (hpg:pg < 16) (f:Nat) (l:List Pl) (m1:SpM) (er:Int) (her:er≠0) (hf:f < 1024) (hc:frameC m.c ⟨(fl:Int),(pg:Int)⟩=some (f:Int)) (hb':NoBad m.bad) (hl:m.b (f:Int)=l) (hlen:l.length≤100000)
    (hall:∀ (i:Nat) (qc qg:Int),l[i]?=some ⟨qc,qg⟩→∃ (n pg:Nat) (y:SpX),qc=(n:Int)∧qg=(pg:Int)∧m.x n=some y∧pg < 4096∧y.t.live=true∧y.t.e.getD pg en0=⟨1,(f:Int),false⟩)
    (hclean:∀ V,SpMem V gS a k K m→Calls Tryz.prog 56 #[.pointer (some ⟨gS,0,none⟩),.agg #[.int .i64 (fl:Int),.int .i64 (pg:Int)]] V (SpEnd V gS a k K (.int .i64 er) m1))
    (h:SpMem w gS a k K m) :
    Calls Tryz.prog 15 #[.pointer (some ⟨gS,0,none⟩),.int .i64 (fl:Int),.int .i64 (pg:Int)] w (SpEnd w gS a k K (.int .i64 er) m1):=by
  have wfl:(Lit.int .i64 (fl:Int)).wf=true:=WalkArith.wf_i64 (by omega)
  have wpg:(Lit.int .i64 (pg:Int)).wf=true:=WalkArith.wf_i64 (by omega)
  have hwk:WPlc ⟨(fl:Int),(pg:Int)⟩:=⟨wfl,wpg⟩
  have hb:Below w.heap.size w (w.alloc (.cells #[.int .i64 (fl:Int),.int .i64 (pg:Int)] 85)):=belAl (Below.refl _ w) _
  have bK:Blk (w.alloc (.cells #[.int .i64 (fl:Int),.int .i64 (pg:Int)] 85)) w.heap.size 85 #[.int .i64 (fl:Int),.int .i64 (pg:Int)]:=Blk.new w _ _
  have h1:=h.fresh hb
  have hK:=h.lt
  have c4:(w.alloc (.cells #[.int .i64 (fl:Int),.int .i64 (pg:Int)] 85)).cell? ⟨gS,4,none⟩=some (.pointer (some ⟨a.C,0,none⟩)):=h1.cells.cell 4
  have x0:(w.alloc (.cells #[.int .i64 (fl:Int),.int .i64 (pg:Int)] 85)).cell? ⟨w.heap.size,0,none⟩=some (.int .i64 (fl:Int)):=bK.cell 0
  have x1:(w.alloc (.cells #[.int .i64 (fl:Int),.int .i64 (pg:Int)] 85)).cell? ⟨w.heap.size,1,none⟩=some (.int .i64 (pg:Int)):=bK.cell 1
  have l4:=h1.cells.lt
  have lx:=bK.lt
  have KEEP:=Lib.hid (fun (V:World) (hV:Below (w.alloc (.cells #[.int .i64 (fl:Int),.int .i64 (pg:Int)] 85)).heap.size (w.alloc (.cells #[.int .i64 (fl:Int),.int .i64 (pg:Int)] 85)) V)=>(⟨(hV.cell (p:=⟨gS,4,none⟩) l4).trans c4,(hV.cell (p:=⟨w.heap.size,0,none⟩) lx).trans x0,(hV.cell (p:=⟨w.heap.size,1,none⟩) lx).trans x1,hV⟩:V.cell? ⟨gS,4,none⟩=some (.pointer (some ⟨a.C,0,none⟩))∧V.cell? ⟨w.heap.size,0,none⟩=some (.int .i64 (fl:Int))∧V.cell? ⟨w.heap.size,1,none⟩=some (.int .i64 (pg:Int))∧Below (w.alloc (.cells #[.int .i64 (fl:Int),.int .i64 (pg:Int)] 85)).heap.size (w.alloc (.cells #[.int .i64 (fl:Int),.int .i64 (pg:Int)] 85)) V))
  have PB:=Lib.hid (fun (V:World) (hV:V.cell? ⟨gS,4,none⟩=some (.pointer (some ⟨a.C,0,none⟩))∧V.cell? ⟨w.heap.size,0,none⟩=some (.int .i64 (fl:Int))∧V.cell? ⟨w.heap.size,1,none⟩=some (.int .i64 (pg:Int))∧Below (w.alloc (.cells #[.int .i64 (fl:Int),.int .i64 (pg:Int)] 85)).heap.size (w.alloc (.cells #[.int .i64 (fl:Int),.int .i64 (pg:Int)] 85)) V)=>hV.2.2.2)
  have BR:=Lib.hid (Below.refl (w.alloc (.cells #[.int .i64 (fl:Int),.int .i64 (pg:Int)] 85)).heap.size (w.alloc (.cells #[.int .i64 (fl:Int),.int .i64 (pg:Int)] 85)))
  have FQ:=Lib.hid (fun (V:World) (hV:Below (w.alloc (.cells #[.int .i64 (fl:Int),.int .i64 (pg:Int)] 85)).heap.size (w.alloc (.cells #[.int .i64 (fl:Int),.int .i64 (pg:Int)] 85)) V)=>(by
    obtain⟨KC,hC,-,-⟩:=(h1.fresh hV).cacheP
    exact ((cache_frame a.C KC m.c V ⟨(fl:Int),(pg:Int)⟩ hC hwk).mono (fun e w' h=>⟨by rw[h.1,hc];rfl,hV.trans (h.2.mono hV.size)⟩)):Calls Tryz.prog 55 #[.pointer (some ⟨a.C,0,none⟩),.agg #[.int .i64 (fl:Int),.int .i64 (pg:Int)]] V fun e w'=>e=.returned (.tuple #[.int .i64 (f:Int),.bool true])∧Below (w.alloc (.cells #[.int .i64 (fl:Int),.int .i64 (pg:Int)] 85)).heap.size (w.alloc (.cells #[.int .i64 (fl:Int),.int .i64 (pg:Int)] 85)) w'))
  have IQ:=Lib.hid (isFile_yes fl hfl w)
  have t0:decide ((pg:Int) < 0)=false:=decide_eq_false (by omega)
  have t1:decide (16≤(pg:Int))=false:=decide_eq_false (by omega)
  have HB:=Lib.hid hb
  have RQ:=Lib.hid (fun (V:World) (hV:Below (w.alloc (.cells #[.int .i64 (fl:Int),.int .i64 (pg:Int)] 85)).heap.size (w.alloc (.cells #[.int .i64 (fl:Int),.int .i64 (pg:Int)] 85)) V)=>reached_go gS a k K m V f hf l hl hlen (h1.fresh hV) hb' hall)
  have CQ:=Lib.hid (fun (V:World) (hV:Below (w.alloc (.cells #[.int .i64 (fl:Int),.int .i64 (pg:Int)] 85)).heap.size (w.alloc (.cells #[.int .i64 (fl:Int),.int .i64 (pg:Int)] 85)) V)=>hclean V (h1.fresh hV))
  have HBK:=Lib.hid bK
  have HNK:=Lib.hid (show ¬ K w.heap.size from fun hk=>Nat.lt_irrefl _ (hK _ hk))
  have tz:(er != 0)=true:=by rw[bne_iff_ne];exact her
  clear h h1 hb bK hK c4 x0 x1 l4 lx hwk hc wfl wpg hfl hpg hf hb' hl hlen hall hclean her
  go_enter Tryz.func15,Tryz.ntmps15
  go_wp2_with fail
  refine IQ.out.mono ?_
  rintro e w' ⟨rfl,hw⟩
  subst w'
  go_wp2_with fail
  go_region_held3 (fun w'=>w'.cell? ⟨gS,4,none⟩=some (.pointer (some ⟨a.C,0,none⟩))∧w'.cell? ⟨w.heap.size,0,none⟩=some (.int .i64 (fl:Int))∧w'.cell? ⟨w.heap.size,1,none⟩=some (.int .i64 (pg:Int))∧Below (w.alloc (.cells #[.int .i64 (fl:Int),.int .i64 (pg:Int)] 85)).heap.size (w.alloc (.cells #[.int .i64 (fl:Int),.int .i64 (pg:Int)] 85)) w')
    (first | with_reducible assumption | with_reducible exact KEEP.out _ BR.out.drew | with_reducible exact KEEP.out _ (by with_reducible assumption) | with_reducible exact KEEP.out _ (PB.out _ (by with_reducible assumption)))
    ((go_at_call 55;refine (FQ.out _ ?_).mono ?_;(first | assumption | exact PB.out _ (by assumption) | exact BR.out.drew);rintro e w2 ⟨rfl,hb2⟩))
  have B2:=Lib.hid hb2
  have RC:=Lib.hid (RQ.out w2 hb2)
  clear hb2
  go_wp2_with fail
  refine RC.out.mono ?_
  rintro e w3 ⟨rfl,hb3⟩
  have b3:=B2.out.trans (hb3.mono B2.out.size)
  have B3:=Lib.hid b3
  have CC:=Lib.hid (CQ.out w3 b3)
  have bK3:=HBK.out.below b3 HBK.out.lt
  have y0:w3.cell? ⟨w.heap.size,0,none⟩=some (.int .i64 (fl:Int)):=bK3.cell 0
  have y1:w3.cell? ⟨w.heap.size,1,none⟩=some (.int .i64 (pg:Int)):=bK3.cell 1
  have BK3:=Lib.hid bK3
  clear hb3 b3 bK3
  go_wp2_with fail
  refine CC.out.mono ?_
  rintro e w4 ⟨rfl,K4,h4,g4⟩
  have R:=Lib.hid (show SpGo w gS a k K m1 w4 from ⟨K4,h4,(((Went.refl w K).below HB.out).below B3.out).trans g4⟩)
  clear h4 g4
  go_wp2_with fail
  go_ret
  exact⟨rfl,R.out⟩
set_option maxRecDepth 100000 in
set_option maxHeartbeats 4000000 in
theorem evdrop_yes (fl pg:Nat) (hfl:fl < 4) (hpg:pg < 16) (f:Nat) (l:List Pl) (m1:SpM) (J:Nat→SpM→Prop) (hf:f < 1024) (hc:frameC m.c ⟨(fl:Int),(pg:Int)⟩=some (f:Int)) (hb':NoBad m.bad) (hl:m.b (f:Int)=l) (hlen:l.length≤100000)
    (hall:∀ (i:Nat) (qc qg:Int),l[i]?=some ⟨qc,qg⟩→∃ (n pg:Nat) (y:SpX),qc=(n:Int)∧qg=(pg:Int)∧m.x n=some y∧pg < 4096∧y.t.live=true∧y.t.e.getD pg en0=⟨1,(f:Int),false⟩)
    (hclean:∀ V,SpMem V gS a k K m→Calls Tryz.prog 56 #[.pointer (some ⟨gS,0,none⟩),.agg #[.int .i64 (fl:Int),.int .i64 (pg:Int)]] V (SpEnd V gS a k K (.int .i64 0) m1))
    (hb1:m1.b=m.b) (h0:J 0 (m1.setC (dropC m1.c ⟨(fl:Int),(pg:Int)⟩)))
    (hstep:∀ (i:Nat) (qc qg:Int) (m':SpM) (V:World) (K':Nat→Prop),l[i]?=some ⟨qc,qg⟩→J i m'→SpMem V gS a k K' m'→Calls Tryz.prog 104 #[.pointer (some ⟨gS,0,none⟩),.agg #[.int .i64 qc,.int .i64 qg],.agg #[.int .i64 0,.int .i64 0,.bool false]] V fun e w'=>∃ (er:Int) (m'':SpM),J (i+1) m''∧SpEnd V gS a k K' (.int .i64 er) m'' e w')
    (h:SpMem w gS a k K m) :
    Calls Tryz.prog 15 #[.pointer (some ⟨gS,0,none⟩),.int .i64 (fl:Int),.int .i64 (pg:Int)] w fun e w'=>∃ m',J l.length m'∧SpEnd w gS a k K (.int .i64 0) (m'.setP (freeP m'.p (f:Int)).2) e w':=by
  have wfl:(Lit.int .i64 (fl:Int)).wf=true:=WalkArith.wf_i64 (by omega)
  have wpg:(Lit.int .i64 (pg:Int)).wf=true:=WalkArith.wf_i64 (by omega)
  have hwk:WPlc ⟨(fl:Int),(pg:Int)⟩:=⟨wfl,wpg⟩
  have hb:Below w.heap.size w (w.alloc (.cells #[.int .i64 (fl:Int),.int .i64 (pg:Int)] 85)):=belAl (Below.refl _ w) _
  have bK:Blk (w.alloc (.cells #[.int .i64 (fl:Int),.int .i64 (pg:Int)] 85)) w.heap.size 85 #[.int .i64 (fl:Int),.int .i64 (pg:Int)]:=Blk.new w _ _
  have h1:=h.fresh hb
  have hK:=h.lt
  have c4:(w.alloc (.cells #[.int .i64 (fl:Int),.int .i64 (pg:Int)] 85)).cell? ⟨gS,4,none⟩=some (.pointer (some ⟨a.C,0,none⟩)):=h1.cells.cell 4
  have x0:(w.alloc (.cells #[.int .i64 (fl:Int),.int .i64 (pg:Int)] 85)).cell? ⟨w.heap.size,0,none⟩=some (.int .i64 (fl:Int)):=bK.cell 0
  have x1:(w.alloc (.cells #[.int .i64 (fl:Int),.int .i64 (pg:Int)] 85)).cell? ⟨w.heap.size,1,none⟩=some (.int .i64 (pg:Int)):=bK.cell 1
  have l4:=h1.cells.lt
  have lx:=bK.lt
  have KEEP:=Lib.hid (fun (V:World) (hV:Below (w.alloc (.cells #[.int .i64 (fl:Int),.int .i64 (pg:Int)] 85)).heap.size (w.alloc (.cells #[.int .i64 (fl:Int),.int .i64 (pg:Int)] 85)) V)=>(⟨(hV.cell (p:=⟨gS,4,none⟩) l4).trans c4,(hV.cell (p:=⟨w.heap.size,0,none⟩) lx).trans x0,(hV.cell (p:=⟨w.heap.size,1,none⟩) lx).trans x1,hV⟩:V.cell? ⟨gS,4,none⟩=some (.pointer (some ⟨a.C,0,none⟩))∧V.cell? ⟨w.heap.size,0,none⟩=some (.int .i64 (fl:Int))∧V.cell? ⟨w.heap.size,1,none⟩=some (.int .i64 (pg:Int))∧Below (w.alloc (.cells #[.int .i64 (fl:Int),.int .i64 (pg:Int)] 85)).heap.size (w.alloc (.cells #[.int .i64 (fl:Int),.int .i64 (pg:Int)] 85)) V))
  have PB:=Lib.hid (fun (V:World) (hV:V.cell? ⟨gS,4,none⟩=some (.pointer (some ⟨a.C,0,none⟩))∧V.cell? ⟨w.heap.size,0,none⟩=some (.int .i64 (fl:Int))∧V.cell? ⟨w.heap.size,1,none⟩=some (.int .i64 (pg:Int))∧Below (w.alloc (.cells #[.int .i64 (fl:Int),.int .i64 (pg:Int)] 85)).heap.size (w.alloc (.cells #[.int .i64 (fl:Int),.int .i64 (pg:Int)] 85)) V)=>hV.2.2.2)
  have BR:=Lib.hid (Below.refl (w.alloc (.cells #[.int .i64 (fl:Int),.int .i64 (pg:Int)] 85)).heap.size (w.alloc (.cells #[.int .i64 (fl:Int),.int .i64 (pg:Int)] 85)))
  have FQ:=Lib.hid (fun (V:World) (hV:Below (w.alloc (.cells #[.int .i64 (fl:Int),.int .i64 (pg:Int)] 85)).heap.size (w.alloc (.cells #[.int .i64 (fl:Int),.int .i64 (pg:Int)] 85)) V)=>(by
    obtain⟨KC,hC,-,-⟩:=(h1.fresh hV).cacheP
    exact ((cache_frame a.C KC m.c V ⟨(fl:Int),(pg:Int)⟩ hC hwk).mono (fun e w' h=>⟨by rw[h.1,hc];rfl,hV.trans (h.2.mono hV.size)⟩)):Calls Tryz.prog 55 #[.pointer (some ⟨a.C,0,none⟩),.agg #[.int .i64 (fl:Int),.int .i64 (pg:Int)]] V fun e w'=>e=.returned (.tuple #[.int .i64 (f:Int),.bool true])∧Below (w.alloc (.cells #[.int .i64 (fl:Int),.int .i64 (pg:Int)] 85)).heap.size (w.alloc (.cells #[.int .i64 (fl:Int),.int .i64 (pg:Int)] 85)) w'))
  have IQ:=Lib.hid (isFile_yes fl hfl w)
  have t0:decide ((pg:Int) < 0)=false:=decide_eq_false (by omega)
  have t1:decide (16≤(pg:Int))=false:=decide_eq_false (by omega)
  have HB:=Lib.hid hb
  have RQ:=Lib.hid (fun (V:World) (hV:Below (w.alloc (.cells #[.int .i64 (fl:Int),.int .i64 (pg:Int)] 85)).heap.size (w.alloc (.cells #[.int .i64 (fl:Int),.int .i64 (pg:Int)] 85)) V)=>reached_go gS a k K m V f hf l hl hlen (h1.fresh hV) hb' hall)
  have CQ:=Lib.hid (fun (V:World) (hV:Below (w.alloc (.cells #[.int .i64 (fl:Int),.int .i64 (pg:Int)] 85)).heap.size (w.alloc (.cells #[.int .i64 (fl:Int),.int .i64 (pg:Int)] 85)) V)=>hclean V (h1.fresh hV))
  have HBK:=Lib.hid bK
  have HNK:=Lib.hid (show ¬ K w.heap.size from fun hk=>Nat.lt_irrefl _ (hK _ hk))
  have HE:=Lib.hid (fun (V:World) (K':Nat→Prop) (hV:SpMem V gS a k K' (m1.setC (dropC m1.c ⟨(fl:Int),(pg:Int)⟩)))=>empty_go gS a k K' (m1.setC (dropC m1.c ⟨(fl:Int),(pg:Int)⟩)) V J f hf 0 0 false l (show m1.b (f:Int)=l by rw[hb1];exact hl) hlen hV h0 hstep)
  have HWK:=Lib.hid hwk
  clear h h1 hb bK hK c4 x0 x1 l4 lx hwk hc wfl wpg hfl hpg hf hb' hl hlen hall hclean hb1 h0 hstep
  go_enter Tryz.func15,Tryz.ntmps15
  go_wp2_with fail
  refine IQ.out.mono ?_
  rintro e w' ⟨rfl,hw⟩
  subst w'
  go_wp2_with fail
  go_region_held3 (fun w'=>w'.cell? ⟨gS,4,none⟩=some (.pointer (some ⟨a.C,0,none⟩))∧w'.cell? ⟨w.heap.size,0,none⟩=some (.int .i64 (fl:Int))∧w'.cell? ⟨w.heap.size,1,none⟩=some (.int .i64 (pg:Int))∧Below (w.alloc (.cells #[.int .i64 (fl:Int),.int .i64 (pg:Int)] 85)).heap.size (w.alloc (.cells #[.int .i64 (fl:Int),.int .i64 (pg:Int)] 85)) w')
    (first | with_reducible assumption | with_reducible exact KEEP.out _ BR.out.drew | with_reducible exact KEEP.out _ (by with_reducible assumption) | with_reducible exact KEEP.out _ (PB.out _ (by with_reducible assumption)))
    ((go_at_call 55;refine (FQ.out _ ?_).mono ?_;(first | assumption | exact PB.out _ (by assumption) | exact BR.out.drew);rintro e w2 ⟨rfl,hb2⟩))
  have B2:=Lib.hid hb2
  have RC:=Lib.hid (RQ.out w2 hb2)
  clear hb2
  go_wp2_with fail
  refine RC.out.mono ?_
  rintro e w3 ⟨rfl,hb3⟩
  have b3:=B2.out.trans (hb3.mono B2.out.size)
  have B3:=Lib.hid b3
  have CC:=Lib.hid (CQ.out w3 b3)
  have bK3:=HBK.out.below b3 HBK.out.lt
  have y0:w3.cell? ⟨w.heap.size,0,none⟩=some (.int .i64 (fl:Int)):=bK3.cell 0
  have y1:w3.cell? ⟨w.heap.size,1,none⟩=some (.int .i64 (pg:Int)):=bK3.cell 1
  have BK3:=Lib.hid bK3
  clear hb3 b3 bK3
  go_wp2_with fail
  refine CC.out.mono ?_
  rintro e w4 ⟨rfl,K4,h4,g4⟩
  have n4:¬ K4 w.heap.size:=fun hk=>by
    rcases g4.nk _ hk with c | c
    · exact HNK.out c
    · have:=BK3.out.lt
      omega
  have bK4:=g4.tr.blk BK3.out HNK.out
  have z4:w4.cell? ⟨gS,4,none⟩=some (.pointer (some ⟨a.C,0,none⟩)):=h4.cells.cell 4
  have z0:w4.cell? ⟨w.heap.size,0,none⟩=some (.int .i64 (fl:Int)):=bK4.cell 0
  have z1:w4.cell? ⟨w.heap.size,1,none⟩=some (.int .i64 (pg:Int)):=bK4.cell 1
  obtain⟨KC,hC,-,hlC⟩:=h4.drew.cacheP
  have MQ:=Lib.hid (show Calls Tryz.prog 57 #[.pointer (some ⟨a.C,0,none⟩),.agg #[.int .i64 (fl:Int),.int .i64 (pg:Int)]] w4.drew fun e w'=>∃ b:Bool,e=.returned (.bool b)∧(w'.cell? ⟨gS,4,none⟩=some (.pointer (some ⟨a.C,0,none⟩))∧w'.cell? ⟨w.heap.size,0,none⟩=some (.int .i64 (fl:Int))∧w'.cell? ⟨w.heap.size,1,none⟩=some (.int .i64 (pg:Int)))∧∃ K5,SpMem w' gS a k K5 (m1.setC (dropC m1.c ⟨(fl:Int),(pg:Int)⟩))∧Went w K w' K5 from
    (cache_drop a.C KC m1.c w4.drew ⟨(fl:Int),(pg:Int)⟩ hC HWK.out).mono (by
      rintro e w6 ⟨K6,rfl,h6,n6,t6⟩
      obtain⟨K7,h7,g7⟩:=hlC (dropC m1.c ⟨(fl:Int),(pg:Int)⟩) w6 K6 h6 n6 t6
      have q:=g7.tr.blk (show Blk w4.drew w.heap.size 85 #[.int .i64 (fl:Int),.int .i64 (pg:Int)] from bK4) n4
      exact⟨_,rfl,⟨h7.cells.cell 4,q.cell 0,q.cell 1⟩,K7,h7,((((Went.refl w K).below HB.out).below B3.out).trans g4).drew.trans g7⟩))
  have S5:=Lib.hid (show w4.drew.cell? ⟨gS,4,none⟩=some (.pointer (some ⟨a.C,0,none⟩))∧w4.drew.cell? ⟨w.heap.size,0,none⟩=some (.int .i64 (fl:Int))∧w4.drew.cell? ⟨w.heap.size,1,none⟩=some (.int .i64 (pg:Int)) from ⟨z4,z0,z1⟩)
  clear h4 g4 n4 bK4 hC hlC y0 y1
  go_wp2_with fail
  go_region_held3 (fun w'=>w'.cell? ⟨gS,4,none⟩=some (.pointer (some ⟨a.C,0,none⟩))∧w'.cell? ⟨w.heap.size,0,none⟩=some (.int .i64 (fl:Int))∧w'.cell? ⟨w.heap.size,1,none⟩=some (.int .i64 (pg:Int)))
    (first | with_reducible assumption | with_reducible exact S5.out)
    ((go_at_call 57;refine MQ.out.mono ?_;rintro e w6 ⟨b6,rfl,hS6,K6,h6,g6⟩))
  have EC:=Lib.hid (HE.out w6 K6 h6)
  have G6:=Lib.hid g6
  clear h6 g6 hS6
  go_wp2_with fail
  refine EC.out.mono ?_
  rintro e w9 ⟨m',hJ,rfl,h9⟩
  have HJ:=Lib.hid hJ
  have R:=Lib.hid (SpGo.from_ G6.out h9)
  clear hJ h9
  go_wp2_with fail
  go_ret
  exact⟨m',HJ.out,rfl,R.out⟩
end
end Go.Proofs.YtaonpmclkafjdaaGreat
namespace Go.Proofs.YtaonpmclkafjdaaGreat
open Go.RowKit
set_option linter.unusedVariables false
def SpM.setDS (m:SpM)(S:Nat→List Nat)(L:Nat→Option (List Nat))(T:Tr):SpM:=⟨m.F,m.bad,S,L,T,m.p,m.b,m.c,m.s,m.x⟩
section
variable (gS:Nat)(a:SpA)(k:SpK)(K:Nat→Prop)(m:SpM)(w:World)
end
end Go.Proofs.YtaonpmclkafjdaaGreat
namespace Go.Proofs.YtaonpmclkafjdaaGreat
open Go.RowKit
set_option linter.unusedVariables false
structure LeftR (m:SpM)(f:Nat)(x:En)(m':SpM):Prop where
  ents:∀ n q,entM m' n q=if entM m n q=⟨1,(f:Int),false⟩ then x else entM m n q
  uf:m'.p.u.getD f 0=1
  u3:∀ g,g < 1024→g≠f→m.p.z.getD (g / 32) 0=3→m'.p.u.getD g 0=m.p.u.getD g 0
  z:m'.p.z=m.p.z
  i:m'.p.i=m.p.i
  bad:m'.bad=m.bad
  zo:Zo m→Zo m'
  lk:∀ g,g < 1024→Leak m' g→Leak m g
theorem hall_of {A:Nat→Nat→Option Ar} {m:SpM} (hi:Inv A m) (f:Nat) (i:Nat) (qc qg:Int) (h:(m.b (f:Int))[i]?=some ⟨qc,qg⟩) :
    ∃ (n pg:Nat) (y:SpX),qc=(n:Int)∧qg=(pg:Int)∧m.x n=some y∧pg < 4096∧y.t.live=true∧y.t.e.getD pg en0=⟨1,(f:Int),false⟩:=by
  obtain⟨n,pg,e,he⟩:=(hi.back _ _).1 (List.mem_of_getElem? h)
  injection e with e1 e2
  obtain⟨_,h2,y,hy⟩:=hi.at_ he
  exact⟨n,pg,y,e1,e2,hy,h2,hi.tabs.live n y hy,by rw[← entM_some hy];exact he⟩
theorem back_len {A:Nat→Nat→Option Ar}{m:SpM}(hi:Inv A m)(f:Int):(m.b f).length≤100000:=hi.few.b f
theorem u_len {m:SpM}{w:World}{gS:Nat}{a:SpA}{k:SpK}{K:Nat→Prop}(h:SpMem w gS a k K m):m.p.u.length=1024:=by
  obtain⟨Ki,hP,-,-⟩:=h.poolP
  exact hP.ok.u
section
variable {m M1:SpM}{f:Nat}{x:En}{W:UW}{nr mv u:Nat}
theorem left_of (hi:Inv (arM m) m) (hf:f < 1024) (hu:m.p.u.getD f 0=3∨m.p.u.getD f 0=4) (hl:M1.p.u.length=1024) (hJ:OutJ m f x (m.b (f:Int)) (m.b (f:Int)).length M1) (hx:∀ g:Int,x≠⟨1,g,false⟩) :
    (∀ n q,entM M1 n q=if entM m n q=⟨1,(f:Int),false⟩ then x else entM m n q)∧(M1.p.u.getD f 0=3∨M1.p.u.getD f 0=4∨M1.p.u.getD f 0=1)∧(∀ n q,entM M1 n q≠⟨1,(f:Int),false⟩)∧(freeP M1.p f).2.u.getD f 0=1:=by
  have he:=hJ.ents fun n q e=>(hi.back _ _).2 ⟨n,q,rfl,e⟩
  have hu1:M1.p.u.getD f 0=3∨M1.p.u.getD f 0=4∨M1.p.u.getD f 0=1:=by
    rcases hJ.fr with c | ⟨_,c,_⟩
    · rw[c]
      exact hu.imp id .inl
    · exact .inr (.inr c)
  refine⟨he,hu1,fun n q e=>?_,freeP_u (by omega) hf hu1⟩
  rw[he] at e
  split at e
  · exact hx _ e
  · rename_i c
    exact c e
theorem left_R (hi:Inv (arM m) m) (hf:f < 1024) (hu:m.p.u.getD f 0=3∨m.p.u.getD f 0=4) (hl:M1.p.u.length=1024) (hJ:OutJ m f x (m.b (f:Int)) (m.b (f:Int)).length M1) (hx:∀ g:Int,x≠⟨1,g,false⟩) (M2:SpM)
    (hp:M2.p=(freeP M1.p f).2) (hxx:M2.x=M1.x) (hb:M2.b=M1.b) (hbad:M2.bad=M1.bad) (hc:∀ e,e∈M2.c→e∈M1.c) (hcf:∀ e,e∈M1.c→e∈M2.c∨e.f=(f:Int)):LeftR m f x M2:=by
  obtain⟨h1,h2,h3,h4⟩:=left_of hi hf hu hl hJ hx
  have hz:=freeP_zi M1.p (f:Int)
  have he2:∀ n q,entM M2 n q=entM M1 n q:=fun n q=>entM_congr hxx n q
  refine⟨fun n q=>(he2 n q).trans (h1 n q),by rw[hp];exact h4,fun g hg hgf hz3=>?_,by rw[hp,hz.1];exact hJ.cost.kp.z,by rw[hp,hz.2];exact hJ.cost.kp.i,hbad.trans hJ.cost.kp.bad,fun z=>⟨fun n q g e=>?_,fun e he g eg=>?_⟩,fun g hg l=>?_⟩
  · rw[hp,freeP_other hgf]
    exact hJ.u3 g hg hgf hz3
  · rw[hp,hz.1]
    rw[he2] at e
    exact (hJ.cost.kp.zo z).all n q g e
  · rw[hp,hz.1]
    exact (hJ.cost.kp.zo z).cac e (hc e he) g eg
  · have hgf:g≠f:=by
      rintro rfl
      have:M2.p.u.getD g 0=1:=by rw[hp];exact h4
      rcases l with l | l | l <;> omega
    refine hJ.cost.kp.lk g hg ?_
    have e1:M2.p.u.getD g 0=M1.p.u.getD g 0:=by rw[hp,freeP_other hgf]
    unfold Leak at l ⊢
    rw[e1,hb,hxx] at l
    refine l.imp id fun l=>l.imp (fun l=>⟨l.1,fun e he ef=>?_⟩) id
    rcases hcf e he with c | c
    · exact l.2 e c ef
    · rw[c] at ef
      exact hgf (by omega)
end
section
variable (gS:Nat)(a:SpA)(k:SpK)(K:Nat→Prop)(m:SpM)(w:World)(W:UW)(nr mv u:Nat)
set_option maxRecDepth 100000 in
theorem out_ok (n pg f sl:Nat) (h:SpMem w gS a k K m) (ho:SpOk m W nr mv u) (h3:3≤nr) (he:entM m n pg=⟨1,(f:Int),false⟩) (hu:m.p.u.getD f 0=3) (ht:TakeIs m.s (some sl)) :
    Calls Tryz.prog 14 #[.pointer (some ⟨gS,0,none⟩),.int .i64 (n:Int),.int .i64 (pg:Int)] w fun e w'=>∃ m',SpEnd w gS a k K (.int .i64 0) m' e w'∧SpOk m' W nr mv u∧LeftR m f ⟨2,(sl:Int),false⟩ m'∧m'.c=m.c∧m'.S=m.S∧(∀ s,s≠160+sl→last m'.S m'.L s=last m.S m.L s)∧∀ s,s≠160+sl→m'.L s=m.L s:=by
  have hi:=ho.inv
  obtain⟨hf,r,hr,hgk⟩:=hi.ent_lt he
  obtain⟨_,hpg,y,hy⟩:=hi.at_ he
  have hsl:sl < 32:=ht.1
  have hse:m.s sl=[]:=ht.2.1
  have hnx:m.T.next=m.T:=by rw[hi.tr];rfl
  obtain⟨L1,hL1⟩:∃ L1,L1=upd m.L (160+sl) (some (m.F f)):=⟨_,rfl⟩
  obtain⟨m1,hm1⟩:∃ m1:SpM,m1=⟨m.F,m.bad,m.S,L1,m.T,m.p,m.b,m.c,m.s,m.x⟩:=⟨_,rfl⟩
  have e1:m.setD (upd m.L (160+sl) (some (m.F f))) m.T.next=m1:=by rw[hm1,hL1,hnx];rfl
  have hLs:∀ s,s≠160+sl→last m.S L1 s=last m.S m.L s:=by
    intro s hs
    unfold last
    rw[hL1,upd_other _ _ _ hs]
  have hLL:last m.S L1 (160+sl)=m.F f:=by
    unfold last
    rw[hL1,upd_same]
    rfl
  have hi1:Inv (arM m1) m1:=by rw[hm1];exact hi.disk m.S L1
  have he1:∀ n q,entM m1 n q=entM m n q:=fun n q=>entM_congr (by rw[hm1]) n q
  have hb1:m1.b=m.b:=by rw[hm1]
  have hp1:m1.p=m.p:=by rw[hm1]
  have hF1:m1.F=m.F:=by rw[hm1]
  have ho3:=ho.nr
  refine (out_yes gS a k K m w n y pg f sl (m.b (f:Int)) (fun i m'=>OutJ m1 f ⟨2,(sl:Int),false⟩ (m1.b (f:Int)) i m') hf (by rw[← entM_some hy];exact he) hu ht (by rw[hi.tr];rfl) rfl (back_len hi _) (hall_of hi f) (by rw[e1];exact OutJ.start hi1) ?_ hy hpg hi.tabs.bad (hi.tabs.live n y hy) h).mono ?_
  · intro i qc qg m' V K' hl hJ hV
    rw[← hb1] at hl
    obtain⟨n',q',z0,rfl,rfl,hz0,hq,_,he'⟩:=hall_of hi1 f i qc qg hl
    have hee:entM m1 n' q'=⟨1,(f:Int),false⟩:=by rw[entM_some hz0];exact he'
    have:=hJ.xs n'
    rw[hz0,Option.map_some] at this
    obtain⟨z,hz,_⟩:=Option.map_eq_some_iff.1 this
    have hc2:=hJ.cost.c2
    rw[hp1] at hc2
    have hnd:∀ j,j < i→(m1.b (f:Int))[j]?≠some ⟨(n':Int),(q':Int)⟩:=by
      intro j hj e
      obtain⟨h1,e1⟩:=List.getElem?_eq_some_iff.1 hl
      obtain⟨h2,e2⟩:=List.getElem?_eq_some_iff.1 e
      have:=List.pairwise_iff_getElem.1 (hi1.srt (f:Int)) j i h2 h1 hj
      rw[e1,e2] at this
      exact ltP.irr _ this
    refine (put_ok gS a k K' m' V n' z q' ⟨2,(sl:Int),false⟩ hV hz hq hJ.inv.tabs hJ.inv.few (.inr (.inl ⟨rfl,by show (0:Int)≤(sl:Int);omega,by show (sl:Int) < 32;omega,rfl⟩)) (by omega)).mono ?_
    rintro e w' ⟨F',p',t',hd,hE⟩
    exact⟨0,_,hJ.step hi1 (.inr ⟨sl,hsl,rfl,by rw[hp1];exact hu⟩) hl hz hq hee hnd hd,hE⟩
  · rintro e w' ⟨m2,hJ,hE⟩
    rw[← hb1] at hJ
    have hsp:∃ w2 K2,SpMem w2 gS a k K2 (m2.setP (freeP m2.p (f:Int)).2):=by
      obtain⟨_,K',h1,_⟩:=hE
      exact⟨_,K',h1⟩
    have hlen:m2.p.u.length=1024:=by
      obtain⟨w2,K2,h1⟩:=hsp
      have:=u_len h1
      have e2:(freeP m2.p (f:Int)).2.u.length=m2.p.u.length:=by
        unfold freeP
        split
        · exact List.length_set
        · rfl
      have:(freeP m2.p (f:Int)).2.u.length=1024:=this
      omega
    have hu1:m1.p.u.getD f 0=3:=by rw[hp1];exact hu
    obtain⟨k1,k2,k3,k4⟩:=left_of hi1 hf (.inl hu1) hlen hJ (fun g e=>es_fr _ _ e)
    obtain⟨d1,d2,d3,d4⟩:=hJ.done hi1 hu1 (fun j hj=>by unfold slotM;rw[hF1];show (last m1.S m1.L (160+sl)).getD j 0=_;rw[hm1];show (last m.S L1 (160+sl)).getD j 0=_;rw[hLL]) (fun n q e=>(hi1.back _ _).2 ⟨n,q,rfl,e⟩)
    have hcc:m2.c=m.c:=by rw[hJ.rest,hm1]
    have hncf:∀ e∈m2.c,e.f≠(f:Int):=by
      intro e he' ef
      rw[hcc] at he'
      obtain⟨_,g,c2,_,c4⟩:=hi.ckey e he'
      rw[ef] at c2
      have:f=g:=by omega
      rw[← this] at c4
      omega
    have hinv:Inv (arM m2) (m2.setP (freeP m2.p (f:Int)).2):=d4.freed hf k2 k3 hncf
    have hag:∀ n q,pageM (m2.setP (freeP m2.p (f:Int)).2) n q=pageM m2 n q:=fun _ _=>rfl
    have han:∀ n q,hasAnon (m2.setP (freeP m2.p (f:Int)).2) n q↔hasAnon m2 n q:=by
      intro n q
      rcases d4.ent_three n q with e' | ⟨g,e',_⟩ | ⟨t,e',_⟩
      · exact⟨fun c=>absurd c (hasAnon_no e'),fun c=>absurd c (hasAnon_no e')⟩
      · rw[hasAnon_in e',hasAnon_in (m:=m2.setP (freeP m2.p (f:Int)).2) e']
        show (freeP m2.p (f:Int)).2.u.getD g 0=3↔_
        rw[freeP_other (fun c=>k3 n q (by rw[← c];exact e'))]
      · exact⟨fun _=>hasAnon_slot e',fun _=>hasAnon_slot e'⟩
    have LR:=left_R hi1 hf (.inl hu1) hlen hJ (fun g e=>es_fr _ _ e) (m2.setP (freeP m2.p (f:Int)).2) rfl rfl rfl rfl (fun e he=>he) (fun e he=>.inl he)
    have hcn:=hJ.cost
    refine⟨_,hE,⟨hinv,?_,?_,?_,fun n' z e'=>?_,fun t n' q e1 e2=>?_⟩,⟨fun n q=>?_,LR.uf,fun g hg hgf hz=>?_,?_,?_,?_,fun z=>LR.zo ⟨fun n q g e=>?_,fun e he g eg=>?_⟩,fun g hg l=>?_⟩,hcc,?_,fun s hs=>?_,fun s hs=>?_⟩
    · refine ho.sees.view (fun n'=>(hJ.xs n').trans (by rw[hm1])) (fun i j hi' hj=>?_) (fun n q j hj=>?_) (fun n q=>?_)
      · refine (hJ.fil i j).trans ?_
        rw[hm1]
        exact slot_file (fun s hs=>hLs s (by omega)) i j hi'
      · rw[hag,d2 n q j hj,hm1]
        exact slot_page hi hLs hse n q j
      · rw[han,d3,hm1]
        exact Iff.rfl
    · have h1:=freeP_cnt (p:=m2.p) f 2 k2
      have h2:=hcn.c2
      rw[hp1] at h2
      show nr≤cntF (freeP m2.p (f:Int)).2 2
      omega
    · have h1:=freeP_cnt (p:=m2.p) f 3 k2
      have h2:=hcn.c3
      rw[hp1] at h2
      have:=ho.mv
      show mv≤cntF (freeP m2.p (f:Int)).2 3
      omega
    · obtain⟨y0,e0,l0⟩:=hcn.tt n' z e'
      have:=ho.tb n' y0 (by rw[hm1] at e0;exact e0)
      omega
    · have:=hcn.fre t n' q e1 e2
      rw[hm1] at this
      exact ho.fre t n' q this.1 this.2
    · rw[LR.ents,he1]
    · have:=LR.u3 g hg hgf (by rw[hp1];exact hz)
      rw[hp1] at this
      exact this
    · rw[LR.z,hp1]
    · rw[LR.i,hp1]
    · rw[LR.bad,hm1]
    · rw[hp1]
      exact z.all n q g (by rw[← he1];exact e)
    · rw[hp1]
      exact z.cac e (by rw[hm1] at he;exact he) g eg
    · have:=LR.lk g hg l
      rw[hm1] at this
      exact this
    · show m2.S=m.S
      rw[hcn.kp.S,hm1]
    · show last m2.S m2.L s=_
      rw[hcn.kp.S,hcn.kp.L,hm1]
      exact hLs s hs
    · show m2.L s=_
      rw[hcn.kp.L,hm1]
      show L1 s=_
      rw[hL1,upd_other _ _ _ hs]
end
end Go.Proofs.YtaonpmclkafjdaaGreat
namespace Go.Proofs.YtaonpmclkafjdaaGreat
open Go.RowKit
set_option linter.unusedVariables false
theorem page_same {A:Nat→Nat→Option Ar}{m m1:SpM}(hi:Inv A m)(hx:m1.x=m.x)(hF:m1.F=m.F)(fil:∀ i j,j < 64→fileM m1 i j=fileM m i j)(slt:∀ t j,slotM m1 t j=slotM m t j)(n q j:Nat)(hj:j < 64):pageM m1 n q j=pageM m n q j:=by
  have e1:entM m1 n q=entM m n q:=entM_congr hx n q
  have ha:arM m1 n q=arM m n q:=by unfold arM;rw[hx]
  rcases hi.ent_three n q with e | ⟨f,e,_⟩ | ⟨t,e,_⟩
  · rw[pageM_no e,pageM_no (e1.trans e),ha]
    cases arM m n q with
    | none=>rfl
    | some r=>simp only[fil _ _ hj]
  · rw[pageM_in e,pageM_in (e1.trans e),hF]
  · rw[pageM_slot e,pageM_slot (e1.trans e),slt]
theorem anon_same {A:Nat→Nat→Option Ar}{m m1:SpM}(hi:Inv A m)(hx:m1.x=m.x)(hu:∀ n q (g:Nat),entM m n q=⟨1,(g:Int),false⟩→m1.p.u.getD g 0=m.p.u.getD g 0)(n q:Nat):hasAnon m1 n q↔hasAnon m n q:=by
  have e1:entM m1 n q=entM m n q:=entM_congr hx n q
  rcases hi.ent_three n q with e | ⟨f,e,_⟩ | ⟨t,e,_⟩
  · exact⟨fun c=>absurd c (hasAnon_no (e1.trans e)),fun c=>absurd c (hasAnon_no e)⟩
  · rw[hasAnon_in e,hasAnon_in (e1.trans e),hu n q f e]
  · exact⟨fun _=>hasAnon_slot e,fun _=>hasAnon_slot (e1.trans e)⟩
section
variable (gS:Nat)(a:SpA)(k:SpK)(K:Nat→Prop)(m M m1:SpM)(w:World)(W:UW)(nr mv u:Nat)
set_option maxRecDepth 100000 in
set_option maxHeartbeats 2000000 in
theorem drop_core (fl pg f:Nat) (hfl:fl < 4) (hpg:pg < 16) (h:SpMem w gS a k K m) (hb1:m1.b=m.b) (hon:M.on m1=m1) (hbm:M.b=m.b) (hxm:M.x=m.x) (hbadm:M.bad=m.bad) (ho:SpOk M W nr mv u) (h3:3≤nr)
    (hcm:frameC m.c ⟨(fl:Int),(pg:Int)⟩=some (f:Int)) (hc:frameC M.c ⟨(fl:Int),(pg:Int)⟩=some (f:Int)) (hby:∀ j,j < 64→(last M.S M.L (96+(16 * fl+pg))).getD j 0=(M.F f).getD j 0)
    (hclean:∀ V,SpMem V gS a k K m→Calls Tryz.prog 56 #[.pointer (some ⟨gS,0,none⟩),.agg #[.int .i64 (fl:Int),.int .i64 (pg:Int)]] V (SpEnd V gS a k K (.int .i64 0) m1)) :
    Calls Tryz.prog 15 #[.pointer (some ⟨gS,0,none⟩),.int .i64 (fl:Int),.int .i64 (pg:Int)] w fun e w'=>∃ M3:SpM,SpEnd w gS a k K (.int .i64 0) (M3.on (m1.setC (dropC m1.c ⟨(fl:Int),(pg:Int)⟩))) e w'∧SpOk M3 W nr mv u∧LeftR M f en0 M3∧M3.c=dropC M.c ⟨(fl:Int),(pg:Int)⟩∧M3.S=M.S∧M3.L=M.L:=by
  have hi:=ho.inv
  obtain⟨f',ef',hf,hu⟩:=hi.key_use hc
  obtain rfl:f=f':=by omega
  clear ef'
  have ho3:=ho.nr
  have hallm:∀ (i:Nat) (qc qg:Int),(m.b (f:Int))[i]?=some ⟨qc,qg⟩→∃ (n pg:Nat) (y:SpX),qc=(n:Int)∧qg=(pg:Int)∧m.x n=some y∧pg < 4096∧y.t.live=true∧y.t.e.getD pg en0=⟨1,(f:Int),false⟩:=by
    rw[← hbm,← hxm]
    exact hall_of hi f
  refine (evdrop_yes gS a k K m w fl pg hfl hpg f (m.b (f:Int)) m1 (fun i m'=>∃ M',OutJ M f en0 (M.b (f:Int)) i M'∧m'=M'.on (m1.setC (dropC m1.c ⟨(fl:Int),(pg:Int)⟩))) hf hcm (by rw[← hbadm];exact hi.tabs.bad) rfl (by rw[← hbm];exact back_len hi _) hallm hclean hb1 ⟨M,OutJ.start hi,?_⟩ ?_ h).mono ?_
  · show (⟨m1.F,m1.bad,m1.S,m1.L,m1.T,m1.p,m1.b,dropC m1.c _,m1.s,m1.x⟩:SpM)=⟨M.F,M.bad,m1.S,m1.L,m1.T,M.p,M.b,dropC m1.c _,M.s,M.x⟩
    have e:(⟨M.F,M.bad,m1.S,m1.L,m1.T,M.p,M.b,m1.c,M.s,M.x⟩:SpM)=m1:=hon
    have e1:M.F=m1.F:=by have:=congrArg SpM.F e;exact this
    have e2:M.bad=m1.bad:=by have:=congrArg SpM.bad e;exact this
    have e3:M.p=m1.p:=by have:=congrArg SpM.p e;exact this
    have e4:M.b=m1.b:=by have:=congrArg SpM.b e;exact this
    have e5:M.s=m1.s:=by have:=congrArg SpM.s e;exact this
    have e6:M.x=m1.x:=by have:=congrArg SpM.x e;exact this
    rw[e1,e2,e3,e4,e5,e6]
  · rintro i qc qg m' V K' hl ⟨M',hJ,rfl⟩ hV
    rw[← hbm] at hl
    obtain⟨n',q',z0,rfl,rfl,hz0,hq,_,he'⟩:=hall_of hi f i qc qg hl
    have hee:entM M n' q'=⟨1,(f:Int),false⟩:=by rw[entM_some hz0];exact he'
    have:=hJ.xs n'
    rw[hz0,Option.map_some] at this
    obtain⟨z,hz,_⟩:=Option.map_eq_some_iff.1 this
    have hc2:=hJ.cost.c2
    have hnd:∀ j,j < i→(M.b (f:Int))[j]?≠some ⟨(n':Int),(q':Int)⟩:=by
      intro j hj e
      obtain⟨h1,e1⟩:=List.getElem?_eq_some_iff.1 hl
      obtain⟨h2,e2⟩:=List.getElem?_eq_some_iff.1 e
      have:=List.pairwise_iff_getElem.1 (hi.srt (f:Int)) j i h2 h1 hj
      rw[e1,e2] at this
      exact ltP.irr _ this
    refine (put_ok gS a k K' (M'.on (m1.setC (dropC m1.c ⟨(fl:Int),(pg:Int)⟩))) V n' z q' en0 hV hz hq (hJ.inv.tabs.on _) (hJ.inv.few.on _) en0_ok (by show 3≤cntF M'.p 2;omega)).mono ?_
    rintro e w' ⟨F',p',t',hd,hE⟩
    refine⟨0,_,⟨_,hJ.step hi (.inl rfl) hl hz hq hee hnd hd.of_on,(putM_on _ _ _ _ _ _ _ _ _).symm⟩,hE⟩
  · rintro e w' ⟨m2,⟨M2,hJ,rfl⟩,hE⟩
    rw[show (m.b (f:Int)).length=(M.b (f:Int)).length by rw[hbm]] at hJ
    have hlen:M2.p.u.length=1024:=by
      obtain⟨_,K',h1,_⟩:=hE
      have:=u_len h1
      have e2:(freeP M2.p (f:Int)).2.u.length=M2.p.u.length:=by
        unfold freeP
        split
        · exact List.length_set
        · rfl
      have:(freeP M2.p (f:Int)).2.u.length=1024:=this
      omega
    obtain⟨k1,k2,k3,k4⟩:=left_of hi hf (.inr hu) hlen hJ (fun g e=>en_ne _ e.symm)
    obtain⟨d1,d2,d3,d4⟩:=hJ.gone hi hu (fun n q e=>(hi.back _ _).2 ⟨n,q,rfl,e⟩)
    have hc2:frameC M2.c ⟨(fl:Int),(pg:Int)⟩=some (f:Int):=by rw[hJ.rest];exact hc
    have hkey:keyI (16 * fl+pg)=⟨(fl:Int),(pg:Int)⟩:=by
      unfold keyI
      rw[Pl.mk.injEq]
      constructor <;> omega
    have hF2:∀ j,(M2.F f).getD j 0=(M.F f).getD j 0:=by
      intro j
      have e:=hJ.fil (16 * fl+pg) j
      unfold fileM at e
      rw[hkey,hc2,hc] at e
      exact e
    have hun:Inv (arM M2) (M2.setC (dropC M2.c ⟨(fl:Int),(pg:Int)⟩)):=d4.uncache hc2 d1
    have hncf:∀ e∈dropC M2.c ⟨(fl:Int),(pg:Int)⟩,e.f≠(f:Int):=by
      intro e he ef
      obtain⟨h1,h2⟩:=List.mem_filter.1 he
      obtain⟨i,hi',e1⟩:=List.mem_iff_getElem.1 h1
      have hpe:=(frame_atU d4.cok (i:=i) (e:=e) (by rw[List.getElem?_eq_getElem hi',e1])).2
      have hpk:=pageC_of d4.cok hc2
      rw[ef,hpk] at hpe
      injection hpe with hpe
      rw[hpe] at h2
      simp at h2
    have hinv:Inv (arM M2) ((M2.setC (dropC M2.c ⟨(fl:Int),(pg:Int)⟩)).setP (freeP M2.p (f:Int)).2):=hun.freed hf k2 d1 hncf
    have hcn:=hJ.cost
    have hfil:∀ i j,j < 64→fileM ((M2.setC (dropC M2.c ⟨(fl:Int),(pg:Int)⟩)).setP (freeP M2.p (f:Int)).2) i j=fileM M i j:=by
      intro i j hj
      refine Eq.trans ?_ (hJ.fil i j)
      exact uncache_file (m:=M2) hkey hc2 (fun j hj=>by rw[hcn.kp.S,hcn.kp.L,hF2];exact hby j hj) i j hj (fun e=>by
        have:=keyI_inj e
        simpa using this)
    have LR:=left_R hi hf (.inr hu) hlen hJ (fun g e=>en_ne _ e.symm) ((M2.setC (dropC M2.c ⟨(fl:Int),(pg:Int)⟩)).setP (freeP M2.p (f:Int)).2) rfl rfl rfl rfl (fun e he=>(List.mem_filter.1 he).1) (fun e he=>by
      by_cases c:e.k=⟨(fl:Int),(pg:Int)⟩
      · right
        obtain⟨i,hi',e1⟩:=List.mem_iff_getElem.1 he
        have hpe:=(frame_atU d4.cok (i:=i) (e:=e) (by rw[List.getElem?_eq_getElem hi',e1])).1
        rw[c,hc2] at hpe
        injection hpe with hpe
        exact hpe.symm
      · exact .inl (List.mem_filter.2 ⟨he,by simpa using c⟩))
    refine⟨(M2.setC (dropC M2.c ⟨(fl:Int),(pg:Int)⟩)).setP (freeP M2.p (f:Int)).2,hE,⟨hinv,?_,?_,?_,fun n' z e'=>?_,fun t n' q e1 e2=>?_⟩,LR,?_,hcn.kp.S,hcn.kp.L⟩
    · refine ho.sees.view hJ.xs (fun i j _ hj=>hfil i j hj) (fun n q j hj=>?_) (fun n q=>?_)
      · refine Eq.trans ?_ (d2 n q j hj)
        exact page_same (m1:=(M2.setC (dropC M2.c ⟨(fl:Int),(pg:Int)⟩)).setP (freeP M2.p (f:Int)).2) d4 rfl rfl (fun i j hj=>(hfil i j hj).trans (hJ.fil i j).symm) (fun _ _=>rfl) n q j hj
      · refine Iff.trans ?_ (d3 n q)
        refine anon_same (m1:=(M2.setC (dropC M2.c ⟨(fl:Int),(pg:Int)⟩)).setP (freeP M2.p (f:Int)).2) d4 rfl (fun n q g e=>?_) n q
        exact freeP_other (fun c=>d1 n q (by rw[← c];exact e))
    · have h1:=freeP_cnt (p:=M2.p) f 2 k2
      have h2:=hcn.c2
      show nr≤cntF (freeP M2.p (f:Int)).2 2
      omega
    · have h1:=freeP_cnt (p:=M2.p) f 3 k2
      have h2:=hcn.c3
      have:=ho.mv
      show mv≤cntF (freeP M2.p (f:Int)).2 3
      omega
    · obtain⟨y0,e0,l0⟩:=hcn.tt n' z e'
      have:=ho.tb n' y0 e0
      omega
    · have:=hcn.fre t n' q e1 e2
      exact ho.fre t n' q this.1 this.2
    · show dropC M2.c _=_
      rw[hJ.rest]
theorem drop_dirty (fl pg f:Nat) (hfl:fl < 4) (hpg:pg < 16) (h:SpMem w gS a k K m) (ho:SpOk m W nr mv u) (h3:3≤nr) (hc:frameC m.c ⟨(fl:Int),(pg:Int)⟩=some (f:Int)) (hd:dirtyC m.c ⟨(fl:Int),(pg:Int)⟩=true) :
    Calls Tryz.prog 15 #[.pointer (some ⟨gS,0,none⟩),.int .i64 (fl:Int),.int .i64 (pg:Int)] w fun e w'=>∃ M3:SpM,SpEnd w gS a k K (.int .i64 0) M3 e w'∧SpOk M3 W nr mv u∧LeftR m f en0 M3∧(∀ k',frameC M3.c k'=if k'=⟨(fl:Int),(pg:Int)⟩ then none else frameC m.c k')∧last M3.S M3.L (96+(16 * fl+pg))=m.F f:=by
  have hi:=ho.inv
  obtain⟨f',ef',hf,hu⟩:=hi.key_use hc
  obtain rfl:f=f':=by omega
  clear ef'
  have hnx:m.T.next=m.T:=by rw[hi.tr];rfl
  obtain⟨m1,hm1⟩:∃ m1:SpM,m1=⟨m.F,m.bad,m.S,upd m.L (96+(16 * fl+pg)) (some (m.F f)),m.T,m.p,m.b,markC m.c ⟨(fl:Int),(pg:Int)⟩ false,m.s,m.x⟩:=⟨_,rfl⟩
  have e1:(m.setD (upd m.L (96+(16 * fl+pg)) (some (m.F f))) m.T.next).setC (markC m.c ⟨(fl:Int),(pg:Int)⟩ false)=m1:=by rw[hm1,hnx];rfl
  have hLs:∀ s,s≠96+(16 * fl+pg)→last m.S (upd m.L (96+(16 * fl+pg)) (some (m.F f))) s=last m.S m.L s:=by
    intro s hs
    unfold last
    rw[upd_other _ _ _ hs]
  have hLL:last m.S (upd m.L (96+(16 * fl+pg)) (some (m.F f))) (96+(16 * fl+pg))=m.F f:=by
    unfold last
    rw[upd_same]
    rfl
  have hfr:∀ k',frameC m1.c k'=frameC m.c k':=fun k'=>by rw[hm1];exact frameC_mark _ _ _ _
  have hmk:∀ e∈m1.c,∃ e'∈m.c,e'.k=e.k∧e'.f=e.f:=fun e he=>by rw[hm1] at he;exact mark_mem he
  have hkey:keyI (16 * fl+pg)=⟨(fl:Int),(pg:Int)⟩:=by
    unfold keyI
    rw[Pl.mk.injEq]
    constructor <;> omega
  have hfil:∀ i j,fileM m1 i j=fileM m i j:=by
    intro i j
    unfold fileM
    rw[hfr]
    cases e:frameC m.c (keyI i) with
    | some g=>rw[hm1]
    | none =>
      rw[hm1]
      show (last m.S (upd m.L (96+(16 * fl+pg)) (some (m.F f))) (96+i)).getD j 0=_
      rw[hLs]
      intro c
      have:i=16 * fl+pg:=by omega
      rw[this,hkey,hc] at e
      cases e
  have hslt:∀ t j,slotM m1 t j=slotM m t j:=by
    intro t j
    unfold slotM
    rw[hm1]
    show (last m.S (upd m.L (96+(16 * fl+pg)) (some (m.F f))) (160+t)).getD j 0=_
    rw[hLs _ (by omega)]
  have hi1:Inv (arM m1) m1:=by
    have ha:arM m1=arM m:=by rw[hm1];rfl
    rw[ha]
    refine⟨⟨by rw[hm1];exact hi.tabs.bad,by rw[hm1];exact hi.tabs.live,by rw[hm1];exact hi.tabs.use,by rw[hm1];exact hi.tabs.two⟩,by rw[hm1];exact hi.zone,by rw[hm1];exact hi.tok,by rw[hm1];exact hi.x8,by rw[hm1];exact hi.ars,fun n q=>?_,by rw[hm1];exact hi.back,by rw[hm1];exact hi.srt,by rw[hm1];exact hi.slot,by rw[hm1];exact hi.ssrt,by rw[hm1];exact hi.sin,by rw[hm1];exact csOk_mark hi.cok,fun e he=>?_,by rw[hm1];exact hi.tr⟩
    · have e2:entM m1 n q=entM m n q:=entM_congr (by rw[hm1]) n q
      rw[e2]
      rcases hi.good n q with (c | ⟨g,c,hg,r,hr,d⟩) | c
      · exact .inl (.inl c)
      · refine .inl (.inr ⟨g,c,hg,r,hr,?_⟩)
        rw[hfr]
        rw[hm1]
        exact d
      · exact .inr c
    · obtain⟨e',h1,h2,h3⟩:=hmk e he
      rw[← h2,← h3]
      rw[hm1]
      exact hi.ckey e' h1
  have hx1:m1.x=m.x:=by rw[hm1]
  have hF1:m1.F=m.F:=by rw[hm1]
  have ho1:SpOk m1 W nr mv u:=by
    refine⟨hi1,ho.sees.view (fun n'=>by rw[hx1]) (fun i j _ _=>hfil i j) (fun n q j hj=>page_same hi hx1 hF1 (fun i j _=>hfil i j) hslt n q j hj) (fun n q=>anon_same hi hx1 (fun _ _ g _=>by rw[hm1]) n q),by rw[hm1];exact ho.nr,by rw[hm1];exact ho.mv,by rw[hm1];exact ho.tb,by rw[hm1];exact ho.fre⟩
  refine (drop_core gS a k K m m1 m1 w W nr mv u fl pg f hfl hpg h (by rw[hm1]) rfl (by rw[hm1]) hx1 (by rw[hm1]) ho1 h3 hc ((hfr _).trans hc) (fun j _=>by rw[hm1];show (last m.S (upd m.L (96+(16 * fl+pg)) (some (m.F f))) _).getD j 0=_;rw[hLL]) fun V hV=>(clean_yes gS a k K m V fl pg hfl hpg f hf (hi.tabs.bad f hf) hd hc (by rw[hi.tr];rfl) hV).mono ?_).mono ?_
  · intro e w' hE
    rw[e1] at hE
    exact hE
  · rintro e w' ⟨M3,h1,h2,h4,h5,h6,h7⟩
    have e3:M3.on (m1.setC (dropC m1.c ⟨(fl:Int),(pg:Int)⟩))=M3:=by
      have ht3:M3.T=m1.T:=by rw[h2.inv.tr,hi1.tr]
      show (⟨M3.F,M3.bad,m1.S,m1.L,m1.T,M3.p,M3.b,dropC m1.c _,M3.s,M3.x⟩:SpM)=M3
      rw[← h6,← h7,← h5,← ht3]
    rw[e3] at h1
    refine⟨M3,h1,h2,⟨fun n q=>?_,h4.uf,fun g hg hgf hz=>?_,?_,?_,?_,fun z=>h4.zo ⟨fun n q g e=>?_,fun e he g eg=>?_⟩,fun g hg l=>?_⟩,fun k'=>?_,?_⟩
    · rw[h4.ents,entM_congr hx1]
    · have:=h4.u3 g hg hgf (by rw[hm1];exact hz)
      rw[this,hm1]
    · rw[h4.z,hm1]
    · rw[h4.i,hm1]
    · rw[h4.bad,hm1]
    · rw[entM_congr hx1] at e
      have:=z.all n q g e
      rw[hm1]
      exact this
    · obtain⟨e',a1,a2,a3⟩:=hmk e he
      have:=z.cac e' a1 g (a3.trans eg)
      rw[hm1]
      exact this
    · have l2:=h4.lk g hg l
      unfold Leak at l2 ⊢
      rcases l2 with l2 | l2 | l2
      · rw[hm1] at l2;exact .inl l2
      · refine .inr (.inl ⟨by have:=l2.1;rw[hm1] at this;exact this,fun e he ef=>?_⟩)
        have hq:(if e.k=⟨(fl:Int),(pg:Int)⟩ then (⟨e.k,e.f,false⟩:Ce) else e)∈m1.c:=by
          rw[hm1]
          exact List.mem_map.2 ⟨e,he,rfl⟩
        refine l2.2 _ hq ?_
        split
        · exact ef
        · exact ef
      · rw[hm1] at l2;exact .inr (.inr l2)
    · rw[h5,frameC_drop,hfr]
    · rw[h6,h7,hm1]
      exact hLL
end
end Go.Proofs.YtaonpmclkafjdaaGreat
namespace Go.Proofs.YtaonpmclkafjdaaGreat
open Go.RowKit
set_option linter.unusedVariables false
section
variable {m m':SpM}{W:UW}{nr mv u:Nat}
end
section
variable (gS:Nat)(a:SpA)(k:SpK)(K:Nat→Prop)(m:SpM)(w:World)(W:UW)(nr mv u:Nat)
end
end Go.Proofs.YtaonpmclkafjdaaGreat

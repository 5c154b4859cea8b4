/-
  EvictSync: behind a Sync a file's bytes last, whatever a Crash keeps.
  EvictFull: without a slot nothing goes out, and nothing is another one.
  Two pages that are stored to, and what Out and Drop leave.
  What EvictForked asks of the state.
  EvictForked: a page that went out while many had it comes back once, for all of them.
  Conditions: those that each line bears.
-/
import Derived.Test.YtaonpmclkafjdaaGreatQa51
import Derived.Test.YtaonpmclkafjdaaGreatQa53
set_option linter.unusedSimpArgs false
set_option linter.unusedSectionVars false
set_option linter.unusedVariables false
namespace Go.Proofs.YtaonpmclkafjdaaGreat
open Go.RowKit
set_option linter.unusedVariables false
theorem win_take {xs:List Nat}{l:Nat}:win xs 0 l=xs.take l:=by unfold win;rw[List.drop_zero]
structure ShS (m1:SpM)(k f:Nat)(xs:List Nat):Prop where
  ent:entM m1 0 (8+k)=⟨1,(f:Int),false⟩
  fr:frameC m1.c ⟨0,(k:Int)⟩=some (f:Int)
  dt:dirtyC m1.c ⟨0,(k:Int)⟩=true
  by_:(m1.F f).take xs.length=xs
  len:(m1.F f).length=64
  lt:f < 1024
theorem SpQ.lens {w wx:World}{gS:Nat}{a:SpA}{m:SpM}{H:List (Value × List Nat)}{L:List (Nat × TypeId × Array Value)}(h:SpQ w wx gS a m H L):∀ f,f < 1024→(m.F f).length=64:=by
  obtain⟨k,K,h1,_⟩:=h
  exact h1.lens
section
variable (gS:Nat)(a:SpA)(k:SpK)(K:Nat→Prop)(m:SpM)(w:World)
end
end Go.Proofs.YtaonpmclkafjdaaGreat
namespace Go.Proofs.YtaonpmclkafjdaaGreat
open Go.RowKit
set_option linter.unusedVariables false
structure OwS (m0 m1:SpM)(k f:Nat)(xs:List Nat):Prop where
  ent:entM m1 0 k=⟨1,(f:Int),false⟩
  u3:m1.p.u.getD f 0=3
  by_:(m1.F f).take xs.length=xs
  len:(m1.F f).length=64
  lt:f < 1024
  oth:∀ n q,¬ (n=0∧q=k)→entM m1 n q=en0
  kp:Kp m0 m1
theorem own_in {k:Nat}(hk:k < 8){xs:List Nat}(hl:xs.length≤64)(j:Nat)(hj:j < xs.length):inAr aOwn (64 * k+j):=by
  unfold inAr aOwn
  simp only
  omega
theorem own_stored {b:Nat}{m0 m1:SpM}{W0:UW}{nr mv u k x:Nat}{xs:List Nat}(FR:Fr0 b m0 W0)(hk:k < 8)(hx:x=64 * k)(h0:0 < xs.length)(hl:xs.length≤64)(ho:SpOk m1 (storeU W0 0 x xs) nr mv u)(hR:StoR m0 0 (x / 64) aOwn m1)(hlen:∀ f,f < 1024→(m1.F f).length=64):∃ f,OwS m0 m1 k f xs:=by
  subst hx
  obtain⟨kp,f,g,hf,hents,-,h3⟩:=hR
  rw[show 64 * k / 64=k by omega] at hents
  have he:entM m1 0 k=⟨1,(f:Int),false⟩:=by rw[hents,if_pos ⟨rfl,rfl⟩]
  have hO:=FR.has aOwn (.inl rfl)
  obtain⟨s1,s2⟩:=stored_own (x:=64 * k) (b:=xs) hO (by decide) (fun n q=>FR.own n q) (fun j hj=>own_in hk hl j hj)
  have hO2:Has (storeU W0 0 (64 * k) xs) 0 aOwn:=hO.congr (by rw[s1])
  have hin:=own_in hk hl 0 h0
  have hw:=win_page (x:=64 * k) (k:=xs.length) ho.sees (by rw[show 64 * k / 64=k by omega];exact he) (by rw[hO2.area (by have:=hin.1;rwa [Nat.add_zero] at this) (by have:=hin.2;rwa [Nat.add_zero] at this)];simp) (hlen f hf) (by omega)
  rw[show 64 * k % 64=0 by omega,win_take,s2] at hw
  refine⟨f,he,h3 rfl,hw,hlen f hf,hf,fun n q c=>?_,kp⟩
  rw[hents,if_neg c,FR.ent 0 k,if_neg (fun c=>by have:=c.1;exact absurd this (by decide))]
  exact FR.ent n q
structure HldJ (m:SpM)(n:Nat)(s:SS):Prop where
  srt:∀ t,SrtP (s t)
  in_:∀ t,∀ q∈s t,q∈places
  old:∀ t q,q.c≠7→(q∈s t↔q∈m.s t)
  full:∀ t,t < n→s t≠[]
theorem HldJ.zero {A:Nat→Nat→Option Ar}{m:SpM}(hi:Inv A m):HldJ m 0 m.s:=⟨hi.ssrt,hi.sin,fun _ _ _=>Iff.rfl,fun t h=>absurd h (Nat.not_lt_zero t)⟩
theorem HldJ.next {m:SpM}{n:Nat}{s:SS}(h:HldJ m n s)(hn:n < 32):HldJ m (n+1) (holdS s (n:Int) ⟨7,(n:Int)⟩):=by
  obtain⟨g1,g2⟩:=hold_is s n hn ⟨7,(n:Int)⟩ h.srt
  refine⟨g1,fun t q hq=>?_,fun t q hc=>?_,fun t ht=>?_⟩
  · rcases (g2 t q).1 hq with c | ⟨rfl,-⟩
    · exact h.in_ t q c
    · exact places_mem (n:=7) (pg:=n) (by omega) (by omega)
  · rw[g2]
    exact⟨fun c=>c.elim (h.old t q hc).1 fun c=>absurd (by rw[c.1]) hc,fun c=>.inl ((h.old t q hc).2 c)⟩
  · by_cases c:t=n
    · exact List.ne_nil_of_mem ((g2 t _).2 (.inr ⟨rfl,c⟩))
    · obtain⟨q,hq⟩:=List.exists_mem_of_ne_nil _ (h.full t (by omega))
      exact List.ne_nil_of_mem ((g2 t q).2 (.inl hq))
theorem HldJ.le {m:SpM}{n:Nat}{s:SS}(h:HldJ m n s)(t:Nat):(s t).length≤100000:=by
  have h1:=nodupC_le (l:=s t) (m:=places) (srt_nodup (h.srt t)) (h.in_ t)
  rw[places_length] at h1
  omega
theorem HldJ.inv {m:SpM}{n:Nat}{s:SS}(h:HldJ m n s)(h7:m.x 7=none)(hi:Inv (arM m) m):Inv (arM (m.setS s)) (m.setS s) :=
  ⟨⟨hi.tabs.bad,hi.tabs.live,hi.tabs.use,hi.tabs.two⟩,hi.zone,hi.tok,hi.x8,hi.ars,hi.good,hi.back,hi.srt,fun t n pg hn=>(h.old t ⟨n,pg⟩ (fun c=>by
    obtain rfl:n=7:=by
      have:(n:Int)=7:=c
      omega
    exact hn h7)).trans (hi.slot t n pg hn),h.srt,h.in_,hi.cok,hi.ckey,hi.tr⟩
theorem sees_setS {m:SpM}{W:UW}(s:SS)(hs:Sees (fun _ _=>False) m W):Sees (fun _ _=>False) (m.setS s) W:=⟨hs.pr,hs.qc,hs.fl,hs.page,hs.own,hs.out⟩
section
variable (gS:Nat)(a:SpA)(k:SpK)(K:Nat→Prop)(m:SpM)(w:World)
theorem hold_mem (n:Nat) (p:Pl) (wp:WPl p) (hf:(m.s n).length≤100000) (h:SpMem w gS a k K m) :
    Calls Tryz.prog 25 #[.pointer (some ⟨a.S,0,none⟩),.int .i64 (n:Int),.agg #[.int .i64 p.c,.int .i64 p.g]] w (SpEnd w gS a k K (.bool (decide (isSlot (n:Int)))) (m.setS (holdS m.s (n:Int) p))):=by
  obtain⟨Ki,hB,hKi,hl⟩:=h.swapP
  refine (swap_hold a.S Ki m.s w n p hB wp (by rw[Int.toNat_natCast];exact hf)).mono ?_
  rintro e w' ⟨K',rfl,hb,hn,ht⟩
  exact⟨rfl,hl _ w' K' hb hn ht⟩
end
section
variable (gS:Nat)(sa:SpA)(sk:SpK)(K:Nat→Prop)(m:SpM)(W:UW)(w:World)
set_option maxHeartbeats 1000000 in
theorem load_c (n x len:Nat) (hp:W.pr n≠none) (h0:0 < len) (hpg:x % 64+len≤64) (hx:x+len≤262144) (hm:W.mayAll n x len false) (h1:SpMem w gS sa sk K m) (hi:Inv (arM m) m) (hs:Sees (fun _ _=>False) m W) (a1:9≤cntF m.p 2) (a2:4≤cntF m.p 3) :
    Calls Tryz.prog 24 #[.pointer (some ⟨gS,0,none⟩),.int .i64 (n:Int),.int .i64 (x:Int),.int .i64 (len:Int)] w fun e w'=>∃ (v:Value) (m':SpM) (K':Nat→Prop),e=.returned (.tuple #[v,.int .i64 0])∧SpMem w' gS sa sk K' m'∧Went w K w' K'∧Bts w' w'.heap.size v (bytesU W n x len)∧Off K' v∧True:=by
  have hl:len≤64:=by omega
  obtain⟨y,hy,-⟩:=hs.proc hp
  refine (loads_go gS sa sk K w (AskJ W n x len false m) (n:Int) x len (ask_go gS sa sk K m w (AskJ W n x len false m) n y x len false h1 hy hl hx (askJ_zero m W n x len false (SpMem.lens h1) hi hs) fun at_ rem ps m' V K' hJ r0 r1 r2 hV =>
    askJ_step gS sa sk m W n x len false (by omega) (by omega) hl hp hm at_ rem ps m' V K' hJ r0 r1 r2 hV) fun ps m' hJ=>⟨hJ.inv.tabs.bad,fun p hp=>⟨(hJ.pcs.all p hp).1.1,(hJ.pcs.all p hp).1.2.1⟩⟩).mono ?_
  rintro e w' ⟨v,ps,m',K',rfl,hJ,hb,ho,h3,h4⟩
  have hsee:Sees (fun _ _=>False) m' W:=hJ.sees.mono fun _ _ hq=>by cases hq.1
  have hsum:=hJ.sum
  have hby:=pcs_bytes hsee hJ.lens ps x hJ.pcs fun z z1 z2=>by
    obtain⟨r,hr,_⟩:=hm z z1 (by omega)
    rw[hr]
    simp
  rw[hby,show lenP ps=len by omega] at hb
  exact⟨v,m',K',rfl,h3,h4,hb,ho,trivial⟩
end
set_option maxRecDepth 20000 in
set_option maxHeartbeats 8000000 in
theorem evictFull_any (v0:Value) (xs:List Nat) (w:World) (hv:Bts w w.heap.size v0 xs) :
    Calls Tryz.prog 6 #[v0] w fun e w'=>e=.returned (.bool true)∧Below w.heap.size w w':=by
  have HV:=Lib.hid hv
  obtain⟨A0,l0,c0,rfl,e0,-⟩:=hv
  have E0:=Lib.hid e0
  clear e0
  by_cases c:l0=0∨64 < l0
  · have ans:∀ (hh:(l0=0)∨(¬ l0=0∧64 < l0)),Calls Tryz.prog 6 #[.slice A0 l0 c0] w fun e w'=>e=.returned (.bool true)∧Below w.heap.size w w':=by
      rintro (rfl | ⟨h1,h2⟩)
      · go_enter Tryz.func6,Tryz.ntmps6
        go_wp2_with fail
        refine (evAnswers_any w).mono ?_
        rintro e w1 ⟨rfl,hb⟩
        go_wp2
        go_ret
        exact⟨rfl,hb⟩
      · have t0:((l0:Int) == 0)=false:=by simp;omega
        have t1:decide ((64:Int) < (l0:Int))=true:=decide_eq_true (by omega)
        go_enter Tryz.func6,Tryz.ntmps6
        go_wp2_with fail
        refine (evAnswers_any w).mono ?_
        rintro e w1 ⟨rfl,hb⟩
        go_wp2
        go_ret
        exact⟨rfl,hb⟩
    exact ans (by omega)
  · have t0:((l0:Int) == 0)=false:=by simp;omega
    have t1:decide ((64:Int) < (l0:Int))=false:=decide_eq_false (by omega)
    have HP:=Lib.hid (show l0≠0∧l0≤64 from by omega)
    clear c
    go_enter Tryz.func6,Tryz.ntmps6
    go_wp2_with fail
    refine (fresh20_any w).mono ?_
    rintro e w1 ⟨gS,a,m0,W0,rfl,hfr,hq1⟩
    have FR:=Lib.hid hfr
    have HQ1:=Lib.hid hq1
    clear hfr hq1
    go_wp2_with fail
    have hO:=FR.out.has aOwn (.inl rfl)
    refine (q_in HQ1.out HV.out fun k' K h hb ho=>(store_m gS a k' K m0 W0 22 28 1 w1 0 0 _ xs aOwn hO rfl hb ho (by rw[E0.out];have:=HP.out;omega) (by rw[E0.out];have:=HP.out;omega) (by rw[E0.out];have:=HP.out;omega) (fun j hj=>own_in (k:=0) (by omega) (by rw[E0.out];exact HP.out.2) j hj) h FR.out.ok).mono fun e w' h=>(by
      obtain⟨m',h1,h2⟩:=h
      exact⟨k',m',h2,h1⟩)).mono ?_
    rintro e w2 ⟨rfl,m1,hR1,hq2⟩
    have HQ2:=Lib.hid hq2
    obtain⟨f,hsh⟩:=own_stored (k:=0) FR.out (by omega) rfl (by rw[E0.out];have:=HP.out;omega) (by rw[E0.out];exact HP.out.2) hR1.1 hR1.2 hq2.lens
    have SH:=Lib.hid hsh
    have HO1:=Lib.hid hR1.1
    clear hO hq2 hR1 hsh
    have hst:=stored_own (x:=0) (b:=xs) (FR.out.has aOwn (.inl rfl)) (by decide) (fun n q=>FR.out.own n q) (fun j h=>own_in (k:=0) (by omega) (by rw[E0.out];exact HP.out.2) j h)
    have hpr:(storeU W0 0 0 xs).pr=W0.pr:=hst.1
    have hby:bytesU (storeU W0 0 0 xs) 0 0 l0=xs:=by rw[← E0.out];exact hst.2
    have h7:m1.x 7=none:=by
      have:=HO1.out.sees.pr 7
      rw[hpr,FR.out.prn 7 (by decide)] at this
      cases hx:m1.x 7 with
      | none=>rfl
      | some y=>rw[hx] at this;cases this
    obtain⟨y,hy,-⟩:=HO1.out.sees.proc (n:=0) (by rw[hpr,FR.out.pr];simp)
    have HX:=Lib.hid (And.intro h7 hy)
    have HL:=Lib.hid (And.intro (show Has (storeU W0 0 0 xs) 0 aOwn from (FR.out.has aOwn (.inl rfl)).congr (by rw[hpr])) (show ∀ j,j < l0→inAr aOwn (0+j) from fun j hj=>own_in (k:=0) (by omega) (by rw[E0.out];exact HP.out.2) j (by rw[E0.out];exact hj)))
    have HY:=Lib.hid hby
    clear hst hpr hby h7 hy
    go_wp2_with fail
    go_loopg [4] 32 (fun gg s4 wr=>∃ i:Nat,i+gg=32∧s4=.int .i64 (i:Int)∧∃ s':SS,HldJ m1 i s'∧SpQ w wr gS a (m1.setS s') [] [])
    case atStart=>exact⟨0,by omega,rfl,m1.s,HldJ.zero HO1.out.inv,HQ2.out⟩
    case round =>
      obtain⟨i,hig,rfl,s',hj,hq⟩:=hrel
      by_cases hlt:i < 32
      · have t4:decide ((i:Int) < 32)=true:=decide_eq_true (by omega)
        have t5:(i:Int) < 32:=by omega
        obtain⟨kk,hc⟩:=hq.cells
        have d5:wr.cell? ⟨gS,5,none⟩=some (.pointer (some ⟨a.S,0,none⟩)):=hc.cell 5
        have HQ:=Lib.hid hq
        have HJ:=Lib.hid hj
        clear hc hq hj
        go_wp2_with fail
        refine (q_of (R:=fun m'=>m'=m1.setS (holdS s' (i:Int) ⟨7,(i:Int)⟩)) HQ.out fun k' K h=>(hold_mem gS a k' K (m1.setS s') wr i ⟨7,(i:Int)⟩ ⟨(WalkArith.wf_i64 (by omega):W64 (7:Int)),(WalkArith.wf_i64 (by omega):W64 (i:Int))⟩ (HJ.out.le i) h).mono fun e w' h=>⟨k',_,rfl,h⟩).mono ?_
        rintro e w3 ⟨rfl,m3,rfl,hq3⟩
        have HQ3:=Lib.hid hq3
        clear hq3 d5
        go_wp2_with fail
        go_roundg (32 - (i+1))
        case measure=>omega
        case rel=>exact⟨i+1,by omega,congrArg (Value.int .i64) (by first | omega | (simp only[wrap64];omega)),_,HJ.out.next hlt,HQ3.out⟩
      · have hin:i=32:=by omega
        have t4:decide ((i:Int) < 32)=false:=decide_eq_false (by omega)
        subst hin
        have HQ:=Lib.hid hq
        have HJ:=Lib.hid hj
        clear hq hj
        go_wp2_with fail
        refine (q_read HQ.out fun k' K h=>out_full gS a k' K (m1.setS s') wr 0 y 0 f SH.out.lt (by have:=SH.out.ent;rw[entM_some HX.out.2] at this;exact this) SH.out.u3 HJ.out.full HX.out.2 (by omega) HO1.out.inv.tabs.bad (HO1.out.inv.tabs.live 0 y HX.out.2) h).mono ?_
        rintro e w3 ⟨rfl,hq3⟩
        have HQ3:=Lib.hid hq3
        clear hq3
        go_wp2_with fail
        refine (q_load (R:=fun _=>True) HQ3.out fun k' K h=>load_c gS a k' K (m1.setS s') (storeU W0 0 0 xs) w3 0 0 l0 HL.out.1.pr_ne (by have:=HP.out;omega) (by have:=HP.out;omega) (by have:=HP.out;omega) (mayAll_has HL.out.1 HL.out.2) h (HJ.out.inv HX.out.1 HO1.out.inv) (sees_setS s' HO1.out.sees) (by have:=HO1.out.nr;show 9≤cntF m1.p 2;omega) (by have:=HO1.out.mv;show 4≤cntF m1.p 3;omega)).mono ?_
        rintro e w9 ⟨v9,m7,rfl,-,hq9⟩
        rw[HY.out] at hq9
        have HQ9:=Lib.hid hq9
        clear hq9
        go_wp2_with fail
        refine (evAnswers_any _).mono ?_
        rintro e wa ⟨rfl,hba⟩
        have HQA:=Lib.hid (HQ9.out.fresh hba)
        clear hba
        go_wp2_with fail
        refine (same_any _ _ _ _ _ _ _ (HQA.out.bts (List.mem_cons_self ..)) (HV.out.below HQA.out.below)).mono ?_
        rintro e wb ⟨rfl,m,rfl⟩
        rw[decide_eq_true rfl]
        have HB:=Lib.hid HQA.out.below
        go_wp2
        go_ret
        exact⟨rfl,below_drewN HB.out m⟩
end Go.Proofs.YtaonpmclkafjdaaGreat
namespace Go.Proofs.YtaonpmclkafjdaaGreat
open Go.RowKit
set_option linter.unusedVariables false
structure Frs (m:SpM)(W:UW)(k f g:Nat)(xs:List Nat):Prop where
  ent:entM m 0 k=⟨1,(f:Int),false⟩
  ent2:entM m 0 (8+k)=⟨1,(g:Int),false⟩
  oth:∀ n q,¬ (n=0∧q=k)→¬ (n=0∧q=8+k)→entM m n q=en0
  u3:m.p.u.getD f 0=3
  fr:frameC m.c ⟨0,(k:Int)⟩=some (g:Int)
  dt:dirtyC m.c ⟨0,(k:Int)⟩=true
  by_:bytesU W 0 (64 * (8+k)) xs.length=xs
  has:Has W 0 aShr
  zo:Zo m
  flt:f < 1024
  glt:g < 1024
  ne:f≠g
end Go.Proofs.YtaonpmclkafjdaaGreat
namespace Go.Proofs.YtaonpmclkafjdaaGreat
open Go.RowKit
set_option linter.unusedVariables false
theorem fork_neK {W:UW}{n m k:Nat}(h:k≠m):(forkU W n m).pr k=W.pr k:=upd_other _ _ _ h
theorem fork_prK {W:UW}{n m:Nat}{p:Prc}(h:W.pr n=some p):(forkU W n m).pr m=some ⟨p.ars,[]⟩:=by
  unfold forkU
  simp only[h,Option.map_some]
  exact upd_same _ _ _
theorem fork_pages (W:UW)(n0 n n' q:Nat):(forkU W n0 n).page n' q=W.page (forkS n0 n n') q:=by
  unfold UW.page
  rw[fork_own,fork_area]
  rfl
theorem fork_bytes (W:UW)(n0 n n' x l:Nat):bytesU (forkU W n0 n) n' x l=bytesU W (forkS n0 n n') x l:=by
  unfold bytesU UW.byte
  refine List.map_congr_left fun j _=>?_
  rw[fork_pages]
theorem fork_has {W:UW}{n0 n n':Nat}{r:Ar}(h:Has W (forkS n0 n n') r):Has (forkU W n0 n) n' r:=by
  unfold forkS at h
  by_cases c:n'=n
  · rw[if_pos c] at h
    obtain⟨p,hp,ha⟩:=h
    rw[c]
    exact⟨_,fork_prK hp,ha⟩
  · rw[if_neg c] at h
    exact h.congr (fork_neK c)
theorem count_is {p:PS}{f:Nat}(hf:p.u.getD f 0=3)(hs:f / 32=1)(ho:∀ g,g < 1024→p.u.getD g 0=3→g=f):countP p 1 3=1:=by
  unfold countP
  rw[if_pos ⟨by decide,by decide⟩]
  unfold cntU
  have e:(List.range 32).filter (fun j=>decide (((p.u.getD (32 * (1:Int).toNat+j) 0:Nat):Int)=3))=[f - 32]:=by
    refine List.perm_singleton.1 ((List.perm_ext_iff_of_nodup (List.nodup_range.filter _) (by simp)).2 fun k=>?_)
    rw[List.mem_filter,List.mem_range,decide_eq_true_iff,List.mem_singleton]
    have e1:(1:Int).toNat=1:=rfl
    rw[e1]
    constructor
    · rintro⟨h1,h2⟩
      have:=ho (32 * 1+k) (by omega) (by omega)
      omega
    · rintro rfl
      refine⟨by omega,?_⟩
      rw[show 32 * 1+(f - 32)=f by omega,hf]
      rfl
  rw[e]
  rfl
theorem count_no {p:PS}(ho:∀ g,g < 1024→p.u.getD g 0≠3):countP p 1 3=0:=by
  unfold countP
  rw[if_pos ⟨by decide,by decide⟩]
  unfold cntU
  rw[List.filter_eq_nil_iff.2 (fun j hj=>?_)]
  · rfl
  · have h1:=List.mem_range.1 hj
    have e1:(1:Int).toNat=1:=rfl
    rw[e1,decide_eq_true_iff]
    have:=ho (32 * 1+j) (by omega)
    omega
theorem held {A:Nat→Nat→Option Ar}{m:SpM}(hi:Inv A m){g:Nat}(lk:¬ Leak m g)(hu:m.p.u.getD g 0=3):∃ n pg,entM m n pg=⟨1,(g:Int),false⟩:=by
  by_cases c:∃ n pg,entM m n pg=⟨1,(g:Int),false⟩
  · exact c
  · refine absurd (.inl ⟨hu,fun q hq=>c ?_⟩) lk
    obtain⟨n,pg,_,e⟩:=(hi.back _ _).1 hq
    exact⟨n,pg,e⟩
def EntF (m:SpM)(k j:Nat)(x:En):Prop:=∀ n q,entM m n q=if n≤j∧q=k then x else en0
theorem cnt_one {m m0:SpM}{W W0:UW}{k j f nr mv u:Nat}(FR:Fr0 1 m0 W0)(ho:SpOk m W nr mv u)(hk:k < 8)(hE:EntF m k j ⟨1,(f:Int),false⟩)(hO:Has W 0 aOwn)(lk:∀ g,g < 1024→¬ Leak m g)(zo:Zo m)(hz:m.p.z=m0.p.z):countP m.p 1 3=1∧m.p.u.getD f 0=3:=by
  have he:entM m 0 k=⟨1,(f:Int),false⟩:=by rw[hE,if_pos ⟨Nat.zero_le _,rfl⟩]
  obtain⟨hf,r',hr',d⟩:=ho.inv.ent_lt he
  have hr2:arM m 0 k=some aOwn:=(ho.sees.area _ _).symm.trans (hO.area (by show (0:Int)≤(k:Int);omega) (by show (k:Int) < 0+8;omega))
  rw[hr2] at hr'
  injection hr' with hr'
  subst hr'
  have hu:m.p.u.getD f 0=3:=by
    rcases d with d | d
    · exact d.1
    · exact absurd rfl d.2.1
  refine⟨count_is hu ?_ fun g hg hgu=>?_,hu⟩
  · have h1:=zo.all 0 k f he
    rw[hz,FR.z _ (by omega)] at h1
    by_cases c1:f / 32 < 1+1
    · rw[if_pos c1] at h1
      by_cases c2:f / 32=0
      · rw[if_pos c2] at h1
        omega
      · omega
    · rw[if_neg c1] at h1
      omega
  · obtain⟨n,pg,e⟩:=held ho.inv (lk g hg) hgu
    rw[hE] at e
    by_cases c:n≤j∧pg=k
    · rw[if_pos c] at e
      injection e with _ e2 _
      omega
    · rw[if_neg c] at e
      exact absurd e.symm (en_ne _)
structure FkJ (m0 m:SpM)(W:UW)(k f j:Nat)(xs:List Nat):Prop where
  ok:SpOk m W (28 - 4 * j) 30 4
  ent:EntF m k j ⟨1,(f:Int),false⟩
  has:∀ n,n≤j→Has W n aOwn
  prn:∀ n,j < n→W.pr n=none
  byt:∀ n,n≤j→bytesU W n (64 * k) xs.length=xs
  kp:Kp m0 m
theorem FkJ.zero {m0 m1:SpM}{W0:UW}{k f x:Nat}{xs:List Nat}(FR:Fr0 1 m0 W0)(hk:k < 8)(hx:x=64 * k)(hl:xs.length≤64)(ho:SpOk m1 (storeU W0 0 x xs) 28 30 4)(O:OwS m0 m1 k f xs):FkJ m0 m1 (storeU W0 0 x xs) k f 0 xs:=by
  subst hx
  obtain⟨s1,s2⟩:=stored_own (x:=64 * k) (b:=xs) (FR.has aOwn (.inl rfl)) (by decide) (fun n q=>FR.own n q) (fun j hj=>own_in hk hl j hj)
  refine⟨ho,fun n q=>?_,fun n hn=>?_,fun n hn=>by rw[s1];exact FR.prn n (by omega),fun n hn=>?_,O.kp⟩
  · by_cases c:n≤0∧q=k
    · rw[if_pos c,c.2,Nat.le_zero.1 c.1];exact O.ent
    · rw[if_neg c];exact O.oth n q (fun d=>c ⟨Nat.le_zero.2 d.1,d.2⟩)
  · obtain rfl:=Nat.le_zero.1 hn
    exact (FR.has aOwn (.inl rfl)).congr (by rw[s1])
  · obtain rfl:=Nat.le_zero.1 hn
    exact s2
theorem FkJ.next {m0 m m':SpM}{W:UW}{k f j:Nat}{xs:List Nat}(h:FkJ m0 m W k f j xs)(hj:j < 3)(ho:SpOk m' (forkU W 0 (j+1)) (28 - 4 * (j+1)) 30 4)(kp:Kp m m')(he:∀ n' q,entM m' n' q=entM m (forkS 0 (j+1) n') q):FkJ m0 m' (forkU W 0 (j+1)) k f (j+1) xs:=by
  have hS:∀ n,n≤j+1→forkS 0 (j+1) n≤j:=by
    intro n hn
    unfold forkS
    split <;> omega
  refine⟨ho,fun n q=>?_,fun n hn=>fork_has (h.has _ (hS n hn)),fun n hn=>?_,fun n hn=>?_,h.kp.trans kp⟩
  · rw[he,h.ent]
    by_cases c:n≤j+1∧q=k
    · rw[if_pos c,if_pos ⟨hS n c.1,c.2⟩]
    · rw[if_neg c,if_neg (fun d=>c ⟨?_,d.2⟩)]
      have d1:=d.1
      unfold forkS at d1
      split at d1 <;> omega
  · rw[fork_neK (by omega)]
    exact h.prn n (by omega)
  · rw[fork_bytes]
    exact h.byt _ (hS n hn)
theorem FkJ.fork {m0 m:SpM} {W:UW} {k f j:Nat} {xs:List Nat} (gS:Nat) (a:SpA) (k':SpK) (K:Nat→Prop) (w:World) (h:FkJ m0 m W k f j xs) (hj:j < 3) (h1:SpMem w gS a k' K m) :
    Calls Tryz.prog 21 #[.pointer (some ⟨gS,0,none⟩),.int .i64 0,.int .i64 ((j+1:Nat):Int)] w fun e w'=>∃ k2 m',FkJ m0 m' (forkU W 0 (j+1)) k f (j+1) xs∧SpEnd w gS a k2 K (.int .i64 0) m' e w':=by
  obtain⟨nr,hnr⟩:∃ nr,28 - 4 * j=nr+3+4:=⟨28 - 4 * j - 7,by omega⟩
  have hnr2:28 - 4 * (j+1)=nr+3:=by omega
  have hok:=h.ok
  rw[hnr] at hok
  refine (fork_m gS a k' K m W nr 30 4 w 0 (j+1) (h.has 0 (Nat.zero_le _)).pr_ne (by omega) (h.prn (j+1) (by omega)) h1 hok).mono ?_
  rintro e w' ⟨k2,m',h1,h2,h3,-,h5⟩
  rw[← hnr2] at h2
  exact⟨k2,m',h.next hj h2 h3 h5,h1⟩
structure FkO (m0 m:SpM)(W:UW)(k j:Nat):Prop where
  ok:SpOk m W 16 30 4
  ent:EntF m k j ⟨2,((0:Nat):Int),false⟩
  lk:∀ g,g < 1024→¬ Leak m g
  zo:Zo m
  z:m.p.z=m0.p.z
theorem FkO.of {m0 m m2:SpM}{W W0:UW}{k f j:Nat}{xs:List Nat}(FR:Fr0 1 m0 W0)(h:FkJ m0 m W k f j xs)(hj:j≤3)(ho:SpOk m2 W (28 - 4 * j) 30 4)(hL:LeftR m f ⟨2,((0:Nat):Int),false⟩ m2):FkO m0 m2 W k j:=by
  refine⟨ho.le (by omega) (by omega) (by omega),fun n q=>?_,fun g hg l=>FR.lk g hg (h.kp.lk g hg (hL.lk g hg l)),hL.zo (h.kp.zo FR.zo),hL.z.trans h.kp.z⟩
  rw[hL.ents,h.ent]
  by_cases c:n≤j∧q=k
  · rw[if_pos c,if_pos rfl,if_pos c]
  · rw[if_neg c,if_neg (fun e=>en_ne _ e.symm),if_neg c]
theorem FkO.cnt {m0 m:SpM}{W:UW}{k j:Nat}(h:FkO m0 m W k j):countP m.p 1 3=0:=by
  refine count_no fun g hg hu=>?_
  obtain⟨n,pg,e⟩:=held h.ok.inv (h.lk g hg) hu
  rw[h.ent] at e
  by_cases c:n≤j∧pg=k
  · rw[if_pos c] at e
    exact es_fr _ _ e
  · rw[if_neg c] at e
    exact absurd e.symm (en_ne _)
theorem FkO.used {m0 m:SpM}{W:UW}{k j:Nat}(h:FkO m0 m W k j):usedS m.s 32=1:=by
  refine used_one 0 (by omega) fun t=>?_
  rw[slot_iff h.ok]
  constructor
  · rintro⟨n,q,e⟩
    rw[h.ent] at e
    by_cases c:n≤j∧q=k
    · rw[if_pos c] at e
      have:=es_inj e
      omega
    · rw[if_neg c] at e
      exact absurd e.symm (es_ne _)
  · rintro rfl
    exact⟨0,k,by rw[h.ent,if_pos ⟨Nat.zero_le _,rfl⟩]⟩
structure FkL (m0 m:SpM)(W:UW)(k g j:Nat):Prop where
  ok:SpOk m W 13 28 7
  ent:EntF m k j ⟨1,(g:Int),false⟩
  lk:∀ g,g < 1024→¬ Leak m g
  zo:Zo m
  z:m.p.z=m0.p.z
theorem FkL.of {m0 m m':SpM}{W:UW}{k j n g:Nat}(h:FkO m0 m W k j)(hn:n≤j)(ho:SpOk m' W 13 28 7)(kp:Kp m m')(he:EntsR m n k g g m'):FkL m0 m' W k g j:=by
  refine⟨ho,fun n' q=>?_,fun g hg l=>h.lk g hg (kp.lk g hg l),kp.zo h.zo,kp.z.trans h.z⟩
  have h0:entM m n k=⟨2,((0:Nat):Int),false⟩:=by rw[h.ent,if_pos ⟨hn,rfl⟩]
  rw[he,h0,h.ent]
  by_cases c:n'≤j∧q=k
  · rw[if_pos c,if_pos c]
    by_cases d:n'=n∧q=k
    · rw[if_pos d]
    · rw[if_neg d,if_pos ⟨rfl,rfl⟩]
  · rw[if_neg c,if_neg (fun d=>c ⟨by omega,d.2⟩),if_neg (fun d=>es_ne _ d.2.symm),if_neg c]
theorem FkL.used {m0 m:SpM}{W:UW}{k g j:Nat}(h:FkL m0 m W k g j):usedS m.s 32=0:=by
  refine used_none (no_slots h.ok fun n q t e=>?_)
  rw[h.ent] at e
  by_cases c:n≤j∧q=k
  · rw[if_pos c] at e
    exact es_fr _ _ e.symm
  · rw[if_neg c] at e
    exact es_ne _ e.symm
theorem fk_load {m0 m m5 m6:SpM} {W:UW} {k f j i q l0:Nat} {xs:List Nat} (gS:Nat) (a:SpA) (k':SpK) (K:Nat→Prop) (w:World) (HJ:FkJ m0 m W k f j xs) (HO:FkO m0 m5 W k j) (hm:(i=0∧m6=m5)∨(0 < i∧∃ g:Nat,FkL m0 m6 W k g j)) (hi:i≤j) (hk:k < 8) (hq:q=64 * k) (hl:xs.length=l0) (h0:l0≠0) (h64:l0≤64) (h:SpMem w gS a k' K m6) :
    Calls Tryz.prog 24 #[.pointer (some ⟨gS,0,none⟩),.int .i64 (i:Int),.int .i64 (q:Int),.int .i64 (l0:Int)] w fun e w'=>∃ (v:Value) (m':SpM) (K':Nat→Prop),e=.returned (.tuple #[v,.int .i64 0])∧SpMem w' gS a k' K' m'∧Went w K w' K'∧Bts w' w'.heap.size v xs∧Off K' v∧∃ g:Nat,FkL m0 m' W k g j:=by
  have hin:∀ j,j < l0→inAr aOwn (q+j):=fun j hj=>by rw[hq];exact own_in (xs:=xs) hk (by omega) j (by omega)
  have hby:bytesU W i q l0=xs:=by rw[hq,← hl];exact HJ.byt i hi
  have hdv:q / 64=k:=by rw[hq];omega
  have hma:W.mayAll i q l0 false:=mayAll_one (HJ.has i hi) (fun h=>by cases h) hin
  have hpr:=(HJ.has i hi).pr_ne
  have hx1:q % 64+l0≤64:=by omega
  have hx2:q+l0≤262144:=by omega
  rcases hm with ⟨hi0,rfl⟩ | ⟨hi0,g,hg⟩
  · have hok:SpOk m6 W (7+9) (26+4) 4:=HO.ok
    refine (load_m1 gS a k' K m6 W 7 26 4 w i q l0 hpr (by omega) hx1 hx2 hma h hok).mono ?_
    rintro e w' ⟨v,m',K',h1,h2,h3,h4,h5,h6,h7,g,h8,h9,-⟩
    rw[hby] at h4
    rw[hdv] at h9
    exact⟨v,m',K',h1,h2,h3,h4,h5,g,FkL.of HO hi h6 h7 h9⟩
  · have hok:SpOk m6 W (4+9) (24+4) 7:=hg.ok
    refine (load_m1 gS a k' K m6 W 4 24 7 w i q l0 hpr (by omega) hx1 hx2 hma h hok).mono ?_
    rintro e w' ⟨v,m',K',h1,h2,h3,h4,h5,h6,h7,g2,h8,h9,h10⟩
    rw[hby] at h4
    rw[hdv] at h10
    have e:=h10 (by rw[hg.ent,if_pos ⟨hi,rfl⟩])
    rw[e] at h2
    exact⟨v,m6,K',h1,h2,h3,h4,h5,g,hg⟩
section
variable {w wx:World}{gS:Nat}{a:SpA}{m:SpM}{H:List (Value × List Nat)}{L:List (Nat × TypeId × Array Value)}
theorem q_count {c:Nat}(h:SpQ w wx gS a m H L)(hc:countP m.p 1 3=c):Calls Tryz.prog 22 #[.pointer (some ⟨a.P,0,none⟩),.int .i64 1,.int .i64 3] wx fun e w'=>e=.returned (.int .i64 (c:Int))∧SpQ w w' gS a m H L:=by
  subst hc
  refine q_read h fun k K h1=>?_
  obtain⟨KP,hP,-,-⟩:=h1.poolP
  exact pool_count a.P KP m.p 1 3 wx hP
theorem q_used {c:Nat}(h:SpQ w wx gS a m H L)(hc:usedS m.s 32=c):Calls Tryz.prog 23 #[.pointer (some ⟨a.S,0,none⟩)] wx fun e w'=>e=.returned (.int .i64 (c:Int))∧SpQ w w' gS a m H L:=by
  subst hc
  refine q_read h fun k K h1=>?_
  obtain⟨KS,hS,-,-⟩:=h1.swapP
  exact swap_used a.S KS m.s wx hS
end
end Go.Proofs.YtaonpmclkafjdaaGreat
namespace Go.Proofs.YtaonpmclkafjdaaGreat
open Go.RowKit
set_option linter.unusedVariables false
set_option maxRecDepth 20000 in
set_option maxHeartbeats 2000000 in
theorem evictForked_any (v0:Value) (xs:List Nat) (pb nb:Nat) (w:World) (hv:Bts w w.heap.size v0 xs) (hp:pb < 256) (hn:nb < 256) :
    Calls Tryz.prog 5 #[v0,.int .u8 (pb:Int),.int .u8 (nb:Int)] w fun e w'=>e=.returned (.bool true)∧Below w.heap.size w w':=by
  have HV:=Lib.hid hv
  obtain⟨A0,l0,c0,rfl,e0,-⟩:=hv
  have E0:=Lib.hid e0
  clear e0
  by_cases c:l0=0∨64 < l0
  · have ans:∀ (hh:(l0=0)∨(¬ l0=0∧64 < l0)),Calls Tryz.prog 5 #[.slice A0 l0 c0,.int .u8 (pb:Int),.int .u8 (nb:Int)] w fun e w'=>e=.returned (.bool true)∧Below w.heap.size w w':=by
      rintro (rfl | ⟨h1,h2⟩)
      · go_enter Tryz.func5,Tryz.ntmps5
        go_wp2_with fail
        refine (evAnswers_any w).mono ?_
        rintro e w1 ⟨rfl,hb⟩
        go_wp2
        go_ret
        exact⟨rfl,hb⟩
      · have t0:((l0:Int) == 0)=false:=by simp;omega
        have t1:decide ((64:Int) < (l0:Int))=true:=decide_eq_true (by omega)
        go_enter Tryz.func5,Tryz.ntmps5
        go_wp2_with fail
        refine (evAnswers_any w).mono ?_
        rintro e w1 ⟨rfl,hb⟩
        go_wp2
        go_ret
        exact⟨rfl,hb⟩
    exact ans (by omega)
  · have t0:((l0:Int) == 0)=false:=by simp;omega
    have t1:decide ((64:Int) < (l0:Int))=false:=decide_eq_false (by omega)
    obtain⟨k,hk⟩:∃ k,k=pb % 8:=⟨_,rfl⟩
    have hk8:k < 8:=by omega
    have r1:(pb:Int).tmod 8=(k:Int):=by rw[Int.tmod_eq_emod_of_nonneg (by omega)];omega
    have r1':(pb:Int) % 8=(k:Int):=by omega
    obtain⟨m3,hm3⟩:∃ m3,m3=nb % 3:=⟨_,rfl⟩
    have r2:(nb:Int).tmod 3=(m3:Int):=by rw[Int.tmod_eq_emod_of_nonneg (by omega)];omega
    have r2':(nb:Int) % 3=(m3:Int):=by omega
    obtain⟨M,hM⟩:∃ M,M=m3+1:=⟨_,rfl⟩
    have r3:(m3:Int)+1=(M:Int):=by omega
    obtain⟨q,hq⟩:∃ q,q=64 * k:=⟨_,rfl⟩
    have r4:(64:Int) * (k:Int)=(q:Int):=by omega
    have HP:=Lib.hid (show k < 8∧q=64 * k∧M≤3∧l0≠0∧l0≤64 from ⟨hk8,hq,by omega,by omega,by omega⟩)
    clear hp hn hk hk8 hm3 hM hq c
    go_enter Tryz.func5,Tryz.ntmps5
    go_wp2_with fail
    refine (fresh20_any w).mono ?_
    rintro e w1 ⟨gS,a,m0,W0,rfl,hfr,hq1⟩
    have FR:=Lib.hid hfr
    have HQ1:=Lib.hid hq1
    clear hfr hq1
    go_wp2_with fail
    have hO:=FR.out.has aOwn (.inl rfl)
    refine (q_in HQ1.out HV.out fun k' K h hb ho=>(store_m1 gS a k' K m0 W0 22 28 1 w1 0 q _ xs aOwn hO rfl hb ho (by rw[E0.out];have:=HP.out;omega) (by rw[E0.out];have:=HP.out;omega) (by rw[E0.out];have:=HP.out;omega) (fun j hj=>by rw[HP.out.2.1];exact own_in HP.out.1 (by rw[E0.out];exact HP.out.2.2.2.2) j hj) h FR.out.ok).mono fun e w' h=>(by
      obtain⟨m',h1,h2⟩:=h
      exact⟨k',m',h2,h1⟩)).mono ?_
    rintro e w2 ⟨rfl,m1,hR1,hq2⟩
    have HQ2:=Lib.hid hq2
    obtain⟨f,hsh⟩:=own_stored (k:=k) FR.out HP.out.1 HP.out.2.1 (by rw[E0.out];have:=HP.out;omega) (by rw[E0.out];exact HP.out.2.2.2.2) hR1.1 hR1.2 hq2.lens
    have J0:=Lib.hid (FkJ.zero FR.out HP.out.1 HP.out.2.1 (by rw[E0.out];exact HP.out.2.2.2.2) hR1.1 hsh)
    clear hO hq2 hR1 hsh
    go_wp2_with fail
    go_loopg [10] M (fun gg s10 wr=>∃ i j:Nat,i=j+1∧j+gg=M∧s10=.int .i64 (i:Int)∧∃ (m:SpM) (W:UW),FkJ m0 m W k f j xs∧SpQ w wr gS a m [] [])
    case atStart=>exact⟨1,0,rfl,by omega,rfl,m1,_,J0.out,HQ2.out⟩
    case round =>
      obtain⟨i,j,hij,hig,rfl,m,W,hj,hq⟩:=hrel
      have HJ:=Lib.hid hj
      have HQ:=Lib.hid hq
      clear hj hq
      by_cases hlt:i≤M
      · have t4:decide ((i:Int)≤(M:Int))=true:=decide_eq_true (by omega)
        have t5:(i:Int)≤(M:Int):=by omega
        go_wp2_with fail
        subst hij
        refine (q_of HQ.out fun k' K h=>HJ.out.fork gS a k' K wr (by have:=HP.out;omega) h).mono ?_
        rintro e w3 ⟨rfl,m3,hj3,hq3⟩
        have HJ3:=Lib.hid hj3
        have HQ3:=Lib.hid hq3
        clear hj3 hq3
        go_wp2_with fail
        go_roundg (M - (j+1))
        case measure=>omega
        case rel=>exact⟨j+1+1,j+1,rfl,by omega,congrArg (Value.int .i64) (by have:=HP.out;first | omega | (simp only[wrap64];omega)),m3,_,HJ3.out,HQ3.out⟩
      · obtain rfl:j=M:=by omega
        have t4:decide ((i:Int)≤(j:Int))=false:=decide_eq_false (by omega)
        have t5:¬ (i:Int)≤(j:Int):=by omega
        have hc1:=cnt_one FR.out HJ.out.ok HP.out.1 HJ.out.ent (HJ.out.has 0 (Nat.zero_le _)) (fun g hg l=>FR.out.lk g hg (HJ.out.kp.lk g hg l)) (HJ.out.kp.zo FR.out.zo) HJ.out.kp.z
        have HC1:=Lib.hid hc1
        clear hc1
        obtain⟨kk1,hc1⟩:=HQ.out.cells
        have d1:wr.cell? ⟨gS,2,none⟩=some (.pointer (some ⟨a.P,0,none⟩)):=hc1.cell 2
        clear hc1
        go_wp2_with fail
        refine (q_count HQ.out HC1.out.1).mono ?_
        rintro e w4 ⟨rfl,hq4⟩
        have HQ4:=Lib.hid hq4
        clear hq4 d1
        go_wp2_with fail
        refine (q_of HQ4.out fun k' K h=>(out_ok gS a k' K m w4 W (28 - 4 * j) 30 4 0 k f 0 h HJ.out.ok (by have:=HP.out;omega) (by rw[HJ.out.ent,if_pos ⟨Nat.zero_le _,rfl⟩]) HC1.out.2 (take_zero (no_slots HJ.out.ok fun n q t e=>(by
          rw[HJ.out.ent] at e
          by_cases c:n≤j∧q=k
          · rw[if_pos c] at e
            exact es_fr _ _ e.symm
          · rw[if_neg c] at e
            exact es_ne _ e.symm)))).mono fun e w' h=>(by
          obtain⟨m',h1,h2⟩:=h
          exact⟨k',m',h2,h1⟩)).mono ?_
        rintro e w5 ⟨rfl,m5,⟨ho5,hl5,-⟩,hq5⟩
        have HQ5:=Lib.hid hq5
        have HO:=Lib.hid (FkO.of FR.out HJ.out HP.out.2.2.1 ho5 hl5)
        clear hq5 ho5 hl5
        obtain⟨kk2,hc2⟩:=HQ5.out.cells
        have d2:w5.cell? ⟨gS,2,none⟩=some (.pointer (some ⟨a.P,0,none⟩)):=hc2.cell 2
        clear hc2
        go_wp2_with fail
        refine (q_count HQ5.out HO.out.cnt).mono ?_
        rintro e w6 ⟨rfl,hq6⟩
        have HQ6:=Lib.hid hq6
        clear hq6 d2
        obtain⟨kk3,hc3⟩:=HQ6.out.cells
        have d3:w6.cell? ⟨gS,5,none⟩=some (.pointer (some ⟨a.S,0,none⟩)):=hc3.cell 5
        clear hc3
        go_wp2_with fail
        refine (q_used HQ6.out HO.out.used).mono ?_
        rintro e w7 ⟨rfl,hq7⟩
        have HQ7:=Lib.hid hq7
        clear hq7 d3
        go_wp2_with fail
        go_loopg [15] (j+1) (fun gg s15 wr=>∃ i:Nat,i+gg=j+1∧s15=.int .i64 (i:Int)∧∃ m6:SpM,((i=0∧m6=m5)∨(0 < i∧∃ g:Nat,FkL m0 m6 W k g j))∧SpQ w wr gS a m6 [] [])
        case atStart=>exact⟨0,by omega,rfl,m5,.inl ⟨rfl,rfl⟩,HQ7.out⟩
        case round =>
          obtain⟨i,hig,rfl,m6,hm6,hq⟩:=hrel
          have HM6:=Lib.hid hm6
          have HZ:=Lib.hid hq
          clear hm6 hq
          by_cases hlt:i≤j
          · have t4:decide ((i:Int)≤(j:Int))=true:=decide_eq_true (by omega)
            have t5:(i:Int)≤(j:Int):=by omega
            have LQ:=Lib.hid (q_load HZ.out fun k' K h=>fk_load gS a k' K wr HJ.out HO.out HM6.out hlt HP.out.1 HP.out.2.1 E0.out HP.out.2.2.2.1 HP.out.2.2.2.2 h)
            go_wp2_with fail
            refine LQ.out.mono ?_
            rintro e w8 ⟨v8,m8,rfl,hm8,hq8⟩
            have HM8:=Lib.hid hm8
            have HQ8:=Lib.hid hq8
            clear hm8 hq8
            go_wp2_with fail
            refine (same_any _ _ _ _ _ _ _ (HQ8.out.bts (List.mem_cons_self ..)) (HV.out.below HQ8.out.below)).mono ?_
            rintro e w9 ⟨rfl,mm,rfl⟩
            rw[decide_eq_true rfl]
            have HQ9:=Lib.hid ((HQ8.out.fresh (below_drewN (Below.refl _ _) mm)).drop (H':=[]) (fun x h=>by cases h) (fun x h=>h))
            go_wp2_with fail
            go_roundg (j - i)
            case measure=>omega
            case rel=>exact⟨i+1,by omega,congrArg (Value.int .i64) (by have:=HP.out;first | omega | (simp only[wrap64];omega)),m8,.inr ⟨by omega,HM8.out⟩,HQ9.out⟩
          · obtain rfl:i=j+1:=by omega
            have t4:decide (((j+1:Nat):Int)≤(j:Int))=false:=decide_eq_false (by omega)
            have t5:¬ ((j+1:Nat):Int)≤(j:Int):=by omega
            obtain⟨g,hg⟩:∃ g:Nat,FkL m0 m6 W k g j:=by
              rcases HM6.out with ⟨h,_⟩ | ⟨_,h⟩
              · omega
              · exact h
            have HG:=Lib.hid hg
            have hc2:=(cnt_one FR.out hg.ok HP.out.1 hg.ent (HJ.out.has 0 (Nat.zero_le _)) hg.lk hg.zo hg.z).1
            have HC2:=Lib.hid hc2
            clear hg hc2
            go_wp2_with fail
            refine (evAnswers_any _).mono ?_
            rintro e wa ⟨rfl,hba⟩
            have HQA:=Lib.hid (HZ.out.fresh hba)
            clear hba
            obtain⟨kk4,hc4⟩:=HQA.out.cells
            have d4:wa.cell? ⟨gS,5,none⟩=some (.pointer (some ⟨a.S,0,none⟩)):=hc4.cell 5
            clear hc4
            go_wp2_with fail
            refine (q_used HQA.out HG.out.used).mono ?_
            rintro e wb ⟨rfl,hqb⟩
            have HQB:=Lib.hid hqb
            clear hqb d4
            obtain⟨kk5,hc5⟩:=HQB.out.cells
            have d5:wb.cell? ⟨gS,2,none⟩=some (.pointer (some ⟨a.P,0,none⟩)):=hc5.cell 2
            clear hc5
            go_wp2_with fail
            refine (q_count HQB.out HC2.out).mono ?_
            rintro e wc ⟨rfl,hqc⟩
            have HB:=Lib.hid hqc.below
            clear hqc d5
            go_wp2
            go_ret
            exact⟨rfl,HB.out⟩
end Go.Proofs.YtaonpmclkafjdaaGreat

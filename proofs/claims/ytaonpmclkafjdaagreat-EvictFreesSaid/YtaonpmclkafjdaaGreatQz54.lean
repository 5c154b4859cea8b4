/-
  EvictSync: behind a Sync a file's bytes last, whatever a Crash keeps.
  EvictFull: without a slot nothing goes out, and nothing is another one.
  Two pages that are stored to, and what Out and Drop leave.
  EvictFrees, where no bytes come.
  EvictFrees, where bytes come.
  EvictFrees: what has gone out uses no frame; what was dropped is in none, and is on the disk.
  Conditions: those that each line bears.
-/
import Derived.Test.YtaonpmclkafjdaaGreatQz51
import Derived.Test.YtaonpmclkafjdaaGreatQz53
import Derived.Deep.RegionHeld3
import Derived.BigQuiet
set_option linter.unusedSimpArgs false
set_option linter.unusedSectionVars false
set_option linter.unusedVariables false
namespace Go.Proofs.YtaonpmclkafjdaaGreat
open Go.RowKit
set_option linter.unusedVariables false
theorem win_take {xs:List Nat}{l:Nat}:win xs 0 l=xs.take l:=by unfold win;rw[List.drop_zero]
theorem shr_in {k:Nat}(hk:k < 8){xs:List Nat}(hl:xs.length≤64)(j:Nat)(hj:j < xs.length):inAr aShr (64 * (8+k)+j):=by
  unfold inAr aShr
  simp only
  omega
theorem SpQ.lens {w wx:World}{gS:Nat}{a:SpA}{m:SpM}{H:List (Value × List Nat)}{L:List (Nat × TypeId × Array Value)}(h:SpQ w wx gS a m H L):∀ f,f < 1024→(m.F f).length=64:=by
  obtain⟨k,K,h1,_⟩:=h
  exact h1.lens
section
variable (gS:Nat)(a:SpA)(k:SpK)(K:Nat→Prop)(m:SpM)(w:World)
theorem SpMem.diskD {w w':World}{gS:Nat}{a:SpA}{k:SpK}{K:Nat→Prop}{m:SpM}(h:SpMem w gS a k K m){S':Nat→List Nat}{L':Nat→Option (List Nat)}{T':Tr}(h3:Dsk w' a.D a.D1 a.D2 192 S' L' T')(h4:Turns (dk a.D a.D1 a.D2) w w'):SpMem w' gS a k K (m.setDS S' L' T')∧Went w K w' K:=by
  have hK:=h.diskK
  constructor
  · obtain⟨κ,rfl,h⟩:=h
    obtain⟨h1,h2⟩:=h.ok .D
    refine⟨κ,rfl,fun i j hj=>Nat.lt_of_lt_of_le (h.lt i j hj) h4.size,h.dis,h.x8,fun i=>?_⟩
    by_cases c:i=.D
    · subst c;exact⟨h3,h2⟩
    · have hp:=(h.ok i).far h4.size fun j hj=>h4.block j (h.lt i j hj) fun hd=>c (h.dis i .D j hj ((h2 j).2 hd))
      cases i <;> first | exact hp | exact absurd rfl c
  · refine⟨fun _ h=>.inl h,h4.mono fun j hj=>?_⟩
    rcases hj with rfl | rfl | rfl
    · exact hK.1
    · exact hK.2.1
    · exact hK.2.2
theorem disk_read (s:Nat) (ys:List Nat) (hs:s < 192) (ht:m.T=Tr.none_) (hy:last m.S m.L s=ys) (h:SpMem w gS a k K m) :
    Calls Tryz.prog 16 #[.pointer (some ⟨a.D,0,none⟩),.int .i64 (s:Int)] w fun e w'=>∃ (v:Value) (m':SpM) (K':Nat→Prop),e=.returned (.tuple #[v,.int .i64 0])∧SpMem w' gS a k K' m'∧Went w K w' K'∧Bts w' w'.heap.size v ys∧Off K' v∧m'=m:=by
  subst hy
  have hd:=h.diskP.1
  have hl:=hd.last_ (f:=s) hs
  refine (dread_yes a.D a.D1 a.D2 192 m.S m.L m.T s w hd hs (by rw[ht];rfl)).mono ?_
  rintro e w' ⟨rfl,hb,hd2,ht2,hz⟩
  obtain⟨g1,g2⟩:=h.diskD hd2 ht2
  have e1:m.setDS m.S m.L m.T.next=m:=by
    have:m.T.next=m.T:=by rw[ht];rfl
    rw[this]
    rfl
  rw[e1] at g1
  refine⟨_,m,K,rfl,g1,g2,Bts.of_whole hb hl.1 (by simp[maxLen]) hl.2,fun bk o s n c e hn hk=>?_,rfl⟩
  injection e with e1 e2 e3
  injection e1 with e1
  injection e1 with e1 e2 e3
  have:=h.lt bk hk
  omega
end
end Go.Proofs.YtaonpmclkafjdaaGreat
namespace Go.Proofs.YtaonpmclkafjdaaGreat
open Go.RowKit
set_option linter.unusedVariables false
structure OwS (m0 m1:SpM)(k f:Nat)(xs:List Nat):Prop where
  ent:entM m1 0 k=⟨1,(f:Int),false⟩
  u3:m1.p.u.getD f 0=3
  by_:(m1.F f).take xs.length=xs
  len:(m1.F f).length=64
  lt:f < 1024
  oth:∀ n q,¬ (n=0∧q=k)→entM m1 n q=en0
  kp:Kp m0 m1
theorem own_in {k:Nat}(hk:k < 8){xs:List Nat}(hl:xs.length≤64)(j:Nat)(hj:j < xs.length):inAr aOwn (64 * k+j):=by
  unfold inAr aOwn
  simp only
  omega
theorem own_stored {b:Nat}{m0 m1:SpM}{W0:UW}{nr mv u k x:Nat}{xs:List Nat}(FR:Fr0 b m0 W0)(hk:k < 8)(hx:x=64 * k)(h0:0 < xs.length)(hl:xs.length≤64)(ho:SpOk m1 (storeU W0 0 x xs) nr mv u)(hR:StoR m0 0 (x / 64) aOwn m1)(hlen:∀ f,f < 1024→(m1.F f).length=64):∃ f,OwS m0 m1 k f xs:=by
  subst hx
  obtain⟨kp,f,g,hf,hents,-,h3⟩:=hR
  rw[show 64 * k / 64=k by omega] at hents
  have he:entM m1 0 k=⟨1,(f:Int),false⟩:=by rw[hents,if_pos ⟨rfl,rfl⟩]
  have hO:=FR.has aOwn (.inl rfl)
  obtain⟨s1,s2⟩:=stored_own (x:=64 * k) (b:=xs) hO (by decide) (fun n q=>FR.own n q) (fun j hj=>own_in hk hl j hj)
  have hO2:Has (storeU W0 0 (64 * k) xs) 0 aOwn:=hO.congr (by rw[s1])
  have hin:=own_in hk hl 0 h0
  have hw:=win_page (x:=64 * k) (k:=xs.length) ho.sees (by rw[show 64 * k / 64=k by omega];exact he) (by rw[hO2.area (by have:=hin.1;rwa [Nat.add_zero] at this) (by have:=hin.2;rwa [Nat.add_zero] at this)];simp) (hlen f hf) (by omega)
  rw[show 64 * k % 64=0 by omega,win_take,s2] at hw
  refine⟨f,he,h3 rfl,hw,hlen f hf,hf,fun n q c=>?_,kp⟩
  rw[hents,if_neg c,FR.ent 0 k,if_neg (fun c=>by have:=c.1;exact absurd this (by decide))]
  exact FR.ent n q
section
variable (gS:Nat)(a:SpA)(k:SpK)(K:Nat→Prop)(m:SpM)(w:World)
end
section
variable (gS:Nat)(sa:SpA)(sk:SpK)(K:Nat→Prop)(m:SpM)(W:UW)(w:World)
end
end Go.Proofs.YtaonpmclkafjdaaGreat
namespace Go.Proofs.YtaonpmclkafjdaaGreat
open Go.RowKit
set_option linter.unusedVariables false
theorem stored_sh {W:UW} {n x:Nat} {b:List Nat} {a:Ar} (h:Has W n a) (h0:0≤a.fr) (hk:a.kd=2) (ho:∀ j,j < b.length→W.own n ((x+j) / 64)=none) (hi:∀ j,j < b.length→inAr a (x+j)) :
    (storeU W n x b).pr=W.pr∧bytesU (storeU W n x b) n x b.length=b:=by
  obtain⟨s1,s2,s3⟩:=storeU_shared hk h0 b W x h hi
  refine⟨s1,bytesU_eq fun j hj=>?_⟩
  have hij:=hi j hj
  rw[byte_file (c:=a) (by rw[s2];exact ho j hj) ((UW.area_congr (by rw[s1]) _).trans (h.area hij.1 hij.2)) (by omega) h0 hij.1,s3]
  have h1:=(hi 0 (by omega)).1
  rw[Nat.add_zero] at h1
  have e:FA a (x+j)=FA a x+j:=by unfold FA;omega
  rw[e,if_pos ⟨by omega,by omega⟩,Nat.add_sub_cancel_left]
theorem q_ent {w wx:World} {gS:Nat} {a:SpA} {m:SpM} {H:List (Value × List Nat)} {L:List (Nat × TypeId × Array Value)} {W:UW} {nr mv u n pg:Nat} {x:En} (h:SpQ w wx gS a m H L) (ho:SpOk m W nr mv u) (hp:W.pr n≠none) (hpg:pg < 4096) (hx:entM m n pg=x) :
    ∃ gT:Nat,(Calls Tryz.prog 12 #[.pointer (some ⟨gS,0,none⟩),.int .i64 (n:Int)] wx fun e w'=>e=.returned (.pointer (some ⟨gT,0,none⟩))∧w'=wx) ∧
      Calls Tryz.prog 13 #[.pointer (some ⟨gT,0,none⟩),.int .i64 (pg:Int)] wx fun e w'=>e=.returned (.tuple #[.agg #[.int .i64 x.k,.int .i64 x.n,.bool x.w],.int .i64 0])∧SpQ w w' gS a m H L:=by
  have h0:=h
  obtain⟨k,K,h1,-⟩:=h
  obtain⟨y,hy,-⟩:=ho.sees.proc hp
  refine⟨k.T n,tree_go gS a k K m wx n y h1 hy,(get_at gS a k K m n y pg x hy hpg ho.inv.tabs.bad (ho.inv.tabs.live n y hy) (by rw[← entM_some hy];exact hx) wx h1).mono ?_⟩
  rintro e w' ⟨rfl,hb⟩
  exact⟨rfl,h0.fresh hb⟩
theorem q_use {w wx wy:World} {gS:Nat} {a:SpA} {m:SpM} {H:List (Value × List Nat)} {L:List (Nat × TypeId × Array Value)} {f:Nat} (h:SpQ w wx gS a m H L) (hf:f < 1024) (hu:m.p.u.getD f 0=1) (hb:Below wx.heap.size wx wy) :
    Calls Tryz.prog 17 #[.pointer (some ⟨a.P,0,none⟩),.int .i64 (f:Int)] wy fun e w'=>e=.returned (.int .i64 1)∧Below wx.heap.size wx w':=by
  obtain⟨k,K,h1,-⟩:=h
  obtain⟨KP,hP,-,-⟩:=(h1.fresh hb).poolP
  refine (pool_use a.P KP m.p (f:Int) wy hP).mono ?_
  rintro e w' ⟨rfl,hb'⟩
  refine⟨?_,hb.trans (hb'.mono hb.size)⟩
  unfold useP
  rw[if_pos ⟨by omega,by omega⟩,Int.toNat_natCast,hu]
  rfl
structure Frs (m:SpM)(W:UW)(k f g:Nat)(xs:List Nat):Prop where
  ent:entM m 0 k=⟨1,(f:Int),false⟩
  ent2:entM m 0 (8+k)=⟨1,(g:Int),false⟩
  oth:∀ n q,¬ (n=0∧q=k)→¬ (n=0∧q=8+k)→entM m n q=en0
  u3:m.p.u.getD f 0=3
  fr:frameC m.c ⟨0,(k:Int)⟩=some (g:Int)
  dt:dirtyC m.c ⟨0,(k:Int)⟩=true
  by_:bytesU W 0 (64 * (8+k)) xs.length=xs
  has:Has W 0 aShr
  zo:Zo m
  flt:f < 1024
  glt:g < 1024
  ne:f≠g
theorem two_stored {b:Nat} {m0 m1 m2:SpM} {W0:UW} {nr mv u k f x1 x2:Nat} {xs:List Nat} (FR:Fr0 b m0 W0) (hk:k < 8) (e1:x1=64 * k) (e2:x2=64 * (8+k)) (h0:0 < xs.length) (hl:xs.length≤64) (O1:OwS m0 m1 k f xs)
    (ho:SpOk m2 (storeU (storeU W0 0 x1 xs) 0 x2 xs) nr mv u) (hR:StoR m1 0 (x2 / 64) aShr m2):∃ g,Frs m2 (storeU (storeU W0 0 x1 xs) 0 x2 xs) k f g xs:=by
  subst e1
  subst e2
  obtain⟨kp,g,g',hg,hents,h2,-⟩:=hR
  rw[show 64 * (8+k) / 64=8+k by omega] at hents h2
  obtain⟨f1,f2⟩:=h2 rfl
  have ek:(⟨aShr.fl,aShr.ofs+((8+k:Nat):Int) - aShr.fr⟩:Pl)=⟨0,(k:Int)⟩:=by
    rw[Pl.mk.injEq]
    refine⟨rfl,?_⟩
    show (0:Int)+((8+k:Nat):Int) - 8=_
    omega
  rw[ek] at f1 f2
  have hz:¬ (entM m1 0 (8+k)).k=2:=by
    rw[O1.oth 0 (8+k) (by omega)]
    decide
  have he2:entM m2 0 (8+k)=⟨1,(g:Int),false⟩:=by rw[hents,if_pos ⟨rfl,rfl⟩]
  have he:entM m2 0 k=⟨1,(f:Int),false⟩:=by
    rw[hents,if_neg (by omega),if_neg (fun c=>hz c.1)]
    exact O1.ent
  have hoth:∀ n q,¬ (n=0∧q=k)→¬ (n=0∧q=8+k)→entM m2 n q=en0:=by
    intro n q c1 c2
    rw[hents,if_neg c2,if_neg (fun c=>hz c.1)]
    exact O1.oth n q c1
  have hi1:=fun j hj=>own_in hk hl j hj
  obtain⟨s1,s2,s3,s4,s5,s6,s7⟩:=storeU_own (n:=0) (a:=aOwn) (by decide) xs W0 (64 * k) (FR.has aOwn (.inl rfl)) hi1
  have hS1:Has (storeU W0 0 (64 * k) xs) 0 aShr:=(FR.has aShr (.inr (.inl rfl))).congr (by rw[s1])
  have hin:∀ j,j < xs.length→inAr aShr (64 * (8+k)+j):=fun j hj=>shr_in hk hl j hj
  obtain⟨t1,t2⟩:=stored_sh (x:=64 * (8+k)) (b:=xs) hS1 (by decide) rfl (fun j hj=>by
    rw[s6 _ (fun i hi=>by omega)]
    exact FR.own 0 _) hin
  have hS2:Has (storeU (storeU W0 0 (64 * k) xs) 0 (64 * (8+k)) xs) 0 aShr:=hS1.congr (by rw[t1])
  have hO2:Has (storeU (storeU W0 0 (64 * k) xs) 0 (64 * (8+k)) xs) 0 aOwn:=(FR.has aOwn (.inl rfl)).congr (by rw[t1,s1])
  have hu3:m2.p.u.getD f 0=3:=by
    obtain⟨_,r',hr',d⟩:=ho.inv.ent_lt he
    have hz0:=hi1 0 h0
    rw[Nat.add_zero] at hz0
    have hz1:=hO2.area hz0.1 hz0.2
    rw[show 64 * k / 64=k by omega] at hz1
    have hr2:arM m2 0 k=some aOwn:=(ho.sees.area _ _).symm.trans hz1
    rw[hr2] at hr'
    injection hr' with hr'
    subst hr'
    rcases d with d | d
    · exact d.1
    · exact absurd rfl d.2.1
  obtain⟨g2,eg,_,u4⟩:=ho.inv.key_use f1
  obtain rfl:g=g2:=by omega
  refine⟨g,he,he2,hoth,hu3,f1,f2,t2,hS2,kp.zo (O1.kp.zo FR.zo),O1.lt,hg,fun c=>?_⟩
  rw[c,u4] at hu3
  omega
theorem Frs.none_ {m:SpM}{W:UW}{k f g nr mv u:Nat}{xs:List Nat}(h:Frs m W k f g xs)(ho:SpOk m W nr mv u):TakeIs m.s (some 0):=by
  refine take_zero (no_slots ho fun n q t e=>?_)
  by_cases c1:n=0∧q=k
  · rw[c1.1,c1.2,h.ent] at e;exact es_fr _ _ e.symm
  · by_cases c2:n=0∧q=8+k
    · rw[c2.1,c2.2,h.ent2] at e;exact es_fr _ _ e.symm
    · rw[h.oth n q c1 c2] at e;exact es_ne _ e.symm
theorem Frs.left {m m3:SpM}{W:UW}{k f g nr mv u:Nat}{xs:List Nat}(h:Frs m W k f g xs)(hk:k < 8)(h0:0 < xs.length)(hl:xs.length≤64)(ho:SpOk m3 W nr mv u)(hL:LeftR m f ⟨2,((0:Nat):Int),false⟩ m3)(hlen:∀ f,f < 1024→(m3.F f).length=64):(m3.F g).take xs.length=xs:=by
  have hx:(⟨1,(g:Int),false⟩:En)≠⟨1,(f:Int),false⟩:=fun e=>h.ne (by injection e with _ e _;omega)
  have he:entM m3 0 (8+k)=⟨1,(g:Int),false⟩:=by rw[hL.ents,h.ent2,if_neg hx]
  have hin:=shr_in hk hl 0 h0
  have hw:=win_page (x:=64 * (8+k)) (k:=xs.length) ho.sees (by rw[show 64 * (8+k) / 64=8+k by omega];exact he) (by rw[h.has.area (by have:=hin.1;rwa [Nat.add_zero] at this) (by have:=hin.2;rwa [Nat.add_zero] at this)];simp) (hlen g h.glt) (by omega)
  rwa [show 64 * (8+k) % 64=0 by omega,win_take,h.by_] at hw
theorem Frs.end_ {m m3 m4:SpM}{W:UW}{k f g:Nat}{xs:List Nat}(h:Frs m W k f g xs)(hL:LeftR m f ⟨2,((0:Nat):Int),false⟩ m3)(hL2:LeftR m3 g en0 m4):entM m4 0 k=⟨2,0,false⟩∧m4.p.u.getD f 0=1∧m4.p.u.getD g 0=1:=by
  have h3:entM m3 0 k=⟨2,0,false⟩:=by rw[hL.ents,h.ent,if_pos rfl];rfl
  refine⟨?_,?_,hL2.uf⟩
  · rw[hL2.ents,h3,if_neg (by intro e;injection e with e _ _;exact absurd e (by decide))]
  · rw[hL2.u3 f h.flt h.ne (by rw[hL.z];exact h.zo.all 0 k f h.ent)]
    exact hL.uf
end Go.Proofs.YtaonpmclkafjdaaGreat
namespace Go.Proofs.YtaonpmclkafjdaaGreat
open Go.RowKit
set_option linter.unusedVariables false
set_option maxRecDepth 20000 in
set_option maxHeartbeats 8000000 in
theorem evictFrees_zero (A0:Option Addr) (l0 c0:Nat) (xs:List Nat) (pb:Nat) (w:World) (hv:Bts w w.heap.size (.slice A0 l0 c0) xs) (c:l0=0) (hp:pb < 256) :
    Calls Tryz.prog 3 #[.slice A0 l0 c0,.int .u8 (pb:Int)] w fun e w'=>e=.returned (.bool true)∧Below w.heap.size w w':=by
    have HV:=Lib.hid hv
    have E0:=Lib.hid (show xs.length=l0 from (by obtain⟨_,_,_,e,h,-⟩:=hv;injection e with _ e2 _;rw[e2];exact h))
    clear hv
    obtain rfl:=c
    have t0:decide ((64:Int) < ((0:Nat):Int))=false:=rfl
    have t1:(((0:Nat):Int) == 0)=true:=rfl
    have c0':xs=[]:=List.length_eq_zero_iff.1 E0.out
    obtain⟨k,hk⟩:∃ k,k=pb % 8:=⟨_,rfl⟩
    have hk8:k < 8:=by omega
    have r1:(pb:Int).tmod 8=(k:Int):=by rw[Int.tmod_eq_emod_of_nonneg (by omega)];omega
    have r1':(pb:Int) % 8=(k:Int):=by omega
    obtain⟨k8,hk8'⟩:∃ k8,k8=8+k:=⟨_,rfl⟩
    have r2:(8:Int)+(k:Int)=(k8:Int):=by omega
    obtain⟨q,hq⟩:∃ q,q=64 * k8:=⟨_,rfl⟩
    have r3:(64:Int) * (k8:Int)=(q:Int):=by omega
    obtain⟨s9,hs9⟩:∃ s9,s9=96+k:=⟨_,rfl⟩
    have r4:(96:Int)+(k:Int)=(s9:Int):=by omega
    obtain⟨q1,hq1⟩:∃ q1,q1=64 * k:=⟨_,rfl⟩
    have r5:(64:Int) * (k:Int)=(q1:Int):=by omega
    have HP:=Lib.hid (show k < 8∧q=64 * (8+k)∧s9=96+k∧k8=8+k∧q1=64 * k∧xs=[] from ⟨hk8,by rw[hq,hk8'],hs9,hk8',hq1,c0'⟩)
    clear hp hk hk8 hk8' hq hs9 hq1 c0'
    go_enter Tryz.func3,Tryz.ntmps3
    go_wp2_with fail
    refine (fresh20_any w).mono ?_
    rintro e w1 ⟨gS,a,m0,W0,rfl,hfr,hq1⟩
    have FR:=Lib.hid hfr
    have HQ1:=Lib.hid hq1
    clear hfr hq1
    go_wp2_with fail
    refine (q_in (R:=fun m'=>m'=m0) HQ1.out HV.out fun k' K h hb ho=>(store_none gS a k' K m0 W0 22 28 1 w1 0 q1 _ (by rw[FR.out.pr];simp) (by rw[HP.out.2.2.2.2.2] at hb;exact hb) (by have:=HP.out;omega) h FR.out.ok ho).mono fun e w' h=>⟨k',_,rfl,h⟩).mono ?_
    rintro e w2 ⟨rfl,mm,hmm,hq2⟩
    rw[hmm] at hq2
    have HQ2:=Lib.hid hq2
    clear hq2 hmm mm
    go_wp2_with fail
    refine (q_in (R:=fun m'=>m'=m0) HQ2.out HV.out fun k' K h hb ho=>(store_none gS a k' K m0 W0 22 28 1 w2 0 q _ (by rw[FR.out.pr];simp) (by rw[HP.out.2.2.2.2.2] at hb;exact hb) (by have:=HP.out;omega) h FR.out.ok ho).mono fun e w' h=>⟨k',_,rfl,h⟩).mono ?_
    rintro e w3 ⟨rfl,mm,hmm,hq3⟩
    rw[hmm] at hq3
    have HQ3:=Lib.hid hq3
    clear hq3 hmm mm
    obtain⟨gT1,hT1,hG1⟩:=q_ent HQ3.out FR.out.ok (by rw[FR.out.pr];simp) (pg:=k) (by have:=HP.out;omega) (x:=en0) (FR.out.ent 0 k)
    have HT1:=Lib.hid hT1
    have HG1:=Lib.hid hG1
    clear hT1 hG1
    go_wp2_with fail
    refine HT1.out.mono ?_
    rintro e w' ⟨rfl,rfl⟩
    go_wp2_with fail
    refine HG1.out.mono ?_
    rintro e w4 ⟨rfl,hqe1⟩
    have HM1:=Lib.hid (hqe1.made 29 #[.int .i64 0,.int .i64 0,.bool false])
    clear hqe1
    obtain⟨gT2,hT2,hG2⟩:=q_ent HM1.out FR.out.ok (by rw[FR.out.pr];simp) (pg:=k8) (by have:=HP.out;omega) (x:=en0) (FR.out.ent 0 k8)
    have HT2:=Lib.hid hT2
    have HG2:=Lib.hid hG2
    clear hT2 hG2
    go_wp2_with fail
    refine HT2.out.mono ?_
    rintro e w' ⟨rfl,rfl⟩
    go_wp2_with fail
    refine HG2.out.mono ?_
    rintro e w5 ⟨rfl,hqe2⟩
    have HM2:=Lib.hid (hqe2.made 29 #[.int .i64 0,.int .i64 0,.bool false])
    clear hqe2
    go_wp2_with fail
    refine (evAnswers_any _).mono ?_
    rintro e w6 ⟨rfl,hb6⟩
    have HQ6:=Lib.hid (HM2.out.fresh hb6)
    clear hb6
    obtain⟨y,hy,-⟩:=FR.out.ok.sees.proc (n:=0) (by rw[FR.out.pr];simp)
    have HY:=Lib.hid hy
    clear hy
    have x0:w6.cell? ⟨w4.heap.size,0,none⟩=some (.int .i64 0):=(HQ6.out.blk (List.mem_cons_of_mem _ (List.mem_cons_self ..))).cell 0
    go_wp2_with fail
    refine (q_read HQ6.out fun k' K h=>out_none gS a k' K m0 w6 0 y k 0 0 false (by have:=FR.out.ent 0 k;rw[entM_some HY.out] at this;exact this) (by decide) HY.out (by have:=HP.out;omega) FR.out.ok.inv.tabs.bad (FR.out.ok.inv.tabs.live 0 y HY.out) h).mono ?_
    rintro e w7 ⟨rfl,hq7⟩
    have HB:=Lib.hid hq7.below
    clear hq7 x0
    go_wp2
    go_ret
    exact⟨rfl,HB.out⟩
end Go.Proofs.YtaonpmclkafjdaaGreat
namespace Go.Proofs.YtaonpmclkafjdaaGreat
open Go.RowKit
set_option linter.unusedVariables false
set_option maxRecDepth 20000 in
set_option maxHeartbeats 8000000 in
theorem evictFrees_some (A0:Option Addr) (l0 c0:Nat) (xs:List Nat) (pb:Nat) (w:World) (hv:Bts w w.heap.size (.slice A0 l0 c0) xs) (c:0 < l0∧l0≤64) (hp:pb < 256) :
    Calls Tryz.prog 3 #[.slice A0 l0 c0,.int .u8 (pb:Int)] w fun e w'=>e=.returned (.bool true)∧Below w.heap.size w w':=by
    have HV:=Lib.hid hv
    have E0:=Lib.hid (show xs.length=l0 from (by obtain⟨_,_,_,e,h,-⟩:=hv;injection e with _ e2 _;rw[e2];exact h))
    clear hv
    have t0:decide ((64:Int) < (l0:Int))=false:=decide_eq_false (by omega)
    have t1:((l0:Int) == 0)=false:=by simp;omega
    obtain⟨k,hk⟩:∃ k,k=pb % 8:=⟨_,rfl⟩
    have hk8:k < 8:=by omega
    have r1:(pb:Int).tmod 8=(k:Int):=by rw[Int.tmod_eq_emod_of_nonneg (by omega)];omega
    have r1':(pb:Int) % 8=(k:Int):=by omega
    obtain⟨k8,hk8'⟩:∃ k8,k8=8+k:=⟨_,rfl⟩
    have r2:(8:Int)+(k:Int)=(k8:Int):=by omega
    obtain⟨q,hq⟩:∃ q,q=64 * k8:=⟨_,rfl⟩
    have r3:(64:Int) * (k8:Int)=(q:Int):=by omega
    obtain⟨s9,hs9⟩:∃ s9,s9=96+k:=⟨_,rfl⟩
    have r4:(96:Int)+(k:Int)=(s9:Int):=by omega
    obtain⟨q1,hq1⟩:∃ q1,q1=64 * k:=⟨_,rfl⟩
    have r5:(64:Int) * (k:Int)=(q1:Int):=by omega
    have HP:=Lib.hid (show k < 8∧q=64 * (8+k)∧s9=96+k∧k8=8+k∧q1=64 * k∧l0≠0∧l0≤64 from ⟨hk8,by rw[hq,hk8'],hs9,hk8',hq1,by omega,by omega⟩)
    clear hp hk hk8 hk8' hq hs9 hq1 c
    go_enter Tryz.func3,Tryz.ntmps3
    go_wp2_with fail
    refine (fresh20_any w).mono ?_
    rintro e w1 ⟨gS,a,m0,W0,rfl,hfr,hq1⟩
    have FR:=Lib.hid hfr
    have HQ1:=Lib.hid hq1
    clear hfr hq1
    go_wp2_with fail
    have hO:=FR.out.has aOwn (.inl rfl)
    refine (q_in HQ1.out HV.out fun k' K h hb ho=>(store_m gS a k' K m0 W0 22 28 1 w1 0 q1 _ xs aOwn hO rfl hb ho (by rw[E0.out];have:=HP.out;omega) (by rw[E0.out];have:=HP.out;omega) (by rw[E0.out];have:=HP.out;omega) (fun j hj=>by rw[HP.out.2.2.2.2.1];exact own_in HP.out.1 (by rw[E0.out];exact HP.out.2.2.2.2.2.2) j hj) h FR.out.ok).mono fun e w' h=>(by
      obtain⟨m',h1,h2⟩:=h
      exact⟨k',m',h2,h1⟩)).mono ?_
    rintro e w2 ⟨rfl,m1,hR1,hq2⟩
    have HQ2:=Lib.hid hq2
    obtain⟨f,hsh⟩:=own_stored (k:=k) FR.out HP.out.1 HP.out.2.2.2.2.1 (by rw[E0.out];have:=HP.out;omega) (by rw[E0.out];exact HP.out.2.2.2.2.2.2) hR1.1 hR1.2 hq2.lens
    have OW:=Lib.hid hsh
    have HO1:=Lib.hid hR1.1
    have hs1:Has (storeU W0 0 q1 xs) 0 aShr:=(FR.out.has aShr (.inr (.inl rfl))).congr (by rw[(stored_own (x:=q1) (b:=xs) (FR.out.has aOwn (.inl rfl)) (by decide) (fun n q=>FR.out.own n q) (fun j hj=>by rw[HP.out.2.2.2.2.1];exact own_in HP.out.1 (by rw[E0.out];exact HP.out.2.2.2.2.2.2) j hj)).1])
    have HS1:=Lib.hid hs1
    clear hO hq2 hR1 hsh hs1
    go_wp2_with fail
    refine (q_in HQ2.out HV.out fun k' K h hb ho=>(store_m gS a k' K m1 (storeU W0 0 q1 xs) 16 24 7 w2 0 q _ xs aShr HS1.out rfl hb ho (by rw[E0.out];have:=HP.out;omega) (by rw[E0.out];have:=HP.out;omega) (by rw[E0.out];have:=HP.out;omega) (fun j hj=>by rw[HP.out.2.1];exact shr_in HP.out.1 (by rw[E0.out];exact HP.out.2.2.2.2.2.2) j hj) h HO1.out).mono fun e w' h=>(by
      obtain⟨m',h1,h2⟩:=h
      exact⟨k',m',h2,h1⟩)).mono ?_
    rintro e w3 ⟨rfl,m2,hR2,hq3⟩
    have HQ3:=Lib.hid hq3
    obtain⟨g,hfs⟩:=two_stored FR.out HP.out.1 HP.out.2.2.2.2.1 HP.out.2.1 (by rw[E0.out];have:=HP.out;omega) (by rw[E0.out];exact HP.out.2.2.2.2.2.2) OW.out hR2.1 hR2.2
    have FS:=Lib.hid hfs
    have HO2:=Lib.hid hR2.1
    obtain⟨W2,hW2⟩:∃ W2,W2=storeU (storeU W0 0 q1 xs) 0 q xs:=⟨_,rfl⟩
    rw[← hW2] at FS HO2
    have hpr2:W2.pr 0≠none:=FS.out.has.pr_ne
    have HPR:=Lib.hid hpr2
    clear hq3 hR2 hfs hW2 hpr2
    obtain⟨gT1,hT1,hG1⟩:=q_ent HQ3.out HO2.out HPR.out (pg:=k) (by have:=HP.out;omega) FS.out.ent
    have HT1:=Lib.hid hT1
    have HG1:=Lib.hid hG1
    clear hT1 hG1
    go_wp2_with fail
    refine HT1.out.mono ?_
    rintro e w' ⟨rfl,rfl⟩
    go_wp2_with fail
    refine HG1.out.mono ?_
    rintro e w4 ⟨rfl,hqe1⟩
    have HM1:=Lib.hid (hqe1.made 29 #[.int .i64 1,.int .i64 (f:Int),.bool false])
    clear hqe1
    obtain⟨gT2,hT2,hG2⟩:=q_ent HM1.out HO2.out HPR.out (pg:=k8) (by have:=HP.out;omega) (x:=⟨1,(g:Int),false⟩) (by rw[HP.out.2.2.2.1];exact FS.out.ent2)
    have HT2:=Lib.hid hT2
    have HG2:=Lib.hid hG2
    clear hT2 hG2
    go_wp2_with fail
    refine HT2.out.mono ?_
    rintro e w' ⟨rfl,rfl⟩
    go_wp2_with fail
    refine HG2.out.mono ?_
    rintro e w5 ⟨rfl,hqe2⟩
    have HM2:=Lib.hid (hqe2.made 29 #[.int .i64 1,.int .i64 (g:Int),.bool false])
    clear hqe2
    go_wp2_with fail
    refine (q_of HM2.out fun k' K h=>(out_ok gS a k' K m2 _ W2 19 24 13 0 k f 0 h HO2.out (by omega) FS.out.ent FS.out.u3 (FS.out.none_ HO2.out)).mono fun e w' h=>(by
      obtain⟨m',h1,h2⟩:=h
      exact⟨k',m',h2,h1⟩)).mono ?_
    rintro e w6 ⟨rfl,m3,⟨ho3,hl3,hc3,-⟩,hq6⟩
    have HQ6:=Lib.hid hq6
    have HO3:=Lib.hid ho3
    have HL3:=Lib.hid hl3
    have HC3:=Lib.hid hc3
    have hby:(m3.F g).take l0=xs∧(m3.F g).length=64:=⟨by rw[← E0.out];exact FS.out.left HP.out.1 (by rw[E0.out];have:=HP.out;omega) (by rw[E0.out];exact HP.out.2.2.2.2.2.2) ho3 hl3 hq6.lens,hq6.lens g FS.out.glt⟩
    have HBY:=Lib.hid hby
    clear hq6 ho3 hl3 hc3 hby
    go_wp2_with fail
    refine (q_of HQ6.out fun k' K h=>(drop_dirty gS a k' K m3 w6 W2 19 24 13 0 k g (by omega) (by have:=HP.out;omega) h HO3.out (by omega) (by rw[HC3.out];exact FS.out.fr) (by rw[HC3.out];exact FS.out.dt)).mono fun e w' h=>(by
      obtain⟨m',h1,h2⟩:=h
      exact⟨k',m',h2,h1⟩)).mono ?_
    rintro e w7 ⟨rfl,m4,⟨ho4,hl4,hc4,hd4⟩,hq7⟩
    have HQ7:=Lib.hid hq7
    have HO4:=Lib.hid ho4
    have hen:=FS.out.end_ HL3.out hl4
    have HEN:=Lib.hid hen
    have HC4:=Lib.hid (show frameC m4.c ⟨((0:Nat):Int),(k:Int)⟩=none by rw[hc4,if_pos rfl])
    have HD4:=Lib.hid (show last m4.S m4.L s9=m3.F g by rw[HP.out.2.2.1];rw[show 96+(16 * 0+k)=96+k by omega] at hd4;exact hd4)
    clear hq7 ho4 hl4 hc4 hd4 hen
    go_wp2_with fail
    refine (q_read HQ7.out fun k' K h=>evdrop_none gS a k' K m4 w7 0 k (by omega) (by have:=HP.out;omega) HC4.out h).mono ?_
    rintro e w8 ⟨rfl,hq8⟩
    have HQ8:=Lib.hid hq8
    clear hq8
    obtain⟨gT3,hT3,hG3⟩:=q_ent HQ8.out HO4.out HPR.out (pg:=k) (by have:=HP.out;omega) HEN.out.1
    have HT3:=Lib.hid hT3
    have HG3:=Lib.hid hG3
    clear hT3 hG3
    go_wp2_with fail
    refine HT3.out.mono ?_
    rintro e w' ⟨rfl,rfl⟩
    go_wp2_with fail
    refine HG3.out.mono ?_
    rintro e w9 ⟨rfl,hqe3⟩
    have HM3:=Lib.hid (hqe3.made 29 #[.int .i64 2,.int .i64 0,.bool false])
    clear hqe3
    have ht4:m4.T=Tr.none_:=HO4.out.inv.tr
    obtain⟨kk1,hc1⟩:=HM3.out.cells
    have d1:(w9.alloc (.cells #[.int .i64 2,.int .i64 0,.bool false] 29)).cell? ⟨gS,1,none⟩=some (.pointer (some ⟨a.D,0,none⟩)):=hc1.cell 1
    clear hc1
    go_wp2_with fail
    refine (q_load (ys:=m3.F g) (R:=fun m'=>m'=m4) HM3.out fun k' K h=>(disk_read gS a k' K m4 _ s9 _ (by have:=HP.out;omega) ht4 HD4.out h).mono fun e w' h=>(by
      exact h)).mono ?_
    rintro e wa ⟨va,m5,rfl,hm5,hqa⟩
    rw[hm5] at hqa
    have HQA:=Lib.hid hqa
    have hbx:=hqa.bts (List.mem_cons_self ..)
    obtain⟨A9,n9,c9,rfl,hn9,hm9,⟨hnc9,hA9⟩,hcm9,-,hx9⟩:=id hbx
    obtain rfl:64=n9:=HBY.out.2.symm.trans hn9
    have hl0:l0≠0∧l0≤64:=HP.out.2.2.2.2.2
    have tc:¬ c9=0:=by omega
    obtain⟨bk9,o9,rfl,-⟩:=hx9 (by omega)
    have hle:(l0:Int)≤(c9:Int):=by omega
    have hle2:l0≤c9:=by omega
    have hle3:(0:Int)≤(l0:Int):=by omega
    have h64:((64:Nat):Int)=64:=rfl
    obtain⟨ka,hca⟩:=hqa.cells
    have kS:=hca.lt
    have bz:=hqa.blk (List.mem_cons_self ..)
    have by_:=hqa.blk (List.mem_cons_of_mem _ (List.mem_cons_self ..))
    have bx:=hqa.blk (List.mem_cons_of_mem _ (List.mem_cons_of_mem _ (List.mem_cons_self ..)))
    have KEEP:=Lib.hid (fun (V:World) (hV:Below wa.heap.size wa V)=>(⟨(hca.below hV hca.lt).cell 2,(bx.below hV bx.lt).cell 0,(bx.below hV bx.lt).cell 1,(by_.below hV by_.lt).cell 1,(bz.below hV bz.lt).cell 0,hV⟩:V.cell? ⟨gS,2,none⟩=some (.pointer (some ⟨a.P,0,none⟩))∧V.cell? ⟨w4.heap.size,0,none⟩=some (.int .i64 1)∧V.cell? ⟨w4.heap.size,1,none⟩=some (.int .i64 (f:Int))∧V.cell? ⟨w5.heap.size,1,none⟩=some (.int .i64 (g:Int))∧V.cell? ⟨w9.heap.size,0,none⟩=some (.int .i64 2)∧Below wa.heap.size wa V))
    have BR:=Lib.hid (Below.refl wa.heap.size wa)
    have AQ:=Lib.hid (fun (V:World) (hV:Below wa.heap.size wa V)=>((evAnswers_any V).mono (fun e w' h=>⟨h.1,hV.trans (h.2.mono hV.size)⟩):Calls Tryz.prog 9 #[] V fun e w'=>e=.returned (.bool true)∧Below wa.heap.size wa w'))
    have UX:=Lib.hid (fun (V:World) (hV:Below wa.heap.size wa V)=>q_use HQA.out FS.out.flt HEN.out.2.1 hV)
    have UY:=Lib.hid (fun (V:World) (hV:Below wa.heap.size wa V)=>q_use HQA.out FS.out.glt HEN.out.2.2 hV)
    have SQ:=Lib.hid (fun (V:World) (hV:Below wa.heap.size wa V)=>((same_any _ _ _ _ _ _ _ (((HQA.out.fresh hV).bts (List.mem_cons_self ..)).front l0 (by omega)) (HV.out.below (HQA.out.fresh hV).below)).mono (by
      rintro e w' ⟨rfl,mm,rfl⟩
      rw[decide_eq_true HBY.out.1]
      exact⟨rfl,below_drewN hV mm⟩):Calls Tryz.prog 18 #[.slice (some ⟨bk9,o9,none⟩) l0 c9,.slice A0 l0 c0] V fun e w'=>e=.returned (.bool true)∧Below wa.heap.size wa w'))
    have HB:=Lib.hid hqa.below
    clear hqa hbx hx9 hn9 hm9 hA9 hcm9 hca bz by_ bx d1 hm5 ht4 kS
    go_wp2_with fail
    go_region_held3 (fun w'=>w'.cell? ⟨gS,2,none⟩=some (.pointer (some ⟨a.P,0,none⟩))∧w'.cell? ⟨w4.heap.size,0,none⟩=some (.int .i64 1)∧w'.cell? ⟨w4.heap.size,1,none⟩=some (.int .i64 (f:Int))∧w'.cell? ⟨w5.heap.size,1,none⟩=some (.int .i64 (g:Int))∧w'.cell? ⟨w9.heap.size,0,none⟩=some (.int .i64 2)∧Below wa.heap.size wa w')
      (first | with_reducible assumption | with_reducible exact KEEP.out _ BR.out.drew | with_reducible exact KEEP.out _ (by with_reducible assumption))
      (first
        | (go_at_call 9;refine (AQ.out _ ?_).mono ?_;(first | with_reducible assumption | with_reducible exact BR.out.drew);rintro e wb ⟨rfl,hbb⟩)
        | (go_at_call 17;with_reducible refine (UX.out _ ?_).mono ?_;(first | with_reducible assumption | with_reducible exact BR.out.drew);rintro e wb ⟨rfl,hbb⟩)
        | (go_at_call 17;with_reducible refine (UY.out _ ?_).mono ?_;(first | with_reducible assumption | with_reducible exact BR.out.drew);rintro e wb ⟨rfl,hbb⟩)
        | (go_at_call 18;refine (SQ.out _ ?_).mono ?_;(first | with_reducible assumption | with_reducible exact BR.out.drew);rintro e wb ⟨rfl,hbb⟩))
    go_wp2
    go_ret
    exact⟨rfl,HB.out.trans (Below.mono (by assumption) HB.out.size)⟩
end Go.Proofs.YtaonpmclkafjdaaGreat
namespace Go.Proofs.YtaonpmclkafjdaaGreat
open Go.RowKit
set_option linter.unusedVariables false
set_option maxRecDepth 20000 in
set_option maxHeartbeats 2000000 in
theorem evictFrees_any (v0:Value) (xs:List Nat) (pb:Nat) (w:World) (hv:Bts w w.heap.size v0 xs) (hp:pb < 256) :
    Calls Tryz.prog 3 #[v0,.int .u8 (pb:Int)] w fun e w'=>e=.returned (.bool true)∧Below w.heap.size w w':=by
  have hv0:=hv
  obtain⟨A0,l0,c0,rfl,-⟩:=hv
  by_cases c1:l0=0
  · exact evictFrees_zero A0 l0 c0 xs pb w hv0 c1 hp
  · by_cases c2:l0≤64
    · exact evictFrees_some A0 l0 c0 xs pb w hv0 ⟨by omega,c2⟩ hp
    · have t1:decide ((64:Int) < (l0:Int))=true:=decide_eq_true (by omega)
      clear hv0
      go_enter Tryz.func3,Tryz.ntmps3
      go_wp2_with fail
      refine (evAnswers_any w).mono ?_
      rintro e w1 ⟨rfl,hb⟩
      go_wp2
      go_ret
      exact⟨rfl,hb⟩
end Go.Proofs.YtaonpmclkafjdaaGreat

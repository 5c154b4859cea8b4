/-
  What a program that does nothing does not answer.
  SpaceSignals: at most so many signals wait; the first ones, in order.
  What a program that does nothing does not answer: a page goes out and comes again.
  Conditions: those that each line bears.
-/
import Derived.Test.YtaonpmclkafjdaaGreatQz50
import Derived.Lib.SlBytesConst
import Derived.Deep.LoopGhost
import Derived.OpenShut
import Derived.BigQuiet
import Derived.Deep.QuietTactic
set_option linter.unusedSimpArgs false
set_option linter.unusedSectionVars false
set_option linter.unusedVariables false
namespace Go.Proofs.YtaonpmclkafjdaaGreat
open Go.RowKit
set_option linter.unusedVariables false
def eight:List Nat:=[97,98,99,100,101,102,103,104]
end Go.Proofs.YtaonpmclkafjdaaGreat
namespace Go.Proofs.YtaonpmclkafjdaaGreat
open Go.RowKit
set_option linter.unusedVariables false
end Go.Proofs.YtaonpmclkafjdaaGreat
namespace Go.Proofs.YtaonpmclkafjdaaGreat
open Go.RowKit
set_option linter.unusedVariables false
theorem no_slots {m:SpM}{W:UW}{nr mv u:Nat}(ho:SpOk m W nr mv u)(hn:∀ n q (t:Nat),entM m n q≠⟨2,(t:Int),false⟩)(t:Nat):m.s t=[]:=by
  refine List.eq_nil_iff_forall_not_mem.2 fun q hq=>?_
  obtain⟨n,hn8,hq2⟩:=List.mem_flatMap.1 (ho.inv.sin t q hq)
  obtain⟨pg,hp,rfl⟩:=List.mem_map.1 hq2
  cases hx:m.x n with
  | none=>exact ho.fre t n _ hx hq
  | some y=>exact hn n pg t ((ho.inv.slot t n pg (by rw[hx];simp)).1 hq)
theorem slot_iff {m:SpM}{W:UW}{nr mv u:Nat}(ho:SpOk m W nr mv u)(t:Nat):m.s t≠[]↔∃ n q,entM m n q=⟨2,(t:Int),false⟩:=by
  constructor
  · intro h
    obtain⟨q,hq⟩:=List.exists_mem_of_ne_nil _ h
    obtain⟨n,hn8,hq2⟩:=List.mem_flatMap.1 (ho.inv.sin t q hq)
    obtain⟨pg,hp,rfl⟩:=List.mem_map.1 hq2
    cases hx:m.x n with
    | none=>exact absurd hq (ho.fre t n _ hx)
    | some y=>exact⟨n,pg,(ho.inv.slot t n pg (by rw[hx];simp)).1 hq⟩
  · rintro⟨n,q,e⟩ h
    have hx:m.x n≠none:=fun c=>by rw[entM_none c] at e;exact es_ne _ e.symm
    have:=(ho.inv.slot t n q hx).2 e
    rw[h] at this
    cases this
theorem used_one {s:SS}(t0:Nat)(ht:t0 < 32)(h:∀ t,s t≠[]↔t=t0):usedS s 32=1:=by
  unfold usedS
  have e:(List.range 32).filter (fun k=>decide (s k≠[]))=[t0]:=by
    refine List.perm_singleton.1 ((List.perm_ext_iff_of_nodup (List.nodup_range.filter _) (by simp)).2 fun k=>?_)
    rw[List.mem_filter,List.mem_range,decide_eq_true_iff,h,List.mem_singleton]
    constructor
    · exact fun h=>h.2
    · rintro rfl;exact⟨ht,rfl⟩
  rw[e]
  rfl
theorem take_zero {s:SS}(h:∀ t,s t=[]):TakeIs s (some 0):=⟨by omega,h 0,fun m hm=>absurd hm (Nat.not_lt_zero m)⟩
def xyz:List Nat:=[120,121,122]
theorem stored_own {W:UW}{r:Ar}(hO:Has W 0 r)(h0:0≤r.fr)(hw:∀ n q,W.own n q=none){x:Nat}{b:List Nat}(hi:∀ j,j < b.length→inAr r (x+j)):(storeU W 0 x b).pr=W.pr∧bytesU (storeU W 0 x b) 0 x b.length=b :=
  stored hO h0 (fun _ q=>hw 0 q) hi
theorem mayAll_has {W:UW}{n x len:Nat}{r:Ar}(h:Has W n r)(hi:∀ j,j < len→inAr r (x+j)):W.mayAll n x len false:=mayAll_one h (fun h=>by cases h) hi
set_option maxRecDepth 20000 in
set_option maxHeartbeats 4000000 in
theorem evAnswers_any (w:World):Calls Tryz.prog 9 #[] w fun e w'=>e=.returned (.bool true)∧Below w.heap.size w w':=by
  go_enter Tryz.func9,Tryz.ntmps9
  go_wp2_with fail
  refine (fresh20_any w).mono ?_
  rintro e w1 ⟨gS,a,m0,W0,rfl,hfr,hq⟩
  have FR:=Lib.hid hfr
  have HQ1:=Lib.hid hq
  clear hfr hq
  have hcv0:=Lib.run_convert_bytes_const (P:=Tryz.prog) w1 22 5 #[.int .u8 120,.int .u8 121,.int .u8 122] 3 3 Tryz.underlying22 Tryz.underlying5
  obtain⟨w4,hw4⟩:∃ w4,w4=w1.alloc (.cells #[.int .u8 120,.int .u8 121,.int .u8 122] 5 (3,4)):=⟨_,rfl⟩
  have hcv:(convert 22 22 (.slice (some ⟨w1.heap.size,0,none⟩) 3 3)).run Tryz.prog (w1.alloc (.cells #[.int .u8 120,.int .u8 121,.int .u8 122] 5))=.ok (.slice (some ⟨w1.heap.size,0,none⟩) 3 3) w4:=by rw[hw4];exact hcv0
  have hb4:Below w1.heap.size w1 w4:=by rw[hw4];exact (Below.refl _ _).alloc (Nat.le_refl _) _
  have hx4:Bts w4 w4.heap.size (.slice (some ⟨w1.heap.size,0,none⟩) 3 3) xyz :=
    ⟨_,3,3,rfl,rfl,by simp[maxLen],⟨by omega,fun h=>by cases h⟩,by simp[maxLen],(fun j hj=>by match j,hj with | 0,_ | 1,_ | 2,_=>decide),fun _=>⟨w1.heap.size,0,rfl,by rw[hw4,World.size_alloc];omega,fun j hj=>by
      rw[hw4]
      match j,hj with
      | 0,_=>exact World.cell?_alloc_mark w1 _ _ _ 0
      | 1,_=>exact World.cell?_alloc_mark w1 _ _ _ 1
      | 2,_=>exact World.cell?_alloc_mark w1 _ _ _ 2⟩⟩
  have HB4:=Lib.hid hb4
  have HX4:=Lib.hid hx4
  have hin:∀ j,j < xyz.length→inAr aOwn (5+j):=by
    intro j hj
    have hj':j < 3:=hj
    unfold inAr aOwn
    simp only
    omega
  have HIN:=Lib.hid hin
  have HO:=Lib.hid (FR.out.has aOwn (.inl rfl))
  clear hb4 hx4 hw4 hcv0 hin
  go_wp2_with fail
  refine (q_new HQ1.out HB4.out HX4.out (fun bk o s n c e=>by injection e with e1;injection e1 with e1;injection e1 with e1;rw[← e1];exact Nat.le_refl _) fun k K h hb ho=>(store_m gS a k K m0 W0 22 28 1 w4 0 5 _ xyz aOwn HO.out rfl hb ho (by decide) (by decide) (by decide) HIN.out h FR.out.ok).mono fun e w' h=>(by
    obtain⟨m',h1,h2⟩:=h
    exact⟨k,m',h2,h1⟩)).mono ?_
  rintro e w5 ⟨rfl,m1,hR1,hq5⟩
  have HQ5:=Lib.hid hq5
  obtain⟨ho1,⟨kp1,f,g,hf,hents,-,hu3⟩⟩:=hR1
  have he0:entM m1 0 0=⟨1,(f:Int),false⟩:=by rw[hents,if_pos ⟨rfl,rfl⟩]
  have hns:∀ n q (t:Nat),entM m1 n q≠⟨2,(t:Int),false⟩:=by
    intro n q t e
    rw[hents,FR.out.ent,FR.out.ent] at e
    split at e
    · exact es_fr _ _ e.symm
    · split at e
      · exact es_fr _ _ e.symm
      · exact es_ne _ e.symm
  have hs1:=no_slots ho1 hns
  have hne1:∀ n q,¬ (n=0∧q=0)→entM m1 n q=en0:=by
    intro n q c
    rw[hents,if_neg c,if_neg (fun d=>by rw[FR.out.ent] at d;exact absurd d.1 (by decide)),FR.out.ent]
  have HO1:=Lib.hid ho1
  have HE1:=Lib.hid (And.intro he0 (And.intro (hu3 rfl) (And.intro (take_zero hs1) hne1)))
  clear hq5 hcv ho1 he0 hns hs1 hne1 hents hu3 kp1 hf
  go_wp2_with fail
  refine (q_of HQ5.out fun k K h=>(out_ok gS a k K m1 w5 _ 25 28 7 0 0 f 0 h HO1.out (by omega) HE1.out.1 HE1.out.2.1 HE1.out.2.2.1).mono fun e w' h=>(by
    obtain⟨m',h1,h2⟩:=h
    exact⟨k,m',h2,h1⟩)).mono ?_
  rintro e w6 ⟨rfl,m2,hR2,hq6⟩
  have HQ6:=Lib.hid hq6
  obtain⟨ho2,hl2,-⟩:=hR2
  have hus:usedS m2.s 32=1:=by
    refine used_one 0 (by omega) fun t=>?_
    rw[slot_iff ho2]
    constructor
    · rintro⟨n,q,e⟩
      rw[hl2.ents] at e
      split at e
      · have:=es_inj e
        omega
      · by_cases c:n=0∧q=0
        · rename_i d
          exact absurd (by rw[c.1,c.2];exact HE1.out.1) d
        · rw[HE1.out.2.2.2 n q c] at e
          exact absurd e.symm (es_ne _)
    · rintro rfl
      exact⟨0,0,by rw[hl2.ents,if_pos HE1.out.1]⟩
  have HO2:=Lib.hid ho2
  have HUS:=Lib.hid hus
  obtain⟨k6,hc6⟩:=hq6.cells
  have c5:w6.cell? ⟨gS,5,none⟩=some (.pointer (some ⟨a.S,0,none⟩)):=hc6.cell 5
  clear hq6 ho2 hl2 hus hc6
  go_wp2_with fail
  refine (q_read HQ6.out fun k K h=>(by
    obtain⟨KS,hS,-,-⟩:=h.swapP
    have:=swap_used a.S KS m2.s w6 hS
    rw[HUS.out] at this
    exact this)).mono ?_
  rintro e w7 ⟨rfl,hq7⟩
  have HQ7:=Lib.hid hq7
  obtain⟨s1,s2⟩:=stored_own HO.out (by decide) FR.out.own HIN.out
  have hO2:Has (storeU W0 0 5 xyz) 0 aOwn:=HO.out.congr (by rw[s1])
  have HO3:=Lib.hid (And.intro s2 (And.intro hO2 (hO2.pr_ne)))
  clear hq7 c5 s1 s2 hO2
  go_wp2_with fail
  refine (q_load HQ7.out fun k K h=>(load_m gS a k K m2 _ 16 24 7 w7 0 5 3 HO3.out.2.2 (by omega) (by omega) (by omega) (mayAll_has HO3.out.2.1 HIN.out) h HO2.out).mono fun e w' h=>h).mono ?_
  rintro e w8 ⟨v8,m3,rfl,hR3,hq8⟩
  rw[show bytesU (storeU W0 0 5 xyz) 0 5 3=xyz from HO3.out.1] at hq8
  obtain⟨A6,n6,c6,rfl,hn6,-,-,-,-,hx6⟩:=hq8.bts (List.mem_cons_self ..)
  have hn6:3=n6:=hn6
  subst hn6
  obtain⟨bk,off,rfl,-,hc6⟩:=hx6 (by omega)
  have hst:(convert 22 9 (.slice (some ⟨bk,off,none⟩) 3 c6)).run Tryz.prog w8=.ok (.string ⟨#[120,121,122]⟩) w8 :=
    run_convert_bytes_back w8 22 9 5 ⟨bk,off,none⟩ c6 [120,121,122] Tryz.underlying22 Tryz.underlying5 Tryz.underlying9 (fun j hj=>by
      match j,hj with
      | 0,_=>exact hc6 0 (by omega)
      | 1,_=>exact hc6 1 (by omega)
      | 2,_=>exact hc6 2 (by omega))
  have HB8:=Lib.hid hq8.below
  clear hq8 hx6 hc6 hR3
  go_wp2
  go_ret
  exact⟨rfl,HB8.out⟩
end Go.Proofs.YtaonpmclkafjdaaGreat

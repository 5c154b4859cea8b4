/-
  The contracts of area's calls, over the landed code: Sound, Find, Add, Cut and Protect, as the statements' walks ask for them.
  Conditions: those that each line bears.
-/
import Derived.Test.YtaonpmclkafjdaaGreatQz42
import Derived.Test.YtaonpmclkafjdaaGreatQz13
set_option linter.unusedSimpArgs false
set_option linter.unusedSectionVars false
set_option linter.unusedVariables false
namespace Go.Proofs.YtaonpmclkafjdaaGreat
open Go Go.RowKit
set_option linter.unusedVariables false
set_option maxRecDepth 20000
theorem OwnA.ars {w:World}{B:Nat}{v:Value}{l:List Ar}(h:OwnA w B v l):Ars w w.heap.size v l:=Gs.of_own h rfl
theorem OwnA.rd {w:World}{B:Nat}{v:Value}{l:List Ar}(h:OwnA w B v l):Rd w 6 v l.length (flatA l):=Rd.of_own h (flatA_one l)
theorem find_first {l:List Ar}{q:Int}{k:Nat}{a:Ar}(hl:∀ a∈l,soundA a)(h1:l[k]?=some a)(h2:∀ j x,j < k→l[j]?=some x→meetA q 1 x=false)(h3:meetA q 1 a=true):findA l q=some a:=by
  unfold findA
  induction l generalizing k with
  | nil=>cases h1
  | cons x l ih =>
    have hs:=fun y hy=>(hl y hy).1.2.2.2.1
    cases k with
    | zero =>
      simp only[List.getElem?_cons_zero,Option.some.injEq] at h1
      subst h1
      rw[meet_one (hs x List.mem_cons_self)] at h3
      rw[List.find?_cons_of_pos (by exact h3)]
    | succ k =>
      have:=h2 0 x (Nat.succ_pos _) rfl
      rw[meet_one (hs x List.mem_cons_self)] at this
      rw[List.find?_cons_of_neg (by rw[this];simp)]
      exact ih (fun y hy=>hl y (List.mem_cons_of_mem _ hy)) (by simpa using h1) (fun j y hj hy=>h2 (j+1) y (by omega) (by simpa using hy))
theorem find_none {l:List Ar}{q:Int}(hl:∀ a∈l,soundA a)(h2:∀ x∈l,meetA q 1 x=false):findA l q=none:=by
  unfold findA
  refine List.find?_eq_none.2 fun x hx=>?_
  have:=h2 x hx
  rw[meet_one (hl x hx).1.2.2.2.1] at this
  rw[this]
  simp
def NewA (w w':World)(v:Value):Prop:=∀ a n c,v=.slice (some a) n c→w.heap.size≤a.block∧a.block < w'.heap.size
theorem newA_nil (w w':World):NewA w w' (.slice none 0 0):=fun a n c e=>by cases e
theorem newA {w w':World}{B:Nat}{v:Value}{l:List Ar}(h:OwnA w' B v l)(hB:w.heap.size≤B):NewA w w' v:=by
  intro a n' c e
  rcases h.2 with ⟨rfl,_⟩ | ⟨g,cap,cur,rfl,hg,hgb,_⟩
  · cases e
  · injection e with e _ _
    injection e with e
    rw[← e]
    exact⟨Nat.le_trans hB hg,(Array.getElem?_eq_some_iff.1 hgb).1⟩
section
variable (w:World)(v:Value)(l:List Ar)
set_option maxHeartbeats 2000000 in
theorem area_find (q:Int)(h:Ars w w.heap.size v l)(hl:listA l)(hq:0≤q∧q≤4096):Calls Tryz.prog 142 #[v,.int .i64 q] w fun e w'=>e=.returned (.tuple #[.agg (arL ((findA l q).getD ar0)).toArray,.bool (findA l q).isSome])∧Below w.heap.size w w':=by
  obtain⟨A,n,c,rfl,hln,-⟩:=id h
  have HX:=Lib.hid h
  have HL:=Lib.hid hl.1
  have HQ:=Lib.hid hq
  clear h hl hq
  go_enter Tryz.func142,Tryz.ntmps142
  go_wp2_with fail
  refine (meets_any q 1 _).mono ?_
  rintro e w1 ⟨vm,rfl,⟨b1,b2,rfl,hB1,hl1,hl2,hc1,hc2⟩,hb1⟩
  have B0:=Lib.hid (belAr (Below.refl w.heap.size w) (.cells #[.int .i64 0,.int .i64 0,.bool false,.int .i64 0,.int .i64 0,.int .i64 0] 77))
  have R1:=Lib.hid ((Blk.new w 77 #[.int .i64 0,.int .i64 0,.bool false,.int .i64 0,.int .i64 0,.int .i64 0]).below hb1 (by rw[World.size_alloc];exact Nat.lt_succ_self _))
  have B1:=Lib.hid (B0.out.trans (hb1.mono B0.out.size))
  have X1:=Lib.hid (HX.out.fresh B1.out)
  have CI:=Lib.hid (indexA_any b1 b2 q 1 _ l w1 X1.out HL.out ⟨HQ.out.1,by have:=HQ.out.2;omega⟩ (by omega) hl1 hl2 hc1 hc2)
  clear hB1 hl1 hl2 hc1 hc2 hb1
  go_wp2_with fail
  refine CI.out.mono ?_
  rintro e w2 ⟨r,rfl,hb2,hr⟩
  have R2:=Lib.hid (R1.out.below hb2 R1.out.lt)
  have B2:=Lib.hid (B1.out.trans (hb2.mono B1.out.size))
  have X2:=Lib.hid (X1.out.fresh hb2)
  clear hb2
  have e0:w2.cell? ⟨w.heap.size,0,none⟩=some (.int .i64 0):=R2.out.cell 0
  have e1:w2.cell? ⟨w.heap.size,1,none⟩=some (.int .i64 0):=R2.out.cell 1
  have e2:w2.cell? ⟨w.heap.size,2,none⟩=some (.bool false):=R2.out.cell 2
  have e3:w2.cell? ⟨w.heap.size,3,none⟩=some (.int .i64 0):=R2.out.cell 3
  have e4:w2.cell? ⟨w.heap.size,4,none⟩=some (.int .i64 0):=R2.out.cell 4
  have e5:w2.cell? ⟨w.heap.size,5,none⟩=some (.int .i64 0):=R2.out.cell 5
  have z0:=R2.out.frozen 0
  have z1:=R2.out.frozen 1
  have z2:=R2.out.frozen 2
  have z3:=R2.out.frozen 3
  have z4:=R2.out.frozen 4
  have z5:=R2.out.frozen 5
  rcases hr with ⟨rfl,hno⟩ | ⟨k,⟨fr,pg,w0,kd,fl,ofs⟩,rfl,hk,hno,ha⟩
  · have FN:=Lib.hid (find_none HL.out hno)
    clear hno
    go_wp2_with fail
    refine bodyPost_ret (results_row_tmp rfl _ _ w.heap.size 77 #[.int .i64 0,.int .i64 0,.bool false,.int .i64 0,.int .i64 0,.int .i64 0] _ rfl ((((((R2.out.set_ 0 _).set_ 1 _).set_ 2 _).set_ 3 _).set_ 4 _).set_ 5 _) Tryz.underlying77 rfl (by kernel_rfl)) rfl ?_
    exact⟨by rw[FN.out];rfl,(((((B2.out.setCell (Nat.le_refl _) _).setCell (Nat.le_refl _) _).setCell (Nat.le_refl _) _).setCell (Nat.le_refl _) _).setCell (Nat.le_refl _) _).setCell (Nat.le_refl _) _⟩
  · have FN:=Lib.hid (find_first HL.out hk hno ha)
    have hkl:k < n:=by rw[← hln];exact (List.getElem?_eq_some_iff.1 hk).1
    clear hno ha
    obtain⟨b,o,rfl,hbl,hat⟩:=X2.out.at_ (by omega)
    obtain⟨a',hget,a0,a1,a2,a3,a4,a5⟩:=hat k hkl
    rw[hk] at hget
    obtain rfl:=Option.some.inj hget
    simp only at a0 a1 a2 a3 a4 a5
    have t5:(k:Int) < (n:Int):=by omega
    have t6:(0:Int)≤(k:Int):=by omega
    have t7:decide ((k:Int) < 0)=false:=decide_eq_false (by omega)
    clear hk hget hat hbl
    go_wp2_with fail
    refine bodyPost_ret (results_row_tmp rfl _ _ w.heap.size 77 #[.int .i64 fr,.int .i64 pg,.bool w0,.int .i64 kd,.int .i64 fl,.int .i64 ofs] _ rfl ((((((R2.out.set_ 0 _).set_ 1 _).set_ 2 _).set_ 3 _).set_ 4 _).set_ 5 _) Tryz.underlying77 rfl (by kernel_rfl)) rfl ?_
    exact⟨by rw[FN.out];rfl,(((((B2.out.setCell (Nat.le_refl _) _).setCell (Nat.le_refl _) _).setCell (Nat.le_refl _) _).setCell (Nat.le_refl _) _).setCell (Nat.le_refl _) _).setCell (Nat.le_refl _) _⟩
theorem rows3 {w:World} {g:Nat} {t:TypeId} {v1 v2 v3:Value} {l1 l2 l3:List Ar} (hb:Blk w g t #[v1,v2,v3]) (h1:Rd w 6 v1 l1.length (flatA l1)) (h2:Rd w 6 v2 l2.length (flatA l2)) (h3:Rd w 6 v3 l3.length (flatA l3))
    (n1:l1.length≤8192) (n2:l2.length≤8192) (n3:l3.length≤8192):RowsA w g [v1,v2,v3] [l1,l2,l3]:=by
  refine⟨rfl,fun k v l e1 e2=>?_⟩
  match k with
  | 0 =>
    obtain rfl:=Option.some.inj e1
    obtain rfl:=Option.some.inj e2
    exact⟨hb.cell 0,h1,n1⟩
  | 1 =>
    obtain rfl:=Option.some.inj e1
    obtain rfl:=Option.some.inj e2
    exact⟨hb.cell 1,h2,n2⟩
  | 2 =>
    obtain rfl:=Option.some.inj e1
    obtain rfl:=Option.some.inj e2
    exact⟨hb.cell 2,h3,n3⟩
  | k+3=>cases e1
set_option maxHeartbeats 1000000 in
theorem area_addN (a:Ar)(wa:WAr a)(h:Ars w w.heap.size v l)(hl:listA l)(hn:l.length≤4096):Calls Tryz.prog 92 #[v,.agg #[.int .i64 a.fr,.int .i64 a.pg,.bool a.w,.int .i64 a.kd,.int .i64 a.fl,.int .i64 a.ofs]] w fun e w'=>∃ v',e=.returned (.tuple #[v',.int .i64 (addE l a)])∧(Ars w' w'.heap.size v' (addL l a)∧NewA w w' v')∧Below w.heap.size w w':=by
  obtain⟨A,n,c,rfl,-⟩:=id h
  obtain⟨fr,pg,w0,kd,fl,ofs⟩:=a
  have B0:=Lib.hid (belAr (Below.refl w.heap.size w) (.cells #[.int .i64 fr,.int .i64 pg,.bool w0,.int .i64 kd,.int .i64 fl,.int .i64 ofs] 77))
  have CS:=Lib.hid (sound_any ⟨fr,pg,w0,kd,fl,ofs⟩ wa (w.alloc (.cells #[.int .i64 fr,.int .i64 pg,.bool w0,.int .i64 kd,.int .i64 fl,.int .i64 ofs] 77)))
  have HX:=Lib.hid h
  have HL:=Lib.hid hl
  have HN:=Lib.hid hn
  clear wa
  by_cases hs:soundA ⟨fr,pg,w0,kd,fl,ofs⟩
  · rw[decide_eq_true hs] at CS
    have hs2:0≤fr∧fr≤4095∧1≤pg∧pg≤4096 - fr:=by unfold soundA at hs;simp only at hs;omega
    by_cases hi:inA l fr pg=[]
    · have HD:=Lib.hid (show decide (inA l fr pg≠[])=false from decide_eq_false (fun h=>h hi))
      have HI:=Lib.hid (ins_eq hl ⟨fr,pg,w0,kd,fl,ofs⟩ hs2.2.2.1 hi)
      obtain⟨L1,hL1⟩:∃ L,L=inA l 0 fr:=⟨_,rfl⟩
      obtain⟨L2,hL2⟩:∃ L,L=inA l (fr+pg) (4096 - (fr+pg)):=⟨_,rfl⟩
      have HI2:=Lib.hid (show insA l ⟨fr,pg,w0,kd,fl,ofs⟩=L1 ++ [⟨fr,pg,w0,kd,fl,ofs⟩] ++ L2 from by rw[hL1,hL2];exact HI.out)
      have hlen:l.length+1=(L1 ++ [(⟨fr,pg,w0,kd,fl,ofs⟩:Ar)] ++ L2).length:=by rw[← HI2.out,insA_length]
      have HE:=Lib.hid (show addE l ⟨fr,pg,w0,kd,fl,ofs⟩=joinE (L1 ++ [⟨fr,pg,w0,kd,fl,ofs⟩] ++ L2) from by
        unfold addE joinE
        rw[if_pos hs,if_neg (fun h=>h hi),← hlen]
        by_cases c16:16≤l.length
        · rw[if_pos c16,if_pos (by omega)]
        · rw[if_neg c16,if_neg (by omega)])
      have HC:=Lib.hid (show addL l ⟨fr,pg,w0,kd,fl,ofs⟩=joinL (L1 ++ [⟨fr,pg,w0,kd,fl,ofs⟩] ++ L2) from by
        unfold addL joinL
        rw[HE.out,HI2.out]
        unfold joinE
        by_cases c16:16 < (L1 ++ [(⟨fr,pg,w0,kd,fl,ofs⟩:Ar)] ++ L2).length
        · rw[if_pos c16,if_pos c16]
          exact if_neg (by decide)
        · rw[if_neg c16,if_neg c16]
          exact if_pos rfl)
      have N1:=Lib.hid (show L1.length≤8192 by rw[hL1];have:=inA_length l 0 fr;omega)
      have N2:=Lib.hid (show L2.length≤8192 by rw[hL2];have:=inA_length l (fr+pg) (4096 - (fr+pg));omega)
      have hAR:=fun W (hx:Ars W W.heap.size (.slice A n c) l)=>around_any _ l fr pg W hx hl.1 hn ⟨hs2.1,by omega⟩ ⟨by omega,hs2.2.2.2⟩
      rw[← hL1,← hL2] at hAR
      have AR:=Lib.hid hAR
      clear hAR hL1 hL2 hlen h hl hn hi hs
      go_enter Tryz.func92,Tryz.ntmps92
      go_wp2_with fail
      refine CS.out.mono ?_
      rintro e w1 ⟨rfl,hb1⟩
      have KB:=Lib.hid ((Blk.new w 77 #[.int .i64 fr,.int .i64 pg,.bool w0,.int .i64 kd,.int .i64 fl,.int .i64 ofs]).below hb1 (by rw[World.size_alloc];exact Nat.lt_succ_self _))
      have B1:=Lib.hid (B0.out.trans (hb1.mono B0.out.size))
      have X1:=Lib.hid (HX.out.fresh B1.out)
      clear hb1
      have k0:w1.cell? ⟨w.heap.size,0,none⟩=some (.int .i64 fr):=KB.out.cell 0
      have k1:w1.cell? ⟨w.heap.size,1,none⟩=some (.int .i64 pg):=KB.out.cell 1
      go_wp2_with fail
      refine (meets_any fr pg _).mono ?_
      rintro e w2 ⟨vm,rfl,⟨b1,b2,rfl,hB1,hl1,hl2,hc1,hc2⟩,hb2⟩
      have KB2:=Lib.hid (KB.out.below hb2 KB.out.lt)
      have B2:=Lib.hid (B1.out.trans (hb2.mono B1.out.size))
      have X2:=Lib.hid (X1.out.fresh hb2)
      have CI:=Lib.hid (contains_any b1 b2 fr pg _ l w2 X2.out HL.out.1 ⟨hs2.1,by omega⟩ (by omega) hl1 hl2 hc1 hc2)
      rw[HD.out] at CI
      clear hB1 hl1 hl2 hc1 hc2 hb2 k0 k1
      go_wp2_with fail
      refine CI.out.mono ?_
      rintro e w3 ⟨rfl,hb3⟩
      have KB3:=Lib.hid (KB2.out.below hb3 KB2.out.lt)
      have B3:=Lib.hid (B2.out.trans (hb3.mono B2.out.size))
      have X3:=Lib.hid (X2.out.fresh hb3)
      clear hb3
      have k0:w3.cell? ⟨w.heap.size,0,none⟩=some (.int .i64 fr):=KB3.out.cell 0
      have k1:w3.cell? ⟨w.heap.size,1,none⟩=some (.int .i64 pg):=KB3.out.cell 1
      go_wp2_with fail
      refine (AR.out w3 X3.out).mono ?_
      rintro e w4 ⟨v1,v2,rfl,ho1,ho2,hb4⟩
      have KB4:=Lib.hid (KB3.out.below hb4 KB3.out.lt)
      have B4:=Lib.hid (B3.out.trans (hb4.mono B3.out.size))
      clear hb4 k0 k1
      have k0:w4.cell? ⟨w.heap.size,0,none⟩=some (.int .i64 fr):=KB4.out.cell 0
      have k1:w4.cell? ⟨w.heap.size,1,none⟩=some (.int .i64 pg):=KB4.out.cell 1
      have k2:w4.cell? ⟨w.heap.size,2,none⟩=some (.bool w0):=KB4.out.cell 2
      have k3:w4.cell? ⟨w.heap.size,3,none⟩=some (.int .i64 kd):=KB4.out.cell 3
      have k4:w4.cell? ⟨w.heap.size,4,none⟩=some (.int .i64 fl):=KB4.out.cell 4
      have k5:w4.cell? ⟨w.heap.size,5,none⟩=some (.int .i64 ofs):=KB4.out.cell 5
      have HB5:=Lib.hid (belAr (Below.refl w4.heap.size w4) (.cells #[.int .i64 fr,.int .i64 pg,.bool w0,.int .i64 kd,.int .i64 fl,.int .i64 ofs] 77))
      have HB6:=Lib.hid (belAr HB5.out (.cells #[v1,.slice (some ⟨w4.heap.size,0,none⟩) 1 1,v2] 91))
      have RD:=Lib.hid (show Rd (w4.alloc (.cells #[.int .i64 fr,.int .i64 pg,.bool w0,.int .i64 kd,.int .i64 fl,.int .i64 ofs] 77)) 6 (.slice (some ⟨w4.heap.size,0,none⟩) 1 1) 1 (flatA [⟨fr,pg,w0,kd,fl,ofs⟩]) from Rd.one (e:=77) (fun j u hj=>by have:=cells_new w4 77 (arL ⟨fr,pg,w0,kd,fl,ofs⟩) j u hj;rw[Addr.add_lit,Nat.zero_add] at this;exact this) rfl (flatA_one [⟨fr,pg,w0,kd,fl,ofs⟩]))
      have HR:=Lib.hid (rows3 (l2:=[⟨fr,pg,w0,kd,fl,ofs⟩]) (Blk.new1 w4 (.cells #[.int .i64 fr,.int .i64 pg,.bool w0,.int .i64 kd,.int .i64 fl,.int .i64 ofs] 77) 91 #[v1,.slice (some ⟨w4.heap.size,0,none⟩) 1 1,v2]) (rd_fresh ho1.rd HB6.out) (rd_fresh RD.out (belAr (Below.refl _ _) _)) (rd_fresh ho2.rd HB6.out) N1.out (by simp) N2.out)
      have CJ:=Lib.hid (joined_any _ 3 _ _ _ HR.out rfl (by omega))
      rw[show ([L1,[⟨fr,pg,w0,kd,fl,ofs⟩],L2]:List (List Ar)).flatten=L1 ++ [⟨fr,pg,w0,kd,fl,ofs⟩] ++ L2 by simp,← HE.out,← HC.out] at CJ
      obtain⟨A1,c1,rfl,-⟩:=ho1.rd
      obtain⟨A2,c2,rfl,-⟩:=ho2.rd
      clear ho1 ho2
      go_wp2_with fail
      refine CJ.out.mono ?_
      rintro e w5 ⟨v5,rfl,ho5,hb5⟩
      have O5:=Lib.hid ho5
      have B5:=Lib.hid (B4.out.trans ((HB6.out.trans (hb5.mono HB6.out.size)).mono B4.out.size))
      clear ho5 hb5
      go_wp2_with fail
      go_ret2
      exact⟨_,rfl,⟨O5.out.ars,newA O5.out (Nat.le_trans B4.out.size HB6.out.size)⟩,B5.out⟩
    · have HD:=Lib.hid (show decide (inA l fr pg≠[])=true from decide_eq_true hi)
      have HE:=Lib.hid (show addE l ⟨fr,pg,w0,kd,fl,ofs⟩=3 from by unfold addE;rw[if_pos hs,if_pos hi])
      have HC:=Lib.hid (show addL l ⟨fr,pg,w0,kd,fl,ofs⟩=[] from by unfold addL;rw[HE.out];exact if_neg (by decide))
      clear h hl hn hi hs
      go_enter Tryz.func92,Tryz.ntmps92
      go_wp2_with fail
      refine CS.out.mono ?_
      rintro e w1 ⟨rfl,hb1⟩
      have KB:=Lib.hid ((Blk.new w 77 #[.int .i64 fr,.int .i64 pg,.bool w0,.int .i64 kd,.int .i64 fl,.int .i64 ofs]).below hb1 (by rw[World.size_alloc];exact Nat.lt_succ_self _))
      have B1:=Lib.hid (B0.out.trans (hb1.mono B0.out.size))
      have X1:=Lib.hid (HX.out.fresh B1.out)
      clear hb1
      have k0:w1.cell? ⟨w.heap.size,0,none⟩=some (.int .i64 fr):=KB.out.cell 0
      have k1:w1.cell? ⟨w.heap.size,1,none⟩=some (.int .i64 pg):=KB.out.cell 1
      go_wp2_with fail
      refine (meets_any fr pg _).mono ?_
      rintro e w2 ⟨vm,rfl,⟨b1,b2,rfl,hB1,hl1,hl2,hc1,hc2⟩,hb2⟩
      have B2:=Lib.hid (B1.out.trans (hb2.mono B1.out.size))
      have X2:=Lib.hid (X1.out.fresh hb2)
      have CI:=Lib.hid (contains_any b1 b2 fr pg _ l w2 X2.out HL.out.1 ⟨hs2.1,by omega⟩ (by omega) hl1 hl2 hc1 hc2)
      rw[HD.out] at CI
      clear hB1 hl1 hl2 hc1 hc2 hb2 k0 k1
      go_wp2_with fail
      refine CI.out.mono ?_
      rintro e w3 ⟨rfl,hb3⟩
      have B3:=Lib.hid (B2.out.trans (hb3.mono B2.out.size))
      clear hb3
      go_wp2_with fail
      go_ret2
      refine⟨_,by rw[HE.out];rfl,?_,B3.out⟩
      rw[HC.out]
      exact⟨Gs.nil_ _ _,newA_nil _ _⟩
  · rw[decide_eq_false hs] at CS
    have HE:=Lib.hid (show addE l ⟨fr,pg,w0,kd,fl,ofs⟩=1 from by unfold addE;rw[if_neg hs])
    have HC:=Lib.hid (show addL l ⟨fr,pg,w0,kd,fl,ofs⟩=[] from by unfold addL;rw[HE.out];exact if_neg (by decide))
    clear h hl hn hs
    go_enter Tryz.func92,Tryz.ntmps92
    go_wp2_with fail
    refine CS.out.mono ?_
    rintro e w1 ⟨rfl,hb1⟩
    have B1:=Lib.hid (B0.out.trans (hb1.mono B0.out.size))
    clear hb1
    go_wp2_with fail
    go_ret2
    refine⟨_,by rw[HE.out];rfl,?_,B1.out⟩
    rw[HC.out]
    exact⟨Gs.nil_ _ _,newA_nil _ _⟩
end
end Go.Proofs.YtaonpmclkafjdaaGreat

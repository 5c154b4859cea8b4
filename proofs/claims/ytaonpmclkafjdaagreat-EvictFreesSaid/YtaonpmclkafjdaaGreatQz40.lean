/-
  The contract of area's part: what of a list lies in some pages, as a row of the call's own.
  Conditions: those that each line bears.
-/
import Derived.Test.YtaonpmclkafjdaaGreatQz39
import Derived.Deep.LoopGhost
import Derived.BigQuiet
set_option linter.unusedSimpArgs false
set_option linter.unusedSectionVars false
set_option linter.unusedVariables false
namespace Go.Proofs.YtaonpmclkafjdaaGreat
open Go Go.RowKit
set_option linter.unusedVariables false
set_option maxRecDepth 20000
theorem Tryz.infoArP:(Tryz.prog.info? 77).map (fun i=>(i.zero,i.size,i.bytes))=some (some (.agg (arL ar0).toArray),6,48):=by kernel_rfl
def OwnA (w:World)(B:Nat)(v:Value)(l:List Ar):Prop:=w.ownsRow B 77 6 v l.length (flatA l)
theorem own_base {w:World}{B B' size n:Nat}{e:TypeId}{v:Value}{xs:List Value}(h:w.ownsRow B e size v n xs)(hb:B'≤B):w.ownsRow B' e size v n xs:=by
  rcases h with ⟨h1,h2⟩
  refine⟨h1,?_⟩
  rcases h2 with h2 | ⟨g,cap,cur,e1,e2,e3⟩
  · exact .inl h2
  · exact .inr ⟨g,cap,cur,e1,Nat.le_trans hb e2,e3⟩
theorem own_freshA {w w':World}{B size n:Nat}{e:TypeId}{v:Value}{xs:List Value}(h:w.ownsRow B e size v n xs)(hb:Below w.heap.size w w'):w'.ownsRow B e size v n xs:=by
  rcases h with ⟨h1,h2⟩
  refine⟨h1,?_⟩
  rcases h2 with h2 | ⟨g,cap,cur,e1,e2,e3,e4⟩
  · exact .inl h2
  · exact .inr ⟨g,cap,cur,e1,e2,(hb.block g (by have:=(Array.getElem?_eq_some_iff.1 e3).1;exact this)).trans e3,e4⟩
theorem inA_length_take (l:List Ar)(k:Nat)(f p:Int):(inA (l.take k) f p).length≤k:=by
  have h1:=inA_length (l.take k) f p
  have h2:=List.length_take_le k l
  omega
set_option maxHeartbeats 4000000 in
theorem part_any (v:Value) (l:List Ar) (f p:Int) (w:World) (h:Ars w w.heap.size v l) (hl:∀ a∈l,soundA a) (hn:l.length≤4096) (hf:0≤f∧f≤8192) (hp:0≤p∧p≤8192) :
    Calls Tryz.prog 178 #[v,.int .i64 f,.int .i64 p] w fun e w'=>∃ v',e=.returned v'∧OwnA w' w.heap.size v' (inA l f p)∧Below w.heap.size w w':=by
  obtain⟨A,n,c,rfl,hln,hlc,hm,-⟩:=id h
  have HX:=Lib.hid h
  have HL:=Lib.hid hl
  have HN:=Lib.hid hln
  unfold maxLen at hm
  obtain⟨iA,hiA,hia0,hia1,hia2⟩:=info_parts Tryz.infoArP
  have HIA:=Lib.hid hiA
  have HA0:=Lib.hid hia0
  have HA1:=Lib.hid hia1
  have HA2:=Lib.hid hia2
  clear h hl hiA hia0 hia1 hia2
  rw[hln] at hn
  clear hln
  go_enter Tryz.func178,Tryz.ntmps178
  go_wp2_with fail
  refine (meets_any f p w).mono ?_
  rintro e w1 ⟨vm,rfl,⟨b1,b2,rfl,hB1,hl1,hl2,hc1,hc2⟩,hb1⟩
  have HM:=Lib.hid (⟨hl1,hl2,hc1,hc2⟩:b1 < w1.heap.size∧b2 < w1.heap.size∧w1.cell? ⟨b1,0,none⟩=some (.int .i64 f)∧w1.cell? ⟨b2,0,none⟩=some (.int .i64 p))
  have B1:=Lib.hid hb1
  have X1:=Lib.hid (HX.out.fresh hb1)
  clear hB1 hl1 hl2 hc1 hc2 hb1
  go_wp2_with fail
  go_loopg [7,10,16] n (fun gg s7 _ s16 wr=>∃ k:Nat,k+gg=n∧s16=.int .i64 (k:Int)∧Below w1.heap.size w1 wr∧OwnA wr w1.heap.size s7 (inA (l.take k) f p))
  case atStart=>exact⟨0,by omega,rfl,Below.refl _ _,World.ownsRow_nil _ _ _ _⟩
  case round =>
    obtain⟨k,hkg,rfl,hbr,how⟩:=hrel
    have BR:=Lib.hid hbr
    have OW:=Lib.hid how
    have XR:=Lib.hid (X1.out.fresh hbr)
    clear hbr how
    by_cases hlt:k < n
    · have t4:decide ((k:Int) < (n:Int))=true:=decide_eq_true (by omega)
      have t5:(k:Int) < (n:Int):=by omega
      have t6:(0:Int)≤(k:Int):=by omega
      obtain⟨b,o,rfl,hbl,hat⟩:=XR.out.at_ (by omega)
      obtain⟨⟨fr,pg,w0,kd,fl,ofs⟩,hget,a0,a1,a2,a3,a4,a5⟩:=hat k hlt
      simp only at a0 a1 a2 a3 a4 a5
      have hso:=HL.out _ (List.mem_of_getElem? hget)
      have HT:=Lib.hid (show inA (l.take (k+1)) f p=inA (l.take k) f p ++ pieceA ⟨fr,pg,w0,kd,fl,ofs⟩ f (f+p) from by
        rw[List.take_add_one,hget]
        exact inA_snoc _ _ _ _)
      have hR:0≤fr∧fr≤4095∧1≤pg∧pg≤4096∧0≤ofs∧ofs≤16:=by unfold soundA at hso;simp only at hso;omega
      obtain⟨r1,r2,r3,r4,r5,r6⟩:=hR
      have CM:=Lib.hid (meetc_any f p ⟨fr,pg,w0,kd,fl,ofs⟩ (wr.alloc (.cells #[.int .i64 fr,.int .i64 pg,.bool w0,.int .i64 kd,.int .i64 fl,.int .i64 ofs] 77)) b1 b2 ⟨by omega,by omega⟩ ⟨by omega,by omega⟩ ⟨by simp only;omega,by simp only;omega,by simp only;omega,by simp only;omega⟩
        (by have:=HM.out.1;have:=BR.out.size;rw[World.size_alloc];omega) (by have:=HM.out.2.1;have:=BR.out.size;rw[World.size_alloc];omega)
        ((World.cell?_alloc_past _ _ _ (Nat.lt_of_lt_of_le HM.out.1 BR.out.size)).trans ((BR.out.cell HM.out.1).trans HM.out.2.2.1)) ((World.cell?_alloc_past _ _ _ (Nat.lt_of_lt_of_le HM.out.2.1 BR.out.size)).trans ((BR.out.cell HM.out.2.1).trans HM.out.2.2.2)))
      clear hget hat hso hbl
      by_cases d1:f≤fr
      · by_cases d2:fr+pg≤f+p
        · have EX:maxI f fr=fr:=by unfold maxI;split <;> omega
          have EY:minI (f+p) (fr+pg)=fr+pg:=by unfold minI;split <;> omega
          cases hq:meetA f p ⟨fr,pg,w0,kd,fl,ofs⟩ with
          | true =>
            have HP:=Lib.hid (show pieceA ⟨fr,pg,w0,kd,fl,ofs⟩ f (f+p)=[pcA ⟨fr,pg,w0,kd,fl,ofs⟩ (fr) (fr+pg)] from by
              rw[piece_meet,hq,if_pos rfl]
              simp only[EX,EY,pcA,List.cons.injEq,Ar.mk.injEq,and_true,true_and]
              split <;> omega)
            have PI:=Lib.hid (fun W=>piece_any ⟨fr,pg,w0,kd,fl,ofs⟩ (fr) (fr+pg) W ⟨by omega,by omega⟩ ⟨by omega,by omega⟩ ⟨by simp only;omega,by simp only;omega,by simp only;omega,by simp only;omega⟩)
            obtain⟨q,hqq⟩:∃ q,q=pcA ⟨fr,pg,w0,kd,fl,ofs⟩ (fr) (fr+pg):=⟨_,rfl⟩
            rw[← hqq] at HP PI
            rw[hq] at CM
            clear hq EX EY hqq
            go_wp2_with fail
            refine CM.out.mono ?_
            rintro e w2 ⟨rfl,hb2⟩
            obtain⟨k0,k1,k2,k3,k4,k5⟩:=box_at ⟨fr,pg,w0,kd,fl,ofs⟩ wr w2 _ hb2
            have B2:=Lib.hid ((belAr (Below.refl wr.heap.size wr) _).trans (hb2.mono (by rw[World.size_alloc];omega)))
            clear hb2
            go_wp2_with fail
            refine (PI.out _).mono ?_
            rintro e w3 ⟨rfl,hb3⟩
            have B3:=Lib.hid (B2.out.trans (hb3.mono B2.out.size))
            have OWN:=Lib.hid (own_freshA OW.out (belAr B3.out (.cells #[.int .i64 q.fr,.int .i64 q.pg,.bool q.w,.int .i64 q.kd,.int .i64 q.fl,.int .i64 q.ofs] 77)))
            have RD:=Lib.hid (show Rd (w3.alloc (.cells #[.int .i64 q.fr,.int .i64 q.pg,.bool q.w,.int .i64 q.kd,.int .i64 q.fl,.int .i64 q.ofs] 77)) 6 (.slice (some ⟨w3.heap.size,0,none⟩) 1 1) 1 (flatA [q]) from Rd.one (e:=77) (fun j u hj=>by have:=cells_new w3 77 (arL q) j u hj;rw[Addr.add_lit,Nat.zero_add] at this;exact this) rfl (flatA_one [q]))
            have HQ1:=Lib.hid (show (inA (l.take k) f p).length+1≤maxLen from by have:=inA_length_take l k f p;unfold maxLen;omega)
            have HQ2:=Lib.hid (show ((inA (l.take k) f p).length+1) * 48≤140737488355328 from by have:=inA_length_take l k f p;omega)
            have HQ3:=Lib.hid (show w1.heap.size≤(w3.alloc (.cells #[.int .i64 q.fr,.int .i64 q.pg,.bool q.w,.int .i64 q.kd,.int .i64 q.fl,.int .i64 q.ofs] 77)).heap.size from by have:=B3.out.size;have:=BR.out.size;rw[World.size_alloc];omega)
            clear hb3
            go_wp2_with (refine wpList_app rfl (.tmp 23) (.tmp 39) 91 rfl w1.heap.size 77 iA (.agg (arL ar0).toArray) 6 48 Tryz.underlying91 HIA.out HA0.out HA1.out HA2.out rfl (by decide) _ _ _ rfl OWN.out _ _ _ rfl RD.out HQ1.out HQ2.out HQ3.out ?_;intro v5 w5 ho5 hg5;have O5:=Lib.hid ho5;have B5:=Lib.hid (show Below w1.heap.size w1 w5 from (BR.out.trans ((belAr B3.out _).mono BR.out.size)).grown hg5 HQ3.out (fun k hk=>(OWN.out.lt k hk).1));clear ho5 hg5)
            go_roundg (n - (k+1))
            case measure=>omega
            case rel =>
              refine⟨k+1,by omega,by go_num,B5.out,?_⟩
              have h:=O5.out
              rw[← flatA_append] at h
              unfold OwnA
              rw[HT.out,HP.out,List.length_append]
              exact h
          | false =>
            have HP:=Lib.hid (show pieceA ⟨fr,pg,w0,kd,fl,ofs⟩ f (f+p)=[] from by rw[piece_meet,hq,if_neg (by simp)])
            rw[hq] at CM
            clear hq EX EY
            go_wp2_with fail
            refine CM.out.mono ?_
            rintro e w2 ⟨rfl,hb2⟩
            have B2:=Lib.hid ((belAr (Below.refl wr.heap.size wr) _).trans (hb2.mono (by rw[World.size_alloc];omega)))
            clear hb2
            go_wp2_with fail
            go_roundg (n - (k+1))
            case measure=>omega
            case rel =>
              refine⟨k+1,by omega,by go_num,BR.out.trans (B2.out.mono BR.out.size),?_⟩
              rw[HT.out,HP.out,List.append_nil]
              exact own_freshA OW.out B2.out
        · have EX:maxI f fr=fr:=by unfold maxI;split <;> omega
          have EY:minI (f+p) (fr+pg)=f+p:=by unfold minI;split <;> omega
          cases hq:meetA f p ⟨fr,pg,w0,kd,fl,ofs⟩ with
          | true =>
            have HP:=Lib.hid (show pieceA ⟨fr,pg,w0,kd,fl,ofs⟩ f (f+p)=[pcA ⟨fr,pg,w0,kd,fl,ofs⟩ (fr) (f+p)] from by
              rw[piece_meet,hq,if_pos rfl]
              simp only[EX,EY,pcA,List.cons.injEq,Ar.mk.injEq,and_true,true_and]
              split <;> omega)
            have PI:=Lib.hid (fun W=>piece_any ⟨fr,pg,w0,kd,fl,ofs⟩ (fr) (f+p) W ⟨by omega,by omega⟩ ⟨by omega,by omega⟩ ⟨by simp only;omega,by simp only;omega,by simp only;omega,by simp only;omega⟩)
            obtain⟨q,hqq⟩:∃ q,q=pcA ⟨fr,pg,w0,kd,fl,ofs⟩ (fr) (f+p):=⟨_,rfl⟩
            rw[← hqq] at HP PI
            rw[hq] at CM
            clear hq EX EY hqq
            go_wp2_with fail
            refine CM.out.mono ?_
            rintro e w2 ⟨rfl,hb2⟩
            obtain⟨k0,k1,k2,k3,k4,k5⟩:=box_at ⟨fr,pg,w0,kd,fl,ofs⟩ wr w2 _ hb2
            have B2:=Lib.hid ((belAr (Below.refl wr.heap.size wr) _).trans (hb2.mono (by rw[World.size_alloc];omega)))
            clear hb2
            go_wp2_with fail
            refine (PI.out _).mono ?_
            rintro e w3 ⟨rfl,hb3⟩
            have B3:=Lib.hid (B2.out.trans (hb3.mono B2.out.size))
            have OWN:=Lib.hid (own_freshA OW.out (belAr B3.out (.cells #[.int .i64 q.fr,.int .i64 q.pg,.bool q.w,.int .i64 q.kd,.int .i64 q.fl,.int .i64 q.ofs] 77)))
            have RD:=Lib.hid (show Rd (w3.alloc (.cells #[.int .i64 q.fr,.int .i64 q.pg,.bool q.w,.int .i64 q.kd,.int .i64 q.fl,.int .i64 q.ofs] 77)) 6 (.slice (some ⟨w3.heap.size,0,none⟩) 1 1) 1 (flatA [q]) from Rd.one (e:=77) (fun j u hj=>by have:=cells_new w3 77 (arL q) j u hj;rw[Addr.add_lit,Nat.zero_add] at this;exact this) rfl (flatA_one [q]))
            have HQ1:=Lib.hid (show (inA (l.take k) f p).length+1≤maxLen from by have:=inA_length_take l k f p;unfold maxLen;omega)
            have HQ2:=Lib.hid (show ((inA (l.take k) f p).length+1) * 48≤140737488355328 from by have:=inA_length_take l k f p;omega)
            have HQ3:=Lib.hid (show w1.heap.size≤(w3.alloc (.cells #[.int .i64 q.fr,.int .i64 q.pg,.bool q.w,.int .i64 q.kd,.int .i64 q.fl,.int .i64 q.ofs] 77)).heap.size from by have:=B3.out.size;have:=BR.out.size;rw[World.size_alloc];omega)
            clear hb3
            go_wp2_with (refine wpList_app rfl (.tmp 23) (.tmp 39) 91 rfl w1.heap.size 77 iA (.agg (arL ar0).toArray) 6 48 Tryz.underlying91 HIA.out HA0.out HA1.out HA2.out rfl (by decide) _ _ _ rfl OWN.out _ _ _ rfl RD.out HQ1.out HQ2.out HQ3.out ?_;intro v5 w5 ho5 hg5;have O5:=Lib.hid ho5;have B5:=Lib.hid (show Below w1.heap.size w1 w5 from (BR.out.trans ((belAr B3.out _).mono BR.out.size)).grown hg5 HQ3.out (fun k hk=>(OWN.out.lt k hk).1));clear ho5 hg5)
            go_roundg (n - (k+1))
            case measure=>omega
            case rel =>
              refine⟨k+1,by omega,by go_num,B5.out,?_⟩
              have h:=O5.out
              rw[← flatA_append] at h
              unfold OwnA
              rw[HT.out,HP.out,List.length_append]
              exact h
          | false =>
            have HP:=Lib.hid (show pieceA ⟨fr,pg,w0,kd,fl,ofs⟩ f (f+p)=[] from by rw[piece_meet,hq,if_neg (by simp)])
            rw[hq] at CM
            clear hq EX EY
            go_wp2_with fail
            refine CM.out.mono ?_
            rintro e w2 ⟨rfl,hb2⟩
            have B2:=Lib.hid ((belAr (Below.refl wr.heap.size wr) _).trans (hb2.mono (by rw[World.size_alloc];omega)))
            clear hb2
            go_wp2_with fail
            go_roundg (n - (k+1))
            case measure=>omega
            case rel =>
              refine⟨k+1,by omega,by go_num,BR.out.trans (B2.out.mono BR.out.size),?_⟩
              rw[HT.out,HP.out,List.append_nil]
              exact own_freshA OW.out B2.out
      · by_cases d2:fr+pg≤f+p
        · have EX:maxI f fr=f:=by unfold maxI;split <;> omega
          have EY:minI (f+p) (fr+pg)=fr+pg:=by unfold minI;split <;> omega
          cases hq:meetA f p ⟨fr,pg,w0,kd,fl,ofs⟩ with
          | true =>
            have HP:=Lib.hid (show pieceA ⟨fr,pg,w0,kd,fl,ofs⟩ f (f+p)=[pcA ⟨fr,pg,w0,kd,fl,ofs⟩ (f) (fr+pg)] from by
              rw[piece_meet,hq,if_pos rfl]
              simp only[EX,EY,pcA,List.cons.injEq,Ar.mk.injEq,and_true,true_and]
              split <;> omega)
            have PI:=Lib.hid (fun W=>piece_any ⟨fr,pg,w0,kd,fl,ofs⟩ (f) (fr+pg) W ⟨by omega,by omega⟩ ⟨by omega,by omega⟩ ⟨by simp only;omega,by simp only;omega,by simp only;omega,by simp only;omega⟩)
            obtain⟨q,hqq⟩:∃ q,q=pcA ⟨fr,pg,w0,kd,fl,ofs⟩ (f) (fr+pg):=⟨_,rfl⟩
            rw[← hqq] at HP PI
            rw[hq] at CM
            clear hq EX EY hqq
            go_wp2_with fail
            refine CM.out.mono ?_
            rintro e w2 ⟨rfl,hb2⟩
            obtain⟨k0,k1,k2,k3,k4,k5⟩:=box_at ⟨fr,pg,w0,kd,fl,ofs⟩ wr w2 _ hb2
            have B2:=Lib.hid ((belAr (Below.refl wr.heap.size wr) _).trans (hb2.mono (by rw[World.size_alloc];omega)))
            clear hb2
            go_wp2_with fail
            refine (PI.out _).mono ?_
            rintro e w3 ⟨rfl,hb3⟩
            have B3:=Lib.hid (B2.out.trans (hb3.mono B2.out.size))
            have OWN:=Lib.hid (own_freshA OW.out (belAr B3.out (.cells #[.int .i64 q.fr,.int .i64 q.pg,.bool q.w,.int .i64 q.kd,.int .i64 q.fl,.int .i64 q.ofs] 77)))
            have RD:=Lib.hid (show Rd (w3.alloc (.cells #[.int .i64 q.fr,.int .i64 q.pg,.bool q.w,.int .i64 q.kd,.int .i64 q.fl,.int .i64 q.ofs] 77)) 6 (.slice (some ⟨w3.heap.size,0,none⟩) 1 1) 1 (flatA [q]) from Rd.one (e:=77) (fun j u hj=>by have:=cells_new w3 77 (arL q) j u hj;rw[Addr.add_lit,Nat.zero_add] at this;exact this) rfl (flatA_one [q]))
            have HQ1:=Lib.hid (show (inA (l.take k) f p).length+1≤maxLen from by have:=inA_length_take l k f p;unfold maxLen;omega)
            have HQ2:=Lib.hid (show ((inA (l.take k) f p).length+1) * 48≤140737488355328 from by have:=inA_length_take l k f p;omega)
            have HQ3:=Lib.hid (show w1.heap.size≤(w3.alloc (.cells #[.int .i64 q.fr,.int .i64 q.pg,.bool q.w,.int .i64 q.kd,.int .i64 q.fl,.int .i64 q.ofs] 77)).heap.size from by have:=B3.out.size;have:=BR.out.size;rw[World.size_alloc];omega)
            clear hb3
            go_wp2_with (refine wpList_app rfl (.tmp 23) (.tmp 39) 91 rfl w1.heap.size 77 iA (.agg (arL ar0).toArray) 6 48 Tryz.underlying91 HIA.out HA0.out HA1.out HA2.out rfl (by decide) _ _ _ rfl OWN.out _ _ _ rfl RD.out HQ1.out HQ2.out HQ3.out ?_;intro v5 w5 ho5 hg5;have O5:=Lib.hid ho5;have B5:=Lib.hid (show Below w1.heap.size w1 w5 from (BR.out.trans ((belAr B3.out _).mono BR.out.size)).grown hg5 HQ3.out (fun k hk=>(OWN.out.lt k hk).1));clear ho5 hg5)
            go_roundg (n - (k+1))
            case measure=>omega
            case rel =>
              refine⟨k+1,by omega,by go_num,B5.out,?_⟩
              have h:=O5.out
              rw[← flatA_append] at h
              unfold OwnA
              rw[HT.out,HP.out,List.length_append]
              exact h
          | false =>
            have HP:=Lib.hid (show pieceA ⟨fr,pg,w0,kd,fl,ofs⟩ f (f+p)=[] from by rw[piece_meet,hq,if_neg (by simp)])
            rw[hq] at CM
            clear hq EX EY
            go_wp2_with fail
            refine CM.out.mono ?_
            rintro e w2 ⟨rfl,hb2⟩
            have B2:=Lib.hid ((belAr (Below.refl wr.heap.size wr) _).trans (hb2.mono (by rw[World.size_alloc];omega)))
            clear hb2
            go_wp2_with fail
            go_roundg (n - (k+1))
            case measure=>omega
            case rel =>
              refine⟨k+1,by omega,by go_num,BR.out.trans (B2.out.mono BR.out.size),?_⟩
              rw[HT.out,HP.out,List.append_nil]
              exact own_freshA OW.out B2.out
        · have EX:maxI f fr=f:=by unfold maxI;split <;> omega
          have EY:minI (f+p) (fr+pg)=f+p:=by unfold minI;split <;> omega
          cases hq:meetA f p ⟨fr,pg,w0,kd,fl,ofs⟩ with
          | true =>
            have HP:=Lib.hid (show pieceA ⟨fr,pg,w0,kd,fl,ofs⟩ f (f+p)=[pcA ⟨fr,pg,w0,kd,fl,ofs⟩ (f) (f+p)] from by
              rw[piece_meet,hq,if_pos rfl]
              simp only[EX,EY,pcA,List.cons.injEq,Ar.mk.injEq,and_true,true_and]
              split <;> omega)
            have PI:=Lib.hid (fun W=>piece_any ⟨fr,pg,w0,kd,fl,ofs⟩ (f) (f+p) W ⟨by omega,by omega⟩ ⟨by omega,by omega⟩ ⟨by simp only;omega,by simp only;omega,by simp only;omega,by simp only;omega⟩)
            obtain⟨q,hqq⟩:∃ q,q=pcA ⟨fr,pg,w0,kd,fl,ofs⟩ (f) (f+p):=⟨_,rfl⟩
            rw[← hqq] at HP PI
            rw[hq] at CM
            clear hq EX EY hqq
            go_wp2_with fail
            refine CM.out.mono ?_
            rintro e w2 ⟨rfl,hb2⟩
            obtain⟨k0,k1,k2,k3,k4,k5⟩:=box_at ⟨fr,pg,w0,kd,fl,ofs⟩ wr w2 _ hb2
            have B2:=Lib.hid ((belAr (Below.refl wr.heap.size wr) _).trans (hb2.mono (by rw[World.size_alloc];omega)))
            clear hb2
            go_wp2_with fail
            refine (PI.out _).mono ?_
            rintro e w3 ⟨rfl,hb3⟩
            have B3:=Lib.hid (B2.out.trans (hb3.mono B2.out.size))
            have OWN:=Lib.hid (own_freshA OW.out (belAr B3.out (.cells #[.int .i64 q.fr,.int .i64 q.pg,.bool q.w,.int .i64 q.kd,.int .i64 q.fl,.int .i64 q.ofs] 77)))
            have RD:=Lib.hid (show Rd (w3.alloc (.cells #[.int .i64 q.fr,.int .i64 q.pg,.bool q.w,.int .i64 q.kd,.int .i64 q.fl,.int .i64 q.ofs] 77)) 6 (.slice (some ⟨w3.heap.size,0,none⟩) 1 1) 1 (flatA [q]) from Rd.one (e:=77) (fun j u hj=>by have:=cells_new w3 77 (arL q) j u hj;rw[Addr.add_lit,Nat.zero_add] at this;exact this) rfl (flatA_one [q]))
            have HQ1:=Lib.hid (show (inA (l.take k) f p).length+1≤maxLen from by have:=inA_length_take l k f p;unfold maxLen;omega)
            have HQ2:=Lib.hid (show ((inA (l.take k) f p).length+1) * 48≤140737488355328 from by have:=inA_length_take l k f p;omega)
            have HQ3:=Lib.hid (show w1.heap.size≤(w3.alloc (.cells #[.int .i64 q.fr,.int .i64 q.pg,.bool q.w,.int .i64 q.kd,.int .i64 q.fl,.int .i64 q.ofs] 77)).heap.size from by have:=B3.out.size;have:=BR.out.size;rw[World.size_alloc];omega)
            clear hb3
            go_wp2_with (refine wpList_app rfl (.tmp 23) (.tmp 39) 91 rfl w1.heap.size 77 iA (.agg (arL ar0).toArray) 6 48 Tryz.underlying91 HIA.out HA0.out HA1.out HA2.out rfl (by decide) _ _ _ rfl OWN.out _ _ _ rfl RD.out HQ1.out HQ2.out HQ3.out ?_;intro v5 w5 ho5 hg5;have O5:=Lib.hid ho5;have B5:=Lib.hid (show Below w1.heap.size w1 w5 from (BR.out.trans ((belAr B3.out _).mono BR.out.size)).grown hg5 HQ3.out (fun k hk=>(OWN.out.lt k hk).1));clear ho5 hg5)
            go_roundg (n - (k+1))
            case measure=>omega
            case rel =>
              refine⟨k+1,by omega,by go_num,B5.out,?_⟩
              have h:=O5.out
              rw[← flatA_append] at h
              unfold OwnA
              rw[HT.out,HP.out,List.length_append]
              exact h
          | false =>
            have HP:=Lib.hid (show pieceA ⟨fr,pg,w0,kd,fl,ofs⟩ f (f+p)=[] from by rw[piece_meet,hq,if_neg (by simp)])
            rw[hq] at CM
            clear hq EX EY
            go_wp2_with fail
            refine CM.out.mono ?_
            rintro e w2 ⟨rfl,hb2⟩
            have B2:=Lib.hid ((belAr (Below.refl wr.heap.size wr) _).trans (hb2.mono (by rw[World.size_alloc];omega)))
            clear hb2
            go_wp2_with fail
            go_roundg (n - (k+1))
            case measure=>omega
            case rel =>
              refine⟨k+1,by omega,by go_num,BR.out.trans (B2.out.mono BR.out.size),?_⟩
              rw[HT.out,HP.out,List.append_nil]
              exact own_freshA OW.out B2.out
    · obtain rfl:k=n:=by omega
      have t4:decide ((k:Int) < (k:Int))=false:=decide_eq_false (by omega)
      go_wp2_with fail
      go_ret
      refine⟨_,rfl,?_,?_⟩
      · have h:=OW.out
        rw[List.take_of_length_le (by rw[HN.out];exact Nat.le_refl _)] at h
        exact own_base h B1.out.size
      · exact B1.out.trans (BR.out.mono B1.out.size)
end Go.Proofs.YtaonpmclkafjdaaGreat

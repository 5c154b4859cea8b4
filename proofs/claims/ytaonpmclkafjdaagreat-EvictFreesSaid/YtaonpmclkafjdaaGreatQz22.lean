/-
  Add of the back map over the landed code.
  Drop of the back map over the landed code.
  Hold and Release over the landed code.
  Release over the landed code.
  Conditions: those that each line bears.
-/
import Derived.Test.YtaonpmclkafjdaaGreatQz21
import Derived.StillTailTactics
import Derived.Carry
set_option linter.unusedSimpArgs false
set_option linter.unusedSectionVars false
set_option linter.unusedVariables false
namespace Go.Proofs.YtaonpmclkafjdaaGreat
open Go.RowKit
set_option linter.unusedVariables false
theorem eqOut_some (m:Nat)(w:World):(binOp .eql 218 (.map (some m)) (.map none)).run Tryz.prog w=.ok (.bool false) w:=by kernel_rfl
theorem eqOut_none (w:World):(binOp .eql 218 (.map none) (.map none)).run Tryz.prog w=.ok (.bool true) w:=by kernel_rfl
theorem eqIn_some (m:Nat)(w:World):(binOp .eql 236 (.map (some m)) (.map none)).run Tryz.prog w=.ok (.bool false) w:=by kernel_rfl
theorem eqIn_none (w:World):(binOp .eql 236 (.map none) (.map none)).run Tryz.prog w=.ok (.bool true) w:=by kernel_rfl
structure AddAt (w:World)(K:Nat→Prop)(gB m k:Nat)(b:BS)(f:Int)(bk:Int→Nat)(W:World):Prop where
  blk:Blk W gB 220 #[.map (some m)]
  out:∃ n,MapK EI W m n (updK (outL b bk) f (some (.map (some k))))
  inn:MapK EP W k (b f).length (setL (b f))
  oth:∀ g,g≠f→b g≠[]→K (bk g)∧bk g≠m∧bk g≠k∧∃ n,MapK EP W (bk g) n (setL (b g))
  inj:∀ f' g,f'≠f→g≠f→b f'≠[]→b g≠[]→bk f'=bk g→f'=g
  km:k≠m
  trn:Turns K w W
  kM:K m∨w.heap.size≤m
  kK:K k∨w.heap.size≤k
section
variable {w W W':World}{gB m k:Nat}{K:Nat→Prop}{b:BS}{f:Int}{bk:Int→Nat}
theorem AddAt.drew (h:AddAt w K gB m k b f bk W):AddAt w K gB m k b f bk W.drew:=by
  obtain⟨n,h1⟩:=h.out
  exact⟨h.blk,⟨n,h1.far rfl⟩,h.inn.far rfl,fun g hg hb=>by obtain⟨a1,a2,a3,n',a4⟩:=h.oth g hg hb;exact⟨a1,a2,a3,n',a4.far rfl⟩,h.inj,h.km,h.trn.drew,h.kM,h.kK⟩
theorem AddAt.done (h:AddAt w K gB m k b f bk W) (hB:K gB) (hs:∀ f,SrtP (b f)) (hle:∀ f,(b f).length≤200000) (hl:(b f).length≤100000) (hlt:∀ k,K k→k < w.heap.size) {p:Pl} {n:Nat} (hm:MapK EP W' k n (updK (setL (b f)) p (some (.agg #[])))) (ho:Only k W W') :
    BackPost w gB K (.tuple #[]) (updB b f (putP (b f) p)) (.returned (.tuple #[])) W':=by
  have hk1:∀ j,j < W.heap.size→j≠k→W'.heap[j]?=W.heap[j]?:=fun j hj hne=>ho.1.block j hj (fun e=>hne (by injection e with e))
  have hsz:=h.trn.size
  obtain⟨n1,hM⟩:=h.out
  have hmk:=hM.blk
  have hkk:=h.inn.blk
  have hgk:gB≠k:=fun e=>h.blk.noMap h.inn.isMap e.symm
  refine⟨fun j=>K j∨j=m∨j=k,rfl,⟨fun j hj=>?_,fun g=>?_,fun g=>?_,.inl hB,some m,?_,fun g=>if g=f then k else bk g,?_⟩,fun j hj=>?_,?_⟩
  · rw[ho.2]
    rcases hj with hj | rfl | rfl
    · exact Nat.lt_of_lt_of_le (hlt j hj) hsz
    · exact hmk
    · exact hkk
  · unfold updB
    split
    · exact srt_putP (hs f)
    · exact hs g
  · unfold updB
    split
    · exact Nat.le_trans (putP_length _ _) (by omega)
    · exact hle g
  · unfold Blk
    rw[hk1 gB h.blk.lt hgk]
    exact h.blk
  · refine⟨Or.inr (Or.inl (Eq.refl m)),⟨n1,(hM.far (hk1 m hmk (fun e=>h.km e.symm))).congr fun g=>?_⟩,fun g hg=>?_,fun g g' hg hg' e=>?_⟩
    · unfold updK outL updB
      by_cases c:g=f
      · simp only[if_pos c]
        rw[if_neg (putP_ne _ _)]
      · simp only[if_neg c]
    · unfold updB at hg ⊢
      by_cases c:g=f
      · simp only[if_pos c] at hg ⊢
        refine⟨.inr (.inr trivial),h.km,n,hm.congr fun q=>?_⟩
        unfold updK setL
        by_cases cq:q=p
        · rw[if_pos cq,if_pos (mem_putP.2 (.inl cq))]
        · rw[if_neg cq]
          by_cases cm:q∈b f
          · rw[if_pos cm,if_pos (mem_putP.2 (.inr cm))]
          · rw[if_neg cm,if_neg (fun hq=>(mem_putP.1 hq).elim cq cm)]
      · simp only[if_neg c] at hg ⊢
        obtain⟨h1,h2,h3,n',h4⟩:=h.oth g c hg
        exact⟨.inl h1,h2,n',h4.far (hk1 _ h4.blk h3)⟩
    · unfold updB at hg hg'
      by_cases c:g=f
      · by_cases c':g'=f
        · rw[c,c']
        · simp only[if_pos c,if_neg c'] at e hg'
          exact absurd e.symm (h.oth g' c' hg').2.2.1
      · by_cases c':g'=f
        · simp only[if_neg c,if_pos c'] at e hg
          exact absurd e (h.oth g c hg).2.2.1
        · simp only[if_neg c,if_neg c'] at e hg hg'
          exact h.inj g g' c c' hg hg' e
  · rcases hj with hj | rfl | rfl
    · exact .inl hj
    · exact h.kM
    · exact h.kK
  · rcases h.kK with hk | hk
    · exact h.trn.trans (Turns.of_only ho hk)
    · exact h.trn.new_ ho hk
end
set_option maxRecDepth 20000 in
set_option maxHeartbeats 1000000 in
theorem add_has (gB m:Nat) (K:Nat→Prop) (b:BS) (bk:Int→Nat) (f:Int) (p:Pl) (w:World) (hB:Blk w gB 220 #[.map (some m)]) (hI:InMap w K b m bk) (hs:∀ f,SrtP (b f)) (hle:∀ f,(b f).length≤200000) (hlt:∀ k,K k→k < w.heap.size) (kB:K gB) (wf:W64 f) (wp:WPl p) (hf:b f≠[]) (hl:(b f).length≤100000) :
    Calls Tryz.prog 171 #[.pointer (some ⟨gB,0,none⟩),.int .i64 f,.agg #[.int .i64 p.c,.int .i64 p.g]] w (BackPost w gB K (.tuple #[]) (updB b f (putP (b f) p))):=by
  obtain⟨W,hW⟩:∃ W,w.alloc (.cells #[.int .i64 p.c,.int .i64 p.g] 60)=W:=⟨_,rfl⟩
  have hbel:Below w.heap.size w W:=by rw[← hW];exact belAl (Below.refl _ w) _
  have hTr:Turns K w W:=Turns.of_below hbel (Nat.le_refl _)
  have hkp:Blk W w.heap.size 60 #[.int .i64 p.c,.int .i64 p.g]:=by rw[← hW];exact Blk.new _ _ _
  have hI':InMap W K b m bk:=hI.far fun k hk=>hbel.block k (hlt k hk)
  have hB':Blk W gB 220 #[.map (some m)]:=hB.below hbel hB.lt
  obtain⟨n,hM⟩:=hI'.out
  have hin:=hI'.tightI hs hf
  have hg:∀ W',MapK EI W' m n (outL b bk)→(Instr.lookup 218 (.map (some m)) (.int .i64 f) false).run Tryz.prog W'=.ok (.map (some (bk f))) W':=fun W' h'=>by
    have:=h'.run_get Tryz.underlying218 (z:=.map none) (by rfl) f wf
    rw[show outL b bk f=some (.map (some (bk f))) from if_neg hf] at this
    exact this
  have l1:=hg W hM
  have l2:=hg W.drew (hM.far rfl)
  have HAT:=Lib.hid (show AddAt w K gB m (bk f) b f bk W from ⟨hB',⟨n,hM.congr fun g=>by
      unfold updK
      split
      · rename_i c
        rw[c]
        exact if_neg hf
      · rfl⟩,hin,fun g hg hb=>⟨(hI'.inn g hb).1,(hI'.inn g hb).2.1,fun e=>hg (hI'.inj g f hb hf e),(hI'.inn g hb).2.2⟩,fun f' g _ _ h1 h2 e=>hI'.inj f' g h1 h2 e,(hI'.inn f hf).2.1,hTr,.inl hI'.kM,.inl (hI'.inn f hf).1⟩)
  have c1:W.cell? ⟨gB,0,none⟩=some (.map (some m)):=hB'.cell 0
  have k1:W.cell? ⟨w.heap.size,0,none⟩=some (.int .i64 p.c):=hkp.cell 0
  have k2:W.cell? ⟨w.heap.size,1,none⟩=some (.int .i64 p.g):=hkp.cell 1
  obtain⟨W2,hW2⟩:∃ W2,W2=W.drew:=⟨_,rfl⟩
  have hin2:MapK EP W2 (bk f) (b f).length (setL (b f)):=by rw[hW2];exact hin
  obtain⟨W3,hst0,hm3,ho3⟩:=hin2.run_store Tryz.underlying236 (by omega) p wp (.agg #[])
  have hst:(Instr.mapUpdate 236 (.map (some (bk f))) (.agg #[.int .i64 p.c,.int .i64 p.g]) (.agg #[])).run Tryz.prog W2=.ok () W3:=hst0
  clear hst0
  have HM3:=Lib.hid hm3
  have HO3:=Lib.hid ho3
  have HW2:=Lib.hid hW2
  clear hW2
  have HX:=Lib.hid (And.intro hs (And.intro hlt kB))
  have HL:=Lib.hid (And.intro hle hl)
  clear hB hI hs hle hlt kB wf hf hl hbel hTr hkp hI' hB' hM hin hg hin2 hm3 ho3
  have q1:=eqOut_some m
  have q2:=eqIn_some (bk f)
  go_enter Tryz.func171,Tryz.ntmps171
  go_wp2_with fail
  go_still_tail 8,(by kernel_rfl)
  change wpList _ _ _ _ _ W.drew
  rw[← HW2.out]
  have HAT2:=Lib.hid (show AddAt w K gB m (bk f) b f bk W2 from by rw[HW2.out];exact HAT.out.drew)
  go_wp2_with fail
  go_end0
  exact HAT2.out.done HX.out.2.2 HX.out.1 HL.out.1 HL.out.2 HX.out.2.1 HM3.out HO3.out
set_option maxRecDepth 20000 in
set_option maxHeartbeats 1000000 in
theorem add_new (gB m:Nat) (K:Nat→Prop) (b:BS) (bk:Int→Nat) (f:Int) (p:Pl) (w:World) (hB:Blk w gB 220 #[.map (some m)]) (hI:InMap w K b m bk) (hs:∀ f,SrtP (b f)) (hle:∀ f,(b f).length≤200000) (hlt:∀ k,K k→k < w.heap.size) (kB:K gB) (wf:W64 f) (wp:WPl p) (hf:b f=[]) (hF:FewF b) :
    Calls Tryz.prog 171 #[.pointer (some ⟨gB,0,none⟩),.int .i64 f,.agg #[.int .i64 p.c,.int .i64 p.g]] w (BackPost w gB K (.tuple #[]) (updB b f (putP (b f) p))):=by
  obtain⟨W,hW⟩:∃ W,w.alloc (.cells #[.int .i64 p.c,.int .i64 p.g] 60)=W:=⟨_,rfl⟩
  have hbel:Below w.heap.size w W:=by rw[← hW];exact belAl (Below.refl _ w) _
  have hTr:Turns K w W:=Turns.of_below hbel (Nat.le_refl _)
  have hkp:Blk W w.heap.size 60 #[.int .i64 p.c,.int .i64 p.g]:=by rw[← hW];exact Blk.new _ _ _
  have hI':InMap W K b m bk:=hI.far fun k hk=>hbel.block k (hlt k hk)
  have hB':Blk W gB 220 #[.map (some m)]:=hB.below hbel hB.lt
  obtain⟨n,hn,hM⟩:=hI'.tightM hF
  have kM:K m∨w.heap.size≤m:=.inl hI'.kM
  have hO:=hI'.inn
  have hJ:=hI'.inj
  have hnf:outL b bk f=none:=if_pos hf
  have l1:(Instr.lookup 218 (.map (some m)) (.int .i64 f) false).run Tryz.prog W=.ok (.map none) W:=by
    have:=hM.run_get Tryz.underlying218 (z:=.map none) (by rfl) f wf
    rw[hnf] at this
    exact this
  obtain⟨W1,hW1⟩:∃ W1,W.alloc (.map #[] 0)=W1:=⟨_,rfl⟩
  have hb1:Below W.heap.size W W1:=by rw[← hW1];exact belAl (Below.refl _ W) _
  have hmlt:=hM.blk
  have hkm:W.heap.size≠m:=by omega
  obtain⟨W2,hst2a,hm2,ho2⟩:=(hM.far (hb1.block m hmlt)).run_store Tryz.underlying218 (by omega) f wf (.map (some W.heap.size))
  have hst2:(Instr.mapUpdate 218 (.map (some m)) (.int .i64 f) (.map (some W.heap.size))).run Tryz.prog W1=.ok () W2:=hst2a
  have hs1:W.heap.size < W1.heap.size:=by rw[← hW1];simp
  have hk2:∀ j,j < W1.heap.size→j≠m→W2.heap[j]?=W1.heap[j]?:=fun j hj hne=>ho2.1.block j hj (fun e=>hne (by injection e with e))
  have hin:MapK EP W2 W.heap.size (b f).length (setL (b f)):=by
    have h0:MapK EP W1 W.heap.size (b f).length (setL (b f)):=by
      rw[← hW1]
      refine (MapK.made W EP _).congr fun q=>?_
      unfold setL
      rw[hf,if_neg List.not_mem_nil]
    exact h0.far (hk2 _ hs1 hkm)
  have hk1:∀ j,j < W.heap.size→j≠m→W2.heap[j]?=W.heap[j]?:=fun j hj hne=>(hk2 j (by omega) hne).trans (hb1.block j hj)
  have hgm:gB≠m:=fun e=>hB'.noMap hM.isMap e.symm
  have hTr2:Turns K w W2:=by
    have h1:Turns K w W1:=hTr.trans (Turns.of_below hb1 (Nat.le_refl _))
    rcases kM with h | h
    · exact h1.trans (Turns.of_only ho2 h)
    · exact h1.new_ ho2 h
  have HAT:=Lib.hid (show AddAt w K gB m W.heap.size b f bk W2 from ⟨by unfold Blk;rw[hk1 gB hB'.lt hgm];exact hB',⟨_,hm2⟩,hin,fun g hg hb=>by
      obtain⟨a1,a2,n',a3⟩:=hO g hb
      have a4:=a3.blk
      exact⟨a1,a2,fun e=>by omega,n',a3.far (hk1 _ a4 a2)⟩,fun f' g _ _ h1 h2 e=>hJ f' g h1 h2 e,hkm,hTr2,kM,.inr hTr.size⟩)
  have hg2:(Instr.lookup 218 (.map (some m)) (.int .i64 f) false).run Tryz.prog W2.drew=.ok (.map (some W.heap.size)) W2.drew:=by
    have:=(show MapK EI W2.drew m _ _ from hm2.far rfl).run_get Tryz.underlying218 (z:=.map none) (by rfl) f wf
    rw[show updK (outL b bk) f (some (.map (some W.heap.size))) f=some (.map (some W.heap.size)) from if_pos rfl] at this
    exact this
  have c2:W2.cell? ⟨gB,0,none⟩=some (.map (some m)):=HAT.out.blk.cell 0
  have c1:W.cell? ⟨gB,0,none⟩=some (.map (some m)):=hB'.cell 0
  have c3:W1.cell? ⟨gB,0,none⟩=some (.map (some m)):=(hB'.below hb1 hB'.lt).cell 0
  have hkp2:Blk W2 w.heap.size 60 #[.int .i64 p.c,.int .i64 p.g]:=by
    unfold Blk
    rw[hk1 _ hkp.lt (fun e=>hkp.noMap hM.isMap e.symm)]
    exact hkp
  have k1:W2.cell? ⟨w.heap.size,0,none⟩=some (.int .i64 p.c):=hkp2.cell 0
  have k2:W2.cell? ⟨w.heap.size,1,none⟩=some (.int .i64 p.g):=hkp2.cell 1
  obtain⟨W3,hW3⟩:∃ W3,W3=W2.drew:=⟨_,rfl⟩
  have hin3:MapK EP W3 W.heap.size (b f).length (setL (b f)):=by rw[hW3];exact hin.far rfl
  obtain⟨W4,hst0,hm4,ho4⟩:=hin3.run_store Tryz.underlying236 (by rw[hf];exact Nat.zero_le _) p wp (.agg #[])
  have hst:(Instr.mapUpdate 236 (.map (some W.heap.size)) (.agg #[.int .i64 p.c,.int .i64 p.g]) (.agg #[])).run Tryz.prog W3=.ok () W4:=hst0
  have HAT3:=Lib.hid (show AddAt w K gB m W.heap.size b f bk W3 from by rw[hW3];exact HAT.out.drew)
  have HM4:=Lib.hid hm4
  have HO4:=Lib.hid ho4
  have HW3:=Lib.hid hW3
  have HX:=Lib.hid (And.intro hs (And.intro hlt kB))
  have HL:=Lib.hid (And.intro hle (show (b f).length≤100000 from by rw[hf];exact Nat.zero_le _))
  have q1:=eqOut_some m
  have q0:=eqOut_none
  have q2:=eqIn_some W.heap.size
  have q3:=eqIn_none
  have hmm:=@run_makeMap Tryz.prog
  clear hB hI hs hle hlt kB wf hf hbel hTr hkp hI' hB' hM hO hJ hin hin3 hst0 hm4 ho4 hW3 hm2 ho2 hst2a hk1 hk2 hgm hTr2 kM hkp2 hnf hb1 hn hkm hmlt hs1
  go_enter Tryz.func171,Tryz.ntmps171
  go_wp2_with fail
  go_still_tail 8,(by kernel_rfl)
  change wpList _ _ _ _ _ W2.drew
  rw[← HW3.out]
  go_wp2_with fail
  go_end0
  exact HAT3.out.done HX.out.2.2 HX.out.1 HL.out.1 HL.out.2 HX.out.2.1 HM4.out HO4.out
set_option maxRecDepth 20000 in
set_option maxHeartbeats 1000000 in
theorem add_nil (gB:Nat) (K:Nat→Prop) (b:BS) (f:Int) (p:Pl) (w:World) (hB:Blk w gB 220 #[.map none]) (hE:∀ f,b f=[]) (hs:∀ f,SrtP (b f)) (hle:∀ f,(b f).length≤200000) (hlt:∀ k,K k→k < w.heap.size) (kB:K gB) (wf:W64 f) (wp:WPl p) :
    Calls Tryz.prog 171 #[.pointer (some ⟨gB,0,none⟩),.int .i64 f,.agg #[.int .i64 p.c,.int .i64 p.g]] w (BackPost w gB K (.tuple #[]) (updB b f (putP (b f) p))):=by
  obtain⟨W0,hW0⟩:∃ W,w.alloc (.cells #[.int .i64 p.c,.int .i64 p.g] 60)=W:=⟨_,rfl⟩
  have hbel0:Below w.heap.size w W0:=by rw[← hW0];exact belAl (Below.refl _ w) _
  have hkp0:Blk W0 w.heap.size 60 #[.int .i64 p.c,.int .i64 p.g]:=by rw[← hW0];exact Blk.new _ _ _
  have hB0:Blk W0 gB 220 #[.map none]:=hB.below hbel0 hB.lt
  obtain⟨m,hm⟩:∃ m,W0.heap.size=m:=⟨_,rfl⟩
  obtain⟨V,hV⟩:∃ V,W0.alloc (.map #[] 0)=V:=⟨_,rfl⟩
  have hbV:Below W0.heap.size W0 V:=by rw[← hV];exact belAl (Below.refl _ W0) _
  have hBV:Blk V gB 220 #[.map none]:=hB0.below hbV hB0.lt
  have hMV:MapK EI V m 0 (fun _=>none):=by rw[← hV,← hm];exact MapK.made W0 EI 0
  obtain⟨W,hW⟩:∃ W,V.setCell ⟨gB,0,none⟩ (.map (some m))=W:=⟨_,rfl⟩
  have hoW:Only gB V W:=by rw[← hW];exact (Only.refl gB V).setCell 0 _
  have hB':Blk W gB 220 #[.map (some m)]:=by rw[← hW];exact hBV.set_ 0 _
  have hgm0:m≠gB:=hBV.noMap hMV.isMap
  obtain⟨bk,hbk⟩:∃ bk:Int→Nat,bk=fun _=>0:=⟨_,rfl⟩
  have hn:0≤100000:=Nat.zero_le _
  have hM:MapK EI W m 0 (outL b bk):=(hMV.far (hoW.1.block m hMV.blk (fun e=>hgm0 (by injection e with e)))).congr fun g=>(if_pos (hE g)).symm
  have hkp:Blk W w.heap.size 60 #[.int .i64 p.c,.int .i64 p.g]:=by
    have hg:=hlt gB kB
    have h1:=hkp0.below hbV hkp0.lt
    unfold Blk
    rw[hoW.1.block _ h1.lt (fun e=>by injection e with e;omega)]
    exact h1
  have hTr:Turns K w W:=(Turns.of_below (hbel0.trans (hbV.mono hbel0.size)) (Nat.le_refl _)).trans (Turns.of_only hoW kB)
  have kM:K m∨w.heap.size≤m:=.inr (by rw[← hm];exact hbel0.size)
  have hO:∀ g,b g≠[]→K (bk g)∧bk g≠m∧∃ n,MapK EP W (bk g) n (setL (b g)):=fun g hg=>absurd (hE g) hg
  have hJ:∀ f g,b f≠[]→b g≠[]→bk f=bk g→f=g:=fun f g hf=>absurd (hE f) hf
  have hf:=hE f
  have c01:W0.cell? ⟨gB,0,none⟩=some (.map none):=hB0.cell 0
  have c02:V.cell? ⟨gB,0,none⟩=some (.map none):=hBV.cell 0
  have f02:V.frozen? ⟨gB,0,none⟩=false:=hBV.frozen 0
  have hnf:outL b bk f=none:=if_pos hf
  have l1:(Instr.lookup 218 (.map (some m)) (.int .i64 f) false).run Tryz.prog W=.ok (.map none) W:=by
    have:=hM.run_get Tryz.underlying218 (z:=.map none) (by rfl) f wf
    rw[hnf] at this
    exact this
  obtain⟨W1,hW1⟩:∃ W1,W.alloc (.map #[] 0)=W1:=⟨_,rfl⟩
  have hb1:Below W.heap.size W W1:=by rw[← hW1];exact belAl (Below.refl _ W) _
  have hmlt:=hM.blk
  have hkm:W.heap.size≠m:=by omega
  obtain⟨W2,hst2a,hm2,ho2⟩:=(hM.far (hb1.block m hmlt)).run_store Tryz.underlying218 (by omega) f wf (.map (some W.heap.size))
  have hst2:(Instr.mapUpdate 218 (.map (some m)) (.int .i64 f) (.map (some W.heap.size))).run Tryz.prog W1=.ok () W2:=hst2a
  have hs1:W.heap.size < W1.heap.size:=by rw[← hW1];simp
  have hk2:∀ j,j < W1.heap.size→j≠m→W2.heap[j]?=W1.heap[j]?:=fun j hj hne=>ho2.1.block j hj (fun e=>hne (by injection e with e))
  have hin:MapK EP W2 W.heap.size (b f).length (setL (b f)):=by
    have h0:MapK EP W1 W.heap.size (b f).length (setL (b f)):=by
      rw[← hW1]
      refine (MapK.made W EP _).congr fun q=>?_
      unfold setL
      rw[hf,if_neg List.not_mem_nil]
    exact h0.far (hk2 _ hs1 hkm)
  have hk1:∀ j,j < W.heap.size→j≠m→W2.heap[j]?=W.heap[j]?:=fun j hj hne=>(hk2 j (by omega) hne).trans (hb1.block j hj)
  have hgm:gB≠m:=fun e=>hB'.noMap hM.isMap e.symm
  have hTr2:Turns K w W2:=by
    have h1:Turns K w W1:=hTr.trans (Turns.of_below hb1 (Nat.le_refl _))
    rcases kM with h | h
    · exact h1.trans (Turns.of_only ho2 h)
    · exact h1.new_ ho2 h
  have HAT:=Lib.hid (show AddAt w K gB m W.heap.size b f bk W2 from ⟨by unfold Blk;rw[hk1 gB hB'.lt hgm];exact hB',⟨_,hm2⟩,hin,fun g hg hb=>by
      obtain⟨a1,a2,n',a3⟩:=hO g hb
      have a4:=a3.blk
      exact⟨a1,a2,fun e=>by omega,n',a3.far (hk1 _ a4 a2)⟩,fun f' g _ _ h1 h2 e=>hJ f' g h1 h2 e,hkm,hTr2,kM,.inr hTr.size⟩)
  have hg2:(Instr.lookup 218 (.map (some m)) (.int .i64 f) false).run Tryz.prog W2.drew=.ok (.map (some W.heap.size)) W2.drew:=by
    have:=(show MapK EI W2.drew m _ _ from hm2.far rfl).run_get Tryz.underlying218 (z:=.map none) (by rfl) f wf
    rw[show updK (outL b bk) f (some (.map (some W.heap.size))) f=some (.map (some W.heap.size)) from if_pos rfl] at this
    exact this
  have c2:W2.cell? ⟨gB,0,none⟩=some (.map (some m)):=HAT.out.blk.cell 0
  have c1:W.cell? ⟨gB,0,none⟩=some (.map (some m)):=hB'.cell 0
  have c3:W1.cell? ⟨gB,0,none⟩=some (.map (some m)):=(hB'.below hb1 hB'.lt).cell 0
  have hkp2:Blk W2 w.heap.size 60 #[.int .i64 p.c,.int .i64 p.g]:=by
    unfold Blk
    rw[hk1 _ hkp.lt (fun e=>hkp.noMap hM.isMap e.symm)]
    exact hkp
  have k1:W2.cell? ⟨w.heap.size,0,none⟩=some (.int .i64 p.c):=hkp2.cell 0
  have k2:W2.cell? ⟨w.heap.size,1,none⟩=some (.int .i64 p.g):=hkp2.cell 1
  obtain⟨W3,hW3⟩:∃ W3,W3=W2.drew:=⟨_,rfl⟩
  have hin3:MapK EP W3 W.heap.size (b f).length (setL (b f)):=by rw[hW3];exact hin.far rfl
  obtain⟨W4,hst0,hm4,ho4⟩:=hin3.run_store Tryz.underlying236 (by rw[hf];exact Nat.zero_le _) p wp (.agg #[])
  have hst:(Instr.mapUpdate 236 (.map (some W.heap.size)) (.agg #[.int .i64 p.c,.int .i64 p.g]) (.agg #[])).run Tryz.prog W3=.ok () W4:=hst0
  have HAT3:=Lib.hid (show AddAt w K gB m W.heap.size b f bk W3 from by rw[hW3];exact HAT.out.drew)
  have HM4:=Lib.hid hm4
  have HO4:=Lib.hid ho4
  have HW3:=Lib.hid hW3
  have HX:=Lib.hid (And.intro hs (And.intro hlt kB))
  have HL:=Lib.hid (And.intro hle (show (b f).length≤100000 from by rw[hf];exact Nat.zero_le _))
  have q1:=eqOut_some m
  have q0:=eqOut_none
  have q2:=eqIn_some W.heap.size
  have q3:=eqIn_none
  have hmm:=@run_makeMap Tryz.prog
  clear hB hE hs hle hlt kB wf hf hbel0 hkp0 hB0 hbV hBV hMV hoW hgm0 hn hTr hkp hB' hM hO hJ hin hin3 hst0 hm4 ho4 hW3 hm2 ho2 hst2a hk1 hk2 hgm hTr2 kM hkp2 hnf hb1 hkm hmlt hs1
  go_enter Tryz.func171,Tryz.ntmps171
  go_wp2_with fail
  go_still_tail 8,(by kernel_rfl)
  change wpList _ _ _ _ _ W2.drew
  rw[← HW3.out]
  go_wp2_with fail
  go_end0
  exact HAT3.out.done HX.out.2.2 HX.out.1 HL.out.1 HL.out.2 HX.out.2.1 HM4.out HO4.out
theorem back_add (gB:Nat) (K:Nat→Prop) (b:BS) (w:World) (f:Int) (p:Pl) (h:BackMem w gB K b) (wf:W64 f) (wp:WPl p) (hf:(b f).length≤100000) (hF:FewF b) :
    Calls Tryz.prog 171 #[.pointer (some ⟨gB,0,none⟩),.int .i64 f,.agg #[.int .i64 p.c,.int .i64 p.g]] w (BackPost w gB K (.tuple #[]) (updB b f (putP (b f) p))):=by
  obtain⟨mo,h1,h2⟩:=h.at_
  cases mo with
  | none=>exact add_nil gB K b f p w h1 h2 h.srt h.len h.lt h.kB wf wp
  | some m =>
    obtain⟨bk,hI⟩:=h2
    by_cases c:b f=[]
    · exact add_new gB m K b bk f p w h1 hI h.srt h.len h.lt h.kB wf wp c hF
    · exact add_has gB m K b bk f p w h1 hI h.srt h.len h.lt h.kB wf wp c hf
end Go.Proofs.YtaonpmclkafjdaaGreat
namespace Go.Proofs.YtaonpmclkafjdaaGreat
open Go.RowKit
set_option linter.unusedVariables false
theorem updB_nop {b:BS}{f:Int}{l:List Pl}(h:b f=l):updB b f l=b:=by
  funext g
  unfold updB
  split
  · rename_i c
    rw[c,h]
  · rfl
theorem setL_erase {l:List Pl}(h:SrtP l)(p:Pl):∀ q,updK (setL l) p none q=setL (l.erase p) q:=by
  intro q
  unfold updK setL
  by_cases c:q=p
  · rw[if_pos c,if_neg (fun hq=>((mem_erase_srt h).1 hq).1 c)]
  · rw[if_neg c]
    by_cases m:q∈l
    · rw[if_pos m,if_pos ((mem_erase_srt h).2 ⟨c,m⟩)]
    · rw[if_neg m,if_neg (fun hq=>m ((mem_erase_srt h).1 hq).2)]
theorem eqIn_zero (w:World):(zeroValue 140).run Tryz.prog w=.ok (.agg #[]) w:=by kernel_rfl
set_option maxRecDepth 20000 in
set_option maxHeartbeats 1000000 in
theorem drop_has (gB m:Nat) (K:Nat→Prop) (b:BS) (bk:Int→Nat) (f:Int) (p:Pl) (w:World) (hB:Blk w gB 220 #[.map (some m)]) (hI:InMap w K b m bk) (hs:∀ f,SrtP (b f)) (hle:∀ f,(b f).length≤200000) (hlt:∀ k,K k→k < w.heap.size) (kB:K gB) (wf:W64 f) (wp:WPl p) (hf:b f≠[]) :
    Calls Tryz.prog 133 #[.pointer (some ⟨gB,0,none⟩),.int .i64 f,.agg #[.int .i64 p.c,.int .i64 p.g]] w (BackPost w gB K (.bool (decide (p∈b f))) (updB b f ((b f).erase p))):=by
  obtain⟨W,hW⟩:∃ W,w.alloc (.cells #[.int .i64 p.c,.int .i64 p.g] 60)=W:=⟨_,rfl⟩
  have hbel:Below w.heap.size w W:=by rw[← hW];exact belAl (Below.refl _ w) _
  have hTr:Turns K w W:=Turns.of_below hbel (Nat.le_refl _)
  have hkp:Blk W w.heap.size 60 #[.int .i64 p.c,.int .i64 p.g]:=by rw[← hW];exact Blk.new _ _ _
  have hI':InMap W K b m bk:=hI.far fun k hk=>hbel.block k (hlt k hk)
  have hB':Blk W gB 220 #[.map (some m)]:=hB.below hbel hB.lt
  obtain⟨n,hM⟩:=hI'.out
  have hin:=hI'.tightI hs hf
  have l1:(Instr.lookup 218 (.map (some m)) (.int .i64 f) false).run Tryz.prog W=.ok (.map (some (bk f))) W:=by
    have:=hM.run_get Tryz.underlying218 (z:=.map none) (by rfl) f wf
    rw[show outL b bk f=some (.map (some (bk f))) from if_neg hf] at this
    exact this
  have l2:(Instr.lookup 236 (.map (some (bk f))) (.agg #[.int .i64 p.c,.int .i64 p.g]) true).run Tryz.prog W=.ok (.tuple #[.agg #[],.bool (decide (p∈b f))]) W:=by
    have:=hin.run_look Tryz.underlying236 (eqIn_zero W) p wp
    have e1:(setL (b f) p).getD (.agg #[])=.agg #[]:=by unfold setL;split <;> rfl
    have e2:(setL (b f) p).isSome=decide (p∈b f):=by
      unfold setL
      by_cases c:p∈b f
      · rw[if_pos c,decide_eq_true c];rfl
      · rw[if_neg c,decide_eq_false c];rfl
    rw[e1,e2] at this
    exact this
  have c1:W.cell? ⟨gB,0,none⟩=some (.map (some m)):=hB'.cell 0
  have k1:W.cell? ⟨w.heap.size,0,none⟩=some (.int .i64 p.c):=hkp.cell 0
  have k2:W.cell? ⟨w.heap.size,1,none⟩=some (.int .i64 p.g):=hkp.cell 1
  have HA:=Lib.hid (all_any gB (some m) W c1)
  obtain⟨W1,hW1⟩:∃ W1,W.alloc (.cells #[] 140)=W1:=⟨_,rfl⟩
  have hb1:Below W.heap.size W W1:=by rw[← hW1];exact belAl (Below.refl _ W) _
  have hin1:MapK EP W1 (bk f) (b f).length (setL (b f)):=hin.far (hb1.block _ hin.blk)
  have k3:W1.cell? ⟨w.heap.size,0,none⟩=some (.int .i64 p.c):=(hkp.below hb1 hkp.lt).cell 0
  have k4:W1.cell? ⟨w.heap.size,1,none⟩=some (.int .i64 p.g):=(hkp.below hb1 hkp.lt).cell 1
  obtain⟨W2,hd2,hm2,ho2⟩:=hin1.run_drop Tryz.underlying236 p wp 0
  have d2:∀ ty,(Builtin.delete_ #[236,60] ty #[.map (some (bk f)),.agg #[.int .i64 p.c,.int .i64 p.g]]).run Tryz.prog W1=.ok (.tuple #[]) W2:=fun ty=>hd2
  have hm2':=hm2.congr (setL_erase (hs f) p)
  have e2:∀ ty,(Builtin.len_ #[236] ty #[.map (some (bk f))]).run Tryz.prog W2=.ok (.int .i64 (((b f).erase p).length:Int)) W2:=fun ty=>hm2'.run_len Tryz.underlying236 (srt_nd (srt_erase (hs f) p)) (fun x=>setL_ne.symm) ty
  obtain⟨ki,hne,_⟩:=hI'.inn f hf
  have hk2:∀ j,j < W.heap.size→j≠bk f→W2.heap[j]?=W.heap[j]?:=fun j hj hn=>(ho2.1.block j (Nat.lt_of_lt_of_le hj hb1.size) (fun e=>hn (by injection e with e))).trans (hb1.block j hj)
  have hB2:Blk W2 gB 220 #[.map (some m)]:=by
    unfold Blk
    rw[hk2 gB hB'.lt (fun e=>hI'.neI hf hB' e.symm)]
    exact hB'
  have hM2:MapK EI W2 m n (outL b bk):=hM.far (hk2 m hM.blk (fun e=>hne e.symm))
  have hT2:Turns K w W2:=(hTr.trans (Turns.of_below hb1 (Nat.le_refl _))).trans (Turns.of_only ho2 ki)
  have hO2:∀ g,g≠f→b g≠[]→K (bk g)∧bk g≠m∧∃ n,MapK EP W2 (bk g) n (setL (b g)):=fun g hg hb=>by
    obtain⟨a1,a2,n',a3⟩:=hI'.inn g hb
    exact⟨a1,a2,n',a3.far (hk2 _ a3.blk (fun e=>hg (hI'.inj g f hb hf e)))⟩
  have c2:W2.cell? ⟨gB,0,none⟩=some (.map (some m)):=hB2.cell 0
  have HA2:=Lib.hid (all_any gB (some m) W2 c2)
  have hlt2:∀ k,K k→k < W2.heap.size:=fun k hk=>Nat.lt_of_lt_of_le (hlt k hk) hT2.size
  obtain⟨l,hl⟩:∃ l,(b f).erase p=l:=⟨_,rfl⟩
  have hsl:SrtP l:=by rw[← hl];exact srt_erase (hs f) p
  have HS:=Lib.hid hs
  have HLE:=Lib.hid hle
  have hll:l.length≤200000:=by rw[← hl];exact Nat.le_trans (List.length_erase_le ..) (hle f)
  have HJ:=Lib.hid hI'.inj
  have HK:=Lib.hid (And.intro kB (And.intro hI'.kM (And.intro ki hne)))
  rw[hl] at e2 hm2' ⊢
  by_cases c:l=[]
  · subst c
    obtain⟨W3,hd3,hm3,ho3⟩:=hM2.run_drop Tryz.underlying218 f wf 0
    have d3:∀ ty,(Builtin.delete_ #[218,3] ty #[.map (some m),.int .i64 f]).run Tryz.prog W2=.ok (.tuple #[]) W3:=fun ty=>hd3
    have HP:=Lib.hid (show BackPost w gB K (.bool (decide (p∈b f))) (updB b f []) (.returned (.bool (decide (p∈b f)))) W3 from by
      have hk3:∀ j,j < W2.heap.size→j≠m→W3.heap[j]?=W2.heap[j]?:=fun j hj hn=>ho3.1.block j hj (fun e=>hn (by injection e with e))
      refine⟨K,rfl,⟨fun k hk=>by rw[ho3.2];exact hlt2 k hk,fun g=>?_,fun g=>?_,kB,some m,?_,bk,⟨hI'.kM,⟨_,hm3.congr fun g=>?_⟩,fun g hg=>?_,fun g g' hg hg' e=>?_⟩⟩,fun k hk=>.inl hk,hT2.trans (Turns.of_only ho3 hI'.kM)⟩
      · unfold updB
        split
        · exact List.Pairwise.nil
        · exact HS.out g
      · unfold updB
        split
        · exact Nat.zero_le _
        · exact HLE.out g
      · unfold Blk
        rw[hk3 gB hB2.lt (fun e=>hI'.neM hB' e.symm)]
        exact hB2
      · unfold updK outL updB
        by_cases c:g=f
        · simp only[if_pos c,if_true]
        · simp only[if_neg c]
      · unfold updB at hg ⊢
        by_cases c:g=f
        · rw[if_pos c] at hg;exact absurd rfl hg
        · rw[if_neg c] at hg ⊢
          obtain⟨a1,a2,n',a3⟩:=hO2 g c hg
          exact⟨a1,a2,n',a3.far (hk3 _ a3.blk a2)⟩
      · unfold updB at hg hg'
        by_cases c:g=f
        · rw[if_pos c] at hg;exact absurd rfl hg
        · by_cases c':g'=f
          · rw[if_pos c'] at hg';exact absurd rfl hg'
          · rw[if_neg c] at hg
            rw[if_neg c'] at hg'
            exact HJ.out g g' hg hg' e)
    clear hB hI hs hle hlt kB wf wp hf hbel hTr hkp hI' hB' hM hin hb1 hin1 hd2 hm2 ho2 hm2' ki hne hk2 hB2 hM2 hT2 hO2 hlt2 hl hll hsl hd3 hm3 ho3
    go_enter Tryz.func133,Tryz.ntmps133
    go_wp2_with fail
    refine HA.out.mono ?_
    rintro e w' ⟨rfl,hw⟩
    have hw':=hw.symm
    subst hw'
    clear hw
    go_wp2_with fail
    refine HA2.out.mono ?_
    rintro e w' ⟨rfl,hw⟩
    have hw':=hw.symm
    subst hw'
    clear hw
    go_wp2_with fail
    go_ret
    exact HP.out
  · have cl:((l.length:Int) == 0)=false:=beq_eq_false_iff_ne.2 (by have:=List.length_pos_iff.2 c;omega)
    have HP:=Lib.hid (show BackPost w gB K (.bool (decide (p∈b f))) (updB b f l) (.returned (.bool (decide (p∈b f)))) W2 from by
      refine⟨K,rfl,⟨hlt2,fun g=>?_,fun g=>?_,kB,some m,hB2,bk,⟨hI'.kM,⟨_,hM2.congr fun g=>?_⟩,fun g hg=>?_,fun g g' hg hg' e=>?_⟩⟩,fun k hk=>.inl hk,hT2⟩
      · unfold updB
        split
        · exact hsl
        · exact HS.out g
      · unfold updB
        split
        · exact hll
        · exact HLE.out g
      · unfold outL updB
        by_cases cg:g=f
        · simp only[if_pos cg]
          rw[cg,if_neg hf,if_neg c]
        · simp only[if_neg cg]
      · unfold updB at hg ⊢
        by_cases cg:g=f
        · rw[cg] at hg ⊢
          rw[if_pos rfl]
          exact⟨ki,hne,_,hm2'⟩
        · rw[if_neg cg] at hg ⊢
          exact hO2 g cg hg
      · unfold updB at hg hg'
        have u:∀ g,(if g=f then l else b g)≠[]→b g≠[]:=fun g hg=>by
          by_cases cg:g=f
          · rw[cg];exact hf
          · rw[if_neg cg] at hg;exact hg
        exact HJ.out g g' (u g hg) (u g' hg') e)
    clear hB hI hs hle hlt kB wf wp hf hbel hTr hkp hI' hB' hM hin hb1 hin1 hd2 hm2 ho2 hm2' ki hne hk2 hB2 hM2 hT2 hO2 hlt2 hl hll hsl
    go_enter Tryz.func133,Tryz.ntmps133
    go_wp2_with fail
    refine HA.out.mono ?_
    rintro e w' ⟨rfl,hw⟩
    have hw':=hw.symm
    subst hw'
    clear hw
    go_wp2_with fail
    go_ret
    exact HP.out
set_option maxRecDepth 20000 in
set_option maxHeartbeats 1000000 in
theorem drop_no (gB m:Nat) (K:Nat→Prop) (b:BS) (bk:Int→Nat) (f:Int) (p:Pl) (w:World) (hB:Blk w gB 220 #[.map (some m)]) (hI:InMap w K b m bk) (hs:∀ f,SrtP (b f)) (hle:∀ f,(b f).length≤200000) (hlt:∀ k,K k→k < w.heap.size) (kB:K gB) (wf:W64 f) (wp:WPl p) (hf:b f=[]) :
    Calls Tryz.prog 133 #[.pointer (some ⟨gB,0,none⟩),.int .i64 f,.agg #[.int .i64 p.c,.int .i64 p.g]] w (BackPost w gB K (.bool false) b):=by
  obtain⟨W,hW⟩:∃ W,w.alloc (.cells #[.int .i64 p.c,.int .i64 p.g] 60)=W:=⟨_,rfl⟩
  have hbel:Below w.heap.size w W:=by rw[← hW];exact belAl (Below.refl _ w) _
  have hTr:Turns K w W:=Turns.of_below hbel (Nat.le_refl _)
  have hkp:Blk W w.heap.size 60 #[.int .i64 p.c,.int .i64 p.g]:=by rw[← hW];exact Blk.new _ _ _
  have hI':InMap W K b m bk:=hI.far fun k hk=>hbel.block k (hlt k hk)
  have hB':Blk W gB 220 #[.map (some m)]:=hB.below hbel hB.lt
  obtain⟨n,hM⟩:=hI'.out
  have l1:(Instr.lookup 218 (.map (some m)) (.int .i64 f) false).run Tryz.prog W=.ok (.map none) W:=by
    have:=hM.run_get Tryz.underlying218 (z:=.map none) (by rfl) f wf
    rw[show outL b bk f=none from if_pos hf] at this
    exact this
  have l2:(Instr.lookup 236 (.map none) (.agg #[.int .i64 p.c,.int .i64 p.g]) true).run Tryz.prog W=.ok (.tuple #[.agg #[],.bool false]) W :=
    MapK.nil_look EP W Tryz.underlying236 (eqIn_zero W) true p wp
  have c1:W.cell? ⟨gB,0,none⟩=some (.map (some m)):=hB'.cell 0
  have k1:W.cell? ⟨w.heap.size,0,none⟩=some (.int .i64 p.c):=hkp.cell 0
  have k2:W.cell? ⟨w.heap.size,1,none⟩=some (.int .i64 p.g):=hkp.cell 1
  have HA:=Lib.hid (all_any gB (some m) W c1)
  obtain⟨W1,hW1⟩:∃ W1,W.alloc (.cells #[] 140)=W1:=⟨_,rfl⟩
  have hb1:Below W.heap.size W W1:=by rw[← hW1];exact belAl (Below.refl _ W) _
  have k3:W1.cell? ⟨w.heap.size,0,none⟩=some (.int .i64 p.c):=(hkp.below hb1 hkp.lt).cell 0
  have k4:W1.cell? ⟨w.heap.size,1,none⟩=some (.int .i64 p.g):=(hkp.below hb1 hkp.lt).cell 1
  have d2:∀ ty,(Builtin.delete_ #[236,60] ty #[.map none,.agg #[.int .i64 p.c,.int .i64 p.g]]).run Tryz.prog W1=.ok (.tuple #[]) W1:=fun ty=>MapK.nil_drop EP W1 Tryz.underlying236 p wp ty
  have e2:∀ ty,(Builtin.len_ #[236] ty #[.map none]).run Tryz.prog W1=.ok (.int .i64 0) W1:=fun ty=>Maps.len_nil Tryz.underlying236 ty
  have hk2:∀ j,j < W.heap.size→W1.heap[j]?=W.heap[j]?:=hb1.block
  have hB2:Blk W1 gB 220 #[.map (some m)]:=hB'.below hb1 hB'.lt
  have hM2:MapK EI W1 m n (outL b bk):=hM.far (hk2 m hM.blk)
  have hT2:Turns K w W1:=hTr.trans (Turns.of_below hb1 (Nat.le_refl _))
  have c2:W1.cell? ⟨gB,0,none⟩=some (.map (some m)):=hB2.cell 0
  have HA2:=Lib.hid (all_any gB (some m) W1 c2)
  have hlt2:∀ k,K k→k < W1.heap.size:=fun k hk=>Nat.lt_of_lt_of_le (hlt k hk) hT2.size
  obtain⟨W3,hd3,hm3,ho3⟩:=hM2.run_drop Tryz.underlying218 f wf 0
  have d3:∀ ty,(Builtin.delete_ #[218,3] ty #[.map (some m),.int .i64 f]).run Tryz.prog W1=.ok (.tuple #[]) W3:=fun ty=>hd3
  have HP:=Lib.hid (show BackPost w gB K (.bool false) b (.returned (.bool false)) W3 from by
    have hk3:∀ j,j < W1.heap.size→j≠m→W3.heap[j]?=W1.heap[j]?:=fun j hj hn=>ho3.1.block j hj (fun e=>hn (by injection e with e))
    refine⟨K,rfl,⟨fun k hk=>by rw[ho3.2];exact hlt2 k hk,hs,hle,kB,some m,?_,bk,⟨hI'.kM,⟨_,hm3.congr fun g=>?_⟩,fun g hg=>?_,hI'.inj⟩⟩,fun k hk=>.inl hk,hT2.trans (Turns.of_only ho3 hI'.kM)⟩
    · unfold Blk
      rw[hk3 gB hB2.lt (fun e=>hI'.neM hB' e.symm)]
      exact hB2
    · unfold updK outL
      by_cases c:g=f
      · rw[if_pos c,c,if_pos hf]
      · rw[if_neg c]
    · obtain⟨a1,a2,n',a3⟩:=hI'.inn g hg
      have a4:=a3.far (hk2 _ a3.blk)
      exact⟨a1,a2,n',a4.far (hk3 _ a4.blk a2)⟩)
  clear hB hI hs hle hlt kB wf wp hf hbel hTr hkp hI' hB' hM hb1 hk2 hB2 hM2 hT2 hlt2 hd3 hm3 ho3
  go_enter Tryz.func133,Tryz.ntmps133
  go_wp2_with fail
  refine HA.out.mono ?_
  rintro e w' ⟨rfl,hw⟩
  have hw':=hw.symm
  subst hw'
  clear hw
  go_wp2_with fail
  refine HA2.out.mono ?_
  rintro e w' ⟨rfl,hw⟩
  have hw':=hw.symm
  subst hw'
  clear hw
  go_wp2_with fail
  go_ret
  exact HP.out
set_option maxRecDepth 20000 in
set_option maxHeartbeats 1000000 in
theorem drop_none (v:Value) (f:Int) (p:Pl) (w:World) (wf:W64 f) (wp:WPl p) (hA:∀ W,Below w.heap.size w W→Calls Tryz.prog 147 #[v] W fun e w'=>e=.returned (.map none)∧w'=W) :
    Calls Tryz.prog 133 #[v,.int .i64 f,.agg #[.int .i64 p.c,.int .i64 p.g]] w fun e w'=>e=.returned (.bool false)∧Below w.heap.size w w':=by
  obtain⟨W,hW⟩:∃ W,w.alloc (.cells #[.int .i64 p.c,.int .i64 p.g] 60)=W:=⟨_,rfl⟩
  have hbel:Below w.heap.size w W:=by rw[← hW];exact belAl (Below.refl _ w) _
  have hkp:Blk W w.heap.size 60 #[.int .i64 p.c,.int .i64 p.g]:=by rw[← hW];exact Blk.new _ _ _
  have l1:(Instr.lookup 218 (.map none) (.int .i64 f) false).run Tryz.prog W=.ok (.map none) W :=
    MapK.nil_look EI W Tryz.underlying218 (z:=.map none) (by rfl) false f wf
  have l2:(Instr.lookup 236 (.map none) (.agg #[.int .i64 p.c,.int .i64 p.g]) true).run Tryz.prog W=.ok (.tuple #[.agg #[],.bool false]) W :=
    MapK.nil_look EP W Tryz.underlying236 (eqIn_zero W) true p wp
  have k1:W.cell? ⟨w.heap.size,0,none⟩=some (.int .i64 p.c):=hkp.cell 0
  have k2:W.cell? ⟨w.heap.size,1,none⟩=some (.int .i64 p.g):=hkp.cell 1
  have HA:=Lib.hid (hA W hbel)
  obtain⟨W1,hW1⟩:∃ W1,W.alloc (.cells #[] 140)=W1:=⟨_,rfl⟩
  have hb1:Below W.heap.size W W1:=by rw[← hW1];exact belAl (Below.refl _ W) _
  have hb2:Below w.heap.size w W1:=hbel.trans (hb1.mono hbel.size)
  have k3:W1.cell? ⟨w.heap.size,0,none⟩=some (.int .i64 p.c):=(hkp.below hb1 hkp.lt).cell 0
  have k4:W1.cell? ⟨w.heap.size,1,none⟩=some (.int .i64 p.g):=(hkp.below hb1 hkp.lt).cell 1
  have d2:∀ ty,(Builtin.delete_ #[236,60] ty #[.map none,.agg #[.int .i64 p.c,.int .i64 p.g]]).run Tryz.prog W1=.ok (.tuple #[]) W1:=fun ty=>MapK.nil_drop EP W1 Tryz.underlying236 p wp ty
  have e2:∀ ty,(Builtin.len_ #[236] ty #[.map none]).run Tryz.prog W1=.ok (.int .i64 0) W1:=fun ty=>Maps.len_nil Tryz.underlying236 ty
  have HA2:=Lib.hid (hA W1 hb2)
  have d3:∀ ty,(Builtin.delete_ #[218,3] ty #[.map none,.int .i64 f]).run Tryz.prog W1=.ok (.tuple #[]) W1:=fun ty=>MapK.nil_drop EI W1 Tryz.underlying218 f wf ty
  have HP:=Lib.hid hb2
  clear hA wf wp hbel hkp hb1 hb2
  go_enter Tryz.func133,Tryz.ntmps133
  go_wp2_with fail
  refine HA.out.mono ?_
  rintro e w' ⟨rfl,hw⟩
  have hw':=hw.symm
  subst hw'
  clear hw
  go_wp2_with fail
  refine HA2.out.mono ?_
  rintro e w' ⟨rfl,hw⟩
  have hw':=hw.symm
  subst hw'
  clear hw
  go_wp2_with fail
  go_ret
  exact⟨rfl,HP.out⟩
theorem back_drop (gB:Nat) (K:Nat→Prop) (b:BS) (w:World) (f:Int) (p:Pl) (h:BackMem w gB K b) (wf:W64 f) (wp:WPl p) :
    Calls Tryz.prog 133 #[.pointer (some ⟨gB,0,none⟩),.int .i64 f,.agg #[.int .i64 p.c,.int .i64 p.g]] w (BackPost w gB K (.bool (decide (p∈b f))) (updB b f ((b f).erase p))):=by
  obtain⟨mo,h1,h2⟩:=h.at_
  cases mo with
  | none =>
    rw[show b f=[] from h2 f,show decide (p∈([]:List Pl))=false from decide_eq_false List.not_mem_nil,show ([]:List Pl).erase p=[] from rfl,updB_nop (h2 f)]
    refine (drop_none _ f p w wf wp (fun W hb=>all_any gB none W ((h1.below hb h1.lt).cell 0))).mono ?_
    rintro e w' ⟨rfl,hb⟩
    exact⟨K,rfl,h.fresh hb,fun k hk=>.inl hk,Turns.of_below hb (Nat.le_refl _)⟩
  | some m =>
    obtain⟨bk,hI⟩:=h2
    by_cases c:b f=[]
    · rw[c,show decide (p∈([]:List Pl))=false from decide_eq_false List.not_mem_nil,show ([]:List Pl).erase p=[] from rfl,updB_nop c]
      exact drop_no gB m K b bk f p w h1 hI h.srt h.len h.lt h.kB wf wp c
    · exact drop_has gB m K b bk f p w h1 hI h.srt h.len h.lt h.kB wf wp c
end Go.Proofs.YtaonpmclkafjdaaGreat
namespace Go.Proofs.YtaonpmclkafjdaaGreat
open Go.RowKit
set_option linter.unusedVariables false
theorem eqH_some (m:Nat)(w:World):(binOp .eql 135 (.map (some m)) (.map none)).run Tryz.prog w=.ok (.bool false) w:=by kernel_rfl
theorem eqH_none (w:World):(binOp .eql 135 (.map none) (.map none)).run Tryz.prog w=.ok (.bool true) w:=by kernel_rfl
theorem eqH_zero (w:World):(zeroValue 140).run Tryz.prog w=.ok (.agg #[]) w:=by kernel_rfl
theorem setL_eraseW {l:List Pl}(h:SrtP l)(p:Pl):∀ q,updK (setLW l) p none q=setLW (l.erase p) q:=by
  intro q
  unfold updK setLW
  by_cases c:q=p
  · rw[if_pos c,if_neg (fun hq=>((mem_erase_srt h).1 hq).1 c)]
  · rw[if_neg c]
    by_cases m:q∈l
    · rw[if_pos m,if_pos ((mem_erase_srt h).2 ⟨c,m⟩)]
    · rw[if_neg m,if_neg (fun hq=>m ((mem_erase_srt h).1 hq).2)]
theorem setL_put {l:List Pl}(p:Pl):∀ q,updK (setLW l) p (some (.agg #[])) q=setLW (putP l p) q:=by
  intro q
  unfold updK setLW
  by_cases cq:q=p
  · rw[if_pos cq,if_pos (mem_putP.2 (.inl cq))]
  · rw[if_neg cq]
    by_cases cm:q∈l
    · rw[if_pos cm,if_pos (mem_putP.2 (.inr cm))]
    · rw[if_neg cm,if_neg (fun hq=>(mem_putP.1 hq).elim cq cm)]
theorem updM_same (mo:Nat→Option Nat)(n:Nat)(x:Option Nat):updM mo n x n=x:=if_pos rfl
theorem updM_other (mo:Nat→Option Nat)(n:Nat)(x:Option Nat){k:Nat}(h:k≠n):updM mo n x k=mo k:=if_neg h
def InjM (mo:Nat→Option Nat):Prop:=∀ n m k,n < 32→m < 32→mo n=some k→mo m=some k→n=m
theorem InjM.none_ {mo:Nat→Option Nat}(h:InjM mo)(j:Nat):InjM (updM mo j none):=fun n m k hn hm e1 e2=>by
  by_cases c:n=j
  · rw[c,updM_same] at e1;cases e1
  · by_cases d:m=j
    · rw[d,updM_same] at e2;cases e2
    · rw[updM_other _ _ _ c] at e1
      rw[updM_other _ _ _ d] at e2
      exact h n m k hn hm e1 e2
theorem InjM.new_ {mo:Nat→Option Nat}(h:InjM mo)(j:Nat){x:Nat}(hx:∀ n,n < 32→mo n≠some x):InjM (updM mo j (some x)):=fun n m k hn hm e1 e2=>by
  by_cases c:n=j
  · by_cases d:m=j
    · rw[c,d]
    · rw[c,updM_same] at e1
      injection e1 with e1
      rw[updM_other _ _ _ d,← e1] at e2
      exact absurd e2 (hx m hm)
  · by_cases d:m=j
    · rw[d,updM_same] at e2
      injection e2 with e2
      rw[updM_other _ _ _ c,← e2] at e1
      exact absurd e1 (hx n hn)
    · rw[updM_other _ _ _ c] at e1
      rw[updM_other _ _ _ d] at e2
      exact h n m k hn hm e1 e2
section
variable {w W W':World}{gS j k:Nat}{K K':Nat→Prop}{s:SS}{l:List Pl}{mo mo':Nat→Option Nat}{x:Option Nat}{p:Pl}
theorem OneS.mono (h:OneS w K l x)(hk:∀ k,K k→K' k):OneS w K' l x:=by
  cases x with
  | none=>exact h
  | some k=>exact⟨hk k h.1,h.2⟩
theorem OneS.lt_ (h:OneS w K l x)(e:x=some k):k < w.heap.size:=by
  subst e
  obtain⟨_,n,h⟩:=h
  exact h.blk
theorem OneS.but (h:OneS W K l x)(ho:Only k W W')(hne:x≠some k):OneS W' K l x:=by
  cases x with
  | none=>exact h
  | some i =>
    obtain⟨h1,n,h2⟩:=h
    exact⟨h1,n,h2.far (ho.1.block i h2.blk (fun e=>hne (by injection e with e;rw[e])))⟩
theorem OneS.fresh_ (h:OneS W K l x)(hb:Below W.heap.size W W'):OneS W' K l x:=by
  cases x with
  | none=>exact h
  | some i =>
    obtain⟨h1,n,h2⟩:=h
    exact⟨h1,n,h2.far (hb.block i h2.blk)⟩
theorem OneS.cell_ {cs:Array Value}(h:OneS W K l x)(hB:Blk W gS 139 cs)(ho:Only gS W W'):OneS W' K l x:=by
  refine h.but ho fun e=>?_
  subst e
  obtain⟨_,n,h2⟩:=h
  exact hB.noMap h2.isMap rfl
theorem SwpMem.one_ (hlt:∀ k,K' k→k < W'.heap.size) (hok:SsOk s) (hle:∀ n,(s n).length≤200000) (kS:K' gS) (hl:SrtP l) (hll:l.length≤200000) (hB:Blk W' gS 139 (mapsL mo').toArray)
    (hj:OneS W' K' l (mo' j)) (ho:∀ n,n < 32→n≠j→OneS W' K' (s n) (mo' n)) (hi:InjM mo'):SwpMem W' gS K' (updS s j l):=by
  refine⟨hlt,hok.upd_ hl,fun n=>?_,kS,mo',hB,fun n hn=>?_,hi⟩
  · by_cases c:n=j
    · subst c;rw[updS_same];exact hll
    · rw[updS_other _ _ _ c];exact hle n
  · by_cases c:n=j
    · subst c;rw[updS_same];exact hj
    · rw[updS_other _ _ _ c];exact ho n hn c
structure HoldAt (w:World)(K:Nat→Prop)(gS j k:Nat)(s:SS)(mo:Nat→Option Nat)(W:World):Prop where
  blk:Blk W gS 139 (mapsL mo).toArray
  mj:mo j=some k
  inn:MapK EP W k (s j).length (setLW (s j))
  oth:∀ n,n < 32→n≠j→OneS W K (s n) (mo n)
  inj:InjM mo
  trn:Turns K w W
  kK:K k∨w.heap.size≤k
theorem HoldAt.drew (h:HoldAt w K gS j k s mo W):HoldAt w K gS j k s mo W.drew :=
  ⟨h.blk,h.mj,h.inn.far rfl,fun n hn hj=>(h.oth n hn hj).far (fun _ _=>rfl),h.inj,h.trn.drew,h.kK⟩
theorem HoldAt.done (h:HoldAt w K gS j k s mo W) (hj:j < 32) (kS:K gS) (hok:SsOk s) (hle:∀ n,(s n).length≤200000) (hl:(s j).length≤100000) (hlt:∀ k,K k→k < w.heap.size) {n:Nat} (hm:MapK EP W' k n (updK (setLW (s j)) p (some (.agg #[])))) (ho:Only k W W') :
    SwpPost w gS K (.bool true) (updS s j (putP (s j) p)) (.returned (.bool true)) W':=by
  have hkk:=h.inn.blk
  have hsz:=h.trn.size
  have hgk:gS≠k:=fun e=>h.blk.noMap h.inn.isMap e.symm
  refine⟨fun i=>K i∨i=k,rfl,SwpMem.one_ (mo':=mo) (fun i hi=>?_) hok hle (.inl kS) (srt_putP (hok j)) (Nat.le_trans (putP_length _ _) (by omega)) ?_ ?_ (fun n hn hne=>?_) h.inj,fun i hi=>?_,?_⟩
  · rw[ho.2]
    rcases hi with hi | rfl
    · exact Nat.lt_of_lt_of_le (hlt i hi) hsz
    · exact hkk
  · unfold Blk
    rw[ho.1.block gS h.blk.lt (fun e=>hgk (by injection e))]
    exact h.blk
  · rw[h.mj]
    exact⟨.inr rfl,n,hm.congr (setL_put p)⟩
  · exact ((h.oth n hn hne).but ho (fun e=>hne (h.inj n j k hn hj e h.mj))).mono (fun i hi=>.inl hi)
  · rcases hi with hi | rfl
    · exact .inl hi
    · exact h.kK
  · rcases h.kK with hk | hk
    · exact h.trn.trans (Turns.of_only ho hk)
    · exact h.trn.new_ ho hk
end
section
variable (gS:Nat)(K:Nat→Prop)(s:SS)(w:World)
set_option maxRecDepth 20000 in
set_option maxHeartbeats 1000000 in
theorem hold_has (j k:Nat) (mo:Nat→Option Nat) (p:Pl) (hj:j < 32) (h:SwpMem w gS K s) (h1:Blk w gS 139 (mapsL mo).toArray) (h2:∀ n,n < 32→OneS w K (s n) (mo n)) (h3:InjM mo) (hk:mo j=some k) (wp:WPl p) (hl:(s j).length≤100000) :
    Calls Tryz.prog 25 #[.pointer (some ⟨gS,0,none⟩),.int .i64 (j:Int),.agg #[.int .i64 p.c,.int .i64 p.g]] w (SwpPost w gS K (.bool true) (updS s j (putP (s j) p))):=by
  obtain⟨W,hW⟩:∃ W,w.alloc (.cells #[.int .i64 p.c,.int .i64 p.g] 60)=W:=⟨_,rfl⟩
  have hbel:Below w.heap.size w W:=by rw[← hW];exact belAl (Below.refl _ w) _
  have hkp:Blk W w.heap.size 60 #[.int .i64 p.c,.int .i64 p.g]:=by rw[← hW];exact Blk.new _ _ _
  have hB':Blk W gS 139 (mapsL mo).toArray:=h1.below hbel h1.lt
  have hin:MapK EP W k (s j).length (setLW (s j)):=by
    have:=(h2 j hj).fresh_ hbel
    rw[hk] at this
    exact this.tight (h.ok j)
  have hK:K k:=by have:=h2 j hj;rw[hk] at this;exact this.1
  have HAT:=Lib.hid (show HoldAt w K gS j k s mo W from ⟨hB',hk,hin,fun n hn _=>(h2 n hn).fresh_ hbel,h3,Turns.of_below hbel (Nat.le_refl _),.inl hK⟩)
  have c1:W.cell? ⟨gS,j,none⟩=some (.map (some k)):=by rw[hB'.cell j,← hk];simpa using mapsL_at mo hj
  have k1:W.cell? ⟨w.heap.size,0,none⟩=some (.int .i64 p.c):=hkp.cell 0
  have k2:W.cell? ⟨w.heap.size,1,none⟩=some (.int .i64 p.g):=hkp.cell 1
  obtain⟨W2,hW2⟩:∃ W2,W2=W.drew:=⟨_,rfl⟩
  have hin2:MapK EP W2 k (s j).length (setLW (s j)):=by rw[hW2];exact hin.far rfl
  obtain⟨W3,hst0,hm3,ho3⟩:=hin2.run_store Tryz.underlying135 (by omega) p wp (.agg #[])
  have hst:(Instr.mapUpdate 135 (.map (some k)) (.agg #[.int .i64 p.c,.int .i64 p.g]) (.agg #[])).run Tryz.prog W2=.ok () W3:=hst0
  have HD:=Lib.hid (show SwpPost w gS K (.bool true) (updS s j (putP (s j) p)) (.returned (.bool true)) W3 from by
    have hat:HoldAt w K gS j k s mo W2:=by rw[hW2];exact HAT.out.drew
    exact hat.done hj h.kS h.ok h.len hl h.lt hm3 ho3)
  have HW2:=Lib.hid hW2
  have q1:=eqH_some k
  have hj2:(j:Int) < 32:=by omega
  have HH:=Lib.hid (has_any gS (j:Int) W)
  rw[show decide (isSlot (j:Int))=true from decide_eq_true ⟨by omega,by omega⟩] at HH
  clear hW2 h h1 h2 h3 hk hl hbel hkp hB' hin hK hin2 hst0 hm3 ho3 HAT wp
  go_enter Tryz.func25,Tryz.ntmps25
  go_wp2_with fail
  refine HH.out.mono ?_
  rintro e w' ⟨rfl,hw⟩
  have hw':=hw.symm
  subst hw'
  clear hw
  go_wp2_with fail
  go_still_tail 8,(by kernel_rfl)
  change wpList _ _ _ _ _ W.drew
  rw[← HW2.out]
  go_wp2_with fail
  go_ret
  exact HD.out
set_option maxRecDepth 20000 in
set_option maxHeartbeats 1000000 in
theorem hold_new (j:Nat) (mo:Nat→Option Nat) (p:Pl) (hj:j < 32) (h:SwpMem w gS K s) (h1:Blk w gS 139 (mapsL mo).toArray) (h2:∀ n,n < 32→OneS w K (s n) (mo n)) (h3:InjM mo) (hk:mo j=none) (wp:WPl p) (hl:(s j).length≤100000) :
    Calls Tryz.prog 25 #[.pointer (some ⟨gS,0,none⟩),.int .i64 (j:Int),.agg #[.int .i64 p.c,.int .i64 p.g]] w (SwpPost w gS K (.bool true) (updS s j (putP (s j) p))):=by
  have hsj:s j=[]:=by have:=h2 j hj;rw[hk] at this;exact this
  obtain⟨W,hW⟩:∃ W,w.alloc (.cells #[.int .i64 p.c,.int .i64 p.g] 60)=W:=⟨_,rfl⟩
  have hbel:Below w.heap.size w W:=by rw[← hW];exact belAl (Below.refl _ w) _
  have hkp:Blk W w.heap.size 60 #[.int .i64 p.c,.int .i64 p.g]:=by rw[← hW];exact Blk.new _ _ _
  have hB':Blk W gS 139 (mapsL mo).toArray:=h1.below hbel h1.lt
  obtain⟨m,hm⟩:∃ m,W.heap.size=m:=⟨_,rfl⟩
  obtain⟨V,hV⟩:∃ V,W.alloc (.map #[] 0)=V:=⟨_,rfl⟩
  have hbV:Below W.heap.size W V:=by rw[← hV];exact belAl (Below.refl _ W) _
  have hBV:Blk V gS 139 (mapsL mo).toArray:=hB'.below hbV hB'.lt
  have hMV:MapK EP V m (s j).length (setLW (s j)):=by
    rw[← hV,← hm]
    refine (MapK.made W EP _).congr fun q=>?_
    unfold setLW
    rw[hsj,if_neg List.not_mem_nil]
  obtain⟨W1,hW1⟩:∃ W1,V.setCell ⟨gS,j,none⟩ (.map (some m))=W1:=⟨_,rfl⟩
  have hoW:Only gS V W1:=by rw[← hW1];exact (Only.refl gS V).setCell j _
  have hB1:Blk W1 gS 139 (mapsL (updM mo j (some m))).toArray:=by rw[← hW1,← mapsL_set];exact hBV.setL j _
  have hgm:m≠gS:=hBV.noMap hMV.isMap
  have hM1:MapK EP W1 m (s j).length (setLW (s j)):=hMV.far (hoW.1.block m hMV.blk (fun e=>hgm (by injection e)))
  have hwm:w.heap.size≤m:=by rw[← hm];exact hbel.size
  have hne:∀ n,n < 32→mo n≠some m:=fun n hn e=>by
    have:=(h2 n hn).lt_ e
    omega
  have hT1:Turns K w W1:=(Turns.of_below (hbel.trans (hbV.mono hbel.size)) (Nat.le_refl _)).trans (Turns.of_only hoW h.kS)
  have HAT:=Lib.hid (show HoldAt w K gS j m s (updM mo j (some m)) W1 from ⟨hB1,updM_same _ _ _,hM1,fun n hn hnj=>by
      rw[updM_other _ _ _ hnj]
      exact (((h2 n hn).fresh_ hbel).fresh_ hbV).cell_ hBV hoW,h3.new_ j hne,hT1,.inr hwm⟩)
  have hkp1:Blk W1 w.heap.size 60 #[.int .i64 p.c,.int .i64 p.g]:=by
    have hg:=h.lt gS h.kS
    have hx:=hkp.below hbV hkp.lt
    unfold Blk
    rw[hoW.1.block _ hx.lt (fun e=>by injection e with e;omega)]
    exact hx
  have c0:W.cell? ⟨gS,j,none⟩=some (.map none):=by rw[hB'.cell j,← hk];simpa using mapsL_at mo hj
  have c2:V.cell? ⟨gS,j,none⟩=some (.map none):=by rw[hBV.cell j,← hk];simpa using mapsL_at mo hj
  have f2:V.frozen? ⟨gS,j,none⟩=false:=hBV.frozen j
  have c1:W1.cell? ⟨gS,j,none⟩=some (.map (some m)):=by
    have e:=mapsL_at (updM mo j (some m)) hj
    rw[updM_same] at e
    rw[hB1.cell j]
    simpa using e
  have k1:W1.cell? ⟨w.heap.size,0,none⟩=some (.int .i64 p.c):=hkp1.cell 0
  have k2:W1.cell? ⟨w.heap.size,1,none⟩=some (.int .i64 p.g):=hkp1.cell 1
  obtain⟨W2,hW2⟩:∃ W2,W2=W1.drew:=⟨_,rfl⟩
  have hin2:MapK EP W2 m (s j).length (setLW (s j)):=by rw[hW2];exact hM1.far rfl
  obtain⟨W3,hst0,hm3,ho3⟩:=hin2.run_store Tryz.underlying135 (by omega) p wp (.agg #[])
  have hst:(Instr.mapUpdate 135 (.map (some m)) (.agg #[.int .i64 p.c,.int .i64 p.g]) (.agg #[])).run Tryz.prog W2=.ok () W3:=hst0
  have HD:=Lib.hid (show SwpPost w gS K (.bool true) (updS s j (putP (s j) p)) (.returned (.bool true)) W3 from by
    have hat:HoldAt w K gS j m s (updM mo j (some m)) W2:=by rw[hW2];exact HAT.out.drew
    exact hat.done hj h.kS h.ok h.len hl h.lt hm3 ho3)
  have HW2:=Lib.hid hW2
  have q1:=eqH_some m
  have hj2:(j:Int) < 32:=by omega
  have q0:=eqH_none
  have hmm:=@run_makeMap Tryz.prog
  have HH:=Lib.hid (has_any gS (j:Int) W)
  rw[show decide (isSlot (j:Int))=true from decide_eq_true ⟨by omega,by omega⟩] at HH
  clear hW2 h h1 h2 h3 hk hl hbel hkp hB' hin2 hst0 hm3 ho3 HAT wp hsj hbV hBV hMV hoW hB1 hgm hM1 hwm hne hT1 hkp1
  go_enter Tryz.func25,Tryz.ntmps25
  go_wp2_with fail
  refine HH.out.mono ?_
  rintro e w' ⟨rfl,hw⟩
  have hw':=hw.symm
  subst hw'
  clear hw
  go_wp2_with fail
  go_still_tail 8,(by kernel_rfl)
  change wpList _ _ _ _ _ W1.drew
  rw[← HW2.out]
  go_wp2_with fail
  go_ret
  exact HD.out
end
theorem hold_no (v:Value) (n:Int) (p:Pl) (w:World) (hh:∀ W,Calls Tryz.prog 70 #[v,.int .i64 n] W fun e w'=>e=.returned (.bool false)∧w'=W) :
    Calls Tryz.prog 25 #[v,.int .i64 n,.agg #[.int .i64 p.c,.int .i64 p.g]] w fun e w'=>e=.returned (.bool false)∧Below w.heap.size w w':=by
  have HB:=Lib.hid (belAl (Below.refl w.heap.size w) (.cells #[.int .i64 p.c,.int .i64 p.g] 60))
  go_enter Tryz.func25,Tryz.ntmps25
  go_wp2_with fail
  refine (hh _).mono ?_
  rintro e w' ⟨rfl,rfl⟩
  go_wp2_with fail
  go_ret
  exact⟨rfl,HB.out⟩
theorem swap_hold (gS:Nat) (K:Nat→Prop) (s:SS) (w:World) (n:Int) (p:Pl) (h:SwpMem w gS K s) (wp:WPl p) (hl:(s n.toNat).length≤100000) :
    Calls Tryz.prog 25 #[.pointer (some ⟨gS,0,none⟩),.int .i64 n,.agg #[.int .i64 p.c,.int .i64 p.g]] w (SwpPost w gS K (.bool (decide (isSlot n))) (holdS s n p)):=by
  unfold holdS
  by_cases c:isSlot n
  · rw[decide_eq_true c,if_pos c]
    obtain⟨c0,c1⟩:=c
    obtain⟨j,rfl⟩:=Int.eq_ofNat_of_zero_le c0
    rw[Int.toNat_natCast] at hl ⊢
    obtain⟨mo,h1,h2,h3⟩:=h.at_
    cases hk:mo j with
    | none=>exact hold_new gS K s w j mo p (by omega) h h1 h2 h3 hk wp hl
    | some k=>exact hold_has gS K s w j k mo p (by omega) h h1 h2 h3 hk wp hl
  · rw[decide_eq_false c,if_neg c]
    have hh:∀ W,Calls Tryz.prog 70 #[.pointer (some ⟨gS,0,none⟩),.int .i64 n] W fun e w'=>e=.returned (.bool false)∧w'=W:=fun W=>by
      have:=has_any gS n W
      rw[decide_eq_false c] at this
      exact this
    refine (hold_no _ n p w hh).mono ?_
    rintro e w' ⟨rfl,hb⟩
    exact⟨K,rfl,h.fresh hb,fun k hk=>.inl hk,Turns.of_below hb (Nat.le_refl _)⟩
end Go.Proofs.YtaonpmclkafjdaaGreat
namespace Go.Proofs.YtaonpmclkafjdaaGreat
open Go.RowKit
set_option linter.unusedVariables false
section
variable (gS:Nat)(K:Nat→Prop)(s:SS)(w:World)
theorem rel_via (j:Nat) (x:Option Nat) (p:Pl) (b:Bool) (n:Nat) (W W1 W2:World) (Q:Ending→World→Prop) (hj:j < 32)
    (hW:w.alloc (.cells #[.int .i64 p.c,.int .i64 p.g] 60)=W) (hW1:W.alloc (.cells #[] 140)=W1)
    (c1:W.cell? ⟨gS,j,none⟩=some (.map x))
    (l2:(Instr.lookup 135 (.map x) (.agg #[.int .i64 p.c,.int .i64 p.g]) true).run Tryz.prog W=.ok (.tuple #[.agg #[],.bool b]) W)
    (d2:∀ ty,(Builtin.delete_ #[135,60] ty #[.map x,.agg #[.int .i64 p.c,.int .i64 p.g]]).run Tryz.prog W1=.ok (.tuple #[]) W2)
    (e2:∀ ty,(Builtin.len_ #[135] ty #[.map x]).run Tryz.prog W2=.ok (.int .i64 (n:Int)) W2)
    (v:Value) (c2:W2.cell? ⟨gS,j,none⟩=some v) (f2:W2.frozen? ⟨gS,j,none⟩=false)
    (hQ:Q (.returned (.bool b)) (if n=0 then W2.setCell ⟨gS,j,none⟩ (.map none) else W2)) :
    Calls Tryz.prog 190 #[.pointer (some ⟨gS,0,none⟩),.int .i64 (j:Int),.agg #[.int .i64 p.c,.int .i64 p.g]] w Q:=by
  have hkp:Blk W w.heap.size 60 #[.int .i64 p.c,.int .i64 p.g]:=by rw[← hW];exact Blk.new _ _ _
  have hb1:Below W.heap.size W W1:=by rw[← hW1];exact belAl (Below.refl _ W) _
  have k1:W.cell? ⟨w.heap.size,0,none⟩=some (.int .i64 p.c):=hkp.cell 0
  have k2:W.cell? ⟨w.heap.size,1,none⟩=some (.int .i64 p.g):=hkp.cell 1
  have k3:W1.cell? ⟨w.heap.size,0,none⟩=some (.int .i64 p.c):=(hkp.below hb1 hkp.lt).cell 0
  have k4:W1.cell? ⟨w.heap.size,1,none⟩=some (.int .i64 p.g):=(hkp.below hb1 hkp.lt).cell 1
  have hj2:(j:Int) < 32:=by omega
  have HH:=Lib.hid (has_any gS (j:Int) W)
  rw[show decide (isSlot (j:Int))=true from decide_eq_true ⟨by omega,by omega⟩] at HH
  clear hkp hb1
  by_cases c:n=0
  · subst c
    rw[if_pos rfl] at hQ
    have HQ:=Lib.hid hQ
    clear hQ
    go_enter Tryz.func190,Tryz.ntmps190
    go_wp2_with fail
    refine HH.out.mono ?_
    rintro e w' ⟨rfl,hw⟩
    have hw':=hw.symm
    subst hw'
    clear hw
    go_wp2_with fail
    exact HQ.out
  · have cl:((n:Int) == 0)=false:=beq_eq_false_iff_ne.2 (by omega)
    rw[if_neg c] at hQ
    have HQ:=Lib.hid hQ
    clear hQ
    go_enter Tryz.func190,Tryz.ntmps190
    go_wp2_with fail
    refine HH.out.mono ?_
    rintro e w' ⟨rfl,hw⟩
    have hw':=hw.symm
    subst hw'
    clear hw
    go_wp2_with fail
    exact HQ.out
theorem rel_some (j k:Nat) (mo:Nat→Option Nat) (p:Pl) (hj:j < 32) (h:SwpMem w gS K s) (h1:Blk w gS 139 (mapsL mo).toArray) (h2:∀ n,n < 32→OneS w K (s n) (mo n)) (h3:InjM mo) (hk:mo j=some k) (wp:WPl p) :
    Calls Tryz.prog 190 #[.pointer (some ⟨gS,0,none⟩),.int .i64 (j:Int),.agg #[.int .i64 p.c,.int .i64 p.g]] w (SwpPost w gS K (.bool (decide (p∈s j))) (updS s j ((s j).erase p))):=by
  obtain⟨W,hW⟩:∃ W,w.alloc (.cells #[.int .i64 p.c,.int .i64 p.g] 60)=W:=⟨_,rfl⟩
  obtain⟨W1,hW1⟩:∃ W1,W.alloc (.cells #[] 140)=W1:=⟨_,rfl⟩
  have hbel:Below w.heap.size w W:=by rw[← hW];exact belAl (Below.refl _ w) _
  have hb1:Below W.heap.size W W1:=by rw[← hW1];exact belAl (Below.refl _ W) _
  have hB':Blk W gS 139 (mapsL mo).toArray:=h1.below hbel h1.lt
  have hB1:Blk W1 gS 139 (mapsL mo).toArray:=hB'.below hb1 hB'.lt
  have hO:=(h2 j hj).fresh_ hbel
  rw[hk] at hO
  have hK:=hO.1
  have hin:=hO.tight (h.ok j)
  have l2:(Instr.lookup 135 (.map (some k)) (.agg #[.int .i64 p.c,.int .i64 p.g]) true).run Tryz.prog W=.ok (.tuple #[.agg #[],.bool (decide (p∈s j))]) W:=by
    have:=hin.run_look Tryz.underlying135 (eqH_zero W) p wp
    have e1:(setLW (s j) p).getD (.agg #[])=.agg #[]:=by unfold setLW;split <;> rfl
    have e2:(setLW (s j) p).isSome=decide (p∈s j):=by
      unfold setLW
      by_cases c:p∈s j
      · rw[if_pos c,decide_eq_true c];rfl
      · rw[if_neg c,decide_eq_false c];rfl
    rw[e1,e2] at this
    exact this
  have hin1:MapK EP W1 k (s j).length (setLW (s j)):=hin.far (hb1.block _ hin.blk)
  obtain⟨W2,hd2,hm2,ho2⟩:=hin1.run_drop Tryz.underlying135 p wp 0
  have hm2':=hm2.congr (setL_eraseW (h.ok j) p)
  have hsE:=srt_erase (h.ok j) p
  have hle:((s j).erase p).length≤200000:=Nat.le_trans (List.length_erase_le ..) (h.len j)
  have hgk:gS≠k:=fun e=>hB'.noMap hin.isMap e.symm
  have hB2:Blk W2 gS 139 (mapsL mo).toArray:=by
    unfold Blk
    rw[ho2.1.block gS hB1.lt (fun e=>hgk (by injection e))]
    exact hB1
  have hT2:Turns K w W2:=((Turns.of_below hbel (Nat.le_refl _)).trans (Turns.of_below hb1 (Nat.le_refl _))).trans (Turns.of_only ho2 hK)
  have hlt2:∀ i,K i→i < W2.heap.size:=fun i hi=>Nat.lt_of_lt_of_le (h.lt i hi) hT2.size
  have hoth:∀ n,n < 32→n≠j→OneS W2 K (s n) (mo n):=fun n hn hne=>(((h2 n hn).fresh_ hbel).fresh_ hb1).but ho2 (fun e=>hne (h3 n j k hn hj e hk))
  have c1:W.cell? ⟨gS,j,none⟩=some (.map (some k)):=by rw[hB'.cell j,← hk];simpa using mapsL_at mo hj
  have c2:W2.cell? ⟨gS,j,none⟩=some (.map (some k)):=by rw[hB2.cell j,← hk];simpa using mapsL_at mo hj
  refine rel_via gS w j (some k) p (decide (p∈s j)) ((s j).erase p).length W W1 W2 _ hj hW hW1 c1 l2 (fun ty=>hd2)
    (fun ty=>hm2'.run_len Tryz.underlying135 (srt_ndW hsE) (fun x=>setL_neW.symm) ty) _ c2 (hB2.frozen j) ?_
  by_cases c:((s j).erase p).length=0
  · rw[if_pos c]
    have hoW:Only gS W2 (W2.setCell ⟨gS,j,none⟩ (.map none)):=(Only.refl gS W2).setCell j _
    refine⟨K,rfl,SwpMem.one_ (mo':=updM mo j none) (fun i hi=>by rw[hoW.2];exact hlt2 i hi) h.ok h.len h.kS hsE hle ?_ ?_ (fun n hn hne=>?_) (h3.none_ j),fun i hi=>.inl hi,hT2.trans (Turns.of_only hoW h.kS)⟩
    · rw[← mapsL_set];exact hB2.setL j _
    · rw[updM_same];exact List.eq_nil_of_length_eq_zero c
    · rw[updM_other _ _ _ hne];exact (hoth n hn hne).cell_ hB2 hoW
  · rw[if_neg c]
    refine⟨K,rfl,SwpMem.one_ (mo':=mo) hlt2 h.ok h.len h.kS hsE hle hB2 ?_ hoth h3,fun i hi=>.inl hi,hT2⟩
    rw[hk]
    exact⟨hK,_,hm2'⟩
theorem rel_none (j:Nat) (mo:Nat→Option Nat) (p:Pl) (hj:j < 32) (h:SwpMem w gS K s) (h1:Blk w gS 139 (mapsL mo).toArray) (h2:∀ n,n < 32→OneS w K (s n) (mo n)) (h3:InjM mo) (hk:mo j=none) (wp:WPl p) :
    Calls Tryz.prog 190 #[.pointer (some ⟨gS,0,none⟩),.int .i64 (j:Int),.agg #[.int .i64 p.c,.int .i64 p.g]] w (SwpPost w gS K (.bool (decide (p∈s j))) (updS s j ((s j).erase p))):=by
  have hsj:s j=[]:=by have:=h2 j hj;rw[hk] at this;exact this
  obtain⟨W,hW⟩:∃ W,w.alloc (.cells #[.int .i64 p.c,.int .i64 p.g] 60)=W:=⟨_,rfl⟩
  obtain⟨W1,hW1⟩:∃ W1,W.alloc (.cells #[] 140)=W1:=⟨_,rfl⟩
  have hbel:Below w.heap.size w W:=by rw[← hW];exact belAl (Below.refl _ w) _
  have hb1:Below W.heap.size W W1:=by rw[← hW1];exact belAl (Below.refl _ W) _
  have hB':Blk W gS 139 (mapsL mo).toArray:=h1.below hbel h1.lt
  have hB1:Blk W1 gS 139 (mapsL mo).toArray:=hB'.below hb1 hB'.lt
  have hT1:Turns K w W1:=(Turns.of_below hbel (Nat.le_refl _)).trans (Turns.of_below hb1 (Nat.le_refl _))
  have c1:W.cell? ⟨gS,j,none⟩=some (.map none):=by rw[hB'.cell j,← hk];simpa using mapsL_at mo hj
  have c2:W1.cell? ⟨gS,j,none⟩=some (.map none):=by rw[hB1.cell j,← hk];simpa using mapsL_at mo hj
  have l2:(Instr.lookup 135 (.map none) (.agg #[.int .i64 p.c,.int .i64 p.g]) true).run Tryz.prog W=.ok (.tuple #[.agg #[],.bool false]) W :=
    MapK.nil_look EP W Tryz.underlying135 (eqH_zero W) true p wp
  rw[hsj,show decide (p∈([]:List Pl))=false from decide_eq_false List.not_mem_nil,show ([]:List Pl).erase p=[] from rfl]
  refine rel_via gS w j none p false 0 W W1 W1 _ hj hW hW1 c1 l2 (fun ty=>MapK.nil_drop EP W1 Tryz.underlying135 p wp ty)
    (fun ty=>Maps.len_nil Tryz.underlying135 ty) _ c2 (hB1.frozen j) ?_
  rw[if_pos rfl]
  have hoW:Only gS W1 (W1.setCell ⟨gS,j,none⟩ (.map none)):=(Only.refl gS W1).setCell j _
  refine⟨K,rfl,SwpMem.one_ (mo':=updM mo j none) (fun i hi=>by rw[hoW.2];exact Nat.lt_of_lt_of_le (h.lt i hi) hT1.size) h.ok h.len h.kS List.Pairwise.nil (Nat.zero_le _) ?_ ?_ (fun n hn hne=>?_) (h3.none_ j),fun i hi=>.inl hi,hT1.trans (Turns.of_only hoW h.kS)⟩
  · rw[← mapsL_set];exact hB1.setL j _
  · rw[updM_same];exact rfl
  · rw[updM_other _ _ _ hne];exact ((((h2 n hn).fresh_ hbel).fresh_ hb1)).cell_ hB1 hoW
end
theorem rel_no (v:Value) (n:Int) (p:Pl) (w:World) (hh:∀ W,Calls Tryz.prog 70 #[v,.int .i64 n] W fun e w'=>e=.returned (.bool false)∧w'=W) :
    Calls Tryz.prog 190 #[v,.int .i64 n,.agg #[.int .i64 p.c,.int .i64 p.g]] w fun e w'=>e=.returned (.bool false)∧Below w.heap.size w w':=by
  have HB:=Lib.hid (belAl (Below.refl w.heap.size w) (.cells #[.int .i64 p.c,.int .i64 p.g] 60))
  go_enter Tryz.func190,Tryz.ntmps190
  go_wp2_with fail
  refine (hh _).mono ?_
  rintro e w' ⟨rfl,rfl⟩
  go_wp2_with fail
  go_ret
  exact⟨rfl,HB.out⟩
theorem swap_release (gS:Nat) (K:Nat→Prop) (s:SS) (w:World) (n:Int) (p:Pl) (h:SwpMem w gS K s) (wp:WPl p) :
    Calls Tryz.prog 190 #[.pointer (some ⟨gS,0,none⟩),.int .i64 n,.agg #[.int .i64 p.c,.int .i64 p.g]] w (SwpPost w gS K (.bool (inS s n p)) (relS s n p)):=by
  unfold relS inS
  by_cases c:isSlot n
  · rw[decide_eq_true c,if_pos c,Bool.true_and]
    obtain⟨c0,c1⟩:=c
    obtain⟨j,rfl⟩:=Int.eq_ofNat_of_zero_le c0
    rw[Int.toNat_natCast]
    obtain⟨mo,h1,h2,h3⟩:=h.at_
    cases hk:mo j with
    | none=>exact rel_none gS K s w j mo p (by omega) h h1 h2 h3 hk wp
    | some k=>exact rel_some gS K s w j k mo p (by omega) h h1 h2 h3 hk wp
  · rw[decide_eq_false c,if_neg c,Bool.false_and]
    have hh:∀ W,Calls Tryz.prog 70 #[.pointer (some ⟨gS,0,none⟩),.int .i64 n] W fun e w'=>e=.returned (.bool false)∧w'=W:=fun W=>by
      have:=has_any gS n W
      rw[decide_eq_false c] at this
      exact this
    refine (rel_no _ n p w hh).mono ?_
    rintro e w' ⟨rfl,hb⟩
    exact⟨K,rfl,h.fresh hb,fun k hk=>.inl hk,Turns.of_below hb (Nat.le_refl _)⟩
end Go.Proofs.YtaonpmclkafjdaaGreat

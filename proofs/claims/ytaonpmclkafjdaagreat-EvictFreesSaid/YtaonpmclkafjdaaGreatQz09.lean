/-
  The contracts of a pool's New, and of what may be given of a zone.
  The contracts of a pool's Alloc, and of the run that it looks for.
  The contracts of a pool's calls, as the statements' walks ask for them.
  Conditions: those that each line bears.
-/
import Derived.Test.YtaonpmclkafjdaaGreatQz08
import Derived.RegionTactic
import Derived.BigRegion
set_option linter.unusedSimpArgs false
set_option linter.unusedSectionVars false
set_option linter.unusedVariables false
namespace Go.Proofs.YtaonpmclkafjdaaGreat
open Go.RowKit
set_option linter.unusedVariables false
set_option maxRecDepth 20000
set_option maxHeartbeats 800000
def zeroL:List Value:=List.replicate 1024 (.int .i64 0) ++ (List.replicate 32 [Value.int .i64 0,Value.bool false]).flatten
theorem Tryz.zeroOwn:(Tryz.prog.info? 125).map (fun i=>i.zero)=some (some (.agg zeroL.toArray)):=by kernel_rfl
theorem zero_own:∃ Z:Array Value,Z=zeroL.toArray∧∀ w,(zeroValue 125).run Tryz.prog w=.ok (.agg Z) w:=by
  refine⟨_,rfl,fun w=>?_⟩
  have h:=Tryz.zeroOwn
  cases hq:Tryz.prog.info? 125 with
  | none=>rw[hq] at h;cases h
  | some i =>
    rw[hq] at h
    simp only[Option.map_some,Option.some.injEq] at h
    simp[zeroValue,typeInfo,hq,h]
theorem pairs_at (n:Nat):∀ s,s < n→(List.replicate n [Value.int .i64 0,Value.bool false]).flatten[2 * s]?=some (.int .i64 0)∧(List.replicate n [Value.int .i64 0,Value.bool false]).flatten[2 * s+1]?=some (.bool false):=by
  induction n with
  | zero=>intro s h;omega
  | succ n ih =>
    intro s h
    rw[List.replicate_succ,List.flatten_cons]
    cases s with
    | zero=>exact⟨rfl,rfl⟩
    | succ s =>
      obtain⟨h1,h2⟩:=ih s (by omega)
      rw[show 2 * (s+1)=2 * s+2 by omega,show 2 * s+2+1=2 * s+1+2 by omega]
      exact⟨h1,h2⟩
theorem zeroL_v:PoolV zeroL ps0 where
  n:=by unfold zeroL;simp
  u f hf:=by
    rw[ps0_u]
    unfold zeroL
    rw[List.getElem?_append_left (by rw[List.length_replicate];exact hf),List.getElem?_replicate,if_pos hf]
    rfl
  z s hs:=by
    rw[ps0_z]
    unfold zeroL
    rw[List.getElem?_append_right (by rw[List.length_replicate];omega),List.length_replicate,Nat.add_sub_cancel_left]
    exact (pairs_at 32 s hs).1
  i s hs:=by
    rw[ps0_i]
    unfold zeroL
    rw[List.getElem?_append_right (by rw[List.length_replicate];omega),List.length_replicate,show 1024+2 * s+1 - 1024=2 * s+1 by omega]
    exact (pairs_at 32 s hs).2
theorem pool_new (w:World) :
    Calls Tryz.prog 31 #[] w fun e w'=>∃ gS K,e=.returned (.pointer (some ⟨gS,0,none⟩))∧PoolMem w' gS K ps0∧(∀ k,K k→w.heap.size≤k)∧Below w.heap.size w w':=by
  obtain⟨Z,hZ,hzr⟩:=zero_own
  have HZ:=Lib.hid hZ
  clear hZ
  go_enter Tryz.func31,Tryz.ntmps31
  go_wp2
  go_ret
  refine⟨w.heap.size,_,rfl,⟨rfl,⟨zeroL,?_,zeroL_v,ps0_ok⟩,PInv.ps0_⟩,?_,(Below.refl _ _).alloc (Nat.le_refl _) _⟩
  · rw[← HZ.out]
    exact Blk.new w _ _
  · rintro k rfl
    exact Nat.le_refl _
theorem open_any (g:Nat) (p:PS) (z:Nat) (w:World) (h:PoolAt w g p) :
    Calls Tryz.prog 168 #[.pointer (some ⟨g,0,none⟩),.int .i64 (z:Int)] w fun e w'=>∃ gS K,e=.returned (.pointer (some ⟨gS,0,none⟩))∧RunMem w' gS K (openB p z 32)∧(∀ k,K k→w.heap.size≤k)∧Below w.heap.size w w':=by
  have HP:=Lib.hid h
  have c0:cutN 1024=1024:=by decide
  have NW:=Lib.hid (runs_new 1024 w)
  rw[c0,← openB_zero p z] at NW
  clear h c0
  go_enter Tryz.func168,Tryz.ntmps168
  go_wp2_with fail
  refine NW.out.mono ?_
  rintro e w1 ⟨gR,KR,rfl,hr1,hk1,hb1⟩
  have HR1:=Lib.hid hr1
  have HK1:=Lib.hid hk1
  have HB1:=Lib.hid hb1
  clear hr1 hk1 hb1
  go_wp2_with fail
  go_loopg [6,7,13] 32 (fun gg _ _ s13 wx=>∃ (k:Nat) (K:Nat→Prop),k+gg=32∧s13=.int .i64 (k:Int)∧RunMem wx gR K (openB p z k)∧(∀ j,K j→w.heap.size≤j)∧Below w.heap.size w wx)
  case atStart=>exact⟨0,KR,by omega,rfl,HR1.out,HK1.out,HB1.out⟩
  case round =>
    obtain⟨k,K,hkg,rfl,hr5,hk5,hb5⟩:=hrel
    have HR5:=Lib.hid hr5
    have HK5:=Lib.hid hk5
    have HB5:=Lib.hid hb5
    have HP5:=Lib.hid (HP.out.below hb5 HP.out.lt)
    clear hr5 hk5 hb5
    by_cases hlt:k < 32
    · have t1:decide ((k:Int) < 32)=true:=decide_eq_true (by omega)
      have t2:(0:Int)≤(k:Int):=by omega
      have t3:(k:Int) < 32:=by omega
      have hcz:=HP5.out.cz hlt
      have hci:=HP5.out.ci hlt
      obtain⟨y,hy⟩:∃ y:Nat,y=p.z.getD k 0:=⟨_,rfl⟩
      obtain⟨ib,hib⟩:∃ ib,ib=p.i.getD k false:=⟨_,rfl⟩
      rw[← hy] at hcz
      rw[← hib] at hci
      rw[show 1024+2 * k=1024+k * 2 by omega] at hcz hci
      have HY:=Lib.hid hy
      have HI:=Lib.hid hib
      clear hy hib
      have hgl:g < wr.heap.size:=HP5.out.lt
      have hcz2:(wr.alloc (.cells #[Value.int .i64 0,Value.bool false] 122)).cell? ⟨g,1024+k * 2,none⟩=some (.int .i64 (y:Int)):=(((Below.refl wr.heap.size wr).alloc (Nat.le_refl _) _).cell (p:=⟨g,1024+k * 2,none⟩) hgl).trans hcz
      have hci2:(wr.alloc (.cells #[Value.int .i64 0,Value.bool false] 122)).cell? ⟨g,1024+k * 2+1,none⟩=some (.bool ib):=(((Below.refl wr.heap.size wr).alloc (Nat.le_refl _) _).cell (p:=⟨g,1024+k * 2+1,none⟩) hgl).trans hci
      go_wp2_with fail
      go_region
      have HW0:=Lib.hid (show Below wr.heap.size wr (wr.alloc (.cells #[Value.int .i64 (y:Int),Value.bool ib] 122)).drew from ((Below.refl _ _).alloc (Nat.le_refl _) _).drew)
      have HB0:=Lib.hid (show Blk (wr.alloc (.cells #[Value.int .i64 (y:Int),Value.bool ib] 122)).drew wr.heap.size 122 #[Value.int .i64 (y:Int),Value.bool ib] from Blk.new wr _ _)
      clear hcz hci hcz2 hci2
      generalize (wr.alloc (.cells #[Value.int .i64 (y:Int),Value.bool ib] 122)).drew=W at *
      have f0:W.cell? ⟨wr.heap.size,0,none⟩=some (.int .i64 (y:Int)):=HB0.out.cell 0
      have f1:W.cell? ⟨wr.heap.size,1,none⟩=some (.bool ib):=HB0.out.cell 1
      have HPW:=Lib.hid (HP5.out.below HW0.out HP5.out.lt)
      have HRW:=Lib.hid (HR5.out.fresh HW0.out)
      have HBW:=Lib.hid (HB5.out.trans (HW0.out.mono HB5.out.size))
      by_cases e:y=z
      · subst e
        have d1:((y:Int) == (y:Int))=true:=by simp
        cases ib with
        | false =>
          have OY:=Lib.hid (openB_yes (p:=p) (z:=y) hlt HY.out.symm HI.out.symm)
          have OF:=Lib.hid (of_any g p (k:Int) 1 W HPW.out)
          rw[ofP_in p hlt] at OF
          go_wp2_with fail
          refine OF.out.mono ?_
          rintro e w2 ⟨v,rfl,hi2,ho2,hb2⟩
          have AD:=Lib.hid (runs_add gR K (openB p y k) v (ofZ p.u 1 (32 * k) 32) w2 (HRW.out.fresh hb2) hi2 (fun b o sp n c e hn hk=>ho2 b o sp n c e hn (HRW.out.lt _ hk)))
          have HB2:=Lib.hid (HBW.out.trans (hb2.mono HBW.out.size))
          obtain⟨A,N,c,rfl,-⟩:=hi2
          clear ho2 hb2
          go_wp2_with fail
          refine AD.out.mono ?_
          rintro e w3 ⟨K3,rfl,hr3,hk3,ht3⟩
          have HR3:=Lib.hid hr3
          have HK3:=Lib.hid hk3
          have HT3:=Lib.hid ht3
          clear hr3 hk3 ht3
          go_wp2_with fail
          go_roundg (31 - k)
          case measure=>omega
          case rel =>
            refine⟨k+1,K3,by omega,by go_num,by rw[← OY.out];exact HR3.out,fun j hj=>?_,HB2.out.trans (HT3.out.below (fun j hj=>HK5.out j hj) HB2.out.size)⟩
            rcases HK3.out j hj with h | h
            · exact HK5.out j h
            · exact Nat.le_trans HB2.out.size h
        | true =>
          have ON:=Lib.hid (openB_no (p:=p) (z:=y) hlt (.inr HI.out.symm))
          go_wp2_with fail
          go_roundg (31 - k)
          case measure=>omega
          case rel=>exact⟨k+1,K,by omega,by go_num,by rw[ON.out];exact HRW.out,HK5.out,HBW.out⟩
      · have d1:((y:Int) == (z:Int))=false:=by simp;omega
        have ON:=Lib.hid (openB_no (p:=p) (z:=z) hlt (.inl (by rw[← HY.out];exact e)))
        go_wp2_with fail
        go_roundg (31 - k)
        case measure=>omega
        case rel=>exact⟨k+1,K,by omega,by go_num,by rw[ON.out];exact HRW.out,HK5.out,HBW.out⟩
    · obtain rfl:k=32:=by omega
      have t3:decide (((32:Nat):Int) < 32)=false:=by decide
      go_wp2
      go_ret
      exact⟨gR,K,rfl,HR5.out,HK5.out,HB5.out⟩
end Go.Proofs.YtaonpmclkafjdaaGreat
namespace Go.Proofs.YtaonpmclkafjdaaGreat
open Go.RowKit
set_option linter.unusedVariables false
set_option maxRecDepth 20000
set_option maxHeartbeats 1600000
theorem firstF_ex (p:PS)(z sz:Nat):∃ r,FirstF p z sz r:=by
  have key:∀ n,(∃ f,f < n∧FirstF p z sz (some f))∨∀ g,g < n→¬ RunF p z sz g:=by
    intro n
    induction n with
    | zero=>exact .inr fun g h=>absurd h (by omega)
    | succ n ih =>
      rcases ih with ⟨f,h1,h2⟩ | ih
      · exact .inl ⟨f,by omega,h2⟩
      · by_cases c:RunF p z sz n
        · exact .inl ⟨n,by omega,c,ih⟩
        · refine .inr fun g hg=>?_
          by_cases e:g=n
          · rw[e];exact c
          · exact ih g (by omega)
  rcases key 1024 with ⟨f,_,h⟩ | h
  · exact⟨some f,h⟩
  · exact⟨none,fun g hg=>h g hg.2.1 hg⟩
theorem firstF_le {p:PS}{z o f:Nat}(ho:o≤5)(h:FirstF p z (2 ^ o) (some f)):f+2 ^ o≤1024:=by
  have:=((runAt_open ho).2 h.1).2.1
  rwa [openB_length] at this
theorem orun_any (g:Nat) (p:PS) (z:Nat) (o:Int) (w:World) (h:PoolAt w g p) (h0:0≤o) (h5:o≤5) :
    Calls Tryz.prog 168 #[.pointer (some ⟨g,0,none⟩),.int .i64 (z:Int)] w fun e w'=>∃ gS,e=.returned (.pointer (some ⟨gS,0,none⟩))∧(∀ (W:World),Below w'.heap.size w' W→Calls Tryz.prog 169 #[.pointer (some ⟨gS,0,none⟩),.int .i64 o,.int .i64 0,.int .i64 1024] W fun e w2=>∃ r,e=.returned (runV r)∧FirstF p z (2 ^ o.toNat) r∧Below w.heap.size w w2)∧Below w.heap.size w w':=by
  refine (open_any g p z w h).mono ?_
  rintro e w' ⟨gS,K,rfl,h1,h2,h3⟩
  refine⟨gS,rfl,fun W hW=>?_,h3⟩
  refine (runs_run gS K _ o 0 1024 W (h1.fresh hW)).mono ?_
  rintro e w2 ⟨r,rfl,k1,k2⟩
  exact⟨r,rfl,runIs_first h0 h5 k1,(h3.trans (hW.mono h3.size)).trans (k2.mono (Nat.le_trans h3.size hW.size))⟩
def PrunPost (p:PS)(o:Int)(m:Bool)(w:World)(e:Ending)(w':World):Prop:=∃ r3 r2,FirstF p 3 (2 ^ o.toNat) r3∧FirstF p 2 (2 ^ o.toNat) r2∧e=.returned (runV (if m then r3.or r2 else r2))∧Below w.heap.size w w'
theorem prun_any (g:Nat) (p:PS) (o:Int) (m:Bool) (w:World) (h:PoolAt w g p) (h0:0≤o) (h5:o≤5) :
    Calls Tryz.prog 129 #[.pointer (some ⟨g,0,none⟩),.int .i64 o,.bool m] w (PrunPost p o m w):=by
  have HP:=Lib.hid h
  have H0:=Lib.hid h0
  have H5:=Lib.hid h5
  clear h h0 h5
  cases m with
  | false =>
    obtain⟨r3,hr3⟩:=firstF_ex p 3 (2 ^ o.toNat)
    have HR3:=Lib.hid hr3
    clear hr3
    have OR:=Lib.hid (orun_any g p 2 o w HP.out H0.out H5.out)
    go_enter Tryz.func129,Tryz.ntmps129
    go_wp2_with fail
    refine OR.out.mono ?_
    rintro e w1 ⟨gS,rfl,hrun,hb⟩
    have RN:=Lib.hid (hrun w1 (Below.refl _ _))
    clear hrun hb
    go_wp2_with fail
    refine RN.out.mono ?_
    rintro e w2 ⟨r2,rfl,hr2,hb2⟩
    have HR2:=Lib.hid hr2
    have HB2:=Lib.hid hb2
    clear hr2 hb2
    unfold runV
    cases r2 with
    | none =>
      go_wp2
      go_ret2
      exact⟨r3,none,HR3.out,HR2.out,rfl,HB2.out⟩
    | some f =>
      go_wp2
      go_ret2
      exact⟨r3,some f,HR3.out,HR2.out,rfl,HB2.out⟩
  | true =>
    have OR:=Lib.hid (orun_any g p 3 o w HP.out H0.out H5.out)
    go_enter Tryz.func129,Tryz.ntmps129
    go_wp2_with fail
    refine OR.out.mono ?_
    rintro e w1 ⟨gS,rfl,hrun,hb⟩
    have RN:=Lib.hid (hrun w1 (Below.refl _ _))
    clear hrun hb
    go_wp2_with fail
    refine RN.out.mono ?_
    rintro e w2 ⟨r3,rfl,hr3,hb2⟩
    have HR3:=Lib.hid hr3
    have HB2:=Lib.hid hb2
    clear hr3 hb2
    cases r3 with
    | some f =>
      unfold runV
      obtain⟨r2,hr2⟩:=firstF_ex p 2 (2 ^ o.toNat)
      have HR2:=Lib.hid hr2
      clear hr2
      go_wp2
      go_ret2
      exact⟨some f,r2,HR3.out,HR2.out,rfl,HB2.out⟩
    | none =>
      have OR2:=Lib.hid (orun_any g p 2 o w2 (HP.out.below HB2.out HP.out.lt) H0.out H5.out)
      unfold runV
      go_wp2_with fail
      refine OR2.out.mono ?_
      rintro e w3 ⟨gS2,rfl,hrun,hb⟩
      have RN2:=Lib.hid (hrun w3 (Below.refl _ _))
      clear hrun hb
      go_wp2_with fail
      refine RN2.out.mono ?_
      rintro e w4 ⟨r2,rfl,hr2,hb4⟩
      have HR2:=Lib.hid hr2
      have HB4:=Lib.hid (HB2.out.trans (hb4.mono HB2.out.size))
      clear hr2 hb4
      unfold runV
      cases r2 with
      | none =>
        go_wp2
        go_ret2
        exact⟨none,none,HR3.out,HR2.out,rfl,HB4.out⟩
      | some f =>
        go_wp2
        go_ret2
        exact⟨none,some f,HR3.out,HR2.out,rfl,HB4.out⟩
theorem alloc_bad (g:Nat) (use o:Int) (m:Bool) (w:World) (h:(use < 2∨5 < use)∨(o < 0∨5 < o)) :
    Calls Tryz.prog 74 #[.pointer (some ⟨g,0,none⟩),.int .i64 use,.int .i64 o,.bool m] w fun e w'=>e=.returned (.tuple #[.int .i64 0,.int .i64 1])∧w=w':=by
  have MG:=Lib.hid (mayGive_any use w)
  by_cases h1:2≤use∧use≤5
  · rw[decide_eq_true h1] at MG
    by_cases h2:o < 0
    · have d1:decide (o < 0)=true:=decide_eq_true h2
      clear h1 h
      go_enter Tryz.func74,Tryz.ntmps74
      go_wp2_with (go_at_call 128;refine MG.out.mono ?_;rintro e w' ⟨rfl,rfl⟩)
      go_ret2
      exact⟨rfl,rfl⟩
    · have h3:5 < o:=by omega
      have d1:decide (o < 0)=false:=decide_eq_false h2
      have d2:decide (5 < o)=true:=decide_eq_true h3
      clear h1 h
      go_enter Tryz.func74,Tryz.ntmps74
      go_wp2_with (go_at_call 128;refine MG.out.mono ?_;rintro e w' ⟨rfl,rfl⟩)
      go_ret2
      exact⟨rfl,rfl⟩
  · rw[decide_eq_false h1] at MG
    clear h1 h
    go_enter Tryz.func74,Tryz.ntmps74
    go_wp2_with (go_at_call 128;refine MG.out.mono ?_;rintro e w' ⟨rfl,rfl⟩)
    go_ret2
    exact⟨rfl,rfl⟩
def AllocTo (w:World)(g:Nat)(p:PS)(x:Nat)(N:Nat)(r:Option Nat)(e:Ending)(w':World):Prop :=
  match r with
  | some f=>e=.returned (.tuple #[.int .i64 (f:Int),.int .i64 0])∧PoolAt w' g ⟨spanU (fun _=>x) p.u f (f+N),p.z,p.i⟩∧Turns (fun j=>j=g) w w'
  | none=>e=.returned (.tuple #[.int .i64 0,.int .i64 4])∧PoolAt w' g p∧Turns (fun j=>j=g) w w'
theorem alloc_0 (g:Nat) (p:PS) (x:Nat) (m:Bool) (r:Option Nat) (w:World) (h:PoolAt w g p) (hx:2≤x∧x≤5) (hr:∀ f,r=some f→f+1≤1024)
    (hrun:Calls Tryz.prog 129 #[.pointer (some ⟨g,0,none⟩),.int .i64 0,.bool m] w fun e w'=>e=.returned (runV r)∧Below w.heap.size w w') :
    Calls Tryz.prog 74 #[.pointer (some ⟨g,0,none⟩),.int .i64 (x:Int),.int .i64 0,.bool m] w (AllocTo w g p x 1 r):=by
  have MG:=Lib.hid (mayGive_any (x:Int) w)
  rw[decide_eq_true (show 2≤(x:Int)∧(x:Int)≤5 from by omega)] at MG
  have HP:=Lib.hid h
  have RN:=Lib.hid hrun
  have HX:=Lib.hid hx
  have HR:=Lib.hid hr
  clear h hrun hx hr
  go_enter Tryz.func74,Tryz.ntmps74
  go_wp2_with (first | (go_at_call 128;refine MG.out.mono ?_;rintro e w' ⟨rfl,rfl⟩))
  refine RN.out.mono ?_
  rintro e w1 ⟨rfl,hb⟩
  have HB1:=Lib.hid hb
  have HP1:=Lib.hid (HP.out.below hb HP.out.lt)
  clear hb
  unfold runV
  cases r with
  | none =>
    go_wp2
    go_ret2
    exact⟨rfl,HP1.out,Turns.of_below HB1.out (Nat.le_refl _)⟩
  | some f =>
    have hfl:f+1≤1024:=HR.out f rfl
    go_wp2_with fail
    go_loopg [12,39] 1 (fun gg _ s39 wx=>∃ i:Nat,i+gg=1∧s39=.int .i64 (i:Int)∧PoolAt wx g ⟨spanU (fun _=>x) p.u f (f+i),p.z,p.i⟩∧Turns (fun j=>j=g) w wx)
    case atStart=>exact⟨0,by omega,rfl,by rw[Nat.add_zero,spanU_none];exact HP1.out,Turns.of_below HB1.out (Nat.le_refl _)⟩
    case round =>
      obtain⟨i,hig,rfl,hp5,ht5⟩:=hrel
      have HP5:=Lib.hid hp5
      have HT5:=Lib.hid ht5
      clear hp5 ht5
      by_cases hlt:i < 1
      · have t4:decide ((i:Int) < 1)=true:=decide_eq_true (by omega)
        have t5:(i:Int) < 1:=by omega
        obtain⟨q,hq⟩:∃ q,q=f+i:=⟨_,rfl⟩
        have hq2:q < 1024:=by omega
        have hqs:(f:Int)+(i:Int)=(q:Int):=by omega
        have SP:=Lib.hid (show spanU (fun _=>x) p.u f (f+(i+1))=(spanU (fun _=>x) p.u f (f+i)).set q x from by
          rw[hq,← Nat.add_assoc]
          exact spanU_succ (fun _=>x) p.u f (f+i) (by omega) (by rw[HP.out.ok.u];omega))
        have GV:=Lib.hid (give_one g ⟨spanU (fun _=>x) p.u f (f+i),p.z,p.i⟩ x q wr HP5.out (by have:=HX.out;omega) hq2)
        clear hq
        go_wp2_with fail
        refine GV.out.mono ?_
        rintro e w2 ⟨rfl,h1,h2⟩
        have H1:=Lib.hid h1
        have H2:=Lib.hid h2
        clear h1 h2 hqs
        go_wp2_with fail
        go_roundg (1 - (i+1))
        case measure=>omega
        case rel=>exact⟨i+1,by omega,by go_num,by rw[SP.out];exact H1.out,HT5.out.trans H2.out⟩
      · obtain rfl:i=1:=by omega
        go_wp2
        go_ret2
        exact⟨rfl,HP5.out,HT5.out⟩
theorem alloc_1 (g:Nat) (p:PS) (x:Nat) (m:Bool) (r:Option Nat) (w:World) (h:PoolAt w g p) (hx:2≤x∧x≤5) (hr:∀ f,r=some f→f+2≤1024)
    (hrun:Calls Tryz.prog 129 #[.pointer (some ⟨g,0,none⟩),.int .i64 1,.bool m] w fun e w'=>e=.returned (runV r)∧Below w.heap.size w w') :
    Calls Tryz.prog 74 #[.pointer (some ⟨g,0,none⟩),.int .i64 (x:Int),.int .i64 1,.bool m] w (AllocTo w g p x 2 r):=by
  have MG:=Lib.hid (mayGive_any (x:Int) w)
  rw[decide_eq_true (show 2≤(x:Int)∧(x:Int)≤5 from by omega)] at MG
  have HP:=Lib.hid h
  have RN:=Lib.hid hrun
  have HX:=Lib.hid hx
  have HR:=Lib.hid hr
  clear h hrun hx hr
  go_enter Tryz.func74,Tryz.ntmps74
  go_wp2_with (first | (go_at_call 128;refine MG.out.mono ?_;rintro e w' ⟨rfl,rfl⟩))
  refine RN.out.mono ?_
  rintro e w1 ⟨rfl,hb⟩
  have HB1:=Lib.hid hb
  have HP1:=Lib.hid (HP.out.below hb HP.out.lt)
  clear hb
  unfold runV
  cases r with
  | none =>
    go_wp2
    go_ret2
    exact⟨rfl,HP1.out,Turns.of_below HB1.out (Nat.le_refl _)⟩
  | some f =>
    have hfl:f+2≤1024:=HR.out f rfl
    go_wp2_with fail
    go_loopg [12,39] 2 (fun gg _ s39 wx=>∃ i:Nat,i+gg=2∧s39=.int .i64 (i:Int)∧PoolAt wx g ⟨spanU (fun _=>x) p.u f (f+i),p.z,p.i⟩∧Turns (fun j=>j=g) w wx)
    case atStart=>exact⟨0,by omega,rfl,by rw[Nat.add_zero,spanU_none];exact HP1.out,Turns.of_below HB1.out (Nat.le_refl _)⟩
    case round =>
      obtain⟨i,hig,rfl,hp5,ht5⟩:=hrel
      have HP5:=Lib.hid hp5
      have HT5:=Lib.hid ht5
      clear hp5 ht5
      by_cases hlt:i < 2
      · have t4:decide ((i:Int) < 2)=true:=decide_eq_true (by omega)
        have t5:(i:Int) < 2:=by omega
        obtain⟨q,hq⟩:∃ q,q=f+i:=⟨_,rfl⟩
        have hq2:q < 1024:=by omega
        have hqs:(f:Int)+(i:Int)=(q:Int):=by omega
        have SP:=Lib.hid (show spanU (fun _=>x) p.u f (f+(i+1))=(spanU (fun _=>x) p.u f (f+i)).set q x from by
          rw[hq,← Nat.add_assoc]
          exact spanU_succ (fun _=>x) p.u f (f+i) (by omega) (by rw[HP.out.ok.u];omega))
        have GV:=Lib.hid (give_one g ⟨spanU (fun _=>x) p.u f (f+i),p.z,p.i⟩ x q wr HP5.out (by have:=HX.out;omega) hq2)
        clear hq
        go_wp2_with fail
        refine GV.out.mono ?_
        rintro e w2 ⟨rfl,h1,h2⟩
        have H1:=Lib.hid h1
        have H2:=Lib.hid h2
        clear h1 h2 hqs
        go_wp2_with fail
        go_roundg (2 - (i+1))
        case measure=>omega
        case rel=>exact⟨i+1,by omega,by go_num,by rw[SP.out];exact H1.out,HT5.out.trans H2.out⟩
      · obtain rfl:i=2:=by omega
        go_wp2
        go_ret2
        exact⟨rfl,HP5.out,HT5.out⟩
theorem alloc_2 (g:Nat) (p:PS) (x:Nat) (m:Bool) (r:Option Nat) (w:World) (h:PoolAt w g p) (hx:2≤x∧x≤5) (hr:∀ f,r=some f→f+4≤1024)
    (hrun:Calls Tryz.prog 129 #[.pointer (some ⟨g,0,none⟩),.int .i64 2,.bool m] w fun e w'=>e=.returned (runV r)∧Below w.heap.size w w') :
    Calls Tryz.prog 74 #[.pointer (some ⟨g,0,none⟩),.int .i64 (x:Int),.int .i64 2,.bool m] w (AllocTo w g p x 4 r):=by
  have MG:=Lib.hid (mayGive_any (x:Int) w)
  rw[decide_eq_true (show 2≤(x:Int)∧(x:Int)≤5 from by omega)] at MG
  have HP:=Lib.hid h
  have RN:=Lib.hid hrun
  have HX:=Lib.hid hx
  have HR:=Lib.hid hr
  clear h hrun hx hr
  go_enter Tryz.func74,Tryz.ntmps74
  go_wp2_with (first | (go_at_call 128;refine MG.out.mono ?_;rintro e w' ⟨rfl,rfl⟩))
  refine RN.out.mono ?_
  rintro e w1 ⟨rfl,hb⟩
  have HB1:=Lib.hid hb
  have HP1:=Lib.hid (HP.out.below hb HP.out.lt)
  clear hb
  unfold runV
  cases r with
  | none =>
    go_wp2
    go_ret2
    exact⟨rfl,HP1.out,Turns.of_below HB1.out (Nat.le_refl _)⟩
  | some f =>
    have hfl:f+4≤1024:=HR.out f rfl
    go_wp2_with fail
    go_loopg [12,39] 4 (fun gg _ s39 wx=>∃ i:Nat,i+gg=4∧s39=.int .i64 (i:Int)∧PoolAt wx g ⟨spanU (fun _=>x) p.u f (f+i),p.z,p.i⟩∧Turns (fun j=>j=g) w wx)
    case atStart=>exact⟨0,by omega,rfl,by rw[Nat.add_zero,spanU_none];exact HP1.out,Turns.of_below HB1.out (Nat.le_refl _)⟩
    case round =>
      obtain⟨i,hig,rfl,hp5,ht5⟩:=hrel
      have HP5:=Lib.hid hp5
      have HT5:=Lib.hid ht5
      clear hp5 ht5
      by_cases hlt:i < 4
      · have t4:decide ((i:Int) < 4)=true:=decide_eq_true (by omega)
        have t5:(i:Int) < 4:=by omega
        obtain⟨q,hq⟩:∃ q,q=f+i:=⟨_,rfl⟩
        have hq2:q < 1024:=by omega
        have hqs:(f:Int)+(i:Int)=(q:Int):=by omega
        have SP:=Lib.hid (show spanU (fun _=>x) p.u f (f+(i+1))=(spanU (fun _=>x) p.u f (f+i)).set q x from by
          rw[hq,← Nat.add_assoc]
          exact spanU_succ (fun _=>x) p.u f (f+i) (by omega) (by rw[HP.out.ok.u];omega))
        have GV:=Lib.hid (give_one g ⟨spanU (fun _=>x) p.u f (f+i),p.z,p.i⟩ x q wr HP5.out (by have:=HX.out;omega) hq2)
        clear hq
        go_wp2_with fail
        refine GV.out.mono ?_
        rintro e w2 ⟨rfl,h1,h2⟩
        have H1:=Lib.hid h1
        have H2:=Lib.hid h2
        clear h1 h2 hqs
        go_wp2_with fail
        go_roundg (4 - (i+1))
        case measure=>omega
        case rel=>exact⟨i+1,by omega,by go_num,by rw[SP.out];exact H1.out,HT5.out.trans H2.out⟩
      · obtain rfl:i=4:=by omega
        go_wp2
        go_ret2
        exact⟨rfl,HP5.out,HT5.out⟩
theorem alloc_3 (g:Nat) (p:PS) (x:Nat) (m:Bool) (r:Option Nat) (w:World) (h:PoolAt w g p) (hx:2≤x∧x≤5) (hr:∀ f,r=some f→f+8≤1024)
    (hrun:Calls Tryz.prog 129 #[.pointer (some ⟨g,0,none⟩),.int .i64 3,.bool m] w fun e w'=>e=.returned (runV r)∧Below w.heap.size w w') :
    Calls Tryz.prog 74 #[.pointer (some ⟨g,0,none⟩),.int .i64 (x:Int),.int .i64 3,.bool m] w (AllocTo w g p x 8 r):=by
  have MG:=Lib.hid (mayGive_any (x:Int) w)
  rw[decide_eq_true (show 2≤(x:Int)∧(x:Int)≤5 from by omega)] at MG
  have HP:=Lib.hid h
  have RN:=Lib.hid hrun
  have HX:=Lib.hid hx
  have HR:=Lib.hid hr
  clear h hrun hx hr
  go_enter Tryz.func74,Tryz.ntmps74
  go_wp2_with (first | (go_at_call 128;refine MG.out.mono ?_;rintro e w' ⟨rfl,rfl⟩))
  refine RN.out.mono ?_
  rintro e w1 ⟨rfl,hb⟩
  have HB1:=Lib.hid hb
  have HP1:=Lib.hid (HP.out.below hb HP.out.lt)
  clear hb
  unfold runV
  cases r with
  | none =>
    go_wp2
    go_ret2
    exact⟨rfl,HP1.out,Turns.of_below HB1.out (Nat.le_refl _)⟩
  | some f =>
    have hfl:f+8≤1024:=HR.out f rfl
    go_wp2_with fail
    go_loopg [12,39] 8 (fun gg _ s39 wx=>∃ i:Nat,i+gg=8∧s39=.int .i64 (i:Int)∧PoolAt wx g ⟨spanU (fun _=>x) p.u f (f+i),p.z,p.i⟩∧Turns (fun j=>j=g) w wx)
    case atStart=>exact⟨0,by omega,rfl,by rw[Nat.add_zero,spanU_none];exact HP1.out,Turns.of_below HB1.out (Nat.le_refl _)⟩
    case round =>
      obtain⟨i,hig,rfl,hp5,ht5⟩:=hrel
      have HP5:=Lib.hid hp5
      have HT5:=Lib.hid ht5
      clear hp5 ht5
      by_cases hlt:i < 8
      · have t4:decide ((i:Int) < 8)=true:=decide_eq_true (by omega)
        have t5:(i:Int) < 8:=by omega
        obtain⟨q,hq⟩:∃ q,q=f+i:=⟨_,rfl⟩
        have hq2:q < 1024:=by omega
        have hqs:(f:Int)+(i:Int)=(q:Int):=by omega
        have SP:=Lib.hid (show spanU (fun _=>x) p.u f (f+(i+1))=(spanU (fun _=>x) p.u f (f+i)).set q x from by
          rw[hq,← Nat.add_assoc]
          exact spanU_succ (fun _=>x) p.u f (f+i) (by omega) (by rw[HP.out.ok.u];omega))
        have GV:=Lib.hid (give_one g ⟨spanU (fun _=>x) p.u f (f+i),p.z,p.i⟩ x q wr HP5.out (by have:=HX.out;omega) hq2)
        clear hq
        go_wp2_with fail
        refine GV.out.mono ?_
        rintro e w2 ⟨rfl,h1,h2⟩
        have H1:=Lib.hid h1
        have H2:=Lib.hid h2
        clear h1 h2 hqs
        go_wp2_with fail
        go_roundg (8 - (i+1))
        case measure=>omega
        case rel=>exact⟨i+1,by omega,by go_num,by rw[SP.out];exact H1.out,HT5.out.trans H2.out⟩
      · obtain rfl:i=8:=by omega
        go_wp2
        go_ret2
        exact⟨rfl,HP5.out,HT5.out⟩
theorem alloc_4 (g:Nat) (p:PS) (x:Nat) (m:Bool) (r:Option Nat) (w:World) (h:PoolAt w g p) (hx:2≤x∧x≤5) (hr:∀ f,r=some f→f+16≤1024)
    (hrun:Calls Tryz.prog 129 #[.pointer (some ⟨g,0,none⟩),.int .i64 4,.bool m] w fun e w'=>e=.returned (runV r)∧Below w.heap.size w w') :
    Calls Tryz.prog 74 #[.pointer (some ⟨g,0,none⟩),.int .i64 (x:Int),.int .i64 4,.bool m] w (AllocTo w g p x 16 r):=by
  have MG:=Lib.hid (mayGive_any (x:Int) w)
  rw[decide_eq_true (show 2≤(x:Int)∧(x:Int)≤5 from by omega)] at MG
  have HP:=Lib.hid h
  have RN:=Lib.hid hrun
  have HX:=Lib.hid hx
  have HR:=Lib.hid hr
  clear h hrun hx hr
  go_enter Tryz.func74,Tryz.ntmps74
  go_wp2_with (first | (go_at_call 128;refine MG.out.mono ?_;rintro e w' ⟨rfl,rfl⟩))
  refine RN.out.mono ?_
  rintro e w1 ⟨rfl,hb⟩
  have HB1:=Lib.hid hb
  have HP1:=Lib.hid (HP.out.below hb HP.out.lt)
  clear hb
  unfold runV
  cases r with
  | none =>
    go_wp2
    go_ret2
    exact⟨rfl,HP1.out,Turns.of_below HB1.out (Nat.le_refl _)⟩
  | some f =>
    have hfl:f+16≤1024:=HR.out f rfl
    go_wp2_with fail
    go_loopg [12,39] 16 (fun gg _ s39 wx=>∃ i:Nat,i+gg=16∧s39=.int .i64 (i:Int)∧PoolAt wx g ⟨spanU (fun _=>x) p.u f (f+i),p.z,p.i⟩∧Turns (fun j=>j=g) w wx)
    case atStart=>exact⟨0,by omega,rfl,by rw[Nat.add_zero,spanU_none];exact HP1.out,Turns.of_below HB1.out (Nat.le_refl _)⟩
    case round =>
      obtain⟨i,hig,rfl,hp5,ht5⟩:=hrel
      have HP5:=Lib.hid hp5
      have HT5:=Lib.hid ht5
      clear hp5 ht5
      by_cases hlt:i < 16
      · have t4:decide ((i:Int) < 16)=true:=decide_eq_true (by omega)
        have t5:(i:Int) < 16:=by omega
        obtain⟨q,hq⟩:∃ q,q=f+i:=⟨_,rfl⟩
        have hq2:q < 1024:=by omega
        have hqs:(f:Int)+(i:Int)=(q:Int):=by omega
        have SP:=Lib.hid (show spanU (fun _=>x) p.u f (f+(i+1))=(spanU (fun _=>x) p.u f (f+i)).set q x from by
          rw[hq,← Nat.add_assoc]
          exact spanU_succ (fun _=>x) p.u f (f+i) (by omega) (by rw[HP.out.ok.u];omega))
        have GV:=Lib.hid (give_one g ⟨spanU (fun _=>x) p.u f (f+i),p.z,p.i⟩ x q wr HP5.out (by have:=HX.out;omega) hq2)
        clear hq
        go_wp2_with fail
        refine GV.out.mono ?_
        rintro e w2 ⟨rfl,h1,h2⟩
        have H1:=Lib.hid h1
        have H2:=Lib.hid h2
        clear h1 h2 hqs
        go_wp2_with fail
        go_roundg (16 - (i+1))
        case measure=>omega
        case rel=>exact⟨i+1,by omega,by go_num,by rw[SP.out];exact H1.out,HT5.out.trans H2.out⟩
      · obtain rfl:i=16:=by omega
        go_wp2
        go_ret2
        exact⟨rfl,HP5.out,HT5.out⟩
theorem alloc_5 (g:Nat) (p:PS) (x:Nat) (m:Bool) (r:Option Nat) (w:World) (h:PoolAt w g p) (hx:2≤x∧x≤5) (hr:∀ f,r=some f→f+32≤1024)
    (hrun:Calls Tryz.prog 129 #[.pointer (some ⟨g,0,none⟩),.int .i64 5,.bool m] w fun e w'=>e=.returned (runV r)∧Below w.heap.size w w') :
    Calls Tryz.prog 74 #[.pointer (some ⟨g,0,none⟩),.int .i64 (x:Int),.int .i64 5,.bool m] w (AllocTo w g p x 32 r):=by
  have MG:=Lib.hid (mayGive_any (x:Int) w)
  rw[decide_eq_true (show 2≤(x:Int)∧(x:Int)≤5 from by omega)] at MG
  have HP:=Lib.hid h
  have RN:=Lib.hid hrun
  have HX:=Lib.hid hx
  have HR:=Lib.hid hr
  clear h hrun hx hr
  go_enter Tryz.func74,Tryz.ntmps74
  go_wp2_with (first | (go_at_call 128;refine MG.out.mono ?_;rintro e w' ⟨rfl,rfl⟩))
  refine RN.out.mono ?_
  rintro e w1 ⟨rfl,hb⟩
  have HB1:=Lib.hid hb
  have HP1:=Lib.hid (HP.out.below hb HP.out.lt)
  clear hb
  unfold runV
  cases r with
  | none =>
    go_wp2
    go_ret2
    exact⟨rfl,HP1.out,Turns.of_below HB1.out (Nat.le_refl _)⟩
  | some f =>
    have hfl:f+32≤1024:=HR.out f rfl
    go_wp2_with fail
    go_loopg [12,39] 32 (fun gg _ s39 wx=>∃ i:Nat,i+gg=32∧s39=.int .i64 (i:Int)∧PoolAt wx g ⟨spanU (fun _=>x) p.u f (f+i),p.z,p.i⟩∧Turns (fun j=>j=g) w wx)
    case atStart=>exact⟨0,by omega,rfl,by rw[Nat.add_zero,spanU_none];exact HP1.out,Turns.of_below HB1.out (Nat.le_refl _)⟩
    case round =>
      obtain⟨i,hig,rfl,hp5,ht5⟩:=hrel
      have HP5:=Lib.hid hp5
      have HT5:=Lib.hid ht5
      clear hp5 ht5
      by_cases hlt:i < 32
      · have t4:decide ((i:Int) < 32)=true:=decide_eq_true (by omega)
        have t5:(i:Int) < 32:=by omega
        obtain⟨q,hq⟩:∃ q,q=f+i:=⟨_,rfl⟩
        have hq2:q < 1024:=by omega
        have hqs:(f:Int)+(i:Int)=(q:Int):=by omega
        have SP:=Lib.hid (show spanU (fun _=>x) p.u f (f+(i+1))=(spanU (fun _=>x) p.u f (f+i)).set q x from by
          rw[hq,← Nat.add_assoc]
          exact spanU_succ (fun _=>x) p.u f (f+i) (by omega) (by rw[HP.out.ok.u];omega))
        have GV:=Lib.hid (give_one g ⟨spanU (fun _=>x) p.u f (f+i),p.z,p.i⟩ x q wr HP5.out (by have:=HX.out;omega) hq2)
        clear hq
        go_wp2_with fail
        refine GV.out.mono ?_
        rintro e w2 ⟨rfl,h1,h2⟩
        have H1:=Lib.hid h1
        have H2:=Lib.hid h2
        clear h1 h2 hqs
        go_wp2_with fail
        go_roundg (32 - (i+1))
        case measure=>omega
        case rel=>exact⟨i+1,by omega,by go_num,by rw[SP.out];exact H1.out,HT5.out.trans H2.out⟩
      · obtain rfl:i=32:=by omega
        go_wp2
        go_ret2
        exact⟨rfl,HP5.out,HT5.out⟩
theorem AllocTo.is {w:World} {g:Nat} {p:PS} {x:Nat} {o:Int} {m:Bool} {r3 r2:Option Nat} {e:Ending} {w':World} (hx:2≤x∧x≤5) (h0:0≤o) (h5:o≤5) (h3:FirstF p 3 (2 ^ o.toNat) r3) (h2:FirstF p 2 (2 ^ o.toNat) r2)
    (h:AllocTo w g p x (2 ^ o.toNat) (if m then r3.or r2 else r2) e w'):∃ (f er:Nat) (p':PS),AllocIs p (x:Int) o m f er p'∧e=.returned (.tuple #[.int .i64 (f:Int),.int .i64 (er:Int)])∧PoolAt w' g p'∧Turns (fun j=>j=g) w w':=by
  unfold AllocTo at h
  cases hr:(if m then r3.or r2 else r2) with
  | none =>
    rw[hr] at h
    obtain⟨rfl,k1,k2⟩:=h
    exact⟨0,4,p,.inr ⟨by omega,r3,r2,h3,h2,by rw[hr];exact⟨rfl,rfl,rfl⟩⟩,rfl,k1,k2⟩
  | some f =>
    rw[hr] at h
    obtain⟨rfl,k1,k2⟩:=h
    exact⟨f,0,_,.inr ⟨by omega,r3,r2,h3,h2,by rw[hr];exact⟨rfl,rfl,rfl⟩⟩,rfl,by rw[Int.toNat_natCast];exact k1,k2⟩
theorem pool_alloc_at (g:Nat) (p:PS) (use o:Int) (m:Bool) (w:World) (h:PoolAt w g p) :
    Calls Tryz.prog 74 #[.pointer (some ⟨g,0,none⟩),.int .i64 use,.int .i64 o,.bool m] w fun e w'=>∃ (f er:Nat) (p':PS),AllocIs p use o m f er p'∧e=.returned (.tuple #[.int .i64 (f:Int),.int .i64 (er:Int)])∧PoolAt w' g p'∧Turns (fun j=>j=g) w w':=by
  by_cases hb:(use < 2∨5 < use)∨(o < 0∨5 < o)
  · refine (alloc_bad g use o m w hb).mono ?_
    rintro e w' ⟨rfl,rfl⟩
    exact⟨0,1,p,.inl ⟨hb,rfl,rfl,rfl⟩,rfl,h,Turns.refl _ _⟩
  · obtain⟨x,rfl⟩:=Int.eq_ofNat_of_zero_le (show 0≤use from by omega)
    have hx:2≤x∧x≤5:=by omega
    obtain⟨r3,h3⟩:=firstF_ex p 3 (2 ^ o.toNat)
    obtain⟨r2,h2⟩:=firstF_ex p 2 (2 ^ o.toNat)
    have hrun:Calls Tryz.prog 129 #[.pointer (some ⟨g,0,none⟩),.int .i64 o,.bool m] w fun e w'=>e=.returned (runV (if m then r3.or r2 else r2))∧Below w.heap.size w w':=by
      refine (prun_any g p o m w h (by omega) (by omega)).mono ?_
      rintro e w' ⟨s3,s2,k3,k2,rfl,k⟩
      rw[k3.uniq h3,k2.uniq h2]
      exact⟨rfl,k⟩
    have hle:∀ f,(if m then r3.or r2 else r2)=some f→f+2 ^ o.toNat≤1024:=by
      intro f hf
      have ho:o.toNat≤5:=by omega
      cases m with
      | false =>
        have hf:r2=some f:=by simpa using hf
        rw[hf] at h2
        exact firstF_le ho h2
      | true =>
        have hf:r3.or r2=some f:=by simpa using hf
        cases r3 with
        | some y =>
          have:y=f:=by simpa using hf
          rw[this] at h3
          exact firstF_le ho h3
        | none =>
          have hf:r2=some f:=by simpa using hf
          rw[hf] at h2
          exact firstF_le ho h2
    have hc:o=0∨o=1∨o=2∨o=3∨o=4∨o=5:=by omega
    have is:=fun e w'=>@AllocTo.is w g p x o m r3 r2 e w' hx (by omega) (by omega) h3 h2
    rcases hc with rfl | rfl | rfl | rfl | rfl | rfl
    · exact (alloc_0 g p x m _ w h hx hle hrun).mono is
    · exact (alloc_1 g p x m _ w h hx hle hrun).mono is
    · exact (alloc_2 g p x m _ w h hx hle hrun).mono is
    · exact (alloc_3 g p x m _ w h hx hle hrun).mono is
    · exact (alloc_4 g p x m _ w h hx hle hrun).mono is
    · exact (alloc_5 g p x m _ w h hx hle hrun).mono is
end Go.Proofs.YtaonpmclkafjdaaGreat
namespace Go.Proofs.YtaonpmclkafjdaaGreat
open Go.RowKit
set_option linter.unusedVariables false
theorem PoolMem.post {w w':World}{gS:Nat}{K:Nat→Prop}{p p':PS}{v:Value}{e:Ending}(h:PoolMem w gS K p)(he:e=.returned v)(h1:PoolAt w' gS p')(h2:Turns (fun j=>j=gS) w w')(hi:PInv p'):PoolPost w gS K v p' e w':=by
  obtain⟨rfl,_,_⟩:=h
  exact⟨_,he,⟨rfl,h1,hi⟩,fun k hk=>.inl hk,h2⟩
theorem free_inv {p:PS}(ho:PsOk p)(hi:PInv p)(f:Int):PInv (freeP p f).2:=by
  unfold freeP
  split
  · rename_i c
    by_cases hf:0≤f∧f < 1024
    · obtain⟨k,rfl⟩:=Int.eq_ofNat_of_zero_le hf.1
      rw[Int.toNat_natCast]
      have hk:k < 1024:=by omega
      rw[useP_in p hk] at c
      refine hi.setOn ho hk (fun hz=>?_)
      have:=(hi (k / 32) (by omega) hz).2 k (by omega) (by omega)
      omega
    · rw[show useP p f=0 from if_neg hf] at c
      omega
  · exact hi
theorem pool_online (gS:Nat) (K:Nat→Prop) (p:PS) (s z:Int) (v:Value) (bs:List Int) (w:World) (h:PoolMem w gS K p) (hv:Its w w.heap.size v bs) (ho:Off K v) :
    Calls Tryz.prog 32 #[.pointer (some ⟨gS,0,none⟩),.int .i64 s,.int .i64 z,v] w (PoolPost w gS K (.int .i64 (((onP p s z bs).1:Nat):Int)) (onP p s z bs).2):=by
  obtain⟨e1,e2,e3⟩:=id h
  subst e1
  refine (pool_online_at gS p s z v bs w e2 e3 hv ho).mono ?_
  rintro e w' ⟨h0,h1,h2⟩
  exact h.post h0 h1 h2 (on_inv e2.ok e3 s z bs)
theorem pool_alloc (gS:Nat) (K:Nat→Prop) (p:PS) (use o:Int) (m:Bool) (w:World) (h:PoolMem w gS K p) :
    Calls Tryz.prog 74 #[.pointer (some ⟨gS,0,none⟩),.int .i64 use,.int .i64 o,.bool m] w fun e w'=>∃ (f er:Nat) (p':PS),AllocIs p use o m f er p'∧PoolPost w gS K (.tuple #[.int .i64 (f:Int),.int .i64 (er:Int)]) p' e w':=by
  obtain⟨e1,e2,e3⟩:=id h
  refine (pool_alloc_at gS p use o m w e2).mono ?_
  rintro e w' ⟨f,er,p',hal,h0,h1,h2⟩
  exact⟨f,er,p',hal,h.post h0 h1 h2 (alloc_inv e2.ok e3 hal)⟩
theorem pool_free (gS:Nat) (K:Nat→Prop) (p:PS) (f:Int) (w:World) (h:PoolMem w gS K p) :
    Calls Tryz.prog 76 #[.pointer (some ⟨gS,0,none⟩),.int .i64 f] w (PoolPost w gS K (.bool (freeP p f).1) (freeP p f).2):=by
  obtain⟨e1,e2,e3⟩:=id h
  refine (pool_free_at gS p f w e2).mono ?_
  rintro e w' ⟨h0,h1,h2⟩
  exact h.post h0 h1 h2 (free_inv e2.ok e3 f)
theorem pool_use (gS:Nat) (K:Nat→Prop) (p:PS) (f:Int) (w:World) (h:PoolMem w gS K p) :
    Calls Tryz.prog 17 #[.pointer (some ⟨gS,0,none⟩),.int .i64 f] w fun e w'=>e=.returned (.int .i64 ((useP p f:Nat):Int))∧Below w.heap.size w w':=by
  refine (pool_use_at gS p f w h.2.1).mono ?_
  rintro e w' ⟨h0,rfl⟩
  exact⟨h0,Below.refl _ _⟩
end Go.Proofs.YtaonpmclkafjdaaGreat

/-
  The contracts of area's around and joined, and of the library's Concat and Grow at lists of areas.
  Conditions: those that each line bears.
-/
import Derived.Test.YtaonpmclkafjdaaGreatQz40
import Derived.Lib.AppendZerosOnto
set_option linter.unusedSimpArgs false
set_option linter.unusedSectionVars false
set_option linter.unusedVariables false
namespace Go.Proofs.YtaonpmclkafjdaaGreat
open Go Go.RowKit
set_option linter.unusedVariables false
set_option maxRecDepth 20000
set_option maxHeartbeats 1000000 in
theorem around_any (v:Value) (l:List Ar) (f p:Int) (w:World) (h:Ars w w.heap.size v l) (hl:∀ a∈l,soundA a) (hn:l.length≤4096) (hf:0≤f∧f≤4096) (hp:0≤p∧p≤4096 - f) :
    Calls Tryz.prog 140 #[v,.int .i64 f,.int .i64 p] w fun e w'=>∃ v1 v2,e=.returned (.tuple #[v1,v2])∧OwnA w' w.heap.size v1 (inA l 0 f)∧OwnA w' w.heap.size v2 (inA l (f+p) (4096 - (f+p)))∧Below w.heap.size w w':=by
  obtain⟨A,n,c,rfl,-⟩:=id h
  have HX:=Lib.hid h
  have C1:=Lib.hid (part_any _ l 0 f w h hl hn (by omega) (by omega))
  have HL:=Lib.hid hl
  have HN:=Lib.hid hn
  clear h hl hn
  go_enter Tryz.func140,Tryz.ntmps140
  go_wp2_with fail
  refine C1.out.mono ?_
  rintro e w1 ⟨v1,rfl,ho1,hb1⟩
  have O1:=Lib.hid ho1
  have B1:=Lib.hid hb1
  have C2:=Lib.hid (part_any _ l (f+p) (4096 - (f+p)) w1 (HX.out.fresh hb1) HL.out HN.out (by omega) (by omega))
  clear ho1 hb1
  go_wp2_with fail
  refine C2.out.mono ?_
  rintro e w2 ⟨v2,rfl,ho2,hb2⟩
  have O2:=Lib.hid ho2
  have B2:=Lib.hid hb2
  clear ho2 hb2
  go_wp2_with fail
  go_ret2
  exact⟨_,_,rfl,own_freshA O1.out B2.out,own_base O2.out B1.out.size,B1.out.trans (B2.out.mono B1.out.size)⟩
set_option maxHeartbeats 1000000 in
theorem grow_any (n:Nat) (hn:n≤1000000) (w:World) :
    Calls Tryz.prog 204 #[.slice none 0 0,.int .i64 (n:Int)] w fun e w'=>∃ v',e=.returned v'∧OwnA w' w.heap.size v' []∧Below w.heap.size w w':=by
  by_cases h0:n=0
  · subst h0
    go_enter Tryz.func204,Tryz.ntmps204
    go_wp2
    go_ret
    exact⟨_,rfl,World.ownsRow_nil _ _ _ _,Below.refl _ _⟩
  · have t1:decide ((n:Int) < 0)=false:=decide_eq_false (by omega)
    have t2:decide (0 < (n:Int))=true:=decide_eq_true (by omega)
    obtain⟨iA,hiA,hia0,hia1,hia2⟩:=info_parts Tryz.infoArP
    have HR:=Lib.hid (Lib.run_append_nil_zeros (P:=Tryz.prog) w 91 3 91 77 iA _ .i64 .i64 Tryz.underlying91 Tryz.underlying3 hiA hia0 n (by omega) (by rw[hia1];omega) (by omega) (by rw[hia2];omega))
    clear hiA hia0 hia1 hia2
    go_enter Tryz.func204,Tryz.ntmps204
    go_wp2_with (refine Lib.wpList_append_run _ rfl (.tmp 20) (.tmp 21) 91 3 rfl (.slice none 0 0) (.int .i64 (n:Int)) rfl rfl _ _ HR.out ?_)
    go_ret
    refine⟨_,rfl,⟨rfl,.inr ⟨w.heap.size,grownCap w n 0 77,_,rfl,Nat.le_refl _,heap_alloc_new w _,Nat.zero_le _,grownCap_le_maxLen w n 0 _ (by unfold maxLen;omega),?_,rfl⟩⟩,(belAr (Below.refl _ w) _).drew⟩
    have hge:=grownCap_ge w n 0 77
    simp[Builtin.zeroCells,arL]
    omega
theorem rd_fresh {w w':World}{size n:Nat}{v:Value}{xs:List Value}(h:Rd w size v n xs)(hb:Below w.heap.size w w'):Rd w' size v n xs:=by
  obtain⟨A,c,e,h1,h2,h3⟩:=h
  refine⟨A,c,e,h1,h2,fun h0=>?_⟩
  obtain⟨b,o,e1,h4⟩:=h3 h0
  exact⟨b,o,e1,fun j u hj=>(hb.cell (World.block_lt_of_cell? w _ (h4 j u hj))).trans (h4 j u hj)⟩
def RowsA (w:World)(g:Nat)(vs:List Value)(ls:List (List Ar)):Prop :=
  vs.length=ls.length∧∀ k v l,vs[k]?=some v→ls[k]?=some l→w.cell? ⟨g,k,none⟩=some v∧Rd w 6 v l.length (flatA l)∧l.length≤8192
theorem RowsA.fresh {w w':World}{g:Nat}{vs:List Value}{ls:List (List Ar)}(h:RowsA w g vs ls)(hb:Below w.heap.size w w'):RowsA w' g vs ls :=
  ⟨h.1,fun k v l h1 h2=>by
    obtain⟨k1,k2,k3⟩:=h.2 k v l h1 h2
    exact⟨(hb.cell (World.block_lt_of_cell? w _ k1)).trans k1,rd_fresh k2 hb,k3⟩⟩
theorem flatten_take {ls:List (List Ar)}{k:Nat}{l:List Ar}(h:ls[k]?=some l):(ls.take (k+1)).flatten=(ls.take k).flatten ++ l:=by
  rw[List.take_add_one,h]
  simp
theorem flatten_len {w:World}{g:Nat}{vs:List Value}{ls:List (List Ar)}(h:RowsA w g vs ls)(k:Nat):(ls.take k).flatten.length≤k * 8192:=by
  induction k with
  | zero=>simp
  | succ k ih =>
    by_cases hk:k < ls.length
    · obtain⟨l,hl⟩:∃ l,ls[k]?=some l:=⟨_,List.getElem?_eq_getElem hk⟩
      obtain⟨v,hv⟩:∃ v,vs[k]?=some v:=⟨_,List.getElem?_eq_getElem (by rw[h.1];exact hk)⟩
      have:=(h.2 k v l hv hl).2.2
      rw[flatten_take hl,List.length_append]
      omega
    · rw[List.take_of_length_le (by omega)] at ih ⊢
      omega
set_option maxHeartbeats 2000000 in
theorem concat_any (g n:Nat) (vs:List Value) (ls:List (List Ar)) (w:World) (h:RowsA w g vs ls) (hn:ls.length=n) (h8:n≤8) :
    Calls Tryz.prog 179 #[.slice (some ⟨g,0,none⟩) n n] w fun e w'=>∃ v',e=.returned v'∧OwnA w' w.heap.size v' ls.flatten∧Below w.heap.size w w':=by
  obtain⟨iA,hiA,hia0,hia1,hia2⟩:=info_parts Tryz.infoArP
  have HIA:=Lib.hid hiA
  have HA0:=Lib.hid hia0
  have HA1:=Lib.hid hia1
  have HA2:=Lib.hid hia2
  have HR:=Lib.hid h
  have HN:=Lib.hid hn
  clear h hiA hia0 hia1 hia2 hn
  go_enter Tryz.func179,Tryz.ntmps179
  go_wp2_with fail
  go_loopg [3,5,11] n (fun gg s3 _ s11 wr=>∃ k:Nat,k+gg=n∧s11=.int .i64 (k:Int)∧s3=.int .i64 (((ls.take k).flatten.length:Nat):Int)∧w=wr)
  case atStart=>exact⟨0,by omega,rfl,rfl,rfl⟩
  case round =>
    obtain⟨k,hkg,rfl,rfl,rfl⟩:=hrel
    by_cases hlt:k < n
    · have t4:decide ((k:Int) < (n:Int))=true:=decide_eq_true (by omega)
      have t5:(k:Int) < (n:Int):=by omega
      have t6:(0:Int)≤(k:Int):=by omega
      obtain⟨l,hl⟩:∃ l,ls[k]?=some l:=⟨_,List.getElem?_eq_getElem (by rw[HN.out];exact hlt)⟩
      obtain⟨v,hv⟩:∃ v,vs[k]?=some v:=⟨_,List.getElem?_eq_getElem (by rw[HR.out.1,HN.out];exact hlt)⟩
      obtain⟨hc,⟨A,c,rfl,-⟩,hl8⟩:=HR.out.2 k v l hv hl
      have hlen:=flatten_len HR.out k
      obtain⟨s,hs⟩:∃ s,s=(ls.take k).flatten.length:=⟨_,rfl⟩
      obtain⟨m,hm⟩:∃ m,m=l.length:=⟨_,rfl⟩
      have HS:=Lib.hid (show (ls.take (k+1)).flatten.length=s+m from by rw[flatten_take hl,List.length_append,hs,hm])
      rw[← hs] at hlen ⊢
      rw[← hm] at hl8 hc
      clear hs hm hl hv
      have t7:decide ((s:Int)+(m:Int) < 0)=false:=decide_eq_false (by omega)
      go_wp2_with fail
      go_roundg (n - (k+1))
      case measure=>omega
      case rel=>exact⟨k+1,by omega,by go_num,by rw[HS.out];go_num,rfl⟩
    · obtain rfl:k=n:=by omega
      have t4:decide ((k:Int) < (k:Int))=false:=decide_eq_false (by omega)
      have hlen:=flatten_len HR.out k
      have HF:=Lib.hid (show ls.take k=ls from List.take_of_length_le (by rw[HN.out];exact Nat.le_refl _))
      rw[HF.out] at hlen ⊢
      obtain⟨s,hs⟩:∃ s,s=ls.flatten.length:=⟨_,rfl⟩
      rw[← hs] at hlen ⊢
      have HS:=Lib.hid hs
      clear hs
      go_wp2_with fail
      refine (grow_any _ (by omega) _).mono ?_
      rintro e w1 ⟨v1,rfl,ho1,hb1⟩
      have O1:=Lib.hid ho1
      have B1:=Lib.hid hb1
      have HR1:=Lib.hid (HR.out.fresh hb1)
      clear ho1 hb1
      go_wp2_with fail
      go_loopg [6,8,27] k (fun gg s6 _ s27 wr=>∃ j:Nat,j+gg=k∧s27=.int .i64 (j:Int)∧OwnA wr w.heap.size s6 (ls.take j).flatten∧Below w.heap.size w wr)
      case atStart=>exact⟨0,by omega,rfl,O1.out,B1.out⟩
      case round =>
        obtain⟨j,hjg,rfl,ho,hb⟩:=hrel
        have O:=Lib.hid ho
        have B:=Lib.hid hb
        have HR2:=Lib.hid (HR.out.fresh hb)
        clear ho hb t4
        by_cases hlt:j < k
        · have t4:decide ((j:Int) < (k:Int))=true:=decide_eq_true (by omega)
          have t5:(j:Int) < (k:Int):=by omega
          have t6:(0:Int)≤(j:Int):=by omega
          obtain⟨l,hl⟩:∃ l,ls[j]?=some l:=⟨_,List.getElem?_eq_getElem (by rw[HN.out];exact hlt)⟩
          obtain⟨v,hv⟩:∃ v,vs[j]?=some v:=⟨_,List.getElem?_eq_getElem (by rw[HR.out.1,HN.out];exact hlt)⟩
          obtain⟨hc,hrd,hl8⟩:=HR2.out.2 j v l hv hl
          have RD:=Lib.hid hrd
          obtain⟨A,c,rfl,-⟩:=hrd
          have hlen:=flatten_len HR.out j
          have HQ1:=Lib.hid (show (ls.take j).flatten.length+l.length≤maxLen from by unfold maxLen;omega)
          have HQ2:=Lib.hid (show ((ls.take j).flatten.length+l.length) * 48≤140737488355328 from by omega)
          have HT:=Lib.hid (show (ls.take (j+1)).flatten=(ls.take j).flatten ++ l from flatten_take hl)
          obtain⟨m,hm⟩:∃ m,m=l.length:=⟨_,rfl⟩
          have HM:=Lib.hid hm
          rw[← hm] at RD HQ1 HQ2 hc
          clear hl hv hlen hl8 hm
          go_wp2_with (refine wpList_app rfl (.tmp 31) (.tmp 32) 91 rfl w.heap.size 77 iA (.agg (arL ar0).toArray) 6 48 Tryz.underlying91 HIA.out HA0.out HA1.out HA2.out rfl (by decide) _ _ _ rfl O.out _ _ _ rfl RD.out HQ1.out HQ2.out B.out.size ?_;intro v5 w5 ho5 hg5;have O5:=Lib.hid ho5;have B5:=Lib.hid (show Below w.heap.size w w5 from B.out.grown hg5 B.out.size (fun k hk=>(O.out.lt k hk).1));clear ho5 hg5)
          go_roundg (k - (j+1))
          case measure=>omega
          case rel =>
            refine⟨j+1,by omega,by go_num,?_,B5.out⟩
            have h:=O5.out
            rw[← flatA_append] at h
            unfold OwnA
            rw[HT.out,List.length_append,← HM.out]
            exact h
        · obtain rfl:j=k:=by omega
          have t4:decide ((j:Int) < (j:Int))=false:=decide_eq_false (by omega)
          rw[HF.out] at O
          go_wp2_with fail
          go_ret
          exact⟨_,rfl,O.out,B.out⟩
end Go.Proofs.YtaonpmclkafjdaaGreat

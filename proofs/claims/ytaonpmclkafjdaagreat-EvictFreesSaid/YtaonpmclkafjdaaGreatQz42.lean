/-
  The contracts of area's joined, and of the library's IndexFunc and ContainsFunc at lists of areas.
  Conditions: those that each line bears.
-/
import Derived.Test.YtaonpmclkafjdaaGreatQz41
import Derived.Shelf.Abstract
set_option linter.unusedSimpArgs false
set_option linter.unusedSectionVars false
set_option linter.unusedVariables false
namespace Go.Proofs.YtaonpmclkafjdaaGreat
open Go Go.RowKit
set_option linter.unusedVariables false
set_option maxRecDepth 20000
def joinE (l:List Ar):Int:=if 16 < l.length then 4 else 0
def joinL (l:List Ar):List Ar:=if 16 < l.length then [] else l
set_option maxHeartbeats 1000000 in
theorem joined_any (g n:Nat) (vs:List Value) (ls:List (List Ar)) (w:World) (h:RowsA w g vs ls) (hn:ls.length=n) (h8:n≤8) :
    Calls Tryz.prog 141 #[.slice (some ⟨g,0,none⟩) n n] w fun e w'=>∃ v',e=.returned (.tuple #[v',.int .i64 (joinE ls.flatten)])∧OwnA w' w.heap.size v' (joinL ls.flatten)∧Below w.heap.size w w':=by
  have CC:=Lib.hid (concat_any g n vs ls w h hn h8)
  obtain⟨L,hL⟩:∃ L,L=ls.flatten:=⟨_,rfl⟩
  have hlen:=flatten_len h n
  rw[List.take_of_length_le (by omega)] at hlen
  rw[← hL] at CC hlen ⊢
  clear hL h hn
  go_enter Tryz.func141,Tryz.ntmps141
  go_wp2_with fail
  refine CC.out.mono ?_
  rintro e w1 ⟨v1,rfl,ho1,hb1⟩
  have O1:=Lib.hid ho1
  have B1:=Lib.hid hb1
  obtain⟨A,c,rfl,-⟩:=Rd.of_own ho1 (flatA_one _)
  obtain⟨s,hs⟩:∃ s,s=L.length:=⟨_,rfl⟩
  rw[← hs] at hlen
  rw[← hs] at O1 ⊢
  by_cases c1:16 < s
  · have d1:decide (16 < (s:Int))=true:=decide_eq_true (by omega)
    have d2:(16:Int) < (s:Int):=by omega
    have J1:=Lib.hid (show joinE L=4 by unfold joinE;rw[if_pos (by omega)])
    have J2:=Lib.hid (show joinL L=[] by unfold joinL;rw[if_pos (by omega)])
    clear ho1 hb1 hs c1
    go_wp2_with fail
    go_ret2
    refine⟨_,by rw[J1.out];rfl,?_,B1.out⟩
    rw[J2.out]
    exact World.ownsRow_nil _ _ _ _
  · have d1:decide (16 < (s:Int))=false:=decide_eq_false (by omega)
    have d2:¬ (16:Int) < (s:Int):=by omega
    have J1:=Lib.hid (show joinE L=0 by unfold joinE;rw[if_neg (by omega)])
    have J2:=Lib.hid (show joinL L=L by unfold joinL;rw[if_neg (by omega)])
    have O2:=Lib.hid ho1
    clear ho1 hb1 c1
    go_wp2_with fail
    go_ret2
    refine⟨_,by rw[J1.out];rfl,?_,B1.out⟩
    rw[J2.out]
    have h:=O2.out
    unfold OwnA at h ⊢
    rw[← hs] at h ⊢
    exact h
set_option maxHeartbeats 2000000 in
theorem indexA_any (b1 b2:Nat) (f p:Int) (v:Value) (l:List Ar) (w:World) (h:Ars w w.heap.size v l) (hl:∀ a∈l,soundA a) (hf:0≤f∧f≤8192) (hp:0≤p∧p≤8192)
    (l1:b1 < w.heap.size) (l2:b2 < w.heap.size) (c1:w.cell? ⟨b1,0,none⟩=some (.int .i64 f)) (c2:w.cell? ⟨b2,0,none⟩=some (.int .i64 p)) :
    Calls Tryz.prog 176 #[v,.func (.func 177) #[] #[.pointer (some ⟨b1,0,none⟩),.pointer (some ⟨b2,0,none⟩)]] w fun e w' =>
      ∃ r:Int,e=.returned (.int .i64 r)∧Below w.heap.size w w'∧((r = -1∧∀ x∈l,meetA f p x=false)∨∃ k:Nat,∃ a,r=(k:Int)∧l[k]?=some a∧(∀ j x,j < k→l[j]?=some x→meetA f p x=false)∧meetA f p a=true):=by
  obtain⟨A,n,c,rfl,hln,hlc,hm,-⟩:=id h
  have HX:=Lib.hid h
  have HL:=Lib.hid hl
  have HN:=Lib.hid hln
  have HM:=Lib.hid (⟨l1,l2,c1,c2⟩:b1 < w.heap.size∧b2 < w.heap.size∧w.cell? ⟨b1,0,none⟩=some (.int .i64 f)∧w.cell? ⟨b2,0,none⟩=some (.int .i64 p))
  unfold maxLen at hm
  clear h hl l1 l2 c1 c2
  clear hln
  go_enter Tryz.func176,Tryz.ntmps176
  go_wp2_with fail
  go_loopg [5,8] n (fun gg _ s8 wr=>∃ k:Nat,k+gg=n∧s8=.int .i64 (k:Int)∧Below w.heap.size w wr∧∀ j x,j < k→l[j]?=some x→meetA f p x=false)
  case atStart=>exact⟨0,by omega,rfl,Below.refl _ _,fun j x h=>absurd h (Nat.not_lt_zero _)⟩
  case round =>
    obtain⟨k,hkg,rfl,hbr,hno⟩:=hrel
    have BR:=Lib.hid hbr
    have NO:=Lib.hid hno
    have XR:=Lib.hid (HX.out.fresh hbr)
    clear hbr hno
    by_cases hlt:k < n
    · have t4:decide ((k:Int) < (n:Int))=true:=decide_eq_true (by omega)
      have t5:(k:Int) < (n:Int):=by omega
      have t6:(0:Int)≤(k:Int):=by omega
      obtain⟨b,o,rfl,hbl,hat⟩:=XR.out.at_ (by omega)
      obtain⟨⟨fr,pg,w0,kd,fl,ofs⟩,hget,a0,a1,a2,a3,a4,a5⟩:=hat k hlt
      simp only at a0 a1 a2 a3 a4 a5
      have hso:=HL.out _ (List.mem_of_getElem? hget)
      have hR:0≤fr∧fr≤4095∧1≤pg∧pg≤4096:=by unfold soundA at hso;simp only at hso;omega
      obtain⟨r1,r2,r3,r4⟩:=hR
      have CM:=Lib.hid (meetc_any f p ⟨fr,pg,w0,kd,fl,ofs⟩ wr b1 b2 ⟨by omega,by omega⟩ ⟨by omega,by omega⟩ ⟨by simp only;omega,by simp only;omega,by simp only;omega,by simp only;omega⟩
        (Nat.lt_of_lt_of_le HM.out.1 BR.out.size) (Nat.lt_of_lt_of_le HM.out.2.1 BR.out.size)
        ((BR.out.cell HM.out.1).trans HM.out.2.2.1) ((BR.out.cell HM.out.2.1).trans HM.out.2.2.2))
      have HG:=Lib.hid hget
      clear hget hat hso hbl
      cases hq:meetA f p ⟨fr,pg,w0,kd,fl,ofs⟩ with
      | true =>
        have HQ:=Lib.hid hq
        rw[hq] at CM
        clear hq
        go_wp2_with fail
        refine CM.out.mono ?_
        rintro e w2 ⟨rfl,hb2⟩
        have B2:=Lib.hid (BR.out.trans (hb2.mono BR.out.size))
        clear hb2
        go_wp2_with fail
        go_ret
        exact⟨_,rfl,B2.out,.inr ⟨k,_,rfl,HG.out,NO.out,HQ.out⟩⟩
      | false =>
        have HQ:=Lib.hid hq
        rw[hq] at CM
        clear hq
        go_wp2_with fail
        refine CM.out.mono ?_
        rintro e w2 ⟨rfl,hb2⟩
        have B2:=Lib.hid (BR.out.trans (hb2.mono BR.out.size))
        clear hb2
        go_wp2_with fail
        go_roundg (n - (k+1))
        case measure=>omega
        case rel =>
          refine⟨k+1,by omega,by go_num,B2.out,fun j x hj hx=>?_⟩
          by_cases cj:j=k
          · subst cj
            have:=HG.out
            rw[hx] at this
            rw[Option.some.inj this]
            exact HQ.out
          · exact NO.out j x (by omega) hx
    · obtain rfl:k=n:=by omega
      have t4:decide ((k:Int) < (k:Int))=false:=decide_eq_false (by omega)
      go_wp2_with fail
      go_ret
      refine⟨-1,rfl,BR.out,.inl ⟨rfl,fun x hx=>?_⟩⟩
      obtain⟨j,hj,rfl⟩:=List.getElem_of_mem hx
      exact NO.out j _ (by rw[← HN.out];exact hj) (List.getElem?_eq_getElem hj)
set_option maxHeartbeats 1000000 in
theorem contains_any (b1 b2:Nat) (f p:Int) (v:Value) (l:List Ar) (w:World) (h:Ars w w.heap.size v l) (hl:∀ a∈l,soundA a) (hf:0≤f∧f≤8192) (hp:0≤p∧p≤8192)
    (l1:b1 < w.heap.size) (l2:b2 < w.heap.size) (c1:w.cell? ⟨b1,0,none⟩=some (.int .i64 f)) (c2:w.cell? ⟨b2,0,none⟩=some (.int .i64 p)) :
    Calls Tryz.prog 138 #[v,.func (.func 177) #[] #[.pointer (some ⟨b1,0,none⟩),.pointer (some ⟨b2,0,none⟩)]] w fun e w' =>
      e=.returned (.bool (decide (inA l f p≠[])))∧Below w.heap.size w w':=by
  have CI:=Lib.hid (indexA_any b1 b2 f p v l w h hl hf hp l1 l2 c1 c2)
  obtain⟨A,n,c,rfl,-⟩:=id h
  clear h hl l1 l2 c1 c2
  go_enter Tryz.func138,Tryz.ntmps138
  go_wp2_with fail
  refine CI.out.mono ?_
  rintro e w1 ⟨r,rfl,hb,hr⟩
  have B1:=Lib.hid hb
  rcases hr with ⟨rfl,hno⟩ | ⟨k,a,rfl,hk,-,ha⟩
  · have HD:=Lib.hid (show decide (inA l f p≠[])=false from decide_eq_false fun h=>by
      obtain⟨x,hx,h2⟩:=(meet_any l f p).2 h
      rw[hno x hx] at h2
      cases h2)
    clear hno hb
    go_wp2_with fail
    go_ret
    exact⟨by rw[HD.out];rfl,B1.out⟩
  · have HD:=Lib.hid (show decide (inA l f p≠[])=true from decide_eq_true ((meet_any l f p).1 ⟨a,List.mem_of_getElem? hk,ha⟩))
    have t1:decide ((0:Int)≤(k:Int))=true:=decide_eq_true (by omega)
    clear hk ha hb
    go_wp2_with fail
    go_ret
    exact⟨by rw[HD.out];rfl,B1.out⟩
end Go.Proofs.YtaonpmclkafjdaaGreat

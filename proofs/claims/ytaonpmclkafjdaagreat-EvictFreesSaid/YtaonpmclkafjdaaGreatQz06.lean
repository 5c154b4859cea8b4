/-
  A pool in memory, cell by cell; what holds of every pool that its calls have made; the frames of a section that have a use, as a list; what may be given, as a list of yes and no.
  Conditions: those that each line bears.
-/
import Derived.Test.YtaonpmclkafjdaaGreatQz00
import Derived.Test.YtaonpmclkafjdaaGreatProg
set_option linter.unusedSimpArgs false
set_option linter.unusedSectionVars false
set_option linter.unusedVariables false
namespace Go.Proofs.YtaonpmclkafjdaaGreat
open Go.RowKit
set_option linter.unusedVariables false
def PInv (p:PS):Prop:=∀ s,s < 32→p.z.getD s 0=0→p.i.getD s false=false∧∀ f,32 * s≤f→f < 32 * s+32→p.u.getD f 0=0∨p.u.getD f 0=6
theorem ps0_u (f:Nat):ps0.u.getD f 0=0:=by
  unfold ps0
  show (List.replicate 1024 0).getD f 0=0
  rw[List.getD_eq_getElem?_getD,List.getElem?_replicate]
  split <;> rfl
theorem ps0_z (f:Nat):ps0.z.getD f 0=0:=by
  unfold ps0
  show (List.replicate 32 0).getD f 0=0
  rw[List.getD_eq_getElem?_getD,List.getElem?_replicate]
  split <;> rfl
theorem ps0_i (f:Nat):ps0.i.getD f false=false:=by
  unfold ps0
  show (List.replicate 32 false).getD f false=false
  rw[List.getD_eq_getElem?_getD,List.getElem?_replicate]
  split <;> rfl
theorem PInv.ps0_:PInv ps0:=fun s _ _=>⟨ps0_i s,fun f _ _=>.inl (ps0_u f)⟩
theorem PInv.setOn {p:PS}(h:PInv p)(ho:PsOk p){f v:Nat}(hf:f < 1024)(hv:p.z.getD (f / 32) 0≠0):PInv ⟨p.u.set f v,p.z,p.i⟩:=by
  intro s hs hz
  refine⟨(h s hs hz).1,fun g g1 g2=>?_⟩
  show (p.u.set f v).getD g 0=0∨_
  rw[getD_set_ne _ _ _ _ _ (fun e=>hv (by rw[← e,show g / 32=s by omega];exact hz))]
  exact (h s hs hz).2 g g1 g2
theorem PInv.sect {p q:PS} {s:Nat} (h:PInv p) (hz:∀ t,t≠s→q.z.getD t 0=p.z.getD t 0) (hi:∀ t,t≠s→q.i.getD t false=p.i.getD t false) (hu:∀ f,f < 1024→¬ (32 * s≤f∧f < 32 * s+32)→q.u.getD f 0=p.u.getD f 0)
    (hs:q.z.getD s 0=0→q.i.getD s false=false∧∀ f,32 * s≤f→f < 32 * s+32→q.u.getD f 0=0∨q.u.getD f 0=6):PInv q:=by
  intro t ht hzt
  by_cases e:t=s
  · subst e;exact hs hzt
  · rw[hz t e] at hzt
    refine⟨by rw[hi t e];exact (h t ht hzt).1,fun f f1 f2=>?_⟩
    rw[hu f (by omega) (by omega)]
    exact (h t ht hzt).2 f f1 f2
def giveU (u:List Nat)(x:Nat)(fs:List Int):List Nat:=fs.foldl (fun u f=>u.set f.toNat x) u
theorem giveU_length (x:Nat)(fs:List Int):∀ u,(giveU u x fs).length=u.length:=by
  induction fs with
  | nil=>intro u;rfl
  | cons f fs ih=>intro u;show (giveU (u.set f.toNat x) x fs).length=_;rw[ih];simp
theorem giveU_snoc (u:List Nat)(x:Nat)(fs:List Int)(f:Int):giveU u x (fs ++ [f])=(giveU u x fs).set f.toNat x:=by
  unfold giveU
  rw[List.foldl_append]
  rfl
theorem giveU_take {u:List Nat}{x:Nat}{fs:List Int}{i:Nat}{y:Int}(hi:i < fs.length)(hy:y=fs.getD i 0):giveU u x (fs.take (i+1))=(giveU u x (fs.take i)).set y.toNat x:=by
  have e2:fs.take (i+1)=fs.take i ++ [fs[i]]:=by rw[List.take_add_one,List.getElem?_eq_getElem hi];rfl
  have e:y=fs[i]:=by rw[hy];simp[hi]
  rw[e2,giveU_snoc,e]
theorem giveU_getD (x:Nat)(fs:List Int):∀ (u:List Nat) (g:Nat),(∀ f∈fs,0≤f)→g < u.length→(giveU u x fs).getD g 0=if (g:Int)∈fs then x else u.getD g 0:=by
  induction fs with
  | nil=>intro u g _ _;simp[giveU]
  | cons f fs ih =>
    intro u g h0 hg
    show (giveU (u.set f.toNat x) x fs).getD g 0=_
    rw[ih _ g (fun f hf=>h0 f (List.mem_cons_of_mem _ hf)) (by simpa using hg)]
    have hf:=h0 f List.mem_cons_self
    by_cases c:(g:Int)∈fs
    · rw[if_pos c,if_pos (List.mem_cons_of_mem _ c)]
    · rw[if_neg c]
      by_cases e:g=f.toNat
      · subst e
        rw[getD_set_same _ _ _ _ hg,if_pos (by rw[Int.toNat_of_nonneg hf];exact List.mem_cons_self)]
      · rw[getD_set_ne _ _ _ _ _ e,if_neg]
        intro hm
        rcases List.mem_cons.1 hm with hm | hm
        · omega
        · exact c hm
def ofZ (u:List Nat)(v:Int)(a n:Nat):List Int:=((List.range n).filter (fun j=>decide (((u.getD (a+j) 0:Nat):Int)=v))).map (fun j=>((a+j:Nat):Int))
theorem ofZ_length (u:List Nat)(v:Int)(a n:Nat):(ofZ u v a n).length=cntU u v a n:=by unfold ofZ cntU;rw[List.length_map]
theorem ofZ_le (u:List Nat)(v:Int)(a n:Nat):(ofZ u v a n).length≤n:=by rw[ofZ_length];exact cntU_le u v a n
theorem ofZ_succ (u:List Nat)(v:Int)(a n:Nat):ofZ u v a (n+1)=ofZ u v a n ++ if ((u.getD (a+n) 0:Nat):Int)=v then [((a+n:Nat):Int)] else []:=by
  unfold ofZ
  rw[List.range_succ,List.filter_append,List.map_append]
  by_cases h:((u.getD (a+n) 0:Nat):Int)=v
  · rw[if_pos h];simp only[List.filter_cons,h];simp
  · rw[if_neg h];simp only[List.filter_cons,h];simp
theorem mem_ofZ {u:List Nat}{v:Int}{a n:Nat}{f:Nat}:(f:Int)∈ofZ u v a n↔(a≤f∧f < a+n)∧((u.getD f 0:Nat):Int)=v:=by
  unfold ofZ
  rw[List.mem_map]
  constructor
  · rintro⟨j,hj,e⟩
    rw[List.mem_filter,List.mem_range] at hj
    have hf:f=a+j:=by omega
    subst hf
    exact⟨⟨by omega,by omega⟩,of_decide_eq_true hj.2⟩
  · rintro⟨⟨h1,h2⟩,h3⟩
    refine⟨f - a,?_,by omega⟩
    rw[List.mem_filter,List.mem_range]
    exact⟨by omega,by rw[show a+(f - a)=f by omega];exact decide_eq_true h3⟩
theorem ofZ_span {u:List Nat}{v:Int}{a n:Nat}:∀ f∈ofZ u v a n,(a:Int)≤f∧f < (a:Int)+n:=by
  intro f hf
  unfold ofZ at hf
  obtain⟨j,hj,rfl⟩:=List.mem_map.1 hf
  rw[List.mem_filter,List.mem_range] at hj
  omega
def ofP (p:PS)(s v:Int):List Int:=if 0≤s∧s < 32 then ofZ p.u v (32 * s.toNat) 32 else []
theorem ofP_in (p:PS){s:Nat}(h:s < 32)(v:Int):ofP p (s:Int) v=ofZ p.u v (32 * s) 32:=by unfold ofP;rw[if_pos ⟨by omega,by omega⟩,Int.toNat_natCast]
theorem on_give {p:PS} (ho:PsOk p) (hi:PInv p) {s:Nat} (hs:s < 32) (hz:p.z.getD s 0=0) (bs:List Int) :
    giveU (badU s p.u bs) 1 (ofZ (badU s p.u bs) 0 (32 * s) 32)=badU s (spanU freshG p.u (32 * s) (32 * s+32)) bs∧p.i.set s false=p.i:=by
  constructor
  · refine listN_ext (by rw[giveU_length,badU_length,badU_length,spanU_length]) fun f hf=>?_
    rw[giveU_length,badU_length] at hf
    have L:=giveU_getD 1 (ofZ (badU s p.u bs) 0 (32 * s) 32) (badU s p.u bs) f (fun g hg=>by have:=ofZ_span g hg;omega) (by rw[badU_length];exact hf)
    have B:=badU_getD s bs p.u f hf
    have R:=badU_getD s bs (spanU freshG p.u (32 * s) (32 * s+32)) f (by rw[spanU_length];exact hf)
    rw[spanU_getD _ _ _ _ _ hf] at R
    have M:(f:Int)∈ofZ (badU s p.u bs) 0 (32 * s) 32↔(32 * s≤f∧f < 32 * s+32)∧(((badU s p.u bs).getD f 0:Nat):Int)=0:=mem_ofZ
    rw[L,R]
    by_cases c:32 * s≤f∧f < 32 * s+32
    · have h06:=(hi s hs hz).2 f c.1 c.2
      rw[if_pos c]
      by_cases m:(f:Int)∈bs
      · rw[if_pos (show (32 * s≤f∧f < 32 * s+32)∧(f:Int)∈bs from ⟨c,m⟩)] at B ⊢
        rw[if_neg (fun hm=>by have:=(M.1 hm).2;omega),B]
      · rw[if_neg (show ¬ ((32 * s≤f∧f < 32 * s+32)∧(f:Int)∈bs) from fun h=>m h.2)] at B ⊢
        rcases h06 with h | h
        · rw[if_pos (M.2 ⟨c,by omega⟩),h];rfl
        · rw[if_neg (fun hm=>by have:=(M.1 hm).2;omega),B,h];rfl
    · rw[if_neg c]
      rw[if_neg (show ¬ ((32 * s≤f∧f < 32 * s+32)∧(f:Int)∈bs) from fun h=>c h.1)] at B ⊢
      rw[if_neg (fun hm=>c (M.1 hm).1),B]
  · refine List.ext_getElem (by simp) fun f h1 h2=>?_
    have h0:=(hi s hs hz).1
    by_cases e:f=s
    · subst e
      rw[List.getElem_set_self]
      simpa [h2] using h0.symm
    · rw[List.getElem_set_ne (fun h=>e h.symm)]
theorem on_inv {p:PS}(ho:PsOk p)(hi:PInv p)(s z:Int)(bs:List Int):PInv (onP p s z bs).2:=by
  unfold onP
  split
  · exact hi
  · rename_i c
    split
    · exact hi
    · obtain⟨k,rfl⟩:=Int.eq_ofNat_of_zero_le (show 0≤s from by omega)
      rw[Int.toNat_natCast]
      refine hi.sect (s:=k) (fun t ht=>getD_set_ne _ _ _ _ _ ht) (fun t ht=>getD_set_ne _ _ _ _ _ ht) (fun f hf hn=>?_) (fun h0=>?_)
      · show (badU k (spanU freshG p.u (32 * k) (32 * k+32)) bs).getD f 0=_
        rw[badU_getD _ _ _ _ (by rw[spanU_length,ho.u];exact hf),if_neg (fun h=>hn h.1),spanU_getD _ _ _ _ _ (by rw[ho.u];exact hf),if_neg hn]
      · have h0:(p.z.set k z.toNat).getD k 0=0:=h0
        rw[getD_set_same _ _ _ _ (by rw[ho.z];omega)] at h0
        omega
def openB (p:PS)(z k:Nat):List Bool:=(List.range 1024).map (fun f=>decide (f < 32 * k) && (decide (p.z.getD (f / 32) 0=z) && (!p.i.getD (f / 32) false) && decide (p.u.getD f 0=1)))
theorem openB_length (p:PS)(z k:Nat):(openB p z k).length=1024:=by simp[openB]
theorem openB_getD (p:PS)(z k f:Nat)(hf:f < 1024):(openB p z k).getD f false=(decide (f < 32 * k) && (decide (p.z.getD (f / 32) 0=z) && (!p.i.getD (f / 32) false) && decide (p.u.getD f 0=1))):=by simp[openB,hf]
theorem boolL_ext {l l':List Bool}(hl:l.length=l'.length)(h:∀ x,x < l.length→l.getD x false=l'.getD x false):l=l':=by
  refine List.ext_getElem hl fun x h1 h2=>?_
  have:=h x h1
  simpa [h1,h2] using this
theorem openB_zero (p:PS)(z:Nat):openB p z 0=List.replicate 1024 false:=by
  refine boolL_ext (by rw[openB_length,List.length_replicate]) fun f hf=>?_
  rw[openB_length] at hf
  rw[openB_getD _ _ _ _ hf,decide_eq_false (by omega),Bool.false_and,List.getD_eq_getElem?_getD,List.getElem?_replicate]
  split <;> rfl
theorem putB_getD (fs:List Int):∀ (l:List Bool) (g:Nat),g < l.length→(putB l true fs).getD g false=(decide ((g:Int)∈fs) || l.getD g false):=by
  induction fs with
  | nil=>intro l g hg;simp[putB]
  | cons f fs ih =>
    intro l g hg
    show (putB (if 0≤f∧f < (l.length:Int) then l.set f.toNat true else l) true fs).getD g false=_
    rw[ih _ g (by split <;> simpa using hg)]
    by_cases c:0≤f∧f < (l.length:Int)
    · rw[if_pos c]
      by_cases e:g=f.toNat
      · subst e
        rw[getD_set_same _ _ _ _ hg,decide_eq_true (show ((f.toNat:Nat):Int)∈f :: fs from by rw[Int.toNat_of_nonneg c.1];exact List.mem_cons_self)]
        simp
      · rw[getD_set_ne _ _ _ _ _ e]
        have:((g:Int)∈f :: fs)↔(g:Int)∈fs:=⟨fun h=>(List.mem_cons.1 h).resolve_left (by omega),List.mem_cons_of_mem _⟩
        rw[show decide ((g:Int)∈f :: fs)=decide ((g:Int)∈fs) from decide_eq_decide.2 this]
    · rw[if_neg c]
      have:((g:Int)∈f :: fs)↔(g:Int)∈fs:=⟨fun h=>(List.mem_cons.1 h).resolve_left (by omega),List.mem_cons_of_mem _⟩
      rw[show decide ((g:Int)∈f :: fs)=decide ((g:Int)∈fs) from decide_eq_decide.2 this]
theorem openB_yes {p:PS}{z k:Nat}(hk:k < 32)(hz:p.z.getD k 0=z)(hi:p.i.getD k false=false):putB (openB p z k) true (ofZ p.u 1 (32 * k) 32)=openB p z (k+1):=by
  refine boolL_ext (by rw[putB_length,openB_length,openB_length]) fun f hf=>?_
  rw[putB_length,openB_length] at hf
  rw[putB_getD _ _ _ (by rw[openB_length];exact hf),openB_getD _ _ _ _ hf,openB_getD _ _ _ _ hf]
  by_cases c:32 * k≤f∧f < 32 * k+32
  · have e:f / 32=k:=by omega
    rw[e,hz,hi,decide_eq_true (show f < 32 * (k+1) by omega),decide_eq_false (show ¬ f < 32 * k by omega)]
    have:((f:Int)∈ofZ p.u 1 (32 * k) 32)↔p.u.getD f 0=1:=mem_ofZ.trans ⟨fun h=>by omega,fun h=>⟨c,by omega⟩⟩
    rw[show decide ((f:Int)∈ofZ p.u 1 (32 * k) 32)=decide (p.u.getD f 0=1) from decide_eq_decide.2 this]
    simp
  · rw[decide_eq_false (fun hm=>c (mem_ofZ.1 hm).1),show decide (f < 32 * k)=decide (f < 32 * (k+1)) from decide_eq_decide.2 (by omega)]
    simp
theorem openB_no {p:PS}{z k:Nat}(hk:k < 32)(h:p.z.getD k 0≠z∨p.i.getD k false=true):openB p z (k+1)=openB p z k:=by
  refine boolL_ext (by rw[openB_length,openB_length]) fun f hf=>?_
  rw[openB_length] at hf
  rw[openB_getD _ _ _ _ hf,openB_getD _ _ _ _ hf]
  by_cases c:32 * k≤f∧f < 32 * k+32
  · have e:f / 32=k:=by omega
    rw[e,decide_eq_true (show f < 32 * (k+1) by omega),decide_eq_false (show ¬ f < 32 * k by omega)]
    rcases h with h | h
    · rw[decide_eq_false h];simp
    · rw[h];simp
  · rw[show decide (f < 32 * (k+1))=decide (f < 32 * k) from decide_eq_decide.2 (by omega)]
theorem runAt_open {p:PS}{z o f:Nat}(ho:o≤5):RunAt (openB p z 32) o 0 1024 f↔RunF p z (2 ^ o) f:=by
  have h32:∃ c,32=2 ^ o * c:=⟨2 ^ (5 - o),by rw[← Nat.pow_add,show o+(5 - o)=5 by omega]⟩
  obtain⟨c,hc⟩:=h32
  obtain⟨sz,hsz⟩:∃ sz,sz=2 ^ o:=⟨_,rfl⟩
  have hp:0 < sz:=by rw[hsz];exact Nat.pow_pos (by omega)
  unfold RunAt RunF
  rw[openB_length,← hsz]
  rw[← hsz] at hc
  have sect:f % sz=0→f / 32=(f+(sz - 1)) / 32:=by
    intro hm
    obtain⟨d,hd⟩:=Nat.dvd_of_mod_eq_zero hm
    rw[hc,hd]
    rw[← Nat.div_div_eq_div_mul,← Nat.div_div_eq_div_mul,Nat.mul_div_cancel_left _ hp,Nat.mul_add_div hp,Nat.div_eq_of_lt (show sz - 1 < sz by omega),Nat.add_zero]
  have bound:f % sz=0→f < 1024→f+sz≤1024:=by
    intro hm hf
    obtain⟨d,hd⟩:=Nat.dvd_of_mod_eq_zero hm
    have h1024:1024=sz * (c * 32):=by rw[← Nat.mul_assoc,← hc]
    rw[hd,h1024] at hf ⊢
    have hdc:d < c * 32:=Nat.lt_of_mul_lt_mul_left hf
    calc sz * d+sz=sz * (d+1):=by rw[Nat.mul_add,Nat.mul_one]
      _≤sz * (c * 32):=Nat.mul_le_mul_left _ hdc
  have all:f % sz=0→f < 1024→((∀ k,f≤k→k < f+sz→(openB p z 32).getD k false=true)↔(p.z.getD (f / 32) 0=z∧p.i.getD (f / 32) false=false∧∀ k,f≤k→k < f+sz→p.u.getD k 0=1)):=by
    intro hm hf
    have hb:=bound hm hf
    have hs:=sect hm
    constructor
    · intro h
      have g:∀ k,f≤k→k < f+sz→p.z.getD (k / 32) 0=z∧p.i.getD (k / 32) false=false∧p.u.getD k 0=1:=by
        intro k k1 k2
        have:=h k k1 k2
        rw[openB_getD _ _ _ _ (by omega)] at this
        simp only[Bool.and_eq_true,decide_eq_true_eq,Bool.not_eq_true'] at this
        exact⟨this.2.1.1,this.2.1.2,this.2.2⟩
      exact⟨(g f (by omega) (by omega)).1,(g f (by omega) (by omega)).2.1,fun k k1 k2=>(g k k1 k2).2.2⟩
    · rintro⟨h1,h2,h3⟩ k k1 k2
      rw[openB_getD _ _ _ _ (by omega)]
      have e:k / 32=f / 32:=by omega
      simp only[Bool.and_eq_true,decide_eq_true_eq,Bool.not_eq_true',e]
      exact⟨by omega,⟨h1,h2⟩,h3 k k1 k2⟩
  constructor
  · rintro⟨h1,h2,_,_,h5⟩
    have hf:f < 1024:=by omega
    obtain⟨a,b,c⟩:=(all h1 hf).1 h5
    exact⟨h1,hf,a,b,c⟩
  · rintro⟨h1,h2,a,b,c⟩
    have:=bound h1 h2
    exact⟨h1,this,by omega,by omega,(all h1 h2).2 ⟨a,b,c⟩⟩
theorem runIs_first {p:PS}{z:Nat}{o:Int}{r:Option Nat}(h0:0≤o)(h5:o≤5)(h:RunIs (openB p z 32) o 0 1024 r):FirstF p z (2 ^ o.toNat) r:=by
  have ho:o.toNat≤5:=by omega
  cases r with
  | none =>
    rcases h with h | h | h
    · omega
    · omega
    · exact fun g hg=>h g ((runAt_open ho).2 hg)
  | some f =>
    obtain⟨_,_,h3,h4⟩:=h
    exact⟨(runAt_open ho).1 h3,fun g hg hr=>h4 g hg ((runAt_open ho).2 hr)⟩
theorem alloc_inv {p p':PS}{use o:Int}{m:Bool}{f e:Nat}(hp:PsOk p)(hi:PInv p)(h:AllocIs p use o m f e p'):PInv p':=by
  rcases h with ⟨_,_,_,rfl⟩ | ⟨a,r3,r2,b3,b2,h⟩
  · exact hi
  · have ho:o.toNat≤5:=by omega
    have key:∀ z g,(z=2∨z=3)→RunF p z (2 ^ o.toNat) g→PInv ⟨spanU (fun _=>use.toNat) p.u g (g+2 ^ o.toNat),p.z,p.i⟩:=by
      intro z g hz hr
      have hr2:=(runAt_open (p:=p) (z:=z) ho).2 hr
      obtain⟨_,k2,_,_,k5⟩:=hr2
      rw[openB_length] at k2
      intro s hs hzs
      refine⟨(hi s hs hzs).1,fun f f1 f2=>?_⟩
      show (spanU (fun _=>use.toNat) p.u g (g+2 ^ o.toNat)).getD f 0=0∨(spanU (fun _=>use.toNat) p.u g (g+2 ^ o.toNat)).getD f 0=6
      rw[spanU_getD _ _ _ _ _ (by rw[hp.u];omega)]
      by_cases c:g≤f∧f < g+2 ^ o.toNat
      · have:=k5 f c.1 c.2
        rw[openB_getD _ _ _ _ (by omega)] at this
        simp only[Bool.and_eq_true,decide_eq_true_eq] at this
        have h2:=this.2.1.1
        rw[show f / 32=s by omega] at h2
        rw[h2] at hzs
        omega
      · rw[if_neg c]
        exact (hi s hs hzs).2 f f1 f2
    have hcase:∀ g,(if m then r3.or r2 else r2)=some g→RunF p 3 (2 ^ o.toNat) g∨RunF p 2 (2 ^ o.toNat) g:=by
      intro g hg
      cases m with
      | false =>
        have hg:r2=some g:=by simpa using hg
        rw[hg] at b2
        exact .inr b2.1
      | true =>
        have hg:r3.or r2=some g:=by simpa using hg
        cases r3 with
        | some x =>
          have:x=g:=by simpa using hg
          rw[this] at b3
          exact .inl b3.1
        | none =>
          have hg:r2=some g:=by simpa using hg
          rw[hg] at b2
          exact .inr b2.1
    revert h hcase
    generalize (if m then r3.or r2 else r2)=r
    intro h hcase
    cases r with
    | none=>obtain⟨_,_,rfl⟩:=h;exact hi
    | some g =>
      obtain⟨_,_,rfl⟩:=h
      rcases hcase g rfl with hr | hr
      · exact key 3 g (.inr rfl) hr
      · exact key 2 g (.inl rfl) hr
structure PoolV (vs:List Value)(p:PS):Prop where
  n:vs.length=1088
  u:∀ f,f < 1024→vs[f]?=some (.int .i64 ((p.u.getD f 0:Nat):Int))
  z:∀ s,s < 32→vs[1024+2 * s]?=some (.int .i64 ((p.z.getD s 0:Nat):Int))
  i:∀ s,s < 32→vs[1024+2 * s+1]?=some (.bool (p.i.getD s false))
theorem PoolV.su {vs:List Value}{p:PS}(h:PoolV vs p)(ho:PsOk p){f v:Nat}(hf:f < 1024):PoolV (vs.set f (.int .i64 (v:Int))) ⟨p.u.set f v,p.z,p.i⟩ where
  n:=by rw[List.length_set];exact h.n
  u g hg:=by
    show _=some (Value.int .i64 (((p.u.set f v).getD g 0:Nat):Int))
    by_cases e:g=f
    · subst e
      rw[getD_set_same _ _ _ _ (by rw[ho.u];exact hf),List.getElem?_set_self (by rw[h.n];omega)]
    · rw[getD_set_ne _ _ _ _ _ e,List.getElem?_set_ne (fun q=>e q.symm)]
      exact h.u g hg
  z s hs:=by rw[List.getElem?_set_ne (by omega)];exact h.z s hs
  i s hs:=by rw[List.getElem?_set_ne (by omega)];exact h.i s hs
theorem PoolV.sz {vs:List Value}{p:PS}(h:PoolV vs p)(ho:PsOk p){k v:Nat}(hk:k < 32):PoolV (vs.set (1024+2 * k) (.int .i64 (v:Int))) ⟨p.u,p.z.set k v,p.i⟩ where
  n:=by rw[List.length_set];exact h.n
  u g hg:=by rw[List.getElem?_set_ne (by omega)];exact h.u g hg
  z s hs:=by
    show _=some (Value.int .i64 (((p.z.set k v).getD s 0:Nat):Int))
    by_cases e:s=k
    · subst e
      rw[getD_set_same _ _ _ _ (by rw[ho.z];exact hs),List.getElem?_set_self (by rw[h.n];omega)]
    · rw[getD_set_ne _ _ _ _ _ e,List.getElem?_set_ne (by omega)]
      exact h.z s hs
  i s hs:=by rw[List.getElem?_set_ne (by omega)];exact h.i s hs
def PoolAt (w:World)(g:Nat)(p:PS):Prop:=∃ vs:List Value,Blk w g 125 vs.toArray∧PoolV vs p∧PsOk p
section
variable {w w':World}{g:Nat}{p:PS}
theorem PoolAt.lt (h:PoolAt w g p):g < w.heap.size:=by obtain⟨vs,h1,_⟩:=h;exact h1.lt
theorem PoolAt.ok (h:PoolAt w g p):PsOk p:=by obtain⟨vs,_,_,h⟩:=h;exact h
theorem PoolAt.far (h:PoolAt w g p)(hk:w'.heap[g]?=w.heap[g]?):PoolAt w' g p:=by obtain⟨vs,h1,h2⟩:=h;exact⟨vs,hk.trans h1,h2⟩
theorem PoolAt.below (h:PoolAt w g p){B:Nat}(hb:Below B w w')(hg:g < B):PoolAt w' g p:=h.far (hb.block g hg)
theorem PoolAt.fz (h:PoolAt w g p)(i:Nat):w.frozen? ⟨g,i,none⟩=false:=by obtain⟨vs,h1,_⟩:=h;exact h1.frozen i
theorem PoolAt.cu (h:PoolAt w g p){f:Nat}(hf:f < 1024):w.cell? ⟨g,f,none⟩=some (.int .i64 ((p.u.getD f 0:Nat):Int)):=by
  obtain⟨vs,h1,h2,_⟩:=h;rw[h1.cellL];exact h2.u f hf
theorem PoolAt.cz (h:PoolAt w g p){s:Nat}(hs:s < 32):w.cell? ⟨g,1024+2 * s,none⟩=some (.int .i64 ((p.z.getD s 0:Nat):Int)):=by
  obtain⟨vs,h1,h2,_⟩:=h;rw[h1.cellL];exact h2.z s hs
theorem PoolAt.ci (h:PoolAt w g p){s:Nat}(hs:s < 32):w.cell? ⟨g,1024+2 * s+1,none⟩=some (.bool (p.i.getD s false)):=by
  obtain⟨vs,h1,h2,_⟩:=h;rw[h1.cellL];exact h2.i s hs
theorem PoolAt.su (h:PoolAt w g p){f v:Nat}(hf:f < 1024)(hv:v≤6):PoolAt (w.setCell ⟨g,f,none⟩ (.int .i64 (v:Int))) g ⟨p.u.set f v,p.z,p.i⟩:=by
  obtain⟨vs,h1,h2,h3⟩:=h;exact⟨_,h1.setL _ _,h2.su h3 hf,h3.setU _ _ hv⟩
theorem PoolAt.sz (h:PoolAt w g p){s v:Nat}(hs:s < 32)(hv:v≤3):PoolAt (w.setCell ⟨g,1024+2 * s,none⟩ (.int .i64 (v:Int))) g ⟨p.u,p.z.set s v,p.i⟩:=by
  obtain⟨vs,h1,h2,h3⟩:=h;exact⟨_,h1.setL _ _,h2.sz h3 hs,h3.setZ _ _ hv⟩
end
def PoolMem (w:World)(gS:Nat)(K:Nat→Prop)(p:PS):Prop:=K=(fun k=>k=gS)∧PoolAt w gS p∧PInv p
section
variable {w w':World}{gS:Nat}{K:Nat→Prop}{p:PS}
theorem PoolMem.lt (h:PoolMem w gS K p):∀ k,K k→k < w.heap.size:=by
  obtain⟨rfl,h1,_⟩:=h
  rintro k rfl
  exact h1.lt
theorem PoolMem.ok (h:PoolMem w gS K p):PsOk p:=h.2.1.ok
theorem PoolMem.far (h:PoolMem w gS K p)(hk:∀ k,K k→w'.heap[k]?=w.heap[k]?):PoolMem w' gS K p:=by
  obtain⟨rfl,h1,h2⟩:=h
  exact⟨rfl,h1.far (hk _ rfl),h2⟩
theorem PoolMem.fresh (h:PoolMem w gS K p)(hb:Below w.heap.size w w'):PoolMem w' gS K p:=h.far fun k hk=>hb.block k (h.lt k hk)
end
def PoolPost (w:World)(gS:Nat)(K:Nat→Prop)(v:Value)(p':PS)(e:Ending)(w':World):Prop :=
  ∃ K':Nat→Prop,e=.returned v∧PoolMem w' gS K' p'∧(∀ k,K' k→K k∨w.heap.size≤k)∧Turns K w w'
end Go.Proofs.YtaonpmclkafjdaaGreat

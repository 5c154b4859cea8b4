/-
  A tree's tables and pages as numbers; the contracts of its own calls up to add.
  Conditions: those that each line bears.
-/
import Derived.Test.YtaonpmclkafjdaaGreatQz00
import Derived.Test.YtaonpmclkafjdaaGreatQz04
import Derived.Test.YtaonpmclkafjdaaGreatQz03
import Derived.Test.YtaonpmclkafjdaaGreatQz15
import Derived.Deep.LoopGhost
import Derived.ChangeKeysEq
import Derived.Test.YtaonpmclkafjdaaGreatQz07
import Derived.Test.YtaonpmclkafjdaaGreatQz09
import Derived.Shelf.Abstract
import Derived.Test.YtaonpmclkafjdaaGreatQz16
import Derived.StillTailTactics
set_option linter.unusedSimpArgs false
set_option linter.unusedSectionVars false
set_option linter.unusedVariables false
namespace Go.Proofs.YtaonpmclkafjdaaGreat
open Go.RowKit
set_option linter.unusedVariables false
def dv:Nat→Nat
  | 0=>4096
  | 1=>512
  | 2=>64
  | 3=>8
  | _=>1
theorem four {l:Nat}(h:l < 4):l=0∨l=1∨l=2∨l=3:=by omega
theorem dv_div (page:Nat){l:Nat}(h:l < 4):page / dv l=page / dv (l+1) / 8:=by
  rcases four h with rfl | rfl | rfl | rfl <;> simp only[dv,Nat.div_div_eq_div_mul]
theorem way_child (page:Nat){l q j:Nat}(h:l < 4)(hj:j < 8)(e:8 * q+j=page / dv (l+1)):q=page / dv l:=by
  rw[dv_div page h,← e]
  omega
theorem way_digit (page:Nat){l:Nat}(h:l < 4):8 * (page / dv l)+page / dv (l+1) % 8=page / dv (l+1):=by
  rw[dv_div page h]
  omega
theorem dv4 (page:Nat):page / dv 4=page:=Nat.div_one page
theorem dv0 {page:Nat}(h:page < 4096):page / dv 0=0:=Nat.div_eq_of_lt h
structure Nod (g:Nat→Nat→Nat)(t:Nat→Prop)(page k:Nat):Prop where
  root:g 0 0≠0
  out:∀ q,g 0 q≠0→q=0
  le:∀ l q,l < 4→g l q≤1024
  mem:∀ f,t f↔∃ l q,l < 4∧g l q=f+1
  inj:∀ l q l' q',l < 4→l' < 4→g l q=g l' q'→g l q≠0→l=l'∧q=q'
  up:∀ l q,l < 4→g (l+1) q≠0→g l (q / 8)≠0
  some:∀ l q,0 < l→l < 4→g l q≠0→¬ (l < k∧q=page / dv l)→∃ j,j < 8∧g (l+1) (8 * q+j)≠0
def numJ (xs:List Nat)(j:Nat):Nat:=le (win xs (8 * j) 8)
def Con (g:Nat→Nat→Nat)(F:Nat→List Nat)(page k:Nat):Prop :=
  ∀ l q f j,l < 4→g l q=f+1→j < 8→(l < k→8 * q+j≠page / dv (l+1))→numJ (F f) j=g (l+1) (8 * q+j)
theorem numJ_zer (j:Nat)(h:j < 8):numJ zer j=0:=by
  unfold numJ
  rw[win_zero zer (8 * j) 8 (by rw[zer_length];omega) (fun i _ _=>by
    unfold zer
    rw[List.getD_eq_getElem?_getD,List.getElem?_replicate]
    split <;> rfl)]
  exact (le_zeros [] 8).trans rfl
theorem numJ_over {xs:List Nat}(hx:xs.length=64){d v j:Nat}(hd:d < 8)(hv:v < 18446744073709551616)(hj:j < 8):numJ (over xs (8 * d) (numL v 8)) j=if j=d then v else numJ xs j:=by
  have hl:8 * d+(numL v 8).length≤xs.length:=by rw[numL_length];omega
  have ho:=over_length xs (8 * d) (numL v 8) hl
  unfold numJ
  by_cases c:j=d
  · subst c
    rw[if_pos rfl]
    have e:win (over xs (8 * j) (numL v 8)) (8 * j) 8=numL v 8:=by
      refine listN_ext (by rw[win_length _ _ _ (by rw[ho];omega),numL_length]) fun i hi=>?_
      rw[win_length _ _ _ (by rw[ho];omega)] at hi
      rw[win_getD _ _ _ _ hi,over_getD _ _ _ hl]
      rw[if_pos (by rw[numL_length];omega),show 8 * j+i - 8 * j=i by omega]
    rw[e,le_numL_lt _ _ (by simpa using hv)]
  · rw[if_neg c]
    have e:win (over xs (8 * d) (numL v 8)) (8 * j) 8=win xs (8 * j) 8:=by
      refine listN_ext (by rw[win_length _ _ _ (by rw[ho];omega),win_length _ _ _ (by omega)]) fun i hi=>?_
      rw[win_length _ _ _ (by rw[ho];omega)] at hi
      rw[win_getD _ _ _ _ hi,win_getD _ _ _ _ hi,over_getD _ _ _ hl]
      rw[if_neg (by rw[numL_length];omega)]
    rw[e]
section
variable {g:Nat→Nat→Nat}{t:Nat→Prop}{page k:Nat}
theorem Nod.lt (h:Nod g t page k){f:Nat}(hf:t f):f < 1024:=by
  obtain⟨l,q,hl,e⟩:=(h.mem f).1 hf
  have:=h.le l q hl
  omega
theorem Nod.up_ (h:Nod g t page k){l:Nat}(hl:l < 4)(hz:g l (page / dv l)=0):g (l+1) (page / dv (l+1))=0:=by
  rcases Nat.eq_zero_or_pos (g (l+1) (page / dv (l+1))) with e | e
  · exact e
  · have:=h.up l _ hl (Nat.pos_iff_ne_zero.1 e)
    rw[← dv_div page hl] at this
    exact absurd hz this
theorem Nod.way (h:Nod g t page k)(hp:page < 4096):∃ L,1≤L∧L≤4∧(∀ l,l < L→g l (page / dv l)≠0)∧(∀ l,L≤l→l < 4→g l (page / dv l)=0)∧(L < 4→g 4 page=0):=by
  have h0:g 0 (page / dv 0)≠0:=by rw[dv0 hp];exact h.root
  have u1:=h.up_ (l:=1) (by omega)
  have u2:=h.up_ (l:=2) (by omega)
  have u3:=h.up_ (l:=3) (by omega)
  rw[dv4] at u3
  by_cases c1:g 1 (page / dv 1)=0
  · exact⟨1,by omega,by omega,fun l hl=>by obtain rfl:l=0:=by omega
                                           exact h0,fun l h1 h2=>by
      rcases four h2 with rfl | rfl | rfl | rfl
      · omega
      · exact c1
      · exact u1 c1
      · exact u2 (u1 c1),fun _=>u3 (u2 (u1 c1))⟩
  · by_cases c2:g 2 (page / dv 2)=0
    · exact⟨2,by omega,by omega,fun l hl=>by
        rcases four (show l < 4 by omega) with rfl | rfl | rfl | rfl
        · exact h0
        · exact c1
        · omega
        · omega,fun l h1 h2=>by
        rcases four h2 with rfl | rfl | rfl | rfl
        · omega
        · omega
        · exact c2
        · exact u2 c2,fun _=>u3 (u2 c2)⟩
    · by_cases c3:g 3 (page / dv 3)=0
      · exact⟨3,by omega,by omega,fun l hl=>by
          rcases four (show l < 4 by omega) with rfl | rfl | rfl | rfl
          · exact h0
          · exact c1
          · exact c2
          · omega,fun l h1 h2=>by
          rcases four h2 with rfl | rfl | rfl | rfl
          · omega
          · omega
          · omega
          · exact c3,fun _=>u3 c3⟩
      · exact⟨4,by omega,by omega,fun l hl=>by
          rcases four hl with rfl | rfl | rfl | rfl
          · exact h0
          · exact c1
          · exact c2
          · exact c3,fun l h1 h2=>by omega,fun h=>by omega⟩
end
theorem Nod.dist {g:Nat→Nat→Nat} {t:Nat→Prop} {page:Nat} (h:Nod g t page 0) {ps:List Nat} (hps:∀ p,p∈ps↔g 4 p≠0) :
    (∀ q,q∈distL (ps.map (· / 8))↔g 3 q≠0)∧(∀ q,q∈distL (ps.map (· / 64))↔g 2 q≠0)∧(∀ q,q∈distL (ps.map (· / 512))↔g 1 q≠0):=by
  have s3:∀ q,g 3 q≠0→∃ p,g 4 p≠0∧p / 8=q:=fun q hq=>by
    obtain⟨j,hj,h1⟩:=h.some 3 q (by omega) (by omega) hq (by omega)
    exact⟨_,h1,by omega⟩
  have s2:∀ q,g 2 q≠0→∃ p,g 4 p≠0∧p / 64=q:=fun q hq=>by
    obtain⟨j,hj,h1⟩:=h.some 2 q (by omega) (by omega) hq (by omega)
    obtain⟨p,hp,h2⟩:=s3 _ h1
    exact⟨_,hp,by omega⟩
  have s1:∀ q,g 1 q≠0→∃ p,g 4 p≠0∧p / 512=q:=fun q hq=>by
    obtain⟨j,hj,h1⟩:=h.some 1 q (by omega) (by omega) hq (by omega)
    obtain⟨p,hp,h2⟩:=s2 _ h1
    exact⟨_,hp,by omega⟩
  have u3:∀ p,g 4 p≠0→g 3 (p / 8)≠0:=fun p hp=>h.up 3 p (by omega) hp
  have u2:∀ p,g 4 p≠0→g 2 (p / 64)≠0:=fun p hp=>by
    have:=h.up 2 _ (by omega) (u3 p hp)
    rwa [Nat.div_div_eq_div_mul] at this
  have u1:∀ p,g 4 p≠0→g 1 (p / 512)≠0:=fun p hp=>by
    have:=h.up 1 _ (by omega) (u2 p hp)
    rwa [Nat.div_div_eq_div_mul] at this
  have key:∀ (d l:Nat),(∀ q,g l q≠0→∃ p,g 4 p≠0∧p / d=q)→(∀ p,g 4 p≠0→g l (p / d)≠0)→∀ q,q∈distL (ps.map (· / d))↔g l q≠0:=by
    intro d l a b q
    rw[distL_mem,List.mem_map]
    constructor
    · rintro⟨p,hp,rfl⟩
      exact b p ((hps p).1 hp)
    · intro hq
      obtain⟨p,hp,e⟩:=a q hq
      exact⟨p,(hps p).2 hp,e⟩
  exact⟨key 8 3 s3 u3,key 64 2 s2 u2,key 512 1 s1 u1⟩
theorem map_nodup {α β:Type}{f:α→β}{l:List α}(h:l.Nodup)(hi:∀ a∈l,∀ b∈l,f a=f b→a=b):(l.map f).Nodup:=by
  induction l with
  | nil=>exact List.nodup_nil
  | cons x l ih =>
    rw[List.nodup_cons] at h
    rw[List.map_cons,List.nodup_cons]
    refine⟨fun hm=>?_,ih h.2 fun a ha b hb=>hi a (List.mem_cons_of_mem _ ha) b (List.mem_cons_of_mem _ hb)⟩
    obtain⟨y,hy,e⟩:=List.mem_map.1 hm
    have:=hi y (List.mem_cons_of_mem _ hy) x (List.mem_cons_self ..) e
    exact h.1 (this ▸ hy)
theorem Nod.count {g:Nat→Nat→Nat}{t:List Nat}{page:Nat}(h:Nod g (·∈t) page 0)(ht:t.Nodup){ps:List Nat}(hps:∀ p,p∈ps↔g 4 p≠0):t.length=tablesN ps:=by
  obtain⟨d3,d2,d1⟩:=h.dist hps
  obtain⟨D1,e1⟩:∃ D,D=distL (ps.map (· / 512)):=⟨_,rfl⟩
  obtain⟨D2,e2⟩:∃ D,D=distL (ps.map (· / 64)):=⟨_,rfl⟩
  obtain⟨D3,e3⟩:∃ D,D=distL (ps.map (· / 8)):=⟨_,rfl⟩
  have n1:D1.Nodup:=by rw[e1];exact distL_nodup _
  have n2:D2.Nodup:=by rw[e2];exact distL_nodup _
  have n3:D3.Nodup:=by rw[e3];exact distL_nodup _
  unfold tablesN
  rw[← e1,← e2,← e3]
  rw[← e1] at d1
  rw[← e2] at d2
  rw[← e3] at d3
  have m1:(D1.map (g 1)).Nodup:=map_nodup n1 fun a ha b hb e=>(h.inj 1 a 1 b (by omega) (by omega) e ((d1 a).1 ha)).2
  have m2:(D2.map (g 2)).Nodup:=map_nodup n2 fun a ha b hb e=>(h.inj 2 a 2 b (by omega) (by omega) e ((d2 a).1 ha)).2
  have m3:(D3.map (g 3)).Nodup:=map_nodup n3 fun a ha b hb e=>(h.inj 3 a 3 b (by omega) (by omega) e ((d3 a).1 ha)).2
  have hp:(t.map (·+1)).Perm ([g 0 0] ++ (D1.map (g 1) ++ (D2.map (g 2) ++ D3.map (g 3)))):=by
    refine (List.perm_ext_iff_of_nodup (map_nodup ht fun a _ b _ e=>by omega) ?_).2 fun x=>?_
    · rw[List.nodup_append]
      refine⟨by simp,?_,?_⟩
      · rw[List.nodup_append]
        refine⟨m1,?_,?_⟩
        · rw[List.nodup_append]
          refine⟨m2,m3,?_⟩
          intro a ha b hb e
          obtain⟨q,hq,rfl⟩:=List.mem_map.1 ha
          obtain⟨q',hq',rfl⟩:=List.mem_map.1 hb
          have:=(h.inj 2 q 3 q' (by omega) (by omega) e ((d2 q).1 hq)).1
          omega
        · intro a ha b hb e
          obtain⟨q,hq,rfl⟩:=List.mem_map.1 ha
          rcases List.mem_append.1 hb with hb | hb
          · obtain⟨q',hq',rfl⟩:=List.mem_map.1 hb
            have:=(h.inj 1 q 2 q' (by omega) (by omega) e ((d1 q).1 hq)).1
            omega
          · obtain⟨q',hq',rfl⟩:=List.mem_map.1 hb
            have:=(h.inj 1 q 3 q' (by omega) (by omega) e ((d1 q).1 hq)).1
            omega
      · intro a ha b hb e
        rw[List.mem_singleton] at ha
        subst ha
        rcases List.mem_append.1 hb with hb | hb
        · obtain⟨q',hq',rfl⟩:=List.mem_map.1 hb
          have:=(h.inj 0 0 1 q' (by omega) (by omega) e h.root).1
          omega
        · rcases List.mem_append.1 hb with hb | hb
          · obtain⟨q',hq',rfl⟩:=List.mem_map.1 hb
            have:=(h.inj 0 0 2 q' (by omega) (by omega) e h.root).1
            omega
          · obtain⟨q',hq',rfl⟩:=List.mem_map.1 hb
            have:=(h.inj 0 0 3 q' (by omega) (by omega) e h.root).1
            omega
    · rw[List.mem_map,List.mem_append,List.mem_append,List.mem_append,List.mem_singleton,List.mem_map,List.mem_map,List.mem_map]
      constructor
      · rintro⟨f,hf,rfl⟩
        obtain⟨l,q,hl,e⟩:=(h.mem f).1 hf
        rcases four hl with rfl | rfl | rfl | rfl
        · obtain rfl:=h.out q (by omega)
          exact .inl e.symm
        · exact .inr (.inl ⟨q,(d1 q).2 (by omega),e⟩)
        · exact .inr (.inr (.inl ⟨q,(d2 q).2 (by omega),e⟩))
        · exact .inr (.inr (.inr ⟨q,(d3 q).2 (by omega),e⟩))
      · have back:∀ l q,l < 4→g l q≠0→∃ a,a∈t∧a+1=g l q:=fun l q hl hz=>⟨g l q - 1,(h.mem _).2 ⟨l,q,hl,by omega⟩,by omega⟩
        rintro (rfl | ⟨q,hq,rfl⟩ | ⟨q,hq,rfl⟩ | ⟨q,hq,rfl⟩)
        · exact back 0 0 (by omega) h.root
        · exact back 1 q (by omega) ((d1 q).1 hq)
        · exact back 2 q (by omega) ((d2 q).1 hq)
        · exact back 3 q (by omega) ((d3 q).1 hq)
  have:=hp.length_eq
  simp only[List.length_map,List.length_append,List.length_cons,List.length_nil] at this
  omega
theorem Nod.count_more {g:Nat→Nat→Nat} {t:List Nat} {page L:Nat} (h:Nod g (·∈t) page 0) (ht:t.Nodup) {ps ps':List Nat} (hps:∀ p,p∈ps↔g 4 p≠0) (hps':∀ p,p∈ps'↔g 4 p≠0∨p=page)
    (h1:1≤L) (h4:L≤4) (hy:∀ l,l < L→g l (page / dv l)≠0) (hn:∀ l,L≤l→l < 4→g l (page / dv l)=0):tablesN ps'=t.length+(4 - L):=by
  have e:tablesN ps'=tablesN (ps ++ [page]):=tablesN_same fun x=>by
    rw[hps',List.mem_append,List.mem_singleton,hps]
  obtain⟨d3,d2,d1⟩:=h.dist hps
  rw[e,h.count ht hps]
  unfold tablesN
  rw[List.map_append,List.map_append,List.map_append,List.map_cons,List.map_cons,List.map_cons,List.map_nil,List.map_nil,List.map_nil,distL_snoc,distL_snoc,distL_snoc]
  have key:∀ l d,l < 4→dv l=d→(∀ q,q∈distL (ps.map (· / d))↔g l q≠0)→(if page / d∈distL (ps.map (· / d)) then distL (ps.map (· / d)) else distL (ps.map (· / d)) ++ [page / d]).length=(distL (ps.map (· / d))).length+if l < L then 0 else 1:=by
    intro l d hl hd hm
    by_cases c:l < L
    · have:=hy l c
      rw[hd] at this
      rw[if_pos ((hm _).2 this),if_pos c]
      rfl
    · have:=hn l (by omega) hl
      rw[hd] at this
      rw[if_neg (fun hh=>(hm _).1 hh this),if_neg c,List.length_append]
      rfl
  rw[key 1 512 (by omega) rfl d1,key 2 64 (by omega) rfl d2,key 3 8 (by omega) rfl d3]
  rcases (show L=1∨L=2∨L=3∨L=4 by omega) with rfl | rfl | rfl | rfl <;> simp <;> omega
end Go.Proofs.YtaonpmclkafjdaaGreat
namespace Go.Proofs.YtaonpmclkafjdaaGreat
open Go.RowKit
set_option linter.unusedVariables false
theorem gaL (a b:List Nat)(j:Nat)(h:j < a.length):(a ++ b).getD j 0=a.getD j 0:=by
  simp only[List.getD_eq_getElem?_getD,List.getElem?_append_left h]
theorem gaR (a b:List Nat)(j:Nat)(h:a.length≤j):(a ++ b).getD j 0=b.getD (j - a.length) 0:=by
  simp only[List.getD_eq_getElem?_getD,List.getElem?_append_right h]
structure PutS where
  F:Nat→List Nat
  p:PS
  b:List Bool
  v:Nat
def wrF (F:Nat→List Nat)(f d v:Nat):Nat→List Nat:=upd F f (over (F f) (8 * d) (numL v 8))
def emptyB (xs:List Nat):Bool:=(List.range 8).all (fun j=>decide (numJ xs j=0))
theorem emptyB_iff {xs:List Nat}:emptyB xs=true↔∀ j,j < 8→numJ xs j=0:=by
  unfold emptyB
  rw[List.all_eq_true]
  constructor
  · intro h j hj
    exact of_decide_eq_true (h j (List.mem_range.2 hj))
  · intro h j hj
    exact decide_eq_true (h j (List.mem_range.1 hj))
def putStep (way:List Nat)(page:Nat)(s:PutS)(i:Nat):PutS :=
  if (decide (0 < i) && emptyB (wrF s.F (way.getD i 0) (page / dv (i+1) % 8) s.v (way.getD i 0)))=true then
    ⟨wrF s.F (way.getD i 0) (page / dv (i+1) % 8) s.v,(freeP s.p ((way.getD i 0:Nat):Int)).2,putB s.b false [((way.getD i 0:Nat):Int)],0⟩
  else ⟨wrF s.F (way.getD i 0) (page / dv (i+1) % 8) s.v,s.p,s.b,way.getD i 0+1⟩
structure Going (t0:Nat→Prop)(r0:Nat)(g4:Nat→Nat)(way:List Nat)(page:Nat)(p0:PS)(F0:Nat→List Nat)(k:Nat)(s:PutS)(g:Nat→Nat→Nat)(t:Nat→Prop):Prop where
  nod:Nod g t page k
  con:Con g s.F page k
  v:s.v=g k (page / dv k)
  vlt:s.v < 18446744073709551616
  way:∀ l,l < k→g l (page / dv l)=way.getD l 0+1
  mem:∀ f,t f↔s.b.getD f false=true
  len:s.b.length=1024
  four:∀ q,g 4 q=g4 q
  root:g 0 0=r0
  sub:∀ f,t f→t0 f
  z:s.p.z=p0.z
  i:s.p.i=p0.i
  ok:PsOk s.p
  u2:∀ f,t f→s.p.u.getD f 0=2
  u1:∀ f,t0 f→¬ t f→s.p.u.getD f 0=1
  u0:∀ f,¬ t0 f→s.p.u.getD f 0=p0.u.getD f 0
  F:∀ f,¬ t0 f→s.F f=F0 f
  long:∀ f,f < 1024→(s.F f).length=64
theorem free_2 {p:PS}{f:Nat}(hf:f < 1024)(h:p.u.getD f 0=2):(freeP p (f:Int)).2=⟨p.u.set f 1,p.z,p.i⟩:=by
  unfold freeP
  have e:useP p (f:Int)=2:=by rw[useP_in p hf];exact h
  rw[e,if_pos (by omega),Int.toNat_natCast]
set_option maxHeartbeats 800000 in
theorem Going.step {t0:Nat→Prop} {r0:Nat} {g4:Nat→Nat} {way:List Nat} {page:Nat} {p0:PS} {F0:Nat→List Nat} {k:Nat} {s:PutS} {g:Nat→Nat→Nat} {t:Nat→Prop}
    (h:Going t0 r0 g4 way page p0 F0 (k+1) s g t) (hk:k < 4) (hp:page < 4096):∃ g' t',Going t0 r0 g4 way page p0 F0 k (putStep way page s k) g' t':=by
  obtain⟨f,hf⟩:∃ f,f=way.getD k 0:=⟨_,rfl⟩
  obtain⟨q,hq⟩:∃ q,q=page / dv k:=⟨_,rfl⟩
  obtain⟨d,hd⟩:∃ d,d=page / dv (k+1) % 8:=⟨_,rfl⟩
  have hd8:d < 8:=by rw[hd];omega
  have hdq:8 * q+d=page / dv (k+1):=by rw[hd,hq];exact way_digit page hk
  have hgf:g k q=f+1:=by rw[hf,hq];exact h.way k (by omega)
  have htf:t f:=(h.nod.mem f).2 ⟨k,q,hk,hgf⟩
  have hf':f < 1024:=h.nod.lt htf
  have hlen:=h.long f hf'
  have hwl:∀ x,x < 1024→(wrF s.F f d s.v x).length=64:=fun x hx=>by
    unfold wrF
    by_cases c:x=f
    · rw[c,upd_same,over_length _ _ _ (by rw[numL_length];omega)];exact hlen
    · rw[upd_other _ _ _ c];exact h.long x hx
  have hcon:Con g (wrF s.F f d s.v) page k:=by
    intro l q' f' j hl hg hj hx
    unfold wrF
    by_cases c:f'=f
    · subst c
      obtain⟨rfl,rfl⟩:=h.nod.inj l q' k q hl hk (hg.trans hgf.symm) (by omega)
      rw[upd_same,numJ_over hlen hd8 h.vlt hj]
      by_cases cj:j=d
      · rw[if_pos cj,cj,hdq,h.v]
      · rw[if_neg cj]
        exact h.con l q' f' j hl hg hj (fun _ e=>cj (by omega))
    · rw[upd_other _ _ _ c]
      refine h.con l q' f' j hl hg hj (fun hlk e=>?_)
      by_cases cl:l < k
      · exact hx cl e
      · obtain rfl:l=k:=by omega
        have:=way_child page hl hj e
        rw[← hq] at this
        rw[this] at hg
        omega
  have hemp:emptyB (wrF s.F f d s.v f)=true↔∀ j,j < 8→g (k+1) (8 * q+j)=0:=by
    rw[emptyB_iff]
    constructor
    · intro e j hj
      rw[← hcon k q f j hk hgf hj (fun hh=>by omega)]
      exact e j hj
    · intro e j hj
      rw[hcon k q f j hk hgf hj (fun hh=>by omega)]
      exact e j hj
  have hF:∀ x,¬ t0 x→wrF s.F f d s.v x=F0 x:=fun x hx=>by
    unfold wrF
    rw[upd_other _ _ _ (fun e=>hx (h.sub x (by rw[e];exact htf)))]
    exact h.F x hx
  unfold putStep
  rw[← hf,← hd]
  by_cases c:0 < k∧emptyB (wrF s.F f d s.v f)=true
  · obtain⟨c1,c2⟩:=c
    rw[if_pos (by rw[c2,decide_eq_true c1];rfl)]
    have hz:=hemp.1 c2
    refine⟨fun l x=>if l=k∧x=q then 0 else g l x,fun x=>t x∧x≠f,?_⟩
    have hg':∀ l x,(if l=k∧x=q then 0 else g l x)≠0→g l x≠0∧(if l=k∧x=q then 0 else g l x)=g l x∧¬ (l=k∧x=q):=fun l x hh=>by
      by_cases e:l=k∧x=q
      · rw[if_pos e] at hh;exact absurd rfl hh
      · rw[if_neg e] at hh ⊢;exact⟨hh,rfl,e⟩
    rw[free_2 hf' (h.u2 f htf)]
    have hul:s.p.u.length=1024:=h.ok.u
    refine { nod:=?_,con:=?_,v:=?_,vlt:=by show (0:Nat) < 18446744073709551616;omega,way:=?_,mem:=?_,len:=?_,four:=?_,root:=?_,sub:=fun x hx=>h.sub x hx.1,z:=h.z,i:=h.i,ok:=h.ok.setU f 1 (by omega),u2:=?_,u1:=?_,u0:=?_,F:=hF,long:=hwl }
    · refine { root:=?_,out:=?_,le:=?_,mem:=?_,inj:=?_,up:=?_,some:=?_ }
      · show (if 0=k∧0=q then 0 else g 0 0)≠0
        rw[if_neg (by omega)]
        exact h.nod.root
      · intro x hx
        exact h.nod.out x (hg' 0 x hx).1
      · intro l x hl
        show (if l=k∧x=q then 0 else g l x)≤1024
        split
        · omega
        · exact h.nod.le l x hl
      · intro x
        constructor
        · rintro⟨hx,hne⟩
          obtain⟨l,y,hl,e⟩:=(h.nod.mem x).1 hx
          refine⟨l,y,hl,?_⟩
          show (if l=k∧y=q then 0 else g l y)=x+1
          rw[if_neg (fun hh=>hne (by obtain⟨rfl,rfl⟩:=hh;omega))]
          exact e
        · rintro⟨l,y,hl,e⟩
          have e0:(if l=k∧y=q then 0 else g l y)=x+1:=e
          obtain⟨a1,a2,a3⟩:=hg' l y (fun hh=>by rw[hh] at e0;omega)
          have e2:g l y=x+1:=a2.symm.trans e
          refine⟨(h.nod.mem x).2 ⟨l,y,hl,e2⟩,fun hx=>a3 ?_⟩
          subst hx
          exact h.nod.inj l y k q hl hk (e2.trans hgf.symm) a1
      · intro l x l' x' hl hl' e hne
        obtain⟨a1,a2,a3⟩:=hg' l x hne
        obtain⟨b1,b2,b3⟩:=hg' l' x' (fun hh=>hne (e.trans hh))
        exact h.nod.inj l x l' x' hl hl' (a2.symm.trans (e.trans b2)) a1
      · intro l x hl hne
        obtain⟨a1,a2,a3⟩:=hg' (l+1) x hne
        show (if l=k∧x / 8=q then 0 else g l (x / 8))≠0
        rw[if_neg]
        · exact h.nod.up l x hl a1
        · rintro⟨rfl,e⟩
          have:=hz (x % 8) (by omega)
          rw[show 8 * q+x % 8=x by omega] at this
          exact a1 this
      · intro l x hl0 hl hne hx
        obtain⟨a1,a2,a3⟩:=hg' l x hne
        obtain⟨j,hj,hj2⟩:=h.nod.some l x hl0 hl a1 (fun hh=>by
          by_cases cl:l < k
          · exact hx ⟨cl,hh.2⟩
          · exact a3 ⟨by omega,by rw[hq,show k=l by omega];exact hh.2⟩)
        refine⟨j,hj,?_⟩
        show (if l+1=k∧8 * x+j=q then 0 else g (l+1) (8 * x+j))≠0
        rw[if_neg]
        · exact hj2
        · rintro⟨rfl,e⟩
          exact hx ⟨by omega,way_child page hl hj (e.trans hq)⟩
    · intro l x y j hl hg hj hx
      have hg0:(if l=k∧x=q then 0 else g l x)=y+1:=hg
      obtain⟨a1,a2,a3⟩:=hg' l x (fun hh=>by rw[hh] at hg0;omega)
      show _=if l+1=k∧8 * x+j=q then 0 else g (l+1) (8 * x+j)
      rw[if_neg]
      · exact hcon l x y j hl (a2.symm.trans hg) hj hx
      · rintro⟨rfl,e⟩
        exact hx (by omega) (e.trans hq)
    · show 0=if k=k∧page / dv k=q then 0 else g k (page / dv k)
      rw[if_pos ⟨rfl,hq.symm⟩]
    · intro l hl
      show (if l=k∧page / dv l=q then 0 else g l (page / dv l))=_
      rw[if_neg (by omega)]
      exact h.way l (by omega)
    · intro x
      show _↔(putB s.b false [(f:Int)]).getD x false=true
      have e:putB s.b false [(f:Int)]=s.b.set f false:=by
        show (if 0≤(f:Int)∧(f:Int) < (s.b.length:Int) then s.b.set ((f:Int).toNat) false else s.b)=_
        rw[if_pos (by rw[h.len];omega),Int.toNat_natCast]
      rw[e]
      by_cases cx:x=f
      · subst cx
        rw[getD_set_same _ _ _ _ (by rw[h.len];exact hf')]
        simp
      · rw[getD_set_ne _ _ _ _ _ cx,← h.mem x]
        exact⟨fun hh=>hh.1,fun hh=>⟨hh,cx⟩⟩
    · show (putB s.b false [(f:Int)]).length=1024
      rw[putB_length]
      exact h.len
    · intro x
      show (if 4=k∧x=q then 0 else g 4 x)=_
      rw[if_neg (by omega)]
      exact h.four x
    · show (if 0=k∧0=q then 0 else g 0 0)=_
      rw[if_neg (by omega)]
      exact h.root
    · rintro x ⟨hx,hne⟩
      show (s.p.u.set f 1).getD x 0=2
      rw[getD_set_ne _ _ _ _ _ hne]
      exact h.u2 x hx
    · intro x hx hn
      show (s.p.u.set f 1).getD x 0=1
      by_cases cx:x=f
      · rw[cx,getD_set_same _ _ _ _ (by rw[hul];exact hf')]
      · rw[getD_set_ne _ _ _ _ _ cx]
        exact h.u1 x hx (fun hh=>hn ⟨hh,cx⟩)
    · intro x hx
      show (s.p.u.set f 1).getD x 0=_
      rw[getD_set_ne _ _ _ _ _ (fun e=>hx (h.sub x (by rw[e];exact htf)))]
      exact h.u0 x hx
  · rw[if_neg (fun hh=>c (by
      cases hb:emptyB (wrF s.F f d s.v f) with
      | true=>rw[hb,Bool.and_true] at hh;exact⟨of_decide_eq_true hh,rfl⟩
      | false=>rw[hb,Bool.and_false] at hh;cases hh))]
    refine⟨g,t,?_⟩
    refine { nod:=?_,con:=hcon,v:=by rw[← hq,hgf],vlt:=by show f+1 < _;omega,way:=fun l hl=>h.way l (by omega),mem:=h.mem,len:=h.len,four:=h.four,root:=h.root,sub:=h.sub,z:=h.z,i:=h.i,ok:=h.ok,u2:=h.u2,u1:=h.u1,u0:=h.u0,F:=hF,long:=hwl }
    refine { root:=h.nod.root,out:=h.nod.out,le:=h.nod.le,mem:=h.nod.mem,inj:=h.nod.inj,up:=h.nod.up,some:=?_ }
    intro l x hl0 hl hne hx
    by_cases cl:l=k∧x=q
    · obtain⟨rfl,rfl⟩:=cl
      have hno:¬ emptyB (wrF s.F f d s.v f)=true:=fun hh=>c ⟨hl0,hh⟩
      rw[hemp] at hno
      rcases Classical.em (∃ j,j < 8∧g (l+1) (8 * x+j)≠0) with hh | hh
      · exact hh
      · exact absurd (fun j hj=>Classical.byContradiction fun hne=>hh ⟨j,hj,hne⟩) hno
    · exact h.nod.some l x hl0 hl hne (fun hh=>by
        by_cases cl2:l < k
        · exact hx ⟨cl2,hh.2⟩
        · obtain rfl:l=k:=by omega
          exact cl ⟨rfl,hh.2.trans hq.symm⟩)
theorem Going.all {t0:Nat→Prop} {r0:Nat} {g4:Nat→Nat} {way:List Nat} {page:Nat} {p0:PS} {F0:Nat→List Nat} {s:PutS} {g:Nat→Nat→Nat} {t:Nat→Prop}
    (h:Going t0 r0 g4 way page p0 F0 4 s g t) (hp:page < 4096):∃ g' t',Going t0 r0 g4 way page p0 F0 0 (([3,2,1,0]:List Nat).foldl (putStep way page) s) g' t':=by
  obtain⟨g3,t3,h3⟩:=h.step (by omega) hp
  obtain⟨g2,t2,h2⟩:=h3.step (by omega) hp
  obtain⟨g1,t1,h1⟩:=h2.step (by omega) hp
  exact h1.step (by omega) hp
theorem Nod.fill {g:Nat→Nat→Nat} {t:Nat→Prop} {page L:Nat} {F F0:Nat→List Nat} {b:List Bool} {p p0:PS} {m:List Nat} {v:Nat} (h:Nod g t page 0) (hc:Con g F page 0) (hp:page < 4096)
    (h1:1≤L) (h4:L≤4) (hy:∀ l,l < L→g l (page / dv l)≠0) (hn:∀ l,L≤l→l < 4→g l (page / dv l)=0) (hm:m.length=4 - L) (hnd:m.Nodup) (hmt:∀ f∈m,¬ t f) (hm1:∀ f∈m,f < 1024)
    (hv:v < 18446744073709551616) (hF:∀ f,f ∉ m→F0 f=F f) (hF0:∀ f∈m,F0 f=zer) (hl:∀ f,f < 1024→(F0 f).length=64)
    (hb:∀ f,(t f∨f∈m)↔b.getD f false=true) (hbl:b.length=1024) (ok:PsOk p) (hz:p.z=p0.z) (hi:p.i=p0.i) (hu2:∀ f,t f∨f∈m→p.u.getD f 0=2) (hu0:∀ f,¬ (t f∨f∈m)→p.u.getD f 0=p0.u.getD f 0) :
    ∃ g',Going (fun f=>t f∨f∈m) (g 0 0) (fun q=>if q=page then v else g 4 q) ((List.range L).map (fun l=>g l (page / dv l) - 1) ++ m) page p0 F 4 ⟨F0,p,b,v⟩ g' (fun f=>t f∨f∈m):=by
  have hmL:∀ i,i < 4 - L→m.getD i 0∈m:=fun i hi=>getD_mem_or _ _ _ (by omega)
  have hinj:∀ i j,i < 4 - L→j < 4 - L→m.getD i 0=m.getD j 0→i=j:=fun i j hi hj e=>by
    have e1:m.getD i 0=m[i]'(by omega):=by simp[show i < m.length by omega]
    have e2:m.getD j 0=m[j]'(by omega):=by simp[show j < m.length by omega]
    rw[e1,e2] at e
    exact (List.getElem_inj hnd).1 e
  obtain⟨G,hG⟩:∃ G:Nat→Nat→Nat,G=fun l q=>if l=4 then (if q=page then v else g 4 q) else if L≤l∧q=page / dv l then m.getD (l - L) 0+1 else g l q:=⟨_,rfl⟩
  have G4:∀ q,G 4 q=if q=page then v else g 4 q:=fun q=>by rw[hG];exact if_pos rfl
  have Gm:∀ l,l < 4→L≤l→G l (page / dv l)=m.getD (l - L) 0+1:=fun l hl hL=>by rw[hG];show (if l=4 then _ else if L≤l∧page / dv l=page / dv l then _ else _)=_;rw[if_neg (by omega),if_pos ⟨hL,rfl⟩]
  have Go:∀ l q,l < 4→¬ (L≤l∧q=page / dv l)→G l q=g l q:=fun l q hl hx=>by rw[hG];simp only;rw[if_neg (by omega),if_neg hx]
  have Gw:∀ l,l < L→G l (page / dv l)=g l (page / dv l):=fun l hl=>Go l _ (by omega) (by omega)
  have Gt:∀ l q,l < 4→G l q≠0→∃ f,G l q=f+1∧(t f∨f∈m):=fun l q hl hx=>by
    by_cases c:L≤l∧q=page / dv l
    · rw[c.2,Gm l hl c.1]
      exact⟨_,rfl,.inr (hmL _ (by omega))⟩
    · rw[Go l q hl c] at hx ⊢
      exact⟨g l q - 1,by omega,.inl ((h.mem _).2 ⟨l,q,hl,by omega⟩)⟩
  have Gway:∀ l,l < 4→G l (page / dv l)≠0:=fun l hl=>by
    by_cases c:L≤l
    · rw[Gm l hl c];omega
    · rw[Gw l (by omega)];exact hy l (by omega)
  have Goff:∀ l x,l < 4→x≠page / dv (l+1)→G (l+1) x=g (l+1) x:=fun l x hl hx=>by
    by_cases c:l=3
    · subst c
      rw[G4,if_neg (by rw[dv4] at hx;exact hx)]
    · exact Go _ _ (by omega) (fun hh=>hx hh.2)
  have hsmall:∀ f,t f∨f∈m→f < 1024:=fun f hf=>hf.elim (fun hh=>h.lt hh) (hm1 f)
  refine⟨G,?_⟩
  refine { nod:=?_,con:=?_,v:=?_,vlt:=hv,way:=?_,mem:=hb,len:=hbl,four:=G4,root:=?_,sub:=fun f hf=>hf,z:=hz,i:=hi,ok:=ok,u2:=hu2,u1:=fun f a b=>absurd a b,u0:=hu0,F:=fun f hf=>hF f (fun hh=>hf (.inr hh)),long:=hl }
  · refine { root:=?_,out:=?_,le:=?_,mem:=?_,inj:=?_,up:=?_,some:=?_ }
    · rw[Go 0 0 (by omega) (by omega)];exact h.root
    · intro q hq
      rw[Go 0 q (by omega) (by omega)] at hq
      exact h.out q hq
    · intro l q hl
      rcases Nat.eq_zero_or_pos (G l q) with e | e
      · omega
      · obtain⟨f,e1,e2⟩:=Gt l q hl (by omega)
        have:=hsmall f e2
        omega
    · intro f
      constructor
      · rintro (hf | hf)
        · obtain⟨l,q,hl,e⟩:=(h.mem f).1 hf
          refine⟨l,q,hl,?_⟩
          rw[Go l q hl (fun hh=>?_)]
          · exact e
          · have:=hn l hh.1 hl
            rw[← hh.2] at this
            omega
        · obtain⟨i,hi,e⟩:=List.getElem_of_mem hf
          refine⟨L+i,page / dv (L+i),by omega,?_⟩
          rw[Gm (L+i) (by omega) (by omega),Nat.add_sub_cancel_left]
          simp[hi,e]
      · rintro⟨l,q,hl,e⟩
        obtain⟨f',e1,e2⟩:=Gt l q hl (by omega)
        rw[show f=f' by omega]
        exact e2
    · intro l q l' q' hl hl' e hne
      by_cases c:L≤l∧q=page / dv l
      · by_cases c':L≤l'∧q'=page / dv l'
        · rw[c.2,c'.2,Gm l hl c.1,Gm l' hl' c'.1] at e
          have:=hinj (l - L) (l' - L) (by omega) (by omega) (by omega)
          obtain rfl:l=l':=by omega
          exact⟨rfl,c.2.trans c'.2.symm⟩
        · rw[c.2,Gm l hl c.1,Go l' q' hl' c'] at e
          exact absurd ((h.mem _).2 ⟨l',q',hl',e.symm⟩) (hmt _ (hmL _ (by omega)))
      · by_cases c':L≤l'∧q'=page / dv l'
        · rw[c'.2,Gm l' hl' c'.1,Go l q hl c] at e
          exact absurd ((h.mem _).2 ⟨l,q,hl,e⟩) (hmt _ (hmL _ (by omega)))
        · rw[Go l q hl c] at e hne
          rw[Go l' q' hl' c'] at e
          exact h.inj l q l' q' hl hl' e hne
    · intro l q hl hne
      by_cases c:q=page / dv (l+1)
      · rw[c,← dv_div page hl]
        exact Gway l hl
      · rw[Goff l q hl c] at hne
        have:=h.up l q hl hne
        by_cases c2:L≤l∧q / 8=page / dv l
        · have:=hn l c2.1 hl
          rw[← c2.2] at this
          contradiction
        · rw[Go l _ hl c2]
          exact this
    · intro l q hl0 hl hne hx
      have hq:q≠page / dv l:=fun e=>hx ⟨hl,e⟩
      rw[Go l q hl (fun hh=>hq hh.2)] at hne
      obtain⟨j,hj,hh⟩:=h.some l q hl0 hl hne (by omega)
      refine⟨j,hj,?_⟩
      rw[Goff l _ hl (fun e=>hq (way_child page hl hj e))]
      exact hh
  · intro l q f j hl hg hj hx
    have hx':=hx hl
    rw[Goff l _ hl hx']
    by_cases c:L≤l∧q=page / dv l
    · rw[c.2,Gm l hl c.1] at hg
      have hf:f∈m:=by rw[show f=m.getD (l - L) 0 by omega];exact hmL _ (by omega)
      show numJ (F0 f) j=_
      rw[hF0 f hf,numJ_zer j hj]
      rcases Nat.eq_zero_or_pos (g (l+1) (8 * q+j)) with e | e
      · exact e.symm
      · have:=h.up l _ hl (Nat.pos_iff_ne_zero.1 e)
        rw[show (8 * q+j) / 8=q by omega,c.2] at this
        exact absurd (hn l c.1 hl) this
    · rw[Go l q hl c] at hg
      have hf:t f:=(h.mem f).2 ⟨l,q,hl,hg⟩
      show numJ (F0 f) j=_
      rw[hF f (fun hh=>hmt f hh hf)]
      exact hc l q f j hl hg hj (by omega)
  · show v=G 4 (page / dv 4)
    rw[G4,dv4,if_pos rfl]
  · intro l hl
    by_cases c:L≤l
    · rw[Gm l hl c,gaR _ _ _ (by simp;omega)]
      simp
    · rw[Gw l (by omega),gaL _ _ _ (by simp;omega)]
      have:=hy l (by omega)
      have e:((List.range L).map (fun l=>g l (page / dv l) - 1)).getD l 0=g l (page / dv l) - 1:=by
        simp[show l < L by omega]
      rw[e]
      omega
  · exact Go 0 0 (by omega) (by omega)
def freeL (u:List Nat)(n:Nat):List Nat:=(List.range n).filter (fun f=>decide (u.getD f 0=1))
theorem cntU_freeL (u:List Nat)(a n:Nat):(freeL u (a+n)).length=(freeL u a).length+cntU u 1 a n:=by
  induction n with
  | zero=>simp[cntU]
  | succ n ih =>
    rw[cntU_succ,← Nat.add_assoc]
    unfold freeL at ih ⊢
    rw[List.range_succ,List.filter_append,List.length_append,ih,Nat.add_assoc]
    congr 2
    by_cases c:u.getD (a+n) 0=1
    · rw[if_pos (by omega),List.filter_cons_of_pos (by simpa using c)];rfl
    · rw[if_neg (by omega),List.filter_cons_of_neg (by simpa using c)];rfl
theorem freeU_freeL (u:List Nat):∀ k,freeU u k=(freeL u (32 * k)).length:=by
  intro k
  induction k with
  | zero=>rfl
  | succ k ih =>
    show freeU u k+cntU u 1 (32 * k) 32=_
    rw[ih,show 32 * (k+1)=32 * k+32 by omega,cntU_freeL]
theorem mem_freeL {u:List Nat}{n f:Nat}:f∈freeL u n↔f < n∧u.getD f 0=1:=by
  unfold freeL
  rw[List.mem_filter,List.mem_range,decide_eq_true_iff]
theorem freeL_nodup (u:List Nat)(n:Nat):(freeL u n).Nodup:=List.Pairwise.filter _ List.nodup_range
theorem free_step {u u':List Nat} {t t':List Nat} (ht:t.Nodup) (ht':t'.Nodup) (hl:∀ f∈t,f < 1024) (hl':∀ f∈t',f < 1024) (h2:∀ f∈t,u.getD f 0=2) (hn:∀ f,f∈t'→f ∉ t→u.getD f 0=1)
    (hu:∀ f,f < 1024→u'.getD f 0=if f∈t' then 2 else if f∈t then 1 else u.getD f 0):freeU u' 32+t'.length=freeU u 32+t.length:=by
  rw[freeU_freeL,freeU_freeL,← List.length_append,← List.length_append]
  refine (List.perm_ext_iff_of_nodup ?_ ?_).2 (fun f=>?_) |>.length_eq
  · rw[List.nodup_append]
    refine⟨freeL_nodup _ _,ht',fun a ha b hb e=>?_⟩
    subst e
    obtain⟨h1,h3⟩:=mem_freeL.1 ha
    rw[hu a h1,if_pos hb] at h3
    omega
  · rw[List.nodup_append]
    refine⟨freeL_nodup _ _,ht,fun a ha b hb e=>?_⟩
    subst e
    obtain⟨h1,h3⟩:=mem_freeL.1 ha
    rw[h2 a hb] at h3
    omega
  · rw[List.mem_append,List.mem_append,mem_freeL,mem_freeL]
    by_cases cf:f < 1024
    · rw[hu f cf]
      by_cases c':f∈t'
      · rw[if_pos c']
        by_cases c:f∈t
        · simp[c,c']
        · exact⟨fun _=>.inl ⟨cf,hn f c' c⟩,fun _=>.inr c'⟩
      · rw[if_neg c']
        by_cases c:f∈t
        · rw[if_pos c];simp[c];omega
        · rw[if_neg c];simp[c,c']
    · constructor
      · rintro (⟨h1,_⟩ | h1)
        · omega
        · exact absurd (hl' f h1) cf
      · rintro (⟨h1,_⟩ | h1)
        · omega
        · exact absurd (hl f h1) cf
def hadP (p:PS)(m:List Nat):PS:=⟨m.foldl (fun u f=>u.set f 2) p.u,p.z,p.i⟩
def Took (p:PS)(m:List Nat):Prop:=∀ j,j < m.length→FirstF (hadP p (m.take j)) 2 (2 ^ 0) (some (m.getD j 0))
theorem hadP_snoc (p:PS)(m:List Nat)(f:Nat):hadP p (m ++ [f])=⟨(hadP p m).u.set f 2,p.z,p.i⟩:=by
  unfold hadP
  rw[List.foldl_append]
  rfl
theorem hadP_len (p:PS)(m:List Nat):(hadP p m).u.length=p.u.length:=by
  refine snoc_ind (P:=fun m=>(hadP p m).u.length=p.u.length) rfl ?_ m
  intro l x ih
  rw[hadP_snoc]
  show ((hadP p l).u.set x 2).length=_
  rw[List.length_set,ih]
theorem hadP_u (p:PS)(m:List Nat)(hl:∀ f∈m,f < p.u.length)(x:Nat):(hadP p m).u.getD x 0=if x∈m then 2 else p.u.getD x 0:=by
  revert hl
  refine snoc_ind (P:=fun m=>(∀ f∈m,f < p.u.length)→(hadP p m).u.getD x 0=if x∈m then 2 else p.u.getD x 0) ?_ ?_ m
  · intro _
    rw[if_neg (by simp)]
    rfl
  · intro l y ih hl
    rw[hadP_snoc]
    show ((hadP p l).u.set y 2).getD x 0=_
    by_cases c:x=y
    · subst c
      rw[getD_set_same _ _ _ _ (by rw[hadP_len];exact hl x (by simp)),if_pos (by simp)]
    · rw[getD_set_ne _ _ _ _ _ c,ih (fun f hf=>hl f (by simp[hf]))]
      by_cases c2:x∈l
      · rw[if_pos c2,if_pos (by simp[c2])]
      · rw[if_neg c2,if_neg (by simp[c,c2])]
theorem hadP_ok {p:PS}(h:PsOk p)(m:List Nat):PsOk (hadP p m):=by
  refine snoc_ind (P:=fun m=>PsOk (hadP p m)) h ?_ m
  intro l x ih
  rw[hadP_snoc]
  exact ih.setU x 2 (by omega)
theorem Took.nil (p:PS):Took p []:=fun j hj=>by simp at hj
theorem Took.snoc {p:PS}{m:List Nat}{f:Nat}(h:Took p m)(hf:FirstF (hadP p m) 2 (2 ^ 0) (some f)):Took p (m ++ [f]):=by
  intro j hj
  rw[List.length_append] at hj
  by_cases c:j < m.length
  · rw[List.take_append_of_le_length (by omega),gaL _ _ _ c]
    exact h j c
  · have e:j=m.length:=by simp at hj;omega
    rw[e,List.take_left,gaR _ _ _ (Nat.le_refl _),Nat.sub_self]
    exact hf
theorem Took.take {p:PS}{m:List Nat}(h:Took p m)(k:Nat):Took p (m.take k):=by
  intro j hj
  rw[List.length_take] at hj
  have e:(m.take k).getD j 0=m.getD j 0:=by
    rw[List.getD_eq_getElem?_getD,List.getD_eq_getElem?_getD,List.getElem?_take,if_pos (by omega)]
  rw[List.take_take,Nat.min_eq_left (by omega),e]
  exact h j (by omega)
theorem Took.all {p:PS}(hp:PsOk p):∀ m:List Nat,Took p m→m.Nodup∧∀ f∈m,f < 1024∧p.u.getD f 0=1:=by
  intro m
  refine snoc_ind (P:=fun m=>Took p m→m.Nodup∧∀ f∈m,f < 1024∧p.u.getD f 0=1) ?_ ?_ m
  · intro _
    exact⟨List.nodup_nil,fun f hf=>by simp at hf⟩
  · intro l y ih h
    have hl:Took p l:=by
      have:=h.take l.length
      rwa [List.take_left] at this
    obtain⟨h1,h2⟩:=ih hl
    have hy:=h l.length (by simp)
    rw[List.take_left,gaR _ _ _ (Nat.le_refl _),Nat.sub_self] at hy
    obtain⟨⟨_,hy1,_,_,hy2⟩,_⟩:=hy
    have hy3:=hy2 _ (Nat.le_refl _) (by omega)
    have hy1':y < 1024:=hy1
    have hy3':(hadP p l).u.getD y 0=1:=hy3
    rw[hadP_u p l (fun f hf=>by rw[hp.u];exact (h2 f hf).1)] at hy3'
    have hn:y ∉ l:=fun hh=>by rw[if_pos hh] at hy3';omega
    rw[if_neg hn] at hy3'
    refine⟨?_,fun f hf=>?_⟩
    · rw[List.nodup_append]
      exact⟨h1,by simp,fun a ha b hb e=>hn (by rw[List.mem_singleton] at hb;rw[← hb,← e];exact ha)⟩
    · rw[List.mem_append,List.mem_singleton] at hf
      rcases hf with hf | rfl
      · exact h2 f hf
      · exact⟨hy1',hy3'⟩
theorem Took.full {p:PS}(hp:PsOk p){m:List Nat}(h:Took p m)(hn:FirstF (hadP p m) 2 (2 ^ 0) none)(ha:AllN p):freeU p.u 32≤m.length:=by
  obtain⟨h1,h2⟩:=h.all hp
  rw[freeU_freeL]
  have hsub:∀ f∈freeL p.u (32 * 32),f∈m:=by
    intro f hf
    obtain⟨hf1,hf2⟩:=mem_freeL.1 hf
    rcases Classical.em (f∈m) with c | c
    · exact c
    · refine absurd ?_ (hn f)
      obtain⟨z1,z2⟩:=ha f hf1 (.inl hf2)
      refine⟨Nat.mod_one f,hf1,z1,z2,fun k k1 k2=>?_⟩
      obtain rfl:k=f:=by omega
      rw[hadP_u p m (fun f hf=>by rw[hp.u];exact (h2 f hf).1),if_neg c]
      exact hf2
  exact List.Nodup.length_le_of_subset (freeL_nodup _ _) hsub
def freeAll (p:PS)(m:List Nat):PS:=m.foldl (fun p (f:Nat)=>(freeP p (f:Int)).2) p
theorem freeAll_snoc (p:PS)(m:List Nat)(f:Nat):freeAll p (m ++ [f])=(freeP (freeAll p m) (f:Int)).2:=by
  unfold freeAll
  rw[List.foldl_append]
  rfl
theorem freeAll_ok {p:PS}(h:PsOk p)(m:List Nat):PsOk (freeAll p m):=by
  refine snoc_ind (P:=fun m=>PsOk (freeAll p m)) h ?_ m
  intro l x ih
  rw[freeAll_snoc]
  exact freeP_ok ih _
theorem freeAll_at {p:PS}(hp:PsOk p):∀ m:List Nat,(∀ f∈m,f < 1024)→(∀ f∈m,p.u.getD f 0=2∨p.u.getD f 0=6)→(freeAll p m).z=p.z∧(freeAll p m).i=p.i∧∀ x,(freeAll p m).u.getD x 0=if x∈m∧p.u.getD x 0=2 then 1 else p.u.getD x 0:=by
  intro m
  refine snoc_ind (P:=fun m=>(∀ f∈m,f < 1024)→(∀ f∈m,p.u.getD f 0=2∨p.u.getD f 0=6)→(freeAll p m).z=p.z∧(freeAll p m).i=p.i∧∀ x,(freeAll p m).u.getD x 0=if x∈m∧p.u.getD x 0=2 then 1 else p.u.getD x 0) ?_ ?_ m
  · intro _ _
    exact⟨rfl,rfl,fun x=>by rw[if_neg (by simp)];rfl⟩
  · intro l y ih hl h2
    obtain⟨i1,i2,i3⟩:=ih (fun f hf=>hl f (by simp[hf])) (fun f hf=>h2 f (by simp[hf]))
    have hy:=hl y (by simp)
    have hok:=freeAll_ok hp l
    have hyu:=i3 y
    rw[freeAll_snoc]
    unfold freeP
    rw[useP_in _ hy,Int.toNat_natCast]
    by_cases c:2≤(freeAll p l).u.getD y 0∧(freeAll p l).u.getD y 0≤5
    · rw[if_pos c]
      refine⟨i1,i2,fun x=>?_⟩
      show ((freeAll p l).u.set y 1).getD x 0=_
      by_cases cx:x=y
      · subst cx
        rw[getD_set_same _ _ _ _ (by rw[hok.u];exact hy)]
        have hx2:p.u.getD x 0=2:=by
          rcases h2 x (by simp) with e | e
          · exact e
          · by_cases c3:x∈l∧p.u.getD x 0=2
            · exact c3.2
            · rw[if_neg c3] at hyu;omega
        rw[if_pos ⟨by simp,hx2⟩]
      · rw[getD_set_ne _ _ _ _ _ cx,i3 x]
        simp[cx]
    · rw[if_neg c]
      refine⟨i1,i2,fun x=>?_⟩
      show (freeAll p l).u.getD x 0=_
      by_cases cx:x=y
      · subst cx
        rw[hyu] at c ⊢
        by_cases c3:x∈l∧p.u.getD x 0=2
        · rw[if_pos c3,if_pos ⟨by simp,c3.2⟩]
        · rw[if_neg c3] at c ⊢
          rcases h2 x (by simp) with e | e
          · rw[e] at c;omega
          · rw[if_neg (by omega)]
      · rw[i3 x]
        simp[cx]
theorem had_freed {p:PS}(hp:PsOk p){m:List Nat}(h:Took p m):freeAll (hadP p m) m=p:=by
  obtain⟨h1,h2⟩:=h.all hp
  have hu:=hadP_u p m (fun f hf=>by rw[hp.u];exact (h2 f hf).1)
  obtain⟨a,b,c⟩:=freeAll_at (hadP_ok hp m) m (fun f hf=>(h2 f hf).1) (fun f hf=>.inl (by rw[hu,if_pos hf]))
  have hl:=(freeAll_ok (hadP_ok hp m) m).u
  obtain⟨U,Z,I⟩:=p
  have e:freeAll (hadP ⟨U,Z,I⟩ m) m=⟨U,Z,I⟩:=by
    generalize hX:freeAll (hadP ⟨U,Z,I⟩ m) m=X at a b c hl
    obtain⟨U',Z',I'⟩:=X
    simp only at a b c hl
    have e1:U'=U:=listN_ext (hl.trans hp.u.symm) fun x hx=>by
      rw[c x,hu x]
      by_cases cm:x∈m
      · rw[if_pos cm,if_pos ⟨cm,rfl⟩]
        exact (h2 x cm).2.symm
      · rw[if_neg cm,if_neg (fun hh=>cm hh.1)]
    have a':Z'=Z:=a
    have b':I'=I:=b
    rw[e1,a',b']
  exact e
theorem putB_out {b:List Bool}{c:Bool}:∀ {m:List Nat},(∀ f∈m,b.getD f false=c)→putB b c (m.map (fun (f:Nat)=>(f:Int)))=b:=by
  intro m
  induction m with
  | nil=>intro _;rfl
  | cons f m ih =>
    intro h
    show putB (if 0≤(f:Int)∧(f:Int) < (b.length:Int) then b.set ((f:Int).toNat) c else b) c _=b
    have e:(if 0≤(f:Int)∧(f:Int) < (b.length:Int) then b.set ((f:Int).toNat) c else b)=b:=by
      split
      · rename_i hh
        rw[Int.toNat_natCast]
        refine getD_ext (by simp) fun x hx=>?_
        by_cases cx:x=f
        · subst cx
          rw[getD_set_same _ _ _ _ (by omega)]
          exact (h x (by simp)).symm
        · rw[getD_set_ne _ _ _ _ _ cx]
      · rfl
    rw[e]
    exact ih fun g hg=>h g (by simp[hg])
theorem putB_at {b:List Bool}{c:Bool}:∀ {m:List Nat},(∀ f∈m,f < b.length)→∀ x,(putB b c (m.map (fun (f:Nat)=>(f:Int)))).getD x false=if x∈m then c else b.getD x false:=by
  intro m
  refine snoc_ind (P:=fun m=>(∀ f∈m,f < b.length)→∀ x,(putB b c (m.map (fun (f:Nat)=>(f:Int)))).getD x false=if x∈m then c else b.getD x false) ?_ ?_ m
  · intro _ x
    rw[if_neg (by simp)]
    rfl
  · intro l y ih hl x
    rw[List.map_append,List.map_cons,List.map_nil,putB_snoc,if_pos (by have:=hl y (by simp);omega),Int.toNat_natCast]
    by_cases cx:x=y
    · subst cx
      rw[getD_set_same _ _ _ _ (by rw[putB_length];exact hl x (by simp)),if_pos (by simp)]
    · rw[getD_set_ne _ _ _ _ _ cx,ih (fun f hf=>hl f (by simp[hf]))]
      simp[cx]
end Go.Proofs.YtaonpmclkafjdaaGreat
namespace Go.Proofs.YtaonpmclkafjdaaGreat
open Go.RowKit
set_option linter.unusedVariables false
def treeV (gR gP r gS:Nat):Array Value:=#[.pointer (some ⟨gR,0,none⟩),.pointer (some ⟨gP,0,none⟩),.int .i64 (r:Int),.pointer (some ⟨gS,0,none⟩)]
def treeD:Array Value:=#[.pointer none,.pointer none,.int .i64 0,.pointer none]
def TreeB (w:World)(gT gR gP r gS:Nat):Prop:=Blk w gT 174 (treeV gR gP r gS)
theorem Blk.oth {w:World}{g g' i:Nat}{t:TypeId}{cs:Array Value}{u:Value}(h:Blk w g t cs)(hne:g≠g'):Blk (w.setCell ⟨g',i,none⟩ u) g t cs:=(Below.heap_setCell _ _ _ _ hne).trans h
theorem Blk.eq_ {w:World}{g:Nat}{t:TypeId}{cs cs':Array Value}(h:Blk w g t cs)(e:cs=cs'):Blk w g t cs':=e ▸ h
set_option maxHeartbeats 400000 in
theorem tmay_out (gT gR gP r gS:Nat) (page:Int) (w:World) (h:TreeB w gT gR gP r gS) (hp:page < 0∨4095 < page) :
    Calls Tryz.prog 44 #[.pointer (some ⟨gT,0,none⟩),.int .i64 page] w fun e w'=>e=.returned (.int .i64 1)∧w=w':=by
  have c0:w.cell? ⟨gT,0,none⟩=some (.pointer (some ⟨gR,0,none⟩)):=Blk.cell h 0
  clear h
  by_cases h1:page < 0
  · have d1:decide (page < 0)=true:=decide_eq_true h1
    clear hp
    go_enter Tryz.func44,Tryz.ntmps44
    go_wp2
    go_ret
    exact⟨rfl,rfl⟩
  · have d1:decide (page < 0)=false:=decide_eq_false h1
    have d2:decide (4096≤page)=true:=decide_eq_true (by omega)
    clear hp
    go_enter Tryz.func44,Tryz.ntmps44
    go_wp2
    go_ret
    exact⟨rfl,rfl⟩
set_option maxHeartbeats 400000 in
theorem tmay_in (gT gR gP r gS page:Nat) (w:World) (h:TreeB w gT gR gP r gS) (hp:page < 4096) :
    Calls Tryz.prog 44 #[.pointer (some ⟨gT,0,none⟩),.int .i64 (page:Int)] w fun e w'=>e=.returned (.int .i64 0)∧w=w':=by
  have c0:w.cell? ⟨gT,0,none⟩=some (.pointer (some ⟨gR,0,none⟩)):=Blk.cell h 0
  clear h
  have d1:decide ((page:Int) < 0)=false:=decide_eq_false (by omega)
  have d2:decide (4096≤(page:Int))=false:=decide_eq_false (by omega)
  go_enter Tryz.func44,Tryz.ntmps44
  go_wp2
  go_ret
  exact⟨rfl,rfl⟩
theorem tells_any (f:Nat) (w:World) (hf:f < 1024) :
    Calls Tryz.prog 97 #[.int .i64 (f:Int)] w fun e w'=>e=.returned (.int .u64 ((f+1:Nat):Int))∧w=w':=by
  go_enter Tryz.func97,Tryz.ntmps97
  go_wp2
  go_ret
  exact⟨by go_num,rfl⟩
def digK (page k:Nat):Array Value:=#[.int .i64 ((if 4≤k then page / 512 % 8 else 0:Nat):Int),.int .i64 ((if 3≤k then page / 64 % 8 else 0:Nat):Int),.int .i64 ((if 2≤k then page / 8 % 8 else 0:Nat):Int),.int .i64 ((if 1≤k then page % 8 else 0:Nat):Int)]
def digV (page:Nat):Array Value:=#[.int .i64 ((page / 512 % 8:Nat):Int),.int .i64 ((page / 64 % 8:Nat):Int),.int .i64 ((page / 8 % 8:Nat):Int),.int .i64 ((page % 8:Nat):Int)]
theorem digV_at (page:Nat){l:Nat}(h:l < 4):(digV page)[l]?=some (.int .i64 ((page / dv (l+1) % 8:Nat):Int)):=by
  rcases four h with rfl | rfl | rfl | rfl
  · rfl
  · rfl
  · rfl
  · show _=some (Value.int .i64 ((page / 1 % 8:Nat):Int))
    rw[Nat.div_one]
    rfl
set_option maxRecDepth 20000 in
set_option maxHeartbeats 800000 in
theorem digits_any (page:Nat) (w:World) (hp:page < 4096) :
    Calls Tryz.prog 46 #[.int .i64 (page:Int)] w fun e w'=>e=.returned (.agg (digV page))∧Below w.heap.size w w':=by
  have B0:=Lib.hid ((Blk.new w 98 (digK page 0)).al (.cells (digK page 0) 98))
  have B1:=Lib.hid (Blk.new1 w (.cells (digK page 0) 98) 98 (digK page 0))
  have HB:=Lib.hid (((Below.refl w.heap.size w).alloc (Nat.le_refl _) (.cells (digK page 0) 98)).alloc (by simp) (.cells (digK page 0) 98))
  go_enter Tryz.func46,Tryz.ntmps46
  go_wp2_with fail
  go_loopg [0,4,5] 4 (fun gg s0 _ s5 wx=>∃ k:Nat,k+gg=4∧s5=.int .i64 (k:Int)∧s0=.int .i64 ((page / 8 ^ k:Nat):Int)∧Blk wx (w.heap.size+1) 98 (digK page k)∧Blk wx w.heap.size 98 (digK page 0)∧Below w.heap.size w wx)
  case atStart=>exact⟨0,rfl,rfl,by simp,B1.out,B0.out,HB.out⟩
  case round =>
    obtain⟨k,hkg,rfl,rfl,h1,h0,hb⟩:=hrel
    have H1:=Lib.hid h1
    have H0:=Lib.hid h0
    have HB1:=Lib.hid hb
    clear h0 hb
    obtain⟨P,hP⟩:∃ P,P=page / 8 ^ k:=⟨_,rfl⟩
    rw[← hP]
    have hw1:IntKind.i64.wrap (((P % 8:Nat):Int))=((P % 8:Nat):Int):=by rw[IntKind.wrap_i64];omega
    by_cases hlt:k < 4
    · have t1:decide ((k:Int) < 4)=true:=decide_eq_true (by omega)
      have fz:wr.frozen? ⟨w.heap.size+1,3 - k,none⟩=false:=h1.frozen _
      have cz:wr.cell? ⟨w.heap.size+1,3 - k,none⟩=some (.int .i64 0):=by
        rw[h1.cell]
        rcases (show k=0∨k=1∨k=2∨k=3 by omega) with rfl | rfl | rfl | rfl <;> rfl
      clear h1
      have HP:=Lib.hid hP
      clear hP
      go_wp2_with fail
      go_roundg (4 - (k+1))
      case measure=>omega
      case rel =>
        refine⟨k+1,by omega,by go_num,?_,?_,H0.out.oth (by omega),HB1.out.setCell (by simp) _⟩
        · have hP4:P < 4096:=by rw[HP.out];exact Nat.lt_of_le_of_lt (Nat.div_le_self _ _) hp
          rw[show wrap64 ((P:Int) / 8)=(P:Int) / 8 from by unfold wrap64;omega]
          have:P / 8=page / 8 ^ (k+1):=by rw[HP.out,Nat.div_div_eq_div_mul,Nat.pow_succ]
          rw[← this]
          rfl
        · refine (H1.out.set_ _ _).eq_ ?_
          have e:P=page / 8 ^ k:=HP.out
          rcases (show k=0∨k=1∨k=2∨k=3 by omega) with rfl | rfl | rfl | rfl
          · rw[Nat.pow_zero,Nat.div_one] at e
            subst e;rfl
          · subst e;rfl
          · subst e;rfl
          · subst e;rfl
    · obtain rfl:k=4:=by omega
      obtain⟨d0,e0⟩:∃ d,d=(digK page 4)[0]! := ⟨_,rfl⟩
      have c0:wr.cell? ⟨w.heap.size+1,0,none⟩=some (.int .i64 ((page / 512 % 8:Nat):Int)):=h1.cell 0
      have c1:wr.cell? ⟨w.heap.size+1,1,none⟩=some (.int .i64 ((page / 64 % 8:Nat):Int)):=h1.cell 1
      have c2:wr.cell? ⟨w.heap.size+1,2,none⟩=some (.int .i64 ((page / 8 % 8:Nat):Int)):=h1.cell 2
      have c3:wr.cell? ⟨w.heap.size+1,3,none⟩=some (.int .i64 ((page % 8:Nat):Int)):=h1.cell 3
      have b0:wr.cell? ⟨w.heap.size,0,none⟩=some (.int .i64 0):=H0.out.cell 0
      have b1:wr.cell? ⟨w.heap.size,1,none⟩=some (.int .i64 0):=H0.out.cell 1
      have b2:wr.cell? ⟨w.heap.size,2,none⟩=some (.int .i64 0):=H0.out.cell 2
      have b3:wr.cell? ⟨w.heap.size,3,none⟩=some (.int .i64 0):=H0.out.cell 3
      have f0:wr.frozen? ⟨w.heap.size,0,none⟩=false:=H0.out.frozen 0
      have f1:wr.frozen? ⟨w.heap.size,1,none⟩=false:=H0.out.frozen 1
      have f2:wr.frozen? ⟨w.heap.size,2,none⟩=false:=H0.out.frozen 2
      have f3:wr.frozen? ⟨w.heap.size,3,none⟩=false:=H0.out.frozen 3
      clear h1
      go_wp2_with fail
      refine bodyPost_ret (results_cell_row rfl _ _ w.heap.size 98 (digV page) (0,0) _ rfl (((((H0.out.set_ 0 _).set_ 1 _).set_ 2 _).set_ 3 _).eq_ rfl) Tryz.underlying98 rfl (by kernel_rfl)) rfl ?_
      exact⟨rfl,(((HB1.out.setCell (Nat.le_refl _) _).setCell (Nat.le_refl _) _).setCell (Nat.le_refl _) _).setCell (Nat.le_refl _) _⟩
def tabV (xs:List Nat):Array Value:=#[.int .u64 ((numJ xs 0:Nat):Int),.int .u64 ((numJ xs 1:Nat):Int),.int .u64 ((numJ xs 2:Nat):Int),.int .u64 ((numJ xs 3:Nat):Int),.int .u64 ((numJ xs 4:Nat):Int),.int .u64 ((numJ xs 5:Nat):Int),.int .u64 ((numJ xs 6:Nat):Int),.int .u64 ((numJ xs 7:Nat):Int)]
def tabK (xs:List Nat)(k:Nat):Array Value:=#[.int .u64 ((if 0 < k then numJ xs 0 else 0:Nat):Int),.int .u64 ((if 1 < k then numJ xs 1 else 0:Nat):Int),.int .u64 ((if 2 < k then numJ xs 2 else 0:Nat):Int),.int .u64 ((if 3 < k then numJ xs 3 else 0:Nat):Int),.int .u64 ((if 4 < k then numJ xs 4 else 0:Nat):Int),.int .u64 ((if 5 < k then numJ xs 5 else 0:Nat):Int),.int .u64 ((if 6 < k then numJ xs 6 else 0:Nat):Int),.int .u64 ((if 7 < k then numJ xs 7 else 0:Nat):Int)]
theorem eight_ {k:Nat}(h:k < 8):k=0∨k=1∨k=2∨k=3∨k=4∨k=5∨k=6∨k=7:=by omega
theorem tabK_at (xs:List Nat){k:Nat}(h:k < 8):(tabK xs k)[k]?=some (.int .u64 0):=by
  rcases eight_ h with rfl | rfl | rfl | rfl | rfl | rfl | rfl | rfl <;> rfl
theorem tabK_next (xs:List Nat){k:Nat}(h:k < 8):(tabK xs k).setIfInBounds k (.int .u64 ((numJ xs k:Nat):Int))=tabK xs (k+1):=by
  rcases eight_ h with rfl | rfl | rfl | rfl | rfl | rfl | rfl | rfl <;> rfl
theorem tabV_at (xs:List Nat){k:Nat}(h:k < 8):(tabV xs)[k]?=some (.int .u64 ((numJ xs k:Nat):Int)):=by
  rcases eight_ h with rfl | rfl | rfl | rfl | rfl | rfl | rfl | rfl <;> rfl
def tabW (w:World)(g:Nat)(X:List Nat):World:=((((((((w.setCell ⟨g,0,none⟩ (.int .u64 ((numJ X 0:Nat):Int))).setCell ⟨g,1,none⟩ (.int .u64 ((numJ X 1:Nat):Int))).setCell ⟨g,2,none⟩ (.int .u64 ((numJ X 2:Nat):Int))).setCell ⟨g,3,none⟩ (.int .u64 ((numJ X 3:Nat):Int))).setCell ⟨g,4,none⟩ (.int .u64 ((numJ X 4:Nat):Int))).setCell ⟨g,5,none⟩ (.int .u64 ((numJ X 5:Nat):Int))).setCell ⟨g,6,none⟩ (.int .u64 ((numJ X 6:Nat):Int))).setCell ⟨g,7,none⟩ (.int .u64 ((numJ X 7:Nat):Int)))
theorem tab_stored {w:World}{g:Nat}{t:TypeId}{X:List Nat}(h:Blk w g t (tabK X 0)):Blk (tabW w g X) g t (tabV X):=((((((((((((((((h.set_ 0 _).eq_ (tabK_next X (show 0 < 8 by omega))).set_ 1 _).eq_ (tabK_next X (show 1 < 8 by omega))).set_ 2 _).eq_ (tabK_next X (show 2 < 8 by omega))).set_ 3 _).eq_ (tabK_next X (show 3 < 8 by omega))).set_ 4 _).eq_ (tabK_next X (show 4 < 8 by omega))).set_ 5 _).eq_ (tabK_next X (show 5 < 8 by omega))).set_ 6 _).eq_ (tabK_next X (show 6 < 8 by omega))).set_ 7 _).eq_ (tabK_next X (show 7 < 8 by omega)))
theorem tab_below {w0 w:World}{B g:Nat}{X:List Nat}(h:Below B w0 w)(hg:B≤g):Below B w0 (tabW w g X):=((((((((h.setCell (p:=⟨g,0,none⟩) hg _).setCell (p:=⟨g,1,none⟩) hg _).setCell (p:=⟨g,2,none⟩) hg _).setCell (p:=⟨g,3,none⟩) hg _).setCell (p:=⟨g,4,none⟩) hg _).setCell (p:=⟨g,5,none⟩) hg _).setCell (p:=⟨g,6,none⟩) hg _).setCell (p:=⟨g,7,none⟩) hg _)
theorem Blk.bts {w:World}{g B:Nat}{xs:List Nat}(h:Blk w g 5 (xs.map bv).toArray)(hg:g < B)(hx:∀ y∈xs,y < 256)(hl:xs.length≤maxLen)(n:Nat)(hn:xs.length=n):Bts w B (.slice (some ⟨g,0,none⟩) n n) xs:=by
  subst hn
  refine⟨_,_,_,rfl,rfl,hl,⟨Nat.le_refl _,fun e=>by cases e⟩,hl,fun j hj=>?_,fun h0=>⟨g,0,rfl,hg,fun j hj=>?_⟩⟩
  · have e:xs.getD j 0=xs[j]:=by simp[hj]
    rw[e]
    exact hx _ (List.getElem_mem _)
  · rw[h.cell,Nat.zero_add]
    simp[bv,hj]
set_option maxRecDepth 20000 in
set_option maxHeartbeats 1600000 in
theorem tread_ok (gT gR gF gP r gS f:Nat) (F:Nat→List Nat) (bad:Nat→Bool) (w:World) (hT:TreeB w gT gR gP r gS) (hM:Mem w gR gF 1024 F bad) (hf:f < 1024) (hb:bad f=false) :
    Calls Tryz.prog 98 #[.pointer (some ⟨gT,0,none⟩),.int .i64 (f:Int)] w fun e w'=>e=.returned (.tuple #[.agg (tabV (F f)),.int .i64 0])∧Below w.heap.size w w':=by
  have hM':Mem (w.alloc (.cells (tabK (F f) 0) 177)) gR gF 1024 F bad:=hM.alloc _
  have RD:=Lib.hid (read_yes gR gF 1024 F bad f 0 64 _ hM' hf (by omega) hb)
  have HBY:=Lib.hid (hM.byte hf)
  have HLN:=Lib.hid (hM.long hf)
  have c0:(w.alloc (.cells #[.int .u64 0,.int .u64 0,.int .u64 0,.int .u64 0,.int .u64 0,.int .u64 0,.int .u64 0,.int .u64 0] 177)).cell? ⟨gT,0,none⟩=some (.pointer (some ⟨gR,0,none⟩)):=Blk.cell (Blk.al hT _) 0
  have B0:=Lib.hid (Blk.new w 177 (tabK (F f) 0))
  have HB0:=Lib.hid ((Below.refl w.heap.size w).alloc (Nat.le_refl _) (.cells (tabK (F f) 0) 177))
  have HW:=Lib.hid (win_whole (F f) 64 HLN.out)
  clear hM hM' hT hb
  obtain⟨X,hX⟩:∃ X,X=F f:=⟨_,rfl⟩
  rw[← hX] at RD HBY HLN B0 HB0 HW ⊢
  clear hX
  go_enter Tryz.func98,Tryz.ntmps98
  go_wp2_with fail
  refine RD.out.mono ?_
  rintro e w1 ⟨rfl,h1,h2,h3⟩
  rw[World.size_alloc] at h1 h2 h3 ⊢
  have HBY1:=Lib.hid (h1.bts (B:=w1.heap.size) h1.lt (by rw[HW.out];exact HBY.out) (by rw[HW.out,HLN.out];decide) 64 (by rw[HW.out];exact HLN.out))
  have HB1:=Lib.hid (HB0.out.trans (h2.mono (by simp)))
  have B1:=Lib.hid (B0.out.below h2 (by simp))
  have H3:=Lib.hid h3
  clear h1 h2 h3
  have R2:=Lib.hid (Blk.new w1 177 (tabK X 0))
  have HB2:=Lib.hid ((Below.refl w1.heap.size w1).alloc (Nat.le_refl _) (.cells (tabK X 0) 177))
  go_wp2_with fail
  go_loopg [9,23] 8 (fun gg _ s23 wx=>∃ k:Nat,k+gg=8∧s23=.int .i64 (k:Int)∧Blk wx w1.heap.size 177 (tabK X k)∧Below w1.heap.size w1 wx)
  case atStart=>exact⟨0,rfl,rfl,R2.out,HB2.out⟩
  case round =>
    obtain⟨k,hkg,rfl,hr,hb⟩:=hrel
    have HR:=Lib.hid hr
    have HBX:=Lib.hid hb
    by_cases hlt:k < 8
    · have t1:decide ((k:Int) < 8)=true:=decide_eq_true (by omega)
      have GT:=Lib.hid (get_yes _ _ w1.heap.size ((k:Int) * 8) 8 wr (HBY1.out.below hb) (by rw[HW.out,HLN.out];unfold Fit;omega))
      have GV:=Lib.hid (show getV (win X 0 64) ((k:Int) * 8) 8=((numJ X k:Nat):Int) from by
        unfold getV numJ
        rw[HW.out,show ((k:Int) * 8).toNat=8 * k by omega]
        rfl)
      have fz:wr.frozen? ⟨w1.heap.size,k,none⟩=false:=hr.frozen _
      have cz:wr.cell? ⟨w1.heap.size,k,none⟩=some (.int .u64 0):=by rw[hr.cell];exact tabK_at X hlt
      rw[GV.out] at GT
      clear hr hb
      go_wp2_with (go_at_call 145;refine GT.out.mono ?_;rintro e w' ⟨rfl,rfl⟩)
      go_roundg (8 - (k+1))
      case measure=>omega
      case rel=>exact⟨k+1,by omega,by go_num,(HR.out.set_ _ _).eq_ (tabK_next X hlt),HBX.out.setCell (Nat.le_refl _) _⟩
    · obtain rfl:k=8:=by omega
      have BR:=Lib.hid (B1.out.below hb B1.out.lt)
      have c0:wr.cell? ⟨w1.heap.size,0,none⟩=some (.int .u64 ((numJ X 0:Nat):Int)):=hr.cell 0
      have c1:wr.cell? ⟨w1.heap.size,1,none⟩=some (.int .u64 ((numJ X 1:Nat):Int)):=hr.cell 1
      have c2:wr.cell? ⟨w1.heap.size,2,none⟩=some (.int .u64 ((numJ X 2:Nat):Int)):=hr.cell 2
      have c3:wr.cell? ⟨w1.heap.size,3,none⟩=some (.int .u64 ((numJ X 3:Nat):Int)):=hr.cell 3
      have c4:wr.cell? ⟨w1.heap.size,4,none⟩=some (.int .u64 ((numJ X 4:Nat):Int)):=hr.cell 4
      have c5:wr.cell? ⟨w1.heap.size,5,none⟩=some (.int .u64 ((numJ X 5:Nat):Int)):=hr.cell 5
      have c6:wr.cell? ⟨w1.heap.size,6,none⟩=some (.int .u64 ((numJ X 6:Nat):Int)):=hr.cell 6
      have c7:wr.cell? ⟨w1.heap.size,7,none⟩=some (.int .u64 ((numJ X 7:Nat):Int)):=hr.cell 7
      have b0:wr.cell? ⟨w.heap.size,0,none⟩=some (.int .u64 0):=BR.out.cell 0
      have f0:wr.frozen? ⟨w.heap.size,0,none⟩=false:=BR.out.frozen 0
      have b1:wr.cell? ⟨w.heap.size,1,none⟩=some (.int .u64 0):=BR.out.cell 1
      have f1:wr.frozen? ⟨w.heap.size,1,none⟩=false:=BR.out.frozen 1
      have b2:wr.cell? ⟨w.heap.size,2,none⟩=some (.int .u64 0):=BR.out.cell 2
      have f2:wr.frozen? ⟨w.heap.size,2,none⟩=false:=BR.out.frozen 2
      have b3:wr.cell? ⟨w.heap.size,3,none⟩=some (.int .u64 0):=BR.out.cell 3
      have f3:wr.frozen? ⟨w.heap.size,3,none⟩=false:=BR.out.frozen 3
      have b4:wr.cell? ⟨w.heap.size,4,none⟩=some (.int .u64 0):=BR.out.cell 4
      have f4:wr.frozen? ⟨w.heap.size,4,none⟩=false:=BR.out.frozen 4
      have b5:wr.cell? ⟨w.heap.size,5,none⟩=some (.int .u64 0):=BR.out.cell 5
      have f5:wr.frozen? ⟨w.heap.size,5,none⟩=false:=BR.out.frozen 5
      have b6:wr.cell? ⟨w.heap.size,6,none⟩=some (.int .u64 0):=BR.out.cell 6
      have f6:wr.frozen? ⟨w.heap.size,6,none⟩=false:=BR.out.frozen 6
      have b7:wr.cell? ⟨w.heap.size,7,none⟩=some (.int .u64 0):=BR.out.cell 7
      have f7:wr.frozen? ⟨w.heap.size,7,none⟩=false:=BR.out.frozen 7
      clear hr hb
      go_wp2_with fail
      have HB3:Below w.heap.size w wr:=HB1.out.trans (HBX.out.mono HB1.out.size)
      have e:=Lib.hid (tab_stored BR.out)
      have e2:=Lib.hid (tab_below (X:=X) HB3 (Nat.le_refl w.heap.size))
      unfold tabW at e e2
      refine bodyPost_ret (results_row_tmp rfl _ _ w.heap.size 177 (tabV X) _ rfl e.out Tryz.underlying177 rfl (by kernel_rfl)) rfl ?_
      exact⟨rfl,e2.out⟩
theorem putV_8 (v:Nat):putV (zs 8) 0 v 8=((numL v 8).map bv).toArray:=by
  apply Array.ext_getElem?
  intro j
  rw[putV_at _ _ _ _ _ (by rw[zs,Array.size_replicate];omega)]
  by_cases c:j < 8
  · rw[if_pos (by omega)]
    simp[numL,c]
  · rw[if_neg (by omega)]
    simp[numL,zs,c]
set_option maxRecDepth 20000 in
set_option maxHeartbeats 800000 in
theorem twrite_any (gT gR gF gP r gS f d v:Nat) (F:Nat→List Nat) (bad:Nat→Bool) (w:World) (hT:TreeB w gT gR gP r gS) (hM:Mem w gR gF 1024 F bad) (hf:f < 1024) (hb:bad f=false) (hd:d < 8) (hv:v < 18446744073709551616) (hne:gT≠gF) :
    Calls Tryz.prog 214 #[.pointer (some ⟨gT,0,none⟩),.int .i64 (f:Int),.int .i64 (d:Int),.int .u64 (v:Int)] w fun e w'=>e=.returned (.tuple #[])∧Mem w' gR gF 1024 (wrF F f d v) bad∧Turns (fun k=>k=gF) w w':=by
  have hmk:(Instr.makeSlice 22 (.int .i64 8) (.int .i64 8)).run Tryz.prog w=.ok (.slice (some ⟨w.heap.size,0,none⟩) 8 8) (w.alloc (.cells (zs 8) 5)):=make_zs 8 (by omega) w
  have B0:=Lib.hid (Blk.new w 5 (zs 8))
  have HB0:=Lib.hid ((Below.refl w.heap.size w).alloc (Nat.le_refl _) (.cells (zs 8) 5))
  have PT:=Lib.hid (put_yes w.heap.size 0 8 8 v 5 (zs 8) 0 8 (w.alloc (.cells (zs 8) 5)) (by decide) (by unfold Fit;omega) B0.out (by rw[zs,Array.size_replicate];omega))
  have HM:=Lib.hid hM
  have HT:=Lib.hid hT
  clear hM hT
  go_enter Tryz.func214,Tryz.ntmps214
  go_wp2_with fail
  refine PT.out.mono ?_
  rintro e w1 ⟨rfl,h1,h2,h3⟩
  have hO:Only w.heap.size (w.alloc (.cells (zs 8) 5)) w1:=⟨h2,h3⟩
  have hB1:Below w.heap.size w w1:=HB0.out.trans (hO.below (Nat.le_refl _) (by simp))
  have hM1:Mem w1 gR gF 1024 F bad:=HM.out.below hB1 HM.out.lt.1 HM.out.lt.2
  have hT1:TreeB w1 gT gR gP r gS:=Blk.below HT.out hB1 (Blk.lt HT.out)
  rw[show (0:Nat)+(0:Int).toNat=0 from rfl,show (8:Int).toNat=8 from rfl,putV_8] at h1
  have hbts:Bts w1 w1.heap.size (.slice (some ⟨w.heap.size,0,none⟩) 8 8) (numL v 8):=h1.bts h1.lt (numL_byte v 8) (by rw[numL_length];decide) 8 (numL_length v 8)
  have WR:=Lib.hid (write_yes gR gF 1024 F bad f (8 * d) w1.heap.size _ (numL v 8) w1 hM1 hf (by rw[numL_length];omega) hb hbts)
  rw[show ((8 * d:Nat):Int)=(d:Int) * 8 by omega] at WR
  have HB1:=Lib.hid hB1
  have c0:w1.cell? ⟨gT,0,none⟩=some (.pointer (some ⟨gR,0,none⟩)):=Blk.cell hT1 0
  clear h1 h2 h3 hO hB1 hM1 hT1 hbts
  go_wp2_with fail
  refine WR.out.mono ?_
  rintro e w2 ⟨rfl,h1,h2⟩
  have H1:=Lib.hid h1
  have HT2:=Lib.hid ((Turns.of_below HB1.out (Nat.le_refl _)).trans (Turns.of_only h2 rfl:Turns (fun k=>k=gF) w1 w2))
  clear h1 h2
  go_wp2_with fail
  (try simp only[Exit.inBlock,Exit.then])
  refine bodyPost_end (results_none rfl _ _ _) rfl ?_
  exact⟨rfl,H1.out,HT2.out⟩
theorem Tryz.infoU64t:(Tryz.prog.info? 49).map (fun i=>i.size)=some 1:=by kernel_rfl
theorem Tryz.cellsU64t:Tryz.prog.cellsOf 49=1:=by kernel_rfl
theorem eqItems_u64 (d:Nat)(xs ys:Array Value)(x y:Nat→Int)(w:World):∀ is:List Nat,(∀ i∈is,xs[i]?=some (.int .u64 (x i))∧ys[i]?=some (.int .u64 (y i))) →
    (Op.eqItems (d+1) 49 1 xs ys is).run Tryz.prog w=.ok (is.all (fun i=>x i == y i)) w
  | [],_=>rfl
  | i :: is,h=>by
    obtain⟨h1,h2⟩:=h i (List.mem_cons_self ..)
    have ih:=eqItems_u64 d xs ys x y w is (fun k hk=>h k (List.mem_cons_of_mem _ hk))
    have p1:=run_part_plain (P:=Tryz.prog) (e:=49) (w:=w) (by kernel_rfl) h1
    have p2:=run_part_plain (P:=Tryz.prog) (e:=49) (w:=w) (by kernel_rfl) h2
    have q:=run_equalIn_int w d 49 .u64 .u64 (x i) (y i) Tryz.underlying49
    rw[Op.eqItems]
    simp only[Sem.run_bind,Nat.mul_one,p1,p2,q,Result.andThen_ok]
    rw[List.all_cons]
    cases x i == y i with
    | true=>rw[Bool.true_and];exact ih
    | false=>rfl
theorem tab_equal_ (d n0 n1 n2 n3 n4 n5 n6 n7:Nat)(w:World):(Op.equalIn (d+1+1) 177 (.agg #[.int .u64 (n0:Int),.int .u64 (n1:Int),.int .u64 (n2:Int),.int .u64 (n3:Int),.int .u64 (n4:Int),.int .u64 (n5:Int),.int .u64 (n6:Int),.int .u64 (n7:Int)]) (.agg #[.int .u64 0,.int .u64 0,.int .u64 0,.int .u64 0,.int .u64 0,.int .u64 0,.int .u64 0,.int .u64 0])).run Tryz.prog w=.ok (((n0:Int) == 0) && (((n1:Int) == 0) && (((n2:Int) == 0) && (((n3:Int) == 0) && (((n4:Int) == 0) && (((n5:Int) == 0) && (((n6:Int) == 0) && (((n7:Int) == 0))))))))) w:=by
  obtain⟨i,hi1,_⟩:=Option.map_eq_some_iff.1 Tryz.infoU64t
  rw[run_equalIn_array w (d+1) _ _ Tryz.underlying177 hi1,Tryz.cellsU64t]
  rw[eqItems_u64 d _ _ (fun i=>(([n0,n1,n2,n3,n4,n5,n6,n7].getD i 0:Nat):Int)) (fun _=>0) w _ (fun i hi=>by
    rcases eight_ (List.mem_range.1 hi) with rfl | rfl | rfl | rfl | rfl | rfl | rfl | rfl <;> exact⟨rfl,rfl⟩)]
  refine congrArg (fun b=>Result.ok b w) ?_
  rw[show List.range 8=[0,1,2,3,4,5,6,7] from rfl]
  simp only[List.all_cons,List.all_nil,Bool.and_true]
  rfl
theorem beq0 (n:Nat):((n:Int) == 0)=decide (n=0):=by
  by_cases h:n=0
  · subst h;rfl
  · rw[decide_eq_false h]
    simp[h]
theorem tab_equal (n0 n1 n2 n3 n4 n5 n6 n7:Nat)(w:World):(Op.equalIn 10000 177 (.agg #[.int .u64 (n0:Int),.int .u64 (n1:Int),.int .u64 (n2:Int),.int .u64 (n3:Int),.int .u64 (n4:Int),.int .u64 (n5:Int),.int .u64 (n6:Int),.int .u64 (n7:Int)]) (.agg #[.int .u64 0,.int .u64 0,.int .u64 0,.int .u64 0,.int .u64 0,.int .u64 0,.int .u64 0,.int .u64 0])).run Tryz.prog w=.ok (((n0:Int) == 0) && (((n1:Int) == 0) && (((n2:Int) == 0) && (((n3:Int) == 0) && (((n4:Int) == 0) && (((n5:Int) == 0) && (((n6:Int) == 0) && (((n7:Int) == 0))))))))) w:=tab_equal_ 9998 n0 n1 n2 n3 n4 n5 n6 n7 w
theorem tempty_eq (xs:List Nat):emptyB xs=(decide (numJ xs 0=0) && (decide (numJ xs 1=0) && (decide (numJ xs 2=0) && (decide (numJ xs 3=0) && (decide (numJ xs 4=0) && (decide (numJ xs 5=0) && (decide (numJ xs 6=0) && decide (numJ xs 7=0)))))))):=by
  unfold emptyB
  simp[List.range_succ,Bool.and_assoc]
set_option maxRecDepth 20000 in
set_option maxHeartbeats 1600000 in
theorem tempty_any (gT gR gF gP r gS f:Nat) (F:Nat→List Nat) (bad:Nat→Bool) (w:World) (hT:TreeB w gT gR gP r gS) (hM:Mem w gR gF 1024 F bad) (hf:f < 1024) (hb:bad f=false) :
    Calls Tryz.prog 215 #[.pointer (some ⟨gT,0,none⟩),.int .i64 (f:Int)] w fun e w'=>e=.returned (.bool (emptyB (F f)))∧Below w.heap.size w w':=by
  have RD:=Lib.hid (tread_ok gT gR gF gP r gS f F bad w hT hM hf hb)
  have TE:=Lib.hid (tempty_eq (F f))
  unfold tabV at RD
  rw[TE.out]
  generalize numJ (F f) 0=n0 at RD TE ⊢
  generalize numJ (F f) 1=n1 at RD TE ⊢
  generalize numJ (F f) 2=n2 at RD TE ⊢
  generalize numJ (F f) 3=n3 at RD TE ⊢
  generalize numJ (F f) 4=n4 at RD TE ⊢
  generalize numJ (F f) 5=n5 at RD TE ⊢
  generalize numJ (F f) 6=n6 at RD TE ⊢
  generalize numJ (F f) 7=n7 at RD TE ⊢
  clear TE hM hT
  go_enter Tryz.func215,Tryz.ntmps215
  go_wp2_with fail
  refine RD.out.mono ?_
  rintro e w1 ⟨rfl,h1⟩
  have HB1:=Lib.hid (h1.alloc h1.size (.cells #[.int .u64 (n0:Int),.int .u64 (n1:Int),.int .u64 (n2:Int),.int .u64 (n3:Int),.int .u64 (n4:Int),.int .u64 (n5:Int),.int .u64 (n6:Int),.int .u64 (n7:Int)] 177))
  clear h1
  have te:=tab_equal n0 n1 n2 n3 n4 n5 n6 n7
  go_wp2_with fail
  go_ret
  exact⟨by simp only[beq0];rfl,HB1.out⟩
end Go.Proofs.YtaonpmclkafjdaaGreat
namespace Go.Proofs.YtaonpmclkafjdaaGreat
open Go.RowKit
set_option linter.unusedVariables false
def zI (l:List Nat):List Int:=l.map (fun (f:Nat)=>(f:Int))
theorem zI_length (l:List Nat):(zI l).length=l.length:=List.length_map _
theorem zI_at (l:List Nat)(i:Nat):(zI l).getD i 0=((l.getD i 0:Nat):Int):=by
  unfold zI
  rw[List.getD_eq_getElem?_getD,List.getD_eq_getElem?_getD,List.getElem?_map]
  cases l[i]? <;> rfl
theorem Its.turns {w w':World}{B:Nat}{v:Value}{xs:List Int}{M:Nat→Prop}(h:Its w B v xs)(hB:B≤w.heap.size)(ht:Turns M w w')(ho:Off M v):Its w' B v xs:=by
  obtain⟨A,n,c,rfl,h1,h2,h3,h4⟩:=h
  refine⟨A,n,c,rfl,h1,h2,h3,fun hn=>?_⟩
  obtain⟨b,off,rfl,hb,hc⟩:=h4 hn
  exact⟨b,off,rfl,hb,fun j hj=>(World.cell?_of_block (ht.block b (by omega) (ho b off none n c rfl hn))).trans (hc j hj)⟩
def SetAt (w:World)(gS gL:Nat)(l:List Bool):Prop:=Blk w gS 259 (setV gL l.length)∧Own8 w gL l∧gS≠gL∧l.length=1024
section
variable {w w':World}{gS gL:Nat}{l:List Bool}
theorem SetAt.far (h:SetAt w gS gL l)(h1:w'.heap[gS]?=w.heap[gS]?)(h2:w'.heap[gL]?=w.heap[gL]?):SetAt w' gS gL l:=⟨h1.trans h.1,h2.trans h.2.1,h.2.2⟩
theorem SetAt.lt (h:SetAt w gS gL l):gS < w.heap.size∧gL < w.heap.size:=⟨Blk.lt h.1,Blk.lt h.2.1⟩
theorem SetAt.fresh (h:SetAt w gS gL l)(hb:Below w.heap.size w w'):SetAt w' gS gL l:=h.far (hb.block _ h.lt.1) (hb.block _ h.lt.2)
theorem SetAt.turns {M:Nat→Prop}(h:SetAt w gS gL l)(ht:Turns M w w')(h1:¬ M gS)(h2:¬ M gL):SetAt w' gS gL l:=h.far (ht.block _ h.lt.1 h1) (ht.block _ h.lt.2 h2)
end
set_option maxRecDepth 20000 in
set_option maxHeartbeats 400000 in
theorem set_add (gS gL:Nat) (l:List Bool) (v:Value) (fs:List Int) (w:World) (h:SetAt w gS gL l) (hv:Its w w.heap.size v fs) (ho:Off (fun k=>k=gS∨k=gL) v) :
    Calls Tryz.prog 174 #[.pointer (some ⟨gS,0,none⟩),v] w fun e w'=>e=.returned (.tuple #[])∧SetAt w' gS gL (putB l true fs)∧Turns (fun k=>k=gS∨k=gL) w w':=by
  obtain⟨h1,h2,h3,h4⟩:=h
  have MK:=Lib.hid (mark_any gS gL l true v fs w h1 h2 h3 hv ho)
  obtain⟨A,N,c,rfl,-⟩:=hv
  clear h1 h2 ho
  go_enter Tryz.func174,Tryz.ntmps174
  go_wp2_with fail
  refine MK.out.mono ?_
  rintro e w' ⟨rfl,k1,k2,k3⟩
  have K1:=Lib.hid k1
  have K2:=Lib.hid k2
  have K3:=Lib.hid k3
  clear k1 k2 k3
  go_wp2
  (try simp only[Exit.inBlock,Exit.then])
  refine bodyPost_end (results_none rfl _ _ _) rfl ?_
  exact⟨rfl,⟨by rw[putB_length];exact K1.out,K2.out,h3,by rw[putB_length];exact h4⟩,K3.out⟩
set_option maxRecDepth 20000 in
set_option maxHeartbeats 400000 in
theorem set_drop (gS gL:Nat) (l:List Bool) (v:Value) (fs:List Int) (w:World) (h:SetAt w gS gL l) (hv:Its w w.heap.size v fs) (ho:Off (fun k=>k=gS∨k=gL) v) :
    Calls Tryz.prog 198 #[.pointer (some ⟨gS,0,none⟩),v] w fun e w'=>e=.returned (.tuple #[])∧SetAt w' gS gL (putB l false fs)∧Turns (fun k=>k=gS∨k=gL) w w':=by
  obtain⟨h1,h2,h3,h4⟩:=h
  have MK:=Lib.hid (mark_any gS gL l false v fs w h1 h2 h3 hv ho)
  obtain⟨A,N,c,rfl,-⟩:=hv
  clear h1 h2 ho
  go_enter Tryz.func198,Tryz.ntmps198
  go_wp2_with fail
  refine MK.out.mono ?_
  rintro e w' ⟨rfl,k1,k2,k3⟩
  have K1:=Lib.hid k1
  have K2:=Lib.hid k2
  have K3:=Lib.hid k3
  clear k1 k2 k3
  go_wp2
  (try simp only[Exit.inBlock,Exit.then])
  refine bodyPost_end (results_none rfl _ _ _) rfl ?_
  exact⟨rfl,⟨by rw[putB_length];exact K1.out,K2.out,h3,by rw[putB_length];exact h4⟩,K3.out⟩
def PoolIn (w:World)(gP:Nat)(p:PS):Prop:=PoolMem w gP (fun k=>k=gP) p
theorem PoolIn.of {w:World}{gP:Nat}{K:Nat→Prop}{p:PS}(h:PoolMem w gP K p):PoolIn w gP p∧K=fun k=>k=gP:=by
  have e:=h.1
  subst e
  exact⟨h,rfl⟩
theorem PoolIn.turns {w w':World}{gP:Nat}{p:PS}{M:Nat→Prop}(h:PoolIn w gP p)(ht:Turns M w w')(hm:¬ M gP):PoolIn w' gP p:=PoolMem.far h fun k hk=>by
  subst hk
  exact ht.block _ (PoolMem.lt h _ rfl) hm
theorem PoolIn.fresh {w w':World}{gP:Nat}{p:PS}(h:PoolIn w gP p)(hb:Below w.heap.size w w'):PoolIn w' gP p:=PoolMem.fresh h hb
theorem pool_free_in (gP:Nat) (p:PS) (f:Int) (w:World) (h:PoolIn w gP p) :
    Calls Tryz.prog 76 #[.pointer (some ⟨gP,0,none⟩),.int .i64 f] w fun e w'=>(∃ b,e=.returned (.bool b))∧PoolIn w' gP (freeP p f).2∧Turns (fun k=>k=gP) w w':=by
  refine (pool_free gP _ p f w h).mono ?_
  rintro e w' ⟨K',rfl,h1,_,h3⟩
  exact⟨⟨_,rfl⟩,(PoolIn.of h1).1,h3⟩
structure Dif (gT gP gS gL:Nat):Prop where
  tP:gT≠gP
  tS:gT≠gS
  tL:gT≠gL
  pS:gP≠gS
  pL:gP≠gL
theorem freeAll_take {p:PS}{fs:List Nat}{i:Nat}(hi:i < fs.length):freeAll p (fs.take (i+1))=(freeP (freeAll p (fs.take i)) ((fs.getD i 0:Nat):Int)).2:=by
  have e2:fs.take (i+1)=fs.take i ++ [fs[i]]:=by rw[List.take_add_one,List.getElem?_eq_getElem hi];rfl
  rw[e2,freeAll_snoc]
  simp[hi]
set_option maxRecDepth 20000 in
set_option maxHeartbeats 800000 in
theorem tdrop_any (gT gR gP r gS gL:Nat) (p:PS) (l:List Bool) (v:Value) (fs:List Nat) (w:World) (hT:TreeB w gT gR gP r gS) (hP:PoolIn w gP p) (hS:SetAt w gS gL l) (hD:Dif gT gP gS gL)
    (hv:Its w w.heap.size v (zI fs)) (ho:Off (fun k=>k=gP∨k=gS∨k=gL) v) :
    Calls Tryz.prog 165 #[.pointer (some ⟨gT,0,none⟩),v] w fun e w'=>e=.returned (.tuple #[])∧PoolIn w' gP (freeAll p fs)∧SetAt w' gS gL (putB l false (zI fs))∧Turns (fun k=>k=gP∨k=gS∨k=gL) w w':=by
  have HV:=Lib.hid hv
  have HOF:=Lib.hid ho
  obtain⟨A,N,c,rfl,hN,_,hc,hz⟩:=hv
  rw[zI_length] at hN
  have HN:=Lib.hid hN
  have HZ:=Lib.hid (show ∀ i,i < N→∃ b1 o1,A=some ⟨b1,o1,none⟩∧b1≠gP∧b1 < w.heap.size∧w.cell? ⟨b1,o1+i,none⟩=some (.int .i64 ((fs.getD i 0:Nat):Int)) from fun i hi=>by
    obtain⟨b1,o1,e,h1,h2⟩:=hz (by omega)
    have:=ho b1 o1 none N c (by rw[e]) (by omega)
    have h3:=h2 i hi
    rw[zI_at] at h3
    exact⟨b1,o1,e,fun e=>this (.inl e),h1,h3⟩)
  have HT:=Lib.hid hT
  have HP:=Lib.hid hP
  have HS:=Lib.hid hS
  have HD:=Lib.hid hD
  have hml:N≤maxLen:=by omega
  unfold maxLen at hml
  clear hN hz hT hP hS hD ho hc
  go_enter Tryz.func165,Tryz.ntmps165
  go_wp2_with fail
  go_loopg [5,8] N (fun gg _ s8 wx=>∃ i:Nat,i+gg=N∧s8=.int .i64 (i:Int)∧PoolIn wx gP (freeAll p (fs.take i))∧Turns (fun k=>k=gP) w wx)
  case atStart=>exact⟨0,by omega,rfl,HP.out,Turns.refl _ _⟩
  case round =>
    obtain⟨i,hig,rfl,hp5,ht5⟩:=hrel
    have HP5:=Lib.hid hp5
    have HT5:=Lib.hid ht5
    have c1:wr.cell? ⟨gT,1,none⟩=some (.pointer (some ⟨gP,0,none⟩)):=Blk.cell (ht5.blk HT.out HD.out.tP) 1
    clear hp5 ht5
    by_cases hlt:i < N
    · have t4:decide ((i:Int) < (N:Int))=true:=decide_eq_true (by omega)
      have t5:(i:Int) < (N:Int):=by omega
      have t6:(0:Int)≤(i:Int):=by omega
      obtain⟨b1,o1,rfl,h1,hbl,hcc⟩:=HZ.out i hlt
      obtain⟨y,hy⟩:∃ y,y=fs.getD i 0:=⟨_,rfl⟩
      have hcell:wr.cell? ⟨b1,o1+i,none⟩=some (.int .i64 (y:Int)):=(World.cell?_of_block (HT5.out.block b1 hbl h1)).trans (by rw[hy];exact hcc)
      have FT:=Lib.hid (freeAll_take (p:=p) (fs:=fs) (i:=i) (by rw[HN.out];exact hlt))
      rw[← hy] at FT
      have FR:=Lib.hid (pool_free_in gP _ (y:Int) wr HP5.out)
      clear hcc hy h1 hbl
      go_wp2_with fail
      refine FR.out.mono ?_
      rintro e w1 ⟨⟨b,rfl⟩,k1,k2⟩
      have K1:=Lib.hid k1
      have K2:=Lib.hid (HT5.out.trans k2)
      clear k1 k2
      go_wp2_with fail
      go_roundg (N - (i+1))
      case measure=>omega
      case rel=>exact⟨i+1,by omega,by go_num,by rw[FT.out];exact K1.out,K2.out⟩
    · obtain rfl:i=N:=by omega
      have t4:decide ((i:Int) < (i:Int))=false:=decide_eq_false (by omega)
      have hS1:=HS.out.turns HT5.out (fun e=>HD.out.pS e.symm) (fun e=>HD.out.pL e.symm)
      have hV1:Its wr wr.heap.size (.slice A i c) (zI fs):=(HV.out.turns (Nat.le_refl _) HT5.out (fun b o s n c e hn hk=>HOF.out b o s n c e hn (.inl hk))).more HT5.out.size
      have DR:=Lib.hid (set_drop gS gL l _ (zI fs) wr hS1 hV1 (fun b o s n c e hn hk=>HOF.out b o s n c e hn (.inr hk)))
      have c3:wr.cell? ⟨gT,3,none⟩=some (.pointer (some ⟨gS,0,none⟩)):=Blk.cell (HT5.out.blk HT.out HD.out.tP) 3
      clear hS1 hV1 c1
      go_wp2_with fail
      refine DR.out.mono ?_
      rintro e w1 ⟨rfl,k1,k2⟩
      have K1:=Lib.hid k1
      have K2:=Lib.hid ((HT5.out.mono (fun k hk=>.inl hk)).trans (k2.mono (fun k hk=>.inr hk)):Turns (fun k=>k=gP∨k=gS∨k=gL) w w1)
      have K3:=Lib.hid (HP5.out.turns k2 (fun hk=>hk.elim HD.out.pS HD.out.pL))
      have e3:fs.take i=fs:=by rw[← HN.out];exact List.take_length
      rw[e3] at K3
      clear k1 k2
      go_wp2_with fail
      (try simp only[Exit.inBlock,Exit.then])
      refine bodyPost_end (results_none rfl _ _ _) rfl ?_
      exact⟨rfl,K3.out,K1.out,K2.out⟩
end Go.Proofs.YtaonpmclkafjdaaGreat
namespace Go.Proofs.YtaonpmclkafjdaaGreat
open Go.RowKit
set_option linter.unusedVariables false
theorem idx_dig (cs:Array Value)(k:Nat)(y:Int)(hk:k < 4)(hc:cs[k]?=some (.int .i64 y))(w:World):(Instr.index 98 (.agg cs) (.int .i64 (k:Int))).run Tryz.prog w=.ok (.int .i64 y) w:=by
  have h1:(0:Int)≤(k:Int)∧(k:Int) < 4:=by omega
  simp[Instr.index,run_underlying Tryz.underlying98,asIntOf,h1,hc,go_sem,Tryz.isAgg3,Tryz.sizeOf3]
  intro h
  exact absurd h (by omega)
theorem Mem.turns {w w':World}{gR gF n:Nat}{F:Nat→List Nat}{bad:Nat→Bool}{M:Nat→Prop}(h:Mem w gR gF n F bad)(ht:Turns M w w')(h1:¬ M gR)(h2:¬ M gF):Mem w' gR gF n F bad :=
  h.far (ht.block _ h.lt.1 h1) (ht.block _ h.lt.2 h2)
def wayF (g:Nat→Nat→Nat)(page L:Nat):List Nat:=(List.range L).map (fun l=>g l (page / dv l) - 1)
theorem wayF_succ (g:Nat→Nat→Nat)(page L:Nat):wayF g page (L+1)=wayF g page L ++ [g L (page / dv L) - 1]:=by
  unfold wayF
  rw[List.range_succ,List.map_append]
  rfl
theorem wayF_length (g:Nat→Nat→Nat)(page L:Nat):(wayF g page L).length=L:=by simp[wayF]
theorem Nod.down {g:Nat→Nat→Nat}{t:Nat→Prop}{page pg k:Nat}(h:Nod g t pg 0)(hk:k < 4)(hz:g (k+1) (page / dv (k+1))=0):g 4 page=0:=by
  have up:∀ l,l < 4→g l (page / dv l)=0→g (l+1) (page / dv (l+1))=0:=fun l hl hz=>by
    rcases Nat.eq_zero_or_pos (g (l+1) (page / dv (l+1))) with e | e
    · exact e
    · have:=h.up l _ hl (Nat.pos_iff_ne_zero.1 e)
      rw[← dv_div page hl] at this
      exact absurd hz this
  have e4:g 4 (page / dv 4)=0:=by
    rcases four hk with rfl | rfl | rfl | rfl
    · exact up 3 (by omega) (up 2 (by omega) (up 1 (by omega) hz))
    · exact up 3 (by omega) (up 2 (by omega) hz)
    · exact up 3 (by omega) hz
    · exact hz
  rwa [dv4] at e4
set_option maxRecDepth 20000 in
set_option maxHeartbeats 1600000 in
theorem twalk_any (g0:Nat) (lb:Array Value) (eg:∀ args w,(callFunc g0 args).run Tryz.prog w=.ok (.enter g0 args) w) (R:List Nat→(Nat→Prop)→World→Prop)
    (hRb:∀ l M W W',R l M W→Below W.heap.size W W'→R l M W') (hRk:∀ l M W,R l M W→∀ k,M k→k < W.heap.size)
    (hRv:∀ l M W (f:Nat),R l M W→l.length < 4→Calls Tryz.prog g0 (#[.int .i64 (f:Int)] ++ lb) W fun e w'=>e=.returned (.tuple #[])∧∃ M',R (l ++ [f]) M' w'∧(∀ k,M' k→M k∨W.heap.size≤k)∧Turns M W w')
    (gT gR gF gP r gS page pg:Nat) (F:Nat→List Nat) (bad:Nat→Bool) (g:Nat→Nat→Nat) (t:Nat→Prop) (M0:Nat→Prop) (w:World)
    (hT:TreeB w gT gR gP r gS) (hM:Mem w gR gF 1024 F bad) (hb:∀ f,f < 1024→bad f=false) (hN:Nod g t pg 0) (hC:Con g F pg 0) (hr:g 0 0=r+1) (hp:page < 4096) (hR:R [] M0 w) (h1:¬ M0 gT) (h2:¬ M0 gR) (h3:¬ M0 gF) :
    Calls Tryz.prog 45 #[.pointer (some ⟨gT,0,none⟩),.agg (digV page),.func (.func g0) #[] lb] w fun e w'=>e=.returned (.tuple #[.int .u64 ((g 4 page:Nat):Int),.int .i64 0]) ∧
      ∃ L M',1≤L∧L≤4∧(∀ l,l < L→g l (page / dv l)≠0)∧(L < 4→g L (page / dv L)=0)∧R (wayF g page L) M' w'∧(∀ k,M' k→M0 k∨w.heap.size≤k)∧Turns M0 w w':=by
  obtain⟨d,hd⟩:∃ d:Nat→Nat,d=fun l=>page / dv (l+1) % 8:=⟨_,rfl⟩
  have hdl:∀ l,d l < 8:=fun l=>by rw[hd];exact Nat.mod_lt _ (by omega)
  have hdv:digV page=#[.int .i64 ((d 0:Nat):Int),.int .i64 ((d 1:Nat):Int),.int .i64 ((d 2:Nat):Int),.int .i64 ((d 3:Nat):Int)]:=by
    rw[hd]
    show _=#[_,_,_,Value.int .i64 ((page / 1 % 8:Nat):Int)]
    rw[Nat.div_one]
    rfl
  have hda:∀ k,k < 4→(#[Value.int .i64 ((d 0:Nat):Int),.int .i64 ((d 1:Nat):Int),.int .i64 ((d 2:Nat):Int),.int .i64 ((d 3:Nat):Int)]:Array Value)[k]?=some (.int .i64 ((d k:Nat):Int)):=fun k hk=>by
    rcases four hk with rfl | rfl | rfl | rfl <;> rfl
  have hdn:∀ l,l < 4→8 * (page / dv l)+d l=page / dv (l+1):=fun l hl=>by rw[hd];exact way_digit page hl
  rw[hdv]
  have hT0:TreeB (w.alloc (.cells #[.int .i64 ((d 0:Nat):Int),.int .i64 ((d 1:Nat):Int),.int .i64 ((d 2:Nat):Int),.int .i64 ((d 3:Nat):Int)] 98)) gT gR gP r gS:=Blk.al hT _
  have c2:(w.alloc (.cells #[.int .i64 ((d 0:Nat):Int),.int .i64 ((d 1:Nat):Int),.int .i64 ((d 2:Nat):Int),.int .i64 ((d 3:Nat):Int)] 98)).cell? ⟨gT,2,none⟩=some (.int .i64 (r:Int)):=Blk.cell hT0 2
  have HB0:=Lib.hid ((Below.refl w.heap.size w).alloc (Nat.le_refl _) (.cells #[.int .i64 ((d 0:Nat):Int),.int .i64 ((d 1:Nat):Int),.int .i64 ((d 2:Nat):Int),.int .i64 ((d 3:Nat):Int)] 98))
  have hrl:r < 1024:=by
    have:=hN.le 0 0 (by omega)
    omega
  have TL:=Lib.hid (tells_any r (w.alloc (.cells #[.int .i64 ((d 0:Nat):Int),.int .i64 ((d 1:Nat):Int),.int .i64 ((d 2:Nat):Int),.int .i64 ((d 3:Nat):Int)] 98)) hrl)
  have HT:=Lib.hid hT
  have HM:=Lib.hid hM
  have HR0:=Lib.hid (hRb _ _ _ _ hR HB0.out)
  have HRK:=Lib.hid hRk
  have HRB:=Lib.hid hRb
  have HRV:=Lib.hid hRv
  have HN:=Lib.hid hN
  have HC:=Lib.hid hC
  have HDL:=Lib.hid hdl
  have HDN:=Lib.hid hdn
  have HDA:=Lib.hid hda
  have HBD:=Lib.hid hb
  have HRR:=Lib.hid hr
  have N1:=Lib.hid h1
  have N2:=Lib.hid h2
  have N3:=Lib.hid h3
  clear hT hM hR hRk hRb hRv hN hC hd hdl hdv hda hdn hT0 hb hr h1 h2 h3
  go_enter Tryz.func45,Tryz.ntmps45
  go_wp2_with fail
  refine TL.out.mono ?_
  rintro e w1 ⟨rfl,rfl⟩
  go_wp2_with fail
  go_loopg [8,20] 4 (fun gg s8 s20 wx=>∃ (k:Nat) (M:Nat→Prop),k+gg=4∧s20=.int .i64 (k:Int)∧s8=.int .u64 ((g k (page / dv k):Nat):Int)∧(∀ l,l≤k→g l (page / dv l)≠0)∧R (wayF g page k) M wx∧(∀ j,M j→M0 j∨w.heap.size≤j)∧Turns M0 w wx)
  case atStart =>
    refine⟨0,M0,rfl,rfl,?_,fun l hl=>?_,HR0.out,fun j hj=>.inl hj,Turns.of_below HB0.out (Nat.le_refl _)⟩
    · rw[dv0 hp,HRR.out];go_num
    · obtain rfl:l=0:=by omega
      rw[dv0 hp]
      exact HN.out.root
  case round =>
    obtain⟨k,M,hkg,rfl,rfl,hnz,hRR,hMM,hTT⟩:=hrel
    have HNZ:=Lib.hid hnz
    have HRX:=Lib.hid hRR
    have HMM:=Lib.hid hMM
    have HTT:=Lib.hid hTT
    by_cases hlt:k < 4
    · have t1:decide ((k:Int) < 4)=true:=decide_eq_true (by omega)
      obtain⟨f,hf⟩:∃ f,g k (page / dv k)=f+1:=⟨g k (page / dv k) - 1,by have:=hnz k (Nat.le_refl _);omega⟩
      have hfl:f < 1024:=by
        have:=HN.out.le k (page / dv k) hlt
        omega
      rw[hf]
      have hTx:TreeB wr gT gR gP r gS:=hTT.blk HT.out N1.out
      have hMx:Mem wr gR gF 1024 F bad:=HM.out.turns hTT N2.out N3.out
      have RD:=Lib.hid (tread_ok gT gR gF gP r gS f F bad wr hTx hMx hfl (HBD.out f hfl))
      have HNJ:=Lib.hid (show ∀ j,j < 8→(tabV (F f))[j]?=some (.int .u64 ((numJ (F f) j:Nat):Int)) from fun j hj=>tabV_at _ hj)
      have HNX:=Lib.hid (show numJ (F f) (d k)=g (k+1) (page / dv (k+1)) from by
        rw[HC.out k (page / dv k) f (d k) hlt hf (HDL.out k) (fun hh=>by omega),HDN.out k hlt])
      obtain⟨v,hv⟩:∃ v,v=g (k+1) (page / dv (k+1)):=⟨_,rfl⟩
      rw[← hv] at HNX
      have HNJ:=Lib.hid (show (tabV (F f))[d k]?=some (.int .u64 (v:Int)) from by rw[HNJ.out (d k) (HDL.out k),HNX.out])
      have HV:=Lib.hid hv
      have HF:=Lib.hid hf
      unfold tabV at RD HNJ
      generalize numJ (F f) 0=n0 at RD HNJ
      generalize numJ (F f) 1=n1 at RD HNJ
      generalize numJ (F f) 2=n2 at RD HNJ
      generalize numJ (F f) 3=n3 at RD HNJ
      generalize numJ (F f) 4=n4 at RD HNJ
      generalize numJ (F f) 5=n5 at RD HNJ
      generalize numJ (F f) 6=n6 at RD HNJ
      generalize numJ (F f) 7=n7 at RD HNJ
      clear hnz hRR hMM hTT hTx hMx hf hv HNX
      have HIX:=idx_dig _ k _ hlt (HDA.out k hlt)
      have hdl:=HDL.out k
      go_wp2_with fail
      refine RD.out.mono ?_
      rintro e w3 ⟨rfl,hb3⟩
      have HB3:=Lib.hid (hb3.alloc hb3.size (.cells #[.int .u64 (n0:Int),.int .u64 (n1:Int),.int .u64 (n2:Int),.int .u64 (n3:Int),.int .u64 (n4:Int),.int .u64 (n5:Int),.int .u64 (n6:Int),.int .u64 (n7:Int)] 177))
      have BT:=Lib.hid (Blk.new w3 177 #[.int .u64 (n0:Int),.int .u64 (n1:Int),.int .u64 (n2:Int),.int .u64 (n3:Int),.int .u64 (n4:Int),.int .u64 (n5:Int),.int .u64 (n6:Int),.int .u64 (n7:Int)])
      have RA:=Lib.hid (HRB.out _ _ _ _ HRX.out HB3.out)
      have HS3:=Lib.hid hb3.size
      have VS:=Lib.hid (HRV.out _ _ _ f RA.out (by rw[wayF_length];exact hlt))
      clear hb3
      go_wp2_with fail
      refine VS.out.mono ?_
      rintro e w4 ⟨rfl,M',q1,q2,q3⟩
      have hnM:¬ M w3.heap.size:=fun h=>by
        have:=HRK.out _ _ _ HRX.out _ h
        have:=HS3.out
        omega
      have ck:w4.cell? ⟨w3.heap.size,d k,none⟩=some (.int .u64 (v:Int)):=by
        rw[(q3.blk BT.out hnM).cell]
        exact HNJ.out
      have HR4:=Lib.hid (show R (wayF g page (k+1)) M' w4 from by
        rw[wayF_succ,HF.out,Nat.add_sub_cancel]
        exact q1)
      have HM4:=Lib.hid (show ∀ j,M' j→M0 j∨w.heap.size≤j from fun j hj=>by
        rcases q2 j hj with h | h
        · exact HMM.out j h
        · have h1:=HB3.out.size
          have h2:=HTT.out.size
          exact .inr (by omega))
      have HT4:=Lib.hid (show Turns M0 w w4 from by
        have h1:Turns M0 w (w3.alloc (.cells #[.int .u64 (n0:Int),.int .u64 (n1:Int),.int .u64 (n2:Int),.int .u64 (n3:Int),.int .u64 (n4:Int),.int .u64 (n5:Int),.int .u64 (n6:Int),.int .u64 (n7:Int)] 177)):=HTT.out.trans (Turns.of_below HB3.out (Nat.le_refl _))
        refine⟨q3.os.trans h1.os,q3.tape.trans h1.tape,q3.output.trans h1.output,Nat.le_trans h1.size q3.size,fun j hj hn=>?_⟩
        have h2:=h1.size
        exact (q3.block j (by omega) (fun hh=>by
          rcases HMM.out j hh with h | h
          · exact hn h
          · omega)).trans (h1.block j hj hn))
      clear q1 q2 q3 hnM
      by_cases hv0:v=0
      · subst hv0
        go_wp2_with fail
        go_ret2
        refine⟨?_,k+1,M',by omega,by omega,fun l hl=>HNZ.out l (by omega),fun _=>HV.out.symm,HR4.out,HM4.out,HT4.out⟩
        rw[HN.out.down hlt HV.out.symm]
        rfl
      · have hv0':((v:Int) == 0)=false:=by simp[hv0]
        go_wp2_with fail
        go_roundg (4 - (k+1))
        case measure=>omega
        case rel =>
          refine⟨k+1,M',by omega,by go_num,by rw[HV.out],fun l hl=>?_,HR4.out,HM4.out,HT4.out⟩
          by_cases c:l≤k
          · exact HNZ.out l c
          · obtain rfl:l=k+1:=by omega
            rw[← HV.out]
            exact hv0
    · obtain rfl:k=4:=by omega
      have t1:decide (((4:Nat):Int) < 4)=false:=by decide
      go_wp2_with fail
      go_ret2
      exact⟨by rw[dv4];rfl,4,M,by omega,by omega,fun l hl=>HNZ.out l (by omega),fun h=>absurd h (by omega),HRX.out,HMM.out,HTT.out⟩
end Go.Proofs.YtaonpmclkafjdaaGreat
namespace Go.Proofs.YtaonpmclkafjdaaGreat
open Go.RowKit
set_option linter.unusedVariables false
def fV (l:List Nat):List Value:=l.map (fun (f:Nat)=>Value.int .i64 (f:Int))
def WayR (gB:Nat)(l:List Nat)(M:Nat→Prop)(W:World):Prop :=
  ∃ v,Blk W gB 128 #[v]∧RowAt W (gB+1) 1 v l.length (fV l)∧M=fun k=>k=gB∨v.ownBlock=some k
theorem WayR.below {gB:Nat}{l:List Nat}{M:Nat→Prop}{W W':World}(h:WayR gB l M W)(hb:Below W.heap.size W W'):WayR gB l M W':=by
  obtain⟨v,h1,h2,h3⟩:=h
  exact⟨v,h1.below hb h1.lt,h2.fresh hb,h3⟩
theorem WayR.lt {gB:Nat}{l:List Nat}{M:Nat→Prop}{W:World}(h:WayR gB l M W):∀ k,M k→k < W.heap.size:=by
  obtain⟨v,h1,h2,rfl⟩:=h
  rintro k (rfl | hk)
  · exact h1.lt
  · exact (h2.lt k hk).2
set_option maxRecDepth 20000 in
set_option maxHeartbeats 800000 in
theorem way_add (gB:Nat) (l:List Nat) (M:Nat→Prop) (W:World) (f:Nat) (h:WayR gB l M W) (hl:l.length < 4) :
    Calls Tryz.prog 188 #[.int .i64 (f:Int),.pointer (some ⟨gB,0,none⟩)] W fun e w'=>e=.returned (.tuple #[])∧∃ M',WayR gB (l ++ [f]) M' w'∧(∀ k,M' k→M k∨W.heap.size≤k)∧Turns M W w':=by
  obtain⟨v,h1,h2,rfl⟩:=h
  obtain⟨iI,hiI,hiz0,hiz1,hiz2⟩:=info_parts Tryz.infoInt8
  have HII:=Lib.hid hiI
  have HI0:=Lib.hid hiz0
  have HI1:=Lib.hid hiz1
  have HI2:=Lib.hid hiz2
  have c0:W.cell? ⟨gB,0,none⟩=some v:=h1.cell 0
  have hB:=(Below.refl W.heap.size W).alloc (Nat.le_refl _) (.cells #[Value.int .i64 (f:Int)] 3)
  have HB:=Lib.hid hB
  have H1:=Lib.hid (h1.below hB h1.lt)
  have H2:=Lib.hid (h2.fresh hB)
  have H0:=Lib.hid h2
  have HLT:=Lib.hid h1.lt
  have HONE:=Lib.hid (show ∀ u∈[Value.int .i64 (f:Int)],u.oneCell'=true from fun u hu=>by rw[List.mem_singleton.1 hu];rfl)
  have HQ1:=Lib.hid (show l.length+1≤maxLen from by unfold maxLen;omega)
  have HQ2:=Lib.hid (show (l.length+1) * 8≤140737488355328 from by omega)
  have HQ3:=Lib.hid (show gB+1≤(W.alloc (.cells #[Value.int .i64 (f:Int)] 3)).heap.size from by simp;have:=h1.lt;omega)
  have CN:=Lib.hid (cells_new W 3 [Value.int .i64 (f:Int)])
  clear h1 h2 hiI hiz0 hiz1 hiz2 hB hl
  go_enter Tryz.func188,Tryz.ntmps188
  go_wp2_with (refine wpList_append_at rfl (.tmp 3) (.tmp 5) 128 rfl (gB+1) 3 iI (.int .i64 0) 1 8 Tryz.underlying128 HII.out HI0.out HI1.out HI2.out rfl (by decide) v l.length (fV l) rfl H2.out ⟨W.heap.size,0,none⟩ 1 [Value.int .i64 (f:Int)] rfl rfl CN.out HONE.out HQ1.out HQ2.out HQ3.out ?_;intro v9 w9 hr9 hg9 ho9;obtain⟨gq,oq,cq,rfl,_,_⟩:=hr9.some_ (by omega);have h9:=(hg9.block gB (by simp;have:=HLT.out;omega) (fun e=>by have:=(H2.out.lt gB e.symm).1;omega)).trans H1.out;have c9:w9.cell? ⟨gB,0,none⟩=some v:=Blk.cell h9 0;have f9:w9.frozen? ⟨gB,0,none⟩=false:=Blk.frozen h9 0;have H9:=Lib.hid h9;have R9:=Lib.hid hr9;have G9:=Lib.hid hg9;have O9:=Lib.hid ho9;clear h9 hr9 hg9 ho9)
  (try simp only[Exit.inBlock,Exit.then])
  refine bodyPost_end (results_none rfl _ _ _) rfl ?_
  have hs9:=G9.out.size
  have hlt:=HLT.out
  simp only[World.size_alloc] at hs9
  have T9:Turns (fun k=>k=gB∨v.ownBlock=some k) W w9:=(Turns.of_below HB.out (Nat.le_refl _)).trans (Turns.of_grown G9.out fun k hk=>.inr hk)
  have TS:Turns (fun k=>k=gB∨v.ownBlock=some k) w9 (w9.setCell ⟨gB,0,none⟩ (Value.slice (some ⟨gq,oq,none⟩) (l.length+1) cq)):=Turns.of_only ((Only.refl gB w9).setCell 0 _) (.inl rfl)
  refine⟨rfl,fun k=>k=gB∨(Value.slice (some ⟨gq,oq,none⟩) (l.length+1) cq).ownBlock=some k,⟨_,Blk.set_ H9.out 0 _,?_,rfl⟩,?_,T9.trans TS⟩
  · have e:fV (l ++ [f])=fV l ++ [Value.int .i64 (f:Int)]:=by unfold fV;rw[List.map_append];rfl
    rw[e,List.length_append]
    exact R9.out.keep (fun k hk=>Below.heap_setCell _ _ _ _ (fun hh=>by have:=(R9.out.lt k hk).1;simp only at hh;omega)) (by simp[World.setCell])
  · rintro k (rfl | hk)
    · exact .inl (.inl rfl)
    · rcases O9.out with e | e
      · exact .inl (.inr (e ▸ hk))
      · have:=e k hk
        simp only[World.size_alloc] at this
        exact .inr (by omega)
set_option maxRecDepth 20000 in
set_option maxHeartbeats 400000 in
theorem way_none (f:Int)(W:World):Calls Tryz.prog 47 #[.int .i64 f] W fun e w'=>e=.returned (.tuple #[])∧W=w':=by
  go_enter Tryz.func47,Tryz.ntmps47
  go_wp2
  (try simp only[Exit.inBlock,Exit.then])
  refine bodyPost_end (results_none rfl _ _ _) rfl ?_
  exact⟨rfl,rfl⟩
end Go.Proofs.YtaonpmclkafjdaaGreat
namespace Go.Proofs.YtaonpmclkafjdaaGreat
open Go.RowKit
set_option linter.unusedVariables false
theorem alloc_case {p p':PS} {f er:Nat} (hp:PsOk p) (h:AllocIs p 2 0 false f er p') :
    (FirstF p 2 (2 ^ 0) (some f)∧er=0∧p'=⟨p.u.set f 2,p.z,p.i⟩)∨(FirstF p 2 (2 ^ 0) none∧er=4∧p'=p∧f=0):=by
  rcases h with ⟨h,_⟩ | ⟨_,r3,r2,_,h2,h3⟩
  · omega
  · cases r2 with
    | none =>
      obtain⟨a,b,c⟩:=h3
      exact .inr ⟨h2,b,c,a⟩
    | some g =>
      obtain⟨a,b,c⟩:=h3
      subst a
      refine .inl ⟨h2,b,c.trans ?_⟩
      have hg:f < p.u.length:=by rw[hp.u];exact h2.1.2.1
      have e:=spanU_succ (fun _=>2) p.u f f (Nat.le_refl _) hg
      rw[spanU_none] at e
      show (⟨spanU (fun _=>2) p.u f (f+1),p.z,p.i⟩:PS)=_
      rw[e]
theorem RowAt.its {W:World}{base:Nat}{v:Value}{l:List Nat}(h:RowAt W base 1 v l.length (fV l)):Its W W.heap.size v (zI l):=by
  obtain⟨k1,k2,⟨rfl,k3⟩ | ⟨g,o,cap,rfl,k3,k4,k5,k6,k7,k8⟩⟩:=h
  · have:l=[]:=List.eq_nil_of_length_eq_zero k3
    subst this
    exact Its.nil_ _ _
  · refine⟨_,_,_,rfl,zI_length l,k3,k4,fun hn=>⟨g,o,rfl,k6,fun j hj=>?_⟩⟩
    rw[zI_at]
    refine k7 j _ ?_
    unfold fV
    rw[List.getElem?_map]
    simp[hj]
theorem RowAt.off {W:World}{base n:Nat}{v:Value}{xs:List Value}{K:Nat→Prop}(h:RowAt W base 1 v n xs)(hK:∀ k,K k→k < base):Off K v:=by
  rintro b o s n' c rfl hn hk
  have h1:=(h.lt b rfl).1
  have h2:=hK b hk
  omega
theorem fV_snoc (l:List Nat)(f:Nat):fV (l ++ [f])=fV l ++ [Value.int .i64 (f:Int)]:=by unfold fV;rw[List.map_append];rfl
theorem Turns.bel {M:Nat→Prop}{w w' w'':World}(h:Turns M w w')(k:Below w.heap.size w' w''):Turns M w w'' :=
  ⟨k.os.trans h.os,k.tape.trans h.tape,k.output.trans h.output,Nat.le_trans h.size k.size,fun j hj hn=>(k.block j hj).trans (h.block j hj hn)⟩
theorem PoolIn.bel {w w':World}{gP B:Nat}{p:PS}(h:PoolIn w gP p)(hb:Below B w w')(hg:gP < B):PoolIn w' gP p:=PoolMem.far h fun k hk=>by
  subst hk
  exact hb.block _ hg
structure Dif2 (gT gR gF gP gS gL:Nat):Prop where
  d:Dif gT gP gS gL
  rP:gR≠gP
  rS:gR≠gS
  rL:gR≠gL
  fP:gF≠gP
  fS:gF≠gS
  fL:gF≠gL
  fT:gF≠gT
set_option maxRecDepth 20000 in
set_option maxHeartbeats 800000 in
theorem tundo_any (er:Int) (bt bm gT gR gP r gS gL:Nat) (p:PS) (l:List Bool) (v:Value) (fs:List Nat) (w:World) (hT:TreeB w gT gR gP r gS) (hP:PoolIn w gP p) (hS:SetAt w gS gL l) (hD:Dif gT gP gS gL)
    (hv:Its w w.heap.size v (zI fs)) (ho:Off (fun k=>k=gP∨k=gS∨k=gL) v) (c1:w.cell? ⟨bt,0,none⟩=some (.pointer (some ⟨gT,0,none⟩))) (c2:w.cell? ⟨bm,0,none⟩=some v) :
    Calls Tryz.prog 172 #[.int .i64 er,.pointer (some ⟨bt,0,none⟩),.pointer (some ⟨bm,0,none⟩)] w fun e w'=>e=.returned (.tuple #[.slice none 0 0,.int .i64 er])∧PoolIn w' gP (freeAll p fs)∧SetAt w' gS gL (putB l false (zI fs))∧Turns (fun k=>k=gP∨k=gS∨k=gL) w w':=by
  have DR:=Lib.hid (tdrop_any gT gR gP r gS gL p l v fs w hT hP hS hD hv ho)
  clear hT hP hS hv ho
  go_enter Tryz.func172,Tryz.ntmps172
  go_wp2_with fail
  refine DR.out.mono ?_
  rintro e w1 ⟨rfl,h1,h2,h3⟩
  have H1:=Lib.hid h1
  have H2:=Lib.hid h2
  have H3:=Lib.hid h3
  clear h1 h2 h3
  go_wp2_with fail
  go_ret2
  exact⟨rfl,H1.out,H2.out,H3.out⟩
theorem pool_alloc_in (gP:Nat) (p:PS) (w:World) (h:PoolIn w gP p) :
    Calls Tryz.prog 74 #[.pointer (some ⟨gP,0,none⟩),.int .i64 2,.int .i64 0,.bool false] w fun e w'=>Turns (fun k=>k=gP) w w' ∧
      ((∃ f,FirstF p 2 (2 ^ 0) (some f)∧e=.returned (.tuple #[.int .i64 (f:Int),.int .i64 0])∧PoolIn w' gP ⟨p.u.set f 2,p.z,p.i⟩)∨(FirstF p 2 (2 ^ 0) none∧e=.returned (.tuple #[.int .i64 0,.int .i64 4])∧PoolIn w' gP p)):=by
  refine (pool_alloc gP _ p 2 0 false w h).mono ?_
  rintro e w' ⟨f,er,p',hal,K',rfl,h1,_,h3⟩
  refine⟨h3,?_⟩
  rcases alloc_case h.ok hal with ⟨a,rfl,rfl⟩ | ⟨a,rfl,rfl,rfl⟩
  · exact .inl ⟨f,a,rfl,(PoolIn.of h1).1⟩
  · exact .inr ⟨a,rfl,(PoolIn.of h1).1⟩
def AddOk (w:World)(gR gF gP gS gL n:Nat)(F:Nat→List Nat)(bad:Nat→Bool)(p:PS)(l:List Bool)(m:List Nat)(e:Ending)(w':World):Prop :=
  m.length=n∧Took p m∧∃ v F',e=.returned (.tuple #[v,.int .i64 0])∧RowAt w' w.heap.size 1 v n (fV m)∧Mem w' gR gF 1024 F' bad∧(∀ f∈m,F' f=zer)∧(∀ f,f ∉ m→F' f=F f)∧PoolIn w' gP (hadP p m)∧SetAt w' gS gL (putB l true (zI m))∧Turns (fun k=>k=gP∨k=gS∨k=gL∨k=gF) w w'
def AddNo (w:World)(gP gS gL n:Nat)(p:PS)(l:List Bool)(m:List Nat)(e:Ending)(w':World):Prop :=
  m.length < n∧Took p m∧FirstF (hadP p m) 2 (2 ^ 0) none∧e=.returned (.tuple #[.slice none 0 0,.int .i64 4])∧PoolIn w' gP p∧SetAt w' gS gL (putB l false (zI m))∧Turns (fun k=>k=gP∨k=gS∨k=gL) w w'
set_option maxRecDepth 20000 in
set_option maxHeartbeats 1600000 in
theorem tadd_any (gT gR gF gP r gS gL n:Nat) (F:Nat→List Nat) (bad:Nat→Bool) (p:PS) (l:List Bool) (w:World) (hT:TreeB w gT gR gP r gS) (hM:Mem w gR gF 1024 F bad) (hb:∀ f,f < 1024→bad f=false) (hP:PoolIn w gP p) (hS:SetAt w gS gL l) (hD:Dif2 gT gR gF gP gS gL) (hn:n≤4) :
    Calls Tryz.prog 136 #[.pointer (some ⟨gT,0,none⟩),.int .i64 (n:Int)] w fun e w'=>∃ m,AddOk w gR gF gP gS gL n F bad p l m e w'∨AddNo w gP gS gL n p l m e w':=by
  obtain⟨iI,hiI,hiz0,hiz1,hiz2⟩:=info_parts Tryz.infoInt8
  have HII:=Lib.hid hiI
  have HI0:=Lib.hid hiz0
  have HI1:=Lib.hid hiz1
  have HI2:=Lib.hid hiz2
  have HT:=Lib.hid hT
  have HM:=Lib.hid hM
  have HP:=Lib.hid hP
  have HS:=Lib.hid hS
  have HD:=Lib.hid hD
  have HBD:=Lib.hid hb
  have HLT:=Lib.hid (show gT < w.heap.size∧gR < w.heap.size∧gF < w.heap.size∧gP < w.heap.size∧gS < w.heap.size∧gL < w.heap.size from ⟨Blk.lt hT,hM.lt.1,hM.lt.2,PoolMem.lt hP _ rfl,hS.lt.1,hS.lt.2⟩)
  have HB0:=Lib.hid (((Below.refl w.heap.size w).alloc (Nat.le_refl _) (.cells #[.pointer (some ⟨gT,0,none⟩)] 31)).alloc (by simp) (.cells #[.slice none 0 0] 128))
  have T0:=Lib.hid ((Blk.new w 31 #[.pointer (some ⟨gT,0,none⟩)]).al (.cells #[.slice none 0 0] 128))
  have M0:=Lib.hid (Blk.new1 w (.cells #[.pointer (some ⟨gT,0,none⟩)] 31) 128 #[.slice none 0 0])
  clear hiI hiz0 hiz1 hiz2 hT hM hP hS hD hb
  go_enter Tryz.func136,Tryz.ntmps136
  go_wp2_with fail
  go_loopg [8,9,15] n (fun gg _ _ s15 wx=>∃ (m:List Nat) (v:Value),m.length+gg=n∧s15=.int .i64 ((m.length:Nat):Int)∧Took p m∧PoolIn wx gP (hadP p m)∧Blk wx w.heap.size 31 #[.pointer (some ⟨gT,0,none⟩)]∧Blk wx (w.heap.size+1) 128 #[v]∧RowAt wx (w.heap.size+2) 1 v m.length (fV m)∧Turns (fun k=>k=gP) w wx)
  case atStart=>exact⟨[],.slice none 0 0,by simp,rfl,Took.nil p,HP.out.fresh HB0.out,T0.out,M0.out,RowAt.nil_ _ _ _,Turns.of_below HB0.out (Nat.le_refl _)⟩
  case round =>
    obtain⟨m,v,hmg,rfl,htk,hpx,htx,hmx,hrx,hux⟩:=hrel
    obtain⟨k,hk⟩:∃ k,k=m.length:=⟨_,rfl⟩
    rw[← hk] at hmg hrx ⊢
    have HK:=Lib.hid hk
    have HTK:=Lib.hid htk
    have HPX:=Lib.hid hpx
    have HTX:=Lib.hid htx
    have HMX:=Lib.hid hmx
    have HRX:=Lib.hid hrx
    have HUX:=Lib.hid hux
    have cT:wr.cell? ⟨w.heap.size,0,none⟩=some (.pointer (some ⟨gT,0,none⟩)):=htx.cell 0
    have cM:wr.cell? ⟨w.heap.size+1,0,none⟩=some v:=hmx.cell 0
    have hTx:TreeB wr gT gR gP r gS:=hux.blk HT.out HD.out.d.tP
    have c1:wr.cell? ⟨gT,1,none⟩=some (.pointer (some ⟨gP,0,none⟩)):=Blk.cell hTx 1
    have HSX:=Lib.hid (HS.out.turns hux (fun e=>HD.out.d.pS e.symm) (fun e=>HD.out.d.pL e.symm))
    have HTB:=Lib.hid hTx
    clear hk htk hpx htx hmx hrx hux hTx
    by_cases hlt:k < n
    · have t1:decide ((k:Int) < (n:Int))=true:=decide_eq_true (by omega)
      have AL:=Lib.hid (pool_alloc_in gP _ wr HPX.out)
      go_wp2_with fail
      refine AL.out.mono ?_
      rintro e w3 ⟨ht3,⟨f,hff,rfl,hp3⟩ | ⟨hno,rfl,hp3⟩⟩
      · have hu3:Turns (fun k=>k=gP) w w3:=HUX.out.trans ht3
        have hlP:=HLT.out.2.2.2.1
        have hs3:=hu3.size
        have hsx:=HUX.out.size
        have HT3:=Lib.hid (ht3.blk HTX.out (by omega))
        have hm3:Blk w3 (w.heap.size+1) 128 #[v]:=ht3.blk HMX.out (by omega)
        have hr3:RowAt w3 (w.heap.size+2) 1 v k (fV m):=HRX.out.keep (fun j hj=>ht3.block j (HRX.out.lt j hj).2 (fun e=>by have:=(HRX.out.lt j hj).1;omega)) ht3.size
        have hB:=(Below.refl w3.heap.size w3).alloc (Nat.le_refl _) (.cells #[Value.int .i64 (f:Int)] 3)
        have HB:=Lib.hid hB
        have cM3:w3.cell? ⟨w.heap.size+1,0,none⟩=some v:=hm3.cell 0
        have HM3:=Lib.hid (hm3.below hB hm3.lt)
        have HML:=Lib.hid hm3.lt
        have HR3:=Lib.hid (hr3.fresh hB)
        have HU3:=Lib.hid hu3
        have HP3:=Lib.hid hp3
        have HFF:=Lib.hid hff
        have HONE:=Lib.hid (show ∀ u∈[Value.int .i64 (f:Int)],u.oneCell'=true from fun u hu=>by rw[List.mem_singleton.1 hu];rfl)
        have HQ1:=Lib.hid (show k+1≤maxLen from by unfold maxLen;omega)
        have HQ2:=Lib.hid (show (k+1) * 8≤140737488355328 from by omega)
        have HQ3:=Lib.hid (show w.heap.size+2≤(w3.alloc (.cells #[Value.int .i64 (f:Int)] 3)).heap.size from by have:=hm3.lt;simp;omega)
        have CN:=Lib.hid (cells_new w3 3 [Value.int .i64 (f:Int)])
        clear ht3 hp3 hff hu3 hm3 hr3 hB
        go_wp2_with (refine wpList_append_at rfl (.tmp 32) (.tmp 34) 128 rfl (w.heap.size+2) 3 iI (.int .i64 0) 1 8 Tryz.underlying128 HII.out HI0.out HI1.out HI2.out rfl (by decide) v k (fV m) rfl HR3.out ⟨w3.heap.size,0,none⟩ 1 [Value.int .i64 (f:Int)] rfl rfl CN.out HONE.out HQ1.out HQ2.out HQ3.out ?_;intro v9 w9 hr9 hg9 ho9;obtain⟨gq,oq,cq,rfl,_,_⟩:=hr9.some_ (by omega);have h9:=(hg9.block (w.heap.size+1) (by simp;have:=HML.out;omega) (fun e=>by have:=(HR3.out.lt _ e.symm).1;omega)).trans HM3.out;have c9:w9.cell? ⟨w.heap.size+1,0,none⟩=some v:=Blk.cell h9 0;have f9:w9.frozen? ⟨w.heap.size+1,0,none⟩=false:=Blk.frozen h9 0;have H9:=Lib.hid h9;have R9:=Lib.hid hr9;have G9:=Lib.hid hg9;clear h9 hr9 hg9 ho9)
        go_roundg (n - (k+1))
        case measure=>omega
        case rel =>
          have hs9:=G9.out.size
          simp only[World.size_alloc] at hs9
          have hml:=HML.out
          have hB9:Below (w.heap.size+1) w3 w9:=(HB.out.mono (by omega)).grown G9.out (by simp;omega) (fun j hj=>by have:=(HR3.out.lt j hj).1;omega)
          have hB11:Below (w.heap.size+1) w3 (w9.setCell ⟨w.heap.size+1,0,none⟩ (Value.slice (some ⟨gq,oq,none⟩) (k+1) cq)):=hB9.setCell (by simp) _
          have hB10:=hB11.mono (Nat.le_succ w.heap.size)
          have e1:(m ++ [f]).length=k+1:=by rw[List.length_append,← HK.out];rfl
          refine⟨m ++ [f],_,by omega,by rw[e1];go_num,HTK.out.snoc HFF.out,?_,?_,Blk.set_ H9.out 0 _,?_,HU3.out.bel hB10⟩
          · rw[hadP_snoc]
            exact HP3.out.bel hB10 hlP
          · exact (hB11.block w.heap.size (Nat.lt_succ_self _)).trans HT3.out
          · rw[e1,fV_snoc]
            exact R9.out.keep (fun j hj=>Below.heap_setCell _ _ _ _ (fun hh=>by have:=(R9.out.lt j hj).1;simp only at hh;omega)) (by simp[World.setCell])
      · have hP3:=PoolIn.of hp3
        have hu3:Turns (fun k=>k=gP) w w3:=HUX.out.trans ht3
        have hlP:=HLT.out.2.2.2.1
        have hsx:=HUX.out.size
        have hm3:Blk w3 (w.heap.size+1) 128 #[v]:=ht3.blk HMX.out (by omega)
        have ht3':Blk w3 w.heap.size 31 #[.pointer (some ⟨gT,0,none⟩)]:=ht3.blk HTX.out (by omega)
        have hr3:RowAt w3 (w.heap.size+2) 1 v k (fV m):=HRX.out.keep (fun j hj=>ht3.block j (HRX.out.lt j hj).2 (fun e=>by have:=(HRX.out.lt j hj).1;omega)) ht3.size
        rw[HK.out] at hr3
        have UN:=Lib.hid (tundo_any 4 w.heap.size (w.heap.size+1) gT gR gP r gS gL (hadP p m) l v m w3 (hu3.blk HT.out HD.out.d.tP) hp3 (HS.out.turns hu3 (fun e=>HD.out.d.pS e.symm) (fun e=>HD.out.d.pL e.symm)) HD.out.d hr3.its (hr3.off (fun k hk=>by have:=HLT.out;rcases hk with rfl | rfl | rfl <;> omega)) (ht3'.cell 0) (hm3.cell 0))
        have HU3:=Lib.hid hu3
        have HNO:=Lib.hid hno
        clear ht3 hp3 hP3 hu3 hm3 ht3' hr3 hno
        go_wp2_with fail
        refine UN.out.mono ?_
        rintro e w4 ⟨rfl,k1,k2,k3⟩
        rw[had_freed HP.out.ok HTK.out] at k1
        have K1:=Lib.hid k1
        have K2:=Lib.hid k2
        have K3:=Lib.hid ((HU3.out.mono (fun k hk=>.inl hk)).trans k3:Turns (fun k=>k=gP∨k=gS∨k=gL) w w4)
        clear k1 k2 k3
        go_wp2_with fail
        go_ret2
        exact⟨m,.inr ⟨by rw[← HK.out];exact hlt,HTK.out,HNO.out,rfl,K1.out,K2.out,K3.out⟩⟩
    · obtain rfl:k=n:=by omega
      have t1:decide ((k:Int) < (k:Int))=false:=decide_eq_false (by omega)
      obtain⟨A,cap,hva,hcap⟩:=HRX.out.len
      subst hva
      have HIT:=Lib.hid (show Its wr wr.heap.size (.slice A k cap) (zI m) from by
        have h:=HRX.out
        rw[HK.out] at h ⊢
        exact h.its)
      have HOFF:=Lib.hid (HRX.out.off (K:=fun j=>j < w.heap.size+2) (fun j hj=>hj))
      have HMU:=Lib.hid (HM.out.turns HUX.out HD.out.rP HD.out.fP)
      have HTA:=Lib.hid (Took.all HP.out.ok m HTK.out)
      clear hlt t1
      have HZ:=Lib.hid (show ∀ i,i < k→∃ b1 o1,A=some ⟨b1,o1,none⟩∧w.heap.size+2≤b1∧b1 < wr.heap.size∧wr.cell? ⟨b1,o1+i,none⟩=some (.int .i64 ((m.getD i 0:Nat):Int)) from fun i hi=>by
        obtain⟨A',N,c,e,hN,_,hc,hz⟩:=HIT.out
        cases e
        obtain⟨b1,o1,e,h1,h2⟩:=hz (by omega)
        have h3:=h2 i (by omega)
        rw[zI_at] at h3
        refine⟨b1,o1,e,?_,h1,h3⟩
        rcases Nat.lt_or_ge b1 (w.heap.size+2) with h | h
        · exact absurd h (HOFF.out b1 o1 none k cap (by rw[e]) (by omega))
        · exact h)
      have hml:k≤9223372036854775807:=by omega
      obtain⟨W1,hW1⟩:∃ W,W=wr:=⟨_,rfl⟩
      subst hW1
      go_wp2_with fail
      go_loopg [11,12,39] k (fun gg _ _ s39 wx=>∃ (i:Nat) (F':Nat→List Nat),i+gg=k∧s39=.int .i64 (i:Int)∧Mem wx gR gF 1024 F' bad∧(∀ f∈m.take i,F' f=zer)∧(∀ f,f ∉ m.take i→F' f=F f)∧Turns (fun j=>j=gF) W1 wx)
      case atStart=>exact⟨0,F,by omega,rfl,HMU.out,fun f hf=>by simp at hf,fun f _=>rfl,Turns.refl _ _⟩
      case round =>
        obtain⟨i,F',hig,rfl,hm2,hz2,ho2,ht2⟩:=hrel
        have HM2:=Lib.hid hm2
        have HZ2:=Lib.hid hz2
        have HO2:=Lib.hid ho2
        have HT2:=Lib.hid ht2
        have hlF:=HLT.out.2.2.1
        have cT2:wr.cell? ⟨w.heap.size,0,none⟩=some (.pointer (some ⟨gT,0,none⟩)):=(ht2.blk HTX.out (by omega)).cell 0
        have hTB2:TreeB wr gT gR gP r gS:=ht2.blk HTB.out (fun e=>HD.out.fT e.symm)
        have c02:wr.cell? ⟨gT,0,none⟩=some (.pointer (some ⟨gR,0,none⟩)):=Blk.cell hTB2 0
        clear hm2 hz2 ho2 ht2
        by_cases hlt:i < k
        · have t4:decide ((i:Int) < (k:Int))=true:=decide_eq_true (by omega)
          have t5:(i:Int) < (k:Int):=by omega
          have t6:(0:Int)≤(i:Int):=by omega
          obtain⟨b1,o1,rfl,h1,hbl,hcc⟩:=HZ.out i hlt
          obtain⟨y,hy⟩:∃ y,y=m.getD i 0:=⟨_,rfl⟩
          have hcell:wr.cell? ⟨b1,o1+i,none⟩=some (.int .i64 (y:Int)):=(World.cell?_of_block (HT2.out.block b1 hbl (by omega))).trans (by rw[hy];exact hcc)
          have hym:y∈m:=by rw[hy];exact getD_mem_or _ _ _ (by rw[← HK.out];exact hlt)
          have hy10:y < 1024:=(HTA.out.2 y hym).1
          have ZR:=Lib.hid (zero_yes gR gF 1024 F' bad y wr HM2.out hy10 (HBD.out y hy10))
          have TK:=Lib.hid (show m.take (i+1)=m.take i ++ [y] from by
            have hi:i < m.length:=by rw[← HK.out];exact hlt
            rw[List.take_add_one,List.getElem?_eq_getElem hi,hy]
            simp[hi])
          clear hcc hy h1 hbl hTB2
          go_wp2_with fail
          refine ZR.out.mono ?_
          rintro e w5 ⟨rfl,hm5,ho5⟩
          have HM5:=Lib.hid hm5
          have HT5:=Lib.hid (HT2.out.trans (Turns.of_only ho5 rfl:Turns (fun j=>j=gF) wr w5))
          clear hm5 ho5
          go_wp2_with fail
          go_roundg (k - (i+1))
          case measure=>omega
          case rel =>
            refine⟨i+1,upd F' y zer,by omega,by go_num,HM5.out,fun f hf=>?_,fun f hf=>?_,HT5.out⟩
            · rw[TK.out,List.mem_append,List.mem_singleton] at hf
              by_cases c:f=y
              · rw[c,upd_same]
              · rw[upd_other _ _ _ c]
                exact HZ2.out f (hf.resolve_right c)
            · rw[TK.out,List.mem_append,List.mem_singleton] at hf
              rw[upd_other _ _ _ (fun e=>hf (.inr e))]
              exact HO2.out f (fun h=>hf (.inl h))
        · obtain rfl:i=k:=by omega
          have t4:decide ((i:Int) < (i:Int))=false:=decide_eq_false (by omega)
          have hsz:=HUX.out.size
          have hsz2:=HT2.out.size
          have hmx2:Blk wr (w.heap.size+1) 128 #[.slice A i cap]:=HT2.out.blk HMX.out (by omega)
          have cM2:wr.cell? ⟨w.heap.size+1,0,none⟩=some (.slice A i cap):=hmx2.cell 0
          have c32:wr.cell? ⟨gT,3,none⟩=some (.pointer (some ⟨gS,0,none⟩)):=Blk.cell hTB2 3
          have HS2:=Lib.hid (HSX.out.turns HT2.out (fun e=>HD.out.fS e.symm) (fun e=>HD.out.fL e.symm))
          have HI2:=Lib.hid (HIT.out.turns (Nat.le_refl _) HT2.out (fun b o s n c e hn hk=>HOFF.out b o s n c e hn (by subst hk;omega)))
          have HP2:=Lib.hid (HPX.out.turns HT2.out (fun e=>HD.out.fP e.symm))
          have HMB:=Lib.hid hmx2
          have et:m.take i=m:=by rw[HK.out];exact List.take_length
          rw[et] at HZ2 HO2
          clear hmx2 hTB2 c02
          go_wp2_with fail
          go_still_tail 5,(by kernel_rfl)
          change wpList _ _ _ _ _ wr.drew
          obtain⟨W3,hW3⟩:∃ W,W=wr.drew:=⟨_,rfl⟩
          rw[← hW3]
          have HD3:=Lib.hid (show Turns (fun j=>j=gF) W1 W3 from by rw[hW3];exact HT2.out.drew)
          have hsz3:=HD3.out.size
          have HS3:=Lib.hid (show SetAt W3 gS gL l from by rw[hW3];exact HS2.out)
          have HI3:=Lib.hid (show Its W3 W3.heap.size (.slice A i cap) (zI m) from by rw[hW3];exact HI2.out.more HT2.out.size)
          have HP3:=Lib.hid (show PoolIn W3 gP (hadP p m) from by rw[hW3];exact HP2.out)
          have HM3:=Lib.hid (show Mem W3 gR gF 1024 F' bad from by rw[hW3];exact HM2.out)
          have HMB3:=Lib.hid (show Blk W3 (w.heap.size+1) 128 #[.slice A i cap] from by rw[hW3];exact HMB.out)
          have hlt6:=HLT.out
          have SA:=Lib.hid (set_add gS gL l _ (zI m) W3 HS3.out HI3.out (fun b o s n c e hn hk=>HOFF.out b o s n c e hn (by rcases hk with rfl | rfl <;> omega)))
          clear hW3 cM2 c32 cT2
          go_wp2_with fail
          refine SA.out.mono ?_
          rintro e w6 ⟨rfl,k1,k2⟩
          have cM6:w6.cell? ⟨w.heap.size+1,0,none⟩=some (.slice A i cap):=(k2.blk HMB3.out (by rintro (e | e) <;> omega)).cell 0
          have K1:=Lib.hid k1
          have K2:=Lib.hid k2
          clear k1 k2
          go_wp2_with fail
          go_ret2
          refine⟨m,.inl ⟨HK.out.symm,HTK.out,_,F',rfl,?_,HM3.out.turns K2.out (by rintro (e | e);exact HD.out.rS e;exact HD.out.rL e) (by rintro (e | e);exact HD.out.fS e;exact HD.out.fL e),HZ2.out,HO2.out,HP3.out.turns K2.out (by rintro (e | e);exact HD.out.d.pS e;exact HD.out.d.pL e),K1.out,?_⟩⟩
          · have hr:=HRX.out
            refine (RowAt.keep hr (fun j hj=>?_) (Nat.le_trans hsz3 K2.out.size)).mono (by omega)
            have h1:=hr.lt j hj
            exact (K2.out.block j (by omega) (by rintro (e | e) <;> omega)).trans (HD3.out.block j h1.2 (by omega))
          · exact (HUX.out.mono (fun k hk=>.inl hk)).trans ((HD3.out.mono (fun k hk=>.inr (.inr (.inr hk)))).trans (K2.out.mono (fun k hk=>.inr (hk.elim .inl (fun h=>.inr (.inl h))))))
end Go.Proofs.YtaonpmclkafjdaaGreat

/-
  The places of a set, one by one, in some order: the library's Keys over such a map; a new slice of them, Collect.
  The pages of a cache, one by one, in some order: the library's Keys over such a map; a new slice of them, Collect.
  The places of a set, one by one, in some order: the library's Keys over such a map; a new slice of them, Collect.
  Conditions: those that each line bears.
-/
import Derived.Test.YtaonpmclkafjdaaGreatQz21
import Derived.Test.YtaonpmclkafjdaaGreatQz23
import Derived.Shelf.SlIterI.Stops
import Derived.Shelf.SlIterI.Sorted
import Derived.Shelf.SlIterI.Nil
import Derived.RangeFuncNested
import Derived.RangeFuncBox
import Derived.RangeFuncKeeps
set_option linter.unusedSimpArgs false
set_option linter.unusedSectionVars false
set_option linter.unusedVariables false
namespace Go.Proofs.YtaonpmclkafjdaaGreat
open Go.RowKit Go.Shelf Go.Maps Go.Sort
set_option linter.unusedVariables false
attribute [local go_sem] Oper.semAt_some
theorem Tryz.infoPlace:((Tryz.prog.info? 60).map fun (i:TypeInfo)=>(i.zero,i.size,i.bytes))=some (some (.agg #[.int .i64 0,.int .i64 0]),2,16):=by kernel_rfl
def AllOf (D0:KDat)(ss:List Pl):Prop:=ss.Nodup∧(∀ x∈ss,WPl x)∧∀ x,WPl x→(x∈ss↔Maps.has D0 (litP x)=true)
set_option maxRecDepth 100000 in
set_option maxHeartbeats 1000000 in
theorem keysP_any {n:Nat} (hn:1≤n) (Bm b nn:Nat) (D0:KDat) (w:World) (hBm:Bm < w.heap.size) (hm:w.cell? ⟨Bm,0,none⟩=some (.map (some b))) (hown:w.ownsMap Tryz.prog 60 selfR b nn D0) :
    SeqStopsK Fence.wide n Tryz.prog 212 #[.pointer (some ⟨Bm,0,none⟩)] (fun p=>#[encP p]) KeepsWalks (fun ss=>AllOf D0 ss∧ss.length≤Maps.size D0) (fun _=>True) (Maps.size D0) w:=by
  intro l J Jx W hW hJ _ hY h0
  have hm':W.cell? ⟨Bm,0,none⟩=some (.map (some b)):=(hW.cell (p:=⟨Bm,0,none⟩) hBm).trans hm
  have hown':W.ownsMap Tryz.prog 60 selfR b nn D0:=by
    have hbl:=hown.lt
    obtain⟨es,clock,hb,Ft,hs,hD⟩:=hown
    exact⟨es,clock,(hW.block b hbl).trans hb,Ft,hs,hD⟩
  have HY:=Lib.hid hY
  clear hm hown hY
  refine callsIn_of_wp Tryz.func212 rfl trivial ?_ rfl
  simp only[Tryz.ntmps212,List.size_toArray,List.length_cons,List.length_nil,Nat.reduceAdd,Nat.reduceSub,Array.replicate_succ,Array.replicate_zero,List.push_toArray,List.append_toArray,List.nil_append,List.cons_append]
  gi_wp2_with (first
    | (gi_at_range;refine wpListIn_range_own _ rfl _ 236 rfl 60 140 placeKeyed Tryz.underlying236 _ b nn _ rfl hown' ?_;intro w0 hrg0 hg0 hs0)
    | gi_in)
  try go_frame
  gi_loopw [3] (fun _ wr=>∃ (left:Lit→Bool) (cnt:Nat) (ss:List Pl),wr.ranges Tryz.prog 60 selfR b W.heap.size nn D0 left cnt∧ss.length+cnt≤Maps.size D0∧CollK EP D0 left ss∧J ss wr)
    (fun _ wr=>wr.rangeLeft b W.heap.size)
  case atStart =>
    exact⟨_,_,[],hrg0,by simp,CollK.start EP D0,hJ [] W w0 none h0 hg0 (fun r e=>by cases e)⟩
  case round =>
    obtain⟨left,cnt,ss,hrg,hcs,hC,hJs⟩:=hrel
    gi_wp2_with (first
      | (gi_at_next;refine wpListIn_next_ranges _ rfl _ rfl 60 placeKeyed selfR encP id (fun key kl hk=>by obtain⟨x,_,hx,_⟩:=EP.inv key kl hk;exact⟨x,hx⟩) (fun v _ _=>⟨v,rfl⟩) b W.heap.size nn _ _ _ rfl hrg ?_ ?_)
      | gi_in)
    · intro hc0 hl0
      gi_wp2
      go_end0
      exact⟨⟨_,rfl⟩,.inl ⟨ss,⟨⟨hC.nd,hC.ok,fun x hx=>by rw[hC.iff x hx,hl0];exact⟨fun h=>h.1,fun h=>⟨h,rfl⟩⟩⟩,by omega⟩,hJs⟩⟩
    · intro x c kl yd yp w2 cnt2 hkey hlk hv hat hrg2 hlt hg2 hs2 hen
      obtain⟨x',hok,ex,rfl⟩:=EP.inv _ _ hkey
      obtain rfl:x=x':=EP.mkInj x x' ex
      have hJ2:J ss w2:=hJ ss wr w2 (some W.heap.size) hJs hg2 (fun r e=>by cases e;exact⟨Nat.le_refl _,hrg.iter_walk⟩)
      obtain⟨w3,hw3⟩:∃ w3,w2.alloc (.cells #[.int .i64 x.c,.int .i64 x.g] 60)=w3:=⟨_,rfl⟩
      have hblk:Blk w3 w2.heap.size 60 #[.int .i64 x.c,.int .i64 x.g]:=by rw[← hw3];exact Blk.new _ _ _
      have k1:w3.cell? ⟨w2.heap.size,0,none⟩=some (.int .i64 x.c):=hblk.cell 0
      have k2:w3.cell? ⟨w2.heap.size,1,none⟩=some (.int .i64 x.g):=hblk.cell 1
      have hJ3:J ss w3:=hJ ss w2 w3 none hJ2 (by rw[← hw3];exact World.grownBy_alloc _ _ _) (fun r e=>by cases e)
      have hrg3:=hrg2.of_walks (show KeepsWalks w2 w3 from by rw[← hw3];exact KeepsWalks.alloc _ _)
      obtain⟨fn,tmps,assign,body,hy,hR⟩:=HY.out ss x w3 hJ3 (by omega)
      clear hs2
      unfold encP at hen hy
      unfold encP
      gi_wp2
      refine hR.mono ?_
      rintro e W3 (⟨rfl,hJ4,hk4⟩ | ⟨rfl,hJx4⟩)
      · gi_wp2
        have hrg4:=hrg3.of_walks hk4
        go_roundw
        case rel=>exact⟨_,cnt2,ss ++ [x],hrg4,by simp;omega,hC.step hok hlk hat,hJ4⟩
        case measure=>rw[hrg4.left_eq,hrg.left_eq];exact hlt
      · gi_wp2
        refine bodyPost_ret (results_none rfl _ _ _) rfl ?_
        exact⟨⟨_,rfl⟩,.inr ⟨ss ++ [x],trivial,hJx4⟩⟩
set_option maxRecDepth 100000 in
set_option maxHeartbeats 1000000 in
theorem keysP_nil {n:Nat} (Bm:Nat) (w:World) (hBm:Bm < w.heap.size) (hm:w.cell? ⟨Bm,0,none⟩=some (.map none)) :
    SeqStopsK Fence.wide n Tryz.prog 212 #[.pointer (some ⟨Bm,0,none⟩)] (fun p=>#[encP p]) KeepsWalks (fun ss:List Pl=>ss=[]) (fun _=>True) 0 w:=by
  intro l J Jx W hW hJ _ _ h0
  have hm':W.cell? ⟨Bm,0,none⟩=some (.map none):=(hW.cell (p:=⟨Bm,0,none⟩) hBm).trans hm
  clear hm
  refine callsIn_of_wp Tryz.func212 rfl trivial ?_ rfl
  simp only[Tryz.ntmps212,List.size_toArray,List.length_cons,List.length_nil,Nat.reduceAdd,Nat.reduceSub,Array.replicate_succ,Array.replicate_zero,List.push_toArray,List.append_toArray,List.nil_append,List.cons_append]
  have hrg:=run_range_nilMap (P:=Tryz.prog) W 236 60 140 Tryz.underlying236
  have hnx:∀ ty,(Instr.next (.pointer (some ⟨W.heap.size,0,none⟩)) false ty).run Tryz.prog (W.alloc (.mapIter none 0 #[] 0))=_:=fun ty=>run_next_nilMap _ ty 0 0 #[]
  gi_wp2
  refine wpIn_loop_rounds 1 ?_
  rw[roundsIn_succ]
  gi_wp2
  go_end0
  exact⟨⟨_,rfl⟩,.inl ⟨[],rfl,hJ [] W _ none h0 (World.grownBy_alloc W _ none) (fun r e=>by cases e)⟩⟩
set_option maxRecDepth 100000 in
set_option maxHeartbeats 2000000 in
theorem appendP_any {n:Nat} (hn:3≤n) (g:Nat) (lb:Array Value) (eg:∀ args w,(callFunc g args).run Tryz.prog w=.ok (.enter g args) w) (S:List Pl→Prop) (N:Nat) (hN:N≤1000000) (w:World)
    (hseq:SeqStopsK Fence.wide (n - 1) Tryz.prog g lb (fun p=>#[encP p]) KeepsWalks S (fun _=>True) N w) (hSN:∀ ss,S ss→ss.length≤N) :
    CallsIn Fence.wide n Tryz.prog 235 #[.slice none 0 0,.func (.func g) #[] lb] w fun e w'=>∃ (v:Value) (ss:List Pl),e=.returned v∧S ss∧w'.ownsRow w.heap.size 60 2 v ss.length (flatP ss)∧(v=.slice none 0 0↔ss=[])∧Below w.heap.size w w':=by
  have hro:Fence.wide.round=none:=rfl
  obtain⟨i0,hi,hz0,hz1,hz2⟩:=info_parts Tryz.infoPlace
  refine callsIn_of_wp_marks Tryz.func235 rfl trivial ?_ hro
  simp only[Tryz.ntmps235,List.size_toArray,List.length_cons,List.length_nil,Nat.reduceAdd,Nat.reduceSub,Array.replicate_succ,Array.replicate_zero,List.push_toArray,List.append_toArray,List.nil_append,List.cons_append]
  gi_wp2
  have bO:=Boxed.new w 181 (.slice none 0 0)
  obtain⟨W0,hW0⟩:∃ W0,w.alloc (.cells #[.slice none 0 0] 181)=W0:=⟨_,rfl⟩
  have hB0:Below w.heap.size w W0:=by rw[← hW0];exact (Below.refl _ w).alloc (Nat.le_refl _) _
  have hs0:W0.heap.size=w.heap.size+1:=by rw[← hW0];simp
  rw[hW0] at bO ⊢
  refine wpIn_rangeFunc_ownH hro (by omega) (gf:=g) (lb:=lb) rfl trivial eg (encs:=fun p:Pl=>#[encP p]) (Kp:=KeepsWalks) hseq walksK_t walksK_b hB0 (fun _=>rfl)
    (fun pre W=>(∃ v,Boxed W w.heap.size 181 v∧W.ownsRow w.heap.size 60 2 v pre.length (flatP pre)∧(v=.slice none 0 0↔pre=[]))∧Below w.heap.size w W)
    (fun _ _ _=>False)
    (OwnFrom.and (Own.from (holdsRow_own w.heap.size w.heap.size 181 60 2 (fun pre=>pre.length) (fun pre=>flatP pre) (fun pre v=>v=.slice none 0 0↔pre=[])) _) (ownFrom_below (Nat.le_refl _) (by omega)))
    (fun _ _ _ _ _ hs _ _=>hs)
    ⟨⟨_,bO,World.ownsRow_nil _ _ _ _,by simp⟩,hB0⟩
    (fun x a' W=>RndAt 60 (fun u v=>{ tmps:=#[.slice none 0 0,.func (.func g) #[] lb,.pointer (some ⟨w.heap.size,0,none⟩),undef,.slice none 0 0,u,.func (.func g) #[] lb,v,undef,undef,undef,undef,undef],defers:=[] }) W0.heap.size x a' W) (fun x a'=>RndAt.own _ _ _ x a') ?assign ?body ?done ?stop
  case assign =>
    intro l pre x W K hI hK
    unfold encP
    gi_wp2
    obtain⟨⟨v,hv,hrow,hnil⟩,hB⟩:=hI
    have hlt:=hv.lt
    exact hK _ _ ((KeepsOthers.alloc _ _).from _) (KeepsWalks.alloc _ _) ⟨⟨v,hv.alloc _,hrow.alloc _,hnil⟩,hB.alloc hB.size _⟩ ⟨W.heap.size,by omega,rfl,Blk.new _ _ _⟩
  case body =>
    rintro l pre x a' W _ _ ⟨⟨v,hv,hrow,hnil⟩,hB⟩ ⟨k,hk,rfl,hblk⟩ hlt
    unfold encP
    have hc:=hv.cell
    have k1:W.cell? ⟨k,0,none⟩=some (.int .i64 x.c):=hblk.cell 0
    have k2:W.cell? ⟨k,1,none⟩=some (.int .i64 x.g):=hblk.cell 1
    have hlt':pre.length < 1000000:=by omega
    have hn2:∀ (j:Nat) (u:Value),([.int .i64 x.c,.int .i64 x.g]:List Value)[j]?=some u→(W.alloc (.cells #[.int .i64 x.c,.int .i64 x.g] 60)).cell? (Addr.add ⟨W.heap.size,0,none⟩ j)=some u:=by
      intro j u hj
      rw[Addr.add_lit,(Blk.new W 60 #[.int .i64 x.c,.int .i64 x.g]).cell (0+j)]
      simpa using hj
    gi_wp2_with (gi_at_builtin;refine wpListIn_append_own _ rfl _ _ 181 rfl w.heap.size 60 i0 (.agg #[.int .i64 0,.int .i64 0]) 2 16 Tryz.underlying181 hi hz0 hz1 hz2 rfl (by decide) _ _ _ rfl (hrow.alloc _) ⟨W.heap.size,0,none⟩ 1 1 [.int .i64 x.c,.int .i64 x.g] rfl rfl hn2 (by simp[Value.oneCell']) (by unfold maxLen;omega) (by omega) (by have:=hB.size;simp;omega) ?_;intro v' w1 hown' hgrow _;obtain⟨g',cap',rfl⟩:=ownsRow_succ hown';obtain⟨hv1,hv2,hr2,hk2,hb2⟩:=hv.appended (by decide) hrow hB.size (Nat.le_refl _) hown' hgrow;have hc1:=hv1.cell;have hf1:=hv1.frozen)
    exact⟨hk2.from _,hk2.walks,⟨_,hv2,by rw[flatP_snoc];simpa using hr2,by simp⟩,hB.trans hb2⟩
  case done =>
    rintro D ys W hD hys ⟨⟨v,hv,hrow,hnil⟩,hB⟩ hK
    have hc:=hv.cell
    gi_wp2
    refine⟨by simp,.inl ⟨_,_,rfl,run_takeDeferred hK,?_⟩⟩
    exact⟨_,results_tmp rfl _ _ _,v,ys,rfl,hys,ownsRow_putObj hrow _ hK rfl,hnil,hB.trans (belowK_b (w:=w) (Nat.le_refl _) _ D _ _ (by omega) hK rfl rfl)⟩
  case stop =>
    intro D c pre W _ _ h
    exact h.elim
end Go.Proofs.YtaonpmclkafjdaaGreat
namespace Go.Proofs.YtaonpmclkafjdaaGreat
open Go.RowKit Go.Shelf Go.Maps Go.Sort
set_option linter.unusedVariables false
attribute [local go_sem] Oper.semAt_some
end Go.Proofs.YtaonpmclkafjdaaGreat
namespace Go.Proofs.YtaonpmclkafjdaaGreat
open Go.RowKit Go.Shelf Go.Maps Go.Sort
set_option linter.unusedVariables false
attribute [local go_sem] Oper.semAt_some
theorem Tryz.infoPlaceW:((Tryz.prog.info? 60).map fun (i:TypeInfo)=>(i.zero,i.size,i.bytes))=some (some (.agg #[.int .i64 0,.int .i64 0]),2,16):=by kernel_rfl
def AllOfW (D0:KDat)(ss:List Pl):Prop:=ss.Nodup∧(∀ x∈ss,WPl x)∧∀ x,WPl x→(x∈ss↔Maps.has D0 (litP x)=true)
set_option maxRecDepth 100000 in
set_option maxHeartbeats 1000000 in
theorem keysP_anyW {n:Nat} (hn:1≤n) (Bm b nn:Nat) (D0:KDat) (w:World) (hBm:Bm < w.heap.size) (hm:w.cell? ⟨Bm,0,none⟩=some (.map (some b))) (hown:w.ownsMap Tryz.prog 60 selfR b nn D0) :
    SeqStopsK Fence.wide n Tryz.prog 197 #[.pointer (some ⟨Bm,0,none⟩)] (fun p=>#[encP p]) KeepsWalks (fun ss=>AllOfW D0 ss∧ss.length≤Maps.size D0) (fun _=>True) (Maps.size D0) w:=by
  intro l J Jx W hW hJ _ hY h0
  have hm':W.cell? ⟨Bm,0,none⟩=some (.map (some b)):=(hW.cell (p:=⟨Bm,0,none⟩) hBm).trans hm
  have hown':W.ownsMap Tryz.prog 60 selfR b nn D0:=by
    have hbl:=hown.lt
    obtain⟨es,clock,hb,Ft,hs,hD⟩:=hown
    exact⟨es,clock,(hW.block b hbl).trans hb,Ft,hs,hD⟩
  have HY:=Lib.hid hY
  clear hm hown hY
  refine callsIn_of_wp Tryz.func197 rfl trivial ?_ rfl
  simp only[Tryz.ntmps197,List.size_toArray,List.length_cons,List.length_nil,Nat.reduceAdd,Nat.reduceSub,Array.replicate_succ,Array.replicate_zero,List.push_toArray,List.append_toArray,List.nil_append,List.cons_append]
  gi_wp2_with (first
    | (gi_at_range;refine wpListIn_range_own _ rfl _ 135 rfl 60 140 placeKeyed Tryz.underlying135 _ b nn _ rfl hown' ?_;intro w0 hrg0 hg0 hs0)
    | gi_in)
  try go_frame
  gi_loopw [3] (fun _ wr=>∃ (left:Lit→Bool) (cnt:Nat) (ss:List Pl),wr.ranges Tryz.prog 60 selfR b W.heap.size nn D0 left cnt∧ss.length+cnt≤Maps.size D0∧CollK EP D0 left ss∧J ss wr)
    (fun _ wr=>wr.rangeLeft b W.heap.size)
  case atStart =>
    exact⟨_,_,[],hrg0,by simp,CollK.start EP D0,hJ [] W w0 none h0 hg0 (fun r e=>by cases e)⟩
  case round =>
    obtain⟨left,cnt,ss,hrg,hcs,hC,hJs⟩:=hrel
    gi_wp2_with (first
      | (gi_at_next;refine wpListIn_next_ranges _ rfl _ rfl 60 placeKeyed selfR encP id (fun key kl hk=>by obtain⟨x,_,hx,_⟩:=EP.inv key kl hk;exact⟨x,hx⟩) (fun v _ _=>⟨v,rfl⟩) b W.heap.size nn _ _ _ rfl hrg ?_ ?_)
      | gi_in)
    · intro hc0 hl0
      gi_wp2
      go_end0
      exact⟨⟨_,rfl⟩,.inl ⟨ss,⟨⟨hC.nd,hC.ok,fun x hx=>by rw[hC.iff x hx,hl0];exact⟨fun h=>h.1,fun h=>⟨h,rfl⟩⟩⟩,by omega⟩,hJs⟩⟩
    · intro x c kl yd yp w2 cnt2 hkey hlk hv hat hrg2 hlt hg2 hs2 hen
      obtain⟨x',hok,ex,rfl⟩:=EP.inv _ _ hkey
      obtain rfl:x=x':=EP.mkInj x x' ex
      have hJ2:J ss w2:=hJ ss wr w2 (some W.heap.size) hJs hg2 (fun r e=>by cases e;exact⟨Nat.le_refl _,hrg.iter_walk⟩)
      obtain⟨w3,hw3⟩:∃ w3,w2.alloc (.cells #[.int .i64 x.c,.int .i64 x.g] 60)=w3:=⟨_,rfl⟩
      have hblk:Blk w3 w2.heap.size 60 #[.int .i64 x.c,.int .i64 x.g]:=by rw[← hw3];exact Blk.new _ _ _
      have k1:w3.cell? ⟨w2.heap.size,0,none⟩=some (.int .i64 x.c):=hblk.cell 0
      have k2:w3.cell? ⟨w2.heap.size,1,none⟩=some (.int .i64 x.g):=hblk.cell 1
      have hJ3:J ss w3:=hJ ss w2 w3 none hJ2 (by rw[← hw3];exact World.grownBy_alloc _ _ _) (fun r e=>by cases e)
      have hrg3:=hrg2.of_walks (show KeepsWalks w2 w3 from by rw[← hw3];exact KeepsWalks.alloc _ _)
      obtain⟨fn,tmps,assign,body,hy,hR⟩:=HY.out ss x w3 hJ3 (by omega)
      clear hs2
      unfold encP at hen hy
      unfold encP
      gi_wp2
      refine hR.mono ?_
      rintro e W3 (⟨rfl,hJ4,hk4⟩ | ⟨rfl,hJx4⟩)
      · gi_wp2
        have hrg4:=hrg3.of_walks hk4
        go_roundw
        case rel=>exact⟨_,cnt2,ss ++ [x],hrg4,by simp;omega,hC.step hok hlk hat,hJ4⟩
        case measure=>rw[hrg4.left_eq,hrg.left_eq];exact hlt
      · gi_wp2
        refine bodyPost_ret (results_none rfl _ _ _) rfl ?_
        exact⟨⟨_,rfl⟩,.inr ⟨ss ++ [x],trivial,hJx4⟩⟩
set_option maxRecDepth 100000 in
set_option maxHeartbeats 1000000 in
theorem keysP_nilW {n:Nat} (Bm:Nat) (w:World) (hBm:Bm < w.heap.size) (hm:w.cell? ⟨Bm,0,none⟩=some (.map none)) :
    SeqStopsK Fence.wide n Tryz.prog 197 #[.pointer (some ⟨Bm,0,none⟩)] (fun p=>#[encP p]) KeepsWalks (fun ss:List Pl=>ss=[]) (fun _=>True) 0 w:=by
  intro l J Jx W hW hJ _ _ h0
  have hm':W.cell? ⟨Bm,0,none⟩=some (.map none):=(hW.cell (p:=⟨Bm,0,none⟩) hBm).trans hm
  clear hm
  refine callsIn_of_wp Tryz.func197 rfl trivial ?_ rfl
  simp only[Tryz.ntmps197,List.size_toArray,List.length_cons,List.length_nil,Nat.reduceAdd,Nat.reduceSub,Array.replicate_succ,Array.replicate_zero,List.push_toArray,List.append_toArray,List.nil_append,List.cons_append]
  have hrg:=run_range_nilMap (P:=Tryz.prog) W 135 60 140 Tryz.underlying135
  have hnx:∀ ty,(Instr.next (.pointer (some ⟨W.heap.size,0,none⟩)) false ty).run Tryz.prog (W.alloc (.mapIter none 0 #[] 0))=_:=fun ty=>run_next_nilMap _ ty 0 0 #[]
  gi_wp2
  refine wpIn_loop_rounds 1 ?_
  rw[roundsIn_succ]
  gi_wp2
  go_end0
  exact⟨⟨_,rfl⟩,.inl ⟨[],rfl,hJ [] W _ none h0 (World.grownBy_alloc W _ none) (fun r e=>by cases e)⟩⟩
set_option maxRecDepth 100000 in
set_option maxHeartbeats 2000000 in
theorem appendP_anyW {n:Nat} (hn:3≤n) (g:Nat) (lb:Array Value) (eg:∀ args w,(callFunc g args).run Tryz.prog w=.ok (.enter g args) w) (S:List Pl→Prop) (N:Nat) (hN:N≤1000000) (w:World)
    (hseq:SeqStopsK Fence.wide (n - 1) Tryz.prog g lb (fun p=>#[encP p]) KeepsWalks S (fun _=>True) N w) (hSN:∀ ss,S ss→ss.length≤N) :
    CallsIn Fence.wide n Tryz.prog 235 #[.slice none 0 0,.func (.func g) #[] lb] w fun e w'=>∃ (v:Value) (ss:List Pl),e=.returned v∧S ss∧w'.ownsRow w.heap.size 60 2 v ss.length (flatP ss)∧(v=.slice none 0 0↔ss=[])∧Below w.heap.size w w':=by
  have hro:Fence.wide.round=none:=rfl
  obtain⟨i0,hi,hz0,hz1,hz2⟩:=info_parts Tryz.infoPlaceW
  refine callsIn_of_wp_marks Tryz.func235 rfl trivial ?_ hro
  simp only[Tryz.ntmps235,List.size_toArray,List.length_cons,List.length_nil,Nat.reduceAdd,Nat.reduceSub,Array.replicate_succ,Array.replicate_zero,List.push_toArray,List.append_toArray,List.nil_append,List.cons_append]
  gi_wp2
  have bO:=Boxed.new w 181 (.slice none 0 0)
  obtain⟨W0,hW0⟩:∃ W0,w.alloc (.cells #[.slice none 0 0] 181)=W0:=⟨_,rfl⟩
  have hB0:Below w.heap.size w W0:=by rw[← hW0];exact (Below.refl _ w).alloc (Nat.le_refl _) _
  have hs0:W0.heap.size=w.heap.size+1:=by rw[← hW0];simp
  rw[hW0] at bO ⊢
  refine wpIn_rangeFunc_ownH hro (by omega) (gf:=g) (lb:=lb) rfl trivial eg (encs:=fun p:Pl=>#[encP p]) (Kp:=KeepsWalks) hseq walksK_t walksK_b hB0 (fun _=>rfl)
    (fun pre W=>(∃ v,Boxed W w.heap.size 181 v∧W.ownsRow w.heap.size 60 2 v pre.length (flatP pre)∧(v=.slice none 0 0↔pre=[]))∧Below w.heap.size w W)
    (fun _ _ _=>False)
    (OwnFrom.and (Own.from (holdsRow_own w.heap.size w.heap.size 181 60 2 (fun pre=>pre.length) (fun pre=>flatP pre) (fun pre v=>v=.slice none 0 0↔pre=[])) _) (ownFrom_below (Nat.le_refl _) (by omega)))
    (fun _ _ _ _ _ hs _ _=>hs)
    ⟨⟨_,bO,World.ownsRow_nil _ _ _ _,by simp⟩,hB0⟩
    (fun x a' W=>RndAt 60 (fun u v=>{ tmps:=#[.slice none 0 0,.func (.func g) #[] lb,.pointer (some ⟨w.heap.size,0,none⟩),undef,.slice none 0 0,u,.func (.func g) #[] lb,v,undef,undef,undef,undef,undef],defers:=[] }) W0.heap.size x a' W) (fun x a'=>RndAt.own _ _ _ x a') ?assign ?body ?done ?stop
  case assign =>
    intro l pre x W K hI hK
    unfold encP
    gi_wp2
    obtain⟨⟨v,hv,hrow,hnil⟩,hB⟩:=hI
    have hlt:=hv.lt
    exact hK _ _ ((KeepsOthers.alloc _ _).from _) (KeepsWalks.alloc _ _) ⟨⟨v,hv.alloc _,hrow.alloc _,hnil⟩,hB.alloc hB.size _⟩ ⟨W.heap.size,by omega,rfl,Blk.new _ _ _⟩
  case body =>
    rintro l pre x a' W _ _ ⟨⟨v,hv,hrow,hnil⟩,hB⟩ ⟨k,hk,rfl,hblk⟩ hlt
    unfold encP
    have hc:=hv.cell
    have k1:W.cell? ⟨k,0,none⟩=some (.int .i64 x.c):=hblk.cell 0
    have k2:W.cell? ⟨k,1,none⟩=some (.int .i64 x.g):=hblk.cell 1
    have hlt':pre.length < 1000000:=by omega
    have hn2:∀ (j:Nat) (u:Value),([.int .i64 x.c,.int .i64 x.g]:List Value)[j]?=some u→(W.alloc (.cells #[.int .i64 x.c,.int .i64 x.g] 60)).cell? (Addr.add ⟨W.heap.size,0,none⟩ j)=some u:=by
      intro j u hj
      rw[Addr.add_lit,(Blk.new W 60 #[.int .i64 x.c,.int .i64 x.g]).cell (0+j)]
      simpa using hj
    gi_wp2_with (gi_at_builtin;refine wpListIn_append_own _ rfl _ _ 181 rfl w.heap.size 60 i0 (.agg #[.int .i64 0,.int .i64 0]) 2 16 Tryz.underlying181 hi hz0 hz1 hz2 rfl (by decide) _ _ _ rfl (hrow.alloc _) ⟨W.heap.size,0,none⟩ 1 1 [.int .i64 x.c,.int .i64 x.g] rfl rfl hn2 (by simp[Value.oneCell']) (by unfold maxLen;omega) (by omega) (by have:=hB.size;simp;omega) ?_;intro v' w1 hown' hgrow _;obtain⟨g',cap',rfl⟩:=ownsRow_succ hown';obtain⟨hv1,hv2,hr2,hk2,hb2⟩:=hv.appended (by decide) hrow hB.size (Nat.le_refl _) hown' hgrow;have hc1:=hv1.cell;have hf1:=hv1.frozen)
    exact⟨hk2.from _,hk2.walks,⟨_,hv2,by rw[flatP_snoc];simpa using hr2,by simp⟩,hB.trans hb2⟩
  case done =>
    rintro D ys W hD hys ⟨⟨v,hv,hrow,hnil⟩,hB⟩ hK
    have hc:=hv.cell
    gi_wp2
    refine⟨by simp,.inl ⟨_,_,rfl,run_takeDeferred hK,?_⟩⟩
    exact⟨_,results_tmp rfl _ _ _,v,ys,rfl,hys,ownsRow_putObj hrow _ hK rfl,hnil,hB.trans (belowK_b (w:=w) (Nat.le_refl _) _ D _ _ (by omega) hK rfl rfl)⟩
  case stop =>
    intro D c pre W _ _ h
    exact h.elim
end Go.Proofs.YtaonpmclkafjdaaGreat

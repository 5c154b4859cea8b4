/-
  A set of numbers in memory, and the contracts of runs' New, Add, Drop, Has, Count, All and Run.
  Conditions: those that each line bears.
-/
import Derived.Test.YtaonpmclkafjdaaGreatQz00
import Derived.Test.YtaonpmclkafjdaaGreatProg
import Derived.Deep.LoopGhost
import Derived.Deep.RegionHeld3
import Derived.Laws.MakeOwn
import Derived.OwnWalk
import Derived.BigQuiet
import Derived.Lib.SliceRun
import Derived.Lib.MinMax
set_option linter.unusedSimpArgs false
set_option linter.unusedSectionVars false
set_option linter.unusedVariables false
namespace Go.Proofs.YtaonpmclkafjdaaGreat
open Go.RowKit
set_option linter.unusedVariables false
theorem Tryz.infoBool:(Tryz.prog.info? 4).map (fun i=>(i.zero,i.size,i.bytes))=some (some (.bool false),1,1):=by kernel_rfl
theorem Tryz.infoInt8:(Tryz.prog.info? 3).map (fun i=>(i.zero,i.size,i.bytes))=some (some (.int .i64 0),1,8):=by kernel_rfl
theorem make_bools (n:Nat)(hn:n≤1024)(w:World):(Instr.makeSlice 257 (.int .i64 (n:Int)) (.int .i64 (n:Int))).run Tryz.prog w=.ok (.slice (some ⟨w.heap.size,0,none⟩) n n) (w.alloc (.cells ((List.replicate n false).map Value.bool).toArray 4)):=by
  obtain⟨i0,hi,hz0,hz1,hz2⟩:=info_parts Tryz.infoBool
  have hr:=run_make (P:=Tryz.prog) w 257 4 i0 (.bool false) Tryz.underlying257 hi hz0 .i64 .i64 n n (by omega) (by omega) (by rw[hz2];omega) (by omega)
  have hm:madeCells (Value.bool false).cells (n * 1)=((List.replicate n false).map Value.bool).toArray:=by
    apply Array.ext
    · simp[madeCells]
    · intro i h1 h2
      have e:(List.map Value.bool [false])[i % 1]?.getD default=Value.bool false:=by rw[Nat.mod_one];rfl
      simp[madeCells,Value.cells]
      first
        | exact e
        | (rw[Nat.mod_one];rfl)
  simp only[Int.toNat_natCast,hz1,hm] at hr
  exact hr
theorem putB_take {l:List Bool}{b:Bool}{fs:List Int}{i:Nat}{y:Int}(hi:i < fs.length)(hy:y=fs.getD i 0):putB l b (fs.take (i+1))=if 0≤y∧y < (l.length:Int) then (putB l b (fs.take i)).set y.toNat b else putB l b (fs.take i):=by
  have e2:fs.take (i+1)=fs.take i ++ [fs[i]]:=by rw[List.take_add_one,List.getElem?_eq_getElem hi];rfl
  have e:y=fs[i]:=by rw[hy];simp[hi]
  rw[e2,putB_snoc,e]
def Own8 (w:World)(gL:Nat)(l:List Bool):Prop:=Blk w gL 4 (l.map Value.bool).toArray
theorem Own8.set_ {w:World}{gL:Nat}{l:List Bool}(h:Own8 w gL l)(i:Nat)(b:Bool):Own8 (w.setCell ⟨gL,i,none⟩ (.bool b)) gL (l.set i b):=by
  have:=Blk.setL h i (.bool b)
  unfold Own8
  rw[List.map_set]
  exact this
theorem Own8.at_ {w:World}{gL:Nat}{l:List Bool}(h:Own8 w gL l){i:Nat}(hi:i < l.length):w.cell? ⟨gL,i,none⟩=some (.bool (l.getD i false)):=by
  rw[Blk.cellL h]
  simp[hi]
theorem Own8.below {w w':World}{gL:Nat}{l:List Bool}(h:Own8 w gL l)(hb:Below w.heap.size w w'):Own8 w' gL l:=(hb.block gL h.lt).trans h
def setV (gL n:Nat):Array Value:=#[.slice (some ⟨gL,0,none⟩) n n]
def RunMem (w:World)(gS:Nat)(K:Nat→Prop)(l:List Bool):Prop :=
  ∃ gL,K=(fun k=>k=gS∨k=gL)∧Blk w gS 259 (setV gL l.length)∧Own8 w gL l∧gS≠gL∧l.length≤1024
section
variable {w w':World}{gS:Nat}{K:Nat→Prop}{l:List Bool}
theorem RunMem.lt (h:RunMem w gS K l):∀ k,K k→k < w.heap.size:=by
  obtain⟨gL,rfl,h1,h2,_⟩:=h
  rintro k (rfl | rfl)
  · exact h1.lt
  · exact h2.lt
theorem RunMem.far (h:RunMem w gS K l)(hk:∀ k,K k→w'.heap[k]?=w.heap[k]?):RunMem w' gS K l:=by
  obtain⟨gL,rfl,h1,h2,h3,h4⟩:=h
  exact⟨gL,rfl,(hk gS (.inl rfl)).trans h1,(hk gL (.inr rfl)).trans h2,h3,h4⟩
theorem RunMem.fresh (h:RunMem w gS K l)(hb:Below w.heap.size w w'):RunMem w' gS K l:=h.far fun k hk=>hb.block k (h.lt k hk)
end
def cutN (n:Int):Nat:=if n < 0 then 0 else if 1024 < n then 1024 else n.toNat
theorem cutN_le (n:Int):cutN n≤1024:=by
  unfold cutN
  split
  · omega
  · split <;> omega
theorem cutN_mm (n:Int):min (max n 0) 1024=((cutN n:Nat):Int):=by
  unfold cutN
  split
  · omega
  · split <;> omega
def SetPost (w:World)(gS:Nat)(K:Nat→Prop)(l:List Bool)(e:Ending)(w':World):Prop :=
  ∃ K':Nat→Prop,e=.returned (.tuple #[])∧RunMem w' gS K' l∧(∀ k,K' k→K k∨w.heap.size≤k)∧Turns K w w'
set_option maxRecDepth 20000 in
set_option maxHeartbeats 400000 in
theorem runs_new (n:Int) (w:World) :
    Calls Tryz.prog 135 #[.int .i64 n] w fun e w'=>∃ gS K,e=.returned (.pointer (some ⟨gS,0,none⟩))∧RunMem w' gS K (List.replicate (cutN n) false)∧(∀ k,K k→w.heap.size≤k)∧Below w.heap.size w w':=by
  have hmm:=cutN_mm n
  have hle:=cutN_le n
  obtain⟨M,hM⟩:∃ M,M=cutN n:=⟨_,rfl⟩
  rw[← hM] at hmm hle ⊢
  have mk:=make_bools M hle w
  obtain⟨Z,hZ⟩:∃ Z,Z=((List.replicate M false).map Value.bool).toArray:=⟨_,rfl⟩
  rw[← hZ] at mk
  have HZ:=Lib.hid hZ
  clear hM hZ
  go_enter Tryz.func135,Tryz.ntmps135
  go_wp2
  go_ret
  refine⟨w.heap.size+1,_,rfl,⟨w.heap.size,rfl,?_,?_,by omega,by simpa using hle⟩,?_,?_⟩
  · rw[show (List.replicate M false).length=M by simp]
    exact Blk.new1 w _ _ _
  · show Blk _ _ _ ((List.replicate M false).map Value.bool).toArray
    rw[← HZ.out]
    exact (Blk.new w _ _).below ((Below.refl _ _).alloc (Nat.le_refl _) _) (by simp)
  · rintro k (rfl | rfl) <;> omega
  · exact ((Below.refl _ w).alloc (Nat.le_refl _) _).alloc (by simp) _
set_option maxRecDepth 20000 in
set_option maxHeartbeats 400000 in
theorem end_any (gS gL n:Nat) (w:World) (c0:w.cell? ⟨gS,0,none⟩=some (.slice (some ⟨gL,0,none⟩) n n)) :
    Calls Tryz.prog 200 #[.pointer (some ⟨gS,0,none⟩)] w fun e w'=>e=.returned (.int .i64 (n:Int))∧w=w':=by
  go_enter Tryz.func200,Tryz.ntmps200
  go_wp2
  go_ret
  exact⟨rfl,rfl⟩
set_option maxRecDepth 20000 in
set_option maxHeartbeats 400000 in
theorem may_of (p:Value) (n:Nat) (f:Int) (w:World) (hp:∃ a,p=.pointer a) (h:Calls Tryz.prog 200 #[p] w fun e w'=>e=.returned (.int .i64 (n:Int))∧w=w') :
    Calls Tryz.prog 238 #[p,.int .i64 f] w fun e w'=>e=.returned (.bool (decide (0≤f∧f < (n:Int))))∧w=w':=by
  obtain⟨a,rfl⟩:=hp
  have H:=Lib.hid h
  clear h
  by_cases h1:0≤f
  · have d1:decide (0≤f)=true:=decide_eq_true h1
    by_cases h2:f < (n:Int)
    · have d2:decide (f < (n:Int))=true:=decide_eq_true h2
      rw[decide_eq_true (show 0≤f∧f < (n:Int) from ⟨h1,h2⟩)]
      go_enter Tryz.func238,Tryz.ntmps238
      go_wp2_with (go_at_call 200;refine H.out.mono ?_;rintro e w' ⟨rfl,rfl⟩)
      go_ret
      exact⟨rfl,rfl⟩
    · have d2:decide (f < (n:Int))=false:=decide_eq_false h2
      rw[decide_eq_false (show ¬ (0≤f∧f < (n:Int)) from fun h=>h2 h.2)]
      go_enter Tryz.func238,Tryz.ntmps238
      go_wp2_with (go_at_call 200;refine H.out.mono ?_;rintro e w' ⟨rfl,rfl⟩)
      go_ret
      exact⟨rfl,rfl⟩
  · have d1:decide (0≤f)=false:=decide_eq_false h1
    rw[decide_eq_false (show ¬ (0≤f∧f < (n:Int)) from fun h=>h1 h.1)]
    go_enter Tryz.func238,Tryz.ntmps238
    go_wp2
    go_ret
    exact⟨rfl,rfl⟩
theorem may_any (gS gL n:Nat) (f:Int) (w:World) (c0:w.cell? ⟨gS,0,none⟩=some (.slice (some ⟨gL,0,none⟩) n n)) :
    Calls Tryz.prog 238 #[.pointer (some ⟨gS,0,none⟩),.int .i64 f] w fun e w'=>e=.returned (.bool (decide (0≤f∧f < (n:Int))))∧w=w' :=
  may_of _ n f w ⟨_,rfl⟩ (end_any gS gL n w c0)
set_option maxRecDepth 20000 in
set_option maxHeartbeats 800000 in
theorem mark_any (gS gL:Nat) (l:List Bool) (b:Bool) (v:Value) (fs:List Int) (w:World) (hs:Blk w gS 259 (setV gL l.length)) (ho:Own8 w gL l) (hne:gS≠gL) (hv:Its w w.heap.size v fs) (hoff:Off (fun k=>k=gS∨k=gL) v) :
    Calls Tryz.prog 202 #[.pointer (some ⟨gS,0,none⟩),.bool b,v] w fun e w'=>e=.returned (.tuple #[])∧Blk w' gS 259 (setV gL l.length)∧Own8 w' gL (putB l b fs)∧Turns (fun k=>k=gS∨k=gL) w w':=by
  obtain⟨A,N,c,rfl,hN,_,hc,hz⟩:=hv
  have HN:=Lib.hid hN
  have HZ:=Lib.hid (show ∀ i,i < N→∃ b1 o1,A=some ⟨b1,o1,none⟩∧b1≠gS∧b1≠gL∧b1 < w.heap.size∧w.cell? ⟨b1,o1+i,none⟩=some (.int .i64 (fs.getD i 0)) from fun i hi=>by
    obtain⟨b1,o1,e,h1,h2⟩:=hz (by omega)
    have:=hoff b1 o1 none N c (by rw[e]) (by omega)
    exact⟨b1,o1,e,fun e=>this (.inl e),fun e=>this (.inr e),h1,h2 i hi⟩)
  have HS:=Lib.hid hs
  have HO:=Lib.hid ho
  have hml:N≤maxLen:=by omega
  unfold maxLen at hml
  clear hN hz hoff hs ho hc
  go_enter Tryz.func202,Tryz.ntmps202
  go_wp2_with fail
  go_loopg [7,10] N (fun gg _ s10 wx=>∃ i:Nat,i+gg=N∧s10=.int .i64 (i:Int)∧Blk wx gS 259 (setV gL l.length)∧Own8 wx gL (putB l b (fs.take i))∧Turns (fun k=>k=gS∨k=gL) w wx)
  case atStart=>exact⟨0,by omega,rfl,HS.out,HO.out,Turns.refl _ _⟩
  case round =>
    obtain⟨i,hig,rfl,hs5,hl5,ht5⟩:=hrel
    have HS5:=Lib.hid hs5
    have HL5:=Lib.hid hl5
    have HT5:=Lib.hid ht5
    clear hs5 hl5 ht5
    by_cases hlt:i < N
    · have t4:decide ((i:Int) < (N:Int))=true:=decide_eq_true (by omega)
      have t5:(i:Int) < (N:Int):=by omega
      have t6:(0:Int)≤(i:Int):=by omega
      obtain⟨b1,o1,rfl,h1,h2,hbl,hcc⟩:=HZ.out i hlt
      obtain⟨y,hy⟩:∃ y,y=fs.getD i 0:=⟨_,rfl⟩
      have hcell:wr.cell? ⟨b1,o1+i,none⟩=some (.int .i64 y):=(World.cell?_of_block (HT5.out.block b1 hbl (by rintro (e | e);exact h1 e;exact h2 e))).trans (by rw[hy];exact hcc)
      have PT:=Lib.hid (putB_take (l:=l) (b:=b) (fs:=fs) (i:=i) (by rw[HN.out];exact hlt) hy)
      have MY:=Lib.hid (may_any gS gL l.length y wr (HS5.out.cell 0))
      have c0:wr.cell? ⟨gS,0,none⟩=some (.slice (some ⟨gL,0,none⟩) l.length l.length):=HS5.out.cell 0
      clear hcc hy h1 h2 hbl
      by_cases k1:0≤y∧y < (l.length:Int)
      · have PT2:=Lib.hid (PT.out.trans (if_pos k1))
        rw[decide_eq_true k1] at MY
        obtain⟨k1,k2⟩:=k1
        obtain⟨z,rfl⟩:=Int.eq_ofNat_of_zero_le k1
        have hfz:wr.frozen? ⟨gL,z,none⟩=false:=HL5.out.frozen z
        have hcz:wr.cell? ⟨gL,z,none⟩=some (.bool ((putB l b (fs.take i)).getD z false)):=HL5.out.at_ (by rw[putB_length];omega)
        go_wp2_with (go_at_call 238;refine MY.out.mono ?_;rintro e w' ⟨rfl,rfl⟩)
        go_roundg (N - (i+1))
        case measure=>omega
        case rel =>
          have ho:=(Only.refl gL wr).setCell z (.bool b)
          refine⟨i+1,by omega,by go_num,(ho.1.block _ HS5.out.lt (fun e=>hne (Option.some.inj e))).trans HS5.out,?_,HT5.out.trans (Turns.of_only ho (.inr rfl))⟩
          rw[PT2.out]
          simpa using HL5.out.set_ z b
      · have PT2:=Lib.hid (PT.out.trans (if_neg k1))
        rw[decide_eq_false k1] at MY
        clear k1
        go_wp2_with (go_at_call 238;refine MY.out.mono ?_;rintro e w' ⟨rfl,rfl⟩)
        go_roundg (N - (i+1))
        case measure=>omega
        case rel=>exact⟨i+1,by omega,by go_num,HS5.out,by rw[PT2.out];exact HL5.out,HT5.out⟩
    · obtain rfl:i=N:=by omega
      have t4:decide ((i:Int) < (i:Int))=false:=decide_eq_false (by omega)
      go_wp2
      (try simp only[Exit.inBlock,Exit.then])
      refine bodyPost_end (results_none rfl _ _ _) rfl ?_
      refine⟨rfl,HS5.out,?_,HT5.out⟩
      have h:=HL5.out
      rwa [← HN.out,List.take_length] at h
set_option maxRecDepth 20000 in
set_option maxHeartbeats 400000 in
theorem runs_add (gS:Nat) (K:Nat→Prop) (l:List Bool) (v:Value) (fs:List Int) (w:World) (h:RunMem w gS K l) (hv:Its w w.heap.size v fs) (ho:Off K v) :
    Calls Tryz.prog 174 #[.pointer (some ⟨gS,0,none⟩),v] w (SetPost w gS K (putB l true fs)):=by
  obtain⟨gL,rfl,h1,h2,h3,h4⟩:=h
  have MK:=Lib.hid (mark_any gS gL l true v fs w h1 h2 h3 hv ho)
  obtain⟨A,N,c,rfl,-⟩:=hv
  clear h1 h2 ho
  go_enter Tryz.func174,Tryz.ntmps174
  go_wp2_with fail
  refine MK.out.mono ?_
  rintro e w' ⟨rfl,k1,k2,k3⟩
  have K1:=Lib.hid k1
  have K2:=Lib.hid k2
  have K3:=Lib.hid k3
  clear k1 k2 k3
  go_wp2
  (try simp only[Exit.inBlock,Exit.then])
  refine bodyPost_end (results_none rfl _ _ _) rfl ?_
  exact⟨_,rfl,⟨gL,rfl,by rw[putB_length];exact K1.out,K2.out,h3,by rw[putB_length];exact h4⟩,fun k hk=>.inl hk,K3.out⟩
def IdxB (l:List Bool)(f k:Nat)(z:Int):Prop :=
  (z = -1∧∀ j,f≤j→j < f+k→l.getD j false=true)∨(0≤z∧∃ j,f≤j∧j < f+k∧l.getD j false=false)
set_option maxRecDepth 20000 in
set_option maxHeartbeats 800000 in
theorem indexB_any (gL f k c:Nat) (l:List Bool) (w:World) (hk:k≤1024) (hc:∀ j,j < k→w.cell? ⟨gL,f+j,none⟩=some (.bool (l.getD (f+j) false))) :
    Calls Tryz.prog 237 #[.slice (some ⟨gL,f,none⟩) k c,.bool false] w fun e w'=>∃ z,e=.returned (.int .i64 z)∧IdxB l f k z∧w=w':=by
  have HC:=Lib.hid hc
  clear hc
  go_enter Tryz.func237,Tryz.ntmps237
  go_wp2_with fail
  go_loopg [5,8] k (fun gg _ s8 wx=>∃ i:Nat,i+gg=k∧s8=.int .i64 (i:Int)∧(∀ j,f≤j→j < f+i→l.getD j false=true)∧wx=w)
  case atStart=>exact⟨0,by omega,rfl,fun j h1 h2=>absurd h2 (by omega),rfl⟩
  case round =>
    obtain⟨i,hig,rfl,ha,hw⟩:=hrel
    obtain rfl:w=wr:=hw.symm
    have HA:=Lib.hid ha
    clear ha
    by_cases hlt:i < k
    · have t1:(i:Int) < (k:Int):=by omega
      have t2:(0:Int)≤(i:Int):=by omega
      have t3:decide ((i:Int) < (k:Int))=true:=decide_eq_true t1
      have hcell:=HC.out i hlt
      obtain⟨y,hy⟩:∃ y,y=l.getD (f+i) false:=⟨_,rfl⟩
      rw[← hy] at hcell
      have HY:=Lib.hid hy
      clear hy
      cases y with
      | true =>
        go_wp2_with fail
        go_roundg (k - (i+1))
        case measure=>omega
        case rel =>
          refine⟨i+1,by omega,by go_num,fun j h1 h2=>?_,rfl⟩
          by_cases e:j=f+i
          · rw[e];exact HY.out.symm
          · exact HA.out j h1 (by omega)
      | false =>
        go_wp2
        go_ret
        exact⟨_,rfl,.inr ⟨by omega,f+i,by omega,by omega,HY.out.symm⟩,rfl⟩
    · obtain rfl:i=k:=by omega
      have t3:decide ((i:Int) < (i:Int))=false:=decide_eq_false (by omega)
      go_wp2
      go_ret
      exact⟨_,rfl,.inl ⟨rfl,HA.out⟩,rfl⟩
set_option maxRecDepth 20000 in
set_option maxHeartbeats 800000 in
theorem containsB_any (gL f k c:Nat) (l:List Bool) (w:World) (hk:k≤1024) (hc:∀ j,j < k→w.cell? ⟨gL,f+j,none⟩=some (.bool (l.getD (f+j) false))) :
    Calls Tryz.prog 201 #[.slice (some ⟨gL,f,none⟩) k c,.bool false] w fun e w'=>∃ y:Bool,e=.returned (.bool y)∧(y=false↔∀ j,f≤j→j < f+k→l.getD j false=true)∧w=w':=by
  have IX:=Lib.hid (indexB_any gL f k c l w hk hc)
  clear hc
  go_enter Tryz.func201,Tryz.ntmps201
  go_wp2_with fail
  refine IX.out.mono ?_
  rintro e w' ⟨z,rfl,hz,rfl⟩
  have HZ:=Lib.hid hz
  clear hz
  go_wp2
  go_ret
  refine⟨_,rfl,?_,rfl⟩
  rcases HZ.out with ⟨rfl,h⟩ | ⟨h,j,h1,h2,h3⟩
  · exact⟨fun _=>h,fun _=>by simp⟩
  · refine⟨fun e=>absurd h (by simpa using e),fun h'=>?_⟩
    rw[h' j h1 h2] at h3
    cases h3
set_option maxRecDepth 20000 in
set_option maxHeartbeats 400000 in
theorem run_none (p:Option Addr) (l:List Bool) (o a b:Int) (w:World) (h:o < 0∨5 < o) :
    Calls Tryz.prog 169 #[.pointer p,.int .i64 o,.int .i64 a,.int .i64 b] w fun e w'=>e=.returned (runV none)∧w=w':=by
  by_cases h1:o < 0
  · have d1:decide (o < 0)=true:=decide_eq_true h1
    clear h
    go_enter Tryz.func169,Tryz.ntmps169
    go_wp2
    go_ret2
    exact⟨rfl,rfl⟩
  · have d1:decide (o < 0)=false:=decide_eq_false h1
    have d2:decide (5 < o)=true:=decide_eq_true (by omega)
    clear h
    go_enter Tryz.func169,Tryz.ntmps169
    go_wp2
    go_ret2
    exact⟨rfl,rfl⟩
set_option maxRecDepth 20000 in
set_option maxHeartbeats 1600000 in
theorem run_0 (gS gL n:Nat) (l:List Bool) (a b:Int) (w:World) (hs:Blk w gS 259 (setV gL n)) (ho:Own8 w gL l) (hl:l.length=n) (hn:n≤1024) :
    Calls Tryz.prog 169 #[.pointer (some ⟨gS,0,none⟩),.int .i64 0,.int .i64 a,.int .i64 b] w fun e w'=>∃ r,e=.returned (runV r)∧RunIs l 0 a b r∧Below w.heap.size w w':=by
  have HS:=Lib.hid hs
  have HO:=Lib.hid ho
  have HL:=Lib.hid hl
  obtain⟨E,hE⟩:∃ E:Int,min b (n:Int)=E:=⟨_,rfl⟩
  have HE:=Lib.hid (show E≤b∧E≤(n:Int)∧∀ x:Int,x≤b→x≤(n:Int)→x≤E from by rw[← hE];exact⟨Int.min_le_left _ _,Int.min_le_right _ _,fun x h1 h2=>Int.le_min.2 ⟨h1,h2⟩⟩)
  have hw1:IntKind.i64.wrap 1=1:=by rw[IntKind.wrap_i64];omega
  have EN:=Lib.hid (fun (W:World) (hW:Below w.heap.size w W)=>(end_any gS gL n W ((hW.cell (p:=⟨gS,0,none⟩) HS.out.lt).trans (HS.out.cell 0))).mono (fun e w' h=>(⟨h.1,h.2 ▸ hW⟩:e=.returned (.int .i64 (n:Int))∧Below w.heap.size w w')))
  have KP:=Lib.hid (fun (W:World) (hW:Below w.heap.size w W)=>(⟨(hW.cell (p:=⟨gS,0,none⟩) HS.out.lt).trans (HS.out.cell 0),hW⟩:W.cell? ⟨gS,0,none⟩=some (.slice (some ⟨gL,0,none⟩) n n)∧Below w.heap.size w W))
  have BR:=Lib.hid (Below.refl w.heap.size w)
  clear hs ho hl
  go_enter Tryz.func169,Tryz.ntmps169
  go_wp2_with fail
  go_region_held3 (fun w'=>w'.cell? ⟨gS,0,none⟩=some (.slice (some ⟨gL,0,none⟩) n n)∧Below w.heap.size w w')
    (first | assumption | exact KP.out _ BR.out.drew | exact KP.out _ (by assumption))
    ((go_at_call 200;refine (EN.out _ ?_).mono ?_;(first | assumption | exact (And.right (by assumption)));rintro e w' ⟨rfl,hls⟩))
  go_wp2_with fail
  go_loopg [12] (n+64) (fun gg s12 wx=>∃ f:Nat,f+gg=n+64∧s12=.int .i64 (f:Int)∧f % 1=0∧(∀ x,x < f→¬ RunAt l 0 a b x)∧Below w.heap.size w wx)
  case atStart=>exact⟨0,by omega,rfl,rfl,fun x hx=>absurd hx (by omega),by assumption⟩
  case round =>
    obtain⟨f,hfg,rfl,hm,hb,hbw⟩:=hrel
    have HM:=Lib.hid hm
    have HB:=Lib.hid hb
    have HW:=Lib.hid hbw
    have c0:wr.cell? ⟨gS,0,none⟩=some (.slice (some ⟨gL,0,none⟩) n n):=(hbw.cell (p:=⟨gS,0,none⟩) HS.out.lt).trans (HS.out.cell 0)
    have HO9:=Lib.hid (HO.out.below hbw)
    clear hm hb hbw
    by_cases hfs:(f:Int)+1≤E
    · have t1:decide ((f:Int)+1≤E)=true:=decide_eq_true hfs
      have HFN:=Lib.hid (show f+1≤n from by have:=HE.out.2.1;omega)
      by_cases hfa:a≤(f:Int)
      · have t2:decide (a≤(f:Int))=true:=decide_eq_true hfa
        have CB:=Lib.hid (containsB_any gL f 1 (n - f) l wr (by omega) (fun j hj=>HO9.out.at_ (by rw[HL.out];have:=HFN.out;omega)))
        go_wp2_with fail
        refine CB.out.mono ?_
        rintro e w' ⟨y,rfl,hy,rfl⟩
        cases y with
        | false =>
          have HRA:=Lib.hid (show RunAt l 0 a b f from ⟨HM.out,by rw[HL.out];exact HFN.out,hfa,by have:=HE.out.1;simp;omega,hy.1 rfl⟩)
          clear hy
          go_wp2
          go_ret2
          exact⟨some f,rfl,⟨by omega,by omega,HRA.out,HB.out⟩,HW.out⟩
        | true =>
          have HRA:=Lib.hid (show ¬ RunAt l 0 a b f from fun h=>by have:=hy.2 h.2.2.2.2;cases this)
          clear hy
          go_wp2_with fail
          go_roundg (gk - 1)
          case measure=>omega
          case rel=>exact⟨f+1,by omega,by go_num,by have:=HM.out;omega,next_run rfl (by omega) HM.out HB.out HRA.out,HW.out⟩
      · have t2:decide (a≤(f:Int))=false:=decide_eq_false hfa
        have HRA:=Lib.hid (show ¬ RunAt l 0 a b f from fun h=>hfa h.2.2.1)
        go_wp2_with fail
        go_roundg (gk - 1)
        case measure=>omega
        case rel=>exact⟨f+1,by omega,by go_num,by have:=HM.out;omega,next_run rfl (by omega) HM.out HB.out HRA.out,HW.out⟩
    · have t1:decide ((f:Int)+1≤E)=false:=decide_eq_false hfs
      go_wp2
      go_ret2
      refine⟨none,rfl,.inr (.inr fun x hx=>?_),HW.out⟩
      by_cases c:x < f
      · exact HB.out x c hx
      · have h2:=hx.2.1
        rw[HL.out] at h2
        have h3:x+1≤n:=h2
        have h4:((x+1:Nat):Int)≤b:=hx.2.2.2.1
        have h5:=HE.out.2.2 ((x+1:Nat):Int) h4 (by omega)
        omega
set_option maxRecDepth 20000 in
set_option maxHeartbeats 1600000 in
theorem run_1 (gS gL n:Nat) (l:List Bool) (a b:Int) (w:World) (hs:Blk w gS 259 (setV gL n)) (ho:Own8 w gL l) (hl:l.length=n) (hn:n≤1024) :
    Calls Tryz.prog 169 #[.pointer (some ⟨gS,0,none⟩),.int .i64 1,.int .i64 a,.int .i64 b] w fun e w'=>∃ r,e=.returned (runV r)∧RunIs l 1 a b r∧Below w.heap.size w w':=by
  have HS:=Lib.hid hs
  have HO:=Lib.hid ho
  have HL:=Lib.hid hl
  obtain⟨E,hE⟩:∃ E:Int,min b (n:Int)=E:=⟨_,rfl⟩
  have HE:=Lib.hid (show E≤b∧E≤(n:Int)∧∀ x:Int,x≤b→x≤(n:Int)→x≤E from by rw[← hE];exact⟨Int.min_le_left _ _,Int.min_le_right _ _,fun x h1 h2=>Int.le_min.2 ⟨h1,h2⟩⟩)
  have hw1:IntKind.i64.wrap 2=2:=by rw[IntKind.wrap_i64];omega
  have EN:=Lib.hid (fun (W:World) (hW:Below w.heap.size w W)=>(end_any gS gL n W ((hW.cell (p:=⟨gS,0,none⟩) HS.out.lt).trans (HS.out.cell 0))).mono (fun e w' h=>(⟨h.1,h.2 ▸ hW⟩:e=.returned (.int .i64 (n:Int))∧Below w.heap.size w w')))
  have KP:=Lib.hid (fun (W:World) (hW:Below w.heap.size w W)=>(⟨(hW.cell (p:=⟨gS,0,none⟩) HS.out.lt).trans (HS.out.cell 0),hW⟩:W.cell? ⟨gS,0,none⟩=some (.slice (some ⟨gL,0,none⟩) n n)∧Below w.heap.size w W))
  have BR:=Lib.hid (Below.refl w.heap.size w)
  clear hs ho hl
  go_enter Tryz.func169,Tryz.ntmps169
  go_wp2_with fail
  go_region_held3 (fun w'=>w'.cell? ⟨gS,0,none⟩=some (.slice (some ⟨gL,0,none⟩) n n)∧Below w.heap.size w w')
    (first | assumption | exact KP.out _ BR.out.drew | exact KP.out _ (by assumption))
    ((go_at_call 200;refine (EN.out _ ?_).mono ?_;(first | assumption | exact (And.right (by assumption)));rintro e w' ⟨rfl,hls⟩))
  go_wp2_with fail
  go_loopg [12] (n+64) (fun gg s12 wx=>∃ f:Nat,f+gg=n+64∧s12=.int .i64 (f:Int)∧f % 2=0∧(∀ x,x < f→¬ RunAt l 1 a b x)∧Below w.heap.size w wx)
  case atStart=>exact⟨0,by omega,rfl,rfl,fun x hx=>absurd hx (by omega),by assumption⟩
  case round =>
    obtain⟨f,hfg,rfl,hm,hb,hbw⟩:=hrel
    have HM:=Lib.hid hm
    have HB:=Lib.hid hb
    have HW:=Lib.hid hbw
    have c0:wr.cell? ⟨gS,0,none⟩=some (.slice (some ⟨gL,0,none⟩) n n):=(hbw.cell (p:=⟨gS,0,none⟩) HS.out.lt).trans (HS.out.cell 0)
    have HO9:=Lib.hid (HO.out.below hbw)
    clear hm hb hbw
    by_cases hfs:(f:Int)+2≤E
    · have t1:decide ((f:Int)+2≤E)=true:=decide_eq_true hfs
      have HFN:=Lib.hid (show f+2≤n from by have:=HE.out.2.1;omega)
      by_cases hfa:a≤(f:Int)
      · have t2:decide (a≤(f:Int))=true:=decide_eq_true hfa
        have CB:=Lib.hid (containsB_any gL f 2 (n - f) l wr (by omega) (fun j hj=>HO9.out.at_ (by rw[HL.out];have:=HFN.out;omega)))
        go_wp2_with fail
        refine CB.out.mono ?_
        rintro e w' ⟨y,rfl,hy,rfl⟩
        cases y with
        | false =>
          have HRA:=Lib.hid (show RunAt l 1 a b f from ⟨HM.out,by rw[HL.out];exact HFN.out,hfa,by have:=HE.out.1;simp;omega,hy.1 rfl⟩)
          clear hy
          go_wp2
          go_ret2
          exact⟨some f,rfl,⟨by omega,by omega,HRA.out,HB.out⟩,HW.out⟩
        | true =>
          have HRA:=Lib.hid (show ¬ RunAt l 1 a b f from fun h=>by have:=hy.2 h.2.2.2.2;cases this)
          clear hy
          go_wp2_with fail
          go_roundg (gk - 2)
          case measure=>omega
          case rel=>exact⟨f+2,by omega,by go_num,by have:=HM.out;omega,next_run rfl (by omega) HM.out HB.out HRA.out,HW.out⟩
      · have t2:decide (a≤(f:Int))=false:=decide_eq_false hfa
        have HRA:=Lib.hid (show ¬ RunAt l 1 a b f from fun h=>hfa h.2.2.1)
        go_wp2_with fail
        go_roundg (gk - 2)
        case measure=>omega
        case rel=>exact⟨f+2,by omega,by go_num,by have:=HM.out;omega,next_run rfl (by omega) HM.out HB.out HRA.out,HW.out⟩
    · have t1:decide ((f:Int)+2≤E)=false:=decide_eq_false hfs
      go_wp2
      go_ret2
      refine⟨none,rfl,.inr (.inr fun x hx=>?_),HW.out⟩
      by_cases c:x < f
      · exact HB.out x c hx
      · have h2:=hx.2.1
        rw[HL.out] at h2
        have h3:x+2≤n:=h2
        have h4:((x+2:Nat):Int)≤b:=hx.2.2.2.1
        have h5:=HE.out.2.2 ((x+2:Nat):Int) h4 (by omega)
        omega
set_option maxRecDepth 20000 in
set_option maxHeartbeats 1600000 in
theorem run_2 (gS gL n:Nat) (l:List Bool) (a b:Int) (w:World) (hs:Blk w gS 259 (setV gL n)) (ho:Own8 w gL l) (hl:l.length=n) (hn:n≤1024) :
    Calls Tryz.prog 169 #[.pointer (some ⟨gS,0,none⟩),.int .i64 2,.int .i64 a,.int .i64 b] w fun e w'=>∃ r,e=.returned (runV r)∧RunIs l 2 a b r∧Below w.heap.size w w':=by
  have HS:=Lib.hid hs
  have HO:=Lib.hid ho
  have HL:=Lib.hid hl
  obtain⟨E,hE⟩:∃ E:Int,min b (n:Int)=E:=⟨_,rfl⟩
  have HE:=Lib.hid (show E≤b∧E≤(n:Int)∧∀ x:Int,x≤b→x≤(n:Int)→x≤E from by rw[← hE];exact⟨Int.min_le_left _ _,Int.min_le_right _ _,fun x h1 h2=>Int.le_min.2 ⟨h1,h2⟩⟩)
  have hw1:IntKind.i64.wrap 4=4:=by rw[IntKind.wrap_i64];omega
  have EN:=Lib.hid (fun (W:World) (hW:Below w.heap.size w W)=>(end_any gS gL n W ((hW.cell (p:=⟨gS,0,none⟩) HS.out.lt).trans (HS.out.cell 0))).mono (fun e w' h=>(⟨h.1,h.2 ▸ hW⟩:e=.returned (.int .i64 (n:Int))∧Below w.heap.size w w')))
  have KP:=Lib.hid (fun (W:World) (hW:Below w.heap.size w W)=>(⟨(hW.cell (p:=⟨gS,0,none⟩) HS.out.lt).trans (HS.out.cell 0),hW⟩:W.cell? ⟨gS,0,none⟩=some (.slice (some ⟨gL,0,none⟩) n n)∧Below w.heap.size w W))
  have BR:=Lib.hid (Below.refl w.heap.size w)
  clear hs ho hl
  go_enter Tryz.func169,Tryz.ntmps169
  go_wp2_with fail
  go_region_held3 (fun w'=>w'.cell? ⟨gS,0,none⟩=some (.slice (some ⟨gL,0,none⟩) n n)∧Below w.heap.size w w')
    (first | assumption | exact KP.out _ BR.out.drew | exact KP.out _ (by assumption))
    ((go_at_call 200;refine (EN.out _ ?_).mono ?_;(first | assumption | exact (And.right (by assumption)));rintro e w' ⟨rfl,hls⟩))
  go_wp2_with fail
  go_loopg [12] (n+64) (fun gg s12 wx=>∃ f:Nat,f+gg=n+64∧s12=.int .i64 (f:Int)∧f % 4=0∧(∀ x,x < f→¬ RunAt l 2 a b x)∧Below w.heap.size w wx)
  case atStart=>exact⟨0,by omega,rfl,rfl,fun x hx=>absurd hx (by omega),by assumption⟩
  case round =>
    obtain⟨f,hfg,rfl,hm,hb,hbw⟩:=hrel
    have HM:=Lib.hid hm
    have HB:=Lib.hid hb
    have HW:=Lib.hid hbw
    have c0:wr.cell? ⟨gS,0,none⟩=some (.slice (some ⟨gL,0,none⟩) n n):=(hbw.cell (p:=⟨gS,0,none⟩) HS.out.lt).trans (HS.out.cell 0)
    have HO9:=Lib.hid (HO.out.below hbw)
    clear hm hb hbw
    by_cases hfs:(f:Int)+4≤E
    · have t1:decide ((f:Int)+4≤E)=true:=decide_eq_true hfs
      have HFN:=Lib.hid (show f+4≤n from by have:=HE.out.2.1;omega)
      by_cases hfa:a≤(f:Int)
      · have t2:decide (a≤(f:Int))=true:=decide_eq_true hfa
        have CB:=Lib.hid (containsB_any gL f 4 (n - f) l wr (by omega) (fun j hj=>HO9.out.at_ (by rw[HL.out];have:=HFN.out;omega)))
        go_wp2_with fail
        refine CB.out.mono ?_
        rintro e w' ⟨y,rfl,hy,rfl⟩
        cases y with
        | false =>
          have HRA:=Lib.hid (show RunAt l 2 a b f from ⟨HM.out,by rw[HL.out];exact HFN.out,hfa,by have:=HE.out.1;simp;omega,hy.1 rfl⟩)
          clear hy
          go_wp2
          go_ret2
          exact⟨some f,rfl,⟨by omega,by omega,HRA.out,HB.out⟩,HW.out⟩
        | true =>
          have HRA:=Lib.hid (show ¬ RunAt l 2 a b f from fun h=>by have:=hy.2 h.2.2.2.2;cases this)
          clear hy
          go_wp2_with fail
          go_roundg (gk - 4)
          case measure=>omega
          case rel=>exact⟨f+4,by omega,by go_num,by have:=HM.out;omega,next_run rfl (by omega) HM.out HB.out HRA.out,HW.out⟩
      · have t2:decide (a≤(f:Int))=false:=decide_eq_false hfa
        have HRA:=Lib.hid (show ¬ RunAt l 2 a b f from fun h=>hfa h.2.2.1)
        go_wp2_with fail
        go_roundg (gk - 4)
        case measure=>omega
        case rel=>exact⟨f+4,by omega,by go_num,by have:=HM.out;omega,next_run rfl (by omega) HM.out HB.out HRA.out,HW.out⟩
    · have t1:decide ((f:Int)+4≤E)=false:=decide_eq_false hfs
      go_wp2
      go_ret2
      refine⟨none,rfl,.inr (.inr fun x hx=>?_),HW.out⟩
      by_cases c:x < f
      · exact HB.out x c hx
      · have h2:=hx.2.1
        rw[HL.out] at h2
        have h3:x+4≤n:=h2
        have h4:((x+4:Nat):Int)≤b:=hx.2.2.2.1
        have h5:=HE.out.2.2 ((x+4:Nat):Int) h4 (by omega)
        omega
set_option maxRecDepth 20000 in
set_option maxHeartbeats 1600000 in
theorem run_3 (gS gL n:Nat) (l:List Bool) (a b:Int) (w:World) (hs:Blk w gS 259 (setV gL n)) (ho:Own8 w gL l) (hl:l.length=n) (hn:n≤1024) :
    Calls Tryz.prog 169 #[.pointer (some ⟨gS,0,none⟩),.int .i64 3,.int .i64 a,.int .i64 b] w fun e w'=>∃ r,e=.returned (runV r)∧RunIs l 3 a b r∧Below w.heap.size w w':=by
  have HS:=Lib.hid hs
  have HO:=Lib.hid ho
  have HL:=Lib.hid hl
  obtain⟨E,hE⟩:∃ E:Int,min b (n:Int)=E:=⟨_,rfl⟩
  have HE:=Lib.hid (show E≤b∧E≤(n:Int)∧∀ x:Int,x≤b→x≤(n:Int)→x≤E from by rw[← hE];exact⟨Int.min_le_left _ _,Int.min_le_right _ _,fun x h1 h2=>Int.le_min.2 ⟨h1,h2⟩⟩)
  have hw1:IntKind.i64.wrap 8=8:=by rw[IntKind.wrap_i64];omega
  have EN:=Lib.hid (fun (W:World) (hW:Below w.heap.size w W)=>(end_any gS gL n W ((hW.cell (p:=⟨gS,0,none⟩) HS.out.lt).trans (HS.out.cell 0))).mono (fun e w' h=>(⟨h.1,h.2 ▸ hW⟩:e=.returned (.int .i64 (n:Int))∧Below w.heap.size w w')))
  have KP:=Lib.hid (fun (W:World) (hW:Below w.heap.size w W)=>(⟨(hW.cell (p:=⟨gS,0,none⟩) HS.out.lt).trans (HS.out.cell 0),hW⟩:W.cell? ⟨gS,0,none⟩=some (.slice (some ⟨gL,0,none⟩) n n)∧Below w.heap.size w W))
  have BR:=Lib.hid (Below.refl w.heap.size w)
  clear hs ho hl
  go_enter Tryz.func169,Tryz.ntmps169
  go_wp2_with fail
  go_region_held3 (fun w'=>w'.cell? ⟨gS,0,none⟩=some (.slice (some ⟨gL,0,none⟩) n n)∧Below w.heap.size w w')
    (first | assumption | exact KP.out _ BR.out.drew | exact KP.out _ (by assumption))
    ((go_at_call 200;refine (EN.out _ ?_).mono ?_;(first | assumption | exact (And.right (by assumption)));rintro e w' ⟨rfl,hls⟩))
  go_wp2_with fail
  go_loopg [12] (n+64) (fun gg s12 wx=>∃ f:Nat,f+gg=n+64∧s12=.int .i64 (f:Int)∧f % 8=0∧(∀ x,x < f→¬ RunAt l 3 a b x)∧Below w.heap.size w wx)
  case atStart=>exact⟨0,by omega,rfl,rfl,fun x hx=>absurd hx (by omega),by assumption⟩
  case round =>
    obtain⟨f,hfg,rfl,hm,hb,hbw⟩:=hrel
    have HM:=Lib.hid hm
    have HB:=Lib.hid hb
    have HW:=Lib.hid hbw
    have c0:wr.cell? ⟨gS,0,none⟩=some (.slice (some ⟨gL,0,none⟩) n n):=(hbw.cell (p:=⟨gS,0,none⟩) HS.out.lt).trans (HS.out.cell 0)
    have HO9:=Lib.hid (HO.out.below hbw)
    clear hm hb hbw
    by_cases hfs:(f:Int)+8≤E
    · have t1:decide ((f:Int)+8≤E)=true:=decide_eq_true hfs
      have HFN:=Lib.hid (show f+8≤n from by have:=HE.out.2.1;omega)
      by_cases hfa:a≤(f:Int)
      · have t2:decide (a≤(f:Int))=true:=decide_eq_true hfa
        have CB:=Lib.hid (containsB_any gL f 8 (n - f) l wr (by omega) (fun j hj=>HO9.out.at_ (by rw[HL.out];have:=HFN.out;omega)))
        go_wp2_with fail
        refine CB.out.mono ?_
        rintro e w' ⟨y,rfl,hy,rfl⟩
        cases y with
        | false =>
          have HRA:=Lib.hid (show RunAt l 3 a b f from ⟨HM.out,by rw[HL.out];exact HFN.out,hfa,by have:=HE.out.1;simp;omega,hy.1 rfl⟩)
          clear hy
          go_wp2
          go_ret2
          exact⟨some f,rfl,⟨by omega,by omega,HRA.out,HB.out⟩,HW.out⟩
        | true =>
          have HRA:=Lib.hid (show ¬ RunAt l 3 a b f from fun h=>by have:=hy.2 h.2.2.2.2;cases this)
          clear hy
          go_wp2_with fail
          go_roundg (gk - 8)
          case measure=>omega
          case rel=>exact⟨f+8,by omega,by go_num,by have:=HM.out;omega,next_run rfl (by omega) HM.out HB.out HRA.out,HW.out⟩
      · have t2:decide (a≤(f:Int))=false:=decide_eq_false hfa
        have HRA:=Lib.hid (show ¬ RunAt l 3 a b f from fun h=>hfa h.2.2.1)
        go_wp2_with fail
        go_roundg (gk - 8)
        case measure=>omega
        case rel=>exact⟨f+8,by omega,by go_num,by have:=HM.out;omega,next_run rfl (by omega) HM.out HB.out HRA.out,HW.out⟩
    · have t1:decide ((f:Int)+8≤E)=false:=decide_eq_false hfs
      go_wp2
      go_ret2
      refine⟨none,rfl,.inr (.inr fun x hx=>?_),HW.out⟩
      by_cases c:x < f
      · exact HB.out x c hx
      · have h2:=hx.2.1
        rw[HL.out] at h2
        have h3:x+8≤n:=h2
        have h4:((x+8:Nat):Int)≤b:=hx.2.2.2.1
        have h5:=HE.out.2.2 ((x+8:Nat):Int) h4 (by omega)
        omega
set_option maxRecDepth 20000 in
set_option maxHeartbeats 1600000 in
theorem run_4 (gS gL n:Nat) (l:List Bool) (a b:Int) (w:World) (hs:Blk w gS 259 (setV gL n)) (ho:Own8 w gL l) (hl:l.length=n) (hn:n≤1024) :
    Calls Tryz.prog 169 #[.pointer (some ⟨gS,0,none⟩),.int .i64 4,.int .i64 a,.int .i64 b] w fun e w'=>∃ r,e=.returned (runV r)∧RunIs l 4 a b r∧Below w.heap.size w w':=by
  have HS:=Lib.hid hs
  have HO:=Lib.hid ho
  have HL:=Lib.hid hl
  obtain⟨E,hE⟩:∃ E:Int,min b (n:Int)=E:=⟨_,rfl⟩
  have HE:=Lib.hid (show E≤b∧E≤(n:Int)∧∀ x:Int,x≤b→x≤(n:Int)→x≤E from by rw[← hE];exact⟨Int.min_le_left _ _,Int.min_le_right _ _,fun x h1 h2=>Int.le_min.2 ⟨h1,h2⟩⟩)
  have hw1:IntKind.i64.wrap 16=16:=by rw[IntKind.wrap_i64];omega
  have EN:=Lib.hid (fun (W:World) (hW:Below w.heap.size w W)=>(end_any gS gL n W ((hW.cell (p:=⟨gS,0,none⟩) HS.out.lt).trans (HS.out.cell 0))).mono (fun e w' h=>(⟨h.1,h.2 ▸ hW⟩:e=.returned (.int .i64 (n:Int))∧Below w.heap.size w w')))
  have KP:=Lib.hid (fun (W:World) (hW:Below w.heap.size w W)=>(⟨(hW.cell (p:=⟨gS,0,none⟩) HS.out.lt).trans (HS.out.cell 0),hW⟩:W.cell? ⟨gS,0,none⟩=some (.slice (some ⟨gL,0,none⟩) n n)∧Below w.heap.size w W))
  have BR:=Lib.hid (Below.refl w.heap.size w)
  clear hs ho hl
  go_enter Tryz.func169,Tryz.ntmps169
  go_wp2_with fail
  go_region_held3 (fun w'=>w'.cell? ⟨gS,0,none⟩=some (.slice (some ⟨gL,0,none⟩) n n)∧Below w.heap.size w w')
    (first | assumption | exact KP.out _ BR.out.drew | exact KP.out _ (by assumption))
    ((go_at_call 200;refine (EN.out _ ?_).mono ?_;(first | assumption | exact (And.right (by assumption)));rintro e w' ⟨rfl,hls⟩))
  go_wp2_with fail
  go_loopg [12] (n+64) (fun gg s12 wx=>∃ f:Nat,f+gg=n+64∧s12=.int .i64 (f:Int)∧f % 16=0∧(∀ x,x < f→¬ RunAt l 4 a b x)∧Below w.heap.size w wx)
  case atStart=>exact⟨0,by omega,rfl,rfl,fun x hx=>absurd hx (by omega),by assumption⟩
  case round =>
    obtain⟨f,hfg,rfl,hm,hb,hbw⟩:=hrel
    have HM:=Lib.hid hm
    have HB:=Lib.hid hb
    have HW:=Lib.hid hbw
    have c0:wr.cell? ⟨gS,0,none⟩=some (.slice (some ⟨gL,0,none⟩) n n):=(hbw.cell (p:=⟨gS,0,none⟩) HS.out.lt).trans (HS.out.cell 0)
    have HO9:=Lib.hid (HO.out.below hbw)
    clear hm hb hbw
    by_cases hfs:(f:Int)+16≤E
    · have t1:decide ((f:Int)+16≤E)=true:=decide_eq_true hfs
      have HFN:=Lib.hid (show f+16≤n from by have:=HE.out.2.1;omega)
      by_cases hfa:a≤(f:Int)
      · have t2:decide (a≤(f:Int))=true:=decide_eq_true hfa
        have CB:=Lib.hid (containsB_any gL f 16 (n - f) l wr (by omega) (fun j hj=>HO9.out.at_ (by rw[HL.out];have:=HFN.out;omega)))
        go_wp2_with fail
        refine CB.out.mono ?_
        rintro e w' ⟨y,rfl,hy,rfl⟩
        cases y with
        | false =>
          have HRA:=Lib.hid (show RunAt l 4 a b f from ⟨HM.out,by rw[HL.out];exact HFN.out,hfa,by have:=HE.out.1;simp;omega,hy.1 rfl⟩)
          clear hy
          go_wp2
          go_ret2
          exact⟨some f,rfl,⟨by omega,by omega,HRA.out,HB.out⟩,HW.out⟩
        | true =>
          have HRA:=Lib.hid (show ¬ RunAt l 4 a b f from fun h=>by have:=hy.2 h.2.2.2.2;cases this)
          clear hy
          go_wp2_with fail
          go_roundg (gk - 16)
          case measure=>omega
          case rel=>exact⟨f+16,by omega,by go_num,by have:=HM.out;omega,next_run rfl (by omega) HM.out HB.out HRA.out,HW.out⟩
      · have t2:decide (a≤(f:Int))=false:=decide_eq_false hfa
        have HRA:=Lib.hid (show ¬ RunAt l 4 a b f from fun h=>hfa h.2.2.1)
        go_wp2_with fail
        go_roundg (gk - 16)
        case measure=>omega
        case rel=>exact⟨f+16,by omega,by go_num,by have:=HM.out;omega,next_run rfl (by omega) HM.out HB.out HRA.out,HW.out⟩
    · have t1:decide ((f:Int)+16≤E)=false:=decide_eq_false hfs
      go_wp2
      go_ret2
      refine⟨none,rfl,.inr (.inr fun x hx=>?_),HW.out⟩
      by_cases c:x < f
      · exact HB.out x c hx
      · have h2:=hx.2.1
        rw[HL.out] at h2
        have h3:x+16≤n:=h2
        have h4:((x+16:Nat):Int)≤b:=hx.2.2.2.1
        have h5:=HE.out.2.2 ((x+16:Nat):Int) h4 (by omega)
        omega
set_option maxRecDepth 20000 in
set_option maxHeartbeats 1600000 in
theorem run_5 (gS gL n:Nat) (l:List Bool) (a b:Int) (w:World) (hs:Blk w gS 259 (setV gL n)) (ho:Own8 w gL l) (hl:l.length=n) (hn:n≤1024) :
    Calls Tryz.prog 169 #[.pointer (some ⟨gS,0,none⟩),.int .i64 5,.int .i64 a,.int .i64 b] w fun e w'=>∃ r,e=.returned (runV r)∧RunIs l 5 a b r∧Below w.heap.size w w':=by
  have HS:=Lib.hid hs
  have HO:=Lib.hid ho
  have HL:=Lib.hid hl
  obtain⟨E,hE⟩:∃ E:Int,min b (n:Int)=E:=⟨_,rfl⟩
  have HE:=Lib.hid (show E≤b∧E≤(n:Int)∧∀ x:Int,x≤b→x≤(n:Int)→x≤E from by rw[← hE];exact⟨Int.min_le_left _ _,Int.min_le_right _ _,fun x h1 h2=>Int.le_min.2 ⟨h1,h2⟩⟩)
  have hw1:IntKind.i64.wrap 32=32:=by rw[IntKind.wrap_i64];omega
  have EN:=Lib.hid (fun (W:World) (hW:Below w.heap.size w W)=>(end_any gS gL n W ((hW.cell (p:=⟨gS,0,none⟩) HS.out.lt).trans (HS.out.cell 0))).mono (fun e w' h=>(⟨h.1,h.2 ▸ hW⟩:e=.returned (.int .i64 (n:Int))∧Below w.heap.size w w')))
  have KP:=Lib.hid (fun (W:World) (hW:Below w.heap.size w W)=>(⟨(hW.cell (p:=⟨gS,0,none⟩) HS.out.lt).trans (HS.out.cell 0),hW⟩:W.cell? ⟨gS,0,none⟩=some (.slice (some ⟨gL,0,none⟩) n n)∧Below w.heap.size w W))
  have BR:=Lib.hid (Below.refl w.heap.size w)
  clear hs ho hl
  go_enter Tryz.func169,Tryz.ntmps169
  go_wp2_with fail
  go_region_held3 (fun w'=>w'.cell? ⟨gS,0,none⟩=some (.slice (some ⟨gL,0,none⟩) n n)∧Below w.heap.size w w')
    (first | assumption | exact KP.out _ BR.out.drew | exact KP.out _ (by assumption))
    ((go_at_call 200;refine (EN.out _ ?_).mono ?_;(first | assumption | exact (And.right (by assumption)));rintro e w' ⟨rfl,hls⟩))
  go_wp2_with fail
  go_loopg [12] (n+64) (fun gg s12 wx=>∃ f:Nat,f+gg=n+64∧s12=.int .i64 (f:Int)∧f % 32=0∧(∀ x,x < f→¬ RunAt l 5 a b x)∧Below w.heap.size w wx)
  case atStart=>exact⟨0,by omega,rfl,rfl,fun x hx=>absurd hx (by omega),by assumption⟩
  case round =>
    obtain⟨f,hfg,rfl,hm,hb,hbw⟩:=hrel
    have HM:=Lib.hid hm
    have HB:=Lib.hid hb
    have HW:=Lib.hid hbw
    have c0:wr.cell? ⟨gS,0,none⟩=some (.slice (some ⟨gL,0,none⟩) n n):=(hbw.cell (p:=⟨gS,0,none⟩) HS.out.lt).trans (HS.out.cell 0)
    have HO9:=Lib.hid (HO.out.below hbw)
    clear hm hb hbw
    by_cases hfs:(f:Int)+32≤E
    · have t1:decide ((f:Int)+32≤E)=true:=decide_eq_true hfs
      have HFN:=Lib.hid (show f+32≤n from by have:=HE.out.2.1;omega)
      by_cases hfa:a≤(f:Int)
      · have t2:decide (a≤(f:Int))=true:=decide_eq_true hfa
        have CB:=Lib.hid (containsB_any gL f 32 (n - f) l wr (by omega) (fun j hj=>HO9.out.at_ (by rw[HL.out];have:=HFN.out;omega)))
        go_wp2_with fail
        refine CB.out.mono ?_
        rintro e w' ⟨y,rfl,hy,rfl⟩
        cases y with
        | false =>
          have HRA:=Lib.hid (show RunAt l 5 a b f from ⟨HM.out,by rw[HL.out];exact HFN.out,hfa,by have:=HE.out.1;simp;omega,hy.1 rfl⟩)
          clear hy
          go_wp2
          go_ret2
          exact⟨some f,rfl,⟨by omega,by omega,HRA.out,HB.out⟩,HW.out⟩
        | true =>
          have HRA:=Lib.hid (show ¬ RunAt l 5 a b f from fun h=>by have:=hy.2 h.2.2.2.2;cases this)
          clear hy
          go_wp2_with fail
          go_roundg (gk - 32)
          case measure=>omega
          case rel=>exact⟨f+32,by omega,by go_num,by have:=HM.out;omega,next_run rfl (by omega) HM.out HB.out HRA.out,HW.out⟩
      · have t2:decide (a≤(f:Int))=false:=decide_eq_false hfa
        have HRA:=Lib.hid (show ¬ RunAt l 5 a b f from fun h=>hfa h.2.2.1)
        go_wp2_with fail
        go_roundg (gk - 32)
        case measure=>omega
        case rel=>exact⟨f+32,by omega,by go_num,by have:=HM.out;omega,next_run rfl (by omega) HM.out HB.out HRA.out,HW.out⟩
    · have t1:decide ((f:Int)+32≤E)=false:=decide_eq_false hfs
      go_wp2
      go_ret2
      refine⟨none,rfl,.inr (.inr fun x hx=>?_),HW.out⟩
      by_cases c:x < f
      · exact HB.out x c hx
      · have h2:=hx.2.1
        rw[HL.out] at h2
        have h3:x+32≤n:=h2
        have h4:((x+32:Nat):Int)≤b:=hx.2.2.2.1
        have h5:=HE.out.2.2 ((x+32:Nat):Int) h4 (by omega)
        omega
theorem runs_run (gS:Nat) (K:Nat→Prop) (l:List Bool) (o a b:Int) (w:World) (h:RunMem w gS K l) :
    Calls Tryz.prog 169 #[.pointer (some ⟨gS,0,none⟩),.int .i64 o,.int .i64 a,.int .i64 b] w fun e w'=>∃ r,e=.returned (runV r)∧RunIs l o a b r∧Below w.heap.size w w':=by
  obtain⟨gL,rfl,h1,h2,h3,h4⟩:=h
  by_cases h:o < 0∨5 < o
  · refine (run_none _ l o a b w h).mono ?_
    rintro e w' ⟨rfl,rfl⟩
    exact⟨none,rfl,h.elim .inl (fun h=>.inr (.inl h)),Below.refl _ _⟩
  · have:o=0∨o=1∨o=2∨o=3∨o=4∨o=5:=by omega
    rcases this with rfl | rfl | rfl | rfl | rfl | rfl
    · exact run_0 gS gL _ l a b w h1 h2 rfl h4
    · exact run_1 gS gL _ l a b w h1 h2 rfl h4
    · exact run_2 gS gL _ l a b w h1 h2 rfl h4
    · exact run_3 gS gL _ l a b w h1 h2 rfl h4
    · exact run_4 gS gL _ l a b w h1 h2 rfl h4
    · exact run_5 gS gL _ l a b w h1 h2 rfl h4
end Go.Proofs.YtaonpmclkafjdaaGreat

/-
  The slots whose sets are as a function wants, rising; Take, Used, Slots over the landed code.
  Conditions: those that each line bears.
-/
import Derived.Test.YtaonpmclkafjdaaGreatQz21
import Derived.Maps.RangeWalk
import Derived.LoopN
import Derived.Deep.LoopGhost
set_option linter.unusedSimpArgs false
set_option linter.unusedSectionVars false
set_option linter.unusedVariables false
namespace Go.Proofs.YtaonpmclkafjdaaGreat
open Go.RowKit Go.Maps
set_option linter.unusedVariables false
theorem Tryz.infoIS:(Tryz.prog.info? 3).map (fun i=>(i.zero,i.size,i.bytes))=some (some (.int .i64 0),1,8):=by kernel_rfl
def PredW (g:Nat)(lb:Array Value)(f:Nat→Bool)(mo:Nat→Option Nat)(B:Nat)(w:World):Prop :=
  ∀ W n,n < 32→Below B w W→w.heap.size≤W.heap.size→Calls Tryz.prog g (#[.map (mo n)] ++ lb) W fun e w'=>e=.returned (.bool (f n))∧Below W.heap.size W w'
def filtI (f:Nat→Bool)(n:Nat):List Int:=((List.range n).filter f).map (fun (k:Nat)=>(k:Int))
theorem filtI_succ (f:Nat→Bool)(n:Nat):filtI f (n+1)=filtI f n ++ if f n then [(n:Int)] else []:=by
  unfold filtI
  rw[List.range_succ,List.filter_append,List.map_append]
  cases h:f n with
  | true=>simp only[List.filter_cons,h];simp
  | false=>simp only[List.filter_cons,h];simp
theorem filtI_le (f:Nat→Bool)(n:Nat):(filtI f n).length≤n:=by
  unfold filtI
  rw[List.length_map]
  have:=List.length_filter_le f (List.range n)
  rwa [List.length_range] at this
theorem own_freshS {w w':World}{base n size:Nat}{e:TypeId}{v:Value}{xs:List Value}(h:w.ownsRow base e size v n xs)(hb:Below w.heap.size w w'):w'.ownsRow base e size v n xs:=by
  rcases h.2 with ⟨rfl,h0⟩ | ⟨g,cap,cur,rfl,hbase,hgb,r1,r2,r3,r4⟩
  · exact⟨h.1,.inl ⟨rfl,h0⟩⟩
  · exact⟨h.1,.inr ⟨g,cap,cur,rfl,hbase,(hb.block g (Array.getElem?_eq_some_iff.1 hgb).1).trans hgb,r1,r2,r3,r4⟩⟩
set_option maxRecDepth 20000 in
set_option maxHeartbeats 1000000 in
theorem where_any (g:Nat) (lb:Array Value) (f:Nat→Bool) (eg:∀ args w,(callFunc g args).run Tryz.prog w=.ok (.enter g args) w) (gS:Nat) (mo:Nat→Option Nat) (w:World) (hB:Blk w gS 139 (mapsL mo).toArray) (hp:PredW g lb f mo w.heap.size w) :
    Calls Tryz.prog 68 #[.pointer (some ⟨gS,0,none⟩),.func (.func g) #[] lb] w fun e w'=>∃ v,e=.returned v∧w'.ownsRow w.heap.size 3 1 v (filtI f 32).length ((filtI f 32).map (Value.int .i64))∧Below w.heap.size w w':=by
  obtain⟨i0,hi,hz0,hz1,hz2⟩:=info_parts Tryz.infoIS
  have HB:=Lib.hid hB
  have HP:=Lib.hid hp
  clear hB hp
  go_enter Tryz.func68,Tryz.ntmps68
  go_wp2_with fail
  refine (all_anyW gS w).mono ?_
  rintro e w' ⟨rfl,hw⟩
  have hw':=hw.symm
  subst hw'
  clear hw
  go_wp2_with fail
  go_loopg [5,6,7,11] 32 (fun gg s5 _ _ s11 wr=>∃ kk:Nat,kk+gg=32∧s11=.int .i64 kk∧wr.ownsRow w.heap.size 3 1 s5 (filtI f kk).length ((filtI f kk).map (Value.int .i64))∧Below w.heap.size w wr)
  case atStart=>exact⟨0,by omega,rfl,World.ownsRow_nil _ _ _ _,Below.refl _ _⟩
  case round =>
    obtain⟨kk,hkk,rfl,hrow,hb⟩:=hrel
    have HR:=Lib.hid hrow
    have HL:=Lib.hid hb
    clear hrow
    by_cases hlt:kk < 32
    · have hcell:wr.cell? ⟨gS,kk,none⟩=some (.map (mo kk)):=by
        rw[(HB.out.below hb HB.out.lt).cell kk]
        simpa using mapsL_at mo hlt
      have HC:=Lib.hid (HP.out wr kk hlt hb hb.size)
      have HS:=Lib.hid (filtI_succ f kk)
      have hfl:=filtI_le f kk
      obtain⟨q,hq⟩:∃ q,q=filtI f kk:=⟨_,rfl⟩
      rw[← hq] at HR HS hfl
      clear hb hq
      cases hh:f kk with
      | false =>
        rw[hh] at HC HS
        go_wp2_with fail
        refine HC.out.mono ?_
        rintro e w4 ⟨rfl,hb4⟩
        have HB4:=Lib.hid (HL.out.trans (hb4.mono HL.out.size))
        have HR4:=Lib.hid (own_freshS HR.out hb4)
        clear hb4
        go_wp2_with fail
        go_roundg (32 - (kk+1))
        case measure=>omega
        case rel=>exact⟨kk+1,by omega,by go_num,by rw[HS.out];simpa using HR4.out,HB4.out⟩
      | true =>
        rw[hh] at HC HS
        go_wp2_with fail
        refine HC.out.mono ?_
        rintro e w4 ⟨rfl,hb4⟩
        have HB4:=Lib.hid (HL.out.trans (hb4.mono HL.out.size))
        have HR4:=Lib.hid (own_freshS HR.out hb4)
        clear hb4
        go_wp2_with (at_builtin;(refine wpList_append_own _ rfl _ _ 128 rfl w.heap.size 3 i0 (.int .i64 0) 1 8 Tryz.underlying128 hi hz0 hz1 hz2 rfl (by decide) _ _ _ rfl (HR4.out.alloc _) ⟨w4.heap.size,0,none⟩ 1 1 [.int .i64 (kk:Int)] rfl rfl (cell_one_new _ _ _) (by simp[Value.oneCell']) (by unfold maxLen;omega) (by omega) (Nat.le_trans HB4.out.size (by simp)) ?_;intro v' w5 hown' hgrow' _;have HO5:=Lib.hid hown';have HG5:=Lib.hid hgrow';clear hown' hgrow'))
        go_wp2_with fail
        go_roundg (32 - (kk+1))
        case measure=>omega
        case rel=>exact⟨kk+1,by omega,by go_num,by rw[HS.out];simpa using HO5.out,(HB4.out.alloc HB4.out.size _).grown HG5.out (Nat.le_trans HB4.out.size (by simp)) (fun k hk=>(HR4.out.lt k hk).1)⟩
    · obtain rfl:kk=32:=by omega
      clear hb
      go_wp2_with fail
      go_ret
      exact⟨_,rfl,HR.out,HL.out⟩
end Go.Proofs.YtaonpmclkafjdaaGreat

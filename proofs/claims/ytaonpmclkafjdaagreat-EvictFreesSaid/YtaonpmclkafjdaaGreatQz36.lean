/-
  Take, Used, Slots over the landed code.
  Conditions: those that each line bears.
-/
import Derived.Test.YtaonpmclkafjdaaGreatQz35
import Derived.Shelf.Abstract
import Derived.RangeFuncSeq
set_option linter.unusedSimpArgs false
set_option linter.unusedSectionVars false
set_option linter.unusedVariables false
namespace Go.Proofs.YtaonpmclkafjdaaGreat
open Go.RowKit Go.Maps Go.Shelf
set_option linter.unusedVariables false
theorem len_of {w:World}{K:Nat→Prop}{l:List Pl}{x:Option Nat}(h:OneS w K l x)(hs:SrtP l):∀ ty,(Builtin.len_ #[135] ty #[.map x]).run Tryz.prog w=.ok (.int .i64 (l.length:Int)) w:=fun ty=>by
  cases x with
  | none=>rw[show l=[] from h];exact Maps.len_nil Tryz.underlying135 ty
  | some k=>obtain⟨_,n,h1⟩:=h;exact h1.run_len Tryz.underlying135 (srt_ndW hs) (fun x=>setL_neW.symm) ty
theorem takeFn (w:World) (K:Nat→Prop) (l:List Pl) (x:Option Nat) (h:OneS w K l x) (hs:SrtP l) :
    Calls Tryz.prog 100 #[.map x] w fun e w'=>e=.returned (.bool (decide (l=[])))∧w'=w:=by
  have e2:=len_of h hs
  have t1:((l.length:Int) == 0)=decide (l=[]):=by
    cases l with
    | nil=>rfl
    | cons a l=>exact beq_eq_false_iff_ne.2 (by simp only[List.length_cons];omega)
  rw[← t1]
  clear h hs t1
  go_enter Tryz.func100,Tryz.ntmps100
  go_wp2_with fail
  go_ret
  exact⟨rfl,rfl⟩
theorem usedFn (w:World) (K:Nat→Prop) (l:List Pl) (x:Option Nat) (h:OneS w K l x) (hs:SrtP l) :
    Calls Tryz.prog 69 #[.map x] w fun e w'=>e=.returned (.bool (decide (l≠[])))∧w'=w:=by
  have e2:=len_of h hs
  have t1:decide (0 < l.length)=decide (l≠[]):=by
    refine decide_eq_decide.2 ?_
    cases l with
    | nil=>simp
    | cons a l=>simp
  rw[← t1]
  clear h hs t1
  go_enter Tryz.func69,Tryz.ntmps69
  go_wp2_with fail
  go_ret
  exact⟨rfl,rfl⟩
theorem filtI_take (s:SS):TakeIs s (match filtI (fun n=>decide (s n=[])) 32 with | []=>none | z :: _=>some z.toNat)∧∀ z l,filtI (fun n=>decide (s n=[])) 32=z :: l→0≤z:=by
  unfold filtI
  have hp:((List.range 32).filter (fun n=>decide (s n=[]))).Pairwise (fun a b=>a < b):=List.pairwise_lt_range.filter _
  have hm:∀ n,n∈(List.range 32).filter (fun n=>decide (s n=[]))↔n < 32∧s n=[]:=fun n=>by
    rw[List.mem_filter,List.mem_range]
    simp
  generalize (List.range 32).filter (fun n=>decide (s n=[]))=q at hp hm
  cases q with
  | nil=>exact⟨fun m h e=>absurd ((hm m).2 ⟨h,e⟩) List.not_mem_nil,fun z l h=>by cases h⟩
  | cons a q =>
    simp only[List.map_cons,Int.toNat_natCast]
    refine⟨⟨((hm a).1 List.mem_cons_self).1,((hm a).1 List.mem_cons_self).2,fun m h e=>?_⟩,fun z l h=>?_⟩
    · have hlt:=((hm a).1 List.mem_cons_self).1
      rcases List.mem_cons.1 ((hm m).2 ⟨by omega,e⟩) with h1 | h1
      · omega
      · have:=(List.pairwise_cons.1 hp).1 m h1
        omega
    · injection h with h _
      omega
section
variable (gS:Nat)(K:Nat→Prop)(s:SS)(w:World)
theorem egT:∀ args w,(callFunc 100 args).run Tryz.prog w=.ok (.enter 100 args) w:=enters_of Tryz.func100 (by kernel_rfl) rfl
theorem egU:∀ args w,(callFunc 69 args).run Tryz.prog w=.ok (.enter 69 args) w:=enters_of Tryz.func69 (by kernel_rfl) rfl
set_option maxRecDepth 20000 in
theorem swap_take (h:SwpMem w gS K s) :
    Calls Tryz.prog 49 #[.pointer (some ⟨gS,0,none⟩)] w fun e w'=>∃ r,e=.returned (takeV r)∧TakeIs s r∧Below w.heap.size w w':=by
  obtain⟨mo,h1,h2,h3⟩:=h.at_
  have hok:=h.ok
  have hlt:=h.lt
  have HW:=Lib.hid (where_any 100 #[] (fun n=>decide (s n=[])) egT gS mo w h1 (fun W n hn hb hs =>
    (takeFn W K (s n) (mo n) ((h2 n hn).far (fun k hk=>hb.block k (hlt k hk))) (hok n)).mono fun e w' ⟨he,hw⟩=>⟨he,hw ▸ Below.refl _ _⟩))
  have HT:=Lib.hid (filtI_take s)
  generalize filtI (fun n=>decide (s n=[])) 32=q at HW HT
  clear h h1 h2 h3 hok hlt
  cases q with
  | nil =>
    have T:=Lib.hid HT.out.1
    clear HT
    go_enter Tryz.func49,Tryz.ntmps49
    go_wp2_with fail
    refine HW.out.mono ?_
    rintro e w1 ⟨v,rfl,hr,hb⟩
    obtain⟨A,n,c,rfl,hn,-⟩:=Its.of_own (xs:=[]) hr
    obtain rfl:n=0:=by rw[← hn];rfl
    have HB:=Lib.hid hb
    clear hr hb hn
    go_wp2_with fail
    go_ret2
    exact⟨none,rfl,T.out,HB.out⟩
  | cons z l =>
    have T:=Lib.hid HT.out.1
    have hz:=HT.out.2 z l rfl
    obtain⟨m,rfl⟩:=Int.eq_ofNat_of_zero_le hz
    simp only[Int.toNat_natCast] at T
    clear HT hz
    go_enter Tryz.func49,Tryz.ntmps49
    go_wp2_with fail
    refine HW.out.mono ?_
    rintro e w1 ⟨v,rfl,hr,hb⟩
    obtain⟨A,n,c,rfl,hn,hnc,hmx,hx⟩:=Its.of_own (xs:=(m:Int) :: l) hr
    have hn0:0 < n:=by rw[← hn];simp
    obtain⟨b,o,rfl,_,hc⟩:=hx hn0
    have c0:w1.cell? ⟨b,o,none⟩=some (.int .i64 (m:Int)):=by simpa using hc 0 hn0
    have HB:=Lib.hid hb
    have t1:((n:Int) == 0)=false:=beq_eq_false_iff_ne.2 (by omega)
    clear hr hb hn hx hc
    go_wp2_with fail
    go_ret2
    exact⟨some m,rfl,T.out,HB.out⟩
theorem swap_used (h:SwpMem w gS K s) :
    Calls Tryz.prog 23 #[.pointer (some ⟨gS,0,none⟩)] w fun e w'=>e=.returned (.int .i64 ((usedS s 32:Nat):Int))∧Below w.heap.size w w':=by
  obtain⟨mo,h1,h2,h3⟩:=h.at_
  have hok:=h.ok
  have hlt:=h.lt
  have HW:=Lib.hid (where_any 69 #[] (fun n=>decide (s n≠[])) egU gS mo w h1 (fun W n hn hb hs =>
    (usedFn W K (s n) (mo n) ((h2 n hn).far (fun k hk=>hb.block k (hlt k hk))) (hok n)).mono fun e w' ⟨he,hw⟩=>⟨he,hw ▸ Below.refl _ _⟩))
  have hu:(filtI (fun n=>decide (s n≠[])) 32).length=usedS s 32:=by unfold filtI usedS;rw[List.length_map]
  rw[← hu]
  generalize filtI (fun n=>decide (s n≠[])) 32=q at HW
  clear h h1 h2 h3 hok hlt hu
  go_enter Tryz.func23,Tryz.ntmps23
  go_wp2_with fail
  refine HW.out.mono ?_
  rintro e w1 ⟨v,rfl,hr,hb⟩
  obtain⟨A,n,c,rfl,hn,-⟩:=Its.of_own (xs:=q) hr
  have HB:=Lib.hid hb
  subst hn
  clear hr hb
  go_wp2_with fail
  go_ret
  exact⟨rfl,HB.out⟩
end
end Go.Proofs.YtaonpmclkafjdaaGreat

/-
  Numbers as keys of a map, whatever it holds.
  Places as keys of a map.
  The back map in memory, a map of frames each of which has a map of its places; New; all.
  A file's pages as keys of a map.
  Slots in memory, thirty-two sets of places in one block; New; all; has.
  Conditions: those that each line bears.
-/
import Derived.Test.YtaonpmclkafjdaaGreatQz20
import Derived.Test.YtaonpmclkafjdaaGreatProg
import Derived.DeepKeys4
import Derived.Test.YtaonpmclkafjdaaGreatQz00
import Derived.Lib.Hide
set_option linter.unusedSimpArgs false
set_option linter.unusedSectionVars false
set_option linter.unusedVariables false
namespace Go.Proofs.YtaonpmclkafjdaaGreat
open Go.RowKit
open Go.Maps (Keyed)
set_option linter.unusedVariables false
abbrev W64 (z:Int):Prop:=(Lit.int .i64 z).wf=true
def EI:KeyK Tryz.prog 3 Int where
  val:=.int .i64
  ok:=W64
  lit:=.int .i64
  K:=Maps.int_keyed Tryz.underlying3
  mkOf:=fun x hx=>Maps.keyOf_int_mk Tryz.underlying3 hx
  inv:=fun v l h=>by
    obtain⟨x,rfl,rfl,hx⟩:=Maps.keyOf_i64 Tryz.underlying3 h
    exact⟨x,hx,rfl,rfl⟩
  mkInj:=fun x y h=>by injection h
set_option maxRecDepth 100000 in
theorem laidOut_:laidOutB Tryz.prog=true:=by kernel_rfl
set_option maxRecDepth 100000 in
theorem intRow:(3:TypeId) < Tryz.prog.types.size:=of_decide_eq_true (by kernel_rfl)
set_option maxRecDepth 100000 in
theorem intCells:Tryz.prog.cellsOf 3=1:=by kernel_rfl
set_option maxRecDepth 100000 in
theorem typesSize:∃ n,Tryz.prog.types.size=n+1:=⟨Tryz.prog.types.size - 1,(Nat.succ_pred_eq_of_pos (Nat.lt_of_le_of_lt (Nat.zero_le _) intRow)).symm⟩
theorem keyLits_int (d:Nat)(v:Value):Tryz.prog.keyLits (d+1) 3 [v]=(match v with | .int q n=>if q=.i64∧(Lit.int .i64 n).wf=true then some [.int .i64 n] else none | _=>none):=by
  cases v <;> simp[Program.keyLits,Tryz.underlying3]
theorem keyLits_int_inv {d:Nat}{v:Value}{a:List Lit}(h:Tryz.prog.keyLits (d+1) 3 [v]=some a):∃ n,v=.int .i64 n∧W64 n∧a=[.int .i64 n]:=by
  rw[keyLits_int] at h
  split at h
  · split at h
    · rename_i hq
      obtain⟨rfl,hc⟩:=hq
      injection h with h
      exact⟨_,rfl,hc,h.symm⟩
    · cases h
  · cases h
end Go.Proofs.YtaonpmclkafjdaaGreat
namespace Go.Proofs.YtaonpmclkafjdaaGreat
open Go.RowKit
open Go.Maps (Keyed)
set_option linter.unusedVariables false
abbrev WPl (p:Pl):Prop:=W64 p.c∧W64 p.g
theorem placeRow:(60:TypeId) < Tryz.prog.types.size:=of_decide_eq_true (by kernel_rfl)
theorem placeWide:(match Tryz.prog.underlying 60 with | some (.array _ _) | some (.struct _)=>true | _=>false)=true:=by kernel_rfl
set_option maxRecDepth 100000 in
theorem placeKeyed:Keyed Tryz.prog 60:=Maps.Keyed.of_law (deep_law_laid laidOut_ (m:=2) (by omega) placeRow (by kernel_rfl) placeWide)
theorem placeKeyType:Tryz.prog.keyType 60=true:=by kernel_rfl
theorem placeCells:Tryz.prog.cellsOf 60=2:=by kernel_rfl
def litP (p:Pl):Lit:=.string (keyBytes [.int .i64 p.c,.int .i64 p.g])
theorem keyLits_place (u v:Value):Tryz.prog.keyLits (Tryz.prog.types.size+1) 60 [u,v]=(do let a ← Tryz.prog.keyLits Tryz.prog.types.size 3 [u];let b ← Tryz.prog.keyLits Tryz.prog.types.size 3 [v];pure (a ++ b)):=by
  have hc:=placeCells
  have hi:=intCells
  generalize Tryz.prog.types.size=n
  conv=>lhs;unfold Program.keyLits
  simp[Tryz.underlying60,hc,hi]
  cases Tryz.prog.keyLits n 3 [u] with
  | none=>rfl
  | some a =>
    cases Tryz.prog.keyLits n 3 [v] with
    | none=>rfl
    | some c=>simp
set_option maxRecDepth 100000 in
def EP:KeyK Tryz.prog 60 Pl where
  val:=fun p=>.agg #[.int .i64 p.c,.int .i64 p.g]
  ok:=WPl
  lit:=litP
  K:=placeKeyed
  mkOf:=fun p hp=>by
    obtain⟨n,hn⟩:=typesSize
    have h1:=keyLits_place (.int .i64 p.c) (.int .i64 p.g)
    rw[hn] at h1
    rw[keyLits_int,keyLits_int] at h1
    simp only[hp.1,hp.2,and_self,if_true] at h1
    unfold keyOf litP
    simp[Tryz.underlying60,placeKeyType,Value.formed,placeCells,Value.cells,hn,h1]
  inv:=fun v l h=>by
    obtain⟨n,hn⟩:=typesSize
    unfold keyOf at h
    simp only[Tryz.underlying60,placeKeyType,Bool.true_and] at h
    split at h
    · rename_i hf
      cases v <;> simp[Value.formed,Tryz.underlying60,placeCells] at hf
      rename_i xs
      obtain⟨xs⟩:=xs
      match xs,hf with
      | [u,v],_ =>
        obtain⟨ls,h1,rfl⟩:=Option.map_eq_some_iff.1 h
        change Tryz.prog.keyLits (Tryz.prog.types.size+1) 60 [u,v]=some ls at h1
        rw[keyLits_place,hn] at h1
        obtain⟨a,ha,h1⟩:=Option.bind_eq_some_iff.1 h1
        obtain⟨b,hb,h1⟩:=Option.bind_eq_some_iff.1 h1
        obtain⟨c,rfl,hc,rfl⟩:=keyLits_int_inv ha
        obtain⟨g,rfl,hg,rfl⟩:=keyLits_int_inv hb
        injection h1 with h1
        subst h1
        exact⟨⟨c,g⟩,⟨hc,hg⟩,rfl,rfl⟩
    · cases h
  mkInj:=fun x y h=>by
    injection h with h
    have h':=congrArg Array.toList h
    simp only[List.cons.injEq,Value.int.injEq,true_and,and_true] at h'
    cases x
    cases y
    simp only[Pl.mk.injEq]
    exact h'
end Go.Proofs.YtaonpmclkafjdaaGreat
namespace Go.Proofs.YtaonpmclkafjdaaGreat
open Go.RowKit
set_option linter.unusedVariables false
abbrev BS:=Int→List Pl
def bs0:BS:=fun _=>[]
def updB (b:BS)(f:Int)(l:List Pl):BS:=fun k=>if k=f then l else b k
theorem updB_same (b:BS)(f:Int)(l:List Pl):updB b f l f=l:=if_pos rfl
theorem updB_other (b:BS)(f:Int)(l:List Pl){k:Int}(h:k≠f):updB b f l k=b k:=if_neg h
def NewV (w:World)(v:Value):Prop:=∀ a n c,v=.slice (some a) n c→0 < n→w.heap.size≤a.block
def FewF (b:BS):Prop:=∃ fs:List Int,fs.length≤100000∧∀ g,b g≠[]→g∈fs
def setL (l:List Pl)(p:Pl):Option Value:=if p∈l then some (.agg #[]) else none
def outL (b:BS)(bk:Int→Nat)(f:Int):Option Value:=if b f=[] then none else some (.map (some (bk f)))
theorem setL_ne {l:List Pl}{p:Pl}:setL l p≠none↔p∈l:=by
  unfold setL
  by_cases h:p∈l
  · rw[if_pos h];simp[h]
  · rw[if_neg h];simp[h]
theorem outL_ne {b:BS}{bk:Int→Nat}{f:Int}:outL b bk f≠none↔b f≠[]:=by
  unfold outL
  by_cases h:b f=[]
  · rw[if_pos h];simp[h]
  · rw[if_neg h];simp[h]
structure InMap (w:World)(K:Nat→Prop)(b:BS)(m:Nat)(bk:Int→Nat):Prop where
  kM:K m
  out:∃ n,MapK EI w m n (outL b bk)
  inn:∀ f,b f≠[]→K (bk f)∧bk f≠m∧∃ n,MapK EP w (bk f) n (setL (b f))
  inj:∀ f g,b f≠[]→b g≠[]→bk f=bk g→f=g
def BackMaps (w:World)(K:Nat→Prop)(b:BS):Option Nat→Prop
  | none=>∀ f,b f=[]
  | some m=>∃ bk,InMap w K b m bk
structure BackMem (w:World)(gB:Nat)(K:Nat→Prop)(b:BS):Prop where
  lt:∀ k,K k→k < w.heap.size
  srt:∀ f,SrtP (b f)
  len:∀ f,(b f).length≤200000
  kB:K gB
  at_:∃ mo,Blk w gB 220 #[.map mo]∧BackMaps w K b mo
section
variable {w w':World}{gB m:Nat}{K:Nat→Prop}{b:BS}{bk:Int→Nat}
theorem InMap.far (h:InMap w K b m bk)(hk:∀ k,K k→w'.heap[k]?=w.heap[k]?):InMap w' K b m bk:=by
  obtain⟨n,h1⟩:=h.out
  refine⟨h.kM,⟨n,h1.far (hk m h.kM)⟩,fun f hf=>?_,h.inj⟩
  obtain⟨h2,h3,n',h4⟩:=h.inn f hf
  exact⟨h2,h3,n',h4.far (hk _ h2)⟩
theorem BackMaps.far {mo:Option Nat}(h:BackMaps w K b mo)(hk:∀ k,K k→w'.heap[k]?=w.heap[k]?):BackMaps w' K b mo:=by
  cases mo with
  | none=>exact h
  | some m=>obtain⟨bk,h1⟩:=h;exact⟨bk,h1.far hk⟩
theorem BackMem.far (h:BackMem w gB K b)(hk:∀ k,K k→w'.heap[k]?=w.heap[k]?):BackMem w' gB K b:=by
  obtain⟨mo,h1,h2⟩:=h.at_
  refine⟨fun k hk'=>?_,h.srt,h.len,h.kB,mo,?_,h2.far hk⟩
  · have e:=hk k hk'
    rw[Array.getElem?_eq_getElem (h.lt k hk')] at e
    exact (Array.getElem?_eq_some_iff.1 e).1
  · unfold Blk at *
    rw[hk gB h.kB]
    exact h1
theorem BackMem.fresh (h:BackMem w gB K b)(hb:Below w.heap.size w w'):BackMem w' gB K b:=h.far fun k hk=>hb.block k (h.lt k hk)
theorem InMap.neM (h:InMap w K b m bk){g:Nat}{t:TypeId}{cs:Array Value}(hb:Blk w g t cs):m≠g:=by
  obtain⟨n,h1⟩:=h.out
  exact hb.noMap h1.isMap
theorem InMap.neI (h:InMap w K b m bk){f:Int}(hf:b f≠[]){g:Nat}{t:TypeId}{cs:Array Value}(hb:Blk w g t cs):bk f≠g:=by
  obtain⟨_,_,n,h1⟩:=h.inn f hf
  exact hb.noMap h1.isMap
theorem srt_nd {l:List Pl}(h:SrtP l):l.Nodup:=List.Pairwise.imp (fun h=>h.ne) h
theorem InMap.tightI (h:InMap w K b m bk)(hs:∀ f,SrtP (b f)){f:Int}(hf:b f≠[]):MapK EP w (bk f) (b f).length (setL (b f)):=by
  obtain⟨_,_,n,h1⟩:=h.inn f hf
  obtain⟨D,d1,_,d2,d3⟩:=h1.tight (srt_nd (hs f)) (fun x=>setL_ne.symm)
  exact⟨D,d1,d2,d3⟩
theorem nodup_le {α:Type} [DecidableEq α]:∀ {l l':List α},l.Nodup→(∀ x,x∈l→x∈l')→l.length≤l'.length
  | [],_,_,_=>Nat.zero_le _
  | a :: l,l',hn,hs=>by
    obtain⟨h1,h2⟩:=List.nodup_cons.1 hn
    have hm:a∈l':=hs a List.mem_cons_self
    have h3:l.length≤(l'.erase a).length:=nodup_le h2 fun x hx=>by
      have hne:x≠a:=fun e=>h1 (e ▸ hx)
      exact (List.mem_erase_of_ne hne).2 (hs x (List.mem_cons_of_mem _ hx))
    have h4:=List.length_erase_of_mem hm
    have h5:0 < l'.length:=List.length_pos_of_mem hm
    rw[List.length_cons]
    omega
def dedI:List Int→List Int
  | []=>[]
  | a :: l=>if a∈dedI l then dedI l else a :: dedI l
theorem mem_of_dedI {l:List Int}{x:Int}(h:x∈dedI l):x∈l:=by
  induction l with
  | nil=>exact h
  | cons a l ih =>
    unfold dedI at h
    split at h
    · exact List.mem_cons_of_mem _ (ih h)
    · rcases List.mem_cons.1 h with e | h
      · rw[e];exact List.mem_cons_self
      · exact List.mem_cons_of_mem _ (ih h)
theorem mem_dedI {l:List Int}{x:Int}:x∈dedI l↔x∈l:=by
  induction l with
  | nil=>exact Iff.rfl
  | cons a l ih =>
    unfold dedI
    split
    · rename_i h
      rw[ih,List.mem_cons]
      constructor
      · exact Or.inr
      · intro h'
        by_cases hx:x∈l
        · exact hx
        · rcases h' with e | h'
          · exfalso
            subst e
            exact hx (mem_of_dedI h)
          · exact h'
    · rw[List.mem_cons,List.mem_cons,ih]
theorem nd_dedI (l:List Int):(dedI l).Nodup:=by
  induction l with
  | nil=>exact List.nodup_nil
  | cons a l ih =>
    unfold dedI
    split
    · exact ih
    · rename_i h
      exact List.nodup_cons.2 ⟨h,ih⟩
theorem FewF.list {b:BS}(h:FewF b):∃ js:List Int,js.Nodup∧js.length≤100000∧∀ f,f∈js↔b f≠[]:=by
  obtain⟨fs,h1,h2⟩:=h
  refine⟨(dedI fs).filter (fun f=>decide (b f≠[])),(nd_dedI fs).filter _,?_,fun f=>?_⟩
  · refine Nat.le_trans (nodup_le (l':=fs) ((nd_dedI fs).filter _) fun x hx=>?_) h1
    exact mem_dedI.1 (List.mem_filter.1 hx).1
  · rw[List.mem_filter,mem_dedI]
    constructor
    · exact fun h=>of_decide_eq_true h.2
    · exact fun h=>⟨h2 f h,decide_eq_true h⟩
theorem InMap.tightM (h:InMap w K b m bk)(hf:FewF b):∃ n,n≤100000∧MapK EI w m n (outL b bk):=by
  obtain⟨n,h1⟩:=h.out
  obtain⟨js,j1,j2,j3⟩:=hf.list
  obtain⟨D,d1,_,d2,d3⟩:=h1.tight j1 (fun x=>(j3 x).trans outL_ne.symm)
  exact⟨js.length,j2,D,d1,d2,d3⟩
end
def BackPost (w:World)(gB:Nat)(K:Nat→Prop)(v:Value)(b':BS)(e:Ending)(w':World):Prop :=
  ∃ K':Nat→Prop,e=.returned v∧BackMem w' gB K' b'∧(∀ k,K' k→K k∨w.heap.size≤k)∧Turns K w w'
theorem back_new (w:World):Calls Tryz.prog 85 #[] w fun e w'=>∃ gB K,e=.returned (.pointer (some ⟨gB,0,none⟩))∧BackMem w' gB K bs0∧(∀ k,K k→w.heap.size≤k)∧Below w.heap.size w w':=by
  go_enter Tryz.func85,Tryz.ntmps85
  go_wp2
  go_ret
  refine⟨w.heap.size,fun k=>k=w.heap.size,rfl,⟨fun k e=>?_,fun f=>List.Pairwise.nil,fun f=>Nat.zero_le _,rfl,none,Blk.new _ _ _,fun f=>rfl⟩,fun k e=>by rw[e];exact Nat.le_refl _,belAl (Below.refl _ w) _⟩
  rw[e]
  simp
theorem all_nil (w:World):Calls Tryz.prog 147 #[.pointer none] w fun e w'=>e=.returned (.map none)∧w'=w:=by
  go_enter Tryz.func147,Tryz.ntmps147
  go_wp2
  go_ret
  exact⟨rfl,rfl⟩
theorem all_any (gB:Nat)(mo:Option Nat)(w:World)(hc:w.cell? ⟨gB,0,none⟩=some (.map mo)):Calls Tryz.prog 147 #[.pointer (some ⟨gB,0,none⟩)] w fun e w'=>e=.returned (.map mo)∧w'=w:=by
  go_enter Tryz.func147,Tryz.ntmps147
  go_wp2
  go_ret
  exact⟨rfl,rfl⟩
end Go.Proofs.YtaonpmclkafjdaaGreat
namespace Go.Proofs.YtaonpmclkafjdaaGreat
open Go.RowKit
open Go.Maps (Keyed)
set_option linter.unusedVariables false
abbrev W64c (z:Int):Prop:=W64 z
abbrev WPlc (p:Pl):Prop:=W64 p.c∧W64 p.g
theorem keyRow:(85:TypeId) < Tryz.prog.types.size:=of_decide_eq_true (by kernel_rfl)
theorem keyWide:(match Tryz.prog.underlying 85 with | some (.array _ _) | some (.struct _)=>true | _=>false)=true:=by kernel_rfl
set_option maxRecDepth 100000 in
theorem keyKeyed:Keyed Tryz.prog 85:=Maps.Keyed.of_law (deep_law_laid laidOut_ (m:=2) (by omega) keyRow (by kernel_rfl) keyWide)
theorem keyKeyType:Tryz.prog.keyType 85=true:=by kernel_rfl
theorem keyCells:Tryz.prog.cellsOf 85=2:=by kernel_rfl
def litK (p:Pl):Lit:=.string (keyBytes [.int .i64 p.c,.int .i64 p.g])
theorem keyLits_key (u v:Value):Tryz.prog.keyLits (Tryz.prog.types.size+1) 85 [u,v]=(do let a ← Tryz.prog.keyLits Tryz.prog.types.size 3 [u];let b ← Tryz.prog.keyLits Tryz.prog.types.size 3 [v];pure (a ++ b)):=by
  have hc:=keyCells
  have hi:=intCells
  generalize Tryz.prog.types.size=n
  conv=>lhs;unfold Program.keyLits
  simp[Tryz.underlying85,hc,hi]
  cases Tryz.prog.keyLits n 3 [u] with
  | none=>rfl
  | some a =>
    cases Tryz.prog.keyLits n 3 [v] with
    | none=>rfl
    | some c=>simp
set_option maxRecDepth 100000 in
def EK:KeyK Tryz.prog 85 Pl where
  val:=fun p=>.agg #[.int .i64 p.c,.int .i64 p.g]
  ok:=WPlc
  lit:=litK
  K:=keyKeyed
  mkOf:=fun p hp=>by
    obtain⟨n,hn⟩:=typesSize
    have h1:=keyLits_key (.int .i64 p.c) (.int .i64 p.g)
    rw[hn] at h1
    rw[keyLits_int,keyLits_int] at h1
    simp only[hp.1,hp.2,and_self,if_true] at h1
    unfold keyOf litK
    simp[Tryz.underlying85,keyKeyType,Value.formed,keyCells,Value.cells,hn,h1]
  inv:=fun v l h=>by
    obtain⟨n,hn⟩:=typesSize
    unfold keyOf at h
    simp only[Tryz.underlying85,keyKeyType,Bool.true_and] at h
    split at h
    · rename_i hf
      cases v <;> simp[Value.formed,Tryz.underlying85,keyCells] at hf
      rename_i xs
      obtain⟨xs⟩:=xs
      match xs,hf with
      | [u,v],_ =>
        obtain⟨ls,h1,rfl⟩:=Option.map_eq_some_iff.1 h
        change Tryz.prog.keyLits (Tryz.prog.types.size+1) 85 [u,v]=some ls at h1
        rw[keyLits_key,hn] at h1
        obtain⟨a,ha,h1⟩:=Option.bind_eq_some_iff.1 h1
        obtain⟨b,hb,h1⟩:=Option.bind_eq_some_iff.1 h1
        obtain⟨c,rfl,hc,rfl⟩:=keyLits_int_inv ha
        obtain⟨g,rfl,hg,rfl⟩:=keyLits_int_inv hb
        injection h1 with h1
        subst h1
        exact⟨⟨c,g⟩,⟨hc,hg⟩,rfl,rfl⟩
    · cases h
  mkInj:=fun x y h=>by
    injection h with h
    have h':=congrArg Array.toList h
    simp only[List.cons.injEq,Value.int.injEq,true_and,and_true] at h'
    cases x
    cases y
    simp only[Pl.mk.injEq]
    exact h'
end Go.Proofs.YtaonpmclkafjdaaGreat
namespace Go.Proofs.YtaonpmclkafjdaaGreat
open Go.RowKit
set_option linter.unusedVariables false
def NewS (w:World)(v:Value):Prop:=∀ a n c,v=.slice (some a) n c→0 < n→w.heap.size≤a.block
def setLW (l:List Pl)(p:Pl):Option Value:=if p∈l then some (.agg #[]) else none
theorem setL_neW {l:List Pl}{p:Pl}:setLW l p≠none↔p∈l:=by
  unfold setLW
  by_cases h:p∈l
  · rw[if_pos h];simp[h]
  · rw[if_neg h];simp[h]
theorem srt_ndW {l:List Pl}(h:SrtP l):l.Nodup:=List.Pairwise.imp (fun h=>h.ne) h
def mapsL (mo:Nat→Option Nat):List Value:=(List.range 32).map fun n=>.map (mo n)
theorem mapsL_length (mo:Nat→Option Nat):(mapsL mo).length=32:=by simp[mapsL]
theorem mapsL_at (mo:Nat→Option Nat){n:Nat}(h:n < 32):(mapsL mo)[n]?=some (.map (mo n)):=by
  unfold mapsL
  rw[List.getElem?_map,List.getElem?_range h]
  rfl
theorem mapsL_none:mapsL (fun _=>none)=List.replicate 32 (.map none):=by
  unfold mapsL
  rw[List.map_const']
  simp
def updM (mo:Nat→Option Nat)(n:Nat)(x:Option Nat):Nat→Option Nat:=fun k=>if k=n then x else mo k
theorem mapsL_set (mo:Nat→Option Nat)(n:Nat)(x:Option Nat):(mapsL mo).set n (.map x)=mapsL (updM mo n x):=by
  refine List.ext_getElem? fun i=>?_
  by_cases c:i < 32
  · rw[List.getElem?_set,mapsL_at _ c,mapsL_at _ c,mapsL_length]
    unfold updM
    by_cases e:n=i
    · subst e
      simp[c]
    · rw[if_neg e,if_neg (fun h=>e h.symm)]
  · rw[List.getElem?_eq_none (by rw[List.length_set,mapsL_length];omega),List.getElem?_eq_none (by rw[mapsL_length];omega)]
def OneS (w:World)(K:Nat→Prop)(l:List Pl):Option Nat→Prop
  | none=>l=[]
  | some k=>K k∧∃ n,MapK EP w k n (setLW l)
structure SwpMem (w:World)(gS:Nat)(K:Nat→Prop)(s:SS):Prop where
  lt:∀ k,K k→k < w.heap.size
  ok:SsOk s
  len:∀ n,(s n).length≤200000
  kS:K gS
  at_:∃ mo,Blk w gS 139 (mapsL mo).toArray∧(∀ n,n < 32→OneS w K (s n) (mo n))∧∀ n m k,n < 32→m < 32→mo n=some k→mo m=some k→n=m
section
variable {w w':World}{gS:Nat}{K:Nat→Prop}{s:SS}{l:List Pl}{x:Option Nat}
theorem OneS.far (h:OneS w K l x)(hk:∀ k,K k→w'.heap[k]?=w.heap[k]?):OneS w' K l x:=by
  cases x with
  | none=>exact h
  | some k =>
    obtain⟨h1,n,h2⟩:=h
    exact⟨h1,n,h2.far (hk k h1)⟩
theorem SwpMem.far (h:SwpMem w gS K s)(hk:∀ k,K k→w'.heap[k]?=w.heap[k]?):SwpMem w' gS K s:=by
  obtain⟨mo,h1,h2,h3⟩:=h.at_
  refine⟨fun k hk'=>?_,h.ok,h.len,h.kS,mo,?_,fun n hn=>(h2 n hn).far hk,h3⟩
  · have e:=hk k hk'
    rw[Array.getElem?_eq_getElem (h.lt k hk')] at e
    exact (Array.getElem?_eq_some_iff.1 e).1
  · unfold Blk at *
    rw[hk gS h.kS]
    exact h1
theorem SwpMem.fresh (h:SwpMem w gS K s)(hb:Below w.heap.size w w'):SwpMem w' gS K s:=h.far fun k hk=>hb.block k (h.lt k hk)
theorem OneS.tight {k:Nat}(h:OneS w K l (some k))(hs:SrtP l):MapK EP w k l.length (setLW l):=by
  obtain⟨_,n,h1⟩:=h
  obtain⟨D,d1,_,d2,d3⟩:=h1.tight (srt_ndW hs) (fun x=>setL_neW.symm)
  exact⟨D,d1,d2,d3⟩
end
def SwpPost (w:World)(gS:Nat)(K:Nat→Prop)(v:Value)(s':SS)(e:Ending)(w':World):Prop :=
  ∃ K':Nat→Prop,e=.returned v∧SwpMem w' gS K' s'∧(∀ k,K' k→K k∨w.heap.size≤k)∧Turns K w w'
theorem swap_new (w:World):Calls Tryz.prog 87 #[] w fun e w'=>∃ gS K,e=.returned (.pointer (some ⟨gS,0,none⟩))∧SwpMem w' gS K ss0∧(∀ k,K k→w.heap.size≤k)∧Below w.heap.size w w':=by
  go_enter Tryz.func87,Tryz.ntmps87
  go_wp2
  go_ret
  refine⟨w.heap.size,fun k=>k=w.heap.size,rfl,⟨fun k e=>?_,ss0_ok,fun n=>Nat.zero_le _,rfl,fun _=>none,?_,fun n _=>rfl,fun n m k _ _ h=>by cases h⟩,fun k e=>by rw[e];exact Nat.le_refl _,belAl (Below.refl _ w) _⟩
  · rw[e]
    simp
  · rw[mapsL_none]
    exact Blk.new _ _ _
theorem all_anyW (gS:Nat)(w:World):Calls Tryz.prog 123 #[.pointer (some ⟨gS,0,none⟩)] w fun e w'=>e=.returned (.slice (some ⟨gS,0,none⟩) 32 32)∧w'=w:=by
  go_enter Tryz.func123,Tryz.ntmps123
  go_wp2
  go_ret
  exact⟨rfl,rfl⟩
theorem has_any (gS:Nat)(n:Int)(w:World):Calls Tryz.prog 70 #[.pointer (some ⟨gS,0,none⟩),.int .i64 n] w fun e w'=>e=.returned (.bool (decide (isSlot n)))∧w'=w:=by
  by_cases c:0≤n
  · have t1:decide (0≤n)=true:=decide_eq_true c
    have t3:decide (isSlot n)=decide (n < 32):=decide_eq_decide.2 ⟨fun h=>h.2,fun h=>⟨c,h⟩⟩
    rw[t3]
    go_enter Tryz.func70,Tryz.ntmps70
    go_wp2_with fail
    refine (all_anyW gS _).mono ?_
    rintro e w' ⟨rfl,rfl⟩
    go_wp2_with fail
    go_ret
    exact⟨rfl,rfl⟩
  · have t1:decide (0≤n)=false:=decide_eq_false c
    rw[decide_eq_false (show ¬ isSlot n from fun h=>c h.1)]
    go_enter Tryz.func70,Tryz.ntmps70
    go_wp2_with fail
    go_ret
    exact⟨rfl,rfl⟩
end Go.Proofs.YtaonpmclkafjdaaGreat

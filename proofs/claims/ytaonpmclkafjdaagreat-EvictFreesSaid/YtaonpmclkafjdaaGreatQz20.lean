/-
  Maps from whatever kind of keys to values of whatever kind: what such a map holds, looked up, written, dropped, counted, gone through; a map that is none. Nothing of the program is named here.
  Conditions: those that each line bears.
-/
import Derived.Test.YtaonpmclkafjdaaGreatQz00
import Derived.Lib.SlKeysI
set_option linter.unusedSimpArgs false
set_option linter.unusedSectionVars false
set_option linter.unusedVariables false
namespace Go.Proofs.YtaonpmclkafjdaaGreat
open Go.RowKit
open Go.Maps (Keyed)
open Go.WideElems (Fit rd rg pl rd_key rd_val rg_of)
open Go.WideShapes
set_option linter.unusedVariables false
abbrev KDat:=DataW Value
def selfR (v:Value):Option (KDat × List MemPlace):=some (.held v,[])
theorem selfR_inv {v:Value}{y:KDat × List MemPlace}(h:selfR v=some y):y=(.held v,[]):=by
  unfold selfR at h
  injection h with h
  exact h.symm
structure KeyK (P:Program) (k:TypeId) (κ:Type) where
  val:κ→Value
  ok:κ→Prop
  lit:κ→Lit
  K:Keyed P k
  mkOf:∀ x,ok x→keyOf P k (val x)=some (lit x)
  inv:∀ v l,keyOf P k v=some l→∃ x,ok x∧v=val x∧l=lit x
  mkInj:∀ x y,val x=val y→x=y
theorem KeyK.litInj {P:Program}{k:TypeId}{κ:Type}(E:KeyK P k κ){x y:κ}(hx:E.ok x)(hy:E.ok y)(h:E.lit x=E.lit y):x=y :=
  E.mkInj x y (E.K.inj (E.mkOf x hx) (h ▸ E.mkOf y hy))
theorem KeyK.same {P:Program}{k:TypeId}{κ:Type}(E:KeyK P k κ){x y:κ}(hx:E.ok x)(hy:E.ok y):(E.lit x).sameKey (E.lit y)=true↔x=y:=by
  constructor
  · exact fun h=>E.litInj hx hy (WideAt.sameKey_eq h)
  · rintro rfl
    exact WideAt.sameKey_self (E.K.key (E.mkOf x hx))
def lookK (D:KDat)(l:Lit):Option Value :=
  match D.atKey l .nil with
  | .held v=>some v
  | _=>none
section
variable {P:Program}{k:TypeId}{w w':World}{b m:Nat}{D:KDat}
theorem ownK_held (h:w.ownsMap P k selfR b m D)(K:Keyed P k):∃ E,D=.map E∧E.Pairwise (fun p q=>p.1≠q.1)∧(∀ p∈E,WideAt.IsKeyLit p.1∧∃ v,p.2=.held v)∧w.ownsMap P k selfR b E.length D:=by
  obtain⟨es,clock,hb,F,hs,rfl⟩:=h
  refine⟨_,rfl,((sorted_perm _).pairwise_iff (fun {_ _} hne=>Ne.symm hne)).2 (Maps.fit_apart K F),fun p hp=>?_,es,clock,hb,F,by rw[length_sorted];simp,rfl⟩
  obtain⟨x,hx,rfl⟩:=List.mem_map.1 (mem_sorted.1 hp)
  obtain⟨y,hy⟩:=F.reads x hx
  rw[rg_of hy]
  obtain⟨z,hz,h2⟩:=rd_val hy
  have:=selfR_inv hz
  subst this
  exact⟨K.key (rd_key hy),_,h2⟩
theorem hasK_look (h:w.ownsMap P k selfR b m D)(K:Keyed P k)(l:Lit):Maps.has D l=(lookK D l).isSome:=by
  obtain⟨E,rfl,_,h2,_⟩:=ownK_held h K
  unfold lookK
  simp only[DataW.atKey,Maps.has]
  cases hf:E.find? (fun p=>p.1.sameKey l) with
  | none =>
    rw[List.find?_eq_none] at hf
    simp only[Option.isSome_none]
    exact List.any_eq_false.2 hf
  | some p =>
    obtain⟨xs,hx⟩:=(h2 p (List.mem_of_find?_eq_some hf)).2
    simp only[hx,Option.isSome_some]
    exact List.any_eq_true.2 ⟨p,List.mem_of_find?_eq_some hf,by have:=List.find?_some hf;exact this⟩
theorem atK_look (h:w.ownsMap P k selfR b m D)(K:Keyed P k){l:Lit}{v:Value}(hl:lookK D l=some v)(zd:KDat):D.atKey l zd=.held v:=by
  obtain⟨E,rfl,_,h2,_⟩:=ownK_held h K
  unfold lookK at hl
  simp only[DataW.atKey] at hl ⊢
  cases hf:E.find? (fun p=>p.1.sameKey l) with
  | none=>rw[hf] at hl;simp at hl
  | some p =>
    obtain⟨ys,hx⟩:=(h2 p (List.mem_of_find?_eq_some hf)).2
    rw[hf] at hl
    simp only[hx,Option.some.injEq] at hl ⊢
    rw[hl]
end
def MapK {P:Program}{k:TypeId}{κ:Type}(E:KeyK P k κ)(w:World)(b n:Nat)(L:κ→Option Value):Prop :=
  ∃ D,w.ownsMap P k selfR b n D∧(∀ x,E.ok x→lookK D (E.lit x)=L x)∧∀ x,¬ E.ok x→L x=none
def updK {κ:Type} [DecidableEq κ] (L:κ→Option Value)(x:κ)(v:Option Value):κ→Option Value:=fun y=>if y=x then v else L y
section
variable {P:Program}{k t e:TypeId}{κ:Type}{E:KeyK P k κ}{w w':World}{b n:Nat}{L:κ→Option Value}
theorem MapK.far (h:MapK E w b n L)(hb:w'.heap[b]?=w.heap[b]?):MapK E w' b n L:=by
  obtain⟨D,⟨es,clock,h1,h2⟩,h3⟩:=h
  exact⟨D,⟨es,clock,hb.trans h1,h2⟩,h3⟩
theorem MapK.isMap (h:MapK E w b n L):∃ es clock,w.heap[b]?=some (.map es clock):=by
  obtain⟨D,⟨es,clock,h1,h2⟩,h3⟩:=h
  exact⟨es,clock,h1⟩
theorem MapK.blk (h:MapK E w b n L):b < w.heap.size:=by
  obtain⟨D,h1,_⟩:=h
  exact h1.lt
theorem MapK.congr (h:MapK E w b n L){L':κ→Option Value}(hl:∀ x,L x=L' x):MapK E w b n L':=by
  obtain rfl:L=L':=funext hl
  exact h
theorem MapK.ok (h:MapK E w b n L){x:κ}(hx:L x≠none):E.ok x:=by
  obtain⟨D,h1,h2,h3⟩:=h
  exact Classical.byContradiction fun hn=>hx (h3 x hn)
theorem MapK.made (w:World)(E:KeyK P k κ)(n:Nat):MapK E (w.alloc (.map #[] 0)) w.heap.size n (fun _=>none) :=
  ⟨.map [],(World.ownsMap_made _ _ _ _).mono (Nat.zero_le _),fun x _=>rfl,fun x _=>rfl⟩
theorem MapK.tight (h:MapK E w b n L) {js:List κ} (hn:js.Nodup) (hm:∀ x,x∈js↔L x≠none) :
    ∃ D,w.ownsMap P k selfR b js.length D∧Maps.size D=js.length∧(∀ x,E.ok x→lookK D (E.lit x)=L x)∧∀ x,¬ E.ok x→L x=none:=by
  have hok:=fun x hx=>h.ok (x:=x) hx
  obtain⟨D,h1,h2,h3⟩:=h
  obtain⟨es,rfl,hp,hk,ht⟩:=ownK_held h1 E.K
  obtain⟨es',he',hko⟩:=h1.keysOf
  obtain rfl:es=es':=by simpa using he'
  have key:∀ p∈es,∃ x,E.ok x∧p.1=E.lit x∧L x≠none:=by
    intro p hp'
    obtain⟨v,hv⟩:=hko p hp'
    obtain⟨x,hx,_,hl⟩:=E.inv v p.1 hv
    refine⟨x,hx,hl,fun hL=>?_⟩
    have hh:Maps.has (.map es) (E.lit x)=true:=List.any_eq_true.2 ⟨p,hp',by rw[hl];exact WideAt.sameKey_self (E.K.key (E.mkOf x hx))⟩
    rw[hasK_look h1 E.K,h2 x hx,hL] at hh
    cases hh
  have hperm:(es.map Prod.fst).Perm (js.map E.lit):=by
    refine (List.perm_ext_iff_of_nodup (List.pairwise_map.2 hp) (List.pairwise_map.2 (hn.imp_of_mem fun {a c} ha hc hne e=>hne (E.litInj (hok a ((hm a).1 ha)) (hok c ((hm c).1 hc)) e)))).2 fun l=>?_
    constructor
    · intro hl
      obtain⟨p,hp',rfl⟩:=List.mem_map.1 hl
      obtain⟨x,hx,e,hL⟩:=key p hp'
      exact List.mem_map.2 ⟨x,(hm x).2 hL,e.symm⟩
    · intro hl
      obtain⟨x,hx,rfl⟩:=List.mem_map.1 hl
      have hx':=hok x ((hm x).1 hx)
      have hh:Maps.has (.map es) (E.lit x)=true:=by
        rw[hasK_look h1 E.K,h2 x hx']
        cases hL:L x with
        | none=>exact absurd hL ((hm x).1 hx)
        | some v=>rfl
      obtain⟨p,hp',hs⟩:=List.any_eq_true.1 hh
      exact List.mem_map.2 ⟨p,hp',WideAt.sameKey_eq hs⟩
  have hlen:es.length=js.length:=by
    have:=hperm.length_eq
    simpa using this
  exact⟨.map es,by rw[← hlen];exact ht,hlen,h2,h3⟩
theorem MapK.run_look (h:MapK E w b n L) (ht:P.underlying t=some (.map k e)) {z:Value} (hz:(zeroValue e).run P w=.ok z w) (x:κ) (hx:E.ok x) :
    (Instr.lookup t (.map (some b)) (E.val x) true).run P w=.ok (.tuple #[(L x).getD z,.bool (L x).isSome]) w:=by
  obtain⟨D,h1,h2,h3⟩:=h
  obtain⟨v,ps,hrun,hv⟩:=h1.look_ok E.K ht hz (show selfR z=some (.held z,[]) from rfl) (E.mkOf x hx)
  have hx':=selfR_inv hv
  rw[hasK_look h1 E.K,h2 x hx] at hrun
  injection hx' with hx' _
  cases hl:L x with
  | some y =>
    rw[atK_look h1 E.K (by rw[h2 x hx,hl])] at hx'
    injection hx' with hx'
    rw[hrun,hl,hx']
    rfl
  | none =>
    have hno:Maps.has D (E.lit x)=false:=by rw[hasK_look h1 E.K,h2 x hx,hl];rfl
    rw[Maps.atKey_of_not_has hno] at hx'
    injection hx' with hx'
    rw[hrun,hl,hx']
    rfl
theorem MapK.run_get (h:MapK E w b n L) (ht:P.underlying t=some (.map k e)) {z:Value} (hz:(zeroValue e).run P w=.ok z w) (x:κ) (hx:E.ok x) :
    (Instr.lookup t (.map (some b)) (E.val x) false).run P w=.ok ((L x).getD z) w:=by
  obtain⟨D,h1,h2,h3⟩:=h
  obtain⟨v,ps,hrun,hv⟩:=h1.lookup E.K ht hz (show selfR z=some (.held z,[]) from rfl) (E.mkOf x hx)
  have hx':=selfR_inv hv
  injection hx' with hx' _
  cases hl:L x with
  | some y =>
    rw[atK_look h1 E.K (by rw[h2 x hx,hl])] at hx'
    injection hx' with hx'
    rw[hrun,hx']
    rfl
  | none =>
    have hno:Maps.has D (E.lit x)=false:=by rw[hasK_look h1 E.K,h2 x hx,hl];rfl
    rw[Maps.atKey_of_not_has hno] at hx'
    injection hx' with hx'
    rw[hrun,hx']
    rfl
theorem MapK.run_store [DecidableEq κ] (h:MapK E w b n L) (ht:P.underlying t=some (.map k e)) (hn:n≤1000000) (x:κ) (hx:E.ok x) (v:Value) :
    ∃ w',(Instr.mapUpdate t (.map (some b)) (E.val x) v).run P w=.ok () w'∧MapK E w' b (n+1) (updK L x (some v))∧Only b w w':=by
  obtain⟨D,h1,h2,h3⟩:=h
  obtain⟨w',hrun,h4,h5⟩:=h1.store E.K ht (by unfold maxLen;omega) (E.mkOf x hx) (show selfR v=some (.held v,[]) from rfl)
  refine⟨w',hrun,⟨_,h4,fun y hy=>?_,fun y hy=>?_⟩,turned_only h5⟩
  · unfold updK
    by_cases e:y=x
    · subst e
      rw[if_pos rfl]
      unfold lookK
      rw[Maps.atKey_put_same h1.isMap (E.K.key (E.mkOf y hy))]
    · rw[if_neg e,← h2 y hy]
      unfold lookK
      rw[Maps.atKey_put_other (fun he=>e (E.litInj hy hx he))]
  · unfold updK
    rw[if_neg (fun e=>hy (by rw[e];exact hx))]
    exact h3 y hy
theorem MapK.run_drop [DecidableEq κ] (h:MapK E w b n L) (ht:P.underlying t=some (.map k e)) (x:κ) (hx:E.ok x) (ty:TypeId) :
    ∃ w',(Builtin.delete_ #[t,k] ty #[.map (some b),E.val x]).run P w=.ok (.tuple #[]) w'∧MapK E w' b n (updK L x none)∧Only b w w':=by
  obtain⟨D,h1,h2,h3⟩:=h
  obtain⟨w',hrun,h4,h5⟩:=h1.drop E.K ht (E.mkOf x hx) ty
  refine⟨w',hrun,⟨_,h4,fun y hy=>?_,fun y hy=>?_⟩,turned_only h5⟩
  · unfold updK
    by_cases e:y=x
    · subst e
      rw[if_pos rfl]
      unfold lookK
      rw[Maps.atKey_del_same]
    · rw[if_neg e,← h2 y hy]
      unfold lookK
      rw[Maps.atKey_del_other (fun he=>e (E.litInj hy hx he))]
  · unfold updK
    rw[if_neg (fun e=>hy (by rw[e];exact hx))]
    exact h3 y hy
theorem MapK.run_len (h:MapK E w b n L) (ht:P.underlying t=some (.map k e)) {js:List κ} (hn:js.Nodup) (hm:∀ x,x∈js↔L x≠none) (ty:TypeId) :
    (Builtin.len_ #[t] ty #[.map (some b)]).run P w=.ok (.int .i64 (js.length:Int)) w:=by
  obtain⟨D,h1,h2,_⟩:=h.tight hn hm
  rw[h1.len ht ty,h2]
theorem MapK.nil_look (E:KeyK P k κ) (w:World) (ht:P.underlying t=some (.map k e)) {z:Value} (hz:(zeroValue e).run P w=.ok z w) (c:Bool) (x:κ) (hx:E.ok x) :
    (Instr.lookup t (.map none) (E.val x) c).run P w=.ok (if c then .tuple #[z,.bool false] else z) w:=Maps.look_nil c E.K ht hz (E.mkOf x hx)
theorem MapK.nil_drop (E:KeyK P k κ) (w:World) (ht:P.underlying t=some (.map k e)) (x:κ) (hx:E.ok x) (ty:TypeId) :
    (Builtin.delete_ #[t,k] ty #[.map none,E.val x]).run P w=.ok (.tuple #[]) w:=Maps.drop_nil E.K ht (E.mkOf x hx) ty
end
theorem Blk.noMap {w:World}{g k:Nat}{t:TypeId}{cs:Array Value}(h:Blk w g t cs)(hm:∃ es clock,w.heap[k]?=some (.map es clock)):k≠g:=by
  rintro rfl
  obtain⟨es,clock,e⟩:=hm
  unfold Blk at h
  rw[h] at e
  cases e
structure CollK {P:Program}{k:TypeId}{κ:Type}(E:KeyK P k κ)(D0:KDat)(left:Lit→Bool)(ss:List κ):Prop where
  nd:ss.Nodup
  ok:∀ x∈ss,E.ok x
  iff:∀ x,E.ok x→(x∈ss↔(Maps.has D0 (E.lit x)=true∧left (E.lit x)=false))
section
variable {P:Program}{k:TypeId}{κ:Type}{E:KeyK P k κ}{D0:KDat}{left:Lit→Bool}{ss:List κ}
theorem CollK.start (E:KeyK P k κ)(D0:KDat):CollK E D0 (Maps.has D0) [] :=
  ⟨List.nodup_nil,fun x h=>absurd h List.not_mem_nil,fun x _=>by cases Maps.has D0 (E.lit x) <;> simp⟩
theorem CollK.step (h:CollK E D0 left ss){x:κ}(hx:E.ok x){y:KDat}(hlk:left (E.lit x)=true)(hat:∀ zd,D0.atKey (E.lit x) zd=y):CollK E D0 (fun z=>left z && !z.sameKey (E.lit x)) (ss ++ [x]):=by
  have hhas:Maps.has D0 (E.lit x)=true:=Maps.has_true_of_atKey hat
  have hnew:x ∉ ss:=fun hm=>by
    have:=((h.iff x hx).1 hm).2
    rw[hlk] at this
    cases this
  refine⟨List.nodup_append.2 ⟨h.nd,by simp,fun a ha b hb=>by simp at hb;subst hb;exact fun e=>hnew (e ▸ ha)⟩,fun y hy=>?_,fun y hy=>?_⟩
  · rcases List.mem_append.1 hy with hy | hy
    · exact h.ok y hy
    · simp at hy
      rw[hy]
      exact hx
  · by_cases e:y=x
    · subst e
      simp[hhas,(E.same hy hy).2 rfl]
    · have hns:(E.lit y).sameKey (E.lit x)=false:=by
        cases hs:(E.lit y).sameKey (E.lit x) with
        | false=>rfl
        | true=>exact absurd ((E.same hy hx).1 hs) e
      simp[h.iff y hy,e,hns]
end
end Go.Proofs.YtaonpmclkafjdaaGreat

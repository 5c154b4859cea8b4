/-
  Slices of structs that came in, and structs by value: opened once for all structs. Nothing of the program is named here.
  Areas and lists of areas (nothing of the program): which may be, what is cut out of them, and where one more goes.
  Processes and their bytes, as numbers: areas, pages of one's own, files.
  What lies ahead of some pages, in them and behind them: a list that is cut, changed or grown is these, one behind the other (nothing of the program).
  What Cut and Protect leave is a list, and which area has which page (nothing of the program).
  Conditions: those that each line bears.
-/
import Derived.Test.YtaonpmclkafjdaaGreatQz00
import Derived.Lib.SmallJoins
import Derived.OpenShut
set_option linter.unusedSimpArgs false
set_option linter.unusedSectionVars false
set_option linter.unusedVariables false
namespace Go.Proofs.YtaonpmclkafjdaaGreat
open Go.ChangeShapes Go.WideShapes Go.ChangeAt Go.RowKit Go.Deep Go.Joins
set_option linter.unusedVariables false
section
variable {H:Type}{enc:TypeId × Value→H}{P:Program}{w:World}{base:Nat}{spare:Nat→Bool}{held:Bool}
def Gs {α:Type}(f:α→List Value)(k:Nat)(w:World)(B:Nat)(v:Value)(ps:List α):Prop :=
  ∃ A n c,v=.slice A n c∧ps.length=n∧n≤c∧c≤maxLen∧(0 < c→∃ b o,A=some ⟨b,o,none⟩)∧(0 < n→∃ b o,A=some ⟨b,o,none⟩∧b < B∧∀ j p,ps[j]?=some p→∀ i u,(f p)[i]?=some u→w.cell? ⟨b,o+j * k+i,none⟩=some u)
end
section
variable {α:Type}{f:α→List Value}{k:Nat}{w w':World}{B B':Nat}{v:Value}{ps:List α}
theorem Gs.keep (h:Gs f k w B v ps)(hk:∀ p:Addr,p.block < B→w'.cell? p=w.cell? p):Gs f k w' B v ps:=by
  obtain⟨A,n,c,h1,h2,h3,h4,h5,h7⟩:=h
  refine⟨A,n,c,h1,h2,h3,h4,h5,fun h0=>?_⟩
  obtain⟨b,o,e,hb,hc⟩:=h7 h0
  exact⟨b,o,e,hb,fun j p hj i u hu=>(hk _ hb).trans (hc j p hj i u hu)⟩
theorem Gs.below (h:Gs f k w B v ps)(hb:Below B w w'):Gs f k w' B v ps:=h.keep fun _ hp=>hb.cell hp
theorem Gs.more (h:Gs f k w B v ps)(hB:B≤B'):Gs f k w B' v ps:=by
  obtain⟨A,n,c,h1,h2,h3,h4,h5,h7⟩:=h
  refine⟨A,n,c,h1,h2,h3,h4,h5,fun h0=>?_⟩
  obtain⟨b,o,e,hb,hc⟩:=h7 h0
  exact⟨b,o,e,by omega,hc⟩
theorem Gs.fresh (h:Gs f k w w.heap.size v ps)(hb:Below w.heap.size w w'):Gs f k w' w'.heap.size v ps:=(h.below hb).more hb.size
theorem Gs.nil_ (w:World)(B:Nat):Gs f k w B (.slice none 0 0) []:=⟨none,0,0,rfl,rfl,Nat.le_refl _,by simp[maxLen],fun h=>absurd h (Nat.lt_irrefl _),fun h=>absurd h (Nat.lt_irrefl _)⟩
end
end Go.Proofs.YtaonpmclkafjdaaGreat
namespace Go.Proofs.YtaonpmclkafjdaaGreat
open Go.RowKit
set_option linter.unusedVariables false
structure Ar where
  fr:Int
  pg:Int
  w:Bool
  kd:Int
  fl:Int
  ofs:Int
deriving DecidableEq
def ar0:Ar:=⟨0,0,false,0,0,0⟩
def arL (a:Ar):List Value:=[.int .i64 a.fr,.int .i64 a.pg,.bool a.w,.int .i64 a.kd,.int .i64 a.fl,.int .i64 a.ofs]
def soundA (a:Ar):Prop:=(1≤a.kd∧a.kd≤3∧0≤a.fr∧1≤a.pg∧a.fr≤4095∧a.pg≤4096 - a.fr)∧(a.kd=1∧a.fl=0∧a.ofs=0∨a.kd≠1∧0≤a.fl∧a.fl < 4∧0≤a.ofs∧a.ofs < 16∧a.pg≤16 - a.ofs)
instance (a:Ar):Decidable (soundA a):=by unfold soundA;exact inferInstance
def listA (l:List Ar):Prop:=(∀ a∈l,soundA a)∧l.Pairwise (fun a b=>a.fr+a.pg≤b.fr)
instance (l:List Ar):Decidable (listA l):=by unfold listA;exact inferInstance
theorem listA_nil:listA []:=⟨fun a h=>absurd h List.not_mem_nil,List.Pairwise.nil⟩
def maxI (a b:Int):Int:=if a < b then b else a
def minI (a b:Int):Int:=if b < a then b else a
def pieceA (a:Ar)(f e:Int):List Ar :=
  if minI e (a.fr+a.pg)≤maxI f a.fr then [] else [⟨maxI f a.fr,minI e (a.fr+a.pg) - maxI f a.fr,a.w,a.kd,a.fl,if a.kd=1 then a.ofs else a.ofs+maxI f a.fr - a.fr⟩]
theorem pieceA_length (a:Ar)(f e:Int):(pieceA a f e).length≤1:=by unfold pieceA;split <;> simp
def outA (l:List Ar)(f p:Int):List Ar:=l.flatMap fun a=>pieceA a 0 f ++ pieceA a (f+p) 4096
def inA (l:List Ar)(f p:Int):List Ar:=l.flatMap fun a=>pieceA a f (f+p)
theorem inA_snoc (l:List Ar)(a:Ar)(f p:Int):inA (l ++ [a]) f p=inA l f p ++ pieceA a f (f+p):=by
  unfold inA
  rw[List.flatMap_append]
  simp
theorem inA_length (l:List Ar)(f p:Int):(inA l f p).length≤l.length:=by
  induction l with
  | nil=>exact Nat.zero_le _
  | cons a l ih =>
    have h1:=pieceA_length a f (f+p)
    have:inA (a :: l) f p=pieceA a f (f+p) ++ inA l f p:=rfl
    rw[this,List.length_append,List.length_cons]
    omega
def posA:List Ar→Int→Nat
  | [],_=>0
  | x :: l,f=>if x.fr < f then posA l f+1 else 0
theorem posA_le (l:List Ar)(f:Int):posA l f≤l.length:=by
  induction l with
  | nil=>exact Nat.le_refl _
  | cons x l ih =>
    unfold posA
    split
    · simp only[List.length_cons];omega
    · exact Nat.zero_le _
theorem posA_lt {l:List Ar}{f:Int}{j:Nat}(h:j < posA l f):∃ x,l[j]?=some x∧x.fr < f:=by
  induction l generalizing j with
  | nil=>exact absurd h (Nat.not_lt_zero _)
  | cons x l ih =>
    unfold posA at h
    split at h
    · rename_i c
      cases j with
      | zero=>exact⟨x,rfl,c⟩
      | succ j =>
        obtain⟨y,h1,h2⟩:=ih (show j < posA l f by omega)
        exact⟨y,h1,h2⟩
    · exact absurd h (Nat.not_lt_zero _)
theorem posA_at {l:List Ar}{f:Int}{x:Ar}(h:l[posA l f]?=some x):¬ x.fr < f:=by
  induction l with
  | nil=>cases h
  | cons y l ih =>
    unfold posA at h
    split at h
    · exact ih h
    · rename_i c
      simp only[List.getElem?_cons_zero,Option.some.injEq] at h
      subst h
      exact c
def insA (l:List Ar)(a:Ar):List Ar:=l.take (posA l a.fr) ++ [a] ++ l.drop (posA l a.fr)
theorem insA_length (l:List Ar)(a:Ar):(insA l a).length=l.length+1:=by
  unfold insA
  have:=posA_le l a.fr
  simp only[List.length_append,List.length_take,List.length_drop,List.length_singleton]
  omega
def addE (l:List Ar)(a:Ar):Int:=if soundA a then (if inA l a.fr a.pg≠[] then 3 else if 16≤l.length then 4 else 0) else 1
def addL (l:List Ar)(a:Ar):List Ar:=if addE l a=0 then insA l a else []
def rightA (f p:Int):Prop:=0≤f∧1≤p∧f≤4095∧p≤4096 - f
instance (f p:Int):Decidable (rightA f p):=by unfold rightA;exact inferInstance
def findA (l:List Ar)(q:Int):Option Ar:=l.find? (fun a=>decide (a.fr≤q∧q < a.fr+a.pg))
abbrev Ars (w:World)(B:Nat)(v:Value)(l:List Ar):Prop:=Gs arL 6 w B v l
def flatA:List Ar→List Value
  | []=>[]
  | a :: l=>.int .i64 a.fr :: .int .i64 a.pg :: .bool a.w :: .int .i64 a.kd :: .int .i64 a.fl :: .int .i64 a.ofs :: flatA l
theorem flatA_append (l m:List Ar):flatA (l ++ m)=flatA l ++ flatA m:=by
  induction l with
  | nil=>rfl
  | cons a l ih=>show _ :: _ :: _ :: _ :: _ :: _ :: flatA (l ++ m)=_;rw[ih];rfl
theorem flatA_one (l:List Ar):∀ u∈flatA l,u.oneCell'=true:=by
  induction l with
  | nil=>exact fun u h=>absurd h List.not_mem_nil
  | cons a l ih =>
    intro u hu
    have hu':u=.int .i64 a.fr∨u=.int .i64 a.pg∨u=.bool a.w∨u=.int .i64 a.kd∨u=.int .i64 a.fl∨u=.int .i64 a.ofs∨u∈flatA l:=by
      simpa [flatA] using hu
    rcases hu' with rfl | rfl | rfl | rfl | rfl | rfl | hu
    all_goals first | rfl | exact ih u hu
theorem flatA_at {l:List Ar}{j:Nat}{a:Ar}(h:l[j]?=some a):∀ i u,(arL a)[i]?=some u→(flatA l)[j * 6+i]?=some u:=by
  induction l generalizing j with
  | nil=>cases h
  | cons b l ih =>
    intro i u hu
    cases j with
    | zero =>
      simp only[List.getElem?_cons_zero,Option.some.injEq] at h
      subst h
      have hi:i < 6:=(List.getElem?_eq_some_iff.1 hu).1
      match i,hi with
      | 0,_ | 1,_ | 2,_ | 3,_ | 4,_ | 5,_=>exact hu
      | n+6,h=>omega
    | succ j =>
      have:=ih (by simpa using h) i u hu
      rw[show (j+1) * 6+i=j * 6+i+1+1+1+1+1+1 by omega]
      exact this
end Go.Proofs.YtaonpmclkafjdaaGreat
namespace Go.Proofs.YtaonpmclkafjdaaGreat
open Go.RowKit
set_option linter.unusedVariables false
structure Prc where
  ars:List Ar
  sg:List Int
structure UW where
  pr:Nat→Option Prc
  own:Nat→Nat→Option (Nat→Nat)
  fl:Nat→Nat→Nat
def UW.area (W:UW)(n pg:Nat):Option Ar:=match W.pr n with
  | some p=>findA p.ars (pg:Int)
  | none=>none
def fileIx (a:Ar)(pg:Nat):Nat:=16 * a.fl.toNat+a.ofs.toNat+(pg - a.fr.toNat)
def UW.page (W:UW)(n pg:Nat):Nat→Nat:=match W.own n pg with
  | some b=>b
  | none=>match W.area n pg with
    | some a=>if a.kd=1 then fun _=>0 else W.fl (fileIx a pg)
    | none=>fun _=>0
def UW.byte (W:UW)(n x:Nat):Nat:=W.page n (x / 64) (x % 64)
def UW.may (W:UW)(n pg:Nat)(wr:Bool):Prop:=∃ a,W.area n pg=some a∧(wr=true→a.w=true)
def UW.mayAll (W:UW)(n a len:Nat)(wr:Bool):Prop:=∀ x,a≤x→x < a+len→W.may n (x / 64) wr
def bytesU (W:UW)(n a len:Nat):List Nat:=(List.range len).map fun j=>W.byte n (a+j)
def uw0 (fl:Nat→Nat→Nat):UW:=⟨fun _=>none,fun _ _=>none,fl⟩
def spawnU (W:UW)(n:Nat):UW:=⟨upd W.pr n (some ⟨[],[]⟩),W.own,W.fl⟩
def arsU (W:UW)(n:Nat)(l:List Ar):UW:=⟨upd W.pr n ((W.pr n).map fun p=>⟨l,p.sg⟩),W.own,W.fl⟩
def putU (W:UW)(n x y:Nat):UW:=match W.area n (x / 64) with
  | some a=>if a.kd=2 then ⟨W.pr,W.own,fun i j=>if i=fileIx a (x / 64)∧j=x % 64 then y else W.fl i j⟩
    else ⟨W.pr,fun k q=>if k=n∧q=x / 64 then some (fun j=>if j=x % 64 then y else W.page n (x / 64) j) else W.own k q,W.fl⟩
  | none=>W
def storeU (W:UW)(n:Nat):Nat→List Nat→UW
  | _,[]=>W
  | x,y :: l=>storeU (putU W n x y) n (x+1) l
def UW.flB (W:UW)(y:Nat):Nat:=W.fl (y / 64) (y % 64)
def FA (a:Ar)(x:Nat):Nat:=64 * (16 * a.fl.toNat+a.ofs.toNat)+(x - 64 * a.fr.toNat)
def One (W:UW)(n:Nat)(a:Ar):Prop:=∃ p,W.pr n=some p∧p.ars=[a]
def inAr (a:Ar)(x:Nat):Prop:=a.fr≤((x / 64:Nat):Int)∧((x / 64:Nat):Int) < a.fr+a.pg
def Has (W:UW)(n:Nat)(a:Ar):Prop:=∃ p,W.pr n=some p∧∀ q:Nat,a.fr≤(q:Int)→(q:Int) < a.fr+a.pg→findA p.ars (q:Int)=some a
theorem Has.area {W:UW}{n:Nat}{a:Ar}(h:Has W n a){q:Nat}(h1:a.fr≤(q:Int))(h2:(q:Int) < a.fr+a.pg):W.area n q=some a:=by
  obtain⟨p,hp,ha⟩:=h
  unfold UW.area
  rw[hp]
  exact ha q h1 h2
theorem Has.congr {W W':UW}{n:Nat}{a:Ar}(h:Has W n a)(he:W'.pr n=W.pr n):Has W' n a:=by
  obtain⟨p,hp,ha⟩:=h
  exact⟨p,he.trans hp,ha⟩
theorem Has.pr_ne {W:UW}{n:Nat}{a:Ar}(h:Has W n a):W.pr n≠none:=by
  obtain⟨p,hp,ha⟩:=h
  rw[hp]
  simp
theorem One.has {W:UW}{n:Nat}{a:Ar}(h:One W n a):Has W n a:=by
  obtain⟨p,hp,ha⟩:=h
  refine⟨p,hp,fun q h1 h2=>?_⟩
  rw[ha]
  unfold findA
  rw[List.find?_cons_of_pos]
  simp[h1,h2]
instance {W:UW} {n:Nat} {a:Ar}:CoeOut (One W n a) (Has W n a):=⟨One.has⟩
theorem UW.area_congr {W W':UW}{n:Nat}(he:W'.pr n=W.pr n)(q:Nat):W'.area n q=W.area n q:=by
  unfold UW.area
  rw[he]
theorem byte_own {W:UW}{m z:Nat}{f:Nat→Nat}(h:W.own m (z / 64)=some f):W.byte m z=f (z % 64):=by
  unfold UW.byte UW.page
  rw[h]
theorem byte_file {W:UW}{m z:Nat}{c:Ar}(h:W.own m (z / 64)=none)(hc:W.area m (z / 64)=some c)(hk:c.kd≠1)(h0:0≤c.fr)(hf:c.fr≤((z / 64:Nat):Int)):W.byte m z=W.flB (FA c z):=by
  unfold UW.byte UW.page UW.flB
  rw[h,hc]
  simp only[hk,if_false]
  have e1:FA c z / 64=fileIx c (z / 64):=by
    unfold FA fileIx
    omega
  have e2:FA c z % 64=z % 64:=by
    unfold FA
    omega
  rw[e1,e2]
theorem putU_own {W:UW} {n x y:Nat} {a:Ar} (h:Has W n a) (hk:a.kd≠2) (hi:inAr a x) :
    (putU W n x y).pr=W.pr∧(putU W n x y).fl=W.fl∧(∀ m q,(m≠n∨q≠x / 64)→(putU W n x y).own m q=W.own m q)∧(putU W n x y).own n (x / 64)≠none ∧
      ∀ m z,(putU W n x y).byte m z=if m=n∧z=x then y else W.byte m z:=by
  have ha:=h.area hi.1 hi.2
  have e:putU W n x y=⟨W.pr,fun k q=>if k=n∧q=x / 64 then some (fun j=>if j=x % 64 then y else W.page n (x / 64) j) else W.own k q,W.fl⟩:=by
    unfold putU
    rw[ha]
    simp only[hk,if_false]
  rw[e]
  refine⟨rfl,rfl,fun m q hmq=>?_,?_,fun m z=>?_⟩
  · simp only
    rw[if_neg (by rintro⟨r1,r2⟩;rcases hmq with hmq | hmq;exact hmq r1;exact hmq r2)]
  · simp
  · by_cases c:m=n∧z / 64=x / 64
    · obtain⟨rfl,c2⟩:=c
      rw[byte_own (f:=fun j=>if j=x % 64 then y else W.page m (x / 64) j) (by simp[c2])]
      simp only
      by_cases d:z=x
      · subst d
        simp
      · rw[if_neg (by omega),if_neg (by simp[d])]
        unfold UW.byte
        rw[c2]
    · rw[if_neg (by rintro⟨r1,r2⟩;exact c ⟨r1,by rw[r2]⟩)]
      unfold UW.byte UW.page
      simp only[if_neg c]
      rfl
theorem storeU_own {n:Nat}{a:Ar}(hk:a.kd≠2):∀ (b:List Nat) (W:UW) (x:Nat),Has W n a→(∀ j,j < b.length→inAr a (x+j)) →
    (storeU W n x b).pr=W.pr∧(storeU W n x b).fl=W.fl∧(∀ m q,m≠n→(storeU W n x b).own m q=W.own m q)∧(∀ q,W.own n q≠none→(storeU W n x b).own n q≠none)∧(∀ j,j < b.length→(storeU W n x b).own n ((x+j) / 64)≠none) ∧
      (∀ q,(∀ j,j < b.length→q≠(x+j) / 64)→(storeU W n x b).own n q=W.own n q) ∧
      ∀ m z,(storeU W n x b).byte m z=if m=n∧x≤z∧z < x+b.length then b.getD (z - x) 0 else W.byte m z:=by
  intro b
  induction b with
  | nil =>
    intro W x h hi
    refine⟨rfl,rfl,fun _ _ _=>rfl,fun _ h=>h,fun j hj=>absurd hj (Nat.not_lt_zero j),fun _ _=>rfl,fun m z=>?_⟩
    rw[if_neg (by rintro⟨_,r1,r2⟩;simp at r2;omega)]
    rfl
  | cons y l ih =>
    intro W x h hi
    obtain⟨p1,p2,p3,p4,p5⟩:=putU_own (x:=x) (y:=y) h hk (hi 0 (by simp))
    obtain⟨q1,q2,q3,q4,q5,q6,q7⟩:=ih (putU W n x y) (x+1) (h.congr (by rw[p1])) (fun j hj=>by have:=hi (j+1) (by simpa using hj);rwa [show x+1+j=x+(j+1) by omega])
    refine⟨q1.trans p1,q2.trans p2,fun m q hm=>(q3 m q hm).trans (p3 m q (.inl hm)),fun q hq=>q4 q ?_,fun j hj=>?_,fun q hq=>?_,fun m z=>?_⟩
    · by_cases c:q=x / 64
      · rw[c];exact p4
      · rw[p3 n q (.inr c)];exact hq
    · cases j with
      | zero=>exact q4 _ p4
      | succ j=>have:=q5 j (by simpa using hj);rwa [show x+1+j=x+(j+1) by omega] at this
    · refine (q6 q fun j hj=>?_).trans (p3 n q (.inr ?_))
      · have:=hq (j+1) (by simpa using hj);rwa [show x+(j+1)=x+1+j by omega] at this
      · exact hq 0 (by simp)
    · show (storeU (putU W n x y) n (x+1) l).byte m z=_
      rw[q7]
      by_cases c:m=n∧x+1≤z∧z < x+1+l.length
      · rw[if_pos c,if_pos ⟨c.1,by omega,by simp only[List.length_cons];omega⟩,show z - x=(z - (x+1))+1 by omega]
        simp
      · rw[if_neg c,p5]
        by_cases d:m=n∧z=x
        · obtain⟨rfl,rfl⟩:=d
          simp
        · rw[if_neg d,if_neg (by simp only[List.length_cons];rintro⟨r1,r2,r3⟩;exact c ⟨r1,by have:z≠x:=fun e=>d ⟨r1,e⟩;omega,by omega⟩)]
theorem putU_shared {W:UW} {n x y:Nat} {a:Ar} (h:Has W n a) (hk:a.kd=2) (h0:0≤a.fr) (hi:inAr a x) :
    (putU W n x y).pr=W.pr∧(putU W n x y).own=W.own∧∀ z,(putU W n x y).flB z=if z=FA a x then y else W.flB z:=by
  have ha:=h.area hi.1 hi.2
  have e:putU W n x y=⟨W.pr,W.own,fun i j=>if i=fileIx a (x / 64)∧j=x % 64 then y else W.fl i j⟩:=by
    unfold putU
    rw[ha]
    simp only[hk,if_true]
  rw[e]
  refine⟨rfl,rfl,fun z=>?_⟩
  unfold UW.flB
  simp only
  have h1:=hi.1
  by_cases c:z=FA a x
  · rw[if_pos c,if_pos]
    subst c
    unfold FA fileIx
    omega
  · rw[if_neg c,if_neg]
    rintro⟨r1,r2⟩
    apply c
    unfold FA
    unfold fileIx at r1
    omega
theorem storeU_shared {n:Nat}{a:Ar}(hk:a.kd=2)(h0:0≤a.fr):∀ (b:List Nat) (W:UW) (x:Nat),Has W n a→(∀ j,j < b.length→inAr a (x+j)) →
    (storeU W n x b).pr=W.pr∧(storeU W n x b).own=W.own∧∀ z,(storeU W n x b).flB z=if FA a x≤z∧z < FA a x+b.length then b.getD (z - FA a x) 0 else W.flB z:=by
  intro b
  induction b with
  | nil =>
    intro W x h hi
    refine⟨rfl,rfl,fun z=>?_⟩
    rw[if_neg (by rintro⟨r1,r2⟩;simp at r2;omega)]
    rfl
  | cons y l ih =>
    intro W x h hi
    have h1:=(hi 0 (by simp)).1
    rw[Nat.add_zero] at h1
    have hx:FA a (x+1)=FA a x+1:=by unfold FA;omega
    obtain⟨p1,p2,p3⟩:=putU_shared (x:=x) (y:=y) h hk h0 (hi 0 (by simp))
    obtain⟨q1,q2,q3⟩:=ih (putU W n x y) (x+1) (h.congr (by rw[p1])) (fun j hj=>by have:=hi (j+1) (by simpa using hj);rwa [show x+1+j=x+(j+1) by omega])
    refine⟨q1.trans p1,q2.trans p2,fun z=>?_⟩
    show (storeU (putU W n x y) n (x+1) l).flB z=_
    rw[q3,hx]
    by_cases c:FA a x+1≤z∧z < FA a x+1+l.length
    · rw[if_pos c,if_pos ⟨by omega,by simp only[List.length_cons];omega⟩,show z - FA a x=(z - (FA a x+1))+1 by omega]
      simp
    · rw[if_neg c,p3]
      by_cases d:z=FA a x
      · subst d
        simp
      · rw[if_neg d,if_neg (by simp only[List.length_cons];omega)]
theorem bytesU_length (W:UW)(n a len:Nat):(bytesU W n a len).length=len:=by simp[bytesU]
theorem bytesU_eq {W:UW}{n a:Nat}{b:List Nat}(h:∀ j,j < b.length→W.byte n (a+j)=b.getD j 0):bytesU W n a b.length=b:=by
  refine List.ext_getElem (bytesU_length _ _ _ _) fun j h1 h2=>?_
  simp only[bytesU,List.getElem_map,List.getElem_range]
  rw[h j h2]
  simp[h2]
theorem mayAll_one {W:UW}{n x len:Nat}{a:Ar}{wr:Bool}(h:Has W n a)(hw:wr=true→a.w=true)(hi:∀ j,j < len→inAr a (x+j)):W.mayAll n x len wr:=by
  intro z h1 h2
  obtain⟨j,rfl⟩:=Nat.exists_eq_add_of_le h1
  have:=hi j (by omega)
  exact⟨a,h.area this.1 this.2,hw⟩
theorem stored {W:UW} {n x:Nat} {b:List Nat} {a:Ar} (h:Has W n a) (h0:0≤a.fr) (ho:a.kd=2→∀ q,W.own n q=none) (hi:∀ j,j < b.length→inAr a (x+j)) :
    (storeU W n x b).pr=W.pr∧bytesU (storeU W n x b) n x b.length=b:=by
  by_cases hk:a.kd=2
  · obtain⟨s1,s2,s3⟩:=storeU_shared hk h0 b W x h hi
    refine⟨s1,bytesU_eq fun j hj=>?_⟩
    have hij:=hi j hj
    rw[byte_file (c:=a) (by rw[s2];exact ho hk _) ((UW.area_congr (by rw[s1]) _).trans (h.area hij.1 hij.2)) (by omega) h0 hij.1,s3]
    have h1:=(hi 0 (by omega)).1
    rw[Nat.add_zero] at h1
    have e:FA a (x+j)=FA a x+j:=by unfold FA;omega
    rw[e,if_pos ⟨by omega,by omega⟩,Nat.add_sub_cancel_left]
  · obtain⟨s1,s2,s3,s4,s5,s6,s7⟩:=storeU_own hk b W x h hi
    refine⟨s1,bytesU_eq fun j hj=>?_⟩
    rw[s7,if_pos ⟨rfl,by omega,by omega⟩,Nat.add_sub_cancel_left]
end Go.Proofs.YtaonpmclkafjdaaGreat
namespace Go.Proofs.YtaonpmclkafjdaaGreat
set_option linter.unusedVariables false
def meetA (f p:Int)(a:Ar):Bool:=decide (maxI f a.fr < minI (f+p) (a.fr+a.pg))
theorem piece_meet (a:Ar)(f p:Int):pieceA a f (f+p)=if meetA f p a then [⟨maxI f a.fr,minI (f+p) (a.fr+a.pg) - maxI f a.fr,a.w,a.kd,a.fl,if a.kd=1 then a.ofs else a.ofs+maxI f a.fr - a.fr⟩] else []:=by
  unfold pieceA meetA
  by_cases c:maxI f a.fr < minI (f+p) (a.fr+a.pg)
  · rw[if_neg (by omega),if_pos (decide_eq_true c)]
  · rw[if_pos (by omega),if_neg (by simpa using c)]
theorem pieceA_nil {a:Ar}{f e:Int}(h:e≤a.fr∨a.fr+a.pg≤f):pieceA a f e=[]:=by
  unfold pieceA
  refine if_pos ?_
  unfold minI maxI
  split <;> split <;> omega
theorem pieceA_none {a:Ar}{f e:Int}(h:pieceA a f e=[])(he:f < e)(hp:1≤a.pg):e≤a.fr∨a.fr+a.pg≤f:=by
  unfold pieceA at h
  split at h
  · rename_i c
    unfold minI maxI at c
    split at c <;> split at c <;> omega
  · cases h
theorem piece_all {a:Ar}{f e:Int}(h1:f≤a.fr)(h2:a.fr+a.pg≤e)(hp:1≤a.pg):pieceA a f e=[a]:=by
  have e1:maxI f a.fr=a.fr:=by unfold maxI;split <;> omega
  have e2:minI e (a.fr+a.pg)=a.fr+a.pg:=by unfold minI;split <;> omega
  unfold pieceA
  rw[e1,e2,if_neg (by omega)]
  obtain⟨fr,pg,w,kd,fl,ofs⟩:=a
  simp only[List.cons.injEq,Ar.mk.injEq,and_true,true_and]
  refine⟨by omega,?_⟩
  split <;> omega
theorem inA_cons (a:Ar)(l:List Ar)(f p:Int):inA (a :: l) f p=pieceA a f (f+p) ++ inA l f p:=rfl
theorem inA_none {l:List Ar}{f p:Int}(h:∀ x∈l,f+p≤x.fr∨x.fr+x.pg≤f):inA l f p=[]:=by
  induction l with
  | nil=>rfl
  | cons a l ih=>rw[inA_cons,pieceA_nil (h a List.mem_cons_self),ih fun x hx=>h x (List.mem_cons_of_mem _ hx)];rfl
theorem inA_all {l:List Ar}{f p:Int}(h:∀ x∈l,f≤x.fr∧x.fr+x.pg≤f+p∧1≤x.pg):inA l f p=l:=by
  induction l with
  | nil=>rfl
  | cons a l ih =>
    obtain⟨h1,h2,h3⟩:=h a List.mem_cons_self
    rw[inA_cons,piece_all h1 h2 h3,ih fun x hx=>h x (List.mem_cons_of_mem _ hx)]
    rfl
theorem posA_mid (X B:List Ar)(f:Int)(hX:∀ x∈X,x.fr < f)(hB:∀ x∈B,¬ x.fr < f):posA (X ++ B) f=X.length:=by
  induction X with
  | nil =>
    cases B with
    | nil=>rfl
    | cons b B=>show posA (b :: B) f=0;unfold posA;rw[if_neg (hB b List.mem_cons_self)]
  | cons x X ih =>
    show posA (x :: (X ++ B)) f=_
    unfold posA
    rw[if_pos (hX x List.mem_cons_self),ih fun y hy=>hX y (List.mem_cons_of_mem _ hy)]
    rfl
theorem ins_mid (X B:List Ar)(a:Ar)(hX:∀ x∈X,x.fr < a.fr)(hB:∀ x∈B,¬ x.fr < a.fr):insA (X ++ B) a=X ++ [a] ++ B:=by
  unfold insA
  rw[posA_mid X B a.fr hX hB,List.take_left,List.drop_left]
theorem ins_eq {l:List Ar}(hl:listA l)(a:Ar)(hp:1≤a.pg)(hn:inA l a.fr a.pg=[]):insA l a=inA l 0 a.fr ++ [a] ++ inA l (a.fr+a.pg) (4096 - (a.fr+a.pg)):=by
  have hmid:∃ X B,l=X ++ B∧(∀ x∈X,x.fr+x.pg≤a.fr)∧∀ x∈B,a.fr+a.pg≤x.fr:=by
    induction l with
    | nil=>exact⟨[],[],rfl,fun x h=>absurd h List.not_mem_nil,fun x h=>absurd h List.not_mem_nil⟩
    | cons x l ih =>
      have hl':listA l:=⟨fun y hy=>hl.1 y (List.mem_cons_of_mem _ hy),(List.pairwise_cons.1 hl.2).2⟩
      have hb:=(List.pairwise_cons.1 hl.2).1
      have hs:=(hl.1 x List.mem_cons_self).1
      rw[inA_cons] at hn
      obtain⟨n1,n2⟩:=List.append_eq_nil_iff.1 hn
      rcases pieceA_none n1 (by omega) hs.2.2.2.1 with h | h
      · refine⟨[],x :: l,rfl,fun y hy=>absurd hy List.not_mem_nil,fun y hy=>?_⟩
        rcases List.mem_cons.1 hy with rfl | hy
        · exact h
        · have:=hb y hy;omega
      · obtain⟨X,B,rfl,h1,h2⟩:=ih hl' n2
        refine⟨x :: X,B,rfl,fun y hy=>?_,h2⟩
        rcases List.mem_cons.1 hy with rfl | hy
        · exact h
        · exact h1 y hy
  obtain⟨X,B,rfl,h1,h2⟩:=hmid
  have hs:=fun x hx=>(hl.1 x hx).1
  have hX:∀ x∈X,x∈X ++ B:=fun x hx=>List.mem_append.2 (.inl hx)
  have hB:∀ x∈B,x∈X ++ B:=fun x hx=>List.mem_append.2 (.inr hx)
  have ap:∀ f p,inA (X ++ B) f p=inA X f p ++ inA B f p:=fun f p=>by unfold inA;rw[List.flatMap_append]
  rw[ins_mid X B a (fun x hx=>by have:=h1 x hx;have:=hs x (hX x hx);omega) (fun x hx=>by have:=h2 x hx;omega),ap,ap,
    inA_all (l:=X) (fun x hx=>by have:=h1 x hx;have:=hs x (hX x hx);omega),
    inA_none (l:=B) (f:=0) (fun x hx=>.inl (by have:=h2 x hx;omega)),
    inA_none (l:=X) (fun x hx=>.inr (by have:=h1 x hx;omega)),
    inA_all (l:=B) (fun x hx=>by have:=h2 x hx;have:=hs x (hB x hx);omega),List.append_nil,List.nil_append]
theorem meet_any (l:List Ar)(f p:Int):(∃ x∈l,meetA f p x=true)↔inA l f p≠[]:=by
  induction l with
  | nil=>exact⟨fun ⟨x,h,_⟩=>absurd h List.not_mem_nil,fun h=>absurd rfl h⟩
  | cons a l ih =>
    rw[inA_cons,piece_meet]
    cases hm:meetA f p a with
    | true=>exact⟨fun _=>by simp,fun _=>⟨a,List.mem_cons_self,hm⟩⟩
    | false =>
      rw[if_neg (by simp),List.nil_append,← ih]
      refine⟨fun ⟨x,hx,hx2⟩=>?_,fun ⟨x,hx,hx2⟩=>⟨x,List.mem_cons_of_mem _ hx,hx2⟩⟩
      rcases List.mem_cons.1 hx with rfl | hx
      · rw[hm] at hx2;cases hx2
      · exact⟨x,hx,hx2⟩
theorem meet_one {a:Ar}(h:1≤a.pg)(q:Int):meetA q 1 a=decide (a.fr≤q∧q < a.fr+a.pg):=by
  unfold meetA maxI minI
  refine decide_eq_decide.2 ?_
  split <;> split <;> omega
end Go.Proofs.YtaonpmclkafjdaaGreat
namespace Go.Proofs.YtaonpmclkafjdaaGreat
open Go.RowKit
set_option linter.unusedVariables false
def hasA (a:Ar)(q:Int):Prop:=a.fr≤q∧q < a.fr+a.pg
theorem piece_has {a:Ar}{s e q:Int}(h:hasA a q)(hs:s≤q)(he:q < e):∃ x∈pieceA a s e,hasA x q:=by
  obtain⟨h1,h2⟩:=h
  unfold pieceA
  rw[if_neg (by unfold maxI minI;split <;> split <;> omega)]
  refine⟨_,List.mem_singleton.2 rfl,?_⟩
  unfold hasA maxI minI
  simp only
  constructor
  · split <;> omega
  · split <;> split <;> omega
theorem mem_outA {l:List Ar}{f p:Int}{x:Ar}:x∈outA l f p↔∃ a∈l,x∈pieceA a 0 f∨x∈pieceA a (f+p) 4096:=by
  unfold outA
  simp only[List.mem_flatMap,List.mem_append]
theorem mem_inA {l:List Ar}{f p:Int}{x:Ar}:x∈inA l f p↔∃ a∈l,x∈pieceA a f (f+p):=by
  unfold inA
  simp only[List.mem_flatMap]
theorem findA_iff {l:List Ar}{q:Int}(h:listA l){a:Ar}:findA l q=some a↔a∈l∧hasA a q:=by
  unfold findA
  constructor
  · intro e
    exact⟨List.mem_of_find?_eq_some e,by have:=List.find?_some e;unfold hasA;simpa using this⟩
  · rintro⟨hm,hq⟩
    cases e:l.find? (fun a=>decide (a.fr≤q∧q < a.fr+a.pg)) with
    | none =>
      have:=List.find?_eq_none.1 e a hm
      unfold hasA at hq
      simp[hq] at this
    | some b =>
      have hb:=List.mem_of_find?_eq_some e
      have hbq:b.fr≤q∧q < b.fr+b.pg:=by simpa using List.find?_some e
      obtain⟨i,hi,rfl⟩:=List.getElem_of_mem hm
      obtain⟨j,hj,rfl⟩:=List.getElem_of_mem hb
      have hp:=List.pairwise_iff_getElem.1 h.2
      unfold hasA at hq
      rcases Nat.lt_trichotomy i j with c | c | c
      · have:=hp i j hi hj c;omega
      · subst c;rfl
      · have:=hp j i hj hi c;omega
theorem mem_insA {l:List Ar}{a x:Ar}:x∈insA l a↔x=a∨x∈l:=by
  unfold insA
  rw[List.mem_append,List.mem_append,List.mem_singleton]
  have:=List.take_append_drop (posA l a.fr) l
  constructor
  · rintro ((h | h) | h)
    · exact .inr (List.mem_of_mem_take h)
    · exact .inl h
    · exact .inr (List.mem_of_mem_drop h)
  · rintro (h | h)
    · exact .inl (.inr h)
    · rw[← this] at h
      rcases List.mem_append.1 h with h | h
      · exact .inl (.inl h)
      · exact .inr h
def apartA (a b:Ar):Prop:=a.fr+a.pg≤b.fr∨b.fr+b.pg≤a.fr
theorem insA_list {l:List Ar}{a:Ar}(h:listA l)(ha:soundA a)(hd:∀ x∈l,apartA x a):listA (insA l a):=by
  refine⟨fun x hx=>?_,?_⟩
  · rcases mem_insA.1 hx with rfl | hx
    · exact ha
    · exact h.1 x hx
  · have e:=List.take_append_drop (posA l a.fr) l
    have hp:=h.2
    rw[← e] at hp
    obtain⟨p1,p2,p3⟩:=List.pairwise_append.1 hp
    have ha1:=ha.1.2.2.2.1
    have hlt:∀ x∈l.take (posA l a.fr),x.fr+x.pg≤a.fr:=fun x hx=>by
      obtain⟨i,hi,rfl⟩:=List.getElem_of_mem hx
      have hi':i < posA l a.fr:=by rw[List.length_take] at hi;omega
      obtain⟨y,h1,h2⟩:=posA_lt hi'
      have:(l.take (posA l a.fr))[i]?=some y:=by rw[List.getElem?_take_of_lt hi',h1]
      rw[List.getElem?_eq_getElem hi] at this
      injection this with this
      rw[this]
      rcases hd y (List.mem_of_getElem? h1) with c | c
      · exact c
      · omega
    have hge:∀ x∈l.drop (posA l a.fr),a.fr+a.pg≤x.fr:=fun x hx=>by
      have key:∀ m,l.drop (posA l a.fr)=m→∀ x∈m,a.fr≤x.fr:=by
        intro m hm
        cases m with
        | nil=>intro x hx;cases hx
        | cons y t =>
          have hy:l[posA l a.fr]?=some y:=by
            have:=List.getElem?_drop (xs:=l) (i:=posA l a.fr) (j:=0)
            rw[hm] at this
            simpa using this.symm
          have h1:=posA_at hy
          rw[hm] at p2
          intro x hx
          rcases List.mem_cons.1 hx with rfl | hx
          · omega
          · have:=(List.pairwise_cons.1 p2).1 x hx
            have:=(h.1 y (List.mem_of_getElem? hy)).1.2.2.2.1
            omega
      have h1:=key _ rfl x hx
      have hxs:=h.1 x (List.mem_of_mem_drop hx)
      rcases hd x (List.mem_of_mem_drop hx) with c | c
      · have:=hxs.1.2.2.2.1;omega
      · exact c
    unfold insA
    refine List.pairwise_append.2 ⟨List.pairwise_append.2 ⟨p1,List.pairwise_singleton _ _,fun x hx y hy=>?_⟩,p2,fun x hx y hy=>?_⟩
    · rw[List.mem_singleton.1 hy];exact hlt x hx
    · rcases List.mem_append.1 hx with hx | hx
      · exact p3 x hx y hy
      · rw[List.mem_singleton.1 hx];exact hge y hy
end Go.Proofs.YtaonpmclkafjdaaGreat

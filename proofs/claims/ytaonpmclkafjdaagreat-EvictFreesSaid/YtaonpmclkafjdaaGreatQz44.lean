/-
  A space in memory: what it names, its processes, each part with the blocks that its work turns.
  take and leave: a place has, or does not have, what an entry names.
  A space's processes, one by one: the look-up, the tree, what waits, the areas.
  Conditions: those that each line bears.
-/
import Derived.Test.YtaonpmclkafjdaaGreatQz01
import Derived.Test.YtaonpmclkafjdaaGreatQz04
import Derived.Test.YtaonpmclkafjdaaGreatQz09
import Derived.Test.YtaonpmclkafjdaaGreatQz19
import Derived.Test.YtaonpmclkafjdaaGreatQz22
import Derived.Test.YtaonpmclkafjdaaGreatQz29
import Derived.Test.YtaonpmclkafjdaaGreatQz34
import Derived.Test.YtaonpmclkafjdaaGreatQz37
import Derived.Test.YtaonpmclkafjdaaGreatQz30
import Derived.Test.YtaonpmclkafjdaaGreatQz43
import Derived.Test.YtaonpmclkafjdaaGreatQz14
import Derived.StillTailTactics
set_option linter.unusedSimpArgs false
set_option linter.unusedSectionVars false
set_option linter.unusedVariables false
namespace Go.Proofs.YtaonpmclkafjdaaGreat
open Go.RowKit
set_option linter.unusedVariables false
structure SpX where
  t:TS
  a:List Ar
  q:List Pl
structure SpM where
  F:Nat→List Nat
  bad:Nat→Bool
  S:Nat→List Nat
  L:Nat→Option (List Nat)
  T:Tr
  p:PS
  b:BS
  c:CS
  s:SS
  x:Nat→Option SpX
structure SpA where
  R:Nat
  F:Nat
  D:Nat
  D1:Nat
  D2:Nat
  P:Nat
  B:Nat
  C:Nat
  S:Nat
structure SpK where
  M:Option Nat
  X:Nat→Nat
  T:Nat→Nat
  Q:Nat→Nat
  v:Nat→Value
inductive Prt where
  | R | D | P | B | C | S | top
  | tr (n:Nat)
  | qu (n:Nat)
  | ar (n:Nat)
def ptrL (x:Nat→Option SpX)(X:Nat→Nat)(z:Int):Option Value:=if 0≤z∧(x z.toNat).isSome then some (.pointer (some ⟨X z.toNat,0,none⟩)) else none
def InK (Ki:Nat→Prop)(v:Value):Prop:=∀ a n c,v=.slice (some a) n c→Ki a.block
def PartOk (w:World)(gS:Nat)(a:SpA)(k:SpK)(m:SpM)(Ki:Nat→Prop):Prt→Prop
  | .R=>Mem w a.R a.F 1024 m.F m.bad∧∀ j,Ki j↔j=a.R∨j=a.F
  | .D=>Dsk w a.D a.D1 a.D2 192 m.S m.L m.T∧∀ j,Ki j↔dk a.D a.D1 a.D2 j
  | .P=>PoolMem w a.P Ki m.p
  | .B=>BackMem w a.B Ki m.b
  | .C=>CacMem w a.C Ki m.c
  | .S=>SwpMem w a.S Ki m.s
  | .top=>Blk w gS 44 #[.pointer (some ⟨a.R,0,none⟩),.pointer (some ⟨a.D,0,none⟩),.pointer (some ⟨a.P,0,none⟩),.pointer (some ⟨a.B,0,none⟩),.pointer (some ⟨a.C,0,none⟩),.pointer (some ⟨a.S,0,none⟩),.map k.M] ∧
      (∀ j,Ki j↔j=gS∨k.M=some j)∧(k.M=none→∀ n,m.x n=none)∧∀ g,k.M=some g→∃ c,MapK EI w g c (ptrL m.x k.X)
  | .tr n=>∀ y,m.x n=some y→TreeMem w (k.T n) Ki a.R a.P m.F y.t
  | .qu n=>∀ y,m.x n=some y→SigMem w (k.Q n) Ki 16 y.q
  | .ar n=>∀ y,m.x n=some y→Blk w (k.X n) 94 #[.pointer (some ⟨k.T n,0,none⟩),k.v n,.pointer (some ⟨k.Q n,0,none⟩)]∧Ki (k.X n)∧Ars w w.heap.size (k.v n) y.a∧InK Ki (k.v n)
structure SpIn (w:World)(gS:Nat)(a:SpA)(k:SpK)(κ:Prt→Nat→Prop)(m:SpM):Prop where
  lt:∀ i j,κ i j→j < w.heap.size
  dis:∀ i i' j,κ i j→κ i' j→i=i'
  x8:∀ n y,m.x n=some y→n < 8
  ok:∀ i,PartOk w gS a k m (κ i) i
def SpMem (w:World)(gS:Nat)(a:SpA)(k:SpK)(K:Nat→Prop)(m:SpM):Prop:=∃ κ,K=(fun j=>∃ i,κ i j)∧SpIn w gS a k κ m
theorem heap_cell {w w':World}{p:Addr}(h:w'.heap[p.block]?=w.heap[p.block]?):w'.cell? p=w.cell? p:=by
  unfold World.cell?
  rw[h]
theorem Gs.kept {α:Type}{f:α→List Value}{k:Nat}{w w':World}{B:Nat}{v:Value}{ps:List α}{Ki:Nat→Prop}(h:Gs f k w B v ps)(hin:InK Ki v)(hk:∀ j,Ki j→w'.heap[j]?=w.heap[j]?):Gs f k w' B v ps:=by
  obtain⟨A,n,c,h1,h2,h3,h4,h5,h7⟩:=h
  refine⟨A,n,c,h1,h2,h3,h4,h5,fun h0=>?_⟩
  obtain⟨b,o,e,hb,hc⟩:=h7 h0
  exact⟨b,o,e,hb,fun j p hj i u hu=>(heap_cell (hk b (hin _ n c (by rw[h1,e])))).trans (hc j p hj i u hu)⟩
section
variable {w w':World}{gS:Nat}{a:SpA}{k k':SpK}{κ:Prt→Nat→Prop}{m m':SpM}{Ki:Nat→Prop}{i:Prt}
theorem PartOk.far (h:PartOk w gS a k m Ki i)(hs:w.heap.size≤w'.heap.size)(hk:∀ j,Ki j→w'.heap[j]?=w.heap[j]?):PartOk w' gS a k m Ki i:=by
  cases i with
  | R=>exact⟨h.1.far (hk _ ((h.2 _).2 (.inl rfl))) (hk _ ((h.2 _).2 (.inr rfl))),h.2⟩
  | D=>exact⟨h.1.far (hk _ ((h.2 _).2 (.inl rfl))) (hk _ ((h.2 _).2 (.inr (.inl rfl)))) (hk _ ((h.2 _).2 (.inr (.inr rfl)))),h.2⟩
  | P=>exact PoolMem.far h hk
  | B=>exact BackMem.far h hk
  | C=>exact CacMem.far h hk
  | S=>exact SwpMem.far h hk
  | top =>
    obtain⟨h1,h2,h3,h4⟩:=h
    refine⟨(hk _ ((h2 _).2 (.inl rfl))).trans h1,h2,h3,fun g hg=>?_⟩
    obtain⟨c,h5⟩:=h4 g hg
    exact⟨c,h5.far (hk _ ((h2 _).2 (.inr hg)))⟩
  | tr n=>exact fun y hy=>(h y hy).far hk
  | qu n=>exact fun y hy=>(h y hy).far hk
  | ar n =>
    intro y hy
    obtain⟨h1,h2,h3,h4⟩:=h y hy
    exact⟨(hk _ h2).trans h1,h2,(h3.kept h4 hk).more hs,h4⟩
def updI (κ:Prt→Nat→Prop)(I:Prt→Prop)(κn:Prt→Nat→Prop):Prt→Nat→Prop:=fun i j=>(I i∧κn i j)∨(¬ I i∧κ i j)
theorem updI_in {I:Prt→Prop}{κn:Prt→Nat→Prop}(h:I i):updI κ I κn i=κn i:=funext fun j=>propext ⟨fun h'=>h'.elim (fun h'=>h'.2) (fun h'=>absurd h h'.1),fun h'=>.inl ⟨h,h'⟩⟩
theorem updI_out {I:Prt→Prop}{κn:Prt→Nat→Prop}(h:¬ I i):updI κ I κn i=κ i:=funext fun j=>propext ⟨fun h'=>h'.elim (fun h'=>absurd h'.1 h) (fun h'=>h'.2),fun h'=>.inr ⟨h,h'⟩⟩
theorem SpIn.step (h:SpIn w gS a k κ m) (I:Prt→Prop) (κn:Prt→Nat→Prop) (t:Turns (fun j=>∃ i,I i∧κ i j) w w')
    (hnew:∀ i j,I i→κn i j→κ i j∨w.heap.size≤j) (hlt:∀ i j,I i→κn i j→j < w'.heap.size) (hdis:∀ i i' j,I i→I i'→κn i j→κn i' j→i=i')
    (x8:∀ n y,m'.x n=some y→n < 8)
    (hok:∀ i,¬ I i→PartOk w' gS a k m (κ i) i→PartOk w' gS a k' m' (κ i) i) (hown:∀ i,I i→PartOk w' gS a k' m' (κn i) i):SpIn w' gS a k' (updI κ I κn) m':=by
  refine⟨fun i j hj=>?_,fun i i' j h1 h2=>?_,x8,fun i=>?_⟩
  · rcases hj with ⟨h1,h2⟩ | ⟨h1,h2⟩
    · exact hlt i j h1 h2
    · exact Nat.lt_of_lt_of_le (h.lt i j h2) t.size
  · rcases h1 with ⟨a1,a2⟩ | ⟨a1,a2⟩
    · rcases h2 with ⟨b1,b2⟩ | ⟨b1,b2⟩
      · exact hdis i i' j a1 b1 a2 b2
      · rcases hnew i j a1 a2 with c | c
        · exact h.dis i i' j c b2
        · exact absurd (h.lt i' j b2) (by omega)
    · rcases h2 with ⟨b1,b2⟩ | ⟨b1,b2⟩
      · rcases hnew i' j b1 b2 with c | c
        · exact h.dis i i' j a2 c
        · exact absurd (h.lt i j a2) (by omega)
      · exact h.dis i i' j a2 b2
  · by_cases c:I i
    · rw[updI_in c]
      exact hown i c
    · rw[updI_out c]
      exact hok i c ((h.ok i).far t.size fun j hj=>t.block j (h.lt i j hj) fun ⟨i',c1,c2⟩=>c (h.dis i' i j c2 hj ▸ c1))
end
structure Went (w:World)(K:Nat→Prop)(w':World)(K':Nat→Prop):Prop where
  nk:NewK w K K'
  tr:Turns K w w'
section
variable {w w' w'':World}{K K' K'':Nat→Prop}
theorem Went.refl (w:World)(K:Nat→Prop):Went w K w K:=⟨fun k hk=>.inl hk,Turns.refl _ _⟩
theorem Went.trans (h:Went w K w' K')(g:Went w' K' w'' K''):Went w K w'' K'':=by
  refine⟨fun k hk=>?_,⟨g.tr.os.trans h.tr.os,g.tr.tape.trans h.tr.tape,g.tr.output.trans h.tr.output,Nat.le_trans h.tr.size g.tr.size,fun k hk hn=>?_⟩⟩
  · rcases g.nk k hk with c | c
    · exact h.nk k c
    · exact .inr (Nat.le_trans h.tr.size c)
  · exact (g.tr.block k (Nat.lt_of_lt_of_le hk h.tr.size) fun hk'=>(h.nk k hk').elim hn (fun c=>by omega)).trans (h.tr.block k hk hn)
theorem Went.below (h:Went w K w' K')(hb:Below w'.heap.size w' w''):Went w K w'' K':=h.trans ⟨fun k hk=>.inl hk,Turns.of_below hb (Nat.le_refl _)⟩
theorem Went.of_below (hb:Below w.heap.size w w'):Went w K w' K:=(Went.refl w K).below hb
end
def SpGo (w:World)(gS:Nat)(a:SpA)(k:SpK)(K:Nat→Prop)(m':SpM)(w':World):Prop:=∃ K',SpMem w' gS a k K' m'∧Went w K w' K'
def SpEnd (w:World)(gS:Nat)(a:SpA)(k:SpK)(K:Nat→Prop)(v:Value)(m':SpM)(e:Ending)(w':World):Prop:=e=.returned v∧SpGo w gS a k K m' w'
section
variable {w w':World}{gS:Nat}{a:SpA}{k:SpK}{K:Nat→Prop}{m m':SpM}
theorem SpMem.far (h:SpMem w gS a k K m)(hs:w.heap.size≤w'.heap.size)(hk:∀ j,K j→w'.heap[j]?=w.heap[j]?):SpMem w' gS a k K m:=by
  obtain⟨κ,rfl,h⟩:=h
  exact⟨κ,rfl,fun i j hj=>Nat.lt_of_lt_of_le (h.lt i j hj) hs,h.dis,h.x8,fun i=>(h.ok i).far hs fun j hj=>hk j ⟨i,hj⟩⟩
theorem SpMem.lt (h:SpMem w gS a k K m):∀ j,K j→j < w.heap.size:=by
  obtain⟨κ,rfl,h⟩:=h
  rintro j ⟨i,hj⟩
  exact h.lt i j hj
theorem SpMem.fresh (h:SpMem w gS a k K m)(hb:Below w.heap.size w w'):SpMem w' gS a k K m:=h.far hb.size fun k hk=>hb.block k (h.lt k hk)
theorem SpMem.only (h:SpMem w gS a k K m){g:Nat}(ho:Only g w w')(hg:¬ K g):SpMem w' gS a k K m:=h.far (Nat.le_of_eq ho.2.symm) fun k hk=>ho.1.block k (h.lt k hk) (fun e=>hg (by injection e with e;exact e ▸ hk))
theorem SpMem.x8 (h:SpMem w gS a k K m):∀ n y,m.x n=some y→n < 8:=by
  obtain⟨κ,rfl,h⟩:=h
  exact h.x8
theorem SpIn.one {k':SpK} {κ:Prt→Nat→Prop} (h:SpIn w gS a k κ m) (i:Prt) (Ki:Nat→Prop) (t:Turns (κ i) w w') (hnew:∀ j,Ki j→κ i j∨w.heap.size≤j) (hlt:∀ j,Ki j→j < w'.heap.size)
    (x8:∀ n y,m'.x n=some y→n < 8) (hok:∀ j,j≠i→PartOk w' gS a k m (κ j) j→PartOk w' gS a k' m' (κ j) j) (hown:PartOk w' gS a k' m' Ki i):SpGo w gS a k' (fun j=>∃ i,κ i j) m' w':=by
  have hs:=h.step (w':=w') (m':=m') (k':=k') (fun j=>j=i) (fun _=>Ki) (t.mono fun j hj=>⟨i,rfl,hj⟩) (by rintro _ j rfl hj;exact hnew j hj) (by rintro _ j rfl hj;exact hlt j hj) (by rintro _ _ j rfl rfl _ _;rfl) x8 hok (by rintro _ rfl;exact hown)
  refine⟨_,⟨_,rfl,hs⟩,fun j hj=>?_,t.mono fun j hj=>⟨i,hj⟩⟩
  obtain⟨i',⟨rfl,h2⟩ | ⟨_,h2⟩⟩:=hj
  · rcases hnew j h2 with c | c
    · exact .inl ⟨_,c⟩
    · exact .inr c
  · exact .inl ⟨i',h2⟩
end
theorem SpMem.drew {w:World}{gS:Nat}{a:SpA}{k:SpK}{K:Nat→Prop}{m:SpM}(h:SpMem w gS a k K m):SpMem w.drew gS a k K m:=h.far (Nat.le_refl _) fun _ _=>rfl
theorem SpGo.from_ {w w1 w2:World}{gS:Nat}{a:SpA}{k:SpK}{K K1:Nat→Prop}{m:SpM}(hw:Went w K w1 K1)(h:SpGo w1 gS a k K1 m w2):SpGo w gS a k K m w2:=by
  obtain⟨K',h1,h2⟩:=h
  exact⟨K',h1,hw.trans h2⟩
theorem Went.drew {w w':World}{K K':Nat→Prop}(h:Went w K w' K'):Went w K w'.drew K':=⟨h.nk,h.tr.drew⟩
theorem SpGo.below {w w1 w2:World}{gS:Nat}{a:SpA}{k:SpK}{K:Nat→Prop}{m:SpM}(h:SpGo w gS a k K m w1)(hb:Below w1.heap.size w1 w2):SpGo w gS a k K m w2:=by
  obtain⟨K',h1,h2⟩:=h
  exact⟨K',h1.fresh hb,h2.below hb⟩
section
variable {w:World}{gS:Nat}{a:SpA}{k:SpK}{K:Nat→Prop}{m:SpM}
def SpM.setP (m:SpM)(p:PS):SpM:=⟨m.F,m.bad,m.S,m.L,m.T,p,m.b,m.c,m.s,m.x⟩
def SpM.setB (m:SpM)(b:BS):SpM:=⟨m.F,m.bad,m.S,m.L,m.T,m.p,b,m.c,m.s,m.x⟩
def SpM.setC (m:SpM)(c:CS):SpM:=⟨m.F,m.bad,m.S,m.L,m.T,m.p,m.b,c,m.s,m.x⟩
def SpM.setS (m:SpM)(s:SS):SpM:=⟨m.F,m.bad,m.S,m.L,m.T,m.p,m.b,m.c,s,m.x⟩
def SpM.setD (m:SpM)(L:Nat→Option (List Nat))(T:Tr):SpM:=⟨m.F,m.bad,m.S,L,T,m.p,m.b,m.c,m.s,m.x⟩
def SpM.setF (m:SpM)(F:Nat→List Nat):SpM:=⟨F,m.bad,m.S,m.L,m.T,m.p,m.b,m.c,m.s,m.x⟩
def SpM.setX (m:SpM)(n:Nat)(y:Option SpX):SpM:=⟨m.F,m.bad,m.S,m.L,m.T,m.p,m.b,m.c,m.s,upd m.x n y⟩
def Lifts (w:World)(gS:Nat)(a:SpA)(k:SpK)(K:Nat→Prop)(Ki:Nat→Prop)(Ok:World→(Nat→Prop)→Prop)(m':SpM):Prop :=
  ∀ w' Kj,Ok w' Kj→(∀ j,Kj j→Ki j∨w.heap.size≤j)→Turns Ki w w'→SpGo w gS a k K m' w'
theorem SpMem.poolP (h:SpMem w gS a k K m):∃ Ki,PoolMem w a.P Ki m.p∧(∀ j,Ki j→K j)∧∀ p',Lifts w gS a k K Ki (fun w' Kj=>PoolMem w' a.P Kj p') (m.setP p'):=by
  obtain⟨κ,rfl,h⟩:=h
  refine⟨κ .P,h.ok .P,fun j hj=>⟨.P,hj⟩,fun p' w' Kj h1 h2 h3=>h.one (k':=k) .P Kj h3 h2 h1.lt h.x8 (fun j hj hp=>?_) h1⟩
  cases j <;> first | exact hp | exact absurd rfl hj
theorem SpMem.backP (h:SpMem w gS a k K m):∃ Ki,BackMem w a.B Ki m.b∧(∀ j,Ki j→K j)∧∀ b',Lifts w gS a k K Ki (fun w' Kj=>BackMem w' a.B Kj b') (m.setB b'):=by
  obtain⟨κ,rfl,h⟩:=h
  refine⟨κ .B,h.ok .B,fun j hj=>⟨.B,hj⟩,fun p' w' Kj h1 h2 h3=>h.one (k':=k) .B Kj h3 h2 h1.lt h.x8 (fun j hj hp=>?_) h1⟩
  cases j <;> first | exact hp | exact absurd rfl hj
theorem SpMem.cacheP (h:SpMem w gS a k K m):∃ Ki,CacMem w a.C Ki m.c∧(∀ j,Ki j→K j)∧∀ c',Lifts w gS a k K Ki (fun w' Kj=>CacMem w' a.C Kj c') (m.setC c'):=by
  obtain⟨κ,rfl,h⟩:=h
  refine⟨κ .C,h.ok .C,fun j hj=>⟨.C,hj⟩,fun p' w' Kj h1 h2 h3=>h.one (k':=k) .C Kj h3 h2 h1.lt h.x8 (fun j hj hp=>?_) h1⟩
  cases j <;> first | exact hp | exact absurd rfl hj
theorem SpMem.swapP (h:SpMem w gS a k K m):∃ Ki,SwpMem w a.S Ki m.s∧(∀ j,Ki j→K j)∧∀ s',Lifts w gS a k K Ki (fun w' Kj=>SwpMem w' a.S Kj s') (m.setS s'):=by
  obtain⟨κ,rfl,h⟩:=h
  refine⟨κ .S,h.ok .S,fun j hj=>⟨.S,hj⟩,fun p' w' Kj h1 h2 h3=>h.one (k':=k) .S Kj h3 h2 h1.lt h.x8 (fun j hj hp=>?_) h1⟩
  cases j <;> first | exact hp | exact absurd rfl hj
theorem SpMem.diskP (h:SpMem w gS a k K m):Dsk w a.D a.D1 a.D2 192 m.S m.L m.T∧∀ L' T' w',Dsk w' a.D a.D1 a.D2 192 m.S L' T'→Turns (dk a.D a.D1 a.D2) w w'→SpGo w gS a k K (m.setD L' T') w':=by
  obtain⟨κ,rfl,h⟩:=h
  obtain⟨h1,h2⟩:=h.ok .D
  have e:κ .D=dk a.D a.D1 a.D2:=funext fun j=>propext (h2 j)
  refine⟨h1,fun L' T' w' h3 h4=>h.one (k':=k) .D (κ .D) (by rw[e];exact h4) (fun j hj=>.inl hj) (fun j hj=>Nat.lt_of_lt_of_le (h.lt _ j hj) h4.size) h.x8 (fun j hj hp=>?_) ⟨h3,h2⟩⟩
  cases j <;> first | exact hp | exact absurd rfl hj
theorem SpMem.ramP (h:SpMem w gS a k K m):Mem w a.R a.F 1024 m.F m.bad∧∀ F' w',(∀ n y,m.x n=some y→∀ f∈y.t.t,F' f=m.F f)→Mem w' a.R a.F 1024 F' m.bad→Only a.F w w'→SpGo w gS a k K (m.setF F') w':=by
  obtain⟨κ,rfl,h⟩:=h
  obtain⟨h1,h2⟩:=h.ok .R
  refine⟨h1,fun F' w' hF h3 h4=>?_⟩
  have t:Turns (κ .R) w w':=Turns.of_only h4 ((h2 _).2 (.inr rfl))
  refine h.one (k':=k) .R (κ .R) t (fun j hj=>.inl hj) (fun j hj=>Nat.lt_of_lt_of_le (h.lt _ j hj) t.size) h.x8 (fun j hj hp=>?_) ⟨h3,h2⟩
  cases j with
  | tr n=>exact fun y hy=>(hp y hy).frames (hF n y hy)
  | R=>exact absurd rfl hj
  | _=>exact hp
theorem SpMem.cells (h:SpMem w gS a k K m):Blk w gS 44 #[.pointer (some ⟨a.R,0,none⟩),.pointer (some ⟨a.D,0,none⟩),.pointer (some ⟨a.P,0,none⟩),.pointer (some ⟨a.B,0,none⟩),.pointer (some ⟨a.C,0,none⟩),.pointer (some ⟨a.S,0,none⟩),.map k.M]:=by
  obtain⟨κ,rfl,h⟩:=h
  exact (h.ok .top).1
end
end Go.Proofs.YtaonpmclkafjdaaGreat
namespace Go.Proofs.YtaonpmclkafjdaaGreat
open Go.RowKit
set_option linter.unusedVariables false
structure Boxes (w:World)(p:Pl)(k n:Int)(b:Bool)(W:World):Prop where
  bel:Below w.heap.size w W
  pl:Blk W w.heap.size 60 #[.int .i64 p.c,.int .i64 p.g]
  en:Blk W (w.heap.size+1) 29 #[.int .i64 k,.int .i64 n,.bool b]
theorem boxes (w:World)(p:Pl)(k n:Int)(b:Bool):Boxes w p k n b ((w.alloc (.cells #[.int .i64 p.c,.int .i64 p.g] 60)).alloc (.cells #[.int .i64 k,.int .i64 n,.bool b] 29)) :=
  ⟨belAl (belAl (Below.refl _ w) _) _,(Blk.new w _ _).al _,Blk.new1 w _ _ _⟩
section
variable (gS:Nat)(a:SpA)(k0:SpK)(K:Nat→Prop)(m:SpM)(w:World)
set_option maxRecDepth 20000 in
set_option maxHeartbeats 1000000 in
theorem take_frame (p:Pl) (n:Int) (b:Bool) (h:SpMem w gS a k0 K m) (wp:WPl p) (wn:W64 n) (hf:(m.b n).length≤100000) (hF:FewF m.b) :
    Calls Tryz.prog 150 #[.pointer (some ⟨gS,0,none⟩),.agg #[.int .i64 p.c,.int .i64 p.g],.agg #[.int .i64 1,.int .i64 n,.bool b]] w (SpEnd w gS a k0 K (.tuple #[]) (m.setB (updB m.b n (putP (m.b n) p)))):=by
  have hbx:=boxes w p 1 n b
  obtain⟨W,hW⟩:∃ W,(w.alloc (.cells #[.int .i64 p.c,.int .i64 p.g] 60)).alloc (.cells #[.int .i64 1,.int .i64 n,.bool b] 29)=W:=⟨_,rfl⟩
  rw[hW] at hbx
  have hT:=(h.fresh hbx.bel).cells
  obtain⟨Ki,hB,hKi,hl⟩:=(h.fresh hbx.bel).drew.backP
  have HC:=Lib.hid (back_add a.B Ki m.b W.drew n p hB wn wp hf hF)
  have HL:=Lib.hid (hl (updB m.b n (putP (m.b n) p)))
  have HG:=Lib.hid ((Went.of_below (K:=K) hbx.bel).drew)
  have c3:W.cell? ⟨gS,3,none⟩=some (.pointer (some ⟨a.B,0,none⟩)):=hT.cell 3
  have p0:W.cell? ⟨w.heap.size,0,none⟩=some (.int .i64 p.c):=hbx.pl.cell 0
  have p1:W.cell? ⟨w.heap.size,1,none⟩=some (.int .i64 p.g):=hbx.pl.cell 1
  have e0:W.cell? ⟨w.heap.size+1,0,none⟩=some (.int .i64 1):=hbx.en.cell 0
  have e1:W.cell? ⟨w.heap.size+1,1,none⟩=some (.int .i64 n):=hbx.en.cell 1
  clear hbx h hT hB hKi hl wp wn hf hF
  go_enter Tryz.func150,Tryz.ntmps150
  go_wp2_with fail
  go_still_tail 7,(by kernel_rfl)
  change wpList _ _ _ _ _ W.drew
  go_wp2_with fail
  refine HC.out.mono ?_
  rintro e w2 ⟨K',rfl,hb2,hn2,ht2⟩
  have R:=Lib.hid ((HL.out w2 K' hb2 hn2 ht2).from_ HG.out)
  clear hb2 hn2 ht2
  go_wp2_with fail
  go_end0
  exact⟨rfl,R.out⟩
set_option maxRecDepth 20000 in
set_option maxHeartbeats 1000000 in
theorem take_slot (p:Pl) (n:Int) (b:Bool) (h:SpMem w gS a k0 K m) (wp:WPl p) (hf:(m.s n.toNat).length≤100000) :
    Calls Tryz.prog 150 #[.pointer (some ⟨gS,0,none⟩),.agg #[.int .i64 p.c,.int .i64 p.g],.agg #[.int .i64 2,.int .i64 n,.bool b]] w (SpEnd w gS a k0 K (.tuple #[]) (m.setS (holdS m.s n p))):=by
  have hbx:=boxes w p 2 n b
  obtain⟨W,hW⟩:∃ W,(w.alloc (.cells #[.int .i64 p.c,.int .i64 p.g] 60)).alloc (.cells #[.int .i64 2,.int .i64 n,.bool b] 29)=W:=⟨_,rfl⟩
  rw[hW] at hbx
  have hT:=(h.fresh hbx.bel).cells
  obtain⟨Ki,hB,hKi,hl⟩:=(h.fresh hbx.bel).drew.swapP
  have HC:=Lib.hid (swap_hold a.S Ki m.s W.drew n p hB wp hf)
  have HL:=Lib.hid (hl (holdS m.s n p))
  have HG:=Lib.hid ((Went.of_below (K:=K) hbx.bel).drew)
  have c3:W.cell? ⟨gS,5,none⟩=some (.pointer (some ⟨a.S,0,none⟩)):=hT.cell 5
  have p0:W.cell? ⟨w.heap.size,0,none⟩=some (.int .i64 p.c):=hbx.pl.cell 0
  have p1:W.cell? ⟨w.heap.size,1,none⟩=some (.int .i64 p.g):=hbx.pl.cell 1
  have e0:W.cell? ⟨w.heap.size+1,0,none⟩=some (.int .i64 2):=hbx.en.cell 0
  have e1:W.cell? ⟨w.heap.size+1,1,none⟩=some (.int .i64 n):=hbx.en.cell 1
  clear hbx h hT hB hKi hl wp hf
  go_enter Tryz.func150,Tryz.ntmps150
  go_wp2_with fail
  go_still_tail 7,(by kernel_rfl)
  change wpList _ _ _ _ _ W.drew
  go_wp2_with fail
  refine HC.out.mono ?_
  rintro e w2 ⟨K',rfl,hb2,hn2,ht2⟩
  have R:=Lib.hid ((HL.out w2 K' hb2 hn2 ht2).from_ HG.out)
  clear hb2 hn2 ht2
  go_wp2_with fail
  go_end0
  exact⟨rfl,R.out⟩
set_option maxRecDepth 20000 in
theorem take_other (p:Pl) (k n:Int) (b:Bool) (hk1:k≠1) (hk2:k≠2) (h:SpMem w gS a k0 K m) :
    Calls Tryz.prog 150 #[.pointer (some ⟨gS,0,none⟩),.agg #[.int .i64 p.c,.int .i64 p.g],.agg #[.int .i64 k,.int .i64 n,.bool b]] w (SpEnd w gS a k0 K (.tuple #[]) m):=by
  have hbx:=boxes w p k n b
  obtain⟨W,hW⟩:∃ W,(w.alloc (.cells #[.int .i64 p.c,.int .i64 p.g] 60)).alloc (.cells #[.int .i64 k,.int .i64 n,.bool b] 29)=W:=⟨_,rfl⟩
  rw[hW] at hbx
  have HG:=Lib.hid (show SpGo w gS a k0 K m W from ⟨K,h.fresh hbx.bel,Went.of_below hbx.bel⟩)
  have e0:W.cell? ⟨w.heap.size+1,0,none⟩=some (.int .i64 k):=hbx.en.cell 0
  have t1:(k == 1)=false:=beq_eq_false_iff_ne.2 hk1
  have t2:(k == 2)=false:=beq_eq_false_iff_ne.2 hk2
  clear hbx h
  go_enter Tryz.func150,Tryz.ntmps150
  go_wp2_with fail
  go_end0
  exact⟨rfl,HG.out⟩
set_option maxRecDepth 20000 in
set_option maxHeartbeats 1000000 in
theorem leave_slot (p:Pl) (n:Int) (b:Bool) (h:SpMem w gS a k0 K m) (wp:WPl p)  :
    Calls Tryz.prog 151 #[.pointer (some ⟨gS,0,none⟩),.agg #[.int .i64 p.c,.int .i64 p.g],.agg #[.int .i64 2,.int .i64 n,.bool b]] w (SpEnd w gS a k0 K (.tuple #[]) (m.setS (relS m.s n p))):=by
  have hbx:=boxes w p 2 n b
  obtain⟨W,hW⟩:∃ W,(w.alloc (.cells #[.int .i64 p.c,.int .i64 p.g] 60)).alloc (.cells #[.int .i64 2,.int .i64 n,.bool b] 29)=W:=⟨_,rfl⟩
  rw[hW] at hbx
  have hT:=(h.fresh hbx.bel).cells
  obtain⟨Ki,hB,hKi,hl⟩:=(h.fresh hbx.bel).drew.swapP
  have HC:=Lib.hid (swap_release a.S Ki m.s W.drew n p hB wp)
  have HL:=Lib.hid (hl (relS m.s n p))
  have HG:=Lib.hid ((Went.of_below (K:=K) hbx.bel).drew)
  have c3:W.cell? ⟨gS,5,none⟩=some (.pointer (some ⟨a.S,0,none⟩)):=hT.cell 5
  have p0:W.cell? ⟨w.heap.size,0,none⟩=some (.int .i64 p.c):=hbx.pl.cell 0
  have p1:W.cell? ⟨w.heap.size,1,none⟩=some (.int .i64 p.g):=hbx.pl.cell 1
  have e0:W.cell? ⟨w.heap.size+1,0,none⟩=some (.int .i64 2):=hbx.en.cell 0
  have e1:W.cell? ⟨w.heap.size+1,1,none⟩=some (.int .i64 n):=hbx.en.cell 1
  clear hbx h hT hB hKi hl wp
  go_enter Tryz.func151,Tryz.ntmps151
  go_wp2_with fail
  go_still_tail 7,(by kernel_rfl)
  change wpList _ _ _ _ _ W.drew
  go_wp2_with fail
  refine HC.out.mono ?_
  rintro e w2 ⟨K',rfl,hb2,hn2,ht2⟩
  have R:=Lib.hid ((HL.out w2 K' hb2 hn2 ht2).from_ HG.out)
  clear hb2 hn2 ht2
  go_wp2_with fail
  go_end0
  exact⟨rfl,R.out⟩
set_option maxRecDepth 20000 in
theorem leave_other (p:Pl) (k n:Int) (b:Bool) (hk1:k≠1) (hk2:k≠2) (h:SpMem w gS a k0 K m) :
    Calls Tryz.prog 151 #[.pointer (some ⟨gS,0,none⟩),.agg #[.int .i64 p.c,.int .i64 p.g],.agg #[.int .i64 k,.int .i64 n,.bool b]] w (SpEnd w gS a k0 K (.tuple #[]) m):=by
  have hbx:=boxes w p k n b
  obtain⟨W,hW⟩:∃ W,(w.alloc (.cells #[.int .i64 p.c,.int .i64 p.g] 60)).alloc (.cells #[.int .i64 k,.int .i64 n,.bool b] 29)=W:=⟨_,rfl⟩
  rw[hW] at hbx
  have HG:=Lib.hid (show SpGo w gS a k0 K m W from ⟨K,h.fresh hbx.bel,Went.of_below hbx.bel⟩)
  have e0:W.cell? ⟨w.heap.size+1,0,none⟩=some (.int .i64 k):=hbx.en.cell 0
  have t1:(k == 1)=false:=beq_eq_false_iff_ne.2 hk1
  have t2:(k == 2)=false:=beq_eq_false_iff_ne.2 hk2
  clear hbx h
  go_enter Tryz.func151,Tryz.ntmps151
  go_wp2_with fail
  go_end0
  exact⟨rfl,HG.out⟩
def dropM (m:SpM)(n:Int)(p:Pl):SpM:=m.setB (updB m.b n ((m.b n).erase p))
def freeM (m:SpM)(n:Int)(p:Pl):SpM:=if useP m.p n=3∧(m.b n).erase p=[] then (dropM m n p).setP (freeP m.p n).2 else dropM m n p
set_option maxRecDepth 20000 in
set_option maxHeartbeats 2000000 in
theorem leave_frame (p:Pl) (n:Int) (b:Bool) (h:SpMem w gS a k0 K m) (wp:WPl p) (wn:W64 n) :
    Calls Tryz.prog 151 #[.pointer (some ⟨gS,0,none⟩),.agg #[.int .i64 p.c,.int .i64 p.g],.agg #[.int .i64 1,.int .i64 n,.bool b]] w (SpEnd w gS a k0 K (.tuple #[]) (freeM m n p)):=by
  have hbx:=boxes w p 1 n b
  obtain⟨W,hW⟩:∃ W,(w.alloc (.cells #[.int .i64 p.c,.int .i64 p.g] 60)).alloc (.cells #[.int .i64 1,.int .i64 n,.bool b] 29)=W:=⟨_,rfl⟩
  rw[hW] at hbx
  have hlt:=h.lt
  have hs1:w.heap.size+1 < W.heap.size:=hbx.en.lt
  have hT:=(h.fresh hbx.bel).cells
  obtain⟨Ki,hB,hKi,hl⟩:=(h.fresh hbx.bel).drew.backP
  have HC:=Lib.hid (back_drop a.B Ki m.b W.drew n p hB wn wp)
  have HL:=Lib.hid (hl (updB m.b n ((m.b n).erase p)))
  have HG:=Lib.hid ((Went.of_below (K:=K) hbx.bel).drew)
  have HE:=Lib.hid hbx.en
  have HK:=Lib.hid hlt
  have WN:=Lib.hid wn
  have c3:W.cell? ⟨gS,3,none⟩=some (.pointer (some ⟨a.B,0,none⟩)):=hT.cell 3
  have p0:W.cell? ⟨w.heap.size,0,none⟩=some (.int .i64 p.c):=hbx.pl.cell 0
  have p1:W.cell? ⟨w.heap.size,1,none⟩=some (.int .i64 p.g):=hbx.pl.cell 1
  have e0:W.cell? ⟨w.heap.size+1,0,none⟩=some (.int .i64 1):=hbx.en.cell 0
  have e1:W.cell? ⟨w.heap.size+1,1,none⟩=some (.int .i64 n):=hbx.en.cell 1
  have HKi:=Lib.hid (fun j (hj:Ki j)=>hlt j (hKi j hj))
  have HS:=Lib.hid hs1
  clear hbx h hT hB hKi hl wp wn hlt hs1
  go_enter Tryz.func151,Tryz.ntmps151
  go_wp2_with fail
  go_still_tail 7,(by kernel_rfl)
  change wpList _ _ _ _ _ W.drew
  go_wp2_with fail
  refine HC.out.mono ?_
  rintro e w2 ⟨K',rfl,hb2,hn2,ht2⟩
  obtain⟨K2,h2,g2⟩:=(HL.out w2 K' hb2 hn2 ht2).from_ HG.out
  have hE2:Blk w2 (w.heap.size+1) 29 #[.int .i64 1,.int .i64 n,.bool b]:=(ht2.block _ HS.out fun hj=>by have:=HKi.out _ hj;omega).trans HE.out
  have hT2:=h2.cells
  have c2:w2.cell? ⟨gS,2,none⟩=some (.pointer (some ⟨a.P,0,none⟩)):=hT2.cell 2
  have c3':w2.cell? ⟨gS,3,none⟩=some (.pointer (some ⟨a.B,0,none⟩)):=hT2.cell 3
  have e1':w2.cell? ⟨w.heap.size+1,1,none⟩=some (.int .i64 n):=hE2.cell 1
  have e0':w2.cell? ⟨w.heap.size+1,0,none⟩=some (.int .i64 1):=hE2.cell 0
  obtain⟨KP,hP,-,-⟩:=h2.poolP
  have HU:=Lib.hid (fun q=>pool_use_at a.P m.p n (w2.drewN q) (hP.2.1.far rfl))
  obtain⟨U,hU⟩:∃ U,U=useP m.p n:=⟨_,rfl⟩
  have HM2:=Lib.hid h2
  have HG2:=Lib.hid g2
  have HE2:=Lib.hid hE2
  obtain⟨KB,hB2,-,-⟩:=h2.drew.backP
  have HO:=Lib.hid (back_of a.B KB _ w2.drew n hB2 WN.out)
  rw[show (m.setB (updB m.b n ((m.b n).erase p))).b n=(m.b n).erase p from if_pos rfl] at HO
  have HFM:=Lib.hid (show freeM m n p=if U=3∧(m.b n).erase p=[] then (dropM m n p).setP (freeP m.p n).2 else dropM m n p from by unfold freeM;rw[hU])
  rw[← hU] at HU
  clear hb2 hn2 ht2 hE2 hT2 h2 g2 hB2 hP hU HC HL
  by_cases hc:U=3
  · obtain⟨L,hL⟩:∃ L,L=(m.b n).erase p:=⟨_,rfl⟩
    rw[← hL] at HO HFM
    have HU0:=Lib.hid (show Calls Tryz.prog 17 #[.pointer (some ⟨a.P,0,none⟩),.int .i64 n] w2.drew (fun e w'=>e=.returned (.int .i64 (U:Int))∧w'=w2.drew) from (HU.out 1).mono (by rintro e w' ⟨rfl,rfl⟩;exact⟨rfl,rfl⟩))
    subst hc
    go_wp2_with fail
    go_still_tail 15,(by kernel_rfl)
    still_call HU0.out
    repeat still_step
    try refine wpStill_nil ?_
    change wpList _ _ _ _ _ w2.drew
    go_wp2_with fail
    refine HO.out.mono ?_
    rintro e w3 ⟨v,rfl,hv,-,hb3⟩
    obtain⟨A,l,c,rfl,hl,-⟩:=hv
    have hE3:Blk w3 (w.heap.size+1) 29 #[.int .i64 1,.int .i64 n,.bool b]:=Blk.below (w:=w2.drew) HE2.out hb3 HE2.out.lt
    have H3:=Lib.hid (HM2.out.drew.fresh hb3)
    have G3:=Lib.hid (HG2.out.drew.below hb3)
    clear hb3 HO HU HU0
    by_cases hn:L=[]
    · have t1:((l:Int) == 0)=true:=by rw[← hl,hn];rfl
      have hT3:=H3.out.cells
      have d2:w3.cell? ⟨gS,2,none⟩=some (.pointer (some ⟨a.P,0,none⟩)):=hT3.cell 2
      have d1:w3.cell? ⟨w.heap.size+1,1,none⟩=some (.int .i64 n):=hE3.cell 1
      obtain⟨KP3,hP3,-,hl3⟩:=H3.out.drew.poolP
      have HF:=Lib.hid (pool_free a.P KP3 m.p n w3.drew hP3)
      have HL3:=Lib.hid (hl3 (freeP m.p n).2)
      rw[if_pos ⟨trivial,hn⟩] at HFM
      clear hT3 hP3 hl3 hl hE3
      go_wp2_with fail
      go_still_tail 6,(by kernel_rfl)
      change wpList _ _ _ _ _ w3.drew
      go_wp2_with fail
      refine HF.out.mono ?_
      rintro e w4 ⟨K4,rfl,h4,n4,t4⟩
      have R:=Lib.hid ((HL3.out w4 K4 h4 n4 t4).from_ G3.out.drew)
      clear h4 n4 t4
      go_wp2_with fail
      go_end0
      rw[HFM.out]
      exact⟨rfl,R.out⟩
    · have t1:((l:Int) == 0)=false:=by
        refine beq_eq_false_iff_ne.2 fun h=>hn (List.eq_nil_of_length_eq_zero ?_)
        omega
      have d0:w3.cell? ⟨w.heap.size+1,0,none⟩=some (.int .i64 1):=hE3.cell 0
      rw[if_neg (fun h=>hn h.2)] at HFM
      clear hl hE3
      go_wp2_with fail
      go_end0
      rw[HFM.out]
      exact⟨rfl,_,H3.out,G3.out⟩
  · have t3:((U:Int) == 3)=false:=beq_eq_false_iff_ne.2 fun h=>hc (by omega)
    rw[if_neg (fun h=>hc h.1)] at HFM
    clear HO
    go_wp2_with fail
    go_quiet (first | (go_at_call 17;refine (HU.out _).mono ?_;rintro e w' ⟨rfl,rfl⟩;exact⟨rfl,_,rfl⟩))
    go_wp2_with fail
    go_end0
    rw[HFM.out]
    exact⟨rfl,SpGo.below ⟨_,HM2.out,HG2.out⟩ (below_drewN (Below.refl _ _) _)⟩
end
end Go.Proofs.YtaonpmclkafjdaaGreat
namespace Go.Proofs.YtaonpmclkafjdaaGreat
open Go.RowKit
set_option linter.unusedVariables false
def SpM.tree (m:SpM)(n:Nat)(y:SpX)(F':Nat→List Nat)(p':PS)(t':TS):SpM:=⟨F',m.bad,m.S,m.L,m.T,p',m.b,m.c,m.s,upd m.x n (some ⟨t',y.a,y.q⟩)⟩
def SpK.setV (k:SpK)(n:Nat)(v:Value):SpK:=⟨k.M,k.X,k.T,k.Q,upd k.v n v⟩
theorem ptrL_some {x:Nat→Option SpX}{X:Nat→Nat}{n:Nat}{y:SpX}(h:x n=some y):ptrL x X (n:Int)=some (.pointer (some ⟨X n,0,none⟩)):=by
  unfold ptrL
  rw[if_pos ⟨Int.natCast_nonneg n,by rw[Int.toNat_natCast,h];rfl⟩,Int.toNat_natCast]
theorem ptrL_none {x:Nat→Option SpX}{X:Nat→Nat}{z:Int}(h:z < 0∨∀ n:Nat,z=(n:Int)→x n=none):ptrL x X z=none:=by
  unfold ptrL
  refine if_neg ?_
  rintro⟨h0,h1⟩
  rcases h with h | h
  · omega
  · rw[h z.toNat (Int.toNat_of_nonneg h0).symm] at h1
    cases h1
theorem ptrL_upd {x:Nat→Option SpX}{X:Nat→Nat}{n:Nat}{y y':SpX}(h:x n=some y)(z:Int):ptrL (upd x n (some y')) X z=ptrL x X z:=by
  unfold ptrL
  by_cases c:z.toNat=n
  · rw[c,upd_same,h]
    rfl
  · rw[upd_other _ _ _ c]
section
variable {w w':World}{gS:Nat}{a:SpA}{k k':SpK}{K:Nat→Prop}{m m':SpM}{n:Nat}{y y':SpX}
set_option maxRecDepth 100000 in
theorem SpMem.look (h:SpMem w gS a k K m)(z:Int)(wz:W64 z):(Instr.lookup 42 (.map k.M) (.int .i64 z) false).run Tryz.prog w=.ok ((ptrL m.x k.X z).getD (.pointer none)) w:=by
  obtain⟨κ,rfl,h⟩:=h
  obtain⟨_,_,h3,h4⟩:=h.ok .top
  cases hM:k.M with
  | none =>
    rw[ptrL_none (.inr fun n _=>h3 hM n)]
    exact MapK.nil_look EI w Tryz.underlying42 (z:=.pointer none) (by rfl) false z wz
  | some g =>
    obtain⟨c,h5⟩:=h4 g hM
    exact h5.run_get Tryz.underlying42 (z:=.pointer none) (by rfl) z wz
theorem SpMem.proc (h:SpMem w gS a k K m)(hy:m.x n=some y):Blk w (k.X n) 94 #[.pointer (some ⟨k.T n,0,none⟩),k.v n,.pointer (some ⟨k.Q n,0,none⟩)]∧K (k.X n)∧Ars w w.heap.size (k.v n) y.a∧InK K (k.v n):=by
  obtain⟨κ,rfl,h⟩:=h
  obtain⟨h1,h2,h3,h4⟩:=h.ok (.ar n) y hy
  exact⟨h1,⟨_,h2⟩,h3,fun a n' c e=>⟨_,h4 a n' c e⟩⟩
theorem PartOk.other {i:Prt} {Ki:Nat→Prop} (hy:m.x n=some y) (hm:m'.x=upd m.x n (some y')) (hF:m'.F=m.F) (hb:m'.bad=m.bad) (hS:m'.S=m.S) (hL:m'.L=m.L) (hT:m'.T=m.T) (hp:m'.p=m.p) (hbb:m'.b=m.b) (hc:m'.c=m.c) (hs:m'.s=m.s)
    (ht:i=.tr n→y'.t=y.t) (hq:i=.qu n→y'.q=y.q) (ha:i=.ar n→y'.a=y.a) (h:PartOk w gS a k m Ki i):PartOk w gS a k m' Ki i:=by
  have e:∀ n' z,m'.x n'=some z→∃ z',m.x n'=some z'∧(n'≠n→z'=z)∧(n'=n→z'=y∧z=y'):=by
    intro n' z hz
    rw[hm] at hz
    by_cases c:n'=n
    · subst c
      rw[upd_same] at hz
      exact⟨y,hy,fun h=>absurd rfl h,fun _=>⟨rfl,(Option.some.inj hz).symm⟩⟩
    · rw[upd_other _ _ _ c] at hz
      exact⟨z,hz,fun _=>rfl,fun h=>absurd h c⟩
  obtain⟨F1,bad1,S1,L1,T1,p1,b1,c1,s1,x1⟩:=m
  obtain⟨F2,bad2,S2,L2,T2,p2,b2,c2,s2,x2⟩:=m'
  simp only at hm hF hb hS hL hT hp hbb hc hs e hy
  subst hm hF hb hS hL hT hp hbb hc hs
  cases i with
  | top =>
    obtain⟨h1,h2,h3,h4⟩:=h
    refine⟨h1,h2,fun hM=>?_,fun g hg=>?_⟩
    · have:=h3 hM n
      simp only at this
      rw[hy] at this
      cases this
    · obtain⟨c,h5⟩:=h4 g hg
      exact⟨c,h5.congr fun z=>(ptrL_upd hy z).symm⟩
  | tr n' =>
    intro z hz
    obtain⟨z',e1,e2,e3⟩:=e n' z hz
    by_cases c:n'=n
    · subst c
      obtain⟨rfl,rfl⟩:=e3 rfl
      rw[ht rfl]
      exact h z' e1
    · obtain rfl:=e2 c
      exact h z' e1
  | qu n' =>
    intro z hz
    obtain⟨z',e1,e2,e3⟩:=e n' z hz
    by_cases c:n'=n
    · subst c
      obtain⟨rfl,rfl⟩:=e3 rfl
      rw[hq rfl]
      exact h z' e1
    · obtain rfl:=e2 c
      exact h z' e1
  | ar n' =>
    intro z hz
    obtain⟨z',e1,e2,e3⟩:=e n' z hz
    by_cases c:n'=n
    · subst c
      obtain⟨rfl,rfl⟩:=e3 rfl
      rw[ha rfl]
      exact h z' e1
    · obtain rfl:=e2 c
      exact h z' e1
  | _=>exact h
theorem x8_upd (h:∀ n y,m.x n=some y→n < 8)(hy:m.x n=some y):∀ n' z,upd m.x n (some y') n'=some z→n' < 8:=by
  intro n' z hz
  by_cases c:n'=n
  · exact c ▸ h n y hy
  · rw[upd_other _ _ _ c] at hz
    exact h n' z hz
theorem SpMem.treeP (h:SpMem w gS a k K m)(hy:m.x n=some y):∃ KP KT,Mem w a.R a.F 1024 m.F m.bad∧PoolMem w a.P KP m.p∧TreeMem w (k.T n) KT a.R a.P m.F y.t∧Apart a.R a.F KP KT ∧
    ∀ F' p' t' w',(∀ n' y',n'≠n→m.x n'=some y'→∀ f∈y'.t.t,f ∉ y.t.t∧m.p.u.getD f 0≠1)→TreePost w (k.T n) a.R a.F a.P KP KT m.F m.bad m.p y.t F' p' t' w'→SpGo w gS a k K (m.tree n y F' p' t') w':=by
  obtain⟨κ,rfl,h⟩:=h
  have hR:=h.ok .R
  have hP:PoolMem w a.P (κ .P) m.p:=h.ok .P
  have hT:=h.ok (.tr n) y hy
  have dR:∀ j,j=a.R∨j=a.F→κ .R j:=fun j hj=>(hR.2 j).2 hj
  refine⟨κ .P,κ (.tr n),hR.1,hP,hT,⟨fun c=>?_,fun c=>?_,fun c=>?_,fun c=>?_,fun j c d=>?_⟩,fun F' p' t' w' hd hpost=>?_⟩
  · cases h.dis _ _ _ c (dR _ (.inl rfl))
  · cases h.dis _ _ _ c (dR _ (.inr rfl))
  · cases h.dis _ _ _ c (dR _ (.inl rfl))
  · cases h.dis _ _ _ c (dR _ (.inr rfl))
  · cases h.dis _ _ _ c d
  · obtain⟨KP',KT',hM',hP',hT',hA',hnP,hnT,hF,ht⟩:=hpost
    obtain⟨κn,eR,eP,eT⟩:∃ κn:Prt→Nat→Prop,κn .R=κ .R∧κn .P=KP'∧κn (.tr n)=KT':=⟨fun i=>match i with | .R=>κ .R | .P=>KP' | _=>KT',rfl,rfl,rfl⟩
    have hs:=h.step (w':=w') (m':=m.tree n y F' p' t') (k':=k) (fun i=>i=.R∨i=.P∨i=.tr n) κn (ht.mono fun j hj=>?_) ?_ ?_ ?_ (x8_upd h.x8 hy) ?_ ?_
    · refine⟨_,⟨_,rfl,hs⟩,fun j hj=>?_,ht.mono fun j hj=>?_⟩
      · obtain⟨i,⟨hi,h2⟩ | ⟨_,h2⟩⟩:=hj
        · rcases hi with rfl | rfl | rfl
          · rw[eR] at h2;exact .inl ⟨_,h2⟩
          · rw[eP] at h2;exact (hnP j h2).imp (fun c=>⟨_,c⟩) id
          · rw[eT] at h2;exact (hnT j h2).imp (fun c=>⟨_,c⟩) id
        · exact .inl ⟨_,h2⟩
      · rcases hj with hj | hj | hj
        · exact⟨_,hj⟩
        · exact⟨_,hj⟩
        · exact⟨_,dR j (.inr hj)⟩
    · rcases hj with hj | hj | hj
      · exact⟨.P,.inr (.inl rfl),hj⟩
      · exact⟨.tr n,.inr (.inr rfl),hj⟩
      · exact⟨.R,.inl rfl,dR j (.inr hj)⟩
    · rintro i j (rfl | rfl | rfl) hj
      · rw[eR] at hj;exact .inl hj
      · rw[eP] at hj;exact hnP j hj
      · rw[eT] at hj;exact hnT j hj
    · rintro i j (rfl | rfl | rfl) hj
      · rw[eR] at hj;exact Nat.lt_of_lt_of_le (h.lt _ j hj) ht.size
      · rw[eP] at hj;exact hP'.lt j hj
      · rw[eT] at hj;exact hT'.lt j hj
    · obtain⟨a1,a2,a3,a4,a5⟩:=hA'
      rintro i i' j (rfl | rfl | rfl) (rfl | rfl | rfl) c1 c2 <;> simp only[eR,eP,eT] at c1 c2
      · rfl
      · rcases (hR.2 j).1 c1 with rfl | rfl
        · exact absurd c2 a1
        · exact absurd c2 a2
      · rcases (hR.2 j).1 c1 with rfl | rfl
        · exact absurd c2 a3
        · exact absurd c2 a4
      · rcases (hR.2 j).1 c2 with rfl | rfl
        · exact absurd c1 a1
        · exact absurd c1 a2
      · rfl
      · exact absurd c2 (a5 j c1)
      · rcases (hR.2 j).1 c2 with rfl | rfl
        · exact absurd c1 a3
        · exact absurd c1 a4
      · exact absurd c1 (a5 j c2)
      · rfl
    · intro i hi hp
      cases i with
      | R=>exact absurd (.inl rfl) hi
      | P=>exact absurd (.inr (.inl rfl)) hi
      | tr n' =>
        have c:n'≠n:=fun e=>hi (.inr (.inr (by rw[e])))
        intro z hz
        have hz':m.x n'=some z:=by rw[← hz];exact (upd_other _ _ _ c).symm
        exact (hp z hz').frames fun f hf=>hF f (hd n' z c hz' f hf).1 (hd n' z c hz' f hf).2
      | top=>exact hp.other (m:=m) (m':=⟨m.F,m.bad,m.S,m.L,m.T,m.p,m.b,m.c,m.s,upd m.x n (some ⟨t',y.a,y.q⟩)⟩) (y':=⟨t',y.a,y.q⟩) hy rfl rfl rfl rfl rfl rfl rfl rfl rfl rfl (fun e=>by cases e) (fun _=>rfl) (fun _=>rfl)
      | qu n'=>exact hp.other (m:=m) (m':=⟨m.F,m.bad,m.S,m.L,m.T,m.p,m.b,m.c,m.s,upd m.x n (some ⟨t',y.a,y.q⟩)⟩) (y':=⟨t',y.a,y.q⟩) hy rfl rfl rfl rfl rfl rfl rfl rfl rfl rfl (fun e=>by cases e) (fun _=>rfl) (fun _=>rfl)
      | ar n'=>exact hp.other (m:=m) (m':=⟨m.F,m.bad,m.S,m.L,m.T,m.p,m.b,m.c,m.s,upd m.x n (some ⟨t',y.a,y.q⟩)⟩) (y':=⟨t',y.a,y.q⟩) hy rfl rfl rfl rfl rfl rfl rfl rfl rfl rfl (fun e=>by cases e) (fun _=>rfl) (fun _=>rfl)
      | _=>exact hp
    · rintro i (rfl | rfl | rfl)
      · rw[eR];exact⟨hM',hR.2⟩
      · rw[eP];exact hP'
      · rw[eT]
        intro z hz
        have:upd m.x n (some ⟨t',y.a,y.q⟩) n=some z:=hz
        rw[upd_same] at this
        obtain rfl:=Option.some.inj this
        exact hT'
end
end Go.Proofs.YtaonpmclkafjdaaGreat

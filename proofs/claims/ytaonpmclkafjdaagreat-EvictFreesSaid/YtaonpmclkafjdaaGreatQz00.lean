/-
  What is said of memory, bytes, blocks, lists, records, slots and maps alone: nothing of the program is named here.
  A pool as lists: each frame's use, each section's zone, and which sections are isolated; what Online, Offline and Alloc make of it. Nothing of the program is named here.
  A pool as lists: what its other calls answer, and the frames of Online one by one. Nothing of the program is named here.
  A whole value of many cells is stored into a block, and loaded out of one; a slice of integers as it lies in memory. Nothing of the program is named here.
  What is known of the memory, as lists: which frames are bad, which state each section has; the bad ones, rising. Nothing of the program is named here.
  Numbers that are in, as a list; the first run of an order. Nothing of the program is named here.
  How many tables pages take: numbers that differ, each once. Nothing of the program is named here.
  An entry, which may be, and its number. Nothing of the program is named here.
  A tree's state: each page's entry, and which frames are tables; what Set makes of it. Nothing of the program is named here.
  How many frames of a zone are free. Nothing of the program.
  What append makes of a call's own row and of any row that can be read, elements of any size; two literals and two appends in one drawn region, in each order. Nothing of the program is named here.
  Places of processes and lists of them in order (nothing of the program).
  Slices of places in memory: read, cut, and what append makes of them. Nothing of the program is named here.
  A cache as a list: pages, where they stand, what is dirty (nothing of the program).
  Who holds each of the thirty-two slots (nothing of the program).
  Conditions: those that each line bears.
-/
import Derived.WalkKit
import Derived.WalkSpells
import Derived.Laws.BitsAllLaws
import Derived.Deep.Draws
import Derived.Laws.AppendOwnNone
import Derived.OpenShut
import Derived.Laws.CopyOwn
import Derived.Deep.MidRow
import Derived.Lib.Hide
import Derived.Deep.DrawnRows
import Derived.Maps.RangeWalk
import Derived.Maps.OwnSet
import Derived.Laws.Shifts
import Derived.Laws.ShiftsVarLaws
import Derived.Deep.Slices
import Derived.Deep.Fields
import Derived.ChangeSame
set_option linter.unusedSimpArgs false
set_option linter.unusedSectionVars false
set_option linter.unusedVariables false
namespace Go.Proofs.YtaonpmclkafjdaaGreat
open Go.RowKit
def Bts (w:World)(B:Nat)(v:Value)(xs:List Nat):Prop :=
  ∃ A n c,v=.slice A n c∧xs.length=n∧n≤maxLen∧(n≤c∧(A=none→c=0))∧c≤maxLen∧(∀ j,j < n→xs.getD j 0 < 256) ∧
    (0 < n→∃ b off,A=some ⟨b,off,none⟩∧b < B∧∀ j,j < n→w.cell? ⟨b,off+j,none⟩=some (.int .u8 ((xs.getD j 0:Nat):Int)))
theorem Bts.keep {w w':World}{B:Nat}{v:Value}{xs:List Nat}(h:Bts w B v xs)(hk:∀ p:Addr,p.block < B→w'.cell? p=w.cell? p):Bts w' B v xs:=by
  obtain⟨A,n,c,hv,hl,hm,hc,hcm,hb,hx⟩:=h
  refine⟨A,n,c,hv,hl,hm,hc,hcm,hb,fun hn=>?_⟩
  obtain⟨b,off,hA,hB,hcell⟩:=hx hn
  exact⟨b,off,hA,hB,fun j hj=>(hk _ hB).trans (hcell j hj)⟩
theorem Bts.below {w w':World}{B:Nat}{v:Value}{xs:List Nat}(h:Bts w B v xs)(hb:Below B w w'):Bts w' B v xs:=h.keep fun _ hp=>hb.cell hp
theorem Bts.more {w:World}{B B':Nat}{v:Value}{xs:List Nat}(h:Bts w B v xs)(hB:B≤B'):Bts w B' v xs:=by
  obtain⟨A,n,c,hv,hl,hm,hc,hcm,hb,hx⟩:=h
  refine⟨A,n,c,hv,hl,hm,hc,hcm,hb,fun hn=>?_⟩
  obtain⟨b,off,hA,hb',hcell⟩:=hx hn
  exact⟨b,off,hA,by omega,hcell⟩
theorem Bts.nil_ (w:World)(B:Nat):Bts w B (.slice none 0 0) [] :=
  ⟨none,0,0,rfl,rfl,by simp[maxLen],⟨by omega,fun _=>rfl⟩,by simp[maxLen],fun j hj=>absurd hj (by omega),fun h=>absurd h (by omega)⟩
def mixN (h x:Nat):Nat:=((h ^^^ x) * 1099511628211) % 18446744073709551616
def sumStart:Nat:=14695981039346656037
def sumN (xs:List Nat):Nat:=xs.foldl mixN sumStart
def le:List Nat→Nat
  | []=>0
  | x :: r=>x+256 * le r
theorem le_lt (xs:List Nat)(h:∀ x∈xs,x < 256):le xs < 256 ^ xs.length:=by
  induction xs with
  | nil=>simp[le]
  | cons x r ih =>
    have h1:=ih (fun y hy=>h y (List.mem_cons_of_mem _ hy))
    have h2:=h x (List.mem_cons_self ..)
    rw[le,List.length_cons,Nat.pow_succ]
    omega
theorem le_append (xs ys:List Nat):le (xs ++ ys)=le xs+256 ^ xs.length * le ys:=by
  induction xs with
  | nil=>simp[le]
  | cons x r ih =>
    rw[List.cons_append,le,le,ih,List.length_cons,Nat.pow_succ,Nat.mul_add,Nat.add_assoc,← Nat.mul_assoc,Nat.mul_comm 256 (256 ^ r.length)]
theorem pow256 (k:Nat):256 ^ k=2 ^ (8 * k):=by
  rw[Nat.pow_mul]
theorem pow_le56 (k:Nat)(hk:k < 8):2 ^ (8 * k)≤72057594037927936:=by
  have:=Nat.pow_le_pow_right (show 0 < 2 by omega) (show 8 * k≤56 by omega)
  simpa using this
theorem le_or (p:List Nat) (k x:Nat) (hl:p.length=k) (hk:k < 8) (hp:∀ y∈p,y < 256) (hx:x < 256) :
    bits .or .u64 ((le p:Nat):Int) (IntKind.u64.wrap ((x:Int) * 2 ^ (8 * k)))=((le (p ++ [x]):Nat):Int):=by
  have h1:=le_lt p hp
  rw[hl,pow256] at h1
  have h2:=pow_le56 k hk
  have h3:x * 2 ^ (8 * k)≤255 * 2 ^ (8 * k):=Nat.mul_le_mul_right _ (by omega)
  have e1:(x:Int) * 2 ^ (8 * k)=((x * 2 ^ (8 * k):Nat):Int):=by
    rw[Int.natCast_mul,Int.natCast_pow]
    rfl
  have e2:IntKind.u64.wrap ((x * 2 ^ (8 * k):Nat):Int)=((x * 2 ^ (8 * k):Nat):Int):=by
    rw[IntKind.wrap_u64]
    omega
  rw[e1,e2,u64_or_nat _ _ (by omega) (by omega),Nat.or_comm,nat_join (8 * k) _ _ (Nat.mul_mod_left ..) h1,le_append,hl,pow256]
  simp only[le,Nat.mul_zero,Nat.add_zero]
  rw[Nat.mul_comm,Nat.add_comm]
def win (xs:List Nat)(a n:Nat):List Nat:=(xs.drop a).take n
theorem win_length (xs:List Nat)(a n:Nat)(h:a+n≤xs.length):(win xs a n).length=n:=by
  unfold win
  simp
  omega
theorem win_snoc (xs:List Nat)(a k:Nat)(h:a+k < xs.length):win xs a (k+1)=win xs a k ++ [xs.getD (a+k) 0]:=by
  unfold win
  rw[List.take_succ_eq_append_getElem (by simp;omega)]
  simp[h]
theorem win_byte (xs:List Nat)(a n:Nat)(hb:∀ j,j < xs.length→xs.getD j 0 < 256):∀ y∈win xs a n,y < 256:=by
  intro y hy
  have h1:=List.mem_of_mem_drop (List.mem_of_mem_take hy)
  obtain⟨j,hj,rfl⟩:=List.getElem_of_mem h1
  have:=hb j hj
  simpa [hj] using this
def dig (v k:Nat):Nat:=v / 2 ^ (8 * k) % 256
theorem dig_lt (v k:Nat):dig v k < 256:=Nat.mod_lt _ (by omega)
def bv (x:Nat):Value:=.int .u8 (x:Int)
def numL (v n:Nat):List Nat:=(List.range n).map (dig v)
theorem numL_length (v n:Nat):(numL v n).length=n:=by simp[numL]
theorem numL_snoc (v n:Nat):numL v (n+1)=numL v n ++ [dig v n]:=by simp[numL,List.range_succ]
theorem numL_byte (v n:Nat):∀ y∈numL v n,y < 256:=by
  intro y hy
  obtain⟨k,_,rfl⟩:=List.mem_map.1 hy
  exact dig_lt v k
def over (xs:List Nat)(p:Nat)(ys:List Nat):List Nat:=xs.take p ++ (ys ++ xs.drop (p+ys.length))
theorem over_length (xs:List Nat)(p:Nat)(ys:List Nat)(h:p+ys.length≤xs.length):(over xs p ys).length=xs.length:=by
  simp[over]
  omega
theorem over_getD (xs:List Nat) (p:Nat) (ys:List Nat) (h:p+ys.length≤xs.length) (j:Nat) :
    (over xs p ys).getD j 0=if p≤j∧j < p+ys.length then ys.getD (j - p) 0 else xs.getD j 0:=by
  have hp:(xs.take p).length=p:=by simp;omega
  simp only[over,List.getD_eq_getElem?_getD]
  by_cases h1:j < p
  · rw[if_neg (by omega),List.getElem?_append_left (by omega),List.getElem?_take,if_pos h1]
  · rw[List.getElem?_append_right (by omega),hp]
    by_cases h2:j < p+ys.length
    · rw[if_pos ⟨by omega,h2⟩,List.getElem?_append_left (by omega)]
    · rw[if_neg (by omega),List.getElem?_append_right (by omega),List.getElem?_drop,show p+ys.length+(j - p - ys.length)=j by omega]
def putV (cur:Array Value)(p v:Nat):Nat→Array Value
  | 0=>cur
  | k+1=>(putV cur p v k).setIfInBounds (p+k) (bv (dig v k))
theorem putV_size (cur:Array Value)(p v k:Nat):(putV cur p v k).size=cur.size:=by
  induction k with
  | zero=>rfl
  | succ k ih=>rw[putV,Array.size_setIfInBounds,ih]
theorem putV_at (cur:Array Value) (p v k j:Nat) (h:p+k≤cur.size) :
    (putV cur p v k)[j]?=if p≤j∧j < p+k then some (bv (dig v (j - p))) else cur[j]?:=by
  induction k with
  | zero=>rw[putV,if_neg (by omega)]
  | succ k ih =>
    rw[putV,Array.getElem?_setIfInBounds,putV_size,ih (by omega)]
    by_cases h1:p+k=j
    · subst h1
      rw[if_pos rfl,if_pos (by omega),if_pos (by omega),show p+k - p=k by omega]
    · rw[if_neg h1]
      by_cases h2:p≤j∧j < p+k
      · rw[if_pos h2,if_pos (by omega)]
      · rw[if_neg h2,if_neg (by omega)]
def Blk (w:World)(g:Nat)(t:TypeId)(cs:Array Value):Prop:=w.heap[g]?=some (.cells cs t (0,0))
theorem Blk.lt {w:World}{g:Nat}{t:TypeId}{cs:Array Value}(h:Blk w g t cs):g < w.heap.size:=by
  rcases Nat.lt_or_ge g w.heap.size with hlt | hge
  · exact hlt
  · unfold Blk at h;rw[Array.getElem?_eq_none hge] at h;cases h
theorem Blk.cell {w:World}{g:Nat}{t:TypeId}{cs:Array Value}(h:Blk w g t cs)(i:Nat):w.cell? ⟨g,i,none⟩=cs[i]?:=cell_of_row w g i cs t (0,0) h
theorem Blk.frozen {w:World}{g:Nat}{t:TypeId}{cs:Array Value}(h:Blk w g t cs)(i:Nat):w.frozen? ⟨g,i,none⟩=false:=by
  unfold Blk at h
  simp[World.frozen?,h]
theorem Blk.set_ {w:World}{g:Nat}{t:TypeId}{cs:Array Value}(h:Blk w g t cs)(i:Nat)(u:Value):Blk (w.setCell ⟨g,i,none⟩ u) g t (cs.setIfInBounds i u):=by
  unfold Blk at h ⊢
  simp[World.setCell,Array.getElem?_modify,h]
theorem Blk.below {w w':World}{g:Nat}{t:TypeId}{cs:Array Value}{B:Nat}(h:Blk w g t cs)(hb:Below B w w')(hg:g < B):Blk w' g t cs:=(hb.block g hg).trans h
theorem Blk.new (w:World)(t:TypeId)(cs:Array Value):Blk (w.alloc (.cells cs t)) w.heap.size t cs:=heap_alloc_new w _
theorem Bts.of_blk {w:World} {g:Nat} {t:TypeId} {cur:Array Value} {B off n cap:Nat} {xs:List Nat} (h:Blk w g t cur) (hB:g < B) (hl:xs.length=n) (hn:n≤cap) (hm:cap≤maxLen)
    (hb:∀ j,j < n→xs.getD j 0 < 256) (hc:∀ j,j < n→cur[off+j]?=some (bv (xs.getD j 0))):Bts w B (.slice (some ⟨g,off,none⟩) n cap) xs :=
  ⟨_,_,_,rfl,hl,Nat.le_trans hn hm,⟨hn,fun h=>by cases h⟩,hm,hb,fun _=>⟨g,off,rfl,hB,fun j hj=>(h.cell _).trans (hc j hj)⟩⟩
theorem Bts.of_own {w:World}{base:Nat}{e:TypeId}{v:Value}{n:Nat}{xs:List Nat}(h:w.ownsRow base e 1 v n (xs.map bv))(hb:∀ y∈xs,y < 256):Bts w w.heap.size v xs:=by
  have hl:xs.length=n:=by have:=h.1;simpa using this
  have hb':∀ j,j < n→xs.getD j 0 < 256:=by
    intro j hj
    have hj':j < xs.length:=by omega
    have:=hb _ (List.getElem_mem hj')
    simpa [hj'] using this
  rcases h.2 with ⟨rfl,rfl⟩ | ⟨g,cap,cur,rfl,_,hg,hn,hm,_,ht⟩
  · obtain rfl:xs=[]:=List.eq_nil_of_length_eq_zero hl
    exact Bts.nil_ _ _
  · refine Bts.of_blk (off:=0) (t:=e) (cur:=cur) hg (Blk.lt (t:=e) (cs:=cur) hg) hl hn hm hb' (fun j hj=>?_)
    have hj':j < xs.length:=by omega
    have e1:(cur.toList.take (n * 1))[j]?=(xs.map bv)[j]?:=by rw[ht]
    rw[List.getElem?_take,if_pos (by omega)] at e1
    rw[Nat.zero_add]
    simp[hj'] at e1 ⊢
    exact e1
theorem le_numL (v n:Nat):le (numL v n)=v % 2 ^ (8 * n):=by
  induction n with
  | zero=>simp[numL,le,Nat.mod_one]
  | succ n ih =>
    rw[numL_snoc,le_append,ih,numL_length,pow256]
    simp only[le,Nat.mul_zero,Nat.add_zero]
    rw[show 8 * (n+1)=8 * n+8 by omega,Nat.pow_add,Nat.mod_mul,dig]
theorem le_zeros (p:List Nat)(m:Nat):le (p ++ List.replicate m 0)=le p:=by
  have h:∀ m,le (List.replicate m 0)=0:=by
    intro m
    induction m with
    | zero=>rfl
    | succ m ih=>rw[List.replicate_succ,le,ih]
  rw[le_append,h,Nat.mul_zero,Nat.add_zero]
theorem map_bv_one (ys:List Nat):∀ u∈ys.map bv,u.oneCell'=true:=by
  intro u hu
  obtain⟨y,_,rfl⟩:=List.mem_map.1 hu
  rfl
theorem wpList_append_bts {P:Program} {w:World} {ops:Array Oper} {rest:List Oper} {o:Oper} {a:Act} {Q:Exit→Act→World→Prop} (hgd:o.guard=none) (s x:Operand) (t:TypeId)
    (ho:o.op=.call { callee:=.builtin .append,args:=#[s,x],argTypes:=#[t,t] })
    (base:Nat) (e:TypeId) (i:TypeInfo) (ht:P.underlying t=some (.slice e)) (hi:P.info? e=some i) (hz:i.zero=some (.int .u8 0)) (hsize:i.size=1) (hby:i.bytes=1)
    (v:Value) (n:Nat) (xs:List Nat) (hs:a.eval s=v) (hown:w.ownsRow base e 1 v n (xs.map bv))
    (u:Value) (ys:List Nat) (hx:a.eval x=u) (B:Nat) (hr:Bts w B u ys) (hlen:n+ys.length≤140737488355328) (hbase:base≤w.heap.size)
    (h:∀ v' w',Hid (w'.ownsRow base e 1 v' (n+ys.length) ((xs ++ ys).map bv))→Hid (Below base w w')→wpList P ops Q rest (a.put o.dst v') w'):wpList P ops Q (o :: rest) a w:=by
  obtain⟨A,m,c,rfl,hl,hm,⟨hc,hn⟩,hcm,hb,hcell⟩:=hr
  have hbel:∀ w',w.grownBy w' v.ownBlock→Below base w w':=fun w' hg=>(Below.refl base w).grown hg hbase (fun k hk=>(hown.lt k hk).1)
  rcases A with _ | ad
  · obtain rfl:=hn rfl
    obtain rfl:m=0:=by omega
    obtain rfl:ys=[]:=List.eq_nil_of_length_eq_zero hl
    refine wpList_append_own_none hgd s x t ho base e i 1 ht hi v n (xs.map bv) hs hown hx ?_
    exact h v w (show World.ownsRow _ _ _ _ _ _ _ by simpa using hown) (Below.refl _ _)
  · refine wpList_append_own w hgd s x t ho base e i (.int .u8 0) 1 1 ht hi hz hsize hby rfl (by omega) v n (xs.map bv) hs hown ad m c (ys.map bv) hx (by simp[hl]) ?_ (map_bv_one ys) (by unfold maxLen;omega) (by omega) hbase ?_
    · intro j u hu
      have hj:j < m:=by
        have:=(List.getElem?_eq_some_iff.1 hu).1
        simpa [hl] using this
      obtain⟨b,off,he,_,hc'⟩:=hcell (by omega)
      injection he with he
      subst he
      have hj':j < ys.length:=by omega
      have hcj:=hc' j hj
      simp[hj'] at hu hcj
      subst hu
      have e2:(Addr.mk b off none).add j=⟨b,off+j,none⟩:=by unfold Addr.add;split <;> simp_all
      rw[e2,hcj]
      rfl
    · intro v' w' h1 h2 _
      refine h v' w' (show World.ownsRow _ _ _ _ _ _ _ from ?_) (hbel w' h2)
      rw[List.map_append,hl]
      exact h1
theorem Bts.byte {w:World}{B:Nat}{v:Value}{xs:List Nat}(h:Bts w B v xs):∀ y∈xs,y < 256:=by
  obtain⟨A,n,c,_,hl,_,_,_,hb,_⟩:=h
  intro y hy
  obtain⟨j,hj,rfl⟩:=List.getElem_of_mem hy
  have:=hb j (by omega)
  simpa [hj] using this
theorem below_drewN {B:Nat}{a w:World}(h:Below B a w)(n:Nat):Below B a (w.drewN n):=⟨h.os,h.tape,h.output,h.size,h.block⟩
end Go.Proofs.YtaonpmclkafjdaaGreat
namespace Go.Proofs.YtaonpmclkafjdaaGreat
open Go.RowKit
set_option linter.unusedVariables false
def Only (g:Nat)(w w':World):Prop:=w.grownBy w' (some g)∧w'.heap.size=w.heap.size
theorem Only.refl (g:Nat)(w:World):Only g w w:=⟨World.grownBy.refl _ _,rfl⟩
theorem Only.trans {g:Nat}{a b c:World}(h:Only g a b)(k:Only g b c):Only g a c :=
  ⟨⟨k.1.os.trans h.1.os,k.1.tape.trans h.1.tape,k.1.output.trans h.1.output,by rw[k.2,h.2];exact Nat.le_refl _,fun i hi hne=>(k.1.block i (by rw[h.2];exact hi) hne).trans (h.1.block i hi hne)⟩,k.2.trans h.2⟩
theorem Only.below {g B:Nat}{w w':World}(h:Only g w w')(hg:B≤g)(hB:B≤w.heap.size):Below B w w' :=
  (Below.refl B w).grown h.1 hB (fun k hk=>by cases hk;exact hg)
theorem Only.blk {g k:Nat}{w w':World}{t:TypeId}{cs:Array Value}(h:Only g w w')(hb:Blk w k t cs)(hne:k≠g):Blk w' k t cs :=
  (h.1.block k hb.lt (fun e=>hne (by injection e))).trans hb
theorem Only.setCell {g:Nat}{w w':World}(h:Only g w w')(i:Nat)(u:Value):Only g w (w'.setCell ⟨g,i,none⟩ u):=by
  refine⟨⟨h.1.os,h.1.tape,h.1.output,by simpa [World.setCell] using h.1.size,fun k hk hne=>?_⟩,by simpa [World.setCell] using h.2⟩
  rw[Below.heap_setCell _ _ _ _ (by rintro rfl;exact hne rfl)]
  exact h.1.block k hk hne
theorem Only.setRow {w:World}{g:Nat}{t:TypeId}{cur:Array Value}(cs:Array Value):Only g w (w.setRow g cs) :=
  ⟨⟨rfl,rfl,rfl,by simp[World.setRow],fun k hk hne=>setRow_other w g k cs (fun e=>hne (by rw[e]))⟩,by simp[World.setRow]⟩
theorem bts_src {w:World} {B sLen sCap:Nat} {sp:Option Addr} {ys:List Nat} (hr:Bts w B (.slice sp sLen sCap) ys) (h0:0 < ys.length) :
    ∃ ad,sp=some ad∧∀ j v,(ys.map bv)[j]?=some v→w.cell? (ad.add j)=some v:=by
  obtain⟨A,m,c,hv,hl,hm,⟨hc,hnn⟩,hcm,hb,hcell⟩:=hr
  injection hv with e1 e2 e3
  subst e1 e2 e3
  obtain⟨b,off',he,_,hc'⟩:=hcell (by omega)
  refine⟨_,he,fun j v hv=>?_⟩
  have hj:j < ys.length:=by
    have:=(List.getElem?_eq_some_iff.1 hv).1
    simpa using this
  have hcj:=hc' j (by omega)
  simp[hj] at hv hcj
  subst hv
  have e2:(Addr.mk b off' none).add j=⟨b,off'+j,none⟩:=by unfold Addr.add;split <;> simp_all
  rw[e2,hcj]
  rfl
theorem bts_len {w:World}{B sLen sCap:Nat}{sp:Option Addr}{ys:List Nat}(hr:Bts w B (.slice sp sLen sCap) ys):ys.length=sLen:=by
  obtain⟨A,m,c,hv,hl,_⟩:=hr
  injection hv with e1 e2 e3
  omega
theorem run_copy_bts {P:Program} {w:World} (dT sT ty:TypeId) (elem:TypeId) (hu:P.underlying dT=some (.slice elem)) (hsz:(P.info? elem).map (·.size)=some 1)
    (dp sp:Option Addr) (dLen dCap sLen sCap:Nat) (g off:Nat) (cur:Array Value) (t:TypeId) (hg:Blk w g t cur) (ys:List Nat) (B:Nat) (hr:Bts w B (.slice sp sLen sCap) ys)
    (hn:ys.length≤dLen) (hp:0 < ys.length→dp=some ⟨g,off,none⟩) (hfit:off+ys.length≤cur.size) :
    ∃ w',(Builtin.copy_ #[dT,sT] ty #[.slice dp dLen dCap,.slice sp sLen sCap]).run P w=.ok (goInt (ys.map bv).length) w'∧Blk w' g t (splice cur.toList off (ys.map bv)).toArray∧Only g w w':=by
  have hl:=bts_len hr
  by_cases h0:ys.length=0
  · obtain rfl:ys=[]:=List.eq_nil_of_length_eq_zero h0
    refine⟨w,?_,by simpa [splice] using hg,Only.refl _ _⟩
    have hrun:=run_copy_none (P:=P) w dT sT ty elem dp sp dLen dCap sLen sCap hu hsz (by simp at hl;rw[← hl];simp)
    simpa using hrun
  · obtain⟨ad,rfl,hsrc⟩:=bts_src hr (by omega)
    obtain rfl:=hp (by omega)
    have hrun:=run_copy_row (P:=P) w dT sT ty elem g off dLen dCap ad sLen sCap cur t (ys.map bv) hu hsz hg (by simp only[List.length_map,hl];exact (Nat.min_eq_left (by omega)).symm) hsrc (by simpa using hfit) (map_bv_one ys)
    exact⟨_,hrun,show _=_ by simpa [splice] using setRow_heap w g _ _ t _ hg,Only.setRow (cur:=cur) (t:=t) _⟩
theorem wpList_copy_bts {P:Program} {w:World} {ops:Array Oper} {rest:List Oper} {o:Oper} {a:Act} {Q:Exit→Act→World→Prop} (hgd:o.guard=none) (d s:Operand) (dT sT:TypeId)
    (ho:o.op=.call { callee:=.builtin .copy,args:=#[d,s],argTypes:=#[dT,sT] }) (elem:TypeId) (hu:P.underlying dT=some (.slice elem)) (hsz:(P.info? elem).map (·.size)=some 1)
    (dp sp:Option Addr) (dLen dCap sLen sCap:Nat) (hd:a.eval d=.slice dp dLen dCap) (hs:a.eval s=.slice sp sLen sCap)
    (g off:Nat) (cur:Array Value) (t:TypeId) (hg:Blk w g t cur) (ys:List Nat) (B:Nat) (hr:Bts w B (.slice sp sLen sCap) ys)
    (hn:ys.length≤dLen) (hp:0 < ys.length→dp=some ⟨g,off,none⟩) (hfit:off+ys.length≤cur.size)
    (h:∀ w',Hid (Blk w' g t (splice cur.toList off (ys.map bv)).toArray)→Hid (Only g w w')→wpList P ops Q rest (a.put o.dst (goInt (ys.map bv).length)) w'):wpList P ops Q (o :: rest) a w:=by
  refine wpList_plain hgd fun K hK=>?_
  obtain⟨w',hrun,h1,h2⟩:=run_copy_bts dT sT o.type elem hu hsz dp sp dLen dCap sLen sCap g off cur t hg ys B hr hn hp hfit
  unfold Oper.wp
  simp[execOp,ho,resolve,invoke,builtin,hd,hs,hrun,Result.andThen]
  exact hK _ _ (by simpa using h w' h1 h2)
def zs (n:Nat):Array Value:=Array.replicate n (bv 0)
theorem zs_size (n:Nat):(zs n).size=n:=by simp[zs]
theorem madeCells_zs (n:Nat):madeCells (Value.int .u8 0).cells (n * 1)=zs n:=by
  apply Array.ext
  · simp[madeCells,zs]
  · intro i h1 h2
    simp[madeCells,zs,Value.cells,bv,Nat.mod_one]
theorem run_make_zs {P:Program} (t e:TypeId) (i:TypeInfo) (ht:P.underlying t=some (.slice e)) (hi:P.info? e=some i) (hz:i.zero=some (.int .u8 0)) (hs:i.size=1) (hb:i.bytes=1)
    (n:Nat) (hn:n≤1000000) (w:World) :
    (Instr.makeSlice t (.int .i64 (n:Int)) (.int .i64 (n:Int))).run P w=.ok (.slice (some ⟨w.heap.size,0,none⟩) n n) (w.alloc (.cells (zs n) e)):=by
  have hr:=run_make (P:=P) w t e i (.int .u8 0) ht hi hz .i64 .i64 n n (by omega) (by omega) (by rw[hb];omega) (by omega)
  simp only[Int.toNat_natCast,hs,madeCells_zs] at hr
  exact hr
theorem splice_get {α:Type} (L:List α) (off:Nat) (cs:List α) (h:off+cs.length≤L.length) (j:Nat) :
    (splice L off cs)[j]?=if off≤j∧j < off+cs.length then cs[j - off]? else L[j]?:=by
  have hp:(L.take off).length=off:=by simp;omega
  unfold splice
  by_cases h1:j < off
  · rw[if_neg (by omega),List.getElem?_append_left (by omega),List.getElem?_take,if_pos h1]
  · rw[List.getElem?_append_right (by omega),hp]
    by_cases h2:j < off+cs.length
    · rw[if_pos ⟨by omega,h2⟩,List.getElem?_append_left (by omega)]
    · rw[if_neg (by omega),List.getElem?_append_right (by omega),List.getElem?_drop,show off+cs.length+(j - off - cs.length)=j by omega]
theorem splice_zs (n:Nat)(ys:List Nat)(h:ys.length=n):(splice (zs n).toList 0 (ys.map bv)).toArray=(ys.map bv).toArray:=by
  congr 1
  subst h
  simp[splice,zs]
theorem Bts.of_whole {w:World}{g n:Nat}{t:TypeId}{xs:List Nat}(h:Blk w g t (xs.map bv).toArray)(hl:xs.length=n)(hn:n≤maxLen)(hb:∀ y∈xs,y < 256):Bts w w.heap.size (.slice (some ⟨g,0,none⟩) n n) xs:=by
  refine Bts.of_blk h h.lt hl (Nat.le_refl _) hn (fun j hj=>?_) (fun j hj=>?_)
  · have hj':j < xs.length:=by omega
    have:=hb _ (List.getElem_mem hj')
    simpa [hj'] using this
  · have hj':j < xs.length:=by omega
    simp[hj']
end Go.Proofs.YtaonpmclkafjdaaGreat
namespace Go.Proofs.YtaonpmclkafjdaaGreat
open Go.RowKit
set_option linter.unusedVariables false
def upd {α:Type}(F:Nat→α)(f:Nat)(v:α):Nat→α:=fun k=>if k=f then v else F k
theorem upd_same {α:Type}(F:Nat→α)(f:Nat)(v:α):upd F f v f=v:=by simp[upd]
theorem upd_other {α:Type}(F:Nat→α)(f:Nat)(v:α){k:Nat}(h:k≠f):upd F f v k=F k:=by simp[upd,h]
def Over (cur cur':Array Value)(o:Nat)(vs:List Value):Prop:=cur'.size=cur.size∧∀ j,cur'[j]?=if o≤j∧j < o+vs.length then vs[j - o]? else cur[j]?
theorem Over.splice_ {cur:Array Value}{o:Nat}{vs:List Value}(h:o+vs.length≤cur.size):Over cur (splice cur.toList o vs).toArray o vs:=by
  refine⟨by simp[splice];omega,fun j=>?_⟩
  rw[List.getElem?_toArray,splice_get _ _ _ (by simpa using h)]
  simp
theorem Blk.setCells {g:Nat}{t:TypeId}:∀ (vs:List Value) (o:Nat) {w:World} {cur:Array Value},Blk w g t cur→o+vs.length≤cur.size→∃ cur',Blk (w.setCells g o vs) g t cur'∧Over cur cur' o vs
  | [],o,w,cur,h,_=>⟨cur,h,rfl,fun j=>by rw[if_neg (by simp)]⟩
  | v :: r,o,w,cur,h,hs=>by
    rw[List.length_cons] at hs
    obtain⟨cur',h1,h2,h3⟩:=Blk.setCells r (o+1) (h.set_ o v) (by simp;omega)
    refine⟨cur',h1,by simpa using h2,fun j=>?_⟩
    rw[h3 j,List.length_cons,Array.getElem?_setIfInBounds]
    by_cases c1:o=j
    · subst c1
      rw[if_neg (by omega),if_pos rfl,if_pos (by omega),if_pos (by omega)]
      simp
    · rw[if_neg c1]
      by_cases c2:o+1≤j∧j < o+1+r.length
      · rw[if_pos c2,if_pos (by omega),show j - o=(j - (o+1))+1 by omega,List.getElem?_cons_succ]
      · rw[if_neg c2,if_neg (by omega)]
theorem Only.setCells {g:Nat}:∀ (vs:List Value) (o:Nat) {w w':World},Only g w w'→Only g w (w'.setCells g o vs)
  | [],_,_,_,h=>h
  | v :: r,o,_,_,h=>Only.setCells r (o+1) (h.setCell o v)
theorem Only.drew {g:Nat}{w w':World}(h:Only g w w'):Only g w w'.drew:=⟨⟨h.1.os,h.1.tape,h.1.output,h.1.size,h.1.block⟩,h.2⟩
def zer:List Nat:=List.replicate 64 0
theorem zer_length:zer.length=64:=by simp[zer]
theorem zer_byte:∀ y∈zer,y < 256:=by
  intro y hy
  rw[List.eq_of_mem_replicate hy]
  omega
theorem over_all (xs ys:List Nat)(h:xs.length=ys.length):over xs 0 ys=ys:=by
  simp[over,h]
structure Turns (M:Nat→Prop)(w w':World):Prop where
  os:w'.os=w.os
  tape:w'.tape=w.tape
  output:w'.output=w.output
  size:w.heap.size≤w'.heap.size
  block:∀ k,k < w.heap.size→¬ M k→w'.heap[k]?=w.heap[k]?
section
variable {M M':Nat→Prop}{w w' w'':World}
theorem Turns.refl (M:Nat→Prop)(w:World):Turns M w w:=⟨rfl,rfl,rfl,Nat.le_refl _,fun _ _ _=>rfl⟩
theorem Turns.trans (h:Turns M w w')(k:Turns M w' w''):Turns M w w'' :=
  ⟨k.os.trans h.os,k.tape.trans h.tape,k.output.trans h.output,Nat.le_trans h.size k.size,fun i hi hm=>(k.block i (Nat.lt_of_lt_of_le hi h.size) hm).trans (h.block i hi hm)⟩
theorem Turns.mono (h:Turns M w w')(hm:∀ k,M k→M' k):Turns M' w w':=⟨h.os,h.tape,h.output,h.size,fun k hk hn=>h.block k hk (fun hk'=>hn (hm k hk'))⟩
theorem Turns.of_grown {row:Option Nat}(h:w.grownBy w' row)(hm:∀ k,row=some k→M k):Turns M w w':=⟨h.os,h.tape,h.output,h.size,fun k hk hn=>h.block k hk (fun e=>hn (hm k e.symm))⟩
theorem Turns.of_only {g:Nat}(h:Only g w w')(hm:M g):Turns M w w':=Turns.of_grown h.1 (fun k e=>by injection e with e;exact e ▸ hm)
theorem Turns.of_below {B:Nat}(h:Below B w w')(hB:w.heap.size≤B):Turns M w w':=⟨h.os,h.tape,h.output,h.size,fun k hk _=>h.block k (Nat.lt_of_lt_of_le hk hB)⟩
theorem Turns.alloc (h:Turns M w w')(o:Obj):Turns M w (w'.alloc o):=h.trans (Turns.of_below ((Below.refl _ _).alloc (Nat.le_refl _) _) (Nat.le_refl _))
theorem Turns.drew (h:Turns M w w'):Turns M w w'.drew:=⟨h.os,h.tape,h.output,h.size,h.block⟩
theorem Turns.below (h:Turns M w w'){B:Nat}(hm:∀ k,M k→B≤k)(hB:B≤w.heap.size):Below B w w' :=
  ⟨h.os,h.tape,h.output,h.size,fun k hk=>h.block k (Nat.lt_of_lt_of_le hk hB) (fun hk'=>by have:=hm k hk';omega)⟩
theorem Turns.new_ {g:Nat}(h:Turns M w w')(k:Only g w' w'')(hg:w.heap.size≤g):Turns M w w'' :=
  ⟨k.1.os.trans h.os,k.1.tape.trans h.tape,k.1.output.trans h.output,Nat.le_trans h.size k.1.size,fun i hi hm=>(k.1.block i (Nat.lt_of_lt_of_le hi h.size) (fun e=>by injection e with e;omega)).trans (h.block i hi hm)⟩
theorem Turns.blk (h:Turns M w w'){g:Nat}{t:TypeId}{cs:Array Value}(hb:Blk w g t cs)(hm:¬ M g):Blk w' g t cs:=(h.block g hb.lt hm).trans hb
end
theorem over_whole {cur cur' vs:Array Value}(h:Over cur cur' 0 vs.toList)(hs:cur.size=vs.size):cur'=vs:=by
  obtain⟨h1,h2⟩:=h
  apply Array.ext
  · omega
  · intro i c1 c2
    have:=h2 i
    rw[if_pos (by simp;omega),Nat.sub_zero] at this
    simp[c1,c2] at this
    exact this
theorem wpList_store_blk {P:Program} {w:World} {ops:Array Oper} {rest:List Oper} {op:Oper} {a:Act} {Q:Exit→Act→World→Prop} (hgd:op.guard=none) (ty:TypeId) (x y:Operand) (ho:op.op=.store ty x y)
    (b:Nat) (t:TypeId) (cur:Array Value) (xs:List Nat) (hb:Blk w b t cur) (hx:a.eval x=.pointer (some ⟨b,0,none⟩)) (hy:a.eval y=.agg (xs.map bv).toArray) (hs:cur.size=xs.length) (hi:(P.info? ty).map (·.size)=some xs.length)
    (h:∀ w',Hid (Blk w' b t (xs.map bv).toArray)→Hid (Only b w w')→wpList P ops Q rest (a.put op.dst undef) w'):wpList P ops Q (op :: rest) a w:=by
  have hth:w.there b 0 (xs.map bv).toArray.size:=by
    intro j hj
    have hj':j < cur.size:=by simpa [hs] using hj
    exact⟨by rw[hb.cell,Nat.zero_add,Array.getElem?_eq_getElem hj'];rfl,hb.frozen _⟩
  refine wpList_store_mid hgd ty x y ho b 0 (xs.map bv).toArray hx hy hth (by simpa using hi) (all_oneCell_toArray (map_bv_one xs)) (h _ ?_ (Only.setCells _ _ (Only.refl _ _)))
  obtain⟨cur',h1,h2⟩:=Blk.setCells ((xs.map bv).toArray.toList) 0 hb (by simp;omega)
  rw[over_whole h2 (by simpa using hs)] at h1
  exact h1
theorem Blk.range_ {w:World}{b:Nat}{t:TypeId}{vs:List Value}(h:Blk w b t vs.toArray):w.rangeAt b 0 vs:=by
  intro j v hv
  rw[h.cell,Nat.zero_add]
  simpa using hv
end Go.Proofs.YtaonpmclkafjdaaGreat
namespace Go.Proofs.YtaonpmclkafjdaaGreat
open Go.RowKit
set_option linter.unusedVariables false
def sumM (xs:List Nat):Nat:=(sumN xs / 4294967296) ^^^ (sumN xs % 4294967296)
theorem le_numL_lt (v n:Nat)(h:v < 2 ^ (8 * n)):le (numL v n)=v:=by rw[le_numL,Nat.mod_eq_of_lt h]
theorem win_whole (xs:List Nat)(n:Nat)(h:xs.length=n):win xs 0 n=xs:=by
  unfold win
  rw[List.drop_zero]
  exact List.take_of_length_le (by omega)
theorem win_getD (xs:List Nat)(a k j:Nat)(hj:j < k):(win xs a k).getD j 0=xs.getD (a+j) 0:=by
  unfold win
  simp only[List.getD_eq_getElem?_getD,List.getElem?_take,if_pos hj,List.getElem?_drop]
theorem win_zero (xs:List Nat)(a k:Nat)(hl:a+k≤xs.length)(h:∀ j,a≤j→j < a+k→xs.getD j 0=0):win xs a k=List.replicate k 0:=by
  have hwl:=win_length xs a k hl
  apply List.ext_getElem
  · simp[hwl]
  · intro j h1 h2
    have h3:=win_getD xs a k j (by omega)
    rw[h (a+j) (by omega) (by omega)] at h3
    simp only[List.getElem_replicate]
    simpa [List.getD_eq_getElem?_getD,List.getElem?_eq_getElem h1] using h3
def headL (gen n:Nat)(b:List Nat):List Nat:=numL gen 4 ++ (numL n 4 ++ ([b.length] ++ (b ++ List.replicate (51 - b.length) 0)))
def secL (gen n:Nat)(b:List Nat):List Nat:=headL gen n b ++ numL (sumM (headL gen n b)) 4
def IsRec (s:List Nat)(gen n:Nat):Prop:=s.getD 8 0≤50∧secL gen n (win s 9 (s.getD 8 0))=s
instance (s:List Nat) (gen n:Nat):Decidable (IsRec s gen n):=by unfold IsRec;infer_instance
section
variable {gen n:Nat}{b:List Nat}
end
section
variable {gen n:Nat}{b:List Nat}(h:b.length≤50)
include h
end
end Go.Proofs.YtaonpmclkafjdaaGreat
namespace Go.Proofs.YtaonpmclkafjdaaGreat
open Go.RowKit
set_option linter.unusedVariables false
def preL (g:Nat)(b:List Nat):List Nat:=numL g 4 ++ numL b.length 4
def hedL (g:Nat)(b:List Nat):List Nat:=preL g b ++ (numL (sumM (preL g b ++ b)) 4 ++ List.replicate 52 0)
def sloG (F:Nat→List Nat)(w:Nat):Nat:=le (win (F (64+16 * w)) 0 4)
def sloN (F:Nat→List Nat)(w:Nat):Nat:=le (win (F (64+16 * w)) 4 4)
def sloA (F:Nat→List Nat)(w:Nat):List Nat:=((List.range 15).map (fun j=>F (65+16 * w+j))).flatten
def sloB (F:Nat→List Nat)(w:Nat):List Nat:=(sloA F w).take (sloN F w)
def Whole (F:Nat→List Nat)(w:Nat):Prop:=sloN F w≤960∧sloG F w % 2=w∧hedL (sloG F w) (sloB F w)=F (64+16 * w)
instance (F:Nat→List Nat) (w:Nat):Decidable (Whole F w):=by unfold Whole;infer_instance
end Go.Proofs.YtaonpmclkafjdaaGreat
namespace Go.Proofs.YtaonpmclkafjdaaGreat
open Go.RowKit
open Go.Maps (Keyed)
open Go.WideElems (Fit rd rg pl rd_key rd_val rg_of)
open Go.WideShapes
set_option linter.unusedVariables false
theorem bv_inj {x y:Nat}(h:bv x=bv y):x=y:=by
  unfold bv at h
  injection h with _ h
  omega
theorem map_bv_inj:∀ {xs ys:List Nat},xs.map bv=ys.map bv→xs=ys
  | [],[],_=>rfl
  | [],y :: s,h=>by simp at h
  | x :: r,[],h=>by simp at h
  | x :: r,y :: s,h=>by
    rw[List.map_cons,List.map_cons] at h
    injection h with h1 h2
    rw[bv_inj h1,map_bv_inj h2]
def secV (xs:List Nat):Value:=.agg (xs.map bv).toArray
theorem secV_inj {xs ys:List Nat}(h:secV xs=secV ys):xs=ys:=by
  unfold secV at h
  injection h with h
  exact map_bv_inj (by simpa using congrArg Array.toList h)
abbrev SDat:=DataW (List Nat)
open Classical in
noncomputable def secR (v:Value):Option (SDat × List MemPlace):=if h:∃ xs,v=secV xs then some (.held (Classical.choose h),[]) else none
theorem secR_mk (xs:List Nat):secR (secV xs)=some (.held xs,[]):=by
  have h:∃ ys,secV xs=secV ys:=⟨xs,rfl⟩
  unfold secR
  rw[dif_pos h,secV_inj (Classical.choose_spec h).symm]
theorem secR_inv {v:Value}{y:SDat × List MemPlace}(h:secR v=some y):∃ xs,v=secV xs∧y=(.held xs,[]):=by
  unfold secR at h
  split at h
  · rename_i hx
    injection h with h
    exact⟨_,Classical.choose_spec hx,h.symm⟩
  · cases h
def lookD (D:SDat)(k:Nat):Option (List Nat) :=
  match D.atKey (.int .i64 (k:Int)) .nil with
  | .held xs=>some xs
  | _=>none
section
variable {P:Program}{k:TypeId}{w w':World}{b m:Nat}{D:SDat}
theorem own_held (h:w.ownsMap P k secR b m D)(K:Keyed P k):∃ E,D=.map E∧E.Pairwise (fun p q=>p.1≠q.1)∧(∀ p∈E,WideAt.IsKeyLit p.1∧∃ xs,p.2=.held xs)∧w.ownsMap P k secR b E.length D:=by
  obtain⟨es,clock,hb,F,hs,rfl⟩:=h
  refine⟨_,rfl,((sorted_perm _).pairwise_iff (fun {_ _} hne=>Ne.symm hne)).2 (Maps.fit_apart K F),fun p hp=>?_,es,clock,hb,F,by rw[length_sorted];simp,rfl⟩
  obtain⟨x,hx,rfl⟩:=List.mem_map.1 (mem_sorted.1 hp)
  obtain⟨y,hy⟩:=F.reads x hx
  rw[rg_of hy]
  obtain⟨z,hz,h2⟩:=rd_val hy
  obtain⟨xs,_,rfl⟩:=secR_inv hz
  exact⟨K.key (rd_key hy),xs,h2⟩
theorem own_far (h:w.ownsMap P k secR b m D)(hb:w'.heap[b]?=w.heap[b]?):w'.ownsMap P k secR b m D:=by
  obtain⟨es,clock,h1,h2⟩:=h
  exact⟨es,clock,hb.trans h1,h2⟩
theorem has_look (h:w.ownsMap P k secR b m D)(K:Keyed P k)(j:Nat):Maps.has D (.int .i64 (j:Int))=(lookD D j).isSome:=by
  obtain⟨E,rfl,_,h2,_⟩:=own_held h K
  unfold lookD
  simp only[DataW.atKey,Maps.has]
  cases hf:E.find? (fun p=>p.1.sameKey (.int .i64 (j:Int))) with
  | none =>
    rw[List.find?_eq_none] at hf
    simp only[Option.isSome_none]
    exact List.any_eq_false.2 hf
  | some p =>
    obtain⟨xs,hx⟩:=(h2 p (List.mem_of_find?_eq_some hf)).2
    simp only[hx,Option.isSome_some]
    exact List.any_eq_true.2 ⟨p,List.mem_of_find?_eq_some hf,by have:=List.find?_some hf;exact this⟩
theorem at_look (h:w.ownsMap P k secR b m D)(K:Keyed P k){j:Nat}{xs:List Nat}(hl:lookD D j=some xs)(zd:SDat):D.atKey (.int .i64 (j:Int)) zd=.held xs:=by
  obtain⟨E,rfl,_,h2,_⟩:=own_held h K
  unfold lookD at hl
  simp only[DataW.atKey] at hl ⊢
  cases hf:E.find? (fun p=>p.1.sameKey (.int .i64 (j:Int))) with
  | none=>rw[hf] at hl;simp at hl
  | some p =>
    obtain⟨ys,hx⟩:=(h2 p (List.mem_of_find?_eq_some hf)).2
    rw[hf] at hl
    simp only[hx,Option.some.injEq] at hl ⊢
    rw[hl]
end
theorem length_below:∀ (n:Nat) (l:List Nat),l.Nodup→(∀ x∈l,x < n)→l.length≤n
  | 0,l,_,h=>by
    cases l with
    | nil=>exact Nat.le_refl _
    | cons x r=>exact absurd (h x (List.mem_cons_self ..)) (by omega)
  | n+1,l,hd,h=>by
    by_cases hn:n∈l
    · have h1:=List.length_erase_of_mem hn
      have h2:=length_below n (l.erase n) (hd.erase n) (fun x hx=>by
        have hx1:=(List.Nodup.mem_erase_iff hd).1 hx
        have:=h x hx1.2
        omega)
      omega
    · have h2:=length_below n l hd (fun x hx=>by
        have:=h x hx
        have:x≠n:=fun e=>hn (e ▸ hx)
        omega)
      omega
def Loo (P:Program)(k:TypeId)(w:World)(b n:Nat)(L:Nat→Option (List Nat)):Prop :=
  ∃ m D,w.ownsMap P k secR b m D∧(∀ j,lookD D j=L j)∧∀ kl,Maps.has D kl=true→∃ j:Nat,j < n∧kl=.int .i64 (j:Int)
section
variable {P:Program}{k t e:TypeId}{w w':World}{b n:Nat}{L:Nat→Option (List Nat)}
theorem Loo.far (h:Loo P k w b n L)(hb:w'.heap[b]?=w.heap[b]?):Loo P k w' b n L:=by
  obtain⟨m,D,h1,h2⟩:=h
  exact⟨m,D,own_far h1 hb,h2⟩
theorem Loo.blk (h:Loo P k w b n L):b < w.heap.size:=by
  obtain⟨m,D,h1,_⟩:=h
  exact h1.lt
theorem Loo.map_ (h:Loo P k w b n L):∃ es clock,w.heap[b]?=some (.map es clock):=by
  obtain⟨m,D,⟨es,clock,h1,_⟩,_⟩:=h
  exact⟨es,clock,h1⟩
theorem Loo.lt (h:Loo P k w b n L)(K:Keyed P k){j:Nat}{xs:List Nat}(hj:L j=some xs):j < n:=by
  obtain⟨m,D,h1,h2,h3⟩:=h
  have hh:=has_look h1 K j
  rw[h2 j,hj] at hh
  obtain⟨i,hi,e⟩:=h3 _ hh
  injection e with _ e
  omega
theorem Loo.tight (h:Loo P k w b n L)(K:Keyed P k):∃ D,w.ownsMap P k secR b n D∧(∀ j,lookD D j=L j)∧∀ kl,Maps.has D kl=true→∃ j:Nat,j < n∧kl=.int .i64 (j:Int):=by
  obtain⟨m,D,h1,h2,h3⟩:=h
  obtain⟨E,rfl,hp,hk,ht⟩:=own_held h1 K
  refine⟨_,ht.mono ?_,h2,h3⟩
  have key:∀ p∈E,∃ j:Nat,j < n∧p.1=.int .i64 (j:Int):=fun p hp'=>h3 p.1 (List.any_eq_true.2 ⟨p,hp',WideAt.sameKey_self (hk p hp').1⟩)
  have nat:∀ l:Lit,Nat:=fun l=>match l with | .int _ a=>a.toNat | _=>0
  let f:Lit × SDat→Nat:=fun p=>match p.1 with | .int _ a=>a.toNat | _=>0
  have hf:∀ p∈E,f p < n∧p.1=.int .i64 ((f p:Nat):Int):=by
    intro p hp'
    obtain⟨j,hj,ej⟩:=key p hp'
    have:f p=j:=by show (match p.1 with | .int _ a=>a.toNat | _=>0)=j;rw[ej];simp
    rw[this]
    exact⟨hj,ej⟩
  have h5:=length_below n (E.map f) (List.pairwise_map.2 (hp.imp_of_mem fun {p q} hp' hq' hne e=>hne (by rw[(hf p hp').2,(hf q hq').2,e]))) (fun x hx=>by
    obtain⟨p,hp',rfl⟩:=List.mem_map.1 hx
    exact (hf p hp').1)
  simpa using h5
theorem Loo.made (w:World)(P:Program)(k:TypeId)(n:Nat):Loo P k (w.alloc (.map #[] 0)) w.heap.size n (fun _=>none) :=
  ⟨0,.map [],World.ownsMap_made _ _ _ _,fun j=>rfl,fun kl h=>by cases h⟩
theorem wf_nat (j:Nat)(hj:j≤1000000):(Lit.int .i64 (j:Int)).wf=true:=WalkArith.wf_i64 (by omega)
theorem Loo.run_look (h:Loo P k w b n L) (hk:P.underlying k=some (.int .i64)) (ht:P.underlying t=some (.map k e)) {z:List Nat} (hz:(zeroValue e).run P w=.ok (secV z) w) (j:Nat) (hj:j≤1000000) :
    (Instr.lookup t (.map (some b)) (.int .i64 (j:Int)) true).run P w=.ok (.tuple #[secV ((L j).getD z),.bool (L j).isSome]) w:=by
  obtain⟨m,D,h1,h2,h3⟩:=h
  have K:=Maps.int_keyed hk
  obtain⟨v,ps,hrun,hv⟩:=h1.look_ok K ht hz (secR_mk z) (Maps.keyOf_int_mk hk (wf_nat j hj))
  obtain⟨xs,rfl,hx⟩:=secR_inv hv
  rw[has_look h1 K,h2] at hrun
  injection hx with hx _
  cases hl:L j with
  | some ys =>
    rw[at_look h1 K (by rw[h2,hl])] at hx
    injection hx with hx
    rw[hrun,hl,hx]
    rfl
  | none =>
    have hno:Maps.has D (.int .i64 (j:Int))=false:=by rw[has_look h1 K,h2,hl];rfl
    rw[Maps.atKey_of_not_has hno] at hx
    injection hx with hx
    rw[hrun,hl,hx]
    rfl
theorem turned_only (h:w.mapTurned w' b):Only b w w':=by
  refine⟨h.grown,?_⟩
  obtain⟨es,clock,es',clock',hb,rfl⟩:=h
  simp[ChangeMaps.setBlock]
theorem Loo.run_store (h:Loo P k w b n L) (hk:P.underlying k=some (.int .i64)) (ht:P.underlying t=some (.map k e)) (hn:n≤1000000) (j:Nat) (hj:j < n) (xs:List Nat) :
    ∃ w',(Instr.mapUpdate t (.map (some b)) (.int .i64 (j:Int)) (secV xs)).run P w=.ok () w'∧Loo P k w' b n (upd L j (some xs))∧Only b w w':=by
  have K:=Maps.int_keyed hk
  obtain⟨D,h1,h2,h3⟩:=h.tight K
  have hkey:=Maps.keyOf_int_mk hk (wf_nat j (by omega))
  obtain⟨w',hrun,h4,h5⟩:=h1.store K ht (by unfold maxLen;omega) hkey (secR_mk xs)
  refine⟨w',hrun,⟨_,_,h4,fun i=>?_,fun kl hkl=>?_⟩,turned_only h5⟩
  · by_cases e:i=j
    · subst e
      rw[upd_same]
      unfold lookD
      rw[Maps.atKey_put_same h1.isMap (K.key hkey)]
    · rw[upd_other _ _ _ e,← h2 i]
      unfold lookD
      rw[Maps.atKey_put_other (fun he=>e (by injection he with _ he;omega))]
  · by_cases e:kl=.int .i64 (j:Int)
    · exact⟨j,hj,e⟩
    · rw[Maps.has_put_other e] at hkl
      exact h3 kl hkl
end
end Go.Proofs.YtaonpmclkafjdaaGreat
namespace Go.Proofs.YtaonpmclkafjdaaGreat
open Go.RowKit
open Go.Maps (Keyed)
set_option linter.unusedVariables false
def Ran (P:Program)(k:TypeId)(w:World)(b r n:Nat)(L:Nat→Option (List Nat))(left:Nat→Bool)(cnt:Nat):Prop :=
  ∃ m D lf,w.ranges P k secR b r m D lf cnt∧(∀ j,lookD D j=L j)∧(∀ kl,Maps.has D kl=true→∃ j:Nat,j < n∧kl=.int .i64 (j:Int))∧(∀ j:Nat,lf (.int .i64 (j:Int))=left j)∧∀ kl,lf kl=true→Maps.has D kl=true
section
variable {P:Program}{k t e:TypeId}{w w':World}{b r n cnt:Nat}{L:Nat→Option (List Nat)}{left:Nat→Bool}
end
end Go.Proofs.YtaonpmclkafjdaaGreat
namespace Go.Proofs.YtaonpmclkafjdaaGreat
open Go.RowKit
set_option linter.unusedVariables false
def El (w:World)(M:Nat→Prop)(lo:Nat)(e:TypeId)(v:Value)(xs:List Nat):Prop :=
  ∃ A n c,v=.slice A n c∧xs.length=n∧n≤c∧(A=none→c=0)∧c≤maxLen∧(∀ j,j < n→xs.getD j 0 < 256) ∧
    (0 < n→∃ b off,A=some ⟨b,off,none⟩∧¬ M b∧b < w.heap.size∧(b < lo∨∃ cs t fr,w.heap[b]?=some (.cells cs t fr)∧t≠e) ∧
      ∀ j,j < n→w.cell? ⟨b,off+j,none⟩=some (.int .u8 ((xs.getD j 0:Nat):Int)))
section
variable {w w':World}{M:Nat→Prop}{lo base:Nat}{e:TypeId}{v:Value}{xs:List Nat}
end
def Lst (w:World)(M:Nat→Prop)(lo base:Nat)(e:TypeId)(v:Value)(xss:List (List Nat)):Prop :=
  ∃ vs,w.ownsRow base e 1 v xss.length vs∧∀ j,j < xss.length→∃ u,vs[j]?=some u∧El w M lo e u (xss.getD j [])
section
variable {w w':World}{M:Nat→Prop}{lo base:Nat}{e:TypeId}{v:Value}{xss:List (List Nat)}
end
section
variable {w w':World}{v:Value}{xss:List (List Nat)}
end
section
variable {P:Program}{w:World}{ops:Array Oper}{rest:List Oper}{o:Oper}{a:Act}{Q:Exit→Act→World→Prop}
end
end Go.Proofs.YtaonpmclkafjdaaGreat
namespace Go.Proofs.YtaonpmclkafjdaaGreat
open Go.RowKit
set_option linter.unusedVariables false
section
variable {P:Program}{w:World}
theorem step_append_run {ops:Array Oper} {o:Oper} {a:Act} {K:Act→World→Prop} {Q:Exit→Act→World→Prop} {E:Prop} (hgd:o.guard=none) (s x:Operand) (t:TypeId)
    (ho:o.op=.call { callee:=.builtin .append,args:=#[s,x],argTypes:=#[t,t] }) (v u:Value) (hs:a.eval s=v) (hx:a.eval x=u) (v':Value) (w':World) (hr:(Builtin.append_ #[t,t] o.type #[v,u]).run P w=.ok v' w')
    (h:K (a.put o.dst v') w'):if Region.wanted o (yielded ops a.tmps)=true then Oper.wp P o a w K Q else E:=by
  have hw:Region.wanted o (yielded ops a.tmps)=true:=by simp[Region.wanted,hgd]
  rw[if_pos hw]
  unfold Oper.wp execOp
  simp only[ho,resolve,invoke,builtin,Sem.run_bind,Sem.run_pure,Result.andThen_ok,List.map_toArray,List.map_cons,List.map_nil,hs,hx,hr]
  exact h
end
section
variable {P:Program}{wr:World}(t ty ty' e:TypeId)(M:Nat→Prop)(lo base:Nat)(i:TypeInfo)(ht:P.underlying t=some (.slice e))(hi:P.info? e=some i)(hz:i.zero=some (.slice none 0 0))(hsize:i.size=1)(hby:i.bytes=24)
  (nv:Value) (ys:List (List Nat)) (hl:Lst wr M lo base e nv ys) (u:Value) (x:List Nat) (hu:∀ w',Below wr.heap.size wr w'→El w' M lo e u x) (hM:∀ k,M k→k < base) (hfew:ys.length+1≤1000000) (hbase:base≤wr.heap.size) (hlo:lo≤base)
include ht hi hz hsize hby hl hu hM hfew hbase hlo
end
end Go.Proofs.YtaonpmclkafjdaaGreat
namespace Go.Proofs.YtaonpmclkafjdaaGreat
open Go.RowKit
set_option linter.unusedVariables false
def LsO (w0 w:World)(base:Nat)(e:TypeId)(v:Value)(xss:List (List Nat)):Prop :=
  ∃ vs,w.ownsRow base e 1 v xss.length vs∧∀ j,j < xss.length→∃ u,vs[j]?=some u∧Bts w0 w0.heap.size u (xss.getD j [])
section
variable {w0 w w':World}{M:Nat→Prop}{base:Nat}{e:TypeId}{v:Value}{xss:List (List Nat)}
end
section
variable {P:Program}{w0 w:World}
end
section
variable {w0 w w':World}{M:Nat→Prop}{base:Nat}{eS e:TypeId}{v:Value}{sts:List (List Nat × List (List Nat))}
end
end Go.Proofs.YtaonpmclkafjdaaGreat
namespace Go.Proofs.YtaonpmclkafjdaaGreat
open Go.RowKit
set_option linter.unusedVariables false
section
variable {P:Program}{w0 WB:World}(t ty e:TypeId)(i:TypeInfo)(ht:P.underlying t=some (.slice e))(hi:P.info? e=some i)(hz:i.zero=some (.slice none 0 0))(hsize:i.size=1)(hby:i.bytes=24)
include ht hi hz hsize hby
end
theorem Blk.al {w:World}{g:Nat}{t:TypeId}{cs:Array Value}(h:Blk w g t cs)(o:Obj):Blk (w.alloc o) g t cs:=h.below ((Below.refl _ _).alloc (Nat.le_refl _) _) h.lt
theorem Blk.new1 (w:World)(o:Obj)(t:TypeId)(cs:Array Value):Blk ((w.alloc o).alloc (.cells cs t)) (w.heap.size+1) t cs:=by
  have h:=Blk.new (w.alloc o) t cs
  rw[show (w.alloc o).heap.size=w.heap.size+1 by simp] at h
  exact h
theorem Blk.new2 (w:World)(o p:Obj)(t:TypeId)(cs:Array Value):Blk (((w.alloc o).alloc p).alloc (.cells cs t)) (w.heap.size+2) t cs:=by
  have h:=Blk.new ((w.alloc o).alloc p) t cs
  rw[show ((w.alloc o).alloc p).heap.size=w.heap.size+2 by simp] at h
  exact h
end Go.Proofs.YtaonpmclkafjdaaGreat
namespace Go.Proofs.YtaonpmclkafjdaaGreat
open Go.RowKit
set_option linter.unusedVariables false
end Go.Proofs.YtaonpmclkafjdaaGreat
namespace Go.Proofs.YtaonpmclkafjdaaGreat
open Go.RowKit
set_option linter.unusedVariables false
end Go.Proofs.YtaonpmclkafjdaaGreat
namespace Go.Proofs.YtaonpmclkafjdaaGreat
open Go.RowKit Go.ChangeShapes Go.WideShapes Go.Deep
section
variable {H:Type}{enc:TypeId × Value→H}{P:Program}{w:World}{base:Nat}{spare:Nat→Bool}{held:Bool}
def StructRow (enc:TypeId × Value→H)(P:Program)(w:World)(base:Nat)(spare:Nat→Bool)(held:Bool)(fs:Array Field)(A:Option Addr)(l c:Nat):Prop :=
  (A=none∧l=0∧c=0)∨∃ b off,A=some ⟨b,off,none⟩∧l≤c∧c≤maxLen∧∀ i,i < l→b < w.heap.size∧∀ (j:Nat) (f:Field),fs[j]?=some f →
    ∃ (v:Value) (y:DataW H × List MemPlace) (n:Nat),w.cell? ⟨b,off+(i * fs.size+j),none⟩=some v∧DataW.trod enc P w base spare held n f.type [v]=some y
end
end Go.Proofs.YtaonpmclkafjdaaGreat
namespace Go.Proofs.YtaonpmclkafjdaaGreat
open Go.RowKit
set_option linter.unusedVariables false
structure PS where
  u:List Nat
  z:List Nat
  i:List Bool
structure PsOk (p:PS):Prop where
  u:p.u.length=1024
  z:p.z.length=32
  i:p.i.length=32
  ulo:∀ x∈p.u,x≤6
  zlo:∀ x∈p.z,x≤3
def ps0:PS:=⟨List.replicate 1024 0,List.replicate 32 0,List.replicate 32 false⟩
theorem getD_set_same {α:Type}(l:List α)(k:Nat)(v d:α)(h:k < l.length):(l.set k v).getD k d=v:=by simp[h]
theorem getD_set_ne {α:Type}(l:List α)(k j:Nat)(v d:α)(h:j≠k):(l.set k v).getD j d=l.getD j d:=by
  simp only[List.getD_eq_getElem?_getD]
  rw[List.getElem?_set_ne (fun e=>h e.symm)]
theorem getD_mem_or {α:Type}(l:List α)(k:Nat)(d:α)(h:k < l.length):l.getD k d∈l:=by
  have e:l.getD k d=l[k]:=by simp[h]
  rw[e]
  exact List.getElem_mem _
theorem PsOk.setU {p:PS}(h:PsOk p)(f v:Nat)(hv:v≤6):PsOk ⟨p.u.set f v,p.z,p.i⟩:=⟨by simp[h.u],h.z,h.i,fun x hx=>by
  rcases List.mem_or_eq_of_mem_set hx with hx | rfl
  · exact h.ulo x hx
  · exact hv,h.zlo⟩
theorem PsOk.setZ {p:PS}(h:PsOk p)(s v:Nat)(hv:v≤3):PsOk ⟨p.u,p.z.set s v,p.i⟩:=⟨h.u,by simp[h.z],h.i,h.ulo,fun x hx=>by
  rcases List.mem_or_eq_of_mem_set hx with hx | rfl
  · exact h.zlo x hx
  · exact hv⟩
theorem ps0_ok:PsOk ps0:=by
  refine⟨List.length_replicate,List.length_replicate,List.length_replicate,fun x hx=>?_,fun x hx=>?_⟩
  · have:=List.eq_of_mem_replicate (show x∈List.replicate 1024 0 from hx);omega
  · have:=List.eq_of_mem_replicate (show x∈List.replicate 32 0 from hx);omega
def spanU (g:Nat→Nat)(u:List Nat)(a b:Nat):List Nat:=(List.range u.length).map (fun f=>if a≤f∧f < b then g (u.getD f 0) else u.getD f 0)
theorem spanU_length (g:Nat→Nat)(u:List Nat)(a b:Nat):(spanU g u a b).length=u.length:=by simp[spanU]
theorem spanU_getD (g:Nat→Nat)(u:List Nat)(a b f:Nat)(hf:f < u.length):(spanU g u a b).getD f 0=if a≤f∧f < b then g (u.getD f 0) else u.getD f 0:=by simp[spanU,hf]
theorem listN_ext {l l':List Nat}(hl:l.length=l'.length)(h:∀ x,x < l.length→l.getD x 0=l'.getD x 0):l=l':=by
  refine List.ext_getElem hl fun x h1 h2=>?_
  have:=h x h1
  simpa [h1,h2] using this
theorem spanU_none (g:Nat→Nat)(u:List Nat)(a:Nat):spanU g u a a=u:=by
  refine listN_ext (spanU_length _ _ _ _) fun f hf=>?_
  rw[spanU_length] at hf
  rw[spanU_getD _ _ _ _ _ hf,if_neg (by omega)]
theorem spanU_succ (g:Nat→Nat)(u:List Nat)(a b:Nat)(hab:a≤b)(hb:b < u.length):spanU g u a (b+1)=(spanU g u a b).set b (g (u.getD b 0)):=by
  refine listN_ext (by simp[spanU_length]) fun f hf=>?_
  rw[spanU_length] at hf
  rw[spanU_getD _ _ _ _ _ hf]
  by_cases e:f=b
  · subst e
    rw[if_pos ⟨hab,by omega⟩,getD_set_same _ _ _ _ (by rw[spanU_length];exact hf)]
  · rw[getD_set_ne _ _ _ _ _ e,spanU_getD _ _ _ _ _ hf]
    by_cases c:a≤f∧f < b
    · rw[if_pos c,if_pos ⟨c.1,by omega⟩]
    · rw[if_neg c,if_neg (by omega)]
def freshG (x:Nat):Nat:=if x=6 then 6 else 1
def badU (s:Nat)(u:List Nat)(bs:List Int):List Nat:=bs.foldl (fun u b=>if 32 * (s:Int)≤b∧b < 32 * (s:Int)+32 then u.set b.toNat 6 else u) u
theorem badU_snoc (s:Nat)(u:List Nat)(bs:List Int)(b:Int):badU s u (bs ++ [b])=if 32 * (s:Int)≤b∧b < 32 * (s:Int)+32 then (badU s u bs).set b.toNat 6 else badU s u bs:=by
  unfold badU
  rw[List.foldl_append]
  rfl
theorem badU_length (s:Nat)(bs:List Int):∀ u,(badU s u bs).length=u.length:=by
  induction bs with
  | nil=>intro u;rfl
  | cons b bs ih =>
    intro u
    show (badU s _ bs).length=_
    rw[ih]
    show (if 32 * (s:Int)≤b∧b < 32 * (s:Int)+32 then u.set b.toNat 6 else u).length=u.length
    split <;> simp
def onP (p:PS)(s z:Int)(bs:List Int):Nat × PS :=
  if (s < 0∨31 < s)∨(z≠2∧z≠3) then (1,p) else if p.z.getD s.toNat 0≠0 then (3,p)
  else (0,⟨badU s.toNat (spanU freshG p.u (32 * s.toNat) (32 * s.toNat+32)) bs,p.z.set s.toNat z.toNat,p.i.set s.toNat false⟩)
def RunF (p:PS)(z sz f:Nat):Prop:=f % sz=0∧f < 1024∧p.z.getD (f / 32) 0=z∧p.i.getD (f / 32) false=false∧∀ k,f≤k→k < f+sz→p.u.getD k 0=1
def FirstF (p:PS)(z sz:Nat):Option Nat→Prop
  | some f=>RunF p z sz f∧∀ g,g < f→¬ RunF p z sz g
  | none=>∀ g,¬ RunF p z sz g
theorem FirstF.uniq {p:PS}{z sz:Nat}{a b:Option Nat}(ha:FirstF p z sz a)(hb:FirstF p z sz b):a=b:=by
  match a,b,ha,hb with
  | some f,some g,⟨h1,h2⟩,⟨h3,h4⟩ =>
    have e1:¬ f < g:=fun h=>h4 f h h1
    have e2:¬ g < f:=fun h=>h2 g h h3
    rw[show f=g by omega]
  | some f,none,⟨h1,_⟩,h=>exact absurd h1 (h f)
  | none,some g,h,⟨h1,_⟩=>exact absurd h1 (h g)
  | none,none,_,_=>rfl
def AllocIs (p:PS)(use o:Int)(m:Bool)(f e:Nat)(p':PS):Prop :=
  ((use < 2∨5 < use)∨(o < 0∨5 < o))∧f=0∧e=1∧p'=p ∨
  ¬ ((use < 2∨5 < use)∨(o < 0∨5 < o))∧∃ r3 r2,FirstF p 3 (2 ^ o.toNat) r3∧FirstF p 2 (2 ^ o.toNat) r2 ∧
    match (if m then r3.or r2 else r2) with
    | some g=>f=g∧e=0∧p'=⟨spanU (fun _=>use.toNat) p.u g (g+2 ^ o.toNat),p.z,p.i⟩
    | none=>f=0∧e=4∧p'=p
end Go.Proofs.YtaonpmclkafjdaaGreat
namespace Go.Proofs.YtaonpmclkafjdaaGreat
open Go.RowKit
set_option linter.unusedVariables false
def zoneP (p:PS)(s:Int):Nat:=if 0≤s∧s < 32 then p.z.getD s.toNat 0 else 0
def useP (p:PS)(f:Int):Nat:=if 0≤f∧f < 1024 then p.u.getD f.toNat 0 else 0
def freeP (p:PS)(f:Int):Bool × PS:=if 2≤useP p f∧useP p f≤5 then (true,⟨p.u.set f.toNat 1,p.z,p.i⟩) else (false,p)
def spoilP (p:PS)(f:Int):Bool × PS:=if (0≤f∧f < 1024)∧useP p f≠6 then (true,⟨p.u.set f.toNat 6,p.z,p.i⟩) else (false,p)
def cntU (u:List Nat)(v:Int)(a n:Nat):Nat:=((List.range n).filter (fun j=>decide (((u.getD (a+j) 0:Nat):Int)=v))).length
theorem cntU_succ (u:List Nat)(v:Int)(a n:Nat):cntU u v a (n+1)=cntU u v a n+if ((u.getD (a+n) 0:Nat):Int)=v then 1 else 0:=by
  unfold cntU
  rw[List.range_succ,List.filter_append,List.length_append]
  by_cases h:((u.getD (a+n) 0:Nat):Int)=v
  · rw[if_pos h];simp only[List.filter_cons,h];simp
  · rw[if_neg h];simp only[List.filter_cons,h];simp
theorem cntU_le (u:List Nat)(v:Int)(a n:Nat):cntU u v a n≤n:=by
  have:=List.length_filter_le (fun j=>decide (((u.getD (a+j) 0:Nat):Int)=v)) (List.range n)
  rwa [List.length_range] at this
theorem freeP_ok {p:PS}(h:PsOk p)(f:Int):PsOk (freeP p f).2:=by
  unfold freeP
  split
  · exact h.setU _ 1 (by omega)
  · exact h
theorem useP_in (p:PS){f:Nat}(h:f < 1024):useP p (f:Int)=p.u.getD f 0:=by unfold useP;rw[if_pos ⟨by omega,by omega⟩,Int.toNat_natCast]
theorem zoneP_in (p:PS){f:Nat}(h:f < 32):zoneP p (f:Int)=p.z.getD f 0:=by unfold zoneP;rw[if_pos ⟨by omega,by omega⟩,Int.toNat_natCast]
theorem badU_getD (s:Nat)(bs:List Int):∀ (u:List Nat) (f:Nat),f < u.length→(badU s u bs).getD f 0=if (32 * s≤f∧f < 32 * s+32)∧(f:Int)∈bs then 6 else u.getD f 0:=by
  induction bs with
  | nil=>intro u f hf;simp[badU]
  | cons b bs ih =>
    intro u f hf
    have h2:badU s u (b :: bs)=badU s (if 32 * (s:Int)≤b∧b < 32 * (s:Int)+32 then u.set b.toNat 6 else u) bs:=rfl
    rw[h2,ih _ f (by split <;> simpa using hf)]
    by_cases c:(32 * s≤f∧f < 32 * s+32)∧(f:Int)∈bs
    · rw[if_pos c,if_pos ⟨c.1,List.mem_cons_of_mem _ c.2⟩]
    · rw[if_neg c]
      by_cases e:32 * (s:Int)≤b∧b < 32 * (s:Int)+32
      · rw[if_pos e]
        by_cases q:f=b.toNat
        · subst q
          rw[getD_set_same _ _ _ _ hf,if_pos ⟨⟨by omega,by omega⟩,by rw[Int.toNat_of_nonneg (by omega)];exact List.mem_cons_self⟩]
        · rw[getD_set_ne _ _ _ _ _ q,if_neg]
          rintro⟨h,hm⟩
          rcases List.mem_cons.1 hm with hm | hm
          · omega
          · exact c ⟨h,hm⟩
      · rw[if_neg e,if_neg]
        rintro⟨h,hm⟩
        rcases List.mem_cons.1 hm with hm | hm
        · omega
        · exact c ⟨h,hm⟩
theorem onP_new {p:PS}{s z:Nat}{bs:List Int}(hs:s < 32)(hz:z=2∨z=3)(h0:p.z.getD s 0=0):onP p (s:Int) (z:Int) bs=(0,⟨badU s (spanU freshG p.u (32 * s) (32 * s+32)) bs,p.z.set s z,p.i.set s false⟩):=by
  unfold onP
  rw[if_neg (by omega),Int.toNat_natCast,if_neg (by rw[h0];simp),Int.toNat_natCast]
theorem on_clean {p:PS}{s f:Nat}(hu:p.u.length=1024)(hf:f < 1024):(badU s (spanU freshG p.u (32 * s) (32 * s+32)) []).getD f 0=if 32 * s≤f∧f < 32 * s+32 then freshG (p.u.getD f 0) else p.u.getD f 0:=by
  show (spanU freshG p.u (32 * s) (32 * s+32)).getD f 0=_
  rw[spanU_getD _ _ _ _ _ (by rw[hu];exact hf)]
end Go.Proofs.YtaonpmclkafjdaaGreat
namespace Go.Proofs.YtaonpmclkafjdaaGreat
open Go.RowKit
set_option linter.unusedVariables false
theorem Blk.setL {w:World}{b:Nat}{t:TypeId}{vs:List Value}(h:Blk w b t vs.toArray)(i:Nat)(u:Value):Blk (w.setCell ⟨b,i,none⟩ u) b t (vs.set i u).toArray:=by
  have:=h.set_ i u
  rwa [List.setIfInBounds_toArray] at this
theorem Blk.cellL {w:World}{b:Nat}{t:TypeId}{vs:List Value}(h:Blk w b t vs.toArray)(i:Nat):w.cell? ⟨b,i,none⟩=vs[i]?:=by
  rw[h.cell];simp
def Its (w:World)(B:Nat)(v:Value)(xs:List Int):Prop :=
  ∃ A n c,v=.slice A n c∧xs.length=n∧n≤c∧c≤maxLen∧(0 < n→∃ b off,A=some ⟨b,off,none⟩∧b < B∧∀ j,j < n→w.cell? ⟨b,off+j,none⟩=some (.int .i64 (xs.getD j 0)))
theorem Its.more {w:World}{B B':Nat}{v:Value}{xs:List Int}(h:Its w B v xs)(hB:B≤B'):Its w B' v xs:=by
  obtain⟨A,n,c,hv,hl,h1,h2,h3⟩:=h
  refine⟨A,n,c,hv,hl,h1,h2,fun hn=>?_⟩
  obtain⟨b,off,hA,hb,h4⟩:=h3 hn
  exact⟨b,off,hA,by omega,h4⟩
theorem Its.nil_ (w:World)(B:Nat):Its w B (.slice none 0 0) []:=⟨none,0,0,rfl,rfl,Nat.le_refl _,by simp[maxLen],fun h=>absurd h (by omega)⟩
theorem Its.of_own {w:World}{base:Nat}{e:TypeId}{v:Value}{xs:List Int}(h:w.ownsRow base e 1 v xs.length (xs.map (fun z=>Value.int .i64 z))):Its w w.heap.size v xs:=by
  have h':=h
  rcases h.2 with ⟨h1,h2⟩ | ⟨g,cap,cur,h1,h2,h3,h4,h5,h6,h7⟩
  · exact⟨none,0,0,by rw[h1],h2,Nat.le_refl _,by simp[maxLen],fun hn=>by omega⟩
  · refine⟨_,_,cap,h1,rfl,h4,h5,fun hn=>⟨g,0,rfl,(Array.getElem?_eq_some_iff.1 h3).1,fun j hj=>?_⟩⟩
    rw[h1] at h'
    rw[Nat.zero_add,h'.cellAt j (by simpa using hj)]
    simp[hj]
def Off (K:Nat→Prop)(v:Value):Prop:=∀ b o s n c,v=.slice (some ⟨b,o,s⟩) n c→0 < n→¬ K b
theorem Its.of_lit {w:World}{g:Nat}{t:TypeId}{xs:List Int}(h:Blk w g t (xs.map (fun z=>Value.int .i64 z)).toArray)(hm:xs.length≤maxLen):Its w w.heap.size (.slice (some ⟨g,0,none⟩) xs.length xs.length) xs:=by
  refine⟨_,_,_,rfl,rfl,Nat.le_refl _,hm,fun _=>⟨g,0,rfl,h.lt,fun j hj=>?_⟩⟩
  rw[Nat.zero_add,h.cellL]
  simp[hj]
end Go.Proofs.YtaonpmclkafjdaaGreat
namespace Go.Proofs.YtaonpmclkafjdaaGreat
open Go.RowKit
set_option linter.unusedVariables false
theorem getD_ext {l l':List Bool}(hl:l.length=l'.length)(h:∀ x,x < l.length→l.getD x false=l'.getD x false):l=l':=by
  refine List.ext_getElem hl fun x h1 h2=>?_
  have:=h x h1
  simpa [h1,h2] using this
def bads (l:List Bool)(k:Nat):List Nat:=(List.range k).filter (fun f=>l.getD f false)
theorem bads_lt {l:List Bool}{k x:Nat}(h:x∈bads l k):x < k∧l.getD x false=true:=by
  unfold bads at h
  rw[List.mem_filter,List.mem_range] at h
  exact h
theorem mem_bads {l:List Bool}{k x:Nat}(hx:x < k)(h:l.getD x false=true):x∈bads l k:=by
  unfold bads
  rw[List.mem_filter,List.mem_range]
  exact⟨hx,h⟩
end Go.Proofs.YtaonpmclkafjdaaGreat
namespace Go.Proofs.YtaonpmclkafjdaaGreat
open Go.RowKit
set_option linter.unusedVariables false
def putB (l:List Bool)(b:Bool):List Int→List Bool
  | []=>l
  | f :: fs=>putB (if 0≤f∧f < (l.length:Int) then l.set f.toNat b else l) b fs
theorem putB_length (b:Bool)(fs:List Int):∀ l,(putB l b fs).length=l.length:=by
  induction fs with
  | nil=>intro l;rfl
  | cons f fs ih =>
    intro l
    unfold putB
    rw[ih]
    split <;> simp
theorem putB_snoc (b:Bool)(fs:List Int)(f:Int):∀ l,putB l b (fs ++ [f])=if 0≤f∧f < (l.length:Int) then (putB l b fs).set f.toNat b else putB l b fs:=by
  induction fs with
  | nil =>
    intro l
    show putB (if 0≤f∧f < (l.length:Int) then l.set f.toNat b else l) b []=_
    split <;> rfl
  | cons g fs ih =>
    intro l
    show putB (if 0≤g∧g < (l.length:Int) then l.set g.toNat b else l) b (fs ++ [f])=_
    rw[ih]
    have:(if 0≤g∧g < (l.length:Int) then l.set g.toNat b else l).length=l.length:=by split <;> simp
    rw[this]
    rfl
def RunAt (l:List Bool)(o:Nat)(a b:Int)(f:Nat):Prop:=f % 2 ^ o=0∧f+2 ^ o≤l.length∧a≤(f:Int)∧((f+2 ^ o:Nat):Int)≤b∧∀ k,f≤k→k < f+2 ^ o→l.getD k false=true
def RunIs (l:List Bool)(order a b:Int)(r:Option Nat):Prop :=
  match r with
  | some f=>0≤order∧order≤5∧RunAt l order.toNat a b f∧∀ g,g < f→¬ RunAt l order.toNat a b g
  | none=>order < 0∨5 < order∨∀ f,¬ RunAt l order.toNat a b f
def runV (r:Option Nat):Value:=.tuple #[.int .i64 ((r.getD 0:Nat):Int),.bool r.isSome]
theorem next_run {l:List Bool}{o sz f:Nat}{a b:Int}(hs:2 ^ o=sz)(hz:0 < sz)(hm:f % sz=0)(hb:∀ g,g < f→¬ RunAt l o a b g)(hf:¬ RunAt l o a b f):∀ g,g < f+sz→¬ RunAt l o a b g:=by
  intro g hg h
  by_cases c1:g < f
  · exact hb g c1 h
  · by_cases c2:g=f
    · rw[c2] at h;exact hf h
    · have h1:=h.1
      rw[hs] at h1
      have e:g=f+(g - f):=by omega
      rw[e,Nat.add_mod,hm,Nat.zero_add,Nat.mod_mod,Nat.mod_eq_of_lt (by omega)] at h1
      omega
end Go.Proofs.YtaonpmclkafjdaaGreat
namespace Go.Proofs.YtaonpmclkafjdaaGreat
open Go.RowKit
set_option linter.unusedVariables false
theorem snoc_ind {α:Type}{P:List α→Prop}(h0:P [])(h1:∀ l x,P l→P (l ++ [x]))(l:List α):P l:=by
  have h:∀ l:List α,P l.reverse:=by
    intro l
    induction l with
    | nil=>exact h0
    | cons x t ih=>rw[List.reverse_cons];exact h1 _ _ ih
  have:=h l.reverse
  rwa [List.reverse_reverse] at this
def distL (l:List Nat):List Nat:=l.foldl (fun s x=>if x∈s then s else s ++ [x]) []
theorem distL_snoc (l:List Nat)(x:Nat):distL (l ++ [x])=if x∈distL l then distL l else distL l ++ [x]:=by
  unfold distL
  rw[List.foldl_append]
  rfl
theorem distL_mem {l:List Nat}{x:Nat}:x∈distL l↔x∈l:=by
  refine snoc_ind (P:=fun l=>x∈distL l↔x∈l) ?_ ?_ l
  · simp[distL]
  · intro l y ih
    rw[distL_snoc]
    split
    · rename_i h
      rw[List.mem_append,List.mem_singleton,ih]
      constructor
      · exact .inl
      · rintro (h1 | rfl)
        · exact h1
        · exact ih.1 h
    · rw[List.mem_append,List.mem_singleton,List.mem_append,List.mem_singleton,ih]
theorem distL_nodup (l:List Nat):(distL l).Nodup:=by
  refine snoc_ind (P:=fun l=>(distL l).Nodup) ?_ ?_ l
  · simp[distL]
  · intro l y ih
    rw[distL_snoc]
    split
    · exact ih
    · rename_i h
      rw[List.nodup_append]
      exact⟨ih,by simp,fun a ha b hb=>by rw[List.mem_singleton.1 hb];exact fun e=>h (e ▸ ha)⟩
def tablesN (pages:List Nat):Nat:=1+(distL (pages.map (· / 512))).length+(distL (pages.map (· / 64))).length+(distL (pages.map (· / 8))).length
theorem distL_perm {l l':List Nat}(h:∀ x,x∈l↔x∈l'):(distL l).length=(distL l').length:=by
  have hp:(distL l).Perm (distL l'):=(List.perm_ext_iff_of_nodup (distL_nodup l) (distL_nodup l')).2 fun x=>by rw[distL_mem,distL_mem];exact h x
  exact hp.length_eq
theorem tablesN_same {l l':List Nat}(h:∀ x,x∈l↔x∈l'):tablesN l=tablesN l':=by
  unfold tablesN
  have hm:∀ d:Nat,∀ x,x∈l.map (· / d)↔x∈l'.map (· / d):=fun d x=>by
    rw[List.mem_map,List.mem_map]
    exact⟨fun ⟨a,h1,h2⟩=>⟨a,(h a).1 h1,h2⟩,fun ⟨a,h1,h2⟩=>⟨a,(h a).2 h1,h2⟩⟩
  rw[distL_perm (hm 512),distL_perm (hm 64),distL_perm (hm 8)]
end Go.Proofs.YtaonpmclkafjdaaGreat
namespace Go.Proofs.YtaonpmclkafjdaaGreat
open Go.RowKit
set_option linter.unusedVariables false
structure En where
  k:Int
  n:Int
  w:Bool
  deriving DecidableEq
def EnOk (x:En):Prop:=(x.k=1∧0≤x.n∧x.n < 1024)∨(x.k=2∧0≤x.n∧x.n < 32∧x.w=false)∨((x.k=0∨x.k=3)∧x.n=0∧x.w=false)
instance (x:En):Decidable (EnOk x):=by unfold EnOk;infer_instance
def numE (x:En):Nat:=(x.k+4 * x.n).toNat+(if x.w then 1099511627776 else 0)
theorem EnOk.lo {x:En}(h:EnOk x):0≤x.k∧x.k≤3∧0≤x.n∧x.n < 1024:=by
  unfold EnOk at h
  omega
theorem numE_int {x:En}(h:EnOk x):((numE x:Nat):Int)=x.k+4 * x.n+(if x.w then 1099511627776 else 0):=by
  have:=h.lo
  unfold numE
  split <;> omega
theorem numE_lt {x:En}(h:EnOk x):numE x < 1099511631872:=by
  have h1:=numE_int h
  have:=h.lo
  split at h1 <;> omega
theorem numE_inj {x y:En}(hx:EnOk x)(hy:EnOk y)(h:numE x=numE y):x=y:=by
  have h1:=numE_int hx
  have h2:=numE_int hy
  have l1:=hx.lo
  have l2:=hy.lo
  rw[h] at h1
  obtain⟨k,n,w⟩:=x
  obtain⟨k',n',w'⟩:=y
  simp only at h1 h2 l1 l2
  have hw:w=w':=by
    cases w <;> cases w' <;> simp at h1 h2 ⊢ <;> omega
  subst hw
  have hk:k=k':=by
    split at h1 <;> split at h2 <;> first | omega | simp_all
  have hn:n=n':=by
    split at h1 <;> split at h2 <;> first | omega | simp_all
  rw[hk,hn]
theorem numE_zero {x:En}(h:EnOk x):numE x=0↔x=⟨0,0,false⟩:=by
  constructor
  · intro h0
    exact numE_inj h (.inr (.inr ⟨.inl rfl,rfl,rfl⟩)) h0
  · rintro rfl
    rfl
def enV (x:En):Array Value:=#[.int .i64 x.k,.int .i64 x.n,.bool x.w]
end Go.Proofs.YtaonpmclkafjdaaGreat
namespace Go.Proofs.YtaonpmclkafjdaaGreat
open Go.RowKit
set_option linter.unusedVariables false
structure TS where
  e:List En
  t:List Nat
  live:Bool
def en0:En:=⟨0,0,false⟩
def pagesOf (e:List En):List Nat:=(List.range 4096).filter (fun p=>decide ((e.getD p en0).k≠0))
theorem pagesOf_mem {e:List En}{p:Nat}:p∈pagesOf e↔p < 4096∧(e.getD p en0).k≠0:=by
  unfold pagesOf
  rw[List.mem_filter,List.mem_range]
  simp
structure TsOk (s:TS):Prop where
  el:s.e.length=4096
  eok:∀ x∈s.e,EnOk x
  sorted:s.t.Pairwise (fun a b=>a < b)
  tlt:∀ f∈s.t,f < 1024
  num:s.live=true→s.t.length=tablesN (pagesOf s.e)
  dead:s.live=false→s.t=[]
def AllN (p:PS):Prop:=∀ f,f < 1024→(p.u.getD f 0=1∨p.u.getD f 0=2)→p.z.getD (f / 32) 0=2∧p.i.getD (f / 32) false=false
def freeU (u:List Nat):Nat→Nat
  | 0=>0
  | k+1=>freeU u k+cntU u 1 (32 * k) 32
structure Step (s:TS)(p:PS)(s':TS)(p':PS):Prop where
  z:p'.z=p.z
  i:p'.i=p.i
  u:∀ f,f < 1024→p'.u.getD f 0=if f∈s'.t then 2 else if f∈s.t then 1 else p.u.getD f 0
  new:∀ f,f∈s'.t→f ∉ s.t→p.u.getD f 0=1
  num:freeU p'.u 32+s'.t.length=freeU p.u 32+s.t.length
def SetIs (s:TS)(p:PS)(page:Int)(x:En)(er:Nat)(s':TS)(p':PS):Prop :=
  ((page < 0∨4095 < page)∧er=1∧s'=s∧p'=p) ∨
  ((0≤page∧page≤4095) ∧
    ((¬ EnOk x∧er=8∧s'=s∧p'=p) ∨
     (EnOk x∧er=4∧s'=s∧p'=p∧(AllN p→s.t.length+freeU p.u 32 < tablesN (pagesOf (s.e.set page.toNat x)))) ∨
     (EnOk x∧er=0∧s'.e=s.e.set page.toNat x∧s'.live=true∧Step s p s' p')))
end Go.Proofs.YtaonpmclkafjdaaGreat
namespace Go.Proofs.YtaonpmclkafjdaaGreat
open Go.RowKit
set_option linter.unusedVariables false
def cntF (p:PS)(z:Nat):Nat:=((List.range 1024).filter fun f=>decide (p.u.getD f 0=1∧p.z.getD (f / 32) 0=z∧p.i.getD (f / 32) false=false)).length
end Go.Proofs.YtaonpmclkafjdaaGreat
namespace Go.Proofs.YtaonpmclkafjdaaGreat
open Go.RowKit
set_option linter.unusedVariables false
def Rd (w:World)(size:Nat)(v:Value)(n:Nat)(xs:List Value):Prop :=
  ∃ A c,v=.slice A n c∧xs.length=n * size∧(∀ u∈xs,u.oneCell'=true)∧(0 < n→∃ b o,A=some ⟨b,o,none⟩∧∀ j u,xs[j]?=some u→w.cell? ⟨b,o+j,none⟩=some u)
theorem Rd.of_own {w:World}{base size n:Nat}{e:TypeId}{v:Value}{xs:List Value}(h:w.ownsRow base e size v n xs)(h1:∀ u∈xs,u.oneCell'=true):Rd w size v n xs:=by
  rcases h.2 with ⟨rfl,rfl⟩ | ⟨g,cap,cur,rfl,_⟩
  · exact⟨none,0,rfl,h.1,h1,fun h=>absurd h (Nat.lt_irrefl _)⟩
  · exact⟨some ⟨g,0,none⟩,cap,rfl,h.1,h1,fun _=>⟨g,0,rfl,fun j u hj=>by have:=h.cells (g:=g) rfl j u hj;rw[Addr.add_lit] at this;exact this⟩⟩
section
variable {P:Program}{w:World}
theorem run_app (base:Nat) (t ty e:TypeId) (i:TypeInfo) (z:Value) (size bytes:Nat) (ht:P.underlying t=some (.slice e)) (hi:P.info? e=some i) (hz:i.zero=some z)
    (hsize:i.size=size) (hby:i.bytes=bytes) (hzs:z.cells.size=size) (hsz:0 < size)
    (v:Value) (n:Nat) (xs:List Value) (hown:w.ownsRow base e size v n xs) (u:Value) (m:Nat) (ys:List Value) (hr:Rd w size u m ys)
    (h63:n+m≤maxLen) (hbytes:(n+m) * bytes≤140737488355328) (hbase:base≤w.heap.size) :
    ∃ v' w',(Builtin.append_ #[t,t] ty #[v,u]).run P w=.ok v' w'∧w'.ownsRow base e size v' (n+m) (xs ++ ys)∧w.grownBy w' v.ownBlock:=by
  obtain⟨A,c,rfl,hl,h1,hc⟩:=hr
  by_cases hm:m=0
  · subst hm
    have hy:ys=[]:=List.eq_nil_of_length_eq_zero (by simpa using hl)
    subst hy
    cases A with
    | none =>
      refine⟨v,w,?_,by simpa using hown,World.grownBy.refl _ _⟩
      rcases hown.2 with ⟨rfl,rfl⟩ | ⟨g,cap,cur,rfl,_,_,hnc,_⟩
      · simp[Builtin.append_,run_underlying ht,sizeOf,typeInfo,hi,Builtin.lenOf,Builtin.firstCells]
      · simp[Builtin.append_,run_underlying ht,sizeOf,typeInfo,hi,Builtin.lenOf,Builtin.firstCells,hnc,storeCells]
    | some a =>
      obtain⟨v',w',r,o,g,_⟩:=run_append_own (P:=P) w base t ty e i z size bytes ht hi hz hsize hby hzs hsz v n xs hown a 0 c [] (by simp) (fun j u h=>by simp at h) (fun u h=>by simp at h) h63 hbytes hbase
      exact⟨v',w',r,o,g⟩
  · obtain⟨b,o,rfl,hcell⟩:=hc (by omega)
    obtain⟨v',w',r,o,g,_⟩:=run_append_own (P:=P) w base t ty e i z size bytes ht hi hz hsize hby hzs hsz v n xs hown ⟨b,o,none⟩ m c ys hl (fun j u hj=>by rw[Addr.add_lit];exact hcell j u hj) h1 h63 hbytes hbase
    exact⟨v',w',r,o,g⟩
end
theorem Rd.one {w:World}{size g:Nat}{e:TypeId}{us:List Value}(h:∀ j u,us[j]?=some u→w.cell? ⟨g,j,none⟩=some u)(hl:us.length=size)(h1:∀ u∈us,u.oneCell'=true):Rd w size (.slice (some ⟨g,0,none⟩) 1 1) 1 us :=
  ⟨some ⟨g,0,none⟩,1,rfl,by omega,h1,fun _=>⟨g,0,rfl,fun j u hj=>by rw[Nat.zero_add];exact h j u hj⟩⟩
section
variable {P:Program}{wr:World}(t ty ty' e:TypeId)(i:TypeInfo)(z:Value)(size bytes:Nat)(ht:P.underlying t=some (.slice e))(hi:P.info? e=some i)(hz:i.zero=some z)
  (hsize:i.size=size) (hby:i.bytes=bytes) (hzs:z.cells.size=size) (hsz:0 < size)
  (k:Nat) (ys:List Value) (h63:k+1≤maxLen) (hbytes:(k+1) * bytes≤140737488355328)
include ht hi hz hsize hby hzs hsz h63 hbytes
variable (nv:Value)(hl:∀ W,Below wr.heap.size wr W→Rd W size nv k ys)(us:List Value)(hu:us.length=size)(h1:∀ u∈us,u.oneCell'=true)
include hl hu h1
end
end Go.Proofs.YtaonpmclkafjdaaGreat
namespace Go.Proofs.YtaonpmclkafjdaaGreat
open Go.RowKit
set_option linter.unusedVariables false
structure Pl where
  c:Int
  g:Int
  deriving DecidableEq
def ltP (a b:Pl):Prop:=a.c < b.c∨a.c=b.c∧a.g < b.g
instance (a b:Pl):Decidable (ltP a b):=by unfold ltP;exact inferInstance
theorem ltP.irr (a:Pl):¬ ltP a a:=by unfold ltP;omega
theorem ltP.ne {a b:Pl}(h:ltP a b):a≠b:=fun e=>ltP.irr a (by rw[← e] at h;exact h)
theorem ltP.trans {a b c:Pl}(h:ltP a b)(k:ltP b c):ltP a c:=by unfold ltP at *;omega
theorem ltP.asym {a b:Pl}(h:ltP a b):¬ ltP b a:=fun k=>ltP.irr a (h.trans k)
theorem ltP.tri {a b:Pl}(h:¬ ltP a b)(k:a≠b):ltP b a:=by
  obtain⟨a1,a2⟩:=a
  obtain⟨b1,b2⟩:=b
  unfold ltP at *
  simp only[ne_eq,Pl.mk.injEq] at *
  omega
abbrev SrtP (l:List Pl):Prop:=l.Pairwise ltP
def putP:List Pl→Pl→List Pl
  | [],p=>[p]
  | x :: l,p=>if ltP x p then x :: putP l p else if x=p then x :: l else p :: x :: l
theorem mem_putP {l:List Pl}{p q:Pl}:q∈putP l p↔q=p∨q∈l:=by
  induction l with
  | nil=>simp[putP]
  | cons x l ih =>
    unfold putP
    split
    · rw[List.mem_cons,ih,List.mem_cons]
      constructor
      · rintro (h | h | h)
        · exact Or.inr (Or.inl h)
        · exact Or.inl h
        · exact Or.inr (Or.inr h)
      · rintro (h | h | h)
        · exact Or.inr (Or.inl h)
        · exact Or.inl h
        · exact Or.inr (Or.inr h)
    · split
      · rename_i h
        subst h
        rw[List.mem_cons]
        constructor
        · exact fun h=>Or.inr h
        · rintro (h | h)
          · exact Or.inl h
          · exact h
      · rw[List.mem_cons]
theorem srt_putP {l:List Pl}{p:Pl}(h:SrtP l):SrtP (putP l p):=by
  induction l with
  | nil=>exact List.pairwise_singleton _ _
  | cons x l ih =>
    obtain⟨h1,h2⟩:=List.pairwise_cons.1 h
    unfold putP
    split
    · rename_i c
      refine List.pairwise_cons.2 ⟨fun y hy=>?_,ih h2⟩
      rcases mem_putP.1 hy with rfl | hy
      · exact c
      · exact h1 y hy
    · split
      · exact h
      · rename_i c1 c2
        refine List.pairwise_cons.2 ⟨fun y hy=>?_,h⟩
        rcases List.mem_cons.1 hy with rfl | hy
        · exact ltP.tri c1 c2
        · exact (ltP.tri c1 c2).trans (h1 y hy)
theorem putP_length (l:List Pl)(p:Pl):(putP l p).length≤l.length+1:=by
  induction l with
  | nil=>exact Nat.le_refl _
  | cons x l ih =>
    unfold putP
    split
    · simp only[List.length_cons];omega
    · split <;> simp only[List.length_cons] <;> omega
theorem putP_ne (l:List Pl)(p:Pl):putP l p≠[]:=fun h=>by
  have:p∈putP l p:=mem_putP.2 (Or.inl rfl)
  rw[h] at this
  exact absurd this List.not_mem_nil
theorem srt_ext {l m:List Pl}(h:SrtP l)(k:SrtP m)(he:∀ q,q∈l↔q∈m):l=m:=by
  induction l generalizing m with
  | nil =>
    cases m with
    | nil=>rfl
    | cons y m=>exact absurd ((he y).2 List.mem_cons_self) List.not_mem_nil
  | cons x l ih =>
    cases m with
    | nil=>exact absurd ((he x).1 List.mem_cons_self) List.not_mem_nil
    | cons y m =>
      obtain⟨h1,h2⟩:=List.pairwise_cons.1 h
      obtain⟨k1,k2⟩:=List.pairwise_cons.1 k
      have exy:x=y:=by
        rcases List.mem_cons.1 ((he x).1 List.mem_cons_self) with e | e
        · exact e
        · rcases List.mem_cons.1 ((he y).2 List.mem_cons_self) with e' | e'
          · exact e'.symm
          · exact absurd (h1 y e') (ltP.asym (k1 x e))
      subst exy
      congr 1
      refine ih h2 k2 fun q=>?_
      constructor
      · intro hq
        rcases List.mem_cons.1 ((he q).1 (List.mem_cons_of_mem _ hq)) with e | e
        · exact absurd e (h1 q hq).ne.symm
        · exact e
      · intro hq
        rcases List.mem_cons.1 ((he q).2 (List.mem_cons_of_mem _ hq)) with e | e
        · exact absurd e (k1 q hq).ne.symm
        · exact e
theorem srt_erase {l:List Pl}(h:SrtP l)(p:Pl):SrtP (l.erase p):=List.Pairwise.sublist List.erase_sublist h
theorem mem_erase_srt {l:List Pl}(h:SrtP l){p q:Pl}:q∈l.erase p↔q≠p∧q∈l:=by
  have hn:l.Nodup:=List.Pairwise.imp (fun h=>h.ne) h
  exact hn.mem_erase_iff
end Go.Proofs.YtaonpmclkafjdaaGreat
namespace Go.Proofs.YtaonpmclkafjdaaGreat
open Go.RowKit
set_option linter.unusedVariables false
def pl0:Pl:=⟨0,0⟩
def flatP:List Pl→List Value
  | []=>[]
  | p :: l=>.int .i64 p.c :: .int .i64 p.g :: flatP l
theorem flatP_length (l:List Pl):(flatP l).length=l.length * 2:=by
  induction l with
  | nil=>rfl
  | cons p l ih=>show (flatP l).length+1+1=(l.length+1) * 2;omega
theorem flatP_append (l m:List Pl):flatP (l ++ m)=flatP l ++ flatP m:=by
  induction l with
  | nil=>rfl
  | cons p l ih=>show _ :: _ :: flatP (l ++ m)=_;rw[ih];rfl
theorem flatP_at {l:List Pl}{j:Nat}(h:j < l.length):(flatP l)[j * 2]?=some (.int .i64 (l.getD j pl0).c)∧(flatP l)[j * 2+1]?=some (.int .i64 (l.getD j pl0).g):=by
  induction l generalizing j with
  | nil=>exact absurd h (Nat.not_lt_zero _)
  | cons p l ih =>
    cases j with
    | zero=>exact⟨rfl,rfl⟩
    | succ j =>
      have h':j < l.length:=by simpa using h
      obtain⟨h1,h2⟩:=ih h'
      refine⟨?_,?_⟩
      · rw[show (j+1) * 2=j * 2+1+1 by omega]
        exact h1
      · rw[show (j+1) * 2+1=j * 2+1+1+1 by omega]
        exact h2
def Pls (w:World)(B:Nat)(v:Value)(l:List Pl):Prop :=
  ∃ A n c,v=.slice A n c∧l.length=n∧n≤c∧c≤maxLen∧(A=none→c=0)∧(0 < n→∃ b o,A=some ⟨b,o,none⟩∧b < B∧∀ j,j < n→w.cell? ⟨b,o+j * 2,none⟩=some (.int .i64 (l.getD j pl0).c)∧w.cell? ⟨b,o+j * 2+1,none⟩=some (.int .i64 (l.getD j pl0).g))
section
variable {w w':World}{B B':Nat}{v:Value}{l:List Pl}
theorem Pls.keep (h:Pls w B v l)(hk:∀ p:Addr,p.block < B→w'.cell? p=w.cell? p):Pls w' B v l:=by
  obtain⟨A,n,c,h1,h2,h3,h4,h5,h7⟩:=h
  refine⟨A,n,c,h1,h2,h3,h4,h5,fun h0=>?_⟩
  obtain⟨b,o,e,hb,hc⟩:=h7 h0
  exact⟨b,o,e,hb,fun j hj=>⟨(hk _ hb).trans (hc j hj).1,(hk _ hb).trans (hc j hj).2⟩⟩
theorem Pls.below (h:Pls w B v l)(hb:Below B w w'):Pls w' B v l:=h.keep fun _ hp=>hb.cell hp
theorem Pls.more (h:Pls w B v l)(hB:B≤B'):Pls w B' v l:=by
  obtain⟨A,n,c,h1,h2,h3,h4,h5,h7⟩:=h
  refine⟨A,n,c,h1,h2,h3,h4,h5,fun h0=>?_⟩
  obtain⟨b,o,e,hb,hc⟩:=h7 h0
  exact⟨b,o,e,by omega,hc⟩
theorem Pls.fresh (h:Pls w w.heap.size v l)(hb:Below w.heap.size w w'):Pls w' w'.heap.size v l:=(h.below hb).more hb.size
theorem Pls.nil_ (w:World)(B:Nat):Pls w B (.slice none 0 0) []:=⟨none,0,0,rfl,rfl,Nat.le_refl _,by simp[maxLen],fun _=>rfl,fun h=>absurd h (Nat.lt_irrefl _)⟩
theorem Pls.of_own {base n:Nat}{e:TypeId}(h:w.ownsRow base e 2 v n (flatP l))(hn:l.length=n):Pls w w.heap.size v l:=by
  have hlt:=fun k hk=>(h.lt k hk).2
  rcases h.2 with ⟨rfl,rfl⟩ | ⟨g,cap,cur,rfl,_,_,h3,h4,_⟩
  · obtain rfl:l=[]:=List.eq_nil_of_length_eq_zero hn
    exact Pls.nil_ _ _
  · refine⟨some ⟨g,0,none⟩,n,cap,rfl,hn,h3,h4,fun h=>(by cases h),fun h0=>⟨g,0,rfl,hlt g rfl,fun j hj=>?_⟩⟩
    have hc:=h.cells (g:=g) rfl
    obtain⟨k1,k2⟩:=flatP_at (l:=l) (j:=j) (by omega)
    have e1:=hc _ _ k1
    have e2:=hc _ _ k2
    rw[Addr.add_lit] at e1 e2
    exact⟨e1,e2⟩
end
theorem belAl {w W:World}(h:Below w.heap.size w W)(o:Obj):Below w.heap.size w (W.alloc o):=h.alloc h.size o
theorem cell_of_heap {w w':World}{k i:Nat}(h:w'.heap[k]?=w.heap[k]?):w'.cell? ⟨k,i,none⟩=w.cell? ⟨k,i,none⟩:=by
  unfold World.cell?
  simp only[h]
theorem own_new {w:World}{base size n B:Nat}{e:TypeId}{v:Value}{xs:List Value}(h:w.ownsRow base e size v n xs)(hb:B≤base):∀ a n' c,v=.slice (some a) n' c→B≤a.block:=by
  intro a n' c e
  rcases h.2 with ⟨rfl,_⟩ | ⟨g,cap,cur,rfl,hg,_⟩
  · cases e
  · injection e with e _ _
    injection e with e
    rw[← e]
    exact Nat.le_trans hb hg
end Go.Proofs.YtaonpmclkafjdaaGreat
namespace Go.Proofs.YtaonpmclkafjdaaGreat
open Go.RowKit
set_option linter.unusedVariables false
structure Ce where
  k:Pl
  f:Int
  d:Bool
abbrev CS:=List Ce
abbrev CsOk (es:CS):Prop:=es.Pairwise (fun a b=>a.k≠b.k∧a.f≠b.f)
def hasC (es:CS)(k:Pl):Bool:=es.any (fun e=>decide (e.k=k))
def busyC (es:CS)(f:Int):Bool:=es.any (fun e=>decide (e.f=f))
def freeC (es:CS)(k:Pl)(f:Int):Bool:=!hasC es k && !busyC es f
def putC (es:CS)(k:Pl)(f:Int):CS:=if freeC es k f then es ++ [⟨k,f,false⟩] else es
def markC (es:CS)(k:Pl)(d:Bool):CS:=es.map (fun e=>if e.k=k then ⟨e.k,e.f,d⟩ else e)
def dropC (es:CS)(k:Pl):CS:=es.filter (fun e=>!decide (e.k=k))
def frameC (es:CS)(k:Pl):Option Int:=(es.find? (fun e=>decide (e.k=k))).map (·.f)
def pageC (es:CS)(f:Int):Option Pl:=(es.find? (fun e=>decide (e.f=f))).map (·.k)
def dirtyC (es:CS)(k:Pl):Bool:=es.any (fun e=>decide (e.k=k) && e.d)
def frV15 (r:Option Int):Value:=match r with | some f=>.tuple #[.int .i64 f,.bool true] | none=>.tuple #[.int .i64 0,.bool false]
def pgV15 (r:Option Pl):Value:=match r with | some k=>.tuple #[.agg #[.int .i64 k.c,.int .i64 k.g],.bool true] | none=>.tuple #[.agg #[.int .i64 0,.int .i64 0],.bool false]
theorem hasC_iff {es:CS}{k:Pl}:hasC es k=true↔∃ e∈es,e.k=k:=by
  unfold hasC
  rw[List.any_eq_true]
  constructor
  · rintro⟨e,h1,h2⟩;exact⟨e,h1,of_decide_eq_true h2⟩
  · rintro⟨e,h1,h2⟩;exact⟨e,h1,decide_eq_true h2⟩
theorem busyC_iff {es:CS}{f:Int}:busyC es f=true↔∃ e∈es,e.f=f:=by
  unfold busyC
  rw[List.any_eq_true]
  constructor
  · rintro⟨e,h1,h2⟩;exact⟨e,h1,of_decide_eq_true h2⟩
  · rintro⟨e,h1,h2⟩;exact⟨e,h1,decide_eq_true h2⟩
theorem csOk_put {es:CS}{k:Pl}{f:Int}(h:CsOk es):CsOk (putC es k f):=by
  unfold putC
  split
  · rename_i c
    unfold freeC at c
    rw[Bool.and_eq_true,Bool.not_eq_true',Bool.not_eq_true'] at c
    refine List.pairwise_append.2 ⟨h,List.pairwise_singleton _ _,fun e he x hx=>?_⟩
    rw[List.mem_singleton] at hx
    subst hx
    refine⟨fun e1=>?_,fun e1=>?_⟩
    · rw[hasC_iff.2 ⟨e,he,e1⟩] at c;exact absurd c.1 (by simp)
    · rw[busyC_iff.2 ⟨e,he,e1⟩] at c;exact absurd c.2 (by simp)
  · exact h
theorem csOk_drop {es:CS}{k:Pl}(h:CsOk es):CsOk (dropC es k):=h.filter _
theorem csOk_mark {es:CS}{k:Pl}{d:Bool}(h:CsOk es):CsOk (markC es k d):=by
  unfold markC
  refine List.pairwise_map.2 (h.imp fun {a b} hab=>?_)
  have ek:∀ x:Ce,(if x.k=k then (⟨x.k,x.f,d⟩:Ce) else x).k=x.k:=fun x=>by split <;> rfl
  have ef:∀ x:Ce,(if x.k=k then (⟨x.k,x.f,d⟩:Ce) else x).f=x.f:=fun x=>by split <;> rfl
  rw[ek,ek,ef,ef]
  exact hab
theorem nodupC_le {α:Type} [DecidableEq α] {l:List α}:∀ {m:List α},l.Nodup→(∀ x∈l,x∈m)→l.length≤m.length:=by
  induction l with
  | nil=>intro m _ _;exact Nat.zero_le _
  | cons x l ih =>
    intro m hn hs
    obtain⟨h1,h2⟩:=List.nodup_cons.1 hn
    have hx:=hs x List.mem_cons_self
    have:=ih (m:=m.erase x) h2 (fun y hy=>(List.mem_erase_of_ne (fun e=>h1 (by rw[← e];exact hy))).2 (hs y (List.mem_cons_of_mem _ hy)))
    rw[List.length_erase_of_mem hx] at this
    have hp:=List.length_pos_of_mem hx
    simp only[List.length_cons]
    omega
theorem srt_nodup {l:List Pl}(h:SrtP l):l.Nodup:=h.imp fun hab=>hab.ne
theorem keys_nodup {es:CS}(h:CsOk es):(es.map (·.k)).Nodup:=List.pairwise_map.2 (h.imp fun hab=>hab.1)
end Go.Proofs.YtaonpmclkafjdaaGreat
namespace Go.Proofs.YtaonpmclkafjdaaGreat
open Go.RowKit
set_option linter.unusedVariables false
abbrev SS:=Nat→List Pl
def ss0:SS:=fun _=>[]
def isSlot (n:Int):Prop:=0≤n∧n < 32
instance (n:Int):Decidable (isSlot n):=by unfold isSlot;exact inferInstance
def updS (s:SS)(n:Nat)(l:List Pl):SS:=fun k=>if k=n then l else s k
theorem updS_same (s:SS)(n:Nat)(l:List Pl):updS s n l n=l:=if_pos rfl
theorem updS_other (s:SS)(n:Nat)(l:List Pl){k:Nat}(h:k≠n):updS s n l k=s k:=if_neg h
def holdS (s:SS)(n:Int)(p:Pl):SS:=if isSlot n then updS s n.toNat (putP (s n.toNat) p) else s
def relS (s:SS)(n:Int)(p:Pl):SS:=if isSlot n then updS s n.toNat ((s n.toNat).erase p) else s
def inS (s:SS)(n:Int)(p:Pl):Bool:=decide (isSlot n) && decide (p∈s n.toNat)
def TakeIs (s:SS):Option Nat→Prop
  | some n=>n < 32∧s n=[]∧∀ m,m < n→s m≠[]
  | none=>∀ m,m < 32→s m≠[]
def takeV (r:Option Nat):Value:=.tuple #[.int .i64 ((r.getD 0:Nat):Int),.bool r.isSome]
theorem TakeIs.uniq {s:SS}{r t:Option Nat}(h:TakeIs s r)(k:TakeIs s t):r=t:=by
  match r,t,h,k with
  | none,none,_,_=>rfl
  | some n,none,⟨h1,h2,_⟩,k=>exact absurd h2 (k n h1)
  | none,some n,k,⟨h1,h2,_⟩=>exact absurd h2 (k n h1)
  | some n,some m,⟨h1,h2,h3⟩,⟨k1,k2,k3⟩ =>
    rcases Nat.lt_trichotomy n m with c | c | c
    · exact absurd h2 (k3 n c)
    · rw[c]
    · exact absurd k2 (h3 m c)
def usedS (s:SS)(n:Nat):Nat:=((List.range n).filter (fun k=>decide (s k≠[]))).length
def SsOk (s:SS):Prop:=∀ n,SrtP (s n)
theorem ss0_ok:SsOk ss0:=fun _=>List.Pairwise.nil
theorem SsOk.upd_ {s:SS}(h:SsOk s){n:Nat}{l:List Pl}(hl:SrtP l):SsOk (updS s n l):=fun k=>by
  by_cases c:k=n
  · subst c;rw[updS_same];exact hl
  · rw[updS_other _ _ _ c];exact h k
end Go.Proofs.YtaonpmclkafjdaaGreat

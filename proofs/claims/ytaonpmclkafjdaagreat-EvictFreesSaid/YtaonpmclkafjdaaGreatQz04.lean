/-
  The contracts of ram: frames in memory, Read, Write, Zero, Poison, Copy, New.
  The contracts of disk's New, Fail, Fuse, Read, Write and Flush; what several layers stand on.
  The contracts of files on a disk: where a page and a slot lie; what is read and written, and what is refused.
  Conditions: those that each line bears.
-/
import Derived.Test.YtaonpmclkafjdaaGreatProg
import Derived.Test.YtaonpmclkafjdaaGreatQz03
import Derived.WalkKit
import Derived.WalkSpells
import Derived.Lib.Hide
import Derived.BigQuiet
import Derived.Outline
import Derived.Test.YtaonpmclkafjdaaGreatQz00
import Derived.Deep.RegionHeld3
import Derived.Deep.DrawnRows
import Derived.Lib.SliceRun
import Derived.WalkLawsBesides
import Derived.Laws.MakeOwn
import Derived.Deep.MidRow
set_option linter.unusedSimpArgs false
set_option linter.unusedSectionVars false
set_option linter.unusedVariables false
namespace Go.Proofs.YtaonpmclkafjdaaGreat
open Go.RowKit
set_option linter.unusedVariables false
def Mem (w:World)(gR gF n:Nat)(F:Nat→List Nat)(bad:Nat→Bool):Prop :=
  ∃ cur,Blk w gR 156 #[.slice (some ⟨gF,0,none⟩) n n]∧Blk w gF 215 cur∧cur.size=n * 65∧n≤1024 ∧
    ∀ f,f < n→(F f).length=64∧(∀ y∈F f,y < 256)∧(∀ i,i < 64→cur[f * 65+i]?=some (bv ((F f).getD i 0)))∧cur[f * 65+64]?=some (.bool (bad f))
theorem Mem.head {w:World}{gR gF n:Nat}{F:Nat→List Nat}{bad:Nat→Bool}(h:Mem w gR gF n F bad):w.cell? ⟨gR,0,none⟩=some (.slice (some ⟨gF,0,none⟩) n n):=by
  obtain⟨cur,h1,_⟩:=h
  rw[h1.cell]
  rfl
theorem Mem.mark {w:World}{gR gF n:Nat}{F:Nat→List Nat}{bad:Nat→Bool}(h:Mem w gR gF n F bad){f:Nat}(hf:f < n):w.cell? ⟨gF,f * 65+64,none⟩=some (.bool (bad f)):=by
  obtain⟨cur,_,h2,_,_,h3⟩:=h
  rw[h2.cell]
  exact (h3 f hf).2.2.2
theorem Mem.long {w:World}{gR gF n:Nat}{F:Nat→List Nat}{bad:Nat→Bool}(h:Mem w gR gF n F bad){f:Nat}(hf:f < n):(F f).length=64:=by
  obtain⟨cur,_,h2,_,_,h3⟩:=h
  exact (h3 f hf).1
set_option maxHeartbeats 400000 in
theorem frames_any (gR gF n:Nat) (F:Nat→List Nat) (bad:Nat→Bool) (w:World) (h:Mem w gR gF n F bad) :
    Calls Tryz.prog 170 #[.pointer (some ⟨gR,0,none⟩)] w fun e w'=>e=.returned (.int .i64 n)∧w=w':=by
  have hc:=h.head
  clear h
  go_enter Tryz.func170,Tryz.ntmps170
  go_wp2
  go_ret
  exact⟨rfl,rfl⟩
set_option maxHeartbeats 400000 in
theorem has_yes (gR gF n:Nat) (F:Nat→List Nat) (bad:Nat→Bool) (f:Nat) (w:World) (h:Mem w gR gF n F bad) (hf:f < n) :
    Calls Tryz.prog 130 #[.pointer (some ⟨gR,0,none⟩),.int .i64 f] w fun e w'=>e=.returned (.bool true)∧w=w':=by
  have HF:=Lib.hid (frames_any gR gF n F bad w h)
  clear h
  have h1:(f:Int) < (n:Int):=by omega
  have h2:(0:Int)≤(f:Int):=by omega
  go_enter Tryz.func130,Tryz.ntmps130
  go_wp2_with fail
  refine HF.out.mono ?_
  rintro e w1 ⟨rfl,rfl⟩
  go_wp2
  go_ret
  exact⟨rfl,rfl⟩
set_option maxHeartbeats 400000 in
theorem piece_bad (gR gF m:Nat) (F:Nat→List Nat) (bad:Nat→Bool) (f a n:Nat) (w:World) (h:Mem w gR gF m F bad) (hf:f < m) (hi:a+n≤64) (hb:bad f=true) :
    Calls Tryz.prog 95 #[.pointer (some ⟨gR,0,none⟩),.int .i64 f,.int .i64 a,.int .i64 n] w fun e w'=>e=.returned (.tuple #[.slice none 0 0,.int .i64 7])∧w=w':=by
  have HH:=Lib.hid (has_yes gR gF m F bad f w h hf)
  have hc:=h.head
  have hm:=h.mark hf
  rw[hb] at hm
  clear h hb
  have t1:decide ((n:Int) < 0)=false:=decide_eq_false (by omega)
  have t2:decide ((a:Int) < 0)=false:=decide_eq_false (by omega)
  have t3:(0:Int)≤n:=by omega
  have t4:(0:Int)≤a:=by omega
  have t5:(a:Int)≤64 - n:=by omega
  have t6:decide (64 - (n:Int) < a)=false:=by simp;omega
  have t7:(f:Int) < (m:Int):=by omega
  have t8:(0:Int)≤(f:Int):=by omega
  go_enter Tryz.func95,Tryz.ntmps95
  go_wp2_with fail
  refine HH.out.mono ?_
  rintro e w1 ⟨rfl,rfl⟩
  go_wp2
  go_ret2
  exact⟨rfl,rfl⟩
def PieceAt (g o n:Nat)(w:World)(e:Ending)(w':World):Prop:=∃ A,e=.returned (.tuple #[.slice A n n,.int .i64 0])∧(0 < n→A=some ⟨g,o,none⟩)∧w=w'
theorem slice_lhm (w:World) (g o a n:Nat) (h:a+n≤64) :
    ∃ A,(Instr.sliceAt 117 (.pointer (some ⟨g,o,none⟩)) (some (.int .i64 a)) (some (.int .i64 ((a:Int)+n))) (some (.int .i64 ((a:Int)+n)))).run Tryz.prog w=.ok (.slice A n n) w∧(0 < n→A=some ⟨g,o+a,none⟩):=by
  refine⟨some (if a+n=a then ⟨g,o,none⟩ else (Addr.mk g o none).add (a * 1)),?_,fun hn=>?_⟩
  · have hu:Tryz.prog.underlying 117=some (.array 64 5):=Tryz.underlying117
    have hl:Tryz.prog.arrayLen 117=64:=by simp[Program.arrayLen,hu]
    have he:Tryz.prog.elem 117=5:=by simp[Program.elem,hu]
    rw[run_sliceAt_array_lhm w 117 ⟨g,o,none⟩ (by rw[hl,he];exact hu) .i64 .i64 .i64 _ _ _ (by omega) (by omega) (by omega) (by rw[hl];omega),he]
    have hs:=Tryz.size8
    cases hq:Tryz.prog.info? 5 with
    | none=>simp[hq] at hs
    | some i =>
      have hi:i.size=1:=by simpa [hq] using hs
      have e1:((a:Int)+n).toNat=a+n:=by omega
      simp[sizeOf,typeInfo,hq,hi,slicedAt,e1]
  · rw[if_neg (by omega),Nat.mul_one]
    congr 1
    unfold Addr.add
    split <;> simp_all
set_option maxHeartbeats 400000 in
theorem piece_yes (gR gF m:Nat) (F:Nat→List Nat) (bad:Nat→Bool) (f a n:Nat) (w:World) (h:Mem w gR gF m F bad) (hf:f < m) (hi:a+n≤64) (hb:bad f=false) :
    Calls Tryz.prog 95 #[.pointer (some ⟨gR,0,none⟩),.int .i64 f,.int .i64 a,.int .i64 n] w (PieceAt gF (f * 65+a) n w):=by
  have HH:=Lib.hid (has_yes gR gF m F bad f w h hf)
  have hc:=h.head
  have hm:=h.mark hf
  rw[hb] at hm
  clear h hb
  have t2:decide ((a:Int) < 0)=false:=decide_eq_false (by omega)
  have t4:(0:Int)≤a:=by omega
  have t7:(f:Int) < (m:Int):=by omega
  have t8:(0:Int)≤(f:Int):=by omega
  have t1:decide ((n:Int) < 0)=false:=decide_eq_false (by omega)
  have t3:(0:Int)≤n:=by omega
  have t5:(a:Int)≤64 - n:=by omega
  have t6:decide (64 - (n:Int) < a)=false:=decide_eq_false (by omega)
  obtain⟨A,hs,hA⟩:=slice_lhm w gF (f * 65) a n hi
  have HA:=Lib.hid hA
  clear hA
  go_enter Tryz.func95,Tryz.ntmps95
  go_wp2_with fail
  refine HH.out.mono ?_
  rintro e w1 ⟨rfl,rfl⟩
  go_wp2
  go_ret2
  exact⟨_,rfl,HA.out,rfl⟩
end Go.Proofs.YtaonpmclkafjdaaGreat
namespace Go.Proofs.YtaonpmclkafjdaaGreat
open Go.RowKit
set_option linter.unusedVariables false
section
variable {w w':World}{gR gF n:Nat}{F:Nat→List Nat}{bad:Nat→Bool}
theorem Mem.ne (h:Mem w gR gF n F bad):gR≠gF:=by
  obtain⟨cur,h1,h2,_⟩:=h
  rintro rfl
  unfold Blk at h1 h2
  rw[h1] at h2
  injection h2 with h2
  injection h2 with _ ht
  exact absurd ht (by decide)
theorem Mem.lt (h:Mem w gR gF n F bad):gR < w.heap.size∧gF < w.heap.size:=by
  obtain⟨cur,h1,h2,_⟩:=h
  exact⟨h1.lt,h2.lt⟩
theorem Mem.far (h:Mem w gR gF n F bad)(hR:w'.heap[gR]?=w.heap[gR]?)(hF:w'.heap[gF]?=w.heap[gF]?):Mem w' gR gF n F bad:=by
  obtain⟨cur,h1,h2,h3⟩:=h
  exact⟨cur,hR.trans h1,hF.trans h2,h3⟩
theorem Mem.below (h:Mem w gR gF n F bad){B:Nat}(hb:Below B w w')(hR:gR < B)(hF:gF < B):Mem w' gR gF n F bad:=h.far (hb.block _ hR) (hb.block _ hF)
theorem Mem.alloc (h:Mem w gR gF n F bad)(o:Obj):Mem (w.alloc o) gR gF n F bad:=h.far (Below.heap_alloc w o gR h.lt.1) (Below.heap_alloc w o gF h.lt.2)
theorem Mem.only (h:Mem w gR gF n F bad){g:Nat}(ho:Only g w w')(hR:gR≠g)(hF:gF≠g):Mem w' gR gF n F bad :=
  h.far (ho.1.block _ h.lt.1 (fun e=>hR (by injection e))) (ho.1.block _ h.lt.2 (fun e=>hF (by injection e)))
theorem Mem.bytes (h:Mem w gR gF n F bad) {f a:Nat} {ys:List Nat} (hf:f < n) (ha:a+ys.length≤64) (hy:∀ y∈ys,y < 256) (ho:Only gF w w')
    (hx:∀ cur,Blk w gF 215 cur→f * 65+a+ys.length≤cur.size→∃ cur',Blk w' gF 215 cur'∧Over cur cur' (f * 65+a) (ys.map bv)):Mem w' gR gF n (upd F f (over (F f) a ys)) bad:=by
  have hne:=h.ne
  obtain⟨cur,h1,h2,h3,h4,h5⟩:=h
  obtain⟨cur',k1,k2,k3⟩:=hx cur h2 (by omega)
  refine⟨cur',ho.blk h1 hne,k1,by omega,h4,fun k hk=>?_⟩
  obtain⟨b1,b2,b3,b4⟩:=h5 k hk
  simp only[List.length_map] at k3
  by_cases e:k=f
  · subst e
    rw[upd_same]
    have hov:=over_getD (F k) a ys (by omega)
    refine⟨by rw[over_length _ _ _ (by omega),b1],fun y hy'=>?_,fun i hi=>?_,?_⟩
    · simp only[Proofs.YtaonpmclkafjdaaGreat.over,List.mem_append] at hy'
      rcases hy' with hy' | hy' | hy'
      · exact b2 y (List.mem_of_mem_take hy')
      · exact hy y hy'
      · exact b2 y (List.mem_of_mem_drop hy')
    · rw[k3,hov]
      by_cases c:a≤i∧i < a+ys.length
      · rw[if_pos (by omega),if_pos c,show k * 65+i - (k * 65+a)=i - a by omega]
        have hj:i - a < ys.length:=by omega
        simp[hj]
      · rw[if_neg (by omega),if_neg c]
        exact b3 i hi
    · rw[k3,if_neg (by omega)]
      exact b4
  · rw[upd_other F f _ e]
    refine⟨b1,b2,fun i hi=>?_,?_⟩
    · rw[k3,if_neg (by omega)]
      exact b3 i hi
    · rw[k3,if_neg (by omega)]
      exact b4
theorem Mem.bts (h:Mem w gR gF n F bad){f a k B:Nat}{A:Option Addr}(hf:f < n)(ha:a+k≤64)(hA:0 < k→A=some ⟨gF,f * 65+a,none⟩)(hB:gF < B):Bts w B (.slice A k k) (win (F f) a k):=by
  obtain⟨cur,h1,h2,h3,h4,h5⟩:=h
  obtain⟨b1,b2,b3,b4⟩:=h5 f hf
  have hwl:=win_length (F f) a k (by omega)
  refine⟨A,k,k,rfl,hwl,by unfold maxLen;omega,⟨Nat.le_refl _,fun hn=>?_⟩,by unfold maxLen;omega,fun j hj=>?_,fun hk=>⟨gF,f * 65+a,hA hk,hB,fun j hj=>?_⟩⟩
  · rcases Nat.eq_zero_or_pos k with h0 | h0
    · exact h0
    · rw[hA h0] at hn;cases hn
  · have:=win_byte (F f) a k (fun j hj=>by
      have:=b2 _ (List.getElem_mem hj)
      simpa [hj] using this)
    have hj':j < (win (F f) a k).length:=by omega
    have:=this _ (List.getElem_mem hj')
    simpa [hj'] using this
  · rw[h2.cell,show f * 65+a+j=f * 65+(a+j) by omega,b3 (a+j) (by omega)]
    have e:(win (F f) a k).getD j 0=(F f).getD (a+j) 0:=by
      unfold win
      simp only[List.getD_eq_getElem?_getD]
      rw[List.getElem?_take,if_pos hj,List.getElem?_drop]
    rw[e]
    rfl
end
def ReadPost (w:World)(n:Nat)(ys:List Nat)(e:Ending)(w':World):Prop :=
  e=.returned (.tuple #[.slice (some ⟨w.heap.size,0,none⟩) n n,.int .i64 0])∧Blk w' w.heap.size 5 (ys.map bv).toArray∧Below w.heap.size w w'∧w'.heap.size=w.heap.size+1
set_option maxHeartbeats 400000 in
theorem read_yes (gR gF m:Nat) (F:Nat→List Nat) (bad:Nat→Bool) (f a n:Nat) (w:World) (h:Mem w gR gF m F bad) (hf:f < m) (hi:a+n≤64) (hb:bad f=false) :
    Calls Tryz.prog 94 #[.pointer (some ⟨gR,0,none⟩),.int .i64 f,.int .i64 a,.int .i64 n] w (ReadPost w n (win (F f) a n)):=by
  have HP:=Lib.hid (piece_yes gR gF m F bad f a n w h hf hi hb)
  have hmk:=make_zs n (by omega) w
  have HM:=Lib.hid h
  have HL:=Lib.hid (win_length (F f) a n (by have:=h.long hf;omega))
  clear h hb
  go_enter Tryz.func94,Tryz.ntmps94
  go_wp2_with fail
  refine HP.out.mono ?_
  rintro e w1 ⟨A,rfl,hA,rfl⟩
  have HA:=Lib.hid hA
  clear hA
  go_wp2_with (with_reducible refine wpList_copy_bts rfl (.tmp 26) (.tmp 27) 22 22 rfl 5 Tryz.underlying22 Tryz.size8 _ _ n n n n rfl rfl w.heap.size 0 (zs n) 5 (Blk.new w _ _) (win (F f) a n) w.heap.size ((HM.out.alloc _).bts hf hi HA.out HM.out.lt.2) (by rw[HL.out];exact Nat.le_refl _) (fun _=>rfl) (by rw[HL.out,zs_size];omega) ?_;intro w2 HB2 HO2)
  go_ret2
  refine⟨rfl,?_,(((Below.refl _ _).alloc (Nat.le_refl _) _).trans (HO2.out.below (Nat.le_refl _) (by simp))),by rw[HO2.out.2];simp⟩
  have h2:=HB2.out
  rw[splice_zs n _ HL.out] at h2
  exact h2
def TurnPost (w:World)(gR gF m:Nat)(F:Nat→List Nat)(bad:Nat→Bool)(r:Value)(e:Ending)(w':World):Prop:=e=.returned r∧Mem w' gR gF m F bad∧Only gF w w'
set_option maxHeartbeats 400000 in
theorem write_yes (gR gF m:Nat) (F:Nat→List Nat) (bad:Nat→Bool) (f a B:Nat) (v0:Value) (xs:List Nat) (w:World) (h:Mem w gR gF m F bad) (hf:f < m) (hi:a+xs.length≤64) (hb:bad f=false) (hx:Bts w B v0 xs) :
    Calls Tryz.prog 40 #[.pointer (some ⟨gR,0,none⟩),.int .i64 f,.int .i64 a,v0] w (TurnPost w gR gF m (upd F f (over (F f) a xs)) bad (.int .i64 0)):=by
  have HX:=Lib.hid hx
  obtain⟨A0,l0,c0,rfl,hl,-⟩:=hx
  rw[hl] at hi
  have HL:=Lib.hid hl
  clear hl
  have HP:=Lib.hid (piece_yes gR gF m F bad f a l0 w h hf hi hb)
  have HM:=Lib.hid h
  clear h hb
  obtain⟨cur,hcur,hsz⟩:∃ cur,Blk w gF 215 cur∧f * 65+a+l0≤cur.size:=by
    obtain⟨cur,_,h2,h3,_⟩:=HM.out
    exact⟨cur,h2,by omega⟩
  have HC:=Lib.hid hcur
  have HZ:=Lib.hid hsz
  clear hcur hsz
  go_enter Tryz.func40,Tryz.ntmps40
  go_wp2_with fail
  refine HP.out.mono ?_
  rintro e w1 ⟨A,rfl,hA,rfl⟩
  have HA:=Lib.hid hA
  clear hA
  go_wp2_with (with_reducible refine wpList_copy_bts rfl (.tmp 23) (.tmp 24) 22 22 rfl 5 Tryz.underlying22 Tryz.size8 _ _ l0 l0 l0 c0 rfl rfl gF (f * 65+a) cur 215 HC.out xs B HX.out (by rw[HL.out];exact Nat.le_refl _) (fun h0=>HA.out (by rw[HL.out] at h0;exact h0)) (by rw[HL.out];exact HZ.out) ?_;intro w2 HB2 HO2)
  go_ret
  refine⟨rfl,HM.out.bytes hf (by rw[HL.out];exact hi) HX.out.byte HO2.out (fun cur2 h2 hs2=>?_),HO2.out⟩
  have e:cur2=cur:=by
    have h1:=HC.out
    unfold Blk at h1 h2
    rw[h1] at h2
    injection h2 with h2
    injection h2 with h2
    exact h2.symm
  subst e
  exact⟨_,HB2.out,Over.splice_ (by simpa using hs2)⟩
end Go.Proofs.YtaonpmclkafjdaaGreat
namespace Go.Proofs.YtaonpmclkafjdaaGreat
open Go.RowKit
set_option linter.unusedVariables false
section
variable {w:World}{gR gF n:Nat}{F:Nat→List Nat}{bad:Nat→Bool}
theorem Mem.there_ (h:Mem w gR gF n F bad){f:Nat}(hf:f < n):w.there gF (f * 65) 64:=by
  obtain⟨cur,h1,h2,h3,h4,h5⟩:=h
  intro j hj
  obtain⟨b1,b2,b3,b4⟩:=h5 f hf
  exact⟨by rw[h2.cell,b3 j hj];rfl,h2.frozen _⟩
theorem Mem.range_ (h:Mem w gR gF n F bad){f:Nat}(hf:f < n):w.rangeAt gF (f * 65) ((F f).map bv):=by
  obtain⟨cur,h1,h2,h3,h4,h5⟩:=h
  obtain⟨b1,b2,b3,b4⟩:=h5 f hf
  intro j v hv
  have hj:j < (F f).length:=by
    have:=(List.getElem?_eq_some_iff.1 hv).1
    simpa using this
  rw[h2.cell,b3 j (by omega)]
  simp[hj] at hv ⊢
  exact hv
theorem Mem.cells (h:Mem w gR gF n F bad) {f:Nat} {ys:List Nat} (hf:f < n) (hl:ys.length=64) (hy:∀ y∈ys,y < 256) :
    Mem (w.setCells gF (f * 65) (ys.map bv)) gR gF n (upd F f ys) bad∧Only gF w (w.setCells gF (f * 65) (ys.map bv)):=by
  have ho:Only gF w (w.setCells gF (f * 65) (ys.map bv)):=Only.setCells _ _ (Only.refl _ _)
  refine⟨?_,ho⟩
  have h1:=h.bytes (a:=0) (ys:=ys) hf (by omega) hy ho (fun cur hc hs=>Blk.setCells _ _ hc (by simpa using hs))
  rw[over_all _ _ (by rw[h.long hf,hl])] at h1
  exact h1
theorem Mem.drew (h:Mem w gR gF n F bad):Mem w.drew gR gF n F bad:=h
theorem Mem.byte (h:Mem w gR gF n F bad){f:Nat}(hf:f < n):∀ y∈F f,y < 256:=by
  obtain⟨cur,h1,h2,h3,h4,h5⟩:=h
  exact (h5 f hf).2.1
end
set_option maxHeartbeats 400000 in
theorem zero_yes (gR gF m:Nat) (F:Nat→List Nat) (bad:Nat→Bool) (f:Nat) (w:World) (h:Mem w gR gF m F bad) (hf:f < m) (hb:bad f=false) :
    Calls Tryz.prog 173 #[.pointer (some ⟨gR,0,none⟩),.int .i64 f] w (TurnPost w gR gF m (upd F f zer) bad (.int .i64 0)):=by
  have HP:=Lib.hid (piece_yes gR gF m F bad f 0 64 w h hf (by omega) hb)
  have hz:=h.cells (ys:=zer) hf zer_length zer_byte
  have hth:=h.there_ hf
  obtain⟨W,hW⟩:∃ W,W=w.setCells gF (f * 65) (zer.map bv):=⟨_,rfl⟩
  have hcl:∀ ty,(Builtin.clear_ #[22] ty #[.slice (some ⟨gF,f * 65,none⟩) 64 64]).run Tryz.prog w=.ok (.tuple #[]) W:=fun ty=>by
    rw[Lib.run_clear_slice w 22 5 ty (.int .u8 0) Tryz.underlying22 Tryz.zero8 rfl rfl gF (f * 65) 64 64 (by omega) (fun j hj=>(hth j hj).1) (fun j hj=>(hth j hj).2),hW,zer,List.map_replicate]
    rfl
  rw[← hW] at hz
  have HZ:=Lib.hid hz
  clear hz h hb hth hW
  go_enter Tryz.func173,Tryz.ntmps173
  go_wp2_with fail
  refine HP.out.mono ?_
  rintro e w1 ⟨A,rfl,hA,rfl⟩
  obtain rfl:=hA (by omega)
  clear hA
  go_wp2
  go_ret
  exact⟨rfl,HZ.out.1,HZ.out.2⟩
end Go.Proofs.YtaonpmclkafjdaaGreat
namespace Go.Proofs.YtaonpmclkafjdaaGreat
open Go.RowKit
set_option linter.unusedVariables false
theorem copy_keeps (gR gF f t:Nat) (u:Value) (cs:List Value) (hl:cs.length=64) (hne:gR≠gF) (W:World) (h1:W.cell? ⟨gR,0,none⟩=some u) (h2:W.rangeAt gF (f * 65) cs) (h3:W.there gF (t * 65) 64) :
    (W.setCells gF (t * 65) cs).cell? ⟨gR,0,none⟩=some u∧(W.setCells gF (t * 65) cs).rangeAt gF (f * 65) cs∧(W.setCells gF (t * 65) cs).there gF (t * 65) 64:=by
  refine⟨?_,?_,World.there_setCells h3 _ _ _⟩
  · rw[World.cell?_setCells_out _ _ _ _ _ (fun e _=>absurd e hne),h1]
  · by_cases e:f=t
    · subst e
      exact World.rangeAt_setCells_same _ _ _ _ (by rw[hl];exact h3)
    · exact World.rangeAt_setCells_apart h2 _ _ _ (by omega)
theorem Tryz.size64:(Tryz.prog.info? 117).map (·.size)=some 64:=by kernel_rfl
set_option maxRecDepth 100000 in
set_option maxHeartbeats 800000 in
theorem copy_yes (gR gF m:Nat) (F:Nat→List Nat) (bad:Nat→Bool) (f t:Nat) (w:World) (h:Mem w gR gF m F bad) (hf:f < m) (ht:t < m) (hb:bad f=false) (hb2:bad t=false) :
    Calls Tryz.prog 75 #[.pointer (some ⟨gR,0,none⟩),.int .i64 f,.int .i64 t] w (TurnPost w gR gF m (upd F t (F f)) bad (.int .i64 0)):=by
  have HH:=Lib.hid (has_yes gR gF m F bad f w h hf)
  have HH2:=Lib.hid (has_yes gR gF m F bad t w h ht)
  have hc:=h.head
  have hm:=h.mark hf
  have hm2:=h.mark ht
  rw[hb] at hm
  rw[hb2] at hm2
  have HZ:=Lib.hid (h.drew.cells (ys:=F f) ht (h.long hf) (h.byte hf))
  have hv:=h.range_ hf
  have hth:=h.there_ ht
  have hl:((F f).map bv).length=64:=by rw[List.length_map,h.long hf]
  have h1:=map_bv_one (F f)
  obtain⟨cs,hcs⟩:∃ cs,cs=(F f).map bv:=⟨_,rfl⟩
  rw[← hcs] at hv hl h1 HZ
  have HK:=Lib.hid (copy_keeps gR gF f t (.slice (some ⟨gF,0,none⟩) m m) cs hl h.ne)
  clear h hcs hb hb2
  have hu:=Tryz.underlying117
  have hi:(Tryz.prog.info? 117).map (·.size)=some cs.length:=by rw[Tryz.size64,hl]
  have t7:(f:Int) < (m:Int):=by omega
  have t8:(0:Int)≤(f:Int):=by omega
  have t5:(t:Int) < (m:Int):=by omega
  have t6:(0:Int)≤(t:Int):=by omega
  go_enter Tryz.func75,Tryz.ntmps75
  go_wp2_with fail
  refine HH.out.mono ?_
  rintro e w1 ⟨rfl,rfl⟩
  go_wp2_with fail
  refine HH2.out.mono ?_
  rintro e w1 ⟨rfl,rfl⟩
  go_wp2_with fail
  go_region_held3 (fun w'=>w'.cell? ⟨gR,0,none⟩=some (.slice (some ⟨gF,0,none⟩) m m)∧w'.rangeAt gF (f * 65) cs∧w'.there gF (t * 65) 64) (first | (go_split_ands;refine HK.out _ ?_ ?_ ?_ <;> first | assumption | (simp only[World.rangeAt_drew,World.there_drew,World.cell?_drew];assumption)) | go_keep_ranges) (fail)
  go_wp2
  go_ret
  exact⟨rfl,HZ.out.1,(Only.refl gF w).drew.trans HZ.out.2⟩
def frm0:Array Value:=⟨List.replicate 64 (.int .u8 0) ++ [.bool false]⟩
theorem Tryz.infoFrame:(Tryz.prog.info? 215).map (fun i=>(i.zero.map (·.cells),i.size,decide (i.bytes≤100)))=some (some frm0,65,true):=by kernel_rfl
def frames0 (n:Nat):Array Value:=madeCells frm0 (n * 65)
theorem frames0_size (n:Nat):(frames0 n).size=n * 65:=by simp[frames0,madeCells]
theorem frm0_size:frm0.size=65:=rfl
theorem frames0_at (n f i:Nat)(hf:f < n)(hi:i < 65):(frames0 n)[f * 65+i]?=frm0[i]?:=by
  have e:(f * 65+i) % 65=i:=by omega
  have hi':i < frm0.size:=by rw[frm0_size];exact hi
  have hr:f * 65+i < n * 65:=by omega
  unfold frames0 madeCells
  rw[Array.getElem?_map,Array.getElem?_range,if_pos hr]
  simp only[Option.map_some,frm0_size,e]
  rw[getElem!_pos frm0 i hi',Array.getElem?_eq_getElem hi']
theorem make_frames (n:Nat)(hn:n≤1024)(w:World):(Instr.makeSlice 154 (.int .i64 (n:Int)) (.int .i64 (n:Int))).run Tryz.prog w=.ok (.slice (some ⟨w.heap.size,0,none⟩) n n) (w.alloc (.cells (frames0 n) 215)):=by
  have h:=Tryz.infoFrame
  cases hq:Tryz.prog.info? 215 with
  | none=>rw[hq] at h;cases h
  | some i =>
    rw[hq] at h
    simp only[Option.map_some,Option.some.injEq,Prod.mk.injEq,decide_eq_true_eq] at h
    obtain⟨h1,h2,h3⟩:=h
    obtain⟨z,hz,hzc⟩:=Option.map_eq_some_iff.1 h1
    have hr:=run_make (P:=Tryz.prog) w _ _ i z Tryz.underlying154 hq hz .i64 .i64 n n (by omega) (by omega) (by
      have:(i.bytes:Int)≤100:=by omega
      have h5:(n:Int)≤1024:=by omega
      have h6:(i.bytes:Int) * n≤100 * 1024:=Int.mul_le_mul this h5 (by omega) (by omega)
      omega) (by omega)
    simp only[Int.toNat_natCast,h2,hzc] at hr
    exact hr
def NewPost (w:World)(n:Nat)(e:Ending)(w':World):Prop :=
  e=.returned (.pointer (some ⟨w.heap.size+1,0,none⟩))∧Mem w' (w.heap.size+1) w.heap.size n (fun _=>zer) (fun _=>false)∧Below w.heap.size w w'∧w'.heap.size=w.heap.size+2
theorem new_mem (w:World) (n:Nat) (hn:n≤1024) :
    Mem ((w.alloc (.cells (frames0 n) 215)).alloc (.cells #[.slice (some ⟨w.heap.size,0,none⟩) n n] 156)) (w.heap.size+1) w.heap.size n (fun _=>zer) (fun _=>false):=by
  have h1:Blk ((w.alloc (.cells (frames0 n) 215)).alloc (.cells #[.slice (some ⟨w.heap.size,0,none⟩) n n] 156)) (w.heap.size+1) 156 #[.slice (some ⟨w.heap.size,0,none⟩) n n]:=by
    have:=Blk.new (w.alloc (.cells (frames0 n) 215)) 156 #[.slice (some ⟨w.heap.size,0,none⟩) n n]
    simpa using this
  have h2:Blk ((w.alloc (.cells (frames0 n) 215)).alloc (.cells #[.slice (some ⟨w.heap.size,0,none⟩) n n] 156)) w.heap.size 215 (frames0 n) :=
    (Below.heap_alloc _ _ _ (by simp)).trans (Blk.new w _ _)
  refine⟨frames0 n,h1,h2,frames0_size n,hn,fun f hf=>⟨zer_length,zer_byte,fun i hi=>?_,?_⟩⟩
  · rw[frames0_at n f i hf (by omega)]
    have e:frm0[i]?=some (.int .u8 0):=by
      unfold frm0
      rw[List.getElem?_toArray,List.getElem?_append_left (by simpa using hi),List.getElem?_replicate,if_pos hi]
    have e2:zer.getD i 0=0:=by
      unfold zer
      simp only[List.getD_eq_getElem?_getD,List.getElem?_replicate,hi,if_true,Option.getD_some]
    rw[e,e2]
    rfl
  · rw[frames0_at n f 64 hf (by omega)]
    unfold frm0
    rw[List.getElem?_toArray,List.getElem?_append_right (by simp)]
    simp
def Near (frames:Int)(n:Nat):Prop:=(frames≤0∧n=0)∨(1024≤frames∧n=1024)∨(0≤frames∧frames≤1024∧frames=n)
set_option maxHeartbeats 400000 in
theorem new_any (frames:Int)(n:Nat)(w:World)(h:Near frames n):Calls Tryz.prog 34 #[.int .i64 frames] w (NewPost w n):=by
  have hn:n≤1024:=by unfold Near at h;omega
  have HM:=Lib.hid (new_mem w n hn)
  have HB:=Lib.hid (show Below w.heap.size w ((w.alloc (.cells (frames0 n) 215)).alloc (.cells #[.slice (some ⟨w.heap.size,0,none⟩) n n] 156)) from
    ((Below.refl _ _).alloc (Nat.le_refl _) _).alloc (by simp) _)
  have hmk:=make_frames n hn w
  unfold Near at h
  by_cases c1:frames < 0
  · obtain rfl:n=0:=by omega
    have hmk':(Instr.makeSlice 154 (.int .i64 0) (.int .i64 0)).run Tryz.prog w=.ok (.slice (some ⟨w.heap.size,0,none⟩) 0 0) (w.alloc (.cells (frames0 0) 215)):=hmk
    clear hmk h
    go_enter Tryz.func34,Tryz.ntmps34
    go_wp2
    go_ret
    exact⟨rfl,HM.out,HB.out,by simp⟩
  · by_cases c2:1024 < frames
    · obtain rfl:n=1024:=by omega
      have hmk':(Instr.makeSlice 154 (.int .i64 1024) (.int .i64 1024)).run Tryz.prog w=.ok (.slice (some ⟨w.heap.size,0,none⟩) 1024 1024) (w.alloc (.cells (frames0 1024) 215)):=hmk
      clear hmk h
      go_enter Tryz.func34,Tryz.ntmps34
      go_wp2
      go_ret
      exact⟨rfl,HM.out,HB.out,by simp⟩
    · obtain rfl:frames=n:=by omega
      clear c1 h
      go_enter Tryz.func34,Tryz.ntmps34
      go_wp2
      go_ret
      exact⟨rfl,HM.out,HB.out,by simp⟩
end Go.Proofs.YtaonpmclkafjdaaGreat
namespace Go.Proofs.YtaonpmclkafjdaaGreat
open Go.RowKit
set_option linter.unusedVariables false
structure Tr where
  good:Nat
  failed:Nat
  fused:Bool
  left:Nat
  down:Bool
def Tr.none_:Tr:=⟨0,0,false,0,false⟩
def Tr.ok (t:Tr):Prop:=t.good≤9223372036854775807∧t.failed≤9223372036854775807∧t.left≤9223372036854775807
def Tr.ans (t:Tr):Nat :=
  if t.down=true∨(t.fused=true∧t.left=0) then 9 else if 0 < t.good then 0 else if 0 < t.failed then 6 else 0
def Tr.next (t:Tr):Tr :=
  if t.down=true∨(t.fused=true∧t.left=0) then ⟨t.good,t.failed,t.fused,t.left,true⟩
  else ⟨t.good - 1,if 0 < t.good then t.failed else t.failed - 1,t.fused,if t.fused=true then t.left - 1 else t.left,t.down⟩
theorem Tr.next_ok {t:Tr}(h:t.ok):t.next.ok:=by
  unfold Tr.ok Tr.next at *
  split
  · exact h
  · refine⟨by simp only;omega,?_,?_⟩ <;> simp only <;> split <;> omega
theorem Tr.none_ok:Tr.none_.ok:=⟨by simp[Tr.none_],by simp[Tr.none_],by simp[Tr.none_]⟩
def dskV (gS gM n:Nat)(t:Tr):Array Value :=
  #[.slice (some ⟨gS,0,none⟩) n n,.map (some gM),.int .i64 t.good,.int .i64 t.failed,.bool t.fused,.int .i64 t.left,.bool t.down]
def Sec (w:World)(gS n:Nat)(S:Nat→List Nat):Prop :=
  ∃ cur,Blk w gS 118 cur∧cur.size=n * 64∧∀ f,f < n→(S f).length=64∧(∀ y∈S f,y < 256)∧∀ i,i < 64→cur[f * 64+i]?=some (bv ((S f).getD i 0))
def Dsk (w:World)(gD gS gM n:Nat)(S:Nat→List Nat)(L:Nat→Option (List Nat))(t:Tr):Prop :=
  Blk w gD 115 (dskV gS gM n t)∧t.ok∧n≤4096∧Sec w gS n S∧Loo Tryz.prog 3 w gM n L∧∀ j xs,L j=some xs→xs.length=64∧∀ y∈xs,y < 256
theorem Tryz.law:Maps.Keyed Tryz.prog 3:=Maps.int_keyed Tryz.underlying3
section
variable {w w':World}{gD gS gM n:Nat}{S:Nat→List Nat}{L:Nat→Option (List Nat)}{t:Tr}
theorem Sec.far (h:Sec w gS n S)(hb:w'.heap[gS]?=w.heap[gS]?):Sec w' gS n S:=by
  obtain⟨cur,h1,h2⟩:=h
  exact⟨cur,hb.trans h1,h2⟩
theorem Sec.lt (h:Sec w gS n S):gS < w.heap.size:=by
  obtain⟨cur,h1,h2⟩:=h
  exact h1.lt
theorem Dsk.lt (h:Dsk w gD gS gM n S L t):gD < w.heap.size∧gS < w.heap.size∧gM < w.heap.size:=⟨h.1.lt,h.2.2.2.1.lt,h.2.2.2.2.1.blk⟩
theorem Dsk.ne (h:Dsk w gD gS gM n S L t):gD≠gS∧gD≠gM∧gS≠gM:=by
  obtain⟨h1,_,_,⟨cur,h2,_⟩,h3,_⟩:=h
  obtain⟨es,clock,h4⟩:=h3.map_
  unfold Blk at h1 h2
  refine⟨?_,?_,?_⟩
  · rintro rfl
    rw[h1] at h2
    injection h2 with h2
    injection h2 with _ ht
    exact absurd ht (by decide)
  · rintro rfl
    rw[h1] at h4
    cases h4
  · rintro rfl
    rw[h2] at h4
    cases h4
theorem Dsk.far (h:Dsk w gD gS gM n S L t)(h1:w'.heap[gD]?=w.heap[gD]?)(h2:w'.heap[gS]?=w.heap[gS]?)(h3:w'.heap[gM]?=w.heap[gM]?):Dsk w' gD gS gM n S L t :=
  ⟨h1.trans h.1,h.2.1,h.2.2.1,h.2.2.2.1.far h2,h.2.2.2.2.1.far h3,h.2.2.2.2.2⟩
theorem Dsk.below (h:Dsk w gD gS gM n S L t){B:Nat}(hb:Below B w w')(h1:gD < B)(h2:gS < B)(h3:gM < B):Dsk w' gD gS gM n S L t :=
  h.far (hb.block _ h1) (hb.block _ h2) (hb.block _ h3)
theorem Dsk.fresh (h:Dsk w gD gS gM n S L t)(hb:Below w.heap.size w w'):Dsk w' gD gS gM n S L t:=h.below hb h.lt.1 h.lt.2.1 h.lt.2.2
theorem Dsk.drew (h:Dsk w gD gS gM n S L t):Dsk w.drew gD gS gM n S L t:=h
theorem Dsk.cell (h:Dsk w gD gS gM n S L t)(i:Nat):w.cell? ⟨gD,i,none⟩=(dskV gS gM n t)[i]?:=h.1.cell i
theorem Dsk.few (h:Dsk w gD gS gM n S L t):n≤4096:=h.2.2.1
end
set_option maxRecDepth 20000 in
set_option maxHeartbeats 400000 in
theorem sectors_any (gD gS gM n:Nat) (S:Nat→List Nat) (L:Nat→Option (List Nat)) (t:Tr) (w:World) (h:Dsk w gD gS gM n S L t) :
    Calls Tryz.prog 107 #[.pointer (some ⟨gD,0,none⟩)] w fun e w'=>e=.returned (.int .i64 n)∧w=w':=by
  have hc:w.cell? ⟨gD,0,none⟩=some (.slice (some ⟨gS,0,none⟩) n n):=h.cell 0
  clear h
  go_enter Tryz.func107,Tryz.ntmps107
  go_wp2
  go_ret
  exact⟨rfl,rfl⟩
set_option maxRecDepth 20000 in
set_option maxHeartbeats 400000 in
theorem dhas_yes (gD gS gM n:Nat) (S:Nat→List Nat) (L:Nat→Option (List Nat)) (t:Tr) (f:Nat) (w:World) (h:Dsk w gD gS gM n S L t) (hf:f < n) :
    Calls Tryz.prog 58 #[.pointer (some ⟨gD,0,none⟩),.int .i64 f] w fun e w'=>e=.returned (.bool true)∧w=w':=by
  have HF:=Lib.hid (sectors_any _ _ _ _ _ _ _ w h)
  clear h
  have h1:(f:Int) < (n:Int):=by omega
  have h2:(0:Int)≤(f:Int):=by omega
  go_enter Tryz.func58,Tryz.ntmps58
  go_wp2_with fail
  refine HF.out.mono ?_
  rintro e w1 ⟨rfl,rfl⟩
  go_wp2
  go_ret
  exact⟨rfl,rfl⟩
def WorkPost (w:World)(gD gS gM n:Nat)(t:Tr)(e:Ending)(w':World):Prop :=
  e=.returned (.int .i64 t.ans)∧Blk w' gD 115 (dskV gS gM n t.next)∧Only gD w w'
set_option maxRecDepth 20000 in
set_option maxHeartbeats 1600000 in
theorem work_any (gD gS gM n:Nat) (t:Tr) (w:World) (h:Blk w gD 115 (dskV gS gM n t)) (ht:t.ok) :
    Calls Tryz.prog 59 #[.pointer (some ⟨gD,2,none⟩)] w (WorkPost w gD gS gM n t):=by
  obtain⟨g,f,fu,l,d⟩:=t
  have HB:=Lib.hid h
  obtain⟨hg,hf,hl⟩:=ht
  simp only at hg hf hl
  have c2:w.cell? ⟨gD,2,none⟩=some (.int .i64 g):=h.cell 2
  have c3:w.cell? ⟨gD,3,none⟩=some (.int .i64 f):=h.cell 3
  have c4:w.cell? ⟨gD,4,none⟩=some (.bool fu):=h.cell 4
  have c5:w.cell? ⟨gD,5,none⟩=some (.int .i64 l):=h.cell 5
  have c6:w.cell? ⟨gD,6,none⟩=some (.bool d):=h.cell 6
  have f2:=h.frozen 2
  have f3:=h.frozen 3
  have f5:=h.frozen 5
  have f6:=h.frozen 6
  clear h
  cases d with
  | true =>
    go_enter Tryz.func59,Tryz.ntmps59
    go_wp2
    go_ret
    exact⟨rfl,by simpa [dskV,Tr.next] using HB.out.set_ 6 (.bool true),(Only.refl _ _).setCell _ _⟩
  | false =>
    by_cases t1:fu=true∧l=0
    · obtain⟨rfl,rfl⟩:=t1
      go_enter Tryz.func59,Tryz.ntmps59
      go_wp2
      go_ret
      exact⟨rfl,by simpa [dskV,Tr.next] using HB.out.set_ 6 (.bool true),(Only.refl _ _).setCell _ _⟩
    · by_cases t2:fu=true
      · subst t2
        have t0:0 < l:=by
          rcases Nat.eq_zero_or_pos l with h | h
          · exact absurd ⟨rfl,h⟩ t1
          · exact h
        clear t1
        have d5:decide ((l:Int)=0)=false:=by simp;omega
        have w5:IntKind.i64.wrap ((l:Int) - 1)=((l - 1:Nat):Int):=by rw[IntKind.wrap_i64];omega
        by_cases t3:0 < g
        · have d2:decide ((0:Int) < (g:Int))=true:=by simp;omega
          have w2:IntKind.i64.wrap ((g:Int) - 1)=((g - 1:Nat):Int):=by rw[IntKind.wrap_i64];omega
          go_enter Tryz.func59,Tryz.ntmps59
          go_wp2
          go_ret
          have ha:Tr.ans ⟨g,f,true,l,false⟩=0:=by unfold Tr.ans;rw[if_neg (by simp;omega)];simp only;rw[if_pos t3]
          have hn:Tr.next ⟨g,f,true,l,false⟩=⟨g - 1,f,true,l - 1,false⟩:=by unfold Tr.next;rw[if_neg (by simp;omega)];simp[t3]
          exact⟨by rw[ha];rfl,by rw[hn];exact ((HB.out).set_ 5 (.int .i64 ((l - 1:Nat):Int))).set_ 2 (.int .i64 ((g - 1:Nat):Int)),((Only.refl _ _).setCell _ _).setCell _ _⟩
        · have d2:decide ((0:Int) < (g:Int))=false:=by simp;omega
          by_cases t4:0 < f
          · have d3:decide ((0:Int) < (f:Int))=true:=by simp;omega
            have w3:IntKind.i64.wrap ((f:Int) - 1)=((f - 1:Nat):Int):=by rw[IntKind.wrap_i64];omega
            go_enter Tryz.func59,Tryz.ntmps59
            go_wp2
            go_ret
            have ha:Tr.ans ⟨g,f,true,l,false⟩=6:=by unfold Tr.ans;rw[if_neg (by simp;omega)];simp only;rw[if_neg t3,if_pos t4]
            have hn:Tr.next ⟨g,f,true,l,false⟩=⟨0,f - 1,true,l - 1,false⟩:=by unfold Tr.next;rw[if_neg (by simp;omega)];simp[show g=0 by omega]
            obtain rfl:g=0:=by omega
            exact⟨by rw[ha];rfl,by rw[hn];exact ((HB.out).set_ 5 (.int .i64 ((l - 1:Nat):Int))).set_ 3 (.int .i64 ((f - 1:Nat):Int)),((Only.refl _ _).setCell _ _).setCell _ _⟩
          · have d3:decide ((0:Int) < (f:Int))=false:=by simp;omega
            go_enter Tryz.func59,Tryz.ntmps59
            go_wp2
            go_ret
            have ha:Tr.ans ⟨g,f,true,l,false⟩=0:=by unfold Tr.ans;rw[if_neg (by simp;omega)];simp only;rw[if_neg t3,if_neg t4]
            have hn:Tr.next ⟨g,f,true,l,false⟩=⟨0,0,true,l - 1,false⟩:=by unfold Tr.next;rw[if_neg (by simp;omega)];simp[show g=0 by omega,show f=0 by omega]
            obtain rfl:g=0:=by omega
            obtain rfl:f=0:=by omega
            exact⟨by rw[ha];rfl,by rw[hn];exact (HB.out).set_ 5 (.int .i64 ((l - 1:Nat):Int)),(Only.refl _ _).setCell _ _⟩
      · obtain rfl:fu=false:=by simpa using t2
        clear t1 t2
        by_cases t3:0 < g
        · have d2:decide ((0:Int) < (g:Int))=true:=by simp;omega
          have w2:IntKind.i64.wrap ((g:Int) - 1)=((g - 1:Nat):Int):=by rw[IntKind.wrap_i64];omega
          go_enter Tryz.func59,Tryz.ntmps59
          go_wp2
          go_ret
          have ha:Tr.ans ⟨g,f,false,l,false⟩=0:=by unfold Tr.ans;rw[if_neg (by simp)];simp only;rw[if_pos t3]
          have hn:Tr.next ⟨g,f,false,l,false⟩=⟨g - 1,f,false,l,false⟩:=by unfold Tr.next;rw[if_neg (by simp)];simp[t3]
          exact⟨by rw[ha];rfl,by rw[hn];exact (HB.out).set_ 2 (.int .i64 ((g - 1:Nat):Int)),(Only.refl _ _).setCell _ _⟩
        · have d2:decide ((0:Int) < (g:Int))=false:=by simp;omega
          by_cases t4:0 < f
          · have d3:decide ((0:Int) < (f:Int))=true:=by simp;omega
            have w3:IntKind.i64.wrap ((f:Int) - 1)=((f - 1:Nat):Int):=by rw[IntKind.wrap_i64];omega
            go_enter Tryz.func59,Tryz.ntmps59
            go_wp2
            go_ret
            have ha:Tr.ans ⟨g,f,false,l,false⟩=6:=by unfold Tr.ans;rw[if_neg (by simp)];simp only;rw[if_neg t3,if_pos t4]
            have hn:Tr.next ⟨g,f,false,l,false⟩=⟨0,f - 1,false,l,false⟩:=by unfold Tr.next;rw[if_neg (by simp)];simp[show g=0 by omega]
            obtain rfl:g=0:=by omega
            exact⟨by rw[ha];rfl,by rw[hn];exact (HB.out).set_ 3 (.int .i64 ((f - 1:Nat):Int)),(Only.refl _ _).setCell _ _⟩
          · have d3:decide ((0:Int) < (f:Int))=false:=by simp;omega
            go_enter Tryz.func59,Tryz.ntmps59
            go_wp2
            go_ret
            have ha:Tr.ans ⟨g,f,false,l,false⟩=0:=by unfold Tr.ans;rw[if_neg (by simp)];simp only;rw[if_neg t3,if_neg t4]
            have hn:Tr.next ⟨g,f,false,l,false⟩=⟨0,0,false,l,false⟩:=by unfold Tr.next;rw[if_neg (by simp)];simp[show g=0 by omega,show f=0 by omega]
            obtain rfl:g=0:=by omega
            obtain rfl:f=0:=by omega
            exact⟨by rw[ha];rfl,by rw[hn];exact HB.out,Only.refl _ _⟩
theorem Dsk.worked {w w':World}{gD gS gM n:Nat}{S:Nat→List Nat}{L:Nat→Option (List Nat)}{t:Tr}(h:Dsk w gD gS gM n S L t)(h1:Blk w' gD 115 (dskV gS gM n t.next))(h2:Only gD w w'):Dsk w' gD gS gM n S L t.next :=
  ⟨h1,Tr.next_ok h.2.1,h.2.2.1,h.2.2.2.1.far (h2.1.block _ h.lt.2.1 (fun e=>h.ne.1 (by injection e with e;exact e.symm))),
    h.2.2.2.2.1.far (h2.1.block _ h.lt.2.2 (fun e=>h.ne.2.1 (by injection e with e;exact e.symm))),h.2.2.2.2.2⟩
end Go.Proofs.YtaonpmclkafjdaaGreat
namespace Go.Proofs.YtaonpmclkafjdaaGreat
open Go.RowKit
set_option linter.unusedVariables false
theorem Tryz.infoSec:(Tryz.prog.info? 118).map (fun i=>(i.zero.map (·.cells),i.size,decide (i.bytes≤100)))=some (some (zs 64),64,true):=by kernel_rfl
def secs0 (n:Nat):Array Value:=madeCells (zs 64) (n * 64)
theorem secs0_size (n:Nat):(secs0 n).size=n * 64:=by simp[secs0,madeCells]
theorem secs0_at (n i:Nat)(hi:i < n * 64):(secs0 n)[i]?=some (bv 0):=by
  unfold secs0 madeCells
  rw[Array.getElem?_map,Array.getElem?_range,if_pos hi]
  have hz:(zs 64).size=64:=zs_size 64
  have hi':i % (zs 64).size < (zs 64).size:=Nat.mod_lt _ (by omega)
  simp only[Option.map_some]
  rw[getElem!_pos (zs 64) _ hi']
  simp[zs]
theorem make_secs (n:Nat)(hn:n≤4096)(w:World):(Instr.makeSlice 110 (.int .i64 (n:Int)) (.int .i64 (n:Int))).run Tryz.prog w=.ok (.slice (some ⟨w.heap.size,0,none⟩) n n) (w.alloc (.cells (secs0 n) 118)):=by
  have h:=Tryz.infoSec
  cases hq:Tryz.prog.info? 118 with
  | none=>rw[hq] at h;cases h
  | some i =>
    rw[hq] at h
    simp only[Option.map_some,Option.some.injEq,Prod.mk.injEq,decide_eq_true_eq] at h
    obtain⟨h1,h2,h3⟩:=h
    obtain⟨z,hz,hzc⟩:=Option.map_eq_some_iff.1 h1
    have hr:=run_make (P:=Tryz.prog) w _ _ i z Tryz.underlying110 hq hz .i64 .i64 n n (by omega) (by omega) (by
      have:(i.bytes:Int)≤100:=by omega
      have h5:(n:Int)≤4096:=by omega
      have h6:(i.bytes:Int) * n≤100 * 4096:=Int.mul_le_mul this h5 (by omega) (by omega)
      omega) (by omega)
    simp only[Int.toNat_natCast,h2,hzc] at hr
    exact hr
def DNewPost (w:World)(n:Nat)(e:Ending)(w':World):Prop :=
  e=.returned (.pointer (some ⟨w.heap.size+2,0,none⟩))∧Dsk w' (w.heap.size+2) w.heap.size (w.heap.size+1) n (fun _=>zer) (fun _=>none) Tr.none_∧Below w.heap.size w w'∧w'.heap.size=w.heap.size+3
theorem new_dsk (w:World) (n:Nat) (hn:n≤4096) :
    Dsk (((w.alloc (.cells (secs0 n) 118)).alloc (.map #[] 0)).alloc (.cells (dskV w.heap.size (w.heap.size+1) n Tr.none_) 115)) (w.heap.size+2) w.heap.size (w.heap.size+1) n (fun _=>zer) (fun _=>none) Tr.none_:=by
  have h1:=Blk.new ((w.alloc (.cells (secs0 n) 118)).alloc (.map #[] 0)) 115 (dskV w.heap.size (w.heap.size+1) n Tr.none_)
  have h2:Blk (((w.alloc (.cells (secs0 n) 118)).alloc (.map #[] 0)).alloc (.cells (dskV w.heap.size (w.heap.size+1) n Tr.none_) 115)) w.heap.size 118 (secs0 n) :=
    (Below.heap_alloc _ _ _ (by simp;omega)).trans ((Below.heap_alloc _ _ _ (by simp)).trans (Blk.new w _ _))
  have h3:=Loo.made (w.alloc (.cells (secs0 n) 118)) Tryz.prog 3 n
  refine⟨by simpa using h1,Tr.none_ok,hn,⟨secs0 n,h2,secs0_size n,fun f hf=>⟨zer_length,zer_byte,fun i hi=>?_⟩⟩,?_,fun j xs h=>by cases h⟩
  · rw[secs0_at n _ (by omega)]
    have e2:zer.getD i 0=0:=by
      unfold zer
      simp only[List.getD_eq_getElem?_getD,List.getElem?_replicate,hi,if_true,Option.getD_some]
    rw[e2]
  · have h4:=h3.far (w':=((w.alloc (.cells (secs0 n) 118)).alloc (.map #[] 0)).alloc (.cells (dskV w.heap.size (w.heap.size+1) n Tr.none_) 115)) (Below.heap_alloc _ _ _ (by simp))
    simpa using h4
def NearD (k:Int)(n:Nat):Prop:=(k≤0∧n=0)∨(4096≤k∧n=4096)∨(0≤k∧k≤4096∧k=n)
set_option maxRecDepth 20000 in
set_option maxHeartbeats 400000 in
theorem dnew_any (k:Int)(n:Nat)(w:World)(h:NearD k n):Calls Tryz.prog 35 #[.int .i64 k] w (DNewPost w n):=by
  have hn:n≤4096:=by unfold NearD at h;omega
  have HM:=Lib.hid (new_dsk w n hn)
  have HB:=Lib.hid (show Below w.heap.size w (((w.alloc (.cells (secs0 n) 118)).alloc (.map #[] 0)).alloc (.cells (dskV w.heap.size (w.heap.size+1) n Tr.none_) 115)) from
    (((Below.refl _ _).alloc (Nat.le_refl _) _).alloc (by simp) _).alloc (by simp;omega) _)
  have hmk:=make_secs n hn w
  have hmm:=@run_makeMap Tryz.prog
  unfold NearD at h
  by_cases c1:k < 0
  · obtain rfl:n=0:=by omega
    have hmk':(Instr.makeSlice 110 (.int .i64 0) (.int .i64 0)).run Tryz.prog w=.ok (.slice (some ⟨w.heap.size,0,none⟩) 0 0) (w.alloc (.cells (secs0 0) 118)):=hmk
    clear hmk h
    go_enter Tryz.func35,Tryz.ntmps35
    go_wp2
    go_ret
    exact⟨rfl,HM.out,HB.out,by simp⟩
  · by_cases c2:4096 < k
    · obtain rfl:n=4096:=by omega
      have hmk':(Instr.makeSlice 110 (.int .i64 4096) (.int .i64 4096)).run Tryz.prog w=.ok (.slice (some ⟨w.heap.size,0,none⟩) 4096 4096) (w.alloc (.cells (secs0 4096) 118)):=hmk
      clear hmk h
      go_enter Tryz.func35,Tryz.ntmps35
      go_wp2
      go_ret
      exact⟨rfl,HM.out,HB.out,by simp⟩
    · obtain rfl:k=n:=by omega
      clear c1 h
      go_enter Tryz.func35,Tryz.ntmps35
      go_wp2
      go_ret
      exact⟨rfl,HM.out,HB.out,by simp⟩
end Go.Proofs.YtaonpmclkafjdaaGreat
namespace Go.Proofs.YtaonpmclkafjdaaGreat
open Go.RowKit
set_option linter.unusedVariables false
theorem make64 (w:World):(Instr.makeSlice 22 (.int .i64 64) (.int .i64 64)).run Tryz.prog w=.ok (.slice (some ⟨w.heap.size,0,none⟩) 64 64) (w.alloc (.cells (zs 64) 5)):=make_zs 64 (by omega) w
def dk (a b c:Nat):Nat→Prop:=fun k=>k=a∨k=b∨k=c
theorem Tryz.zeroSec (w:World):(zeroValue 118).run Tryz.prog w=.ok (.agg (zs 64)) w:=by kernel_rfl
theorem Tryz.sizeSec:(Tryz.prog.info? 118).map (·.size)=some 64:=by kernel_rfl
theorem secV_zer:secV zer=.agg (zs 64):=by
  unfold secV zer zs
  rw[List.map_replicate,List.toArray_replicate]
theorem Tryz.zeroSecV (w:World):(zeroValue 118).run Tryz.prog w=.ok (secV zer) w:=by rw[secV_zer];exact Tryz.zeroSec w
section
variable {w w':World}{gD gS gM n:Nat}{S:Nat→List Nat}{L:Nat→Option (List Nat)}{t:Tr}
theorem Dsk.look (h:Dsk w gD gS gM n S L t) {f:Nat} (hf:f < n) :
    (Instr.lookup 111 (.map (some gM)) (.int .i64 (f:Int)) true).run Tryz.prog w=.ok (.tuple #[secV ((L f).getD zer),.bool (L f).isSome]) w :=
  h.2.2.2.2.1.run_look Tryz.underlying3 Tryz.underlying111 (Tryz.zeroSecV w) f (by have:=h.few;omega)
theorem Dsk.range_ (h:Dsk w gD gS gM n S L t){f:Nat}(hf:f < n):w.rangeAt gS (f * 64) ((S f).map bv):=by
  obtain⟨_,_,_,⟨cur,h2,h3,h4⟩,_⟩:=h
  obtain⟨b1,b2,b3⟩:=h4 f hf
  intro j v hv
  have hj:j < (S f).length:=by
    have:=(List.getElem?_eq_some_iff.1 hv).1
    simpa using this
  rw[h2.cell,b3 j (by omega)]
  simp[hj] at hv ⊢
  exact hv
theorem Dsk.long (h:Dsk w gD gS gM n S L t){f:Nat}(hf:f < n):(S f).length=64∧∀ y∈S f,y < 256:=by
  obtain⟨_,_,_,⟨cur,h2,h3,h4⟩,_⟩:=h
  exact⟨(h4 f hf).1,(h4 f hf).2.1⟩
theorem Dsk.loose_ (h:Dsk w gD gS gM n S L t){f:Nat}{xs:List Nat}(hl:L f=some xs):xs.length=64∧(∀ y∈xs,y < 256)∧f < n :=
  ⟨(h.2.2.2.2.2 f xs hl).1,(h.2.2.2.2.2 f xs hl).2,h.2.2.2.2.1.lt Tryz.law hl⟩
end
def last (S:Nat→List Nat)(L:Nat→Option (List Nat))(f:Nat):List Nat:=(L f).getD (S f)
def DErrPost (w:World)(gD gS gM n:Nat)(S:Nat→List Nat)(L:Nat→Option (List Nat))(t:Tr)(v:Value)(e:Ending)(w':World):Prop :=
  e=.returned v∧Dsk w' gD gS gM n S L t.next∧Turns (dk gD gS gM) w w'∧w'.heap.size=w.heap.size
def DReadPost (w:World)(gD gS gM n:Nat)(S:Nat→List Nat)(L:Nat→Option (List Nat))(t:Tr)(ys:List Nat)(e:Ending)(w':World):Prop :=
  e=.returned (.tuple #[.slice (some ⟨w.heap.size+1,0,none⟩) 64 64,.int .i64 0])∧Blk w' (w.heap.size+1) 5 (ys.map bv).toArray∧Dsk w' gD gS gM n S L t∧Turns (dk gD gS gM) w w'∧w'.heap.size=w.heap.size+2
set_option maxRecDepth 20000 in
set_option maxHeartbeats 800000 in
theorem dread_yes (gD gS gM n:Nat) (S:Nat→List Nat) (L:Nat→Option (List Nat)) (t:Tr) (f:Nat) (w:World) (h:Dsk w gD gS gM n S L t) (hf:f < n) (ha:t.ans=0) :
    Calls Tryz.prog 16 #[.pointer (some ⟨gD,0,none⟩),.int .i64 f] w (DReadPost w gD gS gM n S L t.next (last S L f)):=by
  have HD:=Lib.hid h
  have HH:=Lib.hid (dhas_yes _ _ _ _ _ _ _ f w h hf)
  clear h
  go_enter Tryz.func16,Tryz.ntmps16
  go_wp2_with fail
  refine HH.out.mono ?_
  rintro e w1 ⟨rfl,rfl⟩
  go_wp2_with fail
  refine (work_any gD gS gM n t _ HD.out.1 HD.out.2.1).mono ?_
  rintro e w1 ⟨rfl,hb,ho⟩
  rw[ha]
  have HD1:=Lib.hid (HD.out.worked hb ho)
  have HO:=Lib.hid ho
  clear hb ho
  have hlk:=HD1.out.look hf
  have c0:w1.cell? ⟨gD,0,none⟩=some (.slice (some ⟨gS,0,none⟩) n n):=HD1.out.cell 0
  have c1:w1.cell? ⟨gD,1,none⟩=some (.map (some gM)):=HD1.out.cell 1
  have hz:=Tryz.zeroSec
  cases hL:L f with
  | some ys =>
    rw[hL] at hlk
    simp only[Option.getD_some,Option.isSome_some] at hlk
    obtain⟨hy1,hy2,_⟩:=HD1.out.loose_ hL
    have HY1:=Lib.hid hy1
    have HY2:=Lib.hid hy2
    clear hy1 hy2
    have hmk:=make64
    go_wp2_with (first
      | (refine wpList_store_blk rfl 118 (.tmp 7) (.tmp 28) rfl w1.heap.size 118 (zs 64) ys (Blk.new w1 _ _) rfl rfl (by rw[HY1.out];exact zs_size 64) (by rw[HY1.out];exact Tryz.sizeSec) ?_;intro w2 HB2 HO2;have HX2:=Lib.hid (Bts.of_whole HB2.out HY1.out (by simp[maxLen]) HY2.out))
      | (with_reducible refine wpList_copy_bts rfl (.tmp 40) (.tmp 41) 22 22 rfl 5 Tryz.underlying22 Tryz.size8 _ _ 64 64 64 64 rfl rfl w2.heap.size 0 (zs 64) 5 (Blk.new w2 _ _) (ys) w2.heap.size (HX2.out.below ((Below.refl _ _).alloc (Nat.le_refl _) _)) (by rw[HY1.out];exact Nat.le_refl _) (fun _=>rfl) (by rw[HY1.out,zs_size];omega) ?_;intro w9 HB9 HO9))
    go_ret2
    have hs1:w1.heap.size=w.heap.size:=HO.out.2
    have hs2:w2.heap.size=w.heap.size+1:=by rw[HO2.out.2];simp[hs1]
    have hs3:w9.heap.size=w.heap.size+2:=by rw[HO9.out.2];simp[hs2]
    have h3:=HB9.out
    rw[splice_zs 64 _ HY1.out,hs2] at h3
    have k1:Turns (dk gD gS gM) w w1:=Turns.of_only HO.out (.inl rfl)
    have k2:Turns (dk gD gS gM) w w2:=(k1.alloc _).new_ HO2.out (by omega)
    have k3:Turns (dk gD gS gM) w w9:=(k2.alloc _).new_ HO9.out (by omega)
    have b2:Below w1.heap.size w1 w2:=((Below.refl _ _).alloc (Nat.le_refl _) _).trans (HO2.out.below (Nat.le_refl _) (by simp))
    have b3:Below w2.heap.size w2 w9:=((Below.refl _ _).alloc (Nat.le_refl _) _).trans (HO9.out.below (Nat.le_refl _) (by simp))
    refine⟨by rw[hs2];rfl,by unfold last;rw[hL];exact h3,?_,k3,hs3⟩
    exact (HD1.out.fresh b2).fresh b3
  | none =>
    rw[hL] at hlk
    simp only[Option.getD_none,Option.isSome_none] at hlk
    obtain⟨hy1,hy2⟩:=HD1.out.long hf
    have HY1:=Lib.hid hy1
    have HY2:=Lib.hid hy2
    clear hy1 hy2
    have hmk:=make64
    have hrow:Tryz.prog.underlying 118=some (.array 64 5):=Tryz.underlying118
    have t7:(f:Int) < (n:Int):=by omega
    have t8:(0:Int)≤(f:Int):=by omega
    go_wp2_with (first
      | (refine wpList_store_blk rfl 118 (.tmp 7) (.tmp 28) rfl w1.heap.size 118 (zs 64) zer (Blk.new w1 _ _) rfl rfl (by rw[zer_length];exact zs_size 64) (by rw[zer_length];exact Tryz.sizeSec) ?_;intro w2 HB2 HO2;have HD2:=Lib.hid (HD1.out.fresh (((Below.refl _ _).alloc (Nat.le_refl _) _).trans (HO2.out.below (Nat.le_refl _) (by simp))));have c2:w2.cell? ⟨gD,0,none⟩=some (.slice (some ⟨gS,0,none⟩) n n):=HD2.out.cell 0)
      | (refine wpList_load_mid rfl 118 (.tmp 37) rfl gS (f * 64) rfl ((S f).map bv) _ (HD2.out.range_ hf) hrow rfl (by rw[List.length_map,HY1.out];exact Tryz.sizeSec) ?_)
      | (refine wpList_store_blk rfl 118 (.tmp 7) (.tmp 38) rfl w1.heap.size 118 (zer.map bv).toArray (S f) HB2.out rfl rfl (by simp[HY1.out,zer_length]) (by rw[HY1.out];exact Tryz.sizeSec) ?_;intro w3 HB3 HO3;have HX2:=Lib.hid (Bts.of_whole HB3.out HY1.out (by simp[maxLen]) HY2.out))
      | (with_reducible refine wpList_copy_bts rfl (.tmp 40) (.tmp 41) 22 22 rfl 5 Tryz.underlying22 Tryz.size8 _ _ 64 64 64 64 rfl rfl w3.heap.size 0 (zs 64) 5 (Blk.new w3 _ _) (S f) w3.heap.size (HX2.out.below ((Below.refl _ _).alloc (Nat.le_refl _) _)) (by rw[HY1.out];exact Nat.le_refl _) (fun _=>rfl) (by rw[HY1.out,zs_size];omega) ?_;intro w9 HB9 HO9))
    go_ret2
    have hs1:w1.heap.size=w.heap.size:=HO.out.2
    have hs2:w3.heap.size=w.heap.size+1:=by rw[HO3.out.2,HO2.out.2];simp[hs1]
    have hs3:w9.heap.size=w.heap.size+2:=by rw[HO9.out.2];simp[hs2]
    have h3:=HB9.out
    rw[splice_zs 64 _ HY1.out,hs2] at h3
    have k1:Turns (dk gD gS gM) w w1:=Turns.of_only HO.out (.inl rfl)
    have k2:Turns (dk gD gS gM) w w3:=((k1.alloc _).new_ HO2.out (by omega)).new_ HO3.out (by omega)
    have k3:Turns (dk gD gS gM) w w9:=(k2.alloc _).new_ HO9.out (by omega)
    have b2:Below w1.heap.size w1 w3:=(((Below.refl _ _).alloc (Nat.le_refl _) _).trans (HO2.out.below (Nat.le_refl _) (by simp))).trans (HO3.out.below (Nat.le_refl _) (by rw[HO2.out.2];simp))
    have b3:Below w3.heap.size w3 w9:=((Below.refl _ _).alloc (Nat.le_refl _) _).trans (HO9.out.below (Nat.le_refl _) (by simp))
    refine⟨by rw[hs2];rfl,by unfold last;rw[hL];exact h3,?_,k3,hs3⟩
    exact (HD1.out.fresh b2).fresh b3
end Go.Proofs.YtaonpmclkafjdaaGreat
namespace Go.Proofs.YtaonpmclkafjdaaGreat
open Go.RowKit
set_option linter.unusedVariables false
set_option maxRecDepth 20000 in
set_option maxHeartbeats 400000 in
theorem dwrite_bad (gD gS gM n:Nat) (S:Nat→List Nat) (L:Nat→Option (List Nat)) (t:Tr) (f:Nat) (A:Option Addr) (c:Nat) (w:World) (h:Dsk w gD gS gM n S L t) (hf:f < n) (ha:t.ans≠0) :
    Calls Tryz.prog 102 #[.pointer (some ⟨gD,0,none⟩),.int .i64 f,.slice A 64 c] w (DErrPost w gD gS gM n S L t (.int .i64 t.ans)):=by
  have HD:=Lib.hid h
  have HH:=Lib.hid (dhas_yes _ _ _ _ _ _ _ f w h hf)
  clear h
  have t1:(((t.ans:Nat):Int) != 0)=true:=by rw[bne_iff_ne];omega
  go_enter Tryz.func102,Tryz.ntmps102
  go_wp2_with fail
  refine HH.out.mono ?_
  rintro e w1 ⟨rfl,rfl⟩
  go_wp2_with fail
  refine (work_any gD gS gM n t _ HD.out.1 HD.out.2.1).mono ?_
  rintro e w1 ⟨rfl,hb,ho⟩
  have HD1:=Lib.hid (HD.out.worked hb ho)
  have HO:=Lib.hid ho
  clear hb ho
  go_wp2
  go_ret
  exact⟨rfl,HD1.out,Turns.of_only HO.out (.inl rfl),HO.out.2⟩
section
variable {w w':World}{gD gS gM n:Nat}{S:Nat→List Nat}{L:Nat→Option (List Nat)}{t:Tr}
theorem Dsk.store (h:Dsk w gD gS gM n S L t) {f:Nat} (hf:f < n) {xs:List Nat} (hx:xs.length=64) (hy:∀ y∈xs,y < 256) :
    ∃ w',(Instr.mapUpdate 111 (.map (some gM)) (.int .i64 (f:Int)) (.agg (xs.map bv).toArray)).run Tryz.prog w=.ok () w'∧Dsk w' gD gS gM n S (upd L f (some xs)) t∧Only gM w w':=by
  obtain⟨w',h1,h2,h3⟩:=h.2.2.2.2.1.run_store Tryz.underlying3 Tryz.underlying111 (by have:=h.few;omega) f hf xs
  refine⟨w',h1,⟨h3.blk h.1 h.ne.2.1,h.2.1,h.2.2.1,h.2.2.2.1.far (h3.1.block _ h.lt.2.1 (fun e=>h.ne.2.2 (by injection e))),h2,fun j ys hj=>?_⟩,h3⟩
  by_cases e:j=f
  · subst e
    rw[upd_same] at hj
    injection hj with hj
    subst hj
    exact⟨hx,hy⟩
  · rw[upd_other _ _ _ e] at hj
    exact h.2.2.2.2.2 j ys hj
end
def DWritePost (w:World)(gD gS gM n:Nat)(S:Nat→List Nat)(L:Nat→Option (List Nat))(t:Tr)(e:Ending)(w':World):Prop :=
  e=.returned (.int .i64 0)∧Dsk w' gD gS gM n S L t∧Turns (dk gD gS gM) w w'∧w'.heap.size=w.heap.size+1
set_option maxRecDepth 20000 in
set_option maxHeartbeats 800000 in
theorem dwrite_yes (gD gS gM n:Nat) (S:Nat→List Nat) (L:Nat→Option (List Nat)) (t:Tr) (f:Nat) (v0:Value) (xs:List Nat) (w:World) (h:Dsk w gD gS gM n S L t) (hf:f < n) (ha:t.ans=0)
    (hx:∀ w',Only gD w w'→∃ B,Bts w' B v0 xs∧B≤w.heap.size) (hl:xs.length=64) :
    Calls Tryz.prog 102 #[.pointer (some ⟨gD,0,none⟩),.int .i64 f,v0] w (DWritePost w gD gS gM n S (upd L f (some xs)) t.next):=by
  have HD:=Lib.hid h
  have HH:=Lib.hid (dhas_yes _ _ _ _ _ _ _ f w h hf)
  have HX:=Lib.hid hx
  have HL:=Lib.hid hl
  obtain⟨B0,⟨A0,l0,c0,rfl,hl0,-⟩,-⟩:=hx w (Only.refl _ _)
  obtain rfl:l0=64:=by omega
  clear h hx hl hl0
  go_enter Tryz.func102,Tryz.ntmps102
  go_wp2_with fail
  refine HH.out.mono ?_
  rintro e w1 ⟨rfl,rfl⟩
  go_wp2_with fail
  refine (work_any gD gS gM n t _ HD.out.1 HD.out.2.1).mono ?_
  rintro e w1 ⟨rfl,hb,ho⟩
  rw[ha]
  have HD1:=Lib.hid (HD.out.worked hb ho)
  have HO:=Lib.hid ho
  clear hb ho
  obtain⟨B,hx1,hB⟩:=HX.out w1 HO.out
  have HX1:=Lib.hid hx1
  have HB:=Lib.hid hB
  clear hx1 hB
  have hz:=Tryz.zeroSec
  have hq:Bts (w1.alloc (.cells (zs 64) 118)) B (.slice A0 64 c0) xs:=HX1.out.below ((Below.refl _ _).alloc (by rw[HO.out.2];exact HB.out) _)
  have HQ:=Lib.hid hq
  clear hq
  go_wp2_with (with_reducible refine wpList_copy_bts rfl (.tmp 25) (.tmp 26) 22 22 rfl 5 Tryz.underlying22 Tryz.size8 _ _ 64 64 64 _ rfl rfl w1.heap.size 0 (zs 64) 118 (Blk.new w1 _ _) xs B HQ.out (by rw[HL.out];exact Nat.le_refl _) (fun _=>rfl) (by rw[HL.out,zs_size];omega) ?_;intro w2 HB2 HO2)
  have hb2:=HB2.out
  rw[splice_zs 64 _ HL.out] at hb2
  have HD2:=Lib.hid (HD1.out.fresh (((Below.refl _ _).alloc (Nat.le_refl _) _).trans (HO2.out.below (Nat.le_refl _) (by simp))))
  have hr2:w2.rangeAt w1.heap.size 0 (xs.map bv):=hb2.range_
  have c1:w2.cell? ⟨gD,1,none⟩=some (.map (some gM)):=HD2.out.cell 1
  have HY:=Lib.hid HX1.out.byte
  obtain⟨w3,hst,hd3,ho3⟩:=HD2.out.drew.store hf HL.out HY.out
  have HD3:=Lib.hid hd3
  have HO3:=Lib.hid ho3
  have hrow:Tryz.prog.underlying 118=some (.array 64 5):=Tryz.underlying118
  have hsz:(Tryz.prog.info? 118).map (·.size)=some (xs.map bv).length:=by rw[List.length_map,HL.out];exact Tryz.sizeSec
  have hgM:w1.heap.size≠gM:=by have:=HD1.out.lt.2.2;omega
  have HS:=Lib.hid (show w3.cell? ⟨gD,1,none⟩=some (.map (some gM))∧w3.rangeAt w1.heap.size 0 (xs.map bv) from ⟨hd3.cell 1,(ho3.blk (w:=w2.drew) hb2 hgM).range_⟩)
  clear hb2 hd3 ho3 hgM
  go_region_held3 (fun w'=>w'.cell? ⟨gD,1,none⟩=some (.map (some gM))∧w'.rangeAt w1.heap.size 0 (xs.map bv)) (first | exact HS.out | go_keep_ranges) (fail)
  go_wp2
  go_ret
  have hs1:w1.heap.size=w.heap.size:=HO.out.2
  have k1:Turns (dk gD gS gM) w w1:=Turns.of_only HO.out (.inl rfl)
  have k2:Turns (dk gD gS gM) w w2:=(k1.alloc _).new_ HO2.out (by omega)
  have k3:Turns (dk gD gS gM) w w3:=k2.drew.trans (Turns.of_only HO3.out (.inr (.inr rfl)))
  exact⟨rfl,HD3.out,k3,by rw[HO3.out.2];show w2.heap.size=_;rw[HO2.out.2];simp[hs1]⟩
end Go.Proofs.YtaonpmclkafjdaaGreat
namespace Go.Proofs.YtaonpmclkafjdaaGreat
open Go.RowKit
set_option linter.unusedVariables false
section
variable {w w':World}{gS n:Nat}{S S':Nat→List Nat}
end
end Go.Proofs.YtaonpmclkafjdaaGreat
namespace Go.Proofs.YtaonpmclkafjdaaGreat
open Go.RowKit
set_option linter.unusedVariables false
end Go.Proofs.YtaonpmclkafjdaaGreat
namespace Go.Proofs.YtaonpmclkafjdaaGreat
open Go.RowKit
set_option linter.unusedVariables false
theorem Bts.front {w:World}{B n c:Nat}{A:Option Addr}{s:List Nat}(h:Bts w B (.slice A n c) s)(k:Nat)(hk:k≤n):Bts w B (.slice A k c) (s.take k):=by
  obtain⟨A',n',c',hv,hl,hm,⟨hnc,hA⟩,hc,hb,hx⟩:=h
  injection hv with e1 e2 e3
  subst e1 e2 e3
  have hg:∀ j,j < k→(s.take k).getD j 0=s.getD j 0:=by
    intro j hj
    simp only[List.getD_eq_getElem?_getD,List.getElem?_take,if_pos hj]
  refine⟨A,k,c,rfl,by simp;omega,by omega,⟨by omega,hA⟩,hc,fun j hj=>by rw[hg j hj];exact hb j (by omega),fun h0=>?_⟩
  obtain⟨b,off,h1,h2,h3⟩:=hx (by omega)
  exact⟨b,off,h1,h2,fun j hj=>by rw[hg j hj];exact h3 j (by omega)⟩
theorem Dsk.last_ {w:World}{gD gS gM n:Nat}{S:Nat→List Nat}{L:Nat→Option (List Nat)}{t:Tr}(h:Dsk w gD gS gM n S L t){f:Nat}(hf:f < n):(last S L f).length=64∧∀ y∈last S L f,y < 256:=by
  unfold last
  cases hL:L f with
  | some xs=>exact⟨(h.loose_ hL).1,(h.loose_ hL).2.1⟩
  | none=>exact h.long hf
theorem none_ans:Tr.none_.ans=0:=rfl
theorem none_next:Tr.none_.next=Tr.none_:=rfl
theorem Bts.cut {w:World}{B b off n c:Nat}{s:List Nat}(h:Bts w B (.slice (some ⟨b,off,none⟩) n c) s){a k c':Nat}(ha:a+k≤n)(hk:k≤c')(hc':c'≤maxLen):Bts w B (.slice (some ⟨b,off+a,none⟩) k c') (win s a k):=by
  obtain⟨A',n',c1,hv,hl,hm,⟨hnc,hA⟩,hc,hb,hx⟩:=h
  injection hv with e1 e2 e3
  subst e1 e2 e3
  have hg:=fun j (hj:j < k)=>win_getD s a k j hj
  refine⟨_,k,c',rfl,win_length _ _ _ (by omega),by omega,⟨hk,fun h=>by cases h⟩,hc',fun j hj=>by rw[hg j hj];exact hb _ (by omega),fun h0=>?_⟩
  obtain⟨b',off',h1,h2,h3⟩:=hx (by omega)
  injection h1 with h1
  injection h1 with h1 h1' _
  subst h1 h1'
  exact⟨_,_,rfl,h2,fun j hj=>by rw[hg j hj,Nat.add_assoc];exact h3 _ (by omega)⟩
end Go.Proofs.YtaonpmclkafjdaaGreat
namespace Go.Proofs.YtaonpmclkafjdaaGreat
open Go.RowKit
set_option linter.unusedVariables false
end Go.Proofs.YtaonpmclkafjdaaGreat
namespace Go.Proofs.YtaonpmclkafjdaaGreat
open Go.RowKit
set_option linter.unusedVariables false
def PageAt (f g:Int)(p:Nat):Prop:=(0≤f∧f < 4∧0≤g∧g < 16)∧(p:Int)=96+16 * f+g
def SlotAt (s:Int)(p:Nat):Prop:=(0≤s∧s < 32)∧(p:Int)=160+s
def FReadPost (w:World)(gD gS gM n:Nat)(S:Nat→List Nat)(L:Nat→Option (List Nat))(t:Tr)(p:Nat)(e:Ending)(w':World):Prop :=
  ∃ g,e=.returned (.tuple #[.slice (some ⟨g,0,none⟩) 64 64,.int .i64 0])∧w.heap.size≤g∧Blk w' g 5 ((last S L p).map bv).toArray∧Dsk w' gD gS gM n S L t.next∧Turns (dk gD gS gM) w w'
def FBadPost (w:World)(gD gS gM n:Nat)(S:Nat→List Nat)(L:Nat→Option (List Nat))(t:Tr)(v:Value)(e:Ending)(w':World):Prop :=
  e=.returned v∧Dsk w' gD gS gM n S L t.next∧Turns (dk gD gS gM) w w'
def FWritePost (w:World)(gD gS gM n:Nat)(S:Nat→List Nat)(L:Nat→Option (List Nat))(t:Tr)(e:Ending)(w':World):Prop :=
  e=.returned (.int .i64 0)∧Dsk w' gD gS gM n S L t.next∧Turns (dk gD gS gM) w w'
set_option maxRecDepth 20000 in
theorem pageAt_yes (f g:Int)(p:Nat)(w:World)(h:PageAt f g p):Calls Tryz.prog 152 #[.int .i64 f,.int .i64 g] w fun e w'=>e=.returned (.int .i64 (p:Int))∧w=w':=by
  obtain⟨⟨h0,h1,h2,h3⟩,hp⟩:=h
  have d0:decide (f < 0)=false:=decide_eq_false (by omega)
  have d1:decide (4≤f)=false:=decide_eq_false (by omega)
  have d2:decide (g < 0)=false:=decide_eq_false (by omega)
  have d3:decide (16≤g)=false:=decide_eq_false (by omega)
  have HP:=Lib.hid hp
  clear hp
  go_enter Tryz.func152,Tryz.ntmps152
  go_wp2
  go_ret
  refine⟨?_,rfl⟩
  rw[HP.out]
  rfl
set_option maxRecDepth 20000 in
theorem slotAt_yes (s:Int)(p:Nat)(w:World)(h:SlotAt s p):Calls Tryz.prog 103 #[.int .i64 s] w fun e w'=>e=.returned (.int .i64 (p:Int))∧w=w':=by
  obtain⟨⟨h0,h1⟩,hp⟩:=h
  have d0:decide (s < 0)=false:=decide_eq_false (by omega)
  have d1:decide (32≤s)=false:=decide_eq_false (by omega)
  have HP:=Lib.hid hp
  clear hp
  go_enter Tryz.func103,Tryz.ntmps103
  go_wp2
  go_ret
  refine⟨?_,rfl⟩
  rw[HP.out]
  rfl
section
variable (gD gS gM n:Nat)(S:Nat→List Nat)(L:Nat→Option (List Nat))(t:Tr)(w:World)
set_option maxRecDepth 20000 in
theorem fread_yes (f g:Int)(p:Nat)(hD:Dsk w gD gS gM n S L t)(h:PageAt f g p)(hp:p < n)(ha:t.ans=0):Calls Tryz.prog 211 #[.pointer (some ⟨gD,0,none⟩),.int .i64 f,.int .i64 g] w (FReadPost w gD gS gM n S L t p):=by
  have HP:=Lib.hid (pageAt_yes f g p w h)
  have HR:=Lib.hid (dread_yes gD gS gM n S L t p w hD hp ha)
  clear h hD hp ha
  go_enter Tryz.func211,Tryz.ntmps211
  go_wp2_with fail
  refine HP.out.mono ?_
  rintro e w1 ⟨rfl,rfl⟩
  go_wp2_with fail
  refine HR.out.mono ?_
  rintro e w2 ⟨rfl,h1,h2,h3,h4⟩
  go_wp2
  go_ret2
  exact⟨_,rfl,by omega,h1,h2,h3⟩
set_option maxRecDepth 20000 in
theorem fslot_yes (s:Int)(p:Nat)(hD:Dsk w gD gS gM n S L t)(h:SlotAt s p)(hp:p < n)(ha:t.ans=0):Calls Tryz.prog 208 #[.pointer (some ⟨gD,0,none⟩),.int .i64 s] w (FReadPost w gD gS gM n S L t p):=by
  have HP:=Lib.hid (slotAt_yes s p w h)
  have HR:=Lib.hid (dread_yes gD gS gM n S L t p w hD hp ha)
  clear h hD hp ha
  go_enter Tryz.func208,Tryz.ntmps208
  go_wp2_with fail
  refine HP.out.mono ?_
  rintro e w1 ⟨rfl,rfl⟩
  go_wp2_with fail
  refine HR.out.mono ?_
  rintro e w2 ⟨rfl,h1,h2,h3,h4⟩
  go_wp2
  go_ret2
  exact⟨_,rfl,by omega,h1,h2,h3⟩
set_option maxRecDepth 20000 in
theorem fwrite_bad (A:Option Addr)(c:Nat)(f g:Int)(p:Nat)(hD:Dsk w gD gS gM n S L t)(h:PageAt f g p)(hp:p < n)(ha:t.ans≠0):Calls Tryz.prog 106 #[.pointer (some ⟨gD,0,none⟩),.int .i64 f,.int .i64 g,.slice A 64 c] w (FBadPost w gD gS gM n S L t (.int .i64 t.ans)):=by
  have HP:=Lib.hid (pageAt_yes f g p w h)
  have HR:=Lib.hid (dwrite_bad gD gS gM n S L t p A c w hD hp ha)
  clear h hD hp ha
  go_enter Tryz.func106,Tryz.ntmps106
  go_wp2_with fail
  refine HP.out.mono ?_
  rintro e w1 ⟨rfl,rfl⟩
  go_wp2_with fail
  refine HR.out.mono ?_
  rintro e w2 ⟨rfl,h1,h2,-⟩
  go_wp2
  go_ret
  exact⟨rfl,h1,h2⟩
set_option maxRecDepth 20000 in
theorem fwrite_yes (v:Value)(xs:List Nat)(f g:Int)(p:Nat)(hD:Dsk w gD gS gM n S L t)(h:PageAt f g p)(hp:p < n)(ha:t.ans=0)(hx:∀ w',Only gD w w'→∃ B,Bts w' B v xs∧B≤w.heap.size)(hl:xs.length=64):Calls Tryz.prog 106 #[.pointer (some ⟨gD,0,none⟩),.int .i64 f,.int .i64 g,v] w (FWritePost w gD gS gM n S (upd L p (some xs)) t):=by
  have HP:=Lib.hid (pageAt_yes f g p w h)
  have HR:=Lib.hid (dwrite_yes gD gS gM n S L t p v xs w hD hp ha hx hl)
  obtain⟨A,l,c,rfl,-⟩:∃ A l c,v=.slice A l c∧True:=by
    obtain⟨B,hb,-⟩:=hx w (Only.refl _ _)
    obtain⟨A,l,c,hv,-⟩:=hb
    exact⟨A,l,c,hv,trivial⟩
  clear h hD hp ha hx hl
  go_enter Tryz.func106,Tryz.ntmps106
  go_wp2_with fail
  refine HP.out.mono ?_
  rintro e w1 ⟨rfl,rfl⟩
  go_wp2_with fail
  refine HR.out.mono ?_
  rintro e w2 hpost
  obtain⟨rfl,h1,h2⟩:e=.returned (.int .i64 0)∧Dsk w2 gD gS gM n S (upd L p (some xs)) t.next∧Turns (dk gD gS gM) w w2:=⟨hpost.1,hpost.2.1,hpost.2.2.1⟩
  clear hpost
  go_wp2
  go_ret
  exact⟨rfl,h1,h2⟩
set_option maxRecDepth 20000 in
theorem fwslot_yes (v:Value)(xs:List Nat)(s:Int)(p:Nat)(hD:Dsk w gD gS gM n S L t)(h:SlotAt s p)(hp:p < n)(ha:t.ans=0)(hx:∀ w',Only gD w w'→∃ B,Bts w' B v xs∧B≤w.heap.size)(hl:xs.length=64):Calls Tryz.prog 52 #[.pointer (some ⟨gD,0,none⟩),.int .i64 s,v] w (FWritePost w gD gS gM n S (upd L p (some xs)) t):=by
  have HP:=Lib.hid (slotAt_yes s p w h)
  have HR:=Lib.hid (dwrite_yes gD gS gM n S L t p v xs w hD hp ha hx hl)
  obtain⟨A,l,c,rfl,-⟩:∃ A l c,v=.slice A l c∧True:=by
    obtain⟨B,hb,-⟩:=hx w (Only.refl _ _)
    obtain⟨A,l,c,hv,-⟩:=hb
    exact⟨A,l,c,hv,trivial⟩
  clear h hD hp ha hx hl
  go_enter Tryz.func52,Tryz.ntmps52
  go_wp2_with fail
  refine HP.out.mono ?_
  rintro e w1 ⟨rfl,rfl⟩
  go_wp2_with fail
  refine HR.out.mono ?_
  rintro e w2 hpost
  obtain⟨rfl,h1,h2⟩:e=.returned (.int .i64 0)∧Dsk w2 gD gS gM n S (upd L p (some xs)) t.next∧Turns (dk gD gS gM) w w2:=⟨hpost.1,hpost.2.1,hpost.2.2.1⟩
  clear hpost
  go_wp2
  go_ret
  exact⟨rfl,h1,h2⟩
end
end Go.Proofs.YtaonpmclkafjdaaGreat

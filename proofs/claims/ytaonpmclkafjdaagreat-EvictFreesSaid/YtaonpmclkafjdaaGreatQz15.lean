/-
  The contracts of layer 11's calls (entry): room, Encode, Decode.
  Conditions: those that each line bears.
-/
import Derived.Test.YtaonpmclkafjdaaGreatQz00
import Derived.Test.YtaonpmclkafjdaaGreatQz13
import Derived.Test.YtaonpmclkafjdaaGreatProg
import Derived.BigQuiet
import Derived.Deep.RegionHeld3
import Derived.Laws.ResultCell
import Derived.Laws.Rows
set_option linter.unusedSimpArgs false
set_option linter.unusedSectionVars false
set_option linter.unusedVariables false
namespace Go.Proofs.YtaonpmclkafjdaaGreat
open Go.RowKit
set_option linter.unusedVariables false
set_option warningAsError false
def EncIs (x:En)(v er:Nat):Prop:=(EnOk x∧er=0∧v=numE x)∨(¬ EnOk x∧er=8∧v=0)
def DecIs (v:Nat)(y:En)(er:Nat):Prop:=(er=0∧EnOk y∧numE y=v)∨(er=8∧y=⟨0,0,false⟩∧∀ x,EnOk x→numE x≠v)
def roomI (k:Int):Int:=if k=0 then 1 else if k=3 then 1 else if k=1 then 1024 else if k=2 then 32 else 0
set_option maxRecDepth 20000 in
set_option maxHeartbeats 800000 in
theorem room_any (k:Int) (w:World) :
    Calls Tryz.prog 146 #[.int .i64 k] w fun e w'=>e=.returned (.int .i64 (roomI k))∧w=w':=by
  by_cases h0:k=0
  · subst h0
    go_enter Tryz.func146,Tryz.ntmps146
    go_wp2
    go_ret
    exact⟨rfl,rfl⟩
  · by_cases h3:k=3
    · subst h3
      go_enter Tryz.func146,Tryz.ntmps146
      go_wp2
      go_ret
      exact⟨rfl,rfl⟩
    · by_cases h1:k=1
      · subst h1
        go_enter Tryz.func146,Tryz.ntmps146
        go_wp2
        go_ret
        exact⟨rfl,rfl⟩
      · by_cases h2:k=2
        · subst h2
          go_enter Tryz.func146,Tryz.ntmps146
          go_wp2
          go_ret
          exact⟨rfl,rfl⟩
        · have e0:(k == 0)=false:=by simpa using h0
          have e1:(k == 1)=false:=by simpa using h1
          have e2:(k == 2)=false:=by simpa using h2
          have e3:(k == 3)=false:=by simpa using h3
          have hr:roomI k=0:=by unfold roomI;rw[if_neg h0,if_neg h3,if_neg h1,if_neg h2]
          rw[hr]
          clear hr
          go_enter Tryz.func146,Tryz.ntmps146
          go_wp2
          go_ret
          exact⟨rfl,rfl⟩
theorem ok_room (k n:Int)(b:Bool):EnOk ⟨k,n,b⟩↔0≤n∧n < roomI k∧(b=true→k=1):=by
  unfold EnOk roomI
  cases b <;> simp <;> split <;> (try omega) <;> split <;> (try omega) <;> split <;> (try omega) <;> split <;> omega
theorem room_kind {k n:Int}(h0:0≤n)(h1:n < roomI k):(k=0∨k=1∨k=2∨k=3)∧n < 1024:=by
  unfold roomI at h1
  split at h1 <;> (try omega) <;> split at h1 <;> (try omega) <;> split at h1 <;> (try omega) <;> split at h1 <;> omega
set_option maxRecDepth 20000 in
set_option maxHeartbeats 1600000 in
theorem enc_any (k n:Int) (b:Bool) (w:World) :
    Calls Tryz.prog 99 #[.agg #[.int .i64 k,.int .i64 n,.bool b]] w fun e w'=>∃ v er:Nat,e=.returned (.tuple #[.int .u64 (v:Int),.int .i64 (er:Int)])∧EncIs ⟨k,n,b⟩ v er∧Below w.heap.size w w':=by
  obtain⟨W,hW⟩:∃ W,W=w.alloc (.cells #[.int .i64 k,.int .i64 n,.bool b] 29):=⟨_,rfl⟩
  have HB:=Lib.hid (show ∀ q,Below w.heap.size w (W.drewN q) from fun q=>by
    rw[hW]
    exact below_drewN ((Below.refl w.heap.size w).alloc (Nat.le_refl _) (.cells #[.int .i64 k,.int .i64 n,.bool b] 29)) q)
  obtain⟨R,hR⟩:∃ R,R=roomI k:=⟨_,rfl⟩
  have RQ:=Lib.hid (fun q=>(show Calls Tryz.prog 146 #[.int .i64 k] ((w.alloc (.cells #[.int .i64 k,.int .i64 n,.bool b] 29)).drewN q) fun e w'=>e=.returned (.int .i64 R)∧∃ q',w'=(w.alloc (.cells #[.int .i64 k,.int .i64 n,.bool b] 29)).drewN q' from (room_any k _).mono (by rintro e w' ⟨rfl,rfl⟩;exact⟨by rw[hR],q,rfl⟩)))
  rw[hW] at HB
  clear hW
  by_cases c0:n < 0
  · have d0:decide (n < 0)=true:=decide_eq_true c0
    have HN:=Lib.hid (show ¬ EnOk ⟨k,n,b⟩ from fun h=>by have:=((ok_room k n b).mp h).1;omega)
    clear hR c0
    go_enter Tryz.func99,Tryz.ntmps99
    go_wp2_with fail
    go_quiet (first | (go_at_call 146;exact RQ.out _))
    go_wp2
    go_ret2
    exact⟨0,8,rfl,.inr ⟨HN.out,rfl,rfl⟩,HB.out _⟩
  · have d0:decide (n < 0)=false:=decide_eq_false c0
    by_cases c1:R≤n
    · have d1:decide (R≤n)=true:=decide_eq_true c1
      have HN:=Lib.hid (show ¬ EnOk ⟨k,n,b⟩ from fun h=>by have:=((ok_room k n b).mp h).2.1;omega)
      clear hR c0 c1
      go_enter Tryz.func99,Tryz.ntmps99
      go_wp2_with fail
      go_quiet (first | (go_at_call 146;exact RQ.out _))
      go_wp2
      go_ret2
      exact⟨0,8,rfl,.inr ⟨HN.out,rfl,rfl⟩,HB.out _⟩
    · have d1:decide (R≤n)=false:=decide_eq_false c1
      by_cases c2:b=true∧k≠1
      · obtain⟨rfl,c2⟩:=c2
        have d2:(k != 1)=true:=by simpa using c2
        have HN:=Lib.hid (show ¬ EnOk ⟨k,n,true⟩ from fun h=>c2 (((ok_room k n true).mp h).2.2 rfl))
        clear hR c0 c1
        go_enter Tryz.func99,Tryz.ntmps99
        go_wp2_with fail
        go_quiet (first | (go_at_call 146;exact RQ.out _))
        go_wp2
        go_ret2
        exact⟨0,8,rfl,.inr ⟨HN.out,rfl,rfl⟩,HB.out _⟩
      · have hok:EnOk ⟨k,n,b⟩:=(ok_room k n b).mpr ⟨by omega,by omega,fun h=>by
          by_cases hk:k=1
          · exact hk
          · exact absurd ⟨h,hk⟩ c2⟩
        have HOK:=Lib.hid hok
        have hn:=numE_int hok
        have HNE:=Lib.hid hn
        obtain⟨hk,hlt⟩:=room_kind (by omega) (by omega:n < roomI k)
        obtain⟨m,rfl⟩:=Int.eq_ofNat_of_zero_le (show 0≤n by omega)
        have hm:m < 1024:=by omega
        cases b with
        | true =>
          have hk1:k=1:=by
            by_cases hk:k=1
            · exact hk
            · exact absurd ⟨rfl,hk⟩ c2
          subst hk1
          clear hR c0 c1 c2 hok hn hlt hk
          go_enter Tryz.func99,Tryz.ntmps99
          go_wp2_with fail
          go_quiet (first | (go_at_call 146;exact RQ.out _))
          go_wp2
          go_ret2
          exact⟨numE ⟨1,(m:Int),true⟩,0,by rw[HNE.out];simp,.inl ⟨HOK.out,rfl,rfl⟩,HB.out _⟩
        | false =>
          clear hR c0 c1 c2 hok hn hlt
          rcases hk with rfl | rfl | rfl | rfl
          all_goals
            go_enter Tryz.func99,Tryz.ntmps99
            go_wp2_with fail
            go_quiet (first | (go_at_call 146;exact RQ.out _))
            go_wp2
            go_ret2
            exact⟨_,0,by rw[HNE.out];simp,.inl ⟨HOK.out,rfl,rfl⟩,HB.out _⟩
def deE (v:Nat):En:=⟨((v % 4:Nat):Int),((v % 1099511627776 / 4:Nat):Int),decide (v / 1099511627776 % 2=1)⟩
theorem deE_of {y:En}{v:Nat}(h:EnOk y)(e:numE y=v):y=deE v:=by
  have h1:=numE_int h
  have hl:=h.lo
  rw[e] at h1
  obtain⟨k,n,b⟩:=y
  simp only at h1 hl
  unfold deE
  cases b with
  | true =>
    rw[if_pos rfl] at h1
    rw[show k=((v % 4:Nat):Int) by omega,show n=((v % 1099511627776 / 4:Nat):Int) by omega,decide_eq_true (show v / 1099511627776 % 2=1 by omega)]
  | false =>
    rw[if_neg (by simp)] at h1
    rw[show k=((v % 4:Nat):Int) by omega,show n=((v % 1099511627776 / 4:Nat):Int) by omega,decide_eq_false (show ¬ v / 1099511627776 % 2=1 by omega)]
theorem and_40 (v:Nat)(hv:v < 18446744073709551616):(bits .and .u64 (v:Int) 1099511627776 != 0)=decide (v / 1099511627776 % 2=1):=by
  have e:bits .and .u64 (v:Int) ((1099511627776:Nat):Int)=((v &&& 1099511627776:Nat):Int):=u64_and_nat v 1099511627776 hv (by omega)
  have e2:v &&& 1099511627776=(v.testBit 40).toNat * 1099511627776:=by
    change v &&& 2 ^ 40=(v.testBit 40).toNat * 2 ^ 40
    apply Nat.eq_of_testBit_eq
    intro i
    rw[Nat.testBit_and,Nat.testBit_two_pow]
    cases hb:v.testBit 40 with
    | true =>
      rw[show true.toNat * 2 ^ 40=2 ^ 40 from rfl,Nat.testBit_two_pow]
      by_cases c:40=i
      · subst c;rw[hb];rfl
      · rw[decide_eq_false c];simp
    | false =>
      rw[show false.toNat * 2 ^ 40=0 from rfl,Nat.zero_testBit]
      by_cases c:40=i
      · subst c;rw[hb];rfl
      · rw[decide_eq_false c];simp
  have e3:v.testBit 40=decide (v / 1099511627776 % 2=1):=Nat.testBit_eq_decide_div_mod_eq (x:=v) (i:=40)
  rw[e2,e3] at e
  have e4:bits .and .u64 (v:Int) 1099511627776=(((decide (v / 1099511627776 % 2=1)).toNat * 1099511627776:Nat):Int):=e
  rw[e4]
  by_cases c:v / 1099511627776 % 2=1
  · rw[decide_eq_true c];rfl
  · rw[decide_eq_false c];rfl
set_option maxRecDepth 20000 in
set_option maxHeartbeats 1600000 in
theorem dec_any (v:Nat) (w:World) (hv:v < 18446744073709551616) :
    Calls Tryz.prog 48 #[.int .u64 (v:Int)] w fun e w'=>∃ (k n:Int) (b:Bool) (er:Nat),e=.returned (.tuple #[.agg #[.int .i64 k,.int .i64 n,.bool b],.int .i64 (er:Int)])∧DecIs v ⟨k,n,b⟩ er∧Below w.heap.size w w':=by
  obtain⟨b,hb⟩:∃ b,b=decide (v / 1099511627776 % 2=1):=⟨_,rfl⟩
  have ha:=and_40 v hv
  rw[← hb] at ha
  have HD:=Lib.hid (show ∀ y,EnOk y→numE y=v→y=⟨(v:Int) % 4,(v:Int) % 1099511627776 / 4,b⟩ from fun y hy e=>by
    have:=deE_of hy e
    rw[this,hb]
    unfold deE
    simp)
  have B0:=Blk.new w 29 (#[.int .i64 0,.int .i64 0,.bool false])
  have HB0:=(Below.refl w.heap.size w).alloc (Nat.le_refl _) (.cells #[.int .i64 0,.int .i64 0,.bool false] 29)
  have B1:=Blk.new (w.alloc (.cells #[.int .i64 0,.int .i64 0,.bool false] 29)) 29 (#[.int .i64 ((v:Int) % 4),.int .i64 ((v:Int) % 1099511627776 / 4),.bool b])
  have B0':=B0.below ((Below.refl (w.alloc (.cells #[.int .i64 0,.int .i64 0,.bool false] 29)).heap.size _).alloc (Nat.le_refl _) (.cells #[.int .i64 ((v:Int) % 4),.int .i64 ((v:Int) % 1099511627776 / 4),.bool b] 29)) B0.lt
  have HB1:=HB0.alloc HB0.size (.cells #[.int .i64 ((v:Int) % 4),.int .i64 ((v:Int) % 1099511627776 / 4),.bool b] 29)
  have B1:=Lib.hid B1
  have B0:=Lib.hid B0'
  have HB:=Lib.hid HB1
  clear hb HB0 HB1 B0'
  go_enter Tryz.func48,Tryz.ntmps48
  go_wp2_with fail
  refine (enc_any _ _ b _).mono ?_
  rintro e w1 ⟨u,er,rfl,he,hb1⟩
  have HE:=Lib.hid he
  have H1:=Lib.hid (HB.out.trans (hb1.mono HB.out.size))
  have R:=Lib.hid (B0.out.below hb1 B0.out.lt)
  have E:=Lib.hid (B1.out.below hb1 B1.out.lt)
  have r0:w1.cell? ⟨w.heap.size,0,none⟩=some (.int .i64 0):=R.out.cell 0
  have r1:w1.cell? ⟨w.heap.size,1,none⟩=some (.int .i64 0):=R.out.cell 1
  have r2:w1.cell? ⟨w.heap.size,2,none⟩=some (.bool false):=R.out.cell 2
  have f0:w1.frozen? ⟨w.heap.size,0,none⟩=false:=R.out.frozen 0
  have f1:w1.frozen? ⟨w.heap.size,1,none⟩=false:=R.out.frozen 1
  have f2:w1.frozen? ⟨w.heap.size,2,none⟩=false:=R.out.frozen 2
  have e0:w1.cell? ⟨w.heap.size+1,0,none⟩=some (.int .i64 ((v:Int) % 4)):=by have:=E.out.cell 0;simpa using this
  have e1:w1.cell? ⟨w.heap.size+1,1,none⟩=some (.int .i64 ((v:Int) % 1099511627776 / 4)):=by have:=E.out.cell 1;simpa using this
  have e2:w1.cell? ⟨w.heap.size+1,2,none⟩=some (.bool b):=by have:=E.out.cell 2;simpa using this
  clear he hb1
  rcases HE.out with ⟨hok,rfl,hu⟩ | ⟨hno,rfl,rfl⟩
  · by_cases c:u=v
    · have d:((u:Int) != (v:Int))=false:=by simp[c]
      have HO:=Lib.hid (show DecIs v ⟨(v:Int) % 4,(v:Int) % 1099511627776 / 4,b⟩ 0 from .inl ⟨rfl,hok,hu.symm.trans c⟩)
      clear hok hu c HE
      go_wp2
      refine bodyPost_ret (results_row_tmp rfl _ _ w.heap.size 29 #[.int .i64 ((v:Int) % 4),.int .i64 ((v:Int) % 1099511627776 / 4),.bool b] _ rfl (((R.out.set_ 0 _).set_ 1 _).set_ 2 _) Tryz.underlying29 rfl (by kernel_rfl)) rfl ?_
      exact⟨_,_,_,0,rfl,HO.out,((H1.out.setCell (Nat.le_refl _) _).setCell (Nat.le_refl _) _).setCell (Nat.le_refl _) _⟩
    · have d:((u:Int) != (v:Int))=true:=by simp;omega
      have HO:=Lib.hid (show DecIs v ⟨0,0,false⟩ 8 from .inr ⟨rfl,rfl,fun y hy e=>c (by rw[hu,← HD.out y hy e];exact e)⟩)
      clear hok hu c HE
      go_wp2
      refine bodyPost_ret (results_row_tmp rfl _ _ w.heap.size 29 #[.int .i64 0,.int .i64 0,.bool false] _ rfl (((R.out.set_ 0 _).set_ 1 _).set_ 2 _) Tryz.underlying29 rfl (by kernel_rfl)) rfl ?_
      exact⟨_,_,_,8,rfl,HO.out,((H1.out.setCell (Nat.le_refl _) _).setCell (Nat.le_refl _) _).setCell (Nat.le_refl _) _⟩
  · have HO:=Lib.hid (show DecIs v ⟨0,0,false⟩ 8 from .inr ⟨rfl,rfl,fun y hy e=>hno (by rw[← HD.out y hy e];exact hy)⟩)
    clear hno HE
    go_wp2
    refine bodyPost_ret (results_row_tmp rfl _ _ w.heap.size 29 #[.int .i64 0,.int .i64 0,.bool false] _ rfl (((R.out.set_ 0 _).set_ 1 _).set_ 2 _) Tryz.underlying29 rfl (by kernel_rfl)) rfl ?_
    exact⟨_,_,_,8,rfl,HO.out,((H1.out.setCell (Nat.le_refl _) _).setCell (Nat.le_refl _) _).setCell (Nat.le_refl _) _⟩
end Go.Proofs.YtaonpmclkafjdaaGreat

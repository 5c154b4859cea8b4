/-
  The contracts of word's Get, Put and Sum, and of the document's own; bytes in the program's numbering.
  The contract of the document's own Same: whether two lists of bytes are the same; memory stays as it was.
  Conditions: those that each line bears.
-/
import Derived.Test.YtaonpmclkafjdaaGreatProg
import Derived.Test.YtaonpmclkafjdaaGreatQz00
import Derived.WalkKit
import Derived.WalkSpells
import Derived.Lib.Hide
import Derived.Deep.QuietTactic
import Derived.BigQuiet
set_option linter.unusedSimpArgs false
set_option linter.unusedSectionVars false
set_option linter.unusedVariables false
namespace Go.Proofs.YtaonpmclkafjdaaGreat
open Go.RowKit
set_option linter.unusedVariables false
def Fit (l:Nat)(at_ n:Int):Prop:=0≤n∧n≤8∧0≤at_∧at_+n≤l
set_option maxRecDepth 20000 in
set_option maxHeartbeats 400000 in
theorem fits_yes (A:Option Addr) (l c:Nat) (at_ n:Int) (w:World) (hl:l≤maxLen) (h:Fit l at_ n) :
    Calls Tryz.prog 185 #[.slice A l c,.int .i64 at_,.int .i64 n] w fun e w'=>e=.returned (.bool true)∧w=w':=by
  unfold maxLen at hl
  obtain⟨h1,h2,h3,h4⟩:=h
  have h5:decide (at_≤(l:Int) - n)=true:=by simp;omega
  go_enter Tryz.func185,Tryz.ntmps185
  go_wp2
  go_ret
  exact⟨rfl,rfl⟩
theorem ret_u64_bool {a b:Int}{t:Bool}(h:a=b):Ending.returned (.tuple #[.int .u64 a,.bool t])=.returned (.tuple #[.int .u64 b,.bool t]):=by rw[h]
def getV (xs:List Nat)(at_ n:Int):Int:=((le (win xs at_.toNat n.toNat):Nat):Int)
set_option maxRecDepth 20000 in
set_option maxHeartbeats 400000 in
theorem get_yes (v:Value) (xs:List Nat) (B:Nat) (at_ n:Int) (w:World) (h:Bts w B v xs) (hf:Fit xs.length at_ n) :
    Calls Tryz.prog 145 #[v,.int .i64 at_,.int .i64 n] w fun e w'=>e=.returned (.tuple #[.int .u64 (getV xs at_ n),.bool true])∧w=w':=by
  obtain⟨A,l,c,rfl,hl,hm,_,_,hb,hx⟩:=h
  have HM:=Lib.hid hm
  unfold maxLen at hm
  obtain⟨h1,h2,h3,h4⟩:=hf
  obtain⟨a,rfl⟩:=Int.eq_ofNat_of_zero_le h3
  obtain⟨m,rfl⟩:=Int.eq_ofNat_of_zero_le h1
  have h5:a+m≤l:=by omega
  have h6:m≤8:=by omega
  have HF:=Lib.hid (fits_yes A l c a m w HM.out ⟨h1,h2,h3,by rw[← hl];exact h4⟩)
  clear h1 h2 h3 h4
  have HL:=Lib.hid hl
  clear hl
  have HB:=Lib.hid hb
  clear hb
  have HX:=Lib.hid hx
  clear hx
  go_enter Tryz.func145,Tryz.ntmps145
  go_wp2_with (go_at_call 185;refine (HF.out).mono ?_;rintro e w' ⟨rfl,rfl⟩)
  go_loop [8,16] (fun s i=>∃ k:Nat,k≤m∧i=.int .i64 k∧s=.int .u64 ((le (win xs a k):Nat):Int)) (fun _ i=>m - (intOf i).toNat)
  case atStart=>exact⟨0,Nat.zero_le _,rfl,by rw[win,List.take_zero];rfl⟩
  case round =>
    obtain⟨k,hk,rfl,rfl⟩:=hrel
    by_cases hlt:k < m
    · obtain⟨b,off,rfl,_,hc⟩:=HX.out (by omega)
      have hcell:=hc (a+k) (by omega)
      have hx8:=HB.out (a+k) (by omega)
      obtain⟨y,hy⟩:∃ y,y=xs.getD (a+k) 0:=⟨_,rfl⟩
      rw[← hy] at hcell hx8
      have HS:=Lib.hid (show le (win xs a (k+1))=le (win xs a k ++ [y]) by rw[win_snoc xs a k (by rw[HL.out];omega),hy])
      clear hc hy
      have hx0:(0:Int)≤(y:Int):=by omega
      have hx1:(y:Int) < 256:=by omega
      go_wp2
      go_round
      case rel =>
        refine⟨k+1,by omega,by go_num,?_⟩
        rw[HS.out,le_or (win xs a k) k y (win_length _ _ _ (by rw[HL.out];omega)) (by omega) (win_byte _ _ _ (by rw[HL.out];exact HB.out)) hx8]
      case measure=>simp[intOf];omega
    · obtain rfl:k=m:=by omega
      go_wp2
      go_ret2
      exact⟨ret_u64_bool (by unfold getV;simp),rfl⟩
end Go.Proofs.YtaonpmclkafjdaaGreat
namespace Go.Proofs.YtaonpmclkafjdaaGreat
open Go.RowKit
end Go.Proofs.YtaonpmclkafjdaaGreat
namespace Go.Proofs.YtaonpmclkafjdaaGreat
open Go.RowKit
set_option linter.unusedVariables false
theorem put_byte (v k:Nat):Value.int .u8 ((v:Int) / 2 ^ (8 * k) % 256)=bv (dig v k):=by
  unfold dig bv
  rw[Int.natCast_emod,Int.natCast_ediv,Int.natCast_pow]
  rfl
def PutPost (w w':World)(g:Nat)(t:TypeId)(cur:Array Value):Prop :=
  Blk w' g t cur∧w.grownBy w' (some g)∧w'.heap.size=w.heap.size
theorem PutPost.step {w w':World}{g:Nat}{t:TypeId}{cur:Array Value}(h:PutPost w w' g t cur)(i:Nat)(u:Value):PutPost w (w'.setCell ⟨g,i,none⟩ u) g t (cur.setIfInBounds i u):=by
  obtain⟨h1,h2,h3⟩:=h
  refine⟨h1.set_ i u,⟨h2.os,h2.tape,h2.output,by simpa [World.setCell] using h2.size,fun k hk hne=>?_⟩,by simpa [World.setCell] using h3⟩
  rw[Below.heap_setCell _ _ _ _ (by rintro rfl;exact hne rfl)]
  exact h2.block k hk hne
set_option maxRecDepth 20000 in
set_option maxHeartbeats 400000 in
theorem put_yes (g off l c v:Nat) (t:TypeId) (cur:Array Value) (at_ n:Int) (w:World) (hl:l≤maxLen) (hf:Fit l at_ n) (hg:Blk w g t cur) (hs:off+l≤cur.size) :
    Calls Tryz.prog 242 #[.slice (some ⟨g,off,none⟩) l c,.int .i64 at_,.int .u64 v,.int .i64 n] w fun e w'=>e=.returned (.bool true)∧PutPost w w' g t (putV cur (off+at_.toNat) v n.toNat):=by
  have HM:=Lib.hid hl
  unfold maxLen at hl
  obtain⟨h1,h2,h3,h4⟩:=hf
  obtain⟨a,rfl⟩:=Int.eq_ofNat_of_zero_le h3
  obtain⟨m,rfl⟩:=Int.eq_ofNat_of_zero_le h1
  have h5:a+m≤l:=by omega
  have h6:m≤8:=by omega
  have HF:=Lib.hid (fits_yes (some ⟨g,off,none⟩) l c a m w HM.out ⟨h1,h2,h3,h4⟩)
  clear h1 h2 h3 h4
  have HG:=Lib.hid hg
  clear hg
  simp only[Int.toNat_natCast]
  go_enter Tryz.func242,Tryz.ntmps242
  go_wp2_with (go_at_call 185;refine (HF.out).mono ?_;rintro e w' ⟨rfl,rfl⟩)
  go_loopw [16] (fun i wr=>∃ k:Nat,k≤m∧i=.int .i64 k∧PutPost w wr g t (putV cur (off+a) v k)) (fun i _=>m - (intOf i).toNat)
  case atStart=>exact⟨0,Nat.zero_le _,rfl,HG.out,World.grownBy.refl _ _,rfl⟩
  case round =>
    obtain⟨k,hk,rfl,hp⟩:=hrel
    by_cases hlt:k < m
    · have hsz:off+(a+k) < (putV cur (off+a) v k).size:=by rw[putV_size];omega
      have hcell:wr.cell? ⟨g,off+(a+k),none⟩=some ((putV cur (off+a) v k)[off+(a+k)]'hsz):=by
        rw[hp.1.cell]
        exact Array.getElem?_eq_getElem hsz
      have hfz:wr.frozen? ⟨g,off+(a+k),none⟩=false:=hp.1.frozen _
      have hnext:=hp.step (off+(a+k)) (bv (dig v k))
      obtain⟨old,hold⟩:∃ old,old=(putV cur (off+a) v k)[off+(a+k)]'hsz:=⟨_,rfl⟩
      rw[← hold] at hcell
      have HN:=Lib.hid hnext
      clear hnext hold hp hsz
      go_wp2
      go_roundw
      case rel=>exact⟨k+1,by omega,by go_num,by rw[put_byte,putV,show off+a+k=off+(a+k) by omega];exact HN.out⟩
      case measure=>simp[intOf];omega
    · obtain rfl:k=m:=by omega
      go_wp2
      go_ret
      exact⟨rfl,hp⟩
set_option maxRecDepth 20000 in
set_option maxHeartbeats 400000 in
theorem same_no_len (A A':Option Addr) (l c l' c':Nat) (w:World) (h:l≠l') :
    Calls Tryz.prog 18 #[.slice A l c,.slice A' l' c'] w fun e w'=>e=.returned (.bool false)∧w=w':=by
  have h1:((l:Int) != (l':Int))=true:=by simp;omega
  go_enter Tryz.func18,Tryz.ntmps18
  go_wp2
  go_ret
  exact⟨rfl,rfl⟩
end Go.Proofs.YtaonpmclkafjdaaGreat
namespace Go.Proofs.YtaonpmclkafjdaaGreat
open Go.RowKit
set_option linter.unusedVariables false
def Drew (w w':World):Prop:=∃ m,w'=w.drewN m
end Go.Proofs.YtaonpmclkafjdaaGreat
namespace Go.Proofs.YtaonpmclkafjdaaGreat
open Go.RowKit
end Go.Proofs.YtaonpmclkafjdaaGreat
namespace Go.Proofs.YtaonpmclkafjdaaGreat
open Go.RowKit
set_option linter.unusedVariables false
theorem Tryz.size8:(Tryz.prog.info? 5).map (·.size)=some 1:=by kernel_rfl
theorem Tryz.zero8 (w:World):(zeroValue 5).run Tryz.prog w=.ok (.int .u8 0) w:=by kernel_rfl
theorem Tryz.info8:(Tryz.prog.info? 5).map (fun i=>(i.zero,i.size,i.bytes))=some (some (.int .u8 0),1,1):=by kernel_rfl
theorem make_zs (n:Nat)(hn:n≤1000000)(w:World):(Instr.makeSlice 22 (.int .i64 (n:Int)) (.int .i64 (n:Int))).run Tryz.prog w=.ok (.slice (some ⟨w.heap.size,0,none⟩) n n) (w.alloc (.cells (zs n) 5)):=by
  obtain⟨i0,hi,hz0,hz1,hz2⟩:=info_parts Tryz.info8
  exact run_make_zs _ _ i0 Tryz.underlying22 hi hz0 hz1 hz2 n hn w
end Go.Proofs.YtaonpmclkafjdaaGreat
namespace Go.Proofs.YtaonpmclkafjdaaGreat
open Go.RowKit
set_option linter.unusedVariables false
theorem list_of_getD {xs ys:List Nat}(hl:xs.length=ys.length)(h:∀ j,j < xs.length→xs.getD j 0=ys.getD j 0):xs=ys:=by
  apply List.ext_getElem hl
  intro j h1 h2
  have:=h j h1
  simpa [h1,h2] using this
theorem Drew.trans {a b c:World}(h:Drew a b)(k:Drew b c):Drew a c:=by
  obtain⟨m,rfl⟩:=h
  obtain⟨n,rfl⟩:=k
  refine⟨m+n,?_⟩
  simp[World.drewN,Nat.add_assoc]
set_option maxRecDepth 20000 in
set_option maxHeartbeats 400000 in
theorem same_any (v v':Value) (xs ys:List Nat) (B B':Nat) (w:World) (h:Bts w B v xs) (h':Bts w B' v' ys) :
    Calls Tryz.prog 18 #[v,v'] w fun e w'=>e=.returned (.bool (decide (xs=ys)))∧Drew w w':=by
  obtain⟨A,l,c,rfl,hl,hm,_,_,hb,hx⟩:=h
  obtain⟨A',l',c',rfl,hl',hm',_,_,hb',hx'⟩:=h'
  by_cases hll:l=l'
  · subst hll
    unfold maxLen at hm
    have HX:=Lib.hid hx
    have HX':=Lib.hid hx'
    have HL:=Lib.hid hl
    have HL':=Lib.hid hl'
    clear hl hl' hm' hb hb' hx hx'
    go_enter Tryz.func18,Tryz.ntmps18
    go_wp2
    go_loopw [5] (fun i wr=>∃ k m:Nat,k≤l∧i=.int .i64 k∧wr=w.drewN m∧∀ j,j < k→xs.getD j 0=ys.getD j 0) (fun i _=>l - (intOf i).toNat)
    case atStart=>exact⟨0,0,Nat.zero_le _,rfl,rfl,fun j hj=>absurd hj (by omega)⟩
    case round =>
      obtain⟨k,m,hk,rfl,rfl,he⟩:=hrel
      have HE:=Lib.hid he
      clear he
      by_cases hlt:k < l
      · obtain⟨b,off,rfl,_,hc⟩:=HX.out (by omega)
        obtain⟨b',off',rfl,_,hc'⟩:=HX'.out (by omega)
        have hcell:=hc k hlt
        have hcell':=hc' k hlt
        obtain⟨y,hy⟩:∃ y,y=xs.getD k 0:=⟨_,rfl⟩
        obtain⟨z,hz⟩:∃ z,z=ys.getD k 0:=⟨_,rfl⟩
        rw[← hy] at hcell
        rw[← hz] at hcell'
        have HY:=Lib.hid hy
        have HZ:=Lib.hid hz
        clear hc hc' hy hz
        by_cases c1:y=z
        · have d1:(((y:Nat):Int) != ((z:Nat):Int))=false:=by simp[c1]
          go_wp2
          go_quiet (fail)
          go_wp2
          go_roundw
          case rel =>
            refine⟨k+1,m+nq,by omega,by go_num,rfl,fun j hj=>?_⟩
            by_cases e:j=k
            · subst e
              rw[← HY.out,← HZ.out]
              exact c1
            · exact HE.out j (by omega)
          case measure=>simp[intOf];omega
        · have d1:(((y:Nat):Int) != ((z:Nat):Int))=true:=by rw[bne_iff_ne];omega
          go_wp2
          go_quiet (fail)
          go_wp2
          go_ret
          exact⟨by rw[decide_eq_false (fun e=>c1 (by rw[HY.out,HZ.out,e]))];rfl,Drew.trans ⟨m,rfl⟩ ⟨nq,rfl⟩⟩
      · obtain rfl:k=l:=by omega
        go_wp2
        go_ret
        exact⟨by rw[decide_eq_true (list_of_getD (by rw[HL.out,HL'.out]) (by rw[HL.out];exact HE.out))];rfl,m,rfl⟩
  · refine (same_no_len A A' l c l' c' w hll).mono ?_
    rintro e w' ⟨rfl,rfl⟩
    exact⟨by rw[decide_eq_false (fun e=>hll (by rw[← hl,← hl',e]))],0,rfl⟩
end Go.Proofs.YtaonpmclkafjdaaGreat

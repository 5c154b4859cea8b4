/-
  The contracts of a pool's small calls: which sections and frames there are, the frames of a section that have a use, giving a use to many.
  The contracts of a pool's New, Zone, Use, Count, Spoil, Free and Isolate.
  The contracts of a pool's Online and Offline.
  Conditions: those that each line bears.
-/
import Derived.Test.YtaonpmclkafjdaaGreatQz06
import Derived.Test.YtaonpmclkafjdaaGreatQz07
import Derived.Test.YtaonpmclkafjdaaGreatQz05
set_option linter.unusedSimpArgs false
set_option linter.unusedSectionVars false
set_option linter.unusedVariables false
namespace Go.Proofs.YtaonpmclkafjdaaGreat
open Go.RowKit
set_option linter.unusedVariables false
set_option maxRecDepth 20000
set_option maxHeartbeats 800000
theorem hasSect_any (g:Nat) (s:Int) (w:World) :
    Calls Tryz.prog 80 #[.pointer (some ⟨g,0,none⟩),.int .i64 s] w fun e w'=>e=.returned (.bool (decide (0≤s∧s < 32)))∧w=w':=by
  by_cases h1:0≤s
  · have d1:decide (0≤s)=true:=decide_eq_true h1
    by_cases h2:s < 32
    · have d2:decide (s < 32)=true:=decide_eq_true h2
      rw[decide_eq_true (show 0≤s∧s < 32 from ⟨h1,h2⟩)]
      go_enter Tryz.func80,Tryz.ntmps80
      go_wp2
      go_ret
      exact⟨rfl,rfl⟩
    · have d2:decide (s < 32)=false:=decide_eq_false h2
      rw[decide_eq_false (show ¬ (0≤s∧s < 32) from fun h=>h2 h.2)]
      go_enter Tryz.func80,Tryz.ntmps80
      go_wp2
      go_ret
      exact⟨rfl,rfl⟩
  · have d1:decide (0≤s)=false:=decide_eq_false h1
    rw[decide_eq_false (show ¬ (0≤s∧s < 32) from fun h=>h1 h.1)]
    go_enter Tryz.func80,Tryz.ntmps80
    go_wp2
    go_ret
    exact⟨rfl,rfl⟩
theorem hasFrame_any (g:Nat) (s:Int) (w:World) :
    Calls Tryz.prog 60 #[.pointer (some ⟨g,0,none⟩),.int .i64 s] w fun e w'=>e=.returned (.bool (decide (0≤s∧s < 1024)))∧w=w':=by
  by_cases h1:0≤s
  · have d1:decide (0≤s)=true:=decide_eq_true h1
    by_cases h2:s < 1024
    · have d2:decide (s < 1024)=true:=decide_eq_true h2
      rw[decide_eq_true (show 0≤s∧s < 1024 from ⟨h1,h2⟩)]
      go_enter Tryz.func60,Tryz.ntmps60
      go_wp2
      go_ret
      exact⟨rfl,rfl⟩
    · have d2:decide (s < 1024)=false:=decide_eq_false h2
      rw[decide_eq_false (show ¬ (0≤s∧s < 1024) from fun h=>h2 h.2)]
      go_enter Tryz.func60,Tryz.ntmps60
      go_wp2
      go_ret
      exact⟨rfl,rfl⟩
  · have d1:decide (0≤s)=false:=decide_eq_false h1
    rw[decide_eq_false (show ¬ (0≤s∧s < 1024) from fun h=>h1 h.1)]
    go_enter Tryz.func60,Tryz.ntmps60
    go_wp2
    go_ret
    exact⟨rfl,rfl⟩
theorem mayGive_any (x:Int) (w:World) :
    Calls Tryz.prog 128 #[.int .i64 x] w fun e w'=>e=.returned (.bool (decide (2≤x∧x≤5)))∧w=w':=by
  by_cases h1:2≤x
  · have d1:decide (2≤x)=true:=decide_eq_true h1
    by_cases h2:x≤5
    · have d2:decide (x≤5)=true:=decide_eq_true h2
      rw[decide_eq_true (show 2≤x∧x≤5 from ⟨h1,h2⟩)]
      go_enter Tryz.func128,Tryz.ntmps128
      go_wp2
      go_ret
      exact⟨rfl,rfl⟩
    · have d2:decide (x≤5)=false:=decide_eq_false h2
      rw[decide_eq_false (show ¬ (2≤x∧x≤5) from fun h=>h2 h.2)]
      go_enter Tryz.func128,Tryz.ntmps128
      go_wp2
      go_ret
      exact⟨rfl,rfl⟩
  · have d1:decide (2≤x)=false:=decide_eq_false h1
    rw[decide_eq_false (show ¬ (2≤x∧x≤5) from fun h=>h1 h.1)]
    go_enter Tryz.func128,Tryz.ntmps128
    go_wp2
    go_ret
    exact⟨rfl,rfl⟩
theorem within_any (f s:Int) (hs:0≤s∧s < 32) (w:World) :
    Calls Tryz.prog 82 #[.int .i64 f,.int .i64 s] w fun e w'=>e=.returned (.bool (decide (32 * s≤f∧f < 32 * s+32)))∧w=w':=by
  have OF:=Lib.hid (sectOf_any f w)
  unfold ofV at OF
  by_cases h1:0≤f∧f < 1024
  · rw[if_pos h1] at OF
    obtain⟨q,hq⟩:∃ q,q=f / 32:=⟨_,rfl⟩
    rw[← hq] at OF
    by_cases h2:q=s
    · have d2:(q == s)=true:=by simp[h2]
      have r:decide (32 * s≤f∧f < 32 * s+32)=true:=decide_eq_true (by omega)
      rw[r]
      clear hq h1 hs r
      go_enter Tryz.func82,Tryz.ntmps82
      go_wp2_with (go_at_call 134;refine OF.out.mono ?_;rintro e w' ⟨rfl,rfl⟩)
      go_ret
      exact⟨rfl,rfl⟩
    · have d2:(q == s)=false:=by simp[h2]
      have r:decide (32 * s≤f∧f < 32 * s+32)=false:=decide_eq_false (by omega)
      rw[r]
      clear hq h1 hs r
      go_enter Tryz.func82,Tryz.ntmps82
      go_wp2_with (go_at_call 134;refine OF.out.mono ?_;rintro e w' ⟨rfl,rfl⟩)
      go_ret
      exact⟨rfl,rfl⟩
  · rw[if_neg h1] at OF
    have r:decide (32 * s≤f∧f < 32 * s+32)=false:=decide_eq_false (by omega)
    rw[r]
    clear h1 hs r
    go_enter Tryz.func82,Tryz.ntmps82
    go_wp2_with (go_at_call 134;refine OF.out.mono ?_;rintro e w' ⟨rfl,rfl⟩)
    go_ret
    exact⟨rfl,rfl⟩
theorem give_any (g:Nat) (p:PS) (x:Nat) (v:Value) (fs:List Int) (w:World) (h:PoolAt w g p) (hx:x≤6) (hv:Its w w.heap.size v fs) (hoff:Off (fun k=>k=g) v) (hfs:∀ f∈fs,0≤f∧f < 1024) :
    Calls Tryz.prog 84 #[.pointer (some ⟨g,0,none⟩),.int .i64 (x:Int),v] w fun e w'=>e=.returned (.tuple #[])∧PoolAt w' g ⟨giveU p.u x fs,p.z,p.i⟩∧Turns (fun k=>k=g) w w':=by
  obtain⟨A,N,c,rfl,hN,_,hc,hz⟩:=hv
  have HN:=Lib.hid hN
  have HZ:=Lib.hid (show ∀ i,i < N→∃ b1 o1,A=some ⟨b1,o1,none⟩∧b1≠g∧b1 < w.heap.size∧w.cell? ⟨b1,o1+i,none⟩=some (.int .i64 (fs.getD i 0)) from fun i hi=>by
    obtain⟨b1,o1,e,h1,h2⟩:=hz (by omega)
    exact⟨b1,o1,e,hoff b1 o1 none N c (by rw[e]) (by omega),h1,h2 i hi⟩)
  have HF:=Lib.hid (show ∀ i,i < N→0≤fs.getD i 0∧fs.getD i 0 < 1024 from fun i hi=>by
    refine hfs _ ?_
    rw[List.getD_eq_getElem?_getD,List.getElem?_eq_getElem (by omega)]
    exact List.getElem_mem _)
  have HP:=Lib.hid h
  have HX:=Lib.hid hx
  have hml:N≤maxLen:=by omega
  unfold maxLen at hml
  clear hN hz hoff h hc hfs hx
  go_enter Tryz.func84,Tryz.ntmps84
  go_wp2_with fail
  go_loopg [7,10] N (fun gg _ s10 wx=>∃ i:Nat,i+gg=N∧s10=.int .i64 (i:Int)∧PoolAt wx g ⟨giveU p.u x (fs.take i),p.z,p.i⟩∧Turns (fun k=>k=g) w wx)
  case atStart=>exact⟨0,by omega,rfl,HP.out,Turns.refl _ _⟩
  case round =>
    obtain⟨i,hig,rfl,hp5,ht5⟩:=hrel
    have HP5:=Lib.hid hp5
    have HT5:=Lib.hid ht5
    clear hp5 ht5
    by_cases hlt:i < N
    · have t4:decide ((i:Int) < (N:Int))=true:=decide_eq_true (by omega)
      have t5:(i:Int) < (N:Int):=by omega
      have t6:(0:Int)≤(i:Int):=by omega
      obtain⟨b1,o1,rfl,h1,hbl,hcc⟩:=HZ.out i hlt
      obtain⟨hy1,hy2⟩:=HF.out i hlt
      obtain⟨y,hy⟩:∃ y,y=fs.getD i 0:=⟨_,rfl⟩
      rw[← hy] at hy1 hy2
      have hcell:wr.cell? ⟨b1,o1+i,none⟩=some (.int .i64 y):=(World.cell?_of_block (HT5.out.block b1 hbl h1)).trans (by rw[hy];exact hcc)
      have GT:=Lib.hid (giveU_take (u:=p.u) (x:=x) (fs:=fs) (i:=i) (by rw[HN.out];exact hlt) hy)
      clear hcc hy h1 hbl
      obtain⟨z,rfl⟩:=Int.eq_ofNat_of_zero_le hy1
      have hz2:z < 1024:=by omega
      have hfz:wr.frozen? ⟨g,z,none⟩=false:=HP5.out.fz z
      have hcz:=HP5.out.cu hz2
      obtain⟨old,ho⟩:∃ old:Nat,old=(giveU p.u x (fs.take i)).getD z 0:=⟨_,rfl⟩
      have hcz:wr.cell? ⟨g,z,none⟩=some (.int .i64 (old:Int)):=by rw[ho];exact hcz
      clear ho
      go_wp2_with fail
      go_roundg (N - (i+1))
      case measure=>omega
      case rel =>
        have ho:=(Only.refl g wr).setCell z (.int .i64 (x:Int))
        refine⟨i+1,by omega,by go_num,?_,HT5.out.trans (Turns.of_only ho rfl)⟩
        rw[GT.out,Int.toNat_natCast]
        exact HP5.out.su hz2 HX.out
    · obtain rfl:i=N:=by omega
      have t4:decide ((i:Int) < (i:Int))=false:=decide_eq_false (by omega)
      go_wp2
      (try simp only[Exit.inBlock,Exit.then])
      refine bodyPost_end (results_none rfl _ _ _) rfl ?_
      refine⟨rfl,?_,HT5.out⟩
      have h:=HP5.out
      rwa [← HN.out,List.take_length] at h
set_option maxHeartbeats 1600000 in
theorem of_own (g:Nat) (p:PS) (s:Nat) (v:Int) (w:World) (h:PoolAt w g p) (hs:s < 32) :
    Calls Tryz.prog 67 #[.pointer (some ⟨g,0,none⟩),.int .i64 (s:Int),.int .i64 v] w fun e w'=>∃ x,e=.returned x∧w'.ownsRow w.heap.size 3 1 x (ofZ p.u v (32 * s) 32).length ((ofZ p.u v (32 * s) 32).map (fun z=>Value.int .i64 z))∧Below w.heap.size w w':=by
  have HP:=Lib.hid h
  obtain⟨iI,hiI,hiz0,hiz1,hiz2⟩:=info_parts Tryz.infoInt8
  have HII:=Lib.hid hiI
  have HI0:=Lib.hid hiz0
  have HI1:=Lib.hid hiz1
  have HI2:=Lib.hid hiz2
  have HS:=Lib.hid (hasSect_any g (s:Int) w)
  rw[decide_eq_true (show (0:Int)≤s∧(s:Int) < 32 from ⟨by omega,by omega⟩)] at HS
  have FR:=Lib.hid (sectFrames_any (s:Int) w)
  unfold frV at FR
  rw[if_pos (show (0:Int)≤s∧(s:Int) < 32 from ⟨by omega,by omega⟩)] at FR
  obtain⟨a,ha⟩:∃ a:Nat,a=32 * s:=⟨_,rfl⟩
  rw[show (s:Int) * 32=(a:Int) by omega] at FR
  rw[← ha]
  have ha2:a+32≤1024:=by omega
  clear h hiI hiz0 hiz1 hiz2 ha
  obtain⟨b,hb⟩:∃ b:Nat,(b:Int)=(a:Int)+32:=⟨a+32,by omega⟩
  rw[← hb] at FR
  have HB:=Lib.hid hb
  clear hb
  go_enter Tryz.func67,Tryz.ntmps67
  go_wp2_with (go_at_call 80;refine HS.out.mono ?_;rintro e w' ⟨rfl,rfl⟩)
  go_wp2_with (go_at_call 122;refine FR.out.mono ?_;rintro e w' ⟨rfl,rfl⟩)
  go_loopg [7,10] 32 (fun gg x s10 wx=>∃ k:Nat,k+gg=32∧s10=.int .i64 ((a+k:Nat):Int)∧wx.ownsRow w.heap.size 3 1 x (ofZ p.u v a k).length ((ofZ p.u v a k).map (fun z=>Value.int .i64 z))∧Below w.heap.size w wx)
  case atStart=>exact⟨0,by omega,rfl,World.ownsRow_nil _ _ _ _,Below.refl _ _⟩
  case round =>
    obtain⟨k,hkg,hs10,hrow,hb9⟩:=hrel
    obtain⟨f,hf⟩:∃ f,f=a+k:=⟨_,rfl⟩
    rw[← hf] at hs10
    subst hs10
    have HROW:=Lib.hid hrow
    have HX9:=Lib.hid hb9
    have HP9:=Lib.hid (HP.out.below hb9 HP.out.lt)
    have HFK:=Lib.hid hf
    clear hrow hb9
    by_cases hlt:k < 32
    · have t1:(f:Int) < (b:Int):=by have:=HB.out;omega
      have t2:(0:Int)≤(f:Int):=by omega
      have t3:decide ((f:Int) < (b:Int))=true:=decide_eq_true t1
      have hf2:f < 1024:=by omega
      have t4:(f:Int) < 1024:=by omega
      have hck:=HP9.out.cu hf2
      have BS:=Lib.hid (ofZ_succ p.u v a k)
      rw[← hf] at BS
      have BL:=Lib.hid (ofZ_le p.u v a k)
      obtain⟨x,hx⟩:∃ x:Nat,x=p.u.getD f 0:=⟨_,rfl⟩
      rw[← hx] at hck BS
      clear hx hf
      by_cases hxv:(x:Int)=v
      · have d1:((x:Int) == v)=true:=by simp[hxv]
        rw[if_pos hxv] at BS
        clear hxv
        have HONE:=Lib.hid (show ∀ u∈[Value.int .i64 (f:Int)],u.oneCell'=true from fun u hu=>by rw[List.mem_singleton.1 hu];rfl)
        have HQ1:=Lib.hid (show (ofZ p.u v a k).length+1≤maxLen from by have:=BL.out;unfold maxLen;omega)
        have HQ2:=Lib.hid (show ((ofZ p.u v a k).length+1) * 8≤140737488355328 from by have:=BL.out;omega)
        have HQ3:=Lib.hid (show w.heap.size≤(wr.alloc (.cells #[Value.int .i64 (f:Int)] 3)).heap.size from by have:=HX9.out.size;simp;omega)
        go_wp2_with (refine wpList_append_own _ rfl _ _ 128 rfl w.heap.size 3 iI (.int .i64 0) 1 8 Tryz.underlying128 HII.out HI0.out HI1.out HI2.out rfl (by decide) _ _ _ rfl (HROW.out.alloc _) ⟨wr.heap.size,0,none⟩ 1 1 [Value.int .i64 (f:Int)] rfl rfl (cell_one_new _ _ _) HONE.out HQ1.out HQ2.out HQ3.out ?_;intro v' w4 hown4 hg4 hnil4;have HOWN4:=Lib.hid hown4;have HG4:=Lib.hid hg4;clear hown4 hg4 hnil4)
        have HB4':=Lib.hid ((HX9.out.alloc HX9.out.size (.cells #[Value.int .i64 (f:Int)] 3)).grown HG4.out HQ3.out (fun j hj=>(HROW.out.lt j hj).1))
        go_roundg (31 - k)
        case rel =>
          refine⟨k+1,by omega,by rw[show ((a+(k+1):Nat):Int)=(f:Int)+1 from by have:=HFK.out;omega],?_,HB4'.out⟩
          have h9:=HOWN4.out
          rw[show ofZ p.u v a (k+1)=ofZ p.u v a k ++ [(f:Int)] from BS.out,List.length_append,List.map_append]
          exact h9
        case measure=>omega
      · have d1:((x:Int) == v)=false:=by simp[hxv]
        rw[if_neg hxv] at BS
        clear hxv
        go_wp2_with fail
        go_roundg (31 - k)
        case rel =>
          refine⟨k+1,by omega,by rw[show ((a+(k+1):Nat):Int)=(f:Int)+1 from by have:=HFK.out;omega],?_,HX9.out⟩
          rw[show ofZ p.u v a (k+1)=ofZ p.u v a k from by simpa using BS.out]
          exact HROW.out
        case measure=>omega
    · obtain rfl:k=32:=by omega
      have t3:decide ((f:Int) < (b:Int))=false:=decide_eq_false (by have:=HB.out;omega)
      have t4:¬ f < b:=by have:=HB.out;omega
      clear hf
      go_wp2
      go_ret
      exact⟨_,rfl,HROW.out,HX9.out⟩
theorem of_out (g:Nat) (s v:Int) (w:World) (hs:¬ (0≤s∧s < 32)) :
    Calls Tryz.prog 67 #[.pointer (some ⟨g,0,none⟩),.int .i64 s,.int .i64 v] w fun e w'=>e=.returned (.slice none 0 0)∧w=w':=by
  have HS:=Lib.hid (hasSect_any g s w)
  rw[decide_eq_false hs] at HS
  clear hs
  go_enter Tryz.func67,Tryz.ntmps67
  go_wp2_with (go_at_call 80;refine HS.out.mono ?_;rintro e w' ⟨rfl,rfl⟩)
  go_ret
  exact⟨rfl,rfl⟩
theorem of_any (g:Nat) (p:PS) (s v:Int) (w:World) (h:PoolAt w g p) :
    Calls Tryz.prog 67 #[.pointer (some ⟨g,0,none⟩),.int .i64 s,.int .i64 v] w fun e w'=>∃ x,e=.returned x∧Its w' w'.heap.size x (ofP p s v)∧Off (fun k=>k < w.heap.size) x∧Below w.heap.size w w':=by
  by_cases hs:0≤s∧s < 32
  · obtain⟨k,rfl⟩:=Int.eq_ofNat_of_zero_le hs.1
    refine (of_own g p k v w h (by omega)).mono ?_
    rintro e w' ⟨x,rfl,h1,h2⟩
    rw[ofP_in p (by omega)]
    refine⟨x,rfl,Its.of_own h1,fun b o sp n c e hn hk=>?_,h2⟩
    rcases h1.2 with ⟨q1,_⟩ | ⟨gg,cap,cur,q1,q2,_⟩
    · rw[e] at q1;injection q1 with q1;cases q1
    · rw[e] at q1
      injection q1 with q1
      injection q1 with q1
      injection q1 with q1
      omega
  · refine (of_out g s v w hs).mono ?_
    rintro e w' ⟨rfl,rfl⟩
    rw[show ofP p s v=[] from if_neg hs]
    exact⟨_,rfl,Its.nil_ _ _,fun b o sp n c e hn=>(by injection e with e;cases e),Below.refl _ _⟩
end Go.Proofs.YtaonpmclkafjdaaGreat
namespace Go.Proofs.YtaonpmclkafjdaaGreat
open Go.RowKit
set_option linter.unusedVariables false
set_option maxRecDepth 20000
set_option maxHeartbeats 800000
theorem pool_zone_at (g:Nat) (p:PS) (s:Int) (w:World) (h:PoolAt w g p) :
    Calls Tryz.prog 81 #[.pointer (some ⟨g,0,none⟩),.int .i64 s] w fun e w'=>e=.returned (.int .i64 ((zoneP p s:Nat):Int))∧w=w':=by
  have HS:=Lib.hid (hasSect_any g s w)
  by_cases hs:0≤s∧s < 32
  · rw[decide_eq_true hs] at HS
    obtain⟨k,rfl⟩:=Int.eq_ofNat_of_zero_le hs.1
    have hk:k < 32:=by omega
    have hcz:=h.cz hk
    rw[zoneP_in p hk]
    obtain⟨z,hz⟩:∃ z:Nat,z=p.z.getD k 0:=⟨_,rfl⟩
    rw[← hz] at hcz ⊢
    rw[show 1024+2 * k=1024+k * 2 by omega] at hcz
    have hk0:(0:Int)≤(k:Int):=by omega
    have hk1:(k:Int) < 32:=by omega
    clear h hz hs
    go_enter Tryz.func81,Tryz.ntmps81
    go_wp2_with (go_at_call 80;refine HS.out.mono ?_;rintro e w' ⟨rfl,rfl⟩)
    go_ret
    exact⟨rfl,rfl⟩
  · rw[decide_eq_false hs] at HS
    rw[show zoneP p s=0 from if_neg hs]
    clear h hs
    go_enter Tryz.func81,Tryz.ntmps81
    go_wp2_with (go_at_call 80;refine HS.out.mono ?_;rintro e w' ⟨rfl,rfl⟩)
    go_ret
    exact⟨rfl,rfl⟩
theorem pool_use_at (g:Nat) (p:PS) (f:Int) (w:World) (h:PoolAt w g p) :
    Calls Tryz.prog 17 #[.pointer (some ⟨g,0,none⟩),.int .i64 f] w fun e w'=>e=.returned (.int .i64 ((useP p f:Nat):Int))∧w=w':=by
  have HS:=Lib.hid (hasFrame_any g f w)
  by_cases hs:0≤f∧f < 1024
  · rw[decide_eq_true hs] at HS
    obtain⟨k,rfl⟩:=Int.eq_ofNat_of_zero_le hs.1
    have hk:k < 1024:=by omega
    have hcz:=h.cu hk
    rw[useP_in p hk]
    obtain⟨z,hz⟩:∃ z:Nat,z=p.u.getD k 0:=⟨_,rfl⟩
    rw[← hz] at hcz ⊢
    have hk0:(0:Int)≤(k:Int):=by omega
    have hk1:(k:Int) < 1024:=by omega
    clear h hz hs
    go_enter Tryz.func17,Tryz.ntmps17
    go_wp2_with (go_at_call 60;refine HS.out.mono ?_;rintro e w' ⟨rfl,rfl⟩)
    go_ret
    exact⟨rfl,rfl⟩
  · rw[decide_eq_false hs] at HS
    rw[show useP p f=0 from if_neg hs]
    clear h hs
    go_enter Tryz.func17,Tryz.ntmps17
    go_wp2_with (go_at_call 60;refine HS.out.mono ?_;rintro e w' ⟨rfl,rfl⟩)
    go_ret
    exact⟨rfl,rfl⟩
theorem give_one (g:Nat) (p:PS) (x k:Nat) (w:World) (h:PoolAt w g p) (hx:x≤6) (hk:k < 1024) :
    Calls Tryz.prog 84 #[.pointer (some ⟨g,0,none⟩),.int .i64 (x:Int),.slice (some ⟨w.heap.size,0,none⟩) 1 1] (w.alloc (.cells #[Value.int .i64 (k:Int)] 3)) fun e w'=>e=.returned (.tuple #[])∧PoolAt w' g ⟨p.u.set k x,p.z,p.i⟩∧Turns (fun j=>j=g) w w':=by
  have hw:Below w.heap.size w (w.alloc (.cells #[Value.int .i64 (k:Int)] 3)):=(Below.refl _ _).alloc (Nat.le_refl _) _
  have hb:Blk (w.alloc (.cells #[Value.int .i64 (k:Int)] 3)) w.heap.size 3 #[Value.int .i64 (k:Int)]:=Blk.new w _ _
  have hit:Its (w.alloc (.cells #[Value.int .i64 (k:Int)] 3)) (w.alloc (.cells #[Value.int .i64 (k:Int)] 3)).heap.size (.slice (some ⟨w.heap.size,0,none⟩) 1 1) [(k:Int)]:=Its.of_lit (xs:=[(k:Int)]) hb (by simp[maxLen])
  refine (give_any g p x _ [(k:Int)] _ (h.below hw h.lt) hx hit (fun b o sp n c e hn hk2=>?_) (fun f hf=>?_)).mono ?_
  · injection e with e
    injection e with e
    injection e with e
    have:=h.lt
    omega
  · rw[List.mem_singleton.1 hf];omega
  · rintro e w' ⟨rfl,h1,h2⟩
    refine⟨rfl,?_,(Turns.of_below hw (Nat.le_refl _)).trans h2⟩
    have:giveU p.u x [(k:Int)]=p.u.set k x:=by show p.u.set ((k:Int)).toNat x=_;rw[Int.toNat_natCast]
    rw[← this]
    exact h1
theorem pool_spoil_at (g:Nat) (p:PS) (f:Int) (w:World) (h:PoolAt w g p) :
    Calls Tryz.prog 83 #[.pointer (some ⟨g,0,none⟩),.int .i64 f] w fun e w'=>e=.returned (.bool (spoilP p f).1)∧PoolAt w' g (spoilP p f).2∧Turns (fun j=>j=g) w w':=by
  have HS:=Lib.hid (hasFrame_any g f w)
  have HP:=Lib.hid h
  by_cases hs:0≤f∧f < 1024
  · rw[decide_eq_true hs] at HS
    obtain⟨k,rfl⟩:=Int.eq_ofNat_of_zero_le hs.1
    have hk:k < 1024:=by omega
    have hcz:=h.cu hk
    obtain⟨z,hz⟩:∃ z:Nat,z=p.u.getD k 0:=⟨_,rfl⟩
    have hu:=useP_in p hk
    rw[← hz] at hcz hu
    have hk0:(0:Int)≤(k:Int):=by omega
    have hk1:(k:Int) < 1024:=by omega
    by_cases h6:z=6
    · rw[show spoilP p (k:Int)=(false,p) from if_neg (by omega)]
      have d1:((z:Int) == 6)=true:=by simp[h6]
      clear h hz hs hu h6
      go_enter Tryz.func83,Tryz.ntmps83
      go_wp2_with (go_at_call 60;refine HS.out.mono ?_;rintro e w' ⟨rfl,rfl⟩)
      go_ret
      exact⟨rfl,HP.out,Turns.refl _ _⟩
    · rw[show spoilP p (k:Int)=(true,⟨p.u.set ((k:Int)).toNat 6,p.z,p.i⟩) from if_pos ⟨hs,by omega⟩,Int.toNat_natCast]
      have d1:((z:Int) == 6)=false:=by simp;omega
      have GV:=Lib.hid (give_one g p 6 k w h (by omega) hk)
      clear h hz hs hu h6
      go_enter Tryz.func83,Tryz.ntmps83
      go_wp2_with (go_at_call 60;refine HS.out.mono ?_;rintro e w' ⟨rfl,rfl⟩)
      refine GV.out.mono ?_
      rintro e w' ⟨rfl,h1,h2⟩
      have H1:=Lib.hid h1
      have H2:=Lib.hid h2
      clear h1 h2
      go_wp2
      go_ret
      exact⟨rfl,H1.out,H2.out⟩
  · rw[decide_eq_false hs] at HS
    rw[show spoilP p f=(false,p) from if_neg (fun h=>hs h.1)]
    clear h hs
    go_enter Tryz.func83,Tryz.ntmps83
    go_wp2_with (go_at_call 60;refine HS.out.mono ?_;rintro e w' ⟨rfl,rfl⟩)
    go_ret
    exact⟨rfl,HP.out,Turns.refl _ _⟩
theorem pool_free_at (g:Nat) (p:PS) (f:Int) (w:World) (h:PoolAt w g p) :
    Calls Tryz.prog 76 #[.pointer (some ⟨g,0,none⟩),.int .i64 f] w fun e w'=>e=.returned (.bool (freeP p f).1)∧PoolAt w' g (freeP p f).2∧Turns (fun j=>j=g) w w':=by
  have US:=Lib.hid (pool_use_at g p f w h)
  have HP:=Lib.hid h
  obtain⟨z,hz⟩:∃ z:Nat,z=useP p f:=⟨_,rfl⟩
  rw[← hz] at US
  have MG:=Lib.hid (mayGive_any (z:Int) w)
  by_cases hm:2≤z∧z≤5
  · have hin:0≤f∧f < 1024:=by
      unfold useP at hz
      by_cases c:0≤f∧f < 1024
      · exact c
      · rw[if_neg c] at hz;omega
    obtain⟨k,rfl⟩:=Int.eq_ofNat_of_zero_le hin.1
    have hk:k < 1024:=by omega
    rw[decide_eq_true (show 2≤(z:Int)∧(z:Int)≤5 from by omega)] at MG
    rw[show freeP p (k:Int)=(true,⟨p.u.set ((k:Int)).toNat 1,p.z,p.i⟩) from if_pos (by rw[← hz];exact hm),Int.toNat_natCast]
    have GV:=Lib.hid (give_one g p 1 k w h (by omega) hk)
    clear h hz hm hin
    go_enter Tryz.func76,Tryz.ntmps76
    go_wp2_with (first | (go_at_call 17;refine US.out.mono ?_;rintro e w' ⟨rfl,rfl⟩) | (go_at_call 128;refine MG.out.mono ?_;rintro e w' ⟨rfl,rfl⟩))
    refine GV.out.mono ?_
    rintro e w' ⟨rfl,h1,h2⟩
    have H1:=Lib.hid h1
    have H2:=Lib.hid h2
    clear h1 h2
    go_wp2
    go_ret
    exact⟨rfl,H1.out,H2.out⟩
  · rw[decide_eq_false (show ¬ (2≤(z:Int)∧(z:Int)≤5) from by omega)] at MG
    rw[show freeP p f=(false,p) from if_neg (by rw[← hz];exact hm)]
    clear h hz hm
    go_enter Tryz.func76,Tryz.ntmps76
    go_wp2_with (first | (go_at_call 17;refine US.out.mono ?_;rintro e w' ⟨rfl,rfl⟩) | (go_at_call 128;refine MG.out.mono ?_;rintro e w' ⟨rfl,rfl⟩))
    go_ret
    exact⟨rfl,HP.out,Turns.refl _ _⟩
end Go.Proofs.YtaonpmclkafjdaaGreat
namespace Go.Proofs.YtaonpmclkafjdaaGreat
open Go.RowKit
set_option linter.unusedVariables false
set_option maxRecDepth 20000
set_option maxHeartbeats 1600000
theorem badU_take {s:Nat}{u:List Nat}{fs:List Int}{i:Nat}{y:Int}(hi:i < fs.length)(hy:y=fs.getD i 0):badU s u (fs.take (i+1))=if 32 * (s:Int)≤y∧y < 32 * (s:Int)+32 then (badU s u (fs.take i)).set y.toNat 6 else badU s u (fs.take i):=by
  have e2:fs.take (i+1)=fs.take i ++ [fs[i]]:=by rw[List.take_add_one,List.getElem?_eq_getElem hi];rfl
  have e:y=fs[i]:=by rw[hy];simp[hi]
  rw[e2,badU_snoc,e]
theorem spoil_in {p:PS}(ho:PsOk p){f:Nat}(hf:f < 1024):(spoilP p (f:Int)).2=⟨p.u.set f 6,p.z,p.i⟩:=by
  unfold spoilP
  rw[useP_in p hf]
  by_cases c:p.u.getD f 0=6
  · rw[if_neg (fun h=>h.2 c)]
    have:p.u.set f 6=p.u:=by
      refine listN_ext (by simp) fun g hg=>?_
      by_cases e:g=f
      · subst e
        rw[getD_set_same _ _ _ _ (by rw[ho.u];exact hf),c]
      · rw[getD_set_ne _ _ _ _ _ e]
    rw[this]
  · rw[if_pos ⟨⟨by omega,by omega⟩,c⟩,Int.toNat_natCast]
theorem online_bad (g:Nat) (s z:Int) (A:Option Addr) (n c:Nat) (w:World) (h:(s < 0∨31 < s)∨(z≠2∧z≠3)) :
    Calls Tryz.prog 32 #[.pointer (some ⟨g,0,none⟩),.int .i64 s,.int .i64 z,.slice A n c] w fun e w'=>e=.returned (.int .i64 1)∧w=w':=by
  have HS:=Lib.hid (hasSect_any g s w)
  by_cases hs:0≤s∧s < 32
  · rw[decide_eq_true hs] at HS
    have d3:(z != 2)=true:=by rw[bne_iff_ne];omega
    have d4:(z != 3)=true:=by rw[bne_iff_ne];omega
    clear hs h
    go_enter Tryz.func32,Tryz.ntmps32
    go_wp2_with (go_at_call 80;refine HS.out.mono ?_;rintro e w' ⟨rfl,rfl⟩)
    go_ret
    exact⟨rfl,rfl⟩
  · rw[decide_eq_false hs] at HS
    clear hs h
    go_enter Tryz.func32,Tryz.ntmps32
    go_wp2_with (go_at_call 80;refine HS.out.mono ?_;rintro e w' ⟨rfl,rfl⟩)
    go_ret
    exact⟨rfl,rfl⟩
theorem online_new (g:Nat) (p:PS) (k z:Nat) (v:Value) (bs:List Int) (w:World) (h:PoolAt w g p) (hv:Its w w.heap.size v bs) (hoff:Off (fun k=>k=g) v) (hk:k < 32) (hz:z=2∨z=3) (h0:p.z.getD k 0=0) :
    Calls Tryz.prog 32 #[.pointer (some ⟨g,0,none⟩),.int .i64 (k:Int),.int .i64 (z:Int),v] w fun e w'=>e=.returned (.int .i64 0)∧PoolAt w' g ⟨giveU (badU k p.u bs) 1 (ofZ (badU k p.u bs) 0 (32 * k) 32),p.z.set k z,p.i⟩∧Turns (fun k=>k=g) w w':=by
  obtain⟨A,N,c,rfl,hN,_,hc,hzz⟩:=hv
  have HN:=Lib.hid hN
  have HZ:=Lib.hid (show ∀ i,i < N→∃ b1 o1,A=some ⟨b1,o1,none⟩∧b1≠g∧b1 < w.heap.size∧w.cell? ⟨b1,o1+i,none⟩=some (.int .i64 (bs.getD i 0)) from fun i hi=>by
    obtain⟨b1,o1,e,h1,h2⟩:=hzz (by omega)
    exact⟨b1,o1,e,hoff b1 o1 none N c (by rw[e]) (by omega),h1,h2 i hi⟩)
  have HP:=Lib.hid h
  have hml:N≤maxLen:=by omega
  unfold maxLen at hml
  have HS:=Lib.hid (hasSect_any g (k:Int) w)
  rw[decide_eq_true (show (0:Int)≤k∧(k:Int) < 32 from ⟨by omega,by omega⟩)] at HS
  have ZN:=Lib.hid (pool_zone_at g p (k:Int) w h)
  rw[zoneP_in p hk,h0] at ZN
  have hz3:z≤3:=by omega
  have HKK:=Lib.hid hk
  clear hN hzz hoff h hc h0
  have hk0:(0:Int)≤(k:Int):=by omega
  have hk1:(k:Int) < 32:=by omega
  rcases hz with rfl | rfl
  all_goals
    go_enter Tryz.func32,Tryz.ntmps32
    go_wp2_with (first | (go_at_call 80;refine HS.out.mono ?_;rintro e w' ⟨rfl,rfl⟩) | (go_at_call 81;refine ZN.out.mono ?_;rintro e w' ⟨rfl,rfl⟩))
    go_loopg [10,29] N (fun gg _ s29 wx=>∃ i:Nat,i+gg=N∧s29=.int .i64 (i:Int)∧PoolAt wx g ⟨badU k p.u (bs.take i),p.z,p.i⟩∧Turns (fun k=>k=g) w wx)
    case atStart=>exact⟨0,by omega,rfl,HP.out,Turns.refl _ _⟩
    case round =>
      obtain⟨i,hig,rfl,hp5,ht5⟩:=hrel
      have HP5:=Lib.hid hp5
      have HT5:=Lib.hid ht5
      clear hp5 ht5
      by_cases hlt:i < N
      · have t4:decide ((i:Int) < (N:Int))=true:=decide_eq_true (by omega)
        have t5:(i:Int) < (N:Int):=by omega
        have t6:(0:Int)≤(i:Int):=by omega
        obtain⟨b1,o1,rfl,h1,hbl,hcc⟩:=HZ.out i hlt
        obtain⟨y,hy⟩:∃ y,y=bs.getD i 0:=⟨_,rfl⟩
        have hcell:wr.cell? ⟨b1,o1+i,none⟩=some (.int .i64 y):=(World.cell?_of_block (HT5.out.block b1 hbl h1)).trans (by rw[hy];exact hcc)
        have BT:=Lib.hid (badU_take (s:=k) (u:=p.u) (fs:=bs) (i:=i) (by rw[HN.out];exact hlt) hy)
        have WI:=Lib.hid (within_any y (k:Int) ⟨hk0,hk1⟩ wr)
        clear hcc hy h1 hbl
        by_cases hin:32 * (k:Int)≤y∧y < 32 * (k:Int)+32
        · rw[decide_eq_true hin] at WI
          rw[if_pos hin] at BT
          obtain⟨f,rfl⟩:=Int.eq_ofNat_of_zero_le (show 0≤y from by omega)
          have hf:f < 1024:=by omega
          rw[Int.toNat_natCast] at BT
          have SP:=Lib.hid (pool_spoil_at g _ (f:Int) wr HP5.out)
          rw[spoil_in HP5.out.ok hf] at SP
          clear hin
          go_wp2_with (go_at_call 82;refine WI.out.mono ?_;rintro e w' ⟨rfl,rfl⟩)
          refine SP.out.mono ?_
          rintro e w2 ⟨rfl,h1,h2⟩
          have H1:=Lib.hid h1
          have H2:=Lib.hid h2
          clear h1 h2
          go_wp2_with fail
          go_roundg (N - (i+1))
          case measure=>omega
          case rel=>exact⟨i+1,by omega,by go_num,by rw[BT.out];exact H1.out,HT5.out.trans H2.out⟩
        · rw[decide_eq_false hin] at WI
          rw[if_neg hin] at BT
          clear hin
          go_wp2_with (go_at_call 82;refine WI.out.mono ?_;rintro e w' ⟨rfl,rfl⟩)
          go_roundg (N - (i+1))
          case measure=>omega
          case rel=>exact⟨i+1,by omega,by go_num,by rw[BT.out];exact HP5.out,HT5.out⟩
      · obtain rfl:i=N:=by omega
        have t4:decide ((i:Int) < (i:Int))=false:=decide_eq_false (by omega)
        have HTK:=Lib.hid (show bs.take i=bs from by rw[← HN.out,List.take_length])
        have HP6:=Lib.hid (show PoolAt wr g ⟨badU k p.u bs,p.z,p.i⟩ from by have:=HP5.out;rwa [HTK.out] at this)
        have OF:=Lib.hid (of_any g _ (k:Int) 0 wr HP6.out)
        rw[ofP_in _ HKK.out] at OF
        go_wp2_with fail
        refine OF.out.mono ?_
        rintro e w2 ⟨x,rfl,hi2,ho2,hb2⟩
        have GV:=Lib.hid (give_any g _ 1 x _ w2 (HP6.out.below hb2 HP6.out.lt) (by omega) hi2 (fun b o sp n c e hn hk=>ho2 b o sp n c e hn (by rw[show b=g from hk];exact HP6.out.lt)) (fun f hf=>by have:=ofZ_span f hf;have:=HKK.out;omega))
        have HB2:=Lib.hid hb2
        obtain⟨A2,N2,c2,rfl,-⟩:=hi2
        clear ho2 hb2
        go_wp2_with fail
        refine GV.out.mono ?_
        rintro e w3 ⟨rfl,h1,h2⟩
        have H1:=Lib.hid h1
        have H2:=Lib.hid h2
        have hcz:=h1.cz HKK.out
        obtain⟨zo,hzo⟩:∃ zo:Nat,zo=p.z.getD k 0:=⟨_,rfl⟩
        have hcz:w3.cell? ⟨g,1024+k * 2,none⟩=some (.int .i64 (zo:Int)):=by rw[show 1024+k * 2=1024+2 * k by omega,hzo];exact hcz
        have hfz:w3.frozen? ⟨g,1024+k * 2,none⟩=false:=h1.fz _
        clear h1 h2 hzo
        go_wp2
        go_ret
        refine⟨rfl,?_,HT5.out.trans ((Turns.of_below HB2.out (Nat.le_refl _)).trans (H2.out.trans (Turns.of_only ((Only.refl g w3).setCell (1024+k * 2) _) rfl)))⟩
        rw[show 1024+k * 2=1024+2 * k by omega]
        exact H1.out.sz HKK.out hz3
theorem online_there (g:Nat) (p:PS) (k z:Nat) (A:Option Addr) (n c:Nat) (w:World) (h:PoolAt w g p) (hk:k < 32) (hz:z=2∨z=3) (h0:p.z.getD k 0≠0) :
    Calls Tryz.prog 32 #[.pointer (some ⟨g,0,none⟩),.int .i64 (k:Int),.int .i64 (z:Int),.slice A n c] w fun e w'=>e=.returned (.int .i64 3)∧w=w':=by
  have HS:=Lib.hid (hasSect_any g (k:Int) w)
  rw[decide_eq_true (show (0:Int)≤k∧(k:Int) < 32 from ⟨by omega,by omega⟩)] at HS
  have ZN:=Lib.hid (pool_zone_at g p (k:Int) w h)
  rw[zoneP_in p hk] at ZN
  obtain⟨y,hy⟩:∃ y:Nat,y=p.z.getD k 0:=⟨_,rfl⟩
  rw[← hy] at ZN h0
  have d1:((y:Int) != 0)=true:=by rw[bne_iff_ne];omega
  clear h hy h0
  rcases hz with rfl | rfl
  all_goals
    go_enter Tryz.func32,Tryz.ntmps32
    go_wp2_with (first | (go_at_call 80;refine HS.out.mono ?_;rintro e w' ⟨rfl,rfl⟩) | (go_at_call 81;refine ZN.out.mono ?_;rintro e w' ⟨rfl,rfl⟩))
    go_ret
    exact⟨rfl,rfl⟩
theorem pool_online_at (g:Nat) (p:PS) (s z:Int) (v:Value) (bs:List Int) (w:World) (h:PoolAt w g p) (hi:PInv p) (hv:Its w w.heap.size v bs) (hoff:Off (fun k=>k=g) v) :
    Calls Tryz.prog 32 #[.pointer (some ⟨g,0,none⟩),.int .i64 s,.int .i64 z,v] w fun e w'=>e=.returned (.int .i64 (((onP p s z bs).1:Nat):Int))∧PoolAt w' g (onP p s z bs).2∧Turns (fun k=>k=g) w w':=by
  by_cases hb:(s < 0∨31 < s)∨(z≠2∧z≠3)
  · rw[show onP p s z bs=(1,p) from if_pos hb]
    obtain⟨A,N,c,rfl,-⟩:=hv
    refine (online_bad g s z A N c w hb).mono ?_
    rintro e w' ⟨rfl,rfl⟩
    exact⟨rfl,h,Turns.refl _ _⟩
  · obtain⟨k,rfl⟩:=Int.eq_ofNat_of_zero_le (show 0≤s from by omega)
    obtain⟨y,rfl⟩:=Int.eq_ofNat_of_zero_le (show 0≤z from by omega)
    have hk:k < 32:=by omega
    have hy:y=2∨y=3:=by omega
    by_cases h0:p.z.getD k 0=0
    · rw[onP_new hk hy h0]
      obtain⟨e1,e2⟩:=on_give h.ok hi hk h0 bs
      rw[← e1,e2]
      exact online_new g p k y v bs w h hv hoff hk hy h0
    · rw[show onP p (k:Int) (y:Int) bs=(3,p) from by unfold onP;rw[if_neg hb,Int.toNat_natCast,if_pos h0]]
      obtain⟨A,N,c,rfl,-⟩:=hv
      refine (online_there g p k y A N c w h hk hy h0).mono ?_
      rintro e w' ⟨rfl,rfl⟩
      exact⟨rfl,h,Turns.refl _ _⟩
end Go.Proofs.YtaonpmclkafjdaaGreat

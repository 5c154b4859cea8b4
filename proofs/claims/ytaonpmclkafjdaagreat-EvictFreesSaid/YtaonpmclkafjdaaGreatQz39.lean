/-
  The contracts of area's small functions: inside, Sound, meets and what it answers, piece.
  The contract of area's piece: an area's pages from one up to another one.
  Conditions: those that each line bears.
-/
import Derived.Test.YtaonpmclkafjdaaGreatQz01
import Derived.Test.YtaonpmclkafjdaaGreatQz38
import Derived.Test.YtaonpmclkafjdaaGreatProg
set_option linter.unusedSimpArgs false
set_option linter.unusedSectionVars false
set_option linter.unusedVariables false
namespace Go.Proofs.YtaonpmclkafjdaaGreat
open Go Go.RowKit
set_option linter.unusedVariables false
abbrev WI (x:Int):Prop:=(Lit.int .i64 x).wf=true
set_option maxRecDepth 20000 in
set_option maxHeartbeats 1000000 in
theorem inside_any (f p m:Int)(w:World)(wf:WI f)(h0:0≤m)(hm:m≤4096):Calls Tryz.prog 175 #[.int .i64 f,.int .i64 p,.int .i64 m] w fun e w'=>e=.returned (.bool (decide (0≤f∧1≤p∧p≤m - f)))∧Below w.heap.size w w':=by
  have hf:=bounds_i64 wf
  by_cases h1:0≤f
  · have hw:wrap64 (m - f)=m - f:=IntWalk.wrap64_in _ (by omega)
    by_cases h2:1≤p
    · by_cases h3:p≤m - f
      · rw[show decide (0≤f∧1≤p∧p≤m - f)=true from decide_eq_true ⟨h1,h2,h3⟩]
        go_enter Tryz.func175,Tryz.ntmps175
        go_wp2
        go_ret
        exact⟨rfl,Below.refl _ _⟩
      · rw[show decide (0≤f∧1≤p∧p≤m - f)=false from decide_eq_false (by omega)]
        have t1:decide (p≤wrap64 (m - f))=false:=by rw[hw];exact decide_eq_false h3
        go_enter Tryz.func175,Tryz.ntmps175
        go_wp2
        go_ret
        exact⟨by simp only[t1];rfl,Below.refl _ _⟩
    · rw[show decide (0≤f∧1≤p∧p≤m - f)=false from decide_eq_false (by omega)]
      go_enter Tryz.func175,Tryz.ntmps175
      go_wp2
      go_ret
      exact⟨rfl,Below.refl _ _⟩
  · rw[show decide (0≤f∧1≤p∧p≤m - f)=false from decide_eq_false (by omega)]
    go_enter Tryz.func175,Tryz.ntmps175
    go_wp2
    go_ret
    exact⟨rfl,Below.refl _ _⟩
theorem box_at (a:Ar) (w w2:World) (t:TypeId) (hb:Below (w.alloc (.cells #[.int .i64 a.fr,.int .i64 a.pg,.bool a.w,.int .i64 a.kd,.int .i64 a.fl,.int .i64 a.ofs] t)).heap.size (w.alloc (.cells #[.int .i64 a.fr,.int .i64 a.pg,.bool a.w,.int .i64 a.kd,.int .i64 a.fl,.int .i64 a.ofs] t)) w2) :
    w2.cell? ⟨w.heap.size,0,none⟩=some (.int .i64 a.fr)∧w2.cell? ⟨w.heap.size,1,none⟩=some (.int .i64 a.pg)∧w2.cell? ⟨w.heap.size,2,none⟩=some (.bool a.w)∧w2.cell? ⟨w.heap.size,3,none⟩=some (.int .i64 a.kd)∧w2.cell? ⟨w.heap.size,4,none⟩=some (.int .i64 a.fl)∧w2.cell? ⟨w.heap.size,5,none⟩=some (.int .i64 a.ofs):=by
  have hlt:w.heap.size < (w.alloc (.cells #[.int .i64 a.fr,.int .i64 a.pg,.bool a.w,.int .i64 a.kd,.int .i64 a.fl,.int .i64 a.ofs] t)).heap.size:=by rw[World.size_alloc];exact Nat.lt_succ_self _
  have k:∀ j u,(arL a)[j]?=some u→w2.cell? ⟨w.heap.size,j,none⟩=some u:=fun j u h=>by
    rw[hb.cell (p:=⟨w.heap.size,j,none⟩) hlt]
    have:=cells_new w t (arL a) j u h
    rw[Addr.add_lit,Nat.zero_add] at this
    exact this
  exact⟨k 0 _ rfl,k 1 _ rfl,k 2 _ rfl,k 3 _ rfl,k 4 _ rfl,k 5 _ rfl⟩
abbrev WAr (a:Ar):Prop:=(Lit.int .i64 a.fr).wf=true∧(Lit.int .i64 a.pg).wf=true∧(Lit.int .i64 a.kd).wf=true∧(Lit.int .i64 a.fl).wf=true∧(Lit.int .i64 a.ofs).wf=true
set_option maxRecDepth 20000 in
set_option maxHeartbeats 2000000 in
theorem sound_any (a:Ar)(wa:WAr a)(w:World):Calls Tryz.prog 137 #[.agg #[.int .i64 a.fr,.int .i64 a.pg,.bool a.w,.int .i64 a.kd,.int .i64 a.fl,.int .i64 a.ofs]] w fun e w'=>e=.returned (.bool (decide (soundA a)))∧Below w.heap.size w w':=by
  obtain⟨fr,pg,w0,kd,fl,ofs⟩:=a
  obtain⟨v1,-,-,-,v5⟩:=wa
  replace v1:WI fr:=v1
  replace v5:WI ofs:=v5
  have HB:=Lib.hid (belAr (Below.refl w.heap.size w) (.cells #[.int .i64 fr,.int .i64 pg,.bool w0,.int .i64 kd,.int .i64 fl,.int .i64 ofs] 77))
  by_cases c0:kd < 1
  · have d0:decide (kd < 1)=true:=decide_eq_true c0
    rw[decide_eq_false (show ¬ soundA _ from fun h=>by unfold soundA at h;simp only at h;omega)]
    go_enter Tryz.func137,Tryz.ntmps137
    go_wp2
    go_ret
    exact⟨rfl,HB.out⟩
  · have d0:decide (kd < 1)=false:=decide_eq_false c0
    by_cases c1:3 < kd
    · have d1:decide (3 < kd)=true:=decide_eq_true c1
      rw[decide_eq_false (show ¬ soundA _ from fun h=>by unfold soundA at h;simp only at h;omega)]
      go_enter Tryz.func137,Tryz.ntmps137
      go_wp2
      go_ret
      exact⟨rfl,HB.out⟩
    · have d1:decide (3 < kd)=false:=decide_eq_false c1
      have CI:=Lib.hid (inside_any fr pg 4096 (w.alloc (.cells #[.int .i64 fr,.int .i64 pg,.bool w0,.int .i64 kd,.int .i64 fl,.int .i64 ofs] 77)) v1 (by omega) (by omega))
      by_cases c2:0≤fr∧1≤pg∧pg≤4096 - fr
      · rw[decide_eq_true c2] at CI
        by_cases c3:kd=1
        · have d3:decide (kd=1)=true:=decide_eq_true c3
          by_cases c4:fl=0
          · have d4:decide (fl=0)=true:=decide_eq_true c4
            rw[show decide (soundA ⟨fr,pg,w0,kd,fl,ofs⟩)=decide (ofs=0) from decide_eq_decide.2 (by unfold soundA;simp only;omega)]
            subst c3 c4
            clear c0 c1 c2
            go_enter Tryz.func137,Tryz.ntmps137
            go_wp2_with fail
            refine CI.out.mono ?_
            rintro e w2 ⟨rfl,hb2⟩
            obtain⟨k0,k1,k2,k3,k4,k5⟩:=box_at ⟨fr,pg,w0,1,0,ofs⟩ w w2 _ hb2
            have HB2:=Lib.hid hb2
            clear hb2
            go_wp2
            go_ret
            exact⟨rfl,HB.out.trans (HB2.out.mono HB.out.size)⟩
          · have d4:decide (fl=0)=false:=decide_eq_false c4
            rw[decide_eq_false (show ¬ soundA _ from fun h=>by unfold soundA at h;simp only at h;omega)]
            subst c3
            clear c0 c1 c2
            go_enter Tryz.func137,Tryz.ntmps137
            go_wp2_with fail
            refine CI.out.mono ?_
            rintro e w2 ⟨rfl,hb2⟩
            obtain⟨k0,k1,k2,k3,k4,k5⟩:=box_at ⟨fr,pg,w0,1,fl,ofs⟩ w w2 _ hb2
            have HB2:=Lib.hid hb2
            clear hb2
            go_wp2
            go_ret
            exact⟨rfl,HB.out.trans (HB2.out.mono HB.out.size)⟩
        · have d3:decide (kd=1)=false:=decide_eq_false c3
          by_cases c4:0≤fl
          · have d4:decide (0≤fl)=true:=decide_eq_true c4
            by_cases c5:fl < 4
            · have d5:decide (fl < 4)=true:=decide_eq_true c5
              rw[show decide (soundA ⟨fr,pg,w0,kd,fl,ofs⟩)=decide (0≤ofs∧1≤pg∧pg≤16 - ofs) from decide_eq_decide.2 (by unfold soundA;simp only;omega)]
              clear c0 c1 c2
              go_enter Tryz.func137,Tryz.ntmps137
              go_wp2_with fail
              refine CI.out.mono ?_
              rintro e w2 ⟨rfl,hb2⟩
              obtain⟨k0,k1,k2,k3,k4,k5⟩:=box_at ⟨fr,pg,w0,kd,fl,ofs⟩ w w2 _ hb2
              have HB2:=Lib.hid hb2
              clear hb2
              go_wp2_with fail
              refine (inside_any ofs pg 16 _ v5 (by omega) (by omega)).mono ?_
              rintro e w3 ⟨rfl,hb3⟩
              have HB3:=Lib.hid hb3
              clear hb3
              go_wp2
              go_ret
              have HB4:=HB.out.trans (HB2.out.mono HB.out.size)
              refine⟨?_,HB4.trans (HB3.out.mono HB4.size)⟩
              simp only[Bool.decide_and]
              rfl
            · have d5:decide (fl < 4)=false:=decide_eq_false c5
              rw[decide_eq_false (show ¬ soundA _ from fun h=>by unfold soundA at h;simp only at h;omega)]
              clear c0 c1 c2
              go_enter Tryz.func137,Tryz.ntmps137
              go_wp2_with fail
              refine CI.out.mono ?_
              rintro e w2 ⟨rfl,hb2⟩
              obtain⟨k0,k1,k2,k3,k4,k5⟩:=box_at ⟨fr,pg,w0,kd,fl,ofs⟩ w w2 _ hb2
              have HB2:=Lib.hid hb2
              clear hb2
              go_wp2
              go_ret
              exact⟨rfl,HB.out.trans (HB2.out.mono HB.out.size)⟩
          · have d4:decide (0≤fl)=false:=decide_eq_false c4
            rw[decide_eq_false (show ¬ soundA _ from fun h=>by unfold soundA at h;simp only at h;omega)]
            clear c0 c1 c2
            go_enter Tryz.func137,Tryz.ntmps137
            go_wp2_with fail
            refine CI.out.mono ?_
            rintro e w2 ⟨rfl,hb2⟩
            obtain⟨k0,k1,k2,k3,k4,k5⟩:=box_at ⟨fr,pg,w0,kd,fl,ofs⟩ w w2 _ hb2
            have HB2:=Lib.hid hb2
            clear hb2
            go_wp2
            go_ret
            exact⟨rfl,HB.out.trans (HB2.out.mono HB.out.size)⟩
      · rw[decide_eq_false c2] at CI
        rw[decide_eq_false (show ¬ soundA _ from fun h=>by unfold soundA at h;simp only at h;omega)]
        clear c0 c1 c2
        go_enter Tryz.func137,Tryz.ntmps137
        go_wp2_with fail
        refine CI.out.mono ?_
        rintro e w2 ⟨rfl,hb2⟩
        have HB2:=Lib.hid hb2
        clear hb2
        go_wp2
        go_ret
        exact⟨rfl,HB.out.trans (HB2.out.mono HB.out.size)⟩
def MeetsF (v:Value)(B:Nat)(f p:Int)(w:World):Prop:=∃ b1 b2,v=.func (.func 177) #[] #[.pointer (some ⟨b1,0,none⟩),.pointer (some ⟨b2,0,none⟩)]∧B≤b1∧b1 < w.heap.size∧b2 < w.heap.size∧w.cell? ⟨b1,0,none⟩=some (.int .i64 f)∧w.cell? ⟨b2,0,none⟩=some (.int .i64 p)
set_option maxRecDepth 20000 in
set_option maxHeartbeats 1000000 in
theorem meets_any (f p:Int)(w:World):Calls Tryz.prog 139 #[.int .i64 f,.int .i64 p] w fun e w'=>∃ v,e=.returned v∧MeetsF v w.heap.size f p w'∧Below w.heap.size w w':=by
  go_enter Tryz.func139,Tryz.ntmps139
  go_wp2
  go_ret
  refine⟨_,rfl,⟨_,_,rfl,Nat.le_refl _,by rw[World.size_alloc,World.size_alloc];omega,by rw[World.size_alloc,World.size_alloc];omega,?_,?_⟩,belAr (belAr (Below.refl _ w) _) _⟩
  · rw[World.cell?_alloc_past _ _ _ (by rw[World.size_alloc];omega),World.cell?_alloc_at _ _ _ _ rfl]
    rfl
  · rw[World.cell?_alloc_at _ _ _ _ (by rw[World.size_alloc])]
    rfl
set_option maxRecDepth 20000 in
set_option maxHeartbeats 1000000 in
theorem meetc_any (f p:Int) (a:Ar) (W:World) (b1 b2:Nat) (hf:0≤f∧f≤100000) (hp : -100000≤p∧p≤100000) (ha:0≤a.fr∧a.fr≤4096∧1≤a.pg∧a.pg≤4096) (l1:b1 < W.heap.size) (l2:b2 < W.heap.size) (c1:W.cell? ⟨b1,0,none⟩=some (.int .i64 f)) (c2:W.cell? ⟨b2,0,none⟩=some (.int .i64 p)) :
    Calls Tryz.prog 177 #[.agg #[.int .i64 a.fr,.int .i64 a.pg,.bool a.w,.int .i64 a.kd,.int .i64 a.fl,.int .i64 a.ofs],.pointer (some ⟨b1,0,none⟩),.pointer (some ⟨b2,0,none⟩)] W fun e w'=>e=.returned (.bool (meetA f p a))∧Below W.heap.size W w':=by
  obtain⟨fr,pg,w0,kd,fl,ofs⟩:=a
  simp only at ha ⊢
  have HB:=Lib.hid (belAr (Below.refl _ W) (.cells #[.int .i64 fr,.int .i64 pg,.bool w0,.int .i64 kd,.int .i64 fl,.int .i64 ofs] 77))
  by_cases d1:f≤fr
  · by_cases d2:fr+pg≤f+p
    · rw[show meetA f p ⟨fr,pg,w0,kd,fl,ofs⟩=decide (fr < fr+pg) by unfold meetA maxI minI;refine decide_eq_decide.2 ?_;simp only;split <;> split <;> omega]
      go_enter Tryz.func177,Tryz.ntmps177
      go_wp2
      go_ret
      exact⟨rfl,HB.out⟩
    · rw[show meetA f p ⟨fr,pg,w0,kd,fl,ofs⟩=decide (fr < f+p) by unfold meetA maxI minI;refine decide_eq_decide.2 ?_;simp only;split <;> split <;> omega]
      go_enter Tryz.func177,Tryz.ntmps177
      go_wp2
      go_ret
      exact⟨rfl,HB.out⟩
  · by_cases d2:fr+pg≤f+p
    · rw[show meetA f p ⟨fr,pg,w0,kd,fl,ofs⟩=decide (f < fr+pg) by unfold meetA maxI minI;refine decide_eq_decide.2 ?_;simp only;split <;> split <;> omega]
      go_enter Tryz.func177,Tryz.ntmps177
      go_wp2
      go_ret
      exact⟨rfl,HB.out⟩
    · rw[show meetA f p ⟨fr,pg,w0,kd,fl,ofs⟩=decide (f < f+p) by unfold meetA maxI minI;refine decide_eq_decide.2 ?_;simp only;split <;> split <;> omega]
      go_enter Tryz.func177,Tryz.ntmps177
      go_wp2
      go_ret
      exact⟨rfl,HB.out⟩
end Go.Proofs.YtaonpmclkafjdaaGreat
namespace Go.Proofs.YtaonpmclkafjdaaGreat
open Go Go.RowKit
set_option linter.unusedVariables false
def pcA (a:Ar)(f e:Int):Ar:=⟨f,e - f,a.w,a.kd,a.fl,if a.kd=1 then a.ofs else a.ofs+(f - a.fr)⟩
set_option maxRecDepth 20000 in
set_option maxHeartbeats 1000000 in
theorem piece_any (a:Ar) (f e:Int) (w:World) (hf:0≤f∧f≤100000) (he:0≤e∧e≤100000) (ha:0≤a.fr∧a.fr≤4096∧0≤a.ofs∧a.ofs≤100000) :
    Calls Tryz.prog 203 #[.agg #[.int .i64 a.fr,.int .i64 a.pg,.bool a.w,.int .i64 a.kd,.int .i64 a.fl,.int .i64 a.ofs],.int .i64 f,.int .i64 e] w fun r w'=>r=.returned (.agg #[.int .i64 (pcA a f e).fr,.int .i64 (pcA a f e).pg,.bool (pcA a f e).w,.int .i64 (pcA a f e).kd,.int .i64 (pcA a f e).fl,.int .i64 (pcA a f e).ofs])∧Below w.heap.size w w':=by
  obtain⟨fr,pg,w0,kd,fl,ofs⟩:=a
  simp only[pcA] at ha ⊢
  by_cases d1:kd=1
  · rw[if_pos d1]
    subst d1
    go_enter Tryz.func203,Tryz.ntmps203
    go_wp2
    refine bodyPost_ret (results_cell_row rfl _ _ (w.heap.size+1) 77 #[.int .i64 f,.int .i64 (e - f),.bool w0,.int .i64 1,.int .i64 fl,.int .i64 ofs] (0,0) _ rfl (Blk.new1 w _ _ _) Tryz.underlying77 rfl (by kernel_rfl)) rfl ?_
    exact⟨rfl,belAr (belAr (Below.refl _ w) _) _⟩
  · rw[if_neg d1]
    have t1:(kd != 1)=true:=by simp[d1]
    go_enter Tryz.func203,Tryz.ntmps203
    go_wp2
    refine bodyPost_ret (results_cell_row rfl _ _ (w.heap.size+1) 77 #[.int .i64 f,.int .i64 (e - f),.bool w0,.int .i64 kd,.int .i64 fl,.int .i64 (ofs+(f - fr))] (0,0) _ rfl (Blk.new1 w _ _ _) Tryz.underlying77 rfl (by kernel_rfl)) rfl ?_
    exact⟨rfl,belAr (belAr (Below.refl _ w) _) _⟩
end Go.Proofs.YtaonpmclkafjdaaGreat

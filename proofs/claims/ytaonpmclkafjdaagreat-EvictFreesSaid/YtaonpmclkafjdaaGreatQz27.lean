/-
  How places are held against each other: cmp.Or of two, the function that sorts them.
  How pages are held against each other: cmp.Or of two, the function that sorts them.
  How places are held against each other: cmp.Or of two, the function that sorts them.
  Conditions: those that each line bears.
-/
import Derived.Test.YtaonpmclkafjdaaGreatQz24
import Derived.Test.YtaonpmclkafjdaaGreatQz25
import Derived.Test.YtaonpmclkafjdaaGreatQz26
import Derived.StillTailTactics
import Derived.LoopN
set_option linter.unusedSimpArgs false
set_option linter.unusedSectionVars false
set_option linter.unusedVariables false
namespace Go.Proofs.YtaonpmclkafjdaaGreat
open Go.RowKit Go.Shelf Go.Lib Go.Sort
set_option linter.unusedVariables false
set_option maxRecDepth 20000 in
set_option maxHeartbeats 1000000 in
theorem closureP (p q:Pl)(W:World):Calls Tryz.prog 187 #[.agg #[.int .i64 p.c,.int .i64 p.g],.agg #[.int .i64 q.c,.int .i64 q.g]] W fun e w'=>e=.returned (.int .i64 (cmpP p q))∧∃ n os',w'=Sort.grow (W.drewN n) os':=by
  have hcon:∀ x y W',Calls Tryz.prog 112 #[.int .i64 x,.int .i64 y] W' fun e w'=>e=.returned (.int .i64 (Lib.compareInt x y))∧w'=W':=fun x y W'=>AnyG.cmp_Compare_int Tryz.cmpF112 x y W'
  unfold cmpP
  generalize h1:Lib.compareInt p.c q.c=r1
  generalize h2:Lib.compareInt p.g q.g=r2
  have c1:=fun W'=>hcon p.c q.c W'
  have c2:=fun W'=>hcon p.g q.g W'
  rw[h1] at c1
  rw[h2] at c2
  clear hcon h1 h2
  obtain⟨W2,hW2⟩:∃ W2,(W.alloc (.cells #[.int .i64 p.c,.int .i64 p.g] 60)).alloc (.cells #[.int .i64 q.c,.int .i64 q.g] 60)=W2:=⟨_,rfl⟩
  have hp:Blk W2 W.heap.size 60 #[.int .i64 p.c,.int .i64 p.g]:=by rw[← hW2];exact (Blk.new W _ _).al _
  have hq:Blk W2 (W.heap.size+1) 60 #[.int .i64 q.c,.int .i64 q.g]:=by rw[← hW2];exact Blk.new1 W _ _ _
  have k1:W2.cell? ⟨W.heap.size,0,none⟩=some (.int .i64 p.c):=hp.cell 0
  have k2:W2.cell? ⟨W.heap.size,1,none⟩=some (.int .i64 p.g):=hp.cell 1
  have k3:W2.cell? ⟨W.heap.size+1,0,none⟩=some (.int .i64 q.c):=hq.cell 0
  have k4:W2.cell? ⟨W.heap.size+1,1,none⟩=some (.int .i64 q.g):=hq.cell 1
  obtain⟨W3,hW3⟩:∃ W3,W2.drew.alloc (.cells #[.int .i64 r1,.int .i64 r2] 3)=W3:=⟨_,rfl⟩
  have hr:Blk W3 W2.heap.size 3 #[.int .i64 r1,.int .i64 r2]:=by rw[← hW3];exact Blk.new W2.drew _ _
  have HO:=Lib.hid (or_any W2.heap.size r1 r2 W3 (hr.cell 0) (hr.cell 1))
  have HP:=Lib.hid (show ∃ n os',W3=Sort.grow (W.drewN n) os' from by
    refine⟨1,#[.cells #[.int .i64 p.c,.int .i64 p.g] 60 (0,0)] ++ #[.cells #[.int .i64 q.c,.int .i64 q.g] 60 (0,0)] ++ #[.cells #[.int .i64 r1,.int .i64 r2] 3 (0,0)],?_⟩
    rw[← hW3,← hW2,← grow_grow,← grow_grow,← alloc_eq_grow,← alloc_eq_grow,← alloc_eq_grow]
    rfl)
  clear hp hq hr
  go_enter Tryz.func187,Tryz.ntmps187
  go_wp2_with fail
  go_still_tail 10,(by kernel_rfl)
  still_call (c1 _)
  repeat still_step
  still_call (c2 _)
  repeat still_step
  try refine wpStill_nil ?_
  change wpList _ _ _ _ _ W2.drew
  go_wp2_with fail
  refine HO.out.mono ?_
  rintro e w' ⟨rfl,rfl⟩
  go_wp2_with fail
  go_ret
  exact⟨rfl,HP.out⟩
theorem cmpLaysP (blk off size:Nat)(w:World):CmpLays Tryz.prog 187 #[] encL 2 cmpP blk off size w :=
  fun _ _ _ _ x y=>closureP x y _
end Go.Proofs.YtaonpmclkafjdaaGreat
namespace Go.Proofs.YtaonpmclkafjdaaGreat
open Go.RowKit Go.Shelf Go.Lib Go.Sort
set_option linter.unusedVariables false
end Go.Proofs.YtaonpmclkafjdaaGreat
namespace Go.Proofs.YtaonpmclkafjdaaGreat
open Go.RowKit Go.Shelf Go.Lib Go.Sort
set_option linter.unusedVariables false
set_option maxRecDepth 20000 in
set_option maxHeartbeats 1000000 in
theorem closurePW (p q:Pl)(W:World):Calls Tryz.prog 164 #[.agg #[.int .i64 p.c,.int .i64 p.g],.agg #[.int .i64 q.c,.int .i64 q.g]] W fun e w'=>e=.returned (.int .i64 (cmpP p q))∧∃ n os',w'=Sort.grow (W.drewN n) os':=by
  have hcon:∀ x y W',Calls Tryz.prog 112 #[.int .i64 x,.int .i64 y] W' fun e w'=>e=.returned (.int .i64 (Lib.compareInt x y))∧w'=W':=fun x y W'=>AnyG.cmp_Compare_int Tryz.cmpF112 x y W'
  unfold cmpP
  generalize h1:Lib.compareInt p.c q.c=r1
  generalize h2:Lib.compareInt p.g q.g=r2
  have c1:=fun W'=>hcon p.c q.c W'
  have c2:=fun W'=>hcon p.g q.g W'
  rw[h1] at c1
  rw[h2] at c2
  clear hcon h1 h2
  obtain⟨W2,hW2⟩:∃ W2,(W.alloc (.cells #[.int .i64 p.c,.int .i64 p.g] 60)).alloc (.cells #[.int .i64 q.c,.int .i64 q.g] 60)=W2:=⟨_,rfl⟩
  have hp:Blk W2 W.heap.size 60 #[.int .i64 p.c,.int .i64 p.g]:=by rw[← hW2];exact (Blk.new W _ _).al _
  have hq:Blk W2 (W.heap.size+1) 60 #[.int .i64 q.c,.int .i64 q.g]:=by rw[← hW2];exact Blk.new1 W _ _ _
  have k1:W2.cell? ⟨W.heap.size,0,none⟩=some (.int .i64 p.c):=hp.cell 0
  have k2:W2.cell? ⟨W.heap.size,1,none⟩=some (.int .i64 p.g):=hp.cell 1
  have k3:W2.cell? ⟨W.heap.size+1,0,none⟩=some (.int .i64 q.c):=hq.cell 0
  have k4:W2.cell? ⟨W.heap.size+1,1,none⟩=some (.int .i64 q.g):=hq.cell 1
  obtain⟨W3,hW3⟩:∃ W3,W2.drew.alloc (.cells #[.int .i64 r1,.int .i64 r2] 3)=W3:=⟨_,rfl⟩
  have hr:Blk W3 W2.heap.size 3 #[.int .i64 r1,.int .i64 r2]:=by rw[← hW3];exact Blk.new W2.drew _ _
  have HO:=Lib.hid (or_any W2.heap.size r1 r2 W3 (hr.cell 0) (hr.cell 1))
  have HP:=Lib.hid (show ∃ n os',W3=Sort.grow (W.drewN n) os' from by
    refine⟨1,#[.cells #[.int .i64 p.c,.int .i64 p.g] 60 (0,0)] ++ #[.cells #[.int .i64 q.c,.int .i64 q.g] 60 (0,0)] ++ #[.cells #[.int .i64 r1,.int .i64 r2] 3 (0,0)],?_⟩
    rw[← hW3,← hW2,← grow_grow,← grow_grow,← alloc_eq_grow,← alloc_eq_grow,← alloc_eq_grow]
    rfl)
  clear hp hq hr
  go_enter Tryz.func164,Tryz.ntmps164
  go_wp2_with fail
  go_still_tail 10,(by kernel_rfl)
  still_call (c1 _)
  repeat still_step
  still_call (c2 _)
  repeat still_step
  try refine wpStill_nil ?_
  change wpList _ _ _ _ _ W2.drew
  go_wp2_with fail
  refine HO.out.mono ?_
  rintro e w' ⟨rfl,rfl⟩
  go_wp2_with fail
  go_ret
  exact⟨rfl,HP.out⟩
theorem cmpLaysPW (blk off size:Nat)(w:World):CmpLays Tryz.prog 164 #[] encL 2 cmpP blk off size w :=
  fun _ _ _ _ x y=>closurePW x y _
end Go.Proofs.YtaonpmclkafjdaaGreat

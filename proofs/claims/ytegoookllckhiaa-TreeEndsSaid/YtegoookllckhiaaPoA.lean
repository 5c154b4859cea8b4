/-
  The contracts of a pool's small calls: which sections and frames there are, the frames of a section that have a use, giving a use to many.
  Conditions: those that each line bears.
-/
import Derived.Test.YtegoookllckhiaaPoM
import Derived.Test.YtegoookllckhiaaRunI
import Derived.Test.YtegoookllckhiaaSectC
namespace Go.Proofs.Ytegoookllckhiaa
open Go.RowKit
set_option linter.unusedVariables false

set_option maxRecDepth 20000
set_option maxHeartbeats 800000
theorem hasSect_any (g : Nat) (s : Int) (w : World) :
    Calls Try.prog 43 #[.pointer (some ⟨g, 0, none⟩), .int .i64 s] w fun e w' => e = .returned (.bool (decide (0 ≤ s ∧ s < 32))) ∧ w = w' := by
  by_cases h1 : 0 ≤ s
  · have d1 : decide (0 ≤ s) = true := decide_eq_true h1
    by_cases h2 : s < 32
    · have d2 : decide (s < 32) = true := decide_eq_true h2
      rw [decide_eq_true (show 0 ≤ s ∧ s < 32 from ⟨h1, h2⟩)]
      go_enter Try.func43, Try.ntmps43
      go_wp2
      go_ret
      exact ⟨rfl, rfl⟩
    · have d2 : decide (s < 32) = false := decide_eq_false h2
      rw [decide_eq_false (show ¬ (0 ≤ s ∧ s < 32) from fun h => h2 h.2)]
      go_enter Try.func43, Try.ntmps43
      go_wp2
      go_ret
      exact ⟨rfl, rfl⟩
  · have d1 : decide (0 ≤ s) = false := decide_eq_false h1
    rw [decide_eq_false (show ¬ (0 ≤ s ∧ s < 32) from fun h => h1 h.1)]
    go_enter Try.func43, Try.ntmps43
    go_wp2
    go_ret
    exact ⟨rfl, rfl⟩
theorem hasSect_nil (s : Int) (w : World) :
    Calls Try.prog 43 #[.pointer none, .int .i64 s] w fun e w' => e = .returned (.bool false) ∧ w = w' := by
  go_enter Try.func43, Try.ntmps43
  go_wp2
  go_ret
  exact ⟨rfl, rfl⟩
theorem hasFrame_any (g : Nat) (s : Int) (w : World) :
    Calls Try.prog 37 #[.pointer (some ⟨g, 0, none⟩), .int .i64 s] w fun e w' => e = .returned (.bool (decide (0 ≤ s ∧ s < 1024))) ∧ w = w' := by
  by_cases h1 : 0 ≤ s
  · have d1 : decide (0 ≤ s) = true := decide_eq_true h1
    by_cases h2 : s < 1024
    · have d2 : decide (s < 1024) = true := decide_eq_true h2
      rw [decide_eq_true (show 0 ≤ s ∧ s < 1024 from ⟨h1, h2⟩)]
      go_enter Try.func37, Try.ntmps37
      go_wp2
      go_ret
      exact ⟨rfl, rfl⟩
    · have d2 : decide (s < 1024) = false := decide_eq_false h2
      rw [decide_eq_false (show ¬ (0 ≤ s ∧ s < 1024) from fun h => h2 h.2)]
      go_enter Try.func37, Try.ntmps37
      go_wp2
      go_ret
      exact ⟨rfl, rfl⟩
  · have d1 : decide (0 ≤ s) = false := decide_eq_false h1
    rw [decide_eq_false (show ¬ (0 ≤ s ∧ s < 1024) from fun h => h1 h.1)]
    go_enter Try.func37, Try.ntmps37
    go_wp2
    go_ret
    exact ⟨rfl, rfl⟩
theorem hasFrame_nil (s : Int) (w : World) :
    Calls Try.prog 37 #[.pointer none, .int .i64 s] w fun e w' => e = .returned (.bool false) ∧ w = w' := by
  go_enter Try.func37, Try.ntmps37
  go_wp2
  go_ret
  exact ⟨rfl, rfl⟩
theorem mayGive_any (x : Int) (w : World) :
    Calls Try.prog 64 #[.int .i64 x] w fun e w' => e = .returned (.bool (decide (2 ≤ x ∧ x ≤ 5))) ∧ w = w' := by
  by_cases h1 : 2 ≤ x
  · have d1 : decide (2 ≤ x) = true := decide_eq_true h1
    by_cases h2 : x ≤ 5
    · have d2 : decide (x ≤ 5) = true := decide_eq_true h2
      rw [decide_eq_true (show 2 ≤ x ∧ x ≤ 5 from ⟨h1, h2⟩)]
      go_enter Try.func64, Try.ntmps64
      go_wp2
      go_ret
      exact ⟨rfl, rfl⟩
    · have d2 : decide (x ≤ 5) = false := decide_eq_false h2
      rw [decide_eq_false (show ¬ (2 ≤ x ∧ x ≤ 5) from fun h => h2 h.2)]
      go_enter Try.func64, Try.ntmps64
      go_wp2
      go_ret
      exact ⟨rfl, rfl⟩
  · have d1 : decide (2 ≤ x) = false := decide_eq_false h1
    rw [decide_eq_false (show ¬ (2 ≤ x ∧ x ≤ 5) from fun h => h1 h.1)]
    go_enter Try.func64, Try.ntmps64
    go_wp2
    go_ret
    exact ⟨rfl, rfl⟩
theorem within_any (f s : Int) (hs : 0 ≤ s ∧ s < 32) (w : World) :
    Calls Try.prog 45 #[.int .i64 f, .int .i64 s] w fun e w' => e = .returned (.bool (decide (32 * s ≤ f ∧ f < 32 * s + 32))) ∧ w = w' := by
  have OF := Lib.hid (sectOf_any f w)
  unfold ofV at OF
  by_cases h1 : 0 ≤ f ∧ f < 1024
  · rw [if_pos h1] at OF
    obtain ⟨q, hq⟩ : ∃ q, q = f / 32 := ⟨_, rfl⟩
    rw [← hq] at OF
    by_cases h2 : q = s
    · have d2 : (q == s) = true := by simp [h2]
      have r : decide (32 * s ≤ f ∧ f < 32 * s + 32) = true := decide_eq_true (by omega)
      rw [r]
      clear hq h1 hs r
      go_enter Try.func45, Try.ntmps45
      go_wp2_with (go_at_call 62; refine OF.out.mono ?_; rintro e w' ⟨rfl, rfl⟩)
      go_ret
      exact ⟨rfl, rfl⟩
    · have d2 : (q == s) = false := by simp [h2]
      have r : decide (32 * s ≤ f ∧ f < 32 * s + 32) = false := decide_eq_false (by omega)
      rw [r]
      clear hq h1 hs r
      go_enter Try.func45, Try.ntmps45
      go_wp2_with (go_at_call 62; refine OF.out.mono ?_; rintro e w' ⟨rfl, rfl⟩)
      go_ret
      exact ⟨rfl, rfl⟩
  · rw [if_neg h1] at OF
    have r : decide (32 * s ≤ f ∧ f < 32 * s + 32) = false := decide_eq_false (by omega)
    rw [r]
    clear h1 hs r
    go_enter Try.func45, Try.ntmps45
    go_wp2_with (go_at_call 62; refine OF.out.mono ?_; rintro e w' ⟨rfl, rfl⟩)
    go_ret
    exact ⟨rfl, rfl⟩

/-! ### giving a use to many -/
theorem give_any (g : Nat) (p : PS) (x : Nat) (v : Value) (fs : List Int) (w : World) (h : PoolAt w g p) (hx : x ≤ 6) (hv : Its w w.heap.size v fs) (hoff : Off (fun k => k = g) v) (hfs : ∀ f ∈ fs, 0 ≤ f ∧ f < 1024) :
    Calls Try.prog 40 #[.pointer (some ⟨g, 0, none⟩), .int .i64 (x : Int), v] w fun e w' => e = .returned (.tuple #[]) ∧ PoolAt w' g ⟨giveU p.u x fs, p.z, p.i⟩ ∧ Turns (fun k => k = g) w w' := by
  obtain ⟨A, N, c, rfl, hN, _, hc, hz⟩ := hv
  have HN := Lib.hid hN
  have HZ := Lib.hid (show ∀ i, i < N → ∃ b1 o1, A = some ⟨b1, o1, none⟩ ∧ b1 ≠ g ∧ b1 < w.heap.size ∧ w.cell? ⟨b1, o1 + i, none⟩ = some (.int .i64 (fs.getD i 0)) from fun i hi => by
    obtain ⟨b1, o1, e, h1, h2⟩ := hz (by omega)
    exact ⟨b1, o1, e, hoff b1 o1 none N c (by rw [e]) (by omega), h1, h2 i hi⟩)
  have HF := Lib.hid (show ∀ i, i < N → 0 ≤ fs.getD i 0 ∧ fs.getD i 0 < 1024 from fun i hi => by
    refine hfs _ ?_
    rw [List.getD_eq_getElem?_getD, List.getElem?_eq_getElem (by omega)]
    exact List.getElem_mem _)
  have HP := Lib.hid h
  have HX := Lib.hid hx
  have hml : N ≤ maxLen := by omega
  unfold maxLen at hml
  clear hN hz hoff h hc hfs hx
  go_enter Try.func40, Try.ntmps40
  go_wp2_with fail
  go_loopg [7, 10] N (fun gg _ s10 wx => ∃ i : Nat, i + gg = N ∧ s10 = .int .i64 (i : Int) ∧ PoolAt wx g ⟨giveU p.u x (fs.take i), p.z, p.i⟩ ∧ Turns (fun k => k = g) w wx)
  case atStart => exact ⟨0, by omega, rfl, HP.out, Turns.refl _ _⟩
  case round =>
    obtain ⟨i, hig, rfl, hp5, ht5⟩ := hrel
    have HP5 := Lib.hid hp5
    have HT5 := Lib.hid ht5
    clear hp5 ht5
    by_cases hlt : i < N
    · have t4 : decide ((i : Int) < (N : Int)) = true := decide_eq_true (by omega)
      have t5 : (i : Int) < (N : Int) := by omega
      have t6 : (0 : Int) ≤ (i : Int) := by omega
      obtain ⟨b1, o1, rfl, h1, hbl, hcc⟩ := HZ.out i hlt
      obtain ⟨hy1, hy2⟩ := HF.out i hlt
      obtain ⟨y, hy⟩ : ∃ y, y = fs.getD i 0 := ⟨_, rfl⟩
      rw [← hy] at hy1 hy2
      have hcell : wr.cell? ⟨b1, o1 + i, none⟩ = some (.int .i64 y) := (World.cell?_of_block (HT5.out.block b1 hbl h1)).trans (by rw [hy]; exact hcc)
      have GT := Lib.hid (giveU_take (u := p.u) (x := x) (fs := fs) (i := i) (by rw [HN.out]; exact hlt) hy)
      clear hcc hy h1 hbl
      obtain ⟨z, rfl⟩ := Int.eq_ofNat_of_zero_le hy1
      have hz2 : z < 1024 := by omega
      have hfz : wr.frozen? ⟨g, z, none⟩ = false := HP5.out.fz z
      have hcz := HP5.out.cu hz2
      obtain ⟨old, ho⟩ : ∃ old : Nat, old = (giveU p.u x (fs.take i)).getD z 0 := ⟨_, rfl⟩
      have hcz : wr.cell? ⟨g, z, none⟩ = some (.int .i64 (old : Int)) := by rw [ho]; exact hcz
      clear ho
      go_wp2_with fail
      go_roundg (N - (i + 1))
      case measure => omega
      case rel =>
        have ho := (Only.refl g wr).setCell z (.int .i64 (x : Int))
        refine ⟨i + 1, by omega, by go_num, ?_, HT5.out.trans (Turns.of_only ho rfl)⟩
        rw [GT.out, Int.toNat_natCast]
        exact HP5.out.su hz2 HX.out
    · obtain rfl : i = N := by omega
      have t4 : decide ((i : Int) < (i : Int)) = false := decide_eq_false (by omega)
      go_wp2
      (try simp only [Exit.inBlock, Exit.then])
      refine bodyPost_end (results_none rfl _ _ _) rfl ?_
      refine ⟨rfl, ?_, HT5.out⟩
      have h := HP5.out
      rwa [← HN.out, List.take_length] at h

/-! ### the frames of a section that have a use -/
set_option maxHeartbeats 1600000 in
theorem of_own (g : Nat) (p : PS) (s : Nat) (v : Int) (w : World) (h : PoolAt w g p) (hs : s < 32) :
    Calls Try.prog 46 #[.pointer (some ⟨g, 0, none⟩), .int .i64 (s : Int), .int .i64 v] w fun e w' => ∃ x, e = .returned x ∧ w'.ownsRow w.heap.size 3 1 x (ofZ p.u v (32 * s) 32).length ((ofZ p.u v (32 * s) 32).map (fun z => Value.int .i64 z)) ∧ Below w.heap.size w w' := by
  have HP := Lib.hid h
  obtain ⟨iI, hiI, hiz0, hiz1, hiz2⟩ := info_parts Try.infoInt8
  have HII := Lib.hid hiI
  have HI0 := Lib.hid hiz0
  have HI1 := Lib.hid hiz1
  have HI2 := Lib.hid hiz2
  have HS := Lib.hid (hasSect_any g (s : Int) w)
  rw [decide_eq_true (show (0 : Int) ≤ s ∧ (s : Int) < 32 from ⟨by omega, by omega⟩)] at HS
  have FR := Lib.hid (sectFrames_any (s : Int) w)
  unfold frV at FR
  rw [if_pos (show (0 : Int) ≤ s ∧ (s : Int) < 32 from ⟨by omega, by omega⟩)] at FR
  obtain ⟨a, ha⟩ : ∃ a : Nat, a = 32 * s := ⟨_, rfl⟩
  rw [show (s : Int) * 32 = (a : Int) by omega] at FR
  rw [← ha]
  have ha2 : a + 32 ≤ 1024 := by omega
  clear h hiI hiz0 hiz1 hiz2 ha
  obtain ⟨b, hb⟩ : ∃ b : Nat, (b : Int) = (a : Int) + 32 := ⟨a + 32, by omega⟩
  rw [← hb] at FR
  have HB := Lib.hid hb
  clear hb
  go_enter Try.func46, Try.ntmps46
  go_wp2_with (go_at_call 43; refine HS.out.mono ?_; rintro e w' ⟨rfl, rfl⟩)
  go_wp2_with (go_at_call 63; refine FR.out.mono ?_; rintro e w' ⟨rfl, rfl⟩)
  go_loopg [7, 10] 32 (fun gg x s10 wx => ∃ k : Nat, k + gg = 32 ∧ s10 = .int .i64 ((a + k : Nat) : Int) ∧ wx.ownsRow w.heap.size 3 1 x (ofZ p.u v a k).length ((ofZ p.u v a k).map (fun z => Value.int .i64 z)) ∧ Below w.heap.size w wx)
  case atStart => exact ⟨0, by omega, rfl, World.ownsRow_nil _ _ _ _, Below.refl _ _⟩
  case round =>
    obtain ⟨k, hkg, hs10, hrow, hb9⟩ := hrel
    obtain ⟨f, hf⟩ : ∃ f, f = a + k := ⟨_, rfl⟩
    rw [← hf] at hs10
    subst hs10
    have HROW := Lib.hid hrow
    have HX9 := Lib.hid hb9
    have HP9 := Lib.hid (HP.out.below hb9 HP.out.lt)
    have HFK := Lib.hid hf
    clear hrow hb9
    by_cases hlt : k < 32
    · have t1 : (f : Int) < (b : Int) := by have := HB.out; omega
      have t2 : (0 : Int) ≤ (f : Int) := by omega
      have t3 : decide ((f : Int) < (b : Int)) = true := decide_eq_true t1
      have hf2 : f < 1024 := by omega
      have t4 : (f : Int) < 1024 := by omega
      have hck := HP9.out.cu hf2
      have BS := Lib.hid (ofZ_succ p.u v a k)
      rw [← hf] at BS
      have BL := Lib.hid (ofZ_le p.u v a k)
      obtain ⟨x, hx⟩ : ∃ x : Nat, x = p.u.getD f 0 := ⟨_, rfl⟩
      rw [← hx] at hck BS
      clear hx hf
      by_cases hxv : (x : Int) = v
      · have d1 : ((x : Int) == v) = true := by simp [hxv]
        rw [if_pos hxv] at BS
        clear hxv
        have HONE := Lib.hid (show ∀ u ∈ [Value.int .i64 (f : Int)], u.oneCell' = true from fun u hu => by rw [List.mem_singleton.1 hu]; rfl)
        have HQ1 := Lib.hid (show (ofZ p.u v a k).length + 1 ≤ maxLen from by have := BL.out; unfold maxLen; omega)
        have HQ2 := Lib.hid (show ((ofZ p.u v a k).length + 1) * 8 ≤ 140737488355328 from by have := BL.out; omega)
        have HQ3 := Lib.hid (show w.heap.size ≤ (wr.alloc (.cells #[Value.int .i64 (f : Int)] 3)).heap.size from by have := HX9.out.size; simp; omega)
        go_wp2_with (refine wpList_append_own _ rfl _ _ 23 rfl w.heap.size 3 iI (.int .i64 0) 1 8 Try.underlying23 HII.out HI0.out HI1.out HI2.out rfl (by decide) _ _ _ rfl (HROW.out.alloc _) ⟨wr.heap.size, 0, none⟩ 1 1 [Value.int .i64 (f : Int)] rfl rfl (cell_one_new _ _ _) HONE.out HQ1.out HQ2.out HQ3.out ?_; intro v' w4 hown4 hg4 hnil4; have HOWN4 := Lib.hid hown4; have HG4 := Lib.hid hg4; clear hown4 hg4 hnil4)
        have HB4' := Lib.hid ((HX9.out.alloc HX9.out.size (.cells #[Value.int .i64 (f : Int)] 3)).grown HG4.out HQ3.out (fun j hj => (HROW.out.lt j hj).1))
        go_roundg (31 - k)
        case rel =>
          refine ⟨k + 1, by omega, by rw [show ((a + (k + 1) : Nat) : Int) = (f : Int) + 1 from by have := HFK.out; omega], ?_, HB4'.out⟩
          have h9 := HOWN4.out
          rw [show ofZ p.u v a (k + 1) = ofZ p.u v a k ++ [(f : Int)] from BS.out, List.length_append, List.map_append]
          exact h9
        case measure => omega
      · have d1 : ((x : Int) == v) = false := by simp [hxv]
        rw [if_neg hxv] at BS
        clear hxv
        go_wp2_with fail
        go_roundg (31 - k)
        case rel =>
          refine ⟨k + 1, by omega, by rw [show ((a + (k + 1) : Nat) : Int) = (f : Int) + 1 from by have := HFK.out; omega], ?_, HX9.out⟩
          rw [show ofZ p.u v a (k + 1) = ofZ p.u v a k from by simpa using BS.out]
          exact HROW.out
        case measure => omega
    · obtain rfl : k = 32 := by omega
      have t3 : decide ((f : Int) < (b : Int)) = false := decide_eq_false (by have := HB.out; omega)
      have t4 : ¬ f < b := by have := HB.out; omega
      clear hf
      go_wp2
      go_ret
      exact ⟨_, rfl, HROW.out, HX9.out⟩
theorem of_out (g : Nat) (s v : Int) (w : World) (hs : ¬ (0 ≤ s ∧ s < 32)) :
    Calls Try.prog 46 #[.pointer (some ⟨g, 0, none⟩), .int .i64 s, .int .i64 v] w fun e w' => e = .returned (.slice none 0 0) ∧ w = w' := by
  have HS := Lib.hid (hasSect_any g s w)
  rw [decide_eq_false hs] at HS
  clear hs
  go_enter Try.func46, Try.ntmps46
  go_wp2_with (go_at_call 43; refine HS.out.mono ?_; rintro e w' ⟨rfl, rfl⟩)
  go_ret
  exact ⟨rfl, rfl⟩
theorem of_nil (s v : Int) (w : World) :
    Calls Try.prog 46 #[.pointer none, .int .i64 s, .int .i64 v] w fun e w' => e = .returned (.slice none 0 0) ∧ w = w' := by
  have HS := Lib.hid (hasSect_nil s w)
  go_enter Try.func46, Try.ntmps46
  go_wp2_with (go_at_call 43; refine HS.out.mono ?_; rintro e w' ⟨rfl, rfl⟩)
  go_ret
  exact ⟨rfl, rfl⟩
/-- Memory of the call's own. -/
theorem of_any (g : Nat) (p : PS) (s v : Int) (w : World) (h : PoolAt w g p) :
    Calls Try.prog 46 #[.pointer (some ⟨g, 0, none⟩), .int .i64 s, .int .i64 v] w fun e w' => ∃ x, e = .returned x ∧ Its w' w'.heap.size x (ofP p s v) ∧ Off (fun k => k < w.heap.size) x ∧ Below w.heap.size w w' := by
  by_cases hs : 0 ≤ s ∧ s < 32
  · obtain ⟨k, rfl⟩ := Int.eq_ofNat_of_zero_le hs.1
    refine (of_own g p k v w h (by omega)).mono ?_
    rintro e w' ⟨x, rfl, h1, h2⟩
    rw [ofP_in p (by omega)]
    refine ⟨x, rfl, Its.of_own h1, fun b o sp n c e hn hk => ?_, h2⟩
    rcases h1.2 with ⟨q1, _⟩ | ⟨gg, cap, cur, q1, q2, _⟩
    · rw [e] at q1; injection q1 with q1; cases q1
    · rw [e] at q1
      injection q1 with q1
      injection q1 with q1
      injection q1 with q1
      omega
  · refine (of_out g s v w hs).mono ?_
    rintro e w' ⟨rfl, rfl⟩
    rw [show ofP p s v = [] from if_neg hs]
    exact ⟨_, rfl, Its.nil_ _ _, fun b o sp n c e hn => (by injection e with e; cases e), Below.refl _ _⟩
end Go.Proofs.Ytegoookllckhiaa

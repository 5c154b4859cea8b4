/-
  CacheNone answers true.
  Conditions: the numbers are an int's.
-/
import Derived.Test.YtcfjkppgfjlbbaaCacA
namespace Go.Proofs.Ytcfjkppgfjlbbaa
open Go.RowKit
set_option linter.unusedVariables false

theorem keysC_none {file : Int} {l : List Pl} (h : KeysC [] file l) : l = [] := by
  match l, h with
  | [], _ => rfl
  | x :: l, h => obtain ⟨⟨e, he, _⟩, _⟩ := (h.2 x).1 List.mem_cons_self; cases he
set_option maxRecDepth 20000
set_option maxHeartbeats 1600000
theorem cacheNone_any (k : Pl) (f : Int) (w : World) (wk : WPlc k) (wf : W64c f) :
    Calls Try.prog 4 #[.agg #[.int .i64 k.c, .int .i64 k.g], .int .i64 f] w fun e w' => e = .returned (.bool true) ∧ Below w.heap.size w w' := by
  obtain ⟨k1c, k1g⟩ := k
  have WK := Lib.hid wk
  have WF := Lib.hid wf
  have WM := Lib.hid (show W64c (-1) from by decide)
  clear wk wf
  obtain ⟨gK, hgK⟩ : ∃ gK, gK = w.heap.size := ⟨_, rfl⟩
  go_enter Try.func4, Try.ntmps4
  go_wp2_with fail
  refine (ca_new w _ (belAl (Below.refl _ _) _) (fun j => j = w.heap.size) (by rintro j rfl; simp)).mono ?_
  rintro e w1 ⟨gD, rfl, h1, hb1⟩
  have S1 := Lib.hid (show CaS w gD [] [(w.heap.size, ⟨k1c, k1g⟩)] w1 from by
    refine ⟨h1.widen (Below.refl _ _) ?_, fun x hx => ?_⟩
    · rintro j ⟨x, hx, rfl⟩
      rcases List.mem_singleton.1 hx with rfl
      exact .inl rfl
    · have hK := (Blk.new w 30 #[Value.int .i64 k1c, Value.int .i64 k1g]).below hb1 (by simp)
      rcases List.mem_singleton.1 hx with rfl
      exact ⟨hK.lt, hK.cell 0, hK.cell 1⟩)
  clear h1 hb1
  rw [← hgK] at S1
  have HGK := Lib.hid hgK
  have M1 := Lib.hid (show (gK, (⟨k1c, k1g⟩ : Pl)) ∈ [(gK, (⟨k1c, k1g⟩ : Pl))] from List.mem_cons_self)
  clear hgK
  have P2 := Lib.hid (cache_frame_nil w1 k1c k1g WK.out)
  have k0 := (S1.out.at_ _ M1.out).2.1
  have k1 := (S1.out.at_ _ M1.out).2.2
  rw [HGK.out] at k0 k1
  go_wp2_with fail
  refine P2.out.mono ?_
  rintro e w2 ⟨rfl, hb⟩
  have S2 := Lib.hid (S1.out.fresh hb)
  clear hb k0 k1
  have P3 := Lib.hid (cache_of_nil w2 f WF.out)
  go_wp2_with fail
  refine P3.out.mono ?_
  rintro e w3 ⟨rfl, hb⟩
  have S3 := Lib.hid (S2.out.fresh hb)
  clear hb
  have S4 := Lib.hid (S3.out.more ⟨0, 0⟩ 30)
  have M4 := Lib.hid (show (gK, (⟨k1c, k1g⟩ : Pl)) ∈ _ :: _ from List.mem_cons_of_mem (w3.heap.size, (⟨0, 0⟩ : Pl)) M1.out)
  have P5 := Lib.hid (S4.out.frame ⟨k1c, k1g⟩ WK.out)
  rw [show frameC [] (⟨k1c, k1g⟩ : Pl) = none from rfl, show frV15 none = .tuple #[.int .i64 0, .bool false] from rfl] at P5
  have k0 := (S4.out.at_ _ M4.out).2.1
  have k1 := (S4.out.at_ _ M4.out).2.2
  rw [HGK.out] at k0 k1
  go_wp2_with fail
  refine P5.out.mono ?_
  rintro e w5 ⟨rfl, s5⟩
  have S5 := Lib.hid s5
  clear s5 k0 k1
  have P6 := Lib.hid (S5.out.of f WF.out)
  rw [show pageC [] f = none from rfl, show pgV15 none = .tuple #[.agg #[.int .i64 0, .int .i64 0], .bool false] from rfl] at P6
  go_wp2_with fail
  refine P6.out.mono ?_
  rintro e w6 ⟨rfl, s6⟩
  have S6 := Lib.hid s6
  clear s6
  have S7 := Lib.hid (S6.out.more ⟨0, 0⟩ 30)
  have M7 := Lib.hid (show (gK, (⟨k1c, k1g⟩ : Pl)) ∈ _ :: _ from List.mem_cons_of_mem (w6.heap.size, (⟨0, 0⟩ : Pl)) M4.out)
  have P8 := Lib.hid (cacAnswers_any (w6.alloc (.cells #[Value.int .i64 0, Value.int .i64 0] 30)))
  go_wp2_with fail
  refine P8.out.mono ?_
  rintro e w8 ⟨rfl, hb⟩
  have S8 := Lib.hid (S7.out.fresh hb)
  clear hb
  have P9 := Lib.hid (cache_put_nil w8 k1c k1g f WK.out WF.out)
  have k0 := (S8.out.at_ _ M7.out).2.1
  have k1 := (S8.out.at_ _ M7.out).2.2
  rw [HGK.out] at k0 k1
  go_wp2_with fail
  refine P9.out.mono ?_
  rintro e w9 ⟨rfl, hb⟩
  have S9 := Lib.hid (S8.out.fresh hb)
  clear hb k0 k1
  have P10 := Lib.hid (cache_mark_nil w9 k1c k1g true WK.out)
  have k0 := (S9.out.at_ _ M7.out).2.1
  have k1 := (S9.out.at_ _ M7.out).2.2
  rw [HGK.out] at k0 k1
  go_wp2_with fail
  refine P10.out.mono ?_
  rintro e w10 ⟨rfl, hb⟩
  have S10 := Lib.hid (S9.out.fresh hb)
  clear hb k0 k1
  have P11 := Lib.hid (cache_dirty_nil w10 k1c k1g WK.out)
  have k0 := (S10.out.at_ _ M7.out).2.1
  have k1 := (S10.out.at_ _ M7.out).2.2
  rw [HGK.out] at k0 k1
  go_wp2_with fail
  refine P11.out.mono ?_
  rintro e w11 ⟨rfl, hb⟩
  have S11 := Lib.hid (S10.out.fresh hb)
  clear hb k0 k1
  have P12 := Lib.hid (cache_drop_nil w11 k1c k1g WK.out)
  have k0 := (S11.out.at_ _ M7.out).2.1
  have k1 := (S11.out.at_ _ M7.out).2.2
  rw [HGK.out] at k0 k1
  go_wp2_with fail
  refine P12.out.mono ?_
  rintro e w12 ⟨rfl, hb⟩
  have S12 := Lib.hid (S11.out.fresh hb)
  clear hb k0 k1
  have P13 := Lib.hid (cache_keys_nil w12 (-1))
  go_wp2_with fail
  refine P13.out.mono ?_
  rintro e w13 ⟨A13, c13, rfl, hb⟩
  have S13 := Lib.hid (S12.out.fresh hb)
  clear hb
  have P14 := Lib.hid (S13.out.mark ⟨k1c, k1g⟩ true WK.out)
  rw [show hasC [] (⟨k1c, k1g⟩ : Pl) = false from rfl, show markC [] (⟨k1c, k1g⟩ : Pl) true = [] from rfl] at P14
  have k0 := (S13.out.at_ _ M7.out).2.1
  have k1 := (S13.out.at_ _ M7.out).2.2
  rw [HGK.out] at k0 k1
  go_wp2_with fail
  refine P14.out.mono ?_
  rintro e w14 ⟨rfl, s14⟩
  have S14 := Lib.hid s14
  clear s14 k0 k1
  have P15 := Lib.hid (S14.out.dirty ⟨k1c, k1g⟩ WK.out)
  rw [show dirtyC [] (⟨k1c, k1g⟩ : Pl) = false from rfl] at P15
  have k0 := (S14.out.at_ _ M7.out).2.1
  have k1 := (S14.out.at_ _ M7.out).2.2
  rw [HGK.out] at k0 k1
  go_wp2_with fail
  refine P15.out.mono ?_
  rintro e w15 ⟨rfl, s15⟩
  have S15 := Lib.hid s15
  clear s15 k0 k1
  have P16 := Lib.hid (S15.out.drop ⟨k1c, k1g⟩ WK.out)
  rw [show hasC [] (⟨k1c, k1g⟩ : Pl) = false from rfl, show dropC [] (⟨k1c, k1g⟩ : Pl) = [] from rfl] at P16
  have k0 := (S15.out.at_ _ M7.out).2.1
  have k1 := (S15.out.at_ _ M7.out).2.2
  rw [HGK.out] at k0 k1
  go_wp2_with fail
  refine P16.out.mono ?_
  rintro e w16 ⟨rfl, s16⟩
  have S16 := Lib.hid s16
  clear s16 k0 k1
  have P17 := Lib.hid (ca_keys S16.out.t (-1) WM.out)
  go_wp2_with fail
  refine P17.out.mono ?_
  rintro e w17 ⟨v, l, rfl, hp, hk, hb⟩
  have S17 := Lib.hid (S16.out.fresh hb)
  obtain rfl := keysC_none hk
  obtain ⟨A17, n17, c17, rfl, hn17, -⟩ := hp
  obtain rfl : n17 = 0 := hn17.symm
  clear hk hn17 hb
  go_wp2
  go_ret
  exact ⟨rfl, S17.out.t.bel⟩
end Go.Proofs.Ytcfjkppgfjlbbaa

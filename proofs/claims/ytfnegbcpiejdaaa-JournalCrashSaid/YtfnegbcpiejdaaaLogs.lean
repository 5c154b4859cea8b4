/-
  The contracts of log's Append and Replay.
  Conditions: those that each line bears.
-/
import Derived.Test.YtfnegbcpiejdaaaDsk
import Derived.Deep.RegionHeld3
import Derived.Deep.RegionWith
import Derived.BigQuiet
import Derived.Deep.LoopGhost
import Derived.WalkMore

/-! ## LogA: The contracts of log's number and named: a number that stands in a sector; whether a sector has that gen, that number and its sum.   Conditions: the bytes are read in memory. -/
namespace Go.Proofs.Ytfnegbcpiejdaaa
open Go.RowKit
set_option linter.unusedVariables false

theorem getV_lt (s : List Nat) (a : Nat) (hb : ∀ y ∈ s, y < 256) (h : a + 4 ≤ s.length) : ((le (win s a 4) : Nat) : Int) < 4294967296 := by
  have h1 := le_lt (win s a 4) (win_byte s a 4 (fun j hj => by have := hb _ (List.getElem_mem hj); simpa [hj] using this))
  rw [win_length s a 4 h] at h1
  omega
set_option maxRecDepth 20000 in
set_option maxHeartbeats 400000 in
theorem number_any (v : Value) (s : List Nat) (B a : Nat) (w : World) (h : Bts w B v s) (ha : a + 4 ≤ s.length) :
    Calls Try.prog 73 #[v, .int .i64 (a : Int)] w fun e w' => e = .returned (.int .u32 ((le (win s a 4) : Nat) : Int)) ∧ w = w' := by
  have HG := Lib.hid (get_yes v s B (a : Int) 4 w h ⟨by omega, by omega, by omega, by omega⟩)
  have h1 := getV_lt s a h.byte ha
  have h0 : (0 : Int) ≤ ((le (win s a 4) : Nat) : Int) := Int.natCast_nonneg _
  have hx : getV s (a : Int) 4 = ((le (win s a 4) : Nat) : Int) := rfl
  rw [hx] at HG
  obtain ⟨x, hx⟩ : ∃ x : Int, x = ((le (win s a 4) : Nat) : Int) := ⟨_, rfl⟩
  rw [← hx] at HG h0 h1 ⊢
  clear h hx
  have h3 : x % 4294967296 = x := by omega
  obtain ⟨z, hz⟩ : ∃ z : Int, z = (a : Int) := ⟨_, rfl⟩
  rw [← hz] at HG ⊢
  clear hz
  go_enter Try.func73, Try.ntmps73
  go_wp2_with fail
  refine HG.out.mono ?_
  rintro e w1 ⟨rfl, rfl⟩
  go_wp2
  go_ret
  exact ⟨by simp, rfl⟩

/-- Has that sector that gen, that number and its sum? -/
def nam (s : List Nat) (gen n : Nat) : Bool := decide (le (win s 60 4) = sumM (s.take 60) ∧ le (win s 0 4) = gen ∧ le (win s 4 4) = n)

/-- What holds while a sector is looked at. -/
def NamS (w : World) (B : Nat) (v : Value) (s : List Nat) (w' : World) : Prop := Bts w' B v s ∧ Below w.heap.size w w'
theorem NamS.and_left {w w' : World} {B : Nat} {v : Value} {s : List Nat} (h : NamS w B v s w') : Bts w' B v s := h.1
theorem NamS.below {w w' : World} {B : Nat} {v : Value} {s : List Nat} (h : NamS w B v s w') : Below w.heap.size w w' := h.2
theorem NamS.start {w : World} {B : Nat} {v : Value} {s : List Nat} (h : Bts w B v s) : NamS w B v s w.drew := ⟨h, (Below.refl _ _).drew⟩
theorem NamS.alloc {w w' : World} {B : Nat} {v : Value} {s : List Nat} (h : NamS w B v s w') (hB : B ≤ w.heap.size) (o : Obj) : NamS w B v s (w'.alloc o) :=
  ⟨h.1.keep fun p hp => World.cell?_alloc_lt w' o p (Nat.lt_of_lt_of_le hp (Nat.le_trans hB h.2.size)), h.2.alloc h.2.size o⟩

set_option maxRecDepth 20000 in
set_option maxHeartbeats 1000000 in
theorem named_any (g : Nat) (s : List Nat) (gen n : Nat) (w : World) (h : Blk w g 5 (s.map bv).toArray) (hl : s.length = 64) (hb : ∀ y ∈ s, y < 256) (hn : n < 4294967296) :
    Calls Try.prog 56 #[.slice (some ⟨g, 0, none⟩) 64 64, .int .u32 (gen : Int), .int .i64 (n : Int)] w fun e w' => e = .returned (.bool (nam s gen n)) ∧ Below w.heap.size w w' := by
  have HX := Lib.hid (Bts.of_whole h hl (by simp [maxLen]) hb)
  obtain ⟨f, hf⟩ : ∃ f : Int → Nat, ∀ z, f z = le (win s z.toNat 4) := ⟨_, fun _ => rfl⟩
  have NZ := Lib.hid (show ∀ (W : World) (z : Int), 0 ≤ z → z ≤ 60 → Bts W w.heap.size (.slice (some ⟨g, 0, none⟩) 64 64) s → Calls Try.prog 73 #[.slice (some ⟨g, 0, none⟩) 64 64, .int .i64 z] W fun e w' => e = .returned (.int .u32 ((f z : Nat) : Int)) ∧ W = w' from by
    intro W z h0 h1 hW
    obtain ⟨k, rfl⟩ := Int.eq_ofNat_of_zero_le h0
    rw [hf]
    exact number_any _ s _ k W hW (by omega))
  have NS := Lib.hid (fun (W : World) (g' : Nat) (hW : Bts W w.heap.size (.slice (some ⟨g, 0, none⟩) 64 64) s) (hc : W.cell? ⟨g', 0, none⟩ = some (.slice (some ⟨g, 0, none⟩) 60 64)) => sum_one W g' _ _ (s.take 60) hc (hW.front 60 (by omega)))
  obtain ⟨t, ht⟩ : ∃ t, t = sumM (s.take 60) := ⟨_, rfl⟩
  have HN := Lib.hid (show nam s gen n = decide (f 60 = t ∧ f 0 = gen ∧ f 4 = n) by unfold nam; rw [hf, hf, hf, ht]; rfl)
  rw [← ht] at NS
  clear hf ht h hl hb
  have h3 : IntKind.u32.wrap (n : Int) = (n : Int) := by rw [IntKind.wrap_u32']; omega
  have B0 := Lib.hid (Nat.le_refl w.heap.size)
  by_cases c1 : f 60 = t
  · by_cases c2 : f 0 = gen
    · by_cases c3 : f 4 = n
      · have d1 := dec_eq c1
        have d2 := dec_eq c2
        have d3 := dec_eq c3
        go_enter Try.func56, Try.ntmps56
        go_wp2_with fail
        go_region_held3 (fun w' => NamS w w.heap.size (.slice (some ⟨g, 0, none⟩) 64 64) s w') (first | assumption | exact NamS.start HX.out | exact NamS.alloc (by assumption) B0.out _)
          (first
            | (go_at_call 73; refine (NZ.out _ _ ?_ ?_ (NamS.and_left (by assumption))).mono ?_; decide; decide; rintro e w' ⟨rfl, rfl⟩)
            | (go_at_call 72; refine (NS.out _ _ (NamS.and_left (by assumption)) ?_).mono ?_; (simp); rintro e w' ⟨rfl, rfl⟩))
        all_goals
          go_wp2
          go_ret
          exact ⟨by rw [HN.out]; simp [c1, c2, c3], NamS.below (by assumption)⟩
      · have d1 := dec_eq c1
        have d2 := dec_eq c2
        have d3 := dec_ne c3
        go_enter Try.func56, Try.ntmps56
        go_wp2_with fail
        go_region_held3 (fun w' => NamS w w.heap.size (.slice (some ⟨g, 0, none⟩) 64 64) s w') (first | assumption | exact NamS.start HX.out | exact NamS.alloc (by assumption) B0.out _)
          (first
            | (go_at_call 73; refine (NZ.out _ _ ?_ ?_ (NamS.and_left (by assumption))).mono ?_; decide; decide; rintro e w' ⟨rfl, rfl⟩)
            | (go_at_call 72; refine (NS.out _ _ (NamS.and_left (by assumption)) ?_).mono ?_; (simp); rintro e w' ⟨rfl, rfl⟩))
        all_goals
          go_wp2
          go_ret
          exact ⟨by rw [HN.out]; simp [c1, c2, c3], NamS.below (by assumption)⟩
    · have d1 := dec_eq c1
      have d2 := dec_ne c2
      go_enter Try.func56, Try.ntmps56
      go_wp2_with fail
      refine wp_region_noPanic ?_
      refine wp_region_any (by kernel_rfl) ?_
      try (change wpAny _ _ _ _ _ _ _ (World.drew _))
      refine wpAny_take (i := 0) (v := ?v1) rfl (by kernel_rfl) (by kernel_rfl) (by kernel_rfl) (fun _ _ _ h => h) (Or.inl ⟨by rfl, ?hy1⟩) ?rest1
      case hy1 => (intro w; go_simp; try with_reducible rfl)
      try simp only [Act.put]
      refine wpAny_take (i := 2) (v := ?v2) rfl (by kernel_rfl) (by kernel_rfl) (by kernel_rfl) (fun _ _ _ h => h) (Or.inl ⟨by rfl, ?hy2⟩) ?rest2
      case hy2 => (intro w; go_simp; try with_reducible rfl)
      try simp only [Act.put]
      refine wpAny_take (i := 3) (v := ?v3) rfl (by kernel_rfl) (by kernel_rfl) (by kernel_rfl) (fun _ _ _ h => h) (Or.inl ⟨by rfl, ?hy3⟩) ?rest3
      case hy3 => (intro w; go_simp; try with_reducible rfl)
      try simp only [Act.put]
      refine wpAny_ready (rs := [1, 4]) (by kernel_rfl) (by simp) ?_
      refine AllReady.cons rfl (fun K hK => ?_) ?_
      · go_simp
        go_wp2_with (first | (go_at_call 73; refine (NZ.out _ _ ?_ ?_ ?_).mono ?_; decide; decide; (first | exact HX.out | exact NamS.and_left (NamS.alloc (NamS.start HX.out) B0.out _)); rintro e w' ⟨rfl, rfl⟩) | (go_at_call 72; refine (NS.out _ _ ?_ ?_).mono ?_; exact NamS.and_left (NamS.alloc (NamS.start HX.out) B0.out _); (simp); rintro e w' ⟨rfl, rfl⟩))
        try (refine hK _ _ ?_)
        try (clear hK K)
        refine wpAny_ready (rs := [4]) (by kernel_rfl) (by simp) ?_
        refine AllReady.cons rfl (fun K hK => ?_) ?_
        · go_simp
          try (refine hK _ _ ?_)
          try (clear hK K)
          refine wpAny_ready (rs := [5]) (by kernel_rfl) (by simp) ?_
          refine AllReady.cons rfl (fun K hK => ?_) ?_
          · go_simp
            go_wp2_with (first | (go_at_call 73; refine (NZ.out _ _ ?_ ?_ ?_).mono ?_; decide; decide; (first | exact HX.out | exact NamS.and_left (NamS.alloc (NamS.start HX.out) B0.out _)); rintro e w' ⟨rfl, rfl⟩) | (go_at_call 72; refine (NS.out _ _ ?_ ?_).mono ?_; exact NamS.and_left (NamS.alloc (NamS.start HX.out) B0.out _); (simp); rintro e w' ⟨rfl, rfl⟩))
            try (refine hK _ _ ?_)
            try (clear hK K)
            refine wpAny_take (i := 6) (v := ?v4) rfl (by kernel_rfl) (by kernel_rfl) (by kernel_rfl) (fun _ _ _ h => h) (Or.inl ⟨by rfl, ?hy4⟩) ?rest4
            case hy4 => (intro w; go_simp; try with_reducible rfl)
            try simp only [Act.put]
            refine wpAny_take (i := 7) (v := ?v5) rfl (by kernel_rfl) (by kernel_rfl) (by kernel_rfl) (fun _ _ _ h => h) (Or.inl ⟨by rfl, ?hy5⟩) ?rest5
            case hy5 => (intro w; go_simp; try with_reducible rfl)
            try simp only [Act.put]
            refine wpAny_take (i := 8) (v := ?v6) rfl (by kernel_rfl) (by kernel_rfl) (by kernel_rfl) (fun _ _ _ h => h) (Or.inl ⟨by rfl, ?hy6⟩) ?rest6
            case hy6 => (intro w; go_simp; try with_reducible rfl)
            try simp only [Act.put]
            refine wpAny_take (i := 10) (v := ?v7) rfl (by kernel_rfl) (by kernel_rfl) (by kernel_rfl) (fun _ _ _ h => h) (Or.inl ⟨by rfl, ?hy7⟩) ?rest7
            case hy7 => (intro w; go_simp; try with_reducible rfl)
            try simp only [Act.put]
            refine wpAny_ready (rs := [9]) (by kernel_rfl) (by simp) ?_
            refine AllReady.cons rfl (fun K hK => ?_) ?_
            · go_simp
              go_wp2_with (first | (go_at_call 73; refine (NZ.out _ _ ?_ ?_ ?_).mono ?_; decide; decide; (first | exact HX.out | exact NamS.and_left (NamS.alloc (NamS.start HX.out) B0.out _)); rintro e w' ⟨rfl, rfl⟩) | (go_at_call 72; refine (NS.out _ _ ?_ ?_).mono ?_; exact NamS.and_left (NamS.alloc (NamS.start HX.out) B0.out _); (simp); rintro e w' ⟨rfl, rfl⟩))
              try (refine hK _ _ ?_)
              try (clear hK K)
              refine wpAny_take (i := 11) (v := ?v8) rfl (by kernel_rfl) (by kernel_rfl) (by kernel_rfl) (fun _ _ _ h => h) (Or.inl ⟨by rfl, ?hy8⟩) ?rest8
              case hy8 => (intro w; go_simp; try with_reducible rfl)
              try simp only [Act.put]
              refine wpAny_take (i := 12) (v := ?v9) rfl (by kernel_rfl) (by kernel_rfl) (by kernel_rfl) (fun _ _ _ h => h) (Or.inl ⟨by rfl, ?hy9⟩) ?rest9
              case hy9 => (intro w; go_simp; try with_reducible rfl)
              try simp only [Act.put]
              refine wpAny_take (i := 13) (v := ?v10) rfl (by kernel_rfl) (by kernel_rfl) (by kernel_rfl) (fun _ _ _ h => h) (Or.inl ⟨by rfl, ?hy10⟩) ?rest10
              case hy10 => (intro w; go_simp; try with_reducible rfl)
              try simp only [Act.put]
              refine wpAny_take (i := 14) (v := undef) rfl (by kernel_rfl) (by kernel_rfl) (by kernel_rfl) (fun _ _ _ h => h) (Or.inr ⟨by rfl, rfl⟩) ?_
              try simp only [Act.put]
              refine wpAny_take (i := 16) (v := undef) rfl (by kernel_rfl) (by kernel_rfl) (by kernel_rfl) (fun _ _ _ h => h) (Or.inr ⟨by rfl, rfl⟩) ?_
              try simp only [Act.put]
              refine wpAny_take (i := 17) (v := undef) rfl (by kernel_rfl) (by kernel_rfl) (by kernel_rfl) (fun _ _ _ h => h) (Or.inr ⟨by rfl, rfl⟩) ?_
              try simp only [Act.put]
              refine wpAny_ready (rs := [15]) (by kernel_rfl) (by simp) ?_
              refine AllReady.cons rfl (fun K hK => ?_) ?_
              · go_simp
                try (refine hK _ _ ?_)
                try (clear hK K)
                refine wpAny_take (i := 18) (v := undef) rfl (by kernel_rfl) (by kernel_rfl) (by kernel_rfl) (fun _ _ _ h => h) (Or.inr ⟨by rfl, rfl⟩) ?_
                try simp only [Act.put]
                refine wpAny_take (i := 19) (v := ?v11) rfl (by kernel_rfl) (by kernel_rfl) (by kernel_rfl) (fun _ _ _ h => h) (Or.inl ⟨by rfl, ?hy11⟩) ?rest11
                case hy11 => (intro w; go_simp; try with_reducible rfl)
                try simp only [Act.put]
                refine wpAny_take (i := 20) (v := ?v12) rfl (by kernel_rfl) (by kernel_rfl) (by kernel_rfl) (fun _ _ _ h => h) (Or.inl ⟨by rfl, ?hy12⟩) ?rest12
                case hy12 => (intro w; go_simp; try with_reducible rfl)
                try simp only [Act.put]
                refine wpAny_done (by kernel_rfl) ?_ _
                refine NoPanic.normal ?_
                go_simp
                go_wp2
                go_ret
                exact ⟨by rw [HN.out]; simp [c1, c2], NamS.below (NamS.alloc (NamS.start HX.out) B0.out _)⟩
              exact AllReady.nil
            exact AllReady.nil
          exact AllReady.nil
        exact AllReady.nil
      refine AllReady.cons rfl (fun K hK => ?_) ?_
      · go_simp
        try (refine hK _ _ ?_)
        try (clear hK K)
        refine wpAny_ready (rs := [1]) (by kernel_rfl) (by simp) ?_
        refine AllReady.cons rfl (fun K hK => ?_) ?_
        · go_simp
          go_wp2_with (first | (go_at_call 73; refine (NZ.out _ _ ?_ ?_ ?_).mono ?_; decide; decide; (first | exact HX.out | exact NamS.and_left (NamS.alloc (NamS.start HX.out) B0.out _)); rintro e w' ⟨rfl, rfl⟩) | (go_at_call 72; refine (NS.out _ _ ?_ ?_).mono ?_; exact NamS.and_left (NamS.alloc (NamS.start HX.out) B0.out _); (simp); rintro e w' ⟨rfl, rfl⟩))
          try (refine hK _ _ ?_)
          try (clear hK K)
          refine wpAny_ready (rs := [5]) (by kernel_rfl) (by simp) ?_
          refine AllReady.cons rfl (fun K hK => ?_) ?_
          · go_simp
            go_wp2_with (first | (go_at_call 73; refine (NZ.out _ _ ?_ ?_ ?_).mono ?_; decide; decide; (first | exact HX.out | exact NamS.and_left (NamS.alloc (NamS.start HX.out) B0.out _)); rintro e w' ⟨rfl, rfl⟩) | (go_at_call 72; refine (NS.out _ _ ?_ ?_).mono ?_; exact NamS.and_left (NamS.alloc (NamS.start HX.out) B0.out _); (simp); rintro e w' ⟨rfl, rfl⟩))
            try (refine hK _ _ ?_)
            try (clear hK K)
            refine wpAny_take (i := 6) (v := ?v13) rfl (by kernel_rfl) (by kernel_rfl) (by kernel_rfl) (fun _ _ _ h => h) (Or.inl ⟨by rfl, ?hy13⟩) ?rest13
            case hy13 => (intro w; go_simp; try with_reducible rfl)
            try simp only [Act.put]
            refine wpAny_take (i := 7) (v := ?v14) rfl (by kernel_rfl) (by kernel_rfl) (by kernel_rfl) (fun _ _ _ h => h) (Or.inl ⟨by rfl, ?hy14⟩) ?rest14
            case hy14 => (intro w; go_simp; try with_reducible rfl)
            try simp only [Act.put]
            refine wpAny_take (i := 8) (v := ?v15) rfl (by kernel_rfl) (by kernel_rfl) (by kernel_rfl) (fun _ _ _ h => h) (Or.inl ⟨by rfl, ?hy15⟩) ?rest15
            case hy15 => (intro w; go_simp; try with_reducible rfl)
            try simp only [Act.put]
            refine wpAny_take (i := 10) (v := ?v16) rfl (by kernel_rfl) (by kernel_rfl) (by kernel_rfl) (fun _ _ _ h => h) (Or.inl ⟨by rfl, ?hy16⟩) ?rest16
            case hy16 => (intro w; go_simp; try with_reducible rfl)
            try simp only [Act.put]
            refine wpAny_ready (rs := [9]) (by kernel_rfl) (by simp) ?_
            refine AllReady.cons rfl (fun K hK => ?_) ?_
            · go_simp
              go_wp2_with (first | (go_at_call 73; refine (NZ.out _ _ ?_ ?_ ?_).mono ?_; decide; decide; (first | exact HX.out | exact NamS.and_left (NamS.alloc (NamS.start HX.out) B0.out _)); rintro e w' ⟨rfl, rfl⟩) | (go_at_call 72; refine (NS.out _ _ ?_ ?_).mono ?_; exact NamS.and_left (NamS.alloc (NamS.start HX.out) B0.out _); (simp); rintro e w' ⟨rfl, rfl⟩))
              try (refine hK _ _ ?_)
              try (clear hK K)
              refine wpAny_take (i := 11) (v := ?v17) rfl (by kernel_rfl) (by kernel_rfl) (by kernel_rfl) (fun _ _ _ h => h) (Or.inl ⟨by rfl, ?hy17⟩) ?rest17
              case hy17 => (intro w; go_simp; try with_reducible rfl)
              try simp only [Act.put]
              refine wpAny_take (i := 12) (v := ?v18) rfl (by kernel_rfl) (by kernel_rfl) (by kernel_rfl) (fun _ _ _ h => h) (Or.inl ⟨by rfl, ?hy18⟩) ?rest18
              case hy18 => (intro w; go_simp; try with_reducible rfl)
              try simp only [Act.put]
              refine wpAny_take (i := 13) (v := ?v19) rfl (by kernel_rfl) (by kernel_rfl) (by kernel_rfl) (fun _ _ _ h => h) (Or.inl ⟨by rfl, ?hy19⟩) ?rest19
              case hy19 => (intro w; go_simp; try with_reducible rfl)
              try simp only [Act.put]
              refine wpAny_take (i := 14) (v := undef) rfl (by kernel_rfl) (by kernel_rfl) (by kernel_rfl) (fun _ _ _ h => h) (Or.inr ⟨by rfl, rfl⟩) ?_
              try simp only [Act.put]
              refine wpAny_take (i := 16) (v := undef) rfl (by kernel_rfl) (by kernel_rfl) (by kernel_rfl) (fun _ _ _ h => h) (Or.inr ⟨by rfl, rfl⟩) ?_
              try simp only [Act.put]
              refine wpAny_take (i := 17) (v := undef) rfl (by kernel_rfl) (by kernel_rfl) (by kernel_rfl) (fun _ _ _ h => h) (Or.inr ⟨by rfl, rfl⟩) ?_
              try simp only [Act.put]
              refine wpAny_ready (rs := [15]) (by kernel_rfl) (by simp) ?_
              refine AllReady.cons rfl (fun K hK => ?_) ?_
              · go_simp
                try (refine hK _ _ ?_)
                try (clear hK K)
                refine wpAny_take (i := 18) (v := undef) rfl (by kernel_rfl) (by kernel_rfl) (by kernel_rfl) (fun _ _ _ h => h) (Or.inr ⟨by rfl, rfl⟩) ?_
                try simp only [Act.put]
                refine wpAny_take (i := 19) (v := ?v20) rfl (by kernel_rfl) (by kernel_rfl) (by kernel_rfl) (fun _ _ _ h => h) (Or.inl ⟨by rfl, ?hy20⟩) ?rest20
                case hy20 => (intro w; go_simp; try with_reducible rfl)
                try simp only [Act.put]
                refine wpAny_take (i := 20) (v := ?v21) rfl (by kernel_rfl) (by kernel_rfl) (by kernel_rfl) (fun _ _ _ h => h) (Or.inl ⟨by rfl, ?hy21⟩) ?rest21
                case hy21 => (intro w; go_simp; try with_reducible rfl)
                try simp only [Act.put]
                refine wpAny_done (by kernel_rfl) ?_ _
                refine NoPanic.normal ?_
                go_simp
                go_wp2
                go_ret
                exact ⟨by rw [HN.out]; simp [c1, c2], NamS.below (NamS.alloc (NamS.start HX.out) B0.out _)⟩
              exact AllReady.nil
            exact AllReady.nil
          exact AllReady.nil
        exact AllReady.nil
      exact AllReady.nil
  · have d1 := dec_ne c1
    go_enter Try.func56, Try.ntmps56
    go_wp2_with fail
    refine wp_region_noPanic ?_
    refine wp_region_any (by kernel_rfl) ?_
    try (change wpAny _ _ _ _ _ _ _ (World.drew _))
    refine wpAny_take (i := 0) (v := ?v22) rfl (by kernel_rfl) (by kernel_rfl) (by kernel_rfl) (fun _ _ _ h => h) (Or.inl ⟨by rfl, ?hy22⟩) ?rest22
    case hy22 => (intro w; go_simp; try with_reducible rfl)
    try simp only [Act.put]
    refine wpAny_take (i := 2) (v := ?v23) rfl (by kernel_rfl) (by kernel_rfl) (by kernel_rfl) (fun _ _ _ h => h) (Or.inl ⟨by rfl, ?hy23⟩) ?rest23
    case hy23 => (intro w; go_simp; try with_reducible rfl)
    try simp only [Act.put]
    refine wpAny_take (i := 3) (v := ?v24) rfl (by kernel_rfl) (by kernel_rfl) (by kernel_rfl) (fun _ _ _ h => h) (Or.inl ⟨by rfl, ?hy24⟩) ?rest24
    case hy24 => (intro w; go_simp; try with_reducible rfl)
    try simp only [Act.put]
    refine wpAny_ready (rs := [1, 4]) (by kernel_rfl) (by simp) ?_
    refine AllReady.cons rfl (fun K hK => ?_) ?_
    · go_simp
      go_wp2_with (first | (go_at_call 73; refine (NZ.out _ _ ?_ ?_ ?_).mono ?_; decide; decide; (first | exact HX.out | exact NamS.and_left (NamS.alloc (NamS.start HX.out) B0.out _)); rintro e w' ⟨rfl, rfl⟩) | (go_at_call 72; refine (NS.out _ _ ?_ ?_).mono ?_; exact NamS.and_left (NamS.alloc (NamS.start HX.out) B0.out _); (simp); rintro e w' ⟨rfl, rfl⟩))
      try (refine hK _ _ ?_)
      try (clear hK K)
      refine wpAny_ready (rs := [4]) (by kernel_rfl) (by simp) ?_
      refine AllReady.cons rfl (fun K hK => ?_) ?_
      · go_simp
        try (refine hK _ _ ?_)
        try (clear hK K)
        refine wpAny_ready (rs := [5]) (by kernel_rfl) (by simp) ?_
        refine AllReady.cons rfl (fun K hK => ?_) ?_
        · go_simp
          go_wp2_with (first | (go_at_call 73; refine (NZ.out _ _ ?_ ?_ ?_).mono ?_; decide; decide; (first | exact HX.out | exact NamS.and_left (NamS.alloc (NamS.start HX.out) B0.out _)); rintro e w' ⟨rfl, rfl⟩) | (go_at_call 72; refine (NS.out _ _ ?_ ?_).mono ?_; exact NamS.and_left (NamS.alloc (NamS.start HX.out) B0.out _); (simp); rintro e w' ⟨rfl, rfl⟩))
          try (refine hK _ _ ?_)
          try (clear hK K)
          refine wpAny_take (i := 6) (v := ?v25) rfl (by kernel_rfl) (by kernel_rfl) (by kernel_rfl) (fun _ _ _ h => h) (Or.inl ⟨by rfl, ?hy25⟩) ?rest25
          case hy25 => (intro w; go_simp; try with_reducible rfl)
          try simp only [Act.put]
          refine wpAny_take (i := 7) (v := ?v26) rfl (by kernel_rfl) (by kernel_rfl) (by kernel_rfl) (fun _ _ _ h => h) (Or.inl ⟨by rfl, ?hy26⟩) ?rest26
          case hy26 => (intro w; go_simp; try with_reducible rfl)
          try simp only [Act.put]
          refine wpAny_take (i := 8) (v := undef) rfl (by kernel_rfl) (by kernel_rfl) (by kernel_rfl) (fun _ _ _ h => h) (Or.inr ⟨by rfl, rfl⟩) ?_
          try simp only [Act.put]
          refine wpAny_take (i := 10) (v := undef) rfl (by kernel_rfl) (by kernel_rfl) (by kernel_rfl) (fun _ _ _ h => h) (Or.inr ⟨by rfl, rfl⟩) ?_
          try simp only [Act.put]
          refine wpAny_ready (rs := [9]) (by kernel_rfl) (by simp) ?_
          refine AllReady.cons rfl (fun K hK => ?_) ?_
          · go_simp
            try (refine hK _ _ ?_)
            try (clear hK K)
            refine wpAny_take (i := 11) (v := undef) rfl (by kernel_rfl) (by kernel_rfl) (by kernel_rfl) (fun _ _ _ h => h) (Or.inr ⟨by rfl, rfl⟩) ?_
            try simp only [Act.put]
            refine wpAny_take (i := 12) (v := ?v27) rfl (by kernel_rfl) (by kernel_rfl) (by kernel_rfl) (fun _ _ _ h => h) (Or.inl ⟨by rfl, ?hy27⟩) ?rest27
            case hy27 => (intro w; go_simp; try with_reducible rfl)
            try simp only [Act.put]
            refine wpAny_take (i := 13) (v := ?v28) rfl (by kernel_rfl) (by kernel_rfl) (by kernel_rfl) (fun _ _ _ h => h) (Or.inl ⟨by rfl, ?hy28⟩) ?rest28
            case hy28 => (intro w; go_simp; try with_reducible rfl)
            try simp only [Act.put]
            refine wpAny_take (i := 14) (v := undef) rfl (by kernel_rfl) (by kernel_rfl) (by kernel_rfl) (fun _ _ _ h => h) (Or.inr ⟨by rfl, rfl⟩) ?_
            try simp only [Act.put]
            refine wpAny_take (i := 16) (v := undef) rfl (by kernel_rfl) (by kernel_rfl) (by kernel_rfl) (fun _ _ _ h => h) (Or.inr ⟨by rfl, rfl⟩) ?_
            try simp only [Act.put]
            refine wpAny_take (i := 17) (v := undef) rfl (by kernel_rfl) (by kernel_rfl) (by kernel_rfl) (fun _ _ _ h => h) (Or.inr ⟨by rfl, rfl⟩) ?_
            try simp only [Act.put]
            refine wpAny_ready (rs := [15]) (by kernel_rfl) (by simp) ?_
            refine AllReady.cons rfl (fun K hK => ?_) ?_
            · go_simp
              try (refine hK _ _ ?_)
              try (clear hK K)
              refine wpAny_take (i := 18) (v := undef) rfl (by kernel_rfl) (by kernel_rfl) (by kernel_rfl) (fun _ _ _ h => h) (Or.inr ⟨by rfl, rfl⟩) ?_
              try simp only [Act.put]
              refine wpAny_take (i := 19) (v := ?v29) rfl (by kernel_rfl) (by kernel_rfl) (by kernel_rfl) (fun _ _ _ h => h) (Or.inl ⟨by rfl, ?hy29⟩) ?rest29
              case hy29 => (intro w; go_simp; try with_reducible rfl)
              try simp only [Act.put]
              refine wpAny_take (i := 20) (v := ?v30) rfl (by kernel_rfl) (by kernel_rfl) (by kernel_rfl) (fun _ _ _ h => h) (Or.inl ⟨by rfl, ?hy30⟩) ?rest30
              case hy30 => (intro w; go_simp; try with_reducible rfl)
              try simp only [Act.put]
              refine wpAny_done (by kernel_rfl) ?_ _
              refine NoPanic.normal ?_
              go_simp
              go_wp2
              go_ret
              exact ⟨by rw [HN.out]; simp [c1], NamS.below (NamS.alloc (NamS.start HX.out) B0.out _)⟩
            exact AllReady.nil
          exact AllReady.nil
        exact AllReady.nil
      exact AllReady.nil
    refine AllReady.cons rfl (fun K hK => ?_) ?_
    · go_simp
      try (refine hK _ _ ?_)
      try (clear hK K)
      refine wpAny_ready (rs := [1]) (by kernel_rfl) (by simp) ?_
      refine AllReady.cons rfl (fun K hK => ?_) ?_
      · go_simp
        go_wp2_with (first | (go_at_call 73; refine (NZ.out _ _ ?_ ?_ ?_).mono ?_; decide; decide; (first | exact HX.out | exact NamS.and_left (NamS.alloc (NamS.start HX.out) B0.out _)); rintro e w' ⟨rfl, rfl⟩) | (go_at_call 72; refine (NS.out _ _ ?_ ?_).mono ?_; exact NamS.and_left (NamS.alloc (NamS.start HX.out) B0.out _); (simp); rintro e w' ⟨rfl, rfl⟩))
        try (refine hK _ _ ?_)
        try (clear hK K)
        refine wpAny_ready (rs := [5]) (by kernel_rfl) (by simp) ?_
        refine AllReady.cons rfl (fun K hK => ?_) ?_
        · go_simp
          go_wp2_with (first | (go_at_call 73; refine (NZ.out _ _ ?_ ?_ ?_).mono ?_; decide; decide; (first | exact HX.out | exact NamS.and_left (NamS.alloc (NamS.start HX.out) B0.out _)); rintro e w' ⟨rfl, rfl⟩) | (go_at_call 72; refine (NS.out _ _ ?_ ?_).mono ?_; exact NamS.and_left (NamS.alloc (NamS.start HX.out) B0.out _); (simp); rintro e w' ⟨rfl, rfl⟩))
          try (refine hK _ _ ?_)
          try (clear hK K)
          refine wpAny_take (i := 6) (v := ?v31) rfl (by kernel_rfl) (by kernel_rfl) (by kernel_rfl) (fun _ _ _ h => h) (Or.inl ⟨by rfl, ?hy31⟩) ?rest31
          case hy31 => (intro w; go_simp; try with_reducible rfl)
          try simp only [Act.put]
          refine wpAny_take (i := 7) (v := ?v32) rfl (by kernel_rfl) (by kernel_rfl) (by kernel_rfl) (fun _ _ _ h => h) (Or.inl ⟨by rfl, ?hy32⟩) ?rest32
          case hy32 => (intro w; go_simp; try with_reducible rfl)
          try simp only [Act.put]
          refine wpAny_take (i := 8) (v := undef) rfl (by kernel_rfl) (by kernel_rfl) (by kernel_rfl) (fun _ _ _ h => h) (Or.inr ⟨by rfl, rfl⟩) ?_
          try simp only [Act.put]
          refine wpAny_take (i := 10) (v := undef) rfl (by kernel_rfl) (by kernel_rfl) (by kernel_rfl) (fun _ _ _ h => h) (Or.inr ⟨by rfl, rfl⟩) ?_
          try simp only [Act.put]
          refine wpAny_ready (rs := [9]) (by kernel_rfl) (by simp) ?_
          refine AllReady.cons rfl (fun K hK => ?_) ?_
          · go_simp
            try (refine hK _ _ ?_)
            try (clear hK K)
            refine wpAny_take (i := 11) (v := undef) rfl (by kernel_rfl) (by kernel_rfl) (by kernel_rfl) (fun _ _ _ h => h) (Or.inr ⟨by rfl, rfl⟩) ?_
            try simp only [Act.put]
            refine wpAny_take (i := 12) (v := ?v33) rfl (by kernel_rfl) (by kernel_rfl) (by kernel_rfl) (fun _ _ _ h => h) (Or.inl ⟨by rfl, ?hy33⟩) ?rest33
            case hy33 => (intro w; go_simp; try with_reducible rfl)
            try simp only [Act.put]
            refine wpAny_take (i := 13) (v := ?v34) rfl (by kernel_rfl) (by kernel_rfl) (by kernel_rfl) (fun _ _ _ h => h) (Or.inl ⟨by rfl, ?hy34⟩) ?rest34
            case hy34 => (intro w; go_simp; try with_reducible rfl)
            try simp only [Act.put]
            refine wpAny_take (i := 14) (v := undef) rfl (by kernel_rfl) (by kernel_rfl) (by kernel_rfl) (fun _ _ _ h => h) (Or.inr ⟨by rfl, rfl⟩) ?_
            try simp only [Act.put]
            refine wpAny_take (i := 16) (v := undef) rfl (by kernel_rfl) (by kernel_rfl) (by kernel_rfl) (fun _ _ _ h => h) (Or.inr ⟨by rfl, rfl⟩) ?_
            try simp only [Act.put]
            refine wpAny_take (i := 17) (v := undef) rfl (by kernel_rfl) (by kernel_rfl) (by kernel_rfl) (fun _ _ _ h => h) (Or.inr ⟨by rfl, rfl⟩) ?_
            try simp only [Act.put]
            refine wpAny_ready (rs := [15]) (by kernel_rfl) (by simp) ?_
            refine AllReady.cons rfl (fun K hK => ?_) ?_
            · go_simp
              try (refine hK _ _ ?_)
              try (clear hK K)
              refine wpAny_take (i := 18) (v := undef) rfl (by kernel_rfl) (by kernel_rfl) (by kernel_rfl) (fun _ _ _ h => h) (Or.inr ⟨by rfl, rfl⟩) ?_
              try simp only [Act.put]
              refine wpAny_take (i := 19) (v := ?v35) rfl (by kernel_rfl) (by kernel_rfl) (by kernel_rfl) (fun _ _ _ h => h) (Or.inl ⟨by rfl, ?hy35⟩) ?rest35
              case hy35 => (intro w; go_simp; try with_reducible rfl)
              try simp only [Act.put]
              refine wpAny_take (i := 20) (v := ?v36) rfl (by kernel_rfl) (by kernel_rfl) (by kernel_rfl) (fun _ _ _ h => h) (Or.inl ⟨by rfl, ?hy36⟩) ?rest36
              case hy36 => (intro w; go_simp; try with_reducible rfl)
              try simp only [Act.put]
              refine wpAny_done (by kernel_rfl) ?_ _
              refine NoPanic.normal ?_
              go_simp
              go_wp2
              go_ret
              exact ⟨by rw [HN.out]; simp [c1], NamS.below (NamS.alloc (NamS.start HX.out) B0.out _)⟩
            exact AllReady.nil
          exact AllReady.nil
        exact AllReady.nil
      exact AllReady.nil
    exact AllReady.nil
end Go.Proofs.Ytfnegbcpiejdaaa

/-! ## LogB: The contract of log's sector: a new block of 64 bytes that is the record's sector; nothing else is changed.   Conditions: the record has 50 bytes at most, which are read in memory. -/
namespace Go.Proofs.Ytfnegbcpiejdaaa
open Go.RowKit
set_option linter.unusedVariables false

theorem headL_zn (gen n : Nat) (b : List Nat) (h : b.length ≤ 50) : zn (numL gen 4 ++ numL n 4 ++ [b.length] ++ b) (55 - b.length) = zn (headL gen n b) 4 := by
  unfold zn headL
  rw [show 55 - b.length = (51 - b.length) + 4 by omega, ← List.replicate_append_replicate]
  simp only [List.append_assoc]

/-- What sector leaves. -/
def SecPost (w : World) (gen n : Nat) (b : List Nat) (e : Ending) (w' : World) : Prop :=
  e = .returned (.slice (some ⟨w.heap.size, 0, none⟩) 64 64) ∧ Blk w' w.heap.size 5 ((secL gen n b).map bv).toArray ∧ Below w.heap.size w w'

set_option maxRecDepth 20000 in
set_option maxHeartbeats 1600000 in
theorem sector_any (gen n : Nat) (v : Value) (b : List Nat) (B : Nat) (w : World) (h : Bts w B v b) (hB : B ≤ w.heap.size) (hl : b.length ≤ 50) (hg : gen < 4294967296) (hn : n < 4294967296) :
    Calls Try.prog 63 #[.int .u32 (gen : Int), .int .i64 (n : Int), v] w (SecPost w gen n b) := by
  have HX := Lib.hid h
  have HB := Lib.hid hB
  obtain ⟨A, l, c, rfl, e0, -⟩ := h
  have HL := Lib.hid (show b.length ≤ 50 from hl)
  have E0 := Lib.hid e0
  have hl50 : l ≤ 50 := by omega
  have hmk := make64
  have c1 : IntKind.u64.wrap (gen : Int) = (gen : Int) := by rw [IntKind.wrap_u64]; omega
  have c2 : IntKind.u64.wrap (n : Int) = (n : Int) := by rw [IntKind.wrap_u64]; omega
  have c3 : IntKind.u8.wrap (l : Int) = (l : Int) := by rw [IntKind.wrap_u8']; omega
  have c3' : (l : Int) % 256 = (l : Int) := by omega
  have b0 := Lib.hid (show Blk (w.alloc (.cells (zs 64) 5)) w.heap.size 5 (cellsL (zn [] 64)) from by rw [← zs_cells]; exact Blk.new w _ _)
  have k0 := Lib.hid (show Below w.heap.size w (w.alloc (.cells (zs 64) 5)) from (Below.refl _ _).alloc (Nat.le_refl _) _)
  clear hl hB e0
  go_enter Try.func63, Try.ntmps63
  go_wp2_with fail
  refine (put_zn w.heap.size [] 0 64 gen 0 _ b0.out rfl rfl (by omega) rfl).mono ?_
  rintro e w2 ⟨rfl, hb2, ho2⟩
  have b2 := Lib.hid hb2
  have k2 := Lib.hid (k0.out.trans (ho2.below (Nat.le_refl _) k0.out.size))
  clear hb2 ho2
  go_wp2_with fail
  refine (put_zn w.heap.size ([] ++ numL gen 4) 4 60 n 4 _ b2.out (by simp [numL_length]) rfl (by omega) rfl).mono ?_
  rintro e w3 ⟨rfl, hb3, ho3⟩
  have b3 := Lib.hid hb3
  have k3 := Lib.hid (k2.out.trans (ho3.below (Nat.le_refl _) k2.out.size))
  have hc : w3.cell? ⟨w.heap.size, 8, none⟩ = some (.int .u8 0) := by rw [hb3.cell]; rfl
  have hf := hb3.frozen 8
  clear hb3 ho3
  have b4 := Lib.hid (show Blk (w3.setCell ⟨w.heap.size, 8, none⟩ (.int .u8 (l : Int))) w.heap.size 5 (cellsL (zn ([] ++ numL gen 4 ++ numL n 4 ++ [l]) 55)) from by
    have h := b3.out.set_ 8 (bv l)
    rw [set_next _ 8 _ l (by simp [numL_length]) (by omega)] at h
    exact h)
  have k4 := Lib.hid (show Below w.heap.size w (w3.setCell ⟨w.heap.size, 8, none⟩ (.int .u8 (l : Int))) from k3.out.setCell (Nat.le_refl _) _)
  have f1 : b.length ≤ 55 := by have := E0.out; omega
  have f2 : 9 + b.length ≤ (cellsL (zn ([] ++ numL gen 4 ++ numL n 4 ++ [l]) 55)).size := by
    rw [cellsL_size]
    simp [zn, numL_length]
    omega
  have F1 := Lib.hid f1
  have F2 := Lib.hid f2
  clear f1 f2
  go_wp2_with (with_reducible refine wpList_copy_bts rfl (.tmp 23) (.tmp 24) 27 27 rfl 5 Try.underlying27 Try.size8 (some ⟨w.heap.size, 9, none⟩) A 55 55 l c rfl rfl w.heap.size 9 (cellsL (zn ([] ++ numL gen 4 ++ numL n 4 ++ [l]) 55)) 5 b4.out b B (HX.out.below (k4.out.mono HB.out)) F1.out (fun _ => rfl) F2.out ?_; intro w5 hb5 ho5)
  have b5 := Lib.hid (show Blk w5 w.heap.size 5 (cellsL (zn (headL gen n b) 4)) from by
    have h := hb5.out
    rw [splice_next _ b 9 55 (by simp [numL_length]) (by have := HL.out; omega), ← E0.out, List.nil_append, headL_zn gen n b HL.out] at h
    exact h)
  have k5 := Lib.hid (k4.out.trans (ho5.out.below (Nat.le_refl _) k4.out.size))
  clear hb5 ho5
  have HS := Lib.hid (Bts.of_whole (g := w.heap.size) (n := 64) (xs := zn (headL gen n b) 4) b5.out (by simp [zn, headL_length gen n b HL.out]) (by simp [maxLen]) (fun y hy => by
    rcases List.mem_append.1 hy with hy | hy
    · exact headL_byte gen n b HL.out HX.out.byte y hy
    · rw [List.eq_of_mem_replicate hy]; omega))
  have kb6 := Lib.hid (show Below w5.heap.size w5 (w5.alloc (.cells #[.slice (some ⟨w.heap.size, 0, none⟩) 60 64] 27)) from (Below.refl _ _).alloc (Nat.le_refl _) _)
  have hs6 := (HS.out.below kb6.out).front 60 (by omega)
  rw [show (zn (headL gen n b) 4).take 60 = headL gen n b from List.take_left' (headL_length gen n b HL.out)] at hs6
  refine (sum_one (w5.alloc (.cells #[.slice (some ⟨w.heap.size, 0, none⟩) 60 64] 27)) w5.heap.size w5.heap.size _ (headL gen n b) (by simp) hs6).mono ?_
  rintro e w6 ⟨rfl, rfl⟩
  have hx := sumM_lt (headL gen n b)
  obtain ⟨x, hxe⟩ : ∃ x, x = sumM (headL gen n b) := ⟨_, rfl⟩
  rw [← hxe] at hx ⊢
  have HXE := Lib.hid hxe
  have c6 : IntKind.u64.wrap (x : Int) = (x : Int) := by rw [IntKind.wrap_u64]; omega
  have b6 := Lib.hid (b5.out.below kb6.out b5.out.lt)
  have k6 := Lib.hid (k5.out.trans (kb6.out.mono k5.out.size))
  clear hs6 hxe
  go_wp2_with fail
  refine (put_zn w.heap.size (headL gen n b) 60 4 x 60 _ b6.out (headL_length gen n b HL.out) rfl (by omega) rfl).mono ?_
  rintro e w7 ⟨rfl, hb7, ho7⟩
  have b7 := Lib.hid hb7
  have k7 := Lib.hid (k6.out.trans (ho7.below (Nat.le_refl _) k6.out.size))
  clear hb7 ho7
  go_wp2
  go_ret
  refine ⟨rfl, ?_, k7.out⟩
  have h := b7.out
  rw [HXE.out] at h
  simpa [zn, cellsL, secL] using h
end Go.Proofs.Ytfnegbcpiejdaaa

/-! ## LogC: The contract of log's Append: what may not be is told; else the record's sector is written, and all is sure.   Conditions: the disk is known whole and has the log's sectors; the record is read in memory that the work does not turn. -/
namespace Go.Proofs.Ytfnegbcpiejdaaa
open Go.RowKit
set_option linter.unusedVariables false

set_option maxRecDepth 20000 in
set_option maxHeartbeats 400000 in
theorem append_nil (gen at_ : Int) (A : Option Addr) (l c : Nat) (w : World) :
    Calls Try.prog 43 #[.pointer none, .int .u32 gen, .int .i64 at_, .slice A l c] w fun e w' => e = .returned (.int .i64 1) ∧ w = w' := by
  go_enter Try.func43, Try.ntmps43
  go_wp2
  go_ret
  exact ⟨rfl, rfl⟩
set_option maxRecDepth 20000 in
set_option maxHeartbeats 400000 in
theorem append_long (g : Nat) (gen at_ : Int) (A : Option Addr) (l c : Nat) (w : World) (hl : 50 < l) :
    Calls Try.prog 43 #[.pointer (some ⟨g, 0, none⟩), .int .u32 gen, .int .i64 at_, .slice A l c] w fun e w' => e = .returned (.int .i64 1) ∧ w = w' := by
  have h1 : decide ((50 : Int) < (l : Int)) = true := decide_eq_true (by omega)
  clear hl
  go_enter Try.func43, Try.ntmps43
  go_wp2
  go_ret
  exact ⟨rfl, rfl⟩
set_option maxRecDepth 20000 in
set_option maxHeartbeats 400000 in
theorem append_out (g : Nat) (gen at_ : Int) (A : Option Addr) (l c : Nat) (w : World) (hl : l ≤ 50) (ha : at_ < 0 ∨ 64 ≤ at_) :
    Calls Try.prog 43 #[.pointer (some ⟨g, 0, none⟩), .int .u32 gen, .int .i64 at_, .slice A l c] w fun e w' => e = .returned (.int .i64 1) ∧ w = w' := by
  have h1 : decide ((50 : Int) < (l : Int)) = false := decide_eq_false (by omega)
  clear hl
  by_cases h2 : at_ < 0
  · have h3 : decide (at_ < 0) = true := decide_eq_true h2
    clear ha
    go_enter Try.func43, Try.ntmps43
    go_wp2
    go_ret
    exact ⟨rfl, rfl⟩
  · have h3 : decide (at_ < 0) = false := decide_eq_false h2
    have h4 : decide ((64 : Int) ≤ at_) = true := decide_eq_true (by omega)
    clear ha
    go_enter Try.func43, Try.ntmps43
    go_wp2
    go_ret
    exact ⟨rfl, rfl⟩

/-- What an Append leaves whose Write fails, or whose Flush, or none. -/
def AppPost (w : World) (gD gS gM n : Nat) (S : Nat → List Nat) (L : Nat → Option (List Nat)) (t : Tr) (k : Nat) (e : Ending) (w' : World) : Prop :=
  e = .returned (.int .i64 (k : Int)) ∧ Dsk w' gD gS gM n S L t ∧ Turns (dk gD gS gM) w w'

set_option maxRecDepth 20000 in
set_option maxHeartbeats 1600000 in
theorem append_any (gD gS gM n : Nat) (S : Nat → List Nat) (L : Nat → Option (List Nat)) (t : Tr) (gen at_ : Nat) (v : Value) (b : List Nat) (B : Nat) (w : World) (h : Dsk w gD gS gM n S L t) (hn : 64 ≤ n) (hx : Bts w B v b) (hB : B ≤ w.heap.size)
    (hl : b.length ≤ 50) (hg : gen < 4294967296) (ha : at_ < 64) :
    Calls Try.prog 43 #[.pointer (some ⟨gD, 0, none⟩), .int .u32 (gen : Int), .int .i64 (at_ : Int), v] w fun e w' =>
      (t.ans ≠ 0 ∧ AppPost w gD gS gM n S L t.next t.ans e w') ∨
      (t.ans = 0 ∧ t.next.ans ≠ 0 ∧ AppPost w gD gS gM n S (upd L at_ (some (secL gen at_ b))) t.next.next t.next.ans e w') ∨
      (t.ans = 0 ∧ t.next.ans = 0 ∧ AppPost w gD gS gM n (upd (last S L) at_ (secL gen at_ b)) (fun _ => none) t.next.next 0 e w') := by
  have HD := Lib.hid h
  have HX := Lib.hid hx
  have HB := Lib.hid hB
  obtain ⟨A, l, c, rfl, e0, -⟩ := hx
  have HL := Lib.hid (show b.length ≤ 50 from hl)
  have HF := Lib.hid (show at_ < n by omega)
  have HS := Lib.hid (sector_any gen at_ _ b B w HX.out HB.out hl hg (by omega))
  have HY := Lib.hid (show (secL gen at_ b).length = 64 from secL_length gen at_ b hl)
  have HZ := Lib.hid (secL_byte gen at_ b hl HX.out.byte)
  have h1 : decide ((50 : Int) < (l : Int)) = false := decide_eq_false (by omega)
  have h3 : decide ((at_ : Int) < 0) = false := decide_eq_false (by omega)
  have h4 : decide ((64 : Int) ≤ (at_ : Int)) = false := decide_eq_false (by omega)
  have h5 : IntKind.i64.wrap (at_ : Int) = (at_ : Int) := by rw [IntKind.wrap_i64]; omega
  obtain ⟨sec, hsec⟩ : ∃ sec, sec = secL gen at_ b := ⟨_, rfl⟩
  have HSE := Lib.hid hsec
  rw [← hsec] at HY HZ ⊢
  clear h hB hl hg hn ha e0 hsec
  go_enter Try.func43, Try.ntmps43
  go_wp2_with fail
  refine HS.out.mono ?_
  rintro e w1 ⟨rfl, hb1, hk1⟩
  rw [← HSE.out] at hb1
  have BK1 := Lib.hid hb1
  have K1 := Lib.hid hk1
  have HD1 := Lib.hid (HD.out.fresh hk1)
  have T1 := Lib.hid (show Turns (dk gD gS gM) w w1 from Turns.of_below hk1 (Nat.le_refl _))
  clear hb1 hk1
  by_cases c1 : t.ans = 0
  · go_wp2_with fail
    refine (dwrite_yes gD gS gM n S L t at_ _ sec w1 HD1.out HF.out c1 (fun w' ho => ⟨w1.heap.size, ?_, Nat.le_refl _⟩) HY.out).mono ?_
    · have h := ho.blk BK1.out (by have := HD.out.lt.1; omega)
      have h := Bts.of_whole (n := 64) h HY.out (by simp [maxLen]) HZ.out
      rw [ho.2] at h
      exact h
    rintro e w2 ⟨rfl, hd2, ht2, _⟩
    have HD2 := Lib.hid hd2
    have T2 := Lib.hid (T1.out.trans ht2)
    clear hd2 ht2
    by_cases c2 : t.next.ans = 0
    · go_wp2_with fail
      refine (dflush_yes _ _ _ _ _ _ _ _ HD2.out c2).mono ?_
      rintro e w3 ⟨rfl, hd3, ht3⟩
      rw [last_upd] at hd3
      have HD3 := Lib.hid hd3
      have T3 := Lib.hid (T2.out.trans ht3)
      clear hd3 ht3
      go_wp2
      go_ret
      exact .inr (.inr ⟨c1, c2, rfl, HD3.out, T3.out⟩)
    · go_wp2_with fail
      refine (dflush_bad _ _ _ _ _ _ _ _ HD2.out c2).mono ?_
      rintro e w3 ⟨rfl, hd3, ht3, _⟩
      have HD3 := Lib.hid hd3
      have T3 := Lib.hid (T2.out.trans ht3)
      clear hd3 ht3
      go_wp2
      go_ret
      exact .inr (.inl ⟨c1, c2, rfl, HD3.out, T3.out⟩)
  · go_wp2_with fail
    refine (dwrite_bad gD gS gM n S L t at_ _ _ w1 HD1.out HF.out c1).mono ?_
    rintro e w2 ⟨rfl, hd2, ht2, _⟩
    have HD2 := Lib.hid hd2
    have T2 := Lib.hid (T1.out.trans ht2)
    have t1 : (((t.ans : Nat) : Int) != 0) = true := by rw [bne_iff_ne]; omega
    clear hd2 ht2
    go_wp2
    go_ret
    exact .inl ⟨c1, rfl, HD2.out, T2.out⟩
end Go.Proofs.Ytfnegbcpiejdaaa

/-! ## LogD: The contract of log's Replay: the records of that gen, from the first one on, or a Read's error.   Conditions: the disk is known whole and has the log's sectors. -/
namespace Go.Proofs.Ytfnegbcpiejdaaa
open Go.RowKit
set_option linter.unusedVariables false

set_option maxRecDepth 20000 in
set_option maxHeartbeats 400000 in
theorem replay_nil (gen : Int) (w : World) :
    Calls Try.prog 37 #[.pointer none, .int .u32 gen] w fun e w' => e = .returned (.tuple #[.slice none 0 0, .int .i64 1]) ∧ w = w' := by
  go_enter Try.func37, Try.ntmps37
  go_wp2
  go_step3
  go_wp2
  (try rw [Exit.noGoto_ret])
  go_ret2
  exact ⟨rfl, rfl⟩

/-- What holds ahead of round k. -/
def RepAt (w : World) (gD gS gM n : Nat) (S : Nat → List Nat) (L : Nat → Option (List Nat)) (t : Tr) (gen k : Nat) (v : Value) (wx : World) : Prop :=
  (∀ j, j < k → IsRec (last S L j) gen j ∧ (tn t j).ans = 0) ∧ Dsk wx gD gS gM n S L (tn t k) ∧ Lst wx (dk gD gS gM) 0 w.heap.size 27 v (pays (last S L) k) ∧ Turns (dk gD gS gM) w wx
/-- What Replay leaves. -/
def RepPost (w : World) (gD gS gM n : Nat) (S : Nat → List Nat) (L : Nat → Option (List Nat)) (t : Tr) (gen : Nat) (e : Ending) (w' : World) : Prop :=
  ∃ m, (∀ j, j < m → IsRec (last S L j) gen j ∧ (tn t j).ans = 0) ∧ Turns (dk gD gS gM) w w' ∧
    ((m = 64 ∧ Dsk w' gD gS gM n S L (tn t m) ∧ ∃ v, e = .returned (.tuple #[v, .int .i64 0]) ∧ Lst w' (dk gD gS gM) 0 w.heap.size 27 v (pays (last S L) m)) ∨
     (m < 64 ∧ (tn t m).ans = 0 ∧ ¬ IsRec (last S L m) gen m ∧ Dsk w' gD gS gM n S L (tn t (m + 1)) ∧ ∃ v, e = .returned (.tuple #[v, .int .i64 0]) ∧ Lst w' (dk gD gS gM) 0 w.heap.size 27 v (pays (last S L) m)) ∨
     (m < 64 ∧ (tn t m).ans ≠ 0 ∧ Dsk w' gD gS gM n S L (tn t (m + 1)) ∧ e = .returned (.tuple #[.slice none 0 0, .int .i64 ((tn t m).ans : Int)])))

/-- The bytes of a record, in the sector's block. -/
theorem pay_el {w : World} {g x lo : Nat} {M : Nat → Prop} {e : TypeId} {s : List Nat} (h : Blk w g 5 (s.map bv).toArray) (hl : s.length = 64) (hb : ∀ y ∈ s, y < 256) (hM : ¬ M g) (he : 5 ≠ e) (hx : x ≤ 50) :
    El w M lo e (.slice (some ⟨g, 9, none⟩) x x) (win s 9 x) := by
  refine El.of_blk h hM he (win_length _ _ _ (by omega)) (Nat.le_refl _) (by unfold maxLen; omega) (fun j hj => ?_) (fun j hj => ?_)
  · rw [win_getD _ _ _ _ hj]
    exact byte_at hb _
  · rw [win_getD _ _ _ _ hj]
    exact cellsL_at s _ (by omega)
/-- A record's bytes, as the sector's slice has them. -/
abbrev payV (g x : Nat) : Value := .slice (if x = 0 then some ⟨g, 0, none⟩ else some ⟨g, 9, none⟩) x x
theorem payV_el {w : World} {g x lo : Nat} {M : Nat → Prop} {e : TypeId} {s : List Nat} (h : Blk w g 5 (s.map bv).toArray) (hl : s.length = 64) (hb : ∀ y ∈ s, y < 256) (hM : ¬ M g) (he : 5 ≠ e) (hx : x ≤ 50) :
    El w M lo e (payV g x) (win s 9 x) := by
  unfold payV
  by_cases h0 : x = 0
  · subst h0
    rw [if_pos rfl]
    exact ⟨_, 0, 0, rfl, win_length _ _ _ (by omega), Nat.le_refl _, fun _ => rfl, by simp [maxLen], fun j hj => absurd hj (by omega), fun h => absurd h (by omega)⟩
  · rw [if_neg h0]
    exact pay_el h hl hb hM he hx
theorem not_rec_nam {s : List Nat} {gen k : Nat} (hl : s.length = 64) (hb : ∀ y ∈ s, y < 256) (hg : gen < 4294967296) (hk : k < 64) (h : nam s gen k = false) : ¬ IsRec s gen k := by
  intro hr
  have h1 := ((isRec_iff hl hb hg (by omega)).1 hr).1
  unfold nam at h
  exact absurd h1 (of_decide_eq_false h)
theorem not_rec_long {s : List Nat} {gen k : Nat} (h : 50 < s.getD 8 0) : ¬ IsRec s gen k := fun hr => by have := hr.1; omega
theorem not_rec_behind {s : List Nat} {gen k j : Nat} (hl : s.length = 64) (hb : ∀ y ∈ s, y < 256) (hg : gen < 4294967296) (hk : k < 64) (h1 : 9 + s.getD 8 0 ≤ j) (h2 : j < 60) (h : s.getD j 0 ≠ 0) : ¬ IsRec s gen k :=
  fun hr => h (((isRec_iff hl hb hg (by omega)).1 hr).2.2 j h1 h2)
theorem rec_all {s : List Nat} {gen k : Nat} (hl : s.length = 64) (hb : ∀ y ∈ s, y < 256) (hg : gen < 4294967296) (hk : k < 64) (h : nam s gen k = true) (h1 : s.getD 8 0 ≤ 50) (h2 : ∀ j, 9 + s.getD 8 0 ≤ j → j < 60 → s.getD j 0 = 0) : IsRec s gen k := by
  unfold nam at h
  exact (isRec_iff hl hb hg (by omega)).2 ⟨of_decide_eq_true h, h1, h2⟩

set_option maxRecDepth 20000 in
set_option maxHeartbeats 3200000 in
theorem replay_any (gD gS gM n : Nat) (S : Nat → List Nat) (L : Nat → Option (List Nat)) (t : Tr) (gen : Nat) (w : World) (h : Dsk w gD gS gM n S L t) (hn : 64 ≤ n) (hg : gen < 4294967296) :
    Calls Try.prog 37 #[.pointer (some ⟨gD, 0, none⟩), .int .u32 (gen : Int)] w (RepPost w gD gS gM n S L t gen) := by
  have HD := Lib.hid h
  have HN := Lib.hid hn
  have HG := Lib.hid hg
  clear h hn hg
  go_enter Try.func37, Try.ntmps37
  go_wp2_with fail
  go_step3
  go_wp2_with fail
  go_step3
  go_wp2_with fail
  go_loopg [6, 15] 64 (fun g s6 s15 wx => ∃ k : Nat, k + g = 64 ∧ s15 = .int .i64 k ∧ RepAt w gD gS gM n S L t gen k s6 wx)
  case atStart => exact ⟨0, rfl, rfl, fun j hj => absurd hj (by omega), HD.out, Lst.nil_ _ _ _ _ _, Turns.refl _ _⟩
  case round =>
    obtain ⟨k, hkg, rfl, hr⟩ := hrel
    have HR := Lib.hid hr
    clear hr
    by_cases hk : k < 64
    · have t1 : decide ((k : Int) < 64) = true := decide_eq_true (by omega)
      have t2 : IntKind.i64.wrap (k : Int) = (k : Int) := by rw [IntKind.wrap_i64]; omega
      by_cases c1 : (tn t k).ans = 0
      · go_wp2_with fail
        refine (dread_yes _ _ _ _ _ _ _ k _ HR.out.2.1 (by have := HN.out; omega) c1).mono ?_
        rintro e w2 ⟨rfl, hb2, hd2, ht2, hs2⟩
        have hlen := hd2.last_ (show k < n by have := HN.out; omega)
        obtain ⟨s, hs⟩ : ∃ s, s = last S L k := ⟨_, rfl⟩
        have HSE := Lib.hid hs
        rw [← hs] at hb2 hlen
        obtain ⟨hl, hb⟩ := hlen
        have HLE := Lib.hid hl
        have HBY := Lib.hid hb
        have BK2 := Lib.hid hb2
        have HD2 := Lib.hid hd2
        have HT2 := Lib.hid (HR.out.2.2.2.trans ht2)
        have HL2 := Lib.hid (HR.out.2.2.1.turns (by rintro q (e | e | e) <;> (have := HD.out.lt; omega)) ht2)
        clear hs hb2 hd2 ht2 hs2 hl hb
        go_wp2_with fail
        refine (named_any (wr.heap.size + 1) s gen k w2 BK2.out HLE.out HBY.out (by omega)).mono ?_
        rintro e w3 ⟨rfl, hk3⟩
        have BK3 := Lib.hid (BK2.out.below hk3 BK2.out.lt)
        have HD3 := Lib.hid (HD2.out.fresh hk3)
        have T23 := Lib.hid (show Turns (dk gD gS gM) w2 w3 from Turns.of_below hk3 (Nat.le_refl _))
        have HT3 := Lib.hid (HT2.out.trans T23.out)
        have HL3 := Lib.hid (HL2.out.turns (by rintro q (e | e | e) <;> (have := HD.out.lt; omega)) T23.out)
        clear hk3
        cases c2 : nam s gen k with
        | false =>
          go_wp2
          (try rw [Exit.noGoto_ret])
          go_ret2
          exact ⟨k, HR.out.1, HT3.out, .inr (.inl ⟨hk, c1, by rw [← HSE.out]; exact not_rec_nam HLE.out HBY.out HG.out hk c2, HD3.out, _, rfl, HL3.out⟩)⟩
        | true =>
          obtain ⟨x, hx⟩ : ∃ x, x = s.getD 8 0 := ⟨_, rfl⟩
          have hc8 : w3.cell? ⟨wr.heap.size + 1, 8, none⟩ = some (.int .u8 (x : Int)) := by
            rw [BK3.out.cell, hx]
            exact cellsL_at s 8 (by rw [HLE.out]; omega)
          have HX := Lib.hid hx
          clear hx
          by_cases c3 : 50 < x
          · have t4 : decide ((50 : Int) < (x : Int)) = true := decide_eq_true (by omega)
            go_wp2
            (try rw [Exit.noGoto_ret])
            go_ret2
            exact ⟨k, HR.out.1, HT3.out, .inr (.inl ⟨hk, c1, by rw [← HSE.out]; exact not_rec_long (by rw [← HX.out]; exact c3), HD3.out, _, rfl, HL3.out⟩)⟩
          · have t4 : decide ((50 : Int) < (x : Int)) = false := decide_eq_false (by omega)
            have t7 : (x : Int) ≤ 50 := by omega
            have t8 : (0 : Int) ≤ (x : Int) := by omega
            obtain ⟨G, rfl⟩ : ∃ G, G = gk := ⟨_, rfl⟩
            obtain ⟨W0, rfl⟩ : ∃ W0, W0 = wr := ⟨_, rfl⟩
            go_wp2_with fail
            go_loopg [48] (60 - (9 + x)) (fun g s48 wx => ∃ j : Nat, j + g = 60 - (9 + x) ∧ s48 = .int .i64 j ∧ (∀ i, i < j → s.getD (9 + x + i) 0 = 0) ∧ wx = w3)
            case atStart => exact ⟨0, by omega, rfl, fun i hi => absurd hi (by omega), rfl⟩
            case round =>
              obtain ⟨j, hjg, rfl, hz, rfl⟩ := hrel
              have HZ := Lib.hid hz
              clear hz
              by_cases hj : j < 60 - (9 + x)
              · obtain ⟨z, hz⟩ : ∃ z, z = s.getD (9 + x + j) 0 := ⟨_, rfl⟩
                have hcz : wr.cell? ⟨W0.heap.size + 1, 9 + x + j, none⟩ = some (.int .u8 (z : Int)) := by
                  rw [BK3.out.cell, hz]
                  exact cellsL_at s _ (by rw [HLE.out]; omega)
                have HZZ := Lib.hid hz
                have t10 : decide ((j : Int) < ((60 - (9 + x) : Nat) : Int)) = true := decide_eq_true (by omega)
                clear hz
                by_cases c4 : z = 0
                · have t9 : (((z : Nat) : Int) != 0) = false := by simp [c4]
                  go_wp2_with fail
                  go_roundg (60 - (9 + x) - (j + 1))
                  case measure => omega
                  case rel =>
                    refine ⟨j + 1, by omega, by go_num, fun i hi => ?_, rfl⟩
                    by_cases e : i = j
                    · subst e
                      rw [← HZZ.out]
                      exact c4
                    · exact HZ.out i (by omega)
                · have t9 : (((z : Nat) : Int) != 0) = true := by simp [c4]
                  go_wp2
                  (try rw [Exit.noGoto_ret])
                  go_ret2
                  exact ⟨k, HR.out.1, HT3.out, .inr (.inl ⟨hk, c1, by rw [← HSE.out]; exact not_rec_behind HLE.out HBY.out HG.out hk (j := 9 + x + j) (by rw [← HX.out]; omega) (by omega) (by rw [← HZZ.out]; exact c4), HD3.out, _, rfl, HL3.out⟩)⟩
              · obtain rfl : j = 60 - (9 + x) := by omega
                have hrec : IsRec (last S L k) gen k := by
                  rw [← HSE.out]
                  refine rec_all HLE.out HBY.out HG.out hk c2 (by rw [← HX.out]; omega) (fun i h1 h2 => ?_)
                  rw [← HX.out] at h1
                  have := HZ.out (i - (9 + x)) (by omega)
                  rw [show 9 + x + (i - (9 + x)) = i by omega] at this
                  exact this
                have HRE := Lib.hid hrec
                clear hrec
                have t10 : decide (((60 - (9 + x) : Nat) : Int) < ((60 - (9 + x) : Nat) : Int)) = false := decide_eq_false (by omega)
                obtain ⟨i0, hi, hz0, hz1, hz2⟩ := info_parts Try.infoB
                have HI := Lib.hid hi
                have HZ0 := Lib.hid hz0
                have HZ1 := Lib.hid hz1
                have HZ2 := Lib.hid hz2
                clear hi hz0 hz1 hz2
                have A4 := Lib.hid (show Below wr.heap.size wr (wr.alloc (.cells #[payV (W0.heap.size + 1) x] 27)) from (Below.refl _ _).alloc (Nat.le_refl _) _)
                have HL4 := Lib.hid (HL3.out.alloc (by rintro q (e | e | e) <;> (have := HD.out.lt; omega)) (.cells #[payV (W0.heap.size + 1) x] 27))
                have BK4 := Lib.hid (BK3.out.below A4.out BK3.out.lt)
                have HB4 := Lib.hid (show w.heap.size ≤ (wr.alloc (.cells #[payV (W0.heap.size + 1) x] 27)).heap.size from Nat.le_trans HT3.out.size A4.out.size)
                have HE4 := Lib.hid (show ∀ j, j < 1 → ∃ u, ([payV (W0.heap.size + 1) x])[j]? = some u ∧ El (wr.alloc (.cells #[payV (W0.heap.size + 1) x] 27)) (dk gD gS gM) 0 27 u (([pay (last S L) k]).getD j []) from by
                  intro j hj
                  obtain rfl : j = 0 := by omega
                  refine ⟨_, rfl, ?_⟩
                  have h := payV_el (lo := 0) (M := dk gD gS gM) (e := 27) BK4.out HLE.out HBY.out (by rintro (e | e | e) <;> (have := HD.out.lt; have := HR.out.2.2.2.size; omega)) (by decide) (show x ≤ 50 by omega)
                  rw [show win s 9 x = pay (last S L) k by unfold pay; rw [← HSE.out, HX.out]] at h
                  exact h)
                have HC4 := Lib.hid (one_cell (w := wr.alloc (.cells #[payV (W0.heap.size + 1) x] 27)) (g := wr.heap.size) (v := payV (W0.heap.size + 1) x) (by simp))
                have HFW := Lib.hid (show (pays (last S L) k).length + 1 ≤ 1000000 by rw [pays_length]; omega)
                go_wp2_with (at_builtin; refine wpList_append_lst rfl (.tmp 55) (.tmp 60) 28 rfl (dk gD gS gM) 0 w.heap.size 27 i0 Try.underlying28 HI.out HZ0.out HZ1.out HZ2.out u6 (pays (last S L) k) rfl HL4.out ⟨wr.heap.size, 0, none⟩ 1 1 [payV (W0.heap.size + 1) x] [pay (last S L) k] rfl rfl rfl HC4.out HE4.out HFW.out HB4.out (Nat.zero_le _) ?_; intro v5 w5 HL5 HK5)
                all_goals
                  have HT5 := Lib.hid ((HT3.out.trans (show Turns (dk gD gS gM) wr (wr.alloc (.cells #[payV (W0.heap.size + 1) x] 27)) from Turns.of_below A4.out (Nat.le_refl _))).below_ HK5.out)
                  have HD5 := Lib.hid ((HD3.out.alloc (.cells #[payV (W0.heap.size + 1) x] 27)).below HK5.out HD.out.lt.1 HD.out.lt.2.1 HD.out.lt.2.2)
                  go_roundg (G - 1)
                  case measure => omega
                  case rel =>
                    refine ⟨k + 1, by omega, by go_num, fun j hj => ?_, HD5.out, ?_, HT5.out⟩
                    · by_cases e : j = k
                      · subst e
                        exact ⟨HRE.out, c1⟩
                      · exact HR.out.1 j (by omega)
                    · rw [pays_succ]
                      exact HL5.out
      · go_wp2_with fail
        refine (dread_bad _ _ _ _ _ _ _ k _ HR.out.2.1 (by have := HN.out; omega) c1).mono ?_
        rintro e w2 ⟨rfl, hd2, ht2, _⟩
        have t3 : ((((tn t k).ans : Nat) : Int) != 0) = true := by rw [bne_iff_ne]; omega
        have HD2 := Lib.hid hd2
        have HT2 := Lib.hid (HR.out.2.2.2.trans ht2)
        clear hd2 ht2
        go_wp2
        (try rw [Exit.noGoto_ret])
        go_ret2
        exact ⟨k, HR.out.1, HT2.out, .inr (.inr ⟨hk, c1, HD2.out, rfl⟩)⟩
    · obtain rfl : k = 64 := by omega
      go_wp2
      (try rw [Exit.noGoto_ret])
      go_ret2
      exact ⟨64, HR.out.1, HR.out.2.2.2, .inl ⟨rfl, HR.out.2.1, _, rfl, HR.out.2.2.1⟩⟩
end Go.Proofs.Ytfnegbcpiejdaaa

/-! ## LogOk: The contracts of log's Append and Replay at a disk without trouble and with nothing loose.   Conditions: the disk is known whole and has the log's sectors. -/
namespace Go.Proofs.Ytfnegbcpiejdaaa
open Go.RowKit
set_option linter.unusedVariables false

theorem append_ok (gD gS gM n : Nat) (S : Nat → List Nat) (gen at_ : Nat) (v : Value) (b : List Nat) (B : Nat) (w : World) (h : Dsk w gD gS gM n S (fun _ => none) Tr.none_) (hn : 64 ≤ n) (hx : Bts w B v b) (hB : B ≤ w.heap.size)
    (hl : b.length ≤ 50) (hg : gen < 4294967296) (ha : at_ < 64) :
    Calls Try.prog 43 #[.pointer (some ⟨gD, 0, none⟩), .int .u32 (gen : Int), .int .i64 (at_ : Int), v] w (AppPost w gD gS gM n (upd S at_ (secL gen at_ b)) (fun _ => none) Tr.none_ 0) := by
  refine (append_any gD gS gM n S _ Tr.none_ gen at_ v b B w h hn hx hB hl hg ha).mono ?_
  rintro e w' (⟨h1, _⟩ | ⟨_, h1, _⟩ | ⟨_, _, h1⟩)
  · exact absurd none_ans h1
  · exact absurd none_ans h1
  · exact h1
/-- What Replay leaves at a disk without trouble. -/
def RepOk (w : World) (gD gS gM n : Nat) (S : Nat → List Nat) (L : Nat → Option (List Nat)) (gen : Nat) (e : Ending) (w' : World) : Prop :=
  ∃ m v, Stop (last S L) gen m ∧ e = .returned (.tuple #[v, .int .i64 0]) ∧ Lst w' (dk gD gS gM) 0 w.heap.size 27 v (pays (last S L) m) ∧ Dsk w' gD gS gM n S L Tr.none_ ∧ Turns (dk gD gS gM) w w'
theorem replay_ok (gD gS gM n : Nat) (S : Nat → List Nat) (L : Nat → Option (List Nat)) (gen : Nat) (w : World) (h : Dsk w gD gS gM n S L Tr.none_) (hn : 64 ≤ n) (hg : gen < 4294967296) :
    Calls Try.prog 37 #[.pointer (some ⟨gD, 0, none⟩), .int .u32 (gen : Int)] w (RepOk w gD gS gM n S L gen) := by
  refine (replay_any gD gS gM n S L Tr.none_ gen w h hn hg).mono ?_
  rintro e w' ⟨m, h1, h2, h3⟩
  rw [tn_none, tn_none] at h3
  rcases h3 with ⟨rfl, h4, v, h5, h6⟩ | ⟨h3, _, h7, h4, v, h5, h6⟩ | ⟨_, h3, _⟩
  · exact ⟨64, v, ⟨Nat.le_refl _, fun j hj => (h1 j hj).1, fun h => absurd h (by omega)⟩, h5, h6, h4, h2⟩
  · exact ⟨m, v, ⟨by omega, fun j hj => (h1 j hj).1, fun _ => h7⟩, h5, h6, h4, h2⟩
  · exact absurd none_ans h3
/-- Just k sectors are records, and behind them there is one of zeros. -/
theorem stop_of {F : Nat → List Nat} {gen k : Nat} {f : Nat → List Nat} (hk : k < 64) (h : ∀ j, j < k → F j = secL gen j (f j) ∧ (f j).length ≤ 50) (hz : ¬ IsRec (F k) gen k) : Stop F gen k :=
  ⟨by omega, fun j hj => by rw [(h j hj).1]; exact secL_rec (h j hj).2, fun _ => hz⟩
theorem pay_sec {F : Nat → List Nat} {gen j : Nat} {b : List Nat} (h : F j = secL gen j b) (hb : b.length ≤ 50) : pay F j = b := by
  unfold pay
  rw [h, secL_at8 hb, secL_pay]
end Go.Proofs.Ytfnegbcpiejdaaa

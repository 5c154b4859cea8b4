/-
  The contracts of log's number and named: a number that stands in a sector; whether a sector has that gen, that number and its sum.
  Conditions: the bytes are read in memory.
-/
import Derived.Test.YtckabekimdcdcaaGen
import Derived.Deep.RegionHeld3
import Derived.Deep.RegionWith
import Derived.BigQuiet
namespace Go.Proofs.Ytckabekimdcdcaa
open Go.RowKit
set_option linter.unusedVariables false

theorem getV_lt (s : List Nat) (a : Nat) (hb : ∀ y ∈ s, y < 256) (h : a + 4 ≤ s.length) : ((le (win s a 4) : Nat) : Int) < 4294967296 := by
  have h1 := le_lt (win s a 4) (win_byte s a 4 (fun j hj => by have := hb _ (List.getElem_mem hj); simpa [hj] using this))
  rw [win_length s a 4 h] at h1
  omega
set_option maxRecDepth 20000 in
set_option maxHeartbeats 400000 in
theorem number_any (v : Value) (s : List Nat) (B a : Nat) (w : World) (h : Bts w B v s) (ha : a + 4 ≤ s.length) :
    Calls Try.prog 50 #[v, .int .i64 (a : Int)] w fun e w' => e = .returned (.int .u32 ((le (win s a 4) : Nat) : Int)) ∧ w = w' := by
  have HG := Lib.hid (get_yes v s B (a : Int) 4 w h ⟨by omega, by omega, by omega, by omega⟩)
  have h1 := getV_lt s a h.byte ha
  have h0 : (0 : Int) ≤ ((le (win s a 4) : Nat) : Int) := Int.natCast_nonneg _
  have hx : getV s (a : Int) 4 = ((le (win s a 4) : Nat) : Int) := rfl
  rw [hx] at HG
  obtain ⟨x, hx⟩ : ∃ x : Int, x = ((le (win s a 4) : Nat) : Int) := ⟨_, rfl⟩
  rw [← hx] at HG h0 h1 ⊢
  clear h hx
  have h3 : x % 4294967296 = x := by omega
  obtain ⟨z, hz⟩ : ∃ z : Int, z = (a : Int) := ⟨_, rfl⟩
  rw [← hz] at HG ⊢
  clear hz
  go_enter Try.func50, Try.ntmps50
  go_wp2_with fail
  refine HG.out.mono ?_
  rintro e w1 ⟨rfl, rfl⟩
  go_wp2
  go_ret
  exact ⟨by simp, rfl⟩

/-- Has that sector that gen, that number and its sum? -/
def nam (s : List Nat) (gen n : Nat) : Bool := decide (le (win s 60 4) = sumM (s.take 60) ∧ le (win s 0 4) = gen ∧ le (win s 4 4) = n)

/-- What holds while a sector is looked at. -/
def NamS (w : World) (B : Nat) (v : Value) (s : List Nat) (w' : World) : Prop := Bts w' B v s ∧ Below w.heap.size w w'
theorem NamS.and_left {w w' : World} {B : Nat} {v : Value} {s : List Nat} (h : NamS w B v s w') : Bts w' B v s := h.1
theorem NamS.below {w w' : World} {B : Nat} {v : Value} {s : List Nat} (h : NamS w B v s w') : Below w.heap.size w w' := h.2
theorem NamS.start {w : World} {B : Nat} {v : Value} {s : List Nat} (h : Bts w B v s) : NamS w B v s w.drew := ⟨h, (Below.refl _ _).drew⟩
theorem NamS.alloc {w w' : World} {B : Nat} {v : Value} {s : List Nat} (h : NamS w B v s w') (hB : B ≤ w.heap.size) (o : Obj) : NamS w B v s (w'.alloc o) :=
  ⟨h.1.keep fun p hp => World.cell?_alloc_lt w' o p (Nat.lt_of_lt_of_le hp (Nat.le_trans hB h.2.size)), h.2.alloc h.2.size o⟩

set_option maxRecDepth 20000 in
set_option maxHeartbeats 1000000 in
theorem named_any (g : Nat) (s : List Nat) (gen n : Nat) (w : World) (h : Blk w g 5 (s.map bv).toArray) (hl : s.length = 64) (hb : ∀ y ∈ s, y < 256) (hn : n < 4294967296) :
    Calls Try.prog 35 #[.slice (some ⟨g, 0, none⟩) 64 64, .int .u32 (gen : Int), .int .i64 (n : Int)] w fun e w' => e = .returned (.bool (nam s gen n)) ∧ Below w.heap.size w w' := by
  have HX := Lib.hid (Bts.of_whole h hl (by simp [maxLen]) hb)
  obtain ⟨f, hf⟩ : ∃ f : Int → Nat, ∀ z, f z = le (win s z.toNat 4) := ⟨_, fun _ => rfl⟩
  have NZ := Lib.hid (show ∀ (W : World) (z : Int), 0 ≤ z → z ≤ 60 → Bts W w.heap.size (.slice (some ⟨g, 0, none⟩) 64 64) s → Calls Try.prog 50 #[.slice (some ⟨g, 0, none⟩) 64 64, .int .i64 z] W fun e w' => e = .returned (.int .u32 ((f z : Nat) : Int)) ∧ W = w' from by
    intro W z h0 h1 hW
    obtain ⟨k, rfl⟩ := Int.eq_ofNat_of_zero_le h0
    rw [hf]
    exact number_any _ s _ k W hW (by omega))
  have NS := Lib.hid (fun (W : World) (g' : Nat) (hW : Bts W w.heap.size (.slice (some ⟨g, 0, none⟩) 64 64) s) (hc : W.cell? ⟨g', 0, none⟩ = some (.slice (some ⟨g, 0, none⟩) 60 64)) => sum_one W g' _ _ (s.take 60) hc (hW.front 60 (by omega)))
  obtain ⟨t, ht⟩ : ∃ t, t = sumM (s.take 60) := ⟨_, rfl⟩
  have HN := Lib.hid (show nam s gen n = decide (f 60 = t ∧ f 0 = gen ∧ f 4 = n) by unfold nam; rw [hf, hf, hf, ht]; rfl)
  rw [← ht] at NS
  clear hf ht h hl hb
  have h3 : IntKind.u32.wrap (n : Int) = (n : Int) := by rw [IntKind.wrap_u32']; omega
  have B0 := Lib.hid (Nat.le_refl w.heap.size)
  by_cases c1 : f 60 = t
  · by_cases c2 : f 0 = gen
    · by_cases c3 : f 4 = n
      · have d1 := dec_eq c1
        have d2 := dec_eq c2
        have d3 := dec_eq c3
        go_enter Try.func35, Try.ntmps35
        go_wp2_with fail
        go_region_held3 (fun w' => NamS w w.heap.size (.slice (some ⟨g, 0, none⟩) 64 64) s w') (first | assumption | exact NamS.start HX.out | exact NamS.alloc (by assumption) B0.out _)
          (first
            | (go_at_call 50; refine (NZ.out _ _ ?_ ?_ (NamS.and_left (by assumption))).mono ?_; decide; decide; rintro e w' ⟨rfl, rfl⟩)
            | (go_at_call 49; refine (NS.out _ _ (NamS.and_left (by assumption)) ?_).mono ?_; (simp); rintro e w' ⟨rfl, rfl⟩))
        all_goals
          go_wp2
          go_ret
          exact ⟨by rw [HN.out]; simp [c1, c2, c3], NamS.below (by assumption)⟩
      · have d1 := dec_eq c1
        have d2 := dec_eq c2
        have d3 := dec_ne c3
        go_enter Try.func35, Try.ntmps35
        go_wp2_with fail
        go_region_held3 (fun w' => NamS w w.heap.size (.slice (some ⟨g, 0, none⟩) 64 64) s w') (first | assumption | exact NamS.start HX.out | exact NamS.alloc (by assumption) B0.out _)
          (first
            | (go_at_call 50; refine (NZ.out _ _ ?_ ?_ (NamS.and_left (by assumption))).mono ?_; decide; decide; rintro e w' ⟨rfl, rfl⟩)
            | (go_at_call 49; refine (NS.out _ _ (NamS.and_left (by assumption)) ?_).mono ?_; (simp); rintro e w' ⟨rfl, rfl⟩))
        all_goals
          go_wp2
          go_ret
          exact ⟨by rw [HN.out]; simp [c1, c2, c3], NamS.below (by assumption)⟩
    · have d1 := dec_eq c1
      have d2 := dec_ne c2
      go_enter Try.func35, Try.ntmps35
      go_wp2_with fail
      refine wp_region_noPanic ?_
      refine wp_region_any (by kernel_rfl) ?_
      try (change wpAny _ _ _ _ _ _ _ (World.drew _))
      refine wpAny_take (i := 0) (v := ?v1) rfl (by kernel_rfl) (by kernel_rfl) (by kernel_rfl) (fun _ _ _ h => h) (Or.inl ⟨by rfl, ?hy1⟩) ?rest1
      case hy1 => (intro w; go_simp; try with_reducible rfl)
      try simp only [Act.put]
      refine wpAny_take (i := 2) (v := ?v2) rfl (by kernel_rfl) (by kernel_rfl) (by kernel_rfl) (fun _ _ _ h => h) (Or.inl ⟨by rfl, ?hy2⟩) ?rest2
      case hy2 => (intro w; go_simp; try with_reducible rfl)
      try simp only [Act.put]
      refine wpAny_take (i := 3) (v := ?v3) rfl (by kernel_rfl) (by kernel_rfl) (by kernel_rfl) (fun _ _ _ h => h) (Or.inl ⟨by rfl, ?hy3⟩) ?rest3
      case hy3 => (intro w; go_simp; try with_reducible rfl)
      try simp only [Act.put]
      refine wpAny_ready (rs := [1, 4]) (by kernel_rfl) (by simp) ?_
      refine AllReady.cons rfl (fun K hK => ?_) ?_
      · go_simp
        go_wp2_with (first | (go_at_call 50; refine (NZ.out _ _ ?_ ?_ ?_).mono ?_; decide; decide; (first | exact HX.out | exact NamS.and_left (NamS.alloc (NamS.start HX.out) B0.out _)); rintro e w' ⟨rfl, rfl⟩) | (go_at_call 49; refine (NS.out _ _ ?_ ?_).mono ?_; exact NamS.and_left (NamS.alloc (NamS.start HX.out) B0.out _); (simp); rintro e w' ⟨rfl, rfl⟩))
        try (refine hK _ _ ?_)
        try (clear hK K)
        refine wpAny_ready (rs := [4]) (by kernel_rfl) (by simp) ?_
        refine AllReady.cons rfl (fun K hK => ?_) ?_
        · go_simp
          try (refine hK _ _ ?_)
          try (clear hK K)
          refine wpAny_ready (rs := [5]) (by kernel_rfl) (by simp) ?_
          refine AllReady.cons rfl (fun K hK => ?_) ?_
          · go_simp
            go_wp2_with (first | (go_at_call 50; refine (NZ.out _ _ ?_ ?_ ?_).mono ?_; decide; decide; (first | exact HX.out | exact NamS.and_left (NamS.alloc (NamS.start HX.out) B0.out _)); rintro e w' ⟨rfl, rfl⟩) | (go_at_call 49; refine (NS.out _ _ ?_ ?_).mono ?_; exact NamS.and_left (NamS.alloc (NamS.start HX.out) B0.out _); (simp); rintro e w' ⟨rfl, rfl⟩))
            try (refine hK _ _ ?_)
            try (clear hK K)
            refine wpAny_take (i := 6) (v := ?v4) rfl (by kernel_rfl) (by kernel_rfl) (by kernel_rfl) (fun _ _ _ h => h) (Or.inl ⟨by rfl, ?hy4⟩) ?rest4
            case hy4 => (intro w; go_simp; try with_reducible rfl)
            try simp only [Act.put]
            refine wpAny_take (i := 7) (v := ?v5) rfl (by kernel_rfl) (by kernel_rfl) (by kernel_rfl) (fun _ _ _ h => h) (Or.inl ⟨by rfl, ?hy5⟩) ?rest5
            case hy5 => (intro w; go_simp; try with_reducible rfl)
            try simp only [Act.put]
            refine wpAny_take (i := 8) (v := ?v6) rfl (by kernel_rfl) (by kernel_rfl) (by kernel_rfl) (fun _ _ _ h => h) (Or.inl ⟨by rfl, ?hy6⟩) ?rest6
            case hy6 => (intro w; go_simp; try with_reducible rfl)
            try simp only [Act.put]
            refine wpAny_take (i := 10) (v := ?v7) rfl (by kernel_rfl) (by kernel_rfl) (by kernel_rfl) (fun _ _ _ h => h) (Or.inl ⟨by rfl, ?hy7⟩) ?rest7
            case hy7 => (intro w; go_simp; try with_reducible rfl)
            try simp only [Act.put]
            refine wpAny_ready (rs := [9]) (by kernel_rfl) (by simp) ?_
            refine AllReady.cons rfl (fun K hK => ?_) ?_
            · go_simp
              go_wp2_with (first | (go_at_call 50; refine (NZ.out _ _ ?_ ?_ ?_).mono ?_; decide; decide; (first | exact HX.out | exact NamS.and_left (NamS.alloc (NamS.start HX.out) B0.out _)); rintro e w' ⟨rfl, rfl⟩) | (go_at_call 49; refine (NS.out _ _ ?_ ?_).mono ?_; exact NamS.and_left (NamS.alloc (NamS.start HX.out) B0.out _); (simp); rintro e w' ⟨rfl, rfl⟩))
              try (refine hK _ _ ?_)
              try (clear hK K)
              refine wpAny_take (i := 11) (v := ?v8) rfl (by kernel_rfl) (by kernel_rfl) (by kernel_rfl) (fun _ _ _ h => h) (Or.inl ⟨by rfl, ?hy8⟩) ?rest8
              case hy8 => (intro w; go_simp; try with_reducible rfl)
              try simp only [Act.put]
              refine wpAny_take (i := 12) (v := ?v9) rfl (by kernel_rfl) (by kernel_rfl) (by kernel_rfl) (fun _ _ _ h => h) (Or.inl ⟨by rfl, ?hy9⟩) ?rest9
              case hy9 => (intro w; go_simp; try with_reducible rfl)
              try simp only [Act.put]
              refine wpAny_take (i := 13) (v := ?v10) rfl (by kernel_rfl) (by kernel_rfl) (by kernel_rfl) (fun _ _ _ h => h) (Or.inl ⟨by rfl, ?hy10⟩) ?rest10
              case hy10 => (intro w; go_simp; try with_reducible rfl)
              try simp only [Act.put]
              refine wpAny_take (i := 14) (v := undef) rfl (by kernel_rfl) (by kernel_rfl) (by kernel_rfl) (fun _ _ _ h => h) (Or.inr ⟨by rfl, rfl⟩) ?_
              try simp only [Act.put]
              refine wpAny_take (i := 16) (v := undef) rfl (by kernel_rfl) (by kernel_rfl) (by kernel_rfl) (fun _ _ _ h => h) (Or.inr ⟨by rfl, rfl⟩) ?_
              try simp only [Act.put]
              refine wpAny_take (i := 17) (v := undef) rfl (by kernel_rfl) (by kernel_rfl) (by kernel_rfl) (fun _ _ _ h => h) (Or.inr ⟨by rfl, rfl⟩) ?_
              try simp only [Act.put]
              refine wpAny_ready (rs := [15]) (by kernel_rfl) (by simp) ?_
              refine AllReady.cons rfl (fun K hK => ?_) ?_
              · go_simp
                try (refine hK _ _ ?_)
                try (clear hK K)
                refine wpAny_take (i := 18) (v := undef) rfl (by kernel_rfl) (by kernel_rfl) (by kernel_rfl) (fun _ _ _ h => h) (Or.inr ⟨by rfl, rfl⟩) ?_
                try simp only [Act.put]
                refine wpAny_take (i := 19) (v := ?v11) rfl (by kernel_rfl) (by kernel_rfl) (by kernel_rfl) (fun _ _ _ h => h) (Or.inl ⟨by rfl, ?hy11⟩) ?rest11
                case hy11 => (intro w; go_simp; try with_reducible rfl)
                try simp only [Act.put]
                refine wpAny_take (i := 20) (v := ?v12) rfl (by kernel_rfl) (by kernel_rfl) (by kernel_rfl) (fun _ _ _ h => h) (Or.inl ⟨by rfl, ?hy12⟩) ?rest12
                case hy12 => (intro w; go_simp; try with_reducible rfl)
                try simp only [Act.put]
                refine wpAny_done (by kernel_rfl) ?_ _
                refine NoPanic.normal ?_
                go_simp
                go_wp2
                go_ret
                exact ⟨by rw [HN.out]; simp [c1, c2], NamS.below (NamS.alloc (NamS.start HX.out) B0.out _)⟩
              exact AllReady.nil
            exact AllReady.nil
          exact AllReady.nil
        exact AllReady.nil
      refine AllReady.cons rfl (fun K hK => ?_) ?_
      · go_simp
        try (refine hK _ _ ?_)
        try (clear hK K)
        refine wpAny_ready (rs := [1]) (by kernel_rfl) (by simp) ?_
        refine AllReady.cons rfl (fun K hK => ?_) ?_
        · go_simp
          go_wp2_with (first | (go_at_call 50; refine (NZ.out _ _ ?_ ?_ ?_).mono ?_; decide; decide; (first | exact HX.out | exact NamS.and_left (NamS.alloc (NamS.start HX.out) B0.out _)); rintro e w' ⟨rfl, rfl⟩) | (go_at_call 49; refine (NS.out _ _ ?_ ?_).mono ?_; exact NamS.and_left (NamS.alloc (NamS.start HX.out) B0.out _); (simp); rintro e w' ⟨rfl, rfl⟩))
          try (refine hK _ _ ?_)
          try (clear hK K)
          refine wpAny_ready (rs := [5]) (by kernel_rfl) (by simp) ?_
          refine AllReady.cons rfl (fun K hK => ?_) ?_
          · go_simp
            go_wp2_with (first | (go_at_call 50; refine (NZ.out _ _ ?_ ?_ ?_).mono ?_; decide; decide; (first | exact HX.out | exact NamS.and_left (NamS.alloc (NamS.start HX.out) B0.out _)); rintro e w' ⟨rfl, rfl⟩) | (go_at_call 49; refine (NS.out _ _ ?_ ?_).mono ?_; exact NamS.and_left (NamS.alloc (NamS.start HX.out) B0.out _); (simp); rintro e w' ⟨rfl, rfl⟩))
            try (refine hK _ _ ?_)
            try (clear hK K)
            refine wpAny_take (i := 6) (v := ?v13) rfl (by kernel_rfl) (by kernel_rfl) (by kernel_rfl) (fun _ _ _ h => h) (Or.inl ⟨by rfl, ?hy13⟩) ?rest13
            case hy13 => (intro w; go_simp; try with_reducible rfl)
            try simp only [Act.put]
            refine wpAny_take (i := 7) (v := ?v14) rfl (by kernel_rfl) (by kernel_rfl) (by kernel_rfl) (fun _ _ _ h => h) (Or.inl ⟨by rfl, ?hy14⟩) ?rest14
            case hy14 => (intro w; go_simp; try with_reducible rfl)
            try simp only [Act.put]
            refine wpAny_take (i := 8) (v := ?v15) rfl (by kernel_rfl) (by kernel_rfl) (by kernel_rfl) (fun _ _ _ h => h) (Or.inl ⟨by rfl, ?hy15⟩) ?rest15
            case hy15 => (intro w; go_simp; try with_reducible rfl)
            try simp only [Act.put]
            refine wpAny_take (i := 10) (v := ?v16) rfl (by kernel_rfl) (by kernel_rfl) (by kernel_rfl) (fun _ _ _ h => h) (Or.inl ⟨by rfl, ?hy16⟩) ?rest16
            case hy16 => (intro w; go_simp; try with_reducible rfl)
            try simp only [Act.put]
            refine wpAny_ready (rs := [9]) (by kernel_rfl) (by simp) ?_
            refine AllReady.cons rfl (fun K hK => ?_) ?_
            · go_simp
              go_wp2_with (first | (go_at_call 50; refine (NZ.out _ _ ?_ ?_ ?_).mono ?_; decide; decide; (first | exact HX.out | exact NamS.and_left (NamS.alloc (NamS.start HX.out) B0.out _)); rintro e w' ⟨rfl, rfl⟩) | (go_at_call 49; refine (NS.out _ _ ?_ ?_).mono ?_; exact NamS.and_left (NamS.alloc (NamS.start HX.out) B0.out _); (simp); rintro e w' ⟨rfl, rfl⟩))
              try (refine hK _ _ ?_)
              try (clear hK K)
              refine wpAny_take (i := 11) (v := ?v17) rfl (by kernel_rfl) (by kernel_rfl) (by kernel_rfl) (fun _ _ _ h => h) (Or.inl ⟨by rfl, ?hy17⟩) ?rest17
              case hy17 => (intro w; go_simp; try with_reducible rfl)
              try simp only [Act.put]
              refine wpAny_take (i := 12) (v := ?v18) rfl (by kernel_rfl) (by kernel_rfl) (by kernel_rfl) (fun _ _ _ h => h) (Or.inl ⟨by rfl, ?hy18⟩) ?rest18
              case hy18 => (intro w; go_simp; try with_reducible rfl)
              try simp only [Act.put]
              refine wpAny_take (i := 13) (v := ?v19) rfl (by kernel_rfl) (by kernel_rfl) (by kernel_rfl) (fun _ _ _ h => h) (Or.inl ⟨by rfl, ?hy19⟩) ?rest19
              case hy19 => (intro w; go_simp; try with_reducible rfl)
              try simp only [Act.put]
              refine wpAny_take (i := 14) (v := undef) rfl (by kernel_rfl) (by kernel_rfl) (by kernel_rfl) (fun _ _ _ h => h) (Or.inr ⟨by rfl, rfl⟩) ?_
              try simp only [Act.put]
              refine wpAny_take (i := 16) (v := undef) rfl (by kernel_rfl) (by kernel_rfl) (by kernel_rfl) (fun _ _ _ h => h) (Or.inr ⟨by rfl, rfl⟩) ?_
              try simp only [Act.put]
              refine wpAny_take (i := 17) (v := undef) rfl (by kernel_rfl) (by kernel_rfl) (by kernel_rfl) (fun _ _ _ h => h) (Or.inr ⟨by rfl, rfl⟩) ?_
              try simp only [Act.put]
              refine wpAny_ready (rs := [15]) (by kernel_rfl) (by simp) ?_
              refine AllReady.cons rfl (fun K hK => ?_) ?_
              · go_simp
                try (refine hK _ _ ?_)
                try (clear hK K)
                refine wpAny_take (i := 18) (v := undef) rfl (by kernel_rfl) (by kernel_rfl) (by kernel_rfl) (fun _ _ _ h => h) (Or.inr ⟨by rfl, rfl⟩) ?_
                try simp only [Act.put]
                refine wpAny_take (i := 19) (v := ?v20) rfl (by kernel_rfl) (by kernel_rfl) (by kernel_rfl) (fun _ _ _ h => h) (Or.inl ⟨by rfl, ?hy20⟩) ?rest20
                case hy20 => (intro w; go_simp; try with_reducible rfl)
                try simp only [Act.put]
                refine wpAny_take (i := 20) (v := ?v21) rfl (by kernel_rfl) (by kernel_rfl) (by kernel_rfl) (fun _ _ _ h => h) (Or.inl ⟨by rfl, ?hy21⟩) ?rest21
                case hy21 => (intro w; go_simp; try with_reducible rfl)
                try simp only [Act.put]
                refine wpAny_done (by kernel_rfl) ?_ _
                refine NoPanic.normal ?_
                go_simp
                go_wp2
                go_ret
                exact ⟨by rw [HN.out]; simp [c1, c2], NamS.below (NamS.alloc (NamS.start HX.out) B0.out _)⟩
              exact AllReady.nil
            exact AllReady.nil
          exact AllReady.nil
        exact AllReady.nil
      exact AllReady.nil
  · have d1 := dec_ne c1
    go_enter Try.func35, Try.ntmps35
    go_wp2_with fail
    refine wp_region_noPanic ?_
    refine wp_region_any (by kernel_rfl) ?_
    try (change wpAny _ _ _ _ _ _ _ (World.drew _))
    refine wpAny_take (i := 0) (v := ?v22) rfl (by kernel_rfl) (by kernel_rfl) (by kernel_rfl) (fun _ _ _ h => h) (Or.inl ⟨by rfl, ?hy22⟩) ?rest22
    case hy22 => (intro w; go_simp; try with_reducible rfl)
    try simp only [Act.put]
    refine wpAny_take (i := 2) (v := ?v23) rfl (by kernel_rfl) (by kernel_rfl) (by kernel_rfl) (fun _ _ _ h => h) (Or.inl ⟨by rfl, ?hy23⟩) ?rest23
    case hy23 => (intro w; go_simp; try with_reducible rfl)
    try simp only [Act.put]
    refine wpAny_take (i := 3) (v := ?v24) rfl (by kernel_rfl) (by kernel_rfl) (by kernel_rfl) (fun _ _ _ h => h) (Or.inl ⟨by rfl, ?hy24⟩) ?rest24
    case hy24 => (intro w; go_simp; try with_reducible rfl)
    try simp only [Act.put]
    refine wpAny_ready (rs := [1, 4]) (by kernel_rfl) (by simp) ?_
    refine AllReady.cons rfl (fun K hK => ?_) ?_
    · go_simp
      go_wp2_with (first | (go_at_call 50; refine (NZ.out _ _ ?_ ?_ ?_).mono ?_; decide; decide; (first | exact HX.out | exact NamS.and_left (NamS.alloc (NamS.start HX.out) B0.out _)); rintro e w' ⟨rfl, rfl⟩) | (go_at_call 49; refine (NS.out _ _ ?_ ?_).mono ?_; exact NamS.and_left (NamS.alloc (NamS.start HX.out) B0.out _); (simp); rintro e w' ⟨rfl, rfl⟩))
      try (refine hK _ _ ?_)
      try (clear hK K)
      refine wpAny_ready (rs := [4]) (by kernel_rfl) (by simp) ?_
      refine AllReady.cons rfl (fun K hK => ?_) ?_
      · go_simp
        try (refine hK _ _ ?_)
        try (clear hK K)
        refine wpAny_ready (rs := [5]) (by kernel_rfl) (by simp) ?_
        refine AllReady.cons rfl (fun K hK => ?_) ?_
        · go_simp
          go_wp2_with (first | (go_at_call 50; refine (NZ.out _ _ ?_ ?_ ?_).mono ?_; decide; decide; (first | exact HX.out | exact NamS.and_left (NamS.alloc (NamS.start HX.out) B0.out _)); rintro e w' ⟨rfl, rfl⟩) | (go_at_call 49; refine (NS.out _ _ ?_ ?_).mono ?_; exact NamS.and_left (NamS.alloc (NamS.start HX.out) B0.out _); (simp); rintro e w' ⟨rfl, rfl⟩))
          try (refine hK _ _ ?_)
          try (clear hK K)
          refine wpAny_take (i := 6) (v := ?v25) rfl (by kernel_rfl) (by kernel_rfl) (by kernel_rfl) (fun _ _ _ h => h) (Or.inl ⟨by rfl, ?hy25⟩) ?rest25
          case hy25 => (intro w; go_simp; try with_reducible rfl)
          try simp only [Act.put]
          refine wpAny_take (i := 7) (v := ?v26) rfl (by kernel_rfl) (by kernel_rfl) (by kernel_rfl) (fun _ _ _ h => h) (Or.inl ⟨by rfl, ?hy26⟩) ?rest26
          case hy26 => (intro w; go_simp; try with_reducible rfl)
          try simp only [Act.put]
          refine wpAny_take (i := 8) (v := undef) rfl (by kernel_rfl) (by kernel_rfl) (by kernel_rfl) (fun _ _ _ h => h) (Or.inr ⟨by rfl, rfl⟩) ?_
          try simp only [Act.put]
          refine wpAny_take (i := 10) (v := undef) rfl (by kernel_rfl) (by kernel_rfl) (by kernel_rfl) (fun _ _ _ h => h) (Or.inr ⟨by rfl, rfl⟩) ?_
          try simp only [Act.put]
          refine wpAny_ready (rs := [9]) (by kernel_rfl) (by simp) ?_
          refine AllReady.cons rfl (fun K hK => ?_) ?_
          · go_simp
            try (refine hK _ _ ?_)
            try (clear hK K)
            refine wpAny_take (i := 11) (v := undef) rfl (by kernel_rfl) (by kernel_rfl) (by kernel_rfl) (fun _ _ _ h => h) (Or.inr ⟨by rfl, rfl⟩) ?_
            try simp only [Act.put]
            refine wpAny_take (i := 12) (v := ?v27) rfl (by kernel_rfl) (by kernel_rfl) (by kernel_rfl) (fun _ _ _ h => h) (Or.inl ⟨by rfl, ?hy27⟩) ?rest27
            case hy27 => (intro w; go_simp; try with_reducible rfl)
            try simp only [Act.put]
            refine wpAny_take (i := 13) (v := ?v28) rfl (by kernel_rfl) (by kernel_rfl) (by kernel_rfl) (fun _ _ _ h => h) (Or.inl ⟨by rfl, ?hy28⟩) ?rest28
            case hy28 => (intro w; go_simp; try with_reducible rfl)
            try simp only [Act.put]
            refine wpAny_take (i := 14) (v := undef) rfl (by kernel_rfl) (by kernel_rfl) (by kernel_rfl) (fun _ _ _ h => h) (Or.inr ⟨by rfl, rfl⟩) ?_
            try simp only [Act.put]
            refine wpAny_take (i := 16) (v := undef) rfl (by kernel_rfl) (by kernel_rfl) (by kernel_rfl) (fun _ _ _ h => h) (Or.inr ⟨by rfl, rfl⟩) ?_
            try simp only [Act.put]
            refine wpAny_take (i := 17) (v := undef) rfl (by kernel_rfl) (by kernel_rfl) (by kernel_rfl) (fun _ _ _ h => h) (Or.inr ⟨by rfl, rfl⟩) ?_
            try simp only [Act.put]
            refine wpAny_ready (rs := [15]) (by kernel_rfl) (by simp) ?_
            refine AllReady.cons rfl (fun K hK => ?_) ?_
            · go_simp
              try (refine hK _ _ ?_)
              try (clear hK K)
              refine wpAny_take (i := 18) (v := undef) rfl (by kernel_rfl) (by kernel_rfl) (by kernel_rfl) (fun _ _ _ h => h) (Or.inr ⟨by rfl, rfl⟩) ?_
              try simp only [Act.put]
              refine wpAny_take (i := 19) (v := ?v29) rfl (by kernel_rfl) (by kernel_rfl) (by kernel_rfl) (fun _ _ _ h => h) (Or.inl ⟨by rfl, ?hy29⟩) ?rest29
              case hy29 => (intro w; go_simp; try with_reducible rfl)
              try simp only [Act.put]
              refine wpAny_take (i := 20) (v := ?v30) rfl (by kernel_rfl) (by kernel_rfl) (by kernel_rfl) (fun _ _ _ h => h) (Or.inl ⟨by rfl, ?hy30⟩) ?rest30
              case hy30 => (intro w; go_simp; try with_reducible rfl)
              try simp only [Act.put]
              refine wpAny_done (by kernel_rfl) ?_ _
              refine NoPanic.normal ?_
              go_simp
              go_wp2
              go_ret
              exact ⟨by rw [HN.out]; simp [c1], NamS.below (NamS.alloc (NamS.start HX.out) B0.out _)⟩
            exact AllReady.nil
          exact AllReady.nil
        exact AllReady.nil
      exact AllReady.nil
    refine AllReady.cons rfl (fun K hK => ?_) ?_
    · go_simp
      try (refine hK _ _ ?_)
      try (clear hK K)
      refine wpAny_ready (rs := [1]) (by kernel_rfl) (by simp) ?_
      refine AllReady.cons rfl (fun K hK => ?_) ?_
      · go_simp
        go_wp2_with (first | (go_at_call 50; refine (NZ.out _ _ ?_ ?_ ?_).mono ?_; decide; decide; (first | exact HX.out | exact NamS.and_left (NamS.alloc (NamS.start HX.out) B0.out _)); rintro e w' ⟨rfl, rfl⟩) | (go_at_call 49; refine (NS.out _ _ ?_ ?_).mono ?_; exact NamS.and_left (NamS.alloc (NamS.start HX.out) B0.out _); (simp); rintro e w' ⟨rfl, rfl⟩))
        try (refine hK _ _ ?_)
        try (clear hK K)
        refine wpAny_ready (rs := [5]) (by kernel_rfl) (by simp) ?_
        refine AllReady.cons rfl (fun K hK => ?_) ?_
        · go_simp
          go_wp2_with (first | (go_at_call 50; refine (NZ.out _ _ ?_ ?_ ?_).mono ?_; decide; decide; (first | exact HX.out | exact NamS.and_left (NamS.alloc (NamS.start HX.out) B0.out _)); rintro e w' ⟨rfl, rfl⟩) | (go_at_call 49; refine (NS.out _ _ ?_ ?_).mono ?_; exact NamS.and_left (NamS.alloc (NamS.start HX.out) B0.out _); (simp); rintro e w' ⟨rfl, rfl⟩))
          try (refine hK _ _ ?_)
          try (clear hK K)
          refine wpAny_take (i := 6) (v := ?v31) rfl (by kernel_rfl) (by kernel_rfl) (by kernel_rfl) (fun _ _ _ h => h) (Or.inl ⟨by rfl, ?hy31⟩) ?rest31
          case hy31 => (intro w; go_simp; try with_reducible rfl)
          try simp only [Act.put]
          refine wpAny_take (i := 7) (v := ?v32) rfl (by kernel_rfl) (by kernel_rfl) (by kernel_rfl) (fun _ _ _ h => h) (Or.inl ⟨by rfl, ?hy32⟩) ?rest32
          case hy32 => (intro w; go_simp; try with_reducible rfl)
          try simp only [Act.put]
          refine wpAny_take (i := 8) (v := undef) rfl (by kernel_rfl) (by kernel_rfl) (by kernel_rfl) (fun _ _ _ h => h) (Or.inr ⟨by rfl, rfl⟩) ?_
          try simp only [Act.put]
          refine wpAny_take (i := 10) (v := undef) rfl (by kernel_rfl) (by kernel_rfl) (by kernel_rfl) (fun _ _ _ h => h) (Or.inr ⟨by rfl, rfl⟩) ?_
          try simp only [Act.put]
          refine wpAny_ready (rs := [9]) (by kernel_rfl) (by simp) ?_
          refine AllReady.cons rfl (fun K hK => ?_) ?_
          · go_simp
            try (refine hK _ _ ?_)
            try (clear hK K)
            refine wpAny_take (i := 11) (v := undef) rfl (by kernel_rfl) (by kernel_rfl) (by kernel_rfl) (fun _ _ _ h => h) (Or.inr ⟨by rfl, rfl⟩) ?_
            try simp only [Act.put]
            refine wpAny_take (i := 12) (v := ?v33) rfl (by kernel_rfl) (by kernel_rfl) (by kernel_rfl) (fun _ _ _ h => h) (Or.inl ⟨by rfl, ?hy33⟩) ?rest33
            case hy33 => (intro w; go_simp; try with_reducible rfl)
            try simp only [Act.put]
            refine wpAny_take (i := 13) (v := ?v34) rfl (by kernel_rfl) (by kernel_rfl) (by kernel_rfl) (fun _ _ _ h => h) (Or.inl ⟨by rfl, ?hy34⟩) ?rest34
            case hy34 => (intro w; go_simp; try with_reducible rfl)
            try simp only [Act.put]
            refine wpAny_take (i := 14) (v := undef) rfl (by kernel_rfl) (by kernel_rfl) (by kernel_rfl) (fun _ _ _ h => h) (Or.inr ⟨by rfl, rfl⟩) ?_
            try simp only [Act.put]
            refine wpAny_take (i := 16) (v := undef) rfl (by kernel_rfl) (by kernel_rfl) (by kernel_rfl) (fun _ _ _ h => h) (Or.inr ⟨by rfl, rfl⟩) ?_
            try simp only [Act.put]
            refine wpAny_take (i := 17) (v := undef) rfl (by kernel_rfl) (by kernel_rfl) (by kernel_rfl) (fun _ _ _ h => h) (Or.inr ⟨by rfl, rfl⟩) ?_
            try simp only [Act.put]
            refine wpAny_ready (rs := [15]) (by kernel_rfl) (by simp) ?_
            refine AllReady.cons rfl (fun K hK => ?_) ?_
            · go_simp
              try (refine hK _ _ ?_)
              try (clear hK K)
              refine wpAny_take (i := 18) (v := undef) rfl (by kernel_rfl) (by kernel_rfl) (by kernel_rfl) (fun _ _ _ h => h) (Or.inr ⟨by rfl, rfl⟩) ?_
              try simp only [Act.put]
              refine wpAny_take (i := 19) (v := ?v35) rfl (by kernel_rfl) (by kernel_rfl) (by kernel_rfl) (fun _ _ _ h => h) (Or.inl ⟨by rfl, ?hy35⟩) ?rest35
              case hy35 => (intro w; go_simp; try with_reducible rfl)
              try simp only [Act.put]
              refine wpAny_take (i := 20) (v := ?v36) rfl (by kernel_rfl) (by kernel_rfl) (by kernel_rfl) (fun _ _ _ h => h) (Or.inl ⟨by rfl, ?hy36⟩) ?rest36
              case hy36 => (intro w; go_simp; try with_reducible rfl)
              try simp only [Act.put]
              refine wpAny_done (by kernel_rfl) ?_ _
              refine NoPanic.normal ?_
              go_simp
              go_wp2
              go_ret
              exact ⟨by rw [HN.out]; simp [c1], NamS.below (NamS.alloc (NamS.start HX.out) B0.out _)⟩
            exact AllReady.nil
          exact AllReady.nil
        exact AllReady.nil
      exact AllReady.nil
    exact AllReady.nil
end Go.Proofs.Ytckabekimdcdcaa

/-
  SlotLoads answers true for any gens, any bytes and any sectors written by hand, and writes nothing that was there.
  Conditions: the gens, the bytes and the sectors are read in memory.
-/
import Derived.Test.YtgjedofljojioaaSlotH
import Derived.Test.YtgjedofljojioaaRefLoad
import Derived.Test.YtgjedofljojioaaSloAll
import Derived.Deep.LoopGhost
import Derived.Deep.RegionHeld3
namespace Go.Proofs.Ytgjedofljojioaa
open Go.RowKit
set_option linter.unusedVariables false

/-- Numbers that lie in memory. -/
def U32s (w : World) (v : Value) (gs : List Nat) : Prop :=
  ∃ A n c, v = .slice A n c ∧ gs.length = n ∧ n ≤ maxLen ∧ (0 < n → ∃ b off, A = some ⟨b, off, none⟩ ∧ b < w.heap.size ∧ ∀ j, j < n → w.cell? ⟨b, off + j, none⟩ = some (.int .u32 ((gs.getD j 0 : Nat) : Int)) ∧ gs.getD j 0 < 4294967296)
/-- A sector that is written by hand: where, and its bytes. -/
structure PartD where
  at_ : Int
  v : Value
  xs : List Nat
def PartAt (w : World) (b o : Nat) (x : PartD) : Prop :=
  b < w.heap.size ∧ w.cell? ⟨b, o, none⟩ = some (.int .i64 x.at_) ∧ w.cell? ⟨b, o + 1, none⟩ = some x.v ∧ Bts w w.heap.size x.v x.xs ∧ -9223372036854775808 ≤ x.at_ ∧ x.at_ ≤ 9223372036854775807
def Parts5 (w : World) (v : Value) (ps : List PartD) : Prop :=
  ∃ A n c, v = .slice A n c ∧ ps.length = n ∧ n ≤ maxLen ∧ (0 < n → ∃ b off, A = some ⟨b, off, none⟩ ∧ ∀ j x, ps[j]? = some x → PartAt w b (off + j * 2) x)

/-- A disk without trouble of which nothing is loose, and nothing that was there has turned. -/
def LdS (w w' : World) : Prop := (∃ S, Dsk w' (w.heap.size + 2) w.heap.size (w.heap.size + 1) 192 S (fun _ => none) Tr.none_) ∧ Below w.heap.size w w'
theorem LdS.drew {w w' : World} (h : LdS w w') : LdS w w'.drew := ⟨h.1.elim fun S hS => ⟨S, hS.drew⟩, h.2.drew⟩
/-- .. and something may be loose. -/
def LdW (w w' : World) : Prop := (∃ S L, Dsk w' (w.heap.size + 2) w.heap.size (w.heap.size + 1) 192 S L Tr.none_) ∧ Below w.heap.size w w'
theorem LdW.drew {w w' : World} (h : LdW w w') : LdW w w'.drew := ⟨h.1.elim fun S h => h.elim fun L hS => ⟨S, L, hS.drew⟩, h.2.drew⟩
theorem LdS.any {w w' : World} (h : LdS w w') : LdW w w' := ⟨h.1.elim fun S hS => ⟨S, _, hS⟩, h.2⟩
/-- What a Save leaves. -/
def SavS (w : World) (z : Int) (e : Ending) (w' : World) : Prop := e = .returned (.int .i64 z) ∧ LdS w w'
theorem savS_ok (g n c : Nat) (A : Option Addr) (x : List Nat) (w W : World) (hx : Bts w w.heap.size (.slice A n c) x) (hl : n ≤ 960) (hg : g < 4294967296) (h : LdS w W) :
    Calls Try.prog 10 #[.pointer (some ⟨w.heap.size + 2, 0, none⟩), .int .u32 (g : Int), .slice A n c] W (SavS w 0) := by
  obtain ⟨⟨S, hS⟩, hb⟩ := h
  have hxl : x.length = n := bts_len hx
  refine (save_ok _ _ _ _ S _ g _ x W hS (by omega) (Stay.below (hx.below hb) hb.size (dk_lo w)) (by omega) hg).mono ?_
  rintro e w' ⟨rfl, hd, ht⟩
  exact ⟨rfl, ⟨_, hd⟩, ht.fresh_ hb (Nat.le_refl _) (by omega) (Nat.le_refl _) (by omega)⟩
theorem savS_long (g n c : Nat) (A : Option Addr) (w W : World) (hl : 960 < n) (h : LdS w W) :
    Calls Try.prog 10 #[.pointer (some ⟨w.heap.size + 2, 0, none⟩), .int .u32 (g : Int), .slice A n c] W (SavS w 1) := by
  refine (save_long _ _ _ _ _ _ hl).mono ?_
  rintro e w' ⟨rfl, rfl⟩
  exact ⟨rfl, h⟩
/-- What a Write leaves. -/
def WriS (w : World) (e : Ending) (w' : World) : Prop := (∃ z : Int, e = .returned (.int .i64 z)) ∧ LdW w w'
theorem wriS_any (f : Int) (n c : Nat) (A : Option Addr) (x : List Nat) (w W : World) (hx : Bts w w.heap.size (.slice A n c) x) (h : LdW w W) :
    Calls Try.prog 11 #[.pointer (some ⟨w.heap.size + 2, 0, none⟩), .int .i64 f, .slice A n c] W (WriS w) := by
  obtain ⟨⟨S, L, hS⟩, hb⟩ := h
  have hxl : x.length = n := bts_len hx
  by_cases hf : f < 0 ∨ 192 ≤ f
  · refine (dwrite_none _ _ _ _ _ _ (dhas_no _ _ _ _ _ _ _ f W hS (by omega))).mono ?_
    rintro e w' ⟨rfl, rfl⟩
    exact ⟨⟨_, rfl⟩, ⟨S, L, hS⟩, hb⟩
  · obtain ⟨k, rfl⟩ := Int.eq_ofNat_of_zero_le (show 0 ≤ f by omega)
    by_cases h64 : n = 64
    · subst h64
      refine (dwrite_yes _ _ _ _ S L _ k _ x W hS (by omega) none_ans (fun w' ho => ⟨w.heap.size, (hx.below hb).below (ho.below (by omega) hb.size), hb.size⟩) hxl).mono ?_
      rintro e w' ⟨rfl, hd, ht, _⟩
      exact ⟨⟨_, rfl⟩, ⟨S, _, hd⟩, ht.fresh_ hb (Nat.le_refl _) (by omega) (Nat.le_refl _) (by omega)⟩
    · refine (dwrite_size _ _ _ _ _ _ h64 (dhas_yes _ _ _ _ _ _ _ k W hS (by omega))).mono ?_
      rintro e w' ⟨rfl, rfl⟩
      exact ⟨⟨_, rfl⟩, ⟨S, L, hS⟩, hb⟩

set_option maxRecDepth 20000 in
set_option maxHeartbeats 400000 in
theorem slotLoads_edge (A1 A2 A3 : Option Addr) (l1 c1 l2 c2 l3 c3 : Nat) (w : World) (h : 10 < l1 ∨ 40 < l3) :
    Calls Try.prog 3 #[.slice A1 l1 c1, .slice A2 l2 c2, .slice A3 l3 c3] w fun e w' => e = .returned (.bool true) ∧ Below w.heap.size w w' := by
  by_cases h1 : 10 < l1
  · have t1 : decide ((10 : Int) < (l1 : Int)) = true := decide_eq_true (by omega)
    clear h
    go_enter Try.func3, Try.ntmps3
    go_wp2_with fail
    refine (slotAnswers_any _).mono ?_
    rintro e w1 ⟨rfl, hb⟩
    go_wp2
    go_ret
    exact ⟨rfl, hb⟩
  · have t1 : decide ((10 : Int) < (l1 : Int)) = false := decide_eq_false (by omega)
    have t2 : decide ((40 : Int) < (l3 : Int)) = true := decide_eq_true (by omega)
    clear h
    go_enter Try.func3, Try.ntmps3
    go_wp2_with fail
    refine (slotAnswers_any _).mono ?_
    rintro e w1 ⟨rfl, hb⟩
    go_wp2
    go_ret
    exact ⟨rfl, hb⟩

set_option maxRecDepth 20000 in
set_option maxHeartbeats 3200000 in
theorem slotLoads_any (v1 v2 v3 : Value) (gs : List Nat) (xss : List (List Nat)) (ps : List PartD) (w : World) (h1 : U32s w v1 gs) (h2 : Pts w v2 xss) (h3 : Parts5 w v3 ps) (hl1 : gs.length ≤ 10) (hl3 : ps.length ≤ 40) :
    Calls Try.prog 3 #[v1, v2, v3] w fun e w' => e = .returned (.bool true) ∧ Below w.heap.size w w' := by
  have H2 := Lib.hid h2
  obtain ⟨A1, N1, c1, rfl, hN1, hm1, hz1⟩ := h1
  obtain ⟨A2, N2, c2, rfl, hN2, hNc2, hcm2, -⟩ := h2
  obtain ⟨A3, N3, c3, rfl, hN3, hm3, hz3⟩ := h3
  have HG := Lib.hid hz1
  have HP := Lib.hid hz3
  have HN2 := Lib.hid hN2
  have HN3 := Lib.hid hN3
  have hN10 : N1 ≤ 10 := by omega
  have hN40 : N3 ≤ 40 := by omega
  have t1 : decide ((10 : Int) < (N1 : Int)) = false := decide_eq_false (by omega)
  have t2 : decide ((40 : Int) < (N3 : Int)) = false := decide_eq_false (by omega)
  unfold maxLen at hcm2
  clear hl1 hl3 hN1 hN2 hN3 hm1 hm3 hz1 hz3
  go_enter Try.func3, Try.ntmps3
  go_wp2_with fail
  refine (dnew_any 192 192 w (by unfold NearD; omega)).mono ?_
  rintro e w1 ⟨rfl, hd1, hb1, hz1⟩
  have HS1 := Lib.hid (show LdS w w1 from ⟨⟨_, hd1⟩, hb1⟩)
  clear hd1 hb1 hz1
  go_wp2_with fail
  go_loopg [8] N1 (fun g s8 wx => ∃ i : Nat, i + g = N1 ∧ s8 = .int .i64 (i : Int) ∧ LdS w wx)
  case atStart => exact ⟨0, by omega, rfl, HS1.out⟩
  case round =>
    obtain ⟨i, hig, rfl, hr⟩ := hrel
    have HR := Lib.hid hr
    clear hr
    by_cases hlt : i < N1 ∧ i < N2
    · obtain ⟨hlt, hlt2⟩ := hlt
      have t4 : decide ((i : Int) < (N1 : Int)) = true := decide_eq_true (by omega)
      have t4' : decide ((i : Int) < (N2 : Int)) = true := decide_eq_true (by omega)
      have t5 : (i : Int) < (N1 : Int) := by omega
      have t5' : (i : Int) < (N2 : Int) := by omega
      have t6 : (0 : Int) ≤ (i : Int) := by omega
      obtain ⟨b1, o1, rfl, hbl1, hcg⟩ := HG.out (by omega)
      obtain ⟨hcg1, hglt⟩ := hcg i hlt
      obtain ⟨b2, o2, rfl⟩ := H2.out.addr (by omega)
      obtain ⟨uu, hcd, hu⟩ := H2.out.at_ (j := i) (by rw [HN2.out]; exact hlt2)
      obtain ⟨x, hx⟩ : ∃ x, x = xss.getD i [] := ⟨_, rfl⟩
      rw [← hx] at hu
      obtain ⟨g, hg⟩ : ∃ g, g = gs.getD i 0 := ⟨_, rfl⟩
      rw [← hg] at hcg1 hglt
      have HU := Lib.hid hu
      have hux := hu
      obtain ⟨A5, n5, c5, rfl, -⟩ := hux
      have KEEP := Lib.hid (show ∀ w', LdS w w' → w'.cell? ⟨b1, o1 + i, none⟩ = some (.int .u32 (g : Int)) ∧ w'.cell? ⟨b2, o2 + i, none⟩ = some (.slice A5 n5 c5) ∧ LdS w w' from fun w' h => ⟨(h.2.cell hbl1).trans hcg1, (h.2.cell (World.block_lt_of_cell? w _ hcd)).trans hcd, h⟩)
      have hk := KEEP.out _ HR.out
      obtain ⟨hcell1, hcell2, -⟩ := hk
      have HGL := Lib.hid hglt
      clear hcg hcg1 hcd hx hg hu hglt
      by_cases c960 : 960 < n5
      · have t7 : decide ((960 : Int) < (n5 : Int)) = true := decide_eq_true (by omega)
        have t8 : decide ((n5 : Int) ≤ (960 : Int)) = false := decide_eq_false (by omega)
        have SV := Lib.hid (fun (W : World) (h : LdS w W) => savS_long g n5 c5 A5 w W c960 h)
        go_wp2_with fail
        go_region_held3 (fun w' => w'.cell? ⟨b1, o1 + i, none⟩ = some (.int .u32 (g : Int)) ∧ w'.cell? ⟨b2, o2 + i, none⟩ = some (.slice A5 n5 c5) ∧ LdS w w')
          (first | assumption | exact KEEP.out _ HR.out.drew | exact KEEP.out _ (by assumption))
          ((go_at_call 10; refine (SV.out _ ?_).mono ?_; (first | assumption | exact (And.right (And.right (by assumption)))); rintro e w' ⟨rfl, hls⟩))
        obtain ⟨hcell3, hcell4, -⟩ := KEEP.out _ hls
        have HLS := Lib.hid hls
        clear hls
        go_wp2_with fail
        go_roundg (N1 - (i + 1))
        case measure => omega
        case rel => exact ⟨i + 1, by omega, by go_num, HLS.out⟩
      · have t7 : decide ((960 : Int) < (n5 : Int)) = false := decide_eq_false (by omega)
        have t8 : decide ((n5 : Int) ≤ (960 : Int)) = true := decide_eq_true (by omega)
        have SV := Lib.hid (fun (W : World) (h : LdS w W) => savS_ok g n5 c5 A5 x w W HU.out (by omega) HGL.out h)
        go_wp2_with fail
        go_region_held3 (fun w' => w'.cell? ⟨b1, o1 + i, none⟩ = some (.int .u32 (g : Int)) ∧ w'.cell? ⟨b2, o2 + i, none⟩ = some (.slice A5 n5 c5) ∧ LdS w w')
          (first | assumption | exact KEEP.out _ HR.out.drew | exact KEEP.out _ (by assumption))
          ((go_at_call 10; refine (SV.out _ ?_).mono ?_; (first | assumption | exact (And.right (And.right (by assumption)))); rintro e w' ⟨rfl, hls⟩))
        obtain ⟨hcell3, hcell4, -⟩ := KEEP.out _ hls
        have HLS := Lib.hid hls
        clear hls
        go_wp2_with fail
        go_roundg (N1 - (i + 1))
        case measure => omega
        case rel => exact ⟨i + 1, by omega, by go_num, HLS.out⟩
    · by_cases h1 : i < N1
      · have t4 : decide ((i : Int) < (N1 : Int)) = true := decide_eq_true (by omega)
        have t4' : decide (i < N2) = false := decide_eq_false (by omega)
        have h2 : N2 ≤ i := by omega
        clear hlt
        go_wp2_with fail
        go_loopg [10] N3 (fun g s10 wx => ∃ j : Nat, j + g = N3 ∧ s10 = .int .i64 (j : Int) ∧ LdW w wx)
        case atStart => exact ⟨0, by omega, rfl, HR.out.any⟩
        case round =>
          obtain ⟨j, hjg, rfl, hrr⟩ := hrel
          have HRR := Lib.hid hrr
          clear hrr
          by_cases hj : j < N3
          · have t9 : decide ((j : Int) < (N3 : Int)) = true := decide_eq_true (by omega)
            have t9' : (j : Int) < (N3 : Int) := by omega
            have t9'' : (0 : Int) ≤ (j : Int) := by omega
            obtain ⟨b3, o3, rfl, hpa⟩ := HP.out (by omega)
            obtain ⟨pd, hpd⟩ : ∃ pd, ps[j]? = some pd := ⟨_, List.getElem?_eq_getElem (by rw [HN3.out]; exact hj)⟩
            obtain ⟨hbl3, hca, hcv, hxv, hlo, hhi⟩ := hpa j pd hpd
            obtain ⟨fa, vv, px⟩ := pd
            simp only at hca hcv hxv hlo hhi
            obtain ⟨A6, n6, c6, rfl, -⟩ := id hxv
            have HXV := Lib.hid hxv
            have KEEP := Lib.hid (show ∀ w', LdW w w' → w'.cell? ⟨b3, o3 + j * 2, none⟩ = some (.int .i64 fa) ∧ w'.cell? ⟨b3, o3 + j * 2 + 1, none⟩ = some (.slice A6 n6 c6) ∧ LdW w w' from fun w' h => ⟨(h.2.cell hbl3).trans hca, (h.2.cell hbl3).trans hcv, h⟩)
            obtain ⟨hcell1, hcell2, -⟩ := KEEP.out _ HRR.out
            have SV := Lib.hid (fun (W : World) (h : LdW w W) => wriS_any fa n6 c6 A6 px w W HXV.out h)
            clear hpa hpd hca hcv hxv
            go_wp2_with fail
            go_region_held3 (fun w' => w'.cell? ⟨b3, o3 + j * 2, none⟩ = some (.int .i64 fa) ∧ w'.cell? ⟨b3, o3 + j * 2 + 1, none⟩ = some (.slice A6 n6 c6) ∧ LdW w w')
              (first | assumption | exact KEEP.out _ HRR.out.drew | exact KEEP.out _ (by assumption))
              ((go_at_call 11; refine (SV.out _ ?_).mono ?_; (first | assumption | exact (And.right (And.right (by assumption)))); rintro e w' ⟨⟨z, rfl⟩, hls⟩))
            have HLS := Lib.hid hls
            clear hls
            go_wp2_with fail
            go_roundg (N3 - (j + 1))
            case measure => omega
            case rel => exact ⟨j + 1, by omega, by go_num, HLS.out⟩
          · obtain rfl : j = N3 := by omega
            have t9 : decide ((j : Int) < (j : Int)) = false := decide_eq_false (by omega)
            obtain ⟨⟨S, L, hS⟩, hb⟩ := HRR.out
            have HD5 := Lib.hid hS
            have HN5 := Lib.hid hb
            clear hS hb
            go_wp2_with fail
            refine (load_ok _ _ _ _ _ _ _ HD5.out (by omega)).mono ?_
            rintro e w6 ⟨v6, rfl, ho6, hd6, ht6⟩
            obtain ⟨FF, hff⟩ : ∃ FF, FF = last S L := ⟨_, rfl⟩
            have HLST := Lib.hid (fun f (hf : f < 192) => HD5.out.last_ hf)
            rw [← hff] at ho6 HLST ⊢
            obtain ⟨G, hG⟩ : ∃ G, G = (loadR FF).1 := ⟨_, rfl⟩
            obtain ⟨B, hB⟩ : ∃ B, B = (loadR FF).2 := ⟨_, rfl⟩
            rw [← hB] at ho6
            rw [← hG]
            have HFF := Lib.hid hff
            have HBB := Lib.hid (show ∀ y ∈ B, y < 256 from by rw [hB]; exact loadR_byte (fun f hf => (HLST.out f (by omega)).2))
            obtain ⟨A6, c6, rfl⟩ := own_any ho6
            have HD6 := Lib.hid hd6
            have HN6 := Lib.hid (ht6.fresh_ HN5.out (Nat.le_refl _) (by omega) (Nat.le_refl _) (by omega))
            have HR6 := Lib.hid (own_lower (base' := w.heap.size + 3) ho6 (by have := HD5.out.lt.1; omega))
            have HGE := Lib.hid hG
            have HBE := Lib.hid hB
            have hGlt : G < 4294967296 := by
              rw [hG]
              exact loadN_lt (F := FF) (fun x hx => sloG_lt (HLST.out (64 + 16 * x) (by omega)).2) 2 (Nat.le_refl _)
            clear ho6 hd6 ht6 hG hB hff
            go_wp2_with fail
            refine (slotAll_any _ _ _ _ _ _ _ HD6.out (by omega)).mono ?_
            rintro e w7 ⟨v7, rfl, hd7, hl7, ht7⟩
            rw [← HFF.out] at hl7
            have HN7 := Lib.hid (ht7.fresh_ HN6.out (Nat.le_refl _) (by omega) (Nat.le_refl _) (by omega))
            have HR7 := Lib.hid (own_turns HR6.out (dk_base w) ht7)
            have HP7 := Lib.hid hl7.pts
            obtain ⟨A7, c7, rfl, -⟩ := hl7.shape
            clear hd7 hl7 ht7
            go_wp2_with fail
            refine (refLoad_any _ _ FF w7 HP7.out (firsts_length _ _) (fun j hj => firsts_getD _ _ _ hj) (fun j hj => (HLST.out j (by omega)).1) (fun j hj => (HLST.out j (by omega)).2)).mono ?_
            rintro e w8 ⟨hb8, v8, rfl, hx8⟩
            rw [← HGE.out]
            rw [← HBE.out] at hx8
            obtain ⟨A8, n8, c8, rfl, -⟩ := id hx8
            have HX8 := Lib.hid hx8
            have HN8 := Lib.hid (HN7.out.trans (hb8.mono HN7.out.size))
            have HR8 := Lib.hid ((Bts.of_own (own_below HR7.out hb8 (Nat.le_refl _)) HBB.out))
            clear hx8 hb8
            go_wp2_with fail
            refine (slotAnswers_any _).mono ?_
            rintro e w10 ⟨rfl, hb10⟩
            have Y10 := Lib.hid (HX8.out.below hb10)
            have Z10 := Lib.hid (HR8.out.below hb10)
            have HN10 := Lib.hid (HN8.out.trans (hb10.mono HN8.out.size))
            clear hb10
            go_wp2_with fail
            refine (same_any _ _ _ _ _ _ _ Z10.out Y10.out).mono ?_
            rintro e w11 ⟨rfl, q9, rfl⟩
            rw [decide_eq_true rfl]
            have HN11 := Lib.hid (below_drewN HN10.out q9)
            go_wp2
            go_ret
            exact ⟨by simp, HN11.out⟩
      · have t4 : decide (i < N1) = false := decide_eq_false (by omega)
        clear hlt
        go_wp2_with fail
        go_loopg [10] N3 (fun g s10 wx => ∃ j : Nat, j + g = N3 ∧ s10 = .int .i64 (j : Int) ∧ LdW w wx)
        case atStart => exact ⟨0, by omega, rfl, HR.out.any⟩
        case round =>
          obtain ⟨j, hjg, rfl, hrr⟩ := hrel
          have HRR := Lib.hid hrr
          clear hrr
          by_cases hj : j < N3
          · have t9 : decide ((j : Int) < (N3 : Int)) = true := decide_eq_true (by omega)
            have t9' : (j : Int) < (N3 : Int) := by omega
            have t9'' : (0 : Int) ≤ (j : Int) := by omega
            obtain ⟨b3, o3, rfl, hpa⟩ := HP.out (by omega)
            obtain ⟨pd, hpd⟩ : ∃ pd, ps[j]? = some pd := ⟨_, List.getElem?_eq_getElem (by rw [HN3.out]; exact hj)⟩
            obtain ⟨hbl3, hca, hcv, hxv, hlo, hhi⟩ := hpa j pd hpd
            obtain ⟨fa, vv, px⟩ := pd
            simp only at hca hcv hxv hlo hhi
            obtain ⟨A6, n6, c6, rfl, -⟩ := id hxv
            have HXV := Lib.hid hxv
            have KEEP := Lib.hid (show ∀ w', LdW w w' → w'.cell? ⟨b3, o3 + j * 2, none⟩ = some (.int .i64 fa) ∧ w'.cell? ⟨b3, o3 + j * 2 + 1, none⟩ = some (.slice A6 n6 c6) ∧ LdW w w' from fun w' h => ⟨(h.2.cell hbl3).trans hca, (h.2.cell hbl3).trans hcv, h⟩)
            obtain ⟨hcell1, hcell2, -⟩ := KEEP.out _ HRR.out
            have SV := Lib.hid (fun (W : World) (h : LdW w W) => wriS_any fa n6 c6 A6 px w W HXV.out h)
            clear hpa hpd hca hcv hxv
            go_wp2_with fail
            go_region_held3 (fun w' => w'.cell? ⟨b3, o3 + j * 2, none⟩ = some (.int .i64 fa) ∧ w'.cell? ⟨b3, o3 + j * 2 + 1, none⟩ = some (.slice A6 n6 c6) ∧ LdW w w')
              (first | assumption | exact KEEP.out _ HRR.out.drew | exact KEEP.out _ (by assumption))
              ((go_at_call 11; refine (SV.out _ ?_).mono ?_; (first | assumption | exact (And.right (And.right (by assumption)))); rintro e w' ⟨⟨z, rfl⟩, hls⟩))
            have HLS := Lib.hid hls
            clear hls
            go_wp2_with fail
            go_roundg (N3 - (j + 1))
            case measure => omega
            case rel => exact ⟨j + 1, by omega, by go_num, HLS.out⟩
          · obtain rfl : j = N3 := by omega
            have t9 : decide ((j : Int) < (j : Int)) = false := decide_eq_false (by omega)
            obtain ⟨⟨S, L, hS⟩, hb⟩ := HRR.out
            have HD5 := Lib.hid hS
            have HN5 := Lib.hid hb
            clear hS hb
            go_wp2_with fail
            refine (load_ok _ _ _ _ _ _ _ HD5.out (by omega)).mono ?_
            rintro e w6 ⟨v6, rfl, ho6, hd6, ht6⟩
            obtain ⟨FF, hff⟩ : ∃ FF, FF = last S L := ⟨_, rfl⟩
            have HLST := Lib.hid (fun f (hf : f < 192) => HD5.out.last_ hf)
            rw [← hff] at ho6 HLST ⊢
            obtain ⟨G, hG⟩ : ∃ G, G = (loadR FF).1 := ⟨_, rfl⟩
            obtain ⟨B, hB⟩ : ∃ B, B = (loadR FF).2 := ⟨_, rfl⟩
            rw [← hB] at ho6
            rw [← hG]
            have HFF := Lib.hid hff
            have HBB := Lib.hid (show ∀ y ∈ B, y < 256 from by rw [hB]; exact loadR_byte (fun f hf => (HLST.out f (by omega)).2))
            obtain ⟨A6, c6, rfl⟩ := own_any ho6
            have HD6 := Lib.hid hd6
            have HN6 := Lib.hid (ht6.fresh_ HN5.out (Nat.le_refl _) (by omega) (Nat.le_refl _) (by omega))
            have HR6 := Lib.hid (own_lower (base' := w.heap.size + 3) ho6 (by have := HD5.out.lt.1; omega))
            have HGE := Lib.hid hG
            have HBE := Lib.hid hB
            have hGlt : G < 4294967296 := by
              rw [hG]
              exact loadN_lt (F := FF) (fun x hx => sloG_lt (HLST.out (64 + 16 * x) (by omega)).2) 2 (Nat.le_refl _)
            clear ho6 hd6 ht6 hG hB hff
            go_wp2_with fail
            refine (slotAll_any _ _ _ _ _ _ _ HD6.out (by omega)).mono ?_
            rintro e w7 ⟨v7, rfl, hd7, hl7, ht7⟩
            rw [← HFF.out] at hl7
            have HN7 := Lib.hid (ht7.fresh_ HN6.out (Nat.le_refl _) (by omega) (Nat.le_refl _) (by omega))
            have HR7 := Lib.hid (own_turns HR6.out (dk_base w) ht7)
            have HP7 := Lib.hid hl7.pts
            obtain ⟨A7, c7, rfl, -⟩ := hl7.shape
            clear hd7 hl7 ht7
            go_wp2_with fail
            refine (refLoad_any _ _ FF w7 HP7.out (firsts_length _ _) (fun j hj => firsts_getD _ _ _ hj) (fun j hj => (HLST.out j (by omega)).1) (fun j hj => (HLST.out j (by omega)).2)).mono ?_
            rintro e w8 ⟨hb8, v8, rfl, hx8⟩
            rw [← HGE.out]
            rw [← HBE.out] at hx8
            obtain ⟨A8, n8, c8, rfl, -⟩ := id hx8
            have HX8 := Lib.hid hx8
            have HN8 := Lib.hid (HN7.out.trans (hb8.mono HN7.out.size))
            have HR8 := Lib.hid ((Bts.of_own (own_below HR7.out hb8 (Nat.le_refl _)) HBB.out))
            clear hx8 hb8
            go_wp2_with fail
            refine (slotAnswers_any _).mono ?_
            rintro e w10 ⟨rfl, hb10⟩
            have Y10 := Lib.hid (HX8.out.below hb10)
            have Z10 := Lib.hid (HR8.out.below hb10)
            have HN10 := Lib.hid (HN8.out.trans (hb10.mono HN8.out.size))
            clear hb10
            go_wp2_with fail
            refine (same_any _ _ _ _ _ _ _ Z10.out Y10.out).mono ?_
            rintro e w11 ⟨rfl, q9, rfl⟩
            rw [decide_eq_true rfl]
            have HN11 := Lib.hid (below_drewN HN10.out q9)
            go_wp2
            go_ret
            exact ⟨by simp, HN11.out⟩
end Go.Proofs.Ytgjedofljojioaa

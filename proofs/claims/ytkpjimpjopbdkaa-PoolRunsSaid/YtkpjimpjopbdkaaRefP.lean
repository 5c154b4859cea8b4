/-
  The document's own pool in memory, and the contracts of its Online and Offline.
  Conditions: the frames are read in memory that the pool is no part of.
-/
import Derived.Test.YtkpjimpjopbdkaaPoo
import Derived.Test.YtkpjimpjopbdkaaVals
import Derived.Test.YtkpjimpjopbdkaaProg
import Derived.WalkKit
import Derived.WalkSpells
import Derived.Lib.Hide
import Derived.Deep.LoopGhost
import Derived.Deep.RegionHeld3
import Derived.StillTailTactics
namespace Go.Proofs.Ytkpjimpjopbdkaa
open Go.RowKit
set_option linter.unusedVariables false

def iv (n : Nat) : Value := .int .i64 (n : Int)
def refL (p : PS) : List Value := p.u.map iv ++ (p.z.map iv ++ p.i.map Value.bool)
/-- The document's pool, in block g. -/
def RefP (w : World) (g : Nat) (p : PS) : Prop := Blk w g 31 (refL p).toArray ∧ PsOk p
section
variable {w w' : World} {g : Nat} {p : PS}
theorem RefP.below {B : Nat} (h : RefP w g p) (hb : Below B w w') (hg : g < B) : RefP w' g p := ⟨h.1.below hb hg, h.2⟩
theorem RefP.only {k : Nat} (h : RefP w g p) (ho : Only k w w') (hne : g ≠ k) : RefP w' g p := ⟨ho.blk h.1 hne, h.2⟩
theorem RefP.cu (h : RefP w g p) {f : Nat} (hf : f < 1024) : w.cell? ⟨g, f, none⟩ = some (.int .i64 ((p.u.getD f 0 : Nat) : Int)) := by
  have hl : f < p.u.length := by rw [h.2.u]; exact hf
  rw [h.1.cellL]
  unfold refL
  rw [List.getElem?_append_left (by simpa using hl)]
  simp [hl, iv]
theorem RefP.cz (h : RefP w g p) {s : Nat} (hs : s < 32) : w.cell? ⟨g, 1024 + s, none⟩ = some (.int .i64 ((p.z.getD s 0 : Nat) : Int)) := by
  have hl : s < p.z.length := by rw [h.2.z]; exact hs
  rw [h.1.cellL]
  unfold refL
  rw [List.getElem?_append_right (by simp [h.2.u]), List.length_map, h.2.u, Nat.add_sub_cancel_left, List.getElem?_append_left (by simpa using hl)]
  simp [hl, iv]
theorem RefP.ci (h : RefP w g p) {s : Nat} (hs : s < 32) : w.cell? ⟨g, 1056 + s, none⟩ = some (.bool (p.i.getD s false)) := by
  have hl : s < p.i.length := by rw [h.2.i]; exact hs
  rw [h.1.cellL]
  unfold refL
  rw [List.getElem?_append_right (by simp [h.2.u]; omega), List.length_map, h.2.u, List.getElem?_append_right (by simp [h.2.z]; omega), List.length_map, h.2.z, show 1056 + s - 1024 - 32 = s by omega]
  simp [hl]
theorem RefP.fz (h : RefP w g p) (i : Nat) : w.frozen? ⟨g, i, none⟩ = false := h.1.frozen i
theorem RefP.su (h : RefP w g p) {f v : Nat} (hf : f < 1024) (hv : v ≤ 6) : RefP (w.setCell ⟨g, f, none⟩ (.int .i64 (v : Int))) g ⟨p.u.set f v, p.z, p.i⟩ := by
  refine ⟨?_, h.2.setU f v hv⟩
  have h1 := h.1.setL f (iv v)
  have e : (refL p).set f (iv v) = refL ⟨p.u.set f v, p.z, p.i⟩ := by
    unfold refL
    rw [List.set_append_left _ _ (by simpa [h.2.u] using hf), List.map_set]
  rw [e] at h1
  exact h1
theorem RefP.sz (h : RefP w g p) {s v : Nat} (hs : s < 32) (hv : v ≤ 3) : RefP (w.setCell ⟨g, 1024 + s, none⟩ (.int .i64 (v : Int))) g ⟨p.u, p.z.set s v, p.i⟩ := by
  refine ⟨?_, h.2.setZ s v hv⟩
  have h1 := h.1.setL (1024 + s) (iv v)
  have e : (refL p).set (1024 + s) (iv v) = refL ⟨p.u, p.z.set s v, p.i⟩ := by
    unfold refL
    rw [List.set_append_right _ _ (by simp [h.2.u]), List.length_map, h.2.u, Nat.add_sub_cancel_left, List.set_append_left _ _ (by simpa [h.2.z] using hs), List.map_set]
  rw [e] at h1
  exact h1
theorem RefP.si (h : RefP w g p) {s : Nat} {b : Bool} (hs : s < 32) : RefP (w.setCell ⟨g, 1056 + s, none⟩ (.bool b)) g ⟨p.u, p.z, p.i.set s b⟩ := by
  refine ⟨?_, h.2.setI s b⟩
  have h1 := h.1.setL (1056 + s) (.bool b)
  have e : (refL p).set (1056 + s) (.bool b) = refL ⟨p.u, p.z, p.i.set s b⟩ := by
    unfold refL
    rw [List.set_append_right _ _ (by simp [h.2.u]; omega), List.length_map, h.2.u, List.set_append_right _ _ (by simp [h.2.z]; omega), List.length_map, h.2.z, show 1056 + s - 1024 - 32 = s by omega, List.map_set]
  rw [e] at h1
  exact h1
end
set_option maxRecDepth 100000 in
set_option maxHeartbeats 2000000 in
theorem refOn_any (g : Nat) (p : PS) (s z : Int) (v : Value) (bs : List Int) (w : World) (h : RefP w g p) (hv : Its w w.heap.size v bs) (ho : Off (fun k => k = g) v) (hm : bs.length ≤ 1000000) :
    Calls Try.prog 22 #[.pointer (some ⟨g, 0, none⟩), .int .i64 s, .int .i64 z, v] w fun e w' => e = .returned (.int .i64 (((onP p s z bs).1 : Nat) : Int)) ∧ RefP w' g (onP p s z bs).2 ∧ Turns (fun k => k = g) w w' := by
  have HR := Lib.hid h
  obtain ⟨A, n, c, rfl, hl, hlc, hmx, -⟩ := id hv
  have HV := Lib.hid hv
  have HO := Lib.hid ho
  have HL := Lib.hid hl
  have hn6 : n ≤ 1000000 := by omega
  by_cases c1 : (s < 0 ∨ 31 < s) ∨ (z ≠ 2 ∧ z ≠ 3)
  · have e : onP p s z bs = (1, p) := by unfold onP; rw [if_pos c1]
    rw [e]
    clear h hv ho e
    by_cases h1 : s < 0
    · have d1 : decide (s < 0) = true := decide_eq_true h1
      clear c1
      go_enter Try.func22, Try.ntmps22
      go_wp2
      go_ret
      exact ⟨rfl, HR.out, Turns.refl _ _⟩
    · have d1 : decide (s < 0) = false := decide_eq_false h1
      by_cases h2 : 31 < s
      · have d2 : decide (31 < s) = true := decide_eq_true h2
        clear c1
        go_enter Try.func22, Try.ntmps22
        go_wp2
        go_ret
        exact ⟨rfl, HR.out, Turns.refl _ _⟩
      · have d2 : decide (31 < s) = false := decide_eq_false h2
        have d3 : (z != 2) = true := by rw [bne_iff_ne]; omega
        have d4 : (z != 3) = true := by rw [bne_iff_ne]; omega
        clear c1
        go_enter Try.func22, Try.ntmps22
        go_wp2
        go_ret
        exact ⟨rfl, HR.out, Turns.refl _ _⟩
  · have hs0 : 0 ≤ s := by omega
    have hz : z = 2 ∨ z = 3 := by omega
    obtain ⟨k, rfl⟩ := Int.eq_ofNat_of_zero_le hs0
    have hk : k < 32 := by omega
    have cz := h.cz hk
    obtain ⟨zo, hzo⟩ : ∃ zo, zo = p.z.getD k 0 := ⟨_, rfl⟩
    rw [← hzo] at cz
    by_cases c2 : zo = 0
    · subst c2
      obtain ⟨z, rfl⟩ : ∃ y : Nat, z = (y : Int) := ⟨z.toNat, by omega⟩
      have e : onP p (k : Int) (z : Int) bs = (0, ⟨badU k (spanU freshG p.u (32 * k) (32 * k + 32)) bs, p.z.set k z, p.i.set k false⟩) := by
        unfold onP
        rw [if_neg c1, Int.toNat_natCast, if_neg (by rw [← hzo]; simp), Int.toNat_natCast]
      rw [e]
      have ci := h.ci hk
      obtain ⟨io, hio⟩ : ∃ io, io = p.i.getD k false := ⟨_, rfl⟩
      rw [← hio] at ci
      have fz := h.fz (1024 + k)
      have fi := h.fz (1056 + k)
      have d1 : decide ((k : Int) < 0) = false := decide_eq_false (by omega)
      have d2 : decide (31 < (k : Int)) = false := decide_eq_false (by omega)
      have hk0 : (0 : Int) ≤ (k : Int) := by omega
      have hk1 : (k : Int) < 32 := by omega
      have d3 : (((z : Int) != 2) && ((z : Int) != 3)) = false := by rcases hz with h | h <;> simp [h]
      clear h hv ho e hzo hio c1
      have hz3 : z ≤ 3 := by omega
      have hz' : z = 2 ∨ z = 3 := by omega
      obtain ⟨a, ha⟩ : ∃ a, a = 32 * k := ⟨_, rfl⟩
      have m1 : (32 : Int) * (k : Int) = (a : Int) := by omega
      have hka : a + 32 ≤ 1024 := by omega
      have HA := Lib.hid ha
      rw [← ha]
      have HST := Lib.hid (fun (W : World) (hW : RefP W g p) => (show RefP ((W.setCell ⟨g, 1024 + k, none⟩ (.int .i64 (z : Int))).setCell ⟨g, 1056 + k, none⟩ (.bool false)) g ⟨spanU freshG p.u a a, p.z.set k z, p.i.set k false⟩ from by
        rw [spanU_none]
        exact (hW.sz hk hz3).si hk))
      clear hz d3 ha
      rcases hz' with rfl | rfl
      all_goals
        go_enter Try.func22, Try.ntmps22
        go_wp2_with fail
        go_region_held3 (fun _ => True) (trivial) (fail)
        have HS0 := Lib.hid (HST.out w HR.out)
        clear cz fz ci fi
        go_wp2_with fail
        go_loopg [9] 32 (fun gg s9 wr => ∃ f : Nat, f + gg = a + 32 ∧ a ≤ f ∧ s9 = .int .i64 (f : Int) ∧ RefP wr g ⟨spanU freshG p.u a f, p.z.set k _, p.i.set k false⟩ ∧ Turns (fun k => k = g) w wr)
        case atStart => exact ⟨a, rfl, Nat.le_refl _, rfl, HS0.out, (Turns.of_only (M := fun k => k = g) (((Only.refl g w).setCell _ _).setCell _ _) rfl).drew⟩
        case round =>
          obtain ⟨f, hfg, haf, rfl, hr, ht⟩ := hrel
          have HR1 := Lib.hid hr
          have HT1 := Lib.hid ht
          by_cases hlt : f < a + 32
          · have t1 : decide ((f : Int) < (a : Int) + 32) = true := decide_eq_true (by omega)
            have hf0 : (0 : Int) ≤ (f : Int) := by omega
            have hf1 : (f : Int) < 1024 := by omega
            have cu := hr.cu (f := f) (by omega)
            have fu := hr.fz f
            have hul : f < p.u.length := by rw [HR.out.2.u]; omega
            rw [spanU_at _ _ _ _ hul] at cu
            obtain ⟨y, hy⟩ : ∃ y, y = p.u.getD f 0 := ⟨_, rfl⟩
            rw [← hy] at cu
            have HY := Lib.hid hy
            clear hr ht hy
            by_cases h6 : y = 6
            · have t2 : ((y : Int) != 6) = false := by subst h6; rfl
              have HSK := Lib.hid (spanU_skip freshG p.u a f haf hul (by rw [← HY.out, h6]; rfl))
              clear h6
              go_wp2_with fail
              go_roundg (a + 32 - (f + 1))
              case measure => omega
              case rel => exact ⟨f + 1, by omega, by omega, by go_num, by rw [HSK.out]; exact HR1.out, HT1.out⟩
            · have t2 : ((y : Int) != 6) = true := by rw [bne_iff_ne]; omega
              have HSU := Lib.hid (show spanU freshG p.u a (f + 1) = (spanU freshG p.u a f).set f 1 from by
                rw [spanU_succ freshG p.u a f haf hul, ← HY.out]
                unfold freshG
                rw [if_neg h6])
              clear h6
              go_wp2_with fail
              go_roundg (a + 32 - (f + 1))
              case measure => omega
              case rel => exact ⟨f + 1, by omega, by omega, by go_num, by rw [HSU.out]; exact HR1.out.su (v := 1) (by omega) (by omega), HT1.out.trans (Turns.of_only ((Only.refl g _).setCell _ _) rfl)⟩
          · obtain rfl : f = a + 32 := by omega
            have t1 : decide (((a + 32 : Nat) : Int) < (a : Int) + 32) = false := decide_eq_false (by omega)
            obtain ⟨U, hU⟩ : ∃ U, U = spanU freshG p.u a (a + 32) := ⟨_, rfl⟩
            rw [← hU] at HR1
            have HU := Lib.hid hU
            clear hr ht hU
            go_wp2_with fail
            go_loopg [10] n (fun gg s10 wx => ∃ i : Nat, i + gg = n ∧ s10 = .int .i64 (i : Int) ∧ RefP wx g ⟨badU k U (bs.take i), p.z.set k _, p.i.set k false⟩ ∧ Turns (fun k => k = g) w wx)
            case atStart => exact ⟨0, by omega, rfl, HR1.out, HT1.out⟩
            case round =>
              obtain ⟨i, hig, rfl, hr, ht⟩ := hrel
              have HR2 := Lib.hid hr
              have HT2 := Lib.hid ht
              by_cases hlt2 : i < n
              · have t3 : decide ((i : Int) < (n : Int)) = true := decide_eq_true (by omega)
                obtain ⟨_, _, _, ev, _, _, _, hx⟩ := HV.out
                injection ev with e1 e2 e3
                subst e1 e2 e3
                obtain ⟨b, off, rfl, hbl, hc⟩ := hx (by omega)
                have hne : b ≠ g := HO.out b off none n c rfl (by omega)
                obtain ⟨y, hy⟩ : ∃ y, y = bs.getD i 0 := ⟨_, rfl⟩
                have cb : wr.cell? ⟨b, off + i, none⟩ = some (.int .i64 y) := by
                  rw [World.cell?_of_block (ht.block b hbl hne), hc i hlt2, hy]
                have HSN := Lib.hid (show badU k U (bs.take (i + 1)) = if 32 * (k : Int) ≤ y ∧ y < 32 * (k : Int) + 32 then (badU k U (bs.take i)).set y.toNat 6 else badU k U (bs.take i) from by
                  have hi' : i < bs.length := by rw [HL.out]; exact hlt2
                  rw [List.take_succ_eq_append_getElem hi', badU_snoc, hy]
                  simp [hi'])
                have FU := Lib.hid hr.fz
                have CU := Lib.hid (fun (f : Nat) (hf : f < 1024) => hr.cu hf)
                clear hr ht hx hc hy
                by_cases h1 : (a : Int) ≤ y
                · have t4 : decide ((a : Int) ≤ y) = true := decide_eq_true h1
                  by_cases h2 : y < (a : Int) + 32
                  · have t5 : decide (y < (a : Int) + 32) = true := decide_eq_true h2
                    obtain ⟨f, rfl⟩ : ∃ f : Nat, y = (f : Int) := ⟨y.toNat, by omega⟩
                    have hf0 : (0 : Int) ≤ (f : Int) := by omega
                    have hf1 : (f : Int) < 1024 := by omega
                    have cu := CU.out f (by omega)
                    have fu := FU.out f
                    obtain ⟨old, hold⟩ : ∃ old, old = (badU k U (bs.take i)).getD f 0 := ⟨_, rfl⟩
                    rw [show (PS.u ⟨badU k U (bs.take i), p.z.set k _, p.i.set k false⟩) = badU k U (bs.take i) from rfl, ← hold] at cu
                    rw [if_pos ⟨by omega, by omega⟩, Int.toNat_natCast] at HSN
                    have hn1 : a ≤ f := by omega
                    have hn2 : f < a + 32 := by omega
                    clear hold h1 h2
                    go_wp2_with fail
                    go_still_tail 8, (by kernel_rfl)
                    obtain ⟨W2, hW2⟩ : ∃ W2, W2 = wr.drew := ⟨_, rfl⟩
                    change wpList _ _ _ _ _ wr.drew
                    rw [← hW2]
                    have cu2 : W2.cell? ⟨g, f, none⟩ = some (.int .i64 (old : Int)) := by rw [hW2]; exact cu
                    have fu2 : W2.frozen? ⟨g, f, none⟩ = false := by rw [hW2]; exact fu
                    have HW2 := Lib.hid (show RefP W2 g ⟨badU k U (bs.take i), p.z.set k _, p.i.set k false⟩ ∧ Turns (fun k => k = g) w W2 from by
                      rw [hW2]
                      exact ⟨HR2.out.below ((Below.refl _ _).drew) HR2.out.1.lt, HT2.out.drew⟩)
                    clear hW2 cu fu cb
                    go_wp2_with fail
                    go_roundg (n - (i + 1))
                    case measure => omega
                    case rel => exact ⟨i + 1, by omega, by go_num, by rw [HSN.out]; exact HW2.out.1.su (v := 6) (by omega) (by omega), HW2.out.2.trans (Turns.of_only ((Only.refl g _).setCell _ _) rfl)⟩
                  · have t5 : decide (y < (a : Int) + 32) = false := decide_eq_false h2
                    rw [if_neg (by omega)] at HSN
                    clear h1 h2
                    go_wp2_with fail
                    go_roundg (n - (i + 1))
                    case measure => omega
                    case rel => exact ⟨i + 1, by omega, by go_num, by rw [HSN.out]; exact HR2.out, HT2.out⟩
                · have t4 : decide ((a : Int) ≤ y) = false := decide_eq_false h1
                  rw [if_neg (by omega)] at HSN
                  clear h1
                  go_wp2_with fail
                  go_roundg (n - (i + 1))
                  case measure => omega
                  case rel => exact ⟨i + 1, by omega, by go_num, by rw [HSN.out]; exact HR2.out, HT2.out⟩
              · obtain rfl : i = n := by omega
                have t3 : decide ((i : Int) < (i : Int)) = false := decide_eq_false (by omega)
                clear hr ht
                go_wp2
                go_ret
                have h3 := HR2.out
                rw [List.take_of_length_le (by rw [HL.out]; exact Nat.le_refl _), HU.out] at h3
                exact ⟨rfl, h3, HT2.out⟩
    · obtain ⟨y, rfl⟩ : ∃ y : Nat, z = (y : Int) := ⟨z.toNat, by omega⟩
      have e : onP p (k : Int) (y : Int) bs = (3, p) := by
        unfold onP
        rw [if_neg c1, Int.toNat_natCast, if_pos (by rw [← hzo]; exact c2)]
      rw [e]
      have d1 : decide ((k : Int) < 0) = false := decide_eq_false (by omega)
      have d2 : decide (31 < (k : Int)) = false := decide_eq_false (by omega)
      have hk0 : (0 : Int) ≤ (k : Int) := by omega
      have hk1 : (k : Int) < 32 := by omega
      have d4 : ((zo : Int) != 0) = true := by rw [bne_iff_ne]; omega
      have hy : y = 2 ∨ y = 3 := by omega
      clear h hv ho e hzo c1 hz
      rcases hy with rfl | rfl
      all_goals
        go_enter Try.func22, Try.ntmps22
        go_wp2
        go_ret
        exact ⟨rfl, HR.out, Turns.refl _ _⟩
end Go.Proofs.Ytkpjimpjopbdkaa

/-
  The contract of a tree's Set.
  Conditions: those that each line bears.
-/
import Derived.Test.YtegoookllckhiaaTrH
import Derived.Deep.RegionHeld3
namespace Go.Proofs.Ytegoookllckhiaa
open Go.RowKit
set_option linter.unusedVariables false

section
variable {P : Program} {w : World}
theorem run_append_rows (base : Nat) (t ty e : TypeId) (i : TypeInfo) (z : Value) (size bytes : Nat) (ht : P.underlying t = some (.slice e)) (hi : P.info? e = some i) (hz : i.zero = some z)
    (hsize : i.size = size) (hby : i.bytes = bytes) (hzs : z.cells.size = size) (hsz : 0 < size)
    (v : Value) (n : Nat) (xs : List Value) (h : RowAt w base size v n xs) (u : Value) (m : Nat) (us : List Value) (hr : Rd w size u m us)
    (h63 : n + m ≤ maxLen) (hbytes : (n + m) * bytes ≤ 140737488355328) (hbase : base ≤ w.heap.size) :
    ∃ v' w', (Builtin.append_ #[t, t] ty #[v, u]).run P w = .ok v' w' ∧ RowAt w' base size v' (n + m) (xs ++ us) ∧ w.grownBy w' v.ownBlock := by
  obtain ⟨A, c, rfl, hl, h1, hc⟩ := hr
  by_cases hm : m = 0
  · subst hm
    have hy : us = [] := List.eq_nil_of_length_eq_zero (by simpa using hl)
    subst hy
    cases A with
    | none =>
      refine ⟨v, w, ?_, by simpa using h, World.grownBy.refl _ _⟩
      obtain ⟨_, _, ⟨rfl, rfl⟩ | ⟨g, o, cap, rfl, hnc, _⟩⟩ := h
      · simp [Builtin.append_, run_underlying ht, sizeOf, typeInfo, hi, Builtin.lenOf, Builtin.firstCells]
      · simp [Builtin.append_, run_underlying ht, sizeOf, typeInfo, hi, Builtin.lenOf, Builtin.firstCells, hnc, storeCells]
    | some a =>
      obtain ⟨h2, h3, ⟨rfl, rfl⟩ | ⟨g, o, cap, rfl, k3, k4, k5, k6, k7, k8⟩⟩ := id h
      · obtain ⟨v', w', r, o, g, _⟩ := run_append_own (P := P) w base t ty e i z size bytes ht hi hz hsize hby hzs hsz (.slice none 0 0) 0 [] (World.ownsRow_nil w base e size) a 0 c [] (by simp) (fun j u h => by simp at h) (fun u h => by simp at h) h63 hbytes hbase
        obtain rfl : xs = [] := List.eq_nil_of_length_eq_zero (by simpa using h2)
        exact ⟨v', w', r, RowAt.of_own o (by simp), g⟩
      · have hrun := run_append_room_cells (P := P) w t ty e i ht hi g o n cap a 0 c [] (by simp) (fun j u hj => by simp at hj) (fun u hu => by simp at hu) k3 (fun j hj => by simp at hj) (fun j hj => by simp at hj)
        exact ⟨_, _, hrun, by simpa [World.setCells] using h, World.grownBy.refl _ _⟩
  · obtain ⟨b, ob, rfl, hcell⟩ := hc (by omega)
    subst hsize
    obtain ⟨h2, h3, ⟨rfl, rfl⟩ | ⟨g, o, cap, rfl, k3, k4, k5, k6, k7, k8⟩⟩ := h
    · obtain rfl : xs = [] := List.eq_nil_of_length_eq_zero (by simpa using h2)
      obtain ⟨v', w', hrun, r1, r2, _⟩ := run_append_own (P := P) w base t ty e i z i.size bytes ht hi hz rfl hby hzs hsz (.slice none 0 0) 0 [] (World.ownsRow_nil w _ e i.size) ⟨b, ob, none⟩ m c us hl (fun j u hj => by rw [Addr.add_lit]; exact hcell j u hj) h1 (by simpa using h63) (by simpa using hbytes) hbase
      exact ⟨v', w', hrun, RowAt.of_own r1 (by simpa using h1), r2⟩
    · have hu : ∀ j u, us[j]? = some u → w.cell? ((⟨b, ob, none⟩ : Addr).add j) = some u := fun j u hj => by rw [Addr.add_lit]; exact hcell j u hj
      by_cases hr : n + m ≤ cap
      · have hcs : ∀ j, j < us.length → n * i.size + j < cap * i.size := fun j hj => by
          have := Nat.mul_le_mul_right i.size hr
          rw [Nat.add_mul] at this
          omega
        have ea : ∀ j, o + n * i.size + j = o + (n * i.size + j) := fun j => Nat.add_assoc _ _ _
        have hsome : ∀ j, j < us.length → (w.cell? ⟨g, o + n * i.size + j, none⟩).isSome = true := fun j hj => by rw [ea]; exact (k8 _ (hcs j hj)).1
        have hrun := run_append_room_cells (P := P) w t ty e i ht hi g o n cap ⟨b, ob, none⟩ m c us hl hu h1 hr hsome (fun j hj => by rw [ea]; exact (k8 _ (hcs j hj)).2)
        refine ⟨_, _, hrun, ⟨by rw [List.length_append, h2, hl, Nat.add_mul], fun u hm => (List.mem_append.1 hm).elim (h3 u) (h1 u), .inr ⟨g, o, cap, rfl, hr, k4, k5, ?_, fun j u hj => ?_, fun j hj => ?_⟩⟩, ?_⟩
        · have := (Only.setCells us (o + n * i.size) (Only.refl g w)).1.size
          omega
        · by_cases hjo : j < xs.length
          · rw [World.cell?_setCells_out g _ _ _ _ (fun _ _ => Or.inl (by show o + j < o + n * i.size; omega))]
            rw [List.getElem?_append_left hjo] at hj
            exact k7 j u hj
          · rw [List.getElem?_append_right (by omega)] at hj
            have hlt : j - xs.length < us.length := (List.getElem?_eq_some_iff.1 hj).1
            have := World.cell?_setCells_in g us (o + n * i.size) w hsome (j - xs.length) hlt
            rw [ea, show n * i.size + (j - xs.length) = j by omega] at this
            rw [this, ← hj, List.getElem?_eq_getElem hlt]
        · refine ⟨?_, (World.frozen?_setCells g _ _ _ _).trans (k8 j hj).2⟩
          by_cases hin : n * i.size ≤ j ∧ j < n * i.size + us.length
          · have := World.cell?_setCells_in g us (o + n * i.size) w hsome (j - n * i.size) (by omega)
            rw [ea, show n * i.size + (j - n * i.size) = j by omega] at this
            rw [this]; rfl
          · rw [World.cell?_setCells_out g _ _ _ _ (fun _ _ => (by show o + j < o + n * i.size ∨ o + n * i.size + us.length ≤ o + j; omega))]
            exact (k8 j hj).1
        · exact (Only.setCells us (o + n * i.size) (Only.refl g w)).1
      · obtain ⟨v', w', hrun, r1, r2⟩ := run_append_arg_grows (P := P) w t ty e i z i.size bytes ht hi hz rfl hby hzs hsz ⟨g, o, none⟩ n cap xs h2 (fun j u hj => by rw [Addr.add_lit]; exact k7 j u hj) ⟨b, ob, none⟩ m c us hl hu (by omega) h63 hbytes
        refine ⟨v', w', hrun, (RowAt.of_own r1 (fun u hm => (List.mem_append.1 hm).elim (h3 u) (h1 u))).mono hbase, ?_⟩
        exact ⟨r2.os, r2.tape, r2.output, r2.size, fun k hk _ => r2.block k hk (by simp)⟩
end
theorem Rd.of_rowAt {w : World} {base size n : Nat} {v : Value} {xs : List Value} (h : RowAt w base size v n xs) : Rd w size v n xs := by
  obtain ⟨h1, h2, ⟨rfl, rfl⟩ | ⟨g, o, cap, rfl, h3, h4, h5, h6, h7, h8⟩⟩ := h
  · exact ⟨none, 0, rfl, h1, h2, fun h => absurd h (Nat.lt_irrefl _)⟩
  · exact ⟨_, _, rfl, h1, h2, fun _ => ⟨g, o, rfl, h7⟩⟩
/-- What Set comes to where the page may be and the entry too. -/
def SetRes (w : World) (gR gF gP gS gL page v : Nat) (F : Nat → List Nat) (bad : Nat → Bool) (p : PS) (bl : List Bool) (g : Nat → Nat → Nat) (ee : Ending) (w' : World) : Prop :=
  ∃ L, 1 ≤ L ∧ L ≤ 4 ∧ (∀ l, l < L → g l (page / dv l) ≠ 0) ∧ (L < 4 → g L (page / dv L) = 0) ∧
    ((L < 4 ∧ v = 0 ∧ ee = .returned (.int .i64 0) ∧ Below w.heap.size w w') ∨
     (∃ m, ¬ (L < 4 ∧ v = 0) ∧ m.length < 4 - L ∧ Took p m ∧ FirstF (hadP p m) 2 (2 ^ 0) none ∧ ee = .returned (.int .i64 4) ∧ PoolIn w' gP p ∧ SetAt w' gS gL (putB bl false (zI m)) ∧ Turns (fun k => k = gP ∨ k = gS ∨ k = gL) w w') ∨
     (∃ m F' s', ¬ (L < 4 ∧ v = 0) ∧ m.length = 4 - L ∧ Took p m ∧ (∀ f ∈ m, F' f = zer) ∧ (∀ f, f ∉ m → F' f = F f) ∧ (∀ f, f < 1024 → (F' f).length = 64) ∧ ee = .returned (.int .i64 0) ∧ s' = goPut (wayF g page L ++ m) page ⟨F', hadP p m, putB bl true (zI m), v⟩ (downs 4) ∧ Mem w' gR gF 1024 s'.F bad ∧ PoolIn w' gP s'.p ∧ SetAt w' gS gL s'.b ∧ Turns (fun k => k = gP ∨ k = gS ∨ k = gL ∨ k = gF) w w'))
set_option maxRecDepth 20000 in
set_option maxHeartbeats 1600000 in
theorem tset_live (gT gR gF gP r gS gL page : Nat) (k n : Int) (b : Bool) (F : Nat → List Nat) (bad : Nat → Bool) (p : PS) (bl : List Bool) (g : Nat → Nat → Nat) (e : List En) (w : World) (hG : TreeG w gT gR gP r gS gL F bl g e) (hM : Mem w gR gF 1024 F bad) (hb : ∀ f, f < 1024 → bad f = false) (hP : PoolIn w gP p) (hD : Dif2 gT gR gF gP gS gL) (hp : page < 4096) (hx : EnOk ⟨k, n, b⟩) :
    Calls Try.prog 12 #[.pointer (some ⟨gT, 0, none⟩), .int .i64 (page : Int), .agg #[.int .i64 k, .int .i64 n, .bool b]] w (SetRes w gR gF gP gS gL page (numE ⟨k, n, b⟩) F bad p bl g) := by
  obtain ⟨iI, hiI, hiz0, hiz1, hiz2⟩ := info_parts Try.infoInt8
  have HII := Lib.hid hiI
  have HI0 := Lib.hid hiz0
  have HI1 := Lib.hid hiz1
  have HI2 := Lib.hid hiz2
  have hB0 := (Below.refl w.heap.size w).alloc (Nat.le_refl _) (.cells #[.int .i64 k, .int .i64 n, .bool b] 35)
  have HB0 := Lib.hid hB0
  have HG := Lib.hid hG
  have HM := Lib.hid hM
  have HBD := Lib.hid hb
  have HP := Lib.hid hP
  have HD := Lib.hid hD
  have HLT := Lib.hid (show gT < w.heap.size ∧ gR < w.heap.size ∧ gF < w.heap.size ∧ gP < w.heap.size ∧ gS < w.heap.size ∧ gL < w.heap.size from ⟨Blk.lt hG.tr, hM.lt.1, hM.lt.2, PoolMem.lt hP _ rfl, hG.st.lt.1, hG.st.lt.2⟩)
  have MY := Lib.hid (tmay_in gT gR gP r gS page _ (Blk.below hG.tr hB0 (Blk.lt hG.tr)) hp)
  have EN := Lib.hid (enc_any k n b (w.alloc (.cells #[.int .i64 k, .int .i64 n, .bool b] 35)))
  have HXO := Lib.hid hx
  clear hG hM hb hP hD hB0 hx hiI hiz0 hiz1 hiz2
  obtain ⟨v, hv⟩ : ∃ v, v = numE ⟨k, n, b⟩ := ⟨_, rfl⟩
  rw [← hv]
  have HV := Lib.hid hv
  clear hv
  go_enter Try.func12, Try.ntmps12
  go_wp2_with fail
  refine MY.out.mono ?_
  rintro ee w1 ⟨rfl, rfl⟩
  go_wp2_with fail
  refine EN.out.mono ?_
  rintro ee w2 ⟨u, er, rfl, he, hb2⟩
  obtain ⟨rfl, rfl⟩ : er = 0 ∧ u = v := by
    rcases he with ⟨_, h2, h3⟩ | ⟨h1, _⟩
    · exact ⟨h2, h3.trans HV.out.symm⟩
    · exact absurd HXO.out h1
  have HB2 := Lib.hid (HB0.out.trans (hb2.mono HB0.out.size))
  have hB3 := (Below.refl w2.heap.size w2).alloc (Nat.le_refl _) (.cells #[.slice none 0 0] 23)
  have HB3 := Lib.hid (HB2.out.trans (hB3.mono HB2.out.size))
  have W3 := Lib.hid (Blk.new w2 23 #[.slice none 0 0])
  have DG := Lib.hid (digits_any page (w2.alloc (.cells #[.slice none 0 0] 23)) hp)
  clear he hb2 hB3
  go_wp2_with fail
  refine DG.out.mono ?_
  rintro ee w4 ⟨rfl, hb4⟩
  have hs3 := HB3.out.size
  obtain ⟨d0, d1, d2, d3, hdg⟩ : ∃ d0 d1 d2 d3 : Nat, digV page = #[.int .i64 ((d0 : Nat) : Int), .int .i64 ((d1 : Nat) : Int), .int .i64 ((d2 : Nat) : Int), .int .i64 ((d3 : Nat) : Int)] := ⟨_, _, _, _, rfl⟩
  rw [hdg]
  have HDG := Lib.hid hdg
  have hB5 := hb4.alloc hb4.size (.cells #[.int .i64 ((d0 : Nat) : Int), .int .i64 ((d1 : Nat) : Int), .int .i64 ((d2 : Nat) : Int), .int .i64 ((d3 : Nat) : Int)] 68)
  have HB5 := Lib.hid (HB3.out.trans (hB5.mono hs3))
  have W5 := Lib.hid (W3.out.below hB5 W3.out.lt)
  have D5 := Lib.hid (Blk.new w4 68 #[.int .i64 ((d0 : Nat) : Int), .int .i64 ((d1 : Nat) : Int), .int .i64 ((d2 : Nat) : Int), .int .i64 ((d3 : Nat) : Int)])
  have HS4 := Lib.hid (show w2.heap.size + 1 ≤ w4.heap.size from by have := hb4.size; simpa using this)
  have HS2 := Lib.hid (show w.heap.size < w2.heap.size + 1 from by have := HB2.out.size; omega)
  clear hb4 hB5 hs3 hdg
  have hltt := HLT.out
  have hs22 := HS2.out
  have WK := Lib.hid (twalk_any 32 #[.pointer (some ⟨w2.heap.size, 0, none⟩)] (enters_of Try.func32 (by kernel_rfl) rfl) (WayR w2.heap.size)
    (fun l M W W' h hb => h.below hb) (fun l M W h => h.lt) (fun l M W f h hl => way_add w2.heap.size l M W f h hl)
    gT gR gF gP r gS page 0 F bad g _ (fun j => j = w2.heap.size ∨ (Value.slice none 0 0).ownBlock = some j) (w4.alloc (.cells #[.int .i64 ((d0 : Nat) : Int), .int .i64 ((d1 : Nat) : Int), .int .i64 ((d2 : Nat) : Int), .int .i64 ((d3 : Nat) : Int)] 68)) (Blk.below HG.out.tr HB5.out (Blk.lt HG.out.tr)) (HM.out.below HB5.out HM.out.lt.1 HM.out.lt.2) HBD.out HG.out.nod HG.out.con HG.out.root hp
    ⟨_, W5.out, RowAt.nil_ _ _ _, rfl⟩ (by rintro (h | h); omega; cases h) (by rintro (h | h); omega; cases h) (by rintro (h | h); omega; cases h))
  rw [HDG.out] at WK
  have cd0 : (w4.alloc (.cells #[.int .i64 ((d0 : Nat) : Int), .int .i64 ((d1 : Nat) : Int), .int .i64 ((d2 : Nat) : Int), .int .i64 ((d3 : Nat) : Int)] 68)).cell? ⟨w4.heap.size, 0, none⟩ = some (.int .i64 ((d0 : Nat) : Int)) := D5.out.cell 0
  clear hltt hs22
  go_wp2_with fail
  refine WK.out.mono ?_
  rintro ee w6 ⟨rfl, L, M6, hL1, hL4, hLy, hLn, ⟨vw, hw1, hw2, rfl⟩, hMn, ht6⟩
  rw [wayF_length] at hw2
  obtain ⟨A, cap, hva, hcap⟩ := hw2.len
  subst hva
  have HLY := Lib.hid hLy
  have HLN := Lib.hid hLn
  have HW1 := Lib.hid hw1
  have HW2 := Lib.hid hw2
  have HMN := Lib.hid hMn
  have c6 : w6.cell? ⟨w2.heap.size, 0, none⟩ = some (.slice A L cap) := hw1.cell 0
  have HT6 := Lib.hid ht6
  have HD6 := Lib.hid (ht6.blk D5.out (by have := HS4.out; rintro (h | h); omega; cases h))
  have HB6 := Lib.hid (HB5.out.trans (Turns.below ht6 (B := w.heap.size) (by have := HS2.out; rintro j (h | h); omega; cases h) HB5.out.size))
  have cn : (((4 - L : Nat)) : Int) = 4 - (L : Int) := by omega
  have AD := Lib.hid (tadd_any gT gR gF gP r gS gL (4 - L) F bad p bl w6 (Blk.below HG.out.tr HB6.out (Blk.lt HG.out.tr)) (HM.out.below HB6.out HM.out.lt.1 HM.out.lt.2) HBD.out (HP.out.fresh HB6.out) (HG.out.st.fresh HB6.out) HD.out (by omega))
  rw [cn] at AD
  clear hLy hLn hw1 hw2 hMn ht6 cd0 cn
  have hgv : g 4 page = g 4 page := rfl
  by_cases h40 : L < 4 ∧ u = 0
  · obtain ⟨h41, rfl⟩ := h40
    have t1 : decide ((0 : Int) < 4 - (L : Int)) = true := decide_eq_true (by omega)
    go_wp2_with fail
    go_ret
    exact ⟨L, hL1, hL4, HLY.out, HLN.out, .inl ⟨h41, rfl, rfl, HB6.out⟩⟩
  · have H40 := Lib.hid h40
    by_cases h41 : L < 4
    · have t1 : decide ((0 : Int) < 4 - (L : Int)) = true := decide_eq_true (by omega)
      have t2 : ((u : Int) == 0) = false := by
        have : u ≠ 0 := fun h => h40 ⟨h41, h⟩
        simp [this]
      clear h40
      go_wp2_with fail
      refine AD.out.mono ?_
      rintro ee w7 ⟨m, ⟨hml, htk, v2, F', rfl, hrow, hm7, hz7, ho7, hp7, hs7, ht7⟩ | ⟨hml, htk, hno, rfl, hp7, hs7, ht7⟩⟩
      · have hltt := HLT.out
        have hs22 := HS2.out
        have hs6 := HB6.out.size
        have hs67 := ht7.size
        have hbk7 : ∀ j, w.heap.size ≤ j → j < w6.heap.size → w7.heap[j]? = w6.heap[j]? := fun j h1 h2 => ht7.block j h2 (by rintro (h | h | h | h) <;> omega)
        have hW7 : Blk w7 w2.heap.size 23 #[.slice A L cap] := (hbk7 _ (by omega) HW1.out.lt).trans HW1.out
        have hD7 : Blk w7 w4.heap.size 68 #[.int .i64 ((d0 : Nat) : Int), .int .i64 ((d1 : Nat) : Int), .int .i64 ((d2 : Nat) : Int), .int .i64 ((d3 : Nat) : Int)] := (hbk7 _ (by have := HS4.out; omega) HD6.out.lt).trans HD6.out
        have hR7 : RowAt w7.drew (w2.heap.size + 1) 1 (.slice A L cap) L (fV (wayF g page L)) := RowAt.keep HW2.out (fun j hj => hbk7 j (by have := (HW2.out.lt j hj).1; omega) (HW2.out.lt j hj).2) hs67
        obtain ⟨v9, w9, r9, hr9, hg9⟩ := run_append_rows (P := Try.prog) (w := w7.drew) (w2.heap.size + 1) 23 23 3 iI (.int .i64 0) 1 8 Try.underlying23 HII.out HI0.out HI1.out HI2.out rfl (by decide) _ L _ hR7 v2 (4 - L) (fV m) (Rd.of_rowAt (show RowAt w7.drew w6.heap.size 1 v2 (4 - L) (fV m) from hrow)) (by unfold maxLen; omega) (by omega) (by show w2.heap.size + 1 ≤ w7.heap.size; have := hW7.lt; omega)
        rw [show L + (4 - L) = 4 by omega, show fV (wayF g page L) ++ fV m = fV (wayF g page L ++ m) from by unfold fV; rw [List.map_append]] at hr9
        obtain ⟨gq, oq, cq, rfl, hcq, hcells⟩ := hr9.some_ (by omega)
        have hgq := hr9.lt gq rfl
        have hB9 : Below (w2.heap.size + 1) w7.drew w9 := (Below.refl _ _).grown hg9 (by show w2.heap.size + 1 ≤ w7.heap.size; have := hW7.lt; omega) (fun j hj => (hR7.lt j hj).1)
        have hD9 : Blk w9 w4.heap.size 68 #[.int .i64 ((d0 : Nat) : Int), .int .i64 ((d1 : Nat) : Int), .int .i64 ((d2 : Nat) : Int), .int .i64 ((d3 : Nat) : Int)] := (hg9.block w4.heap.size (by show w4.heap.size < w7.heap.size; exact hD7.lt) (fun e => by
          have h1 := (hR7.lt w4.heap.size e.symm).1
          rcases HMN.out w4.heap.size (.inr e.symm) with (h | h) | h
          · omega
          · cases h
          · simp only [World.size_alloc] at h; omega)).trans hD7
        have hW9 : Blk w9 w2.heap.size 23 #[.slice A L cap] := (hB9.block _ (Nat.lt_succ_self _)).trans hW7
        have hB9' : Below w.heap.size w7 w9 := Below.mono ((Below.refl (w2.heap.size + 1) w7).drew.trans hB9) (by omega)
        have hta := Took.all HP.out.ok m htk
        have hwl : ∀ j, j < 4 → (wayF g page L ++ m).getD j 0 < 1024 := fun j hj => by
          by_cases c : j < L
          · rw [gaL _ _ _ (by rw [wayF_length]; exact c)]
            have e : (wayF g page L).getD j 0 = g j (page / dv j) - 1 := by unfold wayF; simp [c]
            rw [e]
            have h1 := HG.out.nod.le j (page / dv j) (by omega)
            have h2 := HLY.out j c
            omega
          · rw [gaR _ _ _ (by rw [wayF_length]; omega), wayF_length]
            exact (hta.2 _ (getD_mem_or _ _ _ (by omega))).1
        have hul : u < 18446744073709551616 := by
          have h1 := numE_lt HXO.out
          have h2 := HV.out
          omega
        have PT := Lib.hid (tput_any gT gR gF gP r gS gL page gq oq cq (wayF g page L ++ m) bad ⟨F', hadP p m, putB bl true (zI m), u⟩ w9 (Blk.below (ht7.blk (Blk.below HG.out.tr HB6.out (Blk.lt HG.out.tr)) (by have h1 := HD.out.d; have h2 := HD.out.fT; rintro (h | h | h | h); exact h1.tP h; exact h1.tS h; exact h1.tL h; exact h2 h.symm)) hB9' (by omega)) (hm7.below hB9' (by omega) (by omega)) HBD.out (hp7.bel hB9' (by omega)) (hs7.far (hB9'.block _ (by omega)) (hB9'.block _ (by omega))) HD.out hul hgq.2 (by rintro (h | h | h | h) <;> omega)
          (fun j hj => hcells j _ (by unfold fV; rw [List.getElem?_map]; have : j < (wayF g page L ++ m).length := by rw [List.length_append, wayF_length]; omega
                                      have hx : (wayF g page L ++ m)[j]? = some ((wayF g page L ++ m).getD j 0) := by rw [List.getD_eq_getElem?_getD, List.getElem?_eq_getElem this]; rfl
                                      rw [hx]
                                      rfl)) hwl)
        rw [HDG.out] at PT
        have R9 := Lib.hid r9
        have SD := Lib.hid (show w7.drew.cell? ⟨w2.heap.size, 0, none⟩ = some (.slice A L cap) ∧ w7.drew.cell? ⟨w4.heap.size, 0, none⟩ = some (.int .i64 ((d0 : Nat) : Int)) ∧ w7.drew.cell? ⟨w4.heap.size, 1, none⟩ = some (.int .i64 ((d1 : Nat) : Int)) ∧ w7.drew.cell? ⟨w4.heap.size, 2, none⟩ = some (.int .i64 ((d2 : Nat) : Int)) ∧ w7.drew.cell? ⟨w4.heap.size, 3, none⟩ = some (.int .i64 ((d3 : Nat) : Int)) from ⟨hW7.cell 0, hD7.cell 0, hD7.cell 1, hD7.cell 2, hD7.cell 3⟩)
        have S9 := Lib.hid (show w9.cell? ⟨w2.heap.size, 0, none⟩ = some (.slice A L cap) ∧ w9.cell? ⟨w4.heap.size, 0, none⟩ = some (.int .i64 ((d0 : Nat) : Int)) ∧ w9.cell? ⟨w4.heap.size, 1, none⟩ = some (.int .i64 ((d1 : Nat) : Int)) ∧ w9.cell? ⟨w4.heap.size, 2, none⟩ = some (.int .i64 ((d2 : Nat) : Int)) ∧ w9.cell? ⟨w4.heap.size, 3, none⟩ = some (.int .i64 ((d3 : Nat) : Int)) from ⟨hW9.cell 0, hD9.cell 0, hD9.cell 1, hD9.cell 2, hD9.cell 3⟩)
        have KP := Lib.hid (show ∀ w', Turns (fun k => k = gP ∨ k = gS ∨ k = gL ∨ k = gF) w9 w' → (w'.cell? ⟨w2.heap.size, 0, none⟩ = some (.slice A L cap) ∧ w'.cell? ⟨w4.heap.size, 0, none⟩ = some (.int .i64 ((d0 : Nat) : Int)) ∧ w'.cell? ⟨w4.heap.size, 1, none⟩ = some (.int .i64 ((d1 : Nat) : Int)) ∧ w'.cell? ⟨w4.heap.size, 2, none⟩ = some (.int .i64 ((d2 : Nat) : Int)) ∧ w'.cell? ⟨w4.heap.size, 3, none⟩ = some (.int .i64 ((d3 : Nat) : Int))) from fun w' ht => by
          have h1 := ht.blk hW9 (by rintro (h | h | h | h) <;> omega)
          have h2 := ht.blk hD9 (by have := HS4.out; rintro (h | h | h | h) <;> omega)
          exact ⟨h1.cell 0, h2.cell 0, h2.cell 1, h2.cell 2, h2.cell 3⟩)
        have T9 := Lib.hid ((((Turns.of_below HB6.out (Nat.le_refl _)).trans ht7).drew).bel (hB9.mono (by omega)) : Turns (fun k => k = gP ∨ k = gS ∨ k = gL ∨ k = gF) w w9)
        have HML := Lib.hid hml
        have HTK := Lib.hid htk
        have HZ7 := Lib.hid hz7
        have HO7 := Lib.hid ho7
        have HLG := Lib.hid (show ∀ f, f < 1024 → (F' f).length = 64 from fun f hf => hm7.long hf)
        clear hltt hs22 hs6 hs67 hbk7 hW7 hD7 hR7 r9 hr9 hg9 hcq hcells hgq hB9 hD9 hW9 hB9' hta hwl hul hml htk hrow hm7 hz7 ho7 hp7 hs7 ht7
        go_wp2_with fail
        go_region_held3 (fun w' => w'.cell? ⟨w2.heap.size, 0, none⟩ = some (.slice A L cap) ∧ w'.cell? ⟨w4.heap.size, 0, none⟩ = some (.int .i64 ((d0 : Nat) : Int)) ∧ w'.cell? ⟨w4.heap.size, 1, none⟩ = some (.int .i64 ((d1 : Nat) : Int)) ∧ w'.cell? ⟨w4.heap.size, 2, none⟩ = some (.int .i64 ((d2 : Nat) : Int)) ∧ w'.cell? ⟨w4.heap.size, 3, none⟩ = some (.int .i64 ((d3 : Nat) : Int)))
          (first | assumption | exact SD.out | exact S9.out)
          (first
            | (with_reducible refine step_append_run rfl (.tmp 61) (.tmp 62) 23 rfl (.slice A L cap) v2 rfl rfl _ _ R9.out ?_)
            | (go_at_call 33; refine PT.out.mono ?_; rintro ee w10 ⟨rfl, s', hs', h1, h2, h3, h4⟩; have S10 := KP.out w10 h4))
        have H1 := Lib.hid h1
        have H2 := Lib.hid h2
        have H3 := Lib.hid h3
        have H4 := Lib.hid (T9.out.trans h4)
        have H5 := Lib.hid hs'
        clear h1 h2 h3 h4 hs'
        go_wp2_with fail
        go_ret
        exact ⟨L, hL1, hL4, HLY.out, HLN.out, .inr (.inr ⟨m, F', s', H40.out, HML.out, HTK.out, HZ7.out, HO7.out, HLG.out, rfl, H5.out, H1.out, H2.out, H3.out, H4.out⟩)⟩
      · have N1 := Lib.hid hml
        have N2 := Lib.hid htk
        have N3 := Lib.hid hno
        have N4 := Lib.hid hp7
        have N5 := Lib.hid hs7
        have N6 := Lib.hid ((Turns.of_below HB6.out (Nat.le_refl _)).trans ht7 : Turns (fun k => k = gP ∨ k = gS ∨ k = gL) w w7)
        clear hml htk hno hp7 hs7 ht7
        go_wp2_with fail
        go_ret
        exact ⟨L, hL1, hL4, HLY.out, HLN.out, .inr (.inl ⟨m, H40.out, N1.out, N2.out, N3.out, rfl, N4.out, N5.out, N6.out⟩)⟩
    · have t1 : decide ((0 : Int) < 4 - (L : Int)) = false := decide_eq_false (by omega)
      clear h40
      go_wp2_with fail
      refine AD.out.mono ?_
      rintro ee w7 ⟨m, ⟨hml, htk, v2, F', rfl, hrow, hm7, hz7, ho7, hp7, hs7, ht7⟩ | ⟨hml, htk, hno, rfl, hp7, hs7, ht7⟩⟩
      · have hltt := HLT.out
        have hs22 := HS2.out
        have hs6 := HB6.out.size
        have hs67 := ht7.size
        have hbk7 : ∀ j, w.heap.size ≤ j → j < w6.heap.size → w7.heap[j]? = w6.heap[j]? := fun j h1 h2 => ht7.block j h2 (by rintro (h | h | h | h) <;> omega)
        have hW7 : Blk w7 w2.heap.size 23 #[.slice A L cap] := (hbk7 _ (by omega) HW1.out.lt).trans HW1.out
        have hD7 : Blk w7 w4.heap.size 68 #[.int .i64 ((d0 : Nat) : Int), .int .i64 ((d1 : Nat) : Int), .int .i64 ((d2 : Nat) : Int), .int .i64 ((d3 : Nat) : Int)] := (hbk7 _ (by have := HS4.out; omega) HD6.out.lt).trans HD6.out
        have hR7 : RowAt w7.drew (w2.heap.size + 1) 1 (.slice A L cap) L (fV (wayF g page L)) := RowAt.keep HW2.out (fun j hj => hbk7 j (by have := (HW2.out.lt j hj).1; omega) (HW2.out.lt j hj).2) hs67
        obtain ⟨v9, w9, r9, hr9, hg9⟩ := run_append_rows (P := Try.prog) (w := w7.drew) (w2.heap.size + 1) 23 23 3 iI (.int .i64 0) 1 8 Try.underlying23 HII.out HI0.out HI1.out HI2.out rfl (by decide) _ L _ hR7 v2 (4 - L) (fV m) (Rd.of_rowAt (show RowAt w7.drew w6.heap.size 1 v2 (4 - L) (fV m) from hrow)) (by unfold maxLen; omega) (by omega) (by show w2.heap.size + 1 ≤ w7.heap.size; have := hW7.lt; omega)
        rw [show L + (4 - L) = 4 by omega, show fV (wayF g page L) ++ fV m = fV (wayF g page L ++ m) from by unfold fV; rw [List.map_append]] at hr9
        obtain ⟨gq, oq, cq, rfl, hcq, hcells⟩ := hr9.some_ (by omega)
        have hgq := hr9.lt gq rfl
        have hB9 : Below (w2.heap.size + 1) w7.drew w9 := (Below.refl _ _).grown hg9 (by show w2.heap.size + 1 ≤ w7.heap.size; have := hW7.lt; omega) (fun j hj => (hR7.lt j hj).1)
        have hD9 : Blk w9 w4.heap.size 68 #[.int .i64 ((d0 : Nat) : Int), .int .i64 ((d1 : Nat) : Int), .int .i64 ((d2 : Nat) : Int), .int .i64 ((d3 : Nat) : Int)] := (hg9.block w4.heap.size (by show w4.heap.size < w7.heap.size; exact hD7.lt) (fun e => by
          have h1 := (hR7.lt w4.heap.size e.symm).1
          rcases HMN.out w4.heap.size (.inr e.symm) with (h | h) | h
          · omega
          · cases h
          · simp only [World.size_alloc] at h; omega)).trans hD7
        have hW9 : Blk w9 w2.heap.size 23 #[.slice A L cap] := (hB9.block _ (Nat.lt_succ_self _)).trans hW7
        have hB9' : Below w.heap.size w7 w9 := Below.mono ((Below.refl (w2.heap.size + 1) w7).drew.trans hB9) (by omega)
        have hta := Took.all HP.out.ok m htk
        have hwl : ∀ j, j < 4 → (wayF g page L ++ m).getD j 0 < 1024 := fun j hj => by
          by_cases c : j < L
          · rw [gaL _ _ _ (by rw [wayF_length]; exact c)]
            have e : (wayF g page L).getD j 0 = g j (page / dv j) - 1 := by unfold wayF; simp [c]
            rw [e]
            have h1 := HG.out.nod.le j (page / dv j) (by omega)
            have h2 := HLY.out j c
            omega
          · rw [gaR _ _ _ (by rw [wayF_length]; omega), wayF_length]
            exact (hta.2 _ (getD_mem_or _ _ _ (by omega))).1
        have hul : u < 18446744073709551616 := by
          have h1 := numE_lt HXO.out
          have h2 := HV.out
          omega
        have PT := Lib.hid (tput_any gT gR gF gP r gS gL page gq oq cq (wayF g page L ++ m) bad ⟨F', hadP p m, putB bl true (zI m), u⟩ w9 (Blk.below (ht7.blk (Blk.below HG.out.tr HB6.out (Blk.lt HG.out.tr)) (by have h1 := HD.out.d; have h2 := HD.out.fT; rintro (h | h | h | h); exact h1.tP h; exact h1.tS h; exact h1.tL h; exact h2 h.symm)) hB9' (by omega)) (hm7.below hB9' (by omega) (by omega)) HBD.out (hp7.bel hB9' (by omega)) (hs7.far (hB9'.block _ (by omega)) (hB9'.block _ (by omega))) HD.out hul hgq.2 (by rintro (h | h | h | h) <;> omega)
          (fun j hj => hcells j _ (by unfold fV; rw [List.getElem?_map]; have : j < (wayF g page L ++ m).length := by rw [List.length_append, wayF_length]; omega
                                      have hx : (wayF g page L ++ m)[j]? = some ((wayF g page L ++ m).getD j 0) := by rw [List.getD_eq_getElem?_getD, List.getElem?_eq_getElem this]; rfl
                                      rw [hx]
                                      rfl)) hwl)
        rw [HDG.out] at PT
        have R9 := Lib.hid r9
        have SD := Lib.hid (show w7.drew.cell? ⟨w2.heap.size, 0, none⟩ = some (.slice A L cap) ∧ w7.drew.cell? ⟨w4.heap.size, 0, none⟩ = some (.int .i64 ((d0 : Nat) : Int)) ∧ w7.drew.cell? ⟨w4.heap.size, 1, none⟩ = some (.int .i64 ((d1 : Nat) : Int)) ∧ w7.drew.cell? ⟨w4.heap.size, 2, none⟩ = some (.int .i64 ((d2 : Nat) : Int)) ∧ w7.drew.cell? ⟨w4.heap.size, 3, none⟩ = some (.int .i64 ((d3 : Nat) : Int)) from ⟨hW7.cell 0, hD7.cell 0, hD7.cell 1, hD7.cell 2, hD7.cell 3⟩)
        have S9 := Lib.hid (show w9.cell? ⟨w2.heap.size, 0, none⟩ = some (.slice A L cap) ∧ w9.cell? ⟨w4.heap.size, 0, none⟩ = some (.int .i64 ((d0 : Nat) : Int)) ∧ w9.cell? ⟨w4.heap.size, 1, none⟩ = some (.int .i64 ((d1 : Nat) : Int)) ∧ w9.cell? ⟨w4.heap.size, 2, none⟩ = some (.int .i64 ((d2 : Nat) : Int)) ∧ w9.cell? ⟨w4.heap.size, 3, none⟩ = some (.int .i64 ((d3 : Nat) : Int)) from ⟨hW9.cell 0, hD9.cell 0, hD9.cell 1, hD9.cell 2, hD9.cell 3⟩)
        have KP := Lib.hid (show ∀ w', Turns (fun k => k = gP ∨ k = gS ∨ k = gL ∨ k = gF) w9 w' → (w'.cell? ⟨w2.heap.size, 0, none⟩ = some (.slice A L cap) ∧ w'.cell? ⟨w4.heap.size, 0, none⟩ = some (.int .i64 ((d0 : Nat) : Int)) ∧ w'.cell? ⟨w4.heap.size, 1, none⟩ = some (.int .i64 ((d1 : Nat) : Int)) ∧ w'.cell? ⟨w4.heap.size, 2, none⟩ = some (.int .i64 ((d2 : Nat) : Int)) ∧ w'.cell? ⟨w4.heap.size, 3, none⟩ = some (.int .i64 ((d3 : Nat) : Int))) from fun w' ht => by
          have h1 := ht.blk hW9 (by rintro (h | h | h | h) <;> omega)
          have h2 := ht.blk hD9 (by have := HS4.out; rintro (h | h | h | h) <;> omega)
          exact ⟨h1.cell 0, h2.cell 0, h2.cell 1, h2.cell 2, h2.cell 3⟩)
        have T9 := Lib.hid ((((Turns.of_below HB6.out (Nat.le_refl _)).trans ht7).drew).bel (hB9.mono (by omega)) : Turns (fun k => k = gP ∨ k = gS ∨ k = gL ∨ k = gF) w w9)
        have HML := Lib.hid hml
        have HTK := Lib.hid htk
        have HZ7 := Lib.hid hz7
        have HO7 := Lib.hid ho7
        have HLG := Lib.hid (show ∀ f, f < 1024 → (F' f).length = 64 from fun f hf => hm7.long hf)
        clear hltt hs22 hs6 hs67 hbk7 hW7 hD7 hR7 r9 hr9 hg9 hcq hcells hgq hB9 hD9 hW9 hB9' hta hwl hul hml htk hrow hm7 hz7 ho7 hp7 hs7 ht7
        go_wp2_with fail
        go_region_held3 (fun w' => w'.cell? ⟨w2.heap.size, 0, none⟩ = some (.slice A L cap) ∧ w'.cell? ⟨w4.heap.size, 0, none⟩ = some (.int .i64 ((d0 : Nat) : Int)) ∧ w'.cell? ⟨w4.heap.size, 1, none⟩ = some (.int .i64 ((d1 : Nat) : Int)) ∧ w'.cell? ⟨w4.heap.size, 2, none⟩ = some (.int .i64 ((d2 : Nat) : Int)) ∧ w'.cell? ⟨w4.heap.size, 3, none⟩ = some (.int .i64 ((d3 : Nat) : Int)))
          (first | assumption | exact SD.out | exact S9.out)
          (first
            | (with_reducible refine step_append_run rfl (.tmp 61) (.tmp 62) 23 rfl (.slice A L cap) v2 rfl rfl _ _ R9.out ?_)
            | (go_at_call 33; refine PT.out.mono ?_; rintro ee w10 ⟨rfl, s', hs', h1, h2, h3, h4⟩; have S10 := KP.out w10 h4))
        have H1 := Lib.hid h1
        have H2 := Lib.hid h2
        have H3 := Lib.hid h3
        have H4 := Lib.hid (T9.out.trans h4)
        have H5 := Lib.hid hs'
        clear h1 h2 h3 h4 hs'
        go_wp2_with fail
        go_ret
        exact ⟨L, hL1, hL4, HLY.out, HLN.out, .inr (.inr ⟨m, F', s', H40.out, HML.out, HTK.out, HZ7.out, HO7.out, HLG.out, rfl, H5.out, H1.out, H2.out, H3.out, H4.out⟩)⟩
      · have N1 := Lib.hid hml
        have N2 := Lib.hid htk
        have N3 := Lib.hid hno
        have N4 := Lib.hid hp7
        have N5 := Lib.hid hs7
        have N6 := Lib.hid ((Turns.of_below HB6.out (Nat.le_refl _)).trans ht7 : Turns (fun k => k = gP ∨ k = gS ∨ k = gL) w w7)
        clear hml htk hno hp7 hs7 ht7
        go_wp2_with fail
        go_ret
        exact ⟨L, hL1, hL4, HLY.out, HLN.out, .inr (.inl ⟨m, H40.out, N1.out, N2.out, N3.out, rfl, N4.out, N5.out, N6.out⟩)⟩
end Go.Proofs.Ytegoookllckhiaa

/-
  The check of CachePlays: what stands where, each time.
  Conditions: none beside those that each line bears.
-/
import Derived.Test.YtcfjkppgfjlbbaaCacF
import Derived.Deep.CutRange
import Derived.Deep.CutBlock
import Derived.StillTailTactics
namespace Go.Proofs.Ytcfjkppgfjlbbaa
open Go.RowKit
set_option linter.unusedVariables false

set_option maxRecDepth 100000 in
set_option maxHeartbeats 6400000 in
theorem check15 (a : Act) (w W0 : World) (gC : Nat) (es : CS) (v6 v7 v8 : Value) (h : CkL a (.pointer (some ⟨gC, 0, none⟩)) v6 v7 v8 (.int .i64 0)) (hS : St w W0 gC es es (fun _ => False) v6 v7 v8) (hwc : WCs es) (hle : es.length ≤ 81) :
    Runs Try.prog cCk15 a W0 (CkR a w gC es v6 v7 v8) := by
  obtain ⟨u, rfl⟩ := h.open_
  have OK := Lib.hid hS.t.ok
  obtain ⟨n, hn⟩ : ∃ n, n = es.length := ⟨_, rfl⟩
  obtain ⟨A6, c6, rfl, hc6⟩ := hS.r6.len
  obtain ⟨A7, c7, rfl, hc7⟩ := hS.r7.len
  obtain ⟨A8, c8, rfl, hc8⟩ := hS.r8.len
  rw [← hn] at hc6 hc7 hc8 hS hle ⊢
  have S0 := Lib.hid hS
  have HN := Lib.hid hn
  have WE := Lib.hid hwc
  have KC := Lib.hid (fun (j : Nat) (e : Ce) (h : es[j]? = some e) => S0.out.at_ HN.out h)
  clear hS hn hwc h
  unfold Runs
  conv => arg 2; whnf
  go_wp2_with fail
  go_loopg [15] n (fun gg s15 wx => ∃ j : Nat, j + gg = n ∧ s15 = .int .i64 (j : Int) ∧ St w wx gC es es (fun _ => False) (.slice A6 n c6) (.slice A7 n c7) (.slice A8 n c8))
  case atStart => exact ⟨0, by omega, rfl, S0.out⟩
  case round =>
    obtain ⟨j, hjg, rfl, hs⟩ := hrel
    obtain ⟨G2, rfl⟩ : ∃ G2, G2 = gk := ⟨_, rfl⟩
    have S1 := Lib.hid hs
    clear hs
    by_cases hjn : j < n
    · have u4 : decide ((j : Int) < (n : Int)) = true := decide_eq_true (by omega)
      have u5 : (j : Int) < (n : Int) := by omega
      have u6 : (0 : Int) ≤ (j : Int) := by omega
      obtain ⟨e, he⟩ : ∃ e, es[j]? = some e := ⟨_, List.getElem?_eq_getElem (by rw [← HN.out]; exact hjn)⟩
      obtain ⟨g6, o6, q6, g7, o7, q7, g8, o8, q8, ⟨e6, e7, e8⟩, -⟩ := KC.out j e he
      cases e6
      cases e7
      cases e8
      have PF := Lib.hid (fun W (h : St w W gC es es (fun _ => False) (.slice (some ⟨g6, o6, none⟩) n c6) (.slice (some ⟨g7, o7, none⟩) n c7) (.slice (some ⟨g8, o8, none⟩) n c8)) => ca_frame h.t e.k (WE.out e (List.mem_of_getElem? he)).1)
      have PO := Lib.hid (fun W (h : St w W gC es es (fun _ => False) (.slice (some ⟨g6, o6, none⟩) n c6) (.slice (some ⟨g7, o7, none⟩) n c7) (.slice (some ⟨g8, o8, none⟩) n c8)) => ca_of h.t e.f (WE.out e (List.mem_of_getElem? he)).2)
      have PD := Lib.hid (fun W (h : St w W gC es es (fun _ => False) (.slice (some ⟨g6, o6, none⟩) n c6) (.slice (some ⟨g7, o7, none⟩) n c7) (.slice (some ⟨g8, o8, none⟩) n c8)) => ca_dirty h.t e.k (WE.out e (List.mem_of_getElem? he)).1)
      rw [frameC_at OK.out he, show frV15 (some e.f) = .tuple #[.int .i64 e.f, .bool true] from rfl] at PF
      rw [pageC_at OK.out he, show pgV15 (some e.k) = .tuple #[.agg #[.int .i64 e.k.c, .int .i64 e.k.g], .bool true] from rfl] at PO
      rw [dirtyC_at OK.out he] at PD
      have KL := Lib.hid (fun W (h : St w W gC es es (fun _ => False) (.slice (some ⟨g6, o6, none⟩) n c6) (.slice (some ⟨g7, o7, none⟩) n c7) (.slice (some ⟨g8, o8, none⟩) n c8)) => (show W.cell? ⟨g6, o6 + j * 2, none⟩ = some (.int .i64 e.k.c) ∧ W.cell? ⟨g6, o6 + j * 2 + 1, none⟩ = some (.int .i64 e.k.g) ∧ W.cell? ⟨g7, o7 + j, none⟩ = some (.int .i64 e.f) ∧ W.cell? ⟨g8, o8 + j, none⟩ = some (.bool e.d) from by
        obtain ⟨g6', o6', q6', g7', o7', q7', g8', o8', q8', ⟨e6, e7, e8⟩, k1, k2, k3, k4⟩ := h.at_ HN.out he
        cases e6
        cases e7
        cases e8
        exact ⟨k1, k2, k3, k4⟩))
      obtain ⟨⟨ec, eg⟩, ef, ed⟩ := e
      simp only at PF PO PD KL
      obtain ⟨k1, k2, k3, k4⟩ := KL.out _ S1.out
      clear he
      go_wp2_with fail
      refine (PF.out _ S1.out).mono ?_
      rintro e w2 ⟨rfl, hb2⟩
      have S2 := Lib.hid (S1.out.fresh hb2)
      clear hb2 k1 k2 k3 k4
      obtain ⟨k1, k2, k3, k4⟩ := KL.out _ S2.out
      go_wp2_with fail
      refine (PO.out _ S2.out).mono ?_
      rintro e w3 ⟨rfl, hb3⟩
      have S3 := Lib.hid (S2.out.fresh hb3)
      have S4 := Lib.hid (S3.out.fresh (belAl (Below.refl w3.heap.size w3) (.cells #[.int .i64 ec, .int .i64 eg] 30)))
      have K4 := Lib.hid (Blk.new w3 30 #[.int .i64 ec, .int .i64 eg])
      clear hb3 k1 k2 k3 k4
      go_upto_region 42 with fail
      obtain ⟨W4, hW4⟩ : ∃ W4, W4 = w3.alloc (.cells #[.int .i64 ec, .int .i64 eg] 30) := ⟨_, rfl⟩
      obtain ⟨gk, hgk⟩ : ∃ gk, gk = w3.heap.size := ⟨_, rfl⟩
      rw [← hW4] at S4 K4 ⊢
      rw [← hgk] at K4 ⊢
      clear hW4 hgk
      have KK := Lib.hid (fun W (hW : Below W4.heap.size W4 W) => (show (W.cell? ⟨g6, o6 + j * 2, none⟩ = some (.int .i64 ec) ∧ W.cell? ⟨g6, o6 + j * 2 + 1, none⟩ = some (.int .i64 eg) ∧ W.cell? ⟨g7, o7 + j, none⟩ = some (.int .i64 ef) ∧ W.cell? ⟨g8, o8 + j, none⟩ = some (.bool ed) ∧ W.cell? ⟨gk, 0, none⟩ = some (.int .i64 ec) ∧ W.cell? ⟨gk, 1, none⟩ = some (.int .i64 eg)) ∧ Below W4.heap.size W4 W from by
        obtain ⟨k1, k2, k3, k4⟩ := KL.out _ (S4.out.fresh hW)
        have hK := K4.out.below hW K4.out.lt
        exact ⟨⟨k1, k2, k3, k4, hK.cell 0, hK.cell 1⟩, hW⟩))
      have PD' := Lib.hid (fun W (hW : Below W4.heap.size W4 W) => (PD.out W (S4.out.fresh hW)).mono (fun e w' h => (⟨h.1, hW.trans (h.2.mono hW.size)⟩ : e = .returned (.bool ed) ∧ Below W4.heap.size W4 w')))
      have BR := Lib.hid (Below.refl W4.heap.size W4).drew
      have f1 : (ef != ef) = false := by simp
      have f2 : (ed != ed) = false := by simp
      go_region_held3 (fun w' => (w'.cell? ⟨g6, o6 + j * 2, none⟩ = some (.int .i64 ec) ∧ w'.cell? ⟨g6, o6 + j * 2 + 1, none⟩ = some (.int .i64 eg) ∧ w'.cell? ⟨g7, o7 + j, none⟩ = some (.int .i64 ef) ∧ w'.cell? ⟨g8, o8 + j, none⟩ = some (.bool ed) ∧ w'.cell? ⟨gk, 0, none⟩ = some (.int .i64 ec) ∧ w'.cell? ⟨gk, 1, none⟩ = some (.int .i64 eg)) ∧ Below W4.heap.size W4 w')
        (first | assumption | exact KK.out _ BR.out | exact KK.out _ (by assumption))
        ((go_at_call 14; refine (PD'.out _ ?_).mono ?_; (first | exact BR.out | exact (And.right (by assumption))); rintro e w' ⟨rfl, hls⟩))
      have S5 := Lib.hid (S4.out.fresh hls)
      clear hls
      go_wp2_with fail
      go_roundg (n - (j + 1))
      case measure => omega
      case rel => exact ⟨j + 1, by omega, by go_num, S5.out⟩
    · obtain rfl : n = j := by omega
      have u4 : decide ((n : Int) < (n : Int)) = false := decide_eq_false (by omega)
      go_wp2_with fail
      exact ⟨⟨rfl, rfl, rfl⟩, S1.out⟩
end Go.Proofs.Ytcfjkppgfjlbbaa

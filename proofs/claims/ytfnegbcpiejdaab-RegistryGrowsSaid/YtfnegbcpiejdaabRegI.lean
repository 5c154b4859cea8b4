/-
  The contracts of a registry, as the statements' walks ask for them: Open, AddBad, SetState, Bad and State, where nothing troubles, and with any trouble.
  Conditions: the registry is in memory, and the journal has what its invariant says; the frames are read in memory that the work does not turn.
-/
import Derived.Test.YtfnegbcpiejdaabRegO
import Derived.Test.YtfnegbcpiejdaabRegS
namespace Go.Proofs.Ytfnegbcpiejdaab
open Go.RowKit
set_option linter.unusedVariables false

theorem RSure.start {enc : MD → List Nat} {dec : List Nat → List (List Nat) → Option MD} (h0 : dec [] [] = some md0) (h1 : dec (enc md0) [] = some md0) : RSure enc dec 0 md0 0 (fun _ => zer) := ⟨[], [], JInv.start, rfl, h0, h1⟩
theorem RSure.found {enc : MD → List Nat} {dec : List Nat → List (List Nat) → Option MD} {g n : Nat} {md : MD} {S : Nat → List Nat} (h : RSure enc dec g md n S) (hg : g + 1 < 4294967296) (h64 : ∀ f, f < 192 → (S f).length = 64) : Found dec g md S :=
  h.rinv.found hg h64 rfl rfl
theorem RSure.stop {enc : MD → List Nat} {dec : List Nat → List (List Nat) → Option MD} {g n m : Nat} {md : MD} {S : Nat → List Nat} (h : RSure enc dec g md n S) (hg : g + 1 < 4294967296) (hm : Stop S g m) : m = n := by
  obtain ⟨nb, rs, h1, h2, h3, h4⟩ := h
  rcases h1.recs (by omega) (F := S) (fun f _ => .inl rfl) hm with r | ⟨x, hx, r⟩
  · have := pays_length S m
    rw [r] at this
    omega
  · cases hx

/-- A registry in memory, in block gR, on the disk in gD, gS, gM; K: the blocks that its work turns. -/
def RegMem (w : World) (gR gD gS gM : Nat) (K : Nat → Prop) (g n : Nat) (br : Bool) (md : MD) (S : Nat → List Nat) (L : Nat → Option (List Nat)) (t : Tr) : Prop :=
  ∃ gB gJ, RegX w gR gB gJ gD gS gM g n br md S L t ∧ ∀ k, K k ↔ rk gR gB gJ gD gS gM k
theorem RegX.mem {w : World} {gR gB gJ gD gS gM g n : Nat} {br : Bool} {md : MD} {S : Nat → List Nat} {L : Nat → Option (List Nat)} {t : Tr} (h : RegX w gR gB gJ gD gS gM g n br md S L t) : RegMem w gR gD gS gM (rk gR gB gJ gD gS gM) g n br md S L t := ⟨gB, gJ, h, fun k => Iff.rfl⟩
section
variable {w w' : World} {gR gD gS gM g n : Nat} {K : Nat → Prop} {br : Bool} {md : MD} {S : Nat → List Nat} {L : Nat → Option (List Nat)} {t : Tr}
theorem RegMem.dsk (h : RegMem w gR gD gS gM K g n br md S L t) : Dsk w gD gS gM 192 S L t := by
  obtain ⟨gB, gJ, h, _⟩ := h
  exact h.jnl.2.1
theorem RegMem.ok (h : RegMem w gR gD gS gM K g n br md S L t) : MdOk md := by
  obtain ⟨gB, gJ, h, _⟩ := h
  exact h.reg.ok
theorem RegMem.lt (h : RegMem w gR gD gS gM K g n br md S L t) : ∀ k, K k → k < w.heap.size := by
  obtain ⟨gB, gJ, h, hk⟩ := h
  exact fun k e => h.lt k ((hk k).1 e)
theorem RegMem.dk_ (h : RegMem w gR gD gS gM K g n br md S L t) : ∀ k, dk gD gS gM k → K k := by
  obtain ⟨gB, gJ, h, hk⟩ := h
  exact fun k e => (hk k).2 (.inr (.inr (.inr e)))
theorem RegMem.far (h : RegMem w gR gD gS gM K g n br md S L t) (hk : ∀ k, K k → w'.heap[k]? = w.heap[k]?) : RegMem w' gR gD gS gM K g n br md S L t := by
  obtain ⟨gB, gJ, h, hkk⟩ := h
  exact ⟨gB, gJ, h.far fun k e => hk k ((hkk k).2 e), hkk⟩
theorem RegMem.turned (h : RegMem w gR gD gS gM K g n br md S (fun _ => none) Tr.none_) {S' : Nat → List Nat} {L' : Nat → Option (List Nat)} {t' : Tr} (ht : Turns (dk gD gS gM) w w') (hd : Dsk w' gD gS gM 192 S' L' t') : RegMem w' gR gD gS gM K g n br md S' L' t' := by
  obtain ⟨gB, gJ, h, hkk⟩ := h
  exact ⟨gB, gJ, h.jnl_ (ht.mono fun k e => .inr e) ⟨ht.blk h.jnl.1 h.jnl.2.2, hd, h.jnl.2.2⟩, hkk⟩
end
/-- A registry, whatever failed. -/
def Reg (w : World) (gR gD gS gM : Nat) (K : Nat → Prop) (g : Nat) (md : MD) (cs : List MD) (S : Nat → List Nat) (L : Nat → Option (List Nat)) (t : Tr) : Prop :=
  ∃ n br, RegMem w gR gD gS gM K g n br md S L t ∧ RInv encR decR g md cs n br S L
/-- A registry of which nothing failed. -/
def RegQ (w : World) (gR gD gS gM : Nat) (K : Nat → Prop) (g : Nat) (md : MD) : Prop :=
  ∃ S n, RegMem w gR gD gS gM K g n false md S (fun _ => none) Tr.none_ ∧ RSure encR decR g md n S
section
variable {w w' : World} {gR gD gS gM g : Nat} {K : Nat → Prop} {md : MD} {cs : List MD} {S : Nat → List Nat} {L : Nat → Option (List Nat)} {t : Tr}
theorem RegQ.far (h : RegQ w gR gD gS gM K g md) (hk : ∀ k, K k → w'.heap[k]? = w.heap[k]?) : RegQ w' gR gD gS gM K g md := by
  obtain ⟨S, n, h1, h2⟩ := h
  exact ⟨S, n, h1.far hk, h2⟩
theorem RegQ.lt (h : RegQ w gR gD gS gM K g md) : ∀ k, K k → k < w.heap.size := by
  obtain ⟨S, n, h1, h2⟩ := h
  exact h1.lt
theorem RegQ.ok (h : RegQ w gR gD gS gM K g md) : MdOk md := by
  obtain ⟨S, n, h1, h2⟩ := h
  exact h1.ok
theorem RegQ.fresh (h : RegQ w gR gD gS gM K g md) (hb : Below w.heap.size w w') : RegQ w' gR gD gS gM K g md := h.far fun k hk => hb.block k (h.lt k hk)
theorem RegQ.keep (h : RegQ w gR gD gS gM K g md) {M : Nat → Prop} (ht : Turns M w w') (hM : ∀ k, K k → ¬ M k) : RegQ w' gR gD gS gM K g md := h.far fun k hk => ht.block k (h.lt k hk) (hM k hk)
theorem Reg.dsk (h : Reg w gR gD gS gM K g md cs S L t) : Dsk w gD gS gM 192 S L t := by
  obtain ⟨n, br, h1, h2⟩ := h
  exact h1.dsk
end

/-- What a call that nothing troubles leaves. -/
def CallQ (w : World) (gR gD gS gM : Nat) (K : Nat → Prop) (g : Nat) (md : MD) (a : Option MD) (e : Ending) (w' : World) : Prop :=
  ∃ (z : Int) (K' : Nat → Prop) (g' : Nat), e = .returned (.int .i64 z) ∧ z = (if a.isSome then 0 else 1) ∧ RegQ w' gR gD gS gM K' g' (a.getD md) ∧ (∀ k, K' k → K k ∨ w.heap.size ≤ k) ∧ g' ≤ g + 1 ∧ Turns K w w'
/-- What a call leaves. -/
def CallR (w : World) (gR gD gS gM : Nat) (K : Nat → Prop) (g : Nat) (md : MD) (cs : List MD) (a : Option MD) (e : Ending) (w' : World) : Prop :=
  ∃ (z : Nat) (K' : Nat → Prop) (g' : Nat) (md' : MD) (cs' : List MD) (S' : Nat → List Nat) (L' : Nat → Option (List Nat)) (t' : Tr), e = .returned (.int .i64 (z : Int)) ∧ Reg w' gR gD gS gM K' g' md' cs' S' L' t' ∧ (∀ k, K' k → K k ∨ w.heap.size ≤ k) ∧ g' ≤ g + 1 ∧ Turns K w w' ∧
    ((a = none ∧ z = 1 ∧ md' = md ∧ ∀ c ∈ cs', c ∈ cs) ∨ ∃ nx, a = some nx ∧ ((z = 0 ∧ nx = md ∧ md' = md ∧ ∀ c ∈ cs', c ∈ cs) ∨ (z = 0 ∧ nx ≠ md ∧ md' = nx ∧ cs' = [nx]) ∨ ((z = 6 ∨ z = 9) ∧ nx ≠ md ∧ md' = md ∧ ∀ c ∈ cs', c ∈ cs ∨ c = nx)))

/-- What Open leaves at a disk without trouble. -/
def ROpenPost (w : World) (gD gS gM g : Nat) (md : MD) (S : Nat → List Nat) (L : Nat → Option (List Nat)) (e : Ending) (w' : World) : Prop :=
  ∃ gR K n, e = .returned (.tuple #[.pointer (some ⟨gR, 0, none⟩), .int .i64 0]) ∧ Stop (last S L) g n ∧ RegMem w' gR gD gS gM K g n false md S L Tr.none_ ∧ (∀ k, K k → dk gD gS gM k ∨ w.heap.size ≤ k) ∧ Turns (dk gD gS gM) w w'
theorem ropen_ok (gD gS gM g : Nat) (md : MD) (S : Nat → List Nat) (L : Nat → Option (List Nat)) (w : World) (h : Dsk w gD gS gM 192 S L Tr.none_) (hf : Found decR g md (last S L)) (hL : ∀ k, L k = none) :
    Calls Try.prog 19 #[.pointer (some ⟨gD, 0, none⟩)] w (ROpenPost w gD gS gM g md S L) := by
  refine (open_any gD gS gM g md S L w h hf hL).mono ?_
  rintro e w' ⟨gR, gB, gJ, n, he, hs, hx, h1, h2, h3, ht⟩
  refine ⟨gR, _, n, he, hs, hx.mem, ?_, ht⟩
  rintro k (e | e | e | e)
  · exact .inr (e ▸ h3)
  · exact .inr (e ▸ h2)
  · exact .inr (e ▸ h1)
  · exact .inl e
/-- A call's outcome, as it is asked for: nothing troubles. -/
theorem AskPost.q {w w' : World} {gR gB gJ gD gS gM g n : Nat} {K : Nat → Prop} {md : MD} {S : Nat → List Nat} {a : Option MD} {e : Ending} (hK : ∀ k, K k ↔ rk gR gB gJ gD gS gM k) (hs : RSure encR decR g md n S) (h : AskPost w gR gB gJ gD gS gM g n false md [md] S (fun _ => none) Tr.none_ a e w') : CallQ w gR gD gS gM K g md a e w' := by
  have hk2 : ∀ k, rk gR gB gJ gD gS gM k → K k ∨ w.heap.size ≤ k := fun k e => .inl ((hK k).2 e)
  rcases h with ⟨z, he, ⟨rfl, rfl⟩ | ⟨rfl, rfl⟩, hx, ht⟩ | ⟨nx, rfl, hne, z, g', n', br', md', S', L', t', he, hx, ht, hg, hc, htt⟩
  · exact ⟨1, _, g, he, rfl, ⟨S, n, hx.mem, hs⟩, hk2, by omega, ht.mono fun k e => (hK k).2 e⟩
  · exact ⟨0, _, g, he, rfl, ⟨S, n, hx.mem, hs⟩, hk2, by omega, ht.mono fun k e => (hK k).2 e⟩
  · obtain ⟨rfl, rfl⟩ := htt rfl
    rcases hc with ⟨_, rfl, h1, rfl, rfl⟩ | ⟨h1, _⟩
    · exact ⟨0, _, g', he, rfl, ⟨S', n', hx.mem, h1⟩, hk2, hg, ht.mono fun k e => (hK k).2 e⟩
    · omega
/-- .. whatever troubles. -/
theorem AskPost.r {w w' : World} {gR gB gJ gD gS gM g n : Nat} {br : Bool} {K : Nat → Prop} {md : MD} {cs : List MD} {S : Nat → List Nat} {L : Nat → Option (List Nat)} {t : Tr} {a : Option MD} {e : Ending} (hK : ∀ k, K k ↔ rk gR gB gJ gD gS gM k) (hi : RInv encR decR g md cs n br S L) (h : AskPost w gR gB gJ gD gS gM g n br md cs S L t a e w') : CallR w gR gD gS gM K g md cs a e w' := by
  have hk2 : ∀ k, rk gR gB gJ gD gS gM k → K k ∨ w.heap.size ≤ k := fun k e => .inl ((hK k).2 e)
  rcases h with ⟨z, he, ⟨rfl, rfl⟩ | ⟨rfl, rfl⟩, hx, ht⟩ | ⟨nx, rfl, hne, z, g', n', br', md', S', L', t', he, hx, ht, hg, hc, htt⟩
  · exact ⟨1, _, g, md, cs, S, L, t, he, ⟨n, br, hx.mem, hi⟩, hk2, by omega, ht.mono fun k e => (hK k).2 e, .inl ⟨rfl, rfl, rfl, fun c hc => hc⟩⟩
  · exact ⟨0, _, g, md, cs, S, L, t, he, ⟨n, br, hx.mem, hi⟩, hk2, by omega, ht.mono fun k e => (hK k).2 e, .inr ⟨md, rfl, .inl ⟨rfl, rfl, rfl, fun c hc => hc⟩⟩⟩
  · rcases hc with ⟨rfl, rfl, h1, rfl, rfl⟩ | ⟨h1, rfl, cs', h2, h3⟩
    · exact ⟨0, _, g', md', [md'], S', _, t', he, ⟨n', false, hx.mem, h1.rinv⟩, hk2, hg, ht.mono fun k e => (hK k).2 e, .inr ⟨md', rfl, .inr (.inl ⟨rfl, hne, rfl, rfl⟩)⟩⟩
    · exact ⟨z, _, g', md', cs', S', L', t', he, ⟨n', br', hx.mem, h2⟩, hk2, hg, ht.mono fun k e => (hK k).2 e, .inr ⟨nx, rfl, .inr (.inr ⟨h1, hne, rfl, h3⟩)⟩⟩
theorem radd_q (gR gD gS gM g : Nat) (K : Nat → Prop) (md : MD) (v : Value) (fs : List Int) (w : World) (h : RegQ w gR gD gS gM K g md) (hv : Its w w.heap.size v fs) (ho : Off K v) (hg : g + 2 < 4294967296) :
    Calls Try.prog 23 #[.pointer (some ⟨gR, 0, none⟩), v] w (CallQ w gR gD gS gM K g md (askB md fs)) := by
  obtain ⟨S, n, ⟨gB, gJ, hx, hK⟩, hs⟩ := h
  exact (addBad_any gR gB gJ gD gS gM g n false md [md] S _ _ v fs w hx hs.rinv hv hg).mono fun e w' hp => AskPost.q hK hs hp
theorem rset_q (gR gD gS gM g : Nat) (K : Nat → Prop) (md : MD) (s v : Int) (w : World) (h : RegQ w gR gD gS gM K g md) (hg : g + 2 < 4294967296) :
    Calls Try.prog 24 #[.pointer (some ⟨gR, 0, none⟩), .int .i64 s, .int .i64 v] w (CallQ w gR gD gS gM K g md (askS md s v)) := by
  obtain ⟨S, n, ⟨gB, gJ, hx, hK⟩, hs⟩ := h
  exact (setState_any gR gB gJ gD gS gM g n false md [md] S _ _ s v w hx hs.rinv hg).mono fun e w' hp => AskPost.q hK hs hp
theorem radd_r (gR gD gS gM g : Nat) (K : Nat → Prop) (md : MD) (cs : List MD) (S : Nat → List Nat) (L : Nat → Option (List Nat)) (t : Tr) (v : Value) (fs : List Int) (w : World) (h : Reg w gR gD gS gM K g md cs S L t) (hv : Its w w.heap.size v fs) (ho : Off K v) (hg : g + 2 < 4294967296) :
    Calls Try.prog 23 #[.pointer (some ⟨gR, 0, none⟩), v] w (CallR w gR gD gS gM K g md cs (askB md fs)) := by
  obtain ⟨n, br, ⟨gB, gJ, hx, hK⟩, hi⟩ := h
  exact (addBad_any gR gB gJ gD gS gM g n br md cs S L t v fs w hx hi hv hg).mono fun e w' hp => AskPost.r hK hi hp
theorem rset_r (gR gD gS gM g : Nat) (K : Nat → Prop) (md : MD) (cs : List MD) (S : Nat → List Nat) (L : Nat → Option (List Nat)) (t : Tr) (s v : Int) (w : World) (h : Reg w gR gD gS gM K g md cs S L t) (hg : g + 2 < 4294967296) :
    Calls Try.prog 24 #[.pointer (some ⟨gR, 0, none⟩), .int .i64 s, .int .i64 v] w (CallR w gR gD gS gM K g md cs (askS md s v)) := by
  obtain ⟨n, br, ⟨gB, gJ, hx, hK⟩, hi⟩ := h
  exact (setState_any gR gB gJ gD gS gM g n br md cs S L t s v w hx hi hg).mono fun e w' hp => AskPost.r hK hi hp
set_option maxRecDepth 20000 in
set_option maxHeartbeats 400000 in
theorem radd_nil (A : Option Addr) (l c : Nat) (w : World) :
    Calls Try.prog 23 #[.pointer none, .slice A l c] w fun e w' => e = .returned (.int .i64 1) ∧ w = w' := by
  go_enter Try.func23, Try.ntmps23
  go_wp2
  go_ret
  exact ⟨rfl, rfl⟩
set_option maxRecDepth 20000 in
set_option maxHeartbeats 400000 in
theorem rset_nil (s v : Int) (w : World) :
    Calls Try.prog 24 #[.pointer none, .int .i64 s, .int .i64 v] w fun e w' => e = .returned (.int .i64 1) ∧ w = w' := by
  go_enter Try.func24, Try.ntmps24
  go_wp2
  go_ret
  exact ⟨rfl, rfl⟩
theorem rbad_nil (w : World) :
    Calls Try.prog 20 #[.pointer none] w fun e w' => e = .returned (.slice none 0 0) ∧ w = w' := bad_nil w
theorem rstate_nil (s : Int) (w : World) :
    Calls Try.prog 25 #[.pointer none, .int .i64 s] w fun e w' => e = .returned (.int .i64 0) ∧ w = w' := state_nil s w
theorem rbad_any (gR gD gS gM g n : Nat) (K : Nat → Prop) (br : Bool) (md : MD) (S : Nat → List Nat) (L : Nat → Option (List Nat)) (t : Tr) (w : World) (h : RegMem w gR gD gS gM K g n br md S L t) :
    Calls Try.prog 20 #[.pointer (some ⟨gR, 0, none⟩)] w fun e w' => ∃ v, e = .returned v ∧ w'.ownsRow w.heap.size 3 1 v (badI md).length ((badI md).map (fun z => Value.int .i64 z)) ∧ Below w.heap.size w w' := by
  obtain ⟨gB, gJ, hx, _⟩ := h
  exact bad_any gR gB gJ md w hx.reg
theorem rstate_any (gR gD gS gM g n : Nat) (K : Nat → Prop) (br : Bool) (md : MD) (S : Nat → List Nat) (L : Nat → Option (List Nat)) (t : Tr) (s : Int) (w : World) (h : RegMem w gR gD gS gM K g n br md S L t) :
    Calls Try.prog 25 #[.pointer (some ⟨gR, 0, none⟩), .int .i64 s] w fun e w' => e = .returned (.int .i64 (if 0 ≤ s ∧ s ≤ 31 then ((md.2.getD s.toNat 0 : Nat) : Int) else 0)) ∧ Drew w w' := by
  obtain ⟨gB, gJ, hx, _⟩ := h
  exact state_any gR gB gJ md s w hx.reg
end Go.Proofs.Ytfnegbcpiejdaab

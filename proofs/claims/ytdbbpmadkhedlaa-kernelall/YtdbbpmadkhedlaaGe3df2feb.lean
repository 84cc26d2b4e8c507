/- A range over a function whose iterator has cells of its own: who may write which blocks, and who leans on which. (RgIt, where nothing is frozen anew: for programs that sort nothing on the way; never import both.) -/
import Derived.RangeFuncNested
import Derived.RangeFuncBound
import Derived.RangeFuncCalls
import Derived.RangeFuncLeaves
import Derived.Shelf.Abstract
import Derived.Shelf.RegionOpen
import Derived.WalkKit
import Derived.OwnWalkIn
import Derived.TacticsInMore
import Derived.LoopNIn
import Derived.LoopIn
import Derived.Test.YtdbbpmadkhedlaaG933c5a4e
namespace Go.Proofs.Ytdbbpmadkhedlaa
open Go.RowKit Go.Shelf
set_option linter.unusedVariables false
set_option linter.unusedSimpArgs false

/-- From W to W' none but the blocks of C have turned (and new ones have come). -/
structure Same (C : Nat → Prop) (W W' : World) : Prop where
  os : W'.os = W.os
  tape : W'.tape = W.tape
  output : W'.output = W.output
  size : W.heap.size ≤ W'.heap.size
  block : ∀ b, b < W.heap.size → ¬ C b → W'.heap[b]? = W.heap[b]?
  frozen : ∀ a, W'.frozen? a = W.frozen? a
/-- The blocks of C are as they were. -/
structure KeptIn (C : Nat → Prop) (W W' : World) : Prop where
  size : W.heap.size ≤ W'.heap.size
  block : ∀ b, C b → W'.heap[b]? = W.heap[b]?
def Fits (C : Nat → Prop) (W : World) : Prop := ∀ b, C b → b < W.heap.size
theorem Same.refl (C : Nat → Prop) (W : World) : Same C W W := ⟨rfl, rfl, rfl, Nat.le_refl _, fun _ _ _ => rfl, fun _ => rfl⟩
theorem Same.trans {C C' : Nat → Prop} {A B D : World} (h : Same C A B) (k : Same C' B D) (hC : ∀ b, C' b → C b ∨ A.heap.size ≤ b) : Same C A D :=
  ⟨k.os.trans h.os, k.tape.trans h.tape, k.output.trans h.output, Nat.le_trans h.size k.size,
   fun b hb hn => (k.block b (Nat.lt_of_lt_of_le hb h.size) (fun hc => (hC b hc).elim hn (fun h => by omega))).trans (h.block b hb hn),
   fun a => (k.frozen a).trans (h.frozen a)⟩
theorem Same.mono {C C' : Nat → Prop} {A B : World} (h : Same C A B) (hC : ∀ b, C b → C' b ∨ A.heap.size ≤ b) : Same C' A B :=
  ⟨h.os, h.tape, h.output, h.size, fun b hb hn => h.block b hb (fun hc => (hC b hc).elim hn (fun h => by omega)), h.frozen⟩
theorem Same.kept {C Z : Nat → Prop} {A B : World} (h : Same C A B) (hZ : ∀ b, Z b → b < A.heap.size ∧ ¬ C b) : KeptIn Z A B :=
  ⟨h.size, fun b hb => h.block b (hZ b hb).1 (hZ b hb).2⟩
theorem Same.below {A B : World} (h : Same (fun b => A.heap.size ≤ b) A B) : Below A.heap.size A B :=
  ⟨h.os, h.tape, h.output, h.size, fun b hb => h.block b hb (by omega)⟩
theorem Same.of_q {A B : World} (h : Q A B) (C : Nat → Prop) : Same C A B :=
  ⟨h.1.os, h.1.tape, h.1.output, h.1.size, fun b hb _ => h.1.block b hb, fun a => h.2 a⟩
theorem KeptIn.trans {C : Nat → Prop} {A B D : World} (h : KeptIn C A B) (k : KeptIn C B D) : KeptIn C A D :=
  ⟨Nat.le_trans h.size k.size, fun b hb => (k.block b hb).trans (h.block b hb)⟩
theorem KeptIn.cell {C : Nat → Prop} {A B : World} (h : KeptIn C A B) {a : Addr} (ha : C a.block) : B.cell? a = A.cell? a := by
  unfold World.cell?; rw [h.block _ ha]
theorem KeptIn.mono {C C' : Nat → Prop} {A B : World} (h : KeptIn C A B) (hC : ∀ b, C' b → C b) : KeptIn C' A B := ⟨h.size, fun b hb => h.block b (hC b hb)⟩
theorem frozen_put {W : World} {l : Nat} {o o' : Obj} (hl : W.heap[l]? = some o) (ho : o.isCells = false) (ho' : o'.isCells = false) (a : Addr) : (W.putObj l o').frozen? a = W.frozen? a := by
  unfold World.frozen?
  by_cases h : a.block = l
  · rw [h, hl, World.putObj_heap_same (Array.getElem?_eq_some_iff.1 hl).1]
    cases o <;> cases o' <;> simp_all [Obj.isCells]
  · rw [World.putObj_heap_other h]
theorem Same.put {C : Nat → Prop} {W : World} {l : Nat} {o : Obj} (o' : Obj) (hl : W.heap[l]? = some o) (ho : o.isCells = false) (ho' : o'.isCells = false) (hC : C l) : Same C W (W.putObj l o') :=
  ⟨rfl, rfl, rfl, by simp, fun b _ hn => World.putObj_heap_other (fun e => hn (e ▸ hC)), fun a => frozen_put hl ho ho' a⟩

/-- What a round of the consumer's does: C: the blocks that it leans on; D: those of them that it may write; B: the blocks of what it is handed, which nobody writes any more. -/
def RoundDone {α : Type} (J Jx : (Nat → Prop) → (Nat → Prop) → List α → World → Prop) (C D B : Nat → Prop) (pre : List α) (x : α) (W : World) (e : Ending) (W' : World) : Prop :=
  ∃ C' D' : Nat → Prop, Fits C' W' ∧ (∀ b, D' b → C' b) ∧ Same D W W' ∧ (∀ b, C' b → C b ∨ B b ∨ W.heap.size ≤ b) ∧ (∀ b, D' b → D b ∨ W.heap.size ≤ b) ∧
    ((e = .returned (.bool true) ∧ J C' D' (pre ++ [x]) W') ∨ (e = .returned (.bool false) ∧ Jx C' D' (pre ++ [x]) W'))
def Stable {α : Type} (J : (Nat → Prop) → (Nat → Prop) → List α → World → Prop) : Prop := ∀ C D pre W W', J C D pre W → KeptIn C W W' → J C D pre W'
/-- An iterator that gives xs: Pre: what it asks of the world, on the blocks of Rd. -/
def ItC {α : Type} (P : Program) (g : Nat) (lb : Array Value) (Enc : α → Array Value → (Nat → Prop) → World → Prop) (xs : List α) (Rd : Nat → Prop) (Pre : World → Prop) : Prop :=
  ∀ (l : Nat) (J Jx : (Nat → Prop) → (Nat → Prop) → List α → World → Prop) (C D : Nat → Prop) (W : World), Pre W → (∀ b, Rd b → ¬ D b ∧ b < W.heap.size) → Stable J → Stable Jx →
    (∀ (C D : Nat → Prop) (pre : List α) (x : α) (rest : List α) (W1 : World) (args : Array Value) (B : Nat → Prop), xs = pre ++ x :: rest → J C D pre W1 → Fits C W1 → (∀ b, D b → C b) → Enc x args B W1 → (∀ b, B b → ¬ D b ∧ W.heap.size ≤ b ∧ b < W1.heap.size) →
      YieldAt Fence.wide 0 P l args W1 (RoundDone J Jx C D B pre x W1)) →
    J C D [] W → Fits C W → (∀ b, D b → C b) →
    CallsIn Fence.wide 0 P g (#[.func (.yield l) #[] #[]] ++ lb) W fun e W' => (∃ v, e = .returned v) ∧
      ∃ C' D' : Nat → Prop, Fits C' W' ∧ (∀ b, D' b → C' b) ∧ Same D W W' ∧ (∀ b, C' b → C b ∨ W.heap.size ≤ b) ∧ (∀ b, D' b → D b ∨ W.heap.size ≤ b) ∧ (J C' D' xs W' ∨ ∃ pre, pre <+: xs ∧ Jx C' D' pre W')

/-- What holds at a round's end. -/
def Left {α : Type} (I : (Nat → Prop) → (Nat → Prop) → List α → World → Prop) (C D B : Nat → Prop) (N : Nat) (pre : List α) (W W' : World) : Prop :=
  ∃ C' D' : Nat → Prop, Fits C' W' ∧ (∀ b, D' b → C' b) ∧ Same D W W' ∧ (∀ b, C' b → C b ∨ B b ∨ N ≤ b) ∧ (∀ b, D' b → D b ∨ N ≤ b) ∧ I C' D' pre W'
/-- How the body of a round may be left. -/
def bodyDone {α : Type} (I : (Nat → Prop) → (Nat → Prop) → List α → World → Prop) (Ix : Code → (Nat → Prop) → (Nat → Prop) → List α → World → Prop) (C D B : Nat → Prop) (N : Nat) (pre : List α) (W : World) : Exit → Act → World → Prop
  | .normal, _, W' => Left I C D B N pre W W'
  | .ret, _, W' => Left (Ix .ret) C D B N pre W W'
  | .exit id, _, W' => Left (Ix (.exit id)) C D B N pre W W'
  | .goto t, _, W' => Left (Ix (.goto t)) C D B N pre W W'
  | .panic _, _, _ => False
  | .outgrown, _, _ => False

set_option maxHeartbeats 1000000 in
/-- The statement 'for x := range it': I: what holds between two rounds; Ix: what holds when a round has left by a jump. -/
theorem range_it {P : Program} {α : Type} {g : Operand} {ps : Array Tmp} {assign body : Code} {R : Exit → Act → World → Prop} {a : Act} {w : World}
    {gf : Nat} {lb : Array Value} (hg : a.eval g = .func (.func gf) #[] lb) (eg : ∀ args w, (callFunc gf args).run P w = .ok (.enter gf args) w)
    {Enc : α → Array Value → (Nat → Prop) → World → Prop} {xs : List α} {Rd : Nat → Prop} {Pre : World → Prop} (hit : ItC P gf lb Enc xs Rd Pre)
    (hPre : ∀ W, KeptIn (fun b => b < w.heap.size) w W → Pre W) (hRd : ∀ b, Rd b → b < w.heap.size)
    (hps : ∀ x args B W, Enc x args B W → args.size = ps.size)
    (I : (Nat → Prop) → (Nat → Prop) → List α → World → Prop) (Ix : Code → (Nat → Prop) → (Nat → Prop) → List α → World → Prop) (hI : Stable I) (hIx : ∀ c, Stable (Ix c))
    (C D : Nat → Prop) (hC : Fits C w) (hDC : ∀ b, D b → C b) (hDR : ∀ b, Rd b → ¬ D b) (h0 : I C D [] w)
    (hround : ∀ (l : Nat) (C D : Nat → Prop) (pre : List α) (x : α) (rest : List α) (W : World) (args : Array Value) (B : Nat → Prop), w.heap.size ≤ l → l < W.heap.size → ¬ C l → ¬ B l → xs = pre ++ x :: rest → I C D pre W → Fits C W → (∀ b, D b → C b) → Enc x args B W → (∀ b, B b → ¬ D b ∧ w.heap.size ≤ b ∧ b < W.heap.size) → (∀ b, C b → b < w.heap.size ∨ w.heap.size + 2 ≤ b) →
      assign.wpIn (Fence.wide.inRound l) 0 P (Exit.then (fun a₁ W₁ => Q W W₁ ∧ ∀ W₂, Same (fun b => b = l) W₁ W₂ → KeptIn (fun b => b ≠ l) W₁ W₂ → body.wpIn (Fence.wide.inRound l) 0 P (bodyDone I Ix C D B W.heap.size (pre ++ [x]) W₂) a₁ W₂) (fun _ _ _ => False))
        { tmps := (ps.zip args).foldl (fun t (p, v) => t.setIfInBounds p v) a.tmps, defers := [] } W)
    (hdone : ∀ (E : Nat) (C' D' : Nat → Prop) (W : World), w.heap.size ≤ E → ¬ C' E → W.heap[E]? = some (.deferred (some [])) → Fits C' W → (∀ b, D' b → C' b) → Same D w W → (∀ b, C' b → C b ∨ w.heap.size ≤ b) → (∀ b, D' b → D b ∨ w.heap.size ≤ b) → I C' D' xs W → R .normal { a with defers := { target := .collected E, args := #[] } :: a.defers } W)
    (hstop : ∀ (E : Nat) (c : Code) (C' D' : Nat → Prop) (pre : List α) (W : World), w.heap.size ≤ E → ¬ C' E → W.heap[E]? = some (.deferred (some [])) → Fits C' W → (∀ b, D' b → C' b) → Same D w W → (∀ b, C' b → C b ∨ w.heap.size ≤ b) → (∀ b, D' b → D b ∨ w.heap.size ≤ b) → pre <+: xs → Ix c C' D' pre W → c.wpIn Fence.wide 0 P R { a with defers := { target := .collected E, args := #[] } :: a.defers } W) :
    (Code.rangeFunc g ps assign body).wpIn Fence.wide 0 P R a w := by
  refine wpIn_rangeFunc ?_
  intro fn hfn
  obtain ⟨rec, hrec⟩ : ∃ rec : LoopState → Option Code → Loop, rec = fun st pe => { state := st, pending := pe, fn, tmps := a.tmps, params := ps, assign, body, defers := w.heap.size } := ⟨_, rfl⟩
  obtain ⟨W1, hW1⟩ : ∃ W1, (w.alloc (.deferred (some []))).alloc (.loop (rec .ready none)) = W1 := ⟨_, rfl⟩
  have hL1 : W1.heap[w.heap.size + 1]? = some (.loop (rec .ready none)) := by
    rw [← hW1]; have := World.alloc_heap_new (w.alloc (.deferred (some []))) (.loop (rec .ready none)); rwa [World.size_alloc] at this
  have hK1 : W1.heap[w.heap.size]? = some (.deferred (some [])) := by
    rw [← hW1]; exact (Below.heap_alloc _ _ _ (by simp)).trans (World.alloc_heap_new w _)
  have hsz1 : W1.heap.size = w.heap.size + 2 := by rw [← hW1]; simp
  have hold1 : ∀ b, b < w.heap.size → W1.heap[b]? = w.heap[b]? := fun b hb => by
    rw [← hW1]; exact (Below.heap_alloc _ _ _ (by simp; omega)).trans (Below.heap_alloc _ _ _ hb)
  have hfr1 : ∀ ad, W1.frozen? ad = w.frozen? ad := fun ad => by
    unfold World.frozen?
    by_cases h : ad.block < w.heap.size
    · rw [hold1 _ h]
    · have e1 : w.heap[ad.block]? = none := Array.getElem?_eq_none (by omega)
      rw [e1]
      by_cases h2 : ad.block = w.heap.size
      · rw [h2, hK1]
      · by_cases h3 : ad.block = w.heap.size + 1
        · rw [h3, hL1]
        · rw [Array.getElem?_eq_none (by omega)]
  have hS1 : ∀ C, Same C w W1 := fun C => by
    refine ⟨?_, ?_, ?_, by omega, fun b hb _ => hold1 b hb, fun a => hfr1 a⟩ <;> rw [← hW1] <;> rfl
  have hKp1 : KeptIn (fun b => b < w.heap.size) w W1 := ⟨by omega, hold1⟩
  let JC : (Nat → Prop) → (Nat → Prop) → Prop := fun Ci Cj => ∀ b, Cj b ↔ Ci b ∨ b = w.heap.size ∨ b = w.heap.size + 1
  let fine : (Nat → Prop) → Prop := fun Ci => ∀ b, Ci b → b < w.heap.size ∨ w.heap.size + 2 ≤ b
  refine ⟨w.heap.size + 1, [{ target := .collected w.heap.size, args := #[] }], W1, { target := .fn (.func gf) lb, args := #[.func (.yield (w.heap.size + 1)) #[] #[]] }, W1, gf,
    #[.func (.yield (w.heap.size + 1)) #[] #[]] ++ lb, W1, ?_, ?_, ?_, ?_, fun h => (by cases h), ?_⟩
  · rw [← hW1, hrec]; exact run_enterLoop_outer _ _ _ _ _
  · simp only [resolve, hg]
    simp [go_sem]
  · intro f' hf'; exact trivial
  · simp [invoke, go_sem, eg]
  · refine (hit (w.heap.size + 1)
      (fun Cj Dj pre W => ∃ Ci Di, JC Ci Cj ∧ JC Di Dj ∧ fine Ci ∧ (∀ b, Di b → Ci b) ∧ I Ci Di pre W ∧ Fits Ci W ∧ W.heap[w.heap.size + 1]? = some (.loop (rec .ready none)) ∧ W.heap[w.heap.size]? = some (.deferred (some [])))
      (fun Cj Dj pre W => ∃ Ci Di, JC Ci Cj ∧ JC Di Dj ∧ fine Ci ∧ (∀ b, Di b → Ci b) ∧ Fits Ci W ∧ ∃ c, Ix c Ci Di pre W ∧ W.heap[w.heap.size + 1]? = some (.loop (rec .done (some c))) ∧ W.heap[w.heap.size]? = some (.deferred (some [])))
      (fun b => C b ∨ b = w.heap.size ∨ b = w.heap.size + 1) (fun b => D b ∨ b = w.heap.size ∨ b = w.heap.size + 1) W1 (hPre W1 hKp1) ?_ ?_ ?_ ?_ ?_ ?_ ?_).mono ?_
    · intro b hb
      have := hRd b hb
      exact ⟨fun h => h.elim (hDR b hb) (fun h => by omega), by omega⟩
    · rintro Cj Dj pre W W' ⟨Ci, Di, h1, g1, h2, g2, h3, h4, h5, h6⟩ hk
      exact ⟨Ci, Di, h1, g1, h2, g2, hI _ _ _ _ _ h3 (hk.mono fun b hb => (h1 b).2 (Or.inl hb)), fun b hb => Nat.lt_of_lt_of_le (h4 b hb) hk.size, (hk.block _ ((h1 _).2 (Or.inr (Or.inr rfl)))).trans h5, (hk.block _ ((h1 _).2 (Or.inr (Or.inl rfl)))).trans h6⟩
    · rintro Cj Dj pre W W' ⟨Ci, Di, h1, g1, h2, g2, h4, c, h3, h5, h6⟩ hk
      exact ⟨Ci, Di, h1, g1, h2, g2, fun b hb => Nat.lt_of_lt_of_le (h4 b hb) hk.size, c, hIx c _ _ _ _ _ h3 (hk.mono fun b hb => (h1 b).2 (Or.inl hb)), (hk.block _ ((h1 _).2 (Or.inr (Or.inr rfl)))).trans h5, (hk.block _ ((h1 _).2 (Or.inr (Or.inl rfl)))).trans h6⟩
    · -- one round
      rintro Cj Dj pre x rest W args B hx ⟨Ci, Di, h1, g1, h2, g2, hi, hf, hl, hk⟩ hfj hdj henc hB
      have hlt : w.heap.size + 1 < W.heap.size := (Array.getElem?_eq_some_iff.1 hl).1
      have hy := run_yield (P := P) (args := args) hl (by rw [hrec]; exact hps _ _ _ _ henc)
      rw [hrec] at hy
      have hnl : ¬ Ci (w.heap.size + 1) := fun h => by have := h2 _ h; omega
      have hnd : ¬ Ci w.heap.size := fun h => by have := h2 _ h; omega
      have hBl : ¬ B (w.heap.size + 1) := fun h => by have := (hB _ h).2.1; omega
      have hBd : ¬ B w.heap.size := fun h => by have := (hB _ h).2.1; omega
      refine ⟨fn, _, assign, body, hy, roundIn_of_wpIn hfn (wpIn_mono (hround (w.heap.size + 1) Ci Di pre x rest W args B (by omega) hlt hnl hBl hx hi hf g2 henc (fun b hb => ⟨fun h => (hB b hb).1 ((g1 b).2 (Or.inl h)), by have := (hB b hb).2.1; omega, (hB b hb).2.2⟩) h2) ?_)⟩
      rintro e a₁ Wa hp
      cases e with
      | normal =>
        obtain ⟨hq, hp⟩ := hp
        have hla : Wa.heap[w.heap.size + 1]? = some (.loop (rec .ready none)) := (hq.1.block _ hlt).trans hl
        have hka : Wa.heap[w.heap.size]? = some (.deferred (some [])) := (hq.1.block _ (by omega)).trans hk
        have hlta : w.heap.size + 1 < Wa.heap.size := (Array.getElem?_eq_some_iff.1 hla).1
        refine ⟨_, run_beginRound hla (by rw [hrec]), ?_⟩
        obtain ⟨W2, hW2⟩ : ∃ W2, Wa.putObj (w.heap.size + 1) (.loop { rec .ready none with state := .busy }) = W2 := ⟨_, rfl⟩
        have hl2 : W2.heap[w.heap.size + 1]? = some (.loop { rec .ready none with state := .busy }) := by rw [← hW2]; exact World.putObj_heap_same hlta
        have hk2 : W2.heap[w.heap.size]? = some (.deferred (some [])) := by rw [← hW2]; exact (World.putObj_heap_other (by omega)).trans hka
        have hs2 : Same (fun b => b = w.heap.size + 1) Wa W2 := by rw [← hW2]; exact Same.put _ hla rfl rfl rfl
        have hkp2 : KeptIn (fun b => b ≠ w.heap.size + 1) Wa W2 := by rw [← hW2]; exact ⟨by simp, fun b hb => World.putObj_heap_other hb⟩
        rw [hW2]
        refine wpIn_mono (hp W2 hs2 hkp2) ?_
        have fin : ∀ (jump : Option Code) (W3 : World) (C' D' : Nat → Prop), Fits C' W3 → (∀ b, D' b → C' b) → Same Di W2 W3 → (∀ b, C' b → Ci b ∨ B b ∨ W.heap.size ≤ b) → (∀ b, D' b → Di b ∨ W.heap.size ≤ b) →
            (Instr.endRound (w.heap.size + 1) jump).run P W3 = .ok (.bool jump.isNone) (W3.putObj (w.heap.size + 1) (.loop (rec (if jump.isNone then .ready else .done) jump))) ∧
            (W3.putObj (w.heap.size + 1) (.loop (rec (if jump.isNone then .ready else .done) jump))).heap[w.heap.size + 1]? = some (.loop (rec (if jump.isNone then .ready else .done) jump)) ∧
            (W3.putObj (w.heap.size + 1) (.loop (rec (if jump.isNone then .ready else .done) jump))).heap[w.heap.size]? = some (.deferred (some [])) ∧
            Fits (fun b => C' b ∨ b = w.heap.size ∨ b = w.heap.size + 1) (W3.putObj (w.heap.size + 1) (.loop (rec (if jump.isNone then .ready else .done) jump))) ∧
            (∀ b, (D' b ∨ b = w.heap.size ∨ b = w.heap.size + 1) → (C' b ∨ b = w.heap.size ∨ b = w.heap.size + 1)) ∧
            Same Dj W (W3.putObj (w.heap.size + 1) (.loop (rec (if jump.isNone then .ready else .done) jump))) ∧
            (∀ b, (C' b ∨ b = w.heap.size ∨ b = w.heap.size + 1) → Cj b ∨ B b ∨ W.heap.size ≤ b) ∧ (∀ b, (D' b ∨ b = w.heap.size ∨ b = w.heap.size + 1) → Dj b ∨ W.heap.size ≤ b) ∧ fine C' ∧ KeptIn C' W3 (W3.putObj (w.heap.size + 1) (.loop (rec (if jump.isNone then .ready else .done) jump))) := fun jump W3 C' D' hf' hd' hs3 hC' hD' => by
          have hlt2 : w.heap.size + 1 < W2.heap.size := (Array.getElem?_eq_some_iff.1 hl2).1
          have hl3 : W3.heap[w.heap.size + 1]? = some (.loop { rec .ready none with state := .busy }) := (hs3.block _ hlt2 (fun h => hnl (g2 _ h))).trans hl2
          have hk3 : W3.heap[w.heap.size]? = some (.deferred (some [])) := (hs3.block _ (by omega) (fun h => hnd (g2 _ h))).trans hk2
          have hlt3 : w.heap.size + 1 < W3.heap.size := (Array.getElem?_eq_some_iff.1 hl3).1
          have hfine : fine C' := fun b hb => by
            rcases hC' b hb with h | h | h
            · exact h2 b h
            · by_cases e1 : b = w.heap.size
              · subst e1; exact absurd h hBd
              · by_cases e2 : b = w.heap.size + 1
                · subst e2; exact absurd h hBl
                · omega
            · omega
          have he := run_endRound (P := P) jump hl3
          refine ⟨by rw [hrec] at he ⊢; exact he, World.putObj_heap_same hlt3, (World.putObj_heap_other (by omega)).trans hk3, fun b hb => ?_, fun b hb => hb.imp (hd' b) id, ?_, fun b hb => ?_, fun b hb => ?_, hfine, ⟨by simp, fun b hb => World.putObj_heap_other fun e => ?_⟩⟩
          · rw [World.putObj_size]
            rcases hb with h | h | h
            · exact hf' b h
            · omega
            · omega
          · refine (Same.of_q hq Dj).trans ((hs2.mono (C' := fun b => Dj b) fun b hb => Or.inl ?_).trans ((hs3.mono (C' := Dj) fun b hb => Or.inl ((g1 b).2 (Or.inl hb))).trans (Same.put (C := Dj) _ hl3 rfl rfl ((g1 _).2 (Or.inr (Or.inr rfl)))) (fun b hb => Or.inl hb)) (fun b hb => Or.inl hb)) (fun b hb => Or.inl hb)
            subst hb
            exact (g1 _).2 (Or.inr (Or.inr rfl))
          · rcases hb with h | h | h
            · rcases hC' b h with h | h | h
              · exact Or.inl ((h1 b).2 (Or.inl h))
              · exact Or.inr (Or.inl h)
              · exact Or.inr (Or.inr h)
            · exact Or.inl ((h1 b).2 (Or.inr (Or.inl h)))
            · exact Or.inl ((h1 b).2 (Or.inr (Or.inr h)))
          · rcases hb with h | h | h
            · rcases hD' b h with h | h
              · exact Or.inl ((g1 b).2 (Or.inl h))
              · exact Or.inr h
            · exact Or.inl ((g1 b).2 (Or.inr (Or.inl h)))
            · exact Or.inl ((g1 b).2 (Or.inr (Or.inr h)))
          · subst e
            have := hfine _ hb
            omega
        rintro e a3 W3 hp
        cases e with
        | normal =>
          obtain ⟨C', D', k1, k2, k3, k4, k5, k6⟩ := hp
          obtain ⟨f1, f2, f3, f4, f4', f5, f6, f6', f7, f8⟩ := fin none W3 C' D' k1 k2 k3 k4 k5
          exact ⟨_, _, f1, _, _, f4, f4', f5, f6, f6', Or.inl ⟨rfl, C', D', fun b => Iff.rfl, fun b => Iff.rfl, f7, k2, hI _ _ _ _ _ k6 f8, fun b hb => Nat.lt_of_lt_of_le (k1 b hb) f8.size, f2, f3⟩⟩
        | ret =>
          obtain ⟨C', D', k1, k2, k3, k4, k5, k6⟩ := hp
          obtain ⟨f1, f2, f3, f4, f4', f5, f6, f6', f7, f8⟩ := fin (some .ret) W3 C' D' k1 k2 k3 k4 k5
          exact ⟨_, _, f1, _, _, f4, f4', f5, f6, f6', Or.inr ⟨rfl, C', D', fun b => Iff.rfl, fun b => Iff.rfl, f7, k2, fun b hb => Nat.lt_of_lt_of_le (k1 b hb) f8.size, _, hIx _ _ _ _ _ _ k6 f8, f2, f3⟩⟩
        | exit id =>
          obtain ⟨C', D', k1, k2, k3, k4, k5, k6⟩ := hp
          obtain ⟨f1, f2, f3, f4, f4', f5, f6, f6', f7, f8⟩ := fin (some (.exit id)) W3 C' D' k1 k2 k3 k4 k5
          exact ⟨_, _, f1, _, _, f4, f4', f5, f6, f6', Or.inr ⟨rfl, C', D', fun b => Iff.rfl, fun b => Iff.rfl, f7, k2, fun b hb => Nat.lt_of_lt_of_le (k1 b hb) f8.size, _, hIx _ _ _ _ _ _ k6 f8, f2, f3⟩⟩
        | goto t =>
          obtain ⟨C', D', k1, k2, k3, k4, k5, k6⟩ := hp
          obtain ⟨f1, f2, f3, f4, f4', f5, f6, f6', f7, f8⟩ := fin (some (.goto t)) W3 C' D' k1 k2 k3 k4 k5
          exact ⟨_, _, f1, _, _, f4, f4', f5, f6, f6', Or.inr ⟨rfl, C', D', fun b => Iff.rfl, fun b => Iff.rfl, f7, k2, fun b hb => Nat.lt_of_lt_of_le (k1 b hb) f8.size, _, hIx _ _ _ _ _ _ k6 f8, f2, f3⟩⟩
        | panic ch => exact hp.elim
        | outgrown => exact hp.elim
      | exit id => exact hp.elim
      | goto t => exact hp.elim
      | ret => exact hp.elim
      | panic ch => exact hp.elim
      | outgrown => exact hp.elim
    · exact ⟨C, D, fun b => Iff.rfl, fun b => Iff.rfl, fun b hb => Or.inl (hC b hb), hDC, hI _ _ _ _ _ h0 (hKp1.mono hC), fun b hb => by have := hC b hb; omega, hL1, hK1⟩
    · intro b hb
      rcases hb with h | h | h
      · have := hC b h; omega
      · omega
      · omega
    · intro b hb
      exact hb.imp (hDC b) id
    · -- behind the iterator
      have sub : ∀ (X Ci Cj : Nat → Prop), JC Ci Cj → (∀ b, Cj b → (X b ∨ b = w.heap.size ∨ b = w.heap.size + 1) ∨ W1.heap.size ≤ b) → ∀ b, Ci b → X b ∨ w.heap.size ≤ b := fun X Ci Cj h1 q3 b hb => by
        rcases q3 b ((h1 b).2 (Or.inl hb)) with h | h
        · rcases h with h | h | h
          · exact Or.inl h
          · exact Or.inr (by omega)
          · exact Or.inr (by omega)
        · exact Or.inr (by omega)
      rintro e W2 ⟨⟨v, rfl⟩, Cj, Dj, q1, qd, q2, q3, q4, (⟨Ci, Di, h1, g1, h2, g2, hi, hf, hl, hk⟩ | ⟨pre, hpre, Ci, Di, h1, g1, h2, g2, hf, c, hi, hl, hk⟩)⟩
      · have he := run_endLoop (P := P) hl (by rw [hrec]; simp)
        have hS : Same D w (W2.putObj (w.heap.size + 1) (.loop { rec .ready none with state := .exhausted })) :=
          ((hS1 D).trans q2 (fun b hb => hb.elim Or.inl (fun h => Or.inr (by omega)))).trans (Same.put (C := fun b => b = w.heap.size + 1) _ hl rfl rfl rfl) (fun b hb => Or.inr (by omega))
        have hkp : KeptIn Ci W2 (W2.putObj (w.heap.size + 1) (.loop { rec .ready none with state := .exhausted })) := ⟨by simp, fun b hb => World.putObj_heap_other fun e => by subst e; have := h2 _ hb; omega⟩
        exact ⟨none, _, by rw [hrec] at he ⊢; exact he, hdone w.heap.size Ci Di _ (Nat.le_refl _) (fun h => by have := h2 _ h; omega) ((World.putObj_heap_other (by omega)).trans hk) (fun b hb => Nat.lt_of_lt_of_le (hf b hb) hkp.size) g2 hS (sub C Ci Cj h1 q3) (sub D Di Dj g1 q4) (hI _ _ _ _ _ hi hkp)⟩
      · have he := run_endLoop (P := P) hl (by rw [hrec]; simp)
        have hS : Same D w (W2.putObj (w.heap.size + 1) (.loop { rec .done (some c) with state := .exhausted })) :=
          ((hS1 D).trans q2 (fun b hb => hb.elim Or.inl (fun h => Or.inr (by omega)))).trans (Same.put (C := fun b => b = w.heap.size + 1) _ hl rfl rfl rfl) (fun b hb => Or.inr (by omega))
        have hkp : KeptIn Ci W2 (W2.putObj (w.heap.size + 1) (.loop { rec .done (some c) with state := .exhausted })) := ⟨by simp, fun b hb => World.putObj_heap_other fun e => by subst e; have := h2 _ hb; omega⟩
        exact ⟨some c, _, by rw [hrec] at he ⊢; exact he, hstop w.heap.size c Ci Di pre _ (Nat.le_refl _) (fun h => by have := h2 _ h; omega) ((World.putObj_heap_other (by omega)).trans hk) (fun b hb => Nat.lt_of_lt_of_le (hf b hb) hkp.size) g2 hS (sub C Ci Cj h1 q3) (sub D Di Dj g1 q4) hpre (hIx c _ _ _ _ _ hi hkp)⟩
end Go.Proofs.Ytdbbpmadkhedlaa

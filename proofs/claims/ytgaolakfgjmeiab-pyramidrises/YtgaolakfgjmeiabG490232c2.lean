/- A range over a function whose iterator has cells of its own: who may write which blocks, and who leans on which. (RgIt, where nothing is frozen anew: for programs that sort nothing on the way; never import both.) -/
import Derived.RangeFuncNested
import Derived.RangeFuncBound
import Derived.RangeFuncCalls
import Derived.RangeFuncLeaves
import Derived.Shelf.Abstract
import Derived.Shelf.RegionOpen
import Derived.WalkKit
import Derived.OwnWalkIn
import Derived.TacticsInMore
import Derived.LoopNIn
import Derived.LoopIn
import Derived.Test.YtgaolakfgjmeiabG6c9e9ab8
import Derived.Test.YtgaolakfgjmeiabGec6c67fb
import Derived.Test.YtgaolakfgjmeiabGe2f133e3
namespace Go.Proofs.Ytgaolakfgjmeiab
open Go.RowKit Go.Shelf
set_option linter.unusedVariables false
set_option linter.unusedSimpArgs false

/-- From W to W' none but the blocks of C have turned (and new ones have come). -/
structure Same (C : Nat → Prop) (W W' : World) : Prop where
  os : W'.os = W.os
  tape : W'.tape = W.tape
  output : W'.output = W.output
  size : W.heap.size ≤ W'.heap.size
  block : ∀ b, b < W.heap.size → ¬ C b → W'.heap[b]? = W.heap[b]?
  frozen : ∀ a, W'.frozen? a = W.frozen? a
/-- The blocks of C are as they were. -/
structure KeptIn (C : Nat → Prop) (W W' : World) : Prop where
  size : W.heap.size ≤ W'.heap.size
  block : ∀ b, C b → W'.heap[b]? = W.heap[b]?
def Fits (C : Nat → Prop) (W : World) : Prop := ∀ b, C b → b < W.heap.size
theorem Same.refl (C : Nat → Prop) (W : World) : Same C W W := ⟨rfl, rfl, rfl, Nat.le_refl _, fun _ _ _ => rfl, fun _ => rfl⟩
theorem Same.trans {C C' : Nat → Prop} {A B D : World} (h : Same C A B) (k : Same C' B D) (hC : ∀ b, C' b → C b ∨ A.heap.size ≤ b) : Same C A D :=
  ⟨k.os.trans h.os, k.tape.trans h.tape, k.output.trans h.output, Nat.le_trans h.size k.size,
   fun b hb hn => (k.block b (Nat.lt_of_lt_of_le hb h.size) (fun hc => (hC b hc).elim hn (fun h => by omega))).trans (h.block b hb hn),
   fun a => (k.frozen a).trans (h.frozen a)⟩
theorem Same.mono {C C' : Nat → Prop} {A B : World} (h : Same C A B) (hC : ∀ b, C b → C' b ∨ A.heap.size ≤ b) : Same C' A B :=
  ⟨h.os, h.tape, h.output, h.size, fun b hb hn => h.block b hb (fun hc => (hC b hc).elim hn (fun h => by omega)), h.frozen⟩
theorem Same.kept {C Z : Nat → Prop} {A B : World} (h : Same C A B) (hZ : ∀ b, Z b → b < A.heap.size ∧ ¬ C b) : KeptIn Z A B :=
  ⟨h.size, fun b hb => h.block b (hZ b hb).1 (hZ b hb).2⟩
theorem Same.below {A B : World} (h : Same (fun b => A.heap.size ≤ b) A B) : Below A.heap.size A B :=
  ⟨h.os, h.tape, h.output, h.size, fun b hb => h.block b hb (by omega)⟩
theorem Same.of_q {A B : World} (h : Q A B) (C : Nat → Prop) : Same C A B :=
  ⟨h.1.os, h.1.tape, h.1.output, h.1.size, fun b hb _ => h.1.block b hb, fun a => h.2 a⟩
theorem KeptIn.trans {C : Nat → Prop} {A B D : World} (h : KeptIn C A B) (k : KeptIn C B D) : KeptIn C A D :=
  ⟨Nat.le_trans h.size k.size, fun b hb => (k.block b hb).trans (h.block b hb)⟩
theorem KeptIn.cell {C : Nat → Prop} {A B : World} (h : KeptIn C A B) {a : Addr} (ha : C a.block) : B.cell? a = A.cell? a := by
  unfold World.cell?; rw [h.block _ ha]
theorem KeptIn.mono {C C' : Nat → Prop} {A B : World} (h : KeptIn C A B) (hC : ∀ b, C' b → C b) : KeptIn C' A B := ⟨h.size, fun b hb => h.block b (hC b hb)⟩
theorem frozen_put {W : World} {l : Nat} {o o' : Obj} (hl : W.heap[l]? = some o) (ho : o.isCells = false) (ho' : o'.isCells = false) (a : Addr) : (W.putObj l o').frozen? a = W.frozen? a := by
  unfold World.frozen?
  by_cases h : a.block = l
  · rw [h, hl, World.putObj_heap_same (Array.getElem?_eq_some_iff.1 hl).1]
    cases o <;> cases o' <;> simp_all [Obj.isCells]
  · rw [World.putObj_heap_other h]
theorem Same.put {C : Nat → Prop} {W : World} {l : Nat} {o : Obj} (o' : Obj) (hl : W.heap[l]? = some o) (ho : o.isCells = false) (ho' : o'.isCells = false) (hC : C l) : Same C W (W.putObj l o') :=
  ⟨rfl, rfl, rfl, by simp, fun b _ hn => World.putObj_heap_other (fun e => hn (e ▸ hC)), fun a => frozen_put hl ho ho' a⟩

/-- What a round of the consumer's does: C: the blocks that it leans on; D: those of them that it may write; B: the blocks of what it is handed, which nobody writes any more. -/
def RoundDone {α : Type} (J Jx : (Nat → Prop) → (Nat → Prop) → List α → World → Prop) (C D B : Nat → Prop) (pre : List α) (x : α) (W : World) (e : Ending) (W' : World) : Prop :=
  ∃ C' D' : Nat → Prop, Fits C' W' ∧ (∀ b, D' b → C' b) ∧ Same D W W' ∧ (∀ b, C' b → C b ∨ B b ∨ W.heap.size ≤ b) ∧ (∀ b, D' b → D b ∨ W.heap.size ≤ b) ∧
    ((e = .returned (.bool true) ∧ J C' D' (pre ++ [x]) W') ∨ (e = .returned (.bool false) ∧ Jx C' D' (pre ++ [x]) W'))
def Stable {α : Type} (J : (Nat → Prop) → (Nat → Prop) → List α → World → Prop) : Prop := ∀ C D pre W W', J C D pre W → KeptIn C W W' → J C D pre W'
/-- An iterator that gives xs: Pre: what it asks of the world, on the blocks of Rd. -/
def ItC {α : Type} (P : Program) (g : Nat) (lb : Array Value) (Enc : α → Array Value → (Nat → Prop) → World → Prop) (xs : List α) (Rd : Nat → Prop) (Pre : World → Prop) : Prop :=
  ∀ (l : Nat) (J Jx : (Nat → Prop) → (Nat → Prop) → List α → World → Prop) (C D : Nat → Prop) (W : World), Pre W → (∀ b, Rd b → ¬ D b ∧ b < W.heap.size) → Stable J → Stable Jx →
    (∀ (C D : Nat → Prop) (pre : List α) (x : α) (rest : List α) (W1 : World) (args : Array Value) (B : Nat → Prop), xs = pre ++ x :: rest → J C D pre W1 → Fits C W1 → (∀ b, D b → C b) → Enc x args B W1 → (∀ b, B b → ¬ D b ∧ W.heap.size ≤ b ∧ b < W1.heap.size) →
      YieldAt Fence.wide 0 P l args W1 (RoundDone J Jx C D B pre x W1)) →
    J C D [] W → Fits C W → (∀ b, D b → C b) →
    CallsIn Fence.wide 0 P g (#[.func (.yield l) #[] #[]] ++ lb) W fun e W' => (∃ v, e = .returned v) ∧
      ∃ C' D' : Nat → Prop, Fits C' W' ∧ (∀ b, D' b → C' b) ∧ Same D W W' ∧ (∀ b, C' b → C b ∨ W.heap.size ≤ b) ∧ (∀ b, D' b → D b ∨ W.heap.size ≤ b) ∧ (J C' D' xs W' ∨ ∃ pre, pre <+: xs ∧ Jx C' D' pre W')

/-- What holds at a round's end. -/
def Left {α : Type} (I : (Nat → Prop) → (Nat → Prop) → List α → World → Prop) (C D B : Nat → Prop) (N : Nat) (pre : List α) (W W' : World) : Prop :=
  ∃ C' D' : Nat → Prop, Fits C' W' ∧ (∀ b, D' b → C' b) ∧ Same D W W' ∧ (∀ b, C' b → C b ∨ B b ∨ N ≤ b) ∧ (∀ b, D' b → D b ∨ N ≤ b) ∧ I C' D' pre W'
/-- How the body of a round may be left. -/
def bodyDone {α : Type} (I : (Nat → Prop) → (Nat → Prop) → List α → World → Prop) (Ix : Code → (Nat → Prop) → (Nat → Prop) → List α → World → Prop) (C D B : Nat → Prop) (N : Nat) (pre : List α) (W : World) : Exit → Act → World → Prop
  | .normal, _, W' => Left I C D B N pre W W'
  | .ret, _, W' => Left (Ix .ret) C D B N pre W W'
  | .exit id, _, W' => Left (Ix (.exit id)) C D B N pre W W'
  | .goto t, _, W' => Left (Ix (.goto t)) C D B N pre W W'
  | .panic _, _, _ => False
  | .outgrown, _, _ => False

set_option maxHeartbeats 1000000 in
/-- The statement 'for x := range it': I: what holds between two rounds; Ix: what holds when a round has left by a jump. -/
theorem range_it {P : Program} {α : Type} {g : Operand} {ps : Array Tmp} {assign body : Code} {R : Exit → Act → World → Prop} {a : Act} {w : World}
    {gf : Nat} {lb : Array Value} (hg : a.eval g = .func (.func gf) #[] lb) (eg : ∀ args w, (callFunc gf args).run P w = .ok (.enter gf args) w)
    {Enc : α → Array Value → (Nat → Prop) → World → Prop} {xs : List α} {Rd : Nat → Prop} {Pre : World → Prop} (hit : ItC P gf lb Enc xs Rd Pre)
    (hPre : ∀ W, KeptIn (fun b => b < w.heap.size) w W → Pre W) (hRd : ∀ b, Rd b → b < w.heap.size)
    (hps : ∀ x args B W, Enc x args B W → args.size = ps.size)
    (I : (Nat → Prop) → (Nat → Prop) → List α → World → Prop) (Ix : Code → (Nat → Prop) → (Nat → Prop) → List α → World → Prop) (hI : Stable I) (hIx : ∀ c, Stable (Ix c))
    (C D : Nat → Prop) (hC : Fits C w) (hDC : ∀ b, D b → C b) (hDR : ∀ b, Rd b → ¬ D b) (h0 : I C D [] w)
    (hround : ∀ (l : Nat) (C D : Nat → Prop) (pre : List α) (x : α) (rest : List α) (W : World) (args : Array Value) (B : Nat → Prop), w.heap.size ≤ l → l < W.heap.size → ¬ C l → ¬ B l → xs = pre ++ x :: rest → I C D pre W → Fits C W → (∀ b, D b → C b) → Enc x args B W → (∀ b, B b → ¬ D b ∧ w.heap.size ≤ b ∧ b < W.heap.size) → (∀ b, C b → b < w.heap.size ∨ w.heap.size + 2 ≤ b) →
      assign.wpIn (Fence.wide.inRound l) 0 P (Exit.then (fun a₁ W₁ => Q W W₁ ∧ ∀ W₂, Same (fun b => b = l) W₁ W₂ → KeptIn (fun b => b ≠ l) W₁ W₂ → body.wpIn (Fence.wide.inRound l) 0 P (bodyDone I Ix C D B W.heap.size (pre ++ [x]) W₂) a₁ W₂) (fun _ _ _ => False))
        { tmps := (ps.zip args).foldl (fun t (p, v) => t.setIfInBounds p v) a.tmps, defers := [] } W)
    (hdone : ∀ (E : Nat) (C' D' : Nat → Prop) (W : World), w.heap.size ≤ E → ¬ C' E → W.heap[E]? = some (.deferred (some [])) → Fits C' W → (∀ b, D' b → C' b) → Same D w W → (∀ b, C' b → C b ∨ w.heap.size ≤ b) → (∀ b, D' b → D b ∨ w.heap.size ≤ b) → I C' D' xs W → R .normal { a with defers := { target := .collected E, args := #[] } :: a.defers } W)
    (hstop : ∀ (E : Nat) (c : Code) (C' D' : Nat → Prop) (pre : List α) (W : World), w.heap.size ≤ E → ¬ C' E → W.heap[E]? = some (.deferred (some [])) → Fits C' W → (∀ b, D' b → C' b) → Same D w W → (∀ b, C' b → C b ∨ w.heap.size ≤ b) → (∀ b, D' b → D b ∨ w.heap.size ≤ b) → pre <+: xs → Ix c C' D' pre W → c.wpIn Fence.wide 0 P R { a with defers := { target := .collected E, args := #[] } :: a.defers } W) :
    (Code.rangeFunc g ps assign body).wpIn Fence.wide 0 P R a w := by
  refine wpIn_rangeFunc ?_
  intro fn hfn
  obtain ⟨rec, hrec⟩ : ∃ rec : LoopState → Option Code → Loop, rec = fun st pe => { state := st, pending := pe, fn, tmps := a.tmps, params := ps, assign, body, defers := w.heap.size } := ⟨_, rfl⟩
  obtain ⟨W1, hW1⟩ : ∃ W1, (w.alloc (.deferred (some []))).alloc (.loop (rec .ready none)) = W1 := ⟨_, rfl⟩
  have hL1 : W1.heap[w.heap.size + 1]? = some (.loop (rec .ready none)) := by
    rw [← hW1]; have := World.alloc_heap_new (w.alloc (.deferred (some []))) (.loop (rec .ready none)); rwa [World.size_alloc] at this
  have hK1 : W1.heap[w.heap.size]? = some (.deferred (some [])) := by
    rw [← hW1]; exact (Below.heap_alloc _ _ _ (by simp)).trans (World.alloc_heap_new w _)
  have hsz1 : W1.heap.size = w.heap.size + 2 := by rw [← hW1]; simp
  have hold1 : ∀ b, b < w.heap.size → W1.heap[b]? = w.heap[b]? := fun b hb => by
    rw [← hW1]; exact (Below.heap_alloc _ _ _ (by simp; omega)).trans (Below.heap_alloc _ _ _ hb)
  have hfr1 : ∀ ad, W1.frozen? ad = w.frozen? ad := fun ad => by
    unfold World.frozen?
    by_cases h : ad.block < w.heap.size
    · rw [hold1 _ h]
    · have e1 : w.heap[ad.block]? = none := Array.getElem?_eq_none (by omega)
      rw [e1]
      by_cases h2 : ad.block = w.heap.size
      · rw [h2, hK1]
      · by_cases h3 : ad.block = w.heap.size + 1
        · rw [h3, hL1]
        · rw [Array.getElem?_eq_none (by omega)]
  have hS1 : ∀ C, Same C w W1 := fun C => by
    refine ⟨?_, ?_, ?_, by omega, fun b hb _ => hold1 b hb, fun a => hfr1 a⟩ <;> rw [← hW1] <;> rfl
  have hKp1 : KeptIn (fun b => b < w.heap.size) w W1 := ⟨by omega, hold1⟩
  let JC : (Nat → Prop) → (Nat → Prop) → Prop := fun Ci Cj => ∀ b, Cj b ↔ Ci b ∨ b = w.heap.size ∨ b = w.heap.size + 1
  let fine : (Nat → Prop) → Prop := fun Ci => ∀ b, Ci b → b < w.heap.size ∨ w.heap.size + 2 ≤ b
  refine ⟨w.heap.size + 1, [{ target := .collected w.heap.size, args := #[] }], W1, { target := .fn (.func gf) lb, args := #[.func (.yield (w.heap.size + 1)) #[] #[]] }, W1, gf,
    #[.func (.yield (w.heap.size + 1)) #[] #[]] ++ lb, W1, ?_, ?_, ?_, ?_, fun h => (by cases h), ?_⟩
  · rw [← hW1, hrec]; exact run_enterLoop_outer _ _ _ _ _
  · simp only [resolve, hg]
    simp [go_sem]
  · intro f' hf'; exact trivial
  · simp [invoke, go_sem, eg]
  · refine (hit (w.heap.size + 1)
      (fun Cj Dj pre W => ∃ Ci Di, JC Ci Cj ∧ JC Di Dj ∧ fine Ci ∧ (∀ b, Di b → Ci b) ∧ I Ci Di pre W ∧ Fits Ci W ∧ W.heap[w.heap.size + 1]? = some (.loop (rec .ready none)) ∧ W.heap[w.heap.size]? = some (.deferred (some [])))
      (fun Cj Dj pre W => ∃ Ci Di, JC Ci Cj ∧ JC Di Dj ∧ fine Ci ∧ (∀ b, Di b → Ci b) ∧ Fits Ci W ∧ ∃ c, Ix c Ci Di pre W ∧ W.heap[w.heap.size + 1]? = some (.loop (rec .done (some c))) ∧ W.heap[w.heap.size]? = some (.deferred (some [])))
      (fun b => C b ∨ b = w.heap.size ∨ b = w.heap.size + 1) (fun b => D b ∨ b = w.heap.size ∨ b = w.heap.size + 1) W1 (hPre W1 hKp1) ?_ ?_ ?_ ?_ ?_ ?_ ?_).mono ?_
    · intro b hb
      have := hRd b hb
      exact ⟨fun h => h.elim (hDR b hb) (fun h => by omega), by omega⟩
    · rintro Cj Dj pre W W' ⟨Ci, Di, h1, g1, h2, g2, h3, h4, h5, h6⟩ hk
      exact ⟨Ci, Di, h1, g1, h2, g2, hI _ _ _ _ _ h3 (hk.mono fun b hb => (h1 b).2 (Or.inl hb)), fun b hb => Nat.lt_of_lt_of_le (h4 b hb) hk.size, (hk.block _ ((h1 _).2 (Or.inr (Or.inr rfl)))).trans h5, (hk.block _ ((h1 _).2 (Or.inr (Or.inl rfl)))).trans h6⟩
    · rintro Cj Dj pre W W' ⟨Ci, Di, h1, g1, h2, g2, h4, c, h3, h5, h6⟩ hk
      exact ⟨Ci, Di, h1, g1, h2, g2, fun b hb => Nat.lt_of_lt_of_le (h4 b hb) hk.size, c, hIx c _ _ _ _ _ h3 (hk.mono fun b hb => (h1 b).2 (Or.inl hb)), (hk.block _ ((h1 _).2 (Or.inr (Or.inr rfl)))).trans h5, (hk.block _ ((h1 _).2 (Or.inr (Or.inl rfl)))).trans h6⟩
    · -- one round
      rintro Cj Dj pre x rest W args B hx ⟨Ci, Di, h1, g1, h2, g2, hi, hf, hl, hk⟩ hfj hdj henc hB
      have hlt : w.heap.size + 1 < W.heap.size := (Array.getElem?_eq_some_iff.1 hl).1
      have hy := run_yield (P := P) (args := args) hl (by rw [hrec]; exact hps _ _ _ _ henc)
      rw [hrec] at hy
      have hnl : ¬ Ci (w.heap.size + 1) := fun h => by have := h2 _ h; omega
      have hnd : ¬ Ci w.heap.size := fun h => by have := h2 _ h; omega
      have hBl : ¬ B (w.heap.size + 1) := fun h => by have := (hB _ h).2.1; omega
      have hBd : ¬ B w.heap.size := fun h => by have := (hB _ h).2.1; omega
      refine ⟨fn, _, assign, body, hy, roundIn_of_wpIn hfn (wpIn_mono (hround (w.heap.size + 1) Ci Di pre x rest W args B (by omega) hlt hnl hBl hx hi hf g2 henc (fun b hb => ⟨fun h => (hB b hb).1 ((g1 b).2 (Or.inl h)), by have := (hB b hb).2.1; omega, (hB b hb).2.2⟩) h2) ?_)⟩
      rintro e a₁ Wa hp
      cases e with
      | normal =>
        obtain ⟨hq, hp⟩ := hp
        have hla : Wa.heap[w.heap.size + 1]? = some (.loop (rec .ready none)) := (hq.1.block _ hlt).trans hl
        have hka : Wa.heap[w.heap.size]? = some (.deferred (some [])) := (hq.1.block _ (by omega)).trans hk
        have hlta : w.heap.size + 1 < Wa.heap.size := (Array.getElem?_eq_some_iff.1 hla).1
        refine ⟨_, run_beginRound hla (by rw [hrec]), ?_⟩
        obtain ⟨W2, hW2⟩ : ∃ W2, Wa.putObj (w.heap.size + 1) (.loop { rec .ready none with state := .busy }) = W2 := ⟨_, rfl⟩
        have hl2 : W2.heap[w.heap.size + 1]? = some (.loop { rec .ready none with state := .busy }) := by rw [← hW2]; exact World.putObj_heap_same hlta
        have hk2 : W2.heap[w.heap.size]? = some (.deferred (some [])) := by rw [← hW2]; exact (World.putObj_heap_other (by omega)).trans hka
        have hs2 : Same (fun b => b = w.heap.size + 1) Wa W2 := by rw [← hW2]; exact Same.put _ hla rfl rfl rfl
        have hkp2 : KeptIn (fun b => b ≠ w.heap.size + 1) Wa W2 := by rw [← hW2]; exact ⟨by simp, fun b hb => World.putObj_heap_other hb⟩
        rw [hW2]
        refine wpIn_mono (hp W2 hs2 hkp2) ?_
        have fin : ∀ (jump : Option Code) (W3 : World) (C' D' : Nat → Prop), Fits C' W3 → (∀ b, D' b → C' b) → Same Di W2 W3 → (∀ b, C' b → Ci b ∨ B b ∨ W.heap.size ≤ b) → (∀ b, D' b → Di b ∨ W.heap.size ≤ b) →
            (Instr.endRound (w.heap.size + 1) jump).run P W3 = .ok (.bool jump.isNone) (W3.putObj (w.heap.size + 1) (.loop (rec (if jump.isNone then .ready else .done) jump))) ∧
            (W3.putObj (w.heap.size + 1) (.loop (rec (if jump.isNone then .ready else .done) jump))).heap[w.heap.size + 1]? = some (.loop (rec (if jump.isNone then .ready else .done) jump)) ∧
            (W3.putObj (w.heap.size + 1) (.loop (rec (if jump.isNone then .ready else .done) jump))).heap[w.heap.size]? = some (.deferred (some [])) ∧
            Fits (fun b => C' b ∨ b = w.heap.size ∨ b = w.heap.size + 1) (W3.putObj (w.heap.size + 1) (.loop (rec (if jump.isNone then .ready else .done) jump))) ∧
            (∀ b, (D' b ∨ b = w.heap.size ∨ b = w.heap.size + 1) → (C' b ∨ b = w.heap.size ∨ b = w.heap.size + 1)) ∧
            Same Dj W (W3.putObj (w.heap.size + 1) (.loop (rec (if jump.isNone then .ready else .done) jump))) ∧
            (∀ b, (C' b ∨ b = w.heap.size ∨ b = w.heap.size + 1) → Cj b ∨ B b ∨ W.heap.size ≤ b) ∧ (∀ b, (D' b ∨ b = w.heap.size ∨ b = w.heap.size + 1) → Dj b ∨ W.heap.size ≤ b) ∧ fine C' ∧ KeptIn C' W3 (W3.putObj (w.heap.size + 1) (.loop (rec (if jump.isNone then .ready else .done) jump))) := fun jump W3 C' D' hf' hd' hs3 hC' hD' => by
          have hlt2 : w.heap.size + 1 < W2.heap.size := (Array.getElem?_eq_some_iff.1 hl2).1
          have hl3 : W3.heap[w.heap.size + 1]? = some (.loop { rec .ready none with state := .busy }) := (hs3.block _ hlt2 (fun h => hnl (g2 _ h))).trans hl2
          have hk3 : W3.heap[w.heap.size]? = some (.deferred (some [])) := (hs3.block _ (by omega) (fun h => hnd (g2 _ h))).trans hk2
          have hlt3 : w.heap.size + 1 < W3.heap.size := (Array.getElem?_eq_some_iff.1 hl3).1
          have hfine : fine C' := fun b hb => by
            rcases hC' b hb with h | h | h
            · exact h2 b h
            · by_cases e1 : b = w.heap.size
              · subst e1; exact absurd h hBd
              · by_cases e2 : b = w.heap.size + 1
                · subst e2; exact absurd h hBl
                · omega
            · omega
          have he := run_endRound (P := P) jump hl3
          refine ⟨by rw [hrec] at he ⊢; exact he, World.putObj_heap_same hlt3, (World.putObj_heap_other (by omega)).trans hk3, fun b hb => ?_, fun b hb => hb.imp (hd' b) id, ?_, fun b hb => ?_, fun b hb => ?_, hfine, ⟨by simp, fun b hb => World.putObj_heap_other fun e => ?_⟩⟩
          · rw [World.putObj_size]
            rcases hb with h | h | h
            · exact hf' b h
            · omega
            · omega
          · refine (Same.of_q hq Dj).trans ((hs2.mono (C' := fun b => Dj b) fun b hb => Or.inl ?_).trans ((hs3.mono (C' := Dj) fun b hb => Or.inl ((g1 b).2 (Or.inl hb))).trans (Same.put (C := Dj) _ hl3 rfl rfl ((g1 _).2 (Or.inr (Or.inr rfl)))) (fun b hb => Or.inl hb)) (fun b hb => Or.inl hb)) (fun b hb => Or.inl hb)
            subst hb
            exact (g1 _).2 (Or.inr (Or.inr rfl))
          · rcases hb with h | h | h
            · rcases hC' b h with h | h | h
              · exact Or.inl ((h1 b).2 (Or.inl h))
              · exact Or.inr (Or.inl h)
              · exact Or.inr (Or.inr h)
            · exact Or.inl ((h1 b).2 (Or.inr (Or.inl h)))
            · exact Or.inl ((h1 b).2 (Or.inr (Or.inr h)))
          · rcases hb with h | h | h
            · rcases hD' b h with h | h
              · exact Or.inl ((g1 b).2 (Or.inl h))
              · exact Or.inr h
            · exact Or.inl ((g1 b).2 (Or.inr (Or.inl h)))
            · exact Or.inl ((g1 b).2 (Or.inr (Or.inr h)))
          · subst e
            have := hfine _ hb
            omega
        rintro e a3 W3 hp
        cases e with
        | normal =>
          obtain ⟨C', D', k1, k2, k3, k4, k5, k6⟩ := hp
          obtain ⟨f1, f2, f3, f4, f4', f5, f6, f6', f7, f8⟩ := fin none W3 C' D' k1 k2 k3 k4 k5
          exact ⟨_, _, f1, _, _, f4, f4', f5, f6, f6', Or.inl ⟨rfl, C', D', fun b => Iff.rfl, fun b => Iff.rfl, f7, k2, hI _ _ _ _ _ k6 f8, fun b hb => Nat.lt_of_lt_of_le (k1 b hb) f8.size, f2, f3⟩⟩
        | ret =>
          obtain ⟨C', D', k1, k2, k3, k4, k5, k6⟩ := hp
          obtain ⟨f1, f2, f3, f4, f4', f5, f6, f6', f7, f8⟩ := fin (some .ret) W3 C' D' k1 k2 k3 k4 k5
          exact ⟨_, _, f1, _, _, f4, f4', f5, f6, f6', Or.inr ⟨rfl, C', D', fun b => Iff.rfl, fun b => Iff.rfl, f7, k2, fun b hb => Nat.lt_of_lt_of_le (k1 b hb) f8.size, _, hIx _ _ _ _ _ _ k6 f8, f2, f3⟩⟩
        | exit id =>
          obtain ⟨C', D', k1, k2, k3, k4, k5, k6⟩ := hp
          obtain ⟨f1, f2, f3, f4, f4', f5, f6, f6', f7, f8⟩ := fin (some (.exit id)) W3 C' D' k1 k2 k3 k4 k5
          exact ⟨_, _, f1, _, _, f4, f4', f5, f6, f6', Or.inr ⟨rfl, C', D', fun b => Iff.rfl, fun b => Iff.rfl, f7, k2, fun b hb => Nat.lt_of_lt_of_le (k1 b hb) f8.size, _, hIx _ _ _ _ _ _ k6 f8, f2, f3⟩⟩
        | goto t =>
          obtain ⟨C', D', k1, k2, k3, k4, k5, k6⟩ := hp
          obtain ⟨f1, f2, f3, f4, f4', f5, f6, f6', f7, f8⟩ := fin (some (.goto t)) W3 C' D' k1 k2 k3 k4 k5
          exact ⟨_, _, f1, _, _, f4, f4', f5, f6, f6', Or.inr ⟨rfl, C', D', fun b => Iff.rfl, fun b => Iff.rfl, f7, k2, fun b hb => Nat.lt_of_lt_of_le (k1 b hb) f8.size, _, hIx _ _ _ _ _ _ k6 f8, f2, f3⟩⟩
        | panic ch => exact hp.elim
        | outgrown => exact hp.elim
      | exit id => exact hp.elim
      | goto t => exact hp.elim
      | ret => exact hp.elim
      | panic ch => exact hp.elim
      | outgrown => exact hp.elim
    · exact ⟨C, D, fun b => Iff.rfl, fun b => Iff.rfl, fun b hb => Or.inl (hC b hb), hDC, hI _ _ _ _ _ h0 (hKp1.mono hC), fun b hb => by have := hC b hb; omega, hL1, hK1⟩
    · intro b hb
      rcases hb with h | h | h
      · have := hC b h; omega
      · omega
      · omega
    · intro b hb
      exact hb.imp (hDC b) id
    · -- behind the iterator
      have sub : ∀ (X Ci Cj : Nat → Prop), JC Ci Cj → (∀ b, Cj b → (X b ∨ b = w.heap.size ∨ b = w.heap.size + 1) ∨ W1.heap.size ≤ b) → ∀ b, Ci b → X b ∨ w.heap.size ≤ b := fun X Ci Cj h1 q3 b hb => by
        rcases q3 b ((h1 b).2 (Or.inl hb)) with h | h
        · rcases h with h | h | h
          · exact Or.inl h
          · exact Or.inr (by omega)
          · exact Or.inr (by omega)
        · exact Or.inr (by omega)
      rintro e W2 ⟨⟨v, rfl⟩, Cj, Dj, q1, qd, q2, q3, q4, (⟨Ci, Di, h1, g1, h2, g2, hi, hf, hl, hk⟩ | ⟨pre, hpre, Ci, Di, h1, g1, h2, g2, hf, c, hi, hl, hk⟩)⟩
      · have he := run_endLoop (P := P) hl (by rw [hrec]; simp)
        have hS : Same D w (W2.putObj (w.heap.size + 1) (.loop { rec .ready none with state := .exhausted })) :=
          ((hS1 D).trans q2 (fun b hb => hb.elim Or.inl (fun h => Or.inr (by omega)))).trans (Same.put (C := fun b => b = w.heap.size + 1) _ hl rfl rfl rfl) (fun b hb => Or.inr (by omega))
        have hkp : KeptIn Ci W2 (W2.putObj (w.heap.size + 1) (.loop { rec .ready none with state := .exhausted })) := ⟨by simp, fun b hb => World.putObj_heap_other fun e => by subst e; have := h2 _ hb; omega⟩
        exact ⟨none, _, by rw [hrec] at he ⊢; exact he, hdone w.heap.size Ci Di _ (Nat.le_refl _) (fun h => by have := h2 _ h; omega) ((World.putObj_heap_other (by omega)).trans hk) (fun b hb => Nat.lt_of_lt_of_le (hf b hb) hkp.size) g2 hS (sub C Ci Cj h1 q3) (sub D Di Dj g1 q4) (hI _ _ _ _ _ hi hkp)⟩
      · have he := run_endLoop (P := P) hl (by rw [hrec]; simp)
        have hS : Same D w (W2.putObj (w.heap.size + 1) (.loop { rec .done (some c) with state := .exhausted })) :=
          ((hS1 D).trans q2 (fun b hb => hb.elim Or.inl (fun h => Or.inr (by omega)))).trans (Same.put (C := fun b => b = w.heap.size + 1) _ hl rfl rfl rfl) (fun b hb => Or.inr (by omega))
        have hkp : KeptIn Ci W2 (W2.putObj (w.heap.size + 1) (.loop { rec .done (some c) with state := .exhausted })) := ⟨by simp, fun b hb => World.putObj_heap_other fun e => by subst e; have := h2 _ hb; omega⟩
        exact ⟨some c, _, by rw [hrec] at he ⊢; exact he, hstop w.heap.size c Ci Di pre _ (Nat.le_refl _) (fun h => by have := h2 _ h; omega) ((World.putObj_heap_other (by omega)).trans hk) (fun b hb => Nat.lt_of_lt_of_le (hf b hb) hkp.size) g2 hS (sub C Ci Cj h1 q3) (sub D Di Dj g1 q4) hpre (hIx c _ _ _ _ _ hi hkp)⟩
end Go.Proofs.Ytgaolakfgjmeiab
/- Rows of values in memory, told by a function of the place. -/
namespace Go.Proofs.Ytgaolakfgjmeiab
open Go.RowKit
set_option linter.unusedVariables false
set_option linter.unusedSimpArgs false

/-- A row of values that may be written. -/
structure VR (x : World) (g n : Nat) (F : Nat → Value) : Prop where
  cell : ∀ i, i < n → x.cell? ⟨g, i, none⟩ = some (F i)
  free : ∀ j, x.frozen? ⟨g, j, none⟩ = false
theorem VR.next {x x' : World} {g n : Nat} {F : Nat → Value} (h : VR x g n F) (q : Q x x') : VR x' g n F := ⟨fun i hi => q.cell (h.cell i hi), fun j => by rw [q.2]; exact h.free j⟩
theorem VR.other {x : World} {g n : Nat} {F : Nat → Value} (h : VR x g n F) {p : Addr} (hp : p.block ≠ g) (v : Value) : VR (x.setCell p v) g n F :=
  ⟨fun i hi => (World.cell?_setCell_other _ _ _ _ (fun e => hp (by rw [e]))).trans (h.cell i hi), fun j => by rw [World.frozen?_setCell]; exact h.free j⟩
theorem VR.put {x : World} {g n : Nat} {F G : Nat → Value} (h : VR x g n F) {i : Nat} (hi : i < n) {v : Value} (hv : G i = v) (ho : ∀ j, j < n → j ≠ i → G j = F j) : VR (x.setCell ⟨g, i, none⟩ v) g n G := by
  refine ⟨fun j hj => ?_, fun j => by rw [World.frozen?_setCell]; exact h.free j⟩
  by_cases e : j = i
  · subst e; rw [hv]; exact World.cell?_setCell_same _ _ _ (h.cell j hi)
  · rw [ho j hj e]
    exact (World.cell?_setCell_other _ _ _ _ (fun k => e (by injection k with _ k; exact k.symm))).trans (h.cell j hj)
theorem VR.congr {x : World} {g n : Nat} {F G : Nat → Value} (h : VR x g n F) (hG : ∀ j, j < n → G j = F j) : VR x g n G := ⟨fun i hi => by rw [hG i hi]; exact h.cell i hi, h.free⟩
theorem VR.lt {x : World} {g n : Nat} {F : Nat → Value} (h : VR x g n F) (hn : 1 ≤ n) : g < x.heap.size := World.block_lt_of_cell? _ _ (h.cell 0 hn)
/-- What lies there by now. -/
def sofar (L : Nat → Value) (z : Value) (k : Nat) (j : Nat) : Value := if j < k then L j else z
theorem sofar_zero (L : Nat → Value) (z : Value) : sofar L z 0 = fun _ => z := by funext j; unfold sofar; rw [if_neg (by omega)]
theorem sofar_step {L : Nat → Value} {z : Value} {k n : Nat} : (∀ j, j < n → j ≠ k → sofar L z (k + 1) j = sofar L z k j) ∧ sofar L z (k + 1) k = L k := by
  refine ⟨fun j hj he => ?_, by unfold sofar; rw [if_pos (by omega)]⟩
  unfold sofar
  by_cases h : j < k
  · rw [if_pos h, if_pos (by omega)]
  · rw [if_neg h, if_neg (by omega)]
theorem sofar_all {L : Nat → Value} {z : Value} {n j : Nat} (h : j < n) : sofar L z n j = L j := by unfold sofar; rw [if_pos h]
theorem VR.fill {x : World} {g n k : Nat} {L : Nat → Value} {z v : Value} (h : VR x g n (sofar L z k)) (hk : k < n) (hv : v = L k) : VR (x.setCell ⟨g, k, none⟩ v) g n (sofar L z (k + 1)) :=
  h.put hk (by rw [hv]; exact (sofar_step (n := n)).2) (sofar_step (n := n)).1
theorem VR.full {x : World} {g n : Nat} {L : Nat → Value} {z : Value} (h : VR x g n (sofar L z n)) : VR x g n L := h.congr fun j hj => (sofar_all hj).symm
theorem made_vr {z : Value} (hz : z.cells = #[z]) (e : TypeId) (n : Nat) (w : World) : VR (w.alloc (.cells (madeCells z.cells (n * 1)) e)) w.heap.size n (fun _ => z) := by
  have hb : (w.alloc (.cells (madeCells z.cells (n * 1)) e)).heap[w.heap.size]? = some (.cells (madeCells z.cells (n * 1)) e (0, 0)) := heap_alloc_new w _
  refine ⟨fun j hj => ?_, fun j => frozen_of_row _ _ _ _ _ hb⟩
  rw [cell_of_row _ _ j _ e (0, 0) hb]
  unfold madeCells
  rw [hz]
  simp [hj, Nat.mod_one]
theorem intInfoV : ∃ i, Try.prog.info? 3 = some i ∧ i.size = 1 ∧ i.bytes = 8 ∧ i.zero = some (.int .i64 0) := info_of (by kernel_rfl) (by kernel_rfl)
theorem fltInfoV : ∃ i, Try.prog.info? 28 = some i ∧ i.size = 1 ∧ i.bytes = 8 ∧ i.zero = some (.float .f64 0) := info_of (by kernel_rfl) (by kernel_rfl)
theorem u32InfoV : ∃ i, Try.prog.info? 30 = some i ∧ i.size = 1 ∧ i.bytes = 4 ∧ i.zero = some (.int .u32 0) := info_of (by kernel_rfl) (by kernel_rfl)
theorem make_vi (n : Nat) (hn : n ≤ 1048576) : ∃ M : Array Value, (∀ w : World, (Instr.makeSlice 73 (.int .i64 (n : Int)) (.int .i64 (n : Int))).run Try.prog w = .ok (.slice (some ⟨w.heap.size, 0, none⟩) n n) (w.alloc (.cells M 3))) ∧
    ∀ w : World, VR (w.alloc (.cells M 3)) w.heap.size n (fun _ => .int .i64 0) := by
  obtain ⟨i, i1, i2, i3, i4⟩ := intInfoV
  refine ⟨madeCells (Value.int .i64 0).cells (n * 1), fun w => ?_, fun w => made_vr rfl _ n w⟩
  have := run_make (P := Try.prog) w 73 3 i _ Try.underlying73 i1 i4 .i64 .i64 n n (by omega) (by omega) (by rw [i3]; omega) (by omega)
  rw [i2] at this
  simp only [Int.toNat_natCast] at this
  exact this
theorem make_vf (n : Nat) (hn : n ≤ 1048576) : ∃ M : Array Value, (∀ w : World, (Instr.makeSlice 70 (.int .i64 (n : Int)) (.int .i64 (n : Int))).run Try.prog w = .ok (.slice (some ⟨w.heap.size, 0, none⟩) n n) (w.alloc (.cells M 28))) ∧
    ∀ w : World, VR (w.alloc (.cells M 28)) w.heap.size n (fun _ => .float .f64 0) := by
  obtain ⟨i, i1, i2, i3, i4⟩ := fltInfoV
  refine ⟨madeCells (Value.float .f64 0).cells (n * 1), fun w => ?_, fun w => made_vr rfl _ n w⟩
  have := run_make (P := Try.prog) w 70 28 i _ Try.underlying70 i1 i4 .i64 .i64 n n (by omega) (by omega) (by rw [i3]; omega) (by omega)
  rw [i2] at this
  simp only [Int.toNat_natCast] at this
  exact this
theorem make_vu (n : Nat) (hn : n ≤ 1048576) : ∃ M : Array Value, (∀ w : World, (Instr.makeSlice 22 (.int .i64 (n : Int)) (.int .i64 (n : Int))).run Try.prog w = .ok (.slice (some ⟨w.heap.size, 0, none⟩) n n) (w.alloc (.cells M 30))) ∧
    ∀ w : World, VR (w.alloc (.cells M 30)) w.heap.size n (fun _ => .int .u32 0) := by
  obtain ⟨i, i1, i2, i3, i4⟩ := u32InfoV
  refine ⟨madeCells (Value.int .u32 0).cells (n * 1), fun w => ?_, fun w => made_vr rfl _ n w⟩
  have := run_make (P := Try.prog) w 22 30 i _ Try.underlying22 i1 i4 .i64 .i64 n n (by omega) (by omega) (by rw [i3]; omega) (by omega)
  rw [i2] at this
  simp only [Int.toNat_natCast] at this
  exact this
end Go.Proofs.Ytgaolakfgjmeiab
/- Worlds in which what was there is as it was. (QbW with Q for Below: where nothing is frozen anew; never import both.) -/
namespace Go.Proofs.Ytgaolakfgjmeiab
open Go.RowKit
set_option linter.unusedVariables false
set_option linter.unusedSimpArgs false

/-- What was there is as it was; what is new is not frozen. -/
def Qb (w w' : World) : Prop := Q w w'
theorem Qb.refl (w : World) : Qb w w := Q.refl w
theorem Q.qb {w w' : World} (h : Q w w') : Qb w w' := h
theorem Qb.q {w w' : World} (h : Qb w w') : Q w w' := h
theorem Qb.trans {a b c : World} (h : Qb a b) (k : Qb b c) : Qb a c := Q.trans h k
theorem Qb.cell {a b : World} (h : Qb a b) {p : Addr} {v : Value} (hc : a.cell? p = some v) : b.cell? p = some v := Q.cell h hc
theorem Qb.frozen {a b : World} (h : Qb a b) {p : Addr} (hp : p.block < a.heap.size) : b.frozen? p = a.frozen? p := h.2 p
theorem Qb.sz {a b : World} (h : Qb a b) : a.heap.size ≤ b.heap.size := h.1.size
theorem Qb.set {a b : World} (h : Qb a b) {p : Addr} (hp : a.heap.size ≤ p.block) (v : Value) : Qb a (b.setCell p v) := Q.set h hp v
theorem Qb.drew {a b : World} (h : Qb a b) : Qb a b.drew := Q.drew h
theorem UIs.nextB {w w' : World} {g o : Nat} {l : List Nat} (h : UIs w g o l) (q : Qb w w') : UIs w' g o l := fun i hi => q.cell (h i hi)
theorem USl.nextB {w w' : World} {v : Value} {l : List Nat} (h : USl w v l) (q : Qb w w') : USl w' v l := by
  rcases h with ⟨g, o, cap, h1, h2, h3⟩ | h
  · exact Or.inl ⟨g, o, cap, h1, h2, fun i hi => q.cell (h3 i hi)⟩
  · exact Or.inr h
theorem VR.nextB {x x' : World} {g n : Nat} {F : Nat → Value} (h : VR x g n F) (hg : g < x.heap.size) (q : Qb x x') : VR x' g n F :=
  ⟨fun i hi => q.cell (h.cell i hi), fun j => by rw [q.frozen (by exact hg)]; exact h.free j⟩

theorem setcell_id {w : World} {b o : Nat} {v : Value} (h : w.cell? ⟨b, o, none⟩ = some v) : w.setCell ⟨b, o, none⟩ v = w := by
  have hh : w.heap.modify b (fun | .cells c e f => .cells (c.setIfInBounds o v) e f | x => x) = w.heap := by
    apply Array.ext_getElem?
    intro i
    rw [Array.getElem?_modify]
    by_cases hi : b = i
    · subst hi
      rw [if_pos rfl]
      unfold World.cell? at h
      cases hb : w.heap[b]? with
      | none => rfl
      | some ob =>
        rw [hb] at h
        cases ob with
        | cells c e f =>
          simp at h
          simp only [Option.map_some]
          congr 2
          apply Array.ext_getElem?
          intro k
          rw [Array.getElem?_setIfInBounds]
          split
          · rename_i hk; subst hk
            rw [h]
            split
            · rfl
            · rename_i hx; rw [Array.getElem?_eq_none (by omega)] at h; cases h
          · rfl
        | _ => rfl
    · rw [if_neg hi]
  refine Eq.trans ?_ (congrArg (fun z => ({ w with heap := z } : World)) hh)
  unfold World.setCell
  simp
  congr 1
  all_goals (funext ob; cases ob <;> rfl)
end Go.Proofs.Ytgaolakfgjmeiab
/- A range over a function, its body writing fixed blocks and never leaving: what is between two rounds hangs on what was given. -/
namespace Go.Proofs.Ytgaolakfgjmeiab
open Go.RowKit Go.Shelf
set_option linter.unusedVariables false
set_option linter.unusedSimpArgs false

theorem Qb.put {a b : World} (h : Qb a b) {E : Nat} (hE : a.heap.size ≤ E) (o : Obj) (ho : o.isCells = false := by rfl) : Qb a (b.putObj E o) := by
  have h' : Below a.heap.size a b := h.1
  refine ⟨⟨h'.os, h'.tape, h'.output, by rw [World.putObj_size]; exact h'.size, fun c hc => (World.putObj_heap_other (by omega)).trans (h'.block c hc)⟩, fun p => ?_⟩
  rw [← h.2 p]
  by_cases e : p.block = E
  · have h1 : b.frozen? p = false := by
      rw [h.2 p]
      unfold World.frozen?
      rw [Array.getElem?_eq_none (by omega)]
    rw [h1]
    unfold World.frozen?
    rw [e]
    by_cases hl : E < b.heap.size
    · rw [World.putObj_heap_same hl]
      cases o <;> simp_all [Obj.isCells]
    · rw [Array.getElem?_eq_none (by rw [World.putObj_size]; omega)]
  · unfold World.frozen?
    rw [World.putObj_heap_other e]
theorem put_cell {b : World} {E : Nat} {o : Obj} {g j : Nat} (h : g ≠ E) : (b.putObj E o).cell? ⟨g, j, none⟩ = b.cell? ⟨g, j, none⟩ := by
  unfold World.cell?
  rw [World.putObj_heap_other (by exact h)]
theorem put_frozen {b : World} {E : Nat} {o : Obj} {g j : Nat} (h : g ≠ E) : (b.putObj E o).frozen? ⟨g, j, none⟩ = b.frozen? ⟨g, j, none⟩ := by
  unfold World.frozen?
  rw [World.putObj_heap_other (by exact h)]
theorem VR.putO {b : World} {E g n : Nat} {F : Nat → Value} (h : VR b g n F) (hg : g ≠ E) (o : Obj) : VR (b.putObj E o) g n F := ⟨fun i hi => (put_cell hg).trans (h.cell i hi), fun j => (put_frozen hg).trans (h.free j)⟩
/-- A round's end. -/
def RoundFx (D : Nat → Prop) (In : World → Prop) (W : World) (e : Exit) (a : Act) (W' : World) : Prop := e = .normal ∧ Same D W W' ∧ In W'
set_option maxHeartbeats 1000000 in
theorem range_fix {P : Program} {α : Type} {g : Operand} {ps : Array Tmp} {assign body : Code} {R : Exit → Act → World → Prop} {a : Act} {w : World}
    {gf : Nat} {lb : Array Value} (hg : a.eval g = .func (.func gf) #[] lb) (eg : ∀ args w, (callFunc gf args).run P w = .ok (.enter gf args) w)
    {Enc : α → Array Value → (Nat → Prop) → World → Prop} {xs : List α} {Rd : Nat → Prop} {Pre : World → Prop} (hit : ItC P gf lb Enc xs Rd Pre)
    (hPre : ∀ W, KeptIn (fun b => b < w.heap.size) w W → Pre W) (hRd : ∀ b, Rd b → b < w.heap.size)
    (hps : ∀ x args B W, Enc x args B W → args.size = ps.size)
    (In : List α → World → Prop) (D : Nat → Prop) (hD : ∀ b, D b → b < w.heap.size) (hDR : ∀ b, Rd b → ¬ D b)
    (hst : ∀ pre W W', In pre W → KeptIn (fun b => b < w.heap.size) W W' → In pre W') (h0 : In [] w)
    (hround : ∀ (l : Nat) (pre : List α) (x : α) (rest : List α) (W : World) (args : Array Value) (B : Nat → Prop), w.heap.size ≤ l → l < W.heap.size → xs = pre ++ x :: rest → In pre W → w.heap.size ≤ W.heap.size → Enc x args B W →
      assign.wpIn (Fence.wide.inRound l) 0 P (Exit.then (fun a₁ W₁ => Q W W₁ ∧ ∀ W₂, KeptIn (fun b => b ≠ l) W₁ W₂ → (∀ a, a.block < W₁.heap.size → W₂.frozen? a = W₁.frozen? a) → body.wpIn (Fence.wide.inRound l) 0 P (RoundFx D (In (pre ++ [x])) W₂) a₁ W₂) (fun _ _ _ => False))
        { tmps := (ps.zip args).foldl (fun t (p, v) => t.setIfInBounds p v) a.tmps, defers := [] } W)
    (hdone : ∀ (E : Nat) (W : World), w.heap.size ≤ E → W.heap[E]? = some (.deferred (some [])) → Same D w W → In xs W → R .normal { a with defers := { target := .collected E, args := #[] } :: a.defers } W) :
    (Code.rangeFunc g ps assign body).wpIn Fence.wide 0 P R a w := by
  refine range_it hg eg hit hPre hRd hps (fun C' D' pre W => C' = (fun b => b < w.heap.size) ∧ D' = D ∧ In pre W ∧ w.heap.size ≤ W.heap.size) (fun _ _ _ _ _ => False) ?_ ?_ (fun b => b < w.heap.size) D (fun b hb => hb) hD hDR ⟨rfl, rfl, h0, Nat.le_refl _⟩ ?_ ?_ ?_
  · rintro C' D' pre W W' ⟨rfl, rfl, h, hs⟩ hk
    exact ⟨rfl, rfl, hst _ _ _ h hk, Nat.le_trans hs hk.size⟩
  · intro c C' D' pre W W' h _
    exact h
  · rintro l C' D' pre x rest W args B hl hlt hnC hnB hx ⟨rfl, rfl, hi, hs⟩ hf hdc henc hB hfine
    refine wpIn_mono (hround l pre x rest W args B hl hlt hx hi hs henc) ?_
    rintro e a1 W1 hp
    cases e with
    | normal =>
      obtain ⟨hq, hp⟩ := hp
      refine ⟨hq, fun W2 hs2 hk2 => wpIn_mono (hp W2 hk2 (fun a _ => hs2.frozen a)) ?_⟩
      rintro e a3 W3 ⟨rfl, h1, h2⟩
      have hsz : w.heap.size ≤ W3.heap.size := Nat.le_trans hs (Nat.le_trans hq.1.size (Nat.le_trans hk2.size h1.size))
      exact ⟨_, _, fun b hb => Nat.lt_of_lt_of_le hb hsz, hD, h1, fun b hb => Or.inl hb, fun b hb => Or.inl hb, rfl, rfl, h2, hsz⟩
    | exit id => exact hp.elim
    | goto t => exact hp.elim
    | ret => exact hp.elim
    | panic ch => exact hp.elim
    | outgrown => exact hp.elim
  · rintro E C' D' W hE _ hd _ _ hS _ _ ⟨_, _, hi, _⟩
    exact hdone E W hE hd hS hi
  · intro E c C' D' pre W _ _ _ _ _ _ _ _ _ h
    exact h.elim
end Go.Proofs.Ytgaolakfgjmeiab
/- pyramid's number and sample. -/
namespace Go.Proofs.Ytgaolakfgjmeiab
open Go.RowKit
set_option linter.unusedVariables false
set_option linter.unusedSimpArgs false

set_option maxHeartbeats 400000 in
theorem ysample_any (x : Nat) (w : World) : Calls Try.prog 44 #[.float .f64 x] w fun e w' => e = .returned (.int .u32 (toldD (some (Ieee.double.read x)) : Nat)) ∧ Q w w' := by
  have l2 := f32bits
  rcases nar_cases x with ⟨h, o1, o2⟩ | ⟨h, g, hs, o1⟩ | ⟨h, g, hs, o1, o2⟩ | ⟨h, g, o1, o2⟩
  · have o1 : FloatKind.f64.format.order x 5183643170835005440 = none := o1
    have o2 : FloatKind.f64.format.order x 14407015207689781248 = none := o2
    have l1 := fun w => run_conv_nan (P := Try.prog) 28 45 .f64 .f32 x (by decide) (by kernel_rfl) Try.underlying45 (read64_nan h) w
    rw [nar_nan h]
    clear h
    go_enter Try.func44, Try.ntmps44
    go_wp2_with fail
    refine (made_any _ (nanc32 x _).2 _).mono ?_
    rintro e w1 ⟨rfl, q1⟩
    go_wp2_with fail
    go_ret
    exact ⟨ret_int (by rw [madeN_nan (nanc32 x _).1]), ((Q.refl _).drew.trans q1)⟩
  · rw [nar_big g h, hs, show Ieee.single.word false 2139095040 = 2139095040 from rfl]
    clear h g hs
    rcases o1 with o1 | o1
    · have o1 : FloatKind.f64.format.order x 5183643170835005440 = some .gt := o1
      go_enter Try.func44, Try.ntmps44
      go_wp2_with fail
      go_ret
      exact ⟨rfl, Q.refl _⟩
    · have o1 : FloatKind.f64.format.order x 5183643170835005440 = some .eq := o1
      go_enter Try.func44, Try.ntmps44
      go_wp2_with fail
      go_ret
      exact ⟨rfl, Q.refl _⟩
  · rw [nar_big g h, hs, show Ieee.single.word true 2139095040 = 4286578688 from rfl]
    clear h g hs
    have o1 : FloatKind.f64.format.order x 5183643170835005440 = some .lt := o1
    rcases o2 with o2 | o2
    · have o2 : FloatKind.f64.format.order x 14407015207689781248 = some .lt := o2
      go_enter Try.func44, Try.ntmps44
      go_wp2_with fail
      go_ret
      exact ⟨rfl, Q.refl _⟩
    · have o2 : FloatKind.f64.format.order x 14407015207689781248 = some .eq := o2
      go_enter Try.func44, Try.ntmps44
      go_wp2_with fail
      go_ret
      exact ⟨rfl, Q.refl _⟩
  · have o1 : FloatKind.f64.format.order x 5183643170835005440 = some .lt := o1
    have o2 : FloatKind.f64.format.order x 14407015207689781248 = some .gt := o2
    have l1 := fun w => run_convert_float_float (P := Try.prog) w 28 45 .f64 .f32 x _ (by kernel_rfl) Try.underlying45 (nar_conv g)
    have hn : Hid ((Ieee.double.read x).isNaN = false) := read64_num h
    clear h g
    go_enter Try.func44, Try.ntmps44
    go_wp2_with fail
    refine (made_any _ (write32_lt _) _).mono ?_
    rintro e w1 ⟨rfl, q1⟩
    go_wp2_with fail
    go_ret
    exact ⟨ret_int (by rw [madeN_of (nanN_write hn.out), toldD_some hn.out]), q1⟩

set_option maxHeartbeats 400000 in
theorem ynumber_any (a : Nat) (ha : a < 4294967296) (w : World) : Calls Try.prog 43 #[.int .u32 (a : Int)] w fun e w' => ∃ v, e = .returned v ∧ (∃ X, v = .float .f64 X ∧ NumX a X) ∧ Q w w' := by
  have l2 := f32from
  cases h : nanN a
  · have l1 := fun w => run_convert_float_float (P := Try.prog) w 45 28 .f32 .f64 a _ (by kernel_rfl) Try.underlying28 (wide_conv h)
    have HX : Hid (NumX a (wideN a)) := by
      refine ⟨?_, ?_⟩
      · unfold wideN; exact write64_lt _
      · have := can_wide a
        unfold wideW at this ⊢
        rw [h] at this ⊢
        exact this
    clear h
    go_enter Try.func43, Try.ntmps43
    go_wp2_with fail
    go_ret
    exact ⟨_, rfl, ⟨_, rfl, HX.out⟩, Q.refl _⟩
  · have l1 := fun w => run_conv_nan (P := Try.prog) 45 28 .f32 .f64 a (by decide) (by kernel_rfl) Try.underlying28 (read32_nan h) w
    have HX : Hid (∀ w, NumX a (nanc .f64 a w)) := fun w => by
      refine ⟨(nanc64 a w).2, ?_⟩
      unfold canW wideW
      rw [(nanc64 a w).1, h]; rfl
    clear h
    go_enter Try.func43, Try.ntmps43
    go_wp2_with fail
    go_ret
    exact ⟨_, rfl, ⟨_, rfl, HX.out _⟩, (Q.refl _).drew⟩
end Go.Proofs.Ytgaolakfgjmeiab

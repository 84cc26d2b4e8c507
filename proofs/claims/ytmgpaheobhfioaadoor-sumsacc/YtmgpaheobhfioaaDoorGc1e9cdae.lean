/- The document's Over and Mean of an exact sum, of whatever number; the statements' helper holds. -/
import Derived.Test.YtmgpaheobhfioaaDoorG5ca23ad5
import Derived.Test.YtmgpaheobhfioaaDoorG0896ea7b
import Derived.Test.YtmgpaheobhfioaaDoorGfa574f83
import Derived.Test.YtmgpaheobhfioaaDoorG53243a32
import Derived.Test.YtmgpaheobhfioaaDoorGc6c2317b
import Derived.Test.YtmgpaheobhfioaaDoorG69c79473
namespace Go.Proofs.YtmgpaheobhfioaaDoor
open Go.RowKit
set_option linter.unusedVariables false
set_option linter.unusedSimpArgs false

theorem sumV_none (d : Nat) : sumV [] d = 0 := by
  rw [sumV_fin (show metV [] < 4 by decide) d]
  rfl
set_option maxHeartbeats 2000000 in
set_option maxRecDepth 100000 in
theorem sover_gen (l : List Nat) (B : Nat) (w : World) (hS : SAt w B l) (hz : 2 * (sumZ l).natAbs < m64 ^ 5) (hn : l.length ≤ 1000000) (n : Int) :
    Calls Tryd.prog 39 #[.pointer (some ⟨B, 0, none⟩), .int .i64 n] w fun e w' => e = .returned (.tuple #[.int .u32 ((overV l n).1 : Nat), .int .i64 (overV l n).2]) ∧ Q w w' := by
  unfold overV
  by_cases h : n < 1
  · rw [if_pos (Or.inl h)]
    clear hS hz
    go_enter Tryd.func39, Tryd.ntmps39
    go_wp2_with fail
    go_ret2
    exact ⟨rfl, Q.refl _⟩
  · by_cases h2 : 4294967295 < n
    · rw [if_pos (Or.inr h2)]
      clear hS hz
      go_enter Tryd.func39, Tryd.ntmps39
      go_wp2_with fail
      go_ret2
      exact ⟨rfl, Q.refl _⟩
    · rw [if_neg (by omega)]
      obtain ⟨d, rfl⟩ : ∃ d : Nat, n = (d : Int) := ⟨n.toNat, by omega⟩
      show Calls _ _ _ _ fun e w' => e = .returned (.tuple #[.int .u32 (sumV l d : Nat), .int .i64 0]) ∧ Q w w'
      by_cases h0 : l = []
      · subst h0
        rw [sumV_none]
        obtain ⟨k0, s, p, L, C, e, m, h1, _⟩ := hS
        have d5 := h1.n
        clear h1 hz
        go_enter Tryd.func39, Tryd.ntmps39
        go_wp2_with fail
        go_ret2
        exact ⟨rfl, Q.refl _⟩
      · exact sover_any l B w hS h0 hz hn d (by omega) (by omega)
set_option maxHeartbeats 400000 in
theorem smean_doc (l : List Nat) (B : Nat) (w : World) (hS : SAt w B l) (hz : 2 * (sumZ l).natAbs < m64 ^ 5) (hn : l.length ≤ 1000000) :
    Calls Tryd.prog 38 #[.pointer (some ⟨B, 0, none⟩)] w fun e w' => e = .returned (.tuple #[.int .u32 ((overV l l.length).1 : Nat), .int .i64 (overV l l.length).2]) ∧ Q w w' := by
  have K := sover_gen l B w hS hz hn l.length
  obtain ⟨k0, s, p, L, C, e, m, h1, _⟩ := hS
  have d5 := h1.n
  clear h1 hz
  go_enter Tryd.func38, Tryd.ntmps38
  go_wp2_with fail
  refine K.mono ?_
  rintro e w1 ⟨rfl, q1⟩
  go_wp2_with fail
  go_ret2
  exact ⟨rfl, q1⟩
/-- The numbers that are asked. -/
def askL (n : Nat) : List Int := [0, 1, 3, 7 * (n : Int), 4294967295, 4294967296, -(n : Int)]
set_option maxHeartbeats 8000000 in
set_option maxRecDepth 100000 in
theorem holds_any (A : Nat) (L : List Nat) (v : Value) (w : World) (hA : AccAt w A L) (hv : USl w v L) (hb : ∀ i, L.getD i 0 < 4294967296) (hn : L.length ≤ 100000) (hT : Tab w) :
    Calls Tryd.prog 14 #[.pointer (some ⟨A, 0, none⟩), v] w fun e w' => e = .returned (.bool true) ∧ Q w w' := by
  obtain ⟨va, vc, rfl⟩ := hv.form
  have hz : 2 * (sumZ L).natAbs < m64 ^ 5 := sumZ_fits (mem_lt hb) (by omega)
  obtain ⟨N, hacc⟩ := hA
  have HO : Hid _ := sof_any (.slice va L.length vc) L w hv (by omega) hb
  have K1 : Hid (∀ x, Q w x → Calls Tryd.prog 31 #[.pointer (some ⟨A, 0, none⟩)] x fun e w' => e = .returned (.tuple #[.int .u32 ((overV L L.length).1 : Nat), .int .i64 (overV L L.length).2]) ∧ Q x w') := fun x q => amean_any L A L.length N x (hacc.next q) hz (q.tab hT)
  have K2 : Hid (∀ (B : Nat) (x : World), SAt x B L → Calls Tryd.prog 38 #[.pointer (some ⟨B, 0, none⟩)] x fun e w' => e = .returned (.tuple #[.int .u32 ((overV L L.length).1 : Nat), .int .i64 (overV L L.length).2]) ∧ Q x w') := fun B x h => smean_doc L B x h hz (by omega)
  have K3 : Hid (∀ x, Q w x → ∀ n : Int, Calls Tryd.prog 40 #[.pointer (some ⟨A, 0, none⟩), .int .i64 n] x fun e w' => e = .returned (.tuple #[.int .u32 ((overV L n).1 : Nat), .int .i64 (overV L n).2]) ∧ Q x w') := fun x q n => aover_any L A L.length N x (hacc.next q) hz (q.tab hT) n
  have K4 : Hid (∀ (B : Nat) (x : World), SAt x B L → ∀ n : Int, Calls Tryd.prog 39 #[.pointer (some ⟨B, 0, none⟩), .int .i64 n] x fun e w' => e = .returned (.tuple #[.int .u32 ((overV L n).1 : Nat), .int .i64 (overV L n).2]) ∧ Q x w') := fun B x h n => sover_gen L B x h hz (by omega) n
  have K5 : Hid (∀ x, Q w x → Calls Tryd.prog 32 #[.pointer (some ⟨A, 0, none⟩)] x fun e w' => e = .returned (.int .u32 (sumV L 1 : Nat)) ∧ Q x w') := fun x q => asum_any L A L.length N x (hacc.next q) hz (q.tab hT)
  have K6 : Hid (∀ (B : Nat) (x : World), SAt x B L → Calls Tryd.prog 41 #[.pointer (some ⟨B, 0, none⟩)] x fun e w' => e = .returned (.int .u32 (sumV L 1 : Nat)) ∧ Q x w') := fun B x h => told_any L B x h hz (by omega)
  have K7 : Hid (∀ x, Q w x → Calls Tryd.prog 33 #[.pointer (some ⟨A, 0, none⟩)] x fun e w' => e = .returned (.int .i64 (L.length : Int)) ∧ w' = x) := fun x q => acount_any A _ x (hacc.next q).c
  clear hz hacc hv hb hT
  generalize (overV L L.length).1 = m1 at *
  generalize (overV L L.length).2 = m2 at *
  generalize sumV L 1 = sm at *
  go_enter Tryd.func14, Tryd.ntmps14
  go_wp2_with fail
  refine Calls.mono HO.out ?_
  rintro e w1 ⟨rfl, hS, q1⟩
  generalize w.heap.size = B at *
  have HS1 : Hid (SAt w1 B L) := hS
  have HQ1 : Hid (Q w w1) := q1
  clear hS q1 HO
  go_wp2_with fail
  refine Calls.mono (K2.out B w1 HS1.out) ?_
  rintro e w2 ⟨rfl, q2⟩
  have HS2 : Hid (SAt w2 B L) := HS1.out.next q2
  have HQ2 : Hid (Q w w2) := HQ1.out.trans q2
  have HQ12 : Hid (Q w1 w2) := q2
  clear q2 HS1 HQ1 K2
  go_wp2_with fail
  refine Calls.mono (K1.out w2 HQ2.out) ?_
  rintro e w3 ⟨rfl, q3⟩
  have HS3 : Hid (SAt w3 B L) := HS2.out.next q3
  have HQ3 : Hid (Q w w3) := HQ2.out.trans q3
  have HQ13 : Hid (Q w1 w3) := HQ12.out.trans q3
  clear HQ12
  clear q3 HS2 HQ2 K1
  obtain ⟨w4, hw4⟩ : ∃ w4, w3.alloc (.cells #[.int .i64 0, .int .i64 1, .int .i64 3, .int .i64 (7 * (L.length : Int)), .int .i64 4294967295, .int .i64 4294967296, .int .i64 (-(L.length : Int))] 3) = w4 := ⟨_, rfl⟩
  have q4 : Q w3 w4 := by rw [← hw4]; exact (Q.refl w3).cells _ _
  have HC : Hid (∀ i, i < 7 → w4.cell? ⟨w3.heap.size, i, none⟩ = some (.int .i64 ((askL L.length).getD i 0))) := fun i hi => by
    rw [← hw4]
    match i, hi with
    | 0, _ => simp [go_sem, askL]
    | 1, _ => simp [go_sem, askL]
    | 2, _ => simp [go_sem, askL]
    | 3, _ => simp [go_sem, askL]
    | 4, _ => simp [go_sem, askL]
    | 5, _ => simp [go_sem, askL]
    | 6, _ => simp [go_sem, askL]
  have HQ4 : Hid (Q w w4 ∧ Q w1 w4) := ⟨HQ3.out.trans q4, HQ13.out.trans q4⟩
  have HS4 : Hid (SAt w4 B L) := HS3.out.next q4
  clear q4 HQ3 HS3 HQ13
  go_wp2_with fail
  clear hw4
  generalize w3.heap.size = B7 at *
  go_loopg [38] 7 (fun m s38 wr => ∃ i : Nat, s38 = .int .i64 (i : Int) ∧ i + m = 7 ∧ Hid (Q w4 wr))
  case atStart => exact ⟨0, rfl, by omega, Q.refl _⟩
  case round =>
    obtain ⟨i, rfl, hi, HX⟩ := hrel
    by_cases hlt : i < 7
    · have hki : (i : Int) < 7 := by omega
      have c7 := HX.out.cell (HC.out i hlt)
      have KA := K4.out B wr (HS4.out.next HX.out) ((askL L.length).getD i 0)
      have KB := K3.out
      have HQr : Hid (Q w wr) := HQ4.out.1.trans HX.out
      generalize (askL L.length).getD i 0 = n at *
      go_wp2_with fail
      refine Calls.mono KA ?_
      rintro e w5 ⟨rfl, q5⟩
      have HQ5 : Hid (Q w w5 ∧ Q w4 w5) := ⟨HQr.out.trans q5, HX.out.trans q5⟩
      have KC := KB w5 HQ5.out.1 n
      clear q5 KA KB HQr HX
      generalize (overV L n).1 = a1 at *
      generalize (overV L n).2 = a2 at *
      go_wp2_with fail
      refine Calls.mono KC ?_
      rintro e w6 ⟨rfl, q6⟩
      have HQ6 : Hid (Q w4 w6) := HQ5.out.2.trans q6
      clear q6 KC HQ5
      go_wp2_with fail
      go_roundg (7 - (i + 1))
      case measure => go_light; omega
      case rel => go_light; exact ⟨i + 1, by go_num, by omega, HQ6⟩
    · obtain rfl : i = 7 := by omega
      have HQ7 : Hid (Q w wr) := HQ4.out.1.trans HX.out
      have HS7 : Hid (SAt wr B L) := HS4.out.next HX.out
      clear HX
      go_wp2_with fail
      refine Calls.mono (K5.out wr HQ7.out) ?_
      rintro e w5 ⟨rfl, q5⟩
      have HQ8 : Hid (Q w w5) := HQ7.out.trans q5
      have HS8 : Hid (SAt w5 B L) := HS7.out.next q5
      clear q5 HQ7 HS7
      go_wp2_with fail
      refine Calls.mono (K6.out B w5 HS8.out) ?_
      rintro e w6 ⟨rfl, q6⟩
      have HQ9 : Hid (Q w w6) := HQ8.out.trans q6
      clear q6 HQ8 HS8
      go_wp2_with fail
      refine Calls.mono (K7.out w6 HQ9.out) ?_
      rintro e w7 ⟨rfl, hw⟩
      obtain rfl := hw.symm
      clear hw
      go_wp2_with fail
      go_ret
      exact ⟨by simp, HQ9.out⟩
end Go.Proofs.YtmgpaheobhfioaaDoor
/- Three accumulators and three lists, in memory. -/
namespace Go.Proofs.YtmgpaheobhfioaaDoor
open Go.RowKit
set_option linter.unusedVariables false
set_option linter.unusedSimpArgs false

def up {α : Type} (f : Nat → α) (k : Nat) (x : α) : Nat → α := fun j => if j = k then x else f j
theorem up_same {α : Type} (f : Nat → α) (k : Nat) (x : α) : up f k x k = x := if_pos rfl
theorem up_other {α : Type} (f : Nat → α) {k j : Nat} (x : α) (h : j ≠ k) : up f k x j = f j := if_neg h
/-- Pointers to three accumulators in one row, three lists in another one; the accumulators are of L, the lists hold X. -/
structure Tri (w0 w : World) (BA BO : Nat) (A : Nat → Nat) (L X : Nat → List Nat) (V : Nat → Value) : Prop where
  q : Q w0 w
  pa : ∀ k, k < 3 → w.cell? ⟨BA, k, none⟩ = some (.pointer (some ⟨A k, 0, none⟩))
  po : ∀ k, k < 3 → w.cell? ⟨BO, k, none⟩ = some (V k)
  fa : ∀ j, w.frozen? ⟨BA, j, none⟩ = false
  fo : ∀ j, w.frozen? ⟨BO, j, none⟩ = false
  acc : ∀ k, k < 3 → AccAt w (A k) (L k)
  us : ∀ k, k < 3 → USl w (V k) (X k)
  ll : w0.heap.size ≤ BA ∧ w0.heap.size ≤ BO
  la : ∀ k, k < 3 → w0.heap.size ≤ A k
  ab : BA ≠ BO
  aa : ∀ k, k < 3 → A k ≠ BA ∧ A k ≠ BO
  ad : ∀ j k, j < 3 → k < 3 → j ≠ k → A j ≠ A k
  lb : ∀ k, k < 3 → ∀ g o n c, V k = .slice (some ⟨g, o, none⟩) n c → 1 ≤ (X k).length → g ≠ BA ∧ g ≠ BO ∧ ∀ j, j < 3 → g ≠ A j
section
variable {w0 w w' : World} {BA BO : Nat} {A : Nat → Nat} {L X : Nat → List Nat} {V : Nat → Value}
theorem usl_blk {w w' : World} {v : Value} {S : List Nat} (h : USl w v S) (hc : ∀ g o n c i, v = .slice (some ⟨g, o, none⟩) n c → 1 ≤ S.length → w'.cell? ⟨g, i, none⟩ = w.cell? ⟨g, i, none⟩) : USl w' v S := by
  rcases h with ⟨g, o, c, e, hcap, hI⟩ | hx
  · exact Or.inl ⟨g, o, c, e, hcap, fun i hi => (hc g o _ c _ e (by omega)).trans (hI i hi)⟩
  · exact Or.inr hx
theorem acc_in {w : World} {A : Nat} {l : List Nat} (h : AccAt w A l) : A < w.heap.size := by
  obtain ⟨N, a⟩ := h
  exact World.block_lt_of_cell? _ _ a.m
theorem Tri.next (h : Tri w0 w BA BO A L X V) (q : Q w w') : Tri w0 w' BA BO A L X V :=
  ⟨h.q.trans q, fun k hk => q.cell (h.pa k hk), fun k hk => q.cell (h.po k hk), fun j => (q.2 _).trans (h.fa j), fun j => (q.2 _).trans (h.fo j), fun k hk => (h.acc k hk).next q, fun k hk => (h.us k hk).next q, h.ll, h.la, h.ab, h.aa, h.ad, h.lb⟩
theorem Tri.in (h : Tri w0 w BA BO A L X V) : BA < w.heap.size ∧ BO < w.heap.size ∧ ∀ k, k < 3 → A k < w.heap.size :=
  ⟨World.block_lt_of_cell? _ _ (h.pa 0 (by decide)), World.block_lt_of_cell? _ _ (h.po 0 (by decide)), fun k hk => acc_in (h.acc k hk)⟩
theorem Fb.cells {w w' : World} {B g i : Nat} (f : Fb B w w') (hg : g ≠ B) (hl : g < w.heap.size) : w'.cell? ⟨g, i, none⟩ = w.cell? ⟨g, i, none⟩ := World.cell?_of_block (f.block g hl hg)
theorem usl_in {w : World} {g o n c : Nat} {S : List Nat} (h : USl w (.slice (some ⟨g, o, none⟩) n c) S) (h1 : 1 ≤ S.length) : g < w.heap.size := by
  obtain ⟨g', o', c', ev, hc, hI⟩ := h.some h1
  injection ev with e _ _
  injection e with e
  injection e with e
  subst e
  exact World.block_lt_of_cell? _ _ (hI 0 h1)
/-- Samples have been added to one of them. -/
theorem Tri.add (h : Tri w0 w BA BO A L X V) {k : Nat} (hk : k < 3) (f : Fb (A k) w w') {L' : List Nat} (ha : AccAt w' (A k) L') : Tri w0 w' BA BO A (up L k L') X V := by
  obtain ⟨i1, i2, i3⟩ := h.in
  have n := h.aa k hk
  refine ⟨f.q h.q (h.la k hk), fun j hj => f.cell (h.pa j hj) (Ne.symm n.1), fun j hj => f.cell (h.po j hj) (Ne.symm n.2), fun j => (f.frz _).trans (h.fa j), fun j => (f.frz _).trans (h.fo j), fun j hj => ?_, fun j hj => ?_, h.ll, h.la, h.ab, h.aa, h.ad, h.lb⟩
  · by_cases e : j = k
    · subst e; rw [up_same]; exact ha
    · rw [up_other _ _ e]; exact (h.acc j hj).far f (h.ad j k hj hk e)
  · refine usl_blk (h.us j hj) fun g o n c i e h1 => f.cells ((h.lb j hj g o n c e h1).2.2 k hk) ?_
    have hu := h.us j hj
    rw [e] at hu
    exact usl_in hu h1
/-- Something else has been written over. -/
theorem Tri.far (h : Tri w0 w BA BO A L X V) {B : Nat} (f : Fb B w w') (h0 : w0.heap.size ≤ B) (h1 : BA ≠ B) (h2 : BO ≠ B) (h3 : ∀ k, k < 3 → A k ≠ B) (h4 : ∀ k, k < 3 → ∀ g o n c, V k = .slice (some ⟨g, o, none⟩) n c → 1 ≤ (X k).length → g ≠ B) : Tri w0 w' BA BO A L X V := by
  refine ⟨f.q h.q h0, fun j hj => f.cell (h.pa j hj) h1, fun j hj => f.cell (h.po j hj) h2, fun j => (f.frz _).trans (h.fa j), fun j => (f.frz _).trans (h.fo j), fun j hj => (h.acc j hj).far f (h3 j hj), fun j hj => ?_, h.ll, h.la, h.ab, h.aa, h.ad, h.lb⟩
  refine usl_blk (h.us j hj) fun g o n c i e hx => f.cells (h4 j hj g o n c e hx) ?_
  have hu := h.us j hj
  rw [e] at hu
  exact usl_in hu hx
/-- Another list in the row. -/
theorem Tri.row (h : Tri w0 w BA BO A L X V) {k : Nat} (hk : k < 3) {v : Value} {S : List Nat} (hu : USl w v S) (hb : ∀ g o n c, v = .slice (some ⟨g, o, none⟩) n c → 1 ≤ S.length → g ≠ BA ∧ g ≠ BO ∧ ∀ j, j < 3 → g ≠ A j) : Tri w0 (w.setCell ⟨BO, k, none⟩ v) BA BO A L (up X k S) (up V k v) := by
  have f : Fb BO w (w.setCell ⟨BO, k, none⟩ v) := (Fb.refl BO w).set rfl v
  refine ⟨f.q h.q h.ll.2, fun j hj => f.cell (h.pa j hj) h.ab, fun j hj => ?_, fun j => (f.frz _).trans (h.fa j), fun j => (f.frz _).trans (h.fo j), fun j hj => (h.acc j hj).far f (h.aa j hj).2, fun j hj => ?_, h.ll, h.la, h.ab, h.aa, h.ad, fun j hj => ?_⟩
  · by_cases e : j = k
    · subst e; rw [up_same]; exact World.cell?_setCell_same _ _ _ (h.po j hj)
    · rw [up_other _ _ e]; exact (World.cell?_setCell_other _ _ _ _ (fun x => e (by injection x with _ x; exact x.symm))).trans (h.po j hj)
  · by_cases e : j = k
    · subst e; rw [up_same, up_same]
      refine usl_blk hu fun g o n c i e h1 => f.cells (hb g o n c e h1).2.1 ?_
      rw [e] at hu
      exact usl_in hu h1
    · rw [up_other _ _ e, up_other _ _ e]
      refine usl_blk (h.us j hj) fun g o n c i e h1 => f.cells (h.lb j hj g o n c e h1).2.1 ?_
      have hu := h.us j hj
      rw [e] at hu
      exact usl_in hu h1
  · by_cases e : j = k
    · subst e; rw [up_same, up_same]; exact hb
    · rw [up_other _ _ e, up_other _ _ e]; exact h.lb j hj
/-- Another accumulator in the row. -/
theorem Tri.ptr (h : Tri w0 w BA BO A L X V) {k : Nat} (hk : k < 3) {P : Nat} {S : List Nat} (ha : AccAt w P S) (h0 : w0.heap.size ≤ P) (h1 : P ≠ BA ∧ P ≠ BO) (h2 : ∀ j, j < 3 → A j ≠ P) (h3 : ∀ j, j < 3 → ∀ g o n c, V j = .slice (some ⟨g, o, none⟩) n c → 1 ≤ (X j).length → g ≠ P) : Tri w0 (w.setCell ⟨BA, k, none⟩ (.pointer (some ⟨P, 0, none⟩))) BA BO (up A k P) (up L k S) X V := by
  have f : Fb BA w (w.setCell ⟨BA, k, none⟩ (.pointer (some ⟨P, 0, none⟩))) := (Fb.refl BA w).set rfl _
  refine ⟨f.q h.q h.ll.1, fun j hj => ?_, fun j hj => f.cell (h.po j hj) (Ne.symm h.ab), fun j => (f.frz _).trans (h.fa j), fun j => (f.frz _).trans (h.fo j), fun j hj => ?_, fun j hj => ?_, h.ll, fun j hj => ?_, h.ab, fun j hj => ?_, fun i j hi hj hne => ?_, fun j hj g o n c e hx => ?_⟩
  · by_cases e : j = k
    · subst e; rw [up_same]; exact World.cell?_setCell_same _ _ _ (h.pa j hj)
    · rw [up_other _ _ e]; exact (World.cell?_setCell_other _ _ _ _ (fun x => e (by injection x with _ x; exact x.symm))).trans (h.pa j hj)
  · by_cases e : j = k
    · subst e; rw [up_same, up_same]; exact ha.far f h1.1
    · rw [up_other _ _ e, up_other _ _ e]; exact (h.acc j hj).far f (h.aa j hj).1
  · refine usl_blk (h.us j hj) fun g o n c i e hx => f.cells (h.lb j hj g o n c e hx).1 ?_
    have hu := h.us j hj
    rw [e] at hu
    exact usl_in hu hx
  · by_cases e : j = k
    · subst e; rw [up_same]; exact h0
    · rw [up_other _ _ e]; exact h.la j hj
  · by_cases e : j = k
    · subst e; rw [up_same]; exact h1
    · rw [up_other _ _ e]; exact h.aa j hj
  · by_cases e : i = k
    · subst e
      rw [up_same, up_other _ _ (fun x => hne x.symm)]
      exact Ne.symm (h2 j hj)
    · rw [up_other _ _ e]
      by_cases e2 : j = k
      · subst e2; rw [up_same]; exact h2 i hi
      · rw [up_other _ _ e2]; exact h.ad i j hi hj hne
  · obtain ⟨a, b, c'⟩ := h.lb j hj g o n c e hx
    refine ⟨a, b, fun i hi => ?_⟩
    by_cases e2 : i = k
    · subst e2; rw [up_same]; exact h3 j hj g o n c e hx
    · rw [up_other _ _ e2]; exact c' i hi
end
end Go.Proofs.YtmgpaheobhfioaaDoor
/- Plain facts: what is told of a list of samples does not hang on their order; a sample and its negative leave it. -/
namespace Go.Proofs.YtmgpaheobhfioaaDoor
open Go.RowKit
set_option linter.unusedVariables false
set_option linter.unusedSimpArgs false

end Go.Proofs.YtmgpaheobhfioaaDoor
/- Two samples of a list change places, in whatever order the language takes. -/
namespace Go.Proofs.YtmgpaheobhfioaaDoor
open Go.RowKit
set_option linter.unusedVariables false
set_option linter.unusedSimpArgs false

section
variable {ρ : Operand → Value} {x : World} {d : Option Tmp} {ty : TypeId} {ps : String} {af : Array Edge} {gd : Option (Nat × Bool)}
end
end Go.Proofs.YtmgpaheobhfioaaDoor

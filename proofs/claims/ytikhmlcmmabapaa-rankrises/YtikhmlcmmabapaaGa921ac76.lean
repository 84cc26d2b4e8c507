/- Rows of values in memory, told by a function of the place. -/
import Derived.Test.YtikhmlcmmabapaaG1a232a06
import Derived.Test.YtikhmlcmmabapaaG4ec67552
import Derived.Test.YtikhmlcmmabapaaGabed4056
namespace Go.Proofs.Ytikhmlcmmabapaa
open Go.RowKit
set_option linter.unusedVariables false
set_option linter.unusedSimpArgs false

/-- A row of values that may be written. -/
structure VR (x : World) (g n : Nat) (F : Nat → Value) : Prop where
  cell : ∀ i, i < n → x.cell? ⟨g, i, none⟩ = some (F i)
  free : ∀ j, x.frozen? ⟨g, j, none⟩ = false
theorem VR.next {x x' : World} {g n : Nat} {F : Nat → Value} (h : VR x g n F) (q : Q x x') : VR x' g n F := ⟨fun i hi => q.cell (h.cell i hi), fun j => by rw [q.2]; exact h.free j⟩
theorem VR.other {x : World} {g n : Nat} {F : Nat → Value} (h : VR x g n F) {p : Addr} (hp : p.block ≠ g) (v : Value) : VR (x.setCell p v) g n F :=
  ⟨fun i hi => (World.cell?_setCell_other _ _ _ _ (fun e => hp (by rw [e]))).trans (h.cell i hi), fun j => by rw [World.frozen?_setCell]; exact h.free j⟩
theorem VR.put {x : World} {g n : Nat} {F G : Nat → Value} (h : VR x g n F) {i : Nat} (hi : i < n) {v : Value} (hv : G i = v) (ho : ∀ j, j < n → j ≠ i → G j = F j) : VR (x.setCell ⟨g, i, none⟩ v) g n G := by
  refine ⟨fun j hj => ?_, fun j => by rw [World.frozen?_setCell]; exact h.free j⟩
  by_cases e : j = i
  · subst e; rw [hv]; exact World.cell?_setCell_same _ _ _ (h.cell j hi)
  · rw [ho j hj e]
    exact (World.cell?_setCell_other _ _ _ _ (fun k => e (by injection k with _ k; exact k.symm))).trans (h.cell j hj)
theorem VR.congr {x : World} {g n : Nat} {F G : Nat → Value} (h : VR x g n F) (hG : ∀ j, j < n → G j = F j) : VR x g n G := ⟨fun i hi => by rw [hG i hi]; exact h.cell i hi, h.free⟩
theorem VR.lt {x : World} {g n : Nat} {F : Nat → Value} (h : VR x g n F) (hn : 1 ≤ n) : g < x.heap.size := World.block_lt_of_cell? _ _ (h.cell 0 hn)
/-- What lies there by now. -/
def sofar (L : Nat → Value) (z : Value) (k : Nat) (j : Nat) : Value := if j < k then L j else z
theorem sofar_zero (L : Nat → Value) (z : Value) : sofar L z 0 = fun _ => z := by funext j; unfold sofar; rw [if_neg (by omega)]
theorem sofar_step {L : Nat → Value} {z : Value} {k n : Nat} : (∀ j, j < n → j ≠ k → sofar L z (k + 1) j = sofar L z k j) ∧ sofar L z (k + 1) k = L k := by
  refine ⟨fun j hj he => ?_, by unfold sofar; rw [if_pos (by omega)]⟩
  unfold sofar
  by_cases h : j < k
  · rw [if_pos h, if_pos (by omega)]
  · rw [if_neg h, if_neg (by omega)]
theorem sofar_all {L : Nat → Value} {z : Value} {n j : Nat} (h : j < n) : sofar L z n j = L j := by unfold sofar; rw [if_pos h]
theorem VR.fill {x : World} {g n k : Nat} {L : Nat → Value} {z v : Value} (h : VR x g n (sofar L z k)) (hk : k < n) (hv : v = L k) : VR (x.setCell ⟨g, k, none⟩ v) g n (sofar L z (k + 1)) :=
  h.put hk (by rw [hv]; exact (sofar_step (n := n)).2) (sofar_step (n := n)).1
theorem VR.full {x : World} {g n : Nat} {L : Nat → Value} {z : Value} (h : VR x g n (sofar L z n)) : VR x g n L := h.congr fun j hj => (sofar_all hj).symm
theorem made_vr {z : Value} (hz : z.cells = #[z]) (e : TypeId) (n : Nat) (w : World) : VR (w.alloc (.cells (madeCells z.cells (n * 1)) e)) w.heap.size n (fun _ => z) := by
  have hb : (w.alloc (.cells (madeCells z.cells (n * 1)) e)).heap[w.heap.size]? = some (.cells (madeCells z.cells (n * 1)) e (0, 0)) := heap_alloc_new w _
  refine ⟨fun j hj => ?_, fun j => frozen_of_row _ _ _ _ _ hb⟩
  rw [cell_of_row _ _ j _ e (0, 0) hb]
  unfold madeCells
  rw [hz]
  simp [hj, Nat.mod_one]
theorem intInfoV : ∃ i, Try.prog.info? 3 = some i ∧ i.size = 1 ∧ i.bytes = 8 ∧ i.zero = some (.int .i64 0) := info_of (by kernel_rfl) (by kernel_rfl)
theorem u32InfoV : ∃ i, Try.prog.info? 38 = some i ∧ i.size = 1 ∧ i.bytes = 4 ∧ i.zero = some (.int .u32 0) := info_of (by kernel_rfl) (by kernel_rfl)
theorem make_vi (n : Nat) (hn : n ≤ 1048576) : ∃ M : Array Value, (∀ w : World, (Instr.makeSlice 68 (.int .i64 (n : Int)) (.int .i64 (n : Int))).run Try.prog w = .ok (.slice (some ⟨w.heap.size, 0, none⟩) n n) (w.alloc (.cells M 3))) ∧
    ∀ w : World, VR (w.alloc (.cells M 3)) w.heap.size n (fun _ => .int .i64 0) := by
  obtain ⟨i, i1, i2, i3, i4⟩ := intInfoV
  refine ⟨madeCells (Value.int .i64 0).cells (n * 1), fun w => ?_, fun w => made_vr rfl _ n w⟩
  have := run_make (P := Try.prog) w 68 3 i _ Try.underlying68 i1 i4 .i64 .i64 n n (by omega) (by omega) (by rw [i3]; omega) (by omega)
  rw [i2] at this
  simp only [Int.toNat_natCast] at this
  exact this
theorem make_vu (n : Nat) (hn : n ≤ 1048576) : ∃ M : Array Value, (∀ w : World, (Instr.makeSlice 22 (.int .i64 (n : Int)) (.int .i64 (n : Int))).run Try.prog w = .ok (.slice (some ⟨w.heap.size, 0, none⟩) n n) (w.alloc (.cells M 38))) ∧
    ∀ w : World, VR (w.alloc (.cells M 38)) w.heap.size n (fun _ => .int .u32 0) := by
  obtain ⟨i, i1, i2, i3, i4⟩ := u32InfoV
  refine ⟨madeCells (Value.int .u32 0).cells (n * 1), fun w => ?_, fun w => made_vr rfl _ n w⟩
  have := run_make (P := Try.prog) w 22 38 i _ Try.underlying22 i1 i4 .i64 .i64 n n (by omega) (by omega) (by rw [i3]; omega) (by omega)
  rw [i2] at this
  simp only [Int.toNat_natCast] at this
  exact this
end Go.Proofs.Ytikhmlcmmabapaa
/- Worlds in which what was there is as it was. (Out of RkD.) -/
namespace Go.Proofs.Ytikhmlcmmabapaa
open Go.RowKit
set_option linter.unusedVariables false
set_option linter.unusedSimpArgs false

/-- What was there is as it was; of what is new nothing is said. -/
def Qb (w w' : World) : Prop := Below w.heap.size w w'
theorem Qb.refl (w : World) : Qb w w := Below.refl _ _
theorem Q.qb {w w' : World} (h : Q w w') : Qb w w' := h.1
theorem Qb.trans {a b c : World} (h : Qb a b) (k : Qb b c) : Qb a c := Below.trans h (Below.mono k h.size)
theorem Qb.cell {a b : World} (h : Qb a b) {p : Addr} {v : Value} (hc : a.cell? p = some v) : b.cell? p = some v := by
  have h' : Below a.heap.size a b := h
  rw [h'.cell (World.block_lt_of_cell? _ _ hc)]; exact hc
theorem Qb.frozen {a b : World} (h : Qb a b) {p : Addr} (hp : p.block < a.heap.size) : b.frozen? p = a.frozen? p := by
  have h' : Below a.heap.size a b := h
  exact h'.frozen hp
theorem Qb.sz {a b : World} (h : Qb a b) : a.heap.size ≤ b.heap.size := h.size
theorem Qb.set {a b : World} (h : Qb a b) {p : Addr} (hp : a.heap.size ≤ p.block) (v : Value) : Qb a (b.setCell p v) := Below.setCell h hp v
theorem Qb.alloc {a b : World} (h : Qb a b) (o : Obj) : Qb a (b.alloc o) := Below.alloc h h.sz o
theorem Qb.drew {a b : World} (h : Qb a b) : Qb a b.drew := Below.drew h
theorem UIs.nextB {w w' : World} {g o : Nat} {l : List Nat} (h : UIs w g o l) (q : Qb w w') : UIs w' g o l := fun i hi => q.cell (h i hi)
theorem USl.nextB {w w' : World} {v : Value} {l : List Nat} (h : USl w v l) (q : Qb w w') : USl w' v l := by
  rcases h with ⟨g, o, cap, h1, h2, h3⟩ | h
  · exact Or.inl ⟨g, o, cap, h1, h2, fun i hi => q.cell (h3 i hi)⟩
  · exact Or.inr h
theorem VR.nextB {x x' : World} {g n : Nat} {F : Nat → Value} (h : VR x g n F) (hg : g < x.heap.size) (q : Qb x x') : VR x' g n F :=
  ⟨fun i hi => q.cell (h.cell i hi), fun j => by rw [q.frozen (by exact hg)]; exact h.free j⟩

theorem setcell_id {w : World} {b o : Nat} {v : Value} (h : w.cell? ⟨b, o, none⟩ = some v) : w.setCell ⟨b, o, none⟩ v = w := by
  have hh : w.heap.modify b (fun | .cells c e f => .cells (c.setIfInBounds o v) e f | x => x) = w.heap := by
    apply Array.ext_getElem?
    intro i
    rw [Array.getElem?_modify]
    by_cases hi : b = i
    · subst hi
      rw [if_pos rfl]
      unfold World.cell? at h
      cases hb : w.heap[b]? with
      | none => rfl
      | some ob =>
        rw [hb] at h
        cases ob with
        | cells c e f =>
          simp at h
          simp only [Option.map_some]
          congr 2
          apply Array.ext_getElem?
          intro k
          rw [Array.getElem?_setIfInBounds]
          split
          · rename_i hk; subst hk
            rw [h]
            split
            · rfl
            · rename_i hx; rw [Array.getElem?_eq_none (by omega)] at h; cases h
          · rfl
        | _ => rfl
    · rw [if_neg hi]
  refine Eq.trans ?_ (congrArg (fun z => ({ w with heap := z } : World)) hh)
  unfold World.setCell
  simp
  congr 1
  all_goals (funext ob; cases ob <;> rfl)
end Go.Proofs.Ytikhmlcmmabapaa
/- rank: which places stand for those that windows reach. -/
namespace Go.Proofs.Ytikhmlcmmabapaa
open Go.RowKit
set_option linter.unusedVariables false
set_option linter.unusedSimpArgs false

set_option maxHeartbeats 4000000 in
set_option maxRecDepth 100000 in
theorem within_any (k L P : Nat) (first : Int) (hk : k = 1 ∨ k = 2 ∨ k = 3) (hL : 1 ≤ L) (hL2 : L ≤ 1024) (hf : -10000 ≤ first) (hf2 : first ≤ 10000) (hP1 : 1 ≤ P) (hP2 : P ≤ 5000) (w : World) :
    Calls Try.prog 51 #[.int .i64 (k : Int), .int .i64 (L : Int), .int .i64 first, .int .i64 (P : Int)] w fun e w' => ∃ v, e = .returned v ∧ (∃ g, v = .slice (some ⟨g, 0, none⟩) P P ∧ VR w' g P (fun i => .int .i64 (borV k L (first + (i : Int)))) ∧ w.heap.size ≤ g ∧ g < w'.heap.size) ∧ Q w w' := by
  have HC : Hid (∀ (i : Int) (x : World), Calls Try.prog 35 #[.int .i64 (k : Int), .int .i64 (L : Int), .int .i64 i] x fun e w' => e = .returned (.tuple #[.int .i64 (borV k L i), .int .i64 0]) ∧ w' = x) := fun i x => by
    have := border_any k L i x
    have hk' : (k : Int) = 1 ∨ (k : Int) = 2 ∨ (k : Int) = 3 := by omega
    have hs : sideB (L : Int) = true := by unfold sideB; simp; omega
    unfold borA borE at this
    rw [if_pos hk', if_pos hs, if_pos hk', if_pos hs] at this
    exact this
  obtain ⟨M, hM, hV⟩ := make_vi P (by omega)
  have hMw := hM w
  have hVw := hV w
  have HQ2 : Hid (Q w (w.alloc (.cells M 3))) := (Q.refl w).cells _ _
  generalize w.alloc (.cells M 3) = w2 at hMw hVw HQ2
  have HV : Hid (VR w2 w.heap.size P (sofar (fun i => .int .i64 (borV k L (first + (i : Int)))) (.int .i64 0) 0) ∧ Q w w2) := by
    refine ⟨?_, HQ2.out⟩
    rw [sofar_zero]; exact hVw
  clear hM hV hVw HQ2
  go_enter Try.func51, Try.ntmps51
  go_wp2_with fail
  go_loopg [10, 14] P (fun m s6 s15 wr => ∃ i : Nat, s15 = .int .i64 (i : Int) ∧ i + m = P ∧ Hid (VR wr w.heap.size P (sofar (fun i => .int .i64 (borV k L (first + (i : Int)))) (.int .i64 0) i) ∧ Q w wr))
  case atStart => exact ⟨0, rfl, by omega, HV⟩
  case round =>
    clear HV
    obtain ⟨i, rfl, hi, HX⟩ := hrel
    by_cases hlt : i < P
    · have hlt' : (i : Int) < (P : Int) := by omega
      obtain ⟨u, hu⟩ : ∃ u, wr.cell? ⟨w.heap.size, i, none⟩ = some u := ⟨_, HX.out.1.cell i hlt⟩
      have fu := HX.out.1.free i
      have C := HC.out (first + (i : Int)) wr
      have HY : Hid (VR (wr.setCell ⟨w.heap.size, i, none⟩ (.int .i64 (borV k L (first + (i : Int))))) w.heap.size P (sofar (fun i => .int .i64 (borV k L (first + (i : Int)))) (.int .i64 0) (i + 1)) ∧ Q w (wr.setCell ⟨w.heap.size, i, none⟩ (.int .i64 (borV k L (first + (i : Int)))))) := ⟨HX.out.1.fill hlt rfl, HX.out.2.set (Nat.le_refl _) _⟩
      obtain ⟨z, hz⟩ : ∃ z, borV k L (first + (i : Int)) = z := ⟨_, rfl⟩
      rw [hz] at C HY
      clear hz
      go_wp2_with fail
      refine C.mono ?_
      rintro e w5 ⟨rfl, hw5⟩
      obtain rfl := hw5.symm
      clear hw5 C
      go_wp2_with fail
      generalize wr.setCell ⟨w.heap.size, i, none⟩ (.int .i64 z) = w8 at HY ⊢
      go_roundg (P - (i + 1))
      case measure => go_light; omega
      case rel => go_light; exact ⟨i + 1, by go_num, by omega, HY⟩
    · obtain rfl : i = P := by omega
      have hge : ¬ (i : Int) < (i : Int) := by omega
      go_wp2_with fail
      go_ret
      exact ⟨_, rfl, ⟨w.heap.size, rfl, HX.out.1.full, Nat.le_refl _, HX.out.1.lt hP1⟩, HX.out.2⟩
end Go.Proofs.Ytikhmlcmmabapaa
/- rank: a view. -/
namespace Go.Proofs.Ytikhmlcmmabapaa
open Go.RowKit
set_option linter.unusedVariables false
set_option linter.unusedSimpArgs false

/-- A view as a value. -/
def vwV (pa pb : Nat) (sv : Value) (g1 n1 g2 n2 : Nat) : Value := .agg #[.int .i64 (pa : Int), .int .i64 (pb : Int), sv, .slice (some ⟨g1, 0, none⟩) n1 n1, .slice (some ⟨g2, 0, none⟩) n2 n2]

theorem run_bview {ρ : Operand → Value} {x : World} {d : Option Tmp} {ty : TypeId} {ps : String} {af : Array Edge} {g : Option (Nat × Bool)} {i j k : Nat} {pa pb : Int} {g1 n1 g2 n2 gs os sl cs : Nat} (h : ρ (.tmp i) = .agg #[.int .i64 pa, .int .i64 pb, .slice (some ⟨gs, os, none⟩) sl cs]) (h' : ρ (.tmp j) = .slice (some ⟨g1, 0, none⟩) n1 n1) (h2 : ρ (.tmp k) = .slice (some ⟨g2, 0, none⟩) n2 n2) : (execOp ρ { dst := d, op := .build 70 #[(0, .tmp i), (1, .tmp j), (2, .tmp k)], type := ty, pos := ps, after := af, guard := g }).run Try.prog x = .ok (.value (.agg #[.int .i64 pa, .int .i64 pb, .slice (some ⟨gs, os, none⟩) sl cs, .slice (some ⟨g1, 0, none⟩) n1 n1, .slice (some ⟨g2, 0, none⟩) n2 n2])) x := by
  simp [execOp, h, h', h2, go_sem]
/-- A view in a box. -/
structure Vwb (x : World) (b pa pb : Nat) (sv : Value) (g1 n1 g2 n2 : Nat) : Prop where
  c0 : x.cell? ⟨b, 0, none⟩ = some (.int .i64 (pa : Int))
  c1 : x.cell? ⟨b, 1, none⟩ = some (.int .i64 (pb : Int))
  c2 : x.cell? ⟨b, 2, none⟩ = some sv
  c3 : x.cell? ⟨b, 3, none⟩ = some (.slice (some ⟨g1, 0, none⟩) n1 n1)
  c4 : x.cell? ⟨b, 4, none⟩ = some (.slice (some ⟨g2, 0, none⟩) n2 n2)
theorem Vwb.nextB {x x' : World} {b pa pb : Nat} {sv : Value} {g1 n1 g2 n2 : Nat} (h : Vwb x b pa pb sv g1 n1 g2 n2) (q : Qb x x') : Vwb x' b pa pb sv g1 n1 g2 n2 := ⟨q.cell h.c0, q.cell h.c1, q.cell h.c2, q.cell h.c3, q.cell h.c4⟩
/-- Five cells written. -/
def put5 (x : World) (b : Nat) (v0 v1 v2 v3 v4 : Value) : World := ((((x.setCell ⟨b, 0, none⟩ v0).setCell ⟨b, 1, none⟩ v1).setCell ⟨b, 2, none⟩ v2).setCell ⟨b, 3, none⟩ v3).setCell ⟨b, 4, none⟩ v4
theorem put5_vwb {x : World} {b pa pb : Nat} {sv : Value} {g1 n1 g2 n2 : Nat} (hc : ∀ j, j < 5 → ∃ u, x.cell? ⟨b, j, none⟩ = some u) : Vwb (put5 x b (.int .i64 (pa : Int)) (.int .i64 (pb : Int)) sv (.slice (some ⟨g1, 0, none⟩) n1 n1) (.slice (some ⟨g2, 0, none⟩) n2 n2)) b pa pb sv g1 n1 g2 n2 := by
  obtain ⟨u0, h0⟩ := hc 0 (by omega)
  obtain ⟨u1, h1⟩ := hc 1 (by omega)
  obtain ⟨u2, h2⟩ := hc 2 (by omega)
  obtain ⟨u3, h3⟩ := hc 3 (by omega)
  obtain ⟨u4, h4⟩ := hc 4 (by omega)
  unfold put5
  constructor <;> simp [go_sem, h0, h1, h2, h3, h4]
theorem put5_set {w x : World} {b : Nat} (h : Q w x) (hb : w.heap.size ≤ b) (v0 v1 v2 v3 v4 : Value) : Q w (put5 x b v0 v1 v2 v3 v4) :=
  ((((h.set (p := ⟨b, 0, none⟩) hb v0).set (p := ⟨b, 1, none⟩) hb v1).set (p := ⟨b, 2, none⟩) hb v2).set (p := ⟨b, 3, none⟩) hb v3).set (p := ⟨b, 4, none⟩) hb v4
theorem put5_vr {x : World} {g n b : Nat} {F : Nat → Value} (h : VR x g n F) (hb : b ≠ g) (v0 v1 v2 v3 v4 : Value) : VR (put5 x b v0 v1 v2 v3 v4) g n F :=
  ((((h.other (p := ⟨b, 0, none⟩) hb v0).other (p := ⟨b, 1, none⟩) hb v1).other (p := ⟨b, 2, none⟩) hb v2).other (p := ⟨b, 3, none⟩) hb v3).other (p := ⟨b, 4, none⟩) hb v4
theorem put5_size (x : World) (b : Nat) (v0 v1 v2 v3 v4 : Value) : (put5 x b v0 v1 v2 v3 v4).heap.size = x.heap.size := by simp [put5, World.setCell]
theorem run_stview {ρ : Operand → Value} {x : World} {d : Option Tmp} {ty : TypeId} {ps : String} {af : Array Edge} {g : Option (Nat × Bool)} {i j b : Nat} {pa pb : Int} {g1 n1 g2 n2 gs os sl cs : Nat} (h : ρ (.tmp i) = .pointer (some ⟨b, 0, none⟩)) (h' : ρ (.tmp j) = .agg #[.int .i64 pa, .int .i64 pb, .slice (some ⟨gs, os, none⟩) sl cs, .slice (some ⟨g1, 0, none⟩) n1 n1, .slice (some ⟨g2, 0, none⟩) n2 n2]) (hc : ∀ j, j < 5 → ∃ u, x.cell? ⟨b, j, none⟩ = some u) (hf : ∀ j, x.frozen? ⟨b, j, none⟩ = false) :
    (execOp ρ { dst := d, op := .store 70 (.tmp i) (.tmp j), type := ty, pos := ps, after := af, guard := g }).run Try.prog x = .ok .skip (put5 x b (.int .i64 pa) (.int .i64 pb) (.slice (some ⟨gs, os, none⟩) sl cs) (.slice (some ⟨g1, 0, none⟩) n1 n1) (.slice (some ⟨g2, 0, none⟩) n2 n2)) := by
  obtain ⟨u0, h0⟩ := hc 0 (by omega)
  obtain ⟨u1, h1⟩ := hc 1 (by omega)
  obtain ⟨u2, h2⟩ := hc 2 (by omega)
  obtain ⟨u3, h3⟩ := hc 3 (by omega)
  obtain ⟨u4, h4⟩ := hc 4 (by omega)
  have f0 := hf 0
  have f1 := hf 1
  have f2 := hf 2
  have f3 := hf 3
  have f4 := hf 4
  simp [execOp, h, h', go_sem, h0, h1, h2, h3, h4, f0, f1, f2, f3, f4, put5]

set_option maxHeartbeats 8000000 in
set_option maxRecDepth 100000 in
theorem viewof_any (k pa pb W H x0 y0 c d n1 n2 gs os sl cs : Nat) (w : World) (hk : k = 1 ∨ k = 2 ∨ k = 3) (ha : 1 ≤ pa) (ha2 : pa ≤ 1024) (hb : 1 ≤ pb) (hb2 : pb ≤ 1024) (hW : 1 ≤ W) (hW2 : W ≤ 15) (hH : 1 ≤ H) (hH2 : H ≤ 15) (hx : x0 ≤ 1024) (hy : y0 ≤ 1024) (hc : 1 ≤ c) (hc2 : c ≤ 1024) (hd : 1 ≤ d) (hd2 : d ≤ 1024) (hn1 : n1 + 1 = c + W) (hn2 : n2 + 1 = d + H) :
    Calls Try.prog 37 #[.agg #[.int .i64 (pa : Int), .int .i64 (pb : Int), .slice (some ⟨gs, os, none⟩) sl cs], .int .i64 (k : Int), .int .i64 (W : Int), .int .i64 (H : Int), .agg #[.int .i64 (x0 : Int), .int .i64 (y0 : Int), .int .i64 ((x0 + c : Nat) : Int), .int .i64 ((y0 + d : Nat) : Int)]] w fun e w' => ∃ g1 g2, e = .returned (vwV pa pb (.slice (some ⟨gs, os, none⟩) sl cs) g1 n1 g2 n2) ∧ VR w' g1 n1 (fun i => .int .i64 (borV k pa ((x0 : Int) - (W / 2 : Nat) + (i : Int)))) ∧ VR w' g2 n2 (fun i => .int .i64 (borV k pb ((y0 : Int) - (H / 2 : Nat) + (i : Int)))) ∧ w.heap.size ≤ g1 ∧ w.heap.size ≤ g2 ∧ g1 < w'.heap.size ∧ g2 < w'.heap.size ∧ Q w w' := by
  obtain ⟨x1, hx1⟩ : ∃ x1, x0 + c = x1 := ⟨_, rfl⟩
  obtain ⟨y1, hy1⟩ : ∃ y1, y0 + d = y1 := ⟨_, rfl⟩
  rw [hx1, hy1]
  have eW : Int.tdiv (W : Int) 2 = ((W / 2 : Nat) : Int) := rfl
  have eH : Int.tdiv (H : Int) 2 = ((H / 2 : Nat) : Int) := rfl
  obtain ⟨W2, hW2'⟩ : ∃ W2, W / 2 = W2 := ⟨_, rfl⟩
  obtain ⟨H2, hH2'⟩ : ∃ H2, H / 2 = H2 := ⟨_, rfl⟩
  rw [hW2'] at eW ⊢
  rw [hH2'] at eH ⊢
  have b1 : W2 ≤ 7 := by omega
  have b2 : H2 ≤ 7 := by omega
  have e1 : (x1 : Int) - (x0 : Int) = (c : Int) := by omega
  have e2 : (y1 : Int) - (y0 : Int) = (d : Int) := by omega
  have e3 : (c : Int) + (W : Int) - 1 = (n1 : Int) := by omega
  have e4 : (d : Int) + (H : Int) - 1 = (n2 : Int) := by omega
  have b3 : x1 ≤ 2048 := by omega
  have b4 : y1 ≤ 2048 := by omega
  obtain ⟨fx, hfx⟩ : ∃ fx : Int, (x0 : Int) - (W2 : Int) = fx := ⟨_, rfl⟩
  obtain ⟨fy, hfy⟩ : ∃ fy : Int, (y0 : Int) - (H2 : Int) = fy := ⟨_, rfl⟩
  rw [hfx, hfy]
  have b5 : -10000 ≤ fx := by omega
  have b6 : fx ≤ 10000 := by omega
  have b7 : -10000 ≤ fy := by omega
  have b8 : fy ≤ 10000 := by omega
  have b9 : n1 ≤ 5000 := by omega
  have b10 : n2 ≤ 5000 := by omega
  have b11 : 1 ≤ n1 := by omega
  have b12 : 1 ≤ n2 := by omega
  have HC1 : Hid _ := fun x => within_any k pa n1 fx hk ha ha2 b5 b6 b11 b9 x
  have HC2 : Hid _ := fun x => within_any k pb n2 fy hk hb hb2 b7 b8 b12 b10 x
  have HV : Hid ((IntKind.i64.wrap (W2 : Int) = (W2 : Int) ∧ IntKind.i64.wrap (c : Int) = (c : Int) ∧ IntKind.i64.wrap ((x0 : Int) - (W2 : Int)) = fx ∧ IntKind.i64.wrap ((c : Int) + (W : Int)) = (c : Int) + (W : Int) ∧ IntKind.i64.wrap ((c : Int) + (W : Int) - 1) = (n1 : Int)) ∧ IntKind.i64.wrap (H2 : Int) = (H2 : Int) ∧ IntKind.i64.wrap (d : Int) = (d : Int) ∧ IntKind.i64.wrap ((y0 : Int) - (H2 : Int)) = fy ∧ IntKind.i64.wrap ((d : Int) + (H : Int)) = (d : Int) + (H : Int) ∧ IntKind.i64.wrap ((d : Int) + (H : Int) - 1) = (n2 : Int)) := by
    refine ⟨⟨?_, ?_, ?_, ?_, ?_⟩, ?_, ?_, ?_, ?_, ?_⟩ <;> rw [IntKind.wrap_i64] <;> omega
  clear hfx hfy e3 e4
  obtain ⟨w1, hw1⟩ : ∃ w1, (w.alloc (.cells #[.int .i64 (pa : Int), .int .i64 (pb : Int), .slice (some ⟨gs, os, none⟩) sl cs] 24)).alloc (.cells #[.int .i64 (x0 : Int), .int .i64 (y0 : Int), .int .i64 (x1 : Int), .int .i64 (y1 : Int)] 45) = w1 := ⟨_, rfl⟩
  obtain ⟨w2, hw2⟩ : ∃ w2, w1.alloc (.cells #[.int .i64 0, .int .i64 0, .slice none 0 0, .slice none 0 0, .slice none 0 0] 70) = w2 := ⟨_, rfl⟩
  have hsz : w1.heap.size = w.heap.size + 2 := by rw [← hw1]; simp
  have q1 : Q w w1 := by rw [← hw1]; exact ((Q.refl w).cells _ _).cells _ _
  have q2 : Q w1 w2 := by rw [← hw2]; exact (Q.refl w1).cells _ _
  have p0 : w2.cell? ⟨w.heap.size, 0, none⟩ = some (.int .i64 (pa : Int)) := q2.cell (by rw [← hw1]; simp [go_sem])
  have p1 : w2.cell? ⟨w.heap.size, 1, none⟩ = some (.int .i64 (pb : Int)) := q2.cell (by rw [← hw1]; simp [go_sem])
  have p2 : w2.cell? ⟨w.heap.size, 2, none⟩ = some (.slice (some ⟨gs, os, none⟩) sl cs) := q2.cell (by rw [← hw1]; simp [go_sem])
  have r0 : w2.cell? ⟨w.heap.size + 1, 0, none⟩ = some (.int .i64 (x0 : Int)) := q2.cell (by rw [← hw1]; simp [go_sem])
  have r1 : w2.cell? ⟨w.heap.size + 1, 1, none⟩ = some (.int .i64 (y0 : Int)) := q2.cell (by rw [← hw1]; simp [go_sem])
  have r2 : w2.cell? ⟨w.heap.size + 1, 2, none⟩ = some (.int .i64 (x1 : Int)) := q2.cell (by rw [← hw1]; simp [go_sem])
  have r3 : w2.cell? ⟨w.heap.size + 1, 3, none⟩ = some (.int .i64 (y1 : Int)) := q2.cell (by rw [← hw1]; simp [go_sem])
  have HB : Hid ((∀ j, j < 5 → ∃ u, w2.cell? ⟨w1.heap.size, j, none⟩ = some u) ∧ (∀ j, w2.frozen? ⟨w1.heap.size, j, none⟩ = false) ∧ Q w w2 ∧ w.heap.size ≤ w1.heap.size) := by
    refine ⟨fun j hj => ?_, fun j => by rw [← hw2]; simp [go_sem], q1.trans q2, by omega⟩
    rw [← hw2]
    rcases j with _ | _ | _ | _ | _ | j
    · exact ⟨_, by simp [go_sem]; rfl⟩
    · exact ⟨_, by simp [go_sem]; rfl⟩
    · exact ⟨_, by simp [go_sem]; rfl⟩
    · exact ⟨_, by simp [go_sem]; rfl⟩
    · exact ⟨_, by simp [go_sem]; rfl⟩
    · omega
  clear q1 q2 hsz
  have n0 := qw_some w2
  have f0 := qw_cell p0
  have f1 := qw_cell p1
  have f2 := qw_cell p2
  have f3 := qw_cell r0
  have f4 := qw_cell r1
  have f5 := qw_cell r2
  have f6 := qw_cell r3
  clear p0 p1 p2 r0 r1 r2 r3 hx1 hy1 hW2' hH2'
  go_enter Try.func37, Try.ntmps37
  go_wp2_with fail
  refine wp_region_mk [0, 1, 2, 3, 4, 5, 6, 7, 8, 9, 10, 11, 12, 13, 14, 15, 16, 18, 19, 20, 21, 22, 23, 24, 25, 26, 27, 28, 29, 30, 31, 32, 33] [[17, 34, 35, 36]] 4 _ (by kernel_rfl) (by kernel_rfl) rfl (by kernel_rfl) ?_
  simp only [List.filterMap_cons, List.filterMap_nil, List.getElem?_cons_zero, List.getElem?_cons_succ]
  repeat (first | go_big_quiet_step (fail) | quiet_step (fail))
  refine wpQuiet_nil ?_
  intro x5 hx5
  clear f0 f1 f2 f3 f4 f5 f6 n0
  obtain ⟨⟨v1, v2, v3, v4, v5⟩, u1, u2, u3, u4, u5⟩ := HV.out
  simp only [v1, v2, v3, v4, v5, u1, u2, u3, u4, u5]
  refine tree_call 17 (by kernel_rfl) rfl (run_fn 51 #[.tmp 12, .tmp 14, .tmp 19, .tmp 27] _ rfl (fun _ _ => rfl) (vs := #[.int .i64 (k : Int), .int .i64 (pa : Int), .int .i64 fx, .int .i64 (n1 : Int)]) (by kernel_rfl)) (G := fun v x' => (∃ g, v = .slice (some ⟨g, 0, none⟩) n1 n1 ∧ VR x' g n1 (fun i => .int .i64 (borV k pa (fx + (i : Int)))) ∧ x5.heap.size ≤ g ∧ g < x'.heap.size) ∧ Q x5 x') (HC1.out x5) ?_
  rintro vq x6 ⟨⟨g1, rfl, V1, l1, l1'⟩, q6⟩
  refine ⟨hx5.trans q6, ?_⟩
  refine tree_call 34 (by kernel_rfl) rfl (run_fn 51 #[.tmp 29, .tmp 31, .tmp 36, .tmp 44] _ rfl (fun _ _ => rfl) (vs := #[.int .i64 (k : Int), .int .i64 (pb : Int), .int .i64 fy, .int .i64 (n2 : Int)]) (by kernel_rfl)) (G := fun v x' => (∃ g, v = .slice (some ⟨g, 0, none⟩) n2 n2 ∧ VR x' g n2 (fun i => .int .i64 (borV k pb (fy + (i : Int)))) ∧ x6.heap.size ≤ g ∧ g < x'.heap.size) ∧ Q x6 x') (HC2.out x6) ?_
  rintro vq x7 ⟨⟨g2, rfl, V2, l2, l2'⟩, q7⟩
  refine ⟨hx5.trans (q6.trans q7), ?_⟩
  have hq7 : Q w2 x7 := hx5.trans (q6.trans q7)
  refine tree_run 35 (by kernel_rfl) rfl (v := vwV pa pb (.slice (some ⟨gs, os, none⟩) sl cs) g1 n1 g2 n2) (x' := x7) (run_bview (by kernel_rfl) (by kernel_rfl) (by kernel_rfl)) hq7 ?_
  have hc7 : ∀ j, j < 5 → ∃ u, x7.cell? ⟨w1.heap.size, j, none⟩ = some u := fun j hj => by
    obtain ⟨u, hu⟩ := HB.out.1 j hj
    exact ⟨u, hq7.cell hu⟩
  have hf7 : ∀ j, x7.frozen? ⟨w1.heap.size, j, none⟩ = false := fun j => by rw [hq7.2]; exact HB.out.2.1 j
  refine tree_skipF 36 (by kernel_rfl) rfl (by kernel_rfl) (run_stview (b := w1.heap.size) (pa := (pa : Int)) (pb := (pb : Int)) (g1 := g1) (n1 := n1) (g2 := g2) (n2 := n2) (gs := gs) (os := os) (sl := sl) (cs := cs) (by kernel_rfl) (by kernel_rfl) hc7 hf7) ?_
  refine tree_nil ?_
  have hlt1 : w1.heap.size < w2.heap.size := by
    obtain ⟨u, hu⟩ := HB.out.1 0 (by omega)
    exact World.block_lt_of_cell? _ _ hu
  have hs5 := hx5.1.size
  have hs6 := q6.1.size
  have hs7 := q7.1.size
  have HE : Hid (VR (put5 x7 w1.heap.size (.int .i64 (pa : Int)) (.int .i64 (pb : Int)) (.slice (some ⟨gs, os, none⟩) sl cs) (.slice (some ⟨g1, 0, none⟩) n1 n1) (.slice (some ⟨g2, 0, none⟩) n2 n2)) g1 n1 (fun i => .int .i64 (borV k pa (fx + (i : Int)))) ∧ VR (put5 x7 w1.heap.size (.int .i64 (pa : Int)) (.int .i64 (pb : Int)) (.slice (some ⟨gs, os, none⟩) sl cs) (.slice (some ⟨g1, 0, none⟩) n1 n1) (.slice (some ⟨g2, 0, none⟩) n2 n2)) g2 n2 (fun i => .int .i64 (borV k pb (fy + (i : Int)))) ∧ w.heap.size ≤ g1 ∧ w.heap.size ≤ g2 ∧ g1 < (put5 x7 w1.heap.size (.int .i64 (pa : Int)) (.int .i64 (pb : Int)) (.slice (some ⟨gs, os, none⟩) sl cs) (.slice (some ⟨g1, 0, none⟩) n1 n1) (.slice (some ⟨g2, 0, none⟩) n2 n2)).heap.size ∧ g2 < (put5 x7 w1.heap.size (.int .i64 (pa : Int)) (.int .i64 (pb : Int)) (.slice (some ⟨gs, os, none⟩) sl cs) (.slice (some ⟨g1, 0, none⟩) n1 n1) (.slice (some ⟨g2, 0, none⟩) n2 n2)).heap.size ∧ Q w (put5 x7 w1.heap.size (.int .i64 (pa : Int)) (.int .i64 (pb : Int)) (.slice (some ⟨gs, os, none⟩) sl cs) (.slice (some ⟨g1, 0, none⟩) n1 n1) (.slice (some ⟨g2, 0, none⟩) n2 n2))) := by
    have hl := HB.out.2.2.2
    have hQ := HB.out.2.2.1
    refine ⟨put5_vr (V1.next q7) (by omega) _ _ _ _ _, put5_vr V2 (by omega) _ _ _ _ _, by omega, by omega, by rw [put5_size]; omega, by rw [put5_size]; omega, put5_set (hQ.trans hq7) hl _ _ _ _ _⟩
  have HW : Vwb (put5 x7 w1.heap.size (.int .i64 (pa : Int)) (.int .i64 (pb : Int)) (.slice (some ⟨gs, os, none⟩) sl cs) (.slice (some ⟨g1, 0, none⟩) n1 n1) (.slice (some ⟨g2, 0, none⟩) n2 n2)) w1.heap.size pa pb (.slice (some ⟨gs, os, none⟩) sl cs) g1 n1 g2 n2 := put5_vwb hc7
  generalize put5 x7 w1.heap.size (.int .i64 (pa : Int)) (.int .i64 (pb : Int)) (.slice (some ⟨gs, os, none⟩) sl cs) (.slice (some ⟨g1, 0, none⟩) n1 n1) (.slice (some ⟨g2, 0, none⟩) n2 n2) = x8 at HE HW ⊢
  obtain ⟨k0, k1, k2, k3, k4⟩ := HW
  clear hq7 hc7 hf7 V1 V2 q6 q7 hx5
  go_wp2_with fail
  exact bodyPost_ret (v := vwV pa pb (.slice (some ⟨gs, os, none⟩) sl cs) g1 n1 g2 n2) (by simp [results, Try.results37, go_sem, k0, k1, k2, k3, k4, vwV]) rfl ⟨g1, g2, rfl, HE.out⟩
end Go.Proofs.Ytikhmlcmmabapaa

/- Operations of binary64, of NaNs one: plain. -/
import Derived.Test.YtpobgkcobgecoabG3e60212d
import Derived.Test.YtpobgkcobgecoabGd6be4843
namespace Go.Proofs.Ytpobgkcobgecoab
open Go.RowKit
set_option linter.unusedVariables false

abbrev isA (op : BinOp) : Prop := op = .add ∨ op = .sub ∨ op = .mul ∨ op = .quo
def opT (op : BinOp) (x y : Nat) : Nat := told64 (opD op (Ieee.double.read x) (Ieee.double.read y))
theorem opD_nan1 {op : BinOp} (hop : isA op) {a : Ieee.Datum} (h : a.isNaN = true) (b : Ieee.Datum) : told64 (opD op a b) = 9221120237041090560 := by
  obtain ⟨s, t, rfl⟩ := isNaN_cases h
  rcases hop with rfl | rfl | rfl | rfl <;> cases b <;> rfl
theorem opD_nan2 {op : BinOp} (hop : isA op) {b : Ieee.Datum} (h : b.isNaN = true) (a : Ieee.Datum) : told64 (opD op a b) = 9221120237041090560 := by
  obtain ⟨s, t, rfl⟩ := isNaN_cases h
  rcases hop with rfl | rfl | rfl | rfl <;> cases a <;> rfl
theorem can_cases (x : Nat) : canW x = x ∨ ((Ieee.double.read x).isNaN = true ∧ (Ieee.double.read (canW x)).isNaN = true) := by
  unfold canW
  cases h : nan64 x
  · left; rfl
  · right; rw [if_pos rfl]; exact ⟨read64_nan h, read64_nan made64⟩
theorem opT_can {op : BinOp} (hop : isA op) (x y : Nat) : opT op (canW x) (canW y) = opT op x y := by
  unfold opT
  rcases can_cases x with h | ⟨h, g⟩
  · rw [h]
    rcases can_cases y with h | ⟨h, g⟩
    · rw [h]
    · rw [opD_nan2 hop h, opD_nan2 hop g]
  · rw [opD_nan1 hop h, opD_nan1 hop g]
theorem res_can {op : BinOp} (hop : isA op) {x y X Y : Nat} {w : World} (hx : canW x = X) (hy : canW y = Y) : canW (resW op x y w) = opT op X Y := by
  rw [can_res op hop, ← hx, ← hy, opT_can hop]; rfl
theorem narW_can (x : Nat) : narW (canW x) = narW x := by
  unfold canW
  cases h : nan64 x
  · rfl
  · rw [if_pos rfl]; unfold narW; rw [nar_nan h, nar_nan made64]
theorem narW_of {x X : Nat} (h : canW x = X) : narW x = narW X := by rw [← h, narW_can]
theorem can_wide (a : Nat) : canW (wideW a) = wideW a := by
  unfold wideW
  cases h : nanN a
  · show canW (wideN a) = wideN a
    unfold canW; rw [wideN_nan h]; rfl
  · show canW 9221120237041090560 = 9221120237041090560
    unfold canW; rw [made64]; rfl
theorem hA1 : isA .add := Or.inl rfl
theorem hA2 : isA .sub := Or.inr (Or.inl rfl)
theorem hA3 : isA .mul := Or.inr (Or.inr (Or.inl rfl))
theorem hA4 : isA .quo := Or.inr (Or.inr (Or.inr rfl))
end Go.Proofs.Ytpobgkcobgecoab
/- blur's number and sample; numbers of binary64 in memory. -/
namespace Go.Proofs.Ytpobgkcobgecoab
open Go.RowKit
set_option linter.unusedVariables false
set_option linter.unusedSimpArgs false

set_option maxHeartbeats 400000 in
theorem bsample_any (x : Nat) (w : World) : Calls Try.prog 37 #[.float .f64 x] w fun e w' => e = .returned (.int .u32 (toldD (some (Ieee.double.read x)) : Nat)) ∧ Q w w' := by
  have l2 := f32bits
  rcases nar_cases x with ⟨h, o1, o2⟩ | ⟨h, g, hs, o1⟩ | ⟨h, g, hs, o1, o2⟩ | ⟨h, g, o1, o2⟩
  · have o1 : FloatKind.f64.format.order x 5183643170835005440 = none := o1
    have o2 : FloatKind.f64.format.order x 14407015207689781248 = none := o2
    have l1 := fun w => run_conv_nan (P := Try.prog) 60 80 .f64 .f32 x (by decide) (by kernel_rfl) Try.underlying80 (read64_nan h) w
    rw [nar_nan h]
    clear h
    go_enter Try.func37, Try.ntmps37
    go_wp2_with fail
    refine (made_any _ (nanc32 x _).2 _).mono ?_
    rintro e w1 ⟨rfl, q1⟩
    go_wp2_with fail
    go_ret
    exact ⟨ret_int (by rw [madeN_nan (nanc32 x _).1]), ((Q.refl _).drew.trans q1)⟩
  · rw [nar_big g h, hs, show Ieee.single.word false 2139095040 = 2139095040 from rfl]
    clear h g hs
    rcases o1 with o1 | o1
    · have o1 : FloatKind.f64.format.order x 5183643170835005440 = some .gt := o1
      go_enter Try.func37, Try.ntmps37
      go_wp2_with fail
      go_ret
      exact ⟨rfl, Q.refl _⟩
    · have o1 : FloatKind.f64.format.order x 5183643170835005440 = some .eq := o1
      go_enter Try.func37, Try.ntmps37
      go_wp2_with fail
      go_ret
      exact ⟨rfl, Q.refl _⟩
  · rw [nar_big g h, hs, show Ieee.single.word true 2139095040 = 4286578688 from rfl]
    clear h g hs
    have o1 : FloatKind.f64.format.order x 5183643170835005440 = some .lt := o1
    rcases o2 with o2 | o2
    · have o2 : FloatKind.f64.format.order x 14407015207689781248 = some .lt := o2
      go_enter Try.func37, Try.ntmps37
      go_wp2_with fail
      go_ret
      exact ⟨rfl, Q.refl _⟩
    · have o2 : FloatKind.f64.format.order x 14407015207689781248 = some .eq := o2
      go_enter Try.func37, Try.ntmps37
      go_wp2_with fail
      go_ret
      exact ⟨rfl, Q.refl _⟩
  · have o1 : FloatKind.f64.format.order x 5183643170835005440 = some .lt := o1
    have o2 : FloatKind.f64.format.order x 14407015207689781248 = some .gt := o2
    have l1 := fun w => run_convert_float_float (P := Try.prog) w 60 80 .f64 .f32 x _ (by kernel_rfl) Try.underlying80 (nar_conv g)
    have hn : Hid ((Ieee.double.read x).isNaN = false) := read64_num h
    clear h g
    go_enter Try.func37, Try.ntmps37
    go_wp2_with fail
    refine (made_any _ (write32_lt _) _).mono ?_
    rintro e w1 ⟨rfl, q1⟩
    go_wp2_with fail
    go_ret
    exact ⟨ret_int (by rw [madeN_of (nanN_write hn.out), toldD_some hn.out]), q1⟩

/-- A sample's number. -/
def NumX (s X : Nat) : Prop := X < 18446744073709551616 ∧ canW X = wideW s
set_option maxHeartbeats 400000 in
theorem bnumber_any (a : Nat) (ha : a < 4294967296) (w : World) : Calls Try.prog 39 #[.int .u32 (a : Int)] w fun e w' => ∃ v, e = .returned v ∧ (∃ X, v = .float .f64 X ∧ NumX a X) ∧ Q w w' := by
  have l2 := f32from
  cases h : nanN a
  · have l1 := fun w => run_convert_float_float (P := Try.prog) w 80 60 .f32 .f64 a _ (by kernel_rfl) Try.underlying60 (wide_conv h)
    have HX : Hid (NumX a (wideN a)) := by
      refine ⟨?_, ?_⟩
      · unfold wideN; exact write64_lt _
      · have := can_wide a
        unfold wideW at this ⊢
        rw [h] at this ⊢
        exact this
    clear h
    go_enter Try.func39, Try.ntmps39
    go_wp2_with fail
    go_ret
    exact ⟨_, rfl, ⟨_, rfl, HX.out⟩, Q.refl _⟩
  · have l1 := fun w => run_conv_nan (P := Try.prog) 80 60 .f32 .f64 a (by decide) (by kernel_rfl) Try.underlying60 (read32_nan h) w
    have HX : Hid (∀ w, NumX a (nanc .f64 a w)) := fun w => by
      refine ⟨(nanc64 a w).2, ?_⟩
      unfold canW wideW
      rw [(nanc64 a w).1, h]; rfl
    clear h
    go_enter Try.func39, Try.ntmps39
    go_wp2_with fail
    go_ret
    exact ⟨_, rfl, ⟨_, rfl, HX.out _⟩, (Q.refl _).drew⟩
end Go.Proofs.Ytpobgkcobgecoab
/- Rows of values in memory, told by a function of the place. -/
namespace Go.Proofs.Ytpobgkcobgecoab
open Go.RowKit
set_option linter.unusedVariables false
set_option linter.unusedSimpArgs false

/-- A row of values that may be written. -/
structure VR (x : World) (g n : Nat) (F : Nat → Value) : Prop where
  cell : ∀ i, i < n → x.cell? ⟨g, i, none⟩ = some (F i)
  free : ∀ j, x.frozen? ⟨g, j, none⟩ = false
theorem VR.next {x x' : World} {g n : Nat} {F : Nat → Value} (h : VR x g n F) (q : Q x x') : VR x' g n F := ⟨fun i hi => q.cell (h.cell i hi), fun j => by rw [q.2]; exact h.free j⟩
theorem VR.other {x : World} {g n : Nat} {F : Nat → Value} (h : VR x g n F) {p : Addr} (hp : p.block ≠ g) (v : Value) : VR (x.setCell p v) g n F :=
  ⟨fun i hi => (World.cell?_setCell_other _ _ _ _ (fun e => hp (by rw [e]))).trans (h.cell i hi), fun j => by rw [World.frozen?_setCell]; exact h.free j⟩
theorem VR.put {x : World} {g n : Nat} {F G : Nat → Value} (h : VR x g n F) {i : Nat} (hi : i < n) {v : Value} (hv : G i = v) (ho : ∀ j, j < n → j ≠ i → G j = F j) : VR (x.setCell ⟨g, i, none⟩ v) g n G := by
  refine ⟨fun j hj => ?_, fun j => by rw [World.frozen?_setCell]; exact h.free j⟩
  by_cases e : j = i
  · subst e; rw [hv]; exact World.cell?_setCell_same _ _ _ (h.cell j hi)
  · rw [ho j hj e]
    exact (World.cell?_setCell_other _ _ _ _ (fun k => e (by injection k with _ k; exact k.symm))).trans (h.cell j hj)
theorem VR.congr {x : World} {g n : Nat} {F G : Nat → Value} (h : VR x g n F) (hG : ∀ j, j < n → G j = F j) : VR x g n G := ⟨fun i hi => by rw [hG i hi]; exact h.cell i hi, h.free⟩
theorem VR.lt {x : World} {g n : Nat} {F : Nat → Value} (h : VR x g n F) (hn : 1 ≤ n) : g < x.heap.size := World.block_lt_of_cell? _ _ (h.cell 0 hn)
/-- What lies there by now. -/
def sofar (L : Nat → Value) (z : Value) (k : Nat) (j : Nat) : Value := if j < k then L j else z
theorem sofar_zero (L : Nat → Value) (z : Value) : sofar L z 0 = fun _ => z := by funext j; unfold sofar; rw [if_neg (by omega)]
theorem sofar_step {L : Nat → Value} {z : Value} {k n : Nat} : (∀ j, j < n → j ≠ k → sofar L z (k + 1) j = sofar L z k j) ∧ sofar L z (k + 1) k = L k := by
  refine ⟨fun j hj he => ?_, by unfold sofar; rw [if_pos (by omega)]⟩
  unfold sofar
  by_cases h : j < k
  · rw [if_pos h, if_pos (by omega)]
  · rw [if_neg h, if_neg (by omega)]
theorem sofar_all {L : Nat → Value} {z : Value} {n j : Nat} (h : j < n) : sofar L z n j = L j := by unfold sofar; rw [if_pos h]
theorem VR.fill {x : World} {g n k : Nat} {L : Nat → Value} {z v : Value} (h : VR x g n (sofar L z k)) (hk : k < n) (hv : v = L k) : VR (x.setCell ⟨g, k, none⟩ v) g n (sofar L z (k + 1)) :=
  h.put hk (by rw [hv]; exact (sofar_step (n := n)).2) (sofar_step (n := n)).1
theorem VR.full {x : World} {g n : Nat} {L : Nat → Value} {z : Value} (h : VR x g n (sofar L z n)) : VR x g n L := h.congr fun j hj => (sofar_all hj).symm
theorem made_vr {z : Value} (hz : z.cells = #[z]) (e : TypeId) (n : Nat) (w : World) : VR (w.alloc (.cells (madeCells z.cells (n * 1)) e)) w.heap.size n (fun _ => z) := by
  have hb : (w.alloc (.cells (madeCells z.cells (n * 1)) e)).heap[w.heap.size]? = some (.cells (madeCells z.cells (n * 1)) e (0, 0)) := heap_alloc_new w _
  refine ⟨fun j hj => ?_, fun j => frozen_of_row _ _ _ _ _ hb⟩
  rw [cell_of_row _ _ j _ e (0, 0) hb]
  unfold madeCells
  rw [hz]
  simp [hj, Nat.mod_one]
theorem intInfoV : ∃ i, Try.prog.info? 3 = some i ∧ i.size = 1 ∧ i.bytes = 8 ∧ i.zero = some (.int .i64 0) := info_of (by kernel_rfl) (by kernel_rfl)
theorem fltInfoV : ∃ i, Try.prog.info? 60 = some i ∧ i.size = 1 ∧ i.bytes = 8 ∧ i.zero = some (.float .f64 0) := info_of (by kernel_rfl) (by kernel_rfl)
theorem u32InfoV : ∃ i, Try.prog.info? 25 = some i ∧ i.size = 1 ∧ i.bytes = 4 ∧ i.zero = some (.int .u32 0) := info_of (by kernel_rfl) (by kernel_rfl)
theorem make_vi (n : Nat) (hn : n ≤ 1048576) : ∃ M : Array Value, (∀ w : World, (Instr.makeSlice 41 (.int .i64 (n : Int)) (.int .i64 (n : Int))).run Try.prog w = .ok (.slice (some ⟨w.heap.size, 0, none⟩) n n) (w.alloc (.cells M 3))) ∧
    ∀ w : World, VR (w.alloc (.cells M 3)) w.heap.size n (fun _ => .int .i64 0) := by
  obtain ⟨i, i1, i2, i3, i4⟩ := intInfoV
  refine ⟨madeCells (Value.int .i64 0).cells (n * 1), fun w => ?_, fun w => made_vr rfl _ n w⟩
  have := run_make (P := Try.prog) w 41 3 i _ Try.underlying41 i1 i4 .i64 .i64 n n (by omega) (by omega) (by rw [i3]; omega) (by omega)
  rw [i2] at this
  simp only [Int.toNat_natCast] at this
  exact this
theorem make_vf (n : Nat) (hn : n ≤ 1048576) : ∃ M : Array Value, (∀ w : World, (Instr.makeSlice 59 (.int .i64 (n : Int)) (.int .i64 (n : Int))).run Try.prog w = .ok (.slice (some ⟨w.heap.size, 0, none⟩) n n) (w.alloc (.cells M 60))) ∧
    ∀ w : World, VR (w.alloc (.cells M 60)) w.heap.size n (fun _ => .float .f64 0) := by
  obtain ⟨i, i1, i2, i3, i4⟩ := fltInfoV
  refine ⟨madeCells (Value.float .f64 0).cells (n * 1), fun w => ?_, fun w => made_vr rfl _ n w⟩
  have := run_make (P := Try.prog) w 59 60 i _ Try.underlying59 i1 i4 .i64 .i64 n n (by omega) (by omega) (by rw [i3]; omega) (by omega)
  rw [i2] at this
  simp only [Int.toNat_natCast] at this
  exact this
theorem make_vu (n : Nat) (hn : n ≤ 1048576) : ∃ M : Array Value, (∀ w : World, (Instr.makeSlice 22 (.int .i64 (n : Int)) (.int .i64 (n : Int))).run Try.prog w = .ok (.slice (some ⟨w.heap.size, 0, none⟩) n n) (w.alloc (.cells M 25))) ∧
    ∀ w : World, VR (w.alloc (.cells M 25)) w.heap.size n (fun _ => .int .u32 0) := by
  obtain ⟨i, i1, i2, i3, i4⟩ := u32InfoV
  refine ⟨madeCells (Value.int .u32 0).cells (n * 1), fun w => ?_, fun w => made_vr rfl _ n w⟩
  have := run_make (P := Try.prog) w 22 25 i _ Try.underlying22 i1 i4 .i64 .i64 n n (by omega) (by omega) (by rw [i3]; omega) (by omega)
  rw [i2] at this
  simp only [Int.toNat_natCast] at this
  exact this
end Go.Proofs.Ytpobgkcobgecoab
/- blur's weights. -/
namespace Go.Proofs.Ytpobgkcobgecoab
open Go.RowKit
set_option linter.unusedVariables false
set_option linter.unusedSimpArgs false

set_option maxHeartbeats 1000000 in
theorem flat_any (n : Nat) (h1 : 1 ≤ n) (h2 : n ≤ 15) (w : World) :
    Calls Try.prog 32 #[.int .i64 (n : Int)] w fun e w' => ∃ g, e = .returned (.slice (some ⟨g, 0, none⟩) n n) ∧ VR w' g n (fun _ => .int .i64 1) ∧ w.heap.size ≤ g ∧ Q w w' := by
  obtain ⟨M, hM, hV⟩ := make_vi n (by omega)
  have HV : Hid (VR (w.alloc (.cells M 3)) w.heap.size n (sofar (fun _ => .int .i64 1) (.int .i64 0) 0)) := by rw [sofar_zero]; exact hV w
  have HQ : Hid (Q w (w.alloc (.cells M 3))) := (Q.refl w).cells _ _
  clear hV
  go_enter Try.func32, Try.ntmps32
  go_wp2_with fail
  generalize w.alloc (.cells M 3) = w1 at HV HQ ⊢
  go_loopg [4, 9] n (fun m s4 s9 wr => ∃ i : Nat, s9 = .int .i64 (i : Int) ∧ i + m = n ∧ Hid (VR wr w.heap.size n (sofar (fun _ => .int .i64 1) (.int .i64 0) i) ∧ Q w wr))
  case atStart => exact ⟨0, rfl, by omega, ⟨HV.out, HQ.out⟩⟩
  case round =>
    obtain ⟨i, rfl, hi, HX⟩ := hrel
    by_cases hlt : i < n
    · have hlt' : (i : Int) < (n : Int) := by omega
      have c1 := HX.out.1.cell i hlt
      have f1 := HX.out.1.free i
      have HY : Hid (VR (wr.setCell ⟨w.heap.size, i, none⟩ (.int .i64 1)) w.heap.size n (sofar (fun _ => .int .i64 1) (.int .i64 0) (i + 1)) ∧ Q w (wr.setCell ⟨w.heap.size, i, none⟩ (.int .i64 1))) := ⟨HX.out.1.fill hlt rfl, HX.out.2.set (Nat.le_refl _) _⟩
      go_wp2_with fail
      generalize wr.setCell ⟨w.heap.size, i, none⟩ (.int .i64 1) = w8 at HY ⊢
      go_roundg (n - (i + 1))
      case measure => go_light; omega
      case rel => go_light; exact ⟨i + 1, by go_num, by omega, HY⟩
    · obtain rfl : i = n := by omega
      have hge : ¬ (i : Int) < (i : Int) := by omega
      go_wp2_with fail
      go_ret
      exact ⟨_, rfl, HX.out.1.full, Nat.le_refl _, HX.out.2⟩
/-- The numbers of ways. -/
def bnV (n : Nat) : Nat → Int
  | 0 => 1
  | i + 1 => bnV n i * ((n : Int) - (i : Int)) / ((i : Int) + 1)
theorem bnV_bd : ∀ n, n ≤ 14 → ∀ i, i ≤ 14 → 0 ≤ bnV n i ∧ bnV n i ≤ 3432 := by
  intro n hn i hi
  have : ∀ n : Fin 15, ∀ i : Fin 15, 0 ≤ bnV n.val i.val ∧ bnV n.val i.val ≤ 3432 := by decide +kernel
  exact this ⟨n, by omega⟩ ⟨i, by omega⟩
set_option maxHeartbeats 1000000 in
theorem binomial_any (n : Nat) (h2 : n ≤ 14) (w : World) :
    Calls Try.prog 31 #[.int .i64 (n : Int)] w fun e w' => ∃ g, e = .returned (.slice (some ⟨g, 0, none⟩) (n + 1) (n + 1)) ∧ VR w' g (n + 1) (fun i => .int .i64 (bnV n i)) ∧ w.heap.size ≤ g ∧ Q w w' := by
  obtain ⟨M, hM, hV⟩ := make_vi (n + 1) (by omega)
  have hn1 : ((n + 1 : Nat) : Int) = (n : Int) + 1 := by omega
  rw [hn1] at hM
  have hMw := hM w
  have hVw := hV w
  have HQ0 : Hid (Q w (w.alloc (.cells M 3))) := (Q.refl w).cells _ _
  generalize w.alloc (.cells M 3) = w0 at hMw hVw HQ0
  have HV : Hid (VR (w0.setCell ⟨w.heap.size, 0, none⟩ (.int .i64 1)) w.heap.size (n + 1) (sofar (fun i => .int .i64 (bnV n i)) (.int .i64 0) 1)) := by
    have h := hVw
    rw [← sofar_zero (fun i => .int .i64 (bnV n i))] at h
    exact h.fill (by omega) rfl
  have HQ : Hid (Q w (w0.setCell ⟨w.heap.size, 0, none⟩ (.int .i64 1))) := HQ0.out.set (Nat.le_refl _) _
  have c0 := hVw.cell 0 (by omega)
  have f0 := hVw.free 0
  have h0n : (0 : Int) < (n : Int) + 1 := by omega
  clear hV hn1 hM hVw HQ0
  go_enter Try.func31, Try.ntmps31
  go_wp2_with fail
  generalize w0.setCell ⟨w.heap.size, 0, none⟩ (.int .i64 1) = w1 at HV HQ ⊢
  clear c0 f0
  go_loopg [4, 11] n (fun m s4 s11 wr => ∃ i : Nat, s11 = .int .i64 (i : Int) ∧ i + m = n ∧ Hid (VR wr w.heap.size (n + 1) (sofar (fun i => .int .i64 (bnV n i)) (.int .i64 0) (i + 1)) ∧ Q w wr))
  case atStart => exact ⟨0, rfl, by omega, ⟨HV.out, HQ.out⟩⟩
  case round =>
    obtain ⟨i, rfl, hi, HX⟩ := hrel
    by_cases hlt : i < n
    · have hlt' : (i : Int) < (n : Int) := by omega
      have hlt2 : (i : Int) < (n : Int) + 1 := by omega
      have hlt3 : (i : Int) + 1 < (n : Int) + 1 := by omega
      have c1 : wr.cell? ⟨w.heap.size, i, none⟩ = some (.int .i64 (bnV n i)) := by
        have := HX.out.1.cell i (by omega)
        unfold sofar at this
        rw [if_pos (by omega)] at this
        exact this
      have c2 := HX.out.1.cell (i + 1) (by omega)
      have f2 := HX.out.1.free (i + 1)
      obtain ⟨u2, hu2⟩ : ∃ u, wr.cell? ⟨w.heap.size, i + 1, none⟩ = some u := ⟨_, c2⟩
      have b1 := bnV_bd n h2 i (by omega)
      have b2 := bnV_bd n h2 (i + 1) (by omega)
      have hp1 : 0 ≤ bnV n i * ((n : Int) - (i : Int)) := Int.mul_nonneg b1.1 (by omega)
      have hp2 : bnV n i * ((n : Int) - (i : Int)) ≤ 3432 * 14 := Int.mul_le_mul b1.2 (by omega) (by omega) (by omega)
      have hd : Int.tdiv (bnV n i * ((n : Int) - (i : Int))) ((i : Int) + 1) = bnV n (i + 1) := by rw [Int.tdiv_eq_ediv_of_nonneg hp1]; rfl
      have hnz : ((i : Int) + 1 == 0) = false := by rw [beq_eq_false_iff_ne]; omega
      have HY : Hid (VR (wr.setCell ⟨w.heap.size, i + 1, none⟩ (.int .i64 (bnV n (i + 1)))) w.heap.size (n + 1) (sofar (fun i => .int .i64 (bnV n i)) (.int .i64 0) (i + 1 + 1)) ∧ Q w (wr.setCell ⟨w.heap.size, i + 1, none⟩ (.int .i64 (bnV n (i + 1))))) := ⟨HX.out.1.fill (by omega) rfl, HX.out.2.set (Nat.le_refl _) _⟩
      generalize bnV n (i + 1) = y at *
      generalize bnV n i = x at *
      clear c2
      go_wp2_with fail
      generalize wr.setCell ⟨w.heap.size, i + 1, none⟩ (.int .i64 y) = w8 at HY ⊢
      go_roundg (n - (i + 1))
      case measure => go_light; omega
      case rel => go_light; exact ⟨i + 1, by go_num, by omega, HY⟩
    · obtain rfl : i = n := by omega
      have hge : ¬ (i : Int) < (i : Int) := by omega
      go_wp2_with fail
      go_ret
      exact ⟨_, rfl, HX.out.1.full, Nat.le_refl _, HX.out.2⟩
/-- The weights of a kernel. -/
def bwV (kind : Int) (r : Nat) (i : Nat) : Int := if kind = 1 then bnV (2 * r) i else 1
def bwE (kind r : Int) : Int := if 0 ≤ r ∧ r ≤ 7 ∧ (kind = 1 ∨ kind = 2) then 0 else 110
set_option maxHeartbeats 1000000 in
theorem weights_bad (kind r : Int) (h : bwE kind r ≠ 0) (w : World) :
    Calls Try.prog 14 #[.int .i64 kind, .int .i64 r] w fun e w' => e = .returned (.tuple #[.slice none 0 0, .int .i64 110]) ∧ w' = w := by
  have hh : ¬ (0 ≤ r ∧ r ≤ 7 ∧ (kind = 1 ∨ kind = 2)) := fun g => h (by unfold bwE; rw [if_pos g])
  clear h
  rcases Int.lt_or_le r 0 with h1 | h1
  · go_enter Try.func14, Try.ntmps14
    go_wp2_with fail
    go_ret2
    exact ⟨rfl, rfl⟩
  rcases Int.lt_or_le 7 r with h2 | h2
  · go_enter Try.func14, Try.ntmps14
    go_wp2_with fail
    go_ret2
    exact ⟨rfl, rfl⟩
  have k1 : (kind == 1) = false := by rw [beq_eq_false_iff_ne]; omega
  have k2 : (kind == 2) = false := by rw [beq_eq_false_iff_ne]; omega
  clear hh
  go_enter Try.func14, Try.ntmps14
  go_wp2_with fail
  go_ret2
  exact ⟨rfl, rfl⟩
set_option maxHeartbeats 1000000 in
theorem weights_good (kind : Int) (r : Nat) (h : bwE kind r = 0) (w : World) :
    Calls Try.prog 14 #[.int .i64 kind, .int .i64 (r : Int)] w fun e w' => ∃ g, e = .returned (.tuple #[.slice (some ⟨g, 0, none⟩) (2 * r + 1) (2 * r + 1), .int .i64 0]) ∧ VR w' g (2 * r + 1) (fun i => .int .i64 (bwV kind r i)) ∧ w.heap.size ≤ g ∧ Q w w' := by
  have hh : (0 : Int) ≤ r ∧ (r : Int) ≤ 7 ∧ (kind = 1 ∨ kind = 2) := by
    unfold bwE at h
    split at h
    · assumption
    · cases h
  clear h
  obtain ⟨h1, h2, h3⟩ := hh
  have n1 : ¬ (r : Int) < 0 := by omega
  have n2 : ¬ (7 : Int) < (r : Int) := by omega
  by_cases hk : kind = 1
  · subst hk
    have HC : Hid (∀ x : World, Calls Try.prog 31 #[.int .i64 (2 * (r : Int))] x fun e w' => ∃ g, e = .returned (.slice (some ⟨g, 0, none⟩) (2 * r + 1) (2 * r + 1)) ∧ VR w' g (2 * r + 1) (fun i => .int .i64 (bnV (2 * r) i)) ∧ x.heap.size ≤ g ∧ Q x w') := fun x => by
      have := binomial_any (2 * r) (by omega) x
      rw [show ((2 * r : Nat) : Int) = 2 * (r : Int) by omega] at this
      exact this
    generalize hN : 2 * r + 1 = N at *
    have k1 : ((1 : Int) == 1) = true := by decide
    have HB : Hid (∀ i, bwV 1 r i = bnV (2 * r) i) := fun i => by unfold bwV; rw [if_pos rfl]
    clear hN h3
    go_enter Try.func14, Try.ntmps14
    go_wp2_with fail
    refine (HC.out _).mono ?_
    rintro e w1 ⟨g, rfl, h4, h5, h6⟩
    have HX : Hid (VR w1 g N (fun i => .int .i64 (bwV 1 r i)) ∧ w.heap.size ≤ g ∧ Q w w1) := ⟨h4.congr fun j _ => by show Value.int .i64 (bwV 1 r j) = .int .i64 (bnV (2 * r) j); rw [HB.out], h5, h6⟩
    clear h4 h5 h6 HC
    go_wp2_with fail
    go_ret2
    exact ⟨g, rfl, HX.out.1, HX.out.2.1, HX.out.2.2⟩
  · have hk2 : kind = 2 := by omega
    subst hk2
    have HC : Hid (∀ x : World, Calls Try.prog 32 #[.int .i64 (2 * (r : Int) + 1)] x fun e w' => ∃ g, e = .returned (.slice (some ⟨g, 0, none⟩) (2 * r + 1) (2 * r + 1)) ∧ VR w' g (2 * r + 1) (fun i => .int .i64 1) ∧ x.heap.size ≤ g ∧ Q x w') := fun x => by
      have := flat_any (2 * r + 1) (by omega) (by omega) x
      rw [show ((2 * r + 1 : Nat) : Int) = 2 * (r : Int) + 1 by omega] at this
      exact this
    generalize hN : 2 * r + 1 = N at *
    have k1 : ((2 : Int) == 1) = false := by decide
    have k2 : ((2 : Int) == 2) = true := by decide
    clear hN h3 hk
    go_enter Try.func14, Try.ntmps14
    go_wp2_with fail
    refine (HC.out _).mono ?_
    rintro e w1 ⟨g, rfl, h4, h5, h6⟩
    have HX : Hid (VR w1 g N (fun i => .int .i64 (bwV 2 r i)) ∧ w.heap.size ≤ g ∧ Q w w1) := ⟨h4.congr fun j _ => by show Value.int .i64 (bwV 2 r j) = .int .i64 1; unfold bwV; rw [if_neg (by decide)], h5, h6⟩
    clear h4 h5 h6 HC
    go_wp2_with fail
    go_ret2
    exact ⟨g, rfl, HX.out.1, HX.out.2.1, HX.out.2.2⟩
end Go.Proofs.Ytpobgkcobgecoab

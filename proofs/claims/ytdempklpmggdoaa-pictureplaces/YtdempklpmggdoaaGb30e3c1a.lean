/- Mixing: the walk. -/
import Derived.Test.YtdempklpmggdoaaG189defff
import Derived.Test.YtdempklpmggdoaaGa571244e
import Derived.Test.YtdempklpmggdoaaG6d376ae7
import Derived.Test.YtdempklpmggdoaaGd0fb7c7f
namespace Go.Proofs.Ytdempklpmggdoaa
open Go.RowKit
set_option linter.unusedVariables false
set_option linter.unusedSimpArgs false

theorem copied_u (w : World) (sp : Int) (g o cap a b n : Nat) (L : List PL) (h : Pc w g o a b L) (hn : L.length = n) (hcap : n ≤ cap) :
    Calls Try.prog 23 #[.agg #[.int .i64 sp, .slice (some ⟨g, o, none⟩) n cap]] w fun e w' => ∃ g' cap' M, e = .returned (.agg #[.int .i64 sp, .slice (some ⟨g', 0, none⟩) n cap']) ∧ M.map PL.S = L.map PL.S ∧ Hid (Nw w.heap.size w' g' cap' a b M) ∧ Q w w' := copied_any w sp g o cap a b n L h hn hcap
set_option maxHeartbeats 8000000 in
set_option maxRecDepth 100000 in
theorem mixing_any (w : World) (sp sp2 : Int) (g o cap a b n : Nat) (L : List PL) (h : Pc w g o a b L) (hn : L.length = n) (hcap : n ≤ cap) (h3 : 3 ≤ n) (f : FuncId) (recv : Value) (F0 F1 F2 : Nat → Nat → Nat → Nat) (hF : Fun3 f recv F0 F1 F2) :
    Calls Try.prog 25 #[.agg #[.int .i64 sp2, .func (.func f) #[recv] #[]], .agg #[.int .i64 sp, .slice (some ⟨g, o, none⟩) n cap]] w fun e w' => ∃ g' cap' M, e = .returned (.agg #[.int .i64 sp2, .slice (some ⟨g', 0, none⟩) n cap']) ∧ M.map PL.S = mixL F0 F1 F2 (L.map PL.S) ∧ Hid (Nw w.heap.size w' g' cap' a b M) ∧ Q w w' := by
  have HP : Hid (Pc w g o a b L) := h
  have HF : Hid (Fun3 f recv F0 F1 F2) := hF
  have HN : Hid (L.length = n) := hn
  have n4 : n ≤ 4 := by rw [← hn]; exact h.n4
  have SZ : Hid (Size a b) := h.size
  clear h hn hF
  go_enter Try.func25, Try.ntmps25
  go_wp2_with fail
  refine (copied_u _ sp g o cap a b n L (HP.out.next ((((Q.refl w).cells _ _).cells _ _).cells _ _)) HN.out hcap).mono ?_
  rintro e w2 ⟨g1, cap1, M, rfl, hMS, HW, hq2⟩
  have hz : (((w.alloc (Obj.cells #[Value.int IntKind.i64 sp2, Value.func (Fn.func f) #[recv] #[]] 60)).alloc (Obj.cells #[Value.int IntKind.i64 sp, Value.slice (some { block := g, off := o }) n cap] 24)).alloc (Obj.cells #[Value.int IntKind.i64 0, Value.slice none 0 0] 24)).heap.size = w.heap.size + 3 := by simp
  have HQ1 : Hid (Q w (((w.alloc (Obj.cells #[Value.int IntKind.i64 sp2, Value.func (Fn.func f) #[recv] #[]] 60)).alloc (Obj.cells #[Value.int IntKind.i64 sp, Value.slice (some { block := g, off := o }) n cap] 24)).alloc (Obj.cells #[Value.int IntKind.i64 0, Value.slice none 0 0] 24))) := (((Q.refl w).cells _ _).cells _ _).cells _ _
  have m0 : (((w.alloc (Obj.cells #[Value.int IntKind.i64 sp2, Value.func (Fn.func f) #[recv] #[]] 60)).alloc (Obj.cells #[Value.int IntKind.i64 sp, Value.slice (some { block := g, off := o }) n cap] 24)).alloc (Obj.cells #[Value.int IntKind.i64 0, Value.slice none 0 0] 24)).cell? ⟨w.heap.size, 0, none⟩ = some (.int .i64 sp2) := by simp [go_sem]
  have m1 : (((w.alloc (Obj.cells #[Value.int IntKind.i64 sp2, Value.func (Fn.func f) #[recv] #[]] 60)).alloc (Obj.cells #[Value.int IntKind.i64 sp, Value.slice (some { block := g, off := o }) n cap] 24)).alloc (Obj.cells #[Value.int IntKind.i64 0, Value.slice none 0 0] 24)).cell? ⟨w.heap.size, 1, none⟩ = some (.func (.func f) #[recv] #[]) := by simp [go_sem]
  have r0 : (((w.alloc (Obj.cells #[Value.int IntKind.i64 sp2, Value.func (Fn.func f) #[recv] #[]] 60)).alloc (Obj.cells #[Value.int IntKind.i64 sp, Value.slice (some { block := g, off := o }) n cap] 24)).alloc (Obj.cells #[Value.int IntKind.i64 0, Value.slice none 0 0] 24)).cell? ⟨w.heap.size + 1 + 1, 0, none⟩ = some (.int .i64 0) := by simp [go_sem]
  have r1 : (((w.alloc (Obj.cells #[Value.int IntKind.i64 sp2, Value.func (Fn.func f) #[recv] #[]] 60)).alloc (Obj.cells #[Value.int IntKind.i64 sp, Value.slice (some { block := g, off := o }) n cap] 24)).alloc (Obj.cells #[Value.int IntKind.i64 0, Value.slice none 0 0] 24)).cell? ⟨w.heap.size + 1 + 1, 1, none⟩ = some (.slice none 0 0) := by simp [go_sem]
  have rf : ∀ j, (((w.alloc (Obj.cells #[Value.int IntKind.i64 sp2, Value.func (Fn.func f) #[recv] #[]] 60)).alloc (Obj.cells #[Value.int IntKind.i64 sp, Value.slice (some { block := g, off := o }) n cap] 24)).alloc (Obj.cells #[Value.int IntKind.i64 0, Value.slice none 0 0] 24)).frozen? ⟨w.heap.size + 1 + 1, j, none⟩ = false := fun j => by simp [go_sem]
  generalize (((w.alloc (Obj.cells #[Value.int IntKind.i64 sp2, Value.func (Fn.func f) #[recv] #[]] 60)).alloc (Obj.cells #[Value.int IntKind.i64 sp, Value.slice (some { block := g, off := o }) n cap] 24)).alloc (Obj.cells #[Value.int IntKind.i64 0, Value.slice none 0 0] 24)) = w1 at *
  rw [hz] at HW
  have HQ2 : Hid (Q w w2) := HQ1.out.trans hq2
  have hsz2 : w.heap.size + 3 ≤ w2.heap.size := by have := hq2.1.size; omega
  replace m0 := hq2.cell m0
  replace m1 := hq2.cell m1
  replace r0 := hq2.cell r0
  replace r1 := hq2.cell r1
  replace rf : ∀ j, w2.frozen? ⟨w.heap.size + 1 + 1, j, none⟩ = false := fun j => (hq2.2 _).trans (rf j)
  have HMS : Hid (M.map PL.S = L.map PL.S) := hMS
  have hml : M.length = n := by have := congrArg List.length hMS; rw [List.length_map, List.length_map] at this; rw [this]; exact HN.out
  clear hMS hq2 hz
  obtain ⟨y0, y1, y2, Mr, hM⟩ : ∃ y0 y1 y2 Mr, M = y0 :: y1 :: y2 :: Mr := by
    match M, hml with
    | [], h => exact absurd h (by simp; omega)
    | [_], h => exact absurd h (by simp; omega)
    | [_, _], h => exact absurd h (by simp; omega)
    | y0 :: y1 :: y2 :: Mr, _ => exact ⟨y0, y1, y2, Mr, rfl⟩
  subst hM
  obtain ⟨_, _, p0⟩ := HW.out.pc.row 0 y0 rfl
  obtain ⟨_, _, p1⟩ := HW.out.pc.row 1 y1 rfl
  obtain ⟨_, _, p2⟩ := HW.out.pc.row 2 y2 rfl
  unfold PL.v at p0 p1 p2
  simp only [Nat.zero_add, Nat.zero_mul, Nat.one_mul, Nat.reduceMul, Nat.reduceAdd] at p0 p1 p2
  obtain ⟨k0, k0'⟩ := HW.out.it y0 (by simp)
  obtain ⟨k1, k1'⟩ := HW.out.it y1 (by simp)
  obtain ⟨k2, k2'⟩ := HW.out.it y2 (by simp)
  have hap := HW.out.ap
  simp only [List.pairwise_cons, List.mem_cons] at hap
  have n01 : y0.g ≠ y1.g := hap.1 y1 (Or.inl rfl)
  have n02 : y0.g ≠ y2.g := hap.1 y2 (Or.inr (Or.inl rfl))
  have n12 : y1.g ≠ y2.g := hap.2.1 y2 (Or.inl rfl)
  have K0 : Hid (Mine (w.heap.size + 3) w2 (a * b) y0) := k0
  have K1 : Hid (Mine (w.heap.size + 3) w2 (a * b) y1) := k1
  have K2 : Hid (Mine (w.heap.size + 3) w2 (a * b) y2) := k2
  have N : Hid (y0.g ≠ y1.g ∧ y0.g ≠ y2.g ∧ y1.g ≠ y2.g ∧ y0.g ≠ g1 ∧ y1.g ≠ g1 ∧ y2.g ≠ g1) := ⟨n01, n02, n12, k0', k1', k2'⟩
  clear k0 k1 k2 hap k0' k1' k2' n01 n02 n12
  have m0' := fun c t => ((Q.refl w2).cells c t).cell m0
  go_wp2_with fail
  have q23 : Q w2 (w2.alloc (Obj.cells #[Value.int IntKind.i64 sp2, Value.slice (some { block := g1, off := 0 }) n cap1] 24)) := (Q.refl w2).cells _ _
  have t0 : (w2.alloc (Obj.cells #[Value.int IntKind.i64 sp2, Value.slice (some { block := g1, off := 0 }) n cap1] 24)).cell? ⟨w2.heap.size, 0, none⟩ = some (.int .i64 sp2) := by simp [go_sem]
  have t1 : (w2.alloc (Obj.cells #[Value.int IntKind.i64 sp2, Value.slice (some { block := g1, off := 0 }) n cap1] 24)).cell? ⟨w2.heap.size, 1, none⟩ = some (.slice (some ⟨g1, 0, none⟩) n cap1) := by simp [go_sem]
  have hz3 : (w2.alloc (Obj.cells #[Value.int IntKind.i64 sp2, Value.slice (some { block := g1, off := 0 }) n cap1] 24)).heap.size = w2.heap.size + 1 := by simp
  generalize (w2.alloc (Obj.cells #[Value.int IntKind.i64 sp2, Value.slice (some { block := g1, off := 0 }) n cap1] 24)) = w3 at *
  have HW3 : Hid (Nw (w.heap.size + 3) w3 g1 cap1 a b (y0 :: y1 :: y2 :: Mr)) := HW.out.next q23
  have HQ3 : Hid (Q w w3) := HQ2.out.trans q23
  have N0 : (0 : Int) < (n : Int) := by omega
  have N1 : (1 : Int) < (n : Int) := by omega
  have N2 : (2 : Int) < (n : Int) := by omega
  have n0 := qw_some w3
  have f0 := qw_cell t1
  have f1 := qw_cell (q23.cell p0)
  have f2 := qw_cell (q23.cell p1)
  have f3 := qw_cell (q23.cell p2)
  refine wp_region_quiet_Q (by kernel_rfl) (by kernel_rfl) ?_
  repeat (first | go_big_quiet_step (fail) | quiet_step (fail))
  refine wpQuiet_nil ?_
  intro w4 hw'
  have q34 := qw_out hw'
  clear hw' n0 f0 f1 f2 f3 p0 p1 p2 m0'
  have q24 : Q w2 w4 := q23.trans q34
  have HW4 : Hid (Nw (w.heap.size + 3) w4 g1 cap1 a b (y0 :: y1 :: y2 :: Mr)) := HW3.out.next q34
  have HQ4 : Hid (Q w w4) := HQ3.out.trans q34
  replace t0 := q34.cell t0
  replace t1 := q34.cell t1
  replace m1 := q24.cell m1
  replace r0 := q24.cell r0
  replace r1 := q24.cell r1
  replace rf : ∀ j, w4.frozen? ⟨w.heap.size + 1 + 1, j, none⟩ = false := fun j => (q24.2 _).trans (rf j)
  replace K0 : Hid (Mine (w.heap.size + 3) w4 (a * b) y0) := K0.out.next q24
  replace K1 : Hid (Mine (w.heap.size + 3) w4 (a * b) y1) := K1.out.next q24
  replace K2 : Hid (Mine (w.heap.size + 3) w4 (a * b) y2) := K2.out.next q24
  have kh : y0.g < w2.heap.size ∧ y1.g < w2.heap.size ∧ y2.g < w2.heap.size := ⟨(HW.out.it y0 (by simp)).1.high, (HW.out.it y1 (by simp)).1.high, (HW.out.it y2 (by simp)).1.high⟩
  have g1h := HW.out.high
  have g1l := HW.out.low
  have kl : w.heap.size + 3 ≤ y0.g ∧ w.heap.size + 3 ≤ y1.g ∧ w.heap.size + 3 ≤ y2.g := ⟨K0.out.low, K1.out.low, K2.out.low⟩
  have hl0 := K0.out.gd.len
  have hl1 := K1.out.gd.len
  have hl2 := K2.out.gd.len
  obtain ⟨S0, hS0⟩ : ∃ S0, y0.S = S0 := ⟨_, rfl⟩
  obtain ⟨S1, hS1⟩ : ∃ S1, y1.S = S1 := ⟨_, rfl⟩
  obtain ⟨S2, hS2⟩ : ∃ S2, y2.S = S2 := ⟨_, rfl⟩
  have HS : Hid (y0.S = S0 ∧ y1.S = S1 ∧ y2.S = S2) := ⟨hS0, hS1, hS2⟩
  have b0 : ∀ i, S0.getD i 0 < 4294967296 := by rw [← hS0]; exact K0.out.gd.lt
  have b1 : ∀ i, S1.getD i 0 < 4294967296 := by rw [← hS1]; exact K1.out.gd.lt
  have b2 : ∀ i, S2.getD i 0 < 4294967296 := by rw [← hS2]; exact K2.out.gd.lt
  obtain ⟨NN, hNN⟩ : ∃ NN, a * b = NN := ⟨_, rfl⟩
  have hN6 : NN ≤ 65536 := by rw [← hNN]; exact SZ.out.ab
  have HNN : Hid (a * b = NN) := hNN
  have W0 : Hid (W3 w4 w4 y0 y1 y2 NN (mixT F0 S0 S1 S2 S0 0) (mixT F1 S0 S1 S2 S1 0) (mixT F2 S0 S1 S2 S2 0)) := by
    have e0 := K0.out.gd.us
    have e1 := K1.out.gd.us
    have e2 := K2.out.gd.us
    rw [hS0] at e0 hl0
    rw [hS1] at e1 hl1
    rw [hS2] at e2 hl2
    exact ⟨fun j hj => e0 j (by omega), fun j hj => e1 j (by omega), fun j hj => e2 j (by omega), Fr.refl _ _, fun p v hp => ⟨v, hp⟩⟩
  rw [hl0, hl1, hl2, hNN]
  have BB : Hid ((∀ i, S0.getD i 0 < 4294967296) ∧ (∀ i, S1.getD i 0 < 4294967296) ∧ ∀ i, S2.getD i 0 < 4294967296) := ⟨b0, b1, b2⟩
  clear hl0 hl1 hl2 hNN hS0 hS1 hS2 b0 b1 b2
  go_wp2_with fail
  go_loopg [33] NN (fun m s33 wx => ∃ i : Nat, s33 = .int .i64 i ∧ i + m = NN ∧ Hid (W3 w4 wx y0 y1 y2 NN (mixT F0 S0 S1 S2 S0 i) (mixT F1 S0 S1 S2 S1 i) (mixT F2 S0 S1 S2 S2 i)) ∧ Hid (Q w wx))
  case atStart => exact ⟨0, rfl, by omega, W0, HQ4⟩
  case round =>
    obtain ⟨i, rfl, him, HW3r, HQr⟩ := hrel
    by_cases hi : i < NN
    · have hi0 : (0 : Int) ≤ (i : Int) := by omega
      have hi1 : (i : Int) < (NN : Int) := by omega
      have m1r : wr.cell? ⟨w.heap.size, 1, none⟩ = some (.func (.func f) #[recv] #[]) := HW3r.out.fr.cell m1 ⟨by show w.heap.size ≠ _; omega, by show w.heap.size ≠ _; omega, by show w.heap.size ≠ _; omega⟩
      have c0 := HW3r.out.u0 i hi
      have c1 := HW3r.out.u1 i hi
      have c2 := HW3r.out.u2 i hi
      have self : ∀ (F : Nat → Nat → Nat → Nat) (S : List Nat), mixT F S0 S1 S2 S i i = S.getD i 0 := fun F S => by unfold mixT; rw [if_neg (by omega)]
      rw [self] at c0 c1 c2
      have lx0 := BB.out.1 i
      have lx1 := BB.out.2.1 i
      have lx2 := BB.out.2.2 i
      obtain ⟨x0, hx0⟩ : ∃ x0, S0.getD i 0 = x0 := ⟨_, rfl⟩
      obtain ⟨x1, hx1⟩ : ∃ x1, S1.getD i 0 = x1 := ⟨_, rfl⟩
      obtain ⟨x2, hx2⟩ : ∃ x2, S2.getD i 0 = x2 := ⟨_, rfl⟩
      rw [hx0] at c0 lx0
      rw [hx1] at c1 lx1
      rw [hx2] at c2 lx2
      obtain ⟨U, hU⟩ : ∃ U, F0 x0 x1 x2 = U := ⟨_, rfl⟩
      obtain ⟨V, hV⟩ : ∃ V, F1 x0 x1 x2 = V := ⟨_, rfl⟩
      obtain ⟨Z, hZ⟩ : ∃ Z, F2 x0 x1 x2 = Z := ⟨_, rfl⟩
      have HC : Hid (∀ x : World, Calls Try.prog f #[recv, .agg #[.int .u32 (x0 : Int), .int .u32 (x1 : Int), .int .u32 (x2 : Int)]] x fun e x' => ∃ u, e = .returned u ∧ u = .agg #[.int .u32 (U : Int), .int .u32 (V : Int), .int .u32 (Z : Int)] ∧ Q x x') := fun x => (HF.out.c x0 x1 x2 lx0 lx1 lx2 x).mono fun e x' ⟨h1, h2⟩ => ⟨_, h1, by rw [hU, hV, hZ], h2⟩
      have HX : Hid (F0 (S0.getD i 0) (S1.getD i 0) (S2.getD i 0) = U ∧ F1 (S0.getD i 0) (S1.getD i 0) (S2.getD i 0) = V ∧ F2 (S0.getD i 0) (S1.getD i 0) (S2.getD i 0) = Z) := by rw [hx0, hx1, hx2]; exact ⟨hU, hV, hZ⟩
      clear hx0 hx1 hx2 hU hV hZ lx0 lx1 lx2 self
      have n0 := qw_some wr
      have f0 := qw_cell m1r
      have f1 := qw_cell c0
      have f2 := qw_cell c1
      have f3 := qw_cell c2
      go_wp2_with fail
      refine wp_region_mk [0, 1, 2, 3, 4, 5, 6, 7, 8, 9, 10, 11, 12, 13, 14] [[15, 16, 17], [16, 15, 17]] 3 _ (by kernel_rfl) (by kernel_rfl) rfl (by kernel_rfl) ?_
      simp only [List.filterMap_cons, List.filterMap_nil, List.getElem?_cons_zero, List.getElem?_cons_succ]
      repeat (first | go_big_quiet_step (fail) | quiet_step (fail))
      refine wpQuiet_nil ?_
      intro x hx
      clear f0 f1 f2 f3 n0
      refine tree2 15 16 rfl rfl rfl (does_call (run_val 37 f #[recv] #[.tmp 50] _ rfl (by simp [Act.eval]) HF.out.en (vs := #[recv, .agg #[.int .u32 (x0 : Int), .int .u32 (x1 : Int), .int .u32 (x2 : Int)]]) (by simp [Act.eval])) ((HC.out x).mono ?_)) (does_value (v := .pointer (some ⟨x.heap.size, 0, none⟩)) (x' := x.alloc (Obj.cells #[Value.int IntKind.u32 0, Value.int IntKind.u32 0, Value.int IntKind.u32 0] 91)) (by simp [execOp, go_sem]) ⟨fun _ => hx.cells _ _, ?_⟩)
      · rintro e x5 ⟨u, rfl, rfl, q5⟩
        refine ⟨_, rfl, fun _ => hx.trans q5, ?_⟩
        refine tree_run 16 rfl rfl (v := .pointer (some ⟨x5.heap.size, 0, none⟩)) (x' := x5.alloc (Obj.cells #[Value.int IntKind.u32 0, Value.int IntKind.u32 0, Value.int IntKind.u32 0] 91)) (by simp [execOp, go_sem]) ((hx.trans q5).cells _ _) ?_
        have hq7 : Q wr (x5.alloc (Obj.cells #[Value.int IntKind.u32 0, Value.int IntKind.u32 0, Value.int IntKind.u32 0] 91)) := (hx.trans q5).cells _ _
        have d0 : (x5.alloc (Obj.cells #[Value.int IntKind.u32 0, Value.int IntKind.u32 0, Value.int IntKind.u32 0] 91)).cell? ⟨x5.heap.size, 0, none⟩ = some (.int .u32 0) := by simp [go_sem]
        have d1 : (x5.alloc (Obj.cells #[Value.int IntKind.u32 0, Value.int IntKind.u32 0, Value.int IntKind.u32 0] 91)).cell? ⟨x5.heap.size, 1, none⟩ = some (.int .u32 0) := by simp [go_sem]
        have d2 : (x5.alloc (Obj.cells #[Value.int IntKind.u32 0, Value.int IntKind.u32 0, Value.int IntKind.u32 0] 91)).cell? ⟨x5.heap.size, 2, none⟩ = some (.int .u32 0) := by simp [go_sem]
        have df : ∀ j, (x5.alloc (Obj.cells #[Value.int IntKind.u32 0, Value.int IntKind.u32 0, Value.int IntKind.u32 0] 91)).frozen? ⟨x5.heap.size, j, none⟩ = false := fun j => by simp [go_sem]
        have hmb : wr.heap.size ≤ x5.heap.size := (hx.trans q5).1.size
        generalize x5.alloc (Obj.cells #[Value.int IntKind.u32 0, Value.int IntKind.u32 0, Value.int IntKind.u32 0] 91) = x7 at *
        generalize x5.heap.size = mb at *
        refine tree_skipF 17 rfl rfl rfl (x' := (((x7.setCell ⟨mb, 0, none⟩ (.int .u32 (U : Int))).setCell ⟨mb, 1, none⟩ (.int .u32 (V : Int))).setCell ⟨mb, 2, none⟩ (.int .u32 (Z : Int)))) (by simp [execOp, go_sem, d0, d1, d2, df]) ?_
        refine tree_nil ?_
        have e0 : (((x7.setCell ⟨mb, 0, none⟩ (.int .u32 (U : Int))).setCell ⟨mb, 1, none⟩ (.int .u32 (V : Int))).setCell ⟨mb, 2, none⟩ (.int .u32 (Z : Int))).cell? ⟨mb, 0, none⟩ = some (.int .u32 (U : Int)) := by simp [go_sem, d0, d1, d2]
        have e1 : (((x7.setCell ⟨mb, 0, none⟩ (.int .u32 (U : Int))).setCell ⟨mb, 1, none⟩ (.int .u32 (V : Int))).setCell ⟨mb, 2, none⟩ (.int .u32 (Z : Int))).cell? ⟨mb, 1, none⟩ = some (.int .u32 (V : Int)) := by simp [go_sem, d0, d1, d2]
        have e2 : (((x7.setCell ⟨mb, 0, none⟩ (.int .u32 (U : Int))).setCell ⟨mb, 1, none⟩ (.int .u32 (V : Int))).setCell ⟨mb, 2, none⟩ (.int .u32 (Z : Int))).cell? ⟨mb, 2, none⟩ = some (.int .u32 (Z : Int)) := by simp [go_sem, d0, d1, d2]
        have hq8 : Q wr (((x7.setCell ⟨mb, 0, none⟩ (.int .u32 (U : Int))).setCell ⟨mb, 1, none⟩ (.int .u32 (V : Int))).setCell ⟨mb, 2, none⟩ (.int .u32 (Z : Int))) := ((hq7.set hmb _).set hmb _).set hmb _
        generalize (((x7.setCell ⟨mb, 0, none⟩ (.int .u32 (U : Int))).setCell ⟨mb, 1, none⟩ (.int .u32 (V : Int))).setCell ⟨mb, 2, none⟩ (.int .u32 (Z : Int))) = x8 at *
        have HW8 : Hid (W3 w4 x8 y0 y1 y2 NN (mixT F0 S0 S1 S2 S0 i) (mixT F1 S0 S1 S2 S1 i) (mixT F2 S0 S1 S2 S2 i)) := HW3r.out.next hq8
        have HW8d : Hid (W3 w4 x8.drew y0 y1 y2 NN (mixT F0 S0 S1 S2 S0 i) (mixT F1 S0 S1 S2 S1 i) (mixT F2 S0 S1 S2 S2 i)) := HW8.out.next (Q.refl x8).drew
        have HQ8 : Hid (Q w x8) := HQr.out.trans hq8
        have nm : mb ≠ y0.g ∧ mb ≠ y1.g ∧ mb ≠ y2.g := by have := HW3r.out.fr.size; have := q24.1.size; omega
        have a0' := HW8d.out.u0 i hi
        have a1' := HW8d.out.u1 i hi
        have a2' := HW8d.out.u2 i hi
        have z0 : x8.drew.frozen? ⟨y0.g, y0.o + i, none⟩ = false := (HW8d.out.fr.frz _).trans (K0.out.free _)
        have z1 : x8.drew.frozen? ⟨y1.g, y1.o + i, none⟩ = false := (HW8d.out.fr.frz _).trans (K1.out.free _)
        have z2 : x8.drew.frozen? ⟨y2.g, y2.o + i, none⟩ = false := (HW8d.out.fr.frz _).trans (K2.out.free _)
        obtain ⟨o01, o02, o12, _⟩ := N.out
        have a1'' : (x8.drew.setCell ⟨y0.g, y0.o + i, none⟩ (.int .u32 (U : Int))).cell? ⟨y1.g, y1.o + i, none⟩ = some (.int .u32 ((mixT F1 S0 S1 S2 S1 i i : Nat) : Int)) := (World.cell?_setCell_other _ _ _ _ (by simp <;> omega)).trans a1'
        have a2'' : ((x8.drew.setCell ⟨y0.g, y0.o + i, none⟩ (.int .u32 (U : Int))).setCell ⟨y1.g, y1.o + i, none⟩ (.int .u32 (V : Int))).cell? ⟨y2.g, y2.o + i, none⟩ = some (.int .u32 ((mixT F2 S0 S1 S2 S2 i i : Nat) : Int)) := (World.cell?_setCell_other _ _ _ _ (by simp <;> omega)).trans ((World.cell?_setCell_other _ _ _ _ (by simp <;> omega)).trans a2')
        have z1' : (x8.drew.setCell ⟨y0.g, y0.o + i, none⟩ (.int .u32 (U : Int))).frozen? ⟨y1.g, y1.o + i, none⟩ = false := by rw [World.frozen?_setCell]; exact z1
        have z2' : ((x8.drew.setCell ⟨y0.g, y0.o + i, none⟩ (.int .u32 (U : Int))).setCell ⟨y1.g, y1.o + i, none⟩ (.int .u32 (V : Int))).frozen? ⟨y2.g, y2.o + i, none⟩ = false := by rw [World.frozen?_setCell, World.frozen?_setCell]; exact z2
        have D0 : (fun x : World => x.cell? ⟨mb, 0, none⟩ = some (.int .u32 (U : Int)) ∧ x.cell? ⟨mb, 1, none⟩ = some (.int .u32 (V : Int)) ∧ x.cell? ⟨mb, 2, none⟩ = some (.int .u32 (Z : Int))) x8.drew := ⟨e0, e1, e2⟩
        have D1 : (fun x : World => x.cell? ⟨mb, 0, none⟩ = some (.int .u32 (U : Int)) ∧ x.cell? ⟨mb, 1, none⟩ = some (.int .u32 (V : Int)) ∧ x.cell? ⟨mb, 2, none⟩ = some (.int .u32 (Z : Int))) (x8.drew.setCell ⟨y0.g, y0.o + i, none⟩ (.int .u32 (U : Int))) := ⟨(World.cell?_setCell_other _ _ _ _ (by simp <;> omega)).trans D0.1, (World.cell?_setCell_other _ _ _ _ (by simp <;> omega)).trans D0.2.1, (World.cell?_setCell_other _ _ _ _ (by simp <;> omega)).trans D0.2.2⟩
        have D2 : (fun x : World => x.cell? ⟨mb, 0, none⟩ = some (.int .u32 (U : Int)) ∧ x.cell? ⟨mb, 1, none⟩ = some (.int .u32 (V : Int)) ∧ x.cell? ⟨mb, 2, none⟩ = some (.int .u32 (Z : Int))) ((x8.drew.setCell ⟨y0.g, y0.o + i, none⟩ (.int .u32 (U : Int))).setCell ⟨y1.g, y1.o + i, none⟩ (.int .u32 (V : Int))) := ⟨(World.cell?_setCell_other _ _ _ _ (by simp <;> omega)).trans D1.1, (World.cell?_setCell_other _ _ _ _ (by simp <;> omega)).trans D1.2.1, (World.cell?_setCell_other _ _ _ _ (by simp <;> omega)).trans D1.2.2⟩
        have HW9 : Hid (W3 w4 (((x8.drew.setCell ⟨y0.g, y0.o + i, none⟩ (.int .u32 (U : Int))).setCell ⟨y1.g, y1.o + i, none⟩ (.int .u32 (V : Int))).setCell ⟨y2.g, y2.o + i, none⟩ (.int .u32 (Z : Int))) y0 y1 y2 NN (mixT F0 S0 S1 S2 S0 (i + 1)) (mixT F1 S0 S1 S2 S1 (i + 1)) (mixT F2 S0 S1 S2 S2 (i + 1))) := HW8d.out.set hi o01 o02 o12 HX.out.1 HX.out.2.1 HX.out.2.2
        have HQ9 : Hid (Q w (((x8.drew.setCell ⟨y0.g, y0.o + i, none⟩ (.int .u32 (U : Int))).setCell ⟨y1.g, y1.o + i, none⟩ (.int .u32 (V : Int))).setCell ⟨y2.g, y2.o + i, none⟩ (.int .u32 (Z : Int)))) := ((HQ8.out.drew.set (by show w.heap.size ≤ y0.g; omega) _).set (by show w.heap.size ≤ y1.g; omega) _).set (by show w.heap.size ≤ y2.g; omega) _
        have HD : Hid ((fun x : World => x.cell? ⟨mb, 0, none⟩ = some (.int .u32 (U : Int)) ∧ x.cell? ⟨mb, 1, none⟩ = some (.int .u32 (V : Int)) ∧ x.cell? ⟨mb, 2, none⟩ = some (.int .u32 (Z : Int))) x8.drew ∧ (fun x : World => x.cell? ⟨mb, 0, none⟩ = some (.int .u32 (U : Int)) ∧ x.cell? ⟨mb, 1, none⟩ = some (.int .u32 (V : Int)) ∧ x.cell? ⟨mb, 2, none⟩ = some (.int .u32 (Z : Int))) (x8.drew.setCell ⟨y0.g, y0.o + i, none⟩ (.int .u32 (U : Int))) ∧ (fun x : World => x.cell? ⟨mb, 0, none⟩ = some (.int .u32 (U : Int)) ∧ x.cell? ⟨mb, 1, none⟩ = some (.int .u32 (V : Int)) ∧ x.cell? ⟨mb, 2, none⟩ = some (.int .u32 (Z : Int))) ((x8.drew.setCell ⟨y0.g, y0.o + i, none⟩ (.int .u32 (U : Int))).setCell ⟨y1.g, y1.o + i, none⟩ (.int .u32 (V : Int)))) := ⟨D0, D1, D2⟩
        clear D0 D1 D2 d0 d1 d2 df e0 e1 e2 c0 c1 c2 m1r hq7 hq8 hx
        go_wp2_with fail
        have n0 := cw_some (D := (fun x : World => x.cell? ⟨mb, 0, none⟩ = some (.int .u32 (U : Int)) ∧ x.cell? ⟨mb, 1, none⟩ = some (.int .u32 (V : Int)) ∧ x.cell? ⟨mb, 2, none⟩ = some (.int .u32 (Z : Int)))) HD.out.1
        have f0 := fun n : CW (fun x : World => x.cell? ⟨mb, 0, none⟩ = some (.int .u32 (U : Int)) ∧ x.cell? ⟨mb, 1, none⟩ = some (.int .u32 (V : Int)) ∧ x.cell? ⟨mb, 2, none⟩ = some (.int .u32 (Z : Int))) => n.h.1
        have f1 := fun n : CW (fun x : World => x.cell? ⟨mb, 0, none⟩ = some (.int .u32 (U : Int)) ∧ x.cell? ⟨mb, 1, none⟩ = some (.int .u32 (V : Int)) ∧ x.cell? ⟨mb, 2, none⟩ = some (.int .u32 (Z : Int))) => n.h.2.1
        have f2 := fun n : CW (fun x : World => x.cell? ⟨mb, 0, none⟩ = some (.int .u32 (U : Int)) ∧ x.cell? ⟨mb, 1, none⟩ = some (.int .u32 (V : Int)) ∧ x.cell? ⟨mb, 2, none⟩ = some (.int .u32 (Z : Int))) => n.h.2.2
        refine wp_region_mkP [0, 1, 2, 3, 4, 5, 6, 7, 8, 9, 10, 11] [[12, 13, 14, 15, 16, 17]] 6 _ (fun x : World => x.cell? ⟨mb, 0, none⟩ = some (.int .u32 (U : Int)) ∧ x.cell? ⟨mb, 1, none⟩ = some (.int .u32 (V : Int)) ∧ x.cell? ⟨mb, 2, none⟩ = some (.int .u32 (Z : Int))) (by kernel_rfl) (by kernel_rfl) rfl (by kernel_rfl) HD.out.1 ?_
        simp only [List.filterMap_cons, List.filterMap_nil, List.getElem?_cons_zero, List.getElem?_cons_succ]
        repeat (first | go_big_quiet_step (fail) | quiet_step (fail))
        refine wpQuiet_nil ?_
        clear f0 f1 f2 n0
        refine tree_run 12 rfl rfl (v := .pointer (some ⟨y0.g, y0.o + i, none⟩)) (x' := x8.drew) (by simp [execOp, go_sem, hi0, hi1]) HD.out.1 ?_
        refine tree_skip 13 rfl rfl (x' := (x8.drew.setCell ⟨y0.g, y0.o + i, none⟩ (.int .u32 (U : Int)))) (by simp [execOp, go_sem, a0', z0]) HD.out.2.1 ?_
        refine tree_run 14 rfl rfl (v := .pointer (some ⟨y1.g, y1.o + i, none⟩)) (x' := (x8.drew.setCell ⟨y0.g, y0.o + i, none⟩ (.int .u32 (U : Int)))) (by simp [execOp, go_sem, hi0, hi1]) HD.out.2.1 ?_
        refine tree_skip 15 rfl rfl (x' := ((x8.drew.setCell ⟨y0.g, y0.o + i, none⟩ (.int .u32 (U : Int))).setCell ⟨y1.g, y1.o + i, none⟩ (.int .u32 (V : Int)))) (run_store1 rfl (by simp [Act.eval, Act.put]) (by simp [Act.eval, Act.put]) a1'' z1') HD.out.2.2 ?_
        refine tree_runF 16 rfl rfl rfl (v := .pointer (some ⟨y2.g, y2.o + i, none⟩)) (x' := ((x8.drew.setCell ⟨y0.g, y0.o + i, none⟩ (.int .u32 (U : Int))).setCell ⟨y1.g, y1.o + i, none⟩ (.int .u32 (V : Int)))) (by simp [execOp, go_sem, hi0, hi1]) ?_
        refine tree_skipF 17 rfl rfl rfl (x' := (((x8.drew.setCell ⟨y0.g, y0.o + i, none⟩ (.int .u32 (U : Int))).setCell ⟨y1.g, y1.o + i, none⟩ (.int .u32 (V : Int))).setCell ⟨y2.g, y2.o + i, none⟩ (.int .u32 (Z : Int)))) (run_store1 rfl (by simp [Act.eval, Act.put]) (by simp [Act.eval, Act.put]) a2'' z2') ?_
        refine tree_nil ?_
        clear a0' a1' a2' a1'' a2'' z0 z1 z2 z1' z2' HD
        generalize (((x8.drew.setCell ⟨y0.g, y0.o + i, none⟩ (.int .u32 (U : Int))).setCell ⟨y1.g, y1.o + i, none⟩ (.int .u32 (V : Int))).setCell ⟨y2.g, y2.o + i, none⟩ (.int .u32 (Z : Int))) = x9 at *
        go_wp2_with fail
        go_roundg (NN - (i + 1))
        case measure => go_light; omega
        case rel => go_light; exact ⟨i + 1, by go_num, by omega, HW9, HQ9⟩
      · have hx1 : Q wr (x.alloc (Obj.cells #[Value.int IntKind.u32 0, Value.int IntKind.u32 0, Value.int IntKind.u32 0] 91)) := hx.cells _ _
        refine tree_call 15 rfl rfl (run_val 37 f #[recv] #[.tmp 50] _ rfl (by simp [Act.eval, Act.put]) HF.out.en (vs := #[recv, .agg #[.int .u32 (x0 : Int), .int .u32 (x1 : Int), .int .u32 (x2 : Int)]]) (by simp [Act.eval, Act.put])) (HC.out _) ?_
        rintro u x7 ⟨rfl, q7⟩
        have hq7 : Q wr x7 := hx1.trans q7
        refine ⟨hq7, ?_⟩
        have d0 : x7.cell? ⟨x.heap.size, 0, none⟩ = some (.int .u32 0) := q7.cell (by simp [go_sem])
        have d1 : x7.cell? ⟨x.heap.size, 1, none⟩ = some (.int .u32 0) := q7.cell (by simp [go_sem])
        have d2 : x7.cell? ⟨x.heap.size, 2, none⟩ = some (.int .u32 0) := q7.cell (by simp [go_sem])
        have df : ∀ j, x7.frozen? ⟨x.heap.size, j, none⟩ = false := fun j => (q7.2 _).trans (by simp [go_sem])
        have hmb : wr.heap.size ≤ x.heap.size := hx.1.size
        clear hx1 q7
        generalize x.heap.size = mb at *
        refine tree_skipF 17 rfl rfl rfl (x' := (((x7.setCell ⟨mb, 0, none⟩ (.int .u32 (U : Int))).setCell ⟨mb, 1, none⟩ (.int .u32 (V : Int))).setCell ⟨mb, 2, none⟩ (.int .u32 (Z : Int)))) (by simp [execOp, go_sem, d0, d1, d2, df]) ?_
        refine tree_nil ?_
        have e0 : (((x7.setCell ⟨mb, 0, none⟩ (.int .u32 (U : Int))).setCell ⟨mb, 1, none⟩ (.int .u32 (V : Int))).setCell ⟨mb, 2, none⟩ (.int .u32 (Z : Int))).cell? ⟨mb, 0, none⟩ = some (.int .u32 (U : Int)) := by simp [go_sem, d0, d1, d2]
        have e1 : (((x7.setCell ⟨mb, 0, none⟩ (.int .u32 (U : Int))).setCell ⟨mb, 1, none⟩ (.int .u32 (V : Int))).setCell ⟨mb, 2, none⟩ (.int .u32 (Z : Int))).cell? ⟨mb, 1, none⟩ = some (.int .u32 (V : Int)) := by simp [go_sem, d0, d1, d2]
        have e2 : (((x7.setCell ⟨mb, 0, none⟩ (.int .u32 (U : Int))).setCell ⟨mb, 1, none⟩ (.int .u32 (V : Int))).setCell ⟨mb, 2, none⟩ (.int .u32 (Z : Int))).cell? ⟨mb, 2, none⟩ = some (.int .u32 (Z : Int)) := by simp [go_sem, d0, d1, d2]
        have hq8 : Q wr (((x7.setCell ⟨mb, 0, none⟩ (.int .u32 (U : Int))).setCell ⟨mb, 1, none⟩ (.int .u32 (V : Int))).setCell ⟨mb, 2, none⟩ (.int .u32 (Z : Int))) := ((hq7.set hmb _).set hmb _).set hmb _
        generalize (((x7.setCell ⟨mb, 0, none⟩ (.int .u32 (U : Int))).setCell ⟨mb, 1, none⟩ (.int .u32 (V : Int))).setCell ⟨mb, 2, none⟩ (.int .u32 (Z : Int))) = x8 at *
        have HW8 : Hid (W3 w4 x8 y0 y1 y2 NN (mixT F0 S0 S1 S2 S0 i) (mixT F1 S0 S1 S2 S1 i) (mixT F2 S0 S1 S2 S2 i)) := HW3r.out.next hq8
        have HW8d : Hid (W3 w4 x8.drew y0 y1 y2 NN (mixT F0 S0 S1 S2 S0 i) (mixT F1 S0 S1 S2 S1 i) (mixT F2 S0 S1 S2 S2 i)) := HW8.out.next (Q.refl x8).drew
        have HQ8 : Hid (Q w x8) := HQr.out.trans hq8
        have nm : mb ≠ y0.g ∧ mb ≠ y1.g ∧ mb ≠ y2.g := by have := HW3r.out.fr.size; have := q24.1.size; omega
        have a0' := HW8d.out.u0 i hi
        have a1' := HW8d.out.u1 i hi
        have a2' := HW8d.out.u2 i hi
        have z0 : x8.drew.frozen? ⟨y0.g, y0.o + i, none⟩ = false := (HW8d.out.fr.frz _).trans (K0.out.free _)
        have z1 : x8.drew.frozen? ⟨y1.g, y1.o + i, none⟩ = false := (HW8d.out.fr.frz _).trans (K1.out.free _)
        have z2 : x8.drew.frozen? ⟨y2.g, y2.o + i, none⟩ = false := (HW8d.out.fr.frz _).trans (K2.out.free _)
        obtain ⟨o01, o02, o12, _⟩ := N.out
        have a1'' : (x8.drew.setCell ⟨y0.g, y0.o + i, none⟩ (.int .u32 (U : Int))).cell? ⟨y1.g, y1.o + i, none⟩ = some (.int .u32 ((mixT F1 S0 S1 S2 S1 i i : Nat) : Int)) := (World.cell?_setCell_other _ _ _ _ (by simp <;> omega)).trans a1'
        have a2'' : ((x8.drew.setCell ⟨y0.g, y0.o + i, none⟩ (.int .u32 (U : Int))).setCell ⟨y1.g, y1.o + i, none⟩ (.int .u32 (V : Int))).cell? ⟨y2.g, y2.o + i, none⟩ = some (.int .u32 ((mixT F2 S0 S1 S2 S2 i i : Nat) : Int)) := (World.cell?_setCell_other _ _ _ _ (by simp <;> omega)).trans ((World.cell?_setCell_other _ _ _ _ (by simp <;> omega)).trans a2')
        have z1' : (x8.drew.setCell ⟨y0.g, y0.o + i, none⟩ (.int .u32 (U : Int))).frozen? ⟨y1.g, y1.o + i, none⟩ = false := by rw [World.frozen?_setCell]; exact z1
        have z2' : ((x8.drew.setCell ⟨y0.g, y0.o + i, none⟩ (.int .u32 (U : Int))).setCell ⟨y1.g, y1.o + i, none⟩ (.int .u32 (V : Int))).frozen? ⟨y2.g, y2.o + i, none⟩ = false := by rw [World.frozen?_setCell, World.frozen?_setCell]; exact z2
        have D0 : (fun x : World => x.cell? ⟨mb, 0, none⟩ = some (.int .u32 (U : Int)) ∧ x.cell? ⟨mb, 1, none⟩ = some (.int .u32 (V : Int)) ∧ x.cell? ⟨mb, 2, none⟩ = some (.int .u32 (Z : Int))) x8.drew := ⟨e0, e1, e2⟩
        have D1 : (fun x : World => x.cell? ⟨mb, 0, none⟩ = some (.int .u32 (U : Int)) ∧ x.cell? ⟨mb, 1, none⟩ = some (.int .u32 (V : Int)) ∧ x.cell? ⟨mb, 2, none⟩ = some (.int .u32 (Z : Int))) (x8.drew.setCell ⟨y0.g, y0.o + i, none⟩ (.int .u32 (U : Int))) := ⟨(World.cell?_setCell_other _ _ _ _ (by simp <;> omega)).trans D0.1, (World.cell?_setCell_other _ _ _ _ (by simp <;> omega)).trans D0.2.1, (World.cell?_setCell_other _ _ _ _ (by simp <;> omega)).trans D0.2.2⟩
        have D2 : (fun x : World => x.cell? ⟨mb, 0, none⟩ = some (.int .u32 (U : Int)) ∧ x.cell? ⟨mb, 1, none⟩ = some (.int .u32 (V : Int)) ∧ x.cell? ⟨mb, 2, none⟩ = some (.int .u32 (Z : Int))) ((x8.drew.setCell ⟨y0.g, y0.o + i, none⟩ (.int .u32 (U : Int))).setCell ⟨y1.g, y1.o + i, none⟩ (.int .u32 (V : Int))) := ⟨(World.cell?_setCell_other _ _ _ _ (by simp <;> omega)).trans D1.1, (World.cell?_setCell_other _ _ _ _ (by simp <;> omega)).trans D1.2.1, (World.cell?_setCell_other _ _ _ _ (by simp <;> omega)).trans D1.2.2⟩
        have HW9 : Hid (W3 w4 (((x8.drew.setCell ⟨y0.g, y0.o + i, none⟩ (.int .u32 (U : Int))).setCell ⟨y1.g, y1.o + i, none⟩ (.int .u32 (V : Int))).setCell ⟨y2.g, y2.o + i, none⟩ (.int .u32 (Z : Int))) y0 y1 y2 NN (mixT F0 S0 S1 S2 S0 (i + 1)) (mixT F1 S0 S1 S2 S1 (i + 1)) (mixT F2 S0 S1 S2 S2 (i + 1))) := HW8d.out.set hi o01 o02 o12 HX.out.1 HX.out.2.1 HX.out.2.2
        have HQ9 : Hid (Q w (((x8.drew.setCell ⟨y0.g, y0.o + i, none⟩ (.int .u32 (U : Int))).setCell ⟨y1.g, y1.o + i, none⟩ (.int .u32 (V : Int))).setCell ⟨y2.g, y2.o + i, none⟩ (.int .u32 (Z : Int)))) := ((HQ8.out.drew.set (by show w.heap.size ≤ y0.g; omega) _).set (by show w.heap.size ≤ y1.g; omega) _).set (by show w.heap.size ≤ y2.g; omega) _
        have HD : Hid ((fun x : World => x.cell? ⟨mb, 0, none⟩ = some (.int .u32 (U : Int)) ∧ x.cell? ⟨mb, 1, none⟩ = some (.int .u32 (V : Int)) ∧ x.cell? ⟨mb, 2, none⟩ = some (.int .u32 (Z : Int))) x8.drew ∧ (fun x : World => x.cell? ⟨mb, 0, none⟩ = some (.int .u32 (U : Int)) ∧ x.cell? ⟨mb, 1, none⟩ = some (.int .u32 (V : Int)) ∧ x.cell? ⟨mb, 2, none⟩ = some (.int .u32 (Z : Int))) (x8.drew.setCell ⟨y0.g, y0.o + i, none⟩ (.int .u32 (U : Int))) ∧ (fun x : World => x.cell? ⟨mb, 0, none⟩ = some (.int .u32 (U : Int)) ∧ x.cell? ⟨mb, 1, none⟩ = some (.int .u32 (V : Int)) ∧ x.cell? ⟨mb, 2, none⟩ = some (.int .u32 (Z : Int))) ((x8.drew.setCell ⟨y0.g, y0.o + i, none⟩ (.int .u32 (U : Int))).setCell ⟨y1.g, y1.o + i, none⟩ (.int .u32 (V : Int)))) := ⟨D0, D1, D2⟩
        clear D0 D1 D2 d0 d1 d2 df e0 e1 e2 c0 c1 c2 m1r hq7 hq8 hx
        go_wp2_with fail
        have n0 := cw_some (D := (fun x : World => x.cell? ⟨mb, 0, none⟩ = some (.int .u32 (U : Int)) ∧ x.cell? ⟨mb, 1, none⟩ = some (.int .u32 (V : Int)) ∧ x.cell? ⟨mb, 2, none⟩ = some (.int .u32 (Z : Int)))) HD.out.1
        have f0 := fun n : CW (fun x : World => x.cell? ⟨mb, 0, none⟩ = some (.int .u32 (U : Int)) ∧ x.cell? ⟨mb, 1, none⟩ = some (.int .u32 (V : Int)) ∧ x.cell? ⟨mb, 2, none⟩ = some (.int .u32 (Z : Int))) => n.h.1
        have f1 := fun n : CW (fun x : World => x.cell? ⟨mb, 0, none⟩ = some (.int .u32 (U : Int)) ∧ x.cell? ⟨mb, 1, none⟩ = some (.int .u32 (V : Int)) ∧ x.cell? ⟨mb, 2, none⟩ = some (.int .u32 (Z : Int))) => n.h.2.1
        have f2 := fun n : CW (fun x : World => x.cell? ⟨mb, 0, none⟩ = some (.int .u32 (U : Int)) ∧ x.cell? ⟨mb, 1, none⟩ = some (.int .u32 (V : Int)) ∧ x.cell? ⟨mb, 2, none⟩ = some (.int .u32 (Z : Int))) => n.h.2.2
        refine wp_region_mkP [0, 1, 2, 3, 4, 5, 6, 7, 8, 9, 10, 11] [[12, 13, 14, 15, 16, 17]] 6 _ (fun x : World => x.cell? ⟨mb, 0, none⟩ = some (.int .u32 (U : Int)) ∧ x.cell? ⟨mb, 1, none⟩ = some (.int .u32 (V : Int)) ∧ x.cell? ⟨mb, 2, none⟩ = some (.int .u32 (Z : Int))) (by kernel_rfl) (by kernel_rfl) rfl (by kernel_rfl) HD.out.1 ?_
        simp only [List.filterMap_cons, List.filterMap_nil, List.getElem?_cons_zero, List.getElem?_cons_succ]
        repeat (first | go_big_quiet_step (fail) | quiet_step (fail))
        refine wpQuiet_nil ?_
        clear f0 f1 f2 n0
        refine tree_run 12 rfl rfl (v := .pointer (some ⟨y0.g, y0.o + i, none⟩)) (x' := x8.drew) (by simp [execOp, go_sem, hi0, hi1]) HD.out.1 ?_
        refine tree_skip 13 rfl rfl (x' := (x8.drew.setCell ⟨y0.g, y0.o + i, none⟩ (.int .u32 (U : Int)))) (by simp [execOp, go_sem, a0', z0]) HD.out.2.1 ?_
        refine tree_run 14 rfl rfl (v := .pointer (some ⟨y1.g, y1.o + i, none⟩)) (x' := (x8.drew.setCell ⟨y0.g, y0.o + i, none⟩ (.int .u32 (U : Int)))) (by simp [execOp, go_sem, hi0, hi1]) HD.out.2.1 ?_
        refine tree_skip 15 rfl rfl (x' := ((x8.drew.setCell ⟨y0.g, y0.o + i, none⟩ (.int .u32 (U : Int))).setCell ⟨y1.g, y1.o + i, none⟩ (.int .u32 (V : Int)))) (run_store1 rfl (by simp [Act.eval, Act.put]) (by simp [Act.eval, Act.put]) a1'' z1') HD.out.2.2 ?_
        refine tree_runF 16 rfl rfl rfl (v := .pointer (some ⟨y2.g, y2.o + i, none⟩)) (x' := ((x8.drew.setCell ⟨y0.g, y0.o + i, none⟩ (.int .u32 (U : Int))).setCell ⟨y1.g, y1.o + i, none⟩ (.int .u32 (V : Int)))) (by simp [execOp, go_sem, hi0, hi1]) ?_
        refine tree_skipF 17 rfl rfl rfl (x' := (((x8.drew.setCell ⟨y0.g, y0.o + i, none⟩ (.int .u32 (U : Int))).setCell ⟨y1.g, y1.o + i, none⟩ (.int .u32 (V : Int))).setCell ⟨y2.g, y2.o + i, none⟩ (.int .u32 (Z : Int)))) (run_store1 rfl (by simp [Act.eval, Act.put]) (by simp [Act.eval, Act.put]) a2'' z2') ?_
        refine tree_nil ?_
        clear a0' a1' a2' a1'' a2'' z0 z1 z2 z1' z2' HD
        generalize (((x8.drew.setCell ⟨y0.g, y0.o + i, none⟩ (.int .u32 (U : Int))).setCell ⟨y1.g, y1.o + i, none⟩ (.int .u32 (V : Int))).setCell ⟨y2.g, y2.o + i, none⟩ (.int .u32 (Z : Int))) = x9 at *
        go_wp2_with fail
        go_roundg (NN - (i + 1))
        case measure => go_light; omega
        case rel => go_light; exact ⟨i + 1, by go_num, by omega, HW9, HQ9⟩
    · have hie : i = NN := by omega
      have W9 : Hid (W3 w4 wr y0 y1 y2 NN (mixT F0 S0 S1 S2 S0 NN) (mixT F1 S0 S1 S2 S1 NN) (mixT F2 S0 S1 S2 S2 NN)) := by rw [hie] at HW3r; exact HW3r
      have far : ∀ b, b < w.heap.size + 3 → b ≠ y0.g ∧ b ≠ y1.g ∧ b ≠ y2.g := fun b hb => by omega
      have t0r := W9.out.fr.cell t0 ⟨by show w2.heap.size ≠ _; omega, by show w2.heap.size ≠ _; omega, by show w2.heap.size ≠ _; omega⟩
      have t1r := W9.out.fr.cell t1 ⟨by show w2.heap.size ≠ _; omega, by show w2.heap.size ≠ _; omega, by show w2.heap.size ≠ _; omega⟩
      have r0r := W9.out.fr.cell r0 (far _ (by show w.heap.size + 1 + 1 < _; omega))
      have r1r := W9.out.fr.cell r1 (far _ (by show w.heap.size + 1 + 1 < _; omega))
      have rfr : ∀ j, wr.frozen? ⟨w.heap.size + 1 + 1, j, none⟩ = false := fun j => (W9.out.fr.frz _).trans (rf j)
      go_wp2_with fail
      have HW9 : Nw (w.heap.size + 3) wr g1 cap1 a b ({ y0 with S := mix3 F0 S0 S1 S2 } :: { y1 with S := mix3 F1 S0 S1 S2 } :: { y2 with S := mix3 F2 S0 S1 S2 } :: Mr) := by
        have := W9.out
        rw [← HNN.out] at this
        exact HW4.out.mixed HS.out this HF.out.lt
      have F9 : Fr wr ((wr.setCell ⟨w.heap.size + 1 + 1, 0, none⟩ (.int .i64 sp2)).setCell ⟨w.heap.size + 1 + 1, 1, none⟩ (.slice (some ⟨g1, 0, none⟩) n cap1)) (fun b => b ≠ w.heap.size + 1 + 1) := ((Fr.refl wr _).set (fun h => h rfl) _).set (fun h => h rfl) _
      refine bodyPost_ret (v := .agg #[.int .i64 sp2, .slice (some ⟨g1, 0, none⟩) n cap1]) (by simp [results, Try.results25, go_sem, r0r, r1r]) rfl ⟨g1, cap1, _, rfl, ?_, (HW9.keep F9 (by have := HW9.low; omega) (fun x hx => by have := (HW9.it x hx).1.low; omega)).mono (by omega), (HQr.out.set (by show _ ≤ w.heap.size + 1 + 1; omega) _).set (by show _ ≤ w.heap.size + 1 + 1; omega) _⟩
      rw [← HMS.out]
      simp only [List.map_cons, mixL, HS.out.1, HS.out.2.1, HS.out.2.2]
end Go.Proofs.Ytdempklpmggdoaa
/- Check: the walk. -/
namespace Go.Proofs.Ytdempklpmggdoaa
open Go.RowKit
set_option linter.unusedVariables false
set_option linter.unusedSimpArgs false

set_option maxHeartbeats 8000000 in
set_option maxRecDepth 100000 in
theorem pcheck_any (w : World) (sp : Int) (v : Value) (D : List PD) (h : DSl w v D) (hl : ∀ x ∈ D, x.S.length ≤ 9223372036854775807) (hD : D.length ≤ 9223372036854775807) :
    Calls Try.prog 6 #[.agg #[.int .i64 sp, v]] w fun e w' => e = .returned (.int .i64 (chkP sp D)) ∧ Q w w' := by
  obtain ⟨ad, cap, rfl⟩ := h.form
  have HD : Hid (DSl w (.slice ad D.length cap) D) := h
  obtain ⟨n, hn⟩ : ∃ n, D.length = n := ⟨_, rfl⟩
  have HN : Hid (D.length = n) := hn
  have HL : Hid (∀ x ∈ D, x.S.length ≤ 9223372036854775807) := hl
  have q0 : Hid (∀ c t, Q w (w.alloc (.cells c t))) := fun c t => (Q.refl w).cells c t
  rw [hn] at hD ⊢
  clear h hn hl
  cases hnb : numB n
  · have A : ∀ w : World, Calls Try.prog 17 #[.int .i64 (n : Int)] w fun e w' => e = .returned (.bool false) ∧ w' = w := fun w => hnb ▸ isnumber_any n w
    have e : chkP sp D = 80 := by unfold chkP; rw [HN.out, hnb]; rfl
    rw [e]
    clear e hnb
    go_enter Try.func6, Try.ntmps6
    go_wp2_with fail
    refine (A _).mono ?_
    rintro e w1 ⟨rfl, rfl⟩
    go_wp2_with fail
    go_ret
    exact ⟨rfl, q0.out _ _⟩
  · have A : ∀ w : World, Calls Try.prog 17 #[.int .i64 (n : Int)] w fun e w' => e = .returned (.bool true) ∧ w' = w := fun w => hnb ▸ isnumber_any n w
    have hn14 : 1 ≤ n ∧ n ≤ 4 := by unfold numB at hnb; simp at hnb; omega
    have HNB : Hid (numB n = true) := hnb
    obtain ⟨g, o, c, e1, e2, e3⟩ := HD.out.some (by rw [HN.out]; omega)
    injection e1 with e1 e4 e5
    subst e1 e5
    have HI : Hid (DIs w g o D) := e3
    rw [HN.out] at e2
    clear e3 e4 hnb HD
    go_enter Try.func6, Try.ntmps6
    go_wp2_with fail
    refine (A _).mono ?_
    rintro e w1 ⟨rfl, rfl⟩
    go_wp2_with fail
    have HQ1 : Hid (Q w (w.alloc (Obj.cells #[Value.int IntKind.i64 sp, Value.slice (some { block := g, off := o }) n cap] 24))) := q0.out _ _
    have b0 : (w.alloc (Obj.cells #[Value.int IntKind.i64 sp, Value.slice (some { block := g, off := o }) n cap] 24)).cell? ⟨w.heap.size, 0, none⟩ = some (.int .i64 sp) := by simp [go_sem]
    have b1 : (w.alloc (Obj.cells #[Value.int IntKind.i64 sp, Value.slice (some { block := g, off := o }) n cap] 24)).cell? ⟨w.heap.size, 1, none⟩ = some (.slice (some ⟨g, o, none⟩) n cap) := by simp [go_sem]
    have HI1 : Hid (DIs (w.alloc (Obj.cells #[Value.int IntKind.i64 sp, Value.slice (some { block := g, off := o }) n cap] 24)) g o D) := HI.out.next HQ1.out
    generalize (w.alloc (Obj.cells #[Value.int IntKind.i64 sp, Value.slice (some { block := g, off := o }) n cap] 24)) = w1 at *
    go_loopg [16] n (fun m s16 wx => ∃ i : Nat, s16 = .int .i64 i ∧ i + m = n ∧ Hid (∀ (j : Nat) (y : PD), j < i → D[j]? = some y → y.chk = 0) ∧ Hid (Q w1 wx))
    case atStart => exact ⟨0, rfl, by omega, fun j y hj => absurd hj (Nat.not_lt_zero _), Q.refl _⟩
    case round =>
      obtain ⟨i, rfl, him, HC, HQ⟩ := hrel
      by_cases hi : i < n
      · have hi0 : (0 : Int) ≤ (i : Int) := by omega
        have hi1 : (i : Int) < (n : Int) := by omega
        obtain ⟨x, hx⟩ : ∃ x, D[i]? = some x := ⟨_, List.getElem?_eq_getElem (by rw [HN.out]; exact hi)⟩
        obtain ⟨c0, c1, c2, _⟩ := (HI1.out.next HQ.out) i x hx
        have hxl := HL.out x (List.mem_of_getElem? hx)
        have HX : Hid (D[i]? = some x) := hx
        clear hx
        go_wp2_with fail
        refine (check_any x.W x.H x.ad x.S.length x.cap hxl _).mono ?_
        rintro e w3 ⟨rfl, q3⟩
        have HQ3 : Hid (Q w1 w3) := (HQ.out.cells _ _).trans q3
        obtain ⟨ck, hck⟩ : ∃ ck, chk x.W x.H x.S.length = ck := ⟨_, rfl⟩
        have HCK : Hid (x.chk = ck) := hck
        rw [hck]
        clear hck q3 c0 c1 c2
        by_cases h0 : ck = 0
        · subst h0
          have HC' : Hid (∀ (j : Nat) (y : PD), j < i + 1 → D[j]? = some y → y.chk = 0) := fun j y hj hy => by
            by_cases e : j = i
            · subst e
              have := HX.out.symm.trans hy
              injection this with this
              rw [← this]; exact HCK.out
            · exact HC.out j y (by omega) hy
          go_wp2_with fail
          go_roundg (n - (i + 1))
          case measure => go_light; omega
          case rel => go_light; exact ⟨i + 1, by go_num, by omega, HC', HQ3⟩
        · have h1 : (ck != 0) = true := by rw [bne_iff_ne]; exact h0
          have h2 : (ck == 0) = false := by rw [beq_eq_false_iff_ne]; exact h0
          have HE : Hid (chkP sp D = ck) := by
            show chkP sp D = ck
            have := firstE_at HX.out HC.out (by rw [HCK.out]; exact h0)
            unfold chkP
            rw [HN.out, if_pos HNB.out, this, HCK.out, if_neg h0]
          clear h0
          go_wp2_with fail
          go_ret
          exact ⟨by rw [HE.out]; rfl, HQ1.out.trans HQ3.out⟩
      · have HF : Hid (firstE D = 0) := firstE_ok (fun j y hy => HC.out j y (by have := (List.getElem?_eq_some_iff.1 hy).1; rw [HN.out] at this; omega) hy)
        have p1 := HQ.out.cell b1
        go_wp2_with fail
        obtain ⟨d, hd⟩ : ∃ d, D[0]? = some d := ⟨_, List.getElem?_eq_getElem (by rw [HN.out]; omega)⟩
        have HD0 : Hid (D.getD 0 pd0 = d) := by show D.getD 0 pd0 = d; rw [List.getD_eq_getElem?_getD, hd]; rfl
        have HI0 : Hid (DIs w1 g o D) := HI1
        have hn1 : (0 : Int) < (n : Int) := by omega
        have hie : n ≤ i := by omega
        have QR : Hid (Q w1 wr) := HQ
        generalize wr = wo at *
        go_loopg [29] n (fun m s29 wx => ∃ i : Nat, s29 = .int .i64 i ∧ i + m = n ∧ Hid (∀ (j : Nat) (y : PD), j < i → D[j]? = some y → y.like d = true) ∧ Hid (Q w1 wx))
        case atStart => exact ⟨0, rfl, by omega, fun j y hj => absurd hj (Nat.not_lt_zero _), QR⟩
        case round =>
          obtain ⟨i, rfl, him, HC, HQ⟩ := hrel
          by_cases hi : i < n
          · have hi0 : (0 : Int) ≤ (i : Int) := by omega
            have hi1 : (i : Int) < (n : Int) := by omega
            obtain ⟨x, hx⟩ : ∃ x, D[i]? = some x := ⟨_, List.getElem?_eq_getElem (by rw [HN.out]; exact hi)⟩
            obtain ⟨c0, c1, c2, _⟩ := (HI1.out.next HQ.out) i x hx
            obtain ⟨d0, d1, d2, _⟩ := (HI1.out.next HQ.out) 0 d hd
            rw [Nat.zero_mul, Nat.add_zero] at d0 d1 d2
            have p1 := HQ.out.cell b1
            have HX : Hid (D[i]? = some x) := hx
            clear hx
            go_wp2_with fail
            have q3 : Q wr (wr.alloc (Obj.cells #[Value.int IntKind.i64 x.W, Value.int IntKind.i64 x.H, Value.slice x.ad x.S.length x.cap] 47)) := (Q.refl wr).cells _ _
            have k0 : (wr.alloc (Obj.cells #[Value.int IntKind.i64 x.W, Value.int IntKind.i64 x.H, Value.slice x.ad x.S.length x.cap] 47)).cell? ⟨wr.heap.size, 0, none⟩ = some (.int .i64 x.W) := by simp [go_sem]
            have k1 : (wr.alloc (Obj.cells #[Value.int IntKind.i64 x.W, Value.int IntKind.i64 x.H, Value.slice x.ad x.S.length x.cap] 47)).cell? ⟨wr.heap.size, 1, none⟩ = some (.int .i64 x.H) := by simp [go_sem]
            have k2 : (wr.alloc (Obj.cells #[Value.int IntKind.i64 x.W, Value.int IntKind.i64 x.H, Value.slice x.ad x.S.length x.cap] 47)).cell? ⟨wr.heap.size, 2, none⟩ = some (.slice x.ad x.S.length x.cap) := by simp [go_sem]
            generalize (wr.alloc (Obj.cells #[Value.int IntKind.i64 x.W, Value.int IntKind.i64 x.H, Value.slice x.ad x.S.length x.cap] 47)) = w3 at *
            have n0 := qw_some w3
            have f0 := qw_cell k0
            have f1 := qw_cell k1
            have f2 := qw_cell k2
            have f3 := qw_cell (q3.cell d0)
            have f4 := qw_cell (q3.cell d1)
            have f5 := qw_cell (q3.cell d2)
            have f6 := qw_cell (q3.cell p1)
            have HQ3 : Hid (Q w1 w3) := HQ.out.trans q3
            obtain ⟨bb, hbb⟩ : ∃ bb, x.like d = bb := ⟨_, rfl⟩
            have HO : Hid (∀ w : World, Calls Try.prog 19 #[.agg #[.int .i64 x.W, .int .i64 x.H, .slice x.ad x.S.length x.cap], .agg #[.int .i64 d.W, .int .i64 d.H, .slice d.ad d.S.length d.cap]] w fun e w' => e = .returned (.bool bb) ∧ Q w w') := fun w => by rw [← hbb]; exact onesize_any x.W x.H d.W d.H x.ad d.ad x.S.length x.cap d.S.length d.cap w
            have HBB : Hid (x.like d = bb) := hbb
            clear hbb k0 k1 k2 d0 d1 d2 p1 c0 c1 c2
            refine wp_region_quiet_Q (by kernel_rfl) (by kernel_rfl) ?_
            repeat (first | go_big_quiet_step (first | (go_at_call 19; exact calls_qw (HO.out _))) | quiet_step (first | (go_at_call 19; exact calls_qw (HO.out _))))
            refine wpQuiet_nil ?_
            intro w4 hw'
            have HQ4 : Hid (Q w1 w4) := HQ3.out.trans (qw_out hw')
            clear hw' f0 f1 f2 f3 f4 f5 f6 n0
            cases bb
            · have HE : Hid (chkP sp D = 80) := by
                show chkP sp D = 80
                unfold chkP
                rw [HN.out, if_pos HNB.out, if_pos HF.out, HD0.out, if_neg]
                intro hall
                have := List.all_eq_true.1 hall x (List.mem_of_getElem? HX.out)
                rw [HBB.out] at this; cases this
              go_wp2_with fail
              go_ret
              exact ⟨by rw [HE.out]; rfl, HQ1.out.trans HQ4.out⟩
            · have HC' : Hid (∀ (j : Nat) (y : PD), j < i + 1 → D[j]? = some y → y.like d = true) := fun j y hj hy => by
                by_cases e : j = i
                · subst e
                  have := HX.out.symm.trans hy
                  injection this with this
                  rw [← this]; exact HBB.out
                · exact HC.out j y (by omega) hy
              go_wp2_with fail
              go_roundg (n - (i + 1))
              case measure => go_light; omega
              case rel => go_light; exact ⟨i + 1, by go_num, by omega, HC', HQ4⟩
          · have HALL : Hid ((D.all fun x => x.like (D.getD 0 pd0)) = true) := by
              show _ = _
              rw [HD0.out, List.all_eq_true]
              intro y hy
              obtain ⟨j, hj⟩ := List.getElem?_of_mem hy
              exact HC.out j y (by have := (List.getElem?_eq_some_iff.1 hj).1; rw [HN.out] at this; omega) hj
            have p0 := HQ.out.cell b0
            have p1 := HQ.out.cell b1
            cases hsp : spcB sp n
            · have HS : Hid (∀ w : World, Calls Try.prog 20 #[.int .i64 sp, .int .i64 (n : Int)] w fun e w' => e = .returned (.bool false) ∧ w' = w) := fun w => hsp ▸ isspace8_any sp n w
              have HE : Hid (chkP sp D = 81) := by
                show chkP sp D = 81
                unfold chkP
                rw [HN.out, if_pos HNB.out, if_pos HF.out, if_pos HALL.out, hsp]; rfl
              clear hsp
              go_wp2_with fail
              refine (HS.out _).mono ?_
              rintro e w5 ⟨rfl, rfl⟩
              go_wp2_with fail
              go_ret
              exact ⟨by rw [HE.out]; rfl, HQ1.out.trans HQ.out⟩
            · have HS : Hid (∀ w : World, Calls Try.prog 20 #[.int .i64 sp, .int .i64 (n : Int)] w fun e w' => e = .returned (.bool true) ∧ w' = w) := fun w => hsp ▸ isspace8_any sp n w
              have HE : Hid (chkP sp D = 0) := by
                show chkP sp D = 0
                unfold chkP
                rw [HN.out, if_pos HNB.out, if_pos HF.out, if_pos HALL.out, hsp]; rfl
              clear hsp
              go_wp2_with fail
              refine (HS.out _).mono ?_
              rintro e w5 ⟨rfl, rfl⟩
              go_wp2_with fail
              go_ret
              exact ⟨by rw [HE.out]; rfl, HQ1.out.trans HQ.out⟩
/-- A picture with which nothing is wrong. -/
theorem chkP_zero {w : World} {sp : Int} {v : Value} {D : List PD} (h : DSl w v D) (hc : chkP sp D = 0) (hlt : ∀ x ∈ D, ∀ i, x.S.getD i 0 < 4294967296) : ∃ g o cap a b L, v = .slice (some ⟨g, o, none⟩) L.length cap ∧ L.length ≤ cap ∧ Pc w g o a b L ∧ spcB sp L.length = true ∧ L.map PL.S = D.map PD.S := by
  unfold chkP at hc
  by_cases h1 : numB D.length = true
  · rw [if_pos h1] at hc
    by_cases h2 : firstE D = 0
    · rw [if_pos h2] at hc
      by_cases h3 : (D.all fun x => x.like (D.getD 0 pd0)) = true
      · rw [if_pos h3] at hc
        by_cases h4 : spcB sp D.length = true
        · have hn14 : 1 ≤ D.length ∧ D.length ≤ 4 := by unfold numB at h1; simp at h1; omega
          obtain ⟨g, o, c, e1, e2, e3⟩ := h.some hn14.1
          obtain ⟨d, hd⟩ : ∃ d, D[0]? = some d := ⟨_, List.getElem?_eq_getElem (by omega)⟩
          have hd0 : D.getD 0 pd0 = d := by rw [List.getD_eq_getElem?_getD, hd]; rfl
          rw [hd0] at h3
          obtain ⟨a, b, ha, hb, hs, hl⟩ := chk_zero (firstE_zero h2 d (List.mem_of_getElem? hd))
          have key : ∀ x ∈ D, x.W = a ∧ x.H = b ∧ x.S.length = a * b := fun x hx => by
            have hl := List.all_eq_true.1 h3 x hx
            unfold PD.like at hl
            simp at hl
            obtain ⟨a', b', ha', hb', _, hl'⟩ := chk_zero (firstE_zero h2 x hx)
            have e1 : a' = a := by have := hl.1; omega
            have e2 : b' = b := by have := hl.2; omega
            subst e1 e2
            exact ⟨ha', hb', hl'⟩
          have cell : ∀ x ∈ D, ∃ gx ox, x.ad = some ⟨gx, ox, none⟩ ∧ x.S.length ≤ x.cap ∧ UIs w gx ox x.S := fun x hx => by
            obtain ⟨i, hi⟩ := List.getElem?_of_mem hx
            obtain ⟨_, _, _, hu⟩ := e3 i x hi
            obtain ⟨gx, ox, cx, f1, f2, f3⟩ := hu.some (by rw [(key x hx).2.2]; exact hs.pos)
            unfold PD.sv at f1
            injection f1 with f1 f4 f5
            exact ⟨gx, ox, f1, by rw [f5]; exact f2, f3⟩
          have mk : ∃ L : List PL, L.length = D.length ∧ L.map PL.S = D.map PD.S ∧ ∀ (i : Nat) (x : PL), L[i]? = some x → ∃ y : PD, D[i]? = some y ∧ y.ad = some ⟨x.g, x.o, none⟩ ∧ y.S = x.S ∧ y.cap = x.cap := by
            refine ⟨D.map fun y => ⟨(y.ad.getD ⟨0, 0, none⟩).block, (y.ad.getD ⟨0, 0, none⟩).off, y.cap, y.S⟩, by simp, by rw [List.map_map]; rfl, fun i x hx => ?_⟩
            rw [List.getElem?_map] at hx
            cases hy : D[i]? with
            | none => rw [hy] at hx; cases hx
            | some y =>
              rw [hy] at hx
              have hx := Option.some.inj hx
              obtain ⟨gx, ox, f1, _⟩ := cell y (List.mem_of_getElem? hy)
              refine ⟨y, rfl, ?_, by rw [← hx], by rw [← hx]⟩
              rw [← hx]
              simp only [f1, Option.getD_some]
          obtain ⟨L, hL, hLS, hLx⟩ := mk
          refine ⟨g, o, c, a, b, L, by rw [hL]; exact e1, by rw [hL]; exact e2, ⟨hs, by omega, by omega, fun i x hx => ?_, fun x hx => ?_⟩, by rw [hL]; exact h4, hLS⟩
          · obtain ⟨y, hy, g1, g2, g3⟩ := hLx i x hx
            obtain ⟨k0, k1, k2, _⟩ := e3 i y hy
            obtain ⟨kW, kH, _⟩ := key y (List.mem_of_getElem? hy)
            refine ⟨by rw [k0, kW], by rw [k1, kH], ?_⟩
            rw [k2, g1, g2, g3]; rfl
          · obtain ⟨i, hi⟩ := List.getElem?_of_mem hx
            obtain ⟨y, hy, g1, g2, g3⟩ := hLx i x hi
            have hym := List.mem_of_getElem? hy
            obtain ⟨_, _, kl⟩ := key y hym
            obtain ⟨gx, ox, f1, f2, f3⟩ := cell y hym
            rw [g1] at f1
            injection f1 with f1
            injection f1 with f1 f4
            rw [← f1, ← f4] at f3
            refine ⟨by rw [← g2]; exact kl, by rw [← g2, ← g3]; exact f2, by rw [← g2]; exact f3, by rw [← g2]; exact hlt y hym⟩
        · rw [if_neg h4] at hc; exact absurd hc (by decide)
      · rw [if_neg h3] at hc; exact absurd hc (by decide)
    · rw [if_neg h2] at hc; exact absurd hc h2
  · rw [if_neg h1] at hc; exact absurd hc (by decide)
end Go.Proofs.Ytdempklpmggdoaa
/- Arithmetic of binary64 whatever comes of it; what space's number, sample, Log and Exp return. -/
namespace Go.Proofs.Ytdempklpmggdoaa
open Go.RowKit
set_option linter.unusedVariables false

/-- A word that an operation tells, drawn where it has no answer; the world behind it. -/
def resW (op : BinOp) (x y : Nat) (w : World) : Nat := match floatBits op .f64 x y with
  | none => nanw .f64 x y w
  | some r => r
def resU (op : BinOp) (x y : Nat) (w : World) : World := match floatBits op .f64 x y with
  | none => w.drew
  | some r => w
theorem resU_q (op : BinOp) (x y : Nat) (w : World) : Q w (resU op x y w) := by
  unfold resU; split
  · exact (Q.refl w).drew
  · exact Q.refl w
theorem run_res (op : BinOp) (hop : op = .add ∨ op = .sub ∨ op = .mul ∨ op = .quo) (t : TypeId) (x y : Nat) (P : Program) (w : World) :
    (binOp op t (.float .f64 x) (.float .f64 y)).run P w = .ok (.float .f64 (resW op x y w)) (resU op x y w) := by
  unfold resW resU
  cases h : floatBits op .f64 x y with
  | none => exact run_arith_none op hop t .f64 x y h P w
  | some r => exact run_float_arith w op t .f64 x y r h
theorem same7 (x : Nat) (w : World) : (convert 104 104 (.float .f64 x)).run Try.prog w = .ok (.float .f64 x) w :=
  run_convert_float_float w 104 104 .f64 .f64 x x (by kernel_rfl) Try.underlying104 rfl
def opD : BinOp → Ieee.Datum → Ieee.Datum → Option Ieee.Datum
  | .add, a, b => a.sum b
  | .sub, a, b => a.sum b.opposite
  | .mul, a, b => a.product b
  | .quo, a, b => a.quotient 54 b
  | _, _, _ => none
theorem bits_op (op : BinOp) (hop : op = .add ∨ op = .sub ∨ op = .mul ∨ op = .quo) (x y : Nat) : floatBits op .f64 x y = (opD op (Ieee.double.read x) (Ieee.double.read y)).map Ieee.double.write := by
  rcases hop with rfl | rfl | rfl | rfl <;> rfl
theorem opD_num {op : BinOp} {a b d : Ieee.Datum} (h : opD op a b = some d) : d.isNaN = false := by
  unfold opD at h
  split at h
  · exact sum_num h
  · exact sum_num h
  · exact product_num h
  · exact quotient_num h
  · cases h
theorem can_res (op : BinOp) (hop : op = .add ∨ op = .sub ∨ op = .mul ∨ op = .quo) (x y : Nat) (w : World) : canW (resW op x y w) = told64 (opD op (Ieee.double.read x) (Ieee.double.read y)) := by
  unfold resW
  rw [bits_op op hop]
  cases h : opD op (Ieee.double.read x) (Ieee.double.read y) with
  | none => exact can_none x y w
  | some d => exact can_some (opD_num h)
theorem resW_lt (op : BinOp) (hop : op = .add ∨ op = .sub ∨ op = .mul ∨ op = .quo) (x y : Nat) (w : World) : resW op x y w < 18446744073709551616 := by
  unfold resW
  rw [bits_op op hop]
  cases h : opD op (Ieee.double.read x) (Ieee.double.read y) with
  | none => exact (nanw64 x y w).2
  | some d => exact write64_lt d
set_option maxHeartbeats 400000 in
theorem spnum_any (a : Nat) (ha : a < 4294967296) (w : World) : Calls Try.prog 101 #[.int .u32 (a : Int)] w fun e w' => e = .returned (.float .f64 (wideW a)) ∧ Q w w' := by
  have l1 := f64from
  go_enter Try.func101, Try.ntmps101
  go_wp2_with fail
  refine (cwide_any a ha _).mono ?_
  rintro e w1 ⟨rfl, q1⟩
  go_wp2_with fail
  go_ret
  exact ⟨by simp, q1⟩
def narW (x : Nat) : Nat := toldD (some (Ieee.double.read x))
set_option maxHeartbeats 400000 in
theorem spsam_any (x : Nat) (w : World) : Calls Try.prog 102 #[.float .f64 x] w fun e w' => e = .returned (.int .u32 (narW x : Nat)) ∧ Q w w' := by
  have l1 := f64bits
  go_enter Try.func102, Try.ntmps102
  go_wp2_with fail
  refine (cnarrow_any x _).mono ?_
  rintro e w1 ⟨rfl, q1⟩
  go_wp2_with fail
  go_ret
  exact ⟨rfl, q1⟩
end Go.Proofs.Ytdempklpmggdoaa
/- Operations of binary64, of NaNs one: plain. -/
namespace Go.Proofs.Ytdempklpmggdoaa
open Go.RowKit
set_option linter.unusedVariables false

abbrev isA (op : BinOp) : Prop := op = .add ∨ op = .sub ∨ op = .mul ∨ op = .quo
def opT (op : BinOp) (x y : Nat) : Nat := told64 (opD op (Ieee.double.read x) (Ieee.double.read y))
theorem opD_nan1 {op : BinOp} (hop : isA op) {a : Ieee.Datum} (h : a.isNaN = true) (b : Ieee.Datum) : told64 (opD op a b) = 9221120237041090560 := by
  obtain ⟨s, t, rfl⟩ := isNaN_cases h
  rcases hop with rfl | rfl | rfl | rfl <;> cases b <;> rfl
theorem opD_nan2 {op : BinOp} (hop : isA op) {b : Ieee.Datum} (h : b.isNaN = true) (a : Ieee.Datum) : told64 (opD op a b) = 9221120237041090560 := by
  obtain ⟨s, t, rfl⟩ := isNaN_cases h
  rcases hop with rfl | rfl | rfl | rfl <;> cases a <;> rfl
theorem can_cases (x : Nat) : canW x = x ∨ ((Ieee.double.read x).isNaN = true ∧ (Ieee.double.read (canW x)).isNaN = true) := by
  unfold canW
  cases h : nan64 x
  · left; rfl
  · right; rw [if_pos rfl]; exact ⟨read64_nan h, read64_nan made64⟩
theorem opT_can {op : BinOp} (hop : isA op) (x y : Nat) : opT op (canW x) (canW y) = opT op x y := by
  unfold opT
  rcases can_cases x with h | ⟨h, g⟩
  · rw [h]
    rcases can_cases y with h | ⟨h, g⟩
    · rw [h]
    · rw [opD_nan2 hop h, opD_nan2 hop g]
  · rw [opD_nan1 hop h, opD_nan1 hop g]
theorem res_can {op : BinOp} (hop : isA op) {x y X Y : Nat} {w : World} (hx : canW x = X) (hy : canW y = Y) : canW (resW op x y w) = opT op X Y := by
  rw [can_res op hop, ← hx, ← hy, opT_can hop]; rfl
theorem narW_can (x : Nat) : narW (canW x) = narW x := by
  unfold canW
  cases h : nan64 x
  · rfl
  · rw [if_pos rfl]; unfold narW; rw [nar_nan h, nar_nan made64]
theorem narW_of {x X : Nat} (h : canW x = X) : narW x = narW X := by rw [← h, narW_can]
theorem can_wide (a : Nat) : canW (wideW a) = wideW a := by
  unfold wideW
  cases h : nanN a
  · show canW (wideN a) = wideN a
    unfold canW; rw [wideN_nan h]; rfl
  · show canW 9221120237041090560 = 9221120237041090560
    unfold canW; rw [made64]; rfl
theorem hA1 : isA .add := Or.inl rfl
theorem hA2 : isA .sub := Or.inr (Or.inl rfl)
theorem hA3 : isA .mul := Or.inr (Or.inr (Or.inl rfl))
theorem hA4 : isA .quo := Or.inr (Or.inr (Or.inr rfl))
end Go.Proofs.Ytdempklpmggdoaa

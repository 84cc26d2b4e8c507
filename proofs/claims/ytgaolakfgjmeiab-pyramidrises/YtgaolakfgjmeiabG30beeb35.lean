/- pyramid: what a mixture makes of the samples of a line. -/
import Derived.Test.YtgaolakfgjmeiabG873cc88a
import Derived.Test.YtgaolakfgjmeiabG490232c2
import Derived.Test.YtgaolakfgjmeiabGec6c67fb
namespace Go.Proofs.Ytgaolakfgjmeiab
open Go.RowKit
set_option linter.unusedVariables false
set_option linter.unusedSimpArgs false

/-- A mixture in memory: weights, their sum, places of a line. -/
structure Mx where
  k : Nat
  W : Nat → Int
  sm : Int
  fr : Nat → Nat
/-- What it makes of a line. -/
def Mx.val (m : Mx) (S : Nat → Nat) : Nat := wghV m.k m.W m.sm (fun t => S (m.fr t))
/-- A right one, over a line of n. -/
structure Mx.Ok (m : Mx) (n : Nat) : Prop where
  k1 : 1 ≤ m.k
  k14 : m.k ≤ 14
  w : ∀ i, i < m.k + 1 → 0 ≤ m.W i ∧ m.W i ≤ 3432
  s : 1 ≤ m.sm ∧ m.sm ≤ 16384
  f : ∀ i, i < m.k + 1 → m.fr i < n
theorem Mx.val_congr {m : Mx} {n : Nat} (h : m.Ok n) {S T : Nat → Nat} (hS : ∀ i, i < n → S i = T i) : m.val S = m.val T := by
  unfold Mx.val wghV
  have : ∀ k : Nat, k ≤ m.k → wac m.W (fun t => S (m.fr t)) k = wac m.W (fun t => T (m.fr t)) k := by
    intro k
    induction k with
    | zero => intro hk; unfold wac wpr; simp only; rw [hS _ (h.f 0 (by omega))]
    | succ k ih => intro hk; unfold wac wpr; simp only; rw [ih (by omega), hS _ (h.f (k + 1) (by omega))]
  rw [this m.k (Nat.le_refl _)]
theorem Mx.val_lt (m : Mx) (S : Nat → Nat) : m.val S < 4294967296 := narW_lt _
/-- How its parts lie. -/
structure MxP (w : World) (m : Mx) (gb gf : Nat) : Prop where
  wt : ∀ i, i < m.k + 1 → w.cell? ⟨gb, i, none⟩ = some (.float .f64 (floatOfInt .f64 (m.W i)))
  pl : ∀ i, i < m.k + 1 → w.cell? ⟨gf, i, none⟩ = some (.int .i64 (m.fr i : Nat))
theorem MxP.next {w w' : World} {m : Mx} {gb gf : Nat} (h : MxP w m gb gf) (q : Q w w') : MxP w' m gb gf := ⟨fun i hi => q.cell (h.wt i hi), fun i hi => q.cell (h.pl i hi)⟩
set_option maxHeartbeats 4000000 in
set_option maxRecDepth 100000 in
theorem of_any (m : Mx) (gb gf n st g o ln c : Nat) (S : Nat → Nat) (w : World) (hm : m.Ok n) (hP : MxP w m gb gf) (hn : n ≤ 1024) (hst : st ≤ 1024)
    (hS : ∀ i, i < n → i * st < ln ∧ w.cell? ⟨g, o + i * st, none⟩ = some (.int .u32 (S i : Nat)) ∧ S i < 4294967296) (hln : ln ≤ 1048576) :
    Calls Try.prog 39 #[.agg #[.slice (some ⟨gb, 0, none⟩) (m.k + 1) (m.k + 1), .float .f64 (floatOfInt .f64 m.sm), .slice (some ⟨gf, 0, none⟩) (m.k + 1) (m.k + 1)], .slice (some ⟨g, o, none⟩) ln c, .int .i64 (st : Int)] w fun e w' => e = .returned (.int .u32 (m.val S : Nat)) ∧ Q w w' := by
  obtain ⟨k, W, sm, fr⟩ := m
  obtain ⟨hk0, hk, hW, hs, hf⟩ := hm
  obtain ⟨pw, pf⟩ := hP
  simp only at hk0 hk hW hs hf pw pf ⊢
  have HV : Hid (∀ i, i < k + 1 → ∀ x : World, Q w x → x.cell? ⟨gb, i, none⟩ = some (.float .f64 (floatOfInt .f64 (W i)))) := fun i hi x q => q.cell (pw i hi)
  have HF : Hid (∀ i, i < k + 1 → ∀ x : World, Q w x → ∃ (a s p : Nat), x.cell? ⟨gf, i, none⟩ = some (.int .i64 (a : Int)) ∧ (a : Int) * (st : Int) = (p : Int) ∧ p < ln ∧ x.cell? ⟨g, o + p, none⟩ = some (.int .u32 (s : Int)) ∧ s < 4294967296 ∧ Hid (s = S (fr i)) ∧ a ≤ 1024) := fun i hi x q => by
    obtain ⟨h1, h2, h3⟩ := hS (fr i) (hf i hi)
    exact ⟨fr i, S (fr i), fr i * st, q.cell (pf i hi), by rw [Int.natCast_mul], h1, q.cell h2, h3, rfl, by have := hf i hi; omega⟩
  have HP : Hid (∀ i, i < k + 1 → ∀ (X : Nat) (x : World), NumX (S (fr i)) X → canW (resW .mul (floatOfInt .f64 (W i)) X x) = wpr W (fun t => S (fr t)) i) := fun i hi X x hX => res_can hA3 (can_int (by have := hW i hi; omega) (by have := hW i hi; omega)) hX.2
  have HE : Hid (∀ A x, narW (resW .quo A (floatOfInt .f64 sm) x) = narW (opT .quo (canW A) (floatOfInt .f64 sm))) := fun A x => narW_of (res_can hA4 rfl (can_int (by omega) (by omega)))
  obtain ⟨N, hN⟩ : ∃ N, k + 1 = N := ⟨_, rfl⟩
  have HN : Hid (k + 1 = N) := hN
  have hN1 : 1 ≤ N := by omega
  have hN2 : N ≤ 15 := by omega
  rw [hN]
  obtain ⟨fs, hfs⟩ : ∃ fs, floatOfInt .f64 sm = fs := ⟨_, rfl⟩
  have HFS : Hid (floatOfInt .f64 sm = fs) := hfs
  rw [hfs] at HE ⊢
  obtain ⟨w1, hw1⟩ : ∃ w1, w.alloc (.cells #[.slice (some ⟨gb, 0, none⟩) N N, .float .f64 fs, .slice (some ⟨gf, 0, none⟩) N N] 75) = w1 := ⟨_, rfl⟩
  have q1 : Q w w1 := by rw [← hw1]; exact (Q.refl w).cells _ _
  have k0 : w1.cell? ⟨w.heap.size, 0, none⟩ = some (.slice (some ⟨gb, 0, none⟩) N N) := by rw [← hw1]; simp [go_sem]
  have k1 : w1.cell? ⟨w.heap.size, 1, none⟩ = some (.float .f64 fs) := by rw [← hw1]; simp [go_sem]
  have k2 : w1.cell? ⟨w.heap.size, 2, none⟩ = some (.slice (some ⟨gf, 0, none⟩) N N) := by rw [← hw1]; simp [go_sem]
  have HB : Hid (w1.cell? ⟨w.heap.size, 0, none⟩ = some (.slice (some ⟨gb, 0, none⟩) N N) ∧ w1.cell? ⟨w.heap.size, 1, none⟩ = some (.float .f64 fs) ∧ w1.cell? ⟨w.heap.size, 2, none⟩ = some (.slice (some ⟨gf, 0, none⟩) N N) ∧ Q w w1) := ⟨k0, k1, k2, q1⟩
  have lm := fun (t : TypeId) (x y : Nat) (P : Program) (w : World) => run_res .mul hA3 t x y P w
  have la := fun (t : TypeId) (x y : Nat) (P : Program) (w : World) => run_res .add hA1 t x y P w
  have lq := fun (t : TypeId) (x y : Nat) (P : Program) (w : World) => run_res .quo hA4 t x y P w
  have hNp : (0 : Int) < (N : Int) := by omega
  have hNn : 0 < N := by omega
  have n0 := qw_some w1
  obtain ⟨a, s, p, d1, d2, d3, d4, d5, d6, d7⟩ := HF.out 0 (by omega) w1 q1
  have f0 := qw_cell k0
  have f3 := qw_cell k2
  have f1 := qw_cell (HV.out 0 (by omega) w1 q1)
  have f2 := qw_cell d1
  have f4 := qw_cell d4
  have hE : ∀ (args : Array Value) (x : World), (callFunc 43 args).run Try.prog x = .ok (.enter 43 args) x := fun args x => by kernel_rfl
  have HEN : Hid (∀ (args : Array Value) (x : World), (callFunc 43 args).run Try.prog x = .ok (.enter 43 args) x) := hE
  have CN : Hid (∀ (s : Nat) (w : World), s < 4294967296 → Calls Try.prog 43 #[.int .u32 (s : Int)] w fun e w' => ∃ v, e = .returned v ∧ (∃ X, v = .float .f64 X ∧ NumX s X) ∧ Q w w') := fun s w hs => ynumber_any s hs w
  have d3' : (p : Int) < (ln : Int) := by omega
  have hp2 : (p : Int) ≤ 1048576 := by omega
  have hwp : IntKind.i64.wrap (p : Int) = (p : Int) := by rw [IntKind.wrap_i64]; omega
  clear pw pf hS hW hs hfs hN hE d1 d4 hf
  go_enter Try.func39, Try.ntmps39
  go_wp2_with fail
  refine wp_region_mk [0, 1, 2, 3, 4, 5, 6, 7, 8, 9, 10, 11, 12, 13] [[14, 15, 16]] 3 _ (by kernel_rfl) (by kernel_rfl) rfl (by kernel_rfl) ?_
  simp only [List.filterMap_cons, List.filterMap_nil, List.getElem?_cons_zero, List.getElem?_cons_succ]
  repeat (first | go_big_quiet_step (fail) | quiet_step (fail))

  repeat (first | go_big_quiet_step (fail) | quiet_step (fail))
  refine wpQuiet_nil ?_
  intro x2 hx2
  refine tree_call 14 rfl rfl (run_fn 43 #[.tmp 24] _ rfl HEN.out (vs := #[.int .u32 (s : Int)]) (by simp [Act.eval, Act.put])) (CN.out s x2 d5) ?_
  rintro v x3 ⟨⟨X, rfl, hX⟩, q3⟩
  refine ⟨hx2.trans q3, ?_⟩
  refine tree_run 15 rfl rfl (v := .float .f64 (resW .mul (floatOfInt .f64 (W 0)) X x3)) (x' := resU .mul (floatOfInt .f64 (W 0)) X x3) (by simp [execOp, go_sem, lm]) ((hx2.trans q3).trans (resU_q _ _ _ _)) ?_
  refine tree_runF 16 rfl rfl rfl (v := .float .f64 (resW .mul (floatOfInt .f64 (W 0)) X x3)) (x' := resU .mul (floatOfInt .f64 (W 0)) X x3) (by simp [execOp, go_sem]) ?_
  refine tree_nil ?_
  have HA : Hid (canW (resW .mul (floatOfInt .f64 (W 0)) X x3) = wac W (fun t => S (fr t)) 0 ∧ Q w1 (resU .mul (floatOfInt .f64 (W 0)) X x3)) := ⟨HP.out 0 (by have := HN.out; omega) X x3 (by rw [← d6.out]; exact hX), (hx2.trans q3).trans (resU_q _ _ _ _)⟩
  generalize resW .mul (floatOfInt .f64 (W 0)) X x3 = A0 at HA ⊢
  generalize resU .mul (floatOfInt .f64 (W 0)) X x3 = w3 at HA ⊢
  clear n0 f0 f1 f2 f3 f4 hx2 k0 k1 k2 q1 hw1 q3 hX d2 d3 d3' d5 d6 d7 hp2 hwp
  have h1N : (1 : Int) ≤ (N : Int) := by omega
  have hNk : N - 1 = k := by have := HN.out; omega
  have e0 := HA.out.2.cell HB.out.1
  have h2N : (1 : Int) < (N : Int) := by have := HN.out; omega
  have h2n : 1 < N := by omega
  go_wp2_with fail
  clear e0
  go_loopg [7, 8, 9, 10, 32] k (fun m s7 s8 s9 s10 s32 wr => ∃ (i A : Nat), s7 = .float .f64 A ∧ s32 = .int .i64 (i : Int) ∧ i + m = k ∧ Hid (canW A = wac W (fun t => S (fr t)) i ∧ Q w1 wr))
  case atStart => exact ⟨0, A0, rfl, rfl, by omega, HA⟩
  case round =>
    obtain ⟨i, A, rfl, rfl, hi, HY⟩ := hrel
    have hk1 : N - 1 = k := by have := HN.out; omega
    have c0 := HY.out.2.cell HB.out.1
    have c1 := HY.out.2.cell HB.out.2.1
    have c2 := HY.out.2.cell HB.out.2.2.1
    by_cases hlt : i < k
    · have hlt' : (i : Int) < (k : Int) := by omega
      have hltN : 1 + (i : Int) < (N : Int) := by have := HN.out; omega
      have hltM : (i : Int) + 1 < (N : Int) := by have := HN.out; omega
      have e1 := HV.out (1 + i) (by omega) wr (HB.out.2.2.2.trans HY.out.2)
      obtain ⟨a, s, p, d1, d2, d3, d4, d5, d6, d7⟩ := HF.out (i + 1) (by omega) wr (HB.out.2.2.2.trans HY.out.2)
      have d3' : (p : Int) < (ln : Int) := by omega
      have hp2 : (p : Int) ≤ 1048576 := by omega
      have HZ : Hid (∀ (X : Nat) (x y : World), NumX s X → canW (resW .add A (resW .mul (floatOfInt .f64 (W (1 + i))) X x) y) = wac W (fun t => S (fr t)) (i + 1)) := fun X x y hX => by
        have := res_can (op := .add) (w := y) hA1 HY.out.1 (HP.out (1 + i) (by omega) X x (by rw [Nat.add_comm 1 i, ← d6.out]; exact hX))
        rw [this, Nat.add_comm 1 i]
        rfl
      have HU : Hid (∀ x y : Nat, ∀ z : World, Q w1 z → Q w1 (resU .mul x y z) ∧ Q w1 (resU .add x y z)) := fun x y z q => ⟨q.trans (resU_q _ _ _ _), q.trans (resU_q _ _ _ _)⟩
      have CN1 : Hid (Calls Try.prog 43 #[.int .u32 (s : Int)] wr fun e w' => ∃ v, e = .returned v ∧ (∃ X, v = .float .f64 X ∧ NumX s X) ∧ Q wr w') := CN.out s wr d5
      generalize floatOfInt .f64 (W (1 + i)) = wi at *
      clear d6 d7
      go_wp2_with fail
      refine CN1.out.mono ?_
      rintro e w5 ⟨v, rfl, ⟨X, rfl, hX⟩, q5⟩
      have HX : Hid (NumX s X) := hX
      have HQ5 : Hid (Q w1 w5) := HY.out.2.trans q5
      clear hX q5
      go_wp2_with fail
      go_roundg (k - (i + 1))
      case measure => go_light; omega
      case rel => go_light; exact ⟨i + 1, _, rfl, by go_num, by omega, ⟨HZ.out _ _ _ HX.out, (HU.out _ _ _ (HU.out _ _ _ HQ5.out).1).2⟩⟩
    · obtain rfl : i = k := by omega
      have hge : ¬ (i : Int) < (i : Int) := by omega
      have HZ : Hid (∀ x : World, narW (resW .quo A fs x) = Mx.val ⟨i, W, sm, fr⟩ S) := fun x => by rw [HE.out, HY.out.1]; unfold Mx.val wghV; rw [HFS.out]
      have CS : Hid (∀ (x : Nat) (w : World), Calls Try.prog 44 #[.float .f64 x] w fun e w' => e = .returned (.int .u32 (narW x : Nat)) ∧ Q w w') := fun x w => ysample_any x w
      have HQ : Hid (∀ z, Q (resU .quo A fs wr) z → Q w z) := fun z q => (HB.out.2.2.2.trans HY.out.2).trans ((resU_q _ _ _ _).trans q)
      go_wp2_with fail
      refine (CS.out _ _).mono ?_
      rintro e w6 ⟨rfl, q6⟩
      have HQ6 : Hid (Q w w6) := HQ.out w6 q6
      rw [HZ.out]
      clear q6
      go_wp2_with fail
      go_ret
      exact ⟨rfl, HQ6.out⟩
end Go.Proofs.Ytgaolakfgjmeiab
/- pyramid: lists of mixtures being made; halved. -/
namespace Go.Proofs.Ytgaolakfgjmeiab
open Go.RowKit
set_option linter.unusedVariables false
set_option linter.unusedSimpArgs false

/-- A mixture of a list. -/
structure Ent (x : World) (gm i : Nat) (m : Mx) (gb gf : Nat) : Prop where
  c0 : x.cell? ⟨gm, i * 3, none⟩ = some (.slice (some ⟨gb, 0, none⟩) (m.k + 1) (m.k + 1))
  c1 : x.cell? ⟨gm, i * 3 + 1, none⟩ = some (.float .f64 (floatOfInt .f64 m.sm))
  c2 : x.cell? ⟨gm, i * 3 + 2, none⟩ = some (.slice (some ⟨gf, 0, none⟩) (m.k + 1) (m.k + 1))
  p : MxP x m gb gf
theorem Ent.next {x x' : World} {gm i gb gf : Nat} {m : Mx} (h : Ent x gm i m gb gf) (q : Q x x') : Ent x' gm i m gb gf := ⟨q.cell h.c0, q.cell h.c1, q.cell h.c2, h.p.next q⟩
/-- A list of mixtures. -/
def MxL (x : World) (gm n : Nat) (L : Nat → Mx) : Prop := ∀ i, i < n → ∃ gb gf, Ent x gm i (L i) gb gf
theorem MxL.next {x x' : World} {gm n : Nat} {L : Nat → Mx} (h : MxL x gm n L) (q : Q x x') : MxL x' gm n L := fun i hi => by
  obtain ⟨gb, gf, h⟩ := h i hi
  exact ⟨gb, gf, h.next q⟩
/-- Cells of other blocks stay. -/
def Kp (gm : Nat) (x x' : World) : Prop := ∀ b j v, b ≠ gm → x.cell? ⟨b, j, none⟩ = some v → x'.cell? ⟨b, j, none⟩ = some v
theorem Kp.refl (gm : Nat) (x : World) : Kp gm x x := fun _ _ _ _ h => h
theorem Kp.trans {gm : Nat} {x y z : World} (h : Kp gm x y) (k : Kp gm y z) : Kp gm x z := fun b j v hb hv => k b j v hb (h b j v hb hv)
theorem Kp.of_q {gm : Nat} {x y : World} (q : Q x y) : Kp gm x y := fun b j v _ hv => q.cell hv
theorem Kp.set {gm : Nat} (x : World) (j : Nat) (v : Value) : Kp gm x (x.setCell ⟨gm, j, none⟩ v) := fun b i u hb hu => (World.cell?_setCell_other _ _ _ _ (fun e => hb (by injection e with e; exact e.symm))).trans hu
theorem MxP.kp {x x' : World} {m : Mx} {gm gb gf : Nat} (h : MxP x m gb gf) (hb : gb ≠ gm) (hf : gf ≠ gm) (k : Kp gm x x') : MxP x' m gb gf := ⟨fun i hi => k _ _ _ hb (h.wt i hi), fun i hi => k _ _ _ hf (h.pl i hi)⟩
/-- A list of mixtures being made: k of n are there. -/
structure MxB (w x : World) (gm n : Nat) (L : Nat → Mx) (k : Nat) : Prop where
  q : Q w x
  new : w.heap.size ≤ gm
  ent : ∀ i, i < k → ∃ gb gf, gb ≠ gm ∧ gf ≠ gm ∧ Ent x gm i (L i) gb gf
  room : ∀ j, j < n * 3 → ∃ v, x.cell? ⟨gm, j, none⟩ = some v
  free : ∀ j, x.frozen? ⟨gm, j, none⟩ = false
theorem MxB.next {w x x' : World} {gm n k : Nat} {L : Nat → Mx} (h : MxB w x gm n L k) (q : Q x x') : MxB w x' gm n L k :=
  ⟨h.q.trans q, h.new, fun i hi => by obtain ⟨gb, gf, a, b, c⟩ := h.ent i hi; exact ⟨gb, gf, a, b, c.next q⟩, fun j hj => by obtain ⟨v, hv⟩ := h.room j hj; exact ⟨v, q.cell hv⟩, fun j => by rw [q.2]; exact h.free j⟩
theorem MxB.done {w x : World} {gm n : Nat} {L : Nat → Mx} (h : MxB w x gm n L n) : MxL x gm n L := fun i hi => by obtain ⟨gb, gf, a, b, c⟩ := h.ent i hi; exact ⟨gb, gf, c⟩
theorem setroom {x : World} {gm n : Nat} (h : ∀ j, j < n → ∃ v, x.cell? ⟨gm, j, none⟩ = some v) (i : Nat) (v : Value) : ∀ j, j < n → ∃ u, (x.setCell ⟨gm, i, none⟩ v).cell? ⟨gm, j, none⟩ = some u := fun j hj => by
  obtain ⟨u, hu⟩ := h j hj
  by_cases e : j = i
  · subst e; exact ⟨_, World.cell?_setCell_same _ _ _ hu⟩
  · exact ⟨u, (World.cell?_setCell_other _ _ _ _ (fun k => e (by injection k with _ k; exact k.symm))).trans hu⟩
theorem MxB.step {w x : World} {gm n k : Nat} {L : Nat → Mx} (h : MxB w x gm n L k) (hk : k < n) {gb gf : Nat} (hb : gb ≠ gm) (hf : gf ≠ gm) {m : Mx} (hL : L k = m) (hp : MxP x m gb gf) :
    MxB w (((x.setCell ⟨gm, k * 3, none⟩ (.slice (some ⟨gb, 0, none⟩) (m.k + 1) (m.k + 1))).setCell ⟨gm, k * 3 + 1, none⟩ (.float .f64 (floatOfInt .f64 m.sm))).setCell ⟨gm, k * 3 + 2, none⟩ (.slice (some ⟨gf, 0, none⟩) (m.k + 1) (m.k + 1))) gm n L (k + 1) := by
  subst hL
  obtain ⟨u0, h0⟩ := h.room (k * 3) (by omega)
  obtain ⟨u1, h1⟩ := h.room (k * 3 + 1) (by omega)
  obtain ⟨u2, h2⟩ := h.room (k * 3 + 2) (by omega)
  have kp := ((Kp.set (gm := gm) x (k * 3) (.slice (some ⟨gb, 0, none⟩) ((L k).k + 1) ((L k).k + 1))).trans (Kp.set _ (k * 3 + 1) (.float .f64 (floatOfInt .f64 (L k).sm)))).trans (Kp.set _ (k * 3 + 2) (.slice (some ⟨gf, 0, none⟩) ((L k).k + 1) ((L k).k + 1)))
  refine ⟨((h.q.set h.new _).set h.new _).set h.new _, h.new, fun i hi => ?_, setroom (setroom (setroom h.room _ _) _ _) _ _, fun j => by rw [World.frozen?_setCell, World.frozen?_setCell, World.frozen?_setCell]; exact h.free j⟩
  have ne : ∀ {a b : Nat}, a ≠ b → (⟨gm, a, none⟩ : Addr) ≠ ⟨gm, b, none⟩ := fun hab e => hab (by injection e)
  by_cases e : i = k
  · subst e
    refine ⟨gb, gf, hb, hf, ?_, ?_, ?_, hp.kp hb hf kp⟩
    · rw [World.cell?_setCell_other _ _ _ _ (ne (by omega)), World.cell?_setCell_other _ _ _ _ (ne (by omega))]
      exact World.cell?_setCell_same _ _ _ h0
    · rw [World.cell?_setCell_other _ _ _ _ (ne (by omega))]
      exact World.cell?_setCell_same _ _ _ ((World.cell?_setCell_other _ _ _ _ (ne (by omega))).trans h1)
    · exact World.cell?_setCell_same _ _ _ ((World.cell?_setCell_other _ _ _ _ (ne (by omega))).trans ((World.cell?_setCell_other _ _ _ _ (ne (by omega))).trans h2))
  · obtain ⟨b, f, a1, a2, c⟩ := h.ent i (by omega)
    refine ⟨b, f, a1, a2, ?_, ?_, ?_, c.p.kp a1 a2 kp⟩
    · rw [World.cell?_setCell_other _ _ _ _ (ne (by omega)), World.cell?_setCell_other _ _ _ _ (ne (by omega)), World.cell?_setCell_other _ _ _ _ (ne (by omega))]
      exact c.c0
    · rw [World.cell?_setCell_other _ _ _ _ (ne (by omega)), World.cell?_setCell_other _ _ _ _ (ne (by omega)), World.cell?_setCell_other _ _ _ _ (ne (by omega))]
      exact c.c1
    · rw [World.cell?_setCell_other _ _ _ _ (ne (by omega)), World.cell?_setCell_other _ _ _ _ (ne (by omega)), World.cell?_setCell_other _ _ _ _ (ne (by omega))]
      exact c.c2
theorem mxInfo : ∃ i, Try.prog.info? 75 = some i ∧ i.size = 3 ∧ i.bytes = 56 ∧ i.zero = some (.agg #[.slice none 0 0, .float .f64 0, .slice none 0 0]) := info_of (by kernel_rfl) (by kernel_rfl)
theorem make_mx (n : Nat) (hn : n ≤ 1048576) : ∃ M : Array Value, (∀ w : World, (Instr.makeSlice 55 (.int .i64 (n : Int)) (.int .i64 (n : Int))).run Try.prog w = .ok (.slice (some ⟨w.heap.size, 0, none⟩) n n) (w.alloc (.cells M 75))) ∧
    ∀ (w : World) (L : Nat → Mx), MxB w (w.alloc (.cells M 75)) w.heap.size n L 0 := by
  obtain ⟨i, i1, i2, i3, i4⟩ := mxInfo
  refine ⟨madeCells (Value.agg #[.slice none 0 0, .float .f64 0, .slice none 0 0]).cells (n * 3), fun w => ?_, fun w L => ?_⟩
  · have := run_make (P := Try.prog) w 55 75 i _ Try.underlying55 i1 i4 .i64 .i64 n n (by omega) (by omega) (by rw [i3]; omega) (by omega)
    rw [i2] at this
    simp only [Int.toNat_natCast] at this
    exact this
  · have hb : (w.alloc (.cells (madeCells (Value.agg #[.slice none 0 0, .float .f64 0, .slice none 0 0]).cells (n * 3)) 75)).heap[w.heap.size]? = some (.cells (madeCells (Value.agg #[.slice none 0 0, .float .f64 0, .slice none 0 0]).cells (n * 3)) 75 (0, 0)) := heap_alloc_new w _
    refine ⟨(Q.refl w).cells _ _, Nat.le_refl _, fun i hi => by omega, fun j hj => ?_, fun j => frozen_of_row _ _ _ _ _ hb⟩
    rw [cell_of_row _ _ j _ 75 (0, 0) hb]
    unfold madeCells
    simp [hj]
theorem half_any (n : Nat) (hn : n ≤ 4096) (w : World) : Calls Try.prog 32 #[.int .i64 (n : Int)] w fun e w' => e = .returned (.int .i64 (((n + 1) / 2 : Nat) : Int)) ∧ w' = w := by
  have h : Int.tdiv ((n : Int) + 1) 2 = (((n + 1) / 2 : Nat) : Int) := by rw [Int.tdiv_eq_ediv_of_nonneg (by omega)]; omega
  obtain ⟨h2, hh⟩ : ∃ h2, (((n + 1) / 2 : Nat) : Int) = h2 := ⟨_, rfl⟩
  rw [hh] at h ⊢
  go_enter Try.func32, Try.ntmps32
  go_wp2_with fail
  go_ret
  exact ⟨rfl, rfl⟩
end Go.Proofs.Ytgaolakfgjmeiab
/- pyramid: halved. -/
namespace Go.Proofs.Ytgaolakfgjmeiab
open Go.RowKit
set_option linter.unusedVariables false
set_option linter.unusedSimpArgs false

def w5 (t : Nat) : Int := if t = 2 then 6 else if t = 1 ∨ t = 3 then 4 else 1
def w3 (t : Nat) : Int := if t = 1 then 6 else 1
def w2 (t : Nat) : Int := 1
/-- Which samples of a line of n a sample of half of it is made of. -/
def hlv (n i : Nat) : Mx := ⟨4, w5, 16, fun t => (borV 1 n (2 * (i : Int) - 2 + (t : Int))).toNat⟩
theorem w5_bd (t : Nat) : 0 ≤ w5 t ∧ w5 t ≤ 3432 := by unfold w5; split <;> (try split) <;> omega
theorem w3_bd (t : Nat) : 0 ≤ w3 t ∧ w3 t ≤ 3432 := by unfold w3; split <;> omega
theorem w2_bd (t : Nat) : 0 ≤ w2 t ∧ w2 t ≤ 3432 := by unfold w2; omega
theorem bor_nat {n : Nat} (hn : 1 ≤ n) (i : Int) : ((borV 1 n i).toNat : Int) = borV 1 n i ∧ (borV 1 n i).toNat < n := by
  have := borV_lt (k := 1) (n := (n : Int)) i (by omega)
  omega
theorem hlv_ok {n : Nat} (hn : 1 ≤ n) (i : Nat) : (hlv n i).Ok n := ⟨by show 1 ≤ 4; omega, by show 4 ≤ 14; omega, fun t _ => w5_bd t, by show 1 ≤ (16 : Int) ∧ (16 : Int) ≤ 16384; omega, fun t _ => (bor_nat hn _).2⟩
theorem lit_cells {W : World} {M : Array Value} {t : TypeId} (i : Nat) {v : Value} (h : M[i]? = some v) : (W.alloc (.cells M t)).cell? ⟨W.heap.size, i, none⟩ = some v := by
  have hb : (W.alloc (.cells M t)).heap[W.heap.size]? = some (.cells M t (0, 0)) := heap_alloc_new W _
  rw [cell_of_row _ _ i _ t (0, 0) hb, h]
/-- A balance, of so many whole numbers. -/
theorem bal_lit (N : Nat) (W : Nat → Int) (M : Array Value) (sm : Int) (w : World) (h1 : 1 ≤ N) (h2 : N ≤ 15) (hM : ∀ i, i < N → M[i]? = some (.int .i64 (W i))) (hW : ∀ i, 0 ≤ W i ∧ W i ≤ 3432) (hs : smW W N = sm) :
    Calls Try.prog 40 #[.slice (some ⟨w.heap.size, 0, none⟩) N N] (w.alloc (.cells M 3)) fun e w' => ∃ gb, e = .returned (.agg #[.slice (some ⟨gb, 0, none⟩) N N, .float .f64 (floatOfInt .f64 sm)]) ∧ VR w' gb N (fun i => .float .f64 (floatOfInt .f64 (W i))) ∧ w.heap.size ≤ gb ∧ Q w w' := by
  subst hs
  refine (pbalance_any N W w.heap.size 0 N (w.alloc (.cells M 3)) (fun i hi => by rw [Nat.zero_add]; exact lit_cells i (hM i hi)) h1 h2 (fun i _ => hW i)).mono ?_
  rintro e w' ⟨gb, e1, e2, e3, e4⟩
  refine ⟨gb, e1, e2, ?_, ((Q.refl w).cells _ _).trans e4⟩
  have : (w.alloc (.cells M 3)).heap.size = w.heap.size + 1 := by simp
  omega
set_option maxHeartbeats 2000000 in
set_option maxRecDepth 100000 in
theorem halved_any (n h : Nat) (hn : 1 ≤ n) (hn2 : n ≤ 1024) (hh : (n + 1) / 2 = h) (w : World) :
    Calls Try.prog 31 #[.int .i64 (n : Int)] w fun e w' => ∃ gm, e = .returned (.slice (some ⟨gm, 0, none⟩) h h) ∧ MxL w' gm h (hlv n) ∧ Q w w' := by
  have HL : Hid (∀ i : Nat, hlv n i = ⟨4, w5, 16, fun t => (borV 1 n (2 * (i : Int) - 2 + (t : Int))).toNat⟩) := fun i => rfl
  have CB : Hid (∀ w : World, Calls Try.prog 40 #[.slice (some ⟨w.heap.size, 0, none⟩) 5 5] (w.alloc (.cells #[.int .i64 1, .int .i64 4, .int .i64 6, .int .i64 4, .int .i64 1] 3)) fun e w' => ∃ gb, e = .returned (.agg #[.slice (some ⟨gb, 0, none⟩) 5 5, .float .f64 (floatOfInt .f64 16)]) ∧ VR w' gb 5 (fun i => .float .f64 (floatOfInt .f64 (w5 i))) ∧ w.heap.size ≤ gb ∧ Q w w') := fun w => bal_lit 5 w5 _ 16 w (by decide) (by decide) (fun i hi => by
    have : i = 0 ∨ i = 1 ∨ i = 2 ∨ i = 3 ∨ i = 4 := by omega
    rcases this with rfl | rfl | rfl | rfl | rfl <;> rfl) w5_bd rfl
  have CH : Hid (∀ w : World, Calls Try.prog 32 #[.int .i64 (n : Int)] w fun e w' => e = .returned (.int .i64 (h : Int)) ∧ w' = w) := fun w => by rw [← hh]; exact half_any n (by omega) w
  have h1 : 1 ≤ h := by omega
  have h2 : h ≤ 1024 := by omega
  obtain ⟨M, hM, hV⟩ := make_mx h (by omega)
  have HV : Hid (∀ (w : World) (L : Nat → Mx), MxB w (w.alloc (.cells M 75)) w.heap.size h L 0) := hV
  have CM : Hid (∀ (N gb fs : Nat) (f : Int) (w : World), 1 ≤ N → N ≤ 15 → -4096 ≤ f → f ≤ 4096 → Calls Try.prog 41 #[.agg #[.slice (some ⟨gb, 0, none⟩) N N, .float .f64 fs], .int .i64 f, .int .i64 (n : Int)] w fun e w' => ∃ gf, e = .returned (.agg #[.slice (some ⟨gb, 0, none⟩) N N, .float .f64 fs, .slice (some ⟨gf, 0, none⟩) N N]) ∧ VR w' gf N (fun t => .int .i64 (borV 1 n (f + (t : Int)))) ∧ w.heap.size ≤ gf ∧ Q w w') := fun N gb fs f w a b c d => mixture_any N gb fs n f w a b hn hn2 c d
  have HNN : Hid (1 ≤ n ∧ (n + 1) / 2 = h) := ⟨hn, hh⟩
  clear hV hh
  have lf := store_f64
  go_enter Try.func31, Try.ntmps31
  go_wp2_with fail
  refine (CB.out _).mono ?_
  rintro e w1 ⟨gb, rfl, v1, g1, q1⟩
  obtain ⟨fs, hfs⟩ : ∃ fs, floatOfInt .f64 16 = fs := ⟨_, rfl⟩
  rw [hfs]
  obtain ⟨w2, hw2⟩ : ∃ w2, w1.alloc (.cells #[.slice (some ⟨gb, 0, none⟩) 5 5, .float .f64 fs] 72) = w2 := ⟨_, rfl⟩
  have q2 : Q w1 w2 := by rw [← hw2]; exact (Q.refl w1).cells _ _
  have b0 : w2.cell? ⟨w1.heap.size, 0, none⟩ = some (.slice (some ⟨gb, 0, none⟩) 5 5) := by rw [← hw2]; simp [go_sem]
  have b1 : w2.cell? ⟨w1.heap.size, 1, none⟩ = some (.float .f64 fs) := by rw [← hw2]; simp [go_sem]
  have s2 : w2.heap.size = w1.heap.size + 1 := by rw [← hw2]; simp
  have HFS : Hid (floatOfInt .f64 16 = fs) := hfs
  have HB : Hid (VR w2 gb 5 (fun i => .float .f64 (floatOfInt .f64 (w5 i))) ∧ Q w w2 ∧ gb < w1.heap.size ∧ w2.heap.size = w1.heap.size + 1 ∧ w2.cell? ⟨w1.heap.size, 0, none⟩ = some (.slice (some ⟨gb, 0, none⟩) 5 5) ∧ w2.cell? ⟨w1.heap.size, 1, none⟩ = some (.float .f64 fs)) := ⟨v1.next q2, q1.trans q2, v1.lt (by omega), s2, b0, b1⟩
  clear v1 g1 q1 q2 b0 b1 s2 hfs
  go_wp2_with fail
  refine (CH.out w2).mono ?_
  rintro e w3 ⟨rfl, hw3⟩
  obtain rfl := hw3.symm
  have hMw := hM w2
  clear hM
  have HX0 : Hid (MxB w2 (w2.alloc (.cells M 75)) w2.heap.size h (hlv n) 0 ∧ Kp w2.heap.size w2 (w2.alloc (.cells M 75))) := ⟨HV.out w2 (hlv n), Kp.of_q ((Q.refl w2).cells _ _)⟩
  generalize w2.alloc (.cells M 75) = w4 at HX0 hMw
  obtain ⟨gm, hgm⟩ : ∃ gm, w2.heap.size = gm := ⟨_, rfl⟩
  have HGM : Hid (w2.heap.size = gm) := hgm
  rw [hgm] at HX0 hMw
  clear hgm hw2
  go_wp2_with fail
  go_loopg [5, 13] h (fun m s5 s13 wr => ∃ i : Nat, s13 = .int .i64 (i : Int) ∧ i + m = h ∧ Hid (MxB w2 wr gm h (hlv n) i ∧ Kp gm w2 wr))
  case atStart => exact ⟨0, rfl, by omega, HX0⟩
  case round =>
    obtain ⟨i, rfl, hi, HX⟩ := hrel
    by_cases hlt : i < h
    · have hlt' : (i : Int) < (h : Int) := by omega
      have hgn : w1.heap.size ≠ gm := by have := HGM.out; have := HB.out.2.2.2.1; omega
      have HGN : Hid (w1.heap.size ≠ gm) := hgn
      clear hgn
      have c0 := HX.out.2 _ _ _ HGN.out HB.out.2.2.2.2.1
      have c1 := HX.out.2 _ _ _ HGN.out HB.out.2.2.2.2.2
      have CM1 : Hid (Calls Try.prog 41 #[.agg #[.slice (some ⟨gb, 0, none⟩) 5 5, .float .f64 fs], .int .i64 (2 * (i : Int) - 2), .int .i64 (n : Int)] wr fun e w' => ∃ gf, e = .returned (.agg #[.slice (some ⟨gb, 0, none⟩) 5 5, .float .f64 fs, .slice (some ⟨gf, 0, none⟩) 5 5]) ∧ VR w' gf 5 (fun t => .int .i64 (borV 1 n (2 * (i : Int) - 2 + (t : Int)))) ∧ wr.heap.size ≤ gf ∧ Q wr w') := CM.out 5 gb fs (2 * (i : Int) - 2) wr (by omega) (by omega) (by omega) (by omega)
      go_wp2_with fail
      refine CM1.out.mono ?_
      rintro e w5' ⟨gf, rfl, vf, g5, q5⟩
      have HY := HX.out.1.next q5
      obtain ⟨u0, hu0⟩ := HY.room (i * 3) (by omega)
      obtain ⟨u1, hu1⟩ := HY.room (i * 3 + 1) (by omega)
      obtain ⟨u2, hu2⟩ := HY.room (i * 3 + 2) (by omega)
      have fr0 := HY.free (i * 3)
      have fr1 := HY.free (i * 3 + 1)
      have fr2 := HY.free (i * 3 + 2)
      have gmlt : gm < wr.heap.size := by
        obtain ⟨u, hu⟩ := HX.out.1.room 0 (by omega)
        exact World.block_lt_of_cell? _ _ hu
      have HZ : Hid (MxB w2 (((w5'.setCell ⟨gm, i * 3, none⟩ (.slice (some ⟨gb, 0, none⟩) 5 5)).setCell ⟨gm, i * 3 + 1, none⟩ (.float .f64 fs)).setCell ⟨gm, i * 3 + 2, none⟩ (.slice (some ⟨gf, 0, none⟩) 5 5)) gm h (hlv n) (i + 1) ∧ Kp gm w2 (((w5'.setCell ⟨gm, i * 3, none⟩ (.slice (some ⟨gb, 0, none⟩) 5 5)).setCell ⟨gm, i * 3 + 1, none⟩ (.float .f64 fs)).setCell ⟨gm, i * 3 + 2, none⟩ (.slice (some ⟨gf, 0, none⟩) 5 5))) := by
        have nb : gb ≠ gm := by have := HGM.out; have := HB.out.2.2.2.1; have := HB.out.2.2.1; omega
        have nf : gf ≠ gm := by omega
        have kp : Kp gm w2 w5' := HX.out.2.trans (Kp.of_q q5)
        refine ⟨?_, ((kp.trans (Kp.set _ _ _)).trans (Kp.set _ _ _)).trans (Kp.set _ _ _)⟩
        have := HY.step hlt nb nf (m := ⟨4, w5, 16, fun t => (borV 1 n (2 * (i : Int) - 2 + (t : Int))).toNat⟩) (HL.out i) ⟨fun t ht => kp _ _ _ nb (HB.out.1.cell t ht), fun t ht => (by
          rw [vf.cell t ht]
          simp only [(bor_nat HNN.out.1 _).1])⟩
        rw [← HFS.out]
        exact this
      clear HY vf q5 g5 gmlt
      go_wp2_with fail
      generalize ((w5'.setCell ⟨gm, i * 3, none⟩ (.slice (some ⟨gb, 0, none⟩) 5 5)).setCell ⟨gm, i * 3 + 1, none⟩ (.float .f64 fs)).setCell ⟨gm, i * 3 + 2, none⟩ (.slice (some ⟨gf, 0, none⟩) 5 5) = w8 at HZ ⊢
      go_roundg (h - (i + 1))
      case measure => go_light; omega
      case rel => go_light; exact ⟨i + 1, by go_num, by omega, HZ⟩
    · obtain rfl : i = h := by omega
      have hge : ¬ (i : Int) < (i : Int) := by omega
      go_wp2_with fail
      go_ret
      exact ⟨gm, rfl, HX.out.1.done, HB.out.2.1.trans HX.out.1.q⟩
end Go.Proofs.Ytgaolakfgjmeiab
/- pyramid: doubled. (gen_pyg.py) -/
namespace Go.Proofs.Ytgaolakfgjmeiab
open Go.RowKit
set_option linter.unusedVariables false
set_option linter.unusedSimpArgs false

/-- Which samples of a line of n a sample of a line of twice the length is made of. -/
def dbE (n i : Nat) : Mx := ⟨2, w3, 8, fun t => (borV 1 n (((i / 2 : Nat) : Int) - 1 + (t : Int))).toNat⟩
def dbO (n i : Nat) : Mx := ⟨1, w2, 2, fun t => (borV 1 n (((i / 2 : Nat) : Int) + (t : Int))).toNat⟩
def dbl (n i : Nat) : Mx := if i % 2 = 0 then dbE n i else dbO n i
theorem dbl_ok {n : Nat} (hn : 1 ≤ n) (i : Nat) : (dbl n i).Ok n := by
  unfold dbl
  split
  · exact ⟨by show 1 ≤ 2; omega, by show 2 ≤ 14; omega, fun t _ => w3_bd t, by show 1 ≤ (8 : Int) ∧ (8 : Int) ≤ 16384; omega, fun t _ => (bor_nat hn _).2⟩
  · exact ⟨by show 1 ≤ 1; omega, by show 1 ≤ 14; omega, fun t _ => w2_bd t, by show 1 ≤ (2 : Int) ∧ (2 : Int) ≤ 16384; omega, fun t _ => (bor_nat hn _).2⟩
structure Dbx (x : World) (B gb N fs : Nat) (W : Nat → Int) : Prop where
  b0 : x.cell? ⟨B, 0, none⟩ = some (.slice (some ⟨gb, 0, none⟩) N N)
  b1 : x.cell? ⟨B, 1, none⟩ = some (.float .f64 fs)
  w : ∀ i, i < N → x.cell? ⟨gb, i, none⟩ = some (.float .f64 (floatOfInt .f64 (W i)))
theorem Dbx.kp {x x' : World} {B gb N fs gm : Nat} {W : Nat → Int} (h : Dbx x B gb N fs W) (hB : B ≠ gm) (hb : gb ≠ gm) (k : Kp gm x x') : Dbx x' B gb N fs W := ⟨k _ _ _ hB h.b0, k _ _ _ hB h.b1, fun i hi => k _ _ _ hb (h.w i hi)⟩
set_option maxHeartbeats 4000000 in
set_option maxRecDepth 100000 in
theorem doubled_any (n h : Nat) (hn : 1 ≤ n) (hn2 : n ≤ 1024) (h1 : 1 ≤ h) (h2 : h ≤ 1024) (w : World) :
    Calls Try.prog 33 #[.int .i64 (n : Int), .int .i64 (h : Int)] w fun e w' => ∃ gm, e = .returned (.slice (some ⟨gm, 0, none⟩) h h) ∧ MxL w' gm h (dbl n) ∧ Q w w' := by
  have C3 : Hid (∀ w : World, Calls Try.prog 40 #[.slice (some ⟨w.heap.size, 0, none⟩) 3 3] (w.alloc (.cells #[.int .i64 1, .int .i64 6, .int .i64 1] 3)) fun e w' => ∃ gb, e = .returned (.agg #[.slice (some ⟨gb, 0, none⟩) 3 3, .float .f64 (floatOfInt .f64 8)]) ∧ VR w' gb 3 (fun i => .float .f64 (floatOfInt .f64 (w3 i))) ∧ w.heap.size ≤ gb ∧ Q w w') := fun w => bal_lit 3 w3 _ 8 w (by decide) (by decide) (fun i hi => by
    have : i = 0 ∨ i = 1 ∨ i = 2 := by omega
    rcases this with rfl | rfl | rfl <;> rfl) w3_bd rfl
  have C2 : Hid (∀ w : World, Calls Try.prog 40 #[.slice (some ⟨w.heap.size, 0, none⟩) 2 2] (w.alloc (.cells #[.int .i64 1, .int .i64 1] 3)) fun e w' => ∃ gb, e = .returned (.agg #[.slice (some ⟨gb, 0, none⟩) 2 2, .float .f64 (floatOfInt .f64 2)]) ∧ VR w' gb 2 (fun i => .float .f64 (floatOfInt .f64 (w2 i))) ∧ w.heap.size ≤ gb ∧ Q w w') := fun w => bal_lit 2 w2 _ 2 w (by decide) (by decide) (fun i hi => by
    have : i = 0 ∨ i = 1 := by omega
    rcases this with rfl | rfl <;> rfl) w2_bd rfl
  obtain ⟨M, hM, hV⟩ := make_mx h (by omega)
  have HV : Hid (∀ (w : World) (L : Nat → Mx), MxB w (w.alloc (.cells M 75)) w.heap.size h L 0) := hV
  have CM : Hid (∀ (N gb fs : Nat) (f : Int) (w : World), 1 ≤ N → N ≤ 15 → -4096 ≤ f → f ≤ 4096 → Calls Try.prog 41 #[.agg #[.slice (some ⟨gb, 0, none⟩) N N, .float .f64 fs], .int .i64 f, .int .i64 (n : Int)] w fun e w' => ∃ gf, e = .returned (.agg #[.slice (some ⟨gb, 0, none⟩) N N, .float .f64 fs, .slice (some ⟨gf, 0, none⟩) N N]) ∧ VR w' gf N (fun t => .int .i64 (borV 1 n (f + (t : Int)))) ∧ w.heap.size ≤ gf ∧ Q w w') := fun N gb fs f w a b c d => mixture_any N gb fs n f w a b hn hn2 c d
  have HNN : Hid (1 ≤ n) := hn
  clear hV
  have lf := store_f64
  go_enter Try.func33, Try.ntmps33
  go_wp2_with fail
  refine (C3.out _).mono ?_
  rintro e w1 ⟨gb, rfl, v1, g1, q1⟩
  obtain ⟨fs, hfs⟩ : ∃ fs, floatOfInt .f64 8 = fs := ⟨_, rfl⟩
  rw [hfs]
  have HFS : Hid (floatOfInt .f64 8 = fs) := hfs
  have H1 : Hid (VR w1 gb 3 (fun i => .float .f64 (floatOfInt .f64 (w3 i))) ∧ w.heap.size ≤ gb ∧ Q w w1) := ⟨v1, g1, q1⟩
  clear v1 g1 q1 hfs
  go_wp2_with fail
  refine (C2.out _).mono ?_
  rintro e w2' ⟨gc, rfl, v2, g2, q2⟩
  obtain ⟨ft, hft⟩ : ∃ ft, floatOfInt .f64 2 = ft := ⟨_, rfl⟩
  rw [hft]
  have HFT : Hid (floatOfInt .f64 2 = ft) := hft
  obtain ⟨w3', hw3⟩ : ∃ w3', (w2'.alloc (.cells #[.slice (some ⟨gb, 0, none⟩) 3 3, .float .f64 fs] 72)).alloc (.cells #[.slice (some ⟨gc, 0, none⟩) 2 2, .float .f64 ft] 72) = w3' := ⟨_, rfl⟩
  have q3 : Q w2' w3' := by rw [← hw3]; exact ((Q.refl w2').cells _ _).cells _ _
  have HB : Hid (Dbx w3' w2'.heap.size gb 3 fs w3 ∧ Dbx w3' (w2'.heap.size + 1) gc 2 ft w2 ∧ gb < w2'.heap.size ∧ gc < w2'.heap.size ∧ w3'.heap.size = w2'.heap.size + 2 ∧ Q w w3') := by
    refine ⟨⟨?_, ?_, fun i hi => (q2.trans q3).cell (H1.out.1.cell i hi)⟩, ⟨?_, ?_, fun i hi => q3.cell (v2.cell i hi)⟩, ?_, v2.lt (by omega), ?_, H1.out.2.2.trans (q2.trans q3)⟩
    · rw [← hw3]; simp [go_sem]
    · rw [← hw3]; simp [go_sem]
    · rw [← hw3]; simp [go_sem]
    · rw [← hw3]; simp [go_sem]
    · have := H1.out.1.lt (by omega); have := q2.1.size; omega
    · rw [← hw3]; simp
  clear v2 g2 q2 hft H1 q3
  have hMw := hM w3'
  clear hM
  have HX0 : Hid (MxB w3' (w3'.alloc (.cells M 75)) w3'.heap.size h (dbl n) 0 ∧ Kp w3'.heap.size w3' (w3'.alloc (.cells M 75))) := ⟨HV.out w3' (dbl n), Kp.of_q ((Q.refl w3').cells _ _)⟩
  generalize w3'.alloc (.cells M 75) = w4 at HX0 hMw
  obtain ⟨gm, hgm⟩ : ∃ gm, w3'.heap.size = gm := ⟨_, rfl⟩
  have HGM : Hid (w3'.heap.size = gm) := hgm
  rw [hgm] at HX0 hMw
  clear hgm
  go_wp2_with fail
  clear hw3 hMw
  go_loopg [8, 17] h (fun m s8 s17 wr => ∃ i : Nat, s17 = .int .i64 (i : Int) ∧ i + m = h ∧ Hid (MxB w3' wr gm h (dbl n) i ∧ Kp gm w3' wr))
  case atStart => exact ⟨0, rfl, by omega, HX0⟩
  case round =>
    obtain ⟨i, rfl, hi, HX⟩ := hrel
    by_cases hlt : i < h
    · have hlt' : (i : Int) < (h : Int) := by omega
      have HGN : Hid (w2'.heap.size ≠ gm ∧ w2'.heap.size + 1 ≠ gm ∧ gb ≠ gm ∧ gc ≠ gm) := by
        have h1 := HGM.out
        have h2 := HB.out
        exact ⟨by omega, by omega, by omega, by omega⟩
      obtain ⟨i2, hi2⟩ : ∃ i2 : Nat, i / 2 = i2 := ⟨_, rfl⟩
      have HI2 : Hid (i / 2 = i2 ∧ i2 ≤ 1024) := ⟨hi2, by omega⟩
      have hdv : Int.tdiv (i : Int) 2 = (i2 : Int) := by rw [Int.tdiv_eq_ediv_of_nonneg (by omega)]; omega
      clear hi2
      by_cases hev : i % 2 = 0
      · have hmd : Int.tmod (i : Int) 2 = 0 := by rw [Int.tmod_eq_emod_of_nonneg (by omega)]; omega
        have HL : Hid (dbl n i = ⟨2, w3, 8, fun t => (borV 1 n ((i2 : Int) - 1 + (t : Int))).toNat⟩) := by unfold dbl; rw [if_pos hev]; unfold dbE; rw [HI2.out.1]; rfl
        have c0 := HX.out.2 _ _ _ HGN.out.1 HB.out.1.b0
        have c1 := HX.out.2 _ _ _ HGN.out.1 HB.out.1.b1
        have hi2le := HI2.out.2
        have CM1 : Hid (Calls Try.prog 41 #[.agg #[.slice (some ⟨gb, 0, none⟩) 3 3, .float .f64 fs], .int .i64 ((i2 : Int) - 1), .int .i64 (n : Int)] wr fun e w' => ∃ gf, e = .returned (.agg #[.slice (some ⟨gb, 0, none⟩) 3 3, .float .f64 fs, .slice (some ⟨gf, 0, none⟩) 3 3]) ∧ VR w' gf 3 (fun t => .int .i64 (borV 1 n ((i2 : Int) - 1 + (t : Int)))) ∧ wr.heap.size ≤ gf ∧ Q wr w') := CM.out 3 gb fs ((i2 : Int) - 1) wr (by omega) (by omega) (by omega) (by omega)
        clear hev
        go_wp2_with fail
        refine CM1.out.mono ?_
        rintro e w5' ⟨gf, rfl, vf, g5, q5⟩
        have HY := HX.out.1.next q5
        obtain ⟨u0, hu0⟩ := HY.room (i * 3) (by omega)
        obtain ⟨u1, hu1⟩ := HY.room (i * 3 + 1) (by omega)
        obtain ⟨u2, hu2⟩ := HY.room (i * 3 + 2) (by omega)
        have fr0 := HY.free (i * 3)
        have fr1 := HY.free (i * 3 + 1)
        have fr2 := HY.free (i * 3 + 2)
        have gmlt : gm < wr.heap.size := by
          obtain ⟨u, hu⟩ := HX.out.1.room 0 (by omega)
          exact World.block_lt_of_cell? _ _ hu
        have HZ : Hid (MxB w3' (((w5'.setCell ⟨gm, i * 3, none⟩ (.slice (some ⟨gb, 0, none⟩) 3 3)).setCell ⟨gm, i * 3 + 1, none⟩ (.float .f64 fs)).setCell ⟨gm, i * 3 + 2, none⟩ (.slice (some ⟨gf, 0, none⟩) 3 3)) gm h (dbl n) (i + 1) ∧ Kp gm w3' (((w5'.setCell ⟨gm, i * 3, none⟩ (.slice (some ⟨gb, 0, none⟩) 3 3)).setCell ⟨gm, i * 3 + 1, none⟩ (.float .f64 fs)).setCell ⟨gm, i * 3 + 2, none⟩ (.slice (some ⟨gf, 0, none⟩) 3 3))) := by
          have nb : gb ≠ gm := HGN.out.2.2.1
          have nf : gf ≠ gm := by omega
          have kp : Kp gm w3' w5' := HX.out.2.trans (Kp.of_q q5)
          refine ⟨?_, ((kp.trans (Kp.set _ _ _)).trans (Kp.set _ _ _)).trans (Kp.set _ _ _)⟩
          have := HY.step hlt nb nf (m := ⟨2, w3, 8, fun t => (borV 1 n ((i2 : Int) - 1 + (t : Int))).toNat⟩) HL.out ⟨fun t ht => kp _ _ _ nb (HB.out.1.w t ht), fun t ht => (by
            rw [vf.cell t ht]
            simp only [(bor_nat HNN.out _).1])⟩
          rw [← HFS.out]
          exact this
        clear HY vf q5 g5 gmlt
        go_wp2_with fail
        generalize ((w5'.setCell ⟨gm, i * 3, none⟩ (.slice (some ⟨gb, 0, none⟩) 3 3)).setCell ⟨gm, i * 3 + 1, none⟩ (.float .f64 fs)).setCell ⟨gm, i * 3 + 2, none⟩ (.slice (some ⟨gf, 0, none⟩) 3 3) = w8 at HZ ⊢
        go_roundg (h - (i + 1))
        case measure => go_light; omega
        case rel => go_light; exact ⟨i + 1, by go_num, by omega, HZ⟩
      · have hmd : Int.tmod (i : Int) 2 = 1 := by rw [Int.tmod_eq_emod_of_nonneg (by omega)]; omega
        have HL : Hid (dbl n i = ⟨1, w2, 2, fun t => (borV 1 n ((i2 : Int) + (t : Int))).toNat⟩) := by unfold dbl; rw [if_neg hev]; unfold dbO; rw [HI2.out.1]; rfl
        have c0 := HX.out.2 _ _ _ HGN.out.2.1 HB.out.2.1.b0
        have c1 := HX.out.2 _ _ _ HGN.out.2.1 HB.out.2.1.b1
        have hi2le := HI2.out.2
        have CM1 : Hid (Calls Try.prog 41 #[.agg #[.slice (some ⟨gc, 0, none⟩) 2 2, .float .f64 ft], .int .i64 ((i2 : Int)), .int .i64 (n : Int)] wr fun e w' => ∃ gf, e = .returned (.agg #[.slice (some ⟨gc, 0, none⟩) 2 2, .float .f64 ft, .slice (some ⟨gf, 0, none⟩) 2 2]) ∧ VR w' gf 2 (fun t => .int .i64 (borV 1 n ((i2 : Int) + (t : Int)))) ∧ wr.heap.size ≤ gf ∧ Q wr w') := CM.out 2 gc ft ((i2 : Int)) wr (by omega) (by omega) (by omega) (by omega)
        clear hev
        go_wp2_with fail
        refine CM1.out.mono ?_
        rintro e w5' ⟨gf, rfl, vf, g5, q5⟩
        have HY := HX.out.1.next q5
        obtain ⟨u0, hu0⟩ := HY.room (i * 3) (by omega)
        obtain ⟨u1, hu1⟩ := HY.room (i * 3 + 1) (by omega)
        obtain ⟨u2, hu2⟩ := HY.room (i * 3 + 2) (by omega)
        have fr0 := HY.free (i * 3)
        have fr1 := HY.free (i * 3 + 1)
        have fr2 := HY.free (i * 3 + 2)
        have gmlt : gm < wr.heap.size := by
          obtain ⟨u, hu⟩ := HX.out.1.room 0 (by omega)
          exact World.block_lt_of_cell? _ _ hu
        have HZ : Hid (MxB w3' (((w5'.setCell ⟨gm, i * 3, none⟩ (.slice (some ⟨gc, 0, none⟩) 2 2)).setCell ⟨gm, i * 3 + 1, none⟩ (.float .f64 ft)).setCell ⟨gm, i * 3 + 2, none⟩ (.slice (some ⟨gf, 0, none⟩) 2 2)) gm h (dbl n) (i + 1) ∧ Kp gm w3' (((w5'.setCell ⟨gm, i * 3, none⟩ (.slice (some ⟨gc, 0, none⟩) 2 2)).setCell ⟨gm, i * 3 + 1, none⟩ (.float .f64 ft)).setCell ⟨gm, i * 3 + 2, none⟩ (.slice (some ⟨gf, 0, none⟩) 2 2))) := by
          have nb : gc ≠ gm := HGN.out.2.2.2
          have nf : gf ≠ gm := by omega
          have kp : Kp gm w3' w5' := HX.out.2.trans (Kp.of_q q5)
          refine ⟨?_, ((kp.trans (Kp.set _ _ _)).trans (Kp.set _ _ _)).trans (Kp.set _ _ _)⟩
          have := HY.step hlt nb nf (m := ⟨1, w2, 2, fun t => (borV 1 n ((i2 : Int) + (t : Int))).toNat⟩) HL.out ⟨fun t ht => kp _ _ _ nb (HB.out.2.1.w t ht), fun t ht => (by
            rw [vf.cell t ht]
            simp only [(bor_nat HNN.out _).1])⟩
          rw [← HFT.out]
          exact this
        clear HY vf q5 g5 gmlt
        go_wp2_with fail
        generalize ((w5'.setCell ⟨gm, i * 3, none⟩ (.slice (some ⟨gc, 0, none⟩) 2 2)).setCell ⟨gm, i * 3 + 1, none⟩ (.float .f64 ft)).setCell ⟨gm, i * 3 + 2, none⟩ (.slice (some ⟨gf, 0, none⟩) 2 2) = w8 at HZ ⊢
        go_roundg (h - (i + 1))
        case measure => go_light; omega
        case rel => go_light; exact ⟨i + 1, by go_num, by omega, HZ⟩
    · obtain rfl : i = h := by omega
      have hge : ¬ (i : Int) < (i : Int) := by omega
      go_wp2_with fail
      go_ret
      exact ⟨gm, rfl, HX.out.1.done, HB.out.2.2.2.2.2.trans HX.out.1.q⟩
end Go.Proofs.Ytgaolakfgjmeiab
/- pyramid: all places of a size, as an iterator. -/
namespace Go.Proofs.Ytgaolakfgjmeiab
open Go.RowKit Go.Shelf
set_option linter.unusedVariables false
set_option linter.unusedSimpArgs false
attribute [local go_sem] Oper.semAt_some

/-- What is yielded: a place's number, and the place. -/
def EncP (a : Nat) (j : Nat) (args : Array Value) (B : Nat → Prop) (W : World) : Prop := args = #[.int .i64 (j : Int), .agg #[.int .i64 ((j % a : Nat) : Int), .int .i64 ((j / a : Nat) : Int)]] ∧ ∀ b, ¬ B b
theorem list_atP {α : Type} {l : List α} {k : Nat} {x : α} (h : l[k]? = some x) : l = l.take k ++ x :: l.drop (k + 1) := by
  obtain ⟨hk, rfl⟩ := List.getElem?_eq_some_iff.1 h
  rw [List.getElem_cons_drop, List.take_append_drop]
/-- What the iterator holds between two places. -/
def PlcJ (J : (Nat → Prop) → (Nat → Prop) → List Nat → World → Prop) (C D : Nat → Prop) (W : World) (zs : List Nat) (k : Nat) (C' D' : Nat → Prop) (wr : World) : Prop :=
  J C' D' (zs.take k) wr ∧ Fits C' wr ∧ (∀ b, D' b → C' b) ∧ Same D W wr ∧ (∀ b, C' b → C b ∨ W.heap.size ≤ b) ∧ (∀ b, D' b → D b ∨ W.heap.size ≤ b)
set_option maxRecDepth 100000 in
set_option maxHeartbeats 4000000 in
theorem places_it (Bh Bw a b : Nat) (hsz : Size a b) :
    ItC Try.prog 42 #[.pointer (some ⟨Bh, 0, none⟩), .pointer (some ⟨Bw, 0, none⟩)] (EncP a) (List.range (a * b)) (fun c => c = Bh ∨ c = Bw) (fun W => W.cell? ⟨Bh, 0, none⟩ = some (.int .i64 (b : Int)) ∧ W.cell? ⟨Bw, 0, none⟩ = some (.int .i64 (a : Int))) := by
  intro l J Jx C D W hPre hRd hJ hJx hY h0 hC hD
  obtain ⟨hBh, hBw⟩ := hPre
  obtain ⟨a1, a2, b1, b2, ab⟩ := hsz
  obtain ⟨zs, hzs⟩ : ∃ zs, List.range (a * b) = zs := ⟨_, rfl⟩
  have HZ : Hid (∀ k, k < a * b → zs[k]? = some k) := fun k hk => by rw [← hzs]; exact List.getElem?_range hk
  have HZL : Hid (zs.take (a * b) = zs) := by rw [← hzs]; exact List.take_of_length_le (by simp)
  rw [hzs] at hY ⊢
  have HY : Hid _ := hY
  have H0 : Hid (PlcJ J C D W zs 0 C D W) := ⟨h0, hC, hD, Same.refl _ _, fun b hb => Or.inl hb, fun b hb => Or.inl hb⟩
  have HK : Hid (∀ wr : World, Same D W wr → wr.cell? ⟨Bh, 0, none⟩ = some (.int .i64 (b : Int)) ∧ wr.cell? ⟨Bw, 0, none⟩ = some (.int .i64 (a : Int))) := fun wr hs => by
    have k := hs.kept (Z := fun b => b = Bh ∨ b = Bw) (fun b hb => ⟨(hRd b hb).2, (hRd b hb).1⟩)
    exact ⟨(k.cell (a := ⟨Bh, 0, none⟩) (Or.inl rfl)).trans hBh, (k.cell (a := ⟨Bw, 0, none⟩) (Or.inr rfl)).trans hBw⟩
  have HAB : Hid (a * b ≤ 65536) := ab
  clear hY h0 hzs ab hC hD hBw
  refine callsIn_of_wp Try.func42 rfl trivial ?_ rfl
  simp only [Try.ntmps42, List.size_toArray, List.length_cons, List.length_nil, Nat.reduceAdd, Nat.reduceSub, Array.replicate_succ, Array.replicate_zero, List.push_toArray, List.append_toArray, List.nil_append, List.cons_append]
  gi_wp2
  gi_loopw [7] (fun i wr => ∃ (y : Nat) (C' D' : Nat → Prop), y ≤ b ∧ i = .int .i64 y ∧ Hid (PlcJ J C D W zs (y * a) C' D' wr)) (fun i _ => b - (intOf i).toNat)
  case atStart => exact ⟨0, C, D, Nat.zero_le _, rfl, by rw [Nat.zero_mul]; exact H0.out⟩
  case round =>
    obtain ⟨y, C', D', hy, rfl, HH⟩ := hrel
    by_cases hlt : y < b
    · have hlt' : (y : Int) < (b : Int) := by omega
      have cw := (HK.out wr HH.out.2.2.2.1).2
      obtain ⟨m, hm⟩ : ∃ m, y * a = m := ⟨_, rfl⟩
      rw [hm] at HH
      have HM : Hid (y * a = m ∧ m + a ≤ a * b) := ⟨hm, by
        have : (y + 1) * a ≤ b * a := Nat.mul_le_mul_right _ hlt
        rw [Nat.add_mul, Nat.one_mul, Nat.mul_comm b a] at this
        omega⟩
      clear hm
      gi_wp2
      gi_loopw [11] (fun i wr => ∃ (x : Nat) (C' D' : Nat → Prop), x ≤ a ∧ i = .int .i64 x ∧ Hid (PlcJ J C D W zs (m + x) C' D' wr)) (fun i _ => a - (intOf i).toNat)
      case atStart => exact ⟨0, C', D', Nat.zero_le _, rfl, HH⟩
      case round =>
        obtain ⟨x, C2, D2, hx, rfl, HG⟩ := hrel
        by_cases hlx : x < a
        · have hlx' : (x : Int) < (a : Int) := by omega
          have cw2 := (HK.out wr HG.out.2.2.2.1).2
          have hml : m + x < a * b := by have := HM.out.2; omega
          have Hx : Hid (zs[m + x]? = some (m + x)) := HZ.out (m + x) hml
          have hmul : (y : Int) * (a : Int) = (m : Int) := by rw [← Int.natCast_mul, HM.out.1]
          have hmb : (m : Int) ≤ 65536 := by have := HAB.out; omega
          have hxb : (x : Int) ≤ 1024 := by omega
          obtain ⟨hh1, hh2, hh3, hh4, hh5, hh6⟩ := HG.out
          have hmx : (m + x) % a = x ∧ (m + x) / a = y := by
            rw [← HM.out.1]
            exact ⟨place_mod y hlx, place_div y hlx⟩
          obtain ⟨fn, tmps, assign, body, hy', hR⟩ := HY.out C2 D2 (zs.take (m + x)) (m + x) (zs.drop (m + x + 1)) wr #[.int .i64 ((m : Int) + (x : Int)), .agg #[.int .i64 (x : Int), .int .i64 (y : Int)]] (fun _ => False) (list_atP Hx.out) hh1 hh2 hh3 ⟨by rw [hmx.1, hmx.2, Int.natCast_add], fun _ h => h⟩ (fun b h => h.elim)
          clear hh1 hh2 hh3 hh4 hh5 hh6 hmx hml
          gi_wp2
          refine ⟨rfl, hR.mono ?_⟩
          rintro e W3 ⟨C3, D3, f3, d3, s3, c3, k3, hcase⟩
          have HN : Hid (Fits C3 W3 ∧ (∀ b, D3 b → C3 b) ∧ Same D W W3 ∧ (∀ b, C3 b → C b ∨ W.heap.size ≤ b) ∧ (∀ b, D3 b → D b ∨ W.heap.size ≤ b)) := by
            obtain ⟨hh1, hh2, hh3, hh4, hh5, hh6⟩ := HG.out
            have hsz := hh4.size
            refine ⟨f3, d3, hh4.trans s3 hh6, fun b hb => ?_, fun b hb => ?_⟩
            · rcases c3 b hb with h | h | h
              · exact hh5 b h
              · exact h.elim
              · exact Or.inr (by omega)
            · rcases k3 b hb with h | h
              · exact hh6 b h
              · exact Or.inr (by omega)
          clear f3 d3 s3 c3 k3 HG HH
          rcases hcase with ⟨rfl, hJ3⟩ | ⟨rfl, hJx3⟩
          · have HJ : Hid (J C3 D3 (zs.take (m + x + 1)) W3) := by show J C3 D3 (zs.take (m + x + 1)) W3; rw [List.take_add_one, Hx.out]; exact hJ3
            clear hJ3 hy' hR cw2 hmul
            gi_wp2
            go_roundw
            case rel => exact ⟨x + 1, C3, D3, by omega, by simp, HJ.out, HN.out⟩
            case measure => simp [intOf]; omega
          · have HJ : Hid (Jx C3 D3 (zs.take (m + x + 1)) W3) := by show Jx C3 D3 (zs.take (m + x + 1)) W3; rw [List.take_add_one, Hx.out]; exact hJx3
            clear hJx3 hy' hR cw2 hmul
            gi_wp2
            refine bodyPost_ret (results_none rfl _ _ _) rfl ?_
            exact ⟨⟨_, rfl⟩, C3, D3, HN.out.1, HN.out.2.1, HN.out.2.2.1, HN.out.2.2.2.1, HN.out.2.2.2.2, Or.inr ⟨_, List.take_prefix _ _, HJ.out⟩⟩
        · obtain rfl : x = a := by omega
          clear HH
          gi_wp2
          go_roundw
          case rel => exact ⟨y + 1, C2, D2, by omega, by simp, by rw [Nat.add_mul, Nat.one_mul, HM.out.1]; exact HG.out⟩
          case measure => simp [intOf]; omega
    · obtain rfl : y = b := by omega
      gi_wp2
      go_end0
      have := HH.out
      unfold PlcJ at this
      rw [Nat.mul_comm, HZL.out] at this
      obtain ⟨hh1, hh2, hh3, hh4, hh5, hh6⟩ := this
      exact ⟨⟨_, rfl⟩, C', D', hh2, hh3, hh4, hh5, hh6, Or.inl hh1⟩
/-- The maker: a function and its two boxes. -/
def MadeP (a b : Nat) (w : World) (e : Ending) (w' : World) : Prop :=
  e = .returned (.func (.func 42) #[] #[.pointer (some ⟨w.heap.size + 1, 0, none⟩), .pointer (some ⟨w.heap.size, 0, none⟩)]) ∧ Q w w' ∧ w'.heap.size = w.heap.size + 2 ∧ w'.cell? ⟨w.heap.size, 0, none⟩ = some (.int .i64 (a : Int)) ∧ w'.cell? ⟨w.heap.size + 1, 0, none⟩ = some (.int .i64 (b : Int))
set_option maxHeartbeats 2000000 in
set_option maxRecDepth 100000 in
theorem places_any (a b : Nat) (w : World) : Calls Try.prog 36 #[.int .i64 (a : Int), .int .i64 (b : Int)] w (MadeP a b w) := by
  go_enter Try.func36, Try.ntmps36
  go_wp2_with fail
  go_ret
  exact ⟨rfl, ((Q.refl w).cells _ _).cells _ _, by simp, by simp [go_sem], by simp [go_sem]⟩
end Go.Proofs.Ytgaolakfgjmeiab

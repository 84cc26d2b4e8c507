/- blur's balance: weights as numbers of binary64, and what they make of a window. -/
import Derived.Test.YtpobgkcobgecoabGa1536a72
import Derived.Test.YtpobgkcobgecoabG450d8149
import Derived.Test.YtpobgkcobgecoabGb66da525
import Derived.Test.YtpobgkcobgecoabGd6be4843
namespace Go.Proofs.Ytpobgkcobgecoab
open Go.RowKit
set_option linter.unusedVariables false
set_option linter.unusedSimpArgs false

theorem store_f64 (a : Addr) (x : Nat) (m : Mode) (w : World) : (store a (.float .f64 x) m).run Try.prog w = stored Try.prog w a (.float .f64 x) m := run_store Try.prog w a _ m rfl
def smW (W : Nat → Int) : Nat → Int
  | 0 => 0
  | k + 1 => smW W k + W k
theorem smW_bd {W : Nat → Int} {B : Int} (hB : 0 ≤ B) : ∀ n : Nat, (∀ i, i < n → 0 ≤ W i ∧ W i ≤ B) → 0 ≤ smW W n ∧ smW W n ≤ (n : Int) * B
  | 0, _ => by simp [smW]
  | n + 1, h => by
    have h1 := smW_bd hB n (fun i hi => h i (by omega))
    have h2 := h n (by omega)
    have e : ((n + 1 : Nat) : Int) * B = (n : Int) * B + B := by rw [show ((n + 1 : Nat) : Int) = (n : Int) + 1 by omega, Int.add_mul, Int.one_mul]
    unfold smW
    omega
structure BalI (w x : World) (B N : Nat) (W : Nat → Int) (k : Nat) : Prop where
  v : VR x (w.heap.size + 1) N (sofar (fun i => .float .f64 (floatOfInt .f64 (W i))) (.float .f64 0) k)
  q : Q w x
  r0 : x.cell? ⟨w.heap.size, 0, none⟩ = some (.slice none 0 0)
  r1 : x.cell? ⟨w.heap.size, 1, none⟩ = some (.float .f64 0)
  rf : ∀ j, x.frozen? ⟨w.heap.size, j, none⟩ = false
  b0 : x.cell? ⟨B, 0, none⟩ = some (.slice (some ⟨w.heap.size + 1, 0, none⟩) N N)
  b1 : x.cell? ⟨B, 1, none⟩ = some (.float .f64 0)
  bf : ∀ j, x.frozen? ⟨B, j, none⟩ = false
  hB : B = w.heap.size + 2
theorem BalI.step {w x : World} {B N : Nat} {W : Nat → Int} {k : Nat} (h : BalI w x B N W k) (hk : k < N) : BalI w (x.setCell ⟨w.heap.size + 1, k, none⟩ (.float .f64 (floatOfInt .f64 (W k)))) B N W (k + 1) := by
  have hB := h.hB
  have ot : ∀ {b j : Nat} {u : Value}, b ≠ w.heap.size + 1 → x.cell? ⟨b, j, none⟩ = some u → (x.setCell ⟨w.heap.size + 1, k, none⟩ (.float .f64 (floatOfInt .f64 (W k)))).cell? ⟨b, j, none⟩ = some u := fun hb hu => (World.cell?_setCell_other _ _ _ _ (fun e => hb (by injection e with e; exact e.symm))).trans hu
  exact ⟨h.v.fill hk rfl, h.q.set (by show w.heap.size ≤ w.heap.size + 1; omega) _, ot (by omega) h.r0, ot (by omega) h.r1, fun j => by rw [World.frozen?_setCell]; exact h.rf j, ot (by omega) h.b0, ot (by omega) h.b1, fun j => by rw [World.frozen?_setCell]; exact h.bf j, hB⟩
set_option maxHeartbeats 2000000 in
set_option maxRecDepth 100000 in
theorem balance_any (N : Nat) (W : Nat → Int) (g o c : Nat) (w : World) (hc : ∀ i, i < N → w.cell? ⟨g, o + i, none⟩ = some (.int .i64 (W i))) (h1 : 1 ≤ N) (h2 : N ≤ 15) (hW : ∀ i, i < N → 0 ≤ W i ∧ W i ≤ 3432) :
    Calls Try.prog 25 #[.slice (some ⟨g, o, none⟩) N c] w fun e w' => ∃ gb, e = .returned (.agg #[.slice (some ⟨gb, 0, none⟩) N N, .float .f64 (floatOfInt .f64 (smW W N))]) ∧ VR w' gb N (fun i => .float .f64 (floatOfInt .f64 (W i))) ∧ w.heap.size ≤ gb ∧ Q w w' := by
  obtain ⟨M, hM, hV⟩ := make_vf N (by omega)
  have HC : Hid (∀ i, i < N → ∀ x : World, Q w x → x.cell? ⟨g, o + i, none⟩ = some (.int .i64 (W i))) := fun i hi x q => q.cell (hc i hi)
  have HW : Hid (∀ i, i < N → 0 ≤ W i ∧ W i ≤ 3432) := hW
  have hMw := hM (w.alloc (.cells #[.slice none 0 0, .float .f64 0] 62))
  have hVw := hV (w.alloc (.cells #[.slice none 0 0, .float .f64 0] 62))
  have hsz : (w.alloc (.cells #[.slice none 0 0, .float .f64 0] 62)).heap.size = w.heap.size + 1 := by simp
  rw [hsz] at hMw hVw
  have HQ0 : Hid (Q w ((w.alloc (.cells #[.slice none 0 0, .float .f64 0] 62)).alloc (.cells M 60))) := ((Q.refl w).cells _ _).cells _ _
  have r0 : ((w.alloc (.cells #[.slice none 0 0, .float .f64 0] 62)).alloc (.cells M 60)).cell? ⟨w.heap.size, 0, none⟩ = some (.slice none 0 0) := by simp [go_sem]
  have r1 : ((w.alloc (.cells #[.slice none 0 0, .float .f64 0] 62)).alloc (.cells M 60)).cell? ⟨w.heap.size, 1, none⟩ = some (.float .f64 0) := by simp [go_sem]
  have rf : ∀ j, ((w.alloc (.cells #[.slice none 0 0, .float .f64 0] 62)).alloc (.cells M 60)).frozen? ⟨w.heap.size, j, none⟩ = false := fun j => by simp [go_sem]
  have hz2 : ((w.alloc (.cells #[.slice none 0 0, .float .f64 0] 62)).alloc (.cells M 60)).heap.size = w.heap.size + 2 := by simp
  generalize ((w.alloc (.cells #[.slice none 0 0, .float .f64 0] 62)).alloc (.cells M 60)) = w2 at hMw hVw HQ0 r0 r1 rf hz2
  obtain ⟨w3, hw3⟩ : ∃ w3, w2.alloc (.cells #[.slice (some ⟨w.heap.size + 1, 0, none⟩) N N, .float .f64 0] 62) = w3 := ⟨_, rfl⟩
  have q23 : Q w2 w3 := by rw [← hw3]; exact (Q.refl w2).cells _ _
  have b0 : w3.cell? ⟨w2.heap.size, 0, none⟩ = some (.slice (some ⟨w.heap.size + 1, 0, none⟩) N N) := by rw [← hw3]; simp [go_sem]
  have b1 : w3.cell? ⟨w2.heap.size, 1, none⟩ = some (.float .f64 0) := by rw [← hw3]; simp [go_sem]
  have bf : ∀ j, w3.frozen? ⟨w2.heap.size, j, none⟩ = false := fun j => by rw [← hw3]; simp [go_sem]
  have HB : Hid (BalI w w3 w2.heap.size N W 0) := ⟨by rw [sofar_zero]; exact hVw.next q23, HQ0.out.trans q23, q23.cell r0, q23.cell r1, fun j => by rw [q23.2]; exact rf j, b0, b1, bf, hz2⟩
  have HW3 : Hid (w2.alloc (.cells #[.slice (some ⟨w.heap.size + 1, 0, none⟩) N N, .float .f64 0] 62) = w3) := hw3
  clear hM hV hVw HQ0 q23 hc hW r0 r1 rf b0 b1 bf hsz hw3 hz2
  have lf := store_f64
  go_enter Try.func25, Try.ntmps25
  go_wp2_with fail
  rw [HW3.out]
  go_loopg [4, 5, 6, 13] N (fun m s4 s5 s6 s13 wr => ∃ i : Nat, s4 = .int .i64 (smW W i) ∧ s13 = .int .i64 (i : Int) ∧ i + m = N ∧ Hid (BalI w wr w2.heap.size N W i))
  case atStart => exact ⟨0, rfl, rfl, by omega, HB⟩
  case round =>
    obtain ⟨i, rfl, rfl, hi, HX⟩ := hrel
    have hbs := smW_bd (W := W) (B := 3432) (by decide) i (fun j hj => HW.out j (by omega))
    by_cases hlt : i < N
    · have hlt' : (i : Int) < (N : Int) := by omega
      have c1 := HC.out i hlt wr HX.out.q
      have hWi := HW.out i hlt
      have k0 := HX.out.b0
      have u1 := HX.out.v.cell i hlt
      obtain ⟨u, hu⟩ : ∃ u, wr.cell? ⟨w.heap.size + 1, i, none⟩ = some u := ⟨_, u1⟩
      have fu := HX.out.v.free i
      have HY : Hid (BalI w (wr.setCell ⟨w.heap.size + 1, i, none⟩ (.float .f64 (floatOfInt .f64 (W i)))) w2.heap.size N W (i + 1)) := HX.out.step hlt
      have hsm : smW W (i + 1) = smW W i + W i := rfl
      have HS : Hid (smW W (i + 1) = smW W i + W i) := hsm
      generalize smW W i = z at *
      generalize W i = y at *
      clear u1 hsm
      go_wp2_with fail
      generalize wr.setCell ⟨w.heap.size + 1, i, none⟩ (.float .f64 (floatOfInt .f64 y)) = w8 at HY ⊢
      go_roundg (N - (i + 1))
      case measure => go_light; omega
      case rel => go_light; exact ⟨i + 1, by rw [HS.out], by go_num, by omega, HY⟩
    · obtain rfl : i = N := by omega
      have hge : ¬ (i : Int) < (i : Int) := by omega
      have hB2 := HX.out.hB
      have k0 := HX.out.b0
      have k1 := HX.out.b1
      have kf0 := HX.out.bf 0
      have kf1 := HX.out.bf 1
      obtain ⟨z, hz⟩ : ∃ z, smW W i = z := ⟨_, rfl⟩
      have HZ : Hid (smW W i = z) := hz
      rw [hz] at hbs ⊢
      clear hz
      have k2 : (wr.setCell ⟨w2.heap.size, 1, none⟩ (.float .f64 (floatOfInt .f64 z))).cell? ⟨w2.heap.size, 0, none⟩ = some (.slice (some ⟨w.heap.size + 1, 0, none⟩) i i) := (World.cell?_setCell_other _ _ _ _ (fun e => by injection e with _ e; cases e)).trans k0
      have k3 : (wr.setCell ⟨w2.heap.size, 1, none⟩ (.float .f64 (floatOfInt .f64 z))).cell? ⟨w2.heap.size, 1, none⟩ = some (.float .f64 (floatOfInt .f64 z)) := World.cell?_setCell_same _ _ _ k1
      have k4 : (wr.setCell ⟨w2.heap.size, 1, none⟩ (.float .f64 (floatOfInt .f64 z))).cell? ⟨w.heap.size, 0, none⟩ = some (.slice none 0 0) := (World.cell?_setCell_other _ _ _ _ (fun e => by injection e with e; omega)).trans HX.out.r0
      have k5 : (wr.setCell ⟨w2.heap.size, 1, none⟩ (.float .f64 (floatOfInt .f64 z))).cell? ⟨w.heap.size, 1, none⟩ = some (.float .f64 0) := (World.cell?_setCell_other _ _ _ _ (fun e => by injection e with e; omega)).trans HX.out.r1
      have k6 : ∀ j, (wr.setCell ⟨w2.heap.size, 1, none⟩ (.float .f64 (floatOfInt .f64 z))).frozen? ⟨w.heap.size, j, none⟩ = false := fun j => by rw [World.frozen?_setCell]; exact HX.out.rf j
      have HX2 : Hid (VR (wr.setCell ⟨w2.heap.size, 1, none⟩ (.float .f64 (floatOfInt .f64 z))) (w.heap.size + 1) i (fun i => .float .f64 (floatOfInt .f64 (W i))) ∧ Q w (wr.setCell ⟨w2.heap.size, 1, none⟩ (.float .f64 (floatOfInt .f64 z)))) := ⟨(HX.out.v.full).other (by show w2.heap.size ≠ _; omega) _, HX.out.q.set (by show w.heap.size ≤ w2.heap.size; omega) _⟩
      obtain ⟨w5, hw5⟩ : ∃ w5, wr.setCell ⟨w2.heap.size, 1, none⟩ (.float .f64 (floatOfInt .f64 z)) = w5 := ⟨_, rfl⟩
      rw [hw5] at k2 k3 k4 k5 k6 HX2
      have f0 := k6 0
      have f1 := k6 1
      have v0 : ((w5.setCell ⟨w.heap.size, 0, none⟩ (.slice (some ⟨w.heap.size + 1, 0, none⟩) i i)).setCell ⟨w.heap.size, 1, none⟩ (.float .f64 (floatOfInt .f64 z))).cell? ⟨w.heap.size, 0, none⟩ = some (.slice (some ⟨w.heap.size + 1, 0, none⟩) i i) := (World.cell?_setCell_other _ _ _ _ (fun e => by injection e with _ e; cases e)).trans (World.cell?_setCell_same _ _ _ k4)
      have v1 : ((w5.setCell ⟨w.heap.size, 0, none⟩ (.slice (some ⟨w.heap.size + 1, 0, none⟩) i i)).setCell ⟨w.heap.size, 1, none⟩ (.float .f64 (floatOfInt .f64 z))).cell? ⟨w.heap.size, 1, none⟩ = some (.float .f64 (floatOfInt .f64 z)) := World.cell?_setCell_same _ _ _ ((World.cell?_setCell_other _ _ _ _ (fun e => by injection e with _ e; cases e)).trans k5)
      have HE : Hid (VR ((w5.setCell ⟨w.heap.size, 0, none⟩ (.slice (some ⟨w.heap.size + 1, 0, none⟩) i i)).setCell ⟨w.heap.size, 1, none⟩ (.float .f64 (floatOfInt .f64 z))) (w.heap.size + 1) i (fun i => .float .f64 (floatOfInt .f64 (W i))) ∧ Q w ((w5.setCell ⟨w.heap.size, 0, none⟩ (.slice (some ⟨w.heap.size + 1, 0, none⟩) i i)).setCell ⟨w.heap.size, 1, none⟩ (.float .f64 (floatOfInt .f64 z)))) := ⟨(HX2.out.1.other (by show w.heap.size ≠ _; omega) _).other (by show w.heap.size ≠ _; omega) _, (HX2.out.2.set (Nat.le_refl _) _).set (Nat.le_refl _) _⟩
      clear k6 HX2 HX hB2
      go_wp2_with fail
      generalize (w5.setCell ⟨w.heap.size, 0, none⟩ (.slice (some ⟨w.heap.size + 1, 0, none⟩) i i)).setCell ⟨w.heap.size, 1, none⟩ (.float .f64 (floatOfInt .f64 z)) = w9 at HE v0 v1 ⊢
      exact bodyPost_ret (v := .agg #[.slice (some ⟨w.heap.size + 1, 0, none⟩) i i, .float .f64 (floatOfInt .f64 z)]) (by simp [results, Try.results25, go_sem, v0, v1]) rfl ⟨w.heap.size + 1, by rw [HZ.out], HE.out.1, by omega, HE.out.2⟩
/-- A weight times a sample; sums of these, from the first on. -/
def wpr (W : Nat → Int) (S : Nat → Nat) (i : Nat) : Nat := opT .mul (floatOfInt .f64 (W i)) (wideW (S i))
def wac (W : Nat → Int) (S : Nat → Nat) : Nat → Nat
  | 0 => wpr W S 0
  | k + 1 => opT .add (wac W S k) (wpr W S (k + 1))
/-- What k + 1 weights make of samples. -/
def wghV (k : Nat) (W : Nat → Int) (sm : Int) (S : Nat → Nat) : Nat := narW (opT .quo (wac W S k) (floatOfInt .f64 sm))
theorem can_int {y : Int} (h0 : y ≤ 268435456) (h1 : -268435456 ≤ y) : canW (floatOfInt .f64 y) = floatOfInt .f64 y := by
  rcases can_cases (floatOfInt .f64 y) with h | ⟨h, _⟩
  · exact h
  · obtain ⟨j, p, e, _⟩ := read_weightq h0 h1
    rw [e] at h
    cases h
set_option maxHeartbeats 4000000 in
set_option maxRecDepth 100000 in
theorem weigh_any (k gb h o c : Nat) (W : Nat → Int) (sm : Int) (X S : Nat → Nat) (w : World) (hk : k ≤ 14) (hc : k + 1 ≤ c) (hV : ∀ i, i < k + 1 → w.cell? ⟨gb, i, none⟩ = some (.float .f64 (floatOfInt .f64 (W i)))) (hX : ∀ i, i < k + 1 → w.cell? ⟨h, o + i, none⟩ = some (.float .f64 (X i))) (hS : ∀ i, i < k + 1 → NumX (S i) (X i)) (hW : ∀ i, i < k + 1 → 0 ≤ W i ∧ W i ≤ 3432) (hs : 1 ≤ sm ∧ sm ≤ 268435456) :
    Calls Try.prog 26 #[.agg #[.slice (some ⟨gb, 0, none⟩) (k + 1) (k + 1), .float .f64 (floatOfInt .f64 sm)], .slice (some ⟨h, o, none⟩) (k + 1) c] w fun e w' => e = .returned (.int .u32 (wghV k W sm S : Nat)) ∧ Q w w' := by
  have HV : Hid (∀ i, i < k + 1 → ∀ x : World, Q w x → x.cell? ⟨gb, i, none⟩ = some (.float .f64 (floatOfInt .f64 (W i)))) := fun i hi x q => q.cell (hV i hi)
  have HX : Hid (∀ i, i < k + 1 → ∀ x : World, Q w x → x.cell? ⟨h, o + i, none⟩ = some (.float .f64 (X i))) := fun i hi x q => q.cell (hX i hi)
  have HP : Hid (∀ i, i < k + 1 → ∀ x : World, canW (resW .mul (floatOfInt .f64 (W i)) (X i) x) = wpr W S i) := fun i hi x => res_can hA3 (can_int (by have := hW i hi; omega) (by have := hW i hi; omega)) (hS i hi).2
  have HE : Hid (∀ A x, narW (resW .quo A (floatOfInt .f64 sm) x) = narW (opT .quo (canW A) (floatOfInt .f64 sm))) := fun A x => narW_of (res_can hA4 rfl (can_int (by omega) (by omega)))
  obtain ⟨N, hN⟩ : ∃ N, k + 1 = N := ⟨_, rfl⟩
  have HN : Hid (k + 1 = N) := hN
  have hN1 : 1 ≤ N := by omega
  have hN2 : N ≤ 15 := by omega
  rw [hN] at hc ⊢
  obtain ⟨fs, hfs⟩ : ∃ fs, floatOfInt .f64 sm = fs := ⟨_, rfl⟩
  have HFS : Hid (floatOfInt .f64 sm = fs) := hfs
  rw [hfs] at HE ⊢
  obtain ⟨w1, hw1⟩ : ∃ w1, w.alloc (.cells #[.slice (some ⟨gb, 0, none⟩) N N, .float .f64 fs] 62) = w1 := ⟨_, rfl⟩
  have q1 : Q w w1 := by rw [← hw1]; exact (Q.refl w).cells _ _
  have k0 : w1.cell? ⟨w.heap.size, 0, none⟩ = some (.slice (some ⟨gb, 0, none⟩) N N) := by rw [← hw1]; simp [go_sem]
  have k1 : w1.cell? ⟨w.heap.size, 1, none⟩ = some (.float .f64 fs) := by rw [← hw1]; simp [go_sem]
  have HB : Hid (w1.cell? ⟨w.heap.size, 0, none⟩ = some (.slice (some ⟨gb, 0, none⟩) N N) ∧ w1.cell? ⟨w.heap.size, 1, none⟩ = some (.float .f64 fs) ∧ Q w w1) := ⟨k0, k1, q1⟩
  have lm := fun (t : TypeId) (x y : Nat) (P : Program) (w : World) => run_res .mul hA3 t x y P w
  have la := fun (t : TypeId) (x y : Nat) (P : Program) (w : World) => run_res .add hA1 t x y P w
  have lq := fun (t : TypeId) (x y : Nat) (P : Program) (w : World) => run_res .quo hA4 t x y P w
  have hNp : (0 : Int) < (N : Int) := by omega
  have hNn : 0 < N := by omega
  have n0 := qw_some w1
  have f0 := qw_cell k0
  have f1 := qw_cell (HV.out 0 (by omega) w1 q1)
  have f2 := qw_cell (HX.out 0 (by omega) w1 q1)
  rw [Nat.add_zero] at f2
  clear hV hX hS hW hs hfs hN
  go_enter Try.func26, Try.ntmps26
  go_wp2_with fail
  refine wp_region_mk [0, 1, 2, 3, 4, 5, 6] [[7, 8]] 2 _ (by kernel_rfl) (by kernel_rfl) rfl (by kernel_rfl) ?_
  simp only [List.filterMap_cons, List.filterMap_nil, List.getElem?_cons_zero, List.getElem?_cons_succ]
  repeat (first | go_big_quiet_step (fail) | quiet_step (fail))
  refine wpQuiet_nil ?_
  intro x2 hx2
  refine tree_run 7 rfl rfl (v := .float .f64 (resW .mul (floatOfInt .f64 (W 0)) (X 0) x2)) (x' := resU .mul (floatOfInt .f64 (W 0)) (X 0) x2) (by simp [execOp, go_sem, lm]) (hx2.trans (resU_q _ _ _ _)) ?_
  refine tree_runF 8 rfl rfl rfl (v := .float .f64 (resW .mul (floatOfInt .f64 (W 0)) (X 0) x2)) (x' := resU .mul (floatOfInt .f64 (W 0)) (X 0) x2) (by simp [execOp, go_sem]) ?_
  refine tree_nil ?_
  have HA : Hid (canW (resW .mul (floatOfInt .f64 (W 0)) (X 0) x2) = wac W S 0 ∧ Q w1 (resU .mul (floatOfInt .f64 (W 0)) (X 0) x2)) := ⟨HP.out 0 (by omega) x2, hx2.trans (resU_q _ _ _ _)⟩
  generalize resW .mul (floatOfInt .f64 (W 0)) (X 0) x2 = A0 at HA ⊢
  generalize resU .mul (floatOfInt .f64 (W 0)) (X 0) x2 = w3 at HA ⊢
  clear n0 f0 f1 f2 hx2 k0 k1 q1 hw1
  have h1N : (1 : Int) ≤ (N : Int) := by omega
  have h1c : (1 : Int) ≤ (c : Int) := by omega
  have hNk : N - 1 = k := by have := HN.out; omega
  rcases Nat.lt_or_ge 1 c with hc1 | hc1
  · have hc2 : (1 : Int) < (c : Int) := by omega
    go_wp2_with fail
    go_loopg [5, 6, 7, 8, 20] k (fun m s5 s6 s7 s8 s20 wr => ∃ (i A : Nat), s5 = .float .f64 A ∧ s20 = .int .i64 (i : Int) ∧ i + m = k ∧ Hid (canW A = wac W S i ∧ Q w1 wr))
    case atStart => exact ⟨0, A0, rfl, rfl, by omega, HA⟩
    case round =>
      obtain ⟨i, A, rfl, rfl, hi, HY⟩ := hrel
      have hk1 : N - 1 = k := by have := HN.out; omega
      have c0 := HY.out.2.cell HB.out.1
      have c1 := HY.out.2.cell HB.out.2.1
      by_cases hlt : i < k
      · have hlt' : (i : Int) < (k : Int) := by omega
        have hltN : 1 + (i : Int) < (N : Int) := by have := HN.out; omega
        have d1 := HV.out (1 + i) (by omega) wr (HB.out.2.2.trans HY.out.2)
        have d2 := HX.out (1 + i) (by omega) wr (HB.out.2.2.trans HY.out.2)
        rw [← Nat.add_assoc] at d2
        have HZ : Hid (∀ x y : World, canW (resW .add A (resW .mul (floatOfInt .f64 (W (1 + i))) (X (1 + i)) x) y) = wac W S (i + 1)) := fun x y => by
          have := res_can (op := .add) (w := y) hA1 HY.out.1 (HP.out (1 + i) (by omega) x)
          rw [this, Nat.add_comm 1 i]
          rfl
        have HU : Hid (∀ x y : Nat, ∀ z : World, Q w1 z → Q w1 (resU .mul x y z) ∧ Q w1 (resU .add x y z)) := fun x y z q => ⟨q.trans (resU_q _ _ _ _), q.trans (resU_q _ _ _ _)⟩
        generalize floatOfInt .f64 (W (1 + i)) = wi at *
        generalize X (1 + i) = xi at *
        go_wp2_with fail
        go_roundg (k - (i + 1))
        case measure => go_light; omega
        case rel => go_light; exact ⟨i + 1, _, rfl, by go_num, by omega, ⟨HZ.out _ _, (HU.out _ _ _ (HU.out _ _ _ HY.out.2).1).2⟩⟩
      · obtain rfl : i = k := by omega
        have hge : ¬ (i : Int) < (i : Int) := by omega
        have HZ : Hid (∀ x : World, narW (resW .quo A fs x) = wghV i W sm S) := fun x => by rw [HE.out, HY.out.1]; unfold wghV; rw [HFS.out]
        have CS : Hid (∀ (x : Nat) (w : World), Calls Try.prog 37 #[.float .f64 x] w fun e w' => e = .returned (.int .u32 (narW x : Nat)) ∧ Q w w') := fun x w => bsample_any x w
        have HQ : Hid (∀ z, Q (resU .quo A fs wr) z → Q w z) := fun z q => (HB.out.2.2.trans HY.out.2).trans ((resU_q _ _ _ _).trans q)
        go_wp2_with fail
        refine (CS.out _ _).mono ?_
        rintro e w6 ⟨rfl, q6⟩
        have HQ6 : Hid (Q w w6) := HQ.out w6 q6
        rw [HZ.out]
        clear q6
        go_wp2_with fail
        go_ret
        exact ⟨rfl, HQ6.out⟩
  · obtain rfl : c = 1 := by omega
    go_wp2_with fail
    go_loopg [5, 6, 7, 8, 20] k (fun m s5 s6 s7 s8 s20 wr => ∃ (i A : Nat), s5 = .float .f64 A ∧ s20 = .int .i64 (i : Int) ∧ i + m = k ∧ Hid (canW A = wac W S i ∧ Q w1 wr))
    case atStart => exact ⟨0, A0, rfl, rfl, by omega, HA⟩
    case round =>
      obtain ⟨i, A, rfl, rfl, hi, HY⟩ := hrel
      have hk1 : N - 1 = k := by have := HN.out; omega
      have c0 := HY.out.2.cell HB.out.1
      have c1 := HY.out.2.cell HB.out.2.1
      by_cases hlt : i < k
      · exfalso; have := HN.out; omega
      · obtain rfl : i = k := by omega
        have hge : ¬ (i : Int) < (i : Int) := by omega
        have HZ : Hid (∀ x : World, narW (resW .quo A fs x) = wghV i W sm S) := fun x => by rw [HE.out, HY.out.1]; unfold wghV; rw [HFS.out]
        have CS : Hid (∀ (x : Nat) (w : World), Calls Try.prog 37 #[.float .f64 x] w fun e w' => e = .returned (.int .u32 (narW x : Nat)) ∧ Q w w') := fun x w => bsample_any x w
        have HQ : Hid (∀ z, Q (resU .quo A fs wr) z → Q w z) := fun z q => (HB.out.2.2.trans HY.out.2).trans ((resU_q _ _ _ _).trans q)
        go_wp2_with fail
        refine (CS.out _ _).mono ?_
        rintro e w6 ⟨rfl, q6⟩
        have HQ6 : Hid (Q w w6) := HQ.out w6 q6
        rw [HZ.out]
        clear q6
        go_wp2_with fail
        go_ret
        exact ⟨rfl, HQ6.out⟩
end Go.Proofs.Ytpobgkcobgecoab
/- Sizes, borders: the program's and the document's. -/
namespace Go.Proofs.Ytpobgkcobgecoab
open Go.RowKit
set_option linter.unusedVariables false
set_option linter.unusedSimpArgs false

def sizeB (W H : Int) : Bool := decide (1 ≤ W) && decide (W ≤ 1024) && decide (1 ≤ H) && decide (H ≤ 1024) && decide (W * H ≤ 65536)
theorem sizeB_true {W H : Int} : sizeB W H = true ↔ SizeB W H := by
  unfold sizeB SizeB
  simp only [Bool.and_eq_true, decide_eq_true_eq]
  constructor
  · rintro ⟨⟨⟨⟨a, b⟩, c⟩, d⟩, e⟩; exact ⟨a, b, c, d, e⟩
  · rintro ⟨a, b, c, d, e⟩; exact ⟨⟨⟨⟨a, b⟩, c⟩, d⟩, e⟩
theorem sizeB_false {W H : Int} (h : ¬ SizeB W H) : sizeB W H = false := by
  cases g : sizeB W H
  · rfl
  · exact absurd (sizeB_true.1 g) h
def sideB (n : Int) : Bool := decide (1 ≤ n) && decide (n ≤ 1024)
theorem sizeB_eq (W H : Int) : sizeB W H = (sideB W && (sideB H && decide (W * H ≤ 65536))) := by
  unfold sizeB sideB
  cases decide (1 ≤ W) <;> cases decide (W ≤ 1024) <;> cases decide (1 ≤ H) <;> cases decide (H ≤ 1024) <;> rfl
theorem sideB_true {n : Int} : sideB n = true ↔ 1 ≤ n ∧ n ≤ 1024 := by
  unfold sideB; simp
theorem area_le {a b : Int} (ha : 1 ≤ a ∧ a ≤ 1024) (hb : 1 ≤ b ∧ b ≤ 1024) : 1 ≤ a * b ∧ a * b ≤ 1048576 := by
  have h1 : a * b ≤ 1024 * b := Int.mul_le_mul_of_nonneg_right ha.2 (by omega)
  have h2 : 1 * b ≤ a * b := Int.mul_le_mul_of_nonneg_right ha.1 (by omega)
  omega

theorem isSide_any (n : Int) (w : World) : Calls Try.prog 22 #[.int .i64 n] w fun e w' => e = .returned (.bool (sideB n)) ∧ w' = w := by
  by_cases h1 : 1 ≤ n
  · by_cases h2 : n ≤ 1024
    · have e : sideB n = true := sideB_true.2 ⟨h1, h2⟩
      rw [e]
      clear e
      go_enter Try.func22, Try.ntmps22
      go_wp2_with fail
      go_ret
      exact ⟨rfl, rfl⟩
    · have e : sideB n = false := by unfold sideB; simp [h2]
      rw [e]
      clear e
      go_enter Try.func22, Try.ntmps22
      go_wp2_with fail
      go_ret
      exact ⟨rfl, rfl⟩
  · have e : sideB n = false := by unfold sideB; simp [h1]
    rw [e]
    clear e
    go_enter Try.func22, Try.ntmps22
    go_wp2_with fail
    go_ret
    exact ⟨rfl, rfl⟩
theorem isSize_any (W H : Int) (w : World) : Calls Try.prog 18 #[.int .i64 W, .int .i64 H] w fun e w' => e = .returned (.bool (sizeB W H)) ∧ w' = w := by
  rw [sizeB_eq]
  cases hW : sideB W
  · have A : Calls Try.prog 22 #[.int .i64 W] w fun e w' => e = .returned (.bool false) ∧ w' = w := hW ▸ isSide_any W w
    go_enter Try.func18, Try.ntmps18
    go_wp2_with (go_at_call 22; refine A.mono ?_; rintro e w1 ⟨rfl, rfl⟩)
    go_ret
    exact ⟨rfl, rfl⟩
  · have A : Calls Try.prog 22 #[.int .i64 W] w fun e w' => e = .returned (.bool true) ∧ w' = w := hW ▸ isSide_any W w
    cases hH : sideB H
    · have B : Calls Try.prog 22 #[.int .i64 H] w fun e w' => e = .returned (.bool false) ∧ w' = w := hH ▸ isSide_any H w
      go_enter Try.func18, Try.ntmps18
      go_wp2_with fail
      refine A.mono ?_
      rintro e w1 ⟨rfl, rfl⟩
      go_wp2_with fail
      refine B.mono ?_
      rintro e w1 ⟨rfl, rfl⟩
      go_wp2_with fail
      go_ret
      exact ⟨rfl, rfl⟩
    · have B : Calls Try.prog 22 #[.int .i64 H] w fun e w' => e = .returned (.bool true) ∧ w' = w := hH ▸ isSide_any H w
      have h1 := sideB_true.1 hW
      have h2 := sideB_true.1 hH
      have h3 := area_le h1 h2
      clear hW hH
      by_cases h4 : W * H ≤ 65536
      · rw [decide_eq_true h4]
        generalize hA : W * H = A0 at h3 h4
        go_enter Try.func18, Try.ntmps18
        go_wp2_with fail
        refine A.mono ?_
        rintro e w1 ⟨rfl, rfl⟩
        go_wp2_with fail
        refine B.mono ?_
        rintro e w1 ⟨rfl, rfl⟩
        go_wp2_with fail
        go_ret
        exact ⟨rfl, rfl⟩
      · rw [decide_eq_false h4]
        generalize hA : W * H = A0 at h3 h4
        have h5 : decide (A0 ≤ 65536) = false := decide_eq_false h4
        go_enter Try.func18, Try.ntmps18
        go_wp2_with fail
        refine A.mono ?_
        rintro e w1 ⟨rfl, rfl⟩
        go_wp2_with fail
        refine B.mono ?_
        rintro e w1 ⟨rfl, rfl⟩
        go_wp2_with fail
        go_ret
        exact ⟨rfl, rfl⟩

/-- What is wrong with a plane. -/
def chk (W H : Int) (n : Nat) : Int := if sizeB W H = true then (if (n : Int) = W * H then 0 else 51) else 50
theorem chk_bad {W H : Int} {n : Nat} (h : sizeB W H = false) : chk W H n = 50 := by unfold chk; rw [h]; rfl
theorem chk_count {W H : Int} {n : Nat} (h : sizeB W H = true) (hn : (n : Int) ≠ W * H) : chk W H n = 51 := by unfold chk; rw [if_pos h, if_neg hn]
theorem chk_ok {W H : Int} {n : Nat} (h : sizeB W H = true) (hn : (n : Int) = W * H) : chk W H n = 0 := by unfold chk; rw [if_pos h, if_pos hn]
theorem chk_zero {W H : Int} {n : Nat} (h : chk W H n = 0) : ∃ a b : Nat, W = a ∧ H = b ∧ Size a b ∧ n = a * b := by
  unfold chk at h
  by_cases g : sizeB W H = true
  · rw [if_pos g] at h
    by_cases g2 : (n : Int) = W * H
    · obtain ⟨a, b, rfl, rfl, hs⟩ := (sizeB_true.1 g).nat
      refine ⟨a, b, rfl, rfl, hs, ?_⟩
      rw [← Int.natCast_mul] at g2
      omega
    · rw [if_neg g2] at h; exact absurd h (by decide)
  · rw [if_neg g] at h; exact absurd h (by decide)
theorem chk_size {a b : Nat} (h : Size a b) : chk a b (a * b) = 0 := chk_ok (sizeB_true.2 h.b) (by rw [Int.natCast_mul])
theorem chk_cases (W H : Int) (n : Nat) : chk W H n = 50 ∨ chk W H n = 51 ∨ chk W H n = 0 := by
  unfold chk; split
  · split <;> simp
  · simp
set_option maxHeartbeats 1000000 in
theorem check_any (W H : Int) (a : Option Addr) (n c : Nat) (hn : n ≤ 9223372036854775807) (w : World) :
    Calls Try.prog 23 #[.agg #[.int .i64 W, .int .i64 H, .slice a n c]] w fun e w' => e = .returned (.int .i64 (chk W H n)) ∧ Q w w' := by
  have q0 : ∀ c t, Q w (w.alloc (.cells c t)) := fun c t => (Q.refl w).cells c t
  have Q0 : Hid (∀ c t, Q w (w.alloc (.cells c t))) := q0
  clear q0
  cases hS : sizeB W H
  · have A : ∀ w : World, Calls Try.prog 18 #[.int .i64 W, .int .i64 H] w fun e w' => e = .returned (.bool false) ∧ w' = w := fun w => hS ▸ isSize_any W H w
    rw [chk_bad hS]
    clear hS
    go_enter Try.func23, Try.ntmps23
    go_wp2_with (go_at_call 18; refine (A _).mono ?_; rintro e w1 ⟨rfl, rfl⟩)
    go_ret
    exact ⟨rfl, Q0.out _ _⟩
  · have A : ∀ w : World, Calls Try.prog 18 #[.int .i64 W, .int .i64 H] w fun e w' => e = .returned (.bool true) ∧ w' = w := fun w => hS ▸ isSize_any W H w
    obtain ⟨h1, h2, h3, h4, h5⟩ := sizeB_true.1 hS
    have h6 := area_le ⟨h1, h2⟩ ⟨h3, h4⟩
    by_cases hc : (n : Int) = W * H
    · rw [chk_ok hS hc]
      have hw : IntKind.i64.wrap (W * H) = W * H := by rw [IntKind.wrap_i64]; omega
      have hb : ((n : Int) == W * H) = true := by rw [hc]; simp
      have hb2 : ((n : Int) != W * H) = false := by rw [hc]; simp
      clear hS hc h5 h6 h1 h2 h3 h4
      go_enter Try.func23, Try.ntmps23
      go_wp2_with (go_at_call 18; refine (A _).mono ?_; rintro e w1 ⟨rfl, rfl⟩)
      go_ret
      exact ⟨rfl, Q0.out _ _⟩
    · rw [chk_count hS hc]
      have hw : IntKind.i64.wrap (W * H) = W * H := by rw [IntKind.wrap_i64]; omega
      have hb : ((n : Int) == W * H) = false := by rw [beq_eq_false_iff_ne]; exact hc
      have hb2 : ((n : Int) != W * H) = true := by rw [bne_iff_ne]; exact hc
      clear hS hc h5 h6 h1 h2 h3 h4
      go_enter Try.func23, Try.ntmps23
      go_wp2_with (go_at_call 18; refine (A _).mono ?_; rintro e w1 ⟨rfl, rfl⟩)
      go_ret
      exact ⟨rfl, Q0.out _ _⟩

theorem tmod_mod (i n : Int) (hn : 0 < n) : (0 ≤ Int.tmod i n → Int.tmod i n = i % n) ∧ (Int.tmod i n < 0 → Int.tmod i n + n = i % n) ∧ -n < Int.tmod i n ∧ Int.tmod i n < n := by
  have e : n * Int.tdiv i n + Int.tmod i n = i := Int.mul_tdiv_add_tmod i n
  have l1 := Int.tmod_lt_of_pos i hn
  have l2 : -n < Int.tmod i n := Int.lt_tmod_of_pos i hn
  have e2 : i % n = Int.tmod i n % n := by
    conv => lhs; rw [← e]
    rw [Int.add_comm, Int.add_mul_emod_self_left]
  refine ⟨fun h => ?_, fun h => ?_, l2, l1⟩
  · rw [e2, Int.emod_eq_of_lt h l1]
  · rw [e2, ← Int.add_emod_right, Int.emod_eq_of_lt (by omega) (by omega)]
theorem modulo_any (i n : Int) (hn : 1 ≤ n) (hn2 : n ≤ 4096) (w : World) : Calls Try.prog 40 #[.int .i64 i, .int .i64 n] w fun e w' => e = .returned (.int .i64 (i % n)) ∧ w' = w := by
  obtain ⟨h1, h2, h3, h4⟩ := tmod_mod i n (by omega)
  have hz : n ≠ 0 := by omega
  have hz2 : (n == 0) = false := by rw [beq_eq_false_iff_ne]; exact hz
  by_cases h : Int.tmod i n < 0
  · rw [← h2 h]
    clear h1 h2
    have hw : IntKind.i64.wrap (Int.tmod i n) = Int.tmod i n := by rw [IntKind.wrap_i64]; omega
    generalize hT : Int.tmod i n = T at *
    go_enter Try.func40, Try.ntmps40
    go_wp2_with fail
    go_ret
    exact ⟨rfl, rfl⟩
  · rw [← h1 (by omega)]
    clear h1 h2
    have hw : IntKind.i64.wrap (Int.tmod i n) = Int.tmod i n := by rw [IntKind.wrap_i64]; omega
    generalize hT : Int.tmod i n = T at *
    go_enter Try.func40, Try.ntmps40
    go_wp2_with fail
    go_ret
    exact ⟨rfl, rfl⟩
end Go.Proofs.Ytpobgkcobgecoab

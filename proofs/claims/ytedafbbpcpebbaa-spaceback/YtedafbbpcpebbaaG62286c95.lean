/- Lifting: keys that go round; what Lift and Drop return, the program's and the document's. -/
import Derived.Test.YtedafbbpcpebbaaG5722ba7e
import Derived.Test.YtedafbbpcpebbaaGd42ab7df
import Derived.Test.YtedafbbpcpebbaaG7fec12ee
import Derived.Test.YtedafbbpcpebbaaG9dcd4744
namespace Go.Proofs.Ytedafbbpcpebbaa
open Go.RowKit
set_option linter.unusedVariables false

/-- A half, rounded down, of a number that goes round 2^32. -/
def hlfN (d : Nat) : Nat := if d < 2147483648 then d / 2 else d / 2 + 2147483648
theorem hlfN_lt {d : Nat} (h : d < 4294967296) : hlfN d < 4294967296 := by unfold hlfN; split <;> omega
def addN (a b : Nat) : Nat := (a + b) % 4294967296
def lesN (a b : Nat) : Nat := (a + 4294967296 - b) % 4294967296
theorem addN_lt (a b : Nat) : addN a b < 4294967296 := Nat.mod_lt _ (by decide)
theorem lesN_lt (a b : Nat) : lesN a b < 4294967296 := Nat.mod_lt _ (by decide)
theorem addN_comm (a b : Nat) : addN a b = addN b a := by unfold addN; rw [Nat.add_comm]
theorem add_e (a b : Nat) : ((a : Int) + (b : Int)) % 4294967296 = (addN a b : Nat) := by unfold addN; omega
theorem sub_e (a b : Nat) (hb : b < 4294967296) : ((a : Int) - (b : Int)) % 4294967296 = (lesN a b : Nat) := by unfold lesN; omega
theorem add_h (a : Nat) : ((a : Int) + 2147483648) % 4294967296 = (addN a 2147483648 : Nat) := by unfold addN; omega
theorem sub_h (a : Nat) : ((a : Int) - 2147483648) % 4294967296 = (lesN a 2147483648 : Nat) := by unfold lesN; omega
theorem sp_drewN {a b : World} (h : Q a b) (n : Nat) : Q a (b.drewN n) := h.trans ⟨⟨rfl, rfl, rfl, Nat.le_refl _, fun _ _ => rfl⟩, fun _ => rfl⟩
set_option maxHeartbeats 400000 in
theorem halved_any (d : Nat) (hd : d < 4294967296) (w : World) : Calls Try.prog 78 #[.int .u32 (d : Int)] w fun e w' => e = .returned (.int .u32 (hlfN d : Nat)) ∧ w' = w := by
  go_enter Try.func78, Try.ntmps78
  go_wp2_with fail
  go_ret
  exact ⟨ret_int (by unfold hlfN wrap32; split <;> omega), rfl⟩
set_option maxHeartbeats 400000 in
theorem fromdiff_any (d : Nat) (hd : d < 4294967296) (w : World) : Calls Try.prog 80 #[.int .u32 (d : Int)] w fun e w' => e = .returned (.int .u32 (fkeyN (addN d 2147483648) : Nat)) ∧ w' = w := by
  have e1 := add_h d
  go_enter Try.func80, Try.ntmps80
  go_wp2_with fail
  refine (fromkey_any _ (addN_lt d 2147483648) _).mono ?_
  rintro e w1 ⟨rfl, rfl⟩
  go_wp2_with fail
  go_ret
  exact ⟨rfl, rfl⟩
set_option maxHeartbeats 400000 in
theorem differ_any (d : Nat) (hd : d < 4294967296) (w : World) : Calls Try.prog 81 #[.int .u32 (d : Int)] w fun e w' => e = .returned (.int .u32 (lesN (keyN d) 2147483648 : Nat)) ∧ w' = w := by
  have e1 := sub_h (keyN d)
  go_enter Try.func81, Try.ntmps81
  go_wp2_with fail
  refine (keyn_any _ hd _).mono ?_
  rintro e w1 ⟨rfl, rfl⟩
  go_wp2_with fail
  go_ret
  exact ⟨ret_int e1, rfl⟩
def lcoN (r b : Nat) : Nat := lesN (keyN r) (keyN b)
def ltN (r b : Nat) : Nat := addN (keyN b) (hlfN (lcoN r b))
def lcgN (r g b : Nat) : Nat := lesN (keyN g) (ltN r b)
def lyN (r g b : Nat) : Nat := addN (ltN r b) (hlfN (lcgN r g b))
def lift0 (r g b : Nat) : Nat := fkeyN (lyN r g b)
def lift1 (r g b : Nat) : Nat := fkeyN (addN (lcgN r g b) 2147483648)
def lift2 (r g b : Nat) : Nat := fkeyN (addN (lcoN r b) 2147483648)
def dfN (d : Nat) : Nat := lesN (keyN d) 2147483648
def dtN (y cg : Nat) : Nat := lesN (keyN y) (hlfN (dfN cg))
def dbN (y cg co : Nat) : Nat := lesN (dtN y cg) (hlfN (dfN co))
def drop0 (y cg co : Nat) : Nat := fkeyN (addN (dbN y cg co) (dfN co))
def drop1 (y cg co : Nat) : Nat := fkeyN (addN (dfN cg) (dtN y cg))
def drop2 (y cg co : Nat) : Nat := fkeyN (dbN y cg co)
def a3 (x y z : Nat) : Value := .agg #[.int .u32 (x : Nat), .int .u32 (y : Nat), .int .u32 (z : Nat)]
def t3 (x y z : Nat) : Value := .tuple #[.int .u32 (x : Nat), .int .u32 (y : Nat), .int .u32 (z : Nat)]
/-- A method's three samples in a box, and the box of its answer. -/
structure B3 (w wz : World) (r g b : Nat) : Prop where
  q : Q w wz
  d0 : wz.cell? ⟨w.heap.size + 1, 0, none⟩ = some (.int .u32 (r : Int))
  d1 : wz.cell? ⟨w.heap.size + 1, 1, none⟩ = some (.int .u32 (g : Int))
  d2 : wz.cell? ⟨w.heap.size + 1, 2, none⟩ = some (.int .u32 (b : Int))
  k0 : wz.cell? ⟨w.heap.size + 1 + 1, 0, none⟩ = some (.int .u32 0)
  k1 : wz.cell? ⟨w.heap.size + 1 + 1, 1, none⟩ = some (.int .u32 0)
  k2 : wz.cell? ⟨w.heap.size + 1 + 1, 2, none⟩ = some (.int .u32 0)
  f0 : wz.frozen? ⟨w.heap.size + 1 + 1, 0, none⟩ = false
  f1 : wz.frozen? ⟨w.heap.size + 1 + 1, 1, none⟩ = false
  f2 : wz.frozen? ⟨w.heap.size + 1 + 1, 2, none⟩ = false
theorem b3_of (w : World) (t : TypeId) (r g b : Nat) : B3 w (((w.alloc (Obj.cells #[] t)).alloc (Obj.cells #[.int .u32 (r : Int), .int .u32 (g : Int), .int .u32 (b : Int)] 47)).alloc (Obj.cells #[.int .u32 0, .int .u32 0, .int .u32 0] 47)) r g b where
  q := (((Q.refl w).cells _ _).cells _ _).cells _ _
  d0 := by simp [go_sem]
  d1 := by simp [go_sem]
  d2 := by simp [go_sem]
  k0 := by simp [go_sem]
  k1 := by simp [go_sem]
  k2 := by simp [go_sem]
  f0 := by simp [go_sem]
  f1 := by simp [go_sem]
  f2 := by simp [go_sem]
theorem B3.next {w wz w4 : World} {r g b : Nat} (h : B3 w wz r g b) (q : Q wz w4) : B3 w w4 r g b :=
  ⟨h.q.trans q, q.cell h.d0, q.cell h.d1, q.cell h.d2, q.cell h.k0, q.cell h.k1, q.cell h.k2, (q.2 _).trans h.f0, (q.2 _).trans h.f1, (q.2 _).trans h.f2⟩
set_option maxHeartbeats 2000000 in
theorem lfrom_any (r g b : Nat) (hr : r < 4294967296) (hg : g < 4294967296) (hb : b < 4294967296) (w : World) : Calls Try.prog 47 #[.agg #[], .agg #[.int .u32 (r : Int), .int .u32 (g : Int), .int .u32 (b : Int)]] w fun e w' => e = .returned (a3 (lift0 r g b) (lift1 r g b) (lift2 r g b)) ∧ Q w w' := by
  have e1 := sub_e (keyN r) (keyN b) (keyN_lt hb)
  have e2 := add_e (keyN b) (hlfN (lesN (keyN r) (keyN b)))
  have e3 := sub_e (keyN g) (addN (keyN b) (hlfN (lesN (keyN r) (keyN b)))) (addN_lt _ _)
  have e4 := add_e (addN (keyN b) (hlfN (lesN (keyN r) (keyN b)))) (hlfN (lesN (keyN g) (addN (keyN b) (hlfN (lesN (keyN r) (keyN b))))))
  have KV : Hid (∀ (s : Nat) (h : s < 4294967296) (w : World), Calls Try.prog 77 #[.int .u32 s] w fun e w' => e = .returned (.int .u32 (keyN s : Nat)) ∧ w' = w) := keyn_any
  go_enter Try.func47, Try.ntmps47
  go_wp2_with fail
  have hB : Hid (B3 w _ r g b) := b3_of w 60 r g b
  generalize (((w.alloc (Obj.cells #[] 60)).alloc (Obj.cells #[.int .u32 (r : Int), .int .u32 (g : Int), .int .u32 (b : Int)] 47)).alloc (Obj.cells #[.int .u32 0, .int .u32 0, .int .u32 0] 47)) = wz at hB ⊢
  have d0 := qw_cell hB.out.d0
  have d1 := qw_cell hB.out.d1
  have d2 := qw_cell hB.out.d2
  have n0 := qw_some wz
  refine wp_region_quiet_Q (by kernel_rfl) (by kernel_rfl) ?_
  repeat (first | go_big_quiet_step (first | (go_at_call 77; exact calls_qs (KV.out _ (by assumption) _))) | quiet_step (first | (go_at_call 77; exact calls_qs (KV.out _ (by assumption) _))))
  refine wpQuiet_nil ?_
  intro w4 hw'
  have hq4 := qw_out hw'
  clear hw' d0 d1 d2 n0 KV
  replace hB : Hid (B3 w w4 r g b) := hB.out.next hq4
  clear hq4
  go_wp2_with fail
  refine (halved_any _ (lesN_lt _ _) _).mono ?_
  rintro e w1 ⟨rfl, rfl⟩
  go_wp2_with fail
  refine (halved_any _ (lesN_lt _ _) _).mono ?_
  rintro e w1 ⟨rfl, rfl⟩
  go_wp2_with fail
  refine (fromkey_any _ (addN_lt _ _) _).mono ?_
  rintro e w1 ⟨rfl, rfl⟩
  go_wp2_with fail
  refine (fromdiff_any _ (lesN_lt _ _) _).mono ?_
  rintro e w1 ⟨rfl, rfl⟩
  go_wp2_with fail
  refine (fromdiff_any _ (lesN_lt _ _) _).mono ?_
  rintro e w1 ⟨rfl, rfl⟩
  have hk0 := hB.out.k0
  have hk1 := hB.out.k1
  have hk2 := hB.out.k2
  have hf0 := hB.out.f0
  have hf1 := hB.out.f1
  have hf2 := hB.out.f2
  go_wp2_with fail
  refine bodyPost_ret (v := a3 (lift0 r g b) (lift1 r g b) (lift2 r g b)) (by simp [results, Try.results47, go_sem, hk0, hk1, hk2, a3, lift0, lift1, lift2, lyN, ltN, lcgN, lcoN]) rfl ⟨rfl, ?_⟩
  exact ((hB.out.q.set (by show _ ≤ w.heap.size + 1 + 1; omega) _).set (by show _ ≤ w.heap.size + 1 + 1; omega) _).set (by show _ ≤ w.heap.size + 1 + 1; omega) _
set_option maxHeartbeats 2000000 in
theorem lto_any (r g b : Nat) (hr : r < 4294967296) (hg : g < 4294967296) (hb : b < 4294967296) (w : World) : Calls Try.prog 51 #[.agg #[], .agg #[.int .u32 (r : Int), .int .u32 (g : Int), .int .u32 (b : Int)]] w fun e w' => e = .returned (a3 (drop0 r g b) (drop1 r g b) (drop2 r g b)) ∧ Q w w' := by
  have e1 := sub_e (keyN r) (hlfN (lesN (keyN g) 2147483648)) (hlfN_lt (lesN_lt _ _))
  have e2 := sub_e (lesN (keyN r) (hlfN (lesN (keyN g) 2147483648))) (hlfN (lesN (keyN b) 2147483648)) (hlfN_lt (lesN_lt _ _))
  have e3 := add_e (lesN (lesN (keyN r) (hlfN (lesN (keyN g) 2147483648))) (hlfN (lesN (keyN b) 2147483648))) (lesN (keyN b) 2147483648)
  have e4 := add_e (lesN (keyN g) 2147483648) (lesN (keyN r) (hlfN (lesN (keyN g) 2147483648)))
  have KV : Hid (∀ (s : Nat) (h : s < 4294967296) (w : World), Calls Try.prog 77 #[.int .u32 s] w fun e w' => e = .returned (.int .u32 (keyN s : Nat)) ∧ w' = w) := keyn_any
  have DV : Hid (∀ (s : Nat) (h : s < 4294967296) (w : World), Calls Try.prog 81 #[.int .u32 s] w fun e w' => e = .returned (.int .u32 (lesN (keyN s) 2147483648 : Nat)) ∧ w' = w) := differ_any
  go_enter Try.func51, Try.ntmps51
  go_wp2_with fail
  have hB : Hid (B3 w _ r g b) := b3_of w 60 r g b
  generalize (((w.alloc (Obj.cells #[] 60)).alloc (Obj.cells #[.int .u32 (r : Int), .int .u32 (g : Int), .int .u32 (b : Int)] 47)).alloc (Obj.cells #[.int .u32 0, .int .u32 0, .int .u32 0] 47)) = wz at hB ⊢
  have d0 := qw_cell hB.out.d0
  have d1 := qw_cell hB.out.d1
  have d2 := qw_cell hB.out.d2
  have n0 := qw_some wz
  refine wp_region_quiet_Q (by kernel_rfl) (by kernel_rfl) ?_
  repeat (first | go_big_quiet_step (first | (go_at_call 77; exact calls_qs (KV.out _ (by assumption) _)) | (go_at_call 81; exact calls_qs (DV.out _ (by assumption) _))) | quiet_step (first | (go_at_call 77; exact calls_qs (KV.out _ (by assumption) _)) | (go_at_call 81; exact calls_qs (DV.out _ (by assumption) _))))
  refine wpQuiet_nil ?_
  intro w4 hw'
  have hq4 := qw_out hw'
  clear hw' d0 d1 d2 n0 KV DV
  replace hB : Hid (B3 w w4 r g b) := hB.out.next hq4
  clear hq4
  go_wp2_with fail
  refine (halved_any _ (lesN_lt _ _) _).mono ?_
  rintro e w1 ⟨rfl, rfl⟩
  go_wp2_with fail
  refine (halved_any _ (lesN_lt _ _) _).mono ?_
  rintro e w1 ⟨rfl, rfl⟩
  go_wp2_with fail
  refine (fromkey_any _ (addN_lt _ _) _).mono ?_
  rintro e w1 ⟨rfl, rfl⟩
  go_wp2_with fail
  refine (fromkey_any _ (addN_lt _ _) _).mono ?_
  rintro e w1 ⟨rfl, rfl⟩
  go_wp2_with fail
  refine (fromkey_any _ (lesN_lt _ _) _).mono ?_
  rintro e w1 ⟨rfl, rfl⟩
  have hk0 := hB.out.k0
  have hk1 := hB.out.k1
  have hk2 := hB.out.k2
  have hf0 := hB.out.f0
  have hf1 := hB.out.f1
  have hf2 := hB.out.f2
  go_wp2_with fail
  refine bodyPost_ret (v := a3 (drop0 r g b) (drop1 r g b) (drop2 r g b)) (by simp [results, Try.results51, go_sem, hk0, hk1, hk2, a3, drop0, drop1, drop2, dbN, dtN, dfN]) rfl ⟨rfl, ?_⟩
  exact ((hB.out.q.set (by show _ ≤ w.heap.size + 1 + 1; omega) _).set (by show _ ≤ w.heap.size + 1 + 1; omega) _).set (by show _ ≤ w.heap.size + 1 + 1; omega) _
set_option maxHeartbeats 1000000 in
theorem lift_any (r g b : Nat) (hr : r < 4294967296) (hg : g < 4294967296) (hb : b < 4294967296) (w : World) : Calls Try.prog 18 #[.int .u32 (r : Int), .int .u32 (g : Int), .int .u32 (b : Int)] w fun e w' => e = .returned (t3 (lift0 r g b) (lift1 r g b) (lift2 r g b)) ∧ Q w w' := by
  go_enter Try.func18, Try.ntmps18
  go_wp2_with fail
  refine (lfrom_any r g b hr hg hb _).mono ?_
  rintro e w1 ⟨rfl, q1⟩
  have HQ : Hid (Q w w1) := q1
  clear q1
  unfold a3
  go_wp2_with fail
  go_quiet (fail)
  have HZ : Hid (Q w ((w1.alloc (Obj.cells #[.int .u32 ((lift0 r g b : Nat) : Int), .int .u32 ((lift1 r g b : Nat) : Int), .int .u32 ((lift2 r g b : Nat) : Int)] 47)).drewN nq)) := sp_drewN (HQ.out.cells _ _) _
  generalize ((w1.alloc (Obj.cells #[.int .u32 ((lift0 r g b : Nat) : Int), .int .u32 ((lift1 r g b : Nat) : Int), .int .u32 ((lift2 r g b : Nat) : Int)] 47)).drewN nq) = wq at HZ ⊢
  go_wp2_with fail
  refine bodyPost_ret (v := t3 (lift0 r g b) (lift1 r g b) (lift2 r g b)) (by simp [results, Try.results18, go_sem, t3]) rfl ⟨rfl, HZ.out⟩
set_option maxHeartbeats 1000000 in
theorem drop_any (r g b : Nat) (hr : r < 4294967296) (hg : g < 4294967296) (hb : b < 4294967296) (w : World) : Calls Try.prog 20 #[.int .u32 (r : Int), .int .u32 (g : Int), .int .u32 (b : Int)] w fun e w' => e = .returned (t3 (drop0 r g b) (drop1 r g b) (drop2 r g b)) ∧ Q w w' := by
  go_enter Try.func20, Try.ntmps20
  go_wp2_with fail
  refine (lto_any r g b hr hg hb _).mono ?_
  rintro e w1 ⟨rfl, q1⟩
  have HQ : Hid (Q w w1) := q1
  clear q1
  unfold a3
  go_wp2_with fail
  go_quiet (fail)
  have HZ : Hid (Q w ((w1.alloc (Obj.cells #[.int .u32 ((drop0 r g b : Nat) : Int), .int .u32 ((drop1 r g b : Nat) : Int), .int .u32 ((drop2 r g b : Nat) : Int)] 47)).drewN nq)) := sp_drewN (HQ.out.cells _ _) _
  generalize ((w1.alloc (Obj.cells #[.int .u32 ((drop0 r g b : Nat) : Int), .int .u32 ((drop1 r g b : Nat) : Int), .int .u32 ((drop2 r g b : Nat) : Int)] 47)).drewN nq) = wq at HZ ⊢
  go_wp2_with fail
  refine bodyPost_ret (v := t3 (drop0 r g b) (drop1 r g b) (drop2 r g b)) (by simp [results, Try.results20, go_sem, t3]) rfl ⟨rfl, HZ.out⟩
set_option maxHeartbeats 400000 in
theorem r7key_any (s : Nat) (h1 : s < 4294967296) (w : World) :
    Calls Try.prog 48 #[.int .u32 s] w fun e w' => e = .returned (.int .u32 (keyN s : Nat)) ∧ w' = w := by
  by_cases h : s < 2147483648
  · have e1 : ((s : Int) / 2147483648 == 0) = true := by rw [beq_iff_eq]; omega
    go_enter Try.func48, Try.ntmps48
    go_wp2
    go_ret
    exact ⟨ret_int (by unfold keyN; rw [if_pos (by omega)]; omega), rfl⟩
  · have e1 : ((s : Int) / 2147483648 == 0) = false := by rw [beq_eq_false_iff_ne]; omega
    go_enter Try.func48, Try.ntmps48
    go_wp2
    go_ret
    exact ⟨ret_int (by unfold keyN; rw [if_neg (by omega)]; omega), rfl⟩
set_option maxHeartbeats 400000 in
theorem r7fromkey_any (k : Nat) (h1 : k < 4294967296) (w : World) :
    Calls Try.prog 50 #[.int .u32 k] w fun e w' => e = .returned (.int .u32 (fkeyN k : Nat)) ∧ w' = w := by
  by_cases h : k < 2147483648
  · have e1 : ((k : Int) / 2147483648 == 1) = false := by rw [beq_eq_false_iff_ne]; omega
    go_enter Try.func50, Try.ntmps50
    go_wp2
    go_ret
    exact ⟨ret_int (by unfold fkeyN; rw [if_neg (by omega)]; omega), rfl⟩
  · have e1 : ((k : Int) / 2147483648 == 1) = true := by rw [beq_iff_eq]; omega
    go_enter Try.func50, Try.ntmps50
    go_wp2
    go_ret
    exact ⟨ret_int (by unfold fkeyN; rw [if_pos (by omega)]; omega), rfl⟩
theorem and_low32 (n : Int) : bits .and .i64 n 4294967295 = n % 4294967296 := by
  show IntKind.i64.wrap ((BitVec.ofInt 64 n &&& BitVec.ofInt 64 4294967295).toNat : Int) = _
  rw [BitVec.toNat_and, BitVec.toNat_ofInt, BitVec.toNat_ofInt, show ((4294967295 : Int) % ((2 ^ 64 : Nat) : Int)).toNat = 2 ^ 32 - 1 from by decide, Nat.and_two_pow_sub_one_eq_mod, IntKind.wrap_i64]
  omega
theorem tm_even {n : Int} (h : n % 2 = 0) : n.tmod 2 = 0 := Int.tmod_eq_zero_of_dvd (by omega)
theorem tm_odd {n : Int} (h : n % 2 = 1) : n.tmod 2 ≠ 0 := fun e => by have := Int.dvd_of_tmod_eq_zero e; omega
theorem td_even {n : Int} (h : n % 2 = 0) : n.tdiv 2 = n / 2 := by
  obtain ⟨k, rfl⟩ : ∃ k, n = 2 * k := ⟨n / 2, by omega⟩
  rw [Int.mul_tdiv_cancel_left _ (by decide)]; omega
set_option maxHeartbeats 400000 in
theorem r7half_any (d : Nat) (hd : d < 4294967296) (w : World) : Calls Try.prog 49 #[.int .u32 (d : Int)] w fun e w' => e = .returned (.int .u32 (hlfN d : Nat)) ∧ w' = w := by
  have HK : Hid (∀ n : Int, bits .and .i64 n 4294967295 = n % 4294967296) := and_low32
  by_cases h : d < 2147483648
  · have e1 : decide ((2147483648 : Int) ≤ (d : Int)) = false := decide_eq_false (by omega)
    by_cases h2 : d % 2 = 0
    · have e2 : ((d : Int) % 2 == 0) = true := by rw [beq_iff_eq]; omega
      go_enter Try.func49, Try.ntmps49
      go_wp2
      go_ret
      exact ⟨ret_int (by rw [HK.out]; unfold hlfN; rw [if_pos h]; omega), rfl⟩
    · have e2 : ((d : Int) % 2 == 0) = false := by rw [beq_eq_false_iff_ne]; omega
      go_enter Try.func49, Try.ntmps49
      go_wp2
      go_ret
      exact ⟨ret_int (by rw [HK.out]; unfold hlfN; rw [if_pos h]; omega), rfl⟩
  · have e1 : (2147483648 : Int) ≤ (d : Int) := by omega
    by_cases h2 : d % 2 = 0
    · have e2 : ((((d : Int) - 4294967296).tmod 2) == 0) = true := by rw [beq_iff_eq]; exact tm_even (by omega)
      go_enter Try.func49, Try.ntmps49
      go_wp2
      go_ret
      exact ⟨ret_int (by rw [HK.out, td_even (by omega)]; unfold hlfN; rw [if_neg h]; omega), rfl⟩
    · have e2 : ((((d : Int) - 4294967296).tmod 2) == 0) = false := by rw [beq_eq_false_iff_ne]; exact tm_odd (by omega)
      go_enter Try.func49, Try.ntmps49
      go_wp2
      go_ret
      exact ⟨ret_int (by rw [HK.out, td_even (by omega)]; unfold hlfN; rw [if_neg h]; omega), rfl⟩
set_option maxHeartbeats 1000000 in
theorem rlift_any (r g b : Nat) (hr : r < 4294967296) (hg : g < 4294967296) (hb : b < 4294967296) (w : World) : Calls Try.prog 19 #[.int .u32 (r : Int), .int .u32 (g : Int), .int .u32 (b : Int)] w fun e w' => e = .returned (t3 (lift0 r g b) (lift1 r g b) (lift2 r g b)) ∧ Q w w' := by
  have e1 := sub_e (keyN r) (keyN b) (keyN_lt hb)
  have e2 := add_e (keyN b) (hlfN (lesN (keyN r) (keyN b)))
  have e3 := sub_e (keyN g) (addN (keyN b) (hlfN (lesN (keyN r) (keyN b)))) (addN_lt _ _)
  have e4 := add_e (addN (keyN b) (hlfN (lesN (keyN r) (keyN b)))) (hlfN (lesN (keyN g) (addN (keyN b) (hlfN (lesN (keyN r) (keyN b))))))
  have e5 := add_h (lesN (keyN r) (keyN b))
  have e6 := add_h (lesN (keyN g) (addN (keyN b) (hlfN (lesN (keyN r) (keyN b)))))
  go_enter Try.func19, Try.ntmps19
  go_wp2_with fail
  refine (r7key_any _ hr _).mono ?_
  rintro e w1 ⟨rfl, rfl⟩
  go_wp2_with fail
  refine (r7key_any _ hb _).mono ?_
  rintro e w1 ⟨rfl, rfl⟩
  go_wp2_with fail
  refine (r7key_any _ hb _).mono ?_
  rintro e w1 ⟨rfl, rfl⟩
  go_wp2_with fail
  refine (r7half_any _ (lesN_lt _ _) _).mono ?_
  rintro e w1 ⟨rfl, rfl⟩
  go_wp2_with fail
  refine (r7key_any _ hg _).mono ?_
  rintro e w1 ⟨rfl, rfl⟩
  go_wp2_with fail
  refine (r7half_any _ (lesN_lt _ _) _).mono ?_
  rintro e w1 ⟨rfl, rfl⟩
  go_wp2_with fail
  refine (r7fromkey_any _ (addN_lt _ _) _).mono ?_
  rintro e w1 ⟨rfl, rfl⟩
  go_wp2_with fail
  refine (r7fromkey_any _ (addN_lt _ _) _).mono ?_
  rintro e w1 ⟨rfl, rfl⟩
  go_wp2_with fail
  refine (r7fromkey_any _ (addN_lt _ _) _).mono ?_
  rintro e w1 ⟨rfl, rfl⟩
  go_wp2_with fail
  go_ret3
  exact ⟨rfl, Q.refl _⟩
set_option maxHeartbeats 1000000 in
theorem rdrop_any (r g b : Nat) (hr : r < 4294967296) (hg : g < 4294967296) (hb : b < 4294967296) (w : World) : Calls Try.prog 21 #[.int .u32 (r : Int), .int .u32 (g : Int), .int .u32 (b : Int)] w fun e w' => e = .returned (t3 (drop0 r g b) (drop1 r g b) (drop2 r g b)) ∧ Q w w' := by
  have e1 := sub_h (keyN g)
  have e2 := sub_h (keyN b)
  have e3 := sub_e (keyN r) (hlfN (lesN (keyN g) 2147483648)) (hlfN_lt (lesN_lt _ _))
  have e4 := sub_e (lesN (keyN r) (hlfN (lesN (keyN g) 2147483648))) (hlfN (lesN (keyN b) 2147483648)) (hlfN_lt (lesN_lt _ _))
  have e5 := add_e (lesN (keyN b) 2147483648) (lesN (lesN (keyN r) (hlfN (lesN (keyN g) 2147483648))) (hlfN (lesN (keyN b) 2147483648)))
  have e6 := add_e (lesN (keyN g) 2147483648) (lesN (keyN r) (hlfN (lesN (keyN g) 2147483648)))
  go_enter Try.func21, Try.ntmps21
  go_wp2_with fail
  refine (r7key_any _ hg _).mono ?_
  rintro e w1 ⟨rfl, rfl⟩
  go_wp2_with fail
  refine (r7key_any _ hb _).mono ?_
  rintro e w1 ⟨rfl, rfl⟩
  go_wp2_with fail
  refine (r7key_any _ hr _).mono ?_
  rintro e w1 ⟨rfl, rfl⟩
  go_wp2_with fail
  refine (r7half_any _ (lesN_lt _ _) _).mono ?_
  rintro e w1 ⟨rfl, rfl⟩
  go_wp2_with fail
  refine (r7half_any _ (lesN_lt _ _) _).mono ?_
  rintro e w1 ⟨rfl, rfl⟩
  go_wp2_with fail
  refine (r7fromkey_any _ (addN_lt _ _) _).mono ?_
  rintro e w1 ⟨rfl, rfl⟩
  go_wp2_with fail
  refine (r7fromkey_any _ (addN_lt _ _) _).mono ?_
  rintro e w1 ⟨rfl, rfl⟩
  go_wp2_with fail
  refine (r7fromkey_any _ (lesN_lt _ _) _).mono ?_
  rintro e w1 ⟨rfl, rfl⟩
  go_wp2_with fail
  go_ret3
  exact ⟨congrArg Ending.returned (by unfold t3 drop0 drop1 drop2 dbN dtN dfN; rw [addN_comm (lesN (keyN b) 2147483648)]; rfl), Q.refl _⟩
end Go.Proofs.Ytedafbbpcpebbaa
/- Arithmetic of binary64 whatever comes of it; what space's number, sample, Log and Exp return. -/
namespace Go.Proofs.Ytedafbbpcpebbaa
open Go.RowKit
set_option linter.unusedVariables false

/-- A word that an operation tells, drawn where it has no answer; the world behind it. -/
def resW (op : BinOp) (x y : Nat) (w : World) : Nat := match floatBits op .f64 x y with
  | none => nanw .f64 x y w
  | some r => r
def resU (op : BinOp) (x y : Nat) (w : World) : World := match floatBits op .f64 x y with
  | none => w.drew
  | some r => w
theorem resU_q (op : BinOp) (x y : Nat) (w : World) : Q w (resU op x y w) := by
  unfold resU; split
  · exact (Q.refl w).drew
  · exact Q.refl w
theorem run_res (op : BinOp) (hop : op = .add ∨ op = .sub ∨ op = .mul ∨ op = .quo) (t : TypeId) (x y : Nat) (P : Program) (w : World) :
    (binOp op t (.float .f64 x) (.float .f64 y)).run P w = .ok (.float .f64 (resW op x y w)) (resU op x y w) := by
  unfold resW resU
  cases h : floatBits op .f64 x y with
  | none => exact run_arith_none op hop t .f64 x y h P w
  | some r => exact run_float_arith w op t .f64 x y r h
theorem same7 (x : Nat) (w : World) : (convert 53 53 (.float .f64 x)).run Try.prog w = .ok (.float .f64 x) w :=
  run_convert_float_float w 53 53 .f64 .f64 x x (by kernel_rfl) Try.underlying53 rfl
def opD : BinOp → Ieee.Datum → Ieee.Datum → Option Ieee.Datum
  | .add, a, b => a.sum b
  | .sub, a, b => a.sum b.opposite
  | .mul, a, b => a.product b
  | .quo, a, b => a.quotient 54 b
  | _, _, _ => none
theorem bits_op (op : BinOp) (hop : op = .add ∨ op = .sub ∨ op = .mul ∨ op = .quo) (x y : Nat) : floatBits op .f64 x y = (opD op (Ieee.double.read x) (Ieee.double.read y)).map Ieee.double.write := by
  rcases hop with rfl | rfl | rfl | rfl <;> rfl
theorem opD_num {op : BinOp} {a b d : Ieee.Datum} (h : opD op a b = some d) : d.isNaN = false := by
  unfold opD at h
  split at h
  · exact sum_num h
  · exact sum_num h
  · exact product_num h
  · exact quotient_num h
  · cases h
theorem can_res (op : BinOp) (hop : op = .add ∨ op = .sub ∨ op = .mul ∨ op = .quo) (x y : Nat) (w : World) : canW (resW op x y w) = told64 (opD op (Ieee.double.read x) (Ieee.double.read y)) := by
  unfold resW
  rw [bits_op op hop]
  cases h : opD op (Ieee.double.read x) (Ieee.double.read y) with
  | none => exact can_none x y w
  | some d => exact can_some (opD_num h)
theorem resW_lt (op : BinOp) (hop : op = .add ∨ op = .sub ∨ op = .mul ∨ op = .quo) (x y : Nat) (w : World) : resW op x y w < 18446744073709551616 := by
  unfold resW
  rw [bits_op op hop]
  cases h : opD op (Ieee.double.read x) (Ieee.double.read y) with
  | none => exact (nanw64 x y w).2
  | some d => exact write64_lt d
set_option maxHeartbeats 400000 in
theorem spnum_any (a : Nat) (ha : a < 4294967296) (w : World) : Calls Try.prog 39 #[.int .u32 (a : Int)] w fun e w' => e = .returned (.float .f64 (wideW a)) ∧ Q w w' := by
  have l1 := f64from
  go_enter Try.func39, Try.ntmps39
  go_wp2_with fail
  refine (cwide_any a ha _).mono ?_
  rintro e w1 ⟨rfl, q1⟩
  go_wp2_with fail
  go_ret
  exact ⟨by simp, q1⟩
def narW (x : Nat) : Nat := toldD (some (Ieee.double.read x))
set_option maxHeartbeats 400000 in
theorem spsam_any (x : Nat) (w : World) : Calls Try.prog 41 #[.float .f64 x] w fun e w' => e = .returned (.int .u32 (narW x : Nat)) ∧ Q w w' := by
  have l1 := f64bits
  go_enter Try.func41, Try.ntmps41
  go_wp2_with fail
  refine (cnarrow_any x _).mono ?_
  rintro e w1 ⟨rfl, q1⟩
  go_wp2_with fail
  go_ret
  exact ⟨rfl, q1⟩
end Go.Proofs.Ytedafbbpcpebbaa

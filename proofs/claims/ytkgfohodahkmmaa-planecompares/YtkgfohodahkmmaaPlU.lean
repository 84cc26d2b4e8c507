/- Where two planes are unlike: the program's Unlike. -/
import Derived.Test.YtkgfohodahkmmaaPlT
namespace Go.Proofs.Ytkgfohodahkmmaa
open Go.RowKit
set_option linter.unusedVariables false
set_option linter.unusedSimpArgs false

/-- Which sample lies where. -/
def Sam (g o n c v g' o' n' c' v' : Nat) (G O N C V : Nat) : Prop := (G = g ∧ O = o ∧ N = n ∧ C = c ∧ V = v) ∨ (G = g' ∧ O = o' ∧ N = n' ∧ C = c' ∧ V = v')
/-- A rectangle. -/
structure Rc where
  x0 : Int
  y0 : Int
  x1 : Int
  y1 : Int
def Rc.v (R : Rc) : Value := .agg #[.int .i64 R.x0, .int .i64 R.y0, .int .i64 R.x1, .int .i64 R.y1]
/-- The least rectangle that has also this place. -/
def Rc.up (R : Rc) (x y : Nat) : Rc := ⟨mn2 R.x0 x, mn2 R.y0 y, mx2 R.x1 ((x : Int) + 1), mx2 R.y1 ((y : Int) + 1)⟩
/-- What has been found among the first k samples. -/
def unR (S T : List Nat) (a b : Nat) : Nat → Rc
  | 0 => ⟨a, b, 0, 0⟩
  | k + 1 => if S.getD k 0 = T.getD k 0 then unR S T a b k else (unR S T a b k).up (k % a) (k / a)
theorem unR_same {S T : List Nat} {a b k : Nat} (h : S.getD k 0 = T.getD k 0) : unR S T a b (k + 1) = unR S T a b k := by
  show (if _ then _ else _) = _
  rw [if_pos h]
theorem unR_diff {S T : List Nat} {a b k x y : Nat} (h : ¬ S.getD k 0 = T.getD k 0) (hx : k % a = x) (hy : k / a = y) : unR S T a b (k + 1) = (unR S T a b k).up x y := by
  show (if _ then _ else _) = _
  rw [if_neg h, hx, hy]
/-- A rectangle in a variable. -/
structure RBox (w : World) (V : Nat) (R : Rc) : Prop where
  c0 : w.cell? ⟨V, 0, none⟩ = some (.int .i64 R.x0)
  c1 : w.cell? ⟨V, 1, none⟩ = some (.int .i64 R.y0)
  c2 : w.cell? ⟨V, 2, none⟩ = some (.int .i64 R.x1)
  c3 : w.cell? ⟨V, 3, none⟩ = some (.int .i64 R.y1)
theorem RBox.next {w w' : World} {V : Nat} {R : Rc} (h : RBox w V R) (q : Q w w') : RBox w' V R := ⟨q.cell h.c0, q.cell h.c1, q.cell h.c2, q.cell h.c3⟩
theorem RBox.put {w : World} {V : Nat} {R R' : Rc} (h : RBox w V R) : RBox ((((w.setCell ⟨V, 0, none⟩ (.int .i64 R'.x0)).setCell ⟨V, 1, none⟩ (.int .i64 R'.y0)).setCell ⟨V, 2, none⟩ (.int .i64 R'.x1)).setCell ⟨V, 3, none⟩ (.int .i64 R'.y1)) V R' := by
  obtain ⟨h0, h1, h2, h3⟩ := h
  constructor <;> simp [go_sem, h0, h1, h2, h3]
set_option maxHeartbeats 8000000 in
set_option maxRecDepth 100000 in
theorem unlike_yes {a b : Nat} (hs : Size a b) {S : List Nat} (hl : S.length = a * b) (g o cap : Nat) {T : List Nat} (hl' : T.length = a * b) (g' o' cap' : Nat) (hcap : S.length ≤ cap) (hcap' : T.length ≤ cap') (hne : S ≠ T) (w : World) (hu : UIs w g o S) (hu' : UIs w g' o' T) :
    Calls Try.prog 36 #[.agg #[.int .i64 (a : Int), .int .i64 (b : Int), .slice (some ⟨g, o, none⟩) S.length cap], .agg #[.int .i64 (a : Int), .int .i64 (b : Int), .slice (some ⟨g', o', none⟩) T.length cap']] w fun e w' => e = .returned (.tuple #[(unR S T a b (a * b)).v, .bool true]) ∧ Q w w' := by
  have hb : ((0 : Int) != 0) = false := by decide
  have hbA : ((a : Int) != (a : Int)) = false := by simp
  have hbB : ((b : Int) != (b : Int)) = false := by simp
  have hn : S.length ≤ 65536 := by rw [hl]; exact hs.ab
  have hn' : T.length ≤ 65536 := by rw [hl']; exact hs.ab
  obtain ⟨w1, hw1⟩ : ∃ w1, ((w.alloc (.cells #[.int .i64 (a : Int), .int .i64 (b : Int), .slice (some ⟨g, o, none⟩) S.length cap] 25)).alloc (.cells #[.int .i64 (a : Int), .int .i64 (b : Int), .slice (some ⟨g', o', none⟩) T.length cap'] 25)).alloc (.cells #[.int .i64 0, .int .i64 0, .int .i64 0, .int .i64 0] 56) = w1 := ⟨_, rfl⟩
  have Q1 : Hid (Q w w1) := by rw [← hw1]; exact ((((Q.refl w).cells _ _).cells _ _).cells _ _)
  have S1 : w1.heap.size = w.heap.size + 1 + 1 + 1 := by rw [← hw1]; simp
  have z00 : w1.cell? ⟨w.heap.size, 0, none⟩ = some (.int .i64 (a : Int)) := by rw [← hw1]; simp [go_sem]
  have z01 : w1.cell? ⟨w.heap.size, 1, none⟩ = some (.int .i64 (b : Int)) := by rw [← hw1]; simp [go_sem]
  have z02 : w1.cell? ⟨w.heap.size, 2, none⟩ = some (.slice (some ⟨g, o, none⟩) S.length cap) := by rw [← hw1]; simp [go_sem]
  have z10 : w1.cell? ⟨w.heap.size + 1, 0, none⟩ = some (.int .i64 (a : Int)) := by rw [← hw1]; simp [go_sem]
  have z11 : w1.cell? ⟨w.heap.size + 1, 1, none⟩ = some (.int .i64 (b : Int)) := by rw [← hw1]; simp [go_sem]
  have z12 : w1.cell? ⟨w.heap.size + 1, 2, none⟩ = some (.slice (some ⟨g', o', none⟩) T.length cap') := by rw [← hw1]; simp [go_sem]
  have z20 : w1.cell? ⟨w.heap.size + 1 + 1, 0, none⟩ = some (.int .i64 0) := by rw [← hw1]; simp [go_sem]
  have z21 : w1.cell? ⟨w.heap.size + 1 + 1, 1, none⟩ = some (.int .i64 0) := by rw [← hw1]; simp [go_sem]
  have z22 : w1.cell? ⟨w.heap.size + 1 + 1, 2, none⟩ = some (.int .i64 0) := by rw [← hw1]; simp [go_sem]
  have z23 : w1.cell? ⟨w.heap.size + 1 + 1, 3, none⟩ = some (.int .i64 0) := by rw [← hw1]; simp [go_sem]
  have yf : ∀ j, w1.frozen? ⟨w.heap.size + 1 + 1, j, none⟩ = false := fun j => by rw [← hw1]; simp [go_sem]
  have CK1 : Hid (∀ w' : World, Calls Try.prog 17 #[.agg #[.int .i64 (a : Int), .int .i64 (b : Int), .slice (some ⟨g, o, none⟩) S.length cap]] w' fun e w'' => e = .returned (.int .i64 0) ∧ Q w' w'') := fun w' => by
    have := check_any (a : Int) (b : Int) (some ⟨g, o, none⟩) S.length cap (by omega) w'
    rw [show chk (a : Int) (b : Int) S.length = 0 by rw [hl]; exact chk_size hs] at this
    exact this
  have CK2 : Hid (∀ w' : World, Calls Try.prog 17 #[.agg #[.int .i64 (a : Int), .int .i64 (b : Int), .slice (some ⟨g', o', none⟩) T.length cap']] w' fun e w'' => e = .returned (.int .i64 0) ∧ Q w' w'') := fun w' => by
    have := check_any (a : Int) (b : Int) (some ⟨g', o', none⟩) T.length cap' (by omega) w'
    rw [show chk (a : Int) (b : Int) T.length = 0 by rw [hl']; exact chk_size hs] at this
    exact this
  have EQ : Hid (∀ w' : World, Q w w' → Calls Try.prog 38 #[.agg #[.int .i64 (a : Int), .int .i64 (b : Int), .slice (some ⟨g, o, none⟩) S.length cap], .agg #[.int .i64 (a : Int), .int .i64 (b : Int), .slice (some ⟨g', o', none⟩) T.length cap']] w' fun e w'' => e = .returned (.bool false) ∧ Q w' w'') := fun w' q => by
    have := equal_any (a : Int) (b : Int) _ S (a : Int) (b : Int) _ T w' ((hu.next q).usl hcap) ((hu'.next q).usl hcap') (by omega) (by omega)
    rw [eqB_false (fun h => hne h.2.2)] at this
    exact this
  have SZ : Hid (∀ w' : World, Calls Try.prog 65 #[.agg #[.int .i64 (a : Int), .int .i64 (b : Int), .slice (some ⟨g, o, none⟩) S.length cap], .agg #[.int .i64 (a : Int), .int .i64 (b : Int), .slice (some ⟨g', o', none⟩) T.length cap']] w' fun e w'' => e = .returned (.bool true) ∧ Q w' w'') := fun w' => by
    have := sameSize_any (a : Int) (b : Int) (some ⟨g, o, none⟩) S.length cap (a : Int) (b : Int) (some ⟨g', o', none⟩) T.length cap' w'
    rw [szB_true.2 ⟨rfl, rfl⟩] at this
    exact this
  have HS : Hid (Size a b) := hs
  have HL : Hid (S.length = a * b ∧ T.length = a * b) := ⟨hl, hl'⟩
  have HU : Hid (UIs w g o S ∧ UIs w g' o' T) := ⟨hu, hu'⟩
  have a1 := hs.a1
  have a2 := hs.a2
  have b2 := hs.b2
  clear hs hl hl' hu hu' hne
  go_enter Try.func36, Try.ntmps36
  go_wp2_with fail
  have QT := Q1.out
  clear hw1
  refine (SZ.out _).mono ?_
  rintro e m0 ⟨rfl, q0⟩
  replace z00 := q0.cell z00
  replace z01 := q0.cell z01
  replace z02 := q0.cell z02
  replace z10 := q0.cell z10
  replace z11 := q0.cell z11
  replace z12 := q0.cell z12
  replace z20 := q0.cell z20
  replace z21 := q0.cell z21
  replace z22 := q0.cell z22
  replace z23 := q0.cell z23
  replace QT := QT.trans q0
  replace yf : ∀ j, m0.frozen? ⟨w.heap.size + 1 + 1, j, none⟩ = false := fun j => by rw [q0.2]; exact yf j
  go_wp2_with fail
  refine (CK1.out _).mono ?_
  rintro e m1 ⟨rfl, q1⟩
  replace z00 := q1.cell z00
  replace z01 := q1.cell z01
  replace z02 := q1.cell z02
  replace z10 := q1.cell z10
  replace z11 := q1.cell z11
  replace z12 := q1.cell z12
  replace z20 := q1.cell z20
  replace z21 := q1.cell z21
  replace z22 := q1.cell z22
  replace z23 := q1.cell z23
  replace QT := QT.trans q1
  replace yf : ∀ j, m1.frozen? ⟨w.heap.size + 1 + 1, j, none⟩ = false := fun j => by rw [q1.2]; exact yf j
  go_wp2_with fail
  refine (CK2.out _).mono ?_
  rintro e m2 ⟨rfl, q2⟩
  replace z00 := q2.cell z00
  replace z01 := q2.cell z01
  replace z02 := q2.cell z02
  replace z10 := q2.cell z10
  replace z11 := q2.cell z11
  replace z12 := q2.cell z12
  replace z20 := q2.cell z20
  replace z21 := q2.cell z21
  replace z22 := q2.cell z22
  replace z23 := q2.cell z23
  replace QT := QT.trans q2
  replace yf : ∀ j, m2.frozen? ⟨w.heap.size + 1 + 1, j, none⟩ = false := fun j => by rw [q2.2]; exact yf j
  go_wp2_with fail
  refine (EQ.out _ QT).mono ?_
  rintro e m3 ⟨rfl, q3⟩
  replace z00 := q3.cell z00
  replace z01 := q3.cell z01
  replace z02 := q3.cell z02
  replace z10 := q3.cell z10
  replace z11 := q3.cell z11
  replace z12 := q3.cell z12
  replace z20 := q3.cell z20
  replace z21 := q3.cell z21
  replace z22 := q3.cell z22
  replace z23 := q3.cell z23
  replace QT := QT.trans q3
  replace yf : ∀ j, m3.frozen? ⟨w.heap.size + 1 + 1, j, none⟩ = false := fun j => by rw [q3.2]; exact yf j
  have hsz : w.heap.size + 1 + 1 + 1 ≤ m3.heap.size := by
    have h1 := Q1.out.1.size
    have h2 := q0.1.size
    have h3 := q1.1.size
    have h4 := q2.1.size
    have h5 := q3.1.size
    omega
  have qn : Q m3 (m3.alloc (.cells #[.int .i64 (a : Int), .int .i64 (b : Int), .int .i64 0, .int .i64 0] 56)) := (Q.refl _).cells _ _
  have RB0 : Hid (RBox (m3.alloc (.cells #[.int .i64 (a : Int), .int .i64 (b : Int), .int .i64 0, .int .i64 0] 56)) m3.heap.size (unR S T a b 0)) := ⟨by simp [go_sem, unR], by simp [go_sem, unR], by simp [go_sem, unR], by simp [go_sem, unR]⟩
  have vf0 : ∀ j, (m3.alloc (.cells #[.int .i64 (a : Int), .int .i64 (b : Int), .int .i64 0, .int .i64 0] 56)).frozen? ⟨m3.heap.size, j, none⟩ = false := fun j => by simp [go_sem]
  have l00 := z00
  have l01 := z01
  have l02 := z02
  have l10 := z10
  have l11 := z11
  have l12 := z12
  have l20 := z20
  have l21 := z21
  have l22 := z22
  have l23 := z23
  have lf := yf
  replace z00 := qn.cell z00
  replace z01 := qn.cell z01
  replace z02 := qn.cell z02
  replace z10 := qn.cell z10
  replace z11 := qn.cell z11
  replace z12 := qn.cell z12
  replace z20 := qn.cell z20
  replace z21 := qn.cell z21
  replace z22 := qn.cell z22
  replace z23 := qn.cell z23
  have QM : Hid (Q w m3) := QT
  go_wp2_with fail
  clear QT q0 q1 q2 q3 z00 z01 z02 z10 z11 z12 z20 z21 z22 z23 yf
  generalize (m3.alloc (.cells #[.int .i64 (a : Int), .int .i64 (b : Int), .int .i64 0, .int .i64 0] 56)) = n1 at qn RB0 vf0 ⊢
  obtain ⟨V, hV⟩ : ∃ V, m3.heap.size = V := ⟨_, rfl⟩
  rw [hV] at RB0 vf0 hsz ⊢
  go_loopg [36] b (fun m sy wr => ∃ y : Nat, sy = .int .i64 y ∧ y + m = b ∧ Hid (Q m3 wr) ∧ Hid (RBox wr V (unR S T a b (y * a))) ∧ (∀ j, wr.frozen? ⟨V, j, none⟩ = false))
  case atStart => exact ⟨0, rfl, by omega, qn, by rw [Nat.zero_mul]; exact RB0, vf0⟩
  case round =>
    obtain ⟨y, rfl, hm, HQ, RB, vf⟩ := hrel
    have f00 := HQ.out.cell l00
    have f01 := HQ.out.cell l01
    by_cases hyb : y < b
    · have hy0 : (0 : Int) ≤ (y : Int) := by omega
      have hy1 : (y : Int) < (b : Int) := by omega
      clear RB0 vf0 qn
      go_wp2_with fail
      go_loopg [41] a (fun m sx wx => ∃ x : Nat, sx = .int .i64 x ∧ x + m = a ∧ Hid (Q m3 wx) ∧ Hid (RBox wx V (unR S T a b (y * a + x))) ∧ (∀ j, wx.frozen? ⟨V, j, none⟩ = false))
      case atStart => exact ⟨0, rfl, by omega, HQ, RB, vf⟩
      case round =>
        obtain ⟨x, rfl, hmx, HQx, RBx, vfx⟩ := hrel
        clear HQ RB vf f00 f01
        have f00 := HQx.out.cell l00
        have f01 := HQx.out.cell l01
        have f02 := HQx.out.cell l02
        have f10 := HQx.out.cell l10
        have f11 := HQx.out.cell l11
        have f12 := HQx.out.cell l12
        by_cases hxa : x < a
        · have hx0 : (0 : Int) ≤ (x : Int) := by omega
          have hx1 : (x : Int) < (a : Int) := by omega
          have QX : Hid (Q w wr) := QM.out.trans HQx.out
          have SA : Hid (∀ n : QW wr, Calls Try.prog 47 #[.agg #[.int .i64 (a : Int), .int .i64 (b : Int), .slice (some ⟨g, o, none⟩) S.length cap], .int .i64 (x : Int), .int .i64 (y : Int)] n.x fun e w' => e = .returned (.int .u32 (smp S a x y : Nat)) ∧ Q n.x w') := fun n => sample_any HS.out HL.out.1 _ _ rfl rfl hxa hyb (HU.out.1.next (QX.out.trans n.q))
          have SB : Hid (∀ n : QW wr, Calls Try.prog 47 #[.agg #[.int .i64 (a : Int), .int .i64 (b : Int), .slice (some ⟨g', o', none⟩) T.length cap'], .int .i64 (x : Int), .int .i64 (y : Int)] n.x fun e w' => e = .returned (.int .u32 (smp T a x y : Nat)) ∧ Q n.x w') := fun n => sample_any HS.out HL.out.2 _ _ rfl rfl hxa hyb (HU.out.2.next (QX.out.trans n.q))
          obtain ⟨A, hA⟩ : ∃ A, smp S a x y = A := ⟨_, rfl⟩
          obtain ⟨B, hB⟩ : ∃ B, smp T a x y = B := ⟨_, rfl⟩
          rw [hA] at SA
          rw [hB] at SB
          have SC : Hid (∀ (n : QW wr) (G O N C V : Nat), Sam g o S.length cap A g' o' T.length cap' B G O N C V → Calls Try.prog 47 #[.agg #[.int .i64 (a : Int), .int .i64 (b : Int), .slice (some ⟨G, O, none⟩) N C], .int .i64 (x : Int), .int .i64 (y : Int)] n.x fun e w' => e = .returned (.int .u32 (V : Nat)) ∧ Q n.x w') := by
            rintro n G O N C V (⟨rfl, rfl, rfl, rfl, rfl⟩ | ⟨rfl, rfl, rfl, rfl, rfl⟩)
            · exact SA.out n
            · exact SB.out n
          have k1 : Sam g o S.length cap A g' o' T.length cap' B g o S.length cap A := Or.inl ⟨rfl, rfl, rfl, rfl, rfl⟩
          have k2 : Sam g o S.length cap A g' o' T.length cap' B g' o' T.length cap' B := Or.inr ⟨rfl, rfl, rfl, rfl, rfl⟩
          clear SA SB
          have n0 := qw_some wr
          have d00 := qw_cell f00
          have d01 := qw_cell f01
          have d02 := qw_cell f02
          have d10 := qw_cell f10
          have d11 := qw_cell f11
          have d12 := qw_cell f12
          have tail : ∀ (hAB : A = B ∨ A ≠ B), True := fun _ => trivial
          by_cases hAB : A = B
          · have e1 : ((A : Int) != (B : Int)) = false := by rw [hAB]; exact bne_self_eq_false _
            have HN : Hid (unR S T a b (y * a + x + 1) = unR S T a b (y * a + x)) := unR_same (by rw [← hA, ← hB] at hAB; exact hAB)
            clear hA hB hAB tail
            go_wp2_with fail
            refine wp_region_quiet_Q (by kernel_rfl) (by kernel_rfl) ?_
            repeat (first | go_big_quiet_step (first | (go_at_call 47; exact calls_qw (SC.out _ _ _ _ _ _ (by assumption)))) | quiet_step (first | (go_at_call 47; exact calls_qw (SC.out _ _ _ _ _ _ (by assumption)))))
            refine wpQuiet_nil ?_
            intro w4 hw'
            have hq4 := qw_out hw'
            clear hw' n0 d00 d01 d02 d10 d11 d12 SC k1 k2
            have RN : Hid (RBox w4 V (unR S T a b (y * a + x + 1))) := by rw [HN.out]; exact RBx.out.next hq4
            have QN : Hid (Q m3 w4) := HQx.out.trans hq4
            have vn : ∀ j, w4.frozen? ⟨V, j, none⟩ = false := fun j => by rw [hq4.2]; exact vfx j
            clear RBx HQx vfx QX
            go_wp2_with fail
            go_roundg (a - (x + 1))
            case measure => go_light; omega
            case rel => go_light; exact ⟨x + 1, by go_num, by omega, QN, RN, vn⟩
          · have e1 : ((A : Int) != (B : Int)) = true := by rw [bne_iff_ne]; omega
            have HN : Hid (unR S T a b (y * a + x + 1) = (unR S T a b (y * a + x)).up x y) := unR_diff (by rw [← hA, ← hB] at hAB; exact hAB) (place_mod y hxa) (place_div y hxa)
            obtain ⟨RR, hRR⟩ : ∃ RR, unR S T a b (y * a + x) = RR := ⟨_, rfl⟩
            rw [hRR] at HN RBx
            clear hA hB hAB tail
            go_wp2_with fail
            refine wp_region_quiet_Q (by kernel_rfl) (by kernel_rfl) ?_
            repeat (first | go_big_quiet_step (first | (go_at_call 47; exact calls_qw (SC.out _ _ _ _ _ _ (by assumption)))) | quiet_step (first | (go_at_call 47; exact calls_qw (SC.out _ _ _ _ _ _ (by assumption)))))
            refine wpQuiet_nil ?_
            intro w4 hw'
            have hq4 := qw_out hw'
            clear hw' n0 d00 d01 d02 d10 d11 d12 SC k1 k2
            replace RBx : Hid (RBox w4 V RR) := RBx.out.next hq4
            replace HQx : Hid (Q m3 w4) := HQx.out.trans hq4
            replace vfx : ∀ j, w4.frozen? ⟨V, j, none⟩ = false := fun j => by rw [hq4.2]; exact vfx j
            obtain ⟨t0, t1, t2, t3⟩ := id RBx.out
            clear QX
            have WP := withPlace_any RR.x0 RR.y0 RR.x1 RR.y1 (x : Int) (y : Int) ⟨by omega, by omega⟩ ⟨by omega, by omega⟩ w4
            go_wp2_with fail
            refine WP.mono ?_
            rintro e w5 ⟨rfl, q5⟩
            replace RBx : Hid (RBox w5 V RR) := RBx.out.next q5
            replace t0 := q5.cell t0
            replace t1 := q5.cell t1
            replace t2 := q5.cell t2
            replace t3 := q5.cell t3
            have vg : ∀ j, w5.frozen? ⟨V, j, none⟩ = false := fun j => by rw [q5.2]; exact vfx j
            have RF : Hid (RBox ((((w5.setCell ⟨V, 0, none⟩ (.int .i64 (mn2 RR.x0 (x : Int)))).setCell ⟨V, 1, none⟩ (.int .i64 (mn2 RR.y0 (y : Int)))).setCell ⟨V, 2, none⟩ (.int .i64 (mx2 RR.x1 ((x : Int) + 1)))).setCell ⟨V, 3, none⟩ (.int .i64 (mx2 RR.y1 ((y : Int) + 1)))) V (RR.up x y)) := RBox.put (R' := RR.up x y) RBx.out
            have QF : Hid (Q m3 ((((w5.setCell ⟨V, 0, none⟩ (.int .i64 (mn2 RR.x0 (x : Int)))).setCell ⟨V, 1, none⟩ (.int .i64 (mn2 RR.y0 (y : Int)))).setCell ⟨V, 2, none⟩ (.int .i64 (mx2 RR.x1 ((x : Int) + 1)))).setCell ⟨V, 3, none⟩ (.int .i64 (mx2 RR.y1 ((y : Int) + 1))))) := ((((HQx.out.trans q5).put (by omega)).put (by omega)).put (by omega)).put (by omega)
            have VF : ∀ j, (((((w5.setCell ⟨V, 0, none⟩ (.int .i64 (mn2 RR.x0 (x : Int)))).setCell ⟨V, 1, none⟩ (.int .i64 (mn2 RR.y0 (y : Int)))).setCell ⟨V, 2, none⟩ (.int .i64 (mx2 RR.x1 ((x : Int) + 1)))).setCell ⟨V, 3, none⟩ (.int .i64 (mx2 RR.y1 ((y : Int) + 1))))).frozen? ⟨V, j, none⟩ = false := fun j => by simp [go_sem, vg]
            clear q5 WP RBx HQx vfx
            go_wp2_with fail
            go_roundg (a - (x + 1))
            case measure => go_light; omega
            case rel =>
              go_light
              refine ⟨x + 1, by go_num, by omega, ?_, ?_, ?_⟩
              · exact QF.out
              · show Hid (RBox _ V (unR S T a b (y * a + x + 1)))
                rw [HN.out]
                exact RF
              · exact VF
        · have hxe : x = a := by omega
          go_wp2_with fail
          go_roundg (b - (y + 1))
          case measure => go_light; omega
          case rel =>
            go_light
            refine ⟨y + 1, by go_num, by omega, HQx, ?_, vfx⟩
            rw [Nat.succ_mul]
            rw [hxe] at RBx
            exact RBx
    · have hye : y = b := by omega
      obtain ⟨t0, t1, t2, t3⟩ := id RB.out
      have d20 := HQ.out.cell l20
      have d21 := HQ.out.cell l21
      have d22 := HQ.out.cell l22
      have d23 := HQ.out.cell l23
      have df : ∀ j, wr.frozen? ⟨w.heap.size + 1 + 1, j, none⟩ = false := fun j => by rw [HQ.out.2]; exact lf j
      have HF : Hid (unR S T a b (y * a) = unR S T a b (a * b)) := by rw [hye, Nat.mul_comm]; rfl
      have QF : Hid (Q w wr) := QM.out.trans HQ.out
      obtain ⟨RR, hRR⟩ : ∃ RR, unR S T a b (y * a) = RR := ⟨_, rfl⟩
      rw [hRR] at HF t0 t1 t2 t3
      clear RB RB0 vf0 qn hRR
      go_wp2_with fail
      refine bodyPost_ret (v := .tuple #[RR.v, .bool true]) (by simp [results, Try.results36, go_sem, Rc.v, d20, d21, d22, d23]) rfl ⟨by rw [HF.out], ?_⟩
      exact (((QF.out.put (by omega)).put (by omega)).put (by omega)).put (by omega)
end Go.Proofs.Ytkgfohodahkmmaa

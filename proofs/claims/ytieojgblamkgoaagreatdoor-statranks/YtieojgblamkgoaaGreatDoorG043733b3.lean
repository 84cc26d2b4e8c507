/- stat: what a stat is in memory; New. -/
import Derived.Test.YtieojgblamkgoaaGreatDoorG103dc944
import Derived.Test.YtieojgblamkgoaaGreatDoorGa5474f3a
import Derived.Test.YtieojgblamkgoaaGreatDoorGdcdbba51
namespace Go.Proofs.YtieojgblamkgoaaGreatDoor
open Go.RowKit
set_option linter.unusedVariables false
set_option linter.unusedSimpArgs false

/-- A stat of a list of samples. -/
structure StAt (w : World) (P A H b kc : Nat) (L : List Nat) : Prop where
  b1 : 1 ≤ b
  b2 : b ≤ 12
  p0 : w.cell? ⟨P, 0, none⟩ = some (.pointer (some ⟨A, 0, none⟩))
  p1 : w.cell? ⟨P, 1, none⟩ = some (.int .i64 (b : Int))
  p2 : w.cell? ⟨P, 2, none⟩ = some (.slice (some ⟨H, 0, none⟩) (2 ^ b) kc)
  p3 : w.cell? ⟨P, 3, none⟩ = some (.int .u32 (lowK L : Nat))
  p4 : w.cell? ⟨P, 4, none⟩ = some (.int .u32 (topK L : Nat))
  p5 : w.cell? ⟨P, 5, none⟩ = some (.int .i64 (nanC L : Nat))
  fz : ∀ j, w.frozen? ⟨P, j, none⟩ = false
  acc : AccAt w A L
  tal : VR w H (2 ^ b) (fun j => .int .i64 ((clsC b L j : Nat) : Int))
  cap : 2 ^ b ≤ kc
  pa : P ≠ A
  ph : P ≠ H
  ah : A ≠ H
/-- The blocks of a stat are apart from others. -/
def stB (P A H : Nat) (x : Nat) : Prop := x ≠ P ∧ x ≠ A ∧ x ≠ H
theorem AccAt.keep {w w' : World} {A : Nat} {L : List Nat} {R : Nat → Prop} (h : AccAt w A L) (f : Fr w w' R) (hR : R A) : AccAt w' A L := by
  obtain ⟨N, h⟩ := h
  exact ⟨N, fun j hj => f.cell (h.n j hj) hR, h.r, f.cell h.m hR, f.cell h.c hR, fun j => (f.frz _).trans (h.z j)⟩
theorem VR.keep {w w' : World} {g n : Nat} {F : Nat → Value} {R : Nat → Prop} (h : VR w g n F) (f : Fr w w' R) (hR : R g) : VR w' g n F := ⟨fun i hi => f.cell (h.cell i hi) hR, fun j => (f.frz _).trans (h.free j)⟩
theorem StAt.keep {w w' : World} {P A H b kc : Nat} {L : List Nat} {R : Nat → Prop} (h : StAt w P A H b kc L) (f : Fr w w' R) (hP : R P) (hA : R A) (hH : R H) : StAt w' P A H b kc L :=
  ⟨h.b1, h.b2, f.cell h.p0 hP, f.cell h.p1 hP, f.cell h.p2 hP, f.cell h.p3 hP, f.cell h.p4 hP, f.cell h.p5 hP, fun j => (f.frz _).trans (h.fz j), h.acc.keep f hA, h.tal.keep f hH, h.cap, h.pa, h.ph, h.ah⟩
theorem StAt.next {w w' : World} {P A H b kc : Nat} {L : List Nat} (h : StAt w P A H b kc L) (q : Q w w') : StAt w' P A H b kc L := h.keep (q.fr fun _ => True) trivial trivial trivial
theorem StAt.lt {w : World} {P A H b kc : Nat} {L : List Nat} (h : StAt w P A H b kc L) : P < w.heap.size ∧ A < w.heap.size ∧ H < w.heap.size := by
  obtain ⟨N, a⟩ := h.acc
  exact ⟨World.block_lt_of_cell? _ _ h.p0, World.block_lt_of_cell? _ _ a.m, h.tal.lt Nat.one_le_two_pow⟩
theorem StAt.nextB {w w' : World} {P A H b kc : Nat} {L : List Nat} (h : StAt w P A H b kc L) (q : Qb w w') : StAt w' P A H b kc L := by
  obtain ⟨lP, lA, lH⟩ := h.lt
  obtain ⟨N, a⟩ := h.acc
  exact ⟨h.b1, h.b2, q.cell h.p0, q.cell h.p1, q.cell h.p2, q.cell h.p3, q.cell h.p4, q.cell h.p5, fun j => (q.frozen (p := ⟨P, j, none⟩) lP).trans (h.fz j), ⟨N, fun j hj => q.cell (a.n j hj), a.r, q.cell a.m, q.cell a.c, fun j => (q.frozen (p := ⟨A, j, none⟩) lA).trans (a.z j)⟩, h.tal.nextB lH q, h.cap, h.pa, h.ph, h.ah⟩
set_option maxHeartbeats 2000000 in
set_option maxRecDepth 100000 in
theorem snew_bad (n : Int) (h : bitsB n = false) (w : World) : Calls Tryz.prog 10 #[.int .i64 n] w fun e w' => e = .returned (.tuple #[.pointer none, .int .i64 160]) ∧ w' = w := by
  have K := isbits_any n
  rw [h] at K
  go_enter Tryz.func10, Tryz.ntmps10
  go_wp2_with fail
  refine (K _).mono ?_
  rintro e w1 ⟨rfl, hw⟩
  obtain rfl := hw.symm
  go_wp2_with fail
  go_ret2
  exact ⟨rfl, rfl⟩
set_option maxHeartbeats 2000000 in
set_option maxRecDepth 100000 in
theorem snew_good (b : Nat) (h1 : 1 ≤ b) (h2 : b ≤ 12) (w : World) : Calls Tryz.prog 10 #[.int .i64 (b : Int)] w fun e w' => ∃ P A H kc, e = .returned (.tuple #[.pointer (some ⟨P, 0, none⟩), .int .i64 0]) ∧ w.heap.size ≤ P ∧ w.heap.size ≤ A ∧ w.heap.size ≤ H ∧ StAt w' P A H b kc [] ∧ Q w w' := by
  have K := isbits_any (b : Int)
  have hb : bitsB (b : Int) = true := by unfold bitsB; exact decide_eq_true (by omega)
  rw [hb] at K
  go_enter Tryz.func10, Tryz.ntmps10
  go_wp2_with fail
  refine (K _).mono ?_
  rintro e w1 ⟨rfl, hw⟩
  obtain rfl := hw.symm
  clear hw
  go_wp2_with fail
  refine (new_any _).mono ?_
  rintro e w2 ⟨rfl, hA, q2, s2⟩
  go_wp2_with fail
  refine (notally_any b h1 h2 _).mono ?_
  rintro e w3 ⟨H, rfl, l3, l3', hV, q3⟩
  unfold talV
  go_wp2_with fail
  refine (nospan_any _).mono ?_
  unfold spnV
  rintro e w4 ⟨rfl, q4⟩
  have hs : w2.heap.size ≤ w3.heap.size := q3.1.size
  have hs4 : w3.heap.size ≤ w4.heap.size := q4.1.size
  have q24 := q3.trans q4
  have HA : Hid _ := AccAt.next ⟨_, hA⟩ q24
  have HV : Hid _ := hV.next q4
  have HQ : Hid (Q w w4) := q2.trans q24
  clear hA hV q2 q3 q4 q24
  go_wp2_with fail
  go_ret2
  obtain ⟨w5, hw5⟩ : ∃ w5, w4.alloc (.cells #[.pointer (some ⟨w.heap.size, 0, none⟩), .int .i64 (b : Int), .slice (some ⟨H, 0, none⟩) (2 ^ b) (2 ^ b), .int .u32 4294967295, .int .u32 0, .int .i64 0] 76) = w5 := ⟨_, rfl⟩
  have q5 : Q w4 w5 := by rw [← hw5]; exact (Q.refl w4).cells _ _
  refine ⟨w4.heap.size, w.heap.size, H, 2 ^ b, rfl, by omega, Nat.le_refl _, by omega, ?_, ?_⟩
  · rw [hw5]
    refine ⟨h1, h2, ?_, ?_, ?_, ?_, ?_, ?_, ?_, AccAt.next HA q5, (VR.next HV q5).congr fun j _ => rfl, Nat.le_refl _, by omega, by omega, by omega⟩
    · rw [← hw5]; simp [go_sem]
    · rw [← hw5]; simp [go_sem]
    · rw [← hw5]; simp [go_sem]
    · rw [← hw5]; simp [go_sem, lowK, numL]
    · rw [← hw5]; simp [go_sem, topK, numL]
    · rw [← hw5]; simp [go_sem, nanC]
    · intro j; rw [← hw5]; simp [go_sem]
  · rw [hw5]; exact HQ.out.trans q5
end Go.Proofs.YtieojgblamkgoaaGreatDoor
/- stat: Ends, Mean. -/
namespace Go.Proofs.YtieojgblamkgoaaGreatDoor
open Go.RowKit
set_option linter.unusedVariables false
set_option linter.unusedSimpArgs false

/-- What Ends tells; what Mean tells. -/
def endsV (L : List Nat) : Nat × Nat × Int := if numL L = [] then (0, 0, 161) else (fkeyN (lowK L), fkeyN (topK L), 0)
def smeanV (L : List Nat) : Nat × Int := if L = [] then (0, 161) else (sumV L L.length, 0)
set_option maxRecDepth 100000 in
theorem eq2_any (a b : Int) (w : World) : (Op.equalIn 10000 74 (.agg #[.int .u32 a, .int .u32 b]) (.agg #[.int .u32 4294967295, .int .u32 0])).run Tryz.prog w = .ok (a == 4294967295 && b == 0) w := by
  rw [show (10000 : Nat) = 9999 + 1 from rfl, Op.equalIn]
  simp [go_sem, List.range', List.forIn_cons]
  by_cases h0 : a = 4294967295
  · by_cases h1 : b = 0 <;> simp [h0, h1]
  · simp [h0]
set_option maxHeartbeats 4000000 in
set_option maxRecDepth 100000 in
theorem sends_any (P A H b kc : Nat) (L : List Nat) (w : World) (h : StAt w P A H b kc L) (hL : ∀ s ∈ L, s < 4294967296) :
    Calls Tryz.prog 31 #[.pointer (some ⟨P, 0, none⟩)] w fun e w' => e = .returned (.tuple #[.int .u32 ((endsV L).1 : Nat), .int .u32 ((endsV L).2.1 : Nat), .int .i64 (endsV L).2.2]) ∧ Q w w' := by
  have hi := ends_iff hL
  have hl := lowK_le L
  have ht := topK_le hL
  have p3 := h.p3
  have p4 := h.p4
  have F1 := fromkey_any (lowK L) (by omega)
  have F2 := fromkey_any (topK L) (by omega)
  have HF : Hid (∀ n w, n = lowK L ∨ n = topK L → Calls Tryz.prog 64 #[.int .u32 (n : Int)] w fun e w' => e = .returned (.int .u32 (fkeyN n : Nat)) ∧ w' = w) := fun n w hn => by
    rcases hn with rfl | rfl
    · exact F1 w
    · exact F2 w
  have HN : Hid (∀ w : World, Calls Tryz.prog 41 #[] w fun e w' => e = .returned (.agg #[.int .u32 4294967295, .int .u32 0]) ∧ Q w w') := fun w => nospan_any w
  unfold endsV
  clear h F1 F2 hL
  generalize lowK L = x at *
  generalize topK L = y at *
  by_cases hz : numL L = []
  · obtain ⟨rfl, rfl⟩ := hi.2 hz
    rw [if_pos hz]
    have hq : ∀ x, (Op.equalIn 10000 74 (.agg #[.int .u32 ((4294967295 : Nat) : Int), .int .u32 ((0 : Nat) : Int)]) (.agg #[.int .u32 4294967295, .int .u32 0])).run Tryz.prog x = .ok true x := fun x => by rw [eq2_any]; rfl
    have q3 := qw_cell p3
    have q4 := qw_cell p4
    have n0 := qw_some w
    clear hi hz hl ht HF
    go_enter Tryz.func31, Tryz.ntmps31
    go_wp2_with fail
    refine wp_region_quiet_Q (by kernel_rfl) (by kernel_rfl) ?_
    repeat (first | go_big_quiet_step (first | (go_at_call 41; exact calls_qw (HN.out _))) | quiet_step (first | (go_at_call 41; exact calls_qw (HN.out _))))
    refine wpQuiet_nil ?_
    intro w4 hw'
    have hq4 := qw_out hw'
    go_wp2_with fail
    refine bodyPost_ret (v := .tuple #[.int .u32 0, .int .u32 0, .int .i64 161]) (by simp [results, Tryz.results31, go_sem]) rfl ⟨rfl, hq4⟩
  · rw [if_neg hz]
    have hne : ((x : Int) == 4294967295 && (y : Int) == 0) = false := by
      rw [Bool.eq_false_iff]
      intro e
      simp only [Bool.and_eq_true, beq_iff_eq] at e
      exact hz (hi.1 (by omega))
    have hq : ∀ w, (Op.equalIn 10000 74 (.agg #[.int .u32 (x : Int), .int .u32 (y : Int)]) (.agg #[.int .u32 4294967295, .int .u32 0])).run Tryz.prog w = .ok false w := fun w => by rw [eq2_any, hne]
    have HP : Hid (w.cell? ⟨P, 3, none⟩ = some (.int .u32 (x : Int)) ∧ w.cell? ⟨P, 4, none⟩ = some (.int .u32 (y : Int))) := ⟨p3, p4⟩
    have q3 := qw_cell p3
    have q4 := qw_cell p4
    have n0 := qw_some w
    clear hi hz hl ht hne p3 p4
    go_enter Tryz.func31, Tryz.ntmps31
    go_wp2_with fail
    refine wp_region_quiet_Q (by kernel_rfl) (by kernel_rfl) ?_
    repeat (first | go_big_quiet_step (first | (go_at_call 41; exact calls_qw (HN.out _))) | quiet_step (first | (go_at_call 41; exact calls_qw (HN.out _))))
    refine wpQuiet_nil ?_
    intro w4 hw'
    have hq4 := qw_out hw'
    have p3 := hq4.cell HP.out.1
    have p4 := hq4.cell HP.out.2
    clear q3 q4 n0 HP hw'
    have q3 := qw_cell p3
    have q4 := qw_cell p4
    have n0 := qw_some w4
    go_wp2_with fail
    refine wp_region_quiet_Q (by kernel_rfl) (by kernel_rfl) ?_
    repeat (first | go_big_quiet_step (first | (go_at_call 64; exact calls_qs (HF.out _ _ (by first | exact Or.inl rfl | exact Or.inr rfl)))) | quiet_step (first | (go_at_call 64; exact calls_qs (HF.out _ _ (by first | exact Or.inl rfl | exact Or.inr rfl)))))
    refine wpQuiet_nil ?_
    intro w5 hw'
    have hq5 := qw_out hw'
    go_wp2_with fail
    refine bodyPost_ret (v := .tuple #[.int .u32 (fkeyN x : Nat), .int .u32 (fkeyN y : Nat), .int .i64 0]) (by simp [results, Tryz.results31, go_sem]) rfl ⟨rfl, hq4.trans hq5⟩
set_option maxHeartbeats 4000000 in
set_option maxRecDepth 100000 in
theorem smean_any (P A H b kc : Nat) (L : List Nat) (w : World) (h : StAt w P A H b kc L) (hL : ∀ s ∈ L, s < 4294967296) (hn : L.length ≤ 1000000) (hT : Tab w) :
    Calls Tryz.prog 34 #[.pointer (some ⟨P, 0, none⟩)] w fun e w' => e = .returned (.tuple #[.int .u32 ((smeanV L).1 : Nat), .int .i64 (smeanV L).2]) ∧ Q w w' := by
  obtain ⟨N, hA⟩ := h.acc
  have p0 := h.p0
  have K := amean_any L A L.length N w hA (sumZ_fits hL (by omega)) hT
  unfold overV at K
  unfold smeanV
  clear h hA hT hL
  by_cases hz : L = []
  · subst hz
    rw [if_pos (Or.inl (by decide))] at K
    rw [if_pos rfl]
    go_enter Tryz.func34, Tryz.ntmps34
    go_wp2_with fail
    refine K.mono ?_
    rintro e w1 ⟨rfl, q1⟩
    go_wp2_with fail
    go_ret2
    exact ⟨rfl, q1⟩
  · have h1 : 0 < L.length := List.length_pos_iff.2 hz
    rw [if_neg (by omega), Int.toNat_natCast] at K
    rw [if_neg hz]
    clear hz
    generalize sumV L L.length = m at *
    go_enter Tryz.func34, Tryz.ntmps34
    go_wp2_with fail
    refine K.mono ?_
    rintro e w1 ⟨rfl, q1⟩
    go_wp2_with fail
    go_ret2
    exact ⟨rfl, q1⟩
end Go.Proofs.YtieojgblamkgoaaGreatDoor
/- Sizes, borders: the program's and the document's. -/
namespace Go.Proofs.YtieojgblamkgoaaGreatDoor
open Go.RowKit
set_option linter.unusedVariables false
set_option linter.unusedSimpArgs false

def sizeB (W H : Int) : Bool := decide (1 ≤ W) && decide (W ≤ 1024) && decide (1 ≤ H) && decide (H ≤ 1024) && decide (W * H ≤ 65536)
theorem sizeB_true {W H : Int} : sizeB W H = true ↔ SizeB W H := by
  unfold sizeB SizeB
  simp only [Bool.and_eq_true, decide_eq_true_eq]
  constructor
  · rintro ⟨⟨⟨⟨a, b⟩, c⟩, d⟩, e⟩; exact ⟨a, b, c, d, e⟩
  · rintro ⟨a, b, c, d, e⟩; exact ⟨⟨⟨⟨a, b⟩, c⟩, d⟩, e⟩
theorem sizeB_false {W H : Int} (h : ¬ SizeB W H) : sizeB W H = false := by
  cases g : sizeB W H
  · rfl
  · exact absurd (sizeB_true.1 g) h
def sideB (n : Int) : Bool := decide (1 ≤ n) && decide (n ≤ 1024)
theorem sizeB_eq (W H : Int) : sizeB W H = (sideB W && (sideB H && decide (W * H ≤ 65536))) := by
  unfold sizeB sideB
  cases decide (1 ≤ W) <;> cases decide (W ≤ 1024) <;> cases decide (1 ≤ H) <;> cases decide (H ≤ 1024) <;> rfl
theorem sideB_true {n : Int} : sideB n = true ↔ 1 ≤ n ∧ n ≤ 1024 := by
  unfold sideB; simp
theorem area_le {a b : Int} (ha : 1 ≤ a ∧ a ≤ 1024) (hb : 1 ≤ b ∧ b ≤ 1024) : 1 ≤ a * b ∧ a * b ≤ 1048576 := by
  have h1 : a * b ≤ 1024 * b := Int.mul_le_mul_of_nonneg_right ha.2 (by omega)
  have h2 : 1 * b ≤ a * b := Int.mul_le_mul_of_nonneg_right ha.1 (by omega)
  omega

theorem isSide_any (n : Int) (w : World) : Calls Tryz.prog 103 #[.int .i64 n] w fun e w' => e = .returned (.bool (sideB n)) ∧ w' = w := by
  by_cases h1 : 1 ≤ n
  · by_cases h2 : n ≤ 1024
    · have e : sideB n = true := sideB_true.2 ⟨h1, h2⟩
      rw [e]
      clear e
      go_enter Tryz.func103, Tryz.ntmps103
      go_wp2_with fail
      go_ret
      exact ⟨rfl, rfl⟩
    · have e : sideB n = false := by unfold sideB; simp [h2]
      rw [e]
      clear e
      go_enter Tryz.func103, Tryz.ntmps103
      go_wp2_with fail
      go_ret
      exact ⟨rfl, rfl⟩
  · have e : sideB n = false := by unfold sideB; simp [h1]
    rw [e]
    clear e
    go_enter Tryz.func103, Tryz.ntmps103
    go_wp2_with fail
    go_ret
    exact ⟨rfl, rfl⟩
theorem isSize_any (W H : Int) (w : World) : Calls Tryz.prog 77 #[.int .i64 W, .int .i64 H] w fun e w' => e = .returned (.bool (sizeB W H)) ∧ w' = w := by
  rw [sizeB_eq]
  cases hW : sideB W
  · have A : Calls Tryz.prog 103 #[.int .i64 W] w fun e w' => e = .returned (.bool false) ∧ w' = w := hW ▸ isSide_any W w
    go_enter Tryz.func77, Tryz.ntmps77
    go_wp2_with (go_at_call 103; refine A.mono ?_; rintro e w1 ⟨rfl, rfl⟩)
    go_ret
    exact ⟨rfl, rfl⟩
  · have A : Calls Tryz.prog 103 #[.int .i64 W] w fun e w' => e = .returned (.bool true) ∧ w' = w := hW ▸ isSide_any W w
    cases hH : sideB H
    · have B : Calls Tryz.prog 103 #[.int .i64 H] w fun e w' => e = .returned (.bool false) ∧ w' = w := hH ▸ isSide_any H w
      go_enter Tryz.func77, Tryz.ntmps77
      go_wp2_with fail
      refine A.mono ?_
      rintro e w1 ⟨rfl, rfl⟩
      go_wp2_with fail
      refine B.mono ?_
      rintro e w1 ⟨rfl, rfl⟩
      go_wp2_with fail
      go_ret
      exact ⟨rfl, rfl⟩
    · have B : Calls Tryz.prog 103 #[.int .i64 H] w fun e w' => e = .returned (.bool true) ∧ w' = w := hH ▸ isSide_any H w
      have h1 := sideB_true.1 hW
      have h2 := sideB_true.1 hH
      have h3 := area_le h1 h2
      clear hW hH
      by_cases h4 : W * H ≤ 65536
      · rw [decide_eq_true h4]
        generalize hA : W * H = A0 at h3 h4
        go_enter Tryz.func77, Tryz.ntmps77
        go_wp2_with fail
        refine A.mono ?_
        rintro e w1 ⟨rfl, rfl⟩
        go_wp2_with fail
        refine B.mono ?_
        rintro e w1 ⟨rfl, rfl⟩
        go_wp2_with fail
        go_ret
        exact ⟨rfl, rfl⟩
      · rw [decide_eq_false h4]
        generalize hA : W * H = A0 at h3 h4
        have h5 : decide (A0 ≤ 65536) = false := decide_eq_false h4
        go_enter Tryz.func77, Tryz.ntmps77
        go_wp2_with fail
        refine A.mono ?_
        rintro e w1 ⟨rfl, rfl⟩
        go_wp2_with fail
        refine B.mono ?_
        rintro e w1 ⟨rfl, rfl⟩
        go_wp2_with fail
        go_ret
        exact ⟨rfl, rfl⟩

/-- What is wrong with a plane. -/
def chk (W H : Int) (n : Nat) : Int := if sizeB W H = true then (if (n : Int) = W * H then 0 else 51) else 50
theorem chk_bad {W H : Int} {n : Nat} (h : sizeB W H = false) : chk W H n = 50 := by unfold chk; rw [h]; rfl
theorem chk_count {W H : Int} {n : Nat} (h : sizeB W H = true) (hn : (n : Int) ≠ W * H) : chk W H n = 51 := by unfold chk; rw [if_pos h, if_neg hn]
theorem chk_ok {W H : Int} {n : Nat} (h : sizeB W H = true) (hn : (n : Int) = W * H) : chk W H n = 0 := by unfold chk; rw [if_pos h, if_pos hn]
theorem chk_zero {W H : Int} {n : Nat} (h : chk W H n = 0) : ∃ a b : Nat, W = a ∧ H = b ∧ Size a b ∧ n = a * b := by
  unfold chk at h
  by_cases g : sizeB W H = true
  · rw [if_pos g] at h
    by_cases g2 : (n : Int) = W * H
    · obtain ⟨a, b, rfl, rfl, hs⟩ := (sizeB_true.1 g).nat
      refine ⟨a, b, rfl, rfl, hs, ?_⟩
      rw [← Int.natCast_mul] at g2
      omega
    · rw [if_neg g2] at h; exact absurd h (by decide)
  · rw [if_neg g] at h; exact absurd h (by decide)
theorem chk_size {a b : Nat} (h : Size a b) : chk a b (a * b) = 0 := chk_ok (sizeB_true.2 h.b) (by rw [Int.natCast_mul])
theorem chk_cases (W H : Int) (n : Nat) : chk W H n = 50 ∨ chk W H n = 51 ∨ chk W H n = 0 := by
  unfold chk; split
  · split <;> simp
  · simp
set_option maxHeartbeats 1000000 in
theorem check_any (W H : Int) (a : Option Addr) (n c : Nat) (hn : n ≤ 9223372036854775807) (w : World) :
    Calls Tryz.prog 55 #[.agg #[.int .i64 W, .int .i64 H, .slice a n c]] w fun e w' => e = .returned (.int .i64 (chk W H n)) ∧ Q w w' := by
  have q0 : ∀ c t, Q w (w.alloc (.cells c t)) := fun c t => (Q.refl w).cells c t
  have Q0 : Hid (∀ c t, Q w (w.alloc (.cells c t))) := q0
  clear q0
  cases hS : sizeB W H
  · have A : ∀ w : World, Calls Tryz.prog 77 #[.int .i64 W, .int .i64 H] w fun e w' => e = .returned (.bool false) ∧ w' = w := fun w => hS ▸ isSize_any W H w
    rw [chk_bad hS]
    clear hS
    go_enter Tryz.func55, Tryz.ntmps55
    go_wp2_with (go_at_call 77; refine (A _).mono ?_; rintro e w1 ⟨rfl, rfl⟩)
    go_ret
    exact ⟨rfl, Q0.out _ _⟩
  · have A : ∀ w : World, Calls Tryz.prog 77 #[.int .i64 W, .int .i64 H] w fun e w' => e = .returned (.bool true) ∧ w' = w := fun w => hS ▸ isSize_any W H w
    obtain ⟨h1, h2, h3, h4, h5⟩ := sizeB_true.1 hS
    have h6 := area_le ⟨h1, h2⟩ ⟨h3, h4⟩
    by_cases hc : (n : Int) = W * H
    · rw [chk_ok hS hc]
      have hw : IntKind.i64.wrap (W * H) = W * H := by rw [IntKind.wrap_i64]; omega
      have hb : ((n : Int) == W * H) = true := by rw [hc]; simp
      have hb2 : ((n : Int) != W * H) = false := by rw [hc]; simp
      clear hS hc h5 h6 h1 h2 h3 h4
      go_enter Tryz.func55, Tryz.ntmps55
      go_wp2_with (go_at_call 77; refine (A _).mono ?_; rintro e w1 ⟨rfl, rfl⟩)
      go_ret
      exact ⟨rfl, Q0.out _ _⟩
    · rw [chk_count hS hc]
      have hw : IntKind.i64.wrap (W * H) = W * H := by rw [IntKind.wrap_i64]; omega
      have hb : ((n : Int) == W * H) = false := by rw [beq_eq_false_iff_ne]; exact hc
      have hb2 : ((n : Int) != W * H) = true := by rw [bne_iff_ne]; exact hc
      clear hS hc h5 h6 h1 h2 h3 h4
      go_enter Tryz.func55, Tryz.ntmps55
      go_wp2_with (go_at_call 77; refine (A _).mono ?_; rintro e w1 ⟨rfl, rfl⟩)
      go_ret
      exact ⟨rfl, Q0.out _ _⟩

theorem tmod_mod (i n : Int) (hn : 0 < n) : (0 ≤ Int.tmod i n → Int.tmod i n = i % n) ∧ (Int.tmod i n < 0 → Int.tmod i n + n = i % n) ∧ -n < Int.tmod i n ∧ Int.tmod i n < n := by
  have e : n * Int.tdiv i n + Int.tmod i n = i := Int.mul_tdiv_add_tmod i n
  have l1 := Int.tmod_lt_of_pos i hn
  have l2 : -n < Int.tmod i n := Int.lt_tmod_of_pos i hn
  have e2 : i % n = Int.tmod i n % n := by
    conv => lhs; rw [← e]
    rw [Int.add_comm, Int.add_mul_emod_self_left]
  refine ⟨fun h => ?_, fun h => ?_, l2, l1⟩
  · rw [e2, Int.emod_eq_of_lt h l1]
  · rw [e2, ← Int.add_emod_right, Int.emod_eq_of_lt (by omega) (by omega)]
end Go.Proofs.YtieojgblamkgoaaGreatDoor

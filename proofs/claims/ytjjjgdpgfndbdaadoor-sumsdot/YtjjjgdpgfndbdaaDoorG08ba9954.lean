/- Accumulators: New, Copy, Merge, Exact. -/
import Derived.Test.YtjjjgdpgfndbdaaDoorG4343a382
import Derived.Test.YtjjjgdpgfndbdaaDoorG6b04ed90
namespace Go.Proofs.YtjjjgdpgfndbdaaDoor
open Go.RowKit
set_option linter.unusedVariables false
set_option linter.unusedSimpArgs false

theorem Q.fbn {w w' : World} {B : Nat} (f : Fb B w w') (h : w.heap.size ≤ B) : Q w w' := f.q (Q.refl w) h
def accObj (a0 a1 a2 a3 a4 m c : Int) : Obj := .cells #[.int .u64 a0, .int .u64 a1, .int .u64 a2, .int .u64 a3, .int .u64 a4, .int .i64 m, .int .i64 c] 69
theorem acc_made (w : World) (l : List Nat) (c : Nat) (N : Nat → Nat) (hr : Rep N (sumZ l)) : AccOf (w.alloc (accObj (N 0) (N 1) (N 2) (N 3) (N 4) (metV l : Nat) c)) w.heap.size l c N := by
  unfold accObj
  refine ⟨fun j hj => ?_, hr, by simp [go_sem], by simp [go_sem], fun j => by simp [go_sem]⟩
  rcases j with _ | _ | _ | _ | _ | j
  · simp [go_sem]
  · simp [go_sem]
  · simp [go_sem]
  · simp [go_sem]
  · simp [go_sem]
  · omega
theorem acc_nil (w : World) : AccOf (w.alloc (accObj 0 0 0 0 0 0 0)) w.heap.size [] 0 (fun _ => 0) := acc_made w [] 0 (fun _ => 0) Rep.nil
theorem acc_q (w : World) (a0 a1 a2 a3 a4 m c : Int) : Q w (w.alloc (accObj a0 a1 a2 a3 a4 m c)) := (Q.refl w).cells _ _
set_option maxHeartbeats 400000 in
theorem new_any (w : World) : Calls Tryd.prog 27 #[] w fun e w' => e = .returned (.pointer (some ⟨w.heap.size, 0, none⟩)) ∧ AccOf w' w.heap.size [] 0 (fun _ => 0) ∧ Q w w' ∧ w.heap.size < w'.heap.size := by
  go_enter Tryd.func27, Tryd.ntmps27
  go_wp2_with fail
  go_ret
  exact ⟨rfl, acc_nil w, acc_q w 0 0 0 0 0 0 0, by simp [go_sem]⟩
set_option maxHeartbeats 1000000 in
set_option maxRecDepth 100000 in
theorem copy_any (l : List Nat) (B c : Nat) (N : Nat → Nat) (w : World) (hA : AccOf w B l c N) : Calls Tryd.prog 31 #[.pointer (some ⟨B, 0, none⟩)] w fun e w' => e = .returned (.pointer (some ⟨w.heap.size, 0, none⟩)) ∧ AccOf w' w.heap.size l c N ∧ Q w w' ∧ w.heap.size < w'.heap.size := by
  have c0 := hA.n 0 (by decide)
  have c1 := hA.n 1 (by decide)
  have c2 := hA.n 2 (by decide)
  have c3 := hA.n 3 (by decide)
  have c4 := hA.n 4 (by decide)
  have c5 := hA.m
  have c6 := hA.c
  have HR : Hid (Rep N (sumZ l)) := hA.r
  clear hA
  go_enter Tryd.func31, Tryd.ntmps31
  go_wp2_with fail
  go_ret
  exact ⟨rfl, acc_made w l c N HR.out, acc_q w _ _ _ _ _ _ _, by simp [go_sem]⟩
set_option maxHeartbeats 1000000 in
theorem exact_any (v : Value) (S : List Nat) (w : World) (hv : USl w v S) (hg : ∀ g o cap, v = .slice (some ⟨g, o, none⟩) S.length cap → g < w.heap.size) (hb : ∀ i, S.getD i 0 < 4294967296) (hn : S.length ≤ 2147483648) (hT : Tab w) :
    Calls Tryd.prog 20 #[v] w fun e w' => e = .returned (.int .u32 (sumV S 1 : Nat)) ∧ Q w w' := by
  have hm : ∀ s ∈ S, s < 4294967296 := fun s hs => by
    obtain ⟨i, hi, rfl⟩ := List.getElem_of_mem hs
    have := hb i
    rw [List.getD_eq_getElem?_getD, List.getElem?_eq_getElem hi] at this
    exact this
  have HZ : Hid (2 * (sumZ S).natAbs < m64 ^ 5) := sumZ_fits hm hn
  have HV : Hid (USl w v S) := hv
  have HG : Hid _ := hg
  have HB : Hid (∀ i, S.getD i 0 < 4294967296) := hb
  have HT : Hid (Tab w) := hT
  clear hv hg hb hT hm
  go_enter Tryd.func20, Tryd.ntmps20
  go_wp2_with fail
  have q0 : Q w (w.alloc (accObj 0 0 0 0 0 0 0)) := acc_q w 0 0 0 0 0 0 0
  refine (acc_add v S [] w.heap.size 0 (fun _ => 0) _ (acc_nil w) (HV.out.next q0) (fun g o cap e => Nat.ne_of_lt (HG.out g o cap e)) HB.out (by omega)).mono ?_
  rintro e w1 ⟨rfl, ⟨N', hA⟩, hF⟩
  rw [List.nil_append] at hA
  have HQ : Hid (Q w w1) := hF.q q0 (Nat.le_refl _)
  clear q0 hF
  go_wp2_with fail
  refine (asum_any S w.heap.size _ N' _ hA HZ.out (HQ.out.tab HT.out)).mono ?_
  rintro e w2 ⟨rfl, q2⟩
  go_wp2_with fail
  go_ret
  exact ⟨rfl, HQ.out.trans q2⟩
/-- Five words written. -/
def put5 (w : World) (A : Nat) (D : Nat → Nat) : World := ((((w.setCell ⟨A, 0, none⟩ (.int .u64 (D 0 : Nat))).setCell ⟨A, 1, none⟩ (.int .u64 (D 1 : Nat))).setCell ⟨A, 2, none⟩ (.int .u64 (D 2 : Nat))).setCell ⟨A, 3, none⟩ (.int .u64 (D 3 : Nat))).setCell ⟨A, 4, none⟩ (.int .u64 (D 4 : Nat))
theorem put5_fb {w : World} {A : Nat} {D : Nat → Nat} : Fb A w (put5 w A D) := (((((Fb.refl A w).set rfl _).set rfl _).set rfl _).set rfl _).set rfl _
theorem put5_off {w : World} {A B j : Nat} {D : Nat → Nat} (h : 5 ≤ j) : (put5 w A D).cell? ⟨B, j, none⟩ = w.cell? ⟨B, j, none⟩ := by
  unfold put5
  rw [World.cell?_setCell_other _ _ _ _ (fun e => by injection e with _ e; omega), World.cell?_setCell_other _ _ _ _ (fun e => by injection e with _ e; omega), World.cell?_setCell_other _ _ _ _ (fun e => by injection e with _ e; omega), World.cell?_setCell_other _ _ _ _ (fun e => by injection e with _ e; omega), World.cell?_setCell_other _ _ _ _ (fun e => by injection e with _ e; omega)]
theorem put5_in {w : World} {A : Nat} {N D : Nat → Nat} (h : WIs w A N) : WIs (put5 w A D) A D := by
  have c0 := h 0 (by decide)
  have c1 := h 1 (by decide)
  have c2 := h 2 (by decide)
  have c3 := h 3 (by decide)
  have c4 := h 4 (by decide)
  unfold put5
  intro j hj
  rcases j with _ | _ | _ | _ | _ | j
  · simp [go_sem, c0, c1, c2, c3, c4]
  · simp [go_sem, c0, c1, c2, c3, c4]
  · simp [go_sem, c0, c1, c2, c3, c4]
  · simp [go_sem, c0, c1, c2, c3, c4]
  · simp [go_sem, c0, c1, c2, c3, c4]
  · omega
set_option maxHeartbeats 4000000 in
set_option maxRecDepth 100000 in
theorem merge_any (l m : List Nat) (A B c c' : Nat) (N M : Nat → Nat) (w : World) (hA : AccOf w A l c N) (hB : AccOf w B m c' M) (hn : c + c' ≤ 35184372087808) :
    Calls Tryd.prog 30 #[.pointer (some ⟨A, 0, none⟩), .pointer (some ⟨B, 0, none⟩)] w fun e w' => e = .returned (.tuple #[]) ∧ AccOf w' A (l ++ m) (c + c') (dgV N M) ∧ Fb A w w' := by
  have a0 := hA.n 0 (by decide)
  have a1 := hA.n 1 (by decide)
  have a2 := hA.n 2 (by decide)
  have a3 := hA.n 3 (by decide)
  have a4 := hA.n 4 (by decide)
  have b0 := hB.n 0 (by decide)
  have b1 := hB.n 1 (by decide)
  have b2 := hB.n 2 (by decide)
  have b3 := hB.n 3 (by decide)
  have b4 := hB.n 4 (by decide)
  have da0 := qw_cell a0
  have da1 := qw_cell a1
  have da2 := qw_cell a2
  have da3 := qw_cell a3
  have da4 := qw_cell a4
  have db0 := qw_cell b0
  have db1 := qw_cell b1
  have db2 := qw_cell b2
  have db3 := qw_cell b3
  have db4 := qw_cell b4
  have n0 := qw_some w
  have HA : Hid (AccOf w A l c N) := hA
  have HB : Hid (AccOf w B m c' M) := hB
  have HP : Hid (∀ n : QW w, Calls Tryd.prog 58 #[.agg #[.int .u64 (N 0 : Nat), .int .u64 (N 1 : Nat), .int .u64 (N 2 : Nat), .int .u64 (N 3 : Nat), .int .u64 (N 4 : Nat)], .agg #[.int .u64 (M 0 : Nat), .int .u64 (M 1 : Nat), .int .u64 (M 2 : Nat), .int .u64 (M 3 : Nat), .int .u64 (M 4 : Nat)]] n.x fun e w' => e = .returned (.agg #[.int .u64 (dgV N M 0 : Nat), .int .u64 (dgV N M 1 : Nat), .int .u64 (dgV N M 2 : Nat), .int .u64 (dgV N M 3 : Nat), .int .u64 (dgV N M 4 : Nat)]) ∧ Q n.x w') := fun n => nplus_any N M hA.r.lt hB.r.lt n.x
  clear hA hB a0 a1 a2 a3 a4 b0 b1 b2 b3 b4
  go_enter Tryd.func30, Tryd.ntmps30
  go_wp2_with fail
  refine wp_lastR 12 rfl _ rfl (by kernel_rfl) (by kernel_rfl) (by kernel_rfl) ?_
  simp only [List.take_succ_cons, List.take_zero]
  repeat (first | go_big_quiet_step (first | (go_at_call 58; exact calls_qw (HP.out _))) | quiet_step (first | (go_at_call 58; exact calls_qw (HP.out _))))
  refine wpQuiet_nil ?_
  intro nn K hK
  have HA1 : Hid (AccOf nn.x A l c N) := HA.out.next nn.q
  have HB1 : Hid (AccOf nn.x B m c' M) := HB.out.next nn.q
  have HQ1 : Hid (Q w nn.x) := nn.q
  clear HP da0 da1 da2 da3 da4 db0 db1 db2 db3 db4 n0
  have e0 := HA1.out.n 0 (by decide)
  have e1 := HA1.out.n 1 (by decide)
  have e2 := HA1.out.n 2 (by decide)
  have e3 := HA1.out.n 3 (by decide)
  have e4 := HA1.out.n 4 (by decide)
  have z0 := HA1.out.z
  go_wp2_with fail
  have HF2 : Hid (Fb A w (put5 nn.x A (dgV N M))) := (HQ1.out.fb A).trans put5_fb
  have HN2 : Hid (WIs (put5 nn.x A (dgV N M)) A (dgV N M)) := put5_in HA1.out.n
  have a5 : (put5 nn.x A (dgV N M)).cell? ⟨A, 5, none⟩ = some (.int .i64 (metV l : Nat)) := by rw [put5_off (by decide)]; exact HA1.out.m
  have a6 : (put5 nn.x A (dgV N M)).cell? ⟨A, 6, none⟩ = some (.int .i64 (c : Nat)) := by rw [put5_off (by decide)]; exact HA1.out.c
  have b5 : (put5 nn.x A (dgV N M)).cell? ⟨B, 5, none⟩ = some (.int .i64 (metV m : Nat)) := by rw [put5_off (by decide)]; exact HB1.out.m
  have b6 : (put5 nn.x A (dgV N M)).cell? ⟨B, 6, none⟩ = some (.int .i64 (c' : Nat)) := by rw [put5_off (by decide)]; exact HB1.out.c
  have z2 : ∀ j, (put5 nn.x A (dgV N M)).frozen? ⟨A, j, none⟩ = false := fun j => by rw [put5_fb.frz]; exact z0 j
  have HR : Hid (Rep (dgV N M) (sumZ (l ++ m))) := by
    show Rep (dgV N M) (sumZ (l ++ m))
    rw [sumZ_append]; exact HA.out.r.plus HB.out.r
  obtain ⟨y, hy⟩ : ∃ y, put5 nn.x A (dgV N M) = y := ⟨_, rfl⟩
  rw [hy] at a5 a6 b5 b6 z2 HF2 HN2
  unfold put5 at hy
  rw [hy]
  clear hy e0 e1 e2 e3 e4 z0 HA1 HB1 HQ1 HA HB
  have hor := or_small (metV l) (metV_lt l) (metV m) (metV_lt m)
  have HM : Hid (metV (l ++ m) = metV l ||| metV m) := metV_append l m
  generalize metV l = ml at *
  generalize metV m = mm at *
  have da5 := qw_cell a5
  have db5 := qw_cell b5
  have n0 := qw_some y
  refine wp_lastR 11 rfl _ rfl (by kernel_rfl) (by kernel_rfl) (by kernel_rfl) ?_
  simp only [List.take_succ_cons, List.take_zero]
  repeat (first | go_big_quiet_step (fail) | quiet_step (fail))
  refine wpQuiet_nil ?_
  intro n2 K2 hK2
  have f5 := n2.q.cell a5
  have f6 := n2.q.cell a6
  have g6 := n2.q.cell b6
  have zf : ∀ j, n2.x.frozen? ⟨A, j, none⟩ = false := fun j => by rw [n2.q.2]; exact z2 j
  have HF3 : Hid (Fb A w n2.x) := HF2.out.trans (n2.q.fb A)
  have HN3 : Hid (WIs n2.x A (dgV N M)) := fun j hj => n2.q.cell (HN2.out j hj)
  clear da5 db5 n0 a5 a6 b5 b6 z2 HF2 HN2
  generalize n2.x = y2 at *
  have z5 := zf 5
  go_wp2_with fail
  have h6 : (y2.setCell ⟨A, 5, none⟩ (.int .i64 ((ml ||| mm : Nat) : Int))).cell? ⟨A, 6, none⟩ = some (.int .i64 (c : Nat)) := by rw [set_off (by decide)]; exact f6
  have k6 : (y2.setCell ⟨A, 5, none⟩ (.int .i64 ((ml ||| mm : Nat) : Int))).cell? ⟨B, 6, none⟩ = some (.int .i64 (c' : Nat)) := by
    rw [World.cell?_setCell_other _ _ _ _ (fun e => by injection e with _ e; omega)]; exact g6
  have h5 : (y2.setCell ⟨A, 5, none⟩ (.int .i64 ((ml ||| mm : Nat) : Int))).cell? ⟨A, 5, none⟩ = some (.int .i64 ((ml ||| mm : Nat) : Int)) := set_same f5
  have HN4 : Hid (WIs (y2.setCell ⟨A, 5, none⟩ (.int .i64 ((ml ||| mm : Nat) : Int))) A (dgV N M)) := fun j hj => by rw [set_off (by omega)]; exact HN3.out j hj
  have z4 : ∀ j, (y2.setCell ⟨A, 5, none⟩ (.int .i64 ((ml ||| mm : Nat) : Int))).frozen? ⟨A, j, none⟩ = false := fun j => by rw [World.frozen?_setCell]; exact zf j
  have HF4 : Hid (Fb A w (y2.setCell ⟨A, 5, none⟩ (.int .i64 ((ml ||| mm : Nat) : Int)))) := HF3.out.set rfl _
  generalize y2.setCell ⟨A, 5, none⟩ (.int .i64 ((ml ||| mm : Nat) : Int)) = y3 at *
  clear f5 f6 g6 zf HF3 HN3 z5 hor
  have da6 := qw_cell h6
  have db6 := qw_cell k6
  have n0 := qw_some y3
  have ew : wrap64 ((c : Int) + (c' : Int)) = ((c + c' : Nat) : Int) := by unfold wrap64; omega
  refine wp_lastR 11 rfl _ rfl (by kernel_rfl) (by kernel_rfl) (by kernel_rfl) ?_
  simp only [List.take_succ_cons, List.take_zero]
  repeat (first | go_big_quiet_step (fail) | quiet_step (fail))
  refine wpQuiet_nil ?_
  intro n3 K3 hK3
  have f5 := n3.q.cell h5
  have f6 := n3.q.cell h6
  have zf : ∀ j, n3.x.frozen? ⟨A, j, none⟩ = false := fun j => by rw [n3.q.2]; exact z4 j
  have HF5 : Hid (Fb A w n3.x) := HF4.out.trans (n3.q.fb A)
  have HN5 : Hid (WIs n3.x A (dgV N M)) := fun j hj => n3.q.cell (HN4.out j hj)
  clear da6 db6 n0 h5 h6 k6 z4 HF4 HN4
  generalize n3.x = y4 at *
  have z6 := zf 6
  have HX : Hid (AccOf (y4.setCell ⟨A, 6, none⟩ (.int .i64 ((c + c' : Nat) : Int))) A (l ++ m) (c + c') (dgV N M)) := by
    have h : AccOf y4 A (l ++ m) c (dgV N M) := ⟨HN5.out, HR.out, by rw [HM.out]; exact f5, f6, zf⟩
    exact h.cnt
  have HY : Hid (Fb A w (y4.setCell ⟨A, 6, none⟩ (.int .i64 ((c + c' : Nat) : Int)))) := HF5.out.set rfl _
  go_wp2_with fail
  refine bodyPost_end (results_none Tryd.results30 _ _ _) rfl ⟨rfl, HX.out, HY.out⟩
end Go.Proofs.YtjjjgdpgfndbdaaDoor
/- The chapter's examples: what the program tells of them. -/
namespace Go.Proofs.YtjjjgdpgfndbdaaDoor
open Go.RowKit
set_option linter.unusedVariables false
set_option linter.unusedSimpArgs false
set_option maxRecDepth 100000

def kl1 : List Nat := [1065353216, 864026624, 864026624]
def kl2 : List Nat := [2130706432, 2130706432, 4278190080]
def kl3 : List Nat := [2147483648, 2147483648]
def kl4 : List Nat := [1065353216, 864026624]
def kl5 : List Nat := [1065353216, 1077936128]
def kl6 : List Nat := [1065353216, 1065353216, 1]
theorem k1 : leftV kl1 = 1065353216 := by decide +kernel
theorem k2 : pairsV kl1 = 1065353217 := by decide +kernel
theorem k3 : sumV kl1 1 = 1065353217 := by decide +kernel
theorem k4 : kahV kl1 = 1065353217 := by decide +kernel
theorem k5 : left64V kl1 = 4607182419336888320 := by decide +kernel
theorem k6 : leftV kl2 = 2139095040 := by decide +kernel
theorem k7 : sumV kl2 1 = 2130706432 := by decide +kernel
theorem k8 : sumV kl3 1 = 2147483648 := by decide +kernel
theorem k9a : floatBits .mul .f64 (floatOfInt .f64 1) (wideW 1065353216) = some 4607182418800017408 := by decide +kernel
theorem k9b : floatBits .mul .f64 (floatOfInt .f64 (-1)) (wideW 864026624) = some 13722468064597901312 := by decide +kernel
theorem k9 : dotF [4607182418800017408, 13722468064597901312] = 4607182418263146496 := by decide +kernel
theorem k10a : floatBits .mul .f64 (floatOfInt .f64 32768) (wideW 1065353216) = some 4674736413210574848 := by decide +kernel
theorem k10b : floatBits .mul .f64 (floatOfInt .f64 32768) (wideW 1077936128) = some 4681491812651630592 := by decide +kernel
theorem k10 : overW (dotF [4674736413210574848, 4681491812651630592]) = 1073741824 := by decide +kernel
theorem k11 : overV [] 0 = (0, 33) := by decide +kernel
theorem k12 : sumV kl6 1 = 1073741824 := by decide +kernel
theorem k13 : overV kl6 3 = (1059760811, 0) := by decide +kernel
theorem k14 : sumV (kl6 ++ kl6) 1 = 1082130432 := by decide +kernel
theorem small_of {l : List Nat} (h : l.all (· < 4294967296) = true) : (∀ s ∈ l, s < 4294967296) ∧ ∀ i, l.getD i 0 < 4294967296 := by
  have h1 : ∀ s ∈ l, s < 4294967296 := fun s hs => by simpa using List.all_eq_true.1 h s hs
  refine ⟨h1, fun i => ?_⟩
  rcases Nat.lt_or_ge i l.length with g | g
  · rw [List.getD_eq_getElem?_getD, List.getElem?_eq_getElem g]
    exact h1 _ (List.getElem_mem g)
  · rw [List.getD_eq_getElem?_getD, List.getElem?_eq_none g]
    decide
/-- A list just made. -/
structure Lst (w : World) (v : Value) (l : List Nat) : Prop where
  u : USl w v l
  b : ∃ g c, v = .slice (some ⟨g, 0, none⟩) l.length c ∧ g < w.heap.size
theorem Lst.next {w w' : World} {v : Value} {l : List Nat} (h : Lst w v l) (q : Q w w') : Lst w' v l := by
  obtain ⟨u, g, c, e, hg⟩ := h
  exact ⟨u.next q, g, c, e, Nat.lt_of_lt_of_le hg q.1.size⟩
theorem Lst.far {w w' : World} {v : Value} {l : List Nat} {B : Nat} (h : Lst w v l) (f : Fb B w w') (hB : ∀ g c, v = .slice (some ⟨g, 0, none⟩) l.length c → g ≠ B) : Lst w' v l := by
  obtain ⟨u, g, c, e, hg⟩ := h
  refine ⟨?_, g, c, e, Nat.lt_of_lt_of_le hg f.size⟩
  rcases u with ⟨g2, o, cap, e2, hc, hI⟩ | hl
  · refine Or.inl ⟨g2, o, cap, e2, hc, fun i hi => f.cell (hI i hi) ?_⟩
    have : g2 = g := by rw [e] at e2; injection e2 with e3; injection e3 with e3; injection e3 with e3; exact e3.symm
    rw [this]
    exact hB g c e
  · exact Or.inr hl
theorem lst3 (w : World) (a b c : Nat) (t : TypeId) : Lst (w.alloc (.cells #[.int .u32 (a : Int), .int .u32 (b : Int), .int .u32 (c : Int)] t)) (.slice (some ⟨w.heap.size, 0, none⟩) 3 3) [a, b, c] := by
  refine ⟨Or.inl ⟨w.heap.size, 0, 3, rfl, Nat.le_refl 3, fun i hi => ?_⟩, w.heap.size, 3, rfl, by simp [go_sem]⟩
  rcases i with _ | _ | _ | i
  · simp [go_sem]
  · simp [go_sem]
  · simp [go_sem]
  · simp at hi; omega
theorem lst2 (w : World) (a b : Nat) (t : TypeId) : Lst (w.alloc (.cells #[.int .u32 (a : Int), .int .u32 (b : Int)] t)) (.slice (some ⟨w.heap.size, 0, none⟩) 2 2) [a, b] := by
  refine ⟨Or.inl ⟨w.heap.size, 0, 2, rfl, Nat.le_refl 2, fun i hi => ?_⟩, w.heap.size, 2, rfl, by simp [go_sem]⟩
  rcases i with _ | _ | i
  · simp [go_sem]
  · simp [go_sem]
  · simp at hi; omega
theorem ist2 (w : World) (a b : Int) (t : TypeId) : ISl (w.alloc (.cells #[.int .i64 a, .int .i64 b] t)) (.slice (some ⟨w.heap.size, 0, none⟩) 2 2) [a, b] := by
  refine Or.inl ⟨w.heap.size, 0, 2, rfl, fun i hi => ?_⟩
  rcases i with _ | _ | i
  · simp [go_sem]
  · simp [go_sem]
  · simp at hi; omega
theorem ist1 (w : World) (a : Int) (t : TypeId) : ISl (w.alloc (.cells #[.int .i64 a] t)) (.slice (some ⟨w.heap.size, 0, none⟩) 1 1) [a] := by
  refine Or.inl ⟨w.heap.size, 0, 1, rfl, fun i hi => ?_⟩
  rcases i with _ | i
  · simp [go_sem]
  · simp at hi
theorem kn_left1 {v : Value} {w : World} (h : Lst w v kl1) : Calls Tryd.prog 11 #[v] w fun e w' => e = .returned (.int .u32 1065353216) ∧ Q w w' := by
  have := left_any v kl1 w h.u (by decide); rw [k1] at this; exact this
theorem kn_pairs {v : Value} {w : World} (h : Lst w v kl1) : Calls Tryd.prog 16 #[v] w fun e w' => e = .returned (.int .u32 1065353217) ∧ Q w w' := by
  have := pairs_any 3 v kl1 w (by decide) h.u (by decide); rw [k2] at this; exact this
theorem kn_kah {v : Value} {w : World} (h : Lst w v kl1) : Calls Tryd.prog 18 #[v] w fun e w' => e = .returned (.int .u32 1065353217) ∧ Q w w' := by
  have := kahan_any v kl1 w h.u (by decide); rw [k4] at this; exact this
theorem kn_left64 {v : Value} {w : World} (h : Lst w v kl1) : Calls Tryd.prog 13 #[v] w fun e w' => e = .returned (.int .u64 4607182419336888320) ∧ Q w w' := by
  have := left64_any v kl1 w h.u (by decide) (small_of (by decide)).2; rw [k5] at this; exact this
theorem kn_left2 {v : Value} {w : World} (h : Lst w v kl2) : Calls Tryd.prog 11 #[v] w fun e w' => e = .returned (.int .u32 2139095040) ∧ Q w w' := by
  have := left_any v kl2 w h.u (by decide); rw [k6] at this; exact this
theorem exact_lst {v : Value} {w : World} {l : List Nat} (h : Lst w v l) (hl : l.all (· < 4294967296) = true) (hn : l.length ≤ 2147483648) (hT : Tab w) : Calls Tryd.prog 20 #[v] w fun e w' => e = .returned (.int .u32 (sumV l 1 : Nat)) ∧ Q w w' := by
  refine exact_any v l w h.u (fun g o cap e => ?_) (small_of hl).2 hn hT
  obtain ⟨_, g2, c, e2, hg⟩ := h
  rw [e] at e2
  injection e2 with e3
  injection e3 with e3
  injection e3 with e3
  rw [e3]; exact hg
theorem kn_exact1 {v : Value} {w : World} (h : Lst w v kl1) (hT : Tab w) : Calls Tryd.prog 20 #[v] w fun e w' => e = .returned (.int .u32 1065353217) ∧ Q w w' := by
  have := exact_lst h (by decide) (by decide) hT; rw [k3] at this; exact this
theorem kn_exact2 {v : Value} {w : World} (h : Lst w v kl2) (hT : Tab w) : Calls Tryd.prog 20 #[v] w fun e w' => e = .returned (.int .u32 2130706432) ∧ Q w w' := by
  have := exact_lst h (by decide) (by decide) hT; rw [k7] at this; exact this
theorem kn_exact3 {v : Value} {w : World} (h : Lst w v kl3) (hT : Tab w) : Calls Tryd.prog 20 #[v] w fun e w' => e = .returned (.int .u32 2147483648) ∧ Q w w' := by
  have := exact_lst h (by decide) (by decide) hT; rw [k8] at this; exact this
theorem kn_dot64 {u v : Value} {w : World} (hw : ISl w u [1, -1]) (h : Lst w v kl4) : Calls Tryd.prog 22 #[u, v] w fun e w' => e = .returned (.tuple #[.int .u64 4607182418263146496, .int .i64 0]) ∧ Q w w' := by
  have := dot64_of (dot_fin u v [1, -1] kl4 [4607182418800017408, 13722468064597901312] w hw h.u (by decide) rfl (small_of (by decide)).2 (fun i hi => by
    rcases i with _ | _ | i
    · exact ⟨by decide, by decide⟩
    · exact ⟨by decide, by decide⟩
    · simp at hi; omega) rfl (fun i hi => by
    rcases i with _ | _ | i
    · exact k9a
    · exact k9b
    · simp [kl4] at hi; omega))
  rw [k9] at this; exact this
theorem kn_dot {u v : Value} {w : World} (hw : ISl w u [32768, 32768]) (h : Lst w v kl5) : Calls Tryd.prog 24 #[u, v] w fun e w' => e = .returned (.tuple #[.int .u32 1073741824, .int .i64 0]) ∧ Q w w' := by
  have := dot_of (dot_fin u v [32768, 32768] kl5 [4674736413210574848, 4681491812651630592] w hw h.u (by decide) rfl (small_of (by decide)).2 (fun i hi => by
    rcases i with _ | _ | i
    · exact ⟨by decide, by decide⟩
    · exact ⟨by decide, by decide⟩
    · simp at hi; omega) rfl (fun i hi => by
    rcases i with _ | _ | i
    · exact k10a
    · exact k10b
    · simp [kl5] at hi; omega))
  rw [k10] at this; exact this
theorem kn_short {u : Value} {w : World} (hw : ISl w u [1]) : Calls Tryd.prog 22 #[u, .slice none 0 0] w fun e w' => e = .returned (.tuple #[.int .u64 0, .int .i64 30]) ∧ w' = w :=
  dot64_short u (.slice none 0 0) [1] [] w hw (Or.inr ⟨none, 0, rfl, rfl⟩) (by decide)
theorem kn_mean0 {B : Nat} {w : World} (h : AccOf w B [] 0 (fun _ => 0)) (hT : Tab w) : Calls Tryd.prog 33 #[.pointer (some ⟨B, 0, none⟩)] w fun e w' => e = .returned (.tuple #[.int .u32 0, .int .i64 33]) ∧ Q w w' := by
  have := amean_any [] B 0 _ w h (sumZ_fits (by simp) (by decide)) hT
  rw [show ((0 : Nat) : Int) = 0 from rfl, k11] at this
  exact this
theorem kn_mean {B : Nat} {w : World} {N : Nat → Nat} (h : AccOf w B kl6 3 N) (hT : Tab w) : Calls Tryd.prog 33 #[.pointer (some ⟨B, 0, none⟩)] w fun e w' => e = .returned (.tuple #[.int .u32 1059760811, .int .i64 0]) ∧ Q w w' := by
  have := amean_any kl6 B 3 _ w h (sumZ_fits (small_of (by decide)).1 (by decide)) hT
  rw [show ((3 : Nat) : Int) = 3 from rfl, k13] at this
  exact this
theorem kn_sum {B c : Nat} {w : World} {N : Nat → Nat} (h : AccOf w B kl6 c N) (hT : Tab w) : Calls Tryd.prog 34 #[.pointer (some ⟨B, 0, none⟩)] w fun e w' => e = .returned (.int .u32 1073741824) ∧ Q w w' := by
  have := asum_any kl6 B c _ w h (sumZ_fits (small_of (by decide)).1 (by decide)) hT
  rw [k12] at this
  exact this
theorem kn_sum2 {B c : Nat} {w : World} {N : Nat → Nat} (h : AccOf w B (kl6 ++ kl6) c N) (hT : Tab w) : Calls Tryd.prog 34 #[.pointer (some ⟨B, 0, none⟩)] w fun e w' => e = .returned (.int .u32 1082130432) ∧ Q w w' := by
  have := asum_any (kl6 ++ kl6) B c _ w h (sumZ_fits (small_of (by decide)).1 (by decide)) hT
  rw [k14] at this
  exact this
set_option maxHeartbeats 8000000 in
theorem known_any (w : World) (hT : Tab w) : Calls Tryd.prog 9 #[] w fun e w' => e = .returned (.bool true) ∧ Q w w' := by
  have HT : Hid (Tab w) := hT
  clear hT
  go_enter Tryd.func9, Tryd.ntmps9
  go_wp2_with fail
  have HL : Hid (Lst _ _ kl1) := lst3 w 1065353216 864026624 864026624 25
  have HQ : Hid (Q w _) := (Q.refl w).cells #[.int .u32 1065353216, .int .u32 864026624, .int .u32 864026624] 25
  refine (kn_left1 HL.out).mono ?_
  rintro e w1 ⟨rfl, q1⟩
  have HL1 : Hid (Lst w1 _ kl1) := HL.out.next q1
  have HQ1 : Hid (Q w w1) := HQ.out.trans q1
  clear HL HQ q1
  go_wp2_with fail
  refine (kn_pairs HL1.out).mono ?_
  rintro e w2 ⟨rfl, q2⟩
  have HL2 : Hid (Lst w2 _ kl1) := HL1.out.next q2
  have HQ2 : Hid (Q w w2) := HQ1.out.trans q2
  clear HL1 HQ1 q2
  go_wp2_with fail
  refine (kn_exact1 HL2.out (HQ2.out.tab HT.out)).mono ?_
  rintro e w3 ⟨rfl, q3⟩
  have HL3 : Hid (Lst w3 _ kl1) := HL2.out.next q3
  have HQ3 : Hid (Q w w3) := HQ2.out.trans q3
  clear HL2 HQ2 q3
  go_wp2_with fail
  refine (kn_kah HL3.out).mono ?_
  rintro e w4 ⟨rfl, q4⟩
  have HL4 : Hid (Lst w4 _ kl1) := HL3.out.next q4
  have HQ4 : Hid (Q w w4) := HQ3.out.trans q4
  clear HL3 HQ3 q4
  go_wp2_with fail
  refine (kn_left64 HL4.out).mono ?_
  rintro e w5 ⟨rfl, q5⟩
  have HQ5 : Hid (Q w w5) := HQ4.out.trans q5
  clear HL4 HQ4 q5
  go_wp2_with fail
  have HQ6 : Hid (Q w _) := HQ5.out.cells #[.int .u32 2130706432, .int .u32 2130706432, .int .u32 4278190080] 25
  refine (kn_left2 (lst3 w5 2130706432 2130706432 4278190080 25)).mono ?_
  rintro e w6 ⟨rfl, q6⟩
  have HQ7 : Hid (Q w w6) := HQ6.out.trans q6
  clear HQ5 HQ6 q6
  go_wp2_with fail
  have HQ8 : Hid (Q w _) := HQ7.out.cells #[.int .u32 2130706432, .int .u32 2130706432, .int .u32 4278190080] 25
  refine (kn_exact2 (lst3 w6 2130706432 2130706432 4278190080 25) (HQ8.out.tab HT.out)).mono ?_
  rintro e w7 ⟨rfl, q7⟩
  have HQ9 : Hid (Q w w7) := HQ8.out.trans q7
  clear HQ7 HQ8 q7
  go_wp2_with fail
  have HQ10 : Hid (Q w _) := HQ9.out.cells #[.int .u32 2147483648, .int .u32 2147483648] 25
  refine (kn_exact3 (lst2 w7 2147483648 2147483648 25) (HQ10.out.tab HT.out)).mono ?_
  rintro e w8 ⟨rfl, q8⟩
  have HQ11 : Hid (Q w w8) := HQ10.out.trans q8
  clear HQ9 HQ10 q8
  go_wp2_with fail
  have qa : Q w8 (w8.alloc (.cells #[.int .i64 1, .int .i64 (-1)] 3)) := (Q.refl w8).cells _ _
  have qb : Q (w8.alloc (.cells #[.int .i64 1, .int .i64 (-1)] 3)) ((w8.alloc (.cells #[.int .i64 1, .int .i64 (-1)] 3)).alloc (.cells #[.int .u32 1065353216, .int .u32 864026624] 25)) := (Q.refl _).cells _ _
  have HQ12 : Hid (Q w _) := (HQ11.out.trans qa).trans qb
  have hL := lst2 (w8.alloc (.cells #[.int .i64 1, .int .i64 (-1)] 3)) 1065353216 864026624 25
  rw [show (w8.alloc (.cells #[.int .i64 1, .int .i64 (-1)] 3)).heap.size = w8.heap.size + 1 by simp [go_sem]] at hL
  refine (kn_dot64 ((ist2 w8 1 (-1) 3).next qb) hL).mono ?_
  rintro e w9 ⟨rfl, q9⟩
  have HQ13 : Hid (Q w w9) := HQ12.out.trans q9
  clear HQ11 HQ12 q9 qa qb hL
  go_wp2_with fail
  have qa : Q w9 (w9.alloc (.cells #[.int .i64 32768, .int .i64 32768] 3)) := (Q.refl w9).cells _ _
  have qb : Q (w9.alloc (.cells #[.int .i64 32768, .int .i64 32768] 3)) ((w9.alloc (.cells #[.int .i64 32768, .int .i64 32768] 3)).alloc (.cells #[.int .u32 1065353216, .int .u32 1077936128] 25)) := (Q.refl _).cells _ _
  have HQ14 : Hid (Q w _) := (HQ13.out.trans qa).trans qb
  have hL := lst2 (w9.alloc (.cells #[.int .i64 32768, .int .i64 32768] 3)) 1065353216 1077936128 25
  rw [show (w9.alloc (.cells #[.int .i64 32768, .int .i64 32768] 3)).heap.size = w9.heap.size + 1 by simp [go_sem]] at hL
  refine (kn_dot ((ist2 w9 32768 32768 3).next qb) hL).mono ?_
  rintro e w10 ⟨rfl, q10⟩
  have HQ15 : Hid (Q w w10) := HQ14.out.trans q10
  clear HQ13 HQ14 q10 qa qb hL
  go_wp2_with fail
  have HQ16 : Hid (Q w _) := HQ15.out.cells #[.int .i64 1] 3
  refine (kn_short (ist1 w10 1 3)).mono ?_
  rintro e w11 ⟨rfl, hw11⟩
  rw [← hw11] at HQ16
  clear hw11 HQ15
  go_wp2_with fail
  refine (new_any _).mono ?_
  rintro e w12 ⟨rfl, hA, q12, hs12⟩
  have HQ17 : Hid (Q w w12) := HQ16.out.trans q12
  have HA : Hid (AccOf w12 w11.heap.size [] 0 (fun _ => 0)) := hA
  have hlo : w.heap.size ≤ w11.heap.size := HQ16.out.1.size
  clear HQ16 q12 hA
  generalize w11.heap.size = A at *
  go_wp2_with fail
  refine (kn_mean0 HA.out (HQ17.out.tab HT.out)).mono ?_
  rintro e w13 ⟨rfl, q13⟩
  have HQ18 : Hid (Q w w13) := HQ17.out.trans q13
  have HA2 : Hid (AccOf w13 A [] 0 (fun _ => 0)) := HA.out.next q13
  have hs13 : A < w13.heap.size := Nat.lt_of_lt_of_le hs12 q13.1.size
  clear HQ17 q13 HA hs12
  go_wp2_with fail
  have q14 : Q w13 (w13.alloc (.cells #[.int .u32 1065353216, .int .u32 1065353216, .int .u32 1] 25)) := (Q.refl w13).cells _ _
  have HQ19 : Hid (Q w _) := HQ18.out.trans q14
  have hL := lst3 w13 1065353216 1065353216 1 25
  refine (acc_add _ kl6 [] A 0 _ _ (HA2.out.next q14) hL.u (fun g o cap e => by injection e with e; injection e with e; injection e with e; omega) (small_of (by decide)).2 (by decide)).mono ?_
  rintro e w15 ⟨rfl, ⟨N1, hA⟩, hF⟩
  have HQ20 : Hid (Q w w15) := hF.q HQ19.out hlo
  have HA3 : Hid (AccOf w15 A kl6 3 N1) := hA
  have hs15 : A < w15.heap.size := Nat.lt_of_lt_of_le (Nat.lt_of_lt_of_le hs13 q14.1.size) hF.size
  clear HQ18 HQ19 q14 HA2 hA hF hL hs13
  go_wp2_with fail
  refine (copy_any kl6 A 3 N1 _ HA3.out).mono ?_
  rintro e w16 ⟨rfl, hB, q16, hs16⟩
  have hne : A ≠ w15.heap.size := by omega
  have HB : Hid (AccOf w16 w15.heap.size kl6 3 N1) := hB
  have HA4 : Hid (AccOf w16 A kl6 3 N1) := HA3.out.next q16
  have HQ21 : Hid (Q w w16) := HQ20.out.trans q16
  have hlo2 : w.heap.size ≤ w15.heap.size := HQ20.out.1.size
  clear HA3 HQ20 hB q16 hs16 hs15
  generalize w15.heap.size = B at *
  go_wp2_with fail
  refine (merge_any kl6 kl6 B A 3 3 N1 N1 _ HB.out HA4.out (by decide)).mono ?_
  rintro e w17 ⟨rfl, hB2, hF⟩
  have HB2 : Hid (AccOf w17 B (kl6 ++ kl6) 6 (dgV N1 N1)) := hB2
  have HA5 : Hid (AccOf w17 A kl6 3 N1) := HA4.out.far hF hne
  have HQ22 : Hid (Q w w17) := hF.q HQ21.out hlo2
  clear HB HA4 HQ21 hF hB2
  go_wp2_with fail
  refine (kn_mean HA5.out (HQ22.out.tab HT.out)).mono ?_
  rintro e w18 ⟨rfl, q18⟩
  have HB3 : Hid (AccOf w18 B (kl6 ++ kl6) 6 (dgV N1 N1)) := HB2.out.next q18
  have HA6 : Hid (AccOf w18 A kl6 3 N1) := HA5.out.next q18
  have HQ23 : Hid (Q w w18) := HQ22.out.trans q18
  clear HB2 HA5 HQ22 q18
  go_wp2_with fail
  refine (kn_sum HA6.out (HQ23.out.tab HT.out)).mono ?_
  rintro e w19 ⟨rfl, q19⟩
  have HB4 : Hid (AccOf w19 B (kl6 ++ kl6) 6 (dgV N1 N1)) := HB3.out.next q19
  have HA7 : Hid (AccOf w19 A kl6 3 N1) := HA6.out.next q19
  have HQ24 : Hid (Q w w19) := HQ23.out.trans q19
  clear HB3 HA6 HQ23 q19
  go_wp2_with fail
  refine (acount_any A 3 _ HA7.out.c).mono ?_
  rintro e w20 ⟨rfl, rfl⟩
  go_wp2_with fail
  refine (acount_any B 6 _ HB4.out.c).mono ?_
  rintro e w21 ⟨rfl, rfl⟩
  go_wp2_with fail
  refine (kn_sum2 HB4.out (HQ24.out.tab HT.out)).mono ?_
  rintro e w22 ⟨rfl, q22⟩
  go_wp2_with fail
  go_ret
  exact ⟨rfl, HQ24.out.trans q22⟩
end Go.Proofs.YtjjjgdpgfndbdaaDoor

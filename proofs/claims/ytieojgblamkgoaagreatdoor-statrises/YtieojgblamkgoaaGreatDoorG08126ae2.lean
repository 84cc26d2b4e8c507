/- Plain facts: what is told of a list of samples does not hang on their order; a sample and its negative leave it. -/
import Derived.Test.YtieojgblamkgoaaGreatDoorGbc27328e
import Derived.Test.YtieojgblamkgoaaGreatDoorGf88f0262
import Derived.Test.YtieojgblamkgoaaGreatDoorGf196db84
import Derived.Test.YtieojgblamkgoaaGreatDoorG66edaefc
import Derived.Test.YtieojgblamkgoaaGreatDoorGa75617b7
namespace Go.Proofs.YtieojgblamkgoaaGreatDoor
open Go.RowKit
set_option linter.unusedVariables false
set_option linter.unusedSimpArgs false

theorem sumZ_cons (s : Nat) (l : List Nat) : sumZ (s :: l) = unK s + sumZ l := by
  have h := sumZ_append [s] l
  rw [show sumZ [s] = unK s from Int.zero_add _] at h
  exact h
theorem metV_cons (s : Nat) (l : List Nat) : metV (s :: l) = kindV s ||| metV l := by
  have h := metV_append [s] l
  rw [show metV [s] = kindV s from Nat.zero_or _] at h
  exact h
theorem sumZ_perm {l m : List Nat} (h : l.Perm m) : sumZ l = sumZ m := by
  induction h with
  | nil => rfl
  | cons x _ ih => rw [sumZ_cons, sumZ_cons, ih]
  | swap x y l => rw [sumZ_cons, sumZ_cons, sumZ_cons, sumZ_cons]; omega
  | trans _ _ a b => rw [a, b]
theorem metV_perm {l m : List Nat} (h : l.Perm m) : metV l = metV m := by
  induction h with
  | nil => rfl
  | cons x _ ih => rw [metV_cons, metV_cons, ih]
  | swap x y l => rw [metV_cons, metV_cons, metV_cons, metV_cons, ← Nat.or_assoc, ← Nat.or_assoc, Nat.or_comm (kindV x)]
  | trans _ _ a b => rw [a, b]
theorem sumV_perm {l m : List Nat} (h : l.Perm m) (d : Nat) : sumV l d = sumV m d := by
  unfold sumV
  rw [sumZ_perm h, metV_perm h]
theorem four_unK (s : Nat) : (4 : Int) ∣ unK s := by
  unfold unK
  split
  · have h : 4 ∣ szS s * 2 ^ atS s := by
      obtain ⟨k, hk⟩ : ∃ k, atS s = k + 2 := ⟨atS s - 2, by unfold atS; split <;> omega⟩
      rw [hk, Nat.pow_add]
      exact Nat.dvd_trans (Nat.dvd_mul_left 4 (2 ^ k)) (Nat.dvd_mul_left _ _)
    have h' : (4 : Int) ∣ ((szS s * 2 ^ atS s : Nat) : Int) := Int.ofNat_dvd.2 h
    unfold unZ
    split
    · exact h'
    · exact Int.dvd_neg.2 h'
  · exact Int.dvd_zero 4
theorem four_sumZ (l : List Nat) : (4 : Int) ∣ sumZ l := by
  induction l with
  | nil => exact Int.dvd_zero 4
  | cons s l ih => rw [sumZ_cons]; exact Int.dvd_add (four_unK s) ih
theorem exV_some {z : Int} (h0 : z ≠ 0) (h4 : (4 : Int) ∣ z) : exV z 1 ≠ 2147483648 := by
  have hV : 4 ≤ z.natAbs := by omega
  have e : sqV z.natAbs 1 0 = 2 * z.natAbs := by rw [sqV_zero, Nat.div_one, Nat.mod_one, if_pos rfl, Nat.add_zero]
  have h1 : 1 ≤ exR z.natAbs 1 := by
    unfold exR
    rw [e]
    have h8 : rungOf Ieee.single 8 (-152) = 1 := by decide +kernel
    rw [← h8]
    exact rung_mono _ _ (by omega)
  have h2 : exR z.natAbs 1 ≤ 2139095040 := by
    unfold exR rungOf
    split
    · exact Nat.zero_le _
    · exact Nat.min_le_right _ _
  unfold exV
  rw [word32]
  cases decide (z < 0)
  · rw [show Bool.toNat false = 0 from rfl]; omega
  · rw [show Bool.toNat true = 1 from rfl]; omega
/-- The negative of a sample. -/
def ngS (x : Nat) : Nat := if x < 2147483648 then x + 2147483648 else x - 2147483648
theorem ng_lt {x : Nat} (h : x < 4294967296) : ngS x < 4294967296 := by unfold ngS; split <;> omega
theorem ng_parts {x : Nat} (h : x < 4294967296) : szS (ngS x) = szS x ∧ atS (ngS x) = atS x ∧ ngS x % 2147483648 = x % 2147483648 ∧ (ngS x < 2147483648 ↔ ¬ x < 2147483648) := by
  have e1 : ngS x / 8388608 % 256 = x / 8388608 % 256 := by unfold ngS; split <;> omega
  have e2 : ngS x % 8388608 = x % 8388608 := by unfold ngS; split <;> omega
  refine ⟨by unfold szS; rw [e1, e2], by unfold atS; rw [e1], by unfold ngS; split <;> omega, by unfold ngS; split <;> omega⟩
theorem unZ_ng {x : Nat} (h : x < 4294967296) : unZ (ngS x) = -unZ x := by
  obtain ⟨e1, e2, _, e4⟩ := ng_parts h
  unfold unZ
  rw [e1, e2]
  by_cases k : x < 2147483648
  · rw [if_pos k, if_neg (fun g => (e4.1 g) k)]
  · rw [if_neg k, if_pos (e4.2 k), Int.neg_neg]
theorem kinds_ng {x : Nat} (h : x < 4294967296) (hf : x % 2147483648 < 2139095040) : (kindV x = 2 ∧ kindV (ngS x) = 2) ∨ (x = 0 ∧ kindV x = 2 ∧ kindV (ngS x) = 1) ∨ (x = 2147483648 ∧ kindV x = 1 ∧ kindV (ngS x) = 2) := by
  by_cases h0 : x = 0
  · subst h0; exact Or.inr (Or.inl ⟨rfl, by decide, by decide⟩)
  · by_cases h1 : x = 2147483648
    · subst h1; exact Or.inr (Or.inr ⟨rfl, by decide, by decide⟩)
    · obtain ⟨_, _, e3, _⟩ := ng_parts h
      refine Or.inl ⟨?_, ?_⟩
      · unfold kindV; rw [if_neg h1, if_pos hf]
      · have h2 : ngS x ≠ 2147483648 := by unfold ngS; split <;> omega
        unfold kindV; rw [if_neg h2, e3, if_pos hf]
theorem unK_ng {x : Nat} (h : x < 4294967296) (hf : x % 2147483648 < 2139095040) : unK x + unK (ngS x) = 0 := by
  have e := unZ_ng h
  unfold unK
  rcases kinds_ng h hf with ⟨a, b⟩ | ⟨rfl, a, b⟩ | ⟨rfl, a, b⟩
  · rw [if_pos a, if_pos b, e]; omega
  · rw [if_pos a, if_neg (by rw [b]; decide)]; decide
  · rw [if_neg (by rw [a]; decide), if_pos b]; decide
theorem or_2 : ∀ M : Nat, M < 32 → decide (M ||| 2 < 4) = decide (M < 4) ∧ decide (M ||| 2 < 8) = decide (M < 8) ∧ decide (8 ≤ M ||| 2) = decide (8 ≤ M) ∧ decide (M ||| 2 < 12) = decide (M < 12) ∧ (M ||| 2 == 1) = false := by decide +kernel
theorem or_3 : ∀ M : Nat, M < 32 → decide (M ||| 3 < 4) = decide (M < 4) ∧ decide (M ||| 3 < 8) = decide (M < 8) ∧ decide (8 ≤ M ||| 3) = decide (8 ≤ M) ∧ decide (M ||| 3 < 12) = decide (M < 12) ∧ (M ||| 3 == 1) = false := by decide +kernel
theorem or_two (M : Nat) (h : M < 32) (k : Nat) (h1 : k < 4) (h2 : 2 ≤ k) : ((M ||| k < 4) ↔ M < 4) ∧ ((M ||| k < 8) ↔ M < 8) ∧ ((8 ≤ M ||| k ∧ M ||| k < 12) ↔ (8 ≤ M ∧ M < 12)) ∧ ¬ M ||| k = 1 := by
  obtain rfl | rfl : k = 2 ∨ k = 3 := by omega
  · obtain ⟨a, b, c, d, e⟩ := or_2 M h
    exact ⟨decide_eq_decide.1 a, decide_eq_decide.1 b, and_congr (decide_eq_decide.1 c) (decide_eq_decide.1 d), beq_eq_false_iff_ne.1 e⟩
  · obtain ⟨a, b, c, d, e⟩ := or_3 M h
    exact ⟨decide_eq_decide.1 a, decide_eq_decide.1 b, and_congr (decide_eq_decide.1 c) (decide_eq_decide.1 d), beq_eq_false_iff_ne.1 e⟩
/-- A sample and its negative leave what is told. -/
theorem sumV_pair {x : Nat} (h : x < 4294967296) (hf : x % 2147483648 < 2139095040) (S : List Nat) : sumV (x :: (S ++ [ngS x])) 1 = if sumV S 1 = 2147483648 then 0 else sumV S 1 := by
  have hZ : sumZ (x :: (S ++ [ngS x])) = sumZ S := by
    rw [sumZ_cons, sumZ_snoc]
    have := unK_ng h hf
    omega
  obtain ⟨k, hk, hk2, hM⟩ : ∃ k, k < 4 ∧ 2 ≤ k ∧ metV (x :: (S ++ [ngS x])) = metV S ||| k := by
    refine ⟨kindV x ||| kindV (ngS x), ?_, ?_, ?_⟩
    · rcases kinds_ng h hf with ⟨a, b⟩ | ⟨_, a, b⟩ | ⟨_, a, b⟩ <;> rw [a, b] <;> decide
    · rcases kinds_ng h hf with ⟨a, b⟩ | ⟨_, a, b⟩ | ⟨_, a, b⟩ <;> rw [a, b] <;> decide
    · rw [metV_cons, metV_snoc, Nat.or_comm, Nat.or_assoc, Nat.or_comm (kindV (ngS x))]
  obtain ⟨a, b, c, d⟩ := or_two (metV S) (metV_lt S) k hk hk2
  have h4 := four_sumZ S
  unfold sumV
  rw [hZ, hM]
  simp only [a, b, c, d]
  generalize sumZ S = z at *
  by_cases m4 : metV S < 4
  · rw [if_pos m4, if_pos m4]
    by_cases hz : z = 0
    · subst hz
      simp only [ne_eq, not_true_eq_false, if_false]
      split <;> rfl
    · have hx := exV_some hz h4
      rw [if_pos hz, if_pos hz, if_neg hx]
  · rw [if_neg m4, if_neg m4]
    split
    · rw [if_neg (by decide)]
    · split
      · rw [if_neg (by decide)]
      · rw [if_neg (by decide)]
end Go.Proofs.YtieojgblamkgoaaGreatDoor
/- stat: Histogram, NaNs; the statements' helper same. -/
namespace Go.Proofs.YtieojgblamkgoaaGreatDoor
open Go.RowKit
set_option linter.unusedVariables false
set_option linter.unusedSimpArgs false

def celI (S : List Int) : List Value := S.map fun x => .int .i64 x
theorem celI_length (S : List Int) : (celI S).length = S.length := by simp [celI]
theorem celI_get {S : List Int} {j : Nat} (h : j < S.length) : (celI S)[j]? = some (.int .i64 (S.getD j 0)) := by
  unfold celI
  rw [List.getElem?_map, List.getD_eq_getElem?_getD, List.getElem?_eq_getElem h]; rfl
set_option maxHeartbeats 2000000 in
set_option maxRecDepth 100000 in
theorem clonei_any (w : World) (g o cap : Nat) (S : List Int) (hI : ∀ i, i < S.length → w.cell? ⟨g, o + i, none⟩ = some (.int .i64 (S.getD i 0))) (hcap : S.length ≤ cap) (h1 : 1 ≤ S.length) (h2 : S.length ≤ 65536) :
    Calls Tryz.prog 73 #[.slice (some ⟨g, o, none⟩) S.length cap] w fun e w' => ∃ G k, e = .returned (.slice (some ⟨G, 0, none⟩) S.length k) ∧ S.length ≤ k ∧ (∀ i, i < S.length → w'.cell? ⟨G, i, none⟩ = some (.int .i64 (S.getD i 0))) ∧ w.heap.size ≤ G ∧ (∀ j, w'.frozen? ⟨G, j, none⟩ = false) ∧ Q w w' := by
  obtain ⟨i, i1, i2, i3, i4⟩ := intInfoV
  have H1 : Hid (∀ j u, (celI S)[j]? = some u → w.cell? ((⟨g, o, none⟩ : Addr).add j) = some u) := by
    intro j u hj
    have hjl : j < S.length := by have := (List.getElem?_eq_some_iff.1 hj).1; rw [celI_length] at this; exact this
    rw [celI_get hjl] at hj
    injection hj with hj
    rw [← hj, addrAdd]
    exact hI j hjl
  have H2 : Hid ((celI S).length = S.length * i.size) := by show _ = _; rw [i2, celI_length, Nat.mul_one]
  have H3 : Hid (S.length * i.bytes ≤ 140737488355328) := by show _ ≤ _; rw [i3]; omega
  have H4 : Hid (Tryz.prog.info? 3 = some i) := i1
  have H5 : Hid (i.zero = some (.int .i64 0)) := i4
  have H6 : Hid (i.size = 1) := i2
  have H7 : Hid ((Value.int .i64 0).cells.size = i.size) := by show _ = _; rw [i2]; rfl
  clear hI i1 i2 i3 i4
  have l1 := fun w => eql_nil Tryz.prog w 60 3 ⟨g, o, none⟩ S.length cap Tryz.underlying60
  go_enter Tryz.func73, Tryz.ntmps73
  go_wp2_with (at_builtin; go_must (refine wpList_room _ rfl (.tmp 5) (.tmp 6) 60 rfl 3 i _ Tryz.underlying60 H4.out H5.out H7.out _ (Or.inr ⟨_, rfl⟩) rfl _ S.length cap (celI S) rfl H2.out (fun j u h => Q.cell ((Q.refl w).cells _ _) (H1.out j u h)) (by omega) (by omega) H3.out ?_; intro cap' w' q1 q2 q3 q4 q5 q6 q7))
  have hz : (w.alloc (.cells #[] 3)).heap.size = w.heap.size + 1 := by simp
  rw [hz] at q4 q5 q6 q7
  go_ret
  refine ⟨w.heap.size + 1, cap', rfl, q2, fun j hj => q5 j _ (celI_get hj), by omega, q7, ((Q.refl w).cells _ _).trans q1⟩
/-- How many have each class, as a list. -/
def hisL (b : Nat) (L : List Nat) : List Int := (List.range (2 ^ b)).map fun j => (clsC b L j : Int)
theorem hisL_len (b : Nat) (L : List Nat) : (hisL b L).length = 2 ^ b := by unfold hisL; simp
theorem hisL_get {b : Nat} {L : List Nat} {j : Nat} (h : j < 2 ^ b) : (hisL b L).getD j 0 = (clsC b L j : Int) := by
  unfold hisL
  rw [List.getD_eq_getElem?_getD, List.getElem?_map, List.getElem?_range h]; rfl
theorem hisL_perm {b : Nat} {L M : List Nat} (h : L.Perm M) : hisL b L = hisL b M := by
  unfold hisL
  congr 1
  funext j
  unfold clsC
  rw [h.countP_eq]
set_option maxHeartbeats 2000000 in
set_option maxRecDepth 100000 in
theorem tclone_any (b H kc : Nat) (L : List Nat) (w : World) (h2 : b ≤ 12) (hT : VR w H (2 ^ b) (fun j => .int .i64 ((clsC b L j : Nat) : Int))) (hcap : 2 ^ b ≤ kc) :
    Calls Tryz.prog 48 #[talV b H kc] w fun e w' => ∃ G k, e = .returned (talV b G k) ∧ 2 ^ b ≤ k ∧ VR w' G (2 ^ b) (fun j => .int .i64 ((clsC b L j : Nat) : Int)) ∧ w.heap.size ≤ G ∧ Q w w' := by
  have hp : 2 ^ b ≤ 2 ^ 12 := Nat.pow_le_pow_right (by decide) h2
  have hp1 : 1 ≤ 2 ^ b := Nat.one_le_two_pow
  obtain ⟨w1, hw1⟩ : ∃ w1, (w.alloc (.cells #[.int .i64 (b : Int), .slice (some ⟨H, 0, none⟩) (2 ^ b) kc] 72)).alloc (.cells #[.int .i64 0, .slice none 0 0] 72) = w1 := ⟨_, rfl⟩
  obtain ⟨A, hA⟩ : ∃ A, w.heap.size = A := ⟨_, rfl⟩
  have q1 : Q w w1 := by rw [← hw1]; exact ((Q.refl w).cells _ _).cells _ _
  have s1 : w1.heap.size = A + 2 := by rw [← hw1, ← hA]; simp [go_sem]
  have z0 : w1.cell? ⟨A, 0, none⟩ = some (.int .i64 (b : Int)) := by rw [← hw1, ← hA]; simp [go_sem]
  have z1 : w1.cell? ⟨A, 1, none⟩ = some (.slice (some ⟨H, 0, none⟩) (2 ^ b) kc) := by rw [← hw1, ← hA]; simp [go_sem]
  have r0 : w1.cell? ⟨A + 1, 0, none⟩ = some (.int .i64 0) := by rw [← hw1, ← hA]; simp [go_sem]
  have r1 : w1.cell? ⟨A + 1, 1, none⟩ = some (.slice none 0 0) := by rw [← hw1, ← hA]; simp [go_sem]
  have rf : ∀ j, w1.frozen? ⟨A + 1, j, none⟩ = false := fun j => by rw [← hw1, ← hA]; simp [go_sem]
  have HC : Hid (∀ n : QW w1, Calls Tryz.prog 73 #[.slice (some ⟨H, 0, none⟩) (2 ^ b) kc] n.x fun e w' => ∃ v, e = .returned v ∧ ((∃ G k, v = .slice (some ⟨G, 0, none⟩) (2 ^ b) k ∧ 2 ^ b ≤ k ∧ VR w' G (2 ^ b) (fun j => .int .i64 ((clsC b L j : Nat) : Int)) ∧ n.x.heap.size ≤ G) ∧ Q n.x w')) := fun n => by
    have := clonei_any n.x H 0 kc (hisL b L) (fun i hi => by rw [hisL_len] at hi; rw [Nat.zero_add, hisL_get hi]; exact (hT.next (q1.trans n.q)).cell i hi) (by rw [hisL_len]; exact hcap) (by rw [hisL_len]; exact hp1) (by rw [hisL_len]; omega)
    rw [hisL_len] at this
    refine this.mono ?_
    rintro e w' ⟨G, k, rfl, hk, hc, hG, hf, hq⟩
    exact ⟨_, rfl, ⟨G, k, rfl, hk, ⟨fun i hi => by rw [hc i hi, hisL_get hi], hf⟩, hG⟩, hq⟩
  have HQ1 : Hid (Q w w1) := q1
  clear hT q1
  unfold talV
  generalize 2 ^ b = N at *
  go_enter Tryz.func48, Tryz.ntmps48
  go_wp2_with fail
  clear hw1
  have d0 := qw_cell z0
  have d1 := qw_cell z1
  have n0 := qw_some w1
  refine wp_region_mk [0, 1, 2, 3] [[4, 5, 6]] 3 _ (by kernel_rfl) (by kernel_rfl) rfl (by kernel_rfl) ?_
  simp only [List.filterMap_cons, List.filterMap_nil, List.getElem?_cons_zero, List.getElem?_cons_succ]
  repeat (first | go_big_quiet_step (fail) | quiet_step (fail))
  refine wpQuiet_nil ?_
  intro x hx
  clear d0 d1 n0
  have hxs := hx.1.size
  have l1 := enters_of Tryz.func73 (by kernel_rfl) rfl
  refine tree_call 4 rfl rfl (run_fn 73 #[.tmp 6] _ rfl l1 (vs := #[.slice (some ⟨H, 0, none⟩) N kc]) (by kernel_rfl)) (G := fun v x' => (∃ G k, v = .slice (some ⟨G, 0, none⟩) N k ∧ N ≤ k ∧ VR x' G N (fun j => .int .i64 ((clsC b L j : Nat) : Int)) ∧ x.heap.size ≤ G) ∧ Q x x') (HC.out ⟨x, hx⟩) ?_
  rintro u x2 ⟨⟨G, k, rfl, hk, hv, hG⟩, hq⟩
  have hx2 : Q w1 x2 := hx.trans hq
  refine ⟨hx2, ?_⟩
  refine tree_run 5 rfl rfl (v := .agg #[.int .i64 (b : Int), .slice (some ⟨G, 0, none⟩) N k]) (x' := x2) (by simp [execOp, go_sem, Act.eval, Act.put]) hx2 ?_
  have r0 := hx2.cell r0
  have r1 := hx2.cell r1
  have rf : ∀ j, x2.frozen? ⟨A + 1, j, none⟩ = false := fun j => by rw [hx2.2]; exact rf j
  refine tree_skipF 6 rfl rfl rfl (x' := (x2.setCell ⟨A + 1, 0, none⟩ (.int .i64 (b : Int))).setCell ⟨A + 1, 1, none⟩ (.slice (some ⟨G, 0, none⟩) N k)) (by simp [execOp, go_sem, Act.eval, Act.put, r0, r1, rf]) ?_
  refine tree_nil ?_
  simp only [Act.put, List.setIfInBounds_toArray, List.set_cons_succ, List.set_cons_zero]
  have hAG : A + 1 ≠ G := by omega
  have hv' := (hv.other (p := ⟨A + 1, 0, none⟩) hAG (.int .i64 (b : Int))).other (p := ⟨A + 1, 1, none⟩) hAG (.slice (some ⟨G, 0, none⟩) N k)
  have hqe : Q w ((x2.setCell ⟨A + 1, 0, none⟩ (.int .i64 (b : Int))).setCell ⟨A + 1, 1, none⟩ (.slice (some ⟨G, 0, none⟩) N k)) := ((HQ1.out.trans hx2).set (by show w.heap.size ≤ A + 1; omega) _).set (by show w.heap.size ≤ A + 1; omega) _
  go_wp2_with fail
  refine bodyPost_ret (v := .agg #[.int .i64 (b : Int), .slice (some ⟨G, 0, none⟩) N k]) (by simp [results, Tryz.results48, go_sem, r0, r1]) rfl ⟨G, k, rfl, hk, hv', by omega, hqe⟩
end Go.Proofs.YtieojgblamkgoaaGreatDoor

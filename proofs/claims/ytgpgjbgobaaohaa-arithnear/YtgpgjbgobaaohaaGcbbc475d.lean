/- ArithNear: what is exact, and what is told of it. -/
import Derived.Test.YtgpgjbgobaaohaaG1a3072a6
import Derived.Test.YtgpgjbgobaaohaaG2cb83988
import Derived.Test.YtgpgjbgobaaohaaGcbdaa2d9
namespace Go.Proofs.Ytgpgjbgobaaohaa
open Go.RowKit
set_option linter.unusedVariables false
set_option linter.unusedSimpArgs false

theorem bne_xor' (s t : Bool) : (s != t) = (s ^^ t) := by cases s <;> cases t <;> rfl
theorem zeroB_fin' (s : Bool) (n : Nat) (e : Int) : zeroB (.fin s n e false) = decide (n = 0) := by
  unfold zeroB; cases n <;> rfl
theorem times_datum (d d' : Ieee.Datum) : timesR (datumR d) (datumR d') = (match d.product d' with
    | none => .nan
    | some x => datumR x) := by
  cases d with
  | nan s t => cases d' <;> rfl
  | infinity s =>
    cases d' with
    | nan t f => rfl
    | infinity t =>
      show RNum.inf (s != t) = RNum.inf (s ^^ t)
      rw [bne_xor']
    | number t n j =>
      show (if zeroB (.fin t n j false) = true then RNum.nan else .inf (s != t)) = (match (if n = 0 then none else some (Ieee.Datum.infinity (s ^^ t))) with
        | none => .nan
        | some x => datumR x)
      rw [zeroB_fin', bne_xor']
      by_cases h : n = 0
      · rw [if_pos h, decide_eq_true h, if_pos rfl]
      · rw [if_neg h, decide_eq_false h, if_neg (by decide)]; rfl
  | number s m i =>
    cases d' with
    | nan t f => rfl
    | infinity t =>
      show (if zeroB (.fin s m i false) = true then RNum.nan else .inf (s != t)) = (match (if m = 0 then none else some (Ieee.Datum.infinity (t ^^ s))) with
        | none => .nan
        | some x => datumR x)
      rw [zeroB_fin', bne_xor', Bool.xor_comm]
      by_cases h : m = 0
      · rw [if_pos h, decide_eq_true h, if_pos rfl]
      · rw [if_neg h, decide_eq_false h, if_neg (by decide)]; rfl
    | number t n j =>
      show RNum.fin (s != t) (m * n) (i + j) false = .fin (s ^^ t) (m * n) (i + j) false
      rw [bne_xor']
theorem fma_told (a b c : Nat) : roundR (plusR (timesR (numOf Ieee.single a) (numOf Ieee.single b)) (numOf Ieee.single c)) = toldD (fmaD a b c) := by
  rw [numOf_datum, numOf_datum, numOf_datum, times_datum]
  unfold fmaD
  cases h : (Ieee.single.read a).product (Ieee.single.read b) with
  | none => rfl
  | some x => exact plus_link x _
theorem add_told (a b : Nat) : roundR (plusR (numOf Ieee.single a) (numOf Ieee.single b)) = toldD ((Ieee.single.read a).sum (Ieee.single.read b)) := by
  rw [numOf_datum, numOf_datum, plus_link]
theorem sub_told (a b : Nat) : roundR (plusR (numOf Ieee.single a) (oppR (numOf Ieee.single b))) = toldD ((Ieee.single.read a).sum (Ieee.single.read b).opposite) := by
  rw [numOf_datum, numOf_datum, opp_link, plus_link]
theorem mul_told (a b : Nat) : roundR (timesR (numOf Ieee.single a) (numOf Ieee.single b)) = toldD ((Ieee.single.read a).product (Ieee.single.read b)) := by
  rw [numOf_datum, numOf_datum, times_link]
/-- An exact number, and the sample that is told of it. -/
structure NearN (D : RNum) (T : Nat) (σ : Bool) (N : Nat) (b : Int) : Prop where
  hD : D = .fin σ N b false
  hT : T = Ieee.single.word σ (rungOf Ieee.single N b)
  b0 : -1074 ≤ b
  b1 : b ≤ 500
  n1 : blen N ≤ 2000
theorem NearN.told {D : RNum} {T : Nat} {σ : Bool} {N : Nat} {b : Int} (h : NearN D T σ N b) : T < 4294967296 ∧ nanN T = false ∧ rung32 T = rungOf Ieee.single (zm N b) (-1074) ∧ sgn32 T = σ := by
  have hle : rungOf Ieee.single N b ≤ 2139095040 := by have := rungOf_le Ieee.single N b; rw [inf32] at this; exact this
  obtain ⟨s1, s2⟩ := sgn_word32 σ (r := rungOf Ieee.single N b) (by omega)
  rw [← h.hT] at s1 s2
  refine ⟨?_, ?_, s2.trans (rung_zm h.b0), s1⟩
  · rw [h.hT, word32]; cases σ <;> simp <;> omega
  · rw [h.hT]; exact nanN_word hle
theorem NearN.great {D : RNum} {T : Nat} {σ : Bool} {N : Nat} {b : Int} (h : NearN D T σ N b) : decide (zm 33554431 103 ≤ zm N b) = decide (rung32 T = 2139095040) := by
  rw [h.told.2.2.1]
  exact great_iff (c := (103 + 1074 : Int).toNat) rfl
theorem NearN.small {D : RNum} {T : Nat} {σ : Bool} {N : Nat} {b : Int} (h : NearN D T σ N b) (hg : ¬ zm 33554431 103 ≤ zm N b) : rung32 T < 2139095040 ∧ zm N b < 2 ^ 1202 := by
  have h1 := h.great
  rw [decide_eq_false hg] at h1
  have h2 := of_decide_eq_false h1.symm
  have h3 : rung32 T ≤ 2139095040 := by
    rw [h.told.2.2.1]
    have := rungOf_le Ieee.single (zm N b) (-1074); rw [inf32] at this; exact this
  refine ⟨by omega, Nat.lt_of_lt_of_le (Nat.lt_of_not_le hg) ?_⟩
  obtain ⟨c, hc⟩ : ∃ c : Nat, c = (103 + 1074 : Int).toNat := ⟨_, rfl⟩
  unfold zm
  rw [← hc]
  have hc' : c = 1177 := hc
  obtain ⟨d, hd⟩ : ∃ d : Nat, d = 1202 := ⟨_, rfl⟩
  rw [← hd, show d = 25 + c by omega, Nat.pow_add]
  exact Nat.mul_le_mul_right _ (by decide)
theorem NearN.nearest {D : RNum} {T : Nat} {σ : Bool} {N : Nat} {b : Int} (h : NearN D T σ N b) (hg : ¬ zm 33554431 103 ≤ zm N b) (v : Value) (x : World) (hv : NumAt x v D) : Calls Try.prog 18 #[v, .int .u32 (T : Nat)] x fun e x' => e = .returned (.bool true) ∧ Q x x' := by
  obtain ⟨t1, t2, t3, t4⟩ := h.told
  obtain ⟨r1, r2⟩ := h.small hg
  rw [h.hD] at hv
  obtain ⟨c, hc⟩ : ∃ c : Nat, c = 925 := ⟨_, rfl⟩
  have best := fun r => bestZ (M := zm N b) hc (by rw [← t3]; exact r1) r
  rw [← t3] at best
  exact nearest_any v σ N b T x hv h.n1 h.b0 h.b1 t1 r1 t4 hc r2 (best _) (best _)
/-- An element of a list of numbers. -/
def Elt (w : World) (BE ix : Nat) (D : RNum) : Prop := ∃ k s p L C e m, w.cell? ⟨BE, ix * 5, none⟩ = some (.int .i64 k) ∧ w.cell? ⟨BE, ix * 5 + 1, none⟩ = some (.bool s) ∧ w.cell? ⟨BE, ix * 5 + 2, none⟩ = some (.slice p L C) ∧ w.cell? ⟨BE, ix * 5 + 3, none⟩ = some (.int .i64 e) ∧ w.cell? ⟨BE, ix * 5 + 4, none⟩ = some (.bool m) ∧ NumAt w (num5 k s p L C e m) D
theorem Elt.next {w w' : World} {BE ix : Nat} {D : RNum} (h : Elt w BE ix D) (q : Q w w') : Elt w' BE ix D := by
  obtain ⟨k, s, p, L, C, e, m, c0, c1, c2, c3, c4, hn⟩ := h
  exact ⟨k, s, p, L, C, e, m, q.cell c0, q.cell c1, q.cell c2, q.cell c3, q.cell c4, q.num hn⟩
/-- An exact number in one list, what is told of it in another. -/
def Pair (w : World) (BE BT ix : Nat) : Prop := ∃ D T σ N b, NearN D T σ N b ∧ Elt w BE ix D ∧ w.cell? ⟨BT, ix, none⟩ = some (.int .u32 (T : Nat))
theorem Pair.next {w w' : World} {BE BT ix : Nat} (h : Pair w BE BT ix) (q : Q w w') : Pair w' BE BT ix := by
  obtain ⟨D, T, σ, N, b, h1, h2, h3⟩ := h
  exact ⟨D, T, σ, N, b, h1, h2.next q, q.cell h3⟩
theorem elt_fin {w : World} {BE ix : Nat} {σ : Bool} {N : Nat} {b : Int} (h : Elt w BE ix (.fin σ N b false)) : ∃ pa La Ca, w.cell? ⟨BE, ix * 5, none⟩ = some (.int .i64 2) ∧ w.cell? ⟨BE, ix * 5 + 1, none⟩ = some (.bool σ) ∧ w.cell? ⟨BE, ix * 5 + 2, none⟩ = some (.slice pa La Ca) ∧ w.cell? ⟨BE, ix * 5 + 3, none⟩ = some (.int .i64 b) ∧ w.cell? ⟨BE, ix * 5 + 4, none⟩ = some (.bool false) ∧ NatAt w (.slice pa La Ca) N := by
  obtain ⟨k, s, p, L, C, e, m, c0, c1, c2, c3, c4, hn⟩ := h
  obtain ⟨pa, La, Ca, he, hnat⟩ := fin_at hn
  unfold num5 at he
  simp at he
  obtain ⟨rfl, rfl, ⟨rfl, rfl, rfl⟩, rfl, rfl⟩ := he
  exact ⟨_, _, _, c0, c1, c2, c3, c4, hnat⟩
theorem zero_fin (v : Value) (σ : Bool) (N : Nat) (b : Int) (x : World) (h : NumAt x v (.fin σ N b false)) : Calls Try.prog 19 #[v] x fun e x' => e = .returned (.bool (decide (N = 0))) ∧ Q x x' := by
  refine (zero_any v _ x h).mono ?_
  rintro e x' ⟨rfl, c, rfl⟩
  rw [zeroB_fin']
  exact ⟨rfl, (Q.refl x).cells _ _⟩
theorem sampR_eq {a : Nat} (h : rung32 a < 2139095040) : numOf Ieee.single a = sampR a := by
  rw [numOf_datum, read_fin32 h]; rfl
theorem fin_told (s : Bool) (n : Nat) (e : Int) : roundR (.fin s n e false) = Ieee.single.word s (rungOf Ieee.single n e) := by
  rw [roundR_fin, nearest_rung]
theorem plus_near {s t : Bool} {n k : Nat} {e f : Int} {j : Nat} (he : -1074 ≤ e) (hf : -1074 ≤ f) (he1 : e ≤ 500) (hj : j + 1 ≤ 2000) (h1 : zm n e < 2 ^ j) (h2 : zm k f < 2 ^ j) : ∃ σ N, NearN (plusR (.fin s n e false) (.fin t k f false)) (roundR (plusR (.fin s n e false) (.fin t k f false))) σ N (min e f) := by
  obtain ⟨σ, N, e1, e2, _⟩ := plus_zs s t n k e f false false he hf
  refine ⟨σ, N, e1, by rw [e1, fin_told], by omega, by omega, ?_⟩
  refine Nat.le_trans (blen_zm (b := min e f) (k := j + 1) (by omega) ?_) hj
  rw [e2, signed_zm, signed_zm, Nat.pow_succ]
  unfold zm at h1 h2
  generalize n * 2 ^ (e + 1074).toNat = U at *
  generalize k * 2 ^ (f + 1074).toNat = V at *
  generalize 2 ^ j = G at *
  split <;> split <;> omega
theorem samp_zm {a : Nat} (h : rung32 a < 2139095040) {j : Nat} (hj : 1202 ≤ j) : zm (mag32 (rung32 a)) (-149 + (plc32 (rung32 a) : Int)) < 2 ^ j := by
  obtain ⟨c, hc⟩ : ∃ c : Nat, c = 925 := ⟨_, rfl⟩
  rw [zm_samp hc]
  exact samp_lt h hc hj
theorem plc_hi {a : Nat} (h : rung32 a < 2139095040) : plc32 (rung32 a) ≤ 253 := by unfold plc32; omega
theorem near1 {a b : Nat} (ha : rung32 a < 2139095040) (hb : rung32 b < 2139095040) : ∃ σ N e, NearN (plusR (sampR a) (sampR b)) (toldD ((Ieee.single.read a).sum (Ieee.single.read b))) σ N e := by
  have pa := plc_hi ha
  have pb := plc_hi hb
  obtain ⟨j, hj⟩ : ∃ j : Nat, j = 1202 := ⟨_, rfl⟩
  obtain ⟨σ, N, h⟩ := plus_near (s := sgn32 a) (t := sgn32 b) (n := mag32 (rung32 a)) (k := mag32 (rung32 b)) (e := -149 + (plc32 (rung32 a) : Int)) (f := -149 + (plc32 (rung32 b) : Int)) (j := j) (by omega) (by omega) (by omega) (by omega) (samp_zm ha (by omega)) (samp_zm hb (by omega))
  rw [← add_told, sampR_eq ha, sampR_eq hb]
  exact ⟨σ, N, _, h⟩
theorem near2 {a b : Nat} (ha : rung32 a < 2139095040) (hb : rung32 b < 2139095040) : ∃ σ N e, NearN (plusR (sampR a) (oppR (sampR b))) (toldD ((Ieee.single.read a).sum (Ieee.single.read b).opposite)) σ N e := by
  have pa := plc_hi ha
  have pb := plc_hi hb
  obtain ⟨j, hj⟩ : ∃ j : Nat, j = 1202 := ⟨_, rfl⟩
  obtain ⟨σ, N, h⟩ := plus_near (s := sgn32 a) (t := !sgn32 b) (n := mag32 (rung32 a)) (k := mag32 (rung32 b)) (e := -149 + (plc32 (rung32 a) : Int)) (f := -149 + (plc32 (rung32 b) : Int)) (j := j) (by omega) (by omega) (by omega) (by omega) (samp_zm ha (by omega)) (samp_zm hb (by omega))
  rw [← sub_told, sampR_eq ha, sampR_eq hb]
  exact ⟨σ, N, _, h⟩
theorem prod_zm {a b : Nat} (ha : rung32 a < 2139095040) (hb : rung32 b < 2139095040) {j : Nat} (hj : 1330 ≤ j) : zm (mag32 (rung32 a) * mag32 (rung32 b)) (-149 + (plc32 (rung32 a) : Int) + (-149 + (plc32 (rung32 b) : Int))) < 2 ^ j := by
  have pa := plc_hi ha
  have pb := plc_hi hb
  unfold zm
  have h1 := prod_lt a b
  have h2 : mag32 (rung32 a) * mag32 (rung32 b) * 2 ^ (-149 + (plc32 (rung32 a) : Int) + (-149 + (plc32 (rung32 b) : Int)) + 1074).toNat < 2 ^ 48 * 2 ^ (-149 + (plc32 (rung32 a) : Int) + (-149 + (plc32 (rung32 b) : Int)) + 1074).toNat := Nat.mul_lt_mul_of_pos_right h1 (Nat.two_pow_pos _)
  rw [← Nat.pow_add] at h2
  exact Nat.lt_of_lt_of_le h2 (Nat.pow_le_pow_right (by decide) (by omega))
theorem times_samp (a b : Nat) : timesR (sampR a) (sampR b) = .fin (sgn32 a != sgn32 b) (mag32 (rung32 a) * mag32 (rung32 b)) (-149 + (plc32 (rung32 a) : Int) + (-149 + (plc32 (rung32 b) : Int))) false := rfl
theorem near3 {a b : Nat} (ha : rung32 a < 2139095040) (hb : rung32 b < 2139095040) : ∃ σ N e, NearN (timesR (sampR a) (sampR b)) (toldD ((Ieee.single.read a).product (Ieee.single.read b))) σ N e := by
  have pa := plc_hi ha
  have pb := plc_hi hb
  rw [← mul_told, sampR_eq ha, sampR_eq hb]
  refine ⟨sgn32 a != sgn32 b, _, _, times_samp a b, by rw [times_samp, fin_told], by omega, by omega, ?_⟩
  obtain ⟨j, hj⟩ : ∃ j : Nat, j = 1330 := ⟨_, rfl⟩
  exact Nat.le_trans (blen_zm (k := j) (by omega) (prod_zm ha hb (by omega))) (by omega)
theorem near4 {a b c : Nat} (ha : rung32 a < 2139095040) (hb : rung32 b < 2139095040) (hc : rung32 c < 2139095040) : ∃ σ N e, NearN (plusR (timesR (sampR a) (sampR b)) (sampR c)) (toldD (fmaD a b c)) σ N e := by
  have pa := plc_hi ha
  have pb := plc_hi hb
  have pc := plc_hi hc
  obtain ⟨j, hj⟩ : ∃ j : Nat, j = 1330 := ⟨_, rfl⟩
  obtain ⟨σ, N, h⟩ := plus_near (s := sgn32 a != sgn32 b) (t := sgn32 c) (n := mag32 (rung32 a) * mag32 (rung32 b)) (k := mag32 (rung32 c)) (e := -149 + (plc32 (rung32 a) : Int) + (-149 + (plc32 (rung32 b) : Int))) (f := -149 + (plc32 (rung32 c) : Int)) (j := j) (by omega) (by omega) (by omega) (by omega) (prod_zm ha hb (by omega)) (samp_zm hc (by omega))
  rw [← fma_told, sampR_eq ha, sampR_eq hb, sampR_eq hc]
  exact ⟨σ, N, _, h⟩
theorem samp_few {a : Nat} (h : rung32 a < 2139095040) : few (sampR a) ∧ small (sampR a) ∧ small (oppR (sampR a)) := by
  have p := plc_hi h
  have m := mag_blen (r := rung32 a)
  exact ⟨⟨by omega, by omega, by omega, rfl⟩, ⟨by omega, by omega, by omega⟩, ⟨by omega, by omega, by omega⟩⟩
theorem NearN.small' {D : RNum} {T : Nat} {σ : Bool} {N : Nat} {b : Int} (h : NearN D T σ N b) : Go.Proofs.Ytgpgjbgobaaohaa.small D := by
  rw [h.hD]
  have := h.b0
  have := h.b1
  exact ⟨h.n1, by omega, by omega⟩
end Go.Proofs.Ytgpgjbgobaaohaa

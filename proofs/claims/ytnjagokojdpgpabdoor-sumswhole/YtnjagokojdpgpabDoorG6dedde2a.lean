/- Accumulators: Add. -/
import Derived.Test.YtnjagokojdpgpabDoorGf2e33605
import Derived.Test.YtnjagokojdpgpabDoorG264d73a3
import Derived.Test.YtnjagokojdpgpabDoorGbecceb31
import Derived.Test.YtnjagokojdpgpabDoorG6f2136d7
import Derived.Test.YtnjagokojdpgpabDoorGde4fe202
namespace Go.Proofs.YtnjagokojdpgpabDoor
open Go.RowKit
set_option linter.unusedVariables false
set_option linter.unusedSimpArgs false

theorem set_same {w : World} {p : Addr} {u v : Value} (h : w.cell? p = some u) : (w.setCell p v).cell? p = some v := by
  obtain ⟨b, o, t⟩ := p
  simp [go_sem, h]
theorem set_off {w : World} {B i j : Nat} {v : Value} (h : i ≠ j) : (w.setCell ⟨B, i, none⟩ v).cell? ⟨B, j, none⟩ = w.cell? ⟨B, j, none⟩ :=
  World.cell?_setCell_other _ _ _ _ (fun e => h (by injection e))
/-- One sample more. -/
theorem AccOf.met {w : World} {B c x : Nat} {l : List Nat} {N : Nat → Nat} (hn : WIs w B N) (hr : Rep N (sumZ l + unK x)) (hm : ∃ u, w.cell? ⟨B, 5, none⟩ = some u) (hc : w.cell? ⟨B, 6, none⟩ = some (.int .i64 (c : Nat))) (hz : ∀ j, w.frozen? ⟨B, j, none⟩ = false) :
    AccOf (w.setCell ⟨B, 5, none⟩ (.int .i64 ((metV l ||| kindV x : Nat) : Int))) B (l ++ [x]) c N := by
  obtain ⟨u, hu⟩ := hm
  refine ⟨fun j hj => ?_, ?_, ?_, ?_, fun j => ?_⟩
  · rw [set_off (by omega)]; exact hn j hj
  · rw [sumZ_snoc]; exact hr
  · rw [metV_snoc]; exact set_same hu
  · rw [set_off (by decide)]; exact hc
  · rw [World.frozen?_setCell]; exact hz j
theorem AccOf.cnt {w : World} {B c c' : Nat} {l : List Nat} {N : Nat → Nat} (h : AccOf w B l c N) : AccOf (w.setCell ⟨B, 6, none⟩ (.int .i64 (c' : Nat))) B l c' N := by
  refine ⟨fun j hj => ?_, h.r, ?_, ?_, fun j => ?_⟩
  · rw [set_off (by omega)]; exact h.n j hj
  · rw [set_off (by decide)]; exact h.m
  · exact set_same h.c
  · rw [World.frozen?_setCell]; exact h.z j
theorem unK_fin {x : Nat} (h : kindV x = 2) : unK x = unZ x := if_pos h
theorem unK_odd {x : Nat} (h : kindV x ≠ 2) : unK x = 0 := if_neg h
theorem take_snoc {S : List Nat} {i : Nat} (h : i < S.length) : S.take (i + 1) = S.take i ++ [S.getD i 0] := by
  rw [List.getD_eq_getElem?_getD, List.getElem?_eq_getElem h, List.take_add_one, List.getElem?_eq_getElem h]
  rfl
set_option maxHeartbeats 4000000 in
set_option maxRecDepth 100000 in
theorem acc_add (v : Value) (S l : List Nat) (B c : Nat) (N : Nat → Nat) (w : World) (hA : AccOf w B l c N) (hv : USl w v S) (hg : ∀ g o cap, 0 < S.length → v = .slice (some ⟨g, o, none⟩) S.length cap → g ≠ B) (hb : ∀ i, S.getD i 0 < 4294967296) (hn : c + S.length ≤ 35184372087808) :
    Calls Tryd.prog 12 #[.pointer (some ⟨B, 0, none⟩), v] w fun e w' => e = .returned (.tuple #[]) ∧ (∃ N', AccOf w' B (l ++ S) (c + S.length) N') ∧ Fb B w w' := by
  obtain ⟨ad, cap, rfl⟩ := hv.form
  have HA : Hid (AccOf w B l c N) := hA
  have HV : Hid (USl w (.slice ad S.length cap) S) := hv
  have HG : Hid _ := hg
  have HB : Hid (∀ i, S.getD i 0 < 4294967296) := hb
  clear hA hv hg hb
  have he : Hid (S.take S.length = S) := List.take_of_length_le (Nat.le_refl _)
  go_enter Tryd.func12, Tryd.ntmps12
  go_wp2_with fail
  go_loopg [9] (S.length) (fun gh s9 wr => ∃ i : Nat, ∃ N', s9 = .int .i64 (i : Int) ∧ i ≤ S.length ∧ gh = S.length - i ∧ Hid (AccOf wr B (l ++ S.take i) c N') ∧ Hid (Fb B w wr))
  case atStart => exact ⟨0, N, rfl, by omega, rfl, by show AccOf w B (l ++ S.take 0) c N; rw [List.take_zero, List.append_nil]; exact HA.out, Fb.refl _ _⟩
  case round =>
    obtain ⟨i, N', rfl, hi, rfl, HR, HF⟩ := hrel
    by_cases hlt : i < S.length
    · obtain ⟨g, o, cap', hsl, hcap, hI⟩ := HV.out.some (by omega)
      have HNe : Hid (g ≠ B) := HG.out g o cap' (by omega) hsl
      injection hsl with hs1 hs2 hs3
      subst hs1 hs3
      clear hs2
      have hx := HB.out i
      have hc := HF.out.cell (hI i hlt) HNe.out
      have HT : Hid (l ++ S.take (i + 1) = l ++ S.take i ++ [S.getD i 0]) := by
        show l ++ S.take (i + 1) = _
        rw [take_snoc hlt, List.append_assoc]
      generalize S.getD i 0 = x at *
      generalize l ++ S.take i = l1 at *
      have hor := or_small (metV l1) (metV_lt l1) (kindV x) (kind_lt x)
      have c5 := HR.out.m
      have z5 := HR.out.z 5
      clear hI
      by_cases hk : kindV x = 2
      · have Hk : Hid (kindV x = 2) := hk
        clear hor
        have hor : bits .or .i64 (metV l1 : Int) 2 = ((metV l1 ||| 2 : Nat) : Int) := or_small (metV l1) (metV_lt l1) 2 (by decide)
        have bk : ((2 : Int) == 2) = true := rfl
        clear hk
        go_wp2_with fail
        refine (kind_any x hx _).mono ?_
        rintro e w1 ⟨rfl, rfl⟩
        rw [Hk.out]
        go_wp2_with fail
        refine (nadd_any N' x B HR.out.r.lt hx (kind_fin hx Hk.out) _ HR.out.n HR.out.z).mono ?_
        rintro e w2 ⟨rfl, hd⟩
        have c5' : w2.cell? ⟨B, 5, none⟩ = some (.int .i64 (metV l1 : Nat)) := by rw [hd.r 5 (by decide)]; exact c5
        have z5' : w2.frozen? ⟨B, 5, none⟩ = false := by rw [hd.fb.frz]; exact z5
        have HX : Hid (AccOf (w2.setCell ⟨B, 5, none⟩ (.int .i64 ((metV l1 ||| 2 : Nat) : Int))) B (l ++ S.take (i + 1)) c (adS N' x)) := by
          have := AccOf.met (l := l1) (x := x) (c := c) hd.c (by rw [unK_fin Hk.out]; exact HR.out.r.add (kind_fin hx Hk.out)) ⟨_, c5'⟩ (by rw [hd.r 6 (by decide)]; exact HR.out.c) (fun j => by rw [hd.fb.frz]; exact HR.out.z j)
          rw [Hk.out] at this
          rw [HT.out]
          exact this
        have HY : Hid (Fb B w (w2.setCell ⟨B, 5, none⟩ (.int .i64 ((metV l1 ||| 2 : Nat) : Int)))) := (HF.out.trans hd.fb).set rfl _
        clear hd c5 z5
        go_wp2_with fail
        go_roundg (S.length - (i + 1))
        case measure => go_light; omega
        case rel =>
          go_light
          exact ⟨i + 1, _, by simp, by omega, rfl, HX.out, HY.out⟩
      · have Hk : Hid (kindV x ≠ 2) := hk
        have bk : ((kindV x : Int) == 2) = false := by rw [beq_eq_false_iff_ne]; omega
        have HX : Hid (AccOf (wr.setCell ⟨B, 5, none⟩ (.int .i64 ((metV l1 ||| kindV x : Nat) : Int))) B (l ++ S.take (i + 1)) c N') := by
          have := AccOf.met (l := l1) (x := x) (c := c) HR.out.n (by rw [unK_odd Hk.out, Int.add_zero]; exact HR.out.r) ⟨_, c5⟩ HR.out.c HR.out.z
          rw [HT.out]
          exact this
        have HY : Hid (Fb B w (wr.setCell ⟨B, 5, none⟩ (.int .i64 ((metV l1 ||| kindV x : Nat) : Int)))) := HF.out.set rfl _
        clear hk
        go_wp2_with fail
        refine (kind_any x hx _).mono ?_
        rintro e w1 ⟨rfl, rfl⟩
        go_wp2_with fail
        go_roundg (S.length - (i + 1))
        case measure => go_light; omega
        case rel =>
          go_light
          exact ⟨i + 1, _, by simp, by omega, rfl, HX.out, HY.out⟩
    · obtain rfl : i = S.length := by omega
      have hge : ¬ (S.length : Int) < (S.length : Int) := by omega
      have c6 := HR.out.c
      have z6 := HR.out.z 6
      have ew : wrap64 ((c : Int) + (S.length : Int)) = ((c + S.length : Nat) : Int) := by unfold wrap64; omega
      have HX : Hid (AccOf (wr.setCell ⟨B, 6, none⟩ (.int .i64 ((c + S.length : Nat) : Int))) B (l ++ S) (c + S.length) N') := by
        have := HR.out.cnt (c' := c + S.length)
        rw [he.out] at this
        exact this
      have HY : Hid (Fb B w (wr.setCell ⟨B, 6, none⟩ (.int .i64 ((c + S.length : Nat) : Int)))) := HF.out.set rfl _
      clear HR HF HA
      go_wp2_with fail
      refine bodyPost_end (results_none Tryd.results12 _ _ _) rfl ⟨rfl, ⟨N', HX.out⟩, HY.out⟩
end Go.Proofs.YtnjagokojdpgpabDoor
/- Accumulators: what they tell. -/
namespace Go.Proofs.YtnjagokojdpgpabDoor
open Go.RowKit
set_option linter.unusedVariables false
set_option linter.unusedSimpArgs false

/-- A sum of finite samples, divided. -/
def exV (z : Int) (d : Nat) : Nat := Ieee.single.word (decide (z < 0)) (exR z.natAbs d)
/-- What is told of a list of samples. -/
def sumV (l : List Nat) (d : Nat) : Nat :=
  if metV l < 4 then (if sumZ l ≠ 0 then exV (sumZ l) d else if metV l = 1 then 2147483648 else 0)
  else if metV l < 8 then 2139095040 else if 8 ≤ metV l ∧ metV l < 12 then 4286578688 else 2143289344
theorem andnot3 : ∀ a : Nat, a < 32 → bits .andNot .i64 (a : Int) 3 = ((a / 4 * 4 : Nat) : Int) := by decide +kernel
theorem Rep.zero_iff {N : Nat → Nat} {z : Int} (h : Rep N z) (hz : 2 * z.natAbs < m64 ^ 5) : z = 0 ↔ ∀ j, j < 5 → N j = 0 := by
  rw [← valW_zero 5]
  constructor
  · intro h0
    have h1 := h.pos (by omega) (by generalize m64 ^ 5 = G at *; omega)
    have := h1.1
    omega
  · intro h0
    have h1 := h.eq
    rw [h0] at h1
    rcases Int.lt_trichotomy z 0 with g | g | g
    · have h2 := (h.neg g (by generalize m64 ^ 5 = G at *; omega)).2
      have h3 := (valW_zero 5).1 h0 4 (by decide)
      omega
    · exact g
    · have h2 := (h.pos (by omega) (by generalize m64 ^ 5 = G at *; omega)).1
      omega
theorem blen_fits {V : Nat} (h : 2 * V < m64 ^ 5) : blen V ≤ 320 := by
  have h1 : V < m64 ^ 5 := by
    generalize m64 ^ 5 = G at *
    omega
  rw [m64_pow] at h1
  have h2 := blen_le h1
  omega
set_option maxRecDepth 100000 in
set_option maxHeartbeats 1000000 in
theorem eq5 (a0 a1 a2 a3 a4 : Int) (w : World) : (Op.equalIn 10000 64 (.agg #[.int .u64 a0, .int .u64 a1, .int .u64 a2, .int .u64 a3, .int .u64 a4]) (.agg #[.int .u64 0, .int .u64 0, .int .u64 0, .int .u64 0, .int .u64 0])).run Tryd.prog w = .ok (a0 == 0 && (a1 == 0 && (a2 == 0 && (a3 == 0 && a4 == 0)))) w := by
  rw [show (10000 : Nat) = 9999 + 1 from rfl, Op.equalIn]
  simp [go_sem, List.range', List.forIn_cons]
  by_cases h0 : a0 = 0
  · by_cases h1 : a1 = 0
    · by_cases h2 : a2 = 0
      · by_cases h3 : a3 = 0
        · by_cases h4 : a4 = 0 <;> simp [h0, h1, h2, h3, h4]
        · simp [h0, h1, h2, h3]
      · simp [h0, h1, h2]
    · simp [h0, h1]
  · simp [h0]
theorem eq5_zero {N : Nat → Nat} (h : ∀ j, j < 5 → N j = 0) : ((N 0 : Int) == 0 && ((N 1 : Int) == 0 && ((N 2 : Int) == 0 && ((N 3 : Int) == 0 && (N 4 : Int) == 0)))) = true := by
  rw [h 0 (by decide), h 1 (by decide), h 2 (by decide), h 3 (by decide), h 4 (by decide)]; rfl
theorem eq5_some {N : Nat → Nat} (h : ¬ ∀ j, j < 5 → N j = 0) : ((N 0 : Int) == 0 && ((N 1 : Int) == 0 && ((N 2 : Int) == 0 && ((N 3 : Int) == 0 && (N 4 : Int) == 0)))) = false := by
  rw [Bool.eq_false_iff]
  intro e
  simp only [Bool.and_eq_true, beq_iff_eq] at e
  refine h (fun j hj => ?_)
  rcases j with _ | _ | _ | _ | _ | j
  · omega
  · have := e.2.1; show N 1 = 0; omega
  · have := e.2.2.1; show N 2 = 0; omega
  · have := e.2.2.2.1; show N 3 = 0; omega
  · have := e.2.2.2.2; show N 4 = 0; omega
  · omega
set_option maxHeartbeats 2000000 in
set_option maxRecDepth 100000 in
theorem finite_any (l : List Nat) (B c : Nat) (N : Nat → Nat) (w : World) (hA : AccOf w B l c N) (hz : 2 * (sumZ l).natAbs < m64 ^ 5) (d : Nat) (hd : 0 < d) (hd' : d < 4294967296) (hT : Tab w) :
    Calls Tryd.prog 67 #[.pointer (some ⟨B, 0, none⟩), .int .u64 (d : Int)] w fun e w' => e = .returned (.int .u32 ((if sumZ l ≠ 0 then exV (sumZ l) d else if metV l = 1 then 2147483648 else 0 : Nat) : Int)) ∧ Q w w' := by
  have hzi := hA.r.zero_iff hz
  have c0 := hA.n 0 (by decide)
  have c1 := hA.n 1 (by decide)
  have c2 := hA.n 2 (by decide)
  have c3 := hA.n 3 (by decide)
  have c4 := hA.n 4 (by decide)
  have c5 := hA.m
  by_cases h0 : sumZ l = 0
  · rw [if_neg (fun h => h h0)]
    have hl : ∀ w, (Op.equalIn 10000 64 (.agg #[.int .u64 (N 0), .int .u64 (N 1), .int .u64 (N 2), .int .u64 (N 3), .int .u64 (N 4)]) (.agg #[.int .u64 0, .int .u64 0, .int .u64 0, .int .u64 0, .int .u64 0])).run Tryd.prog w = .ok true w := fun w => by rw [eq5, eq5_zero (hzi.1 h0)]
    generalize metV l = m at *
    clear hzi h0 hz hA hT
    by_cases h1 : m = 1
    · rw [if_pos h1]
      have b1 : ((m : Int) == 1) = true := by rw [beq_iff_eq]; omega
      clear h1
      go_enter Tryd.func67, Tryd.ntmps67
      go_wp2_with fail
      go_ret
      exact ⟨rfl, Q.refl _⟩
    · rw [if_neg h1]
      have b1 : ((m : Int) == 1) = false := by rw [beq_eq_false_iff_ne]; omega
      clear h1
      go_enter Tryd.func67, Tryd.ntmps67
      go_wp2_with fail
      go_ret
      exact ⟨rfl, Q.refl _⟩
  · rw [if_pos h0]
    have hl : ∀ w, (Op.equalIn 10000 64 (.agg #[.int .u64 (N 0), .int .u64 (N 1), .int .u64 (N 2), .int .u64 (N 3), .int .u64 (N 4)]) (.agg #[.int .u64 0, .int .u64 0, .int .u64 0, .int .u64 0, .int .u64 0])).run Tryd.prog w = .ok false w := fun w => by rw [eq5, eq5_some (fun h => h0 (hzi.2 h))]
    have HT : Hid (Tab w) := hT
    have HR : Hid (Rep N (sumZ l)) := hA.r
    have HZ : Hid (sumZ l ≠ 0) := h0
    have HW : Hid (toldD (some (Ieee.double.read (oddW (decide (sumZ l < 0)) (sumZ l).natAbs d))) = exV (sumZ l) d) := told_odd _ (by omega) hd (blen_fits hz)
    have HF : Hid (2 * (sumZ l).natAbs < m64 ^ 5) := hz
    generalize sumZ l = z at *
    clear hzi h0 hz hA hT
    go_enter Tryd.func67, Tryd.ntmps67
    go_wp2_with fail
    refine (divided_any N z HR.out HZ.out HF.out d hd hd' _ HT.out).mono ?_
    rintro e w1 ⟨rfl, q1⟩
    go_wp2_with fail
    refine (snarrow_any _ _).mono ?_
    rintro e w2 ⟨rfl, q2⟩
    rw [HW.out]
    go_wp2_with fail
    go_ret
    exact ⟨rfl, q1.trans q2⟩
set_option maxHeartbeats 2000000 in
set_option maxRecDepth 100000 in
theorem adivided_any (l : List Nat) (B c : Nat) (N : Nat → Nat) (w : World) (hA : AccOf w B l c N) (hz : 2 * (sumZ l).natAbs < m64 ^ 5) (d : Nat) (hd : 0 < d) (hd' : d < 4294967296) (hT : Tab w) :
    Calls Tryd.prog 41 #[.pointer (some ⟨B, 0, none⟩), .int .u64 (d : Int)] w fun e w' => e = .returned (.int .u32 (sumV l d : Nat)) ∧ Q w w' := by
  have c5 := hA.m
  have hm := metV_lt l
  have e1 := andnot3 (metV l) hm
  have K := fun w (hA : AccOf w B l c N) (hT : Tab w) => finite_any l B c N w hA hz d hd hd' hT
  have HK : Hid _ := K
  have HA : Hid (AccOf w B l c N) := hA
  have HT : Hid (Tab w) := hT
  have HV : Hid (sumV l d = if metV l < 4 then (if sumZ l ≠ 0 then exV (sumZ l) d else if metV l = 1 then 2147483648 else 0) else if metV l < 8 then 2139095040 else if 8 ≤ metV l ∧ metV l < 12 then 4286578688 else 2143289344) := rfl
  clear hA hT K hz
  by_cases h1 : metV l < 4
  · have HV : Hid (sumV l d = if sumZ l ≠ 0 then exV (sumZ l) d else if metV l = 1 then 2147483648 else 0) := by
      show sumV l d = _
      rw [HV.out, if_pos h1]
    have e2 : ((metV l / 4 * 4 : Nat) : Int) = 0 := by omega
    rw [e2] at e1
    clear e2 h1 hm
    go_enter Tryd.func41, Tryd.ntmps41
    go_wp2_with fail
    refine (HK.out _ HA.out HT.out).mono ?_
    rintro e w1 ⟨rfl, q1⟩
    rw [← HV.out]
    go_wp2_with fail
    go_ret
    exact ⟨rfl, q1⟩
  · by_cases h2 : metV l < 8
    · have HV : Hid (sumV l d = 2139095040) := by
        show sumV l d = _
        rw [HV.out, if_neg h1, if_pos h2]
      have e2 : ((metV l / 4 * 4 : Nat) : Int) = 4 := by omega
      rw [e2] at e1
      clear e2 h1 h2 hm
      rw [HV.out]
      go_enter Tryd.func41, Tryd.ntmps41
      go_wp2_with fail
      go_ret
      exact ⟨rfl, Q.refl _⟩
    · by_cases h3 : metV l < 12
      · have HV : Hid (sumV l d = 4286578688) := by
          show sumV l d = _
          rw [HV.out, if_neg h1, if_neg h2, if_pos ⟨by omega, h3⟩]
        have e2 : ((metV l / 4 * 4 : Nat) : Int) = 8 := by omega
        rw [e2] at e1
        clear e2 h1 h2 h3 hm
        rw [HV.out]
        go_enter Tryd.func41, Tryd.ntmps41
        go_wp2_with fail
        go_ret
        exact ⟨rfl, Q.refl _⟩
      · have HV : Hid (sumV l d = 2143289344) := by
          show sumV l d = _
          rw [HV.out, if_neg h1, if_neg h2, if_neg (fun h => h3 h.2)]
        obtain ⟨m, hm'⟩ : ∃ m, metV l / 4 * 4 = m := ⟨_, rfl⟩
        rw [hm'] at e1
        have b0 : ((m : Int) == 0) = false := by rw [beq_eq_false_iff_ne]; omega
        have b1 : ((m : Int) == 4) = false := by rw [beq_eq_false_iff_ne]; omega
        have b2 : ((m : Int) == 8) = false := by rw [beq_eq_false_iff_ne]; omega
        clear hm' h1 h2 h3 hm
        rw [HV.out]
        go_enter Tryd.func41, Tryd.ntmps41
        go_wp2_with fail
        go_ret
        exact ⟨rfl, Q.refl _⟩
set_option maxHeartbeats 400000 in
theorem asum_any (l : List Nat) (B c : Nat) (N : Nat → Nat) (w : World) (hA : AccOf w B l c N) (hz : 2 * (sumZ l).natAbs < m64 ^ 5) (hT : Tab w) :
    Calls Tryd.prog 14 #[.pointer (some ⟨B, 0, none⟩)] w fun e w' => e = .returned (.int .u32 (sumV l 1 : Nat)) ∧ Q w w' := by
  go_enter Tryd.func14, Tryd.ntmps14
  go_wp2_with fail
  refine (adivided_any l B c N _ hA hz 1 (by decide) (by decide) hT).mono ?_
  rintro e w1 ⟨rfl, q1⟩
  go_wp2_with fail
  go_ret
  exact ⟨rfl, q1⟩
/-- What Over tells. -/
def overV (l : List Nat) (n : Int) : Nat × Int := if n < 1 ∨ 4294967295 < n then (0, 33) else (sumV l n.toNat, 0)
set_option maxHeartbeats 1000000 in
theorem aover_any (l : List Nat) (B c : Nat) (N : Nat → Nat) (w : World) (hA : AccOf w B l c N) (hz : 2 * (sumZ l).natAbs < m64 ^ 5) (hT : Tab w) (n : Int) :
    Calls Tryd.prog 64 #[.pointer (some ⟨B, 0, none⟩), .int .i64 n] w fun e w' => e = .returned (.tuple #[.int .u32 ((overV l n).1 : Nat), .int .i64 (overV l n).2]) ∧ Q w w' := by
  unfold overV
  by_cases h : n < 1
  · rw [if_pos (Or.inl h)]
    clear hA hz hT
    go_enter Tryd.func64, Tryd.ntmps64
    go_wp2_with fail
    go_ret2
    exact ⟨rfl, Q.refl _⟩
  · by_cases h2 : 4294967295 < n
    · rw [if_pos (Or.inr h2)]
      clear hA hz hT
      go_enter Tryd.func64, Tryd.ntmps64
      go_wp2_with fail
      go_ret2
      exact ⟨rfl, Q.refl _⟩
    · rw [if_neg (by omega)]
      obtain ⟨d, rfl⟩ : ∃ d : Nat, n = (d : Int) := ⟨n.toNat, by omega⟩
      have HA : Hid (AccOf w B l c N) := hA
      have HT : Hid (Tab w) := hT
      have HZ : Hid (2 * (sumZ l).natAbs < m64 ^ 5) := hz
      have h3 : 0 < d := by omega
      have h4 : d < 4294967296 := by omega
      have ew : IntKind.u64.wrap (d : Int) = (d : Int) := by rw [IntKind.wrap_u64]; omega
      clear hA hT hz
      go_enter Tryd.func64, Tryd.ntmps64
      go_wp2_with fail
      refine (adivided_any l B c N _ HA.out HZ.out d h3 h4 HT.out).mono ?_
      rintro e w1 ⟨rfl, q1⟩
      go_wp2_with fail
      go_ret2
      exact ⟨rfl, q1⟩
set_option maxHeartbeats 400000 in
theorem amean_any (l : List Nat) (B c : Nat) (N : Nat → Nat) (w : World) (hA : AccOf w B l c N) (hz : 2 * (sumZ l).natAbs < m64 ^ 5) (hT : Tab w) :
    Calls Tryd.prog 36 #[.pointer (some ⟨B, 0, none⟩)] w fun e w' => e = .returned (.tuple #[.int .u32 ((overV l c).1 : Nat), .int .i64 (overV l c).2]) ∧ Q w w' := by
  have c6 := hA.c
  go_enter Tryd.func36, Tryd.ntmps36
  go_wp2_with fail
  refine (aover_any l B c N _ hA hz hT c).mono ?_
  rintro e w1 ⟨rfl, q1⟩
  go_wp2_with fail
  go_ret2
  exact ⟨rfl, q1⟩
set_option maxHeartbeats 400000 in
theorem acount_any (B : Nat) (c : Int) (w : World) (c6 : w.cell? ⟨B, 6, none⟩ = some (.int .i64 c)) :
    Calls Tryd.prog 15 #[.pointer (some ⟨B, 0, none⟩)] w fun e w' => e = .returned (.int .i64 c) ∧ w' = w := by
  go_enter Tryd.func15, Tryd.ntmps15
  go_wp2_with fail
  go_ret
  exact ⟨rfl, rfl⟩
end Go.Proofs.YtnjagokojdpgpabDoor
/- Plain facts: what is told of a list of samples does not hang on their order; a sample and its negative leave it. -/
namespace Go.Proofs.YtnjagokojdpgpabDoor
open Go.RowKit
set_option linter.unusedVariables false
set_option linter.unusedSimpArgs false

theorem sumZ_cons (s : Nat) (l : List Nat) : sumZ (s :: l) = unK s + sumZ l := by
  have h := sumZ_append [s] l
  rw [show sumZ [s] = unK s from Int.zero_add _] at h
  exact h
theorem metV_cons (s : Nat) (l : List Nat) : metV (s :: l) = kindV s ||| metV l := by
  have h := metV_append [s] l
  rw [show metV [s] = kindV s from Nat.zero_or _] at h
  exact h
theorem sumZ_perm {l m : List Nat} (h : l.Perm m) : sumZ l = sumZ m := by
  induction h with
  | nil => rfl
  | cons x _ ih => rw [sumZ_cons, sumZ_cons, ih]
  | swap x y l => rw [sumZ_cons, sumZ_cons, sumZ_cons, sumZ_cons]; omega
  | trans _ _ a b => rw [a, b]
theorem metV_perm {l m : List Nat} (h : l.Perm m) : metV l = metV m := by
  induction h with
  | nil => rfl
  | cons x _ ih => rw [metV_cons, metV_cons, ih]
  | swap x y l => rw [metV_cons, metV_cons, metV_cons, metV_cons, ← Nat.or_assoc, ← Nat.or_assoc, Nat.or_comm (kindV x)]
  | trans _ _ a b => rw [a, b]
theorem sumV_perm {l m : List Nat} (h : l.Perm m) (d : Nat) : sumV l d = sumV m d := by
  unfold sumV
  rw [sumZ_perm h, metV_perm h]
theorem four_unK (s : Nat) : (4 : Int) ∣ unK s := by
  unfold unK
  split
  · have h : 4 ∣ szS s * 2 ^ atS s := by
      obtain ⟨k, hk⟩ : ∃ k, atS s = k + 2 := ⟨atS s - 2, by unfold atS; split <;> omega⟩
      rw [hk, Nat.pow_add]
      exact Nat.dvd_trans (Nat.dvd_mul_left 4 (2 ^ k)) (Nat.dvd_mul_left _ _)
    have h' : (4 : Int) ∣ ((szS s * 2 ^ atS s : Nat) : Int) := Int.ofNat_dvd.2 h
    unfold unZ
    split
    · exact h'
    · exact Int.dvd_neg.2 h'
  · exact Int.dvd_zero 4
theorem four_sumZ (l : List Nat) : (4 : Int) ∣ sumZ l := by
  induction l with
  | nil => exact Int.dvd_zero 4
  | cons s l ih => rw [sumZ_cons]; exact Int.dvd_add (four_unK s) ih
theorem exV_some {z : Int} (h0 : z ≠ 0) (h4 : (4 : Int) ∣ z) : exV z 1 ≠ 2147483648 := by
  have hV : 4 ≤ z.natAbs := by omega
  have e : sqV z.natAbs 1 0 = 2 * z.natAbs := by rw [sqV_zero, Nat.div_one, Nat.mod_one, if_pos rfl, Nat.add_zero]
  have h1 : 1 ≤ exR z.natAbs 1 := by
    unfold exR
    rw [e]
    have h8 : rungOf Ieee.single 8 (-152) = 1 := by decide +kernel
    rw [← h8]
    exact rung_mono _ _ (by omega)
  have h2 : exR z.natAbs 1 ≤ 2139095040 := by
    unfold exR rungOf
    split
    · exact Nat.zero_le _
    · exact Nat.min_le_right _ _
  unfold exV
  rw [word32]
  cases decide (z < 0)
  · rw [show Bool.toNat false = 0 from rfl]; omega
  · rw [show Bool.toNat true = 1 from rfl]; omega
/-- The negative of a sample. -/
def ngS (x : Nat) : Nat := if x < 2147483648 then x + 2147483648 else x - 2147483648
theorem ng_lt {x : Nat} (h : x < 4294967296) : ngS x < 4294967296 := by unfold ngS; split <;> omega
theorem ng_parts {x : Nat} (h : x < 4294967296) : szS (ngS x) = szS x ∧ atS (ngS x) = atS x ∧ ngS x % 2147483648 = x % 2147483648 ∧ (ngS x < 2147483648 ↔ ¬ x < 2147483648) := by
  have e1 : ngS x / 8388608 % 256 = x / 8388608 % 256 := by unfold ngS; split <;> omega
  have e2 : ngS x % 8388608 = x % 8388608 := by unfold ngS; split <;> omega
  refine ⟨by unfold szS; rw [e1, e2], by unfold atS; rw [e1], by unfold ngS; split <;> omega, by unfold ngS; split <;> omega⟩
theorem unZ_ng {x : Nat} (h : x < 4294967296) : unZ (ngS x) = -unZ x := by
  obtain ⟨e1, e2, _, e4⟩ := ng_parts h
  unfold unZ
  rw [e1, e2]
  by_cases k : x < 2147483648
  · rw [if_pos k, if_neg (fun g => (e4.1 g) k)]
  · rw [if_neg k, if_pos (e4.2 k), Int.neg_neg]
theorem kinds_ng {x : Nat} (h : x < 4294967296) (hf : x % 2147483648 < 2139095040) : (kindV x = 2 ∧ kindV (ngS x) = 2) ∨ (x = 0 ∧ kindV x = 2 ∧ kindV (ngS x) = 1) ∨ (x = 2147483648 ∧ kindV x = 1 ∧ kindV (ngS x) = 2) := by
  by_cases h0 : x = 0
  · subst h0; exact Or.inr (Or.inl ⟨rfl, by decide, by decide⟩)
  · by_cases h1 : x = 2147483648
    · subst h1; exact Or.inr (Or.inr ⟨rfl, by decide, by decide⟩)
    · obtain ⟨_, _, e3, _⟩ := ng_parts h
      refine Or.inl ⟨?_, ?_⟩
      · unfold kindV; rw [if_neg h1, if_pos hf]
      · have h2 : ngS x ≠ 2147483648 := by unfold ngS; split <;> omega
        unfold kindV; rw [if_neg h2, e3, if_pos hf]
theorem unK_ng {x : Nat} (h : x < 4294967296) (hf : x % 2147483648 < 2139095040) : unK x + unK (ngS x) = 0 := by
  have e := unZ_ng h
  unfold unK
  rcases kinds_ng h hf with ⟨a, b⟩ | ⟨rfl, a, b⟩ | ⟨rfl, a, b⟩
  · rw [if_pos a, if_pos b, e]; omega
  · rw [if_pos a, if_neg (by rw [b]; decide)]; decide
  · rw [if_neg (by rw [a]; decide), if_pos b]; decide
theorem or_2 : ∀ M : Nat, M < 32 → decide (M ||| 2 < 4) = decide (M < 4) ∧ decide (M ||| 2 < 8) = decide (M < 8) ∧ decide (8 ≤ M ||| 2) = decide (8 ≤ M) ∧ decide (M ||| 2 < 12) = decide (M < 12) ∧ (M ||| 2 == 1) = false := by decide +kernel
theorem or_3 : ∀ M : Nat, M < 32 → decide (M ||| 3 < 4) = decide (M < 4) ∧ decide (M ||| 3 < 8) = decide (M < 8) ∧ decide (8 ≤ M ||| 3) = decide (8 ≤ M) ∧ decide (M ||| 3 < 12) = decide (M < 12) ∧ (M ||| 3 == 1) = false := by decide +kernel
theorem or_two (M : Nat) (h : M < 32) (k : Nat) (h1 : k < 4) (h2 : 2 ≤ k) : ((M ||| k < 4) ↔ M < 4) ∧ ((M ||| k < 8) ↔ M < 8) ∧ ((8 ≤ M ||| k ∧ M ||| k < 12) ↔ (8 ≤ M ∧ M < 12)) ∧ ¬ M ||| k = 1 := by
  obtain rfl | rfl : k = 2 ∨ k = 3 := by omega
  · obtain ⟨a, b, c, d, e⟩ := or_2 M h
    exact ⟨decide_eq_decide.1 a, decide_eq_decide.1 b, and_congr (decide_eq_decide.1 c) (decide_eq_decide.1 d), beq_eq_false_iff_ne.1 e⟩
  · obtain ⟨a, b, c, d, e⟩ := or_3 M h
    exact ⟨decide_eq_decide.1 a, decide_eq_decide.1 b, and_congr (decide_eq_decide.1 c) (decide_eq_decide.1 d), beq_eq_false_iff_ne.1 e⟩
/-- A sample and its negative leave what is told. -/
theorem sumV_pair {x : Nat} (h : x < 4294967296) (hf : x % 2147483648 < 2139095040) (S : List Nat) : sumV (x :: (S ++ [ngS x])) 1 = if sumV S 1 = 2147483648 then 0 else sumV S 1 := by
  have hZ : sumZ (x :: (S ++ [ngS x])) = sumZ S := by
    rw [sumZ_cons, sumZ_snoc]
    have := unK_ng h hf
    omega
  obtain ⟨k, hk, hk2, hM⟩ : ∃ k, k < 4 ∧ 2 ≤ k ∧ metV (x :: (S ++ [ngS x])) = metV S ||| k := by
    refine ⟨kindV x ||| kindV (ngS x), ?_, ?_, ?_⟩
    · rcases kinds_ng h hf with ⟨a, b⟩ | ⟨_, a, b⟩ | ⟨_, a, b⟩ <;> rw [a, b] <;> decide
    · rcases kinds_ng h hf with ⟨a, b⟩ | ⟨_, a, b⟩ | ⟨_, a, b⟩ <;> rw [a, b] <;> decide
    · rw [metV_cons, metV_snoc, Nat.or_comm, Nat.or_assoc, Nat.or_comm (kindV (ngS x))]
  obtain ⟨a, b, c, d⟩ := or_two (metV S) (metV_lt S) k hk hk2
  have h4 := four_sumZ S
  unfold sumV
  rw [hZ, hM]
  simp only [a, b, c, d]
  generalize sumZ S = z at *
  by_cases m4 : metV S < 4
  · rw [if_pos m4, if_pos m4]
    by_cases hz : z = 0
    · subst hz
      simp only [ne_eq, not_true_eq_false, if_false]
      split <;> rfl
    · have hx := exV_some hz h4
      rw [if_pos hz, if_pos hz, if_neg hx]
  · rw [if_neg m4, if_neg m4]
    split
    · rw [if_neg (by decide)]
    · split
      · rw [if_neg (by decide)]
      · rw [if_neg (by decide)]
end Go.Proofs.YtnjagokojdpgpabDoor
/- What the reference's whole, Floor, Nearest and FromInt return. -/
namespace Go.Proofs.YtnjagokojdpgpabDoor
open Go.RowKit

theorem ret_two {a b c d : Int} (h : a = b) (g : c = d) : Ending.returned (.tuple #[.int .i64 a, .int .i64 c]) = .returned (.tuple #[.int .i64 b, .int .i64 d]) := by rw [h, g]
/-- A number with a sign, if it is one of 64 bits. -/
abbrev inI (V : Int) : Prop := -9223372036854775808 ≤ V ∧ V < 9223372036854775808
/-- What is told of it: the number, and the error. -/
def wI (V : Int) : Int := if inI V then V else 0
def wE (V : Int) : Int := if inI V then 0 else 20
theorem blen_ge {n k : Nat} (h : k < blen n) : 2 ^ k ≤ n := by
  rcases Nat.lt_or_ge n (2 ^ k) with g | g
  · have := blen_le g; omega
  · exact g

end Go.Proofs.YtnjagokojdpgpabDoor
/- What the reference's Nearest and FromInt return. -/
namespace Go.Proofs.YtnjagokojdpgpabDoor
open Go.RowKit

/-- To the nearest, by bits. -/
theorem rne_bits {n d : Nat} (h : 1 ≤ d) : rne n d = n / 2 ^ d + if bitV n (d - 1) = 1 ∧ (restB n (d - 1) = true ∨ bitV (n / 2 ^ d) 0 = 1) then 1 else 0 := by
  have k := kept_down (n := n) (m := 0) (e := 0) d (rfl : (0 : Int) + (d : Int) = 0 + (d : Int)) h (by decide)
  unfold keptV at k
  rw [Nat.add_zero, show (0 : Int) - 1 - (0 + (d : Int)) = -((d + 1 : Nat) : Int) by omega, rz_neg, Nat.mul_comm 2 n, show n * 2 = n * 2 ^ 1 by rw [Nat.pow_one], rne_scale] at k
  rw [k]
  have e : restB n (d - 1) = true ↔ n % 2 ^ (d - 1) ≠ 0 := by unfold restB; simp
  congr 1
  simp only [e]
  simp
/-- What Floor and Nearest of the reference tell. -/
theorem flo_told {way : Ieee.Toward} (hw : way = .down ∨ way = .even) {a : Nat} (h : rung32 a < 2139095040) :
    floI way a = wI (Ieee.signed (sgn32 a) (wholeN way (sgn32 a) (mag32 (rung32 a)) (-149 + (plc32 (rung32 a) : Int))) 0) ∧ floE way a = wE (Ieee.signed (sgn32 a) (wholeN way (sgn32 a) (mag32 (rung32 a)) (-149 + (plc32 (rung32 a) : Int))) 0) := by
  obtain ⟨V, v1, v2, v3⟩ := flo_fin hw h
  rw [← v1, v2, v3]
  exact ⟨rfl, rfl⟩
set_option maxHeartbeats 2000000 in
theorem rint_any (n : Int) (n0 : -9223372036854775808 ≤ n) (n1 : n ≤ 9223372036854775807) (w : World) : Calls Tryd.prog 28 #[.int .i64 n] w fun e w' => e = .returned (.int .u32 (Ieee.single.write (.number (decide (n < 0)) n.natAbs 0) : Nat)) ∧ Q w w' := by
  have hv : Ieee.single.write (.number (decide (n < 0)) n.natAbs 0) = roundR (.fin (decide (n < 0)) n.natAbs 0 false) := (roundR_fin _ _ _).symm
  rw [hv]
  clear hv
  have hfit : fits (.fin (decide (n < 0)) n.natAbs 0 false) := ⟨by have := blen_le (n := n.natAbs) (k := 64) (by omega); omega, by omega, by omega, fun h => by cases h⟩
  by_cases h : n < 0
  · rw [decide_eq_true h] at hfit ⊢
    obtain ⟨m, hm⟩ : ∃ m : Nat, m = n.natAbs := ⟨_, rfl⟩
    rw [← hm] at hfit ⊢
    have hmn : n = -(m : Int) := by omega
    subst hmn
    have hmb : m ≤ 9223372036854775808 := by omega
    have w1 : IntKind.u64.wrap (-(m : Int)) = 18446744073709551616 - (m : Int) := by rw [IntKind.wrap_u64]; omega
    have w2 : IntKind.u64.wrap (-(18446744073709551616 - (m : Int))) = (m : Int) := by rw [IntKind.wrap_u64]; omega
    clear hm
    go_enter Tryd.func28, Tryd.ntmps28
    go_wp2_with fail
    refine (natof_nat m _ (by omega)).mono ?_
    rintro x u1 ⟨v1, rfl, h1, q1⟩
    obtain ⟨p1, b1, L1, C1, rfl, i1⟩ := h1
    have H1 : Hid _ := i1
    clear i1
    go_wp2_with fail
    refine (rbits_any _ (.fin true m 0 false) _ ⟨_, rfl, p1, b1, L1, C1, rfl, H1.out⟩ hfit).mono ?_
    rintro x u2 ⟨rfl, q2⟩
    go_wp2_with fail
    go_ret
    exact ⟨rfl, q1.trans q2⟩
  · rw [decide_eq_false h] at hfit ⊢
    obtain ⟨m, hm⟩ : ∃ m : Nat, m = n.natAbs := ⟨_, rfl⟩
    rw [← hm] at hfit ⊢
    have hmn : n = (m : Int) := by omega
    subst hmn
    have hmb : m ≤ 9223372036854775807 := by omega
    have w1 : IntKind.u64.wrap (m : Int) = (m : Int) := by rw [IntKind.wrap_u64]; omega
    clear hm
    go_enter Tryd.func28, Tryd.ntmps28
    go_wp2_with fail
    refine (natof_nat m _ (by omega)).mono ?_
    rintro x u1 ⟨v1, rfl, h1, q1⟩
    obtain ⟨p1, b1, L1, C1, rfl, i1⟩ := h1
    have H1 : Hid _ := i1
    clear i1
    go_wp2_with fail
    refine (rbits_any _ (.fin false m 0 false) _ ⟨_, rfl, p1, b1, L1, C1, rfl, H1.out⟩ hfit).mono ?_
    rintro x u2 ⟨rfl, q2⟩
    go_wp2_with fail
    go_ret
    exact ⟨rfl, q1.trans q2⟩
end Go.Proofs.YtnjagokojdpgpabDoor
/- Plain facts: a sample times a power of two: by way of binary64 and by the reference. -/
namespace Go.Proofs.YtnjagokojdpgpabDoor
open Go.RowKit

theorem scaleR_link {a : Nat} (d n : Int) (hd : d = n ∨ (300 ≤ d ∧ 300 ≤ n) ∨ (d ≤ -300 ∧ n ≤ -300)) : roundR (scaleR d (numOf Ieee.single a)) = scaleV a n := by
  rw [numOf_datum]
  cases h : nanN a
  · have h' := h
    rw [nanN_rung] at h'
    have h' := of_decide_eq_false h'
    rcases Nat.lt_or_ge (rung32 a) 2139095040 with g | g
    · rw [read_fin32 g]
      have e1 : scaleR d (datumR (.number (sgn32 a) (mag32 (rung32 a)) (-149 + (plc32 (rung32 a) : Int)))) = .fin (sgn32 a) (mag32 (rung32 a)) (-149 + (plc32 (rung32 a) : Int) + d) false := rfl
      rw [e1, roundR_fin, nearest_rung]
      by_cases z : rung32 a = 0
      · rw [scaleV_zero z, z, show mag32 0 = 0 from by decide, rungOf_zero]
      · rw [scaleV_fin z g]
        refine congrArg (Ieee.single.word (sgn32 a)) ?_
        have hm := mag_ne32 z
        have hm1 := mag_lt32 (rung32 a)
        have hp : plc32 (rung32 a) ≤ 253 := by unfold plc32; omega
        rcases hd with rfl | ⟨d0, d1⟩ | ⟨d0, d1⟩
        · rfl
        · rw [rung_big hm (by omega), rung_big hm (by omega)]
        · rw [rung_small hm1 (by omega), rung_small hm1 (by omega)]
    · rw [read_inf32 (by omega), scaleV_inf (by omega)]; rfl
  · obtain ⟨s, t, e⟩ := isNaN_cases (read32_nan h)
    rw [e, scaleV_nan h]; rfl
end Go.Proofs.YtnjagokojdpgpabDoor
/- The statement SumsLong: whole numbers in units of 2^-20. -/
namespace Go.Proofs.YtnjagokojdpgpabDoor
open Go.RowKit
set_option linter.unusedVariables false
set_option linter.unusedSimpArgs false

/-- A whole number in units of 2^-20, as a sample. -/
def xV (v : Int) : Nat := Ieee.single.word (decide (v < 0)) (rungOf Ieee.single v.natAbs (-20))
theorem rung_twenty {m : Nat} (hm : m ≠ 0) (hb : m < 2 ^ 60) : rungOf Ieee.single m 0 = rungOf Ieee.single m (-20) + 20 * 8388608 ∧ 8388608 ≤ rungOf Ieee.single m (-20) ∧ rungOf Ieee.single m 0 < 2139095040 := by
  have e0 : rungOf Ieee.single m 0 = rungOf Ieee.single (m * 2 ^ 149) (-149) := by rw [rung_scale]; rfl
  have e1 : rungOf Ieee.single m (-20) = rungOf Ieee.single (m * 2 ^ 129) (-149) := by rw [rung_scale]; rfl
  have hl : m.log2 < 60 := (Nat.log2_lt hm).2 hb
  have l0 : (m * 2 ^ 149).log2 = m.log2 + 149 := log2_mul_pow hm 149
  have l1 : (m * 2 ^ 129).log2 = m.log2 + 129 := log2_mul_pow hm 129
  have k0 : lostK32 (m * 2 ^ 149) = m.log2 + 106 + 20 := by unfold lostK32; omega
  have k1 : lostK32 (m * 2 ^ 129) = m.log2 + 106 := by unfold lostK32; omega
  have hr : rne (m * 2 ^ 149) (m.log2 + 106 + 20) = rne (m * 2 ^ 129) (m.log2 + 106) := by
    rw [show (149 : Nat) = 129 + 20 from rfl, Nat.pow_add, ← Nat.mul_assoc, rne_scale]
  have hk := kept_bd32 (M := m * 2 ^ 129)
  rw [k1] at hk
  rw [e0, e1, rung32_eq (by omega), rung32_eq (by omega), k0, k1, hr]
  have h2 := hk.2 (by omega)
  have h1 := hk.1
  refine ⟨by omega, by omega, by omega⟩
theorem word_parts32 (s : Bool) {r : Nat} (h : r ≤ 2139095040) : sgn32 (Ieee.single.word s r) = s ∧ rung32 (Ieee.single.word s r) = r ∧ Ieee.single.word s r < 4294967296 := by
  obtain ⟨h1, h2⟩ := sgn_word32 s (r := r) (by omega)
  refine ⟨h1, h2, ?_⟩
  rw [word32]
  cases s <;> simp <;> omega
theorem xV_lt (v : Int) : xV v < 4294967296 := (word_parts32 _ (rungOf_le _ _ _)).2.2
/-- FromInt, then Scale by -20. -/
theorem from_scale {v : Int} (hb : v.natAbs < 2 ^ 60) : roundR (scaleR (min (max (-20) (-1000)) 1000) (numOf Ieee.single (Ieee.single.write (.number (decide (v < 0)) v.natAbs 0)))) = xV v := by
  rw [show (min (max (-20) (-1000)) 1000 : Int) = -20 from rfl, scaleR_link (-20) (-20) (Or.inl rfl)]
  have hw : Ieee.single.write (.number (decide (v < 0)) v.natAbs 0) = Ieee.single.word (decide (v < 0)) (rungOf Ieee.single v.natAbs 0) := nearest_rung _ _ _ _
  rw [hw]
  unfold xV
  by_cases h0 : v.natAbs = 0
  · have hv : v = 0 := by omega
    subst hv
    rw [show (0 : Int).natAbs = 0 from rfl, rungOf_zero, rungOf_zero]
    have hp := word_parts32 (decide ((0 : Int) < 0)) (r := 0) (by decide)
    rw [scaleV_zero hp.2.1, hp.1]
  · obtain ⟨e1, e2, e3⟩ := rung_twenty h0 hb
    obtain ⟨p1, p2, p3⟩ := word_parts32 (decide (v < 0)) (r := rungOf Ieee.single v.natAbs 0) (by omega)
    rw [scaleV_fin (by rw [p2]; omega) (by rw [p2]; exact e3), p1, p2]
    congr 1
    have hs := self32 (r := rungOf Ieee.single v.natAbs (-20)) (by omega)
    generalize rungOf Ieee.single v.natAbs (-20) = r at *
    rw [e1]
    have ep : plc32 (r + 20 * 8388608) = plc32 r + 20 := by unfold plc32; omega
    have em : mag32 (r + 20 * 8388608) = mag32 r := by unfold mag32; rw [ep]; omega
    rw [ep, em]
    rw [show -149 + ((plc32 r + 20 : Nat) : Int) + -20 = -149 + (plc32 r : Int) by omega]
    exact hs
theorem un_val (s : Nat) : szS s * 2 ^ atS s = val32 (rung32 s) * 4 := by
  unfold szS atS val32 mag32 plc32 rung32
  have e : s % 2147483648 / 8388608 = s / 8388608 % 256 := by omega
  rw [e]
  by_cases h : s / 8388608 % 256 = 0
  · rw [if_pos h, if_pos h, h]
    have : s % 2147483648 = s % 8388608 := by omega
    rw [this]
    simp
  · rw [if_neg h, if_neg h]
    obtain ⟨k, hk⟩ : ∃ k, s / 8388608 % 256 = k + 1 := ⟨s / 8388608 % 256 - 1, by omega⟩
    rw [hk, Nat.add_sub_cancel, show k + 1 + 1 = k + 2 from rfl, Nat.pow_add, ← Nat.mul_assoc]
    have : s % 2147483648 - k * 8388608 = s % 8388608 + 8388608 := by omega
    rw [this]
/-- What such a sample is worth, in units of 2^-151. -/
theorem xV_un {v : Int} (hb : v.natAbs < 2 ^ 24) : unK (xV v) = v * 2 ^ 131 ∧ kindV (xV v) = 2 := by
  have hr : rungOf Ieee.single v.natAbs (-20) = rungOf Ieee.single (v.natAbs * 2 ^ 129) (-149) := by rw [rung_scale]; rfl
  have hlog : (v.natAbs * 2 ^ 129).log2 ≤ 270 := by
    by_cases h0 : v.natAbs = 0
    · rw [h0, Nat.zero_mul]; decide
    · rw [log2_mul_pow h0]
      have := (Nat.log2_lt h0).2 hb
      omega
  have hval := vN_exact32 (M := v.natAbs * 2 ^ 129) (g := 129) hlog ⟨v.natAbs, Nat.mul_comm _ _⟩ (by rw [Nat.pow_add]; exact Nat.mul_lt_mul_of_pos_right hb (by decide))
  rw [← hr] at hval
  have hlt : rungOf Ieee.single v.natAbs (-20) < 2139095040 := by
    by_cases h0 : v.natAbs = 0
    · rw [h0, rungOf_zero]; decide
    · have := rung_twenty h0 (Nat.lt_of_lt_of_le hb (by decide)); omega
  obtain ⟨p1, p2, p3⟩ := word_parts32 (decide (v < 0)) (Nat.le_of_lt hlt)
  have hun := un_val (xV v)
  have hx : rung32 (xV v) = rungOf Ieee.single v.natAbs (-20) := p2
  rw [hx, hval] at hun
  have hs : xV v < 2147483648 ↔ ¬ v < 0 := by
    have h1 : sgn32 (xV v) = decide (v < 0) := p1
    have h2 : xV v < 4294967296 := p3
    unfold sgn32 at h1
    constructor
    · intro h hv
      rw [decide_eq_true hv, show xV v / 2147483648 % 2 = 0 by omega] at h1
      cases h1
    · intro hv
      rw [decide_eq_false hv] at h1
      have : xV v / 2147483648 % 2 ≠ 1 := fun e => by rw [e] at h1; cases h1
      omega
  have hk : kindV (xV v) = 2 := by
    unfold kindV
    have hne : xV v ≠ 2147483648 := fun e => by
      have hv : v < 0 := Decidable.byContradiction fun h => by have := hs.2 h; omega
      have h0 : rung32 (xV v) = 0 := by rw [e]; rfl
      rw [hx] at h0
      rw [h0, val_zero32] at hval
      have : v.natAbs = 0 := by
        rcases Nat.eq_zero_or_pos v.natAbs with h | h
        · exact h
        · have := Nat.mul_pos h (show 0 < 2 ^ 129 by decide); omega
      omega
    have hr2 : xV v % 2147483648 < 2139095040 := by have : rung32 (xV v) < 2139095040 := by rw [hx]; exact hlt
                                                    exact this
    rw [if_neg hne, if_pos hr2]
  refine ⟨?_, hk⟩
  rw [unK_fin hk]
  unfold unZ
  rw [hun]
  by_cases hv : v < 0
  · rw [if_neg (fun h => hs.1 h hv)]
    have : v = -(v.natAbs : Int) := by omega
    generalize v.natAbs = m at *
    subst this
    rw [Int.neg_mul]
    congr 1
    rw [Nat.mul_assoc]
    norm_cast
  · rw [if_pos (hs.2 hv)]
    have : v = (v.natAbs : Int) := by omega
    generalize v.natAbs = m at *
    subst this
    rw [Nat.mul_assoc]
    norm_cast
theorem sumZ_xV : ∀ (L : List Int), (∀ v ∈ L, v.natAbs < 2 ^ 24) → sumZ (L.map xV) = L.sum * 2 ^ 131 ∧ (metV (L.map xV) = 0 ∨ metV (L.map xV) = 2)
  | [], _ => ⟨rfl, Or.inl rfl⟩
  | v :: t, h => by
    obtain ⟨i1, i2⟩ := sumZ_xV t fun u hu => h u (List.mem_cons_of_mem _ hu)
    obtain ⟨x1, x2⟩ := xV_un (h v (List.mem_cons_self ..))
    rw [List.map_cons, sumZ_cons, i1, x1, List.sum_cons, Int.add_mul]
    refine ⟨rfl, Or.inr ?_⟩
    have hm : ∀ (l : List Nat) (m : Nat), l.foldl (fun m s => m ||| kindV s) m = m ||| l.foldl (fun m s => m ||| kindV s) 0 := by
      intro l
      induction l with
      | nil => intro m; simp
      | cons a t ih => intro m; rw [List.foldl_cons, List.foldl_cons, ih, ih (0 ||| kindV a), Nat.zero_or, Nat.or_assoc]
    unfold metV at i2 ⊢
    rw [List.foldl_cons, hm, x2, Nat.zero_or]
    rcases i2 with h | h <;> rw [h] <;> rfl
/-- What is told of such a list. -/
theorem sumV_xV {L : List Int} (h : ∀ v ∈ L, v.natAbs < 2 ^ 24) : sumV (L.map xV) 1 = xV L.sum := by
  obtain ⟨h1, h2⟩ := sumZ_xV L h
  unfold sumV
  rw [if_pos (by omega), h1]
  by_cases h0 : L.sum = 0
  · rw [h0, Int.zero_mul, if_neg (by simp), if_neg (by omega)]
    unfold xV
    rw [show (0 : Int).natAbs = 0 from rfl, rungOf_zero]
    rfl
  · have hp : (0 : Int) < 2 ^ 131 := by decide
    rw [if_pos (Int.mul_ne_zero h0 (by decide))]
    unfold exV xV exR
    have e1 : decide (L.sum * 2 ^ 131 < 0) = decide (L.sum < 0) := by
      refine decide_eq_decide.2 ⟨fun h => ?_, fun h => Int.mul_neg_of_neg_of_pos h hp⟩
      rcases Int.lt_or_le L.sum 0 with g | g
      · exact g
      · have := Int.mul_nonneg g (Int.le_of_lt hp); omega
    rw [e1, Int.natAbs_mul, show ((2 : Int) ^ 131).natAbs = 2 ^ 131 from rfl, sqV_zero, Nat.div_one, Nat.mod_one, if_pos rfl, Nat.add_zero]
    congr 1
    rw [show 2 * (L.sum.natAbs * 2 ^ 131) = L.sum.natAbs * 2 ^ 132 by rw [Nat.mul_comm 2, Nat.mul_assoc, ← Nat.pow_succ], rung_scale]
    rfl
end Go.Proofs.YtnjagokojdpgpabDoor

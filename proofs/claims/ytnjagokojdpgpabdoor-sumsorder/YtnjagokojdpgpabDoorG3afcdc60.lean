/- Numbers of five words, divided. -/
import Derived.Test.YtnjagokojdpgpabDoorG29c2668b
import Derived.Test.YtnjagokojdpgpabDoorGe0ff3cfc
import Derived.Test.YtnjagokojdpgpabDoorG067d8f82
import Derived.Test.YtnjagokojdpgpabDoorG86fa7ed4
namespace Go.Proofs.YtnjagokojdpgpabDoor
open Go.RowKit
set_option linter.unusedVariables false
set_option linter.unusedSimpArgs false

/-- What is left behind j steps of a division, from the highest word down; the words of the quotient. -/
def rdT (N : Nat → Nat) (d : Nat) : Nat → Nat
  | 0 => 0
  | j + 1 => (rdT N d j * 18446744073709551616 + N (4 - j)) % d
def dvW (N : Nat → Nat) (d i : Nat) : Nat := (rdT N d (4 - i) * 18446744073709551616 + N i) / d
def horV (N : Nat → Nat) : Nat → Nat
  | 0 => 0
  | j + 1 => horV N j * 18446744073709551616 + N (4 - j)
theorem rdT_lt (N : Nat → Nat) {d : Nat} (hd : 0 < d) : ∀ j, rdT N d j < d := by
  intro j
  cases j with
  | zero => exact hd
  | succ j => exact Nat.mod_lt _ hd
theorem dvW_lt {N : Nat → Nat} (hN : ∀ i, N i < m64) {d : Nat} (hd : 0 < d) (i : Nat) : dvW N d i < m64 := by
  unfold dvW
  rw [Nat.div_lt_iff_lt_mul hd]
  have h1 := rdT_lt N hd (4 - i)
  have h2 := hN i
  unfold m64 at *
  generalize rdT N d (4 - i) = r at *
  omega
theorem hor_step {H d E r n M : Nat} (h : H = d * E + r) : H * M + n = d * (E * M + (r * M + n) / d) + (r * M + n) % d := by
  have h1 := Nat.div_add_mod (r * M + n) d
  rw [h, Nat.mul_add, Nat.add_mul, Nat.mul_assoc]
  omega
theorem hor_div (N : Nat → Nat) (d : Nat) : ∀ j, j ≤ 5 → horV N j = d * horV (dvW N d) j + rdT N d j := by
  intro j
  induction j with
  | zero => intro _; rfl
  | succ j ih =>
    intro hj
    show horV N j * 18446744073709551616 + N (4 - j) = d * (horV (dvW N d) j * 18446744073709551616 + (rdT N d (4 - (4 - j)) * 18446744073709551616 + N (4 - j)) / d) + (rdT N d j * 18446744073709551616 + N (4 - j)) % d
    rw [show 4 - (4 - j) = j by omega]
    exact hor_step (ih (by omega))
theorem hor_alg (a0 a1 a2 a3 a4 M : Nat) : (((a4 * M + a3) * M + a2) * M + a1) * M + a0 = a0 * M ^ 0 + a1 * M ^ 1 + a2 * M ^ 2 + a3 * M ^ 3 + a4 * M ^ 4 := by grind
theorem hor_val (N : Nat → Nat) : horV N 5 = valW N 5 := by
  have e1 : horV N 5 = (((N 4 * m64 + N 3) * m64 + N 2) * m64 + N 1) * m64 + N 0 := by
    show ((((0 * m64 + N 4) * m64 + N 3) * m64 + N 2) * m64 + N 1) * m64 + N 0 = _
    rw [Nat.zero_mul, Nat.zero_add]
  have e2 : valW N 5 = N 0 * m64 ^ 0 + N 1 * m64 ^ 1 + N 2 * m64 ^ 2 + N 3 * m64 ^ 3 + N 4 * m64 ^ 4 := by
    rw [valW_succ N 4, valW_succ N 3, valW_succ N 2, valW_succ N 1, valW_succ N 0, valW_none, Nat.zero_add]
  rw [e1, e2, hor_alg]
theorem dv_words (N : Nat → Nat) {d : Nat} (hd : 0 < d) : valW (dvW N d) 5 = valW N 5 / d ∧ rdT N d 5 = valW N 5 % d := by
  have h := hor_div N d 5 (by omega)
  rw [hor_val, hor_val] at h
  have hl := rdT_lt N hd 5
  have := (Nat.div_mod_unique hd).2 (show rdT N d 5 + d * valW (dvW N d) 5 = valW N 5 ∧ rdT N d 5 < d from ⟨by omega, hl⟩)
  exact ⟨this.1.symm, this.2.symm⟩
/-- The words of a box while they are divided: i are still to be. -/
structure DSt (w : World) (N : Nat → Nat) (d B i : Nat) (x : World) : Prop where
  q : Q w x
  c1 : ∀ j, j < 5 → x.cell? ⟨B, j, none⟩ = some (.int .u64 ((if j < i then N j else dvW N d j : Nat) : Int))
  z1 : ∀ j, x.frozen? ⟨B, j, none⟩ = false
theorem DSt.step {w x : World} {N : Nat → Nat} {d B i : Nat} (h : DSt w N d B (i + 1) x) (hw : w.heap.size ≤ B) (hi : i < 5) {x' : World} (q : Q x x') : DSt w N d B i (x'.setCell ⟨B, i, none⟩ (.int .u64 (dvW N d i : Nat))) := by
  have hc : ∀ j, j < 5 → x'.cell? ⟨B, j, none⟩ = some (.int .u64 ((if j < i + 1 then N j else dvW N d j : Nat) : Int)) := fun j hj => q.cell (h.c1 j hj)
  refine ⟨(h.q.trans q).set hw _, fun j hj => ?_, fun j => ?_⟩
  · by_cases e : j = i
    · subst e
      have c := hc j hj
      rw [if_neg (Nat.lt_irrefl _)]
      simp [go_sem, c]
    · rw [World.cell?_setCell_other _ _ _ _ (by intro h; injection h; omega), hc j hj]
      by_cases g : j < i
      · rw [if_pos g, if_pos (by omega)]
      · rw [if_neg g, if_neg (by omega)]
  · rw [World.frozen?_setCell, q.2]; exact h.z1 j
theorem or_one {n : Nat} (h : n < 18446744073709551616) : bits .or .u64 (n : Int) 1 = ((2 * (n / 2) + 1 : Nat) : Int) := by
  have e : bits .or .u64 (n : Int) 1 = ((n ||| 1 : Nat) : Int) := by go_bits2
  rw [e]
  congr 1
  have h1 : n = 2 * (n / 2) + n % 2 := by omega
  rcases Nat.mod_two_eq_zero_or_one n with g | g
  · have := Nat.two_pow_add_eq_or_of_lt (i := 1) (b := 1) (by decide) (n / 2)
    rw [show 2 ^ 1 * (n / 2) = n by omega] at this
    omega
  · have h2 := Nat.two_pow_add_eq_or_of_lt (i := 1) (b := 1) (by decide) (n / 2)
    rw [show 2 ^ 1 * (n / 2) + 1 = n by omega] at h2
    have h3 : (2 ^ 1 * (n / 2) ||| 1) ||| 1 = 2 ^ 1 * (n / 2) ||| 1 := by rw [Nat.or_assoc, Nat.or_self]
    rw [← h2] at h3
    omega
/-- A binary64 of a whole number, times a power of two. -/
theorem lib_wd (t : Nat) (x : Int) (h0 : 0 < t) (h1 : t < 2 ^ 53) (x0 : -160 ≤ x) (x1 : x ≤ 300) (w : World) :
    Calls Tryd.prog 89 #[.float .f64 (floatOfInt .f64 (t : Int)), .int .i64 x] w fun e w' => e = .returned (.float .f64 (Ieee.double.nearest false t x)) ∧ w' = w := by
  have hne : t ≠ 0 := by omega
  have a0 := Nat.log2_self_le hne
  have a1 : t < 2 ^ (t.log2 + 1) := Nat.lt_log2_self
  have aL : t.log2 ≤ 52 := by
    have := (Nat.log2_lt hne).2 h1
    omega
  generalize t.log2 = L at *
  have e1 : floatOfInt .f64 (t : Int) = wd false (t * 2 ^ (52 - L)) ((L : Int) - 52) := by
    show Ieee.double.nearest (decide ((t : Int) < 0)) ((t : Int)).natAbs 0 = _
    rw [decide_eq_false (by omega), show ((t : Int)).natAbs = t from rfl]
    have := nearest_exact (neg := false) (k := 0) (p := 0) a0 a1 aL (by omega) (by omega)
    rw [Nat.pow_zero, Nat.mul_one] at this
    rw [this]
    congr 1
    omega
  have e2 : Ieee.double.nearest false t x = wd false (t * 2 ^ (52 - L)) ((L : Int) - 52 + x) := by
    have := nearest_exact (neg := false) (k := 0) (p := x) a0 a1 aL (by omega) (by omega)
    rw [Nat.pow_zero, Nat.mul_one] at this
    rw [this]
    congr 1
    omega
  have b1 : t * 2 ^ (52 - L) < 9007199254740992 := by
    have := Nat.mul_lt_mul_of_pos_right a1 (Nat.two_pow_pos (52 - L))
    rw [← Nat.pow_add, show L + 1 + (52 - L) = 53 by omega] at this
    exact this
  have b0 : 4503599627370496 ≤ t * 2 ^ (52 - L) := by
    have := Nat.mul_le_mul_right (2 ^ (52 - L)) a0
    rw [← Nat.pow_add, show L + (52 - L) = 52 by omega] at this
    exact this
  rw [e1, e2]
  have k := fun w => ldexp_any false (t * 2 ^ (52 - L)) ((L : Int) - 52) x b0 b1 (by omega) (by omega) (by omega) (by omega) w
  generalize wd false (t * 2 ^ (52 - L)) ((L : Int) - 52) = u1 at *
  generalize wd false (t * 2 ^ (52 - L)) ((L : Int) - 52 + x) = u2 at *
  clear e1 e2 b0 b1 a0 a1
  go_enter Tryd.func89, Tryd.ntmps89
  go_wp2_with fail
  refine (k _).mono ?_
  rintro e v ⟨rfl, rfl⟩
  go_wp2_with fail
  go_ret
  exact ⟨rfl, rfl⟩
/-- Units divided, rounded to odd. -/
def topV (V d : Nat) : Nat := stick (sqV V d 0) (blen (V / d) - 53 + 2)
def oddW (s : Bool) (V d : Nat) : Nat := Ieee.double.nearest s (topV V d) (((blen (V / d) - 53 : Nat) : Int) - 151)
set_option maxHeartbeats 4000000 in
set_option maxRecDepth 100000 in
theorem size_any (N : Nat → Nat) (hN : ∀ i, N i < m64) (d : Nat) (hd : 0 < d) (hd' : d < 4294967296) (hV : 0 < valW N 5) (w : World) (hT : Tab w) : Calls Tryd.prog 83 #[numV N, .int .u64 (d : Int)] w fun e w' => e = .returned (.float .f64 (oddW false (valW N 5) d)) ∧ Q w w' := by
  have HN : Hid (∀ i, N i < m64) := hN
  have HT : Hid (Tab w) := hT
  have HV : Hid (0 < valW N 5) := hV
  have HD : Hid (valW (dvW N d) 5 = valW N 5 / d ∧ rdT N d 5 = valW N 5 % d) := dv_words N hd
  have HL : Hid (∀ i, dvW N d i < m64) := dvW_lt hN hd
  have HR : Hid (∀ j, rdT N d j < d) := rdT_lt N hd
  clear hN hT hV
  unfold numV
  go_enter Tryd.func83, Tryd.ntmps83
  go_wp2_with fail
  have P0 : DSt w N d w.heap.size 5 (w.alloc (Obj.cells #[.int .u64 (N 0 : Nat), .int .u64 (N 1 : Nat), .int .u64 (N 2 : Nat), .int .u64 (N 3 : Nat), .int .u64 (N 4 : Nat)] 64)) :=
    ⟨(Q.refl w).cells _ _, fun j hj => by rw [if_pos hj]; exact box_words w N j hj, fun j => by simp [go_sem]⟩
  have HP0 : Hid _ := P0
  clear P0
  generalize w.alloc (Obj.cells #[.int .u64 (N 0 : Nat), .int .u64 (N 1 : Nat), .int .u64 (N 2 : Nat), .int .u64 (N 3 : Nat), .int .u64 (N 4 : Nat)] 64) = x0 at *
  go_loopg [5, 6] (5) (fun gh s5 s6 wr => ∃ (i r : Nat) (z : Int), s5 = .int .u64 (r : Int) ∧ Hid (r = rdT N d (5 - i)) ∧ s6 = .int .i64 z ∧ z = (i : Int) - 1 ∧ i ≤ 5 ∧ gh = 0 + i ∧ Hid (DSt w N d w.heap.size i wr))
  case atStart => exact ⟨5, 0, 4, rfl, (rfl : (0 : Nat) = rdT N d 0), rfl, rfl, by omega, rfl, HP0.out⟩
  case round =>
    obtain ⟨i, r, z, rfl, HRr, rfl, hz, hi, rfl, HP⟩ := hrel
    rcases i with _ | k
    · obtain rfl : z = -1 := by omega
      clear hz
      obtain ⟨a0, a1, a2, a3, a4⟩ : wr.cell? ⟨w.heap.size, 0, none⟩ = some (.int .u64 (dvW N d 0 : Nat)) ∧ wr.cell? ⟨w.heap.size, 1, none⟩ = some (.int .u64 (dvW N d 1 : Nat)) ∧ wr.cell? ⟨w.heap.size, 2, none⟩ = some (.int .u64 (dvW N d 2 : Nat)) ∧ wr.cell? ⟨w.heap.size, 3, none⟩ = some (.int .u64 (dvW N d 3 : Nat)) ∧ wr.cell? ⟨w.heap.size, 4, none⟩ = some (.int .u64 (dvW N d 4 : Nat)) :=
        ⟨HP.out.c1 0 (by decide), HP.out.c1 1 (by decide), HP.out.c1 2 (by decide), HP.out.c1 3 (by decide), HP.out.c1 4 (by decide)⟩
      have HQ0 : Hid (Q w wr) := HP.out.q
      have HRd : Hid (r = valW N 5 % d) := by
        show r = valW N 5 % d
        rw [HRr.out]; exact HD.out.2
      have HDq : Hid (valW (dvW N d) 5 = valW N 5 / d) := HD.out.1
      clear HP HRr HD HP0
      generalize dvW N d = D at *
      go_wp2_with fail
      refine (length_any D HL.out _).mono ?_
      rintro e w1 ⟨rfl, q1⟩
      rw [HDq.out]
      obtain ⟨bl, hbl⟩ : ∃ bl, blen (valW N 5 / d) = bl := ⟨_, rfl⟩
      have HBL : Hid (blen (valW N 5 / d) = bl) := hbl
      rw [hbl]
      clear hbl
      have a0' := q1.cell a0
      have a1' := q1.cell a1
      have a2' := q1.cell a2
      have a3' := q1.cell a3
      have a4' := q1.cell a4
      have HQ1 : Hid (Q w w1) := HQ0.out.trans q1
      clear a0 a1 a2 a3 a4 q1
      have hbl : bl ≤ 320 := by
        have h1 := valW_lt HN.out 5
        rw [m64_pow] at h1
        have h2 := blen_le (Nat.lt_of_le_of_lt (Nat.div_le_self _ d) h1)
        rw [HBL.out] at h2
        omega
      obtain ⟨b, hb⟩ : ∃ b, b = bl - 53 := ⟨_, rfl⟩
      have em : max 0 (wrap64 ((bl : Int) - 53)) = (b : Int) := by unfold wrap64; omega
      have HB : Hid (b = blen (valW N 5 / d) - 53) := by
        show b = _
        rw [HBL.out]; exact hb
      have hb2 : b < 320 := by omega
      have eb : wrap64 ((b : Int) + -151) = (b : Int) - 151 := by unfold wrap64; omega
      have HTs : Hid (topV (valW N 5) d = if valW N 5 % d = 0 ∧ valW N 5 / d % 2 ^ b = 0 then valW N 5 / d / 2 ^ b else 2 * (valW N 5 / d / 2 ^ b / 2) + 1) := by
        show topV (valW N 5) d = _
        unfold topV
        rw [← HB.out]
        exact top_stick _ _ _
      have HTl : Hid (topV (valW N 5) d < 2 ^ 53) := top_lt rfl
      have HTp : Hid (0 < topV (valW N 5) d) := top_pos HV.out hd rfl
      have HW : Hid (oddW false (valW N 5) d = Ieee.double.nearest false (topV (valW N 5) d) ((b : Int) + -151)) := by
        show oddW false (valW N 5) d = _
        unfold oddW
        rw [← HB.out, Int.sub_eq_add_neg]
      have hq0 : valW N 5 / d / 2 ^ b < 2 ^ 53 := by
        rw [Nat.div_lt_iff_lt_mul (Nat.two_pow_pos b), ← Nat.pow_add]
        refine Nat.lt_of_lt_of_le (blen_lt _) (Nat.pow_le_pow_right (by decide) ?_)
        rw [HBL.out]; omega
      have HT0 : Hid (valW N 5 / d / 2 ^ b % m64 = valW N 5 / d / 2 ^ b) := Nat.mod_eq_of_lt (Nat.lt_trans hq0 (by decide))
      obtain ⟨T, hT⟩ : ∃ T, valW N 5 / d / 2 ^ b = T := ⟨_, rfl⟩
      rw [hT] at hq0
      have hT64 : T < 18446744073709551616 := Nat.lt_trans hq0 (by decide)
      have HTT : Hid (valW N 5 / d / 2 ^ b = T) := hT
      obtain ⟨T2, hT2⟩ : ∃ T2, 2 * (T / 2) + 1 = T2 := ⟨_, rfl⟩
      have ho := or_one hT64
      rw [hT2] at ho
      have HT2 : Hid (2 * (T / 2) + 1 = T2) := hT2
      clear hT2
      clear hT hb HBL hbl hq0 hT64
      go_wp2_with fail
      refine (from_any D HL.out b hb2 _).mono ?_
      rintro e w2 ⟨rfl, q2⟩
      rw [HDq.out, HT0.out, HTT.out]
      have b0 := q2.cell a0'
      have b1 := q2.cell a1'
      have b2 := q2.cell a2'
      have b3 := q2.cell a3'
      have b4 := q2.cell a4'
      have HQ2 : Hid (Q w w2) := HQ1.out.trans q2
      clear a0' a1' a2' a3' a4' q2 em
      by_cases hr : r = 0
      · have er := eq_of hr
        have Hr : Hid (r = 0) := hr
        clear hr
        go_wp2_with fail
        refine (trailing_any D HL.out _ (HQ2.out.tab HT.out)).mono ?_
        rintro e w3 ⟨t, rfl, ht, hts, q3⟩
        have hts := hts b (by omega)
        rw [HDq.out] at hts
        have HQ3 : Hid (Q w w3) := HQ2.out.trans q3
        by_cases hc : t < b
        · have et : (t : Int) < b := by omega
          have HX : Hid (topV (valW N 5) d = T2) := by
            show topV (valW N 5) d = _
            rw [HTs.out, if_neg (fun h => (hts.1 hc) h.2), HTT.out, HT2.out]
          clear hts hc q3
          go_wp2_with fail
          rw [← HX.out]
          refine (lib_wd _ _ HTp.out HTl.out (by omega) (by omega) _).mono ?_
          rintro e w4 ⟨rfl, rfl⟩
          go_wp2_with fail
          go_ret
          exact ⟨by rw [HW.out]; rfl, HQ3.out⟩
        · have et : ¬ (t : Int) < b := by omega
          have HX : Hid (topV (valW N 5) d = T) := by
            show topV (valW N 5) d = _
            rw [HTs.out, if_pos ⟨by rw [← HRd.out, Hr.out], by
              rcases Nat.eq_zero_or_pos (valW N 5 / d % 2 ^ b) with g | g
              · exact g
              · exact absurd (hts.2 (by omega)) hc⟩, HTT.out]
          clear hts hc q3
          go_wp2_with fail
          rw [← HX.out]
          refine (lib_wd _ _ HTp.out HTl.out (by omega) (by omega) _).mono ?_
          rintro e w4 ⟨rfl, rfl⟩
          go_wp2_with fail
          go_ret
          exact ⟨by rw [HW.out]; rfl, HQ3.out⟩
      · have er := ne_of hr
        have HX : Hid (topV (valW N 5) d = T2) := by
          show topV (valW N 5) d = _
          rw [HTs.out, if_neg (fun h => hr (by rw [HRd.out]; exact h.1)), HTT.out, HT2.out]
        clear hr
        go_wp2_with fail
        rw [← HX.out]
        refine (lib_wd _ _ HTp.out HTl.out (by omega) (by omega) _).mono ?_
        rintro e w4 ⟨rfl, rfl⟩
        go_wp2_with fail
        go_ret
        exact ⟨by rw [HW.out]; rfl, HQ2.out⟩
    · obtain rfl : z = (k : Int) := by omega
      clear hz
      have c := HP.out.c1 k (by omega)
      rw [if_pos (by omega)] at c
      have hk : (k : Int) < 5 := by omega
      have hr : r < d := by rw [HRr.out]; exact HR.out _
      have ek : 5 - (k + 1) = 4 - k := by omega
      have HA : Hid ((r * 18446744073709551616 + N k) / d = dvW N d k) := by
        show (r * 18446744073709551616 + N k) / d = dvW N d k
        rw [HRr.out, ek]; rfl
      have HB : Hid ((r * 18446744073709551616 + N k) % d = rdT N d (5 - k)) := by
        show (r * 18446744073709551616 + N k) % d = rdT N d (5 - k)
        rw [HRr.out, ek, show 5 - k = (4 - k) + 1 by omega]
        show _ = (rdT N d (4 - k) * 18446744073709551616 + N (4 - (4 - k))) % d
        rw [show 4 - (4 - k) = k by omega]
      clear ek
      go_wp2_with fail
      refine (div64_any r (N k) d _ (HN.out k) hd' hr).mono ?_
      rintro e w1 ⟨rfl, q1⟩
      have c' := q1.cell c
      have z' : w1.frozen? ⟨w.heap.size, k, none⟩ = false := by rw [q1.2]; exact HP.out.z1 k
      have HQ1 : Hid (Q _ w1) := q1
      clear q1 c
      rw [HA.out]
      generalize hr' : (r * 18446744073709551616 + N k) % d = r' at *
      have HS : Hid _ := HP.out.step (Nat.le_refl _) (by omega) HQ1.out
      go_wp2_with fail
      go_roundg (k)
      case measure => go_light; omega
      case rel =>
        go_light
        exact ⟨k, r', _, rfl, HB.out, rfl, by omega, by omega, (Nat.zero_add k).symm, HS.out⟩
end Go.Proofs.YtnjagokojdpgpabDoor
/- What operations tell, as a list of properties that last. -/
namespace Go.Proofs.YtnjagokojdpgpabDoor
open Go.RowKit
set_option linter.unusedVariables false
set_option linter.unusedSimpArgs false

structure Spec where
  p : Value → World → Prop
  st : ∀ {v : Value} {x x' : World}, p v x → Q x x' → p v x'
def spV (u : Value) : Spec := ⟨fun v _ => v = u, fun h _ => h⟩
def specAt (l : List Spec) (i : Nat) (v : Value) (x : World) : Prop := match l[i]? with
  | some s => s.p v x
  | none => False
theorem specAt.next {l : List Spec} (i : Nat) (v : Value) (x x' : World) (h : specAt l i v x) (q : Q x x') : specAt l i v x' := by
  unfold specAt at h ⊢
  cases g : l[i]? with
  | none => rw [g] at h; exact h
  | some s => rw [g] at h; exact s.st h q
section
variable {P : Program} {ρ : Operand → Value} {x : World} {d : Option Tmp} {ty : TypeId} {ps : String} {af : Array Edge} {g : Option (Nat × Bool)}
theorem run_sub64 {j k : Nat} {m n r : Int} (h : ρ (.tmp j) = .int .i64 m) (h' : ρ (.tmp k) = .int .i64 n) (hr : IntKind.i64.wrap (m - n) = r) : (execOp ρ { dst := d, op := .binOp .sub 3 (.tmp j) (.tmp k) 3, type := ty, pos := ps, after := af, guard := g }).run Tryd.prog x = .ok (.value (.int .i64 r)) x := by
  simp [execOp, h, h', go_sem, hr]
theorem run_leq64 {j : Nat} {m n : Int} (h : ρ (.tmp j) = .int .i64 m) (hk : ρ (.const (.int .i64 n)) = .int .i64 n) : (execOp ρ { dst := d, op := .binOp .leq 3 (.tmp j) (.const (.int .i64 n)) 3, type := ty, pos := ps, after := af, guard := g }).run Tryd.prog x = .ok (.value (.bool (decide (m ≤ n)))) x := by
  simp [execOp, h, hk, go_sem]
end
end Go.Proofs.YtnjagokojdpgpabDoor
/- A region that draws its order and stores nothing: each operation with a fact that lasts; those that are guarded are known to be let through, or known to be left out. -/
namespace Go.Proofs.YtnjagokojdpgpabDoor
open Go.RowKit
set_option linter.unusedVariables false
set_option linter.unusedSimpArgs false

theorem dst_mem {l : List Oper} {s : List Nat} (hs : l.map (fun o : Oper => o.dst) = s.map some) {k j : Nat} (h : dstOf l k = some j) : s[k]? = some j := by
  unfold dstOf at h
  have h1 : (l.map (fun o : Oper => o.dst))[k]? = (s.map some)[k]? := by rw [hs]
  rw [List.getElem?_map, List.getElem?_map] at h1
  cases hl : l[k]? with
  | none => rw [hl] at h; cases h
  | some o =>
    rw [hl] at h h1
    cases hk : s[k]? with
    | none => rw [hk] at h1; cases h1
    | some t =>
      rw [hk] at h1
      have h2 : some o.dst = some (some t) := h1
      injection h2 with h2
      have h3 : o.dst = some j := h
      rw [h2] at h3
      injection h3 with h3
      rw [h3]
theorem dst_of {l : List Oper} {s : List Nat} (hs : l.map (fun o : Oper => o.dst) = s.map some) {k j : Nat} (h : s[k]? = some j) : dstOf l k = some j := by
  have h1 : (l.map (fun o : Oper => o.dst))[k]? = (s.map some)[k]? := by rw [hs]
  rw [List.getElem?_map, List.getElem?_map, h] at h1
  unfold dstOf
  cases hl : l[k]? with
  | none => rw [hl] at h1; cases h1
  | some o =>
    rw [hl] at h1
    have h2 : some o.dst = some (some j) := h1
    injection h2
set_option maxHeartbeats 1000000 in
theorem wp_region_factsS {P : Program} {id : Nat} {R : Exit → Act → World → Prop} {a0 : Act} {w : World} {l : List Oper} (s : List Nat) (F : Nat → Value → World → Prop) (skip : Nat → Bool)
    (hm : P.follows .mixedOrders = true) (hB : regS l = true) (hs : l.map (fun o : Oper => o.dst) = s.map some) (hmax : ∀ t ∈ s, t < a0.tmps.size)
    (hst : ∀ i v x x', F i v x → Q x x' → F i v x')
    (hgu : ∀ (i : Nat) (o : Oper) (g : Nat) (b : Bool), l[i]? = some o → o.guard = some (g, b) → ∀ v x, F g v x → (v = .bool b ↔ skip i = false))
    (hgn : ∀ (i : Nat) (o : Oper), l[i]? = some o → o.guard = none → skip i = false)
    (hsk : ∀ i x, skip i = true → F i undef x)
    (hop : ∀ i t o (a : Act) x, skip i = false → s[i]? = some t → l[i]? = some o → Q w x → (∀ j, j ∉ s → a.tmps[j]? = a0.tmps[j]?) → (∀ ed ∈ o.after, Region.binds .any ed = true → ∀ t', s[ed.on]? = some t' → ∃ v, a.tmps[t']? = some v ∧ F ed.on v x) → Yld P R o a x t (F i))
    (hend : ∀ (a : Act) x, Q w x → a.tmps.size = a0.tmps.size → a.defers = a0.defers → (∀ j, j ∉ s → a.tmps[j]? = a0.tmps[j]?) → (∀ i t, s[i]? = some t → ∃ v, a.tmps[t]? = some v ∧ F i v x) → Shut (R .normal a x)) :
    (Code.region id l.toArray true).wp P R a0 w := by
  have oth : ∀ {a : Act}, (∀ j, (∀ k, dstOf l k ≠ some j) → a.tmps[j]? = a0.tmps[j]?) → ∀ j, j ∉ s → a.tmps[j]? = a0.tmps[j]? := fun h j hj => h j (fun k hk => hj (List.mem_of_getElem? (dst_mem hs hk)))
  refine wp_region_slots (fun done val x => Q w x ∧ ∀ i, done i = true → F i (val i) x) hm hB (fun i t h => hmax t (List.mem_of_getElem? (dst_mem hs h))) ⟨(Q.refl w).drew, fun i h => by cases h⟩ ?_ ?_ ?_
  · intro i o a x done val ho hd hdep I hoth hvals hg
    have hil : i < l.length := (List.getElem?_eq_some_iff.1 ho).1
    have hlen : l.length = s.length := by have := congrArg List.length hs; simpa using this
    obtain ⟨t, ht⟩ : ∃ t, s[i]? = some t := ⟨_, List.getElem?_eq_getElem (by omega)⟩
    have hdst : o.dst = some t := by rw [← dstOf_at ho]; exact dst_of hs ht
    have hski : skip i = false := by
      cases hgd : o.guard with
      | none => exact hgn i o ho hgd
      | some gb =>
        obtain ⟨g, b⟩ := gb
        obtain ⟨⟨ed, he, hb, hon⟩, _⟩ := (regS_at hB ho).1 g b hgd
        have hdone := hdep ed he hb
        rw [hon] at hdone
        exact (hgu i o g b ho hgd (val g) x (I.2 g hdone)).1 (hg g b hgd)
    have hrun := hop i t o a x hski ht ho I.1 (oth hoth) (fun ed he hb t' ht' => ⟨val ed.on, hvals ed.on t' (hdep ed he hb) (dst_of hs ht'), I.2 ed.on (hdep ed he hb)⟩)
    refine ⟨Oper.wp_mono ?_ hrun.out⟩
    rintro a' x' ⟨v, rfl, q', hf⟩
    refine ⟨v, by rw [hdst], I.1.trans q', fun j hj => ?_⟩
    by_cases e : j = i
    · subst e; rw [upd_eq]; exact hf
    · rw [upd_ne _ _ e] at hj ⊢
      exact hst _ _ _ _ (I.2 j hj) q'
  · intro i o x done val g b ho hd hdep I hgd hne
    have hsk' : skip i = true := by
      cases h : skip i with
      | true => rfl
      | false =>
        obtain ⟨⟨ed, he, hb, hon⟩, _⟩ := (regS_at hB ho).1 g b hgd
        have hdone := hdep ed he hb
        rw [hon] at hdone
        exact absurd ((hgu i o g b ho hgd (val g) x (I.2 g hdone)).2 h) hne
    refine ⟨I.1, fun j hj => ?_⟩
    by_cases e : j = i
    · subst e; rw [upd_eq]; exact hsk _ _ hsk'
    · rw [upd_ne _ _ e] at hj ⊢
      exact I.2 j hj
  · intro a x val I size defers other vals
    refine hend a x I.1 size defers (oth other) (fun i t ht => ⟨val i, vals i t (dst_of hs ht), I.2 i ?_⟩)
    have hlen : l.length = s.length := by have := congrArg List.length hs; simpa using this
    have := (List.getElem?_eq_some_iff.1 ht).1
    exact decide_eq_true (by omega)
end Go.Proofs.YtnjagokojdpgpabDoor

/- Numbers of five words, divided. -/
import Derived.Test.YtnjagokojdpgpabDoorG23a95bb7
import Derived.Test.YtnjagokojdpgpabDoorG0994402e
import Derived.Test.YtnjagokojdpgpabDoorGde4fe202
import Derived.Test.YtnjagokojdpgpabDoorG099a54dd
import Derived.Test.YtnjagokojdpgpabDoorGc90101b1
namespace Go.Proofs.YtnjagokojdpgpabDoor
open Go.RowKit
set_option linter.unusedVariables false
set_option linter.unusedSimpArgs false

/-- What is left behind j steps of a division, from the highest word down; the words of the quotient. -/
def rdT (N : Nat → Nat) (d : Nat) : Nat → Nat
  | 0 => 0
  | j + 1 => (rdT N d j * 18446744073709551616 + N (4 - j)) % d
def dvW (N : Nat → Nat) (d i : Nat) : Nat := (rdT N d (4 - i) * 18446744073709551616 + N i) / d
def horV (N : Nat → Nat) : Nat → Nat
  | 0 => 0
  | j + 1 => horV N j * 18446744073709551616 + N (4 - j)
theorem rdT_lt (N : Nat → Nat) {d : Nat} (hd : 0 < d) : ∀ j, rdT N d j < d := by
  intro j
  cases j with
  | zero => exact hd
  | succ j => exact Nat.mod_lt _ hd
theorem dvW_lt {N : Nat → Nat} (hN : ∀ i, N i < m64) {d : Nat} (hd : 0 < d) (i : Nat) : dvW N d i < m64 := by
  unfold dvW
  rw [Nat.div_lt_iff_lt_mul hd]
  have h1 := rdT_lt N hd (4 - i)
  have h2 := hN i
  unfold m64 at *
  generalize rdT N d (4 - i) = r at *
  omega
theorem hor_step {H d E r n M : Nat} (h : H = d * E + r) : H * M + n = d * (E * M + (r * M + n) / d) + (r * M + n) % d := by
  have h1 := Nat.div_add_mod (r * M + n) d
  rw [h, Nat.mul_add, Nat.add_mul, Nat.mul_assoc]
  omega
theorem hor_div (N : Nat → Nat) (d : Nat) : ∀ j, j ≤ 5 → horV N j = d * horV (dvW N d) j + rdT N d j := by
  intro j
  induction j with
  | zero => intro _; rfl
  | succ j ih =>
    intro hj
    show horV N j * 18446744073709551616 + N (4 - j) = d * (horV (dvW N d) j * 18446744073709551616 + (rdT N d (4 - (4 - j)) * 18446744073709551616 + N (4 - j)) / d) + (rdT N d j * 18446744073709551616 + N (4 - j)) % d
    rw [show 4 - (4 - j) = j by omega]
    exact hor_step (ih (by omega))
theorem hor_alg (a0 a1 a2 a3 a4 M : Nat) : (((a4 * M + a3) * M + a2) * M + a1) * M + a0 = a0 * M ^ 0 + a1 * M ^ 1 + a2 * M ^ 2 + a3 * M ^ 3 + a4 * M ^ 4 := by grind
theorem hor_val (N : Nat → Nat) : horV N 5 = valW N 5 := by
  have e1 : horV N 5 = (((N 4 * m64 + N 3) * m64 + N 2) * m64 + N 1) * m64 + N 0 := by
    show ((((0 * m64 + N 4) * m64 + N 3) * m64 + N 2) * m64 + N 1) * m64 + N 0 = _
    rw [Nat.zero_mul, Nat.zero_add]
  have e2 : valW N 5 = N 0 * m64 ^ 0 + N 1 * m64 ^ 1 + N 2 * m64 ^ 2 + N 3 * m64 ^ 3 + N 4 * m64 ^ 4 := by
    rw [valW_succ N 4, valW_succ N 3, valW_succ N 2, valW_succ N 1, valW_succ N 0, valW_none, Nat.zero_add]
  rw [e1, e2, hor_alg]
theorem dv_words (N : Nat → Nat) {d : Nat} (hd : 0 < d) : valW (dvW N d) 5 = valW N 5 / d ∧ rdT N d 5 = valW N 5 % d := by
  have h := hor_div N d 5 (by omega)
  rw [hor_val, hor_val] at h
  have hl := rdT_lt N hd 5
  have := (Nat.div_mod_unique hd).2 (show rdT N d 5 + d * valW (dvW N d) 5 = valW N 5 ∧ rdT N d 5 < d from ⟨by omega, hl⟩)
  exact ⟨this.1.symm, this.2.symm⟩
/-- The words of a box while they are divided: i are still to be. -/
structure DSt (w : World) (N : Nat → Nat) (d B i : Nat) (x : World) : Prop where
  q : Q w x
  c1 : ∀ j, j < 5 → x.cell? ⟨B, j, none⟩ = some (.int .u64 ((if j < i then N j else dvW N d j : Nat) : Int))
  z1 : ∀ j, x.frozen? ⟨B, j, none⟩ = false
theorem DSt.step {w x : World} {N : Nat → Nat} {d B i : Nat} (h : DSt w N d B (i + 1) x) (hw : w.heap.size ≤ B) (hi : i < 5) {x' : World} (q : Q x x') : DSt w N d B i (x'.setCell ⟨B, i, none⟩ (.int .u64 (dvW N d i : Nat))) := by
  have hc : ∀ j, j < 5 → x'.cell? ⟨B, j, none⟩ = some (.int .u64 ((if j < i + 1 then N j else dvW N d j : Nat) : Int)) := fun j hj => q.cell (h.c1 j hj)
  refine ⟨(h.q.trans q).set hw _, fun j hj => ?_, fun j => ?_⟩
  · by_cases e : j = i
    · subst e
      have c := hc j hj
      rw [if_neg (Nat.lt_irrefl _)]
      simp [go_sem, c]
    · rw [World.cell?_setCell_other _ _ _ _ (by intro h; injection h; omega), hc j hj]
      by_cases g : j < i
      · rw [if_pos g, if_pos (by omega)]
      · rw [if_neg g, if_neg (by omega)]
  · rw [World.frozen?_setCell, q.2]; exact h.z1 j
theorem or_one {n : Nat} (h : n < 18446744073709551616) : bits .or .u64 (n : Int) 1 = ((2 * (n / 2) + 1 : Nat) : Int) := by
  have e : bits .or .u64 (n : Int) 1 = ((n ||| 1 : Nat) : Int) := by go_bits2
  rw [e]
  congr 1
  have h1 : n = 2 * (n / 2) + n % 2 := by omega
  rcases Nat.mod_two_eq_zero_or_one n with g | g
  · have := Nat.two_pow_add_eq_or_of_lt (i := 1) (b := 1) (by decide) (n / 2)
    rw [show 2 ^ 1 * (n / 2) = n by omega] at this
    omega
  · have h2 := Nat.two_pow_add_eq_or_of_lt (i := 1) (b := 1) (by decide) (n / 2)
    rw [show 2 ^ 1 * (n / 2) + 1 = n by omega] at h2
    have h3 : (2 ^ 1 * (n / 2) ||| 1) ||| 1 = 2 ^ 1 * (n / 2) ||| 1 := by rw [Nat.or_assoc, Nat.or_self]
    rw [← h2] at h3
    omega
/-- A binary64 of a whole number, times a power of two. -/
theorem lib_wd (t : Nat) (x : Int) (h0 : 0 < t) (h1 : t < 2 ^ 53) (x0 : -160 ≤ x) (x1 : x ≤ 300) (w : World) :
    Calls Tryd.prog 89 #[.float .f64 (floatOfInt .f64 (t : Int)), .int .i64 x] w fun e w' => e = .returned (.float .f64 (Ieee.double.nearest false t x)) ∧ w' = w := by
  have hne : t ≠ 0 := by omega
  have a0 := Nat.log2_self_le hne
  have a1 : t < 2 ^ (t.log2 + 1) := Nat.lt_log2_self
  have aL : t.log2 ≤ 52 := by
    have := (Nat.log2_lt hne).2 h1
    omega
  generalize t.log2 = L at *
  have e1 : floatOfInt .f64 (t : Int) = wd false (t * 2 ^ (52 - L)) ((L : Int) - 52) := by
    show Ieee.double.nearest (decide ((t : Int) < 0)) ((t : Int)).natAbs 0 = _
    rw [decide_eq_false (by omega), show ((t : Int)).natAbs = t from rfl]
    have := nearest_exact (neg := false) (k := 0) (p := 0) a0 a1 aL (by omega) (by omega)
    rw [Nat.pow_zero, Nat.mul_one] at this
    rw [this]
    congr 1
    omega
  have e2 : Ieee.double.nearest false t x = wd false (t * 2 ^ (52 - L)) ((L : Int) - 52 + x) := by
    have := nearest_exact (neg := false) (k := 0) (p := x) a0 a1 aL (by omega) (by omega)
    rw [Nat.pow_zero, Nat.mul_one] at this
    rw [this]
    congr 1
    omega
  have b1 : t * 2 ^ (52 - L) < 9007199254740992 := by
    have := Nat.mul_lt_mul_of_pos_right a1 (Nat.two_pow_pos (52 - L))
    rw [← Nat.pow_add, show L + 1 + (52 - L) = 53 by omega] at this
    exact this
  have b0 : 4503599627370496 ≤ t * 2 ^ (52 - L) := by
    have := Nat.mul_le_mul_right (2 ^ (52 - L)) a0
    rw [← Nat.pow_add, show L + (52 - L) = 52 by omega] at this
    exact this
  rw [e1, e2]
  have k := fun w => ldexp_any false (t * 2 ^ (52 - L)) ((L : Int) - 52) x b0 b1 (by omega) (by omega) (by omega) (by omega) w
  generalize wd false (t * 2 ^ (52 - L)) ((L : Int) - 52) = u1 at *
  generalize wd false (t * 2 ^ (52 - L)) ((L : Int) - 52 + x) = u2 at *
  clear e1 e2 b0 b1 a0 a1
  go_enter Tryd.func89, Tryd.ntmps89
  go_wp2_with fail
  refine (k _).mono ?_
  rintro e v ⟨rfl, rfl⟩
  go_wp2_with fail
  go_ret
  exact ⟨rfl, rfl⟩
/-- Units divided, rounded to odd. -/
def topV (V d : Nat) : Nat := stick (sqV V d 0) (blen (V / d) - 53 + 2)
def oddW (s : Bool) (V d : Nat) : Nat := Ieee.double.nearest s (topV V d) (((blen (V / d) - 53 : Nat) : Int) - 151)
set_option maxHeartbeats 4000000 in
set_option maxRecDepth 100000 in
theorem size_any (N : Nat → Nat) (hN : ∀ i, N i < m64) (d : Nat) (hd : 0 < d) (hd' : d < 4294967296) (hV : 0 < valW N 5) (w : World) (hT : Tab w) : Calls Tryd.prog 83 #[numV N, .int .u64 (d : Int)] w fun e w' => e = .returned (.float .f64 (oddW false (valW N 5) d)) ∧ Q w w' := by
  have HN : Hid (∀ i, N i < m64) := hN
  have HT : Hid (Tab w) := hT
  have HV : Hid (0 < valW N 5) := hV
  have HD : Hid (valW (dvW N d) 5 = valW N 5 / d ∧ rdT N d 5 = valW N 5 % d) := dv_words N hd
  have HL : Hid (∀ i, dvW N d i < m64) := dvW_lt hN hd
  have HR : Hid (∀ j, rdT N d j < d) := rdT_lt N hd
  clear hN hT hV
  unfold numV
  go_enter Tryd.func83, Tryd.ntmps83
  go_wp2_with fail
  have P0 : DSt w N d w.heap.size 5 (w.alloc (Obj.cells #[.int .u64 (N 0 : Nat), .int .u64 (N 1 : Nat), .int .u64 (N 2 : Nat), .int .u64 (N 3 : Nat), .int .u64 (N 4 : Nat)] 64)) :=
    ⟨(Q.refl w).cells _ _, fun j hj => by rw [if_pos hj]; exact box_words w N j hj, fun j => by simp [go_sem]⟩
  have HP0 : Hid _ := P0
  clear P0
  generalize w.alloc (Obj.cells #[.int .u64 (N 0 : Nat), .int .u64 (N 1 : Nat), .int .u64 (N 2 : Nat), .int .u64 (N 3 : Nat), .int .u64 (N 4 : Nat)] 64) = x0 at *
  go_loopg [5, 6] (5) (fun gh s5 s6 wr => ∃ (i r : Nat) (z : Int), s5 = .int .u64 (r : Int) ∧ Hid (r = rdT N d (5 - i)) ∧ s6 = .int .i64 z ∧ z = (i : Int) - 1 ∧ i ≤ 5 ∧ gh = 0 + i ∧ Hid (DSt w N d w.heap.size i wr))
  case atStart => exact ⟨5, 0, 4, rfl, (rfl : (0 : Nat) = rdT N d 0), rfl, rfl, by omega, rfl, HP0.out⟩
  case round =>
    obtain ⟨i, r, z, rfl, HRr, rfl, hz, hi, rfl, HP⟩ := hrel
    rcases i with _ | k
    · obtain rfl : z = -1 := by omega
      clear hz
      obtain ⟨a0, a1, a2, a3, a4⟩ : wr.cell? ⟨w.heap.size, 0, none⟩ = some (.int .u64 (dvW N d 0 : Nat)) ∧ wr.cell? ⟨w.heap.size, 1, none⟩ = some (.int .u64 (dvW N d 1 : Nat)) ∧ wr.cell? ⟨w.heap.size, 2, none⟩ = some (.int .u64 (dvW N d 2 : Nat)) ∧ wr.cell? ⟨w.heap.size, 3, none⟩ = some (.int .u64 (dvW N d 3 : Nat)) ∧ wr.cell? ⟨w.heap.size, 4, none⟩ = some (.int .u64 (dvW N d 4 : Nat)) :=
        ⟨HP.out.c1 0 (by decide), HP.out.c1 1 (by decide), HP.out.c1 2 (by decide), HP.out.c1 3 (by decide), HP.out.c1 4 (by decide)⟩
      have HQ0 : Hid (Q w wr) := HP.out.q
      have HRd : Hid (r = valW N 5 % d) := by
        show r = valW N 5 % d
        rw [HRr.out]; exact HD.out.2
      have HDq : Hid (valW (dvW N d) 5 = valW N 5 / d) := HD.out.1
      clear HP HRr HD HP0
      generalize dvW N d = D at *
      go_wp2_with fail
      refine (length_any D HL.out _).mono ?_
      rintro e w1 ⟨rfl, q1⟩
      rw [HDq.out]
      obtain ⟨bl, hbl⟩ : ∃ bl, blen (valW N 5 / d) = bl := ⟨_, rfl⟩
      have HBL : Hid (blen (valW N 5 / d) = bl) := hbl
      rw [hbl]
      clear hbl
      have a0' := q1.cell a0
      have a1' := q1.cell a1
      have a2' := q1.cell a2
      have a3' := q1.cell a3
      have a4' := q1.cell a4
      have HQ1 : Hid (Q w w1) := HQ0.out.trans q1
      clear a0 a1 a2 a3 a4 q1
      have hbl : bl ≤ 320 := by
        have h1 := valW_lt HN.out 5
        rw [m64_pow] at h1
        have h2 := blen_le (Nat.lt_of_le_of_lt (Nat.div_le_self _ d) h1)
        rw [HBL.out] at h2
        omega
      obtain ⟨b, hb⟩ : ∃ b, b = bl - 53 := ⟨_, rfl⟩
      have em : max 0 (wrap64 ((bl : Int) - 53)) = (b : Int) := by unfold wrap64; omega
      have HB : Hid (b = blen (valW N 5 / d) - 53) := by
        show b = _
        rw [HBL.out]; exact hb
      have hb2 : b < 320 := by omega
      have eb : wrap64 ((b : Int) + -151) = (b : Int) - 151 := by unfold wrap64; omega
      have HTs : Hid (topV (valW N 5) d = if valW N 5 % d = 0 ∧ valW N 5 / d % 2 ^ b = 0 then valW N 5 / d / 2 ^ b else 2 * (valW N 5 / d / 2 ^ b / 2) + 1) := by
        show topV (valW N 5) d = _
        unfold topV
        rw [← HB.out]
        exact top_stick _ _ _
      have HTl : Hid (topV (valW N 5) d < 2 ^ 53) := top_lt rfl
      have HTp : Hid (0 < topV (valW N 5) d) := top_pos HV.out hd rfl
      have HW : Hid (oddW false (valW N 5) d = Ieee.double.nearest false (topV (valW N 5) d) ((b : Int) + -151)) := by
        show oddW false (valW N 5) d = _
        unfold oddW
        rw [← HB.out, Int.sub_eq_add_neg]
      have hq0 : valW N 5 / d / 2 ^ b < 2 ^ 53 := by
        rw [Nat.div_lt_iff_lt_mul (Nat.two_pow_pos b), ← Nat.pow_add]
        refine Nat.lt_of_lt_of_le (blen_lt _) (Nat.pow_le_pow_right (by decide) ?_)
        rw [HBL.out]; omega
      have HT0 : Hid (valW N 5 / d / 2 ^ b % m64 = valW N 5 / d / 2 ^ b) := Nat.mod_eq_of_lt (Nat.lt_trans hq0 (by decide))
      obtain ⟨T, hT⟩ : ∃ T, valW N 5 / d / 2 ^ b = T := ⟨_, rfl⟩
      rw [hT] at hq0
      have hT64 : T < 18446744073709551616 := Nat.lt_trans hq0 (by decide)
      have HTT : Hid (valW N 5 / d / 2 ^ b = T) := hT
      obtain ⟨T2, hT2⟩ : ∃ T2, 2 * (T / 2) + 1 = T2 := ⟨_, rfl⟩
      have ho := or_one hT64
      rw [hT2] at ho
      have HT2 : Hid (2 * (T / 2) + 1 = T2) := hT2
      clear hT2
      clear hT hb HBL hbl hq0 hT64
      go_wp2_with fail
      refine (from_any D HL.out b hb2 _).mono ?_
      rintro e w2 ⟨rfl, q2⟩
      rw [HDq.out, HT0.out, HTT.out]
      have b0 := q2.cell a0'
      have b1 := q2.cell a1'
      have b2 := q2.cell a2'
      have b3 := q2.cell a3'
      have b4 := q2.cell a4'
      have HQ2 : Hid (Q w w2) := HQ1.out.trans q2
      clear a0' a1' a2' a3' a4' q2 em
      by_cases hr : r = 0
      · have er := eq_of hr
        have Hr : Hid (r = 0) := hr
        clear hr
        go_wp2_with fail
        refine (trailing_any D HL.out _ (HQ2.out.tab HT.out)).mono ?_
        rintro e w3 ⟨t, rfl, ht, hts, q3⟩
        have hts := hts b (by omega)
        rw [HDq.out] at hts
        have HQ3 : Hid (Q w w3) := HQ2.out.trans q3
        by_cases hc : t < b
        · have et : (t : Int) < b := by omega
          have HX : Hid (topV (valW N 5) d = T2) := by
            show topV (valW N 5) d = _
            rw [HTs.out, if_neg (fun h => (hts.1 hc) h.2), HTT.out, HT2.out]
          clear hts hc q3
          go_wp2_with fail
          rw [← HX.out]
          refine (lib_wd _ _ HTp.out HTl.out (by omega) (by omega) _).mono ?_
          rintro e w4 ⟨rfl, rfl⟩
          go_wp2_with fail
          go_ret
          exact ⟨by rw [HW.out]; rfl, HQ3.out⟩
        · have et : ¬ (t : Int) < b := by omega
          have HX : Hid (topV (valW N 5) d = T) := by
            show topV (valW N 5) d = _
            rw [HTs.out, if_pos ⟨by rw [← HRd.out, Hr.out], by
              rcases Nat.eq_zero_or_pos (valW N 5 / d % 2 ^ b) with g | g
              · exact g
              · exact absurd (hts.2 (by omega)) hc⟩, HTT.out]
          clear hts hc q3
          go_wp2_with fail
          rw [← HX.out]
          refine (lib_wd _ _ HTp.out HTl.out (by omega) (by omega) _).mono ?_
          rintro e w4 ⟨rfl, rfl⟩
          go_wp2_with fail
          go_ret
          exact ⟨by rw [HW.out]; rfl, HQ3.out⟩
      · have er := ne_of hr
        have HX : Hid (topV (valW N 5) d = T2) := by
          show topV (valW N 5) d = _
          rw [HTs.out, if_neg (fun h => hr (by rw [HRd.out]; exact h.1)), HTT.out, HT2.out]
        clear hr
        go_wp2_with fail
        rw [← HX.out]
        refine (lib_wd _ _ HTp.out HTl.out (by omega) (by omega) _).mono ?_
        rintro e w4 ⟨rfl, rfl⟩
        go_wp2_with fail
        go_ret
        exact ⟨by rw [HW.out]; rfl, HQ2.out⟩
    · obtain rfl : z = (k : Int) := by omega
      clear hz
      have c := HP.out.c1 k (by omega)
      rw [if_pos (by omega)] at c
      have hk : (k : Int) < 5 := by omega
      have hr : r < d := by rw [HRr.out]; exact HR.out _
      have ek : 5 - (k + 1) = 4 - k := by omega
      have HA : Hid ((r * 18446744073709551616 + N k) / d = dvW N d k) := by
        show (r * 18446744073709551616 + N k) / d = dvW N d k
        rw [HRr.out, ek]; rfl
      have HB : Hid ((r * 18446744073709551616 + N k) % d = rdT N d (5 - k)) := by
        show (r * 18446744073709551616 + N k) % d = rdT N d (5 - k)
        rw [HRr.out, ek, show 5 - k = (4 - k) + 1 by omega]
        show _ = (rdT N d (4 - k) * 18446744073709551616 + N (4 - (4 - k))) % d
        rw [show 4 - (4 - k) = k by omega]
      clear ek
      go_wp2_with fail
      refine (div64_any r (N k) d _ (HN.out k) hd' hr).mono ?_
      rintro e w1 ⟨rfl, q1⟩
      have c' := q1.cell c
      have z' : w1.frozen? ⟨w.heap.size, k, none⟩ = false := by rw [q1.2]; exact HP.out.z1 k
      have HQ1 : Hid (Q _ w1) := q1
      clear q1 c
      rw [HA.out]
      generalize hr' : (r * 18446744073709551616 + N k) % d = r' at *
      have HS : Hid _ := HP.out.step (Nat.le_refl _) (by omega) HQ1.out
      go_wp2_with fail
      go_roundg (k)
      case measure => go_light; omega
      case rel =>
        go_light
        exact ⟨k, r', _, rfl, HB.out, rfl, by omega, by omega, (Nat.zero_add k).symm, HS.out⟩
end Go.Proofs.YtnjagokojdpgpabDoor
/- An exact sum divided, as a sample. -/
namespace Go.Proofs.YtnjagokojdpgpabDoor
open Go.RowKit
set_option linter.unusedVariables false
set_option linter.unusedSimpArgs false

theorem odd_wd (s : Bool) {V d : Nat} (hV : 0 < V) (hd : 0 < d) (hb : blen V ≤ 320) : ∃ (m : Nat) (p : Int) (L : Nat), oddW s V d = wd s m p ∧ m = topV V d * 2 ^ L ∧ p + (L : Int) = ((blen (V / d) - 53 : Nat) : Int) - 151 ∧ 4503599627370496 ≤ m ∧ m < 9007199254740992 ∧ -1074 ≤ p ∧ p ≤ 971 := by
  have h1 : topV V d < 2 ^ 53 := top_lt rfl
  have h0 : 0 < topV V d := top_pos hV hd rfl
  have hbl : blen (V / d) ≤ 320 := by
    refine Nat.le_trans (blen_le (k := blen V) ?_) hb
    exact Nat.lt_of_le_of_lt (Nat.div_le_self _ _) (blen_lt V)
  unfold oddW
  generalize topV V d = t at *
  obtain ⟨b, hb'⟩ : ∃ b, blen (V / d) - 53 = b := ⟨_, rfl⟩
  rw [hb']
  have hb2 : b ≤ 267 := by omega
  have hne : t ≠ 0 := by omega
  have a0 := Nat.log2_self_le hne
  have a1 : t < 2 ^ (t.log2 + 1) := Nat.lt_log2_self
  have aL : t.log2 ≤ 52 := by
    have := (Nat.log2_lt hne).2 h1
    omega
  generalize t.log2 = L at *
  have := nearest_exact (neg := s) (k := 0) (p := (b : Int) - 151) a0 a1 aL (by omega) (by omega)
  rw [Nat.pow_zero, Nat.mul_one] at this
  refine ⟨t * 2 ^ (52 - L), (b : Int) - 151 + ((0 : Nat) : Int) + L - 52, 52 - L, this, rfl, by omega, ?_, ?_, by omega, by omega⟩
  · have := Nat.mul_le_mul_right (2 ^ (52 - L)) a0
    rw [← Nat.pow_add, show L + (52 - L) = 52 by omega] at this
    exact this
  · have := Nat.mul_lt_mul_of_pos_right a1 (Nat.two_pow_pos (52 - L))
    rw [← Nat.pow_add, show L + 1 + (52 - L) = 53 by omega] at this
    exact this
theorem told_odd (s : Bool) {V d : Nat} (hV : 0 < V) (hd : 0 < d) (hb : blen V ≤ 320) : toldD (some (Ieee.double.read (oddW s V d))) = Ieee.single.word s (exR V d) := by
  obtain ⟨m, p, L, e1, e2, e3, h0, h1, p0, p1⟩ := odd_wd s hV hd hb
  rw [e1, read_wd h0 h1 p0 p1, toldD_num, e2, rung_scale, e3]
  congr 1
  exact ex_top rfl
theorem odd_lt (s : Bool) {V d : Nat} (hV : 0 < V) (hd : 0 < d) (hb : blen V ≤ 320) : oddW s V d < 18446744073709551616 := by
  obtain ⟨m, p, L, e1, e2, e3, h0, h1, p0, p1⟩ := odd_wd s hV hd hb
  rw [e1]; exact wd_lt h1 p1
theorem xor_top {n : Nat} (h : n < 9223372036854775808) : n ^^^ 9223372036854775808 = 9223372036854775808 + n := by
  have e1 : (n ^^^ 9223372036854775808) / 2 ^ 63 = n / 2 ^ 63 ^^^ 1 := by rw [Nat.xor_div_two_pow]
  have e2 : (n ^^^ 9223372036854775808) % 2 ^ 63 = n % 2 ^ 63 := by rw [Nat.xor_mod_two_pow]; simp
  have e3 := Nat.div_add_mod (n ^^^ 9223372036854775808) (2 ^ 63)
  rw [e1, e2] at e3
  have e4 : n / 2 ^ 63 = 0 := by omega
  rw [e4] at e3
  have e5 : (0 ^^^ 1 : Nat) = 1 := rfl
  rw [e5] at e3
  omega
theorem top_bit : 2 ^ (FloatKind.f64.format.exponentBits + FloatKind.f64.format.fractionBits) = 9223372036854775808 := by decide
theorem word_f (r : Nat) : Ieee.double.word false r = r := rfl
theorem word_t (r : Nat) : Ieee.double.word true r = Ieee.double.signWeight + r := rfl
theorem neg_top (r : Nat) (h : r < 9223372036854775808) : Op.negFloat .f64 r = 9223372036854775808 + r := by
  unfold Op.negFloat
  rw [top_bit]
  exact xor_top h
theorem odd_neg (V d : Nat) : Op.negFloat .f64 (oddW false V d) = oddW true V d := by
  unfold oddW
  rw [nearest_rung, nearest_rung, word_f, word_t, double_sign]
  have hl := rungOf_le Ieee.double (topV V d) (((blen (V / d) - 53 : Nat) : Int) - 151)
  rw [double_inf] at hl
  exact neg_top _ (by omega)
set_option maxHeartbeats 400000 in
theorem snarrow_any (W : Nat) (w : World) : Calls Tryd.prog 63 #[.float .f64 W] w fun e w' => e = .returned (.int .u32 (toldD (some (Ieee.double.read W)) : Nat)) ∧ Q w w' := by
  have l1 := f64bits
  go_enter Tryd.func63, Tryd.ntmps63
  go_wp2_with fail
  refine (cnarrow_any W _).mono ?_
  rintro e w1 ⟨rfl, q1⟩
  go_wp2_with fail
  go_ret
  exact ⟨rfl, q1⟩
set_option maxHeartbeats 2000000 in
set_option maxRecDepth 100000 in
theorem divided_any (N : Nat → Nat) (z : Int) (hR : Rep N z) (h0 : z ≠ 0) (hz : 2 * z.natAbs < m64 ^ 5) (d : Nat) (hd : 0 < d) (hd' : d < 4294967296) (w : World) (hT : Tab w) : Calls Tryd.prog 75 #[numV N, .int .u64 (d : Int)] w fun e w' => e = .returned (.float .f64 (oddW (decide (z < 0)) z.natAbs d)) ∧ Q w w' := by
  have HN : Hid (∀ i, N i < m64) := hR.lt
  have HT : Hid (Tab w) := hT
  by_cases hn : z < 0
  · have h1 := hR.neg hn (by generalize m64 ^ 5 = G at *; omega)
    have e1 : decide (9223372036854775808 ≤ N 4) = true := decide_eq_true h1.2
    have HV : Hid (valW (negW N) 5 = z.natAbs) := by
      show valW (negW N) 5 = z.natAbs
      have := h1.1; omega
    have hV : Hid (0 < valW (negW N) 5) := by
      show 0 < valW (negW N) 5
      rw [HV.out]; omega
    have HW : Hid (oddW (decide (z < 0)) z.natAbs d = Op.negFloat .f64 (oddW false (valW (negW N) 5) d)) := by
      show oddW (decide (z < 0)) z.natAbs d = _
      rw [odd_neg, HV.out, decide_eq_true hn]
    have l1 : ∀ w : World, (Op.unary UnOp.neg (.float .f64 (oddW false (valW (negW N) 5) d))).run Tryd.prog w = .ok (.float .f64 (Op.negFloat .f64 (oddW false (valW (negW N) 5) d))) w := fun _ => rfl
    clear h1 hR hT hz h0 hn
    unfold numV
    go_enter Tryd.func75, Tryd.ntmps75
    go_wp2_with fail
    refine (negative_any N HN.out _).mono ?_
    rintro e w1 ⟨rfl, q1⟩
    rw [e1]
    have c0 := q1.cell (box_words w N 0 (by decide))
    have c1 := q1.cell (box_words w N 1 (by decide))
    have c2 := q1.cell (box_words w N 2 (by decide))
    have c3 := q1.cell (box_words w N 3 (by decide))
    have c4 := q1.cell (box_words w N 4 (by decide))
    have HQ1 : Hid (Q w w1) := ((Q.refl w).cells _ _).trans q1
    clear q1
    go_wp2_with fail
    refine (negated_any N HN.out _).mono ?_
    rintro e w2 ⟨rfl, q2⟩
    have HQ2 : Hid (Q w w2) := HQ1.out.trans q2
    clear q2 c0 c1 c2 c3 c4
    go_wp2_with fail
    refine (size_any (negW N) (neg_lt N) d hd hd' hV.out _ (HQ2.out.tab HT.out)).mono ?_
    rintro e w3 ⟨rfl, q3⟩
    have HQ3 : Hid (Q w w3) := HQ2.out.trans q3
    clear q3
    go_wp2_with fail
    go_ret
    exact ⟨by rw [HW.out]; rfl, HQ3.out⟩
  · have h1 := hR.pos (by omega) (by generalize m64 ^ 5 = G at *; omega)
    have e1 : decide (9223372036854775808 ≤ N 4) = false := decide_eq_false h1.2
    have HV : Hid (valW N 5 = z.natAbs) := by
      show valW N 5 = z.natAbs
      have := h1.1; omega
    have hV : Hid (0 < valW N 5) := by
      show 0 < valW N 5
      rw [HV.out]; omega
    rw [decide_eq_false hn]
    clear h1 hR hT hz h0 hn
    unfold numV
    go_enter Tryd.func75, Tryd.ntmps75
    go_wp2_with fail
    refine (negative_any N HN.out _).mono ?_
    rintro e w1 ⟨rfl, q1⟩
    rw [e1]
    have c0 := q1.cell (box_words w N 0 (by decide))
    have c1 := q1.cell (box_words w N 1 (by decide))
    have c2 := q1.cell (box_words w N 2 (by decide))
    have c3 := q1.cell (box_words w N 3 (by decide))
    have c4 := q1.cell (box_words w N 4 (by decide))
    have HQ1 : Hid (Q w w1) := ((Q.refl w).cells _ _).trans q1
    clear q1
    go_wp2_with fail
    refine (size_any N HN.out d hd hd' hV.out _ (HQ1.out.tab HT.out)).mono ?_
    rintro e w2 ⟨rfl, q2⟩
    have HQ2 : Hid (Q w w2) := HQ1.out.trans q2
    clear q2 c0 c1 c2 c3 c4
    go_wp2_with fail
    go_ret
    exact ⟨by rw [← HV.out]; rfl, HQ2.out⟩
end Go.Proofs.YtnjagokojdpgpabDoor
/- Regions that draw their order, whose last operation waits for all others: one walk in the order of the text, and then the last operation. -/
namespace Go.Proofs.YtnjagokojdpgpabDoor
open Go.RowKit
set_option linter.unusedVariables false

/-- The last operation waits for all others; each of these waits for earlier ones alone; none is guarded. -/
def lastB (pre : List Oper) (st : Oper) : Bool :=
  ((List.range pre.length).all fun k => match pre[k]? with
    | some o => o.guard.isNone && o.after.toList.all fun e => !(Region.binds .any e) || decide (e.on < k)
    | none => true) &&
  ((st.guard.isNone && st.after.toList.all fun e => !(Region.binds .any e) || decide (e.on < pre.length)) && (List.range pre.length).all fun k => st.after.toList.any fun e => Region.binds .any e && (e.on == k))
theorem lastB_pre {pre : List Oper} {st : Oper} (h : lastB pre st = true) {k : Nat} {o : Oper} (hk : pre[k]? = some o) : o.guard = none ∧ ∀ e ∈ o.after, Region.binds .any e = true → e.on < k := by
  unfold lastB at h
  rw [Bool.and_eq_true] at h
  have hlt : k < pre.length := (List.getElem?_eq_some_iff.1 hk).1
  have h1 := List.all_eq_true.1 h.1 k (List.mem_range.2 hlt)
  rw [hk] at h1
  simp only [Bool.and_eq_true] at h1
  refine ⟨by simpa using h1.1, fun e he hb => ?_⟩
  have h2 := List.all_eq_true.1 h1.2 e (by simpa using he)
  rw [hb] at h2
  simpa using h2
theorem lastB_st {pre : List Oper} {st : Oper} (h : lastB pre st = true) : st.guard = none ∧ (∀ k, k < pre.length → ∃ e ∈ st.after, Region.binds .any e = true ∧ e.on = k) ∧ ∀ e ∈ st.after, Region.binds .any e = true → e.on < pre.length := by
  unfold lastB at h
  simp only [Bool.and_eq_true] at h
  refine ⟨by simpa using h.2.1.1, fun k hk => ?_, fun e he hb => ?_⟩
  rotate_left
  · have h2 := List.all_eq_true.1 h.2.1.2 e (by simpa using he)
    rw [hb] at h2
    simpa using h2
  have h1 := List.all_eq_true.1 h.2.2 k (List.mem_range.2 hk)
  obtain ⟨e, he, h2⟩ := List.any_eq_true.1 h1
  rw [Bool.and_eq_true] at h2
  exact ⟨e, by simpa using he, h2.1, by simpa using h2.2⟩
theorem push_getD_lt (l : Array Bool) (d : Bool) {i : Nat} (h : i < l.size) : (l.push false).getD i d = l.getD i d := by
  rw [Array.getD_eq_getD_getElem?, Array.getD_eq_getD_getElem?, Array.getElem?_push_lt h, Array.getElem?_eq_getElem h]
theorem push_getD_eq (l : Array Bool) (d : Bool) : (l.push false).getD l.size d = false := by
  rw [Array.getD_eq_getD_getElem?, Array.getElem?_push_size]; rfl
theorem ops_lt {pre : List Oper} {st : Oper} {i : Nat} (h : i < pre.length) : (pre ++ [st]).toArray[i]? = pre.toArray[i]? := by
  simp [List.getElem?_append_left h]
theorem ready_lt {pre : List Oper} {st : Oper} (hB : lastB pre st = true) {listed : Array Bool} (hs : listed.size = pre.length) {i : Nat} (hi : i ∈ Region.ready .any (pre ++ [st]).toArray (listed.push false)) :
    (i < pre.length ∧ i ∈ Region.ready .any pre.toArray listed) ∨ (i = pre.length ∧ ∀ k, k < pre.length → listed.getD k false = true) := by
  obtain ⟨h1, o, ho, h2⟩ := mem_ready.1 hi
  rcases Nat.lt_trichotomy i pre.length with h | h | h
  · left
    refine ⟨h, mem_ready.2 ⟨?_, o, ?_, fun e he hb => ?_⟩⟩
    · rw [← push_getD_lt listed true (by omega)]; exact h1
    · rw [← ops_lt (st := st) h]; exact ho
    · have hk : pre[i]? = some o := by rw [ops_lt h] at ho; simpa using ho
      have := (lastB_pre hB hk).2 e he hb
      rw [← push_getD_lt listed false (by omega)]
      exact h2 e he hb
  · right
    refine ⟨h, fun k hk => ?_⟩
    have hst : o = st := by
      rw [h] at ho
      simp at ho
      exact ho.symm
    subst hst
    obtain ⟨e, he, hb, rfl⟩ := (lastB_st hB).2.1 k hk
    rw [← push_getD_lt listed false (by omega)]
    exact h2 e he hb
  · exfalso
    rw [List.getElem?_toArray, List.getElem?_eq_none (by simp; omega)] at ho
    cases ho
theorem ready_back {pre : List Oper} {st : Oper} (hB : lastB pre st = true) {listed : Array Bool} (hs : listed.size = pre.length) {i : Nat} (hi : i ∈ Region.ready .any pre.toArray listed) : i ∈ Region.ready .any (pre ++ [st]).toArray (listed.push false) := by
  obtain ⟨h1, o, ho, h2⟩ := mem_ready.1 hi
  have h : i < pre.length := by
    have := (List.getElem?_eq_some_iff.1 (show pre[i]? = some o by simpa using ho)).1
    exact this
  refine mem_ready.2 ⟨?_, o, ?_, fun e he hb => ?_⟩
  · rw [push_getD_lt listed true (by omega)]; exact h1
  · rw [ops_lt h]; exact ho
  · have hk : pre[i]? = some o := by simpa using ho
    have := (lastB_pre hB hk).2 e he hb
    rw [push_getD_lt listed false (by omega)]
    exact h2 e he hb
theorem ready_nil {pre : List Oper} {st : Oper} (hB : lastB pre st = true) {listed : Array Bool} (hs : listed.size = pre.length) (hr : Region.ready .any pre.toArray listed = []) : ∀ k, k < pre.length → listed.getD k false = true := by
  intro k
  induction k using Nat.strongRecOn with
  | ind k ih =>
    intro hk
    have hk' : k < listed.size := by omega
    cases hl : listed.getD k false with
    | true => rfl
    | false =>
      exfalso
      obtain ⟨o, ho⟩ : ∃ o, pre[k]? = some o := ⟨_, List.getElem?_eq_getElem hk⟩
      have : k ∈ Region.ready .any pre.toArray listed := by
        refine mem_ready.2 ⟨?_, o, by simpa using ho, fun e he hb => ?_⟩
        · rw [Array.getD_eq_getD_getElem?, Array.getElem?_eq_getElem hk'] at hl ⊢; exact hl
        · have := (lastB_pre hB ho).2 e he hb
          exact ih e.on this (by omega)
      rw [hr] at this
      cases this
theorem push_set (l : Array Bool) {i : Nat} (h : i < l.size) : (l.push false).setIfInBounds i true = (l.setIfInBounds i true).push false := by
  apply Array.ext_getElem?
  intro j
  rw [Array.getElem?_setIfInBounds, Array.getElem?_push, Array.getElem?_push, Array.getElem?_setIfInBounds]
  simp only [Array.size_push, Array.size_setIfInBounds]
  by_cases e : i = j
  · subst e
    have h3 : ¬ i = l.size := by omega
    have h4 : i < l.size + 1 := by omega
    simp [h, h3, h4]
  · simp [e]
theorem wpAny_done {P : Program} {ops : Array Oper} {Q' : Exit → Act → World → Prop} {listed : Array Bool} (hr : Region.ready .any ops listed = []) {a : Act} {w : World} (h : Q' .normal a w) : ∀ f, wpAny P .any ops Q' f listed a w
  | 0 => ⟨hr, h⟩
  | f + 1 => ⟨fun _ => h, fun i hi => by rw [hr] at hi; cases hi⟩
theorem wpAny_last {P : Program} {pre : List Oper} {st : Oper} {C : World → Prop} {Q : Act → Prop} {Q' : Exit → Act → World → Prop} (hB : lastB pre st = true)
    (hQ : ∀ a w, C w → Q a → st.wp P a w (fun a' w' => Q' .normal a' w') Q') : ∀ (fuel : Nat) (listed : Array Bool) (a : Act) (w : World), listed.size = pre.length → C w →
    wpAnyQ P .any pre.toArray C Q fuel listed a → wpAny P .any (pre ++ [st]).toArray Q' (fuel + 1) (listed.push false) a w := by
  have done : ∀ (fuel : Nat) (listed : Array Bool) (a : Act) (w : World), listed.size = pre.length → C w → (∀ k, k < pre.length → listed.getD k false = true) → Q a → wpAny P .any (pre ++ [st]).toArray Q' (fuel + 1) (listed.push false) a w := by
    intro fuel listed a w hs hC hall hq
    obtain ⟨g1, g2, g3⟩ := lastB_st hB
    have hrn : pre.length ∈ Region.ready .any (pre ++ [st]).toArray (listed.push false) := by
      refine mem_ready.2 ⟨?_, st, by simp, fun e he hb => ?_⟩
      · rw [← hs]; exact push_getD_eq _ _
      · have := g3 e he hb
        rw [push_getD_lt listed false (by omega)]
        exact hall _ this
    refine ⟨fun hr => (by rw [hr] at hrn; cases hrn), fun i hi => ?_⟩
    have hin : i = pre.length := by
      rcases ready_lt hB hs hi with ⟨h1, h2⟩ | ⟨h1, _⟩
      · exfalso
        obtain ⟨h3, _⟩ := mem_ready.1 h2
        have h4 := hall i h1
        rw [Array.getD_eq_getD_getElem?, Array.getElem?_eq_getElem (by omega)] at h3 h4
        simp at h3 h4
        rw [h4] at h3
        cases h3
      · exact h1
    subst hin
    unfold wpOp
    have hget : (pre ++ [st]).toArray[pre.length]? = some st := by simp
    rw [hget]
    simp only
    rw [if_pos (by unfold Region.wanted; rw [g1])]
    refine Or.inl (Oper.wp_mono (fun a' w' h => ?_) (hQ a w hC hq))
    refine wpAny_done ?_ h fuel
    cases hrr : Region.ready .any (pre ++ [st]).toArray ((listed.push false).setIfInBounds pre.length true) with
    | nil => rfl
    | cons j js =>
      exfalso
      have hj : j ∈ Region.ready .any (pre ++ [st]).toArray ((listed.push false).setIfInBounds pre.length true) := by rw [hrr]; exact List.mem_cons_self
      obtain ⟨h3, o, ho, _⟩ := mem_ready.1 hj
      have hj2 : j < (pre ++ [st]).length := by
        have := (List.getElem?_eq_some_iff.1 (show (pre ++ [st])[j]? = some o by simpa using ho)).1
        exact this
      rw [List.length_append, List.length_singleton] at hj2
      rw [Array.getD_eq_getD_getElem?, Array.getElem?_setIfInBounds] at h3
      by_cases e : pre.length = j
      · rw [if_pos e, if_pos (by rw [Array.size_push]; omega)] at h3
        cases h3
      · rw [if_neg e, Array.getElem?_push_lt (by omega)] at h3
        have h4 := hall j (by omega)
        rw [Array.getD_eq_getD_getElem?, Array.getElem?_eq_getElem (by omega)] at h4
        simp at h3 h4
        rw [h4] at h3
        cases h3
  intro fuel
  induction fuel with
  | zero =>
    intro listed a w hs hC h
    exact done 0 listed a w hs hC (ready_nil hB hs h.1) h.2
  | succ fuel ih =>
    intro listed a w hs hC h
    cases hr : Region.ready .any pre.toArray listed with
    | nil => exact done (fuel + 1) listed a w hs hC (ready_nil hB hs hr) (h.1 hr)
    | cons j js =>
      have hj : j ∈ Region.ready .any pre.toArray listed := by rw [hr]; exact List.mem_cons_self
      refine ⟨fun hn => (by have := ready_back (st := st) hB hs hj; rw [hn] at this; cases this), fun i hi => ?_⟩
      rcases ready_lt hB hs hi with ⟨h1, h2⟩ | ⟨_, h2⟩
      · have hq := h.2 i h2
        obtain ⟨o, ho⟩ : ∃ o, pre[i]? = some o := ⟨_, List.getElem?_eq_getElem h1⟩
        have hg := (lastB_pre hB ho).1
        unfold qOp at hq
        unfold wpOp
        rw [ops_lt h1]
        rw [show pre.toArray[i]? = some o by simpa using ho] at hq ⊢
        simp only at hq ⊢
        have hwt : ∀ y, Region.wanted o y = true := fun y => by unfold Region.wanted; rw [hg]
        rw [if_pos (hwt _)] at hq ⊢
        refine Or.inl (Oper.wp_of_quiet hC (fun a' w' hC' hk => ?_) hq)
        rw [push_set listed (by omega)]
        exact ih (listed.setIfInBounds i true) a' w' (by simpa using hs) hC' hk
      · exfalso
        obtain ⟨h3, o, ho, _⟩ := mem_ready.1 hj
        have hj2 : j < pre.length := (List.getElem?_eq_some_iff.1 (show pre[j]? = some o by simpa using ho)).1
        have h4 := h2 j hj2
        rw [Array.getD_eq_getD_getElem?, Array.getElem?_eq_getElem (by omega)] at h3 h4
        simp at h3 h4
        rw [h4] at h3
        cases h3
/-- The region's wp: the walk of all operations but the last, each quiet in the worlds that differ by new blocks; then the last one. -/
theorem wp_region_last {P : Program} {id : Nat} {R : Exit → Act → World → Prop} {a : Act} {w : World} {l : List Oper} (pre : List Oper) (st : Oper) (hl : l = pre ++ [st]) (hm : P.follows .mixedOrders = true) (hB : Region.lexB .any pre.toArray = true) (hL : lastB pre st = true)
    (h : wpQuiet P pre.toArray (fun w' => ∃ n : QW w, w' = n.x) (fun a' => ∀ (n : QW w) (K : Act → World → Prop), (∀ a'' w'', R .normal a'' w'' → K a'' w'') → st.wp P a' n.x K R) pre a) : (Code.region id l.toArray true).wp P R a w := by
  subst hl
  refine wp_region_any hm ?_
  have hq := wpAnyQ_lex (C := fun w' => ∃ n : QW w, w' = n.x) (md := .any) (by simp only [Region.lexB, Bool.and_eq_true] at hB; exact hB.1) pre 0 (Array.replicate pre.length false) a (by simp) (by simp only [Region.lexB, Bool.and_eq_true] at hB; simpa using hB.2) h
  have := wpAny_last (Q' := R) hL (fun a' w' hC hq => by obtain ⟨n, rfl⟩ := hC; exact hq n _ (fun _ _ h => h)) pre.length (Array.replicate pre.length false) a w.drew (by simp) ⟨⟨w.drew, (Q.refl w).drew⟩, rfl⟩ hq
  have e : (Array.replicate pre.length false).push false = Array.replicate (pre ++ [st]).toArray.size false := by
    rw [show (pre ++ [st]).toArray.size = pre.length + 1 by simp, Array.replicate_succ]
  rw [e] at this
  simpa using this
end Go.Proofs.YtnjagokojdpgpabDoor
/- Accumulators: what they hold; samples' kinds. -/
namespace Go.Proofs.YtnjagokojdpgpabDoor
open Go.RowKit
set_option linter.unusedVariables false
set_option linter.unusedSimpArgs false

/-- A sample's kind: -0, finite, infinities, NaN. -/
def kindV (s : Nat) : Nat := if s = 2147483648 then 1 else if s % 2147483648 < 2139095040 then 2 else if 2139095040 < s % 2147483648 then 16 else if s = 2139095040 then 4 else 8
theorem andnot_top (s : Nat) (h : s < 4294967296) : bits .andNot .u32 (s : Int) 2147483648 = ((s % 2147483648 : Nat) : Int) := by go_bits2
set_option maxHeartbeats 1000000 in
theorem kind_any (s : Nat) (hs : s < 4294967296) (w : World) : Calls Tryd.prog 38 #[.int .u32 (s : Int)] w fun e w' => e = .returned (.int .i64 (kindV s : Nat)) ∧ w' = w := by
  have e1 := andnot_top s hs
  unfold kindV
  generalize s % 2147483648 = m at *
  by_cases h1 : s = 2147483648
  · subst h1
    rw [if_pos rfl]
    go_enter Tryd.func38, Tryd.ntmps38
    go_wp2_with fail
    go_ret
    exact ⟨rfl, rfl⟩
  · have b1 : ((s : Int) == 2147483648) = false := by rw [beq_eq_false_iff_ne]; omega
    rw [if_neg h1]
    by_cases h2 : m < 2139095040
    · have b2 : (m : Int) < 2139095040 := by omega
      rw [if_pos h2]
      clear h1 h2 hs
      go_enter Tryd.func38, Tryd.ntmps38
      go_wp2_with fail
      go_ret
      exact ⟨rfl, rfl⟩
    · have b2 : ¬ (m : Int) < 2139095040 := by omega
      rw [if_neg h2]
      by_cases h3 : 2139095040 < m
      · have b3 : (2139095040 : Int) < m := by omega
        rw [if_pos h3]
        clear h1 h2 h3 hs
        go_enter Tryd.func38, Tryd.ntmps38
        go_wp2_with fail
        go_ret
        exact ⟨rfl, rfl⟩
      · have b3 : ¬ (2139095040 : Int) < m := by omega
        rw [if_neg h3]
        by_cases h4 : s = 2139095040
        · have b4 : ((s : Int) == 2139095040) = true := by rw [beq_iff_eq]; omega
          rw [if_pos h4]
          clear h1 h2 h3 h4 hs
          go_enter Tryd.func38, Tryd.ntmps38
          go_wp2_with fail
          go_ret
          exact ⟨rfl, rfl⟩
        · have b4 : ((s : Int) == 2139095040) = false := by rw [beq_eq_false_iff_ne]; omega
          rw [if_neg h4]
          clear h1 h2 h3 h4 hs
          go_enter Tryd.func38, Tryd.ntmps38
          go_wp2_with fail
          go_ret
          exact ⟨rfl, rfl⟩
theorem kind_lt (s : Nat) : kindV s < 32 := by
  unfold kindV
  split
  · decide
  · split
    · decide
    · split
      · decide
      · split <;> decide
theorem kind_fin {s : Nat} (hs : s < 4294967296) (h : kindV s = 2) : s / 8388608 % 256 < 255 := by
  unfold kindV at h
  split at h
  · cases h
  · split at h
    · omega
    · split at h
      · cases h
      · split at h <;> cases h
def unK (s : Nat) : Int := if kindV s = 2 then unZ s else 0
def sumZ (l : List Nat) : Int := l.foldl (fun z s => z + unK s) 0
def metV (l : List Nat) : Nat := l.foldl (fun m s => m ||| kindV s) 0
theorem sumZ_snoc (l : List Nat) (s : Nat) : sumZ (l ++ [s]) = sumZ l + unK s := by unfold sumZ; rw [List.foldl_append]; rfl
theorem metV_snoc (l : List Nat) (s : Nat) : metV (l ++ [s]) = metV l ||| kindV s := by unfold metV; rw [List.foldl_append]; rfl
theorem snoc_ind {P : List Nat → Prop} (h0 : P []) (h1 : ∀ l s, P l → P (l ++ [s])) (l : List Nat) : P l := by
  have : ∀ n (l : List Nat), l.length = n → P l := by
    intro n
    induction n with
    | zero => intro l h; rw [List.eq_nil_of_length_eq_zero h]; exact h0
    | succ n ih =>
      intro l h
      have hne : l ≠ [] := fun e => by rw [e] at h; cases h
      rw [← List.dropLast_concat_getLast hne]
      exact h1 _ _ (ih _ (by rw [List.length_dropLast]; omega))
  exact this _ l rfl
theorem metV_lt (l : List Nat) : metV l < 32 := by
  induction l using snoc_ind with
  | h0 => decide
  | h1 l s ih =>
    rw [metV_snoc]
    exact Nat.or_lt_two_pow (n := 5) ih (kind_lt s)
theorem sumZ_append (l m : List Nat) : sumZ (l ++ m) = sumZ l + sumZ m := by
  induction m using snoc_ind with
  | h0 => rw [List.append_nil]; exact (Int.add_zero _).symm
  | h1 m s ih => rw [← List.append_assoc, sumZ_snoc, sumZ_snoc, ih, Int.add_assoc]
theorem metV_append (l m : List Nat) : metV (l ++ m) = metV l ||| metV m := by
  induction m using snoc_ind with
  | h0 => rw [List.append_nil]; exact (Nat.or_zero _).symm
  | h1 m s ih => rw [← List.append_assoc, metV_snoc, metV_snoc, ih, Nat.or_assoc]
theorem or_small : ∀ a : Nat, a < 32 → ∀ b : Nat, b < 32 → bits .or .i64 (a : Int) (b : Int) = ((a ||| b : Nat) : Int) := by decide +kernel
def capZ : Nat := 2 ^ 24 * 2 ^ 256
theorem unZ_le {s : Nat} (h : s / 8388608 % 256 < 255) : (unZ s).natAbs < capZ := by
  have h1 := szS_lt s
  have h2 := atS_lt h
  have h3 : szS s * 2 ^ atS s < 2 ^ 24 * 2 ^ 256 := Nat.lt_of_lt_of_le (Nat.mul_lt_mul_of_pos_right h1 (Nat.two_pow_pos _)) (Nat.mul_le_mul_left _ (Nat.pow_le_pow_right (by decide) (by omega)))
  have : (unZ s).natAbs = szS s * 2 ^ atS s := by unfold unZ; split <;> omega
  rw [this]
  exact h3
theorem sumZ_le (l : List Nat) (hb : ∀ s ∈ l, s < 4294967296) : (sumZ l).natAbs ≤ l.length * capZ := by
  induction l using snoc_ind with
  | h0 => exact Nat.zero_le _
  | h1 l s ih =>
    have h1 := ih (fun x hx => hb x (List.mem_append_left _ hx))
    have h2 : (unK s).natAbs ≤ capZ := by
      unfold unK
      split
      · rename_i h
        exact Nat.le_of_lt (unZ_le (kind_fin (hb s (by simp)) h))
      · exact Nat.zero_le _
    rw [sumZ_snoc, List.length_append, List.length_singleton, Nat.add_mul, Nat.one_mul]
    generalize capZ = G at *
    omega
theorem cap_m {n : Nat} (h : n ≤ 2147483648) : 2 * (n * capZ) < m64 ^ 5 := by
  have e : capZ = 2 ^ 24 * m64 ^ 4 := by unfold capZ; rw [m64_pow]
  have e2 : m64 ^ 5 = m64 * m64 ^ 4 := by rw [Nat.pow_succ, Nat.mul_comm]
  have hp : 0 < m64 ^ 4 := Nat.pow_pos (by decide)
  rw [e, e2, ← Nat.mul_assoc, ← Nat.mul_assoc]
  refine Nat.mul_lt_mul_of_pos_right ?_ hp
  unfold m64
  omega
theorem sumZ_fits {l : List Nat} (hb : ∀ s ∈ l, s < 4294967296) (hl : l.length ≤ 2147483648) : 2 * (sumZ l).natAbs < m64 ^ 5 :=
  Nat.lt_of_le_of_lt (Nat.mul_le_mul_left 2 (sumZ_le l hb)) (cap_m hl)
/-- An accumulator of a list of samples. -/
structure AccOf (w : World) (B : Nat) (l : List Nat) (c : Nat) (N : Nat → Nat) : Prop where
  n : WIs w B N
  r : Rep N (sumZ l)
  m : w.cell? ⟨B, 5, none⟩ = some (.int .i64 (metV l : Nat))
  c : w.cell? ⟨B, 6, none⟩ = some (.int .i64 (c : Nat))
  z : ∀ j, w.frozen? ⟨B, j, none⟩ = false
theorem AccOf.next {w w' : World} {B c : Nat} {l : List Nat} {N : Nat → Nat} (h : AccOf w B l c N) (q : Q w w') : AccOf w' B l c N :=
  ⟨fun j hj => q.cell (h.n j hj), h.r, q.cell h.m, q.cell h.c, fun j => by rw [q.2]; exact h.z j⟩
theorem AccOf.far {w w' : World} {B A c : Nat} {l : List Nat} {N : Nat → Nat} (h : AccOf w B l c N) (f : Fb A w w') (hA : B ≠ A) : AccOf w' B l c N :=
  ⟨fun j hj => f.cell (h.n j hj) hA, h.r, f.cell h.m hA, f.cell h.c hA, fun j => by rw [f.frz]; exact h.z j⟩
def AccAt (w : World) (B : Nat) (l : List Nat) : Prop := ∃ N, AccOf w B l l.length N
theorem AccAt.next {w w' : World} {B : Nat} {l : List Nat} (h : AccAt w B l) (q : Q w w') : AccAt w' B l := by
  obtain ⟨N, h⟩ := h
  exact ⟨N, h.next q⟩
theorem AccAt.far {w w' : World} {B A : Nat} {l : List Nat} (h : AccAt w B l) (f : Fb A w w') (hA : B ≠ A) : AccAt w' B l := by
  obtain ⟨N, h⟩ := h
  exact ⟨N, h.far f hA⟩
end Go.Proofs.YtnjagokojdpgpabDoor

/- An exact sum divided, as a sample. -/
import Derived.Test.YtieojgblamkgoaaGreatDoorG47785df2
import Derived.Test.YtieojgblamkgoaaGreatDoorGc2adee94
import Derived.Test.YtieojgblamkgoaaGreatDoorGd65d3b03
import Derived.Test.YtieojgblamkgoaaGreatDoorG61ebc7cf
import Derived.Test.YtieojgblamkgoaaGreatDoorG068178cf
import Derived.Test.YtieojgblamkgoaaGreatDoorGba4db751
import Derived.Test.YtieojgblamkgoaaGreatDoorGec639f76
namespace Go.Proofs.YtieojgblamkgoaaGreatDoor
open Go.RowKit
set_option linter.unusedVariables false
set_option linter.unusedSimpArgs false

theorem odd_wd (s : Bool) {V d : Nat} (hV : 0 < V) (hd : 0 < d) (hb : blen V ≤ 320) : ∃ (m : Nat) (p : Int) (L : Nat), oddW s V d = wd s m p ∧ m = topV V d * 2 ^ L ∧ p + (L : Int) = ((blen (V / d) - 53 : Nat) : Int) - 151 ∧ 4503599627370496 ≤ m ∧ m < 9007199254740992 ∧ -1074 ≤ p ∧ p ≤ 971 := by
  have h1 : topV V d < 2 ^ 53 := top_lt rfl
  have h0 : 0 < topV V d := top_pos hV hd rfl
  have hbl : blen (V / d) ≤ 320 := by
    refine Nat.le_trans (blen_le (k := blen V) ?_) hb
    exact Nat.lt_of_le_of_lt (Nat.div_le_self _ _) (blen_lt V)
  unfold oddW
  generalize topV V d = t at *
  obtain ⟨b, hb'⟩ : ∃ b, blen (V / d) - 53 = b := ⟨_, rfl⟩
  rw [hb']
  have hb2 : b ≤ 267 := by omega
  have hne : t ≠ 0 := by omega
  have a0 := Nat.log2_self_le hne
  have a1 : t < 2 ^ (t.log2 + 1) := Nat.lt_log2_self
  have aL : t.log2 ≤ 52 := by
    have := (Nat.log2_lt hne).2 h1
    omega
  generalize t.log2 = L at *
  have := nearest_exact (neg := s) (k := 0) (p := (b : Int) - 151) a0 a1 aL (by omega) (by omega)
  rw [Nat.pow_zero, Nat.mul_one] at this
  refine ⟨t * 2 ^ (52 - L), (b : Int) - 151 + ((0 : Nat) : Int) + L - 52, 52 - L, this, rfl, by omega, ?_, ?_, by omega, by omega⟩
  · have := Nat.mul_le_mul_right (2 ^ (52 - L)) a0
    rw [← Nat.pow_add, show L + (52 - L) = 52 by omega] at this
    exact this
  · have := Nat.mul_lt_mul_of_pos_right a1 (Nat.two_pow_pos (52 - L))
    rw [← Nat.pow_add, show L + 1 + (52 - L) = 53 by omega] at this
    exact this
theorem told_odd (s : Bool) {V d : Nat} (hV : 0 < V) (hd : 0 < d) (hb : blen V ≤ 320) : toldD (some (Ieee.double.read (oddW s V d))) = Ieee.single.word s (exR V d) := by
  obtain ⟨m, p, L, e1, e2, e3, h0, h1, p0, p1⟩ := odd_wd s hV hd hb
  rw [e1, read_wd h0 h1 p0 p1, toldD_num, e2, rung_scale, e3]
  congr 1
  exact ex_top rfl
theorem xor_top {n : Nat} (h : n < 9223372036854775808) : n ^^^ 9223372036854775808 = 9223372036854775808 + n := by
  have e1 : (n ^^^ 9223372036854775808) / 2 ^ 63 = n / 2 ^ 63 ^^^ 1 := by rw [Nat.xor_div_two_pow]
  have e2 : (n ^^^ 9223372036854775808) % 2 ^ 63 = n % 2 ^ 63 := by rw [Nat.xor_mod_two_pow]; simp
  have e3 := Nat.div_add_mod (n ^^^ 9223372036854775808) (2 ^ 63)
  rw [e1, e2] at e3
  have e4 : n / 2 ^ 63 = 0 := by omega
  rw [e4] at e3
  have e5 : (0 ^^^ 1 : Nat) = 1 := rfl
  rw [e5] at e3
  omega
theorem top_bit : 2 ^ (FloatKind.f64.format.exponentBits + FloatKind.f64.format.fractionBits) = 9223372036854775808 := by decide
theorem word_f (r : Nat) : Ieee.double.word false r = r := rfl
theorem word_t (r : Nat) : Ieee.double.word true r = Ieee.double.signWeight + r := rfl
theorem neg_top (r : Nat) (h : r < 9223372036854775808) : Op.negFloat .f64 r = 9223372036854775808 + r := by
  unfold Op.negFloat
  rw [top_bit]
  exact xor_top h
theorem odd_neg (V d : Nat) : Op.negFloat .f64 (oddW false V d) = oddW true V d := by
  unfold oddW
  rw [nearest_rung, nearest_rung, word_f, word_t, double_sign]
  have hl := rungOf_le Ieee.double (topV V d) (((blen (V / d) - 53 : Nat) : Int) - 151)
  rw [double_inf] at hl
  exact neg_top _ (by omega)
set_option maxHeartbeats 2000000 in
set_option maxRecDepth 100000 in
theorem divided_any (N : Nat → Nat) (z : Int) (hR : Rep N z) (h0 : z ≠ 0) (hz : 2 * z.natAbs < m64 ^ 5) (d : Nat) (hd : 0 < d) (hd' : d < 4294967296) (w : World) (hT : Tab w) : Calls Tryz.prog 110 #[numV N, .int .u64 (d : Int)] w fun e w' => e = .returned (.float .f64 (oddW (decide (z < 0)) z.natAbs d)) ∧ Q w w' := by
  have HN : Hid (∀ i, N i < m64) := hR.lt
  have HT : Hid (Tab w) := hT
  by_cases hn : z < 0
  · have h1 := hR.neg hn (by generalize m64 ^ 5 = G at *; omega)
    have e1 : decide (9223372036854775808 ≤ N 4) = true := decide_eq_true h1.2
    have HV : Hid (valW (negW N) 5 = z.natAbs) := by
      show valW (negW N) 5 = z.natAbs
      have := h1.1; omega
    have hV : Hid (0 < valW (negW N) 5) := by
      show 0 < valW (negW N) 5
      rw [HV.out]; omega
    have HW : Hid (oddW (decide (z < 0)) z.natAbs d = Op.negFloat .f64 (oddW false (valW (negW N) 5) d)) := by
      show oddW (decide (z < 0)) z.natAbs d = _
      rw [odd_neg, HV.out, decide_eq_true hn]
    have l1 : ∀ w : World, (Op.unary UnOp.neg (.float .f64 (oddW false (valW (negW N) 5) d))).run Tryz.prog w = .ok (.float .f64 (Op.negFloat .f64 (oddW false (valW (negW N) 5) d))) w := fun _ => rfl
    clear h1 hR hT hz h0 hn
    unfold numV
    go_enter Tryz.func110, Tryz.ntmps110
    go_wp2_with fail
    refine (negative_any N HN.out _).mono ?_
    rintro e w1 ⟨rfl, q1⟩
    rw [e1]
    have c0 := q1.cell (box_words w N 0 (by decide))
    have c1 := q1.cell (box_words w N 1 (by decide))
    have c2 := q1.cell (box_words w N 2 (by decide))
    have c3 := q1.cell (box_words w N 3 (by decide))
    have c4 := q1.cell (box_words w N 4 (by decide))
    have HQ1 : Hid (Q w w1) := ((Q.refl w).cells _ _).trans q1
    clear q1
    go_wp2_with fail
    refine (negated_any N HN.out _).mono ?_
    rintro e w2 ⟨rfl, q2⟩
    have HQ2 : Hid (Q w w2) := HQ1.out.trans q2
    clear q2 c0 c1 c2 c3 c4
    go_wp2_with fail
    refine (size_any (negW N) (neg_lt N) d hd hd' hV.out _ (HQ2.out.tab HT.out)).mono ?_
    rintro e w3 ⟨rfl, q3⟩
    have HQ3 : Hid (Q w w3) := HQ2.out.trans q3
    clear q3
    go_wp2_with fail
    go_ret
    exact ⟨by rw [HW.out]; rfl, HQ3.out⟩
  · have h1 := hR.pos (by omega) (by generalize m64 ^ 5 = G at *; omega)
    have e1 : decide (9223372036854775808 ≤ N 4) = false := decide_eq_false h1.2
    have HV : Hid (valW N 5 = z.natAbs) := by
      show valW N 5 = z.natAbs
      have := h1.1; omega
    have hV : Hid (0 < valW N 5) := by
      show 0 < valW N 5
      rw [HV.out]; omega
    rw [decide_eq_false hn]
    clear h1 hR hT hz h0 hn
    unfold numV
    go_enter Tryz.func110, Tryz.ntmps110
    go_wp2_with fail
    refine (negative_any N HN.out _).mono ?_
    rintro e w1 ⟨rfl, q1⟩
    rw [e1]
    have c0 := q1.cell (box_words w N 0 (by decide))
    have c1 := q1.cell (box_words w N 1 (by decide))
    have c2 := q1.cell (box_words w N 2 (by decide))
    have c3 := q1.cell (box_words w N 3 (by decide))
    have c4 := q1.cell (box_words w N 4 (by decide))
    have HQ1 : Hid (Q w w1) := ((Q.refl w).cells _ _).trans q1
    clear q1
    go_wp2_with fail
    refine (size_any N HN.out d hd hd' hV.out _ (HQ1.out.tab HT.out)).mono ?_
    rintro e w2 ⟨rfl, q2⟩
    have HQ2 : Hid (Q w w2) := HQ1.out.trans q2
    clear q2 c0 c1 c2 c3 c4
    go_wp2_with fail
    go_ret
    exact ⟨by rw [← HV.out]; rfl, HQ2.out⟩
end Go.Proofs.YtieojgblamkgoaaGreatDoor
/- Accumulators: what they hold; samples' kinds. -/
namespace Go.Proofs.YtieojgblamkgoaaGreatDoor
open Go.RowKit
set_option linter.unusedVariables false
set_option linter.unusedSimpArgs false

/-- A sample's kind: -0, finite, infinities, NaN. -/
def kindV (s : Nat) : Nat := if s = 2147483648 then 1 else if s % 2147483648 < 2139095040 then 2 else if 2139095040 < s % 2147483648 then 16 else if s = 2139095040 then 4 else 8
theorem andnot_top (s : Nat) (h : s < 4294967296) : bits .andNot .u32 (s : Int) 2147483648 = ((s % 2147483648 : Nat) : Int) := by go_bits2
set_option maxHeartbeats 1000000 in
theorem kind_any (s : Nat) (hs : s < 4294967296) (w : World) : Calls Tryz.prog 91 #[.int .u32 (s : Int)] w fun e w' => e = .returned (.int .i64 (kindV s : Nat)) ∧ w' = w := by
  have e1 := andnot_top s hs
  unfold kindV
  generalize s % 2147483648 = m at *
  by_cases h1 : s = 2147483648
  · subst h1
    rw [if_pos rfl]
    go_enter Tryz.func91, Tryz.ntmps91
    go_wp2_with fail
    go_ret
    exact ⟨rfl, rfl⟩
  · have b1 : ((s : Int) == 2147483648) = false := by rw [beq_eq_false_iff_ne]; omega
    rw [if_neg h1]
    by_cases h2 : m < 2139095040
    · have b2 : (m : Int) < 2139095040 := by omega
      rw [if_pos h2]
      clear h1 h2 hs
      go_enter Tryz.func91, Tryz.ntmps91
      go_wp2_with fail
      go_ret
      exact ⟨rfl, rfl⟩
    · have b2 : ¬ (m : Int) < 2139095040 := by omega
      rw [if_neg h2]
      by_cases h3 : 2139095040 < m
      · have b3 : (2139095040 : Int) < m := by omega
        rw [if_pos h3]
        clear h1 h2 h3 hs
        go_enter Tryz.func91, Tryz.ntmps91
        go_wp2_with fail
        go_ret
        exact ⟨rfl, rfl⟩
      · have b3 : ¬ (2139095040 : Int) < m := by omega
        rw [if_neg h3]
        by_cases h4 : s = 2139095040
        · have b4 : ((s : Int) == 2139095040) = true := by rw [beq_iff_eq]; omega
          rw [if_pos h4]
          clear h1 h2 h3 h4 hs
          go_enter Tryz.func91, Tryz.ntmps91
          go_wp2_with fail
          go_ret
          exact ⟨rfl, rfl⟩
        · have b4 : ((s : Int) == 2139095040) = false := by rw [beq_eq_false_iff_ne]; omega
          rw [if_neg h4]
          clear h1 h2 h3 h4 hs
          go_enter Tryz.func91, Tryz.ntmps91
          go_wp2_with fail
          go_ret
          exact ⟨rfl, rfl⟩
theorem kind_lt (s : Nat) : kindV s < 32 := by
  unfold kindV
  split
  · decide
  · split
    · decide
    · split
      · decide
      · split <;> decide
theorem kind_fin {s : Nat} (hs : s < 4294967296) (h : kindV s = 2) : s / 8388608 % 256 < 255 := by
  unfold kindV at h
  split at h
  · cases h
  · split at h
    · omega
    · split at h
      · cases h
      · split at h <;> cases h
def unK (s : Nat) : Int := if kindV s = 2 then unZ s else 0
def sumZ (l : List Nat) : Int := l.foldl (fun z s => z + unK s) 0
def metV (l : List Nat) : Nat := l.foldl (fun m s => m ||| kindV s) 0
theorem sumZ_snoc (l : List Nat) (s : Nat) : sumZ (l ++ [s]) = sumZ l + unK s := by unfold sumZ; rw [List.foldl_append]; rfl
theorem metV_snoc (l : List Nat) (s : Nat) : metV (l ++ [s]) = metV l ||| kindV s := by unfold metV; rw [List.foldl_append]; rfl
theorem snoc_ind {P : List Nat → Prop} (h0 : P []) (h1 : ∀ l s, P l → P (l ++ [s])) (l : List Nat) : P l := by
  have : ∀ n (l : List Nat), l.length = n → P l := by
    intro n
    induction n with
    | zero => intro l h; rw [List.eq_nil_of_length_eq_zero h]; exact h0
    | succ n ih =>
      intro l h
      have hne : l ≠ [] := fun e => by rw [e] at h; cases h
      rw [← List.dropLast_concat_getLast hne]
      exact h1 _ _ (ih _ (by rw [List.length_dropLast]; omega))
  exact this _ l rfl
theorem metV_lt (l : List Nat) : metV l < 32 := by
  induction l using snoc_ind with
  | h0 => decide
  | h1 l s ih =>
    rw [metV_snoc]
    exact Nat.or_lt_two_pow (n := 5) ih (kind_lt s)
theorem sumZ_append (l m : List Nat) : sumZ (l ++ m) = sumZ l + sumZ m := by
  induction m using snoc_ind with
  | h0 => rw [List.append_nil]; exact (Int.add_zero _).symm
  | h1 m s ih => rw [← List.append_assoc, sumZ_snoc, sumZ_snoc, ih, Int.add_assoc]
theorem metV_append (l m : List Nat) : metV (l ++ m) = metV l ||| metV m := by
  induction m using snoc_ind with
  | h0 => rw [List.append_nil]; exact (Nat.or_zero _).symm
  | h1 m s ih => rw [← List.append_assoc, metV_snoc, metV_snoc, ih, Nat.or_assoc]
theorem or_small : ∀ a : Nat, a < 32 → ∀ b : Nat, b < 32 → bits .or .i64 (a : Int) (b : Int) = ((a ||| b : Nat) : Int) := by decide +kernel
def capZ : Nat := 2 ^ 24 * 2 ^ 256
theorem unZ_le {s : Nat} (h : s / 8388608 % 256 < 255) : (unZ s).natAbs < capZ := by
  have h1 := szS_lt s
  have h2 := atS_lt h
  have h3 : szS s * 2 ^ atS s < 2 ^ 24 * 2 ^ 256 := Nat.lt_of_lt_of_le (Nat.mul_lt_mul_of_pos_right h1 (Nat.two_pow_pos _)) (Nat.mul_le_mul_left _ (Nat.pow_le_pow_right (by decide) (by omega)))
  have : (unZ s).natAbs = szS s * 2 ^ atS s := by unfold unZ; split <;> omega
  rw [this]
  exact h3
theorem sumZ_le (l : List Nat) (hb : ∀ s ∈ l, s < 4294967296) : (sumZ l).natAbs ≤ l.length * capZ := by
  induction l using snoc_ind with
  | h0 => exact Nat.zero_le _
  | h1 l s ih =>
    have h1 := ih (fun x hx => hb x (List.mem_append_left _ hx))
    have h2 : (unK s).natAbs ≤ capZ := by
      unfold unK
      split
      · rename_i h
        exact Nat.le_of_lt (unZ_le (kind_fin (hb s (by simp)) h))
      · exact Nat.zero_le _
    rw [sumZ_snoc, List.length_append, List.length_singleton, Nat.add_mul, Nat.one_mul]
    generalize capZ = G at *
    omega
theorem cap_m {n : Nat} (h : n ≤ 2147483648) : 2 * (n * capZ) < m64 ^ 5 := by
  have e : capZ = 2 ^ 24 * m64 ^ 4 := by unfold capZ; rw [m64_pow]
  have e2 : m64 ^ 5 = m64 * m64 ^ 4 := by rw [Nat.pow_succ, Nat.mul_comm]
  have hp : 0 < m64 ^ 4 := Nat.pow_pos (by decide)
  rw [e, e2, ← Nat.mul_assoc, ← Nat.mul_assoc]
  refine Nat.mul_lt_mul_of_pos_right ?_ hp
  unfold m64
  omega
theorem sumZ_fits {l : List Nat} (hb : ∀ s ∈ l, s < 4294967296) (hl : l.length ≤ 2147483648) : 2 * (sumZ l).natAbs < m64 ^ 5 :=
  Nat.lt_of_le_of_lt (Nat.mul_le_mul_left 2 (sumZ_le l hb)) (cap_m hl)
/-- An accumulator of a list of samples. -/
structure AccOf (w : World) (B : Nat) (l : List Nat) (c : Nat) (N : Nat → Nat) : Prop where
  n : WIs w B N
  r : Rep N (sumZ l)
  m : w.cell? ⟨B, 5, none⟩ = some (.int .i64 (metV l : Nat))
  c : w.cell? ⟨B, 6, none⟩ = some (.int .i64 (c : Nat))
  z : ∀ j, w.frozen? ⟨B, j, none⟩ = false
theorem AccOf.next {w w' : World} {B c : Nat} {l : List Nat} {N : Nat → Nat} (h : AccOf w B l c N) (q : Q w w') : AccOf w' B l c N :=
  ⟨fun j hj => q.cell (h.n j hj), h.r, q.cell h.m, q.cell h.c, fun j => by rw [q.2]; exact h.z j⟩
theorem AccOf.far {w w' : World} {B A c : Nat} {l : List Nat} {N : Nat → Nat} (h : AccOf w B l c N) (f : Fb A w w') (hA : B ≠ A) : AccOf w' B l c N :=
  ⟨fun j hj => f.cell (h.n j hj) hA, h.r, f.cell h.m hA, f.cell h.c hA, fun j => by rw [f.frz]; exact h.z j⟩
def AccAt (w : World) (B : Nat) (l : List Nat) : Prop := ∃ N, AccOf w B l l.length N
theorem AccAt.next {w w' : World} {B : Nat} {l : List Nat} (h : AccAt w B l) (q : Q w w') : AccAt w' B l := by
  obtain ⟨N, h⟩ := h
  exact ⟨N, h.next q⟩
theorem AccAt.far {w w' : World} {B A : Nat} {l : List Nat} (h : AccAt w B l) (f : Fb A w w') (hA : B ≠ A) : AccAt w' B l := by
  obtain ⟨N, h⟩ := h
  exact ⟨N, h.far f hA⟩
end Go.Proofs.YtieojgblamkgoaaGreatDoor
/- Accumulators: Add. -/
namespace Go.Proofs.YtieojgblamkgoaaGreatDoor
open Go.RowKit
set_option linter.unusedVariables false
set_option linter.unusedSimpArgs false

theorem set_same {w : World} {p : Addr} {u v : Value} (h : w.cell? p = some u) : (w.setCell p v).cell? p = some v := by
  obtain ⟨b, o, t⟩ := p
  simp [go_sem, h]
theorem set_off {w : World} {B i j : Nat} {v : Value} (h : i ≠ j) : (w.setCell ⟨B, i, none⟩ v).cell? ⟨B, j, none⟩ = w.cell? ⟨B, j, none⟩ :=
  World.cell?_setCell_other _ _ _ _ (fun e => h (by injection e))
/-- One sample more. -/
theorem AccOf.met {w : World} {B c x : Nat} {l : List Nat} {N : Nat → Nat} (hn : WIs w B N) (hr : Rep N (sumZ l + unK x)) (hm : ∃ u, w.cell? ⟨B, 5, none⟩ = some u) (hc : w.cell? ⟨B, 6, none⟩ = some (.int .i64 (c : Nat))) (hz : ∀ j, w.frozen? ⟨B, j, none⟩ = false) :
    AccOf (w.setCell ⟨B, 5, none⟩ (.int .i64 ((metV l ||| kindV x : Nat) : Int))) B (l ++ [x]) c N := by
  obtain ⟨u, hu⟩ := hm
  refine ⟨fun j hj => ?_, ?_, ?_, ?_, fun j => ?_⟩
  · rw [set_off (by omega)]; exact hn j hj
  · rw [sumZ_snoc]; exact hr
  · rw [metV_snoc]; exact set_same hu
  · rw [set_off (by decide)]; exact hc
  · rw [World.frozen?_setCell]; exact hz j
theorem AccOf.cnt {w : World} {B c c' : Nat} {l : List Nat} {N : Nat → Nat} (h : AccOf w B l c N) : AccOf (w.setCell ⟨B, 6, none⟩ (.int .i64 (c' : Nat))) B l c' N := by
  refine ⟨fun j hj => ?_, h.r, ?_, ?_, fun j => ?_⟩
  · rw [set_off (by omega)]; exact h.n j hj
  · rw [set_off (by decide)]; exact h.m
  · exact set_same h.c
  · rw [World.frozen?_setCell]; exact h.z j
theorem unK_fin {x : Nat} (h : kindV x = 2) : unK x = unZ x := if_pos h
theorem unK_odd {x : Nat} (h : kindV x ≠ 2) : unK x = 0 := if_neg h
theorem take_snoc {S : List Nat} {i : Nat} (h : i < S.length) : S.take (i + 1) = S.take i ++ [S.getD i 0] := by
  rw [List.getD_eq_getElem?_getD, List.getElem?_eq_getElem h, List.take_add_one, List.getElem?_eq_getElem h]
  rfl
set_option maxHeartbeats 4000000 in
set_option maxRecDepth 100000 in
theorem acc_add (v : Value) (S l : List Nat) (B c : Nat) (N : Nat → Nat) (w : World) (hA : AccOf w B l c N) (hv : USl w v S) (hg : ∀ g o cap, 0 < S.length → v = .slice (some ⟨g, o, none⟩) S.length cap → g ≠ B) (hb : ∀ i, S.getD i 0 < 4294967296) (hn : c + S.length ≤ 35184372087808) :
    Calls Tryz.prog 68 #[.pointer (some ⟨B, 0, none⟩), v] w fun e w' => e = .returned (.tuple #[]) ∧ (∃ N', AccOf w' B (l ++ S) (c + S.length) N') ∧ Fb B w w' := by
  obtain ⟨ad, cap, rfl⟩ := hv.form
  have HA : Hid (AccOf w B l c N) := hA
  have HV : Hid (USl w (.slice ad S.length cap) S) := hv
  have HG : Hid _ := hg
  have HB : Hid (∀ i, S.getD i 0 < 4294967296) := hb
  clear hA hv hg hb
  have he : Hid (S.take S.length = S) := List.take_of_length_le (Nat.le_refl _)
  go_enter Tryz.func68, Tryz.ntmps68
  go_wp2_with fail
  go_loopg [9] (S.length) (fun gh s9 wr => ∃ i : Nat, ∃ N', s9 = .int .i64 (i : Int) ∧ i ≤ S.length ∧ gh = S.length - i ∧ Hid (AccOf wr B (l ++ S.take i) c N') ∧ Hid (Fb B w wr))
  case atStart => exact ⟨0, N, rfl, by omega, rfl, by show AccOf w B (l ++ S.take 0) c N; rw [List.take_zero, List.append_nil]; exact HA.out, Fb.refl _ _⟩
  case round =>
    obtain ⟨i, N', rfl, hi, rfl, HR, HF⟩ := hrel
    by_cases hlt : i < S.length
    · obtain ⟨g, o, cap', hsl, hcap, hI⟩ := HV.out.some (by omega)
      have HNe : Hid (g ≠ B) := HG.out g o cap' (by omega) hsl
      injection hsl with hs1 hs2 hs3
      subst hs1 hs3
      clear hs2
      have hx := HB.out i
      have hc := HF.out.cell (hI i hlt) HNe.out
      have HT : Hid (l ++ S.take (i + 1) = l ++ S.take i ++ [S.getD i 0]) := by
        show l ++ S.take (i + 1) = _
        rw [take_snoc hlt, List.append_assoc]
      generalize S.getD i 0 = x at *
      generalize l ++ S.take i = l1 at *
      have hor := or_small (metV l1) (metV_lt l1) (kindV x) (kind_lt x)
      have c5 := HR.out.m
      have z5 := HR.out.z 5
      clear hI
      by_cases hk : kindV x = 2
      · have Hk : Hid (kindV x = 2) := hk
        clear hor
        have hor : bits .or .i64 (metV l1 : Int) 2 = ((metV l1 ||| 2 : Nat) : Int) := or_small (metV l1) (metV_lt l1) 2 (by decide)
        have bk : ((2 : Int) == 2) = true := rfl
        clear hk
        go_wp2_with fail
        refine (kind_any x hx _).mono ?_
        rintro e w1 ⟨rfl, rfl⟩
        rw [Hk.out]
        go_wp2_with fail
        refine (nadd_any N' x B HR.out.r.lt hx (kind_fin hx Hk.out) _ HR.out.n HR.out.z).mono ?_
        rintro e w2 ⟨rfl, hd⟩
        have c5' : w2.cell? ⟨B, 5, none⟩ = some (.int .i64 (metV l1 : Nat)) := by rw [hd.r 5 (by decide)]; exact c5
        have z5' : w2.frozen? ⟨B, 5, none⟩ = false := by rw [hd.fb.frz]; exact z5
        have HX : Hid (AccOf (w2.setCell ⟨B, 5, none⟩ (.int .i64 ((metV l1 ||| 2 : Nat) : Int))) B (l ++ S.take (i + 1)) c (adS N' x)) := by
          have := AccOf.met (l := l1) (x := x) (c := c) hd.c (by rw [unK_fin Hk.out]; exact HR.out.r.add (kind_fin hx Hk.out)) ⟨_, c5'⟩ (by rw [hd.r 6 (by decide)]; exact HR.out.c) (fun j => by rw [hd.fb.frz]; exact HR.out.z j)
          rw [Hk.out] at this
          rw [HT.out]
          exact this
        have HY : Hid (Fb B w (w2.setCell ⟨B, 5, none⟩ (.int .i64 ((metV l1 ||| 2 : Nat) : Int)))) := (HF.out.trans hd.fb).set rfl _
        clear hd c5 z5
        go_wp2_with fail
        go_roundg (S.length - (i + 1))
        case measure => go_light; omega
        case rel =>
          go_light
          exact ⟨i + 1, _, by simp, by omega, rfl, HX.out, HY.out⟩
      · have Hk : Hid (kindV x ≠ 2) := hk
        have bk : ((kindV x : Int) == 2) = false := by rw [beq_eq_false_iff_ne]; omega
        have HX : Hid (AccOf (wr.setCell ⟨B, 5, none⟩ (.int .i64 ((metV l1 ||| kindV x : Nat) : Int))) B (l ++ S.take (i + 1)) c N') := by
          have := AccOf.met (l := l1) (x := x) (c := c) HR.out.n (by rw [unK_odd Hk.out, Int.add_zero]; exact HR.out.r) ⟨_, c5⟩ HR.out.c HR.out.z
          rw [HT.out]
          exact this
        have HY : Hid (Fb B w (wr.setCell ⟨B, 5, none⟩ (.int .i64 ((metV l1 ||| kindV x : Nat) : Int)))) := HF.out.set rfl _
        clear hk
        go_wp2_with fail
        refine (kind_any x hx _).mono ?_
        rintro e w1 ⟨rfl, rfl⟩
        go_wp2_with fail
        go_roundg (S.length - (i + 1))
        case measure => go_light; omega
        case rel =>
          go_light
          exact ⟨i + 1, _, by simp, by omega, rfl, HX.out, HY.out⟩
    · obtain rfl : i = S.length := by omega
      have hge : ¬ (S.length : Int) < (S.length : Int) := by omega
      have c6 := HR.out.c
      have z6 := HR.out.z 6
      have ew : wrap64 ((c : Int) + (S.length : Int)) = ((c + S.length : Nat) : Int) := by unfold wrap64; omega
      have HX : Hid (AccOf (wr.setCell ⟨B, 6, none⟩ (.int .i64 ((c + S.length : Nat) : Int))) B (l ++ S) (c + S.length) N') := by
        have := HR.out.cnt (c' := c + S.length)
        rw [he.out] at this
        exact this
      have HY : Hid (Fb B w (wr.setCell ⟨B, 6, none⟩ (.int .i64 ((c + S.length : Nat) : Int)))) := HF.out.set rfl _
      clear HR HF HA
      go_wp2_with fail
      refine bodyPost_end (results_none Tryz.results68 _ _ _) rfl ⟨rfl, ⟨N', HX.out⟩, HY.out⟩
end Go.Proofs.YtieojgblamkgoaaGreatDoor
/- Accumulators: what they tell. -/
namespace Go.Proofs.YtieojgblamkgoaaGreatDoor
open Go.RowKit
set_option linter.unusedVariables false
set_option linter.unusedSimpArgs false

/-- A sum of finite samples, divided. -/
def exV (z : Int) (d : Nat) : Nat := Ieee.single.word (decide (z < 0)) (exR z.natAbs d)
/-- What is told of a list of samples. -/
def sumV (l : List Nat) (d : Nat) : Nat :=
  if metV l < 4 then (if sumZ l ≠ 0 then exV (sumZ l) d else if metV l = 1 then 2147483648 else 0)
  else if metV l < 8 then 2139095040 else if 8 ≤ metV l ∧ metV l < 12 then 4286578688 else 2143289344
theorem andnot3 : ∀ a : Nat, a < 32 → bits .andNot .i64 (a : Int) 3 = ((a / 4 * 4 : Nat) : Int) := by decide +kernel
theorem Rep.zero_iff {N : Nat → Nat} {z : Int} (h : Rep N z) (hz : 2 * z.natAbs < m64 ^ 5) : z = 0 ↔ ∀ j, j < 5 → N j = 0 := by
  rw [← valW_zero 5]
  constructor
  · intro h0
    have h1 := h.pos (by omega) (by generalize m64 ^ 5 = G at *; omega)
    have := h1.1
    omega
  · intro h0
    have h1 := h.eq
    rw [h0] at h1
    rcases Int.lt_trichotomy z 0 with g | g | g
    · have h2 := (h.neg g (by generalize m64 ^ 5 = G at *; omega)).2
      have h3 := (valW_zero 5).1 h0 4 (by decide)
      omega
    · exact g
    · have h2 := (h.pos (by omega) (by generalize m64 ^ 5 = G at *; omega)).1
      omega
theorem blen_fits {V : Nat} (h : 2 * V < m64 ^ 5) : blen V ≤ 320 := by
  have h1 : V < m64 ^ 5 := by
    generalize m64 ^ 5 = G at *
    omega
  rw [m64_pow] at h1
  have h2 := blen_le h1
  omega
set_option maxRecDepth 100000 in
set_option maxHeartbeats 1000000 in
theorem eq5 (a0 a1 a2 a3 a4 : Int) (w : World) : (Op.equalIn 10000 112 (.agg #[.int .u64 a0, .int .u64 a1, .int .u64 a2, .int .u64 a3, .int .u64 a4]) (.agg #[.int .u64 0, .int .u64 0, .int .u64 0, .int .u64 0, .int .u64 0])).run Tryz.prog w = .ok (a0 == 0 && (a1 == 0 && (a2 == 0 && (a3 == 0 && a4 == 0)))) w := by
  rw [show (10000 : Nat) = 9999 + 1 from rfl, Op.equalIn]
  simp [go_sem, List.range', List.forIn_cons]
  by_cases h0 : a0 = 0
  · by_cases h1 : a1 = 0
    · by_cases h2 : a2 = 0
      · by_cases h3 : a3 = 0
        · by_cases h4 : a4 = 0 <;> simp [h0, h1, h2, h3, h4]
        · simp [h0, h1, h2, h3]
      · simp [h0, h1, h2]
    · simp [h0, h1]
  · simp [h0]
theorem eq5_zero {N : Nat → Nat} (h : ∀ j, j < 5 → N j = 0) : ((N 0 : Int) == 0 && ((N 1 : Int) == 0 && ((N 2 : Int) == 0 && ((N 3 : Int) == 0 && (N 4 : Int) == 0)))) = true := by
  rw [h 0 (by decide), h 1 (by decide), h 2 (by decide), h 3 (by decide), h 4 (by decide)]; rfl
theorem eq5_some {N : Nat → Nat} (h : ¬ ∀ j, j < 5 → N j = 0) : ((N 0 : Int) == 0 && ((N 1 : Int) == 0 && ((N 2 : Int) == 0 && ((N 3 : Int) == 0 && (N 4 : Int) == 0)))) = false := by
  rw [Bool.eq_false_iff]
  intro e
  simp only [Bool.and_eq_true, beq_iff_eq] at e
  refine h (fun j hj => ?_)
  rcases j with _ | _ | _ | _ | _ | j
  · omega
  · have := e.2.1; show N 1 = 0; omega
  · have := e.2.2.1; show N 2 = 0; omega
  · have := e.2.2.2.1; show N 3 = 0; omega
  · have := e.2.2.2.2; show N 4 = 0; omega
  · omega
set_option maxHeartbeats 2000000 in
set_option maxRecDepth 100000 in
theorem finite_any (l : List Nat) (B c : Nat) (N : Nat → Nat) (w : World) (hA : AccOf w B l c N) (hz : 2 * (sumZ l).natAbs < m64 ^ 5) (d : Nat) (hd : 0 < d) (hd' : d < 4294967296) (hT : Tab w) :
    Calls Tryz.prog 93 #[.pointer (some ⟨B, 0, none⟩), .int .u64 (d : Int)] w fun e w' => e = .returned (.int .u32 ((if sumZ l ≠ 0 then exV (sumZ l) d else if metV l = 1 then 2147483648 else 0 : Nat) : Int)) ∧ Q w w' := by
  have hzi := hA.r.zero_iff hz
  have c0 := hA.n 0 (by decide)
  have c1 := hA.n 1 (by decide)
  have c2 := hA.n 2 (by decide)
  have c3 := hA.n 3 (by decide)
  have c4 := hA.n 4 (by decide)
  have c5 := hA.m
  by_cases h0 : sumZ l = 0
  · rw [if_neg (fun h => h h0)]
    have hl : ∀ w, (Op.equalIn 10000 112 (.agg #[.int .u64 (N 0), .int .u64 (N 1), .int .u64 (N 2), .int .u64 (N 3), .int .u64 (N 4)]) (.agg #[.int .u64 0, .int .u64 0, .int .u64 0, .int .u64 0, .int .u64 0])).run Tryz.prog w = .ok true w := fun w => by rw [eq5, eq5_zero (hzi.1 h0)]
    generalize metV l = m at *
    clear hzi h0 hz hA hT
    by_cases h1 : m = 1
    · rw [if_pos h1]
      have b1 : ((m : Int) == 1) = true := by rw [beq_iff_eq]; omega
      clear h1
      go_enter Tryz.func93, Tryz.ntmps93
      go_wp2_with fail
      go_ret
      exact ⟨rfl, Q.refl _⟩
    · rw [if_neg h1]
      have b1 : ((m : Int) == 1) = false := by rw [beq_eq_false_iff_ne]; omega
      clear h1
      go_enter Tryz.func93, Tryz.ntmps93
      go_wp2_with fail
      go_ret
      exact ⟨rfl, Q.refl _⟩
  · rw [if_pos h0]
    have hl : ∀ w, (Op.equalIn 10000 112 (.agg #[.int .u64 (N 0), .int .u64 (N 1), .int .u64 (N 2), .int .u64 (N 3), .int .u64 (N 4)]) (.agg #[.int .u64 0, .int .u64 0, .int .u64 0, .int .u64 0, .int .u64 0])).run Tryz.prog w = .ok false w := fun w => by rw [eq5, eq5_some (fun h => h0 (hzi.2 h))]
    have HT : Hid (Tab w) := hT
    have HR : Hid (Rep N (sumZ l)) := hA.r
    have HZ : Hid (sumZ l ≠ 0) := h0
    have HW : Hid (toldD (some (Ieee.double.read (oddW (decide (sumZ l < 0)) (sumZ l).natAbs d))) = exV (sumZ l) d) := told_odd _ (by omega) hd (blen_fits hz)
    have HF : Hid (2 * (sumZ l).natAbs < m64 ^ 5) := hz
    generalize sumZ l = z at *
    clear hzi h0 hz hA hT
    go_enter Tryz.func93, Tryz.ntmps93
    go_wp2_with fail
    refine (divided_any N z HR.out HZ.out HF.out d hd hd' _ HT.out).mono ?_
    rintro e w1 ⟨rfl, q1⟩
    go_wp2_with fail
    refine (snarrow_any _ _).mono ?_
    rintro e w2 ⟨rfl, q2⟩
    rw [HW.out]
    go_wp2_with fail
    go_ret
    exact ⟨rfl, q1.trans q2⟩
set_option maxHeartbeats 2000000 in
set_option maxRecDepth 100000 in
theorem adivided_any (l : List Nat) (B c : Nat) (N : Nat → Nat) (w : World) (hA : AccOf w B l c N) (hz : 2 * (sumZ l).natAbs < m64 ^ 5) (d : Nat) (hd : 0 < d) (hd' : d < 4294967296) (hT : Tab w) :
    Calls Tryz.prog 71 #[.pointer (some ⟨B, 0, none⟩), .int .u64 (d : Int)] w fun e w' => e = .returned (.int .u32 (sumV l d : Nat)) ∧ Q w w' := by
  have c5 := hA.m
  have hm := metV_lt l
  have e1 := andnot3 (metV l) hm
  have K := fun w (hA : AccOf w B l c N) (hT : Tab w) => finite_any l B c N w hA hz d hd hd' hT
  have HK : Hid _ := K
  have HA : Hid (AccOf w B l c N) := hA
  have HT : Hid (Tab w) := hT
  have HV : Hid (sumV l d = if metV l < 4 then (if sumZ l ≠ 0 then exV (sumZ l) d else if metV l = 1 then 2147483648 else 0) else if metV l < 8 then 2139095040 else if 8 ≤ metV l ∧ metV l < 12 then 4286578688 else 2143289344) := rfl
  clear hA hT K hz
  by_cases h1 : metV l < 4
  · have HV : Hid (sumV l d = if sumZ l ≠ 0 then exV (sumZ l) d else if metV l = 1 then 2147483648 else 0) := by
      show sumV l d = _
      rw [HV.out, if_pos h1]
    have e2 : ((metV l / 4 * 4 : Nat) : Int) = 0 := by omega
    rw [e2] at e1
    clear e2 h1 hm
    go_enter Tryz.func71, Tryz.ntmps71
    go_wp2_with fail
    refine (HK.out _ HA.out HT.out).mono ?_
    rintro e w1 ⟨rfl, q1⟩
    rw [← HV.out]
    go_wp2_with fail
    go_ret
    exact ⟨rfl, q1⟩
  · by_cases h2 : metV l < 8
    · have HV : Hid (sumV l d = 2139095040) := by
        show sumV l d = _
        rw [HV.out, if_neg h1, if_pos h2]
      have e2 : ((metV l / 4 * 4 : Nat) : Int) = 4 := by omega
      rw [e2] at e1
      clear e2 h1 h2 hm
      rw [HV.out]
      go_enter Tryz.func71, Tryz.ntmps71
      go_wp2_with fail
      go_ret
      exact ⟨rfl, Q.refl _⟩
    · by_cases h3 : metV l < 12
      · have HV : Hid (sumV l d = 4286578688) := by
          show sumV l d = _
          rw [HV.out, if_neg h1, if_neg h2, if_pos ⟨by omega, h3⟩]
        have e2 : ((metV l / 4 * 4 : Nat) : Int) = 8 := by omega
        rw [e2] at e1
        clear e2 h1 h2 h3 hm
        rw [HV.out]
        go_enter Tryz.func71, Tryz.ntmps71
        go_wp2_with fail
        go_ret
        exact ⟨rfl, Q.refl _⟩
      · have HV : Hid (sumV l d = 2143289344) := by
          show sumV l d = _
          rw [HV.out, if_neg h1, if_neg h2, if_neg (fun h => h3 h.2)]
        obtain ⟨m, hm'⟩ : ∃ m, metV l / 4 * 4 = m := ⟨_, rfl⟩
        rw [hm'] at e1
        have b0 : ((m : Int) == 0) = false := by rw [beq_eq_false_iff_ne]; omega
        have b1 : ((m : Int) == 4) = false := by rw [beq_eq_false_iff_ne]; omega
        have b2 : ((m : Int) == 8) = false := by rw [beq_eq_false_iff_ne]; omega
        clear hm' h1 h2 h3 hm
        rw [HV.out]
        go_enter Tryz.func71, Tryz.ntmps71
        go_wp2_with fail
        go_ret
        exact ⟨rfl, Q.refl _⟩
set_option maxHeartbeats 400000 in
theorem asum_any (l : List Nat) (B c : Nat) (N : Nat → Nat) (w : World) (hA : AccOf w B l c N) (hz : 2 * (sumZ l).natAbs < m64 ^ 5) (hT : Tab w) :
    Calls Tryz.prog 37 #[.pointer (some ⟨B, 0, none⟩)] w fun e w' => e = .returned (.int .u32 (sumV l 1 : Nat)) ∧ Q w w' := by
  go_enter Tryz.func37, Tryz.ntmps37
  go_wp2_with fail
  refine (adivided_any l B c N _ hA hz 1 (by decide) (by decide) hT).mono ?_
  rintro e w1 ⟨rfl, q1⟩
  go_wp2_with fail
  go_ret
  exact ⟨rfl, q1⟩
/-- What Over tells. -/
def overV (l : List Nat) (n : Int) : Nat × Int := if n < 1 ∨ 4294967295 < n then (0, 33) else (sumV l n.toNat, 0)
set_option maxHeartbeats 1000000 in
theorem aover_any (l : List Nat) (B c : Nat) (N : Nat → Nat) (w : World) (hA : AccOf w B l c N) (hz : 2 * (sumZ l).natAbs < m64 ^ 5) (hT : Tab w) (n : Int) :
    Calls Tryz.prog 86 #[.pointer (some ⟨B, 0, none⟩), .int .i64 n] w fun e w' => e = .returned (.tuple #[.int .u32 ((overV l n).1 : Nat), .int .i64 (overV l n).2]) ∧ Q w w' := by
  unfold overV
  by_cases h : n < 1
  · rw [if_pos (Or.inl h)]
    clear hA hz hT
    go_enter Tryz.func86, Tryz.ntmps86
    go_wp2_with fail
    go_ret2
    exact ⟨rfl, Q.refl _⟩
  · by_cases h2 : 4294967295 < n
    · rw [if_pos (Or.inr h2)]
      clear hA hz hT
      go_enter Tryz.func86, Tryz.ntmps86
      go_wp2_with fail
      go_ret2
      exact ⟨rfl, Q.refl _⟩
    · rw [if_neg (by omega)]
      obtain ⟨d, rfl⟩ : ∃ d : Nat, n = (d : Int) := ⟨n.toNat, by omega⟩
      have HA : Hid (AccOf w B l c N) := hA
      have HT : Hid (Tab w) := hT
      have HZ : Hid (2 * (sumZ l).natAbs < m64 ^ 5) := hz
      have h3 : 0 < d := by omega
      have h4 : d < 4294967296 := by omega
      have ew : IntKind.u64.wrap (d : Int) = (d : Int) := by rw [IntKind.wrap_u64]; omega
      clear hA hT hz
      go_enter Tryz.func86, Tryz.ntmps86
      go_wp2_with fail
      refine (adivided_any l B c N _ HA.out HZ.out d h3 h4 HT.out).mono ?_
      rintro e w1 ⟨rfl, q1⟩
      go_wp2_with fail
      go_ret2
      exact ⟨rfl, q1⟩
set_option maxHeartbeats 400000 in
theorem amean_any (l : List Nat) (B c : Nat) (N : Nat → Nat) (w : World) (hA : AccOf w B l c N) (hz : 2 * (sumZ l).natAbs < m64 ^ 5) (hT : Tab w) :
    Calls Tryz.prog 65 #[.pointer (some ⟨B, 0, none⟩)] w fun e w' => e = .returned (.tuple #[.int .u32 ((overV l c).1 : Nat), .int .i64 (overV l c).2]) ∧ Q w w' := by
  have c6 := hA.c
  go_enter Tryz.func65, Tryz.ntmps65
  go_wp2_with fail
  refine (aover_any l B c N _ hA hz hT c).mono ?_
  rintro e w1 ⟨rfl, q1⟩
  go_wp2_with fail
  go_ret2
  exact ⟨rfl, q1⟩
set_option maxHeartbeats 400000 in
theorem acount_any (B : Nat) (c : Int) (w : World) (c6 : w.cell? ⟨B, 6, none⟩ = some (.int .i64 c)) :
    Calls Tryz.prog 32 #[.pointer (some ⟨B, 0, none⟩)] w fun e w' => e = .returned (.int .i64 c) ∧ w' = w := by
  go_enter Tryz.func32, Tryz.ntmps32
  go_wp2_with fail
  go_ret
  exact ⟨rfl, rfl⟩
end Go.Proofs.YtieojgblamkgoaaGreatDoor
/- Accumulators: New, Copy, Merge, Exact. -/
namespace Go.Proofs.YtieojgblamkgoaaGreatDoor
open Go.RowKit
set_option linter.unusedVariables false
set_option linter.unusedSimpArgs false

def accObj (a0 a1 a2 a3 a4 m c : Int) : Obj := .cells #[.int .u64 a0, .int .u64 a1, .int .u64 a2, .int .u64 a3, .int .u64 a4, .int .i64 m, .int .i64 c] 114
theorem acc_made (w : World) (l : List Nat) (c : Nat) (N : Nat → Nat) (hr : Rep N (sumZ l)) : AccOf (w.alloc (accObj (N 0) (N 1) (N 2) (N 3) (N 4) (metV l : Nat) c)) w.heap.size l c N := by
  unfold accObj
  refine ⟨fun j hj => ?_, hr, by simp [go_sem], by simp [go_sem], fun j => by simp [go_sem]⟩
  rcases j with _ | _ | _ | _ | _ | j
  · simp [go_sem]
  · simp [go_sem]
  · simp [go_sem]
  · simp [go_sem]
  · simp [go_sem]
  · omega
theorem acc_nil (w : World) : AccOf (w.alloc (accObj 0 0 0 0 0 0 0)) w.heap.size [] 0 (fun _ => 0) := acc_made w [] 0 (fun _ => 0) Rep.nil
theorem acc_q (w : World) (a0 a1 a2 a3 a4 m c : Int) : Q w (w.alloc (accObj a0 a1 a2 a3 a4 m c)) := (Q.refl w).cells _ _
set_option maxHeartbeats 400000 in
theorem new_any (w : World) : Calls Tryz.prog 39 #[] w fun e w' => e = .returned (.pointer (some ⟨w.heap.size, 0, none⟩)) ∧ AccOf w' w.heap.size [] 0 (fun _ => 0) ∧ Q w w' ∧ w.heap.size < w'.heap.size := by
  go_enter Tryz.func39, Tryz.ntmps39
  go_wp2_with fail
  go_ret
  exact ⟨rfl, acc_nil w, acc_q w 0 0 0 0 0 0 0, by simp [go_sem]⟩
/-- Five words written. -/
def put5 (w : World) (A : Nat) (D : Nat → Nat) : World := ((((w.setCell ⟨A, 0, none⟩ (.int .u64 (D 0 : Nat))).setCell ⟨A, 1, none⟩ (.int .u64 (D 1 : Nat))).setCell ⟨A, 2, none⟩ (.int .u64 (D 2 : Nat))).setCell ⟨A, 3, none⟩ (.int .u64 (D 3 : Nat))).setCell ⟨A, 4, none⟩ (.int .u64 (D 4 : Nat))
theorem put5_fb {w : World} {A : Nat} {D : Nat → Nat} : Fb A w (put5 w A D) := (((((Fb.refl A w).set rfl _).set rfl _).set rfl _).set rfl _).set rfl _
theorem put5_off {w : World} {A B j : Nat} {D : Nat → Nat} (h : 5 ≤ j) : (put5 w A D).cell? ⟨B, j, none⟩ = w.cell? ⟨B, j, none⟩ := by
  unfold put5
  rw [World.cell?_setCell_other _ _ _ _ (fun e => by injection e with _ e; omega), World.cell?_setCell_other _ _ _ _ (fun e => by injection e with _ e; omega), World.cell?_setCell_other _ _ _ _ (fun e => by injection e with _ e; omega), World.cell?_setCell_other _ _ _ _ (fun e => by injection e with _ e; omega), World.cell?_setCell_other _ _ _ _ (fun e => by injection e with _ e; omega)]
theorem put5_in {w : World} {A : Nat} {N D : Nat → Nat} (h : WIs w A N) : WIs (put5 w A D) A D := by
  have c0 := h 0 (by decide)
  have c1 := h 1 (by decide)
  have c2 := h 2 (by decide)
  have c3 := h 3 (by decide)
  have c4 := h 4 (by decide)
  unfold put5
  intro j hj
  rcases j with _ | _ | _ | _ | _ | j
  · simp [go_sem, c0, c1, c2, c3, c4]
  · simp [go_sem, c0, c1, c2, c3, c4]
  · simp [go_sem, c0, c1, c2, c3, c4]
  · simp [go_sem, c0, c1, c2, c3, c4]
  · simp [go_sem, c0, c1, c2, c3, c4]
  · omega
set_option maxHeartbeats 4000000 in
set_option maxRecDepth 100000 in
theorem merge_any (l m : List Nat) (A B c c' : Nat) (N M : Nat → Nat) (w : World) (hA : AccOf w A l c N) (hB : AccOf w B m c' M) (hn : c + c' ≤ 35184372087808) :
    Calls Tryz.prog 44 #[.pointer (some ⟨A, 0, none⟩), .pointer (some ⟨B, 0, none⟩)] w fun e w' => e = .returned (.tuple #[]) ∧ AccOf w' A (l ++ m) (c + c') (dgV N M) ∧ Fb A w w' := by
  have a0 := hA.n 0 (by decide)
  have a1 := hA.n 1 (by decide)
  have a2 := hA.n 2 (by decide)
  have a3 := hA.n 3 (by decide)
  have a4 := hA.n 4 (by decide)
  have b0 := hB.n 0 (by decide)
  have b1 := hB.n 1 (by decide)
  have b2 := hB.n 2 (by decide)
  have b3 := hB.n 3 (by decide)
  have b4 := hB.n 4 (by decide)
  have da0 := qw_cell a0
  have da1 := qw_cell a1
  have da2 := qw_cell a2
  have da3 := qw_cell a3
  have da4 := qw_cell a4
  have db0 := qw_cell b0
  have db1 := qw_cell b1
  have db2 := qw_cell b2
  have db3 := qw_cell b3
  have db4 := qw_cell b4
  have n0 := qw_some w
  have HA : Hid (AccOf w A l c N) := hA
  have HB : Hid (AccOf w B m c' M) := hB
  have HP : Hid (∀ n : QW w, Calls Tryz.prog 72 #[.agg #[.int .u64 (N 0 : Nat), .int .u64 (N 1 : Nat), .int .u64 (N 2 : Nat), .int .u64 (N 3 : Nat), .int .u64 (N 4 : Nat)], .agg #[.int .u64 (M 0 : Nat), .int .u64 (M 1 : Nat), .int .u64 (M 2 : Nat), .int .u64 (M 3 : Nat), .int .u64 (M 4 : Nat)]] n.x fun e w' => e = .returned (.agg #[.int .u64 (dgV N M 0 : Nat), .int .u64 (dgV N M 1 : Nat), .int .u64 (dgV N M 2 : Nat), .int .u64 (dgV N M 3 : Nat), .int .u64 (dgV N M 4 : Nat)]) ∧ Q n.x w') := fun n => nplus_any N M hA.r.lt hB.r.lt n.x
  clear hA hB a0 a1 a2 a3 a4 b0 b1 b2 b3 b4
  go_enter Tryz.func44, Tryz.ntmps44
  go_wp2_with fail
  refine wp_lastR 12 rfl _ rfl (by kernel_rfl) (by kernel_rfl) (by kernel_rfl) ?_
  simp only [List.take_succ_cons, List.take_zero]
  repeat (first | go_big_quiet_step (first | (go_at_call 72; exact calls_qw (HP.out _))) | quiet_step (first | (go_at_call 72; exact calls_qw (HP.out _))))
  refine wpQuiet_nil ?_
  intro nn K hK
  have HA1 : Hid (AccOf nn.x A l c N) := HA.out.next nn.q
  have HB1 : Hid (AccOf nn.x B m c' M) := HB.out.next nn.q
  have HQ1 : Hid (Q w nn.x) := nn.q
  clear HP da0 da1 da2 da3 da4 db0 db1 db2 db3 db4 n0
  have e0 := HA1.out.n 0 (by decide)
  have e1 := HA1.out.n 1 (by decide)
  have e2 := HA1.out.n 2 (by decide)
  have e3 := HA1.out.n 3 (by decide)
  have e4 := HA1.out.n 4 (by decide)
  have z0 := HA1.out.z
  go_wp2_with fail
  have HF2 : Hid (Fb A w (put5 nn.x A (dgV N M))) := (HQ1.out.fb A).trans put5_fb
  have HN2 : Hid (WIs (put5 nn.x A (dgV N M)) A (dgV N M)) := put5_in HA1.out.n
  have a5 : (put5 nn.x A (dgV N M)).cell? ⟨A, 5, none⟩ = some (.int .i64 (metV l : Nat)) := by rw [put5_off (by decide)]; exact HA1.out.m
  have a6 : (put5 nn.x A (dgV N M)).cell? ⟨A, 6, none⟩ = some (.int .i64 (c : Nat)) := by rw [put5_off (by decide)]; exact HA1.out.c
  have b5 : (put5 nn.x A (dgV N M)).cell? ⟨B, 5, none⟩ = some (.int .i64 (metV m : Nat)) := by rw [put5_off (by decide)]; exact HB1.out.m
  have b6 : (put5 nn.x A (dgV N M)).cell? ⟨B, 6, none⟩ = some (.int .i64 (c' : Nat)) := by rw [put5_off (by decide)]; exact HB1.out.c
  have z2 : ∀ j, (put5 nn.x A (dgV N M)).frozen? ⟨A, j, none⟩ = false := fun j => by rw [put5_fb.frz]; exact z0 j
  have HR : Hid (Rep (dgV N M) (sumZ (l ++ m))) := by
    show Rep (dgV N M) (sumZ (l ++ m))
    rw [sumZ_append]; exact HA.out.r.plus HB.out.r
  obtain ⟨y, hy⟩ : ∃ y, put5 nn.x A (dgV N M) = y := ⟨_, rfl⟩
  rw [hy] at a5 a6 b5 b6 z2 HF2 HN2
  unfold put5 at hy
  rw [hy]
  clear hy e0 e1 e2 e3 e4 z0 HA1 HB1 HQ1 HA HB
  have hor := or_small (metV l) (metV_lt l) (metV m) (metV_lt m)
  have HM : Hid (metV (l ++ m) = metV l ||| metV m) := metV_append l m
  generalize metV l = ml at *
  generalize metV m = mm at *
  have da5 := qw_cell a5
  have db5 := qw_cell b5
  have n0 := qw_some y
  refine wp_lastR 11 rfl _ rfl (by kernel_rfl) (by kernel_rfl) (by kernel_rfl) ?_
  simp only [List.take_succ_cons, List.take_zero]
  repeat (first | go_big_quiet_step (fail) | quiet_step (fail))
  refine wpQuiet_nil ?_
  intro n2 K2 hK2
  have f5 := n2.q.cell a5
  have f6 := n2.q.cell a6
  have g6 := n2.q.cell b6
  have zf : ∀ j, n2.x.frozen? ⟨A, j, none⟩ = false := fun j => by rw [n2.q.2]; exact z2 j
  have HF3 : Hid (Fb A w n2.x) := HF2.out.trans (n2.q.fb A)
  have HN3 : Hid (WIs n2.x A (dgV N M)) := fun j hj => n2.q.cell (HN2.out j hj)
  clear da5 db5 n0 a5 a6 b5 b6 z2 HF2 HN2
  generalize n2.x = y2 at *
  have z5 := zf 5
  go_wp2_with fail
  have h6 : (y2.setCell ⟨A, 5, none⟩ (.int .i64 ((ml ||| mm : Nat) : Int))).cell? ⟨A, 6, none⟩ = some (.int .i64 (c : Nat)) := by rw [set_off (by decide)]; exact f6
  have k6 : (y2.setCell ⟨A, 5, none⟩ (.int .i64 ((ml ||| mm : Nat) : Int))).cell? ⟨B, 6, none⟩ = some (.int .i64 (c' : Nat)) := by
    rw [World.cell?_setCell_other _ _ _ _ (fun e => by injection e with _ e; omega)]; exact g6
  have h5 : (y2.setCell ⟨A, 5, none⟩ (.int .i64 ((ml ||| mm : Nat) : Int))).cell? ⟨A, 5, none⟩ = some (.int .i64 ((ml ||| mm : Nat) : Int)) := set_same f5
  have HN4 : Hid (WIs (y2.setCell ⟨A, 5, none⟩ (.int .i64 ((ml ||| mm : Nat) : Int))) A (dgV N M)) := fun j hj => by rw [set_off (by omega)]; exact HN3.out j hj
  have z4 : ∀ j, (y2.setCell ⟨A, 5, none⟩ (.int .i64 ((ml ||| mm : Nat) : Int))).frozen? ⟨A, j, none⟩ = false := fun j => by rw [World.frozen?_setCell]; exact zf j
  have HF4 : Hid (Fb A w (y2.setCell ⟨A, 5, none⟩ (.int .i64 ((ml ||| mm : Nat) : Int)))) := HF3.out.set rfl _
  generalize y2.setCell ⟨A, 5, none⟩ (.int .i64 ((ml ||| mm : Nat) : Int)) = y3 at *
  clear f5 f6 g6 zf HF3 HN3 z5 hor
  have da6 := qw_cell h6
  have db6 := qw_cell k6
  have n0 := qw_some y3
  have ew : wrap64 ((c : Int) + (c' : Int)) = ((c + c' : Nat) : Int) := by unfold wrap64; omega
  refine wp_lastR 11 rfl _ rfl (by kernel_rfl) (by kernel_rfl) (by kernel_rfl) ?_
  simp only [List.take_succ_cons, List.take_zero]
  repeat (first | go_big_quiet_step (fail) | quiet_step (fail))
  refine wpQuiet_nil ?_
  intro n3 K3 hK3
  have f5 := n3.q.cell h5
  have f6 := n3.q.cell h6
  have zf : ∀ j, n3.x.frozen? ⟨A, j, none⟩ = false := fun j => by rw [n3.q.2]; exact z4 j
  have HF5 : Hid (Fb A w n3.x) := HF4.out.trans (n3.q.fb A)
  have HN5 : Hid (WIs n3.x A (dgV N M)) := fun j hj => n3.q.cell (HN4.out j hj)
  clear da6 db6 n0 h5 h6 k6 z4 HF4 HN4
  generalize n3.x = y4 at *
  have z6 := zf 6
  have HX : Hid (AccOf (y4.setCell ⟨A, 6, none⟩ (.int .i64 ((c + c' : Nat) : Int))) A (l ++ m) (c + c') (dgV N M)) := by
    have h : AccOf y4 A (l ++ m) c (dgV N M) := ⟨HN5.out, HR.out, by rw [HM.out]; exact f5, f6, zf⟩
    exact h.cnt
  have HY : Hid (Fb A w (y4.setCell ⟨A, 6, none⟩ (.int .i64 ((c + c' : Nat) : Int)))) := HF5.out.set rfl _
  go_wp2_with fail
  refine bodyPost_end (results_none Tryz.results44 _ _ _) rfl ⟨rfl, HX.out, HY.out⟩
end Go.Proofs.YtieojgblamkgoaaGreatDoor
/- What stays while something is written; rows of the call's own; appending in regions. -/
namespace Go.Proofs.YtieojgblamkgoaaGreatDoor
open Go.RowKit
set_option linter.unusedVariables false
set_option linter.unusedSimpArgs false

/-- The blocks of R stay. -/
structure Fr (w w' : World) (R : Nat → Prop) : Prop where
  os : w'.os = w.os
  tape : w'.tape = w.tape
  output : w'.output = w.output
  size : w.heap.size ≤ w'.heap.size
  block : ∀ b, b < w.heap.size → R b → w'.heap[b]? = w.heap[b]?
  frz : ∀ a, w'.frozen? a = w.frozen? a
theorem Q.fr {w w' : World} (q : Q w w') (R : Nat → Prop) : Fr w w' R := ⟨q.1.os, q.1.tape, q.1.output, q.1.size, fun b hb _ => q.1.block b hb, q.2⟩
theorem Fr.q {w0 w w' : World} {R : Nat → Prop} (f : Fr w w' R) (q : Q w0 w) (hR : ∀ b, b < w0.heap.size → R b) : Q w0 w' :=
  ⟨⟨f.os.trans q.1.os, f.tape.trans q.1.tape, f.output.trans q.1.output, Nat.le_trans q.1.size f.size, fun b hb => (f.block b (Nat.lt_of_lt_of_le hb q.1.size) (hR b hb)).trans (q.1.block b hb)⟩, fun a => (f.frz a).trans (q.2 a)⟩
theorem Fr.trans {a b c : World} {R : Nat → Prop} (f : Fr a b R) (g : Fr b c R) : Fr a c R :=
  ⟨g.os.trans f.os, g.tape.trans f.tape, g.output.trans f.output, Nat.le_trans f.size g.size, fun x hx hr => (g.block x (Nat.lt_of_lt_of_le hx f.size) hr).trans (f.block x hx hr), fun x => (g.frz x).trans (f.frz x)⟩
theorem Fr.cell {a b : World} {R : Nat → Prop} (f : Fr a b R) {p : Addr} {v : Value} (h : a.cell? p = some v) (hr : R p.block) : b.cell? p = some v :=
  (World.cell?_of_block (f.block p.block (World.block_lt_of_cell? _ _ h) hr)).trans h
theorem Fr.set {a b : World} {R : Nat → Prop} (f : Fr a b R) {p : Addr} (hp : ¬ R p.block) (v : Value) : Fr a (b.setCell p v) R :=
  ⟨f.os, f.tape, f.output, by simpa [World.setCell] using f.size, fun x hx hr => (Below.heap_setCell _ _ _ _ (fun e => hp (by rw [← e]; exact hr))).trans (f.block x hx hr), fun x => (World.frozen?_setCell _ _ _ _).trans (f.frz x)⟩
end Go.Proofs.YtieojgblamkgoaaGreatDoor
/- Worlds in which what was there is as it was. (Out of RkD.) -/
namespace Go.Proofs.YtieojgblamkgoaaGreatDoor
open Go.RowKit
set_option linter.unusedVariables false
set_option linter.unusedSimpArgs false

/-- What was there is as it was; of what is new nothing is said. -/
def Qb (w w' : World) : Prop := Below w.heap.size w w'
theorem Qb.refl (w : World) : Qb w w := Below.refl _ _
theorem Q.qb {w w' : World} (h : Q w w') : Qb w w' := h.1
theorem Qb.trans {a b c : World} (h : Qb a b) (k : Qb b c) : Qb a c := Below.trans h (Below.mono k h.size)
theorem Qb.cell {a b : World} (h : Qb a b) {p : Addr} {v : Value} (hc : a.cell? p = some v) : b.cell? p = some v := by
  have h' : Below a.heap.size a b := h
  rw [h'.cell (World.block_lt_of_cell? _ _ hc)]; exact hc
theorem Qb.frozen {a b : World} (h : Qb a b) {p : Addr} (hp : p.block < a.heap.size) : b.frozen? p = a.frozen? p := by
  have h' : Below a.heap.size a b := h
  exact h'.frozen hp
theorem Qb.sz {a b : World} (h : Qb a b) : a.heap.size ≤ b.heap.size := h.size
theorem Qb.drew {a b : World} (h : Qb a b) : Qb a b.drew := Below.drew h
theorem USl.nextB {w w' : World} {v : Value} {l : List Nat} (h : USl w v l) (q : Qb w w') : USl w' v l := by
  rcases h with ⟨g, o, cap, h1, h2, h3⟩ | h
  · exact Or.inl ⟨g, o, cap, h1, h2, fun i hi => q.cell (h3 i hi)⟩
  · exact Or.inr h
theorem VR.nextB {x x' : World} {g n : Nat} {F : Nat → Value} (h : VR x g n F) (hg : g < x.heap.size) (q : Qb x x') : VR x' g n F :=
  ⟨fun i hi => q.cell (h.cell i hi), fun j => by rw [q.frozen (by exact hg)]; exact h.free j⟩

end Go.Proofs.YtieojgblamkgoaaGreatDoor
/- stat: what a stat is in memory; New. -/
namespace Go.Proofs.YtieojgblamkgoaaGreatDoor
open Go.RowKit
set_option linter.unusedVariables false
set_option linter.unusedSimpArgs false

/-- A stat of a list of samples. -/
structure StAt (w : World) (P A H b kc : Nat) (L : List Nat) : Prop where
  b1 : 1 ≤ b
  b2 : b ≤ 12
  p0 : w.cell? ⟨P, 0, none⟩ = some (.pointer (some ⟨A, 0, none⟩))
  p1 : w.cell? ⟨P, 1, none⟩ = some (.int .i64 (b : Int))
  p2 : w.cell? ⟨P, 2, none⟩ = some (.slice (some ⟨H, 0, none⟩) (2 ^ b) kc)
  p3 : w.cell? ⟨P, 3, none⟩ = some (.int .u32 (lowK L : Nat))
  p4 : w.cell? ⟨P, 4, none⟩ = some (.int .u32 (topK L : Nat))
  p5 : w.cell? ⟨P, 5, none⟩ = some (.int .i64 (nanC L : Nat))
  fz : ∀ j, w.frozen? ⟨P, j, none⟩ = false
  acc : AccAt w A L
  tal : VR w H (2 ^ b) (fun j => .int .i64 ((clsC b L j : Nat) : Int))
  cap : 2 ^ b ≤ kc
  pa : P ≠ A
  ph : P ≠ H
  ah : A ≠ H
/-- The blocks of a stat are apart from others. -/
def stB (P A H : Nat) (x : Nat) : Prop := x ≠ P ∧ x ≠ A ∧ x ≠ H
theorem AccAt.keep {w w' : World} {A : Nat} {L : List Nat} {R : Nat → Prop} (h : AccAt w A L) (f : Fr w w' R) (hR : R A) : AccAt w' A L := by
  obtain ⟨N, h⟩ := h
  exact ⟨N, fun j hj => f.cell (h.n j hj) hR, h.r, f.cell h.m hR, f.cell h.c hR, fun j => (f.frz _).trans (h.z j)⟩
theorem VR.keep {w w' : World} {g n : Nat} {F : Nat → Value} {R : Nat → Prop} (h : VR w g n F) (f : Fr w w' R) (hR : R g) : VR w' g n F := ⟨fun i hi => f.cell (h.cell i hi) hR, fun j => (f.frz _).trans (h.free j)⟩
theorem StAt.keep {w w' : World} {P A H b kc : Nat} {L : List Nat} {R : Nat → Prop} (h : StAt w P A H b kc L) (f : Fr w w' R) (hP : R P) (hA : R A) (hH : R H) : StAt w' P A H b kc L :=
  ⟨h.b1, h.b2, f.cell h.p0 hP, f.cell h.p1 hP, f.cell h.p2 hP, f.cell h.p3 hP, f.cell h.p4 hP, f.cell h.p5 hP, fun j => (f.frz _).trans (h.fz j), h.acc.keep f hA, h.tal.keep f hH, h.cap, h.pa, h.ph, h.ah⟩
theorem StAt.next {w w' : World} {P A H b kc : Nat} {L : List Nat} (h : StAt w P A H b kc L) (q : Q w w') : StAt w' P A H b kc L := h.keep (q.fr fun _ => True) trivial trivial trivial
theorem StAt.lt {w : World} {P A H b kc : Nat} {L : List Nat} (h : StAt w P A H b kc L) : P < w.heap.size ∧ A < w.heap.size ∧ H < w.heap.size := by
  obtain ⟨N, a⟩ := h.acc
  exact ⟨World.block_lt_of_cell? _ _ h.p0, World.block_lt_of_cell? _ _ a.m, h.tal.lt Nat.one_le_two_pow⟩
theorem StAt.nextB {w w' : World} {P A H b kc : Nat} {L : List Nat} (h : StAt w P A H b kc L) (q : Qb w w') : StAt w' P A H b kc L := by
  obtain ⟨lP, lA, lH⟩ := h.lt
  obtain ⟨N, a⟩ := h.acc
  exact ⟨h.b1, h.b2, q.cell h.p0, q.cell h.p1, q.cell h.p2, q.cell h.p3, q.cell h.p4, q.cell h.p5, fun j => (q.frozen (p := ⟨P, j, none⟩) lP).trans (h.fz j), ⟨N, fun j hj => q.cell (a.n j hj), a.r, q.cell a.m, q.cell a.c, fun j => (q.frozen (p := ⟨A, j, none⟩) lA).trans (a.z j)⟩, h.tal.nextB lH q, h.cap, h.pa, h.ph, h.ah⟩
set_option maxHeartbeats 2000000 in
set_option maxRecDepth 100000 in
theorem snew_good (b : Nat) (h1 : 1 ≤ b) (h2 : b ≤ 12) (w : World) : Calls Tryz.prog 10 #[.int .i64 (b : Int)] w fun e w' => ∃ P A H kc, e = .returned (.tuple #[.pointer (some ⟨P, 0, none⟩), .int .i64 0]) ∧ w.heap.size ≤ P ∧ w.heap.size ≤ A ∧ w.heap.size ≤ H ∧ StAt w' P A H b kc [] ∧ Q w w' := by
  have K := isbits_any (b : Int)
  have hb : bitsB (b : Int) = true := by unfold bitsB; exact decide_eq_true (by omega)
  rw [hb] at K
  go_enter Tryz.func10, Tryz.ntmps10
  go_wp2_with fail
  refine (K _).mono ?_
  rintro e w1 ⟨rfl, hw⟩
  obtain rfl := hw.symm
  clear hw
  go_wp2_with fail
  refine (new_any _).mono ?_
  rintro e w2 ⟨rfl, hA, q2, s2⟩
  go_wp2_with fail
  refine (notally_any b h1 h2 _).mono ?_
  rintro e w3 ⟨H, rfl, l3, l3', hV, q3⟩
  unfold talV
  go_wp2_with fail
  refine (nospan_any _).mono ?_
  unfold spnV
  rintro e w4 ⟨rfl, q4⟩
  have hs : w2.heap.size ≤ w3.heap.size := q3.1.size
  have hs4 : w3.heap.size ≤ w4.heap.size := q4.1.size
  have q24 := q3.trans q4
  have HA : Hid _ := AccAt.next ⟨_, hA⟩ q24
  have HV : Hid _ := hV.next q4
  have HQ : Hid (Q w w4) := q2.trans q24
  clear hA hV q2 q3 q4 q24
  go_wp2_with fail
  go_ret2
  obtain ⟨w5, hw5⟩ : ∃ w5, w4.alloc (.cells #[.pointer (some ⟨w.heap.size, 0, none⟩), .int .i64 (b : Int), .slice (some ⟨H, 0, none⟩) (2 ^ b) (2 ^ b), .int .u32 4294967295, .int .u32 0, .int .i64 0] 76) = w5 := ⟨_, rfl⟩
  have q5 : Q w4 w5 := by rw [← hw5]; exact (Q.refl w4).cells _ _
  refine ⟨w4.heap.size, w.heap.size, H, 2 ^ b, rfl, by omega, Nat.le_refl _, by omega, ?_, ?_⟩
  · rw [hw5]
    refine ⟨h1, h2, ?_, ?_, ?_, ?_, ?_, ?_, ?_, AccAt.next HA q5, (VR.next HV q5).congr fun j _ => rfl, Nat.le_refl _, by omega, by omega, by omega⟩
    · rw [← hw5]; simp [go_sem]
    · rw [← hw5]; simp [go_sem]
    · rw [← hw5]; simp [go_sem]
    · rw [← hw5]; simp [go_sem, lowK, numL]
    · rw [← hw5]; simp [go_sem, topK, numL]
    · rw [← hw5]; simp [go_sem, nanC]
    · intro j; rw [← hw5]; simp [go_sem]
  · rw [hw5]; exact HQ.out.trans q5
end Go.Proofs.YtieojgblamkgoaaGreatDoor
/- stat: Ends, Mean. -/
namespace Go.Proofs.YtieojgblamkgoaaGreatDoor
open Go.RowKit
set_option linter.unusedVariables false
set_option linter.unusedSimpArgs false

/-- What Ends tells; what Mean tells. -/
def endsV (L : List Nat) : Nat × Nat × Int := if numL L = [] then (0, 0, 161) else (fkeyN (lowK L), fkeyN (topK L), 0)
def smeanV (L : List Nat) : Nat × Int := if L = [] then (0, 161) else (sumV L L.length, 0)
set_option maxRecDepth 100000 in
theorem eq2_any (a b : Int) (w : World) : (Op.equalIn 10000 74 (.agg #[.int .u32 a, .int .u32 b]) (.agg #[.int .u32 4294967295, .int .u32 0])).run Tryz.prog w = .ok (a == 4294967295 && b == 0) w := by
  rw [show (10000 : Nat) = 9999 + 1 from rfl, Op.equalIn]
  simp [go_sem, List.range', List.forIn_cons]
  by_cases h0 : a = 4294967295
  · by_cases h1 : b = 0 <;> simp [h0, h1]
  · simp [h0]
set_option maxHeartbeats 4000000 in
set_option maxRecDepth 100000 in
theorem sends_any (P A H b kc : Nat) (L : List Nat) (w : World) (h : StAt w P A H b kc L) (hL : ∀ s ∈ L, s < 4294967296) :
    Calls Tryz.prog 31 #[.pointer (some ⟨P, 0, none⟩)] w fun e w' => e = .returned (.tuple #[.int .u32 ((endsV L).1 : Nat), .int .u32 ((endsV L).2.1 : Nat), .int .i64 (endsV L).2.2]) ∧ Q w w' := by
  have hi := ends_iff hL
  have hl := lowK_le L
  have ht := topK_le hL
  have p3 := h.p3
  have p4 := h.p4
  have F1 := fromkey_any (lowK L) (by omega)
  have F2 := fromkey_any (topK L) (by omega)
  have HF : Hid (∀ n w, n = lowK L ∨ n = topK L → Calls Tryz.prog 64 #[.int .u32 (n : Int)] w fun e w' => e = .returned (.int .u32 (fkeyN n : Nat)) ∧ w' = w) := fun n w hn => by
    rcases hn with rfl | rfl
    · exact F1 w
    · exact F2 w
  have HN : Hid (∀ w : World, Calls Tryz.prog 41 #[] w fun e w' => e = .returned (.agg #[.int .u32 4294967295, .int .u32 0]) ∧ Q w w') := fun w => nospan_any w
  unfold endsV
  clear h F1 F2 hL
  generalize lowK L = x at *
  generalize topK L = y at *
  by_cases hz : numL L = []
  · obtain ⟨rfl, rfl⟩ := hi.2 hz
    rw [if_pos hz]
    have hq : ∀ x, (Op.equalIn 10000 74 (.agg #[.int .u32 ((4294967295 : Nat) : Int), .int .u32 ((0 : Nat) : Int)]) (.agg #[.int .u32 4294967295, .int .u32 0])).run Tryz.prog x = .ok true x := fun x => by rw [eq2_any]; rfl
    have q3 := qw_cell p3
    have q4 := qw_cell p4
    have n0 := qw_some w
    clear hi hz hl ht HF
    go_enter Tryz.func31, Tryz.ntmps31
    go_wp2_with fail
    refine wp_region_quiet_Q (by kernel_rfl) (by kernel_rfl) ?_
    repeat (first | go_big_quiet_step (first | (go_at_call 41; exact calls_qw (HN.out _))) | quiet_step (first | (go_at_call 41; exact calls_qw (HN.out _))))
    refine wpQuiet_nil ?_
    intro w4 hw'
    have hq4 := qw_out hw'
    go_wp2_with fail
    refine bodyPost_ret (v := .tuple #[.int .u32 0, .int .u32 0, .int .i64 161]) (by simp [results, Tryz.results31, go_sem]) rfl ⟨rfl, hq4⟩
  · rw [if_neg hz]
    have hne : ((x : Int) == 4294967295 && (y : Int) == 0) = false := by
      rw [Bool.eq_false_iff]
      intro e
      simp only [Bool.and_eq_true, beq_iff_eq] at e
      exact hz (hi.1 (by omega))
    have hq : ∀ w, (Op.equalIn 10000 74 (.agg #[.int .u32 (x : Int), .int .u32 (y : Int)]) (.agg #[.int .u32 4294967295, .int .u32 0])).run Tryz.prog w = .ok false w := fun w => by rw [eq2_any, hne]
    have HP : Hid (w.cell? ⟨P, 3, none⟩ = some (.int .u32 (x : Int)) ∧ w.cell? ⟨P, 4, none⟩ = some (.int .u32 (y : Int))) := ⟨p3, p4⟩
    have q3 := qw_cell p3
    have q4 := qw_cell p4
    have n0 := qw_some w
    clear hi hz hl ht hne p3 p4
    go_enter Tryz.func31, Tryz.ntmps31
    go_wp2_with fail
    refine wp_region_quiet_Q (by kernel_rfl) (by kernel_rfl) ?_
    repeat (first | go_big_quiet_step (first | (go_at_call 41; exact calls_qw (HN.out _))) | quiet_step (first | (go_at_call 41; exact calls_qw (HN.out _))))
    refine wpQuiet_nil ?_
    intro w4 hw'
    have hq4 := qw_out hw'
    have p3 := hq4.cell HP.out.1
    have p4 := hq4.cell HP.out.2
    clear q3 q4 n0 HP hw'
    have q3 := qw_cell p3
    have q4 := qw_cell p4
    have n0 := qw_some w4
    go_wp2_with fail
    refine wp_region_quiet_Q (by kernel_rfl) (by kernel_rfl) ?_
    repeat (first | go_big_quiet_step (first | (go_at_call 64; exact calls_qs (HF.out _ _ (by first | exact Or.inl rfl | exact Or.inr rfl)))) | quiet_step (first | (go_at_call 64; exact calls_qs (HF.out _ _ (by first | exact Or.inl rfl | exact Or.inr rfl)))))
    refine wpQuiet_nil ?_
    intro w5 hw'
    have hq5 := qw_out hw'
    go_wp2_with fail
    refine bodyPost_ret (v := .tuple #[.int .u32 (fkeyN x : Nat), .int .u32 (fkeyN y : Nat), .int .i64 0]) (by simp [results, Tryz.results31, go_sem]) rfl ⟨rfl, hq4.trans hq5⟩
set_option maxHeartbeats 4000000 in
set_option maxRecDepth 100000 in
theorem smean_any (P A H b kc : Nat) (L : List Nat) (w : World) (h : StAt w P A H b kc L) (hL : ∀ s ∈ L, s < 4294967296) (hn : L.length ≤ 1000000) (hT : Tab w) :
    Calls Tryz.prog 34 #[.pointer (some ⟨P, 0, none⟩)] w fun e w' => e = .returned (.tuple #[.int .u32 ((smeanV L).1 : Nat), .int .i64 (smeanV L).2]) ∧ Q w w' := by
  obtain ⟨N, hA⟩ := h.acc
  have p0 := h.p0
  have K := amean_any L A L.length N w hA (sumZ_fits hL (by omega)) hT
  unfold overV at K
  unfold smeanV
  clear h hA hT hL
  by_cases hz : L = []
  · subst hz
    rw [if_pos (Or.inl (by decide))] at K
    rw [if_pos rfl]
    go_enter Tryz.func34, Tryz.ntmps34
    go_wp2_with fail
    refine K.mono ?_
    rintro e w1 ⟨rfl, q1⟩
    go_wp2_with fail
    go_ret2
    exact ⟨rfl, q1⟩
  · have h1 : 0 < L.length := List.length_pos_iff.2 hz
    rw [if_neg (by omega), Int.toNat_natCast] at K
    rw [if_neg hz]
    clear hz
    generalize sumV L L.length = m at *
    go_enter Tryz.func34, Tryz.ntmps34
    go_wp2_with fail
    refine K.mono ?_
    rintro e w1 ⟨rfl, q1⟩
    go_wp2_with fail
    go_ret2
    exact ⟨rfl, q1⟩
end Go.Proofs.YtieojgblamkgoaaGreatDoor

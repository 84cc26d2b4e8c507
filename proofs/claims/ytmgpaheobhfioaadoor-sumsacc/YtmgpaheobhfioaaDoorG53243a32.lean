/- Accumulators: what they hold; samples' kinds. -/
import Derived.Test.YtmgpaheobhfioaaDoorG6dc8acda
import Derived.Test.YtmgpaheobhfioaaDoorGc92d6c29
import Derived.Test.YtmgpaheobhfioaaDoorGc6c2317b
import Derived.Test.YtmgpaheobhfioaaDoorG8f7abc4d
import Derived.Test.YtmgpaheobhfioaaDoorG24259f96
namespace Go.Proofs.YtmgpaheobhfioaaDoor
open Go.RowKit
set_option linter.unusedVariables false
set_option linter.unusedSimpArgs false

/-- A sample's kind: -0, finite, infinities, NaN. -/
def kindV (s : Nat) : Nat := if s = 2147483648 then 1 else if s % 2147483648 < 2139095040 then 2 else if 2139095040 < s % 2147483648 then 16 else if s = 2139095040 then 4 else 8
theorem andnot_top (s : Nat) (h : s < 4294967296) : bits .andNot .u32 (s : Int) 2147483648 = ((s % 2147483648 : Nat) : Int) := by go_bits2
set_option maxHeartbeats 1000000 in
theorem kind_any (s : Nat) (hs : s < 4294967296) (w : World) : Calls Tryd.prog 34 #[.int .u32 (s : Int)] w fun e w' => e = .returned (.int .i64 (kindV s : Nat)) ∧ w' = w := by
  have e1 := andnot_top s hs
  unfold kindV
  generalize s % 2147483648 = m at *
  by_cases h1 : s = 2147483648
  · subst h1
    rw [if_pos rfl]
    go_enter Tryd.func34, Tryd.ntmps34
    go_wp2_with fail
    go_ret
    exact ⟨rfl, rfl⟩
  · have b1 : ((s : Int) == 2147483648) = false := by rw [beq_eq_false_iff_ne]; omega
    rw [if_neg h1]
    by_cases h2 : m < 2139095040
    · have b2 : (m : Int) < 2139095040 := by omega
      rw [if_pos h2]
      clear h1 h2 hs
      go_enter Tryd.func34, Tryd.ntmps34
      go_wp2_with fail
      go_ret
      exact ⟨rfl, rfl⟩
    · have b2 : ¬ (m : Int) < 2139095040 := by omega
      rw [if_neg h2]
      by_cases h3 : 2139095040 < m
      · have b3 : (2139095040 : Int) < m := by omega
        rw [if_pos h3]
        clear h1 h2 h3 hs
        go_enter Tryd.func34, Tryd.ntmps34
        go_wp2_with fail
        go_ret
        exact ⟨rfl, rfl⟩
      · have b3 : ¬ (2139095040 : Int) < m := by omega
        rw [if_neg h3]
        by_cases h4 : s = 2139095040
        · have b4 : ((s : Int) == 2139095040) = true := by rw [beq_iff_eq]; omega
          rw [if_pos h4]
          clear h1 h2 h3 h4 hs
          go_enter Tryd.func34, Tryd.ntmps34
          go_wp2_with fail
          go_ret
          exact ⟨rfl, rfl⟩
        · have b4 : ((s : Int) == 2139095040) = false := by rw [beq_eq_false_iff_ne]; omega
          rw [if_neg h4]
          clear h1 h2 h3 h4 hs
          go_enter Tryd.func34, Tryd.ntmps34
          go_wp2_with fail
          go_ret
          exact ⟨rfl, rfl⟩
theorem kind_lt (s : Nat) : kindV s < 32 := by
  unfold kindV
  split
  · decide
  · split
    · decide
    · split
      · decide
      · split <;> decide
theorem kind_fin {s : Nat} (hs : s < 4294967296) (h : kindV s = 2) : s / 8388608 % 256 < 255 := by
  unfold kindV at h
  split at h
  · cases h
  · split at h
    · omega
    · split at h
      · cases h
      · split at h <;> cases h
def unK (s : Nat) : Int := if kindV s = 2 then unZ s else 0
def sumZ (l : List Nat) : Int := l.foldl (fun z s => z + unK s) 0
def metV (l : List Nat) : Nat := l.foldl (fun m s => m ||| kindV s) 0
theorem sumZ_snoc (l : List Nat) (s : Nat) : sumZ (l ++ [s]) = sumZ l + unK s := by unfold sumZ; rw [List.foldl_append]; rfl
theorem metV_snoc (l : List Nat) (s : Nat) : metV (l ++ [s]) = metV l ||| kindV s := by unfold metV; rw [List.foldl_append]; rfl
theorem snoc_ind {P : List Nat → Prop} (h0 : P []) (h1 : ∀ l s, P l → P (l ++ [s])) (l : List Nat) : P l := by
  have : ∀ n (l : List Nat), l.length = n → P l := by
    intro n
    induction n with
    | zero => intro l h; rw [List.eq_nil_of_length_eq_zero h]; exact h0
    | succ n ih =>
      intro l h
      have hne : l ≠ [] := fun e => by rw [e] at h; cases h
      rw [← List.dropLast_concat_getLast hne]
      exact h1 _ _ (ih _ (by rw [List.length_dropLast]; omega))
  exact this _ l rfl
theorem metV_lt (l : List Nat) : metV l < 32 := by
  induction l using snoc_ind with
  | h0 => decide
  | h1 l s ih =>
    rw [metV_snoc]
    exact Nat.or_lt_two_pow (n := 5) ih (kind_lt s)
theorem sumZ_append (l m : List Nat) : sumZ (l ++ m) = sumZ l + sumZ m := by
  induction m using snoc_ind with
  | h0 => rw [List.append_nil]; exact (Int.add_zero _).symm
  | h1 m s ih => rw [← List.append_assoc, sumZ_snoc, sumZ_snoc, ih, Int.add_assoc]
theorem metV_append (l m : List Nat) : metV (l ++ m) = metV l ||| metV m := by
  induction m using snoc_ind with
  | h0 => rw [List.append_nil]; exact (Nat.or_zero _).symm
  | h1 m s ih => rw [← List.append_assoc, metV_snoc, metV_snoc, ih, Nat.or_assoc]
theorem or_small : ∀ a : Nat, a < 32 → ∀ b : Nat, b < 32 → bits .or .i64 (a : Int) (b : Int) = ((a ||| b : Nat) : Int) := by decide +kernel
def capZ : Nat := 2 ^ 24 * 2 ^ 256
theorem unZ_le {s : Nat} (h : s / 8388608 % 256 < 255) : (unZ s).natAbs < capZ := by
  have h1 := szS_lt s
  have h2 := atS_lt h
  have h3 : szS s * 2 ^ atS s < 2 ^ 24 * 2 ^ 256 := Nat.lt_of_lt_of_le (Nat.mul_lt_mul_of_pos_right h1 (Nat.two_pow_pos _)) (Nat.mul_le_mul_left _ (Nat.pow_le_pow_right (by decide) (by omega)))
  have : (unZ s).natAbs = szS s * 2 ^ atS s := by unfold unZ; split <;> omega
  rw [this]
  exact h3
theorem sumZ_le (l : List Nat) (hb : ∀ s ∈ l, s < 4294967296) : (sumZ l).natAbs ≤ l.length * capZ := by
  induction l using snoc_ind with
  | h0 => exact Nat.zero_le _
  | h1 l s ih =>
    have h1 := ih (fun x hx => hb x (List.mem_append_left _ hx))
    have h2 : (unK s).natAbs ≤ capZ := by
      unfold unK
      split
      · rename_i h
        exact Nat.le_of_lt (unZ_le (kind_fin (hb s (by simp)) h))
      · exact Nat.zero_le _
    rw [sumZ_snoc, List.length_append, List.length_singleton, Nat.add_mul, Nat.one_mul]
    generalize capZ = G at *
    omega
theorem cap_m {n : Nat} (h : n ≤ 2147483648) : 2 * (n * capZ) < m64 ^ 5 := by
  have e : capZ = 2 ^ 24 * m64 ^ 4 := by unfold capZ; rw [m64_pow]
  have e2 : m64 ^ 5 = m64 * m64 ^ 4 := by rw [Nat.pow_succ, Nat.mul_comm]
  have hp : 0 < m64 ^ 4 := Nat.pow_pos (by decide)
  rw [e, e2, ← Nat.mul_assoc, ← Nat.mul_assoc]
  refine Nat.mul_lt_mul_of_pos_right ?_ hp
  unfold m64
  omega
theorem sumZ_fits {l : List Nat} (hb : ∀ s ∈ l, s < 4294967296) (hl : l.length ≤ 2147483648) : 2 * (sumZ l).natAbs < m64 ^ 5 :=
  Nat.lt_of_le_of_lt (Nat.mul_le_mul_left 2 (sumZ_le l hb)) (cap_m hl)
/-- An accumulator of a list of samples. -/
structure AccOf (w : World) (B : Nat) (l : List Nat) (c : Nat) (N : Nat → Nat) : Prop where
  n : WIs w B N
  r : Rep N (sumZ l)
  m : w.cell? ⟨B, 5, none⟩ = some (.int .i64 (metV l : Nat))
  c : w.cell? ⟨B, 6, none⟩ = some (.int .i64 (c : Nat))
  z : ∀ j, w.frozen? ⟨B, j, none⟩ = false
theorem AccOf.next {w w' : World} {B c : Nat} {l : List Nat} {N : Nat → Nat} (h : AccOf w B l c N) (q : Q w w') : AccOf w' B l c N :=
  ⟨fun j hj => q.cell (h.n j hj), h.r, q.cell h.m, q.cell h.c, fun j => by rw [q.2]; exact h.z j⟩
theorem AccOf.far {w w' : World} {B A c : Nat} {l : List Nat} {N : Nat → Nat} (h : AccOf w B l c N) (f : Fb A w w') (hA : B ≠ A) : AccOf w' B l c N :=
  ⟨fun j hj => f.cell (h.n j hj) hA, h.r, f.cell h.m hA, f.cell h.c hA, fun j => by rw [f.frz]; exact h.z j⟩
def AccAt (w : World) (B : Nat) (l : List Nat) : Prop := ∃ N, AccOf w B l l.length N
theorem AccAt.next {w w' : World} {B : Nat} {l : List Nat} (h : AccAt w B l) (q : Q w w') : AccAt w' B l := by
  obtain ⟨N, h⟩ := h
  exact ⟨N, h.next q⟩
theorem AccAt.far {w w' : World} {B A : Nat} {l : List Nat} (h : AccAt w B l) (f : Fb A w w') (hA : B ≠ A) : AccAt w' B l := by
  obtain ⟨N, h⟩ := h
  exact ⟨N, h.far f hA⟩
end Go.Proofs.YtmgpaheobhfioaaDoor
/- Accumulators: Add. -/
namespace Go.Proofs.YtmgpaheobhfioaaDoor
open Go.RowKit
set_option linter.unusedVariables false
set_option linter.unusedSimpArgs false

theorem set_same {w : World} {p : Addr} {u v : Value} (h : w.cell? p = some u) : (w.setCell p v).cell? p = some v := by
  obtain ⟨b, o, t⟩ := p
  simp [go_sem, h]
theorem set_off {w : World} {B i j : Nat} {v : Value} (h : i ≠ j) : (w.setCell ⟨B, i, none⟩ v).cell? ⟨B, j, none⟩ = w.cell? ⟨B, j, none⟩ :=
  World.cell?_setCell_other _ _ _ _ (fun e => h (by injection e))
/-- One sample more. -/
theorem AccOf.met {w : World} {B c x : Nat} {l : List Nat} {N : Nat → Nat} (hn : WIs w B N) (hr : Rep N (sumZ l + unK x)) (hm : ∃ u, w.cell? ⟨B, 5, none⟩ = some u) (hc : w.cell? ⟨B, 6, none⟩ = some (.int .i64 (c : Nat))) (hz : ∀ j, w.frozen? ⟨B, j, none⟩ = false) :
    AccOf (w.setCell ⟨B, 5, none⟩ (.int .i64 ((metV l ||| kindV x : Nat) : Int))) B (l ++ [x]) c N := by
  obtain ⟨u, hu⟩ := hm
  refine ⟨fun j hj => ?_, ?_, ?_, ?_, fun j => ?_⟩
  · rw [set_off (by omega)]; exact hn j hj
  · rw [sumZ_snoc]; exact hr
  · rw [metV_snoc]; exact set_same hu
  · rw [set_off (by decide)]; exact hc
  · rw [World.frozen?_setCell]; exact hz j
theorem AccOf.cnt {w : World} {B c c' : Nat} {l : List Nat} {N : Nat → Nat} (h : AccOf w B l c N) : AccOf (w.setCell ⟨B, 6, none⟩ (.int .i64 (c' : Nat))) B l c' N := by
  refine ⟨fun j hj => ?_, h.r, ?_, ?_, fun j => ?_⟩
  · rw [set_off (by omega)]; exact h.n j hj
  · rw [set_off (by decide)]; exact h.m
  · exact set_same h.c
  · rw [World.frozen?_setCell]; exact h.z j
theorem unK_fin {x : Nat} (h : kindV x = 2) : unK x = unZ x := if_pos h
theorem unK_odd {x : Nat} (h : kindV x ≠ 2) : unK x = 0 := if_neg h
theorem take_snoc {S : List Nat} {i : Nat} (h : i < S.length) : S.take (i + 1) = S.take i ++ [S.getD i 0] := by
  rw [List.getD_eq_getElem?_getD, List.getElem?_eq_getElem h, List.take_add_one, List.getElem?_eq_getElem h]
  rfl
set_option maxHeartbeats 4000000 in
set_option maxRecDepth 100000 in
theorem acc_add (v : Value) (S l : List Nat) (B c : Nat) (N : Nat → Nat) (w : World) (hA : AccOf w B l c N) (hv : USl w v S) (hg : ∀ g o cap, 0 < S.length → v = .slice (some ⟨g, o, none⟩) S.length cap → g ≠ B) (hb : ∀ i, S.getD i 0 < 4294967296) (hn : c + S.length ≤ 35184372087808) :
    Calls Tryd.prog 10 #[.pointer (some ⟨B, 0, none⟩), v] w fun e w' => e = .returned (.tuple #[]) ∧ (∃ N', AccOf w' B (l ++ S) (c + S.length) N') ∧ Fb B w w' := by
  obtain ⟨ad, cap, rfl⟩ := hv.form
  have HA : Hid (AccOf w B l c N) := hA
  have HV : Hid (USl w (.slice ad S.length cap) S) := hv
  have HG : Hid _ := hg
  have HB : Hid (∀ i, S.getD i 0 < 4294967296) := hb
  clear hA hv hg hb
  have he : Hid (S.take S.length = S) := List.take_of_length_le (Nat.le_refl _)
  go_enter Tryd.func10, Tryd.ntmps10
  go_wp2_with fail
  go_loopg [9] (S.length) (fun gh s9 wr => ∃ i : Nat, ∃ N', s9 = .int .i64 (i : Int) ∧ i ≤ S.length ∧ gh = S.length - i ∧ Hid (AccOf wr B (l ++ S.take i) c N') ∧ Hid (Fb B w wr))
  case atStart => exact ⟨0, N, rfl, by omega, rfl, by show AccOf w B (l ++ S.take 0) c N; rw [List.take_zero, List.append_nil]; exact HA.out, Fb.refl _ _⟩
  case round =>
    obtain ⟨i, N', rfl, hi, rfl, HR, HF⟩ := hrel
    by_cases hlt : i < S.length
    · obtain ⟨g, o, cap', hsl, hcap, hI⟩ := HV.out.some (by omega)
      have HNe : Hid (g ≠ B) := HG.out g o cap' (by omega) hsl
      injection hsl with hs1 hs2 hs3
      subst hs1 hs3
      clear hs2
      have hx := HB.out i
      have hc := HF.out.cell (hI i hlt) HNe.out
      have HT : Hid (l ++ S.take (i + 1) = l ++ S.take i ++ [S.getD i 0]) := by
        show l ++ S.take (i + 1) = _
        rw [take_snoc hlt, List.append_assoc]
      generalize S.getD i 0 = x at *
      generalize l ++ S.take i = l1 at *
      have hor := or_small (metV l1) (metV_lt l1) (kindV x) (kind_lt x)
      have c5 := HR.out.m
      have z5 := HR.out.z 5
      clear hI
      by_cases hk : kindV x = 2
      · have Hk : Hid (kindV x = 2) := hk
        clear hor
        have hor : bits .or .i64 (metV l1 : Int) 2 = ((metV l1 ||| 2 : Nat) : Int) := or_small (metV l1) (metV_lt l1) 2 (by decide)
        have bk : ((2 : Int) == 2) = true := rfl
        clear hk
        go_wp2_with fail
        refine (kind_any x hx _).mono ?_
        rintro e w1 ⟨rfl, rfl⟩
        rw [Hk.out]
        go_wp2_with fail
        refine (nadd_any N' x B HR.out.r.lt hx (kind_fin hx Hk.out) _ HR.out.n HR.out.z).mono ?_
        rintro e w2 ⟨rfl, hd⟩
        have c5' : w2.cell? ⟨B, 5, none⟩ = some (.int .i64 (metV l1 : Nat)) := by rw [hd.r 5 (by decide)]; exact c5
        have z5' : w2.frozen? ⟨B, 5, none⟩ = false := by rw [hd.fb.frz]; exact z5
        have HX : Hid (AccOf (w2.setCell ⟨B, 5, none⟩ (.int .i64 ((metV l1 ||| 2 : Nat) : Int))) B (l ++ S.take (i + 1)) c (adS N' x)) := by
          have := AccOf.met (l := l1) (x := x) (c := c) hd.c (by rw [unK_fin Hk.out]; exact HR.out.r.add (kind_fin hx Hk.out)) ⟨_, c5'⟩ (by rw [hd.r 6 (by decide)]; exact HR.out.c) (fun j => by rw [hd.fb.frz]; exact HR.out.z j)
          rw [Hk.out] at this
          rw [HT.out]
          exact this
        have HY : Hid (Fb B w (w2.setCell ⟨B, 5, none⟩ (.int .i64 ((metV l1 ||| 2 : Nat) : Int)))) := (HF.out.trans hd.fb).set rfl _
        clear hd c5 z5
        go_wp2_with fail
        go_roundg (S.length - (i + 1))
        case measure => go_light; omega
        case rel =>
          go_light
          exact ⟨i + 1, _, by simp, by omega, rfl, HX.out, HY.out⟩
      · have Hk : Hid (kindV x ≠ 2) := hk
        have bk : ((kindV x : Int) == 2) = false := by rw [beq_eq_false_iff_ne]; omega
        have HX : Hid (AccOf (wr.setCell ⟨B, 5, none⟩ (.int .i64 ((metV l1 ||| kindV x : Nat) : Int))) B (l ++ S.take (i + 1)) c N') := by
          have := AccOf.met (l := l1) (x := x) (c := c) HR.out.n (by rw [unK_odd Hk.out, Int.add_zero]; exact HR.out.r) ⟨_, c5⟩ HR.out.c HR.out.z
          rw [HT.out]
          exact this
        have HY : Hid (Fb B w (wr.setCell ⟨B, 5, none⟩ (.int .i64 ((metV l1 ||| kindV x : Nat) : Int)))) := HF.out.set rfl _
        clear hk
        go_wp2_with fail
        refine (kind_any x hx _).mono ?_
        rintro e w1 ⟨rfl, rfl⟩
        go_wp2_with fail
        go_roundg (S.length - (i + 1))
        case measure => go_light; omega
        case rel =>
          go_light
          exact ⟨i + 1, _, by simp, by omega, rfl, HX.out, HY.out⟩
    · obtain rfl : i = S.length := by omega
      have hge : ¬ (S.length : Int) < (S.length : Int) := by omega
      have c6 := HR.out.c
      have z6 := HR.out.z 6
      have ew : wrap64 ((c : Int) + (S.length : Int)) = ((c + S.length : Nat) : Int) := by unfold wrap64; omega
      have HX : Hid (AccOf (wr.setCell ⟨B, 6, none⟩ (.int .i64 ((c + S.length : Nat) : Int))) B (l ++ S) (c + S.length) N') := by
        have := HR.out.cnt (c' := c + S.length)
        rw [he.out] at this
        exact this
      have HY : Hid (Fb B w (wr.setCell ⟨B, 6, none⟩ (.int .i64 ((c + S.length : Nat) : Int)))) := HF.out.set rfl _
      clear HR HF HA
      go_wp2_with fail
      refine bodyPost_end (results_none Tryd.results10 _ _ _) rfl ⟨rfl, ⟨N', HX.out⟩, HY.out⟩
end Go.Proofs.YtmgpaheobhfioaaDoor
/- Accumulators: what they tell. -/
namespace Go.Proofs.YtmgpaheobhfioaaDoor
open Go.RowKit
set_option linter.unusedVariables false
set_option linter.unusedSimpArgs false

/-- A sum of finite samples, divided. -/
def exV (z : Int) (d : Nat) : Nat := Ieee.single.word (decide (z < 0)) (exR z.natAbs d)
/-- What is told of a list of samples. -/
def sumV (l : List Nat) (d : Nat) : Nat :=
  if metV l < 4 then (if sumZ l ≠ 0 then exV (sumZ l) d else if metV l = 1 then 2147483648 else 0)
  else if metV l < 8 then 2139095040 else if 8 ≤ metV l ∧ metV l < 12 then 4286578688 else 2143289344
theorem andnot3 : ∀ a : Nat, a < 32 → bits .andNot .i64 (a : Int) 3 = ((a / 4 * 4 : Nat) : Int) := by decide +kernel
theorem Rep.zero_iff {N : Nat → Nat} {z : Int} (h : Rep N z) (hz : 2 * z.natAbs < m64 ^ 5) : z = 0 ↔ ∀ j, j < 5 → N j = 0 := by
  rw [← valW_zero 5]
  constructor
  · intro h0
    have h1 := h.pos (by omega) (by generalize m64 ^ 5 = G at *; omega)
    have := h1.1
    omega
  · intro h0
    have h1 := h.eq
    rw [h0] at h1
    rcases Int.lt_trichotomy z 0 with g | g | g
    · have h2 := (h.neg g (by generalize m64 ^ 5 = G at *; omega)).2
      have h3 := (valW_zero 5).1 h0 4 (by decide)
      omega
    · exact g
    · have h2 := (h.pos (by omega) (by generalize m64 ^ 5 = G at *; omega)).1
      omega
theorem blen_fits {V : Nat} (h : 2 * V < m64 ^ 5) : blen V ≤ 320 := by
  have h1 : V < m64 ^ 5 := by
    generalize m64 ^ 5 = G at *
    omega
  rw [m64_pow] at h1
  have h2 := blen_le h1
  omega
set_option maxRecDepth 100000 in
set_option maxHeartbeats 1000000 in
theorem eq5 (a0 a1 a2 a3 a4 : Int) (w : World) : (Op.equalIn 10000 66 (.agg #[.int .u64 a0, .int .u64 a1, .int .u64 a2, .int .u64 a3, .int .u64 a4]) (.agg #[.int .u64 0, .int .u64 0, .int .u64 0, .int .u64 0, .int .u64 0])).run Tryd.prog w = .ok (a0 == 0 && (a1 == 0 && (a2 == 0 && (a3 == 0 && a4 == 0)))) w := by
  rw [show (10000 : Nat) = 9999 + 1 from rfl, Op.equalIn]
  simp [go_sem, List.range', List.forIn_cons]
  by_cases h0 : a0 = 0
  · by_cases h1 : a1 = 0
    · by_cases h2 : a2 = 0
      · by_cases h3 : a3 = 0
        · by_cases h4 : a4 = 0 <;> simp [h0, h1, h2, h3, h4]
        · simp [h0, h1, h2, h3]
      · simp [h0, h1, h2]
    · simp [h0, h1]
  · simp [h0]
theorem eq5_zero {N : Nat → Nat} (h : ∀ j, j < 5 → N j = 0) : ((N 0 : Int) == 0 && ((N 1 : Int) == 0 && ((N 2 : Int) == 0 && ((N 3 : Int) == 0 && (N 4 : Int) == 0)))) = true := by
  rw [h 0 (by decide), h 1 (by decide), h 2 (by decide), h 3 (by decide), h 4 (by decide)]; rfl
theorem eq5_some {N : Nat → Nat} (h : ¬ ∀ j, j < 5 → N j = 0) : ((N 0 : Int) == 0 && ((N 1 : Int) == 0 && ((N 2 : Int) == 0 && ((N 3 : Int) == 0 && (N 4 : Int) == 0)))) = false := by
  rw [Bool.eq_false_iff]
  intro e
  simp only [Bool.and_eq_true, beq_iff_eq] at e
  refine h (fun j hj => ?_)
  rcases j with _ | _ | _ | _ | _ | j
  · omega
  · have := e.2.1; show N 1 = 0; omega
  · have := e.2.2.1; show N 2 = 0; omega
  · have := e.2.2.2.1; show N 3 = 0; omega
  · have := e.2.2.2.2; show N 4 = 0; omega
  · omega
set_option maxHeartbeats 2000000 in
set_option maxRecDepth 100000 in
theorem finite_any (l : List Nat) (B c : Nat) (N : Nat → Nat) (w : World) (hA : AccOf w B l c N) (hz : 2 * (sumZ l).natAbs < m64 ^ 5) (d : Nat) (hd : 0 < d) (hd' : d < 4294967296) (hT : Tab w) :
    Calls Tryd.prog 71 #[.pointer (some ⟨B, 0, none⟩), .int .u64 (d : Int)] w fun e w' => e = .returned (.int .u32 ((if sumZ l ≠ 0 then exV (sumZ l) d else if metV l = 1 then 2147483648 else 0 : Nat) : Int)) ∧ Q w w' := by
  have hzi := hA.r.zero_iff hz
  have c0 := hA.n 0 (by decide)
  have c1 := hA.n 1 (by decide)
  have c2 := hA.n 2 (by decide)
  have c3 := hA.n 3 (by decide)
  have c4 := hA.n 4 (by decide)
  have c5 := hA.m
  by_cases h0 : sumZ l = 0
  · rw [if_neg (fun h => h h0)]
    have hl : ∀ w, (Op.equalIn 10000 66 (.agg #[.int .u64 (N 0), .int .u64 (N 1), .int .u64 (N 2), .int .u64 (N 3), .int .u64 (N 4)]) (.agg #[.int .u64 0, .int .u64 0, .int .u64 0, .int .u64 0, .int .u64 0])).run Tryd.prog w = .ok true w := fun w => by rw [eq5, eq5_zero (hzi.1 h0)]
    generalize metV l = m at *
    clear hzi h0 hz hA hT
    by_cases h1 : m = 1
    · rw [if_pos h1]
      have b1 : ((m : Int) == 1) = true := by rw [beq_iff_eq]; omega
      clear h1
      go_enter Tryd.func71, Tryd.ntmps71
      go_wp2_with fail
      go_ret
      exact ⟨rfl, Q.refl _⟩
    · rw [if_neg h1]
      have b1 : ((m : Int) == 1) = false := by rw [beq_eq_false_iff_ne]; omega
      clear h1
      go_enter Tryd.func71, Tryd.ntmps71
      go_wp2_with fail
      go_ret
      exact ⟨rfl, Q.refl _⟩
  · rw [if_pos h0]
    have hl : ∀ w, (Op.equalIn 10000 66 (.agg #[.int .u64 (N 0), .int .u64 (N 1), .int .u64 (N 2), .int .u64 (N 3), .int .u64 (N 4)]) (.agg #[.int .u64 0, .int .u64 0, .int .u64 0, .int .u64 0, .int .u64 0])).run Tryd.prog w = .ok false w := fun w => by rw [eq5, eq5_some (fun h => h0 (hzi.2 h))]
    have HT : Hid (Tab w) := hT
    have HR : Hid (Rep N (sumZ l)) := hA.r
    have HZ : Hid (sumZ l ≠ 0) := h0
    have HW : Hid (toldD (some (Ieee.double.read (oddW (decide (sumZ l < 0)) (sumZ l).natAbs d))) = exV (sumZ l) d) := told_odd _ (by omega) hd (blen_fits hz)
    have HF : Hid (2 * (sumZ l).natAbs < m64 ^ 5) := hz
    generalize sumZ l = z at *
    clear hzi h0 hz hA hT
    go_enter Tryd.func71, Tryd.ntmps71
    go_wp2_with fail
    refine (divided_any N z HR.out HZ.out HF.out d hd hd' _ HT.out).mono ?_
    rintro e w1 ⟨rfl, q1⟩
    go_wp2_with fail
    refine (snarrow_any _ _).mono ?_
    rintro e w2 ⟨rfl, q2⟩
    rw [HW.out]
    go_wp2_with fail
    go_ret
    exact ⟨rfl, q1.trans q2⟩
set_option maxHeartbeats 2000000 in
set_option maxRecDepth 100000 in
theorem adivided_any (l : List Nat) (B c : Nat) (N : Nat → Nat) (w : World) (hA : AccOf w B l c N) (hz : 2 * (sumZ l).natAbs < m64 ^ 5) (d : Nat) (hd : 0 < d) (hd' : d < 4294967296) (hT : Tab w) :
    Calls Tryd.prog 57 #[.pointer (some ⟨B, 0, none⟩), .int .u64 (d : Int)] w fun e w' => e = .returned (.int .u32 (sumV l d : Nat)) ∧ Q w w' := by
  have c5 := hA.m
  have hm := metV_lt l
  have e1 := andnot3 (metV l) hm
  have K := fun w (hA : AccOf w B l c N) (hT : Tab w) => finite_any l B c N w hA hz d hd hd' hT
  have HK : Hid _ := K
  have HA : Hid (AccOf w B l c N) := hA
  have HT : Hid (Tab w) := hT
  have HV : Hid (sumV l d = if metV l < 4 then (if sumZ l ≠ 0 then exV (sumZ l) d else if metV l = 1 then 2147483648 else 0) else if metV l < 8 then 2139095040 else if 8 ≤ metV l ∧ metV l < 12 then 4286578688 else 2143289344) := rfl
  clear hA hT K hz
  by_cases h1 : metV l < 4
  · have HV : Hid (sumV l d = if sumZ l ≠ 0 then exV (sumZ l) d else if metV l = 1 then 2147483648 else 0) := by
      show sumV l d = _
      rw [HV.out, if_pos h1]
    have e2 : ((metV l / 4 * 4 : Nat) : Int) = 0 := by omega
    rw [e2] at e1
    clear e2 h1 hm
    go_enter Tryd.func57, Tryd.ntmps57
    go_wp2_with fail
    refine (HK.out _ HA.out HT.out).mono ?_
    rintro e w1 ⟨rfl, q1⟩
    rw [← HV.out]
    go_wp2_with fail
    go_ret
    exact ⟨rfl, q1⟩
  · by_cases h2 : metV l < 8
    · have HV : Hid (sumV l d = 2139095040) := by
        show sumV l d = _
        rw [HV.out, if_neg h1, if_pos h2]
      have e2 : ((metV l / 4 * 4 : Nat) : Int) = 4 := by omega
      rw [e2] at e1
      clear e2 h1 h2 hm
      rw [HV.out]
      go_enter Tryd.func57, Tryd.ntmps57
      go_wp2_with fail
      go_ret
      exact ⟨rfl, Q.refl _⟩
    · by_cases h3 : metV l < 12
      · have HV : Hid (sumV l d = 4286578688) := by
          show sumV l d = _
          rw [HV.out, if_neg h1, if_neg h2, if_pos ⟨by omega, h3⟩]
        have e2 : ((metV l / 4 * 4 : Nat) : Int) = 8 := by omega
        rw [e2] at e1
        clear e2 h1 h2 h3 hm
        rw [HV.out]
        go_enter Tryd.func57, Tryd.ntmps57
        go_wp2_with fail
        go_ret
        exact ⟨rfl, Q.refl _⟩
      · have HV : Hid (sumV l d = 2143289344) := by
          show sumV l d = _
          rw [HV.out, if_neg h1, if_neg h2, if_neg (fun h => h3 h.2)]
        obtain ⟨m, hm'⟩ : ∃ m, metV l / 4 * 4 = m := ⟨_, rfl⟩
        rw [hm'] at e1
        have b0 : ((m : Int) == 0) = false := by rw [beq_eq_false_iff_ne]; omega
        have b1 : ((m : Int) == 4) = false := by rw [beq_eq_false_iff_ne]; omega
        have b2 : ((m : Int) == 8) = false := by rw [beq_eq_false_iff_ne]; omega
        clear hm' h1 h2 h3 hm
        rw [HV.out]
        go_enter Tryd.func57, Tryd.ntmps57
        go_wp2_with fail
        go_ret
        exact ⟨rfl, Q.refl _⟩
set_option maxHeartbeats 400000 in
theorem asum_any (l : List Nat) (B c : Nat) (N : Nat → Nat) (w : World) (hA : AccOf w B l c N) (hz : 2 * (sumZ l).natAbs < m64 ^ 5) (hT : Tab w) :
    Calls Tryd.prog 32 #[.pointer (some ⟨B, 0, none⟩)] w fun e w' => e = .returned (.int .u32 (sumV l 1 : Nat)) ∧ Q w w' := by
  go_enter Tryd.func32, Tryd.ntmps32
  go_wp2_with fail
  refine (adivided_any l B c N _ hA hz 1 (by decide) (by decide) hT).mono ?_
  rintro e w1 ⟨rfl, q1⟩
  go_wp2_with fail
  go_ret
  exact ⟨rfl, q1⟩
/-- What Over tells. -/
def overV (l : List Nat) (n : Int) : Nat × Int := if n < 1 ∨ 4294967295 < n then (0, 33) else (sumV l n.toNat, 0)
set_option maxHeartbeats 1000000 in
theorem aover_any (l : List Nat) (B c : Nat) (N : Nat → Nat) (w : World) (hA : AccOf w B l c N) (hz : 2 * (sumZ l).natAbs < m64 ^ 5) (hT : Tab w) (n : Int) :
    Calls Tryd.prog 40 #[.pointer (some ⟨B, 0, none⟩), .int .i64 n] w fun e w' => e = .returned (.tuple #[.int .u32 ((overV l n).1 : Nat), .int .i64 (overV l n).2]) ∧ Q w w' := by
  unfold overV
  by_cases h : n < 1
  · rw [if_pos (Or.inl h)]
    clear hA hz hT
    go_enter Tryd.func40, Tryd.ntmps40
    go_wp2_with fail
    go_ret2
    exact ⟨rfl, Q.refl _⟩
  · by_cases h2 : 4294967295 < n
    · rw [if_pos (Or.inr h2)]
      clear hA hz hT
      go_enter Tryd.func40, Tryd.ntmps40
      go_wp2_with fail
      go_ret2
      exact ⟨rfl, Q.refl _⟩
    · rw [if_neg (by omega)]
      obtain ⟨d, rfl⟩ : ∃ d : Nat, n = (d : Int) := ⟨n.toNat, by omega⟩
      have HA : Hid (AccOf w B l c N) := hA
      have HT : Hid (Tab w) := hT
      have HZ : Hid (2 * (sumZ l).natAbs < m64 ^ 5) := hz
      have h3 : 0 < d := by omega
      have h4 : d < 4294967296 := by omega
      have ew : IntKind.u64.wrap (d : Int) = (d : Int) := by rw [IntKind.wrap_u64]; omega
      clear hA hT hz
      go_enter Tryd.func40, Tryd.ntmps40
      go_wp2_with fail
      refine (adivided_any l B c N _ HA.out HZ.out d h3 h4 HT.out).mono ?_
      rintro e w1 ⟨rfl, q1⟩
      go_wp2_with fail
      go_ret2
      exact ⟨rfl, q1⟩
set_option maxHeartbeats 400000 in
theorem amean_any (l : List Nat) (B c : Nat) (N : Nat → Nat) (w : World) (hA : AccOf w B l c N) (hz : 2 * (sumZ l).natAbs < m64 ^ 5) (hT : Tab w) :
    Calls Tryd.prog 31 #[.pointer (some ⟨B, 0, none⟩)] w fun e w' => e = .returned (.tuple #[.int .u32 ((overV l c).1 : Nat), .int .i64 (overV l c).2]) ∧ Q w w' := by
  have c6 := hA.c
  go_enter Tryd.func31, Tryd.ntmps31
  go_wp2_with fail
  refine (aover_any l B c N _ hA hz hT c).mono ?_
  rintro e w1 ⟨rfl, q1⟩
  go_wp2_with fail
  go_ret2
  exact ⟨rfl, q1⟩
set_option maxHeartbeats 400000 in
theorem acount_any (B : Nat) (c : Int) (w : World) (c6 : w.cell? ⟨B, 6, none⟩ = some (.int .i64 c)) :
    Calls Tryd.prog 33 #[.pointer (some ⟨B, 0, none⟩)] w fun e w' => e = .returned (.int .i64 c) ∧ w' = w := by
  go_enter Tryd.func33, Tryd.ntmps33
  go_wp2_with fail
  go_ret
  exact ⟨rfl, rfl⟩
end Go.Proofs.YtmgpaheobhfioaaDoor
/- The document's exact sums: what their parts stand for. -/
namespace Go.Proofs.YtmgpaheobhfioaaDoor
open Go.RowKit
set_option linter.unusedVariables false
set_option linter.unusedSimpArgs false

theorem kind_cases (a : Nat) (ha : a < 4294967296) : (kindV a = 16 ∧ numOf Ieee.single a = .nan ∧ a ≠ 2147483648) ∨ (kindV a = 4 ∧ numOf Ieee.single a = .inf false ∧ a ≠ 2147483648) ∨ (kindV a = 8 ∧ numOf Ieee.single a = .inf true ∧ a ≠ 2147483648) ∨
    (kindV a = 1 ∧ numOf Ieee.single a = .fin true 0 (-149) false ∧ a = 2147483648) ∨ (kindV a = 2 ∧ numOf Ieee.single a = .fin (decide (2147483648 ≤ a)) (szS a) ((atS a : Int) - 151) false ∧ a ≠ 2147483648) := by
  have hsg : (a / 2147483648 % 2 == 1) = decide (2147483648 ≤ a) := by
    by_cases h : 2147483648 ≤ a
    · rw [decide_eq_true h, beq_iff_eq]; omega
    · rw [decide_eq_false h, beq_eq_false_iff_ne]; omega
  by_cases h1 : a = 2147483648
  · right; right; right; left
    subst h1
    exact ⟨rfl, by rw [numOf_small (by decide)]; rfl, rfl⟩
  · by_cases h2 : a % 2147483648 < 2139095040
    · right; right; right; right
      refine ⟨by unfold kindV; rw [if_neg h1, if_pos h2], ?_, h1⟩
      by_cases h3 : a / 8388608 % 256 = 0
      · rw [numOf_small h3, hsg]
        unfold szS atS
        rw [if_pos h3, if_pos h3]
        rfl
      · rw [numOf_norm h3 (by omega), hsg]
        unfold szS atS
        rw [if_neg h3, if_neg h3]
        have e1 : a % 8388608 + 8388608 = 8388608 + a % 8388608 := Nat.add_comm _ _
        have e2 : ((a / 8388608 % 256 + 1 : Nat) : Int) - 151 = ((a / 8388608 % 256 : Nat) : Int) - 150 := by omega
        rw [e1, e2]
    · by_cases h3 : 2139095040 < a % 2147483648
      · left
        refine ⟨by unfold kindV; rw [if_neg h1, if_neg h2, if_pos h3], numOf_nan (by omega) (by omega), h1⟩
      · by_cases h4 : a = 2139095040
        · right; left
          subst h4
          exact ⟨rfl, by rw [numOf_inf (by decide) (by decide)]; rfl, h1⟩
        · right; right; left
          refine ⟨by unfold kindV; rw [if_neg h1, if_neg h2, if_neg h3, if_neg h4], ?_, h1⟩
          rw [numOf_inf (by omega) (by omega), hsg, decide_eq_true (by omega)]
def sgV (s : Bool) (n : Nat) : Int := if s = true then -(n : Int) else n
theorem sgV_abs (s : Bool) (n : Nat) : (sgV s n).natAbs = n := by unfold sgV; split <;> omega
theorem sgV_mul (s : Bool) (n k : Nat) : sgV s (n * k) = sgV s n * (k : Int) := by
  unfold sgV
  split
  · rw [Int.natCast_mul, Int.neg_mul]
  · rw [Int.natCast_mul]
/-- A number that stands for so many units. -/
structure Val (s : Bool) (n : Nat) (e : Int) (z : Int) : Prop where
  lo : -149 ≤ e
  hi : e ≤ 104
  v : sgV s n * ((2 ^ (e + 151).toNat : Nat) : Int) = z
theorem Val.size {s : Bool} {n : Nat} {e z : Int} (h : Val s n e z) : n * 2 ^ (e + 151).toNat = z.natAbs := by
  rw [← h.v, Int.natAbs_mul, sgV_abs, Int.natAbs_natCast]
theorem Val.le {s : Bool} {n : Nat} {e z : Int} (h : Val s n e z) : n ≤ z.natAbs := by
  rw [← h.size]
  exact Nat.le_mul_of_pos_right _ (Nat.two_pow_pos _)
theorem Val.zero {s : Bool} {n : Nat} {e z : Int} (h : Val s n e z) : n = 0 ↔ z = 0 := by
  have h1 := h.size
  have hp := Nat.two_pow_pos (e + 151).toNat
  constructor
  · intro h0
    rw [h0, Nat.zero_mul] at h1
    omega
  · intro h0
    rw [h0] at h1
    rcases Nat.mul_eq_zero.1 h1 with g | g
    · exact g
    · omega
theorem Val.sign {s : Bool} {n : Nat} {e z : Int} (h : Val s n e z) (h0 : z ≠ 0) : s = decide (z < 0) := by
  have hp : (0 : Int) < ((2 ^ (e + 151).toNat : Nat) : Int) := Int.natCast_pos.2 (Nat.two_pow_pos _)
  have hn : n ≠ 0 := fun g => h0 (h.zero.1 g)
  cases s
  · symm
    rw [decide_eq_false_iff_not, ← h.v]
    have : (0 : Int) ≤ sgV false n * ((2 ^ (e + 151).toNat : Nat) : Int) := Int.mul_nonneg (by unfold sgV; simp) (by omega)
    omega
  · symm
    rw [decide_eq_true_iff, ← h.v]
    refine Int.mul_neg_of_neg_of_pos ?_ hp
    unfold sgV
    simp
    omega
theorem Val.small {s : Bool} {n : Nat} {e z : Int} (h : Val s n e z) (hz : 2 * z.natAbs < m64 ^ 5) : small (.fin s n e false) := by
  have h1 := h.le
  have h2 := blen_fits hz
  have h3 : blen n ≤ blen z.natAbs := blen_le (Nat.lt_of_le_of_lt h1 (blen_lt _))
  exact ⟨by omega, by have := h.lo; omega, by have := h.hi; omega⟩
theorem Val.plus {s t : Bool} {n m : Nat} {e f z y : Int} (h : Val s n e z) (g : Val t m f y) : ∃ u k b, plusR (.fin s n e false) (.fin t m f false) = .fin u k b false ∧ Val u k b (z + y) := by
  obtain ⟨b, hb⟩ : ∃ b, b = min e f := ⟨_, rfl⟩
  have h1 := h.lo
  have h2 := h.hi
  have g1 := g.lo
  have g2 := g.hi
  have hx : sgV s (n * 2 ^ (e - b).toNat) * ((2 ^ (b + 151).toNat : Nat) : Int) = z := by
    rw [← h.v, sgV_mul, Int.mul_assoc, ← Int.natCast_mul, ← Nat.pow_add, show (e - b).toNat + (b + 151).toNat = (e + 151).toNat by omega]
  have hy : sgV t (m * 2 ^ (f - b).toNat) * ((2 ^ (b + 151).toNat : Nat) : Int) = y := by
    rw [← g.v, sgV_mul, Int.mul_assoc, ← Int.natCast_mul, ← Nat.pow_add, show (f - b).toNat + (b + 151).toNat = (f + 151).toNat by omega]
  show ∃ u k b', plusFin s t (n * 2 ^ (e - min e f).toNat) (m * 2 ^ (f - min e f).toNat) (min e f) = .fin u k b' false ∧ Val u k b' (z + y)
  rw [← hb]
  generalize n * 2 ^ (e - b).toNat = X at *
  generalize m * 2 ^ (f - b).toNat = Y at *
  have key : ∀ u k, sgV u k = sgV s X + sgV t Y → Val u k b (z + y) := fun u k hk => ⟨by omega, by omega, by rw [hk, Int.add_mul, hx, hy]⟩
  unfold plusFin
  by_cases c1 : s = t
  · rw [if_pos c1]
    refine ⟨_, _, _, rfl, key _ _ ?_⟩
    subst c1
    unfold sgV
    split <;> omega
  · rw [if_neg c1]
    by_cases c2 : X = Y
    · rw [if_pos c2]
      refine ⟨_, _, _, rfl, key _ _ ?_⟩
      subst c2
      cases s <;> cases t <;> simp_all [sgV] <;> omega
    · rw [if_neg c2]
      by_cases c3 : Y < X
      · rw [if_pos c3]
        refine ⟨_, _, _, rfl, key _ _ ?_⟩
        cases s <;> cases t <;> simp_all [sgV] <;> omega
      · rw [if_neg c3]
        refine ⟨_, _, _, rfl, key _ _ ?_⟩
        cases s <;> cases t <;> simp_all [sgV] <;> omega
theorem Val.sample {a : Nat} (ha : a < 4294967296) (hf : a / 8388608 % 256 < 255) : Val (decide (2147483648 ≤ a)) (szS a) ((atS a : Int) - 151) (unZ a) := by
  have h1 : 2 ≤ atS a ∧ atS a ≤ 255 := by unfold atS; split <;> omega
  refine ⟨by omega, by omega, ?_⟩
  rw [show ((atS a : Int) - 151 + 151).toNat = atS a by omega]
  unfold unZ sgV
  by_cases h : a < 2147483648
  · rw [if_pos h, decide_eq_false (by omega), if_neg (by decide), Int.natCast_mul]
  · rw [if_neg h, decide_eq_true (by omega), if_pos rfl, Int.natCast_mul, Int.neg_mul]
theorem Val.start : Val false 0 0 0 := ⟨by omega, by omega, by unfold sgV; simp⟩
/-- A number, rounded, is the units' sample. -/
theorem Val.told {s : Bool} {n : Nat} {e z : Int} (h : Val s n e z) (h0 : z ≠ 0) : roundR (.fin s n e false) = exV z 1 := by
  have h1 : roundR (.fin s n e false) = Ieee.single.word s (rungOf Ieee.single n e) := by
    show Ieee.single.word s (rungOf Ieee.single (2 * n + 0) (e - 1)) = _
    rw [Nat.add_zero, Nat.mul_comm, show n * 2 = n * 2 ^ 1 by omega, rung_scale]
    congr 2
    omega
  rw [h1]
  unfold exV
  rw [h.sign h0]
  congr 1
  unfold exR
  have hz : sqV z.natAbs 1 0 = z.natAbs * 2 ^ 1 := by
    rw [sqV_zero, Nat.div_one, Nat.mod_one, if_pos rfl]; omega
  rw [hz, rung_scale, ← h.size, rung_scale]
  congr 1
  have := h.lo
  omega
end Go.Proofs.YtmgpaheobhfioaaDoor
/- The document's exact sums: a number more, in whatever order. -/
namespace Go.Proofs.YtmgpaheobhfioaaDoor
open Go.RowKit
set_option linter.unusedVariables false
set_option linter.unusedSimpArgs false

theorem run_fld0 {ρ : Operand → Value} {x : World} {d : Option Tmp} {ty : TypeId} {ps : String} {af : Array Edge} {g : Option (Nat × Bool)} {j V : Nat} (h : ρ (.tmp j) = ptrV V) : (execOp ρ { dst := d, op := .fieldAddr 98 (.tmp j) 0, type := ty, pos := ps, after := af, guard := g }).run Tryd.prog x = .ok (.value (ptrV V)) x := by
  simp [execOp, h, go_sem, ptrV]
def numS (R : RNum) : Spec := ⟨fun v x => NumAt x v R, fun h q => q.num h⟩
def oP9_0 : Oper := { dst := some 89, op := .move (.tmp 0), type := 72, pos := "halideref3.go:100", after := #[], guard := none }
def oP9_1 : Oper := { dst := some 90, op := .move (.tmp 0), type := 72, pos := "halideref3.go:100", after := #[], guard := none }
def oP9_2 : Oper := { dst := some 91, op := .nilCheck (.tmp 90), type := 0, pos := "halideref3.go:100", after := #[⟨1, .data⟩], guard := none }
def oP9_3 : Oper := { dst := some 92, op := .fieldAddr 98 (.tmp 91) 0, type := 0, pos := "halideref3.go:100", after := #[⟨2, .data⟩], guard := none }
def oP9_4 : Oper := { dst := some 93, op := .load 43 (.tmp 92), type := 43, pos := "halideref3.go:100", after := #[⟨3, .data⟩], guard := none }
def oP9_5 : Oper := { dst := some 94, op := .load 43 (.tmp 4), type := 43, pos := "halideref3.go:100", after := #[], guard := none }
def oP9_6 : Oper := { dst := some 95, op := .call { callee := .value (.func 19), args := #[.tmp 93, .tmp 94], argTypes := #[43, 43] }, type := 43, pos := "halideref3.go:100", after := #[⟨4, .data⟩, ⟨5, .data⟩], guard := none }
def oP9_7 : Oper := { dst := some 96, op := .nilCheck (.tmp 89), type := 0, pos := "halideref3.go:100", after := #[⟨0, .data⟩, ⟨0, .phase⟩, ⟨1, .phase⟩, ⟨2, .phase⟩, ⟨3, .phase⟩, ⟨4, .phase⟩, ⟨5, .phase⟩, ⟨6, .phase⟩], guard := none }
def oP9_8 : Oper := { dst := some 97, op := .fieldAddr 98 (.tmp 96) 0, type := 0, pos := "halideref3.go:100", after := #[⟨7, .data⟩, ⟨0, .phase⟩, ⟨1, .phase⟩, ⟨2, .phase⟩, ⟨3, .phase⟩, ⟨4, .phase⟩, ⟨5, .phase⟩, ⟨6, .phase⟩], guard := none }
def oP9_9 : Oper := { dst := none, op := .store 43 (.tmp 97) (.tmp 95), type := 0, pos := "halideref3.go:100", after := #[⟨8, .data⟩, ⟨6, .data⟩, ⟨6, .chain⟩, ⟨0, .phase⟩, ⟨1, .phase⟩, ⟨2, .phase⟩, ⟨3, .phase⟩, ⟨4, .phase⟩, ⟨5, .phase⟩, ⟨6, .phase⟩], guard := none }
def opsP9 : List Oper := [oP9_0, oP9_1, oP9_2, oP9_3, oP9_4, oP9_5, oP9_6, oP9_7, oP9_8, oP9_9]
def sP9 : List Nat := [89, 90, 91, 92, 93, 94, 95, 96, 97]
def spP9 (B X : Nat) (k : Int) (s : Bool) (p : Option Addr) (Ln C : Nat) (e : Int) (m : Bool) (k2 : Int) (s2 : Bool) (p2 : Option Addr) (L2 C2 : Nat) (e2 : Int) (m2 : Bool) (R1 R2 : RNum) : List Spec := [spV (ptrV B), spV (ptrV B), spV (ptrV B), spV (ptrV B), spV (num5 k s p Ln C e m), spV (num5 k2 s2 p2 L2 C2 e2 m2), numS (plusR R1 R2), spV (ptrV B), spV (ptrV B)]
structure EnvP9 (a0 : Act) (w : World) (B X : Nat) (k : Int) (s : Bool) (p : Option Addr) (Ln C : Nat) (e : Int) (m : Bool) (k2 : Int) (s2 : Bool) (p2 : Option Addr) (L2 C2 : Nat) (e2 : Int) (m2 : Bool) (R1 R2 : RNum) : Prop where
  h0 : a0.tmps[0]? = some (ptrV B)
  h4 : a0.tmps[4]? = some (ptrV X)
  b : Box5 w B k s p Ln C e m
  x : Box5 w X k2 s2 p2 L2 C2 e2 m2
  n1 : NumAt w (num5 k s p Ln C e m) R1
  n2 : NumAt w (num5 k2 s2 p2 L2 C2 e2 m2) R2
  s1 : small R1
  s2 : small R2
  z : ∀ j, w.frozen? ⟨B, j, none⟩ = false
theorem yP9_0 {a0 : Act} {w : World} {B X : Nat} {k : Int} {s : Bool} {p : Option Addr} {Ln C : Nat} {e : Int} {m : Bool} {k2 : Int} {s2 : Bool} {p2 : Option Addr} {L2 C2 : Nat} {e2 : Int} {m2 : Bool} {R1 R2 : RNum} (E : EnvP9 a0 w B X k s p Ln C e m k2 s2 p2 L2 C2 e2 m2 R1 R2) {R : Exit → Act → World → Prop} {a : Act} {x : World} (q : Q w x) (oth : ∀ j, j ∉ sP9 → a.tmps[j]? = a0.tmps[j]?) (dep : ∀ ed ∈ oP9_0.after, Region.binds .any ed = true → ∀ t', sP9[ed.on]? = some t' → ∃ v, a.tmps[t']? = some v ∧ specAt (spP9 B X k s p Ln C e m k2 s2 p2 L2 C2 e2 m2 R1 R2) ed.on v x) : Yld Tryd.prog R oP9_0 a x 89 (fun v x' => specAt (spP9 B X k s p Ln C e m k2 s2 p2 L2 C2 e2 m2 R1 R2) 0 v x' ∧ (0 ∈ ([] : List Nat) → v = ptrV x.heap.size)) := by
  exact yld_move ((oth 0 (by decide)).trans E.h0) ⟨rfl, fun h => absurd h (by decide)⟩
theorem yP9_1 {a0 : Act} {w : World} {B X : Nat} {k : Int} {s : Bool} {p : Option Addr} {Ln C : Nat} {e : Int} {m : Bool} {k2 : Int} {s2 : Bool} {p2 : Option Addr} {L2 C2 : Nat} {e2 : Int} {m2 : Bool} {R1 R2 : RNum} (E : EnvP9 a0 w B X k s p Ln C e m k2 s2 p2 L2 C2 e2 m2 R1 R2) {R : Exit → Act → World → Prop} {a : Act} {x : World} (q : Q w x) (oth : ∀ j, j ∉ sP9 → a.tmps[j]? = a0.tmps[j]?) (dep : ∀ ed ∈ oP9_1.after, Region.binds .any ed = true → ∀ t', sP9[ed.on]? = some t' → ∃ v, a.tmps[t']? = some v ∧ specAt (spP9 B X k s p Ln C e m k2 s2 p2 L2 C2 e2 m2 R1 R2) ed.on v x) : Yld Tryd.prog R oP9_1 a x 90 (fun v x' => specAt (spP9 B X k s p Ln C e m k2 s2 p2 L2 C2 e2 m2 R1 R2) 1 v x' ∧ (1 ∈ ([] : List Nat) → v = ptrV x.heap.size)) := by
  exact yld_move ((oth 0 (by decide)).trans E.h0) ⟨rfl, fun h => absurd h (by decide)⟩
theorem yP9_2 {a0 : Act} {w : World} {B X : Nat} {k : Int} {s : Bool} {p : Option Addr} {Ln C : Nat} {e : Int} {m : Bool} {k2 : Int} {s2 : Bool} {p2 : Option Addr} {L2 C2 : Nat} {e2 : Int} {m2 : Bool} {R1 R2 : RNum} (E : EnvP9 a0 w B X k s p Ln C e m k2 s2 p2 L2 C2 e2 m2 R1 R2) {R : Exit → Act → World → Prop} {a : Act} {x : World} (q : Q w x) (oth : ∀ j, j ∉ sP9 → a.tmps[j]? = a0.tmps[j]?) (dep : ∀ ed ∈ oP9_2.after, Region.binds .any ed = true → ∀ t', sP9[ed.on]? = some t' → ∃ v, a.tmps[t']? = some v ∧ specAt (spP9 B X k s p Ln C e m k2 s2 p2 L2 C2 e2 m2 R1 R2) ed.on v x) : Yld Tryd.prog R oP9_2 a x 91 (fun v x' => specAt (spP9 B X k s p Ln C e m k2 s2 p2 L2 C2 e2 m2 R1 R2) 2 v x' ∧ (2 ∈ ([] : List Nat) → v = ptrV x.heap.size)) := by
  obtain ⟨v1, t1, f1⟩ := dep ⟨1, .data⟩ (by simp [oP9_2]) rfl 90 rfl
  have f1 : v1 = (ptrV B) := f1
  subst f1
  exact yld_run (x' := x) rfl (run_nck (tmp_eval t1)) (Q.refl x) ⟨rfl, fun h => absurd h (by decide)⟩
theorem yP9_3 {a0 : Act} {w : World} {B X : Nat} {k : Int} {s : Bool} {p : Option Addr} {Ln C : Nat} {e : Int} {m : Bool} {k2 : Int} {s2 : Bool} {p2 : Option Addr} {L2 C2 : Nat} {e2 : Int} {m2 : Bool} {R1 R2 : RNum} (E : EnvP9 a0 w B X k s p Ln C e m k2 s2 p2 L2 C2 e2 m2 R1 R2) {R : Exit → Act → World → Prop} {a : Act} {x : World} (q : Q w x) (oth : ∀ j, j ∉ sP9 → a.tmps[j]? = a0.tmps[j]?) (dep : ∀ ed ∈ oP9_3.after, Region.binds .any ed = true → ∀ t', sP9[ed.on]? = some t' → ∃ v, a.tmps[t']? = some v ∧ specAt (spP9 B X k s p Ln C e m k2 s2 p2 L2 C2 e2 m2 R1 R2) ed.on v x) : Yld Tryd.prog R oP9_3 a x 92 (fun v x' => specAt (spP9 B X k s p Ln C e m k2 s2 p2 L2 C2 e2 m2 R1 R2) 3 v x' ∧ (3 ∈ ([] : List Nat) → v = ptrV x.heap.size)) := by
  obtain ⟨v2, t2, f2⟩ := dep ⟨2, .data⟩ (by simp [oP9_3]) rfl 91 rfl
  have f2 : v2 = (ptrV B) := f2
  subst f2
  exact yld_run (x' := x) rfl (run_fld0 (tmp_eval t2)) (Q.refl x) ⟨rfl, fun h => absurd h (by decide)⟩
theorem yP9_4 {a0 : Act} {w : World} {B X : Nat} {k : Int} {s : Bool} {p : Option Addr} {Ln C : Nat} {e : Int} {m : Bool} {k2 : Int} {s2 : Bool} {p2 : Option Addr} {L2 C2 : Nat} {e2 : Int} {m2 : Bool} {R1 R2 : RNum} (E : EnvP9 a0 w B X k s p Ln C e m k2 s2 p2 L2 C2 e2 m2 R1 R2) {R : Exit → Act → World → Prop} {a : Act} {x : World} (q : Q w x) (oth : ∀ j, j ∉ sP9 → a.tmps[j]? = a0.tmps[j]?) (dep : ∀ ed ∈ oP9_4.after, Region.binds .any ed = true → ∀ t', sP9[ed.on]? = some t' → ∃ v, a.tmps[t']? = some v ∧ specAt (spP9 B X k s p Ln C e m k2 s2 p2 L2 C2 e2 m2 R1 R2) ed.on v x) : Yld Tryd.prog R oP9_4 a x 93 (fun v x' => specAt (spP9 B X k s p Ln C e m k2 s2 p2 L2 C2 e2 m2 R1 R2) 4 v x' ∧ (4 ∈ ([] : List Nat) → v = ptrV x.heap.size)) := by
  obtain ⟨v3, t3, f3⟩ := dep ⟨3, .data⟩ (by simp [oP9_4]) rfl 92 rfl
  have f3 : v3 = (ptrV B) := f3
  subst f3
  exact yld_run (x' := x) rfl (run_num (tmp_eval t3) (E.b.next q)) (Q.refl x) ⟨rfl, fun h => absurd h (by decide)⟩
theorem yP9_5 {a0 : Act} {w : World} {B X : Nat} {k : Int} {s : Bool} {p : Option Addr} {Ln C : Nat} {e : Int} {m : Bool} {k2 : Int} {s2 : Bool} {p2 : Option Addr} {L2 C2 : Nat} {e2 : Int} {m2 : Bool} {R1 R2 : RNum} (E : EnvP9 a0 w B X k s p Ln C e m k2 s2 p2 L2 C2 e2 m2 R1 R2) {R : Exit → Act → World → Prop} {a : Act} {x : World} (q : Q w x) (oth : ∀ j, j ∉ sP9 → a.tmps[j]? = a0.tmps[j]?) (dep : ∀ ed ∈ oP9_5.after, Region.binds .any ed = true → ∀ t', sP9[ed.on]? = some t' → ∃ v, a.tmps[t']? = some v ∧ specAt (spP9 B X k s p Ln C e m k2 s2 p2 L2 C2 e2 m2 R1 R2) ed.on v x) : Yld Tryd.prog R oP9_5 a x 94 (fun v x' => specAt (spP9 B X k s p Ln C e m k2 s2 p2 L2 C2 e2 m2 R1 R2) 5 v x' ∧ (5 ∈ ([] : List Nat) → v = ptrV x.heap.size)) := by
  exact yld_run (x' := x) rfl (run_num (tmp_eval ((oth 4 (by decide)).trans E.h4)) (E.x.next q)) (Q.refl x) ⟨rfl, fun h => absurd h (by decide)⟩
theorem yP9_6 {a0 : Act} {w : World} {B X : Nat} {k : Int} {s : Bool} {p : Option Addr} {Ln C : Nat} {e : Int} {m : Bool} {k2 : Int} {s2 : Bool} {p2 : Option Addr} {L2 C2 : Nat} {e2 : Int} {m2 : Bool} {R1 R2 : RNum} (E : EnvP9 a0 w B X k s p Ln C e m k2 s2 p2 L2 C2 e2 m2 R1 R2) {R : Exit → Act → World → Prop} {a : Act} {x : World} (q : Q w x) (oth : ∀ j, j ∉ sP9 → a.tmps[j]? = a0.tmps[j]?) (dep : ∀ ed ∈ oP9_6.after, Region.binds .any ed = true → ∀ t', sP9[ed.on]? = some t' → ∃ v, a.tmps[t']? = some v ∧ specAt (spP9 B X k s p Ln C e m k2 s2 p2 L2 C2 e2 m2 R1 R2) ed.on v x) : Yld Tryd.prog R oP9_6 a x 95 (fun v x' => specAt (spP9 B X k s p Ln C e m k2 s2 p2 L2 C2 e2 m2 R1 R2) 6 v x' ∧ (6 ∈ ([] : List Nat) → v = ptrV x.heap.size)) := by
  obtain ⟨v4, t4, f4⟩ := dep ⟨4, .data⟩ (by simp [oP9_6]) rfl 93 rfl
  have f4 : v4 = (num5 k s p Ln C e m) := f4
  subst f4
  obtain ⟨v5, t5, f5⟩ := dep ⟨5, .data⟩ (by simp [oP9_6]) rfl 94 rfl
  have f5 : v5 = (num5 k2 s2 p2 L2 C2 e2 m2) := f5
  subst f5
  refine yld_call (enters_of Tryd.func19 (by kernel_rfl) rfl) (args2 t4 t5) ((plusnum_any _ _ R1 R2 x (q.num E.n1) (q.num E.n2) E.s1 E.s2).mono ?_)
  rintro y x' ⟨v, rfl, h, q'⟩
  exact ⟨v, rfl, q', h, fun h => absurd h (by decide)⟩
theorem yP9_7 {a0 : Act} {w : World} {B X : Nat} {k : Int} {s : Bool} {p : Option Addr} {Ln C : Nat} {e : Int} {m : Bool} {k2 : Int} {s2 : Bool} {p2 : Option Addr} {L2 C2 : Nat} {e2 : Int} {m2 : Bool} {R1 R2 : RNum} (E : EnvP9 a0 w B X k s p Ln C e m k2 s2 p2 L2 C2 e2 m2 R1 R2) {R : Exit → Act → World → Prop} {a : Act} {x : World} (q : Q w x) (oth : ∀ j, j ∉ sP9 → a.tmps[j]? = a0.tmps[j]?) (dep : ∀ ed ∈ oP9_7.after, Region.binds .any ed = true → ∀ t', sP9[ed.on]? = some t' → ∃ v, a.tmps[t']? = some v ∧ specAt (spP9 B X k s p Ln C e m k2 s2 p2 L2 C2 e2 m2 R1 R2) ed.on v x) : Yld Tryd.prog R oP9_7 a x 96 (fun v x' => specAt (spP9 B X k s p Ln C e m k2 s2 p2 L2 C2 e2 m2 R1 R2) 7 v x' ∧ (7 ∈ ([] : List Nat) → v = ptrV x.heap.size)) := by
  obtain ⟨v0, t0, f0⟩ := dep ⟨0, .data⟩ (by simp [oP9_7]) rfl 89 rfl
  have f0 : v0 = (ptrV B) := f0
  subst f0
  exact yld_run (x' := x) rfl (run_nck (tmp_eval t0)) (Q.refl x) ⟨rfl, fun h => absurd h (by decide)⟩
theorem yP9_8 {a0 : Act} {w : World} {B X : Nat} {k : Int} {s : Bool} {p : Option Addr} {Ln C : Nat} {e : Int} {m : Bool} {k2 : Int} {s2 : Bool} {p2 : Option Addr} {L2 C2 : Nat} {e2 : Int} {m2 : Bool} {R1 R2 : RNum} (E : EnvP9 a0 w B X k s p Ln C e m k2 s2 p2 L2 C2 e2 m2 R1 R2) {R : Exit → Act → World → Prop} {a : Act} {x : World} (q : Q w x) (oth : ∀ j, j ∉ sP9 → a.tmps[j]? = a0.tmps[j]?) (dep : ∀ ed ∈ oP9_8.after, Region.binds .any ed = true → ∀ t', sP9[ed.on]? = some t' → ∃ v, a.tmps[t']? = some v ∧ specAt (spP9 B X k s p Ln C e m k2 s2 p2 L2 C2 e2 m2 R1 R2) ed.on v x) : Yld Tryd.prog R oP9_8 a x 97 (fun v x' => specAt (spP9 B X k s p Ln C e m k2 s2 p2 L2 C2 e2 m2 R1 R2) 8 v x' ∧ (8 ∈ ([] : List Nat) → v = ptrV x.heap.size)) := by
  obtain ⟨v7, t7, f7⟩ := dep ⟨7, .data⟩ (by simp [oP9_8]) rfl 96 rfl
  have f7 : v7 = (ptrV B) := f7
  subst f7
  exact yld_run (x' := x) rfl (run_fld0 (tmp_eval t7)) (Q.refl x) ⟨rfl, fun h => absurd h (by decide)⟩
theorem hopP9 {a0 : Act} {w : World} {B X : Nat} {k : Int} {s : Bool} {p : Option Addr} {Ln C : Nat} {e : Int} {m : Bool} {k2 : Int} {s2 : Bool} {p2 : Option Addr} {L2 C2 : Nat} {e2 : Int} {m2 : Bool} {R1 R2 : RNum} (E : EnvP9 a0 w B X k s p Ln C e m k2 s2 p2 L2 C2 e2 m2 R1 R2) {R : Exit → Act → World → Prop} : ∀ (i t : Nat) (o : Oper) (a : Act) (x : World), i < 9 → sP9[i]? = some t → opsP9[i]? = some o → Q w x → (∀ j, j ∉ sP9 → a.tmps[j]? = a0.tmps[j]?) → (∀ ed ∈ o.after, Region.binds .any ed = true → ∀ t', sP9[ed.on]? = some t' → ∃ v, a.tmps[t']? = some v ∧ specAt (spP9 B X k s p Ln C e m k2 s2 p2 L2 C2 e2 m2 R1 R2) ed.on v x) → Yld Tryd.prog R o a x t (fun v x' => specAt (spP9 B X k s p Ln C e m k2 s2 p2 L2 C2 e2 m2 R1 R2) i v x' ∧ (i ∈ ([] : List Nat) → v = ptrV x.heap.size))
  | 0, t, o, a, x, hi, ht, ho, q, oth, dep => by
    have e1 : oP9_0 = o := Option.some.inj ho
    have e2 : 89 = t := Option.some.inj ht
    subst e1 e2
    exact yP9_0 E q oth dep
  | 1, t, o, a, x, hi, ht, ho, q, oth, dep => by
    have e1 : oP9_1 = o := Option.some.inj ho
    have e2 : 90 = t := Option.some.inj ht
    subst e1 e2
    exact yP9_1 E q oth dep
  | 2, t, o, a, x, hi, ht, ho, q, oth, dep => by
    have e1 : oP9_2 = o := Option.some.inj ho
    have e2 : 91 = t := Option.some.inj ht
    subst e1 e2
    exact yP9_2 E q oth dep
  | 3, t, o, a, x, hi, ht, ho, q, oth, dep => by
    have e1 : oP9_3 = o := Option.some.inj ho
    have e2 : 92 = t := Option.some.inj ht
    subst e1 e2
    exact yP9_3 E q oth dep
  | 4, t, o, a, x, hi, ht, ho, q, oth, dep => by
    have e1 : oP9_4 = o := Option.some.inj ho
    have e2 : 93 = t := Option.some.inj ht
    subst e1 e2
    exact yP9_4 E q oth dep
  | 5, t, o, a, x, hi, ht, ho, q, oth, dep => by
    have e1 : oP9_5 = o := Option.some.inj ho
    have e2 : 94 = t := Option.some.inj ht
    subst e1 e2
    exact yP9_5 E q oth dep
  | 6, t, o, a, x, hi, ht, ho, q, oth, dep => by
    have e1 : oP9_6 = o := Option.some.inj ho
    have e2 : 95 = t := Option.some.inj ht
    subst e1 e2
    exact yP9_6 E q oth dep
  | 7, t, o, a, x, hi, ht, ho, q, oth, dep => by
    have e1 : oP9_7 = o := Option.some.inj ho
    have e2 : 96 = t := Option.some.inj ht
    subst e1 e2
    exact yP9_7 E q oth dep
  | 8, t, o, a, x, hi, ht, ho, q, oth, dep => by
    have e1 : oP9_8 = o := Option.some.inj ho
    have e2 : 97 = t := Option.some.inj ht
    subst e1 e2
    exact yP9_8 E q oth dep
  | i + 9, t, o, a, x, hi, ht, ho, q, oth, dep => absurd hi (by omega)
theorem regionP9 {id : Nat} {l : List Oper} {R : Exit → Act → World → Prop} {a0 : Act} {w : World} {B X : Nat} {k : Int} {s : Bool} {p : Option Addr} {Ln C : Nat} {e : Int} {m : Bool} {k2 : Int} {s2 : Bool} {p2 : Option Addr} {L2 C2 : Nat} {e2 : Int} {m2 : Bool} {R1 R2 : RNum} (hl : l = opsP9) (hsz : a0.tmps.size = 98) (E : EnvP9 a0 w B X k s p Ln C e m k2 s2 p2 L2 C2 e2 m2 R1 R2)
    (hR : ∀ a x k' s' p' L' C' e' m', Q w x → a.defers = a0.defers → NumAt x (num5 k' s' p' L' C' e' m') (plusR R1 R2) → R .normal a (((((x.setCell ⟨B, 0, none⟩ (.int .i64 k')).setCell ⟨B, 1, none⟩ (.bool s')).setCell ⟨B, 2, none⟩ (.slice p' L' C')).setCell ⟨B, 3, none⟩ (.int .i64 e')).setCell ⟨B, 4, none⟩ (.bool m'))) :
    (Code.region id l.toArray true).wp Tryd.prog R a0 w := by
  subst hl
  refine wp_region_facts 9 sP9 (specAt (spP9 B X k s p Ln C e m k2 s2 p2 L2 C2 e2 m2 R1 R2)) [] (by kernel_rfl) (by decide +kernel) (by decide) rfl (by decide) (fun t ht => ?_) specAt.next (fun i v x hi hf => by cases hi) (hopP9 E) (fun a x q size defers other facts apart => ?_)
  · rw [hsz]
    revert t
    decide
  · obtain ⟨v95, t95, f95⟩ := facts 6 95 (by decide) rfl
    obtain ⟨v97, t97, f97⟩ := facts 8 97 (by decide) rfl
    have f97 : v97 = ptrV B := f97
    subst f97
    have f95 : NumAt x v95 (plusR R1 R2) := f95
    obtain ⟨k', s', p', L', C', e', m', rfl⟩ := f95.made
    refine ⟨?_⟩
    show Oper.wp Tryd.prog oP9_9 a x (fun a' x' => R .normal a' x') R
    refine store_num t97 t95 (E.b.next q) (fun j => by rw [q.2]; exact E.z j) (fun x1 _ h1 => ?_)
    rw [h1]
    exact hR a x k' s' p' L' C' e' m' q defers f95
end Go.Proofs.YtmgpaheobhfioaaDoor

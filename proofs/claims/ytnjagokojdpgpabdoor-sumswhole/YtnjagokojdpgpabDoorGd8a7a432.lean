/- The statement SumsWhole: small whole numbers, summed in every way. -/
import Derived.Test.YtnjagokojdpgpabDoorG6dedde2a
import Derived.Test.YtnjagokojdpgpabDoorGde4fe202
import Derived.Test.YtnjagokojdpgpabDoorG099a54dd
import Derived.Test.YtnjagokojdpgpabDoorGf2e33605
namespace Go.Proofs.YtnjagokojdpgpabDoor
open Go.RowKit
set_option linter.unusedVariables false
set_option linter.unusedSimpArgs false

/-- A whole number as a sample. -/
def iV (v : Int) : Nat := Ieee.single.word (decide (v < 0)) (rungOf Ieee.single v.natAbs 0)
theorem from_iV (v : Int) : Ieee.single.write (.number (decide (v < 0)) v.natAbs 0) = iV v := nearest_rung _ _ _ _
theorem iV_lt (v : Int) : iV v < 4294967296 := (word_parts32 _ (rungOf_le _ _ _)).2.2
theorem iV_parts {v : Int} (hb : v.natAbs ≤ 2 ^ 24) : rung32 (iV v) < 2139095040 ∧ sgn32 (iV v) = decide (v < 0) ∧ val32 (rung32 (iV v)) = v.natAbs * 2 ^ 149 := by
  have hr : rungOf Ieee.single v.natAbs 0 = rungOf Ieee.single (v.natAbs * 2 ^ 149) (-149) := by rw [rung_scale]; rfl
  have hlt : rungOf Ieee.single v.natAbs 0 < 2139095040 := by
    by_cases h0 : v.natAbs = 0
    · rw [h0, rungOf_zero]; decide
    · exact (rung_twenty h0 (Nat.lt_of_le_of_lt hb (by decide))).2.2
  obtain ⟨p1, p2, _⟩ := word_parts32 (decide (v < 0)) (Nat.le_of_lt hlt)
  have e2 : rung32 (iV v) = rungOf Ieee.single v.natAbs 0 := p2
  have hlog : (v.natAbs * 2 ^ 149).log2 ≤ 270 := by
    by_cases h0 : v.natAbs = 0
    · rw [h0, Nat.zero_mul]; decide
    · rw [log2_mul_pow h0]
      have := (Nat.log2_lt h0).2 (Nat.lt_of_le_of_lt hb (show (2 : Nat) ^ 24 < 2 ^ 25 by decide))
      omega
  refine ⟨by rw [e2]; exact hlt, p1, ?_⟩
  rw [e2, hr]
  by_cases h24 : v.natAbs = 2 ^ 24
  · exact vN_exact32 (g := 150) hlog (by rw [h24]; exact ⟨2 ^ 23, by decide⟩) (by rw [h24]; decide)
  · exact vN_exact32 (g := 149) hlog ⟨v.natAbs, Nat.mul_comm _ _⟩ (by rw [Nat.pow_add]; exact Nat.mul_lt_mul_of_pos_right (Nat.lt_of_le_of_ne hb h24) (by decide))
theorem signed_up (s : Bool) (m k j : Nat) : Ieee.signed s m (k + j) = Ieee.signed s m k * 2 ^ j := by
  rw [signed_eq, signed_eq]
  cases s <;> simp [Nat.pow_add, Nat.mul_assoc, Int.neg_mul, Int.mul_assoc]
theorem sval_signed (a : Nat) : sval32 a = Ieee.signed (sgn32 a) (mag32 (rung32 a)) (plc32 (rung32 a)) := by
  unfold sval32 val32; rw [signed_eq]
theorem sg_up (s t : Bool) (Z : Int) (k : Nat) : sg s t (Z * 2 ^ k) = sg s t Z := by
  have hp : (0 : Int) < 2 ^ k := Int.pow_pos (by decide)
  unfold sg
  by_cases h : Z = 0
  · rw [h, Int.zero_mul]
  · rw [if_neg h, if_neg (Int.mul_ne_zero h (by omega))]
    refine decide_eq_decide.2 ⟨fun g => ?_, fun g => Int.mul_neg_of_neg_of_pos g hp⟩
    rcases Int.lt_or_le Z 0 with g2 | g2
    · exact g2
    · have := Int.mul_nonneg g2 (Int.le_of_lt hp); omega
/-- A sum of finite samples: the exact sum, rounded. -/
theorem sum_sv (s t : Bool) {r q : Nat} : toldD ((Ieee.Datum.number s (mag32 r) (-149 + (plc32 r : Int))).sum (.number t (mag32 q) (-149 + (plc32 q : Int)))) = Ieee.single.word (sg s t (Ieee.signed s (mag32 r) (plc32 r) + Ieee.signed t (mag32 q) (plc32 q))) (rungOf Ieee.single (Ieee.signed s (mag32 r) (plc32 r) + Ieee.signed t (mag32 q) (plc32 q)).natAbs (-149)) := by
  obtain ⟨k, hk⟩ : ∃ k : Nat, k = 925 := ⟨_, rfl⟩
  obtain ⟨N, b, e1, e2⟩ := sum_units s t (mag32 r) (mag32 q) (-149 + (plc32 r : Int)) (-149 + (plc32 q : Int)) (by omega) (by omega)
  rw [show (-149 + (plc32 r : Int) + 1074).toNat = plc32 r + k by omega, show (-149 + (plc32 q : Int) + 1074).toNat = plc32 q + k by omega, signed_up, signed_up, ← Int.add_mul] at e1 e2
  rw [e1, toldD_num, e2, sg_up, Int.natAbs_mul, show ((2 : Int) ^ k).natAbs = 2 ^ k by rw [Int.natAbs_pow]; rfl, rung_scale, show (-1074 + (k : Int)) = -149 by omega]
theorem add_sv {a c : Nat} (ha : rung32 a < 2139095040) (hc : rung32 c < 2139095040) : addV a c = Ieee.single.word (sg (sgn32 a) (sgn32 c) (sval32 a + sval32 c)) (rungOf Ieee.single (sval32 a + sval32 c).natAbs (-149)) := by
  unfold addV
  rw [read_fin32 ha, read_fin32 hc, sum_sv, sval_signed, sval_signed]
theorem sub_sv {a c : Nat} (ha : rung32 a < 2139095040) (hc : rung32 c < 2139095040) : subV a c = Ieee.single.word (sg (sgn32 a) (!sgn32 c) (sval32 a - sval32 c)) (rungOf Ieee.single (sval32 a - sval32 c).natAbs (-149)) := by
  unfold subV
  rw [read_fin32 ha, read_fin32 hc]
  show toldD ((Ieee.Datum.number (sgn32 a) (mag32 (rung32 a)) (-149 + (plc32 (rung32 a) : Int))).sum (.number (!sgn32 c) (mag32 (rung32 c)) (-149 + (plc32 (rung32 c) : Int)))) = _
  rw [sum_sv, signed_neg, ← sval_signed, ← sval_signed, Int.sub_eq_add_neg]
theorem iV_sv {v : Int} (hb : v.natAbs ≤ 2 ^ 24) : sval32 (iV v) = v * 2 ^ 149 := by
  obtain ⟨_, h2, h3⟩ := iV_parts hb
  unfold sval32
  rw [h2, h3]
  by_cases hv : v < 0
  · rw [if_pos (decide_eq_true hv)]
    have : v = -(v.natAbs : Int) := by omega
    generalize v.natAbs = m at *
    subst this
    rw [Int.neg_mul]
    norm_cast
  · rw [if_neg (by simpa using hv)]
    have : v = (v.natAbs : Int) := by omega
    generalize v.natAbs = m at *
    subst this
    norm_cast
theorem rung_i (v : Int) : rungOf Ieee.single (v * 2 ^ 149).natAbs (-149) = rungOf Ieee.single v.natAbs 0 := by
  rw [Int.natAbs_mul, show ((2 : Int) ^ 149).natAbs = 2 ^ 149 from rfl, rung_scale]; rfl
theorem add_iV {a b : Int} (ha : a.natAbs ≤ 2 ^ 24) (hb : b.natAbs ≤ 2 ^ 24) : addV (iV a) (iV b) = iV (a + b) := by
  obtain ⟨a1, a2, _⟩ := iV_parts ha
  obtain ⟨b1, b2, _⟩ := iV_parts hb
  rw [add_sv a1 b1, iV_sv ha, iV_sv hb, ← Int.add_mul, rung_i, sg_up, a2, b2]
  unfold iV sg
  congr 1
  by_cases h : a + b = 0
  · rw [if_pos h, h]
    by_cases h1 : a < 0
    · rw [decide_eq_false (show ¬ b < 0 by omega)]; simp
    · rw [decide_eq_false h1]; simp
  · rw [if_neg h]
theorem sub_iV {a b : Int} (ha : a.natAbs ≤ 2 ^ 24) (hb : b.natAbs ≤ 2 ^ 24) : subV (iV a) (iV b) = iV (a - b) := by
  obtain ⟨a1, a2, _⟩ := iV_parts ha
  obtain ⟨b1, b2, _⟩ := iV_parts hb
  rw [sub_sv a1 b1, iV_sv ha, iV_sv hb, ← Int.sub_mul, rung_i, sg_up, a2, b2]
  unfold iV sg
  congr 1
  by_cases h : a - b = 0
  · rw [if_pos h, h]
    by_cases h1 : a < 0
    · rw [decide_eq_true (show b < 0 by omega)]; simp
    · rw [decide_eq_false h1]; simp
  · rw [if_neg h]
theorem nought_iV {a : Int} (ha : a.natAbs ≤ 2 ^ 24) : addV 2147483648 (iV a) = iV a := by
  obtain ⟨a1, a2, _⟩ := iV_parts ha
  have z1 : rung32 2147483648 < 2139095040 := by decide
  have z2 : sval32 2147483648 = 0 := by decide
  rw [add_sv z1 a1, iV_sv ha, z2, Int.zero_add, rung_i, sg_up, a2]
  unfold iV sg
  congr 1
  by_cases h : a = 0
  · rw [if_pos h, h]; simp
  · rw [if_neg h]
theorem iV_zero : iV 0 = 0 := by
  unfold iV
  rw [show (0 : Int).natAbs = 0 from rfl, rungOf_zero]
  rfl
/-- The sizes of whole numbers. -/
def sizeL (L : List Int) : Nat := (L.map Int.natAbs).sum
theorem sizeL_cons (v : Int) (t : List Int) : sizeL (v :: t) = v.natAbs + sizeL t := by simp [sizeL]
theorem sizeL_app (l m : List Int) : sizeL (l ++ m) = sizeL l + sizeL m := by simp [sizeL]
theorem sum_size : ∀ (L : List Int), L.sum.natAbs ≤ sizeL L
  | [] => by simp [sizeL]
  | v :: t => by
    have := sum_size t
    rw [List.sum_cons, sizeL_cons]
    omega
theorem fold_iV : ∀ (L : List Int) (z : Int), z.natAbs + sizeL L ≤ 2 ^ 24 → (L.map iV).foldl addV (iV z) = iV (z + L.sum)
  | [], z, _ => by simp
  | v :: t, z, h => by
    rw [sizeL_cons] at h
    rw [List.map_cons, List.foldl_cons, add_iV (by omega) (by omega), fold_iV t (z + v) (by omega), List.sum_cons, Int.add_assoc]
theorem left_iV {L : List Int} (h : sizeL L ≤ 2 ^ 24) : leftV (L.map iV) = iV L.sum := by
  unfold leftV
  cases L with
  | nil => exact iV_zero.symm
  | cons v t =>
    rw [sizeL_cons] at h
    rw [if_neg (by simp), List.map_cons, List.foldl_cons, nought_iV (by omega), fold_iV t v (by omega), List.sum_cons]
theorem pairsF_iV : ∀ (f : Nat) (L : List Int), L.length ≤ f + 1 → sizeL L ≤ 2 ^ 24 → pairsF f (L.map iV) = iV L.sum
  | 0, L, hl, hs => by
    show (if (L.map iV).length = 0 then 0 else addV 2147483648 ((L.map iV).getD 0 0)) = _
    rw [List.length_map]
    match L, hl, hs with
    | [], _, _ => exact iV_zero.symm
    | [v], _, hs =>
      rw [sizeL_cons] at hs
      rw [if_neg (by simp)]
      show addV 2147483648 (iV v) = _
      rw [nought_iV (by omega)]; simp
    | _ :: _ :: _, hl, _ => simp at hl
  | f + 1, L, hl, hs => by
    show (if (L.map iV).length = 0 then 0 else if (L.map iV).length = 1 then addV 2147483648 ((L.map iV).getD 0 0) else addV (pairsF f ((L.map iV).take ((L.map iV).length / 2))) (pairsF f ((L.map iV).drop ((L.map iV).length / 2)))) = _
    rw [List.length_map]
    match L, hl, hs with
    | [], _, _ => exact iV_zero.symm
    | [v], _, hs =>
      rw [sizeL_cons] at hs
      rw [if_neg (by simp), if_pos (by simp)]
      show addV 2147483648 (iV v) = _
      rw [nought_iV (by omega)]; simp
    | a :: b :: t, hl, hs =>
      generalize hL : a :: b :: t = L at *
      have h2 : 2 ≤ L.length := by rw [← hL]; simp
      rw [if_neg (by omega), if_neg (by omega), ← List.map_take, ← List.map_drop]
      have hsp : sizeL L = sizeL (L.take (L.length / 2)) + sizeL (L.drop (L.length / 2)) := by rw [← sizeL_app, List.take_append_drop]
      have hsm : L.sum = (L.take (L.length / 2)).sum + (L.drop (L.length / 2)).sum := by rw [← List.sum_append, List.take_append_drop]
      have s1 := sum_size (L.take (L.length / 2))
      have s2 := sum_size (L.drop (L.length / 2))
      rw [pairsF_iV f _ (by rw [List.length_take]; omega) (by omega), pairsF_iV f _ (by rw [List.length_drop]; omega) (by omega), add_iV (by omega) (by omega), hsm]
theorem pairs_iV {L : List Int} (h : sizeL L ≤ 2 ^ 24) : pairsV (L.map iV) = iV L.sum := by
  unfold pairsV
  rw [List.length_map]
  exact pairsF_iV _ L (by omega) h
theorem kah_fold : ∀ (L : List Int) (z : Int), z.natAbs + sizeL L ≤ 2 ^ 24 → (L.map iV).foldl kahS (iV z, 0) = (iV (z + L.sum), 0)
  | [], z, _ => by simp
  | v :: t, z, h => by
    rw [sizeL_cons] at h
    rw [List.map_cons, List.foldl_cons]
    have e : kahS (iV z, 0) (iV v) = (iV (z + v), 0) := by
      have e0 : subV (iV v) 0 = iV v := by
        have := sub_iV (a := v) (b := 0) (by omega) (by decide)
        rw [iV_zero, Int.sub_zero] at this
        exact this
      unfold kahS
      simp only [e0]
      rw [add_iV (by omega) (by omega), sub_iV (by omega) (by omega), show z + v - z = v by omega, sub_iV (by omega) (by omega), Int.sub_self, iV_zero]
    rw [e, kah_fold t (z + v) (by omega), List.sum_cons, Int.add_assoc]
theorem kah_iV {L : List Int} (h : sizeL L ≤ 2 ^ 24) : kahV (L.map iV) = iV L.sum := by
  unfold kahV
  cases L with
  | nil => exact iV_zero.symm
  | cons v t =>
    rw [sizeL_cons] at h
    rw [if_neg (by simp), List.map_cons]
    show ((t.map iV).foldl kahS (addV 2147483648 (iV v), 0)).1 = _
    rw [nought_iV (by omega), kah_fold t v (by omega), List.sum_cons]
theorem iV_un {v : Int} (hb : v.natAbs ≤ 2 ^ 24) : unK (iV v) = v * 2 ^ 151 ∧ kindV (iV v) = 2 := by
  obtain ⟨p1, p2, p3⟩ := iV_parts hb
  have hun := un_val (iV v)
  rw [p3] at hun
  have h4 := iV_lt v
  have hs : iV v < 2147483648 ↔ ¬ v < 0 := by
    unfold sgn32 at p2
    constructor
    · intro h hv
      rw [decide_eq_true hv, show iV v / 2147483648 % 2 = 0 by omega] at p2
      cases p2
    · intro hv
      rw [decide_eq_false hv] at p2
      have : iV v / 2147483648 % 2 ≠ 1 := fun e => by rw [e] at p2; cases p2
      omega
  have hk : kindV (iV v) = 2 := by
    unfold kindV
    have hne : iV v ≠ 2147483648 := fun e => by
      have hv : v < 0 := Decidable.byContradiction fun h => by have := hs.2 h; omega
      rw [e, show rung32 2147483648 = 0 from rfl, val_zero32] at p3
      have : v.natAbs = 0 := by
        rcases Nat.eq_zero_or_pos v.natAbs with h | h
        · exact h
        · have := Nat.mul_pos h (show 0 < 2 ^ 149 by decide); omega
      omega
    have hr2 : iV v % 2147483648 < 2139095040 := p1
    rw [if_neg hne, if_pos hr2]
  refine ⟨?_, hk⟩
  rw [unK_fin hk]
  unfold unZ
  rw [hun]
  by_cases hv : v < 0
  · rw [if_neg (fun h => hs.1 h hv)]
    have : v = -(v.natAbs : Int) := by omega
    generalize v.natAbs = m at *
    subst this
    rw [Int.neg_mul]
    congr 1
    rw [Nat.mul_assoc]
    norm_cast
  · rw [if_pos (hs.2 hv)]
    have : v = (v.natAbs : Int) := by omega
    generalize v.natAbs = m at *
    subst this
    rw [Nat.mul_assoc]
    norm_cast
theorem sumZ_iV : ∀ (L : List Int), (∀ v ∈ L, v.natAbs ≤ 2 ^ 24) → sumZ (L.map iV) = L.sum * 2 ^ 151 ∧ (metV (L.map iV) = 0 ∨ metV (L.map iV) = 2)
  | [], _ => ⟨rfl, Or.inl rfl⟩
  | v :: t, h => by
    obtain ⟨i1, i2⟩ := sumZ_iV t fun u hu => h u (List.mem_cons_of_mem _ hu)
    obtain ⟨x1, x2⟩ := iV_un (h v (List.mem_cons_self ..))
    rw [List.map_cons, sumZ_cons, i1, x1, List.sum_cons, Int.add_mul]
    refine ⟨rfl, Or.inr ?_⟩
    have hm : ∀ (l : List Nat) (m : Nat), l.foldl (fun m s => m ||| kindV s) m = m ||| l.foldl (fun m s => m ||| kindV s) 0 := by
      intro l
      induction l with
      | nil => intro m; simp
      | cons a t ih => intro m; rw [List.foldl_cons, List.foldl_cons, ih, ih (0 ||| kindV a), Nat.zero_or, Nat.or_assoc]
    unfold metV at i2 ⊢
    rw [List.foldl_cons, hm, x2, Nat.zero_or]
    rcases i2 with h | h <;> rw [h] <;> rfl
theorem sumV_iV {L : List Int} (h : ∀ v ∈ L, v.natAbs ≤ 2 ^ 24) : sumV (L.map iV) 1 = iV L.sum := by
  obtain ⟨h1, h2⟩ := sumZ_iV L h
  unfold sumV
  rw [if_pos (by omega), h1]
  by_cases h0 : L.sum = 0
  · rw [h0, Int.zero_mul, if_neg (by simp), if_neg (by omega), iV_zero]
  · have hp : (0 : Int) < 2 ^ 151 := by decide
    rw [if_pos (Int.mul_ne_zero h0 (by decide))]
    unfold exV iV exR
    have e1 : decide (L.sum * 2 ^ 151 < 0) = decide (L.sum < 0) := by
      refine decide_eq_decide.2 ⟨fun h => ?_, fun h => Int.mul_neg_of_neg_of_pos h hp⟩
      rcases Int.lt_or_le L.sum 0 with g | g
      · exact g
      · have := Int.mul_nonneg g (Int.le_of_lt hp); omega
    rw [e1, Int.natAbs_mul, show ((2 : Int) ^ 151).natAbs = 2 ^ 151 from rfl, sqV_zero, Nat.div_one, Nat.mod_one, if_pos rfl, Nat.add_zero]
    congr 1
    rw [show 2 * (L.sum.natAbs * 2 ^ 151) = L.sum.natAbs * 2 ^ 152 by rw [Nat.mul_comm 2, Nat.mul_assoc, ← Nat.pow_succ], rung_scale]
    rfl
end Go.Proofs.YtnjagokojdpgpabDoor
/- Sums of products with weights, where each product is a number. -/
namespace Go.Proofs.YtnjagokojdpgpabDoor
open Go.RowKit
set_option linter.unusedVariables false
set_option linter.unusedSimpArgs false

/-- A list of whole numbers in memory. -/
def ISl (w : World) (v : Value) (l : List Int) : Prop := (∃ g o cap, v = .slice (some ⟨g, o, none⟩) l.length cap ∧ ∀ i, i < l.length → w.cell? ⟨g, o + i, none⟩ = some (.int .i64 (l.getD i 0))) ∨ (∃ a c, v = .slice a 0 c ∧ l = [])
theorem ISl.next {w w' : World} {v : Value} {l : List Int} (h : ISl w v l) (q : Q w w') : ISl w' v l := by
  rcases h with ⟨g, o, cap, h1, h2⟩ | h
  · exact Or.inl ⟨g, o, cap, h1, fun i hi => q.cell (h2 i hi)⟩
  · exact Or.inr h
theorem ISl.form {w : World} {v : Value} {l : List Int} (h : ISl w v l) : ∃ a cap, v = .slice a l.length cap := by
  rcases h with ⟨g, o, cap, h1, h2⟩ | ⟨a, c, h1, h2⟩
  · exact ⟨_, _, h1⟩
  · subst h2; exact ⟨a, c, h1⟩
theorem ISl.some {w : World} {v : Value} {l : List Int} (h : ISl w v l) (h1 : 1 ≤ l.length) : ∃ g o cap, v = .slice (some ⟨g, o, none⟩) l.length cap ∧ ∀ i, i < l.length → w.cell? ⟨g, o + i, none⟩ = some (.int .i64 (l.getD i 0)) := by
  rcases h with h | ⟨_, _, _, h2⟩
  · exact h
  · subst h2; cases h1
/-- The sum of products. -/
def dotF (l : List Nat) : Nat := if l = [] then 0 else l.foldl add64V 9223372036854775808
set_option maxHeartbeats 4000000 in
set_option maxRecDepth 100000 in
theorem dot_fin (vw vl : Value) (W : List Int) (S Ps : List Nat) (w : World) (hw : ISl w vw W) (hl : USl w vl S) (hn : S.length ≤ 35184372087808) (he : W.length = S.length) (hb : ∀ i, S.getD i 0 < 4294967296)
    (hW : ∀ i, i < W.length → W.getD i 0 ≤ 268435456 ∧ -268435456 ≤ W.getD i 0) (hP : Ps.length = S.length) (hp : ∀ i, i < S.length → floatBits .mul .f64 (floatOfInt .f64 (W.getD i 0)) (wideW (S.getD i 0)) = some (Ps.getD i 0)) :
    Calls Tryd.prog 52 #[vw, vl] w fun e w' => ∃ X : Nat, e = .returned (.tuple #[.float .f64 X, .int .i64 0]) ∧ X < 18446744073709551616 ∧ canW X = dotF Ps ∧ Q w w' := by
  obtain ⟨aw, cw, rfl⟩ := hw.form
  obtain ⟨al, cl, rfl⟩ := hl.form
  have hn' : W.length ≤ 35184372087808 := by rw [he]; exact hn
  have ne0 : ((W.length : Int) != (S.length : Int)) = false := by rw [he]; simp
  have HS : Hid (USl w (.slice al S.length cl) S) := hl
  have HI : Hid (ISl w (.slice aw W.length cw) W) := hw
  have HB : Hid (∀ i, S.getD i 0 < 4294967296) := hb
  have HW : Hid _ := hW
  have HP : Hid _ := hp
  have HE : Hid (W.length = S.length) := he
  have HL : Hid (Ps.length = S.length) := hP
  clear hl hw hb hW hp he hP
  go_enter Tryd.func52, Tryd.ntmps52
  go_wp2_with fail
  go_loopg [19] (W.length) (fun gh s19 wr => ∃ i : Nat, s19 = .int .i64 (i : Int) ∧ i ≤ W.length ∧ gh = W.length - i ∧ wr = w)
  case atStart => exact ⟨0, rfl, by omega, rfl, rfl⟩
  case round =>
    obtain ⟨i, rfl, hi, rfl, rfl⟩ := hrel
    by_cases hlt : i < W.length
    · obtain ⟨g, o, cap', hsl, hI⟩ := HI.out.some (by omega)
      injection hsl with hs1 hs2 hs3
      subst hs1 hs3
      clear hs2
      have hc := hI i hlt
      obtain ⟨h1, h2⟩ := HW.out i hlt
      have h1' : ¬ 268435456 < W.getD i 0 := by omega
      have h2' : ¬ W.getD i 0 < -268435456 := by omega
      generalize W.getD i 0 = x at *
      clear hI h1 h2
      go_wp2_with fail
      go_roundg (W.length - (i + 1))
      case measure => go_light; omega
      case rel => go_light; exact ⟨i + 1, by simp, by omega, rfl, rfl⟩
    · obtain rfl : i = W.length := by omega
      have hge : ¬ (W.length : Int) < (W.length : Int) := by omega
      by_cases h0 : S.length = 0
      · have b0 : ((S.length : Int) == 0) = true := by rw [h0]; rfl
        have HF : Hid (dotF Ps = 0) := by
          show dotF Ps = 0
          rw [List.eq_nil_of_length_eq_zero (HL.out.trans h0)]; rfl
        clear h0
        go_wp2_with fail
        go_ret2
        exact ⟨0, rfl, by decide, by rw [HF.out]; decide +kernel, Q.refl _⟩
      · have b0 : ((S.length : Int) == 0) = false := by rw [beq_eq_false_iff_ne]; omega
        have HF : Hid (dotF Ps = Ps.foldl add64V 9223372036854775808) := by
          show dotF Ps = _
          unfold dotF
          rw [if_neg (fun e => h0 (by rw [← HL.out, e]; rfl))]
        clear h0
        go_wp2_with fail
        refine (copysign_any _).mono ?_
        rintro e w0 ⟨rfl, rfl⟩
        go_wp2_with fail
        go_loopg [8, 36] (S.length) (fun gh s8 s36 wr => ∃ i X : Nat, s8 = .float .f64 X ∧ Hid (canW X = (Ps.take i).foldl add64V 9223372036854775808) ∧ X < 18446744073709551616 ∧ s36 = .int .i64 (i : Int) ∧ i ≤ S.length ∧ gh = S.length - i ∧ Q w0 wr)
        case atStart => exact ⟨0, 9223372036854775808, rfl, (show canW 9223372036854775808 = 9223372036854775808 by decide +kernel), by decide, rfl, by omega, rfl, Q.refl _⟩
        case round =>
          obtain ⟨i, X, rfl, HX, hX, rfl, hi2, rfl, qr⟩ := hrel
          by_cases hlt : i < S.length
          · obtain ⟨g, o, cap', hsl, hcap, hI⟩ := HS.out.some (by omega)
            injection hsl with hs1 hs2 hs3
            subst hs1 hs3
            clear hs2
            have hwi : i < W.length := by rw [HE.out]; exact hlt
            have hwi' : (i : Int) < (W.length : Int) := by omega
            obtain ⟨g2, o2, cap2, hsl2, hI2⟩ := HI.out.some (by omega)
            injection hsl2 with hs1 hs2 hs3
            subst hs1 hs3
            clear hs2
            have hc := qr.cell (hI i hlt)
            have hc2 := qr.cell (hI2 i hwi)
            have hx := HB.out i
            have hpi := HP.out i hlt
            have HFo : Hid ((Ps.take (i + 1)).foldl add64V 9223372036854775808 = add64V ((Ps.take i).foldl add64V 9223372036854775808) (Ps.getD i 0)) := take_succ_foldl _ _ _ _ (by rw [HL.out]; exact hlt)
            have HQ : Hid (Q w0 wr) := qr
            generalize S.getD i 0 = x at *
            generalize W.getD i 0 = y at *
            generalize Ps.getD i 0 = p at *
            have HC : Hid (∀ X', canW X' = add64V X p → canW X' = (Ps.take (i + 1)).foldl add64V 9223372036854775808) := fun X' h => by rw [HFo.out, ← HX.out, can_sum]; exact h
            have l1 := fun w => run_float_arith (P := Tryd.prog) w .mul 79 .f64 _ _ _ hpi
            have SW : Hid (∀ n : QW wr, Calls Tryd.prog 62 #[.int .u32 (x : Int)] n.x fun e w' => e = .returned (.float .f64 (wideW x)) ∧ Q n.x w') := fun n => swide_any x hx n.x
            clear qr HFo HX hI hI2 hpi
            have dc2 := qw_cell hc2
            have n0 := qw_some wr
            go_wp2_with fail
            refine wp_region_quiet_Q (by kernel_rfl) (by kernel_rfl) ?_
            repeat (first | go_big_quiet_step (first | (go_at_call 62; exact calls_qw (SW.out _))) | quiet_step (first | (go_at_call 62; exact calls_qw (SW.out _))))
            refine wpQuiet_nil ?_
            intro w4 hw'
            have hq4 := qw_out hw'
            clear hw' n0 dc2 SW hc hc2
            cases hd : (Ieee.double.read X).sum (Ieee.double.read p) with
            | none =>
              have hf : floatBits .add .f64 X p = none := by
                show ((Ieee.double.read X).sum (Ieee.double.read p)).map Ieee.double.write = none
                rw [hd]; rfl
              have l2 := fun w => run_arith_none .add (by simp) 79 .f64 X p hf Tryd.prog w
              have HE2 : Hid (add64V X p = 9221120237041090560) := by show add64V X p = _; unfold add64V; rw [hd]; rfl
              clear hd hf l1
              go_wp2_with fail
              go_roundg (S.length - (i + 1))
              case measure => go_light; omega
              case rel =>
                go_light
                exact ⟨i + 1, _, rfl, HC.out _ (by rw [HE2.out]; exact can_none _ _ _), (nanw64 _ _ _).2, by simp, by omega, rfl, (HQ.out.trans hq4).drew⟩
            | some d =>
              have hf : floatBits .add .f64 X p = some (Ieee.double.write d) := by
                show ((Ieee.double.read X).sum (Ieee.double.read p)).map Ieee.double.write = _
                rw [hd]; rfl
              have l2 := fun w => run_float_arith (P := Tryd.prog) w .add 79 .f64 X p _ hf
              have HE2 : Hid (add64V X p = told64 (some d)) := by show add64V X p = _; unfold add64V; rw [hd]
              have HD : Hid (d.isNaN = false) := sum_num hd
              clear hd hf l1
              go_wp2_with fail
              go_roundg (S.length - (i + 1))
              case measure => go_light; omega
              case rel =>
                go_light
                exact ⟨i + 1, _, rfl, HC.out _ (by rw [HE2.out]; exact can_some HD.out), write64_lt _, by simp, by omega, rfl, HQ.out.trans hq4⟩
          · obtain rfl : i = S.length := by omega
            have hge2 : ¬ (S.length : Int) < (S.length : Int) := by omega
            have HQ : Hid (Q w0 wr) := qr
            have HZ : Hid (canW X = dotF Ps) := by
              show canW X = dotF Ps
              rw [HF.out, HX.out, ← HL.out, List.take_of_length_le (Nat.le_refl _)]
            clear qr HX
            go_wp2_with fail
            go_ret2
            exact ⟨X, rfl, hX, HZ.out, HQ.out⟩
set_option maxHeartbeats 1000000 in
theorem dot_short (vw vl : Value) (W : List Int) (S : List Nat) (w : World) (hw : ISl w vw W) (hl : USl w vl S) (he : W.length ≠ S.length) :
    Calls Tryd.prog 52 #[vw, vl] w fun e w' => e = .returned (.tuple #[.float .f64 0, .int .i64 30]) ∧ w' = w := by
  obtain ⟨aw, cw, rfl⟩ := hw.form
  obtain ⟨al, cl, rfl⟩ := hl.form
  have ne0 : ((W.length : Int) != (S.length : Int)) = true := by rw [bne_iff_ne]; omega
  clear hw hl he
  go_enter Tryd.func52, Tryd.ntmps52
  go_wp2_with fail
  go_ret2
  exact ⟨rfl, rfl⟩
set_option maxHeartbeats 1000000 in
theorem dot64_short (vw vl : Value) (W : List Int) (S : List Nat) (w : World) (hw : ISl w vw W) (hl : USl w vl S) (he : W.length ≠ S.length) :
    Calls Tryd.prog 29 #[vw, vl] w fun e w' => e = .returned (.tuple #[.int .u64 0, .int .i64 30]) ∧ w' = w := by
  have HD : Hid _ := dot_short vw vl W S w hw hl he
  clear hw hl he
  go_enter Tryd.func29, Tryd.ntmps29
  go_wp2_with fail
  refine Calls.mono HD.out ?_
  rintro e w1 ⟨rfl, rfl⟩
  go_wp2_with fail
  go_ret2
  exact ⟨rfl, rfl⟩
set_option maxHeartbeats 1000000 in
theorem dot64_of {vw vl : Value} {w : World} {D : Nat} (H : Calls Tryd.prog 52 #[vw, vl] w fun e w' => ∃ X : Nat, e = .returned (.tuple #[.float .f64 X, .int .i64 0]) ∧ X < 18446744073709551616 ∧ canW X = D ∧ Q w w') :
    Calls Tryd.prog 29 #[vw, vl] w fun e w' => e = .returned (.tuple #[.int .u64 (D : Nat), .int .i64 0]) ∧ Q w w' := by
  have HD : Hid _ := H
  clear H
  go_enter Tryd.func29, Tryd.ntmps29
  go_wp2_with fail
  refine Calls.mono HD.out ?_
  rintro e w1 ⟨X, rfl, hX, hc, q1⟩
  have HC : Hid (canW X = D) := hc
  clear hc
  go_wp2_with fail
  refine (widebits_any X hX _).mono ?_
  rintro e w2 ⟨rfl, rfl⟩
  rw [HC.out]
  go_wp2_with fail
  go_ret2
  exact ⟨rfl, q1⟩
/-- A 65536th of a binary64, as a sample. -/
def overW (X : Nat) : Nat := match floatBits .quo .f64 X 4679240012837945344 with
  | none => 2143289344
  | some Z => toldD (some (Ieee.double.read Z))
theorem quo_nan {X : Nat} (h : nan64 X = true) : floatBits .quo .f64 X 4679240012837945344 = none := by
  obtain ⟨s, t, e⟩ := isNaN_cases (read64_nan h)
  show ((Ieee.double.read X).quotient (Ieee.double.fractionBits + 2) (Ieee.double.read 4679240012837945344)).map Ieee.double.write = none
  rw [e]
  rfl
theorem told_nan {X : Nat} (h : nan64 X = true) : toldD (some (Ieee.double.read X)) = 2143289344 := by
  obtain ⟨s, t, e⟩ := isNaN_cases (read64_nan h)
  rw [e]
  rfl
theorem over_can (X : Nat) : overW (canW X) = overW X := by
  unfold canW
  cases h : nan64 X
  · rfl
  · rw [if_pos rfl]
    unfold overW
    rw [quo_nan h, quo_nan made64]
set_option maxHeartbeats 1000000 in
theorem dot_of {vw vl : Value} {w : World} {D : Nat} (H : Calls Tryd.prog 52 #[vw, vl] w fun e w' => ∃ X : Nat, e = .returned (.tuple #[.float .f64 X, .int .i64 0]) ∧ X < 18446744073709551616 ∧ canW X = D ∧ Q w w') :
    Calls Tryd.prog 35 #[vw, vl] w fun e w' => e = .returned (.tuple #[.int .u32 (overW D : Nat), .int .i64 0]) ∧ Q w w' := by
  have HD : Hid _ := H
  clear H
  go_enter Tryd.func35, Tryd.ntmps35
  go_wp2_with fail
  refine Calls.mono HD.out ?_
  rintro e w1 ⟨X, rfl, hX, hc, q1⟩
  have HO : Hid (overW D = overW X) := by
    show overW D = overW X
    rw [← hc, over_can]
  clear hc
  cases hf : floatBits .quo .f64 X 4679240012837945344 with
  | none =>
    have l2 := fun w => run_arith_none .quo (by simp) 79 .f64 X 4679240012837945344 hf Tryd.prog w
    have HT : Hid (overW X = 2143289344) := by
      show overW X = _
      unfold overW; rw [hf]
    clear hf
    go_wp2_with fail
    refine (snarrow_any _ _).mono ?_
    rintro e w2 ⟨rfl, q2⟩
    rw [told_nan (nanw64 _ _ _).1]
    go_wp2_with fail
    go_ret2
    exact ⟨by rw [HO.out, HT.out]; rfl, (q1.drew).trans q2⟩
  | some Z =>
    have l2 := fun w => run_float_arith (P := Tryd.prog) w .quo 79 .f64 X 4679240012837945344 _ hf
    have HT : Hid (overW X = toldD (some (Ieee.double.read Z))) := by
      show overW X = _
      unfold overW; rw [hf]
    clear hf
    go_wp2_with fail
    refine (snarrow_any _ _).mono ?_
    rintro e w2 ⟨rfl, q2⟩
    rw [← HT.out, ← HO.out]
    go_wp2_with fail
    go_ret2
    exact ⟨rfl, q1.trans q2⟩
end Go.Proofs.YtnjagokojdpgpabDoor

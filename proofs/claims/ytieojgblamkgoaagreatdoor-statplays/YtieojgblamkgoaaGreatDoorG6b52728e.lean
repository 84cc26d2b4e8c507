/- A region that draws its order and stores nothing: each operation with a fact that lasts; those that are guarded are known to be let through, or known to be left out. -/
import Derived.Test.YtieojgblamkgoaaGreatDoorG48ed55a6
import Derived.Test.YtieojgblamkgoaaGreatDoorGb82cbb4e
import Derived.Test.YtieojgblamkgoaaGreatDoorGc1d968df
import Derived.Test.YtieojgblamkgoaaGreatDoorG678be151
import Derived.Test.YtieojgblamkgoaaGreatDoorG5da8ac6f
namespace Go.Proofs.YtieojgblamkgoaaGreatDoor
open Go.RowKit
set_option linter.unusedVariables false
set_option linter.unusedSimpArgs false

theorem dst_mem {l : List Oper} {s : List Nat} (hs : l.map (fun o : Oper => o.dst) = s.map some) {k j : Nat} (h : dstOf l k = some j) : s[k]? = some j := by
  unfold dstOf at h
  have h1 : (l.map (fun o : Oper => o.dst))[k]? = (s.map some)[k]? := by rw [hs]
  rw [List.getElem?_map, List.getElem?_map] at h1
  cases hl : l[k]? with
  | none => rw [hl] at h; cases h
  | some o =>
    rw [hl] at h h1
    cases hk : s[k]? with
    | none => rw [hk] at h1; cases h1
    | some t =>
      rw [hk] at h1
      have h2 : some o.dst = some (some t) := h1
      injection h2 with h2
      have h3 : o.dst = some j := h
      rw [h2] at h3
      injection h3 with h3
      rw [h3]
theorem dst_of {l : List Oper} {s : List Nat} (hs : l.map (fun o : Oper => o.dst) = s.map some) {k j : Nat} (h : s[k]? = some j) : dstOf l k = some j := by
  have h1 : (l.map (fun o : Oper => o.dst))[k]? = (s.map some)[k]? := by rw [hs]
  rw [List.getElem?_map, List.getElem?_map, h] at h1
  unfold dstOf
  cases hl : l[k]? with
  | none => rw [hl] at h1; cases h1
  | some o =>
    rw [hl] at h1
    have h2 : some o.dst = some (some j) := h1
    injection h2
set_option maxHeartbeats 1000000 in
theorem wp_region_factsS {P : Program} {id : Nat} {R : Exit → Act → World → Prop} {a0 : Act} {w : World} {l : List Oper} (s : List Nat) (F : Nat → Value → World → Prop) (skip : Nat → Bool)
    (hm : P.follows .mixedOrders = true) (hB : regS l = true) (hs : l.map (fun o : Oper => o.dst) = s.map some) (hmax : ∀ t ∈ s, t < a0.tmps.size)
    (hst : ∀ i v x x', F i v x → Q x x' → F i v x')
    (hgu : ∀ (i : Nat) (o : Oper) (g : Nat) (b : Bool), l[i]? = some o → o.guard = some (g, b) → ∀ v x, F g v x → (v = .bool b ↔ skip i = false))
    (hgn : ∀ (i : Nat) (o : Oper), l[i]? = some o → o.guard = none → skip i = false)
    (hsk : ∀ i x, skip i = true → F i undef x)
    (hop : ∀ i t o (a : Act) x, skip i = false → s[i]? = some t → l[i]? = some o → Q w x → (∀ j, j ∉ s → a.tmps[j]? = a0.tmps[j]?) → (∀ ed ∈ o.after, Region.binds .any ed = true → ∀ t', s[ed.on]? = some t' → ∃ v, a.tmps[t']? = some v ∧ F ed.on v x) → Yld P R o a x t (F i))
    (hend : ∀ (a : Act) x, Q w x → a.tmps.size = a0.tmps.size → a.defers = a0.defers → (∀ j, j ∉ s → a.tmps[j]? = a0.tmps[j]?) → (∀ i t, s[i]? = some t → ∃ v, a.tmps[t]? = some v ∧ F i v x) → Shut (R .normal a x)) :
    (Code.region id l.toArray true).wp P R a0 w := by
  have oth : ∀ {a : Act}, (∀ j, (∀ k, dstOf l k ≠ some j) → a.tmps[j]? = a0.tmps[j]?) → ∀ j, j ∉ s → a.tmps[j]? = a0.tmps[j]? := fun h j hj => h j (fun k hk => hj (List.mem_of_getElem? (dst_mem hs hk)))
  refine wp_region_slots (fun done val x => Q w x ∧ ∀ i, done i = true → F i (val i) x) hm hB (fun i t h => hmax t (List.mem_of_getElem? (dst_mem hs h))) ⟨(Q.refl w).drew, fun i h => by cases h⟩ ?_ ?_ ?_
  · intro i o a x done val ho hd hdep I hoth hvals hg
    have hil : i < l.length := (List.getElem?_eq_some_iff.1 ho).1
    have hlen : l.length = s.length := by have := congrArg List.length hs; simpa using this
    obtain ⟨t, ht⟩ : ∃ t, s[i]? = some t := ⟨_, List.getElem?_eq_getElem (by omega)⟩
    have hdst : o.dst = some t := by rw [← dstOf_at ho]; exact dst_of hs ht
    have hski : skip i = false := by
      cases hgd : o.guard with
      | none => exact hgn i o ho hgd
      | some gb =>
        obtain ⟨g, b⟩ := gb
        obtain ⟨⟨ed, he, hb, hon⟩, _⟩ := (regS_at hB ho).1 g b hgd
        have hdone := hdep ed he hb
        rw [hon] at hdone
        exact (hgu i o g b ho hgd (val g) x (I.2 g hdone)).1 (hg g b hgd)
    have hrun := hop i t o a x hski ht ho I.1 (oth hoth) (fun ed he hb t' ht' => ⟨val ed.on, hvals ed.on t' (hdep ed he hb) (dst_of hs ht'), I.2 ed.on (hdep ed he hb)⟩)
    refine ⟨Oper.wp_mono ?_ hrun.out⟩
    rintro a' x' ⟨v, rfl, q', hf⟩
    refine ⟨v, by rw [hdst], I.1.trans q', fun j hj => ?_⟩
    by_cases e : j = i
    · subst e; rw [upd_eq]; exact hf
    · rw [upd_ne _ _ e] at hj ⊢
      exact hst _ _ _ _ (I.2 j hj) q'
  · intro i o x done val g b ho hd hdep I hgd hne
    have hsk' : skip i = true := by
      cases h : skip i with
      | true => rfl
      | false =>
        obtain ⟨⟨ed, he, hb, hon⟩, _⟩ := (regS_at hB ho).1 g b hgd
        have hdone := hdep ed he hb
        rw [hon] at hdone
        exact absurd ((hgu i o g b ho hgd (val g) x (I.2 g hdone)).2 h) hne
    refine ⟨I.1, fun j hj => ?_⟩
    by_cases e : j = i
    · subst e; rw [upd_eq]; exact hsk _ _ hsk'
    · rw [upd_ne _ _ e] at hj ⊢
      exact I.2 j hj
  · intro a x val I size defers other vals
    refine hend a x I.1 size defers (oth other) (fun i t ht => ⟨val i, vals i t (dst_of hs ht), I.2 i ?_⟩)
    have hlen : l.length = s.length := by have := congrArg List.length hs; simpa using this
    have := (List.getElem?_eq_some_iff.1 ht).1
    exact decide_eq_true (by omega)
end Go.Proofs.YtieojgblamkgoaaGreatDoor
/- Sums: one behind the other, by halves, with what was lost carried along: what the program tells. -/
namespace Go.Proofs.YtieojgblamkgoaaGreatDoor
open Go.RowKit
set_option linter.unusedVariables false
set_option linter.unusedSimpArgs false

/-- A sum, rounded to binary32. -/
def addV (a b : Nat) : Nat := toldD ((Ieee.single.read a).sum (Ieee.single.read b))
def subV (a b : Nat) : Nat := toldD ((Ieee.single.read a).sum (Ieee.single.read b).opposite)
def leftV (l : List Nat) : Nat := if l = [] then 0 else l.foldl addV 2147483648
/-- By halves, so many times at most. -/
def pairsF : Nat → List Nat → Nat
  | 0, l => if l.length = 0 then 0 else addV 2147483648 (l.getD 0 0)
  | f + 1, l => if l.length = 0 then 0 else if l.length = 1 then addV 2147483648 (l.getD 0 0) else addV (pairsF f (l.take (l.length / 2))) (pairsF f (l.drop (l.length / 2)))
def pairsV (l : List Nat) : Nat := pairsF l.length l
/-- With what was lost carried along. -/
def kahS (p : Nat × Nat) (s : Nat) : Nat × Nat := (addV p.1 (subV s p.2), subV (subV (addV p.1 (subV s p.2)) p.1) (subV s p.2))
def kahV (l : List Nat) : Nat := if l = [] then 0 else ((l.drop 1).foldl kahS (addV 2147483648 (l.getD 0 0), 0)).1
end Go.Proofs.YtieojgblamkgoaaGreatDoor
/- Words of binary64: what is told, of NaNs one. -/
namespace Go.Proofs.YtieojgblamkgoaaGreatDoor
open Go.RowKit

/-- What is told of a datum in binary64. -/
def told64 : Option Ieee.Datum → Nat
  | none => 9221120237041090560
  | some (.nan ..) => 9221120237041090560
  | some d => Ieee.double.write d
def add64V (a b : Nat) : Nat := told64 ((Ieee.double.read a).sum (Ieee.double.read b))
end Go.Proofs.YtieojgblamkgoaaGreatDoor
/- Sums in binary64, one behind the other: what the program tells. -/
namespace Go.Proofs.YtieojgblamkgoaaGreatDoor
open Go.RowKit
def left64V (l : List Nat) : Nat := if l = [] then 0 else l.foldl (fun z s => add64V z (wideW s)) 9223372036854775808
end Go.Proofs.YtieojgblamkgoaaGreatDoor
/- sums' narrow. -/
namespace Go.Proofs.YtieojgblamkgoaaGreatDoor
open Go.RowKit
set_option linter.unusedVariables false
set_option linter.unusedSimpArgs false

set_option maxHeartbeats 400000 in
theorem snarrow_any (W : Nat) (w : World) : Calls Tryz.prog 109 #[.float .f64 W] w fun e w' => e = .returned (.int .u32 (toldD (some (Ieee.double.read W)) : Nat)) ∧ Q w w' := by
  have l1 := f64bits
  go_enter Tryz.func109, Tryz.ntmps109
  go_wp2_with fail
  refine (cnarrow_any W _).mono ?_
  rintro e w1 ⟨rfl, q1⟩
  go_wp2_with fail
  go_ret
  exact ⟨rfl, q1⟩
end Go.Proofs.YtieojgblamkgoaaGreatDoor
/- An exact sum divided, as a sample. -/
namespace Go.Proofs.YtieojgblamkgoaaGreatDoor
open Go.RowKit
set_option linter.unusedVariables false
set_option linter.unusedSimpArgs false

theorem odd_wd (s : Bool) {V d : Nat} (hV : 0 < V) (hd : 0 < d) (hb : blen V ≤ 320) : ∃ (m : Nat) (p : Int) (L : Nat), oddW s V d = wd s m p ∧ m = topV V d * 2 ^ L ∧ p + (L : Int) = ((blen (V / d) - 53 : Nat) : Int) - 151 ∧ 4503599627370496 ≤ m ∧ m < 9007199254740992 ∧ -1074 ≤ p ∧ p ≤ 971 := by
  have h1 : topV V d < 2 ^ 53 := top_lt rfl
  have h0 : 0 < topV V d := top_pos hV hd rfl
  have hbl : blen (V / d) ≤ 320 := by
    refine Nat.le_trans (blen_le (k := blen V) ?_) hb
    exact Nat.lt_of_le_of_lt (Nat.div_le_self _ _) (blen_lt V)
  unfold oddW
  generalize topV V d = t at *
  obtain ⟨b, hb'⟩ : ∃ b, blen (V / d) - 53 = b := ⟨_, rfl⟩
  rw [hb']
  have hb2 : b ≤ 267 := by omega
  have hne : t ≠ 0 := by omega
  have a0 := Nat.log2_self_le hne
  have a1 : t < 2 ^ (t.log2 + 1) := Nat.lt_log2_self
  have aL : t.log2 ≤ 52 := by
    have := (Nat.log2_lt hne).2 h1
    omega
  generalize t.log2 = L at *
  have := nearest_exact (neg := s) (k := 0) (p := (b : Int) - 151) a0 a1 aL (by omega) (by omega)
  rw [Nat.pow_zero, Nat.mul_one] at this
  refine ⟨t * 2 ^ (52 - L), (b : Int) - 151 + ((0 : Nat) : Int) + L - 52, 52 - L, this, rfl, by omega, ?_, ?_, by omega, by omega⟩
  · have := Nat.mul_le_mul_right (2 ^ (52 - L)) a0
    rw [← Nat.pow_add, show L + (52 - L) = 52 by omega] at this
    exact this
  · have := Nat.mul_lt_mul_of_pos_right a1 (Nat.two_pow_pos (52 - L))
    rw [← Nat.pow_add, show L + 1 + (52 - L) = 53 by omega] at this
    exact this
theorem told_odd (s : Bool) {V d : Nat} (hV : 0 < V) (hd : 0 < d) (hb : blen V ≤ 320) : toldD (some (Ieee.double.read (oddW s V d))) = Ieee.single.word s (exR V d) := by
  obtain ⟨m, p, L, e1, e2, e3, h0, h1, p0, p1⟩ := odd_wd s hV hd hb
  rw [e1, read_wd h0 h1 p0 p1, toldD_num, e2, rung_scale, e3]
  congr 1
  exact ex_top rfl
theorem xor_top {n : Nat} (h : n < 9223372036854775808) : n ^^^ 9223372036854775808 = 9223372036854775808 + n := by
  have e1 : (n ^^^ 9223372036854775808) / 2 ^ 63 = n / 2 ^ 63 ^^^ 1 := by rw [Nat.xor_div_two_pow]
  have e2 : (n ^^^ 9223372036854775808) % 2 ^ 63 = n % 2 ^ 63 := by rw [Nat.xor_mod_two_pow]; simp
  have e3 := Nat.div_add_mod (n ^^^ 9223372036854775808) (2 ^ 63)
  rw [e1, e2] at e3
  have e4 : n / 2 ^ 63 = 0 := by omega
  rw [e4] at e3
  have e5 : (0 ^^^ 1 : Nat) = 1 := rfl
  rw [e5] at e3
  omega
theorem top_bit : 2 ^ (FloatKind.f64.format.exponentBits + FloatKind.f64.format.fractionBits) = 9223372036854775808 := by decide
theorem word_f (r : Nat) : Ieee.double.word false r = r := rfl
theorem word_t (r : Nat) : Ieee.double.word true r = Ieee.double.signWeight + r := rfl
theorem neg_top (r : Nat) (h : r < 9223372036854775808) : Op.negFloat .f64 r = 9223372036854775808 + r := by
  unfold Op.negFloat
  rw [top_bit]
  exact xor_top h
theorem odd_neg (V d : Nat) : Op.negFloat .f64 (oddW false V d) = oddW true V d := by
  unfold oddW
  rw [nearest_rung, nearest_rung, word_f, word_t, double_sign]
  have hl := rungOf_le Ieee.double (topV V d) (((blen (V / d) - 53 : Nat) : Int) - 151)
  rw [double_inf] at hl
  exact neg_top _ (by omega)
set_option maxHeartbeats 2000000 in
set_option maxRecDepth 100000 in
theorem divided_any (N : Nat → Nat) (z : Int) (hR : Rep N z) (h0 : z ≠ 0) (hz : 2 * z.natAbs < m64 ^ 5) (d : Nat) (hd : 0 < d) (hd' : d < 4294967296) (w : World) (hT : Tab w) : Calls Tryz.prog 110 #[numV N, .int .u64 (d : Int)] w fun e w' => e = .returned (.float .f64 (oddW (decide (z < 0)) z.natAbs d)) ∧ Q w w' := by
  have HN : Hid (∀ i, N i < m64) := hR.lt
  have HT : Hid (Tab w) := hT
  by_cases hn : z < 0
  · have h1 := hR.neg hn (by generalize m64 ^ 5 = G at *; omega)
    have e1 : decide (9223372036854775808 ≤ N 4) = true := decide_eq_true h1.2
    have HV : Hid (valW (negW N) 5 = z.natAbs) := by
      show valW (negW N) 5 = z.natAbs
      have := h1.1; omega
    have hV : Hid (0 < valW (negW N) 5) := by
      show 0 < valW (negW N) 5
      rw [HV.out]; omega
    have HW : Hid (oddW (decide (z < 0)) z.natAbs d = Op.negFloat .f64 (oddW false (valW (negW N) 5) d)) := by
      show oddW (decide (z < 0)) z.natAbs d = _
      rw [odd_neg, HV.out, decide_eq_true hn]
    have l1 : ∀ w : World, (Op.unary UnOp.neg (.float .f64 (oddW false (valW (negW N) 5) d))).run Tryz.prog w = .ok (.float .f64 (Op.negFloat .f64 (oddW false (valW (negW N) 5) d))) w := fun _ => rfl
    clear h1 hR hT hz h0 hn
    unfold numV
    go_enter Tryz.func110, Tryz.ntmps110
    go_wp2_with fail
    refine (negative_any N HN.out _).mono ?_
    rintro e w1 ⟨rfl, q1⟩
    rw [e1]
    have c0 := q1.cell (box_words w N 0 (by decide))
    have c1 := q1.cell (box_words w N 1 (by decide))
    have c2 := q1.cell (box_words w N 2 (by decide))
    have c3 := q1.cell (box_words w N 3 (by decide))
    have c4 := q1.cell (box_words w N 4 (by decide))
    have HQ1 : Hid (Q w w1) := ((Q.refl w).cells _ _).trans q1
    clear q1
    go_wp2_with fail
    refine (negated_any N HN.out _).mono ?_
    rintro e w2 ⟨rfl, q2⟩
    have HQ2 : Hid (Q w w2) := HQ1.out.trans q2
    clear q2 c0 c1 c2 c3 c4
    go_wp2_with fail
    refine (size_any (negW N) (neg_lt N) d hd hd' hV.out _ (HQ2.out.tab HT.out)).mono ?_
    rintro e w3 ⟨rfl, q3⟩
    have HQ3 : Hid (Q w w3) := HQ2.out.trans q3
    clear q3
    go_wp2_with fail
    go_ret
    exact ⟨by rw [HW.out]; rfl, HQ3.out⟩
  · have h1 := hR.pos (by omega) (by generalize m64 ^ 5 = G at *; omega)
    have e1 : decide (9223372036854775808 ≤ N 4) = false := decide_eq_false h1.2
    have HV : Hid (valW N 5 = z.natAbs) := by
      show valW N 5 = z.natAbs
      have := h1.1; omega
    have hV : Hid (0 < valW N 5) := by
      show 0 < valW N 5
      rw [HV.out]; omega
    rw [decide_eq_false hn]
    clear h1 hR hT hz h0 hn
    unfold numV
    go_enter Tryz.func110, Tryz.ntmps110
    go_wp2_with fail
    refine (negative_any N HN.out _).mono ?_
    rintro e w1 ⟨rfl, q1⟩
    rw [e1]
    have c0 := q1.cell (box_words w N 0 (by decide))
    have c1 := q1.cell (box_words w N 1 (by decide))
    have c2 := q1.cell (box_words w N 2 (by decide))
    have c3 := q1.cell (box_words w N 3 (by decide))
    have c4 := q1.cell (box_words w N 4 (by decide))
    have HQ1 : Hid (Q w w1) := ((Q.refl w).cells _ _).trans q1
    clear q1
    go_wp2_with fail
    refine (size_any N HN.out d hd hd' hV.out _ (HQ1.out.tab HT.out)).mono ?_
    rintro e w2 ⟨rfl, q2⟩
    have HQ2 : Hid (Q w w2) := HQ1.out.trans q2
    clear q2 c0 c1 c2 c3 c4
    go_wp2_with fail
    go_ret
    exact ⟨by rw [← HV.out]; rfl, HQ2.out⟩
end Go.Proofs.YtieojgblamkgoaaGreatDoor
/- Regions that draw their order, whose last operation waits for all others: one walk in the order of the text, and then the last operation. -/
namespace Go.Proofs.YtieojgblamkgoaaGreatDoor
open Go.RowKit
set_option linter.unusedVariables false

/-- The last operation waits for all others; each of these waits for earlier ones alone; none is guarded. -/
def lastB (pre : List Oper) (st : Oper) : Bool :=
  ((List.range pre.length).all fun k => match pre[k]? with
    | some o => o.guard.isNone && o.after.toList.all fun e => !(Region.binds .any e) || decide (e.on < k)
    | none => true) &&
  ((st.guard.isNone && st.after.toList.all fun e => !(Region.binds .any e) || decide (e.on < pre.length)) && (List.range pre.length).all fun k => st.after.toList.any fun e => Region.binds .any e && (e.on == k))
theorem lastB_pre {pre : List Oper} {st : Oper} (h : lastB pre st = true) {k : Nat} {o : Oper} (hk : pre[k]? = some o) : o.guard = none ∧ ∀ e ∈ o.after, Region.binds .any e = true → e.on < k := by
  unfold lastB at h
  rw [Bool.and_eq_true] at h
  have hlt : k < pre.length := (List.getElem?_eq_some_iff.1 hk).1
  have h1 := List.all_eq_true.1 h.1 k (List.mem_range.2 hlt)
  rw [hk] at h1
  simp only [Bool.and_eq_true] at h1
  refine ⟨by simpa using h1.1, fun e he hb => ?_⟩
  have h2 := List.all_eq_true.1 h1.2 e (by simpa using he)
  rw [hb] at h2
  simpa using h2
theorem lastB_st {pre : List Oper} {st : Oper} (h : lastB pre st = true) : st.guard = none ∧ (∀ k, k < pre.length → ∃ e ∈ st.after, Region.binds .any e = true ∧ e.on = k) ∧ ∀ e ∈ st.after, Region.binds .any e = true → e.on < pre.length := by
  unfold lastB at h
  simp only [Bool.and_eq_true] at h
  refine ⟨by simpa using h.2.1.1, fun k hk => ?_, fun e he hb => ?_⟩
  rotate_left
  · have h2 := List.all_eq_true.1 h.2.1.2 e (by simpa using he)
    rw [hb] at h2
    simpa using h2
  have h1 := List.all_eq_true.1 h.2.2 k (List.mem_range.2 hk)
  obtain ⟨e, he, h2⟩ := List.any_eq_true.1 h1
  rw [Bool.and_eq_true] at h2
  exact ⟨e, by simpa using he, h2.1, by simpa using h2.2⟩
theorem push_getD_lt (l : Array Bool) (d : Bool) {i : Nat} (h : i < l.size) : (l.push false).getD i d = l.getD i d := by
  rw [Array.getD_eq_getD_getElem?, Array.getD_eq_getD_getElem?, Array.getElem?_push_lt h, Array.getElem?_eq_getElem h]
theorem push_getD_eq (l : Array Bool) (d : Bool) : (l.push false).getD l.size d = false := by
  rw [Array.getD_eq_getD_getElem?, Array.getElem?_push_size]; rfl
theorem ops_lt {pre : List Oper} {st : Oper} {i : Nat} (h : i < pre.length) : (pre ++ [st]).toArray[i]? = pre.toArray[i]? := by
  simp [List.getElem?_append_left h]
theorem ready_lt {pre : List Oper} {st : Oper} (hB : lastB pre st = true) {listed : Array Bool} (hs : listed.size = pre.length) {i : Nat} (hi : i ∈ Region.ready .any (pre ++ [st]).toArray (listed.push false)) :
    (i < pre.length ∧ i ∈ Region.ready .any pre.toArray listed) ∨ (i = pre.length ∧ ∀ k, k < pre.length → listed.getD k false = true) := by
  obtain ⟨h1, o, ho, h2⟩ := mem_ready.1 hi
  rcases Nat.lt_trichotomy i pre.length with h | h | h
  · left
    refine ⟨h, mem_ready.2 ⟨?_, o, ?_, fun e he hb => ?_⟩⟩
    · rw [← push_getD_lt listed true (by omega)]; exact h1
    · rw [← ops_lt (st := st) h]; exact ho
    · have hk : pre[i]? = some o := by rw [ops_lt h] at ho; simpa using ho
      have := (lastB_pre hB hk).2 e he hb
      rw [← push_getD_lt listed false (by omega)]
      exact h2 e he hb
  · right
    refine ⟨h, fun k hk => ?_⟩
    have hst : o = st := by
      rw [h] at ho
      simp at ho
      exact ho.symm
    subst hst
    obtain ⟨e, he, hb, rfl⟩ := (lastB_st hB).2.1 k hk
    rw [← push_getD_lt listed false (by omega)]
    exact h2 e he hb
  · exfalso
    rw [List.getElem?_toArray, List.getElem?_eq_none (by simp; omega)] at ho
    cases ho
theorem ready_back {pre : List Oper} {st : Oper} (hB : lastB pre st = true) {listed : Array Bool} (hs : listed.size = pre.length) {i : Nat} (hi : i ∈ Region.ready .any pre.toArray listed) : i ∈ Region.ready .any (pre ++ [st]).toArray (listed.push false) := by
  obtain ⟨h1, o, ho, h2⟩ := mem_ready.1 hi
  have h : i < pre.length := by
    have := (List.getElem?_eq_some_iff.1 (show pre[i]? = some o by simpa using ho)).1
    exact this
  refine mem_ready.2 ⟨?_, o, ?_, fun e he hb => ?_⟩
  · rw [push_getD_lt listed true (by omega)]; exact h1
  · rw [ops_lt h]; exact ho
  · have hk : pre[i]? = some o := by simpa using ho
    have := (lastB_pre hB hk).2 e he hb
    rw [push_getD_lt listed false (by omega)]
    exact h2 e he hb
theorem ready_nil {pre : List Oper} {st : Oper} (hB : lastB pre st = true) {listed : Array Bool} (hs : listed.size = pre.length) (hr : Region.ready .any pre.toArray listed = []) : ∀ k, k < pre.length → listed.getD k false = true := by
  intro k
  induction k using Nat.strongRecOn with
  | ind k ih =>
    intro hk
    have hk' : k < listed.size := by omega
    cases hl : listed.getD k false with
    | true => rfl
    | false =>
      exfalso
      obtain ⟨o, ho⟩ : ∃ o, pre[k]? = some o := ⟨_, List.getElem?_eq_getElem hk⟩
      have : k ∈ Region.ready .any pre.toArray listed := by
        refine mem_ready.2 ⟨?_, o, by simpa using ho, fun e he hb => ?_⟩
        · rw [Array.getD_eq_getD_getElem?, Array.getElem?_eq_getElem hk'] at hl ⊢; exact hl
        · have := (lastB_pre hB ho).2 e he hb
          exact ih e.on this (by omega)
      rw [hr] at this
      cases this
theorem push_set (l : Array Bool) {i : Nat} (h : i < l.size) : (l.push false).setIfInBounds i true = (l.setIfInBounds i true).push false := by
  apply Array.ext_getElem?
  intro j
  rw [Array.getElem?_setIfInBounds, Array.getElem?_push, Array.getElem?_push, Array.getElem?_setIfInBounds]
  simp only [Array.size_push, Array.size_setIfInBounds]
  by_cases e : i = j
  · subst e
    have h3 : ¬ i = l.size := by omega
    have h4 : i < l.size + 1 := by omega
    simp [h, h3, h4]
  · simp [e]
theorem wpAny_done {P : Program} {ops : Array Oper} {Q' : Exit → Act → World → Prop} {listed : Array Bool} (hr : Region.ready .any ops listed = []) {a : Act} {w : World} (h : Q' .normal a w) : ∀ f, wpAny P .any ops Q' f listed a w
  | 0 => ⟨hr, h⟩
  | f + 1 => ⟨fun _ => h, fun i hi => by rw [hr] at hi; cases hi⟩
theorem wpAny_last {P : Program} {pre : List Oper} {st : Oper} {C : World → Prop} {Q : Act → Prop} {Q' : Exit → Act → World → Prop} (hB : lastB pre st = true)
    (hQ : ∀ a w, C w → Q a → st.wp P a w (fun a' w' => Q' .normal a' w') Q') : ∀ (fuel : Nat) (listed : Array Bool) (a : Act) (w : World), listed.size = pre.length → C w →
    wpAnyQ P .any pre.toArray C Q fuel listed a → wpAny P .any (pre ++ [st]).toArray Q' (fuel + 1) (listed.push false) a w := by
  have done : ∀ (fuel : Nat) (listed : Array Bool) (a : Act) (w : World), listed.size = pre.length → C w → (∀ k, k < pre.length → listed.getD k false = true) → Q a → wpAny P .any (pre ++ [st]).toArray Q' (fuel + 1) (listed.push false) a w := by
    intro fuel listed a w hs hC hall hq
    obtain ⟨g1, g2, g3⟩ := lastB_st hB
    have hrn : pre.length ∈ Region.ready .any (pre ++ [st]).toArray (listed.push false) := by
      refine mem_ready.2 ⟨?_, st, by simp, fun e he hb => ?_⟩
      · rw [← hs]; exact push_getD_eq _ _
      · have := g3 e he hb
        rw [push_getD_lt listed false (by omega)]
        exact hall _ this
    refine ⟨fun hr => (by rw [hr] at hrn; cases hrn), fun i hi => ?_⟩
    have hin : i = pre.length := by
      rcases ready_lt hB hs hi with ⟨h1, h2⟩ | ⟨h1, _⟩
      · exfalso
        obtain ⟨h3, _⟩ := mem_ready.1 h2
        have h4 := hall i h1
        rw [Array.getD_eq_getD_getElem?, Array.getElem?_eq_getElem (by omega)] at h3 h4
        simp at h3 h4
        rw [h4] at h3
        cases h3
      · exact h1
    subst hin
    unfold wpOp
    have hget : (pre ++ [st]).toArray[pre.length]? = some st := by simp
    rw [hget]
    simp only
    rw [if_pos (by unfold Region.wanted; rw [g1])]
    refine Or.inl (Oper.wp_mono (fun a' w' h => ?_) (hQ a w hC hq))
    refine wpAny_done ?_ h fuel
    cases hrr : Region.ready .any (pre ++ [st]).toArray ((listed.push false).setIfInBounds pre.length true) with
    | nil => rfl
    | cons j js =>
      exfalso
      have hj : j ∈ Region.ready .any (pre ++ [st]).toArray ((listed.push false).setIfInBounds pre.length true) := by rw [hrr]; exact List.mem_cons_self
      obtain ⟨h3, o, ho, _⟩ := mem_ready.1 hj
      have hj2 : j < (pre ++ [st]).length := by
        have := (List.getElem?_eq_some_iff.1 (show (pre ++ [st])[j]? = some o by simpa using ho)).1
        exact this
      rw [List.length_append, List.length_singleton] at hj2
      rw [Array.getD_eq_getD_getElem?, Array.getElem?_setIfInBounds] at h3
      by_cases e : pre.length = j
      · rw [if_pos e, if_pos (by rw [Array.size_push]; omega)] at h3
        cases h3
      · rw [if_neg e, Array.getElem?_push_lt (by omega)] at h3
        have h4 := hall j (by omega)
        rw [Array.getD_eq_getD_getElem?, Array.getElem?_eq_getElem (by omega)] at h4
        simp at h3 h4
        rw [h4] at h3
        cases h3
  intro fuel
  induction fuel with
  | zero =>
    intro listed a w hs hC h
    exact done 0 listed a w hs hC (ready_nil hB hs h.1) h.2
  | succ fuel ih =>
    intro listed a w hs hC h
    cases hr : Region.ready .any pre.toArray listed with
    | nil => exact done (fuel + 1) listed a w hs hC (ready_nil hB hs hr) (h.1 hr)
    | cons j js =>
      have hj : j ∈ Region.ready .any pre.toArray listed := by rw [hr]; exact List.mem_cons_self
      refine ⟨fun hn => (by have := ready_back (st := st) hB hs hj; rw [hn] at this; cases this), fun i hi => ?_⟩
      rcases ready_lt hB hs hi with ⟨h1, h2⟩ | ⟨_, h2⟩
      · have hq := h.2 i h2
        obtain ⟨o, ho⟩ : ∃ o, pre[i]? = some o := ⟨_, List.getElem?_eq_getElem h1⟩
        have hg := (lastB_pre hB ho).1
        unfold qOp at hq
        unfold wpOp
        rw [ops_lt h1]
        rw [show pre.toArray[i]? = some o by simpa using ho] at hq ⊢
        simp only at hq ⊢
        have hwt : ∀ y, Region.wanted o y = true := fun y => by unfold Region.wanted; rw [hg]
        rw [if_pos (hwt _)] at hq ⊢
        refine Or.inl (Oper.wp_of_quiet hC (fun a' w' hC' hk => ?_) hq)
        rw [push_set listed (by omega)]
        exact ih (listed.setIfInBounds i true) a' w' (by simpa using hs) hC' hk
      · exfalso
        obtain ⟨h3, o, ho, _⟩ := mem_ready.1 hj
        have hj2 : j < pre.length := (List.getElem?_eq_some_iff.1 (show pre[j]? = some o by simpa using ho)).1
        have h4 := h2 j hj2
        rw [Array.getD_eq_getD_getElem?, Array.getElem?_eq_getElem (by omega)] at h3 h4
        simp at h3 h4
        rw [h4] at h3
        cases h3
/-- The region's wp: the walk of all operations but the last, each quiet in the worlds that differ by new blocks; then the last one. -/
theorem wp_region_last {P : Program} {id : Nat} {R : Exit → Act → World → Prop} {a : Act} {w : World} {l : List Oper} (pre : List Oper) (st : Oper) (hl : l = pre ++ [st]) (hm : P.follows .mixedOrders = true) (hB : Region.lexB .any pre.toArray = true) (hL : lastB pre st = true)
    (h : wpQuiet P pre.toArray (fun w' => ∃ n : QW w, w' = n.x) (fun a' => ∀ (n : QW w) (K : Act → World → Prop), (∀ a'' w'', R .normal a'' w'' → K a'' w'') → st.wp P a' n.x K R) pre a) : (Code.region id l.toArray true).wp P R a w := by
  subst hl
  refine wp_region_any hm ?_
  have hq := wpAnyQ_lex (C := fun w' => ∃ n : QW w, w' = n.x) (md := .any) (by simp only [Region.lexB, Bool.and_eq_true] at hB; exact hB.1) pre 0 (Array.replicate pre.length false) a (by simp) (by simp only [Region.lexB, Bool.and_eq_true] at hB; simpa using hB.2) h
  have := wpAny_last (Q' := R) hL (fun a' w' hC hq => by obtain ⟨n, rfl⟩ := hC; exact hq n _ (fun _ _ h => h)) pre.length (Array.replicate pre.length false) a w.drew (by simp) ⟨⟨w.drew, (Q.refl w).drew⟩, rfl⟩ hq
  have e : (Array.replicate pre.length false).push false = Array.replicate (pre ++ [st]).toArray.size false := by
    rw [show (pre ++ [st]).toArray.size = pre.length + 1 by simp, Array.replicate_succ]
  rw [e] at this
  simpa using this
theorem wp_region_lastn {P : Program} {id : Nat} {R : Exit → Act → World → Prop} {a : Act} {w : World} {l : List Oper} (n : Nat) (hn : l.length = n + 1) (st : Oper) (hst : l[n]? = some st) (hm : P.follows .mixedOrders = true) (hB : Region.lexB .any (l.take n).toArray = true) (hL : lastB (l.take n) st = true)
    (h : wpQuiet P (l.take n).toArray (fun w' => ∃ n : QW w, w' = n.x) (fun a' => ∀ (n : QW w) (K : Act → World → Prop), (∀ a'' w'', R .normal a'' w'' → K a'' w'') → st.wp P a' n.x K R) (l.take n) a) : (Code.region id l.toArray true).wp P R a w := by
  refine wp_region_last (l.take n) st ?_ hm hB hL h
  have h1 : n < l.length := by omega
  have h2 : l[n] = st := by rw [List.getElem?_eq_getElem h1] at hst; injection hst
  rw [← h2, List.take_append_getElem h1, List.take_of_length_le (by omega)]
end Go.Proofs.YtieojgblamkgoaaGreatDoor
/- Accumulators: what they hold; samples' kinds. -/
namespace Go.Proofs.YtieojgblamkgoaaGreatDoor
open Go.RowKit
set_option linter.unusedVariables false
set_option linter.unusedSimpArgs false

/-- A sample's kind: -0, finite, infinities, NaN. -/
def kindV (s : Nat) : Nat := if s = 2147483648 then 1 else if s % 2147483648 < 2139095040 then 2 else if 2139095040 < s % 2147483648 then 16 else if s = 2139095040 then 4 else 8
theorem andnot_top (s : Nat) (h : s < 4294967296) : bits .andNot .u32 (s : Int) 2147483648 = ((s % 2147483648 : Nat) : Int) := by go_bits2
set_option maxHeartbeats 1000000 in
theorem kind_any (s : Nat) (hs : s < 4294967296) (w : World) : Calls Tryz.prog 91 #[.int .u32 (s : Int)] w fun e w' => e = .returned (.int .i64 (kindV s : Nat)) ∧ w' = w := by
  have e1 := andnot_top s hs
  unfold kindV
  generalize s % 2147483648 = m at *
  by_cases h1 : s = 2147483648
  · subst h1
    rw [if_pos rfl]
    go_enter Tryz.func91, Tryz.ntmps91
    go_wp2_with fail
    go_ret
    exact ⟨rfl, rfl⟩
  · have b1 : ((s : Int) == 2147483648) = false := by rw [beq_eq_false_iff_ne]; omega
    rw [if_neg h1]
    by_cases h2 : m < 2139095040
    · have b2 : (m : Int) < 2139095040 := by omega
      rw [if_pos h2]
      clear h1 h2 hs
      go_enter Tryz.func91, Tryz.ntmps91
      go_wp2_with fail
      go_ret
      exact ⟨rfl, rfl⟩
    · have b2 : ¬ (m : Int) < 2139095040 := by omega
      rw [if_neg h2]
      by_cases h3 : 2139095040 < m
      · have b3 : (2139095040 : Int) < m := by omega
        rw [if_pos h3]
        clear h1 h2 h3 hs
        go_enter Tryz.func91, Tryz.ntmps91
        go_wp2_with fail
        go_ret
        exact ⟨rfl, rfl⟩
      · have b3 : ¬ (2139095040 : Int) < m := by omega
        rw [if_neg h3]
        by_cases h4 : s = 2139095040
        · have b4 : ((s : Int) == 2139095040) = true := by rw [beq_iff_eq]; omega
          rw [if_pos h4]
          clear h1 h2 h3 h4 hs
          go_enter Tryz.func91, Tryz.ntmps91
          go_wp2_with fail
          go_ret
          exact ⟨rfl, rfl⟩
        · have b4 : ((s : Int) == 2139095040) = false := by rw [beq_eq_false_iff_ne]; omega
          rw [if_neg h4]
          clear h1 h2 h3 h4 hs
          go_enter Tryz.func91, Tryz.ntmps91
          go_wp2_with fail
          go_ret
          exact ⟨rfl, rfl⟩
theorem kind_lt (s : Nat) : kindV s < 32 := by
  unfold kindV
  split
  · decide
  · split
    · decide
    · split
      · decide
      · split <;> decide
theorem kind_fin {s : Nat} (hs : s < 4294967296) (h : kindV s = 2) : s / 8388608 % 256 < 255 := by
  unfold kindV at h
  split at h
  · cases h
  · split at h
    · omega
    · split at h
      · cases h
      · split at h <;> cases h
def unK (s : Nat) : Int := if kindV s = 2 then unZ s else 0
def sumZ (l : List Nat) : Int := l.foldl (fun z s => z + unK s) 0
def metV (l : List Nat) : Nat := l.foldl (fun m s => m ||| kindV s) 0
theorem sumZ_snoc (l : List Nat) (s : Nat) : sumZ (l ++ [s]) = sumZ l + unK s := by unfold sumZ; rw [List.foldl_append]; rfl
theorem metV_snoc (l : List Nat) (s : Nat) : metV (l ++ [s]) = metV l ||| kindV s := by unfold metV; rw [List.foldl_append]; rfl
theorem snoc_ind {P : List Nat → Prop} (h0 : P []) (h1 : ∀ l s, P l → P (l ++ [s])) (l : List Nat) : P l := by
  have : ∀ n (l : List Nat), l.length = n → P l := by
    intro n
    induction n with
    | zero => intro l h; rw [List.eq_nil_of_length_eq_zero h]; exact h0
    | succ n ih =>
      intro l h
      have hne : l ≠ [] := fun e => by rw [e] at h; cases h
      rw [← List.dropLast_concat_getLast hne]
      exact h1 _ _ (ih _ (by rw [List.length_dropLast]; omega))
  exact this _ l rfl
theorem metV_lt (l : List Nat) : metV l < 32 := by
  induction l using snoc_ind with
  | h0 => decide
  | h1 l s ih =>
    rw [metV_snoc]
    exact Nat.or_lt_two_pow (n := 5) ih (kind_lt s)
theorem sumZ_append (l m : List Nat) : sumZ (l ++ m) = sumZ l + sumZ m := by
  induction m using snoc_ind with
  | h0 => rw [List.append_nil]; exact (Int.add_zero _).symm
  | h1 m s ih => rw [← List.append_assoc, sumZ_snoc, sumZ_snoc, ih, Int.add_assoc]
theorem metV_append (l m : List Nat) : metV (l ++ m) = metV l ||| metV m := by
  induction m using snoc_ind with
  | h0 => rw [List.append_nil]; exact (Nat.or_zero _).symm
  | h1 m s ih => rw [← List.append_assoc, metV_snoc, metV_snoc, ih, Nat.or_assoc]
theorem or_small : ∀ a : Nat, a < 32 → ∀ b : Nat, b < 32 → bits .or .i64 (a : Int) (b : Int) = ((a ||| b : Nat) : Int) := by decide +kernel
def capZ : Nat := 2 ^ 24 * 2 ^ 256
theorem unZ_le {s : Nat} (h : s / 8388608 % 256 < 255) : (unZ s).natAbs < capZ := by
  have h1 := szS_lt s
  have h2 := atS_lt h
  have h3 : szS s * 2 ^ atS s < 2 ^ 24 * 2 ^ 256 := Nat.lt_of_lt_of_le (Nat.mul_lt_mul_of_pos_right h1 (Nat.two_pow_pos _)) (Nat.mul_le_mul_left _ (Nat.pow_le_pow_right (by decide) (by omega)))
  have : (unZ s).natAbs = szS s * 2 ^ atS s := by unfold unZ; split <;> omega
  rw [this]
  exact h3
theorem sumZ_le (l : List Nat) (hb : ∀ s ∈ l, s < 4294967296) : (sumZ l).natAbs ≤ l.length * capZ := by
  induction l using snoc_ind with
  | h0 => exact Nat.zero_le _
  | h1 l s ih =>
    have h1 := ih (fun x hx => hb x (List.mem_append_left _ hx))
    have h2 : (unK s).natAbs ≤ capZ := by
      unfold unK
      split
      · rename_i h
        exact Nat.le_of_lt (unZ_le (kind_fin (hb s (by simp)) h))
      · exact Nat.zero_le _
    rw [sumZ_snoc, List.length_append, List.length_singleton, Nat.add_mul, Nat.one_mul]
    generalize capZ = G at *
    omega
theorem cap_m {n : Nat} (h : n ≤ 2147483648) : 2 * (n * capZ) < m64 ^ 5 := by
  have e : capZ = 2 ^ 24 * m64 ^ 4 := by unfold capZ; rw [m64_pow]
  have e2 : m64 ^ 5 = m64 * m64 ^ 4 := by rw [Nat.pow_succ, Nat.mul_comm]
  have hp : 0 < m64 ^ 4 := Nat.pow_pos (by decide)
  rw [e, e2, ← Nat.mul_assoc, ← Nat.mul_assoc]
  refine Nat.mul_lt_mul_of_pos_right ?_ hp
  unfold m64
  omega
theorem sumZ_fits {l : List Nat} (hb : ∀ s ∈ l, s < 4294967296) (hl : l.length ≤ 2147483648) : 2 * (sumZ l).natAbs < m64 ^ 5 :=
  Nat.lt_of_le_of_lt (Nat.mul_le_mul_left 2 (sumZ_le l hb)) (cap_m hl)
/-- An accumulator of a list of samples. -/
structure AccOf (w : World) (B : Nat) (l : List Nat) (c : Nat) (N : Nat → Nat) : Prop where
  n : WIs w B N
  r : Rep N (sumZ l)
  m : w.cell? ⟨B, 5, none⟩ = some (.int .i64 (metV l : Nat))
  c : w.cell? ⟨B, 6, none⟩ = some (.int .i64 (c : Nat))
  z : ∀ j, w.frozen? ⟨B, j, none⟩ = false
theorem AccOf.next {w w' : World} {B c : Nat} {l : List Nat} {N : Nat → Nat} (h : AccOf w B l c N) (q : Q w w') : AccOf w' B l c N :=
  ⟨fun j hj => q.cell (h.n j hj), h.r, q.cell h.m, q.cell h.c, fun j => by rw [q.2]; exact h.z j⟩
theorem AccOf.far {w w' : World} {B A c : Nat} {l : List Nat} {N : Nat → Nat} (h : AccOf w B l c N) (f : Fb A w w') (hA : B ≠ A) : AccOf w' B l c N :=
  ⟨fun j hj => f.cell (h.n j hj) hA, h.r, f.cell h.m hA, f.cell h.c hA, fun j => by rw [f.frz]; exact h.z j⟩
def AccAt (w : World) (B : Nat) (l : List Nat) : Prop := ∃ N, AccOf w B l l.length N
theorem AccAt.next {w w' : World} {B : Nat} {l : List Nat} (h : AccAt w B l) (q : Q w w') : AccAt w' B l := by
  obtain ⟨N, h⟩ := h
  exact ⟨N, h.next q⟩
theorem AccAt.far {w w' : World} {B A : Nat} {l : List Nat} (h : AccAt w B l) (f : Fb A w w') (hA : B ≠ A) : AccAt w' B l := by
  obtain ⟨N, h⟩ := h
  exact ⟨N, h.far f hA⟩
end Go.Proofs.YtieojgblamkgoaaGreatDoor
/- Accumulators: Add. -/
namespace Go.Proofs.YtieojgblamkgoaaGreatDoor
open Go.RowKit
set_option linter.unusedVariables false
set_option linter.unusedSimpArgs false

theorem set_same {w : World} {p : Addr} {u v : Value} (h : w.cell? p = some u) : (w.setCell p v).cell? p = some v := by
  obtain ⟨b, o, t⟩ := p
  simp [go_sem, h]
theorem set_off {w : World} {B i j : Nat} {v : Value} (h : i ≠ j) : (w.setCell ⟨B, i, none⟩ v).cell? ⟨B, j, none⟩ = w.cell? ⟨B, j, none⟩ :=
  World.cell?_setCell_other _ _ _ _ (fun e => h (by injection e))
/-- One sample more. -/
theorem AccOf.met {w : World} {B c x : Nat} {l : List Nat} {N : Nat → Nat} (hn : WIs w B N) (hr : Rep N (sumZ l + unK x)) (hm : ∃ u, w.cell? ⟨B, 5, none⟩ = some u) (hc : w.cell? ⟨B, 6, none⟩ = some (.int .i64 (c : Nat))) (hz : ∀ j, w.frozen? ⟨B, j, none⟩ = false) :
    AccOf (w.setCell ⟨B, 5, none⟩ (.int .i64 ((metV l ||| kindV x : Nat) : Int))) B (l ++ [x]) c N := by
  obtain ⟨u, hu⟩ := hm
  refine ⟨fun j hj => ?_, ?_, ?_, ?_, fun j => ?_⟩
  · rw [set_off (by omega)]; exact hn j hj
  · rw [sumZ_snoc]; exact hr
  · rw [metV_snoc]; exact set_same hu
  · rw [set_off (by decide)]; exact hc
  · rw [World.frozen?_setCell]; exact hz j
theorem AccOf.cnt {w : World} {B c c' : Nat} {l : List Nat} {N : Nat → Nat} (h : AccOf w B l c N) : AccOf (w.setCell ⟨B, 6, none⟩ (.int .i64 (c' : Nat))) B l c' N := by
  refine ⟨fun j hj => ?_, h.r, ?_, ?_, fun j => ?_⟩
  · rw [set_off (by omega)]; exact h.n j hj
  · rw [set_off (by decide)]; exact h.m
  · exact set_same h.c
  · rw [World.frozen?_setCell]; exact h.z j
theorem unK_fin {x : Nat} (h : kindV x = 2) : unK x = unZ x := if_pos h
theorem unK_odd {x : Nat} (h : kindV x ≠ 2) : unK x = 0 := if_neg h
theorem take_snoc {S : List Nat} {i : Nat} (h : i < S.length) : S.take (i + 1) = S.take i ++ [S.getD i 0] := by
  rw [List.getD_eq_getElem?_getD, List.getElem?_eq_getElem h, List.take_add_one, List.getElem?_eq_getElem h]
  rfl
set_option maxHeartbeats 4000000 in
set_option maxRecDepth 100000 in
theorem acc_add (v : Value) (S l : List Nat) (B c : Nat) (N : Nat → Nat) (w : World) (hA : AccOf w B l c N) (hv : USl w v S) (hg : ∀ g o cap, 0 < S.length → v = .slice (some ⟨g, o, none⟩) S.length cap → g ≠ B) (hb : ∀ i, S.getD i 0 < 4294967296) (hn : c + S.length ≤ 35184372087808) :
    Calls Tryz.prog 68 #[.pointer (some ⟨B, 0, none⟩), v] w fun e w' => e = .returned (.tuple #[]) ∧ (∃ N', AccOf w' B (l ++ S) (c + S.length) N') ∧ Fb B w w' := by
  obtain ⟨ad, cap, rfl⟩ := hv.form
  have HA : Hid (AccOf w B l c N) := hA
  have HV : Hid (USl w (.slice ad S.length cap) S) := hv
  have HG : Hid _ := hg
  have HB : Hid (∀ i, S.getD i 0 < 4294967296) := hb
  clear hA hv hg hb
  have he : Hid (S.take S.length = S) := List.take_of_length_le (Nat.le_refl _)
  go_enter Tryz.func68, Tryz.ntmps68
  go_wp2_with fail
  go_loopg [9] (S.length) (fun gh s9 wr => ∃ i : Nat, ∃ N', s9 = .int .i64 (i : Int) ∧ i ≤ S.length ∧ gh = S.length - i ∧ Hid (AccOf wr B (l ++ S.take i) c N') ∧ Hid (Fb B w wr))
  case atStart => exact ⟨0, N, rfl, by omega, rfl, by show AccOf w B (l ++ S.take 0) c N; rw [List.take_zero, List.append_nil]; exact HA.out, Fb.refl _ _⟩
  case round =>
    obtain ⟨i, N', rfl, hi, rfl, HR, HF⟩ := hrel
    by_cases hlt : i < S.length
    · obtain ⟨g, o, cap', hsl, hcap, hI⟩ := HV.out.some (by omega)
      have HNe : Hid (g ≠ B) := HG.out g o cap' (by omega) hsl
      injection hsl with hs1 hs2 hs3
      subst hs1 hs3
      clear hs2
      have hx := HB.out i
      have hc := HF.out.cell (hI i hlt) HNe.out
      have HT : Hid (l ++ S.take (i + 1) = l ++ S.take i ++ [S.getD i 0]) := by
        show l ++ S.take (i + 1) = _
        rw [take_snoc hlt, List.append_assoc]
      generalize S.getD i 0 = x at *
      generalize l ++ S.take i = l1 at *
      have hor := or_small (metV l1) (metV_lt l1) (kindV x) (kind_lt x)
      have c5 := HR.out.m
      have z5 := HR.out.z 5
      clear hI
      by_cases hk : kindV x = 2
      · have Hk : Hid (kindV x = 2) := hk
        clear hor
        have hor : bits .or .i64 (metV l1 : Int) 2 = ((metV l1 ||| 2 : Nat) : Int) := or_small (metV l1) (metV_lt l1) 2 (by decide)
        have bk : ((2 : Int) == 2) = true := rfl
        clear hk
        go_wp2_with fail
        refine (kind_any x hx _).mono ?_
        rintro e w1 ⟨rfl, rfl⟩
        rw [Hk.out]
        go_wp2_with fail
        refine (nadd_any N' x B HR.out.r.lt hx (kind_fin hx Hk.out) _ HR.out.n HR.out.z).mono ?_
        rintro e w2 ⟨rfl, hd⟩
        have c5' : w2.cell? ⟨B, 5, none⟩ = some (.int .i64 (metV l1 : Nat)) := by rw [hd.r 5 (by decide)]; exact c5
        have z5' : w2.frozen? ⟨B, 5, none⟩ = false := by rw [hd.fb.frz]; exact z5
        have HX : Hid (AccOf (w2.setCell ⟨B, 5, none⟩ (.int .i64 ((metV l1 ||| 2 : Nat) : Int))) B (l ++ S.take (i + 1)) c (adS N' x)) := by
          have := AccOf.met (l := l1) (x := x) (c := c) hd.c (by rw [unK_fin Hk.out]; exact HR.out.r.add (kind_fin hx Hk.out)) ⟨_, c5'⟩ (by rw [hd.r 6 (by decide)]; exact HR.out.c) (fun j => by rw [hd.fb.frz]; exact HR.out.z j)
          rw [Hk.out] at this
          rw [HT.out]
          exact this
        have HY : Hid (Fb B w (w2.setCell ⟨B, 5, none⟩ (.int .i64 ((metV l1 ||| 2 : Nat) : Int)))) := (HF.out.trans hd.fb).set rfl _
        clear hd c5 z5
        go_wp2_with fail
        go_roundg (S.length - (i + 1))
        case measure => go_light; omega
        case rel =>
          go_light
          exact ⟨i + 1, _, by simp, by omega, rfl, HX.out, HY.out⟩
      · have Hk : Hid (kindV x ≠ 2) := hk
        have bk : ((kindV x : Int) == 2) = false := by rw [beq_eq_false_iff_ne]; omega
        have HX : Hid (AccOf (wr.setCell ⟨B, 5, none⟩ (.int .i64 ((metV l1 ||| kindV x : Nat) : Int))) B (l ++ S.take (i + 1)) c N') := by
          have := AccOf.met (l := l1) (x := x) (c := c) HR.out.n (by rw [unK_odd Hk.out, Int.add_zero]; exact HR.out.r) ⟨_, c5⟩ HR.out.c HR.out.z
          rw [HT.out]
          exact this
        have HY : Hid (Fb B w (wr.setCell ⟨B, 5, none⟩ (.int .i64 ((metV l1 ||| kindV x : Nat) : Int)))) := HF.out.set rfl _
        clear hk
        go_wp2_with fail
        refine (kind_any x hx _).mono ?_
        rintro e w1 ⟨rfl, rfl⟩
        go_wp2_with fail
        go_roundg (S.length - (i + 1))
        case measure => go_light; omega
        case rel =>
          go_light
          exact ⟨i + 1, _, by simp, by omega, rfl, HX.out, HY.out⟩
    · obtain rfl : i = S.length := by omega
      have hge : ¬ (S.length : Int) < (S.length : Int) := by omega
      have c6 := HR.out.c
      have z6 := HR.out.z 6
      have ew : wrap64 ((c : Int) + (S.length : Int)) = ((c + S.length : Nat) : Int) := by unfold wrap64; omega
      have HX : Hid (AccOf (wr.setCell ⟨B, 6, none⟩ (.int .i64 ((c + S.length : Nat) : Int))) B (l ++ S) (c + S.length) N') := by
        have := HR.out.cnt (c' := c + S.length)
        rw [he.out] at this
        exact this
      have HY : Hid (Fb B w (wr.setCell ⟨B, 6, none⟩ (.int .i64 ((c + S.length : Nat) : Int)))) := HF.out.set rfl _
      clear HR HF HA
      go_wp2_with fail
      refine bodyPost_end (results_none Tryz.results68 _ _ _) rfl ⟨rfl, ⟨N', HX.out⟩, HY.out⟩
end Go.Proofs.YtieojgblamkgoaaGreatDoor
/- Accumulators: what they tell. -/
namespace Go.Proofs.YtieojgblamkgoaaGreatDoor
open Go.RowKit
set_option linter.unusedVariables false
set_option linter.unusedSimpArgs false

/-- A sum of finite samples, divided. -/
def exV (z : Int) (d : Nat) : Nat := Ieee.single.word (decide (z < 0)) (exR z.natAbs d)
/-- What is told of a list of samples. -/
def sumV (l : List Nat) (d : Nat) : Nat :=
  if metV l < 4 then (if sumZ l ≠ 0 then exV (sumZ l) d else if metV l = 1 then 2147483648 else 0)
  else if metV l < 8 then 2139095040 else if 8 ≤ metV l ∧ metV l < 12 then 4286578688 else 2143289344
theorem andnot3 : ∀ a : Nat, a < 32 → bits .andNot .i64 (a : Int) 3 = ((a / 4 * 4 : Nat) : Int) := by decide +kernel
theorem Rep.zero_iff {N : Nat → Nat} {z : Int} (h : Rep N z) (hz : 2 * z.natAbs < m64 ^ 5) : z = 0 ↔ ∀ j, j < 5 → N j = 0 := by
  rw [← valW_zero 5]
  constructor
  · intro h0
    have h1 := h.pos (by omega) (by generalize m64 ^ 5 = G at *; omega)
    have := h1.1
    omega
  · intro h0
    have h1 := h.eq
    rw [h0] at h1
    rcases Int.lt_trichotomy z 0 with g | g | g
    · have h2 := (h.neg g (by generalize m64 ^ 5 = G at *; omega)).2
      have h3 := (valW_zero 5).1 h0 4 (by decide)
      omega
    · exact g
    · have h2 := (h.pos (by omega) (by generalize m64 ^ 5 = G at *; omega)).1
      omega
theorem blen_fits {V : Nat} (h : 2 * V < m64 ^ 5) : blen V ≤ 320 := by
  have h1 : V < m64 ^ 5 := by
    generalize m64 ^ 5 = G at *
    omega
  rw [m64_pow] at h1
  have h2 := blen_le h1
  omega
set_option maxRecDepth 100000 in
set_option maxHeartbeats 1000000 in
theorem eq5 (a0 a1 a2 a3 a4 : Int) (w : World) : (Op.equalIn 10000 112 (.agg #[.int .u64 a0, .int .u64 a1, .int .u64 a2, .int .u64 a3, .int .u64 a4]) (.agg #[.int .u64 0, .int .u64 0, .int .u64 0, .int .u64 0, .int .u64 0])).run Tryz.prog w = .ok (a0 == 0 && (a1 == 0 && (a2 == 0 && (a3 == 0 && a4 == 0)))) w := by
  rw [show (10000 : Nat) = 9999 + 1 from rfl, Op.equalIn]
  simp [go_sem, List.range', List.forIn_cons]
  by_cases h0 : a0 = 0
  · by_cases h1 : a1 = 0
    · by_cases h2 : a2 = 0
      · by_cases h3 : a3 = 0
        · by_cases h4 : a4 = 0 <;> simp [h0, h1, h2, h3, h4]
        · simp [h0, h1, h2, h3]
      · simp [h0, h1, h2]
    · simp [h0, h1]
  · simp [h0]
theorem eq5_zero {N : Nat → Nat} (h : ∀ j, j < 5 → N j = 0) : ((N 0 : Int) == 0 && ((N 1 : Int) == 0 && ((N 2 : Int) == 0 && ((N 3 : Int) == 0 && (N 4 : Int) == 0)))) = true := by
  rw [h 0 (by decide), h 1 (by decide), h 2 (by decide), h 3 (by decide), h 4 (by decide)]; rfl
theorem eq5_some {N : Nat → Nat} (h : ¬ ∀ j, j < 5 → N j = 0) : ((N 0 : Int) == 0 && ((N 1 : Int) == 0 && ((N 2 : Int) == 0 && ((N 3 : Int) == 0 && (N 4 : Int) == 0)))) = false := by
  rw [Bool.eq_false_iff]
  intro e
  simp only [Bool.and_eq_true, beq_iff_eq] at e
  refine h (fun j hj => ?_)
  rcases j with _ | _ | _ | _ | _ | j
  · omega
  · have := e.2.1; show N 1 = 0; omega
  · have := e.2.2.1; show N 2 = 0; omega
  · have := e.2.2.2.1; show N 3 = 0; omega
  · have := e.2.2.2.2; show N 4 = 0; omega
  · omega
set_option maxHeartbeats 2000000 in
set_option maxRecDepth 100000 in
theorem finite_any (l : List Nat) (B c : Nat) (N : Nat → Nat) (w : World) (hA : AccOf w B l c N) (hz : 2 * (sumZ l).natAbs < m64 ^ 5) (d : Nat) (hd : 0 < d) (hd' : d < 4294967296) (hT : Tab w) :
    Calls Tryz.prog 93 #[.pointer (some ⟨B, 0, none⟩), .int .u64 (d : Int)] w fun e w' => e = .returned (.int .u32 ((if sumZ l ≠ 0 then exV (sumZ l) d else if metV l = 1 then 2147483648 else 0 : Nat) : Int)) ∧ Q w w' := by
  have hzi := hA.r.zero_iff hz
  have c0 := hA.n 0 (by decide)
  have c1 := hA.n 1 (by decide)
  have c2 := hA.n 2 (by decide)
  have c3 := hA.n 3 (by decide)
  have c4 := hA.n 4 (by decide)
  have c5 := hA.m
  by_cases h0 : sumZ l = 0
  · rw [if_neg (fun h => h h0)]
    have hl : ∀ w, (Op.equalIn 10000 112 (.agg #[.int .u64 (N 0), .int .u64 (N 1), .int .u64 (N 2), .int .u64 (N 3), .int .u64 (N 4)]) (.agg #[.int .u64 0, .int .u64 0, .int .u64 0, .int .u64 0, .int .u64 0])).run Tryz.prog w = .ok true w := fun w => by rw [eq5, eq5_zero (hzi.1 h0)]
    generalize metV l = m at *
    clear hzi h0 hz hA hT
    by_cases h1 : m = 1
    · rw [if_pos h1]
      have b1 : ((m : Int) == 1) = true := by rw [beq_iff_eq]; omega
      clear h1
      go_enter Tryz.func93, Tryz.ntmps93
      go_wp2_with fail
      go_ret
      exact ⟨rfl, Q.refl _⟩
    · rw [if_neg h1]
      have b1 : ((m : Int) == 1) = false := by rw [beq_eq_false_iff_ne]; omega
      clear h1
      go_enter Tryz.func93, Tryz.ntmps93
      go_wp2_with fail
      go_ret
      exact ⟨rfl, Q.refl _⟩
  · rw [if_pos h0]
    have hl : ∀ w, (Op.equalIn 10000 112 (.agg #[.int .u64 (N 0), .int .u64 (N 1), .int .u64 (N 2), .int .u64 (N 3), .int .u64 (N 4)]) (.agg #[.int .u64 0, .int .u64 0, .int .u64 0, .int .u64 0, .int .u64 0])).run Tryz.prog w = .ok false w := fun w => by rw [eq5, eq5_some (fun h => h0 (hzi.2 h))]
    have HT : Hid (Tab w) := hT
    have HR : Hid (Rep N (sumZ l)) := hA.r
    have HZ : Hid (sumZ l ≠ 0) := h0
    have HW : Hid (toldD (some (Ieee.double.read (oddW (decide (sumZ l < 0)) (sumZ l).natAbs d))) = exV (sumZ l) d) := told_odd _ (by omega) hd (blen_fits hz)
    have HF : Hid (2 * (sumZ l).natAbs < m64 ^ 5) := hz
    generalize sumZ l = z at *
    clear hzi h0 hz hA hT
    go_enter Tryz.func93, Tryz.ntmps93
    go_wp2_with fail
    refine (divided_any N z HR.out HZ.out HF.out d hd hd' _ HT.out).mono ?_
    rintro e w1 ⟨rfl, q1⟩
    go_wp2_with fail
    refine (snarrow_any _ _).mono ?_
    rintro e w2 ⟨rfl, q2⟩
    rw [HW.out]
    go_wp2_with fail
    go_ret
    exact ⟨rfl, q1.trans q2⟩
set_option maxHeartbeats 2000000 in
set_option maxRecDepth 100000 in
theorem adivided_any (l : List Nat) (B c : Nat) (N : Nat → Nat) (w : World) (hA : AccOf w B l c N) (hz : 2 * (sumZ l).natAbs < m64 ^ 5) (d : Nat) (hd : 0 < d) (hd' : d < 4294967296) (hT : Tab w) :
    Calls Tryz.prog 71 #[.pointer (some ⟨B, 0, none⟩), .int .u64 (d : Int)] w fun e w' => e = .returned (.int .u32 (sumV l d : Nat)) ∧ Q w w' := by
  have c5 := hA.m
  have hm := metV_lt l
  have e1 := andnot3 (metV l) hm
  have K := fun w (hA : AccOf w B l c N) (hT : Tab w) => finite_any l B c N w hA hz d hd hd' hT
  have HK : Hid _ := K
  have HA : Hid (AccOf w B l c N) := hA
  have HT : Hid (Tab w) := hT
  have HV : Hid (sumV l d = if metV l < 4 then (if sumZ l ≠ 0 then exV (sumZ l) d else if metV l = 1 then 2147483648 else 0) else if metV l < 8 then 2139095040 else if 8 ≤ metV l ∧ metV l < 12 then 4286578688 else 2143289344) := rfl
  clear hA hT K hz
  by_cases h1 : metV l < 4
  · have HV : Hid (sumV l d = if sumZ l ≠ 0 then exV (sumZ l) d else if metV l = 1 then 2147483648 else 0) := by
      show sumV l d = _
      rw [HV.out, if_pos h1]
    have e2 : ((metV l / 4 * 4 : Nat) : Int) = 0 := by omega
    rw [e2] at e1
    clear e2 h1 hm
    go_enter Tryz.func71, Tryz.ntmps71
    go_wp2_with fail
    refine (HK.out _ HA.out HT.out).mono ?_
    rintro e w1 ⟨rfl, q1⟩
    rw [← HV.out]
    go_wp2_with fail
    go_ret
    exact ⟨rfl, q1⟩
  · by_cases h2 : metV l < 8
    · have HV : Hid (sumV l d = 2139095040) := by
        show sumV l d = _
        rw [HV.out, if_neg h1, if_pos h2]
      have e2 : ((metV l / 4 * 4 : Nat) : Int) = 4 := by omega
      rw [e2] at e1
      clear e2 h1 h2 hm
      rw [HV.out]
      go_enter Tryz.func71, Tryz.ntmps71
      go_wp2_with fail
      go_ret
      exact ⟨rfl, Q.refl _⟩
    · by_cases h3 : metV l < 12
      · have HV : Hid (sumV l d = 4286578688) := by
          show sumV l d = _
          rw [HV.out, if_neg h1, if_neg h2, if_pos ⟨by omega, h3⟩]
        have e2 : ((metV l / 4 * 4 : Nat) : Int) = 8 := by omega
        rw [e2] at e1
        clear e2 h1 h2 h3 hm
        rw [HV.out]
        go_enter Tryz.func71, Tryz.ntmps71
        go_wp2_with fail
        go_ret
        exact ⟨rfl, Q.refl _⟩
      · have HV : Hid (sumV l d = 2143289344) := by
          show sumV l d = _
          rw [HV.out, if_neg h1, if_neg h2, if_neg (fun h => h3 h.2)]
        obtain ⟨m, hm'⟩ : ∃ m, metV l / 4 * 4 = m := ⟨_, rfl⟩
        rw [hm'] at e1
        have b0 : ((m : Int) == 0) = false := by rw [beq_eq_false_iff_ne]; omega
        have b1 : ((m : Int) == 4) = false := by rw [beq_eq_false_iff_ne]; omega
        have b2 : ((m : Int) == 8) = false := by rw [beq_eq_false_iff_ne]; omega
        clear hm' h1 h2 h3 hm
        rw [HV.out]
        go_enter Tryz.func71, Tryz.ntmps71
        go_wp2_with fail
        go_ret
        exact ⟨rfl, Q.refl _⟩
set_option maxHeartbeats 400000 in
theorem asum_any (l : List Nat) (B c : Nat) (N : Nat → Nat) (w : World) (hA : AccOf w B l c N) (hz : 2 * (sumZ l).natAbs < m64 ^ 5) (hT : Tab w) :
    Calls Tryz.prog 37 #[.pointer (some ⟨B, 0, none⟩)] w fun e w' => e = .returned (.int .u32 (sumV l 1 : Nat)) ∧ Q w w' := by
  go_enter Tryz.func37, Tryz.ntmps37
  go_wp2_with fail
  refine (adivided_any l B c N _ hA hz 1 (by decide) (by decide) hT).mono ?_
  rintro e w1 ⟨rfl, q1⟩
  go_wp2_with fail
  go_ret
  exact ⟨rfl, q1⟩
/-- What Over tells. -/
def overV (l : List Nat) (n : Int) : Nat × Int := if n < 1 ∨ 4294967295 < n then (0, 33) else (sumV l n.toNat, 0)
set_option maxHeartbeats 1000000 in
theorem aover_any (l : List Nat) (B c : Nat) (N : Nat → Nat) (w : World) (hA : AccOf w B l c N) (hz : 2 * (sumZ l).natAbs < m64 ^ 5) (hT : Tab w) (n : Int) :
    Calls Tryz.prog 86 #[.pointer (some ⟨B, 0, none⟩), .int .i64 n] w fun e w' => e = .returned (.tuple #[.int .u32 ((overV l n).1 : Nat), .int .i64 (overV l n).2]) ∧ Q w w' := by
  unfold overV
  by_cases h : n < 1
  · rw [if_pos (Or.inl h)]
    clear hA hz hT
    go_enter Tryz.func86, Tryz.ntmps86
    go_wp2_with fail
    go_ret2
    exact ⟨rfl, Q.refl _⟩
  · by_cases h2 : 4294967295 < n
    · rw [if_pos (Or.inr h2)]
      clear hA hz hT
      go_enter Tryz.func86, Tryz.ntmps86
      go_wp2_with fail
      go_ret2
      exact ⟨rfl, Q.refl _⟩
    · rw [if_neg (by omega)]
      obtain ⟨d, rfl⟩ : ∃ d : Nat, n = (d : Int) := ⟨n.toNat, by omega⟩
      have HA : Hid (AccOf w B l c N) := hA
      have HT : Hid (Tab w) := hT
      have HZ : Hid (2 * (sumZ l).natAbs < m64 ^ 5) := hz
      have h3 : 0 < d := by omega
      have h4 : d < 4294967296 := by omega
      have ew : IntKind.u64.wrap (d : Int) = (d : Int) := by rw [IntKind.wrap_u64]; omega
      clear hA hT hz
      go_enter Tryz.func86, Tryz.ntmps86
      go_wp2_with fail
      refine (adivided_any l B c N _ HA.out HZ.out d h3 h4 HT.out).mono ?_
      rintro e w1 ⟨rfl, q1⟩
      go_wp2_with fail
      go_ret2
      exact ⟨rfl, q1⟩
set_option maxHeartbeats 400000 in
theorem amean_any (l : List Nat) (B c : Nat) (N : Nat → Nat) (w : World) (hA : AccOf w B l c N) (hz : 2 * (sumZ l).natAbs < m64 ^ 5) (hT : Tab w) :
    Calls Tryz.prog 65 #[.pointer (some ⟨B, 0, none⟩)] w fun e w' => e = .returned (.tuple #[.int .u32 ((overV l c).1 : Nat), .int .i64 (overV l c).2]) ∧ Q w w' := by
  have c6 := hA.c
  go_enter Tryz.func65, Tryz.ntmps65
  go_wp2_with fail
  refine (aover_any l B c N _ hA hz hT c).mono ?_
  rintro e w1 ⟨rfl, q1⟩
  go_wp2_with fail
  go_ret2
  exact ⟨rfl, q1⟩
set_option maxHeartbeats 400000 in
theorem acount_any (B : Nat) (c : Int) (w : World) (c6 : w.cell? ⟨B, 6, none⟩ = some (.int .i64 c)) :
    Calls Tryz.prog 32 #[.pointer (some ⟨B, 0, none⟩)] w fun e w' => e = .returned (.int .i64 c) ∧ w' = w := by
  go_enter Tryz.func32, Tryz.ntmps32
  go_wp2_with fail
  go_ret
  exact ⟨rfl, rfl⟩
end Go.Proofs.YtieojgblamkgoaaGreatDoor

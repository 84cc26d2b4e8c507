/- What the reference's TimesNum and DivNum return of samples made wide; that what comes out fits. -/
import Derived.Test.YtjjjgdpgfndbdaaDoorGc4b8074e
import Derived.Test.YtjjjgdpgfndbdaaDoorG11713df2
import Derived.Test.YtjjjgdpgfndbdaaDoorGd7cf3ef6
import Derived.Test.YtjjjgdpgfndbdaaDoorG3f806c1f
import Derived.Test.YtjjjgdpgfndbdaaDoorGdb2361b9
namespace Go.Proofs.YtjjjgdpgfndbdaaDoor
open Go.RowKit

/-- Numbers of samples made wide. -/
def wideR : RNum → Prop
  | ⟨some (.inr (_, n, e, m))⟩ => n < 9007199254740992 ∧ -1074 ≤ e ∧ e ≤ 80 ∧ m = false ∧ (n ≠ 0 → -210 ≤ e)
  | _ => True
theorem wideR_of (a : Nat) : wideR (datumR (Ieee.double.read (wideW a))) := by
  rcases wideW_cases a with ⟨h, e⟩ | ⟨h, e⟩ | ⟨h, ea, M, P, e, hP, hX⟩
  · obtain ⟨s, t, e'⟩ := isNaN_cases e
    rw [e']; exact trivial
  · rw [e]; exact trivial
  · rw [ea]
    by_cases z : rung32 a = 0
    · rw [wide_zero z, read_word64]
      exact ⟨by omega, by omega, by omega, rfl, fun c => absurd rfl c⟩
    · obtain ⟨L, hL, m0, m1, e1, hp⟩ := wide_wd z h
      have k1 := Nat.mul_le_mul_right (2 ^ (52 - L)) m0
      have k2 := Nat.mul_lt_mul_of_pos_right m1 (Nat.two_pow_pos (52 - L))
      rw [← Nat.pow_add, show L + (52 - L) = 52 by omega] at k1
      rw [← Nat.pow_add, show L + 1 + (52 - L) = 53 by omega] at k2
      rw [e1, read_wd k1 k2 (by omega) (by omega)]
      exact ⟨k2, by omega, by omega, rfl, fun _ => by omega⟩
theorem wideR_small {x : RNum} (h : wideR x) : small x := by
  cases x using RNum.rec3 with
  | nan => exact trivial
  | inf s => exact trivial
  | fin s n e m => exact ⟨by have := blen_le (n := n) (k := 53) h.1; omega, by have := h.2.1; omega, by have := h.2.2.1; omega⟩
theorem wideR_opp {x : RNum} (h : wideR x) : wideR (oppR x) := by cases x using RNum.rec3 <;> exact h
theorem plus_fitsD {x y : RNum} (hx : wideR x) (hy : wideR y) : fitsD (plusR x y) := by
  cases x using RNum.rec3 with
  | nan => exact trivial
  | inf s =>
    cases y using RNum.rec3 with
    | nan => exact trivial
    | inf t => show fitsD (if s = t then .inf s else .nan); split <;> exact trivial
    | fin t k f g => exact trivial
  | fin s n e m =>
    cases y using RNum.rec3 with
    | nan => exact trivial
    | inf t => exact trivial
    | fin t k f g =>
      obtain ⟨a1, a2, a3, rfl, _⟩ := hx
      obtain ⟨b1, b2, b3, rfl, _⟩ := hy
      show fitsD (plusFin s t (n * 2 ^ (e - min e f).toNat) (k * 2 ^ (f - min e f).toNat) (min e f))
      rw [plusFin_datum]
      obtain ⟨J, hJ⟩ : ∃ J : Nat, J = 1200 := ⟨_, rfl⟩
      have up : ∀ {z : Nat} {d : Nat}, z < 9007199254740992 → d ≤ J → z * 2 ^ d < 2 ^ (53 + J) := by
        intro z d hz hd
        have k1 : z * 2 ^ d < 2 ^ 53 * 2 ^ d := Nat.mul_lt_mul_of_pos_right hz (Nat.two_pow_pos _)
        rw [← Nat.pow_add] at k1
        exact Nat.lt_of_lt_of_le k1 (Nat.pow_le_pow_right (by decide) (by omega))
      have u1 := up (d := (e - min e f).toNat) a1 (by omega)
      have u2 := up (d := (f - min e f).toNat) b1 (by omega)
      refine ⟨?_, by omega, by omega, fun h => by cases h⟩
      generalize n * 2 ^ (e - min e f).toNat = X at u1
      generalize k * 2 ^ (f - min e f).toNat = Y at u2
      have e54 : 2 ^ (53 + J + 1) = 2 * 2 ^ (53 + J) := by rw [Nat.pow_succ]; omega
      have hs : ((if s = true then -(X : Int) else X) + (if t = true then -(Y : Int) else Y)).natAbs < 2 ^ (53 + J + 1) := by
        rw [e54]
        generalize 2 ^ (53 + J) = B at u1 u2
        split <;> split <;> omega
      have := blen_le hs
      omega
theorem times_wide (va vb : Value) (x y : RNum) (w : World) (hx : NumAt w va x) (hy : NumAt w vb y) (fx : wideR x) (fy : wideR y) :
    Calls Tryd.prog 51 #[va, vb] w fun e w' => ∃ v, e = .returned v ∧ NumAt w' v (timesR x y) ∧ Q w w' := by
  cases x using RNum.rec3 with
  | nan => exact times_nan1 va vb y w hx hy
  | inf s =>
    cases y using RNum.rec3 with
    | nan => exact times_nan2 va vb _ w hx hy (fun k s' p L C e m h => by
        obtain ⟨e', m', h'⟩ := hx
        rw [h'] at h
        intro hk
        rw [hk] at h
        simp at h)
    | inf t => exact times_infinf va vb s t w hx hy
    | fin t n f g => exact times_inffin va vb s t n f g w hx hy
  | fin s n e m =>
    cases y using RNum.rec3 with
    | nan => exact times_nan2 va vb _ w hx hy (fun k s' p L C e' m' h => by
        obtain ⟨nv, h', hn⟩ := hx
        rw [h'] at h
        intro hk
        rw [hk] at h
        simp at h)
    | inf t => exact times_fininf va vb s t n e m w hx hy
    | fin t k f g =>
      obtain ⟨nv, rfl, hn⟩ := hx
      obtain ⟨kv, rfl, hk⟩ := hy
      have b1 := blen_le (n := n) (k := 53) fx.1
      have b2 := blen_le (n := k) (k := 53) fy.1
      exact times_fin s t m g nv kv n k e f w hn hk (by omega) (by have := fx.2.1; omega) (by have := fx.2.2.1; omega) (by omega) (by have := fy.2.1; omega) (by have := fy.2.2.1; omega)
theorem times_fitsD {x y : RNum} (hx : wideR x) (hy : wideR y) : fitsD (timesR x y) := by
  cases x using RNum.rec3 with
  | nan => exact trivial
  | inf s =>
    cases y using RNum.rec3 with
    | nan => exact trivial
    | inf t => exact trivial
    | fin t k f g => show fitsD (if zeroB (.fin t k f g) = true then .nan else .inf (s != t)); split <;> exact trivial
  | fin s n e m =>
    cases y using RNum.rec3 with
    | nan => exact trivial
    | inf t => show fitsD (if zeroB (.fin s n e m) = true then .nan else .inf (s != t)); split <;> exact trivial
    | fin t k f g =>
      obtain ⟨a1, a2, a3, rfl, _⟩ := hx
      obtain ⟨b1, b2, b3, rfl, _⟩ := hy
      refine ⟨?_, by omega, by omega, fun h => by cases h⟩
      have : n * k < 2 ^ 53 * 2 ^ 53 := Nat.mul_lt_mul_of_lt_of_le a1 (Nat.le_of_lt b1) (by decide)
      rw [← Nat.pow_add] at this
      have := blen_le this
      omega
theorem div_wide (va vb : Value) (x y : RNum) (w : World) (hx : NumAt w va x) (hy : NumAt w vb y) (fx : wideR x) (fy : wideR y) :
    Calls Tryd.prog 92 #[va, vb] w fun e w' => ∃ v, e = .returned v ∧ NumAt w' v (divR x y) ∧ Q w w' := by
  cases x using RNum.rec3 with
  | nan => exact div_nan1 va vb y w hx hy
  | inf s =>
    cases y using RNum.rec3 with
    | nan => exact div_nan2 va vb _ w hx hy (fun k s' p L C e m h => by
        obtain ⟨e', m', h'⟩ := hx
        rw [h'] at h
        intro hk
        rw [hk] at h
        simp at h)
    | inf t => exact div_infinf va vb s t w hx hy
    | fin t n f g => exact div_inffin va vb s t n f g w hx hy
  | fin s n e m =>
    cases y using RNum.rec3 with
    | nan => exact div_nan2 va vb _ w hx hy (fun k s' p L C e' m' h => by
        obtain ⟨nv, h', hn⟩ := hx
        rw [h'] at h
        intro hk
        rw [hk] at h
        simp at h)
    | inf t => exact div_fininf va vb s t n e m w hx hy
    | fin t k f g =>
      obtain ⟨a1, a2, a3, rfl, a5⟩ := fx
      obtain ⟨b1, b2, b3, rfl, b5⟩ := fy
      by_cases hz : n = 0 ∨ k = 0
      · have hz' : zeroB (.fin s n e false) = true ∨ zeroB (.fin t k f false) = true := by rw [zeroB_fin, zeroB_fin]; simpa using hz
        have := div_nought va vb s t n k e f false false w hx hy hz'
        rw [divR_zero hz]
        rw [zeroB_fin, zeroB_fin] at this
        simp only [decide_eq_true_eq] at this
        exact this
      · rw [divR_fin (fun c => hz (Or.inl c)) (fun c => hz (Or.inr c))]
        obtain ⟨nv, rfl, hn⟩ := hx
        obtain ⟨kv, rfl, hk⟩ := hy
        have c1 := blen_le (n := n) (k := 53) a1
        have c2 := blen_le (n := k) (k := 53) b1
        have d1 := a5 (fun c => hz (Or.inl c))
        have d2 := b5 (fun c => hz (Or.inr c))
        exact div_fin s t nv kv n k e f w hn hk (fun c => hz (Or.inl c)) (fun c => hz (Or.inr c)) (by omega) (by omega) (by omega) (by omega) (by omega) (by omega)
theorem div_fitsD {x y : RNum} (hx : wideR x) (hy : wideR y) : fitsD (divR x y) := by
  cases x using RNum.rec3 with
  | nan => exact trivial
  | inf s =>
    cases y using RNum.rec3 with
    | nan => exact trivial
    | inf t => exact trivial
    | fin t k f g => exact trivial
  | fin s n e m =>
    cases y using RNum.rec3 with
    | nan => exact trivial
    | inf t => exact ⟨by decide, by decide, by decide, fun h => by cases h⟩
    | fin t k f g =>
      obtain ⟨a1, a2, a3, rfl, a5⟩ := hx
      obtain ⟨b1, b2, b3, rfl, b5⟩ := hy
      by_cases hz : n = 0 ∨ k = 0
      · rw [divR_zero hz]
        split
        · split <;> exact trivial
        · exact ⟨by decide, by decide, by decide, fun h => by cases h⟩
      · have n0 : n ≠ 0 := fun c => hz (Or.inl c)
        have k0 : k ≠ 0 := fun c => hz (Or.inr c)
        rw [divR_fin n0 k0]
        have hsh : shV n k ≤ 120 := by
          unfold shV
          have c2 := blen_le (n := k) (k := 53) b1
          omega
        have hbig := quo_big n0 k0
        have d1 := a5 n0
        have d2 := b5 k0
        have hq : n * 2 ^ shV n k / k < 2 ^ 200 := by
          refine Nat.lt_of_le_of_lt (Nat.div_le_self _ _) ?_
          have k1 : n * 2 ^ shV n k < 2 ^ 53 * 2 ^ shV n k := Nat.mul_lt_mul_of_pos_right a1 (Nat.two_pow_pos _)
          rw [← Nat.pow_add] at k1
          exact Nat.lt_of_lt_of_le k1 (Nat.pow_le_pow_right (by decide) (by omega))
        refine ⟨by have := blen_le hq; omega, by omega, by omega, fun _ => ⟨by omega, ?_⟩⟩
        unfold lastOf
        have : 59 ≤ (n * 2 ^ shV n k / k).log2 := (Nat.le_log2 (by omega)).2 hbig
        rw [frac64]
        omega
end Go.Proofs.YtjjjgdpgfndbdaaDoor
/- Numbers that lie in boxes: what loads and stores of them do. -/
namespace Go.Proofs.YtjjjgdpgfndbdaaDoor
open Go.RowKit
set_option linter.unusedVariables false
set_option linter.unusedSimpArgs false

/-- The form of binary64. -/
def formV : Value := .agg #[.int .i64 52, .int .i64 11]
/-- Where that form lies. -/
structure FBox (w : World) (V : Nat) : Prop where
  c0 : w.cell? ⟨V, 0, none⟩ = some (.int .i64 52)
  c1 : w.cell? ⟨V, 1, none⟩ = some (.int .i64 11)
theorem FBox.next {w w' : World} {V : Nat} (h : FBox w V) (q : Q w w') : FBox w' V := ⟨q.cell h.c0, q.cell h.c1⟩
/-- A box of five cells. -/
structure Box5 (w : World) (V : Nat) (k : Int) (s : Bool) (p : Option Addr) (L C : Nat) (e : Int) (m : Bool) : Prop where
  c0 : w.cell? ⟨V, 0, none⟩ = some (.int .i64 k)
  c1 : w.cell? ⟨V, 1, none⟩ = some (.bool s)
  c2 : w.cell? ⟨V, 2, none⟩ = some (.slice p L C)
  c3 : w.cell? ⟨V, 3, none⟩ = some (.int .i64 e)
  c4 : w.cell? ⟨V, 4, none⟩ = some (.bool m)
theorem Box5.next {w w' : World} {V : Nat} {k : Int} {s : Bool} {p : Option Addr} {L C : Nat} {e : Int} {m : Bool} (h : Box5 w V k s p L C e m) (q : Q w w') : Box5 w' V k s p L C e m := ⟨q.cell h.c0, q.cell h.c1, q.cell h.c2, q.cell h.c3, q.cell h.c4⟩
def num5 (k : Int) (s : Bool) (p : Option Addr) (L C : Nat) (e : Int) (m : Bool) : Value := .agg #[.int .i64 k, .bool s, .slice p L C, .int .i64 e, .bool m]
/-- A number that lies in a box. -/
def NBox (w : World) (V : Nat) (X : RNum) : Prop := ∃ k s p L C e m, Box5 w V k s p L C e m ∧ NumAt w (num5 k s p L C e m) X
theorem NBox.next {w w' : World} {V : Nat} {X : RNum} (h : NBox w V X) (q : Q w w') : NBox w' V X := by
  obtain ⟨k, s, p, L, C, e, m, h1, h2⟩ := h
  exact ⟨k, s, p, L, C, e, m, h1.next q, q.num h2⟩
theorem run_form {ρ : Operand → Value} {x : World} {d : Option Tmp} {ty : TypeId} {ps : String} {af : Array Edge} {g : Option (Nat × Bool)} {j V : Nat} (h : ρ (.tmp j) = ptrV V) (b : FBox x V) : (execOp ρ { dst := d, op := .load 75 (.tmp j), type := ty, pos := ps, after := af, guard := g }).run Tryd.prog x = .ok (.value formV) x := by
  have c0 := b.c0
  have c1 := b.c1
  simp [execOp, h, go_sem, c0, c1, ptrV, formV]
theorem run_num {ρ : Operand → Value} {x : World} {d : Option Tmp} {ty : TypeId} {ps : String} {af : Array Edge} {g : Option (Nat × Bool)} {j V : Nat} {k : Int} {s : Bool} {p : Option Addr} {L C : Nat} {e : Int} {m : Bool} (h : ρ (.tmp j) = ptrV V) (b : Box5 x V k s p L C e m) : (execOp ρ { dst := d, op := .load 80 (.tmp j), type := ty, pos := ps, after := af, guard := g }).run Tryd.prog x = .ok (.value (num5 k s p L C e m)) x := by
  obtain ⟨c0, c1, c2, c3, c4⟩ := b
  simp [execOp, h, go_sem, c0, c1, c2, c3, c4, ptrV, num5]
theorem run_eql {ρ : Operand → Value} {x : World} {d : Option Tmp} {ty : TypeId} {ps : String} {af : Array Edge} {g : Option (Nat × Bool)} {j k : Nat} {n : Int} (h : ρ (.tmp j) = .int .u32 n) (h' : ρ (.tmp k) = .int .u32 n) : (execOp ρ { dst := d, op := .binOp .eql 25 (.tmp j) (.tmp k) 25, type := ty, pos := ps, after := af, guard := g }).run Tryd.prog x = .ok (.value (.bool true)) x := by
  simp [execOp, h, h', go_sem]
def zeroNum : Obj := .cells #[.int .i64 0, .bool false, .slice none 0 0, .int .i64 0, .bool false] 80
theorem run_newnum {ρ : Operand → Value} {x : World} {d : Option Tmp} {ty : TypeId} {ps : String} {af : Array Edge} {g : Option (Nat × Bool)} : (execOp ρ { dst := d, op := .alloc 80, type := ty, pos := ps, after := af, guard := g }).run Tryd.prog x = .ok (.value (ptrV x.heap.size)) (x.alloc zeroNum) := by
  simp [execOp, go_sem, zeroNum, ptrV]
/-- Laying a number into a box. -/
theorem store_num {a : Act} {x : World} {V b c : Nat} {k : Int} {s : Bool} {p : Option Addr} {L C : Nat} {e : Int} {m : Bool} {k0 : Int} {s0 : Bool} {p0 : Option Addr} {L0 C0 : Nat} {e0 : Int} {m0 : Bool} (hb : a.tmps[b]? = some (ptrV V)) (hc : a.tmps[c]? = some (num5 k s p L C e m)) (bx : Box5 x V k0 s0 p0 L0 C0 e0 m0) (hf : ∀ j, x.frozen? ⟨V, j, none⟩ = false)
    {ps : String} {af : Array Edge} {K : Act → World → Prop} {R : Exit → Act → World → Prop} (h : ∀ x', Q x x' ∨ True → x' = (((((x.setCell ⟨V, 0, none⟩ (.int .i64 k)).setCell ⟨V, 1, none⟩ (.bool s)).setCell ⟨V, 2, none⟩ (.slice p L C)).setCell ⟨V, 3, none⟩ (.int .i64 e)).setCell ⟨V, 4, none⟩ (.bool m)) → K a x') :
    Oper.wp Tryd.prog { dst := none, op := .store 80 (.tmp b) (.tmp c), type := 0, pos := ps, after := af, guard := none } a x K R := by
  obtain ⟨c0, c1, c2, c3, c4⟩ := bx
  unfold ptrV at hb
  unfold num5 at hc
  have hrun : (execOp a.eval { dst := none, op := .store 80 (.tmp b) (.tmp c), type := 0, pos := ps, after := af, guard := none }).run Tryd.prog x = .ok .skip (((((x.setCell ⟨V, 0, none⟩ (.int .i64 k)).setCell ⟨V, 1, none⟩ (.bool s)).setCell ⟨V, 2, none⟩ (.slice p L C)).setCell ⟨V, 3, none⟩ (.int .i64 e)).setCell ⟨V, 4, none⟩ (.bool m)) := by
    simp [execOp, hb, hc, go_sem, c0, c1, c2, c3, c4, hf]
  unfold Oper.wp
  rw [hrun, Oper.upon_skip]
  exact h _ (Or.inr trivial) rfl
theorem box_other {x : World} {V b : Nat} (h : b ≠ V) {j j' : Nat} {v : Value} : (x.setCell ⟨V, j, none⟩ v).cell? ⟨b, j', none⟩ = x.cell? ⟨b, j', none⟩ := World.cell?_setCell_other _ _ _ _ (by simp [h])
end Go.Proofs.YtjjjgdpgfndbdaaDoor
/- What package arith's Floor, Nearest and Sqrt return, in the model's own words of floats; what was in memory stays as it was. -/
namespace Go.Proofs.YtjjjgdpgfndbdaaDoor
open Go.RowKit

theorem cut_zero (neg : Bool) (n d : Nat) : Ieee.Toward.zero.cut neg n d = n / 2 ^ d := by
  unfold Ieee.Toward.cut
  show n / (1 <<< min d (n.log2 + 2)) + 0 = _
  rw [Nat.shiftLeft_eq, Nat.one_mul, Nat.add_zero]
  rcases Nat.le_total d (n.log2 + 2) with h | h
  · rw [Nat.min_eq_left h]
  · rw [Nat.min_eq_right h]
    have h1 : n < 2 ^ (n.log2 + 1) := Nat.lt_log2_self
    have h2 : 2 ^ (n.log2 + 1) ≤ 2 ^ (n.log2 + 2) := Nat.pow_le_pow_right (by decide) (by omega)
    have h3 : 2 ^ (n.log2 + 2) ≤ 2 ^ d := Nat.pow_le_pow_right (by decide) h
    rw [Nat.div_eq_of_lt (by omega), Nat.div_eq_of_lt (by omega)]

/-- A binary64 as a whole number, towards 0. -/
def truncV (x : Nat) : Int := ((Ieee.double.read x).toInt .zero).getD 0
theorem trunc_fin {x : Nat} (h : rung64 x < 9218868437227405312) : (Ieee.double.read x).toInt .zero = some (truncV x) ∧ truncV x = Ieee.signed (sgn64 x) (mag64 (rung64 x) * 2 ^ (-1074 + (plc64 (rung64 x) : Int)).toNat / 2 ^ (-(-1074 + (plc64 (rung64 x) : Int))).toNat) 0 := by
  unfold truncV
  have e : (Ieee.double.read x).toInt .zero = some (Ieee.signed (sgn64 x) (mag64 (rung64 x) * 2 ^ (-1074 + (plc64 (rung64 x) : Int)).toNat / 2 ^ (-(-1074 + (plc64 (rung64 x) : Int))).toNat) 0) := by
    rw [read_fin64 h]
    show some (Ieee.signed (sgn64 x) (Ieee.Toward.zero.cut _ _ _) 0) = _
    rw [cut_zero, Nat.shiftLeft_eq]
  rw [e]; exact ⟨rfl, rfl⟩
/-- Is a binary64 at least -2^63 and below 2^63? -/
def inWhole (x : Nat) : Bool := !nan64 x && (decide (-4890909195324358656 ≤ srung64 x) && decide (srung64 x < 4890909195324358656))
theorem whole_bound {x : Nat} (h : inWhole x = true) : floatToIntVal .f64 x .i64 = some (truncV x) := by
  unfold inWhole at h
  simp only [Bool.and_eq_true, Bool.not_eq_true', decide_eq_true_eq] at h
  obtain ⟨hn, h1, h2⟩ := h
  have hr : rung64 x ≤ 4890909195324358656 := by
    unfold srung64 at h1 h2
    cases hs : sgn64 x <;> rw [hs] at h1 h2 <;> simp at h1 h2 <;> omega
  obtain ⟨e1, e2⟩ := trunc_fin (x := x) (by omega)
  unfold floatToIntVal
  have e3 : (FloatKind.f64.decode x).toInt .zero = some (truncV x) := e1
  rw [e3]
  dsimp only
  rw [if_pos]
  show (-9223372036854775808 : Int) ≤ truncV x ∧ truncV x ≤ 9223372036854775807
  rw [e2]
  rcases Nat.lt_or_ge (rung64 x) 4890909195324358656 with g | g
  · have hp : plc64 (rung64 x) ≤ 1084 := by unfold plc64; omega
    have hm := mag_lt64 (rung64 x)
    have hv : mag64 (rung64 x) * 2 ^ (-1074 + (plc64 (rung64 x) : Int)).toNat / 2 ^ (-(-1074 + (plc64 (rung64 x) : Int))).toNat < 9223372036854775808 := by
      have h1 : mag64 (rung64 x) * 2 ^ (-1074 + (plc64 (rung64 x) : Int)).toNat < 9007199254740992 * 2 ^ 10 := by
        have a1 : 2 ^ (-1074 + (plc64 (rung64 x) : Int)).toNat ≤ 2 ^ 10 := Nat.pow_le_pow_right (by decide) (by omega)
        have a2 : mag64 (rung64 x) * 2 ^ (-1074 + (plc64 (rung64 x) : Int)).toNat ≤ mag64 (rung64 x) * 2 ^ 10 := Nat.mul_le_mul_left _ a1
        omega
      exact Nat.lt_of_le_of_lt (Nat.div_le_self _ _) h1
    generalize mag64 (rung64 x) * 2 ^ (-1074 + (plc64 (rung64 x) : Int)).toNat / 2 ^ (-(-1074 + (plc64 (rung64 x) : Int))).toNat = z at hv
    unfold Ieee.signed
    rw [Nat.shiftLeft_zero]
    split <;> omega
  · have hr' : rung64 x = 4890909195324358656 := by omega
    have hs : sgn64 x = true := by
      cases hs : sgn64 x
      · unfold srung64 at h2; rw [hs] at h2
        simp at h2; omega
      · rfl
    rw [hr', hs]
    decide +kernel

theorem whole_lo : srung64 14114281232179134464 = -4890909195324358656 := by decide
theorem whole_hi : srung64 4890909195324358656 = 4890909195324358656 := by decide
theorem whole_cases (x : Nat) : (inWhole x = false ∧ (Ieee.double.order x 14114281232179134464 = none ∨ Ieee.double.order x 14114281232179134464 = some .lt ∨ (Ieee.double.order x 14114281232179134464 = some .gt ∧ (Ieee.double.order x 4890909195324358656 = some .eq ∨ Ieee.double.order x 4890909195324358656 = some .gt))))
    ∨ (inWhole x = true ∧ Ieee.double.order x 4890909195324358656 = some .lt ∧ (Ieee.double.order x 14114281232179134464 = some .gt ∨ Ieee.double.order x 14114281232179134464 = some .eq)) := by
  unfold inWhole
  cases h : nan64 x
  · have h' := h
    rw [nan64_rung] at h'
    have h' := of_decide_eq_false h'
    rw [order_num64 (x := x) (y := 14114281232179134464) (by omega) (by decide), order_num64 (x := x) (y := 4890909195324358656) (by omega) (by decide), whole_lo, whole_hi]
    generalize srung64 x = z
    rcases Int.lt_trichotomy z (-4890909195324358656) with a | a | a
    · rw [Int.compare_eq_lt.2 a]
      exact Or.inl ⟨by simp; omega, Or.inr (Or.inl rfl)⟩
    · rw [Int.compare_eq_eq.2 a, Int.compare_eq_lt.2 (by omega : z < 4890909195324358656)]
      exact Or.inr ⟨by simp; omega, rfl, Or.inr rfl⟩
    · rw [Int.compare_eq_gt.2 a]
      rcases Int.lt_trichotomy z 4890909195324358656 with b | b | b
      · rw [Int.compare_eq_lt.2 b]
        exact Or.inr ⟨by simp; omega, rfl, Or.inl rfl⟩
      · rw [Int.compare_eq_eq.2 b]
        exact Or.inl ⟨by simp; omega, Or.inr (Or.inr ⟨rfl, Or.inl rfl⟩)⟩
      · rw [Int.compare_eq_gt.2 b]
        exact Or.inl ⟨by simp; omega, Or.inr (Or.inr ⟨rfl, Or.inr rfl⟩)⟩
  · exact Or.inl ⟨rfl, Or.inl (order_nan1 _ (read64_nan h))⟩

/-- What whole tells: the number, and the error. -/
def wholeI (x : Nat) : Int := if inWhole x = true then truncV x else 0
def wholeE (x : Nat) : Int := if inWhole x = true then 0 else 20
/-- A binary64 made whole. -/
def flD (way : Ieee.Toward) (x : Nat) : Nat := Ieee.double.write ((Ieee.double.read x).integral way)
theorem integral_eq (name : String) (way : Ieee.Toward) (x : Nat) : Extern.MathFloor.toIntegral name way #[.float .f64 x] = match FloatKind.f64.decode x with
    | .nan s t => if FloatKind.f64.format.quiet t = t then pure (.float .f64 x) else choose (.extern "math.Floor,Ceil,Trunc,RoundToEven.signallingNaN kept" 2) >>= fun kept => pure (.float .f64 (if kept == 1 then x else FloatKind.f64.encode (.nan s (FloatKind.f64.format.quiet t))))
    | d => pure (.float .f64 (FloatKind.f64.encode (d.integral way))) := by kernel_rfl
theorem integral_run (name : String) (way : Ieee.Toward) {x : Nat} (h : nan64 x = false) (w : World) : (Extern.MathFloor.toIntegral name way #[.float .f64 x]).run Tryd.prog w = .ok (.float .f64 (flD way x)) w := by
  have hn := read64_num h
  unfold flD
  have e : FloatKind.f64.decode x = Ieee.double.read x := by kernel_rfl
  rw [integral_eq, e]
  cases hd : Ieee.double.read x with
  | nan s t => rw [hd] at hn; cases hn
  | infinity s => rfl
  | number s m p => rfl
/-- Of a NaN: it, or the same made quiet; and what is drawn for it. -/
def flV (x : Nat) (w : World) : Nat := match Ieee.double.read x with
  | .nan s t => if FloatKind.f64.format.quiet t = t then x else if (Question.extern "math.Floor,Ceil,Trunc,RoundToEven.signallingNaN kept" 2).cut (w.tape w.drawn (.extern "math.Floor,Ceil,Trunc,RoundToEven.signallingNaN kept" 2)) == 1 then x else Ieee.double.write (.nan s (FloatKind.f64.format.quiet t))
  | _ => x
def flU (x : Nat) (w : World) : World := match Ieee.double.read x with
  | .nan _ t => if FloatKind.f64.format.quiet t = t then w else w.drew
  | _ => w
theorem flU_q (x : Nat) (w : World) : Q w (flU x w) := by
  unfold flU; split
  · split
    · exact Q.refl _
    · exact (Q.refl _).drew
  · exact Q.refl _
theorem flV_nan {x : Nat} (h : nan64 x = true) (w : World) : nan64 (flV x w) = true := by
  have h' := h
  rw [nan64_rung] at h'
  have h' := of_decide_eq_true h'
  have hr : rung64 x < 9223372036854775808 := Nat.mod_lt _ (by decide)
  unfold flV
  rw [read_nan64 h']
  dsimp only
  split
  · exact h
  · split
    · exact h
    · have ht : rung64 x - 9218868437227405312 < 2 ^ 52 := by omega
      generalize rung64 x - 9218868437227405312 = t at ht
      show nan64 (Ieee.double.word (sgn64 x) (Ieee.double.infRung + (t ||| 2 ^ 51) % Ieee.double.binade)) = true
      rw [inf64, binade64]
      have h1 : t ||| 2 ^ 51 < 2 ^ 52 := Nat.or_lt_two_pow ht (by decide)
      have h2 : 2 ^ 51 ≤ t ||| 2 ^ 51 := Nat.right_le_or
      generalize t ||| 2 ^ 51 = u at h1 h2
      unfold nan64
      rw [word64]
      have := Bool.toNat_lt (sgn64 x)
      exact decide_eq_true (by omega)
theorem integral_nan (name : String) (way : Ieee.Toward) {x : Nat} (h : nan64 x = true) (w : World) : (Extern.MathFloor.toIntegral name way #[.float .f64 x]).run Tryd.prog w = .ok (.float .f64 (flV x w)) (flU x w) := by
  obtain ⟨s, t, e⟩ := isNaN_cases (read64_nan h)
  have e' : FloatKind.f64.decode x = .nan s t := e
  unfold flV flU
  rw [integral_eq, e', e]
  dsimp only
  by_cases g : FloatKind.f64.format.quiet t = t
  · rw [if_pos g, if_pos g, if_pos g]; rfl
  · rw [if_neg g, if_neg g, if_neg g]
    simp [Question.forced]
    rfl
theorem whole_nan {x : Nat} (h : nan64 x = true) : wholeI x = 0 ∧ wholeE x = 20 := by
  have e : inWhole x = false := by unfold inWhole; rw [h]; rfl
  unfold wholeI wholeE; rw [e]; exact ⟨rfl, rfl⟩
theorem wideN_nan {a : Nat} (h : nanN a = false) : nan64 (wideN a) = false := nan64_write (read32_num h)

/-- What Floor and Nearest tell: the number, and the error. -/
def floI (way : Ieee.Toward) (a : Nat) : Int := if nanN a = true then 0 else wholeI (flD way (wideN a))
def floE (way : Ieee.Toward) (a : Nat) : Int := if nanN a = true then 20 else wholeE (flD way (wideN a))

theorem sqrt_eq (x : Nat) : Extern.MathSqrt.sqrt #[.float .f64 x] = Option.casesOn (motive := fun _ => Sem Value) (FloatKind.f64.format.sqrt x) (choose (.nanBits .f64 x x) >>= fun b => pure (.float .f64 b)) (fun r => pure (.float .f64 r)) := by kernel_rfl
theorem sqrt_run0 {x r : Nat} (h : Ieee.double.sqrt x = some r) (w : World) : (Extern.MathSqrt.sqrt #[.float .f64 x]).run Tryd.prog w = .ok (.float .f64 r) w := by
  have h' : FloatKind.f64.format.sqrt x = some r := h
  rw [sqrt_eq, h']
  rfl
theorem sqrt_none0 {x : Nat} (h : Ieee.double.sqrt x = none) (w : World) : (Extern.MathSqrt.sqrt #[.float .f64 x]).run Tryd.prog w = .ok (.float .f64 (nanw .f64 x x w)) w.drew := by
  have h' : FloatKind.f64.format.sqrt x = none := h
  rw [sqrt_eq, h']
  simp [Question.forced, nanw]
theorem sqrt_nan {x : Nat} (h : nan64 x = true) : Ieee.double.sqrt x = none := by
  obtain ⟨s, t, e⟩ := isNaN_cases (read64_nan h)
  unfold Ieee.Format.sqrt; rw [e]; rfl
/-- The root. -/
def sqrtV (a : Nat) : Nat := if nanN a = true then 2143289344 else match Ieee.double.sqrt (wideN a) with
  | some r => toldD (some (Ieee.double.read r))
  | none => 2143289344
end Go.Proofs.YtjjjgdpgfndbdaaDoor

/- The document's exact sums: what their parts stand for. -/
import Derived.Test.YtjjjgdpgfndbdaaDoorG4343a382
import Derived.Test.YtjjjgdpgfndbdaaDoorGaca99f9f
import Derived.Test.YtjjjgdpgfndbdaaDoorG977f5ffb
import Derived.Test.YtjjjgdpgfndbdaaDoorG03bed2da
import Derived.Test.YtjjjgdpgfndbdaaDoorGaf33f05b
namespace Go.Proofs.YtjjjgdpgfndbdaaDoor
open Go.RowKit
set_option linter.unusedVariables false
set_option linter.unusedSimpArgs false

theorem kind_cases (a : Nat) (ha : a < 4294967296) : (kindV a = 16 ∧ numOf Ieee.single a = .nan ∧ a ≠ 2147483648) ∨ (kindV a = 4 ∧ numOf Ieee.single a = .inf false ∧ a ≠ 2147483648) ∨ (kindV a = 8 ∧ numOf Ieee.single a = .inf true ∧ a ≠ 2147483648) ∨
    (kindV a = 1 ∧ numOf Ieee.single a = .fin true 0 (-149) false ∧ a = 2147483648) ∨ (kindV a = 2 ∧ numOf Ieee.single a = .fin (decide (2147483648 ≤ a)) (szS a) ((atS a : Int) - 151) false ∧ a ≠ 2147483648) := by
  have hsg : (a / 2147483648 % 2 == 1) = decide (2147483648 ≤ a) := by
    by_cases h : 2147483648 ≤ a
    · rw [decide_eq_true h, beq_iff_eq]; omega
    · rw [decide_eq_false h, beq_eq_false_iff_ne]; omega
  by_cases h1 : a = 2147483648
  · right; right; right; left
    subst h1
    exact ⟨rfl, by rw [numOf_small (by decide)]; rfl, rfl⟩
  · by_cases h2 : a % 2147483648 < 2139095040
    · right; right; right; right
      refine ⟨by unfold kindV; rw [if_neg h1, if_pos h2], ?_, h1⟩
      by_cases h3 : a / 8388608 % 256 = 0
      · rw [numOf_small h3, hsg]
        unfold szS atS
        rw [if_pos h3, if_pos h3]
        rfl
      · rw [numOf_norm h3 (by omega), hsg]
        unfold szS atS
        rw [if_neg h3, if_neg h3]
        have e1 : a % 8388608 + 8388608 = 8388608 + a % 8388608 := Nat.add_comm _ _
        have e2 : ((a / 8388608 % 256 + 1 : Nat) : Int) - 151 = ((a / 8388608 % 256 : Nat) : Int) - 150 := by omega
        rw [e1, e2]
    · by_cases h3 : 2139095040 < a % 2147483648
      · left
        refine ⟨by unfold kindV; rw [if_neg h1, if_neg h2, if_pos h3], numOf_nan (by omega) (by omega), h1⟩
      · by_cases h4 : a = 2139095040
        · right; left
          subst h4
          exact ⟨rfl, by rw [numOf_inf (by decide) (by decide)]; rfl, h1⟩
        · right; right; left
          refine ⟨by unfold kindV; rw [if_neg h1, if_neg h2, if_neg h3, if_neg h4], ?_, h1⟩
          rw [numOf_inf (by omega) (by omega), hsg, decide_eq_true (by omega)]
def sgV (s : Bool) (n : Nat) : Int := if s = true then -(n : Int) else n
theorem sgV_abs (s : Bool) (n : Nat) : (sgV s n).natAbs = n := by unfold sgV; split <;> omega
theorem sgV_mul (s : Bool) (n k : Nat) : sgV s (n * k) = sgV s n * (k : Int) := by
  unfold sgV
  split
  · rw [Int.natCast_mul, Int.neg_mul]
  · rw [Int.natCast_mul]
/-- A number that stands for so many units. -/
structure Val (s : Bool) (n : Nat) (e : Int) (z : Int) : Prop where
  lo : -149 ≤ e
  hi : e ≤ 104
  v : sgV s n * ((2 ^ (e + 151).toNat : Nat) : Int) = z
theorem Val.size {s : Bool} {n : Nat} {e z : Int} (h : Val s n e z) : n * 2 ^ (e + 151).toNat = z.natAbs := by
  rw [← h.v, Int.natAbs_mul, sgV_abs, Int.natAbs_natCast]
theorem Val.le {s : Bool} {n : Nat} {e z : Int} (h : Val s n e z) : n ≤ z.natAbs := by
  rw [← h.size]
  exact Nat.le_mul_of_pos_right _ (Nat.two_pow_pos _)
theorem Val.zero {s : Bool} {n : Nat} {e z : Int} (h : Val s n e z) : n = 0 ↔ z = 0 := by
  have h1 := h.size
  have hp := Nat.two_pow_pos (e + 151).toNat
  constructor
  · intro h0
    rw [h0, Nat.zero_mul] at h1
    omega
  · intro h0
    rw [h0] at h1
    rcases Nat.mul_eq_zero.1 h1 with g | g
    · exact g
    · omega
theorem Val.sign {s : Bool} {n : Nat} {e z : Int} (h : Val s n e z) (h0 : z ≠ 0) : s = decide (z < 0) := by
  have hp : (0 : Int) < ((2 ^ (e + 151).toNat : Nat) : Int) := Int.natCast_pos.2 (Nat.two_pow_pos _)
  have hn : n ≠ 0 := fun g => h0 (h.zero.1 g)
  cases s
  · symm
    rw [decide_eq_false_iff_not, ← h.v]
    have : (0 : Int) ≤ sgV false n * ((2 ^ (e + 151).toNat : Nat) : Int) := Int.mul_nonneg (by unfold sgV; simp) (by omega)
    omega
  · symm
    rw [decide_eq_true_iff, ← h.v]
    refine Int.mul_neg_of_neg_of_pos ?_ hp
    unfold sgV
    simp
    omega
theorem Val.small {s : Bool} {n : Nat} {e z : Int} (h : Val s n e z) (hz : 2 * z.natAbs < m64 ^ 5) : small (.fin s n e false) := by
  have h1 := h.le
  have h2 := blen_fits hz
  have h3 : blen n ≤ blen z.natAbs := blen_le (Nat.lt_of_le_of_lt h1 (blen_lt _))
  exact ⟨by omega, by have := h.lo; omega, by have := h.hi; omega⟩
theorem Val.plus {s t : Bool} {n m : Nat} {e f z y : Int} (h : Val s n e z) (g : Val t m f y) : ∃ u k b, plusR (.fin s n e false) (.fin t m f false) = .fin u k b false ∧ Val u k b (z + y) := by
  obtain ⟨b, hb⟩ : ∃ b, b = min e f := ⟨_, rfl⟩
  have h1 := h.lo
  have h2 := h.hi
  have g1 := g.lo
  have g2 := g.hi
  have hx : sgV s (n * 2 ^ (e - b).toNat) * ((2 ^ (b + 151).toNat : Nat) : Int) = z := by
    rw [← h.v, sgV_mul, Int.mul_assoc, ← Int.natCast_mul, ← Nat.pow_add, show (e - b).toNat + (b + 151).toNat = (e + 151).toNat by omega]
  have hy : sgV t (m * 2 ^ (f - b).toNat) * ((2 ^ (b + 151).toNat : Nat) : Int) = y := by
    rw [← g.v, sgV_mul, Int.mul_assoc, ← Int.natCast_mul, ← Nat.pow_add, show (f - b).toNat + (b + 151).toNat = (f + 151).toNat by omega]
  show ∃ u k b', plusFin s t (n * 2 ^ (e - min e f).toNat) (m * 2 ^ (f - min e f).toNat) (min e f) = .fin u k b' false ∧ Val u k b' (z + y)
  rw [← hb]
  generalize n * 2 ^ (e - b).toNat = X at *
  generalize m * 2 ^ (f - b).toNat = Y at *
  have key : ∀ u k, sgV u k = sgV s X + sgV t Y → Val u k b (z + y) := fun u k hk => ⟨by omega, by omega, by rw [hk, Int.add_mul, hx, hy]⟩
  unfold plusFin
  by_cases c1 : s = t
  · rw [if_pos c1]
    refine ⟨_, _, _, rfl, key _ _ ?_⟩
    subst c1
    unfold sgV
    split <;> omega
  · rw [if_neg c1]
    by_cases c2 : X = Y
    · rw [if_pos c2]
      refine ⟨_, _, _, rfl, key _ _ ?_⟩
      subst c2
      cases s <;> cases t <;> simp_all [sgV] <;> omega
    · rw [if_neg c2]
      by_cases c3 : Y < X
      · rw [if_pos c3]
        refine ⟨_, _, _, rfl, key _ _ ?_⟩
        cases s <;> cases t <;> simp_all [sgV] <;> omega
      · rw [if_neg c3]
        refine ⟨_, _, _, rfl, key _ _ ?_⟩
        cases s <;> cases t <;> simp_all [sgV] <;> omega
theorem Val.sample {a : Nat} (ha : a < 4294967296) (hf : a / 8388608 % 256 < 255) : Val (decide (2147483648 ≤ a)) (szS a) ((atS a : Int) - 151) (unZ a) := by
  have h1 : 2 ≤ atS a ∧ atS a ≤ 255 := by unfold atS; split <;> omega
  refine ⟨by omega, by omega, ?_⟩
  rw [show ((atS a : Int) - 151 + 151).toNat = atS a by omega]
  unfold unZ sgV
  by_cases h : a < 2147483648
  · rw [if_pos h, decide_eq_false (by omega), if_neg (by decide), Int.natCast_mul]
  · rw [if_neg h, decide_eq_true (by omega), if_pos rfl, Int.natCast_mul, Int.neg_mul]
theorem Val.start : Val false 0 0 0 := ⟨by omega, by omega, by unfold sgV; simp⟩
/-- A number, rounded, is the units' sample. -/
theorem Val.told {s : Bool} {n : Nat} {e z : Int} (h : Val s n e z) (h0 : z ≠ 0) : roundR (.fin s n e false) = exV z 1 := by
  have h1 : roundR (.fin s n e false) = Ieee.single.word s (rungOf Ieee.single n e) := by
    show Ieee.single.word s (rungOf Ieee.single (2 * n + 0) (e - 1)) = _
    rw [Nat.add_zero, Nat.mul_comm, show n * 2 = n * 2 ^ 1 by omega, rung_scale]
    congr 2
    omega
  rw [h1]
  unfold exV
  rw [h.sign h0]
  congr 1
  unfold exR
  have hz : sqV z.natAbs 1 0 = z.natAbs * 2 ^ 1 := by
    rw [sqV_zero, Nat.div_one, Nat.mod_one, if_pos rfl]; omega
  rw [hz, rung_scale, ← h.size, rung_scale]
  congr 1
  have := h.lo
  omega
end Go.Proofs.YtjjjgdpgfndbdaaDoor
/- The document's exact sums: a number more, in whatever order. -/
namespace Go.Proofs.YtjjjgdpgfndbdaaDoor
open Go.RowKit
set_option linter.unusedVariables false
set_option linter.unusedSimpArgs false

theorem run_fld0 {ρ : Operand → Value} {x : World} {d : Option Tmp} {ty : TypeId} {ps : String} {af : Array Edge} {g : Option (Nat × Bool)} {j V : Nat} (h : ρ (.tmp j) = ptrV V) : (execOp ρ { dst := d, op := .fieldAddr 101 (.tmp j) 0, type := ty, pos := ps, after := af, guard := g }).run Tryd.prog x = .ok (.value (ptrV V)) x := by
  simp [execOp, h, go_sem, ptrV]
def numS (R : RNum) : Spec := ⟨fun v x => NumAt x v R, fun h q => q.num h⟩
def oP9_0 : Oper := { dst := some 89, op := .move (.tmp 0), type := 70, pos := "halideref3.go:100", after := #[], guard := none }
def oP9_1 : Oper := { dst := some 90, op := .move (.tmp 0), type := 70, pos := "halideref3.go:100", after := #[], guard := none }
def oP9_2 : Oper := { dst := some 91, op := .nilCheck (.tmp 90), type := 0, pos := "halideref3.go:100", after := #[⟨1, .data⟩], guard := none }
def oP9_3 : Oper := { dst := some 92, op := .fieldAddr 101 (.tmp 91) 0, type := 0, pos := "halideref3.go:100", after := #[⟨2, .data⟩], guard := none }
def oP9_4 : Oper := { dst := some 93, op := .load 80 (.tmp 92), type := 80, pos := "halideref3.go:100", after := #[⟨3, .data⟩], guard := none }
def oP9_5 : Oper := { dst := some 94, op := .load 80 (.tmp 4), type := 80, pos := "halideref3.go:100", after := #[], guard := none }
def oP9_6 : Oper := { dst := some 95, op := .call { callee := .value (.func 67), args := #[.tmp 93, .tmp 94], argTypes := #[80, 80] }, type := 80, pos := "halideref3.go:100", after := #[⟨4, .data⟩, ⟨5, .data⟩], guard := none }
def oP9_7 : Oper := { dst := some 96, op := .nilCheck (.tmp 89), type := 0, pos := "halideref3.go:100", after := #[⟨0, .data⟩, ⟨0, .phase⟩, ⟨1, .phase⟩, ⟨2, .phase⟩, ⟨3, .phase⟩, ⟨4, .phase⟩, ⟨5, .phase⟩, ⟨6, .phase⟩], guard := none }
def oP9_8 : Oper := { dst := some 97, op := .fieldAddr 101 (.tmp 96) 0, type := 0, pos := "halideref3.go:100", after := #[⟨7, .data⟩, ⟨0, .phase⟩, ⟨1, .phase⟩, ⟨2, .phase⟩, ⟨3, .phase⟩, ⟨4, .phase⟩, ⟨5, .phase⟩, ⟨6, .phase⟩], guard := none }
def oP9_9 : Oper := { dst := none, op := .store 80 (.tmp 97) (.tmp 95), type := 0, pos := "halideref3.go:100", after := #[⟨8, .data⟩, ⟨6, .data⟩, ⟨6, .chain⟩, ⟨0, .phase⟩, ⟨1, .phase⟩, ⟨2, .phase⟩, ⟨3, .phase⟩, ⟨4, .phase⟩, ⟨5, .phase⟩, ⟨6, .phase⟩], guard := none }
def opsP9 : List Oper := [oP9_0, oP9_1, oP9_2, oP9_3, oP9_4, oP9_5, oP9_6, oP9_7, oP9_8, oP9_9]
def sP9 : List Nat := [89, 90, 91, 92, 93, 94, 95, 96, 97]
def spP9 (B X : Nat) (k : Int) (s : Bool) (p : Option Addr) (Ln C : Nat) (e : Int) (m : Bool) (k2 : Int) (s2 : Bool) (p2 : Option Addr) (L2 C2 : Nat) (e2 : Int) (m2 : Bool) (R1 R2 : RNum) : List Spec := [spV (ptrV B), spV (ptrV B), spV (ptrV B), spV (ptrV B), spV (num5 k s p Ln C e m), spV (num5 k2 s2 p2 L2 C2 e2 m2), numS (plusR R1 R2), spV (ptrV B), spV (ptrV B)]
structure EnvP9 (a0 : Act) (w : World) (B X : Nat) (k : Int) (s : Bool) (p : Option Addr) (Ln C : Nat) (e : Int) (m : Bool) (k2 : Int) (s2 : Bool) (p2 : Option Addr) (L2 C2 : Nat) (e2 : Int) (m2 : Bool) (R1 R2 : RNum) : Prop where
  h0 : a0.tmps[0]? = some (ptrV B)
  h4 : a0.tmps[4]? = some (ptrV X)
  b : Box5 w B k s p Ln C e m
  x : Box5 w X k2 s2 p2 L2 C2 e2 m2
  n1 : NumAt w (num5 k s p Ln C e m) R1
  n2 : NumAt w (num5 k2 s2 p2 L2 C2 e2 m2) R2
  s1 : small R1
  s2 : small R2
  z : ∀ j, w.frozen? ⟨B, j, none⟩ = false
theorem yP9_0 {a0 : Act} {w : World} {B X : Nat} {k : Int} {s : Bool} {p : Option Addr} {Ln C : Nat} {e : Int} {m : Bool} {k2 : Int} {s2 : Bool} {p2 : Option Addr} {L2 C2 : Nat} {e2 : Int} {m2 : Bool} {R1 R2 : RNum} (E : EnvP9 a0 w B X k s p Ln C e m k2 s2 p2 L2 C2 e2 m2 R1 R2) {R : Exit → Act → World → Prop} {a : Act} {x : World} (q : Q w x) (oth : ∀ j, j ∉ sP9 → a.tmps[j]? = a0.tmps[j]?) (dep : ∀ ed ∈ oP9_0.after, Region.binds .any ed = true → ∀ t', sP9[ed.on]? = some t' → ∃ v, a.tmps[t']? = some v ∧ specAt (spP9 B X k s p Ln C e m k2 s2 p2 L2 C2 e2 m2 R1 R2) ed.on v x) : Yld Tryd.prog R oP9_0 a x 89 (fun v x' => specAt (spP9 B X k s p Ln C e m k2 s2 p2 L2 C2 e2 m2 R1 R2) 0 v x' ∧ (0 ∈ ([] : List Nat) → v = ptrV x.heap.size)) := by
  exact yld_move ((oth 0 (by decide)).trans E.h0) ⟨rfl, fun h => absurd h (by decide)⟩
theorem yP9_1 {a0 : Act} {w : World} {B X : Nat} {k : Int} {s : Bool} {p : Option Addr} {Ln C : Nat} {e : Int} {m : Bool} {k2 : Int} {s2 : Bool} {p2 : Option Addr} {L2 C2 : Nat} {e2 : Int} {m2 : Bool} {R1 R2 : RNum} (E : EnvP9 a0 w B X k s p Ln C e m k2 s2 p2 L2 C2 e2 m2 R1 R2) {R : Exit → Act → World → Prop} {a : Act} {x : World} (q : Q w x) (oth : ∀ j, j ∉ sP9 → a.tmps[j]? = a0.tmps[j]?) (dep : ∀ ed ∈ oP9_1.after, Region.binds .any ed = true → ∀ t', sP9[ed.on]? = some t' → ∃ v, a.tmps[t']? = some v ∧ specAt (spP9 B X k s p Ln C e m k2 s2 p2 L2 C2 e2 m2 R1 R2) ed.on v x) : Yld Tryd.prog R oP9_1 a x 90 (fun v x' => specAt (spP9 B X k s p Ln C e m k2 s2 p2 L2 C2 e2 m2 R1 R2) 1 v x' ∧ (1 ∈ ([] : List Nat) → v = ptrV x.heap.size)) := by
  exact yld_move ((oth 0 (by decide)).trans E.h0) ⟨rfl, fun h => absurd h (by decide)⟩
theorem yP9_2 {a0 : Act} {w : World} {B X : Nat} {k : Int} {s : Bool} {p : Option Addr} {Ln C : Nat} {e : Int} {m : Bool} {k2 : Int} {s2 : Bool} {p2 : Option Addr} {L2 C2 : Nat} {e2 : Int} {m2 : Bool} {R1 R2 : RNum} (E : EnvP9 a0 w B X k s p Ln C e m k2 s2 p2 L2 C2 e2 m2 R1 R2) {R : Exit → Act → World → Prop} {a : Act} {x : World} (q : Q w x) (oth : ∀ j, j ∉ sP9 → a.tmps[j]? = a0.tmps[j]?) (dep : ∀ ed ∈ oP9_2.after, Region.binds .any ed = true → ∀ t', sP9[ed.on]? = some t' → ∃ v, a.tmps[t']? = some v ∧ specAt (spP9 B X k s p Ln C e m k2 s2 p2 L2 C2 e2 m2 R1 R2) ed.on v x) : Yld Tryd.prog R oP9_2 a x 91 (fun v x' => specAt (spP9 B X k s p Ln C e m k2 s2 p2 L2 C2 e2 m2 R1 R2) 2 v x' ∧ (2 ∈ ([] : List Nat) → v = ptrV x.heap.size)) := by
  obtain ⟨v1, t1, f1⟩ := dep ⟨1, .data⟩ (by simp [oP9_2]) rfl 90 rfl
  have f1 : v1 = (ptrV B) := f1
  subst f1
  exact yld_run (x' := x) rfl (run_nck (tmp_eval t1)) (Q.refl x) ⟨rfl, fun h => absurd h (by decide)⟩
theorem yP9_3 {a0 : Act} {w : World} {B X : Nat} {k : Int} {s : Bool} {p : Option Addr} {Ln C : Nat} {e : Int} {m : Bool} {k2 : Int} {s2 : Bool} {p2 : Option Addr} {L2 C2 : Nat} {e2 : Int} {m2 : Bool} {R1 R2 : RNum} (E : EnvP9 a0 w B X k s p Ln C e m k2 s2 p2 L2 C2 e2 m2 R1 R2) {R : Exit → Act → World → Prop} {a : Act} {x : World} (q : Q w x) (oth : ∀ j, j ∉ sP9 → a.tmps[j]? = a0.tmps[j]?) (dep : ∀ ed ∈ oP9_3.after, Region.binds .any ed = true → ∀ t', sP9[ed.on]? = some t' → ∃ v, a.tmps[t']? = some v ∧ specAt (spP9 B X k s p Ln C e m k2 s2 p2 L2 C2 e2 m2 R1 R2) ed.on v x) : Yld Tryd.prog R oP9_3 a x 92 (fun v x' => specAt (spP9 B X k s p Ln C e m k2 s2 p2 L2 C2 e2 m2 R1 R2) 3 v x' ∧ (3 ∈ ([] : List Nat) → v = ptrV x.heap.size)) := by
  obtain ⟨v2, t2, f2⟩ := dep ⟨2, .data⟩ (by simp [oP9_3]) rfl 91 rfl
  have f2 : v2 = (ptrV B) := f2
  subst f2
  exact yld_run (x' := x) rfl (run_fld0 (tmp_eval t2)) (Q.refl x) ⟨rfl, fun h => absurd h (by decide)⟩
theorem yP9_4 {a0 : Act} {w : World} {B X : Nat} {k : Int} {s : Bool} {p : Option Addr} {Ln C : Nat} {e : Int} {m : Bool} {k2 : Int} {s2 : Bool} {p2 : Option Addr} {L2 C2 : Nat} {e2 : Int} {m2 : Bool} {R1 R2 : RNum} (E : EnvP9 a0 w B X k s p Ln C e m k2 s2 p2 L2 C2 e2 m2 R1 R2) {R : Exit → Act → World → Prop} {a : Act} {x : World} (q : Q w x) (oth : ∀ j, j ∉ sP9 → a.tmps[j]? = a0.tmps[j]?) (dep : ∀ ed ∈ oP9_4.after, Region.binds .any ed = true → ∀ t', sP9[ed.on]? = some t' → ∃ v, a.tmps[t']? = some v ∧ specAt (spP9 B X k s p Ln C e m k2 s2 p2 L2 C2 e2 m2 R1 R2) ed.on v x) : Yld Tryd.prog R oP9_4 a x 93 (fun v x' => specAt (spP9 B X k s p Ln C e m k2 s2 p2 L2 C2 e2 m2 R1 R2) 4 v x' ∧ (4 ∈ ([] : List Nat) → v = ptrV x.heap.size)) := by
  obtain ⟨v3, t3, f3⟩ := dep ⟨3, .data⟩ (by simp [oP9_4]) rfl 92 rfl
  have f3 : v3 = (ptrV B) := f3
  subst f3
  exact yld_run (x' := x) rfl (run_num (tmp_eval t3) (E.b.next q)) (Q.refl x) ⟨rfl, fun h => absurd h (by decide)⟩
theorem yP9_5 {a0 : Act} {w : World} {B X : Nat} {k : Int} {s : Bool} {p : Option Addr} {Ln C : Nat} {e : Int} {m : Bool} {k2 : Int} {s2 : Bool} {p2 : Option Addr} {L2 C2 : Nat} {e2 : Int} {m2 : Bool} {R1 R2 : RNum} (E : EnvP9 a0 w B X k s p Ln C e m k2 s2 p2 L2 C2 e2 m2 R1 R2) {R : Exit → Act → World → Prop} {a : Act} {x : World} (q : Q w x) (oth : ∀ j, j ∉ sP9 → a.tmps[j]? = a0.tmps[j]?) (dep : ∀ ed ∈ oP9_5.after, Region.binds .any ed = true → ∀ t', sP9[ed.on]? = some t' → ∃ v, a.tmps[t']? = some v ∧ specAt (spP9 B X k s p Ln C e m k2 s2 p2 L2 C2 e2 m2 R1 R2) ed.on v x) : Yld Tryd.prog R oP9_5 a x 94 (fun v x' => specAt (spP9 B X k s p Ln C e m k2 s2 p2 L2 C2 e2 m2 R1 R2) 5 v x' ∧ (5 ∈ ([] : List Nat) → v = ptrV x.heap.size)) := by
  exact yld_run (x' := x) rfl (run_num (tmp_eval ((oth 4 (by decide)).trans E.h4)) (E.x.next q)) (Q.refl x) ⟨rfl, fun h => absurd h (by decide)⟩
theorem yP9_6 {a0 : Act} {w : World} {B X : Nat} {k : Int} {s : Bool} {p : Option Addr} {Ln C : Nat} {e : Int} {m : Bool} {k2 : Int} {s2 : Bool} {p2 : Option Addr} {L2 C2 : Nat} {e2 : Int} {m2 : Bool} {R1 R2 : RNum} (E : EnvP9 a0 w B X k s p Ln C e m k2 s2 p2 L2 C2 e2 m2 R1 R2) {R : Exit → Act → World → Prop} {a : Act} {x : World} (q : Q w x) (oth : ∀ j, j ∉ sP9 → a.tmps[j]? = a0.tmps[j]?) (dep : ∀ ed ∈ oP9_6.after, Region.binds .any ed = true → ∀ t', sP9[ed.on]? = some t' → ∃ v, a.tmps[t']? = some v ∧ specAt (spP9 B X k s p Ln C e m k2 s2 p2 L2 C2 e2 m2 R1 R2) ed.on v x) : Yld Tryd.prog R oP9_6 a x 95 (fun v x' => specAt (spP9 B X k s p Ln C e m k2 s2 p2 L2 C2 e2 m2 R1 R2) 6 v x' ∧ (6 ∈ ([] : List Nat) → v = ptrV x.heap.size)) := by
  obtain ⟨v4, t4, f4⟩ := dep ⟨4, .data⟩ (by simp [oP9_6]) rfl 93 rfl
  have f4 : v4 = (num5 k s p Ln C e m) := f4
  subst f4
  obtain ⟨v5, t5, f5⟩ := dep ⟨5, .data⟩ (by simp [oP9_6]) rfl 94 rfl
  have f5 : v5 = (num5 k2 s2 p2 L2 C2 e2 m2) := f5
  subst f5
  refine yld_call (enters_of Tryd.func67 (by kernel_rfl) rfl) (args2 t4 t5) ((plusnum_any _ _ R1 R2 x (q.num E.n1) (q.num E.n2) E.s1 E.s2).mono ?_)
  rintro y x' ⟨v, rfl, h, q'⟩
  exact ⟨v, rfl, q', h, fun h => absurd h (by decide)⟩
theorem yP9_7 {a0 : Act} {w : World} {B X : Nat} {k : Int} {s : Bool} {p : Option Addr} {Ln C : Nat} {e : Int} {m : Bool} {k2 : Int} {s2 : Bool} {p2 : Option Addr} {L2 C2 : Nat} {e2 : Int} {m2 : Bool} {R1 R2 : RNum} (E : EnvP9 a0 w B X k s p Ln C e m k2 s2 p2 L2 C2 e2 m2 R1 R2) {R : Exit → Act → World → Prop} {a : Act} {x : World} (q : Q w x) (oth : ∀ j, j ∉ sP9 → a.tmps[j]? = a0.tmps[j]?) (dep : ∀ ed ∈ oP9_7.after, Region.binds .any ed = true → ∀ t', sP9[ed.on]? = some t' → ∃ v, a.tmps[t']? = some v ∧ specAt (spP9 B X k s p Ln C e m k2 s2 p2 L2 C2 e2 m2 R1 R2) ed.on v x) : Yld Tryd.prog R oP9_7 a x 96 (fun v x' => specAt (spP9 B X k s p Ln C e m k2 s2 p2 L2 C2 e2 m2 R1 R2) 7 v x' ∧ (7 ∈ ([] : List Nat) → v = ptrV x.heap.size)) := by
  obtain ⟨v0, t0, f0⟩ := dep ⟨0, .data⟩ (by simp [oP9_7]) rfl 89 rfl
  have f0 : v0 = (ptrV B) := f0
  subst f0
  exact yld_run (x' := x) rfl (run_nck (tmp_eval t0)) (Q.refl x) ⟨rfl, fun h => absurd h (by decide)⟩
theorem yP9_8 {a0 : Act} {w : World} {B X : Nat} {k : Int} {s : Bool} {p : Option Addr} {Ln C : Nat} {e : Int} {m : Bool} {k2 : Int} {s2 : Bool} {p2 : Option Addr} {L2 C2 : Nat} {e2 : Int} {m2 : Bool} {R1 R2 : RNum} (E : EnvP9 a0 w B X k s p Ln C e m k2 s2 p2 L2 C2 e2 m2 R1 R2) {R : Exit → Act → World → Prop} {a : Act} {x : World} (q : Q w x) (oth : ∀ j, j ∉ sP9 → a.tmps[j]? = a0.tmps[j]?) (dep : ∀ ed ∈ oP9_8.after, Region.binds .any ed = true → ∀ t', sP9[ed.on]? = some t' → ∃ v, a.tmps[t']? = some v ∧ specAt (spP9 B X k s p Ln C e m k2 s2 p2 L2 C2 e2 m2 R1 R2) ed.on v x) : Yld Tryd.prog R oP9_8 a x 97 (fun v x' => specAt (spP9 B X k s p Ln C e m k2 s2 p2 L2 C2 e2 m2 R1 R2) 8 v x' ∧ (8 ∈ ([] : List Nat) → v = ptrV x.heap.size)) := by
  obtain ⟨v7, t7, f7⟩ := dep ⟨7, .data⟩ (by simp [oP9_8]) rfl 96 rfl
  have f7 : v7 = (ptrV B) := f7
  subst f7
  exact yld_run (x' := x) rfl (run_fld0 (tmp_eval t7)) (Q.refl x) ⟨rfl, fun h => absurd h (by decide)⟩
theorem hopP9 {a0 : Act} {w : World} {B X : Nat} {k : Int} {s : Bool} {p : Option Addr} {Ln C : Nat} {e : Int} {m : Bool} {k2 : Int} {s2 : Bool} {p2 : Option Addr} {L2 C2 : Nat} {e2 : Int} {m2 : Bool} {R1 R2 : RNum} (E : EnvP9 a0 w B X k s p Ln C e m k2 s2 p2 L2 C2 e2 m2 R1 R2) {R : Exit → Act → World → Prop} : ∀ (i t : Nat) (o : Oper) (a : Act) (x : World), i < 9 → sP9[i]? = some t → opsP9[i]? = some o → Q w x → (∀ j, j ∉ sP9 → a.tmps[j]? = a0.tmps[j]?) → (∀ ed ∈ o.after, Region.binds .any ed = true → ∀ t', sP9[ed.on]? = some t' → ∃ v, a.tmps[t']? = some v ∧ specAt (spP9 B X k s p Ln C e m k2 s2 p2 L2 C2 e2 m2 R1 R2) ed.on v x) → Yld Tryd.prog R o a x t (fun v x' => specAt (spP9 B X k s p Ln C e m k2 s2 p2 L2 C2 e2 m2 R1 R2) i v x' ∧ (i ∈ ([] : List Nat) → v = ptrV x.heap.size))
  | 0, t, o, a, x, hi, ht, ho, q, oth, dep => by
    have e1 : oP9_0 = o := Option.some.inj ho
    have e2 : 89 = t := Option.some.inj ht
    subst e1 e2
    exact yP9_0 E q oth dep
  | 1, t, o, a, x, hi, ht, ho, q, oth, dep => by
    have e1 : oP9_1 = o := Option.some.inj ho
    have e2 : 90 = t := Option.some.inj ht
    subst e1 e2
    exact yP9_1 E q oth dep
  | 2, t, o, a, x, hi, ht, ho, q, oth, dep => by
    have e1 : oP9_2 = o := Option.some.inj ho
    have e2 : 91 = t := Option.some.inj ht
    subst e1 e2
    exact yP9_2 E q oth dep
  | 3, t, o, a, x, hi, ht, ho, q, oth, dep => by
    have e1 : oP9_3 = o := Option.some.inj ho
    have e2 : 92 = t := Option.some.inj ht
    subst e1 e2
    exact yP9_3 E q oth dep
  | 4, t, o, a, x, hi, ht, ho, q, oth, dep => by
    have e1 : oP9_4 = o := Option.some.inj ho
    have e2 : 93 = t := Option.some.inj ht
    subst e1 e2
    exact yP9_4 E q oth dep
  | 5, t, o, a, x, hi, ht, ho, q, oth, dep => by
    have e1 : oP9_5 = o := Option.some.inj ho
    have e2 : 94 = t := Option.some.inj ht
    subst e1 e2
    exact yP9_5 E q oth dep
  | 6, t, o, a, x, hi, ht, ho, q, oth, dep => by
    have e1 : oP9_6 = o := Option.some.inj ho
    have e2 : 95 = t := Option.some.inj ht
    subst e1 e2
    exact yP9_6 E q oth dep
  | 7, t, o, a, x, hi, ht, ho, q, oth, dep => by
    have e1 : oP9_7 = o := Option.some.inj ho
    have e2 : 96 = t := Option.some.inj ht
    subst e1 e2
    exact yP9_7 E q oth dep
  | 8, t, o, a, x, hi, ht, ho, q, oth, dep => by
    have e1 : oP9_8 = o := Option.some.inj ho
    have e2 : 97 = t := Option.some.inj ht
    subst e1 e2
    exact yP9_8 E q oth dep
  | i + 9, t, o, a, x, hi, ht, ho, q, oth, dep => absurd hi (by omega)
theorem regionP9 {id : Nat} {l : List Oper} {R : Exit → Act → World → Prop} {a0 : Act} {w : World} {B X : Nat} {k : Int} {s : Bool} {p : Option Addr} {Ln C : Nat} {e : Int} {m : Bool} {k2 : Int} {s2 : Bool} {p2 : Option Addr} {L2 C2 : Nat} {e2 : Int} {m2 : Bool} {R1 R2 : RNum} (hl : l = opsP9) (hsz : a0.tmps.size = 98) (E : EnvP9 a0 w B X k s p Ln C e m k2 s2 p2 L2 C2 e2 m2 R1 R2)
    (hR : ∀ a x k' s' p' L' C' e' m', Q w x → a.defers = a0.defers → NumAt x (num5 k' s' p' L' C' e' m') (plusR R1 R2) → R .normal a (((((x.setCell ⟨B, 0, none⟩ (.int .i64 k')).setCell ⟨B, 1, none⟩ (.bool s')).setCell ⟨B, 2, none⟩ (.slice p' L' C')).setCell ⟨B, 3, none⟩ (.int .i64 e')).setCell ⟨B, 4, none⟩ (.bool m'))) :
    (Code.region id l.toArray true).wp Tryd.prog R a0 w := by
  subst hl
  refine wp_region_facts 9 sP9 (specAt (spP9 B X k s p Ln C e m k2 s2 p2 L2 C2 e2 m2 R1 R2)) [] (by kernel_rfl) (by decide +kernel) (by decide) rfl (by decide) (fun t ht => ?_) specAt.next (fun i v x hi hf => by cases hi) (hopP9 E) (fun a x q size defers other facts apart => ?_)
  · rw [hsz]
    revert t
    decide
  · obtain ⟨v95, t95, f95⟩ := facts 6 95 (by decide) rfl
    obtain ⟨v97, t97, f97⟩ := facts 8 97 (by decide) rfl
    have f97 : v97 = ptrV B := f97
    subst f97
    have f95 : NumAt x v95 (plusR R1 R2) := f95
    obtain ⟨k', s', p', L', C', e', m', rfl⟩ := f95.made
    refine ⟨?_⟩
    show Oper.wp Tryd.prog oP9_9 a x (fun a' x' => R .normal a' x') R
    refine store_num t97 t95 (E.b.next q) (fun j => by rw [q.2]; exact E.z j) (fun x1 _ h1 => ?_)
    rw [h1]
    exact hR a x k' s' p' L' C' e' m' q defers f95
end Go.Proofs.YtjjjgdpgfndbdaaDoor

/- The document's exact sums: what their parts stand for. -/
import Derived.Test.YtieojgblamkgoaaGreatDoorG6b52728e
import Derived.Test.YtieojgblamkgoaaGreatDoorGba0d9aba
import Derived.Test.YtieojgblamkgoaaGreatDoorGab2760b1
import Derived.Test.YtieojgblamkgoaaGreatDoorGebb87544
import Derived.Test.YtieojgblamkgoaaGreatDoorG48ed55a6
import Derived.Test.YtieojgblamkgoaaGreatDoorG678be151
namespace Go.Proofs.YtieojgblamkgoaaGreatDoor
open Go.RowKit
set_option linter.unusedVariables false
set_option linter.unusedSimpArgs false

theorem kind_cases (a : Nat) (ha : a < 4294967296) : (kindV a = 16 ∧ numOf Ieee.single a = .nan ∧ a ≠ 2147483648) ∨ (kindV a = 4 ∧ numOf Ieee.single a = .inf false ∧ a ≠ 2147483648) ∨ (kindV a = 8 ∧ numOf Ieee.single a = .inf true ∧ a ≠ 2147483648) ∨
    (kindV a = 1 ∧ numOf Ieee.single a = .fin true 0 (-149) false ∧ a = 2147483648) ∨ (kindV a = 2 ∧ numOf Ieee.single a = .fin (decide (2147483648 ≤ a)) (szS a) ((atS a : Int) - 151) false ∧ a ≠ 2147483648) := by
  have hsg : (a / 2147483648 % 2 == 1) = decide (2147483648 ≤ a) := by
    by_cases h : 2147483648 ≤ a
    · rw [decide_eq_true h, beq_iff_eq]; omega
    · rw [decide_eq_false h, beq_eq_false_iff_ne]; omega
  by_cases h1 : a = 2147483648
  · right; right; right; left
    subst h1
    exact ⟨rfl, by rw [numOf_small (by decide)]; rfl, rfl⟩
  · by_cases h2 : a % 2147483648 < 2139095040
    · right; right; right; right
      refine ⟨by unfold kindV; rw [if_neg h1, if_pos h2], ?_, h1⟩
      by_cases h3 : a / 8388608 % 256 = 0
      · rw [numOf_small h3, hsg]
        unfold szS atS
        rw [if_pos h3, if_pos h3]
        rfl
      · rw [numOf_norm h3 (by omega), hsg]
        unfold szS atS
        rw [if_neg h3, if_neg h3]
        have e1 : a % 8388608 + 8388608 = 8388608 + a % 8388608 := Nat.add_comm _ _
        have e2 : ((a / 8388608 % 256 + 1 : Nat) : Int) - 151 = ((a / 8388608 % 256 : Nat) : Int) - 150 := by omega
        rw [e1, e2]
    · by_cases h3 : 2139095040 < a % 2147483648
      · left
        refine ⟨by unfold kindV; rw [if_neg h1, if_neg h2, if_pos h3], numOf_nan (by omega) (by omega), h1⟩
      · by_cases h4 : a = 2139095040
        · right; left
          subst h4
          exact ⟨rfl, by rw [numOf_inf (by decide) (by decide)]; rfl, h1⟩
        · right; right; left
          refine ⟨by unfold kindV; rw [if_neg h1, if_neg h2, if_neg h3, if_neg h4], ?_, h1⟩
          rw [numOf_inf (by omega) (by omega), hsg, decide_eq_true (by omega)]
def sgV (s : Bool) (n : Nat) : Int := if s = true then -(n : Int) else n
theorem sgV_abs (s : Bool) (n : Nat) : (sgV s n).natAbs = n := by unfold sgV; split <;> omega
theorem sgV_mul (s : Bool) (n k : Nat) : sgV s (n * k) = sgV s n * (k : Int) := by
  unfold sgV
  split
  · rw [Int.natCast_mul, Int.neg_mul]
  · rw [Int.natCast_mul]
/-- A number that stands for so many units. -/
structure Val (s : Bool) (n : Nat) (e : Int) (z : Int) : Prop where
  lo : -149 ≤ e
  hi : e ≤ 104
  v : sgV s n * ((2 ^ (e + 151).toNat : Nat) : Int) = z
theorem Val.size {s : Bool} {n : Nat} {e z : Int} (h : Val s n e z) : n * 2 ^ (e + 151).toNat = z.natAbs := by
  rw [← h.v, Int.natAbs_mul, sgV_abs, Int.natAbs_natCast]
theorem Val.le {s : Bool} {n : Nat} {e z : Int} (h : Val s n e z) : n ≤ z.natAbs := by
  rw [← h.size]
  exact Nat.le_mul_of_pos_right _ (Nat.two_pow_pos _)
theorem Val.zero {s : Bool} {n : Nat} {e z : Int} (h : Val s n e z) : n = 0 ↔ z = 0 := by
  have h1 := h.size
  have hp := Nat.two_pow_pos (e + 151).toNat
  constructor
  · intro h0
    rw [h0, Nat.zero_mul] at h1
    omega
  · intro h0
    rw [h0] at h1
    rcases Nat.mul_eq_zero.1 h1 with g | g
    · exact g
    · omega
theorem Val.sign {s : Bool} {n : Nat} {e z : Int} (h : Val s n e z) (h0 : z ≠ 0) : s = decide (z < 0) := by
  have hp : (0 : Int) < ((2 ^ (e + 151).toNat : Nat) : Int) := Int.natCast_pos.2 (Nat.two_pow_pos _)
  have hn : n ≠ 0 := fun g => h0 (h.zero.1 g)
  cases s
  · symm
    rw [decide_eq_false_iff_not, ← h.v]
    have : (0 : Int) ≤ sgV false n * ((2 ^ (e + 151).toNat : Nat) : Int) := Int.mul_nonneg (by unfold sgV; simp) (by omega)
    omega
  · symm
    rw [decide_eq_true_iff, ← h.v]
    refine Int.mul_neg_of_neg_of_pos ?_ hp
    unfold sgV
    simp
    omega
theorem Val.small {s : Bool} {n : Nat} {e z : Int} (h : Val s n e z) (hz : 2 * z.natAbs < m64 ^ 5) : small (.fin s n e false) := by
  have h1 := h.le
  have h2 := blen_fits hz
  have h3 : blen n ≤ blen z.natAbs := blen_le (Nat.lt_of_le_of_lt h1 (blen_lt _))
  exact ⟨by omega, by have := h.lo; omega, by have := h.hi; omega⟩
theorem Val.plus {s t : Bool} {n m : Nat} {e f z y : Int} (h : Val s n e z) (g : Val t m f y) : ∃ u k b, plusR (.fin s n e false) (.fin t m f false) = .fin u k b false ∧ Val u k b (z + y) := by
  obtain ⟨b, hb⟩ : ∃ b, b = min e f := ⟨_, rfl⟩
  have h1 := h.lo
  have h2 := h.hi
  have g1 := g.lo
  have g2 := g.hi
  have hx : sgV s (n * 2 ^ (e - b).toNat) * ((2 ^ (b + 151).toNat : Nat) : Int) = z := by
    rw [← h.v, sgV_mul, Int.mul_assoc, ← Int.natCast_mul, ← Nat.pow_add, show (e - b).toNat + (b + 151).toNat = (e + 151).toNat by omega]
  have hy : sgV t (m * 2 ^ (f - b).toNat) * ((2 ^ (b + 151).toNat : Nat) : Int) = y := by
    rw [← g.v, sgV_mul, Int.mul_assoc, ← Int.natCast_mul, ← Nat.pow_add, show (f - b).toNat + (b + 151).toNat = (f + 151).toNat by omega]
  show ∃ u k b', plusFin s t (n * 2 ^ (e - min e f).toNat) (m * 2 ^ (f - min e f).toNat) (min e f) = .fin u k b' false ∧ Val u k b' (z + y)
  rw [← hb]
  generalize n * 2 ^ (e - b).toNat = X at *
  generalize m * 2 ^ (f - b).toNat = Y at *
  have key : ∀ u k, sgV u k = sgV s X + sgV t Y → Val u k b (z + y) := fun u k hk => ⟨by omega, by omega, by rw [hk, Int.add_mul, hx, hy]⟩
  unfold plusFin
  by_cases c1 : s = t
  · rw [if_pos c1]
    refine ⟨_, _, _, rfl, key _ _ ?_⟩
    subst c1
    unfold sgV
    split <;> omega
  · rw [if_neg c1]
    by_cases c2 : X = Y
    · rw [if_pos c2]
      refine ⟨_, _, _, rfl, key _ _ ?_⟩
      subst c2
      cases s <;> cases t <;> simp_all [sgV] <;> omega
    · rw [if_neg c2]
      by_cases c3 : Y < X
      · rw [if_pos c3]
        refine ⟨_, _, _, rfl, key _ _ ?_⟩
        cases s <;> cases t <;> simp_all [sgV] <;> omega
      · rw [if_neg c3]
        refine ⟨_, _, _, rfl, key _ _ ?_⟩
        cases s <;> cases t <;> simp_all [sgV] <;> omega
theorem Val.sample {a : Nat} (ha : a < 4294967296) (hf : a / 8388608 % 256 < 255) : Val (decide (2147483648 ≤ a)) (szS a) ((atS a : Int) - 151) (unZ a) := by
  have h1 : 2 ≤ atS a ∧ atS a ≤ 255 := by unfold atS; split <;> omega
  refine ⟨by omega, by omega, ?_⟩
  rw [show ((atS a : Int) - 151 + 151).toNat = atS a by omega]
  unfold unZ sgV
  by_cases h : a < 2147483648
  · rw [if_pos h, decide_eq_false (by omega), if_neg (by decide), Int.natCast_mul]
  · rw [if_neg h, decide_eq_true (by omega), if_pos rfl, Int.natCast_mul, Int.neg_mul]
theorem Val.start : Val false 0 0 0 := ⟨by omega, by omega, by unfold sgV; simp⟩
/-- A number, rounded, is the units' sample. -/
theorem Val.told {s : Bool} {n : Nat} {e z : Int} (h : Val s n e z) (h0 : z ≠ 0) : roundR (.fin s n e false) = exV z 1 := by
  have h1 : roundR (.fin s n e false) = Ieee.single.word s (rungOf Ieee.single n e) := by
    show Ieee.single.word s (rungOf Ieee.single (2 * n + 0) (e - 1)) = _
    rw [Nat.add_zero, Nat.mul_comm, show n * 2 = n * 2 ^ 1 by omega, rung_scale]
    congr 2
    omega
  rw [h1]
  unfold exV
  rw [h.sign h0]
  congr 1
  unfold exR
  have hz : sqV z.natAbs 1 0 = z.natAbs * 2 ^ 1 := by
    rw [sqV_zero, Nat.div_one, Nat.mod_one, if_pos rfl]; omega
  rw [hz, rung_scale, ← h.size, rung_scale]
  congr 1
  have := h.lo
  omega
end Go.Proofs.YtieojgblamkgoaaGreatDoor
/- The document's exact sums: a number more, in whatever order. -/
namespace Go.Proofs.YtieojgblamkgoaaGreatDoor
open Go.RowKit
set_option linter.unusedVariables false
set_option linter.unusedSimpArgs false

theorem run_fld0 {ρ : Operand → Value} {x : World} {d : Option Tmp} {ty : TypeId} {ps : String} {af : Array Edge} {g : Option (Nat × Bool)} {j V : Nat} (h : ρ (.tmp j) = ptrV V) : (execOp ρ { dst := d, op := .fieldAddr 140 (.tmp j) 0, type := ty, pos := ps, after := af, guard := g }).run Tryz.prog x = .ok (.value (ptrV V)) x := by
  simp [execOp, h, go_sem, ptrV]
def numS (R : RNum) : Spec := ⟨fun v x => NumAt x v R, fun h q => q.num h⟩
def oP9_0 : Oper := { dst := some 89, op := .move (.tmp 0), type := 123, pos := "halideref3.go:100", after := #[], guard := none }
def oP9_1 : Oper := { dst := some 90, op := .move (.tmp 0), type := 123, pos := "halideref3.go:100", after := #[], guard := none }
def oP9_2 : Oper := { dst := some 91, op := .nilCheck (.tmp 90), type := 0, pos := "halideref3.go:100", after := #[⟨1, .data⟩], guard := none }
def oP9_3 : Oper := { dst := some 92, op := .fieldAddr 140 (.tmp 91) 0, type := 0, pos := "halideref3.go:100", after := #[⟨2, .data⟩], guard := none }
def oP9_4 : Oper := { dst := some 93, op := .load 138 (.tmp 92), type := 138, pos := "halideref3.go:100", after := #[⟨3, .data⟩], guard := none }
def oP9_5 : Oper := { dst := some 94, op := .load 138 (.tmp 4), type := 138, pos := "halideref3.go:100", after := #[], guard := none }
def oP9_6 : Oper := { dst := some 95, op := .call { callee := .value (.func 112), args := #[.tmp 93, .tmp 94], argTypes := #[138, 138] }, type := 138, pos := "halideref3.go:100", after := #[⟨4, .data⟩, ⟨5, .data⟩], guard := none }
def oP9_7 : Oper := { dst := some 96, op := .nilCheck (.tmp 89), type := 0, pos := "halideref3.go:100", after := #[⟨0, .data⟩, ⟨0, .phase⟩, ⟨1, .phase⟩, ⟨2, .phase⟩, ⟨3, .phase⟩, ⟨4, .phase⟩, ⟨5, .phase⟩, ⟨6, .phase⟩], guard := none }
def oP9_8 : Oper := { dst := some 97, op := .fieldAddr 140 (.tmp 96) 0, type := 0, pos := "halideref3.go:100", after := #[⟨7, .data⟩, ⟨0, .phase⟩, ⟨1, .phase⟩, ⟨2, .phase⟩, ⟨3, .phase⟩, ⟨4, .phase⟩, ⟨5, .phase⟩, ⟨6, .phase⟩], guard := none }
def oP9_9 : Oper := { dst := none, op := .store 138 (.tmp 97) (.tmp 95), type := 0, pos := "halideref3.go:100", after := #[⟨8, .data⟩, ⟨6, .data⟩, ⟨6, .chain⟩, ⟨0, .phase⟩, ⟨1, .phase⟩, ⟨2, .phase⟩, ⟨3, .phase⟩, ⟨4, .phase⟩, ⟨5, .phase⟩, ⟨6, .phase⟩], guard := none }
def opsP9 : List Oper := [oP9_0, oP9_1, oP9_2, oP9_3, oP9_4, oP9_5, oP9_6, oP9_7, oP9_8, oP9_9]
def sP9 : List Nat := [89, 90, 91, 92, 93, 94, 95, 96, 97]
def spP9 (B X : Nat) (k : Int) (s : Bool) (p : Option Addr) (Ln C : Nat) (e : Int) (m : Bool) (k2 : Int) (s2 : Bool) (p2 : Option Addr) (L2 C2 : Nat) (e2 : Int) (m2 : Bool) (R1 R2 : RNum) : List Spec := [spV (ptrV B), spV (ptrV B), spV (ptrV B), spV (ptrV B), spV (num5 k s p Ln C e m), spV (num5 k2 s2 p2 L2 C2 e2 m2), numS (plusR R1 R2), spV (ptrV B), spV (ptrV B)]
structure EnvP9 (a0 : Act) (w : World) (B X : Nat) (k : Int) (s : Bool) (p : Option Addr) (Ln C : Nat) (e : Int) (m : Bool) (k2 : Int) (s2 : Bool) (p2 : Option Addr) (L2 C2 : Nat) (e2 : Int) (m2 : Bool) (R1 R2 : RNum) : Prop where
  h0 : a0.tmps[0]? = some (ptrV B)
  h4 : a0.tmps[4]? = some (ptrV X)
  b : Box5 w B k s p Ln C e m
  x : Box5 w X k2 s2 p2 L2 C2 e2 m2
  n1 : NumAt w (num5 k s p Ln C e m) R1
  n2 : NumAt w (num5 k2 s2 p2 L2 C2 e2 m2) R2
  s1 : small R1
  s2 : small R2
  z : ∀ j, w.frozen? ⟨B, j, none⟩ = false
theorem yP9_0 {a0 : Act} {w : World} {B X : Nat} {k : Int} {s : Bool} {p : Option Addr} {Ln C : Nat} {e : Int} {m : Bool} {k2 : Int} {s2 : Bool} {p2 : Option Addr} {L2 C2 : Nat} {e2 : Int} {m2 : Bool} {R1 R2 : RNum} (E : EnvP9 a0 w B X k s p Ln C e m k2 s2 p2 L2 C2 e2 m2 R1 R2) {R : Exit → Act → World → Prop} {a : Act} {x : World} (q : Q w x) (oth : ∀ j, j ∉ sP9 → a.tmps[j]? = a0.tmps[j]?) (dep : ∀ ed ∈ oP9_0.after, Region.binds .any ed = true → ∀ t', sP9[ed.on]? = some t' → ∃ v, a.tmps[t']? = some v ∧ specAt (spP9 B X k s p Ln C e m k2 s2 p2 L2 C2 e2 m2 R1 R2) ed.on v x) : Yld Tryz.prog R oP9_0 a x 89 (fun v x' => specAt (spP9 B X k s p Ln C e m k2 s2 p2 L2 C2 e2 m2 R1 R2) 0 v x' ∧ (0 ∈ ([] : List Nat) → v = ptrV x.heap.size)) := by
  exact yld_move ((oth 0 (by decide)).trans E.h0) ⟨rfl, fun h => absurd h (by decide)⟩
theorem yP9_1 {a0 : Act} {w : World} {B X : Nat} {k : Int} {s : Bool} {p : Option Addr} {Ln C : Nat} {e : Int} {m : Bool} {k2 : Int} {s2 : Bool} {p2 : Option Addr} {L2 C2 : Nat} {e2 : Int} {m2 : Bool} {R1 R2 : RNum} (E : EnvP9 a0 w B X k s p Ln C e m k2 s2 p2 L2 C2 e2 m2 R1 R2) {R : Exit → Act → World → Prop} {a : Act} {x : World} (q : Q w x) (oth : ∀ j, j ∉ sP9 → a.tmps[j]? = a0.tmps[j]?) (dep : ∀ ed ∈ oP9_1.after, Region.binds .any ed = true → ∀ t', sP9[ed.on]? = some t' → ∃ v, a.tmps[t']? = some v ∧ specAt (spP9 B X k s p Ln C e m k2 s2 p2 L2 C2 e2 m2 R1 R2) ed.on v x) : Yld Tryz.prog R oP9_1 a x 90 (fun v x' => specAt (spP9 B X k s p Ln C e m k2 s2 p2 L2 C2 e2 m2 R1 R2) 1 v x' ∧ (1 ∈ ([] : List Nat) → v = ptrV x.heap.size)) := by
  exact yld_move ((oth 0 (by decide)).trans E.h0) ⟨rfl, fun h => absurd h (by decide)⟩
theorem yP9_2 {a0 : Act} {w : World} {B X : Nat} {k : Int} {s : Bool} {p : Option Addr} {Ln C : Nat} {e : Int} {m : Bool} {k2 : Int} {s2 : Bool} {p2 : Option Addr} {L2 C2 : Nat} {e2 : Int} {m2 : Bool} {R1 R2 : RNum} (E : EnvP9 a0 w B X k s p Ln C e m k2 s2 p2 L2 C2 e2 m2 R1 R2) {R : Exit → Act → World → Prop} {a : Act} {x : World} (q : Q w x) (oth : ∀ j, j ∉ sP9 → a.tmps[j]? = a0.tmps[j]?) (dep : ∀ ed ∈ oP9_2.after, Region.binds .any ed = true → ∀ t', sP9[ed.on]? = some t' → ∃ v, a.tmps[t']? = some v ∧ specAt (spP9 B X k s p Ln C e m k2 s2 p2 L2 C2 e2 m2 R1 R2) ed.on v x) : Yld Tryz.prog R oP9_2 a x 91 (fun v x' => specAt (spP9 B X k s p Ln C e m k2 s2 p2 L2 C2 e2 m2 R1 R2) 2 v x' ∧ (2 ∈ ([] : List Nat) → v = ptrV x.heap.size)) := by
  obtain ⟨v1, t1, f1⟩ := dep ⟨1, .data⟩ (by simp [oP9_2]) rfl 90 rfl
  have f1 : v1 = (ptrV B) := f1
  subst f1
  exact yld_run (x' := x) rfl (run_nck (tmp_eval t1)) (Q.refl x) ⟨rfl, fun h => absurd h (by decide)⟩
theorem yP9_3 {a0 : Act} {w : World} {B X : Nat} {k : Int} {s : Bool} {p : Option Addr} {Ln C : Nat} {e : Int} {m : Bool} {k2 : Int} {s2 : Bool} {p2 : Option Addr} {L2 C2 : Nat} {e2 : Int} {m2 : Bool} {R1 R2 : RNum} (E : EnvP9 a0 w B X k s p Ln C e m k2 s2 p2 L2 C2 e2 m2 R1 R2) {R : Exit → Act → World → Prop} {a : Act} {x : World} (q : Q w x) (oth : ∀ j, j ∉ sP9 → a.tmps[j]? = a0.tmps[j]?) (dep : ∀ ed ∈ oP9_3.after, Region.binds .any ed = true → ∀ t', sP9[ed.on]? = some t' → ∃ v, a.tmps[t']? = some v ∧ specAt (spP9 B X k s p Ln C e m k2 s2 p2 L2 C2 e2 m2 R1 R2) ed.on v x) : Yld Tryz.prog R oP9_3 a x 92 (fun v x' => specAt (spP9 B X k s p Ln C e m k2 s2 p2 L2 C2 e2 m2 R1 R2) 3 v x' ∧ (3 ∈ ([] : List Nat) → v = ptrV x.heap.size)) := by
  obtain ⟨v2, t2, f2⟩ := dep ⟨2, .data⟩ (by simp [oP9_3]) rfl 91 rfl
  have f2 : v2 = (ptrV B) := f2
  subst f2
  exact yld_run (x' := x) rfl (run_fld0 (tmp_eval t2)) (Q.refl x) ⟨rfl, fun h => absurd h (by decide)⟩
theorem yP9_4 {a0 : Act} {w : World} {B X : Nat} {k : Int} {s : Bool} {p : Option Addr} {Ln C : Nat} {e : Int} {m : Bool} {k2 : Int} {s2 : Bool} {p2 : Option Addr} {L2 C2 : Nat} {e2 : Int} {m2 : Bool} {R1 R2 : RNum} (E : EnvP9 a0 w B X k s p Ln C e m k2 s2 p2 L2 C2 e2 m2 R1 R2) {R : Exit → Act → World → Prop} {a : Act} {x : World} (q : Q w x) (oth : ∀ j, j ∉ sP9 → a.tmps[j]? = a0.tmps[j]?) (dep : ∀ ed ∈ oP9_4.after, Region.binds .any ed = true → ∀ t', sP9[ed.on]? = some t' → ∃ v, a.tmps[t']? = some v ∧ specAt (spP9 B X k s p Ln C e m k2 s2 p2 L2 C2 e2 m2 R1 R2) ed.on v x) : Yld Tryz.prog R oP9_4 a x 93 (fun v x' => specAt (spP9 B X k s p Ln C e m k2 s2 p2 L2 C2 e2 m2 R1 R2) 4 v x' ∧ (4 ∈ ([] : List Nat) → v = ptrV x.heap.size)) := by
  obtain ⟨v3, t3, f3⟩ := dep ⟨3, .data⟩ (by simp [oP9_4]) rfl 92 rfl
  have f3 : v3 = (ptrV B) := f3
  subst f3
  exact yld_run (x' := x) rfl (run_num (tmp_eval t3) (E.b.next q)) (Q.refl x) ⟨rfl, fun h => absurd h (by decide)⟩
theorem yP9_5 {a0 : Act} {w : World} {B X : Nat} {k : Int} {s : Bool} {p : Option Addr} {Ln C : Nat} {e : Int} {m : Bool} {k2 : Int} {s2 : Bool} {p2 : Option Addr} {L2 C2 : Nat} {e2 : Int} {m2 : Bool} {R1 R2 : RNum} (E : EnvP9 a0 w B X k s p Ln C e m k2 s2 p2 L2 C2 e2 m2 R1 R2) {R : Exit → Act → World → Prop} {a : Act} {x : World} (q : Q w x) (oth : ∀ j, j ∉ sP9 → a.tmps[j]? = a0.tmps[j]?) (dep : ∀ ed ∈ oP9_5.after, Region.binds .any ed = true → ∀ t', sP9[ed.on]? = some t' → ∃ v, a.tmps[t']? = some v ∧ specAt (spP9 B X k s p Ln C e m k2 s2 p2 L2 C2 e2 m2 R1 R2) ed.on v x) : Yld Tryz.prog R oP9_5 a x 94 (fun v x' => specAt (spP9 B X k s p Ln C e m k2 s2 p2 L2 C2 e2 m2 R1 R2) 5 v x' ∧ (5 ∈ ([] : List Nat) → v = ptrV x.heap.size)) := by
  exact yld_run (x' := x) rfl (run_num (tmp_eval ((oth 4 (by decide)).trans E.h4)) (E.x.next q)) (Q.refl x) ⟨rfl, fun h => absurd h (by decide)⟩
theorem yP9_6 {a0 : Act} {w : World} {B X : Nat} {k : Int} {s : Bool} {p : Option Addr} {Ln C : Nat} {e : Int} {m : Bool} {k2 : Int} {s2 : Bool} {p2 : Option Addr} {L2 C2 : Nat} {e2 : Int} {m2 : Bool} {R1 R2 : RNum} (E : EnvP9 a0 w B X k s p Ln C e m k2 s2 p2 L2 C2 e2 m2 R1 R2) {R : Exit → Act → World → Prop} {a : Act} {x : World} (q : Q w x) (oth : ∀ j, j ∉ sP9 → a.tmps[j]? = a0.tmps[j]?) (dep : ∀ ed ∈ oP9_6.after, Region.binds .any ed = true → ∀ t', sP9[ed.on]? = some t' → ∃ v, a.tmps[t']? = some v ∧ specAt (spP9 B X k s p Ln C e m k2 s2 p2 L2 C2 e2 m2 R1 R2) ed.on v x) : Yld Tryz.prog R oP9_6 a x 95 (fun v x' => specAt (spP9 B X k s p Ln C e m k2 s2 p2 L2 C2 e2 m2 R1 R2) 6 v x' ∧ (6 ∈ ([] : List Nat) → v = ptrV x.heap.size)) := by
  obtain ⟨v4, t4, f4⟩ := dep ⟨4, .data⟩ (by simp [oP9_6]) rfl 93 rfl
  have f4 : v4 = (num5 k s p Ln C e m) := f4
  subst f4
  obtain ⟨v5, t5, f5⟩ := dep ⟨5, .data⟩ (by simp [oP9_6]) rfl 94 rfl
  have f5 : v5 = (num5 k2 s2 p2 L2 C2 e2 m2) := f5
  subst f5
  refine yld_call (enters_of Tryz.func112 (by kernel_rfl) rfl) (args2 t4 t5) ((plusnum_any _ _ R1 R2 x (q.num E.n1) (q.num E.n2) E.s1 E.s2).mono ?_)
  rintro y x' ⟨v, rfl, h, q'⟩
  exact ⟨v, rfl, q', h, fun h => absurd h (by decide)⟩
theorem yP9_7 {a0 : Act} {w : World} {B X : Nat} {k : Int} {s : Bool} {p : Option Addr} {Ln C : Nat} {e : Int} {m : Bool} {k2 : Int} {s2 : Bool} {p2 : Option Addr} {L2 C2 : Nat} {e2 : Int} {m2 : Bool} {R1 R2 : RNum} (E : EnvP9 a0 w B X k s p Ln C e m k2 s2 p2 L2 C2 e2 m2 R1 R2) {R : Exit → Act → World → Prop} {a : Act} {x : World} (q : Q w x) (oth : ∀ j, j ∉ sP9 → a.tmps[j]? = a0.tmps[j]?) (dep : ∀ ed ∈ oP9_7.after, Region.binds .any ed = true → ∀ t', sP9[ed.on]? = some t' → ∃ v, a.tmps[t']? = some v ∧ specAt (spP9 B X k s p Ln C e m k2 s2 p2 L2 C2 e2 m2 R1 R2) ed.on v x) : Yld Tryz.prog R oP9_7 a x 96 (fun v x' => specAt (spP9 B X k s p Ln C e m k2 s2 p2 L2 C2 e2 m2 R1 R2) 7 v x' ∧ (7 ∈ ([] : List Nat) → v = ptrV x.heap.size)) := by
  obtain ⟨v0, t0, f0⟩ := dep ⟨0, .data⟩ (by simp [oP9_7]) rfl 89 rfl
  have f0 : v0 = (ptrV B) := f0
  subst f0
  exact yld_run (x' := x) rfl (run_nck (tmp_eval t0)) (Q.refl x) ⟨rfl, fun h => absurd h (by decide)⟩
theorem yP9_8 {a0 : Act} {w : World} {B X : Nat} {k : Int} {s : Bool} {p : Option Addr} {Ln C : Nat} {e : Int} {m : Bool} {k2 : Int} {s2 : Bool} {p2 : Option Addr} {L2 C2 : Nat} {e2 : Int} {m2 : Bool} {R1 R2 : RNum} (E : EnvP9 a0 w B X k s p Ln C e m k2 s2 p2 L2 C2 e2 m2 R1 R2) {R : Exit → Act → World → Prop} {a : Act} {x : World} (q : Q w x) (oth : ∀ j, j ∉ sP9 → a.tmps[j]? = a0.tmps[j]?) (dep : ∀ ed ∈ oP9_8.after, Region.binds .any ed = true → ∀ t', sP9[ed.on]? = some t' → ∃ v, a.tmps[t']? = some v ∧ specAt (spP9 B X k s p Ln C e m k2 s2 p2 L2 C2 e2 m2 R1 R2) ed.on v x) : Yld Tryz.prog R oP9_8 a x 97 (fun v x' => specAt (spP9 B X k s p Ln C e m k2 s2 p2 L2 C2 e2 m2 R1 R2) 8 v x' ∧ (8 ∈ ([] : List Nat) → v = ptrV x.heap.size)) := by
  obtain ⟨v7, t7, f7⟩ := dep ⟨7, .data⟩ (by simp [oP9_8]) rfl 96 rfl
  have f7 : v7 = (ptrV B) := f7
  subst f7
  exact yld_run (x' := x) rfl (run_fld0 (tmp_eval t7)) (Q.refl x) ⟨rfl, fun h => absurd h (by decide)⟩
theorem hopP9 {a0 : Act} {w : World} {B X : Nat} {k : Int} {s : Bool} {p : Option Addr} {Ln C : Nat} {e : Int} {m : Bool} {k2 : Int} {s2 : Bool} {p2 : Option Addr} {L2 C2 : Nat} {e2 : Int} {m2 : Bool} {R1 R2 : RNum} (E : EnvP9 a0 w B X k s p Ln C e m k2 s2 p2 L2 C2 e2 m2 R1 R2) {R : Exit → Act → World → Prop} : ∀ (i t : Nat) (o : Oper) (a : Act) (x : World), i < 9 → sP9[i]? = some t → opsP9[i]? = some o → Q w x → (∀ j, j ∉ sP9 → a.tmps[j]? = a0.tmps[j]?) → (∀ ed ∈ o.after, Region.binds .any ed = true → ∀ t', sP9[ed.on]? = some t' → ∃ v, a.tmps[t']? = some v ∧ specAt (spP9 B X k s p Ln C e m k2 s2 p2 L2 C2 e2 m2 R1 R2) ed.on v x) → Yld Tryz.prog R o a x t (fun v x' => specAt (spP9 B X k s p Ln C e m k2 s2 p2 L2 C2 e2 m2 R1 R2) i v x' ∧ (i ∈ ([] : List Nat) → v = ptrV x.heap.size))
  | 0, t, o, a, x, hi, ht, ho, q, oth, dep => by
    have e1 : oP9_0 = o := Option.some.inj ho
    have e2 : 89 = t := Option.some.inj ht
    subst e1 e2
    exact yP9_0 E q oth dep
  | 1, t, o, a, x, hi, ht, ho, q, oth, dep => by
    have e1 : oP9_1 = o := Option.some.inj ho
    have e2 : 90 = t := Option.some.inj ht
    subst e1 e2
    exact yP9_1 E q oth dep
  | 2, t, o, a, x, hi, ht, ho, q, oth, dep => by
    have e1 : oP9_2 = o := Option.some.inj ho
    have e2 : 91 = t := Option.some.inj ht
    subst e1 e2
    exact yP9_2 E q oth dep
  | 3, t, o, a, x, hi, ht, ho, q, oth, dep => by
    have e1 : oP9_3 = o := Option.some.inj ho
    have e2 : 92 = t := Option.some.inj ht
    subst e1 e2
    exact yP9_3 E q oth dep
  | 4, t, o, a, x, hi, ht, ho, q, oth, dep => by
    have e1 : oP9_4 = o := Option.some.inj ho
    have e2 : 93 = t := Option.some.inj ht
    subst e1 e2
    exact yP9_4 E q oth dep
  | 5, t, o, a, x, hi, ht, ho, q, oth, dep => by
    have e1 : oP9_5 = o := Option.some.inj ho
    have e2 : 94 = t := Option.some.inj ht
    subst e1 e2
    exact yP9_5 E q oth dep
  | 6, t, o, a, x, hi, ht, ho, q, oth, dep => by
    have e1 : oP9_6 = o := Option.some.inj ho
    have e2 : 95 = t := Option.some.inj ht
    subst e1 e2
    exact yP9_6 E q oth dep
  | 7, t, o, a, x, hi, ht, ho, q, oth, dep => by
    have e1 : oP9_7 = o := Option.some.inj ho
    have e2 : 96 = t := Option.some.inj ht
    subst e1 e2
    exact yP9_7 E q oth dep
  | 8, t, o, a, x, hi, ht, ho, q, oth, dep => by
    have e1 : oP9_8 = o := Option.some.inj ho
    have e2 : 97 = t := Option.some.inj ht
    subst e1 e2
    exact yP9_8 E q oth dep
  | i + 9, t, o, a, x, hi, ht, ho, q, oth, dep => absurd hi (by omega)
theorem regionP9 {id : Nat} {l : List Oper} {R : Exit → Act → World → Prop} {a0 : Act} {w : World} {B X : Nat} {k : Int} {s : Bool} {p : Option Addr} {Ln C : Nat} {e : Int} {m : Bool} {k2 : Int} {s2 : Bool} {p2 : Option Addr} {L2 C2 : Nat} {e2 : Int} {m2 : Bool} {R1 R2 : RNum} (hl : l = opsP9) (hsz : a0.tmps.size = 98) (E : EnvP9 a0 w B X k s p Ln C e m k2 s2 p2 L2 C2 e2 m2 R1 R2)
    (hR : ∀ a x k' s' p' L' C' e' m', Q w x → a.defers = a0.defers → NumAt x (num5 k' s' p' L' C' e' m') (plusR R1 R2) → R .normal a (((((x.setCell ⟨B, 0, none⟩ (.int .i64 k')).setCell ⟨B, 1, none⟩ (.bool s')).setCell ⟨B, 2, none⟩ (.slice p' L' C')).setCell ⟨B, 3, none⟩ (.int .i64 e')).setCell ⟨B, 4, none⟩ (.bool m'))) :
    (Code.region id l.toArray true).wp Tryz.prog R a0 w := by
  subst hl
  refine wp_region_facts 9 sP9 (specAt (spP9 B X k s p Ln C e m k2 s2 p2 L2 C2 e2 m2 R1 R2)) [] (by kernel_rfl) (by decide +kernel) (by decide) rfl (by decide) (fun t ht => ?_) specAt.next (fun i v x hi hf => by cases hi) (hopP9 E) (fun a x q size defers other facts apart => ?_)
  · rw [hsz]
    revert t
    decide
  · obtain ⟨v95, t95, f95⟩ := facts 6 95 (by decide) rfl
    obtain ⟨v97, t97, f97⟩ := facts 8 97 (by decide) rfl
    have f97 : v97 = ptrV B := f97
    subst f97
    have f95 : NumAt x v95 (plusR R1 R2) := f95
    obtain ⟨k', s', p', L', C', e', m', rfl⟩ := f95.made
    refine ⟨?_⟩
    show Oper.wp Tryz.prog oP9_9 a x (fun a' x' => R .normal a' x') R
    refine store_num t97 t95 (E.b.next q) (fun j => by rw [q.2]; exact E.z j) (fun x1 _ h1 => ?_)
    rw [h1]
    exact hR a x k' s' p' L' C' e' m' q defers f95
end Go.Proofs.YtieojgblamkgoaaGreatDoor
/- The document's exact sums: one sample more. -/
namespace Go.Proofs.YtieojgblamkgoaaGreatDoor
open Go.RowKit
set_option linter.unusedVariables false
set_option linter.unusedSimpArgs false

def fl6 (m : Nat) : Bool := decide (16 ≤ m)
def fl7 (m : Nat) : Bool := decide (m / 4 % 2 = 1)
def fl8 (m : Nat) : Bool := decide (m / 8 % 2 = 1)
def fl9 (m : Nat) : Bool := decide (2 ≤ m)
theorem fl_upd : ∀ m, m < 32 → ∀ k ∈ [1, 2, 4, 8, 16], fl6 (m ||| k) = (fl6 m || decide (k = 16)) ∧ fl7 (m ||| k) = (fl7 m || decide (k = 4)) ∧ fl8 (m ||| k) = (fl8 m || decide (k = 8)) ∧ fl9 (m ||| k) = (fl9 m || decide (k ≠ 1)) := by decide +kernel
/-- The document's sum of a list, in its block: all but the number itself. -/
structure SFl (w : World) (B : Nat) (l : List Nat) (k : Int) (s : Bool) (p : Option Addr) (L C : Nat) (e : Int) (m : Bool) : Prop where
  b : Box5 w B k s p L C e m
  n : w.cell? ⟨B, 5, none⟩ = some (.int .i64 (l.length : Nat))
  c6 : w.cell? ⟨B, 6, none⟩ = some (.bool (fl6 (metV l)))
  c7 : w.cell? ⟨B, 7, none⟩ = some (.bool (fl7 (metV l)))
  c8 : w.cell? ⟨B, 8, none⟩ = some (.bool (fl8 (metV l)))
  c9 : w.cell? ⟨B, 9, none⟩ = some (.bool (fl9 (metV l)))
  z : ∀ j, w.frozen? ⟨B, j, none⟩ = false
  h : B < w.heap.size
theorem SFl.next {w w' : World} {B : Nat} {l : List Nat} {k : Int} {s : Bool} {p : Option Addr} {L C : Nat} {e : Int} {m : Bool} (h : SFl w B l k s p L C e m) (q : Q w w') : SFl w' B l k s p L C e m :=
  ⟨h.b.next q, q.cell h.n, q.cell h.c6, q.cell h.c7, q.cell h.c8, q.cell h.c9, fun j => by rw [q.2]; exact h.z j, Nat.lt_of_lt_of_le h.h q.1.size⟩
/-- The number of a sum. -/
def SNm (w : World) (l : List Nat) (k : Int) (s : Bool) (p : Option Addr) (L C : Nat) (e : Int) (m : Bool) : Prop := ∃ n, NumAt w (num5 k s p L C e m) (.fin s n e false) ∧ Val s n e (sumZ l)
theorem SNm.next {w w' : World} {l : List Nat} {k : Int} {s : Bool} {p : Option Addr} {L C : Nat} {e : Int} {m : Bool} (h : SNm w l k s p L C e m) (q : Q w w') : SNm w' l k s p L C e m := by
  obtain ⟨n, h1, h2⟩ := h
  exact ⟨n, q.num h1, h2⟩
def SAt (w : World) (B : Nat) (l : List Nat) : Prop := ∃ k s p L C e m, SFl w B l k s p L C e m ∧ (l ≠ [] → SNm w l k s p L C e m)
theorem SAt.next {w w' : World} {B : Nat} {l : List Nat} (h : SAt w B l) (q : Q w w') : SAt w' B l := by
  obtain ⟨k, s, p, L, C, e, m, h1, h2⟩ := h
  exact ⟨k, s, p, L, C, e, m, h1.next q, fun g => (h2 g).next q⟩
/-- Five cells written, behind the number. -/
def putS (y : World) (B : Nat) (n : Int) (x6 x7 x8 x9 : Bool) : World := ((((y.setCell ⟨B, 5, none⟩ (.int .i64 n)).setCell ⟨B, 6, none⟩ (.bool x6)).setCell ⟨B, 7, none⟩ (.bool x7)).setCell ⟨B, 8, none⟩ (.bool x8)).setCell ⟨B, 9, none⟩ (.bool x9)
theorem putS_far {y : World} {B : Nat} {n : Int} {x6 x7 x8 x9 : Bool} {q : Addr} (h : q.block ≠ B ∨ q.off < 5) : (putS y B n x6 x7 x8 x9).cell? q = y.cell? q := by
  unfold putS
  have hn : ∀ j, 5 ≤ j → (⟨B, j, none⟩ : Addr) ≠ q := fun j hj e => by
    subst e
    rcases h with h | h
    · exact h rfl
    · have : j < 5 := h
      omega
  rw [World.cell?_setCell_other _ _ _ _ (hn _ (by decide)), World.cell?_setCell_other _ _ _ _ (hn _ (by decide)), World.cell?_setCell_other _ _ _ _ (hn _ (by decide)), World.cell?_setCell_other _ _ _ _ (hn _ (by decide)), World.cell?_setCell_other _ _ _ _ (hn _ (by decide))]
theorem putS_fb {y : World} {B : Nat} {n : Int} {x6 x7 x8 x9 : Bool} : Fb B y (putS y B n x6 x7 x8 x9) := (((((Fb.refl B y).set rfl _).set rfl _).set rfl _).set rfl _).set rfl _
theorem SFl.put {y : World} {B : Nat} {l l' : List Nat} {k : Int} {s : Bool} {p : Option Addr} {L C : Nat} {e : Int} {m : Bool} (h : SFl y B l k s p L C e m) {n : Int} {x6 x7 x8 x9 : Bool} (hn : n = (l'.length : Nat)) (h6 : x6 = fl6 (metV l')) (h7 : x7 = fl7 (metV l')) (h8 : x8 = fl8 (metV l')) (h9 : x9 = fl9 (metV l')) : SFl (putS y B n x6 x7 x8 x9) B l' k s p L C e m := by
  have d5 := h.n
  have d6 := h.c6
  have d7 := h.c7
  have d8 := h.c8
  have d9 := h.c9
  subst hn h6 h7 h8 h9
  refine ⟨⟨?_, ?_, ?_, ?_, ?_⟩, ?_, ?_, ?_, ?_, ?_, fun j => ?_, ?_⟩
  · rw [putS_far (Or.inr (by simp))]; exact h.b.c0
  · rw [putS_far (Or.inr (by simp))]; exact h.b.c1
  · rw [putS_far (Or.inr (by simp))]; exact h.b.c2
  · rw [putS_far (Or.inr (by simp))]; exact h.b.c3
  · rw [putS_far (Or.inr (by simp))]; exact h.b.c4
  · unfold putS; simp [go_sem, d5, d6, d7, d8, d9]
  · unfold putS; simp [go_sem, d5, d6, d7, d8, d9]
  · unfold putS; simp [go_sem, d5, d6, d7, d8, d9]
  · unfold putS; simp [go_sem, d5, d6, d7, d8, d9]
  · unfold putS; simp [go_sem, d5, d6, d7, d8, d9]
  · rw [putS_fb.frz]; exact h.z j
  · exact Nat.lt_of_lt_of_le h.h putS_fb.size
theorem SNm.put {y : World} {B : Nat} {l : List Nat} {k : Int} {s : Bool} {p : Option Addr} {L C : Nat} {e : Int} {m : Bool} (h : SNm y l k s p L C e m) (hb : y.cell? ⟨B, 0, none⟩ = some (.int .i64 k)) {l' : List Nat} (hl : sumZ l' = sumZ l) {n : Int} {x6 x7 x8 x9 : Bool} : SNm (putS y B n x6 x7 x8 x9) l' k s p L C e m := by
  obtain ⟨n, h1, h2⟩ := h
  exact ⟨n, numAt_but h1 hb (fun a ha => putS_far (Or.inl ha)), by rw [hl]; exact h2⟩
/-- A number written over the sum's. -/
def put0 (y : World) (B : Nat) (k : Int) (s : Bool) (p : Option Addr) (L C : Nat) (e : Int) (m : Bool) : World := ((((y.setCell ⟨B, 0, none⟩ (.int .i64 k)).setCell ⟨B, 1, none⟩ (.bool s)).setCell ⟨B, 2, none⟩ (.slice p L C)).setCell ⟨B, 3, none⟩ (.int .i64 e)).setCell ⟨B, 4, none⟩ (.bool m)
theorem put0_far {y : World} {B : Nat} {k : Int} {s : Bool} {p : Option Addr} {L C : Nat} {e : Int} {m : Bool} {q : Addr} (h : q.block ≠ B ∨ 5 ≤ q.off) : (put0 y B k s p L C e m).cell? q = y.cell? q := by
  unfold put0
  have hn : ∀ j, j < 5 → (⟨B, j, none⟩ : Addr) ≠ q := fun j hj e => by
    subst e
    rcases h with h | h
    · exact h rfl
    · have : 5 ≤ j := h
      omega
  rw [World.cell?_setCell_other _ _ _ _ (hn _ (by decide)), World.cell?_setCell_other _ _ _ _ (hn _ (by decide)), World.cell?_setCell_other _ _ _ _ (hn _ (by decide)), World.cell?_setCell_other _ _ _ _ (hn _ (by decide)), World.cell?_setCell_other _ _ _ _ (hn _ (by decide))]
theorem put0_fb {y : World} {B : Nat} {k : Int} {s : Bool} {p : Option Addr} {L C : Nat} {e : Int} {m : Bool} : Fb B y (put0 y B k s p L C e m) := (((((Fb.refl B y).set rfl _).set rfl _).set rfl _).set rfl _).set rfl _
theorem put0_box {y : World} {B : Nat} {k : Int} {s : Bool} {p : Option Addr} {L C : Nat} {e : Int} {m : Bool} {k0 : Int} {s0 : Bool} {p0 : Option Addr} {L0 C0 : Nat} {e0 : Int} {m0 : Bool} (h : Box5 y B k0 s0 p0 L0 C0 e0 m0) : Box5 (put0 y B k s p L C e m) B k s p L C e m := by
  obtain ⟨c0, c1, c2, c3, c4⟩ := h
  unfold put0
  exact ⟨by simp [go_sem, c0, c1, c2, c3, c4], by simp [go_sem, c0, c1, c2, c3, c4], by simp [go_sem, c0, c1, c2, c3, c4], by simp [go_sem, c0, c1, c2, c3, c4], by simp [go_sem, c0, c1, c2, c3, c4]⟩
theorem SFl.over {y : World} {B : Nat} {l : List Nat} {k0 : Int} {s0 : Bool} {p0 : Option Addr} {L0 C0 : Nat} {e0 : Int} {m0 : Bool} (h : SFl y B l k0 s0 p0 L0 C0 e0 m0) (k : Int) (s : Bool) (p : Option Addr) (L C : Nat) (e : Int) (m : Bool) : SFl (put0 y B k s p L C e m) B l k s p L C e m :=
  ⟨put0_box h.b, by rw [put0_far (Or.inr (by simp))]; exact h.n, by rw [put0_far (Or.inr (by simp))]; exact h.c6, by rw [put0_far (Or.inr (by simp))]; exact h.c7, by rw [put0_far (Or.inr (by simp))]; exact h.c8, by rw [put0_far (Or.inr (by simp))]; exact h.c9, fun j => by rw [put0_fb.frz]; exact h.z j, Nat.lt_of_lt_of_le h.h put0_fb.size⟩
theorem SNm.over {y : World} {B : Nat} {l : List Nat} {k0 : Int} {s0 : Bool} {p0 : Option Addr} {L0 C0 : Nat} {e0 : Int} {m0 : Bool} (hb : Box5 y B k0 s0 p0 L0 C0 e0 m0) {k : Int} {s : Bool} {p : Option Addr} {L C : Nat} {e : Int} {m : Bool} (h : SNm y l k s p L C e m) : SNm (put0 y B k s p L C e m) l k s p L C e m := by
  obtain ⟨n, h1, h2⟩ := h
  exact ⟨n, numAt_but h1 hb.c0 (fun a ha => put0_far (Or.inl ha)), h2⟩
theorem num_start (w : World) : NumAt w (num5 2 false none 0 0 0 false) (.fin false 0 0 false) := ⟨_, rfl, nat_nil w⟩
theorem zero_q (v : Value) (x : RNum) (w : World) (h : NumAt w v x) : Calls Tryz.prog 98 #[v] w fun e w' => e = .returned (.bool (zeroB x)) ∧ Q w w' := by
  refine (zero_any v x w h).mono ?_
  rintro e x' ⟨rfl, c, rfl⟩
  exact ⟨rfl, (Q.refl w).cells _ _⟩
theorem SAt.over {y : World} {B : Nat} {l : List Nat} {k0 : Int} {s0 : Bool} {p0 : Option Addr} {L0 C0 : Nat} {e0 : Int} {m0 : Bool} (h : SFl y B l k0 s0 p0 L0 C0 e0 m0) {k : Int} {s : Bool} {p : Option Addr} {L C : Nat} {e : Int} {m : Bool} {u : Bool} {kk : Nat} {bb : Int} (hn : NumAt y (num5 k s p L C e m) (.fin u kk bb false)) (hv : Val u kk bb (sumZ l)) : SAt (put0 y B k s p L C e m) B l := by
  have hx := hn
  obtain ⟨nv, he, hnat⟩ := hx
  unfold num5 at he
  simp at he
  obtain ⟨rfl, rfl, rfl, rfl, rfl⟩ := he
  exact ⟨_, _, _, _, _, _, _, h.over _ _ _ _ _ _ _, fun _ => SNm.over h.b ⟨kk, hn, hv⟩⟩
end Go.Proofs.YtieojgblamkgoaaGreatDoor
/- Regions that draw their order, whose last operation waits, at last, for all others (by way of some that it waits for). -/
namespace Go.Proofs.YtieojgblamkgoaaGreatDoor
open Go.RowKit
set_option linter.unusedVariables false

def lastR (pre : List Oper) (st : Oper) : Bool :=
  ((List.range pre.length).all fun k => match pre[k]? with
    | some o => o.guard.isNone && o.after.toList.all fun e => !(Region.binds .any e) || decide (e.on < k)
    | none => true) &&
  ((st.guard.isNone && st.after.toList.all fun e => !(Region.binds .any e) || decide (e.on < pre.length)) && (List.range pre.length).all fun k => (reach pre 3 ((st.after.toList.filter (Region.binds .any)).map (·.on))).contains k)
theorem lastR_pre {pre : List Oper} {st : Oper} (h : lastR pre st = true) {k : Nat} {o : Oper} (hk : pre[k]? = some o) : o.guard = none ∧ ∀ e ∈ o.after, Region.binds .any e = true → e.on < k := by
  unfold lastR at h
  rw [Bool.and_eq_true] at h
  have hlt : k < pre.length := (List.getElem?_eq_some_iff.1 hk).1
  have h1 := List.all_eq_true.1 h.1 k (List.mem_range.2 hlt)
  rw [hk] at h1
  simp only [Bool.and_eq_true] at h1
  refine ⟨by simpa using h1.1, fun e he hb => ?_⟩
  have h2 := List.all_eq_true.1 h1.2 e (by simpa using he)
  rw [hb] at h2
  simpa using h2
theorem lastR_st {pre : List Oper} {st : Oper} (h : lastR pre st = true) : st.guard = none ∧ (∀ k, k < pre.length → k ∈ reach pre 3 ((st.after.toList.filter (Region.binds .any)).map (·.on))) ∧ ∀ e ∈ st.after, Region.binds .any e = true → e.on < pre.length := by
  unfold lastR at h
  simp only [Bool.and_eq_true] at h
  refine ⟨by simpa using h.2.1.1, fun k hk => ?_, fun e he hb => ?_⟩
  · have h1 := List.all_eq_true.1 h.2.2 k (List.mem_range.2 hk)
    simpa using h1
  · have h2 := List.all_eq_true.1 h.2.1.2 e (by simpa using he)
    rw [hb] at h2
    simpa using h2
theorem ready_ltR {pre : List Oper} {st : Oper} (hB : lastR pre st = true) {listed : Array Bool} (hs : listed.size = pre.length) (hc : ∀ (j : Nat) (o : Oper), listed.getD j false = true → pre[j]? = some o → ∀ e ∈ o.after, Region.binds .any e = true → listed.getD e.on false = true) {i : Nat} (hi : i ∈ Region.ready .any (pre ++ [st]).toArray (listed.push false)) :
    (i < pre.length ∧ i ∈ Region.ready .any pre.toArray listed) ∨ (i = pre.length ∧ ∀ k, k < pre.length → listed.getD k false = true) := by
  obtain ⟨h1, o, ho, h2⟩ := mem_ready.1 hi
  rcases Nat.lt_trichotomy i pre.length with h | h | h
  · left
    refine ⟨h, mem_ready.2 ⟨?_, o, ?_, fun e he hb => ?_⟩⟩
    · rw [← push_getD_lt listed true (by omega)]; exact h1
    · rw [← ops_lt (st := st) h]; exact ho
    · have hk : pre[i]? = some o := by rw [ops_lt h] at ho; simpa using ho
      have := (lastR_pre hB hk).2 e he hb
      rw [← push_getD_lt listed false (by omega)]
      exact h2 e he hb
  · right
    refine ⟨h, fun k hk => ?_⟩
    have hst : o = st := by
      rw [h] at ho
      simp at ho
      exact ho.symm
    subst hst
    obtain ⟨g1, g2, g3⟩ := lastR_st hB
    refine deps_got hc (fun e he hb => ?_) k (g2 k hk)
    have := g3 e he hb
    rw [← push_getD_lt listed false (by omega)]
    exact h2 e he hb
  · exfalso
    rw [List.getElem?_toArray, List.getElem?_eq_none (by simp; omega)] at ho
    cases ho
theorem ready_backR {pre : List Oper} {st : Oper} (hB : lastR pre st = true) {listed : Array Bool} (hs : listed.size = pre.length) {i : Nat} (hi : i ∈ Region.ready .any pre.toArray listed) : i ∈ Region.ready .any (pre ++ [st]).toArray (listed.push false) := by
  obtain ⟨h1, o, ho, h2⟩ := mem_ready.1 hi
  have h : i < pre.length := by
    have := (List.getElem?_eq_some_iff.1 (show pre[i]? = some o by simpa using ho)).1
    exact this
  refine mem_ready.2 ⟨?_, o, ?_, fun e he hb => ?_⟩
  · rw [push_getD_lt listed true (by omega)]; exact h1
  · rw [ops_lt h]; exact ho
  · have hk : pre[i]? = some o := by simpa using ho
    have := (lastR_pre hB hk).2 e he hb
    rw [push_getD_lt listed false (by omega)]
    exact h2 e he hb
theorem ready_nilR {pre : List Oper} {st : Oper} (hB : lastR pre st = true) {listed : Array Bool} (hs : listed.size = pre.length) (hr : Region.ready .any pre.toArray listed = []) : ∀ k, k < pre.length → listed.getD k false = true := by
  intro k
  induction k using Nat.strongRecOn with
  | ind k ih =>
    intro hk
    have hk' : k < listed.size := by omega
    cases hl : listed.getD k false with
    | true => rfl
    | false =>
      exfalso
      obtain ⟨o, ho⟩ : ∃ o, pre[k]? = some o := ⟨_, List.getElem?_eq_getElem hk⟩
      have : k ∈ Region.ready .any pre.toArray listed := by
        refine mem_ready.2 ⟨?_, o, by simpa using ho, fun e he hb => ?_⟩
        · rw [Array.getD_eq_getD_getElem?, Array.getElem?_eq_getElem hk'] at hl ⊢; exact hl
        · have := (lastR_pre hB ho).2 e he hb
          exact ih e.on this (by omega)
      rw [hr] at this
      cases this
theorem wpAny_lastR {P : Program} {pre : List Oper} {st : Oper} {C : World → Prop} {Q : Act → Prop} {Q' : Exit → Act → World → Prop} (hB : lastR pre st = true)
    (hQ : ∀ a w, C w → Q a → st.wp P a w (fun a' w' => Q' .normal a' w') Q') : ∀ (fuel : Nat) (listed : Array Bool) (a : Act) (w : World), listed.size = pre.length → (∀ (j : Nat) (o : Oper), listed.getD j false = true → pre[j]? = some o → ∀ e ∈ o.after, Region.binds .any e = true → listed.getD e.on false = true) → C w →
    wpAnyQ P .any pre.toArray C Q fuel listed a → wpAny P .any (pre ++ [st]).toArray Q' (fuel + 1) (listed.push false) a w := by
  have done : ∀ (fuel : Nat) (listed : Array Bool) (a : Act) (w : World), listed.size = pre.length → (∀ (j : Nat) (o : Oper), listed.getD j false = true → pre[j]? = some o → ∀ e ∈ o.after, Region.binds .any e = true → listed.getD e.on false = true) → C w → (∀ k, k < pre.length → listed.getD k false = true) → Q a → wpAny P .any (pre ++ [st]).toArray Q' (fuel + 1) (listed.push false) a w := by
    intro fuel listed a w hs hc hC hall hq
    obtain ⟨g1, g2, g3⟩ := lastR_st hB
    have hrn : pre.length ∈ Region.ready .any (pre ++ [st]).toArray (listed.push false) := by
      refine mem_ready.2 ⟨?_, st, by simp, fun e he hb => ?_⟩
      · rw [← hs]; exact push_getD_eq _ _
      · have := g3 e he hb
        rw [push_getD_lt listed false (by omega)]
        exact hall _ this
    refine ⟨fun hr => (by rw [hr] at hrn; cases hrn), fun i hi => ?_⟩
    have hin : i = pre.length := by
      rcases ready_ltR hB hs hc hi with ⟨h1, h2⟩ | ⟨h1, _⟩
      · exfalso
        obtain ⟨h3, _⟩ := mem_ready.1 h2
        have h4 := hall i h1
        rw [Array.getD_eq_getD_getElem?, Array.getElem?_eq_getElem (by omega)] at h3 h4
        simp at h3 h4
        rw [h4] at h3
        cases h3
      · exact h1
    subst hin
    unfold wpOp
    have hget : (pre ++ [st]).toArray[pre.length]? = some st := by simp
    rw [hget]
    simp only
    rw [if_pos (by unfold Region.wanted; rw [g1])]
    refine Or.inl (Oper.wp_mono (fun a' w' h => ?_) (hQ a w hC hq))
    refine wpAny_done ?_ h fuel
    cases hrr : Region.ready .any (pre ++ [st]).toArray ((listed.push false).setIfInBounds pre.length true) with
    | nil => rfl
    | cons j js =>
      exfalso
      have hj : j ∈ Region.ready .any (pre ++ [st]).toArray ((listed.push false).setIfInBounds pre.length true) := by rw [hrr]; exact List.mem_cons_self
      obtain ⟨h3, o, ho, _⟩ := mem_ready.1 hj
      have hj2 : j < (pre ++ [st]).length := by
        have := (List.getElem?_eq_some_iff.1 (show (pre ++ [st])[j]? = some o by simpa using ho)).1
        exact this
      rw [List.length_append, List.length_singleton] at hj2
      rw [Array.getD_eq_getD_getElem?, Array.getElem?_setIfInBounds] at h3
      by_cases e : pre.length = j
      · rw [if_pos e, if_pos (by rw [Array.size_push]; omega)] at h3
        cases h3
      · rw [if_neg e, Array.getElem?_push_lt (by omega)] at h3
        have h4 := hall j (by omega)
        rw [Array.getD_eq_getD_getElem?, Array.getElem?_eq_getElem (by omega)] at h4
        simp at h3 h4
        rw [h4] at h3
        cases h3
  intro fuel
  induction fuel with
  | zero =>
    intro listed a w hs hc hC h
    exact done 0 listed a w hs hc hC (ready_nilR hB hs h.1) h.2
  | succ fuel ih =>
    intro listed a w hs hc hC h
    cases hr : Region.ready .any pre.toArray listed with
    | nil => exact done (fuel + 1) listed a w hs hc hC (ready_nilR hB hs hr) (h.1 hr)
    | cons j js =>
      have hj : j ∈ Region.ready .any pre.toArray listed := by rw [hr]; exact List.mem_cons_self
      refine ⟨fun hn => (by have := ready_backR (st := st) hB hs hj; rw [hn] at this; cases this), fun i hi => ?_⟩
      rcases ready_ltR hB hs hc hi with ⟨h1, h2⟩ | ⟨_, h2⟩
      · have hq := h.2 i h2
        obtain ⟨o, ho⟩ : ∃ o, pre[i]? = some o := ⟨_, List.getElem?_eq_getElem h1⟩
        have hg := (lastR_pre hB ho).1
        unfold qOp at hq
        unfold wpOp
        rw [ops_lt h1]
        rw [show pre.toArray[i]? = some o by simpa using ho] at hq ⊢
        simp only at hq ⊢
        have hwt : ∀ y, Region.wanted o y = true := fun y => by unfold Region.wanted; rw [hg]
        rw [if_pos (hwt _)] at hq ⊢
        refine Or.inl (Oper.wp_of_quiet hC (fun a' w' hC' hk => ?_) hq)
        rw [push_set listed (by omega)]
        have hd : ∀ e ∈ o.after, Region.binds .any e = true → listed.getD e.on false = true := by
          obtain ⟨_, o2, ho2, hd⟩ := mem_ready.1 h2
          have e2 : o = o2 := by
            rw [show pre.toArray[i]? = some o by simpa using ho] at ho2
            injection ho2
          rw [e2]
          exact hd
        exact ih (listed.setIfInBounds i true) a' w' (by simpa using hs) (closed_set ho hc hd) hC' hk
      · exfalso
        obtain ⟨h3, o, ho, _⟩ := mem_ready.1 hj
        have hj2 : j < pre.length := (List.getElem?_eq_some_iff.1 (show pre[j]? = some o by simpa using ho)).1
        have h4 := h2 j hj2
        rw [Array.getD_eq_getD_getElem?, Array.getElem?_eq_getElem (by omega)] at h3 h4
        simp at h3 h4
        rw [h4] at h3
        cases h3
/-- The region's wp: the walk of all operations but the last, each quiet in the worlds that differ by new blocks; then the last one. -/
theorem wp_region_lastR {P : Program} {id : Nat} {R : Exit → Act → World → Prop} {a : Act} {w : World} {l : List Oper} (pre : List Oper) (st : Oper) (hl : l = pre ++ [st]) (hm : P.follows .mixedOrders = true) (hB : Region.lexB .any pre.toArray = true) (hL : lastR pre st = true)
    (h : wpQuiet P pre.toArray (fun w' => ∃ n : QW w, w' = n.x) (fun a' => ∀ (n : QW w) (K : Act → World → Prop), (∀ a'' w'', R .normal a'' w'' → K a'' w'') → st.wp P a' n.x K R) pre a) : (Code.region id l.toArray true).wp P R a w := by
  subst hl
  refine wp_region_any hm ?_
  have hq := wpAnyQ_lex (C := fun w' => ∃ n : QW w, w' = n.x) (md := .any) (by simp only [Region.lexB, Bool.and_eq_true] at hB; exact hB.1) pre 0 (Array.replicate pre.length false) a (by simp) (by simp only [Region.lexB, Bool.and_eq_true] at hB; simpa using hB.2) h
  have := wpAny_lastR (Q' := R) hL (fun a' w' hC hq => by obtain ⟨n, rfl⟩ := hC; exact hq n _ (fun _ _ h => h)) pre.length (Array.replicate pre.length false) a w.drew (by simp) (fun j o hj => by rw [Array.getD_eq_getD_getElem?, Array.getElem?_replicate] at hj; split at hj <;> cases hj) ⟨⟨w.drew, (Q.refl w).drew⟩, rfl⟩ hq
  have e : (Array.replicate pre.length false).push false = Array.replicate (pre ++ [st]).toArray.size false := by
    rw [show (pre ++ [st]).toArray.size = pre.length + 1 by simp, Array.replicate_succ]
  rw [e] at this
  simpa using this
theorem wp_lastR {P : Program} {id : Nat} {R : Exit → Act → World → Prop} {a : Act} {w : World} {l : List Oper} (n : Nat) (hn : l.length = n + 1) (st : Oper) (hst : l[n]? = some st) (hm : P.follows .mixedOrders = true) (hB : Region.lexB .any (l.take n).toArray = true) (hL : lastR (l.take n) st = true)
    (h : wpQuiet P (l.take n).toArray (fun w' => ∃ n : QW w, w' = n.x) (fun a' => ∀ (n : QW w) (K : Act → World → Prop), (∀ a'' w'', R .normal a'' w'' → K a'' w'') → st.wp P a' n.x K R) (l.take n) a) : (Code.region id l.toArray true).wp P R a w := by
  refine wp_region_lastR (l.take n) st ?_ hm hB hL h
  have h1 : n < l.length := by omega
  have h2 : l[n] = st := by rw [List.getElem?_eq_getElem h1] at hst; injection hst
  rw [← h2, List.take_append_getElem h1, List.take_of_length_le (by omega)]
end Go.Proofs.YtieojgblamkgoaaGreatDoor
/- Accumulators: New, Copy, Merge, Exact. -/
namespace Go.Proofs.YtieojgblamkgoaaGreatDoor
open Go.RowKit
set_option linter.unusedVariables false
set_option linter.unusedSimpArgs false

def accObj (a0 a1 a2 a3 a4 m c : Int) : Obj := .cells #[.int .u64 a0, .int .u64 a1, .int .u64 a2, .int .u64 a3, .int .u64 a4, .int .i64 m, .int .i64 c] 114
theorem acc_made (w : World) (l : List Nat) (c : Nat) (N : Nat → Nat) (hr : Rep N (sumZ l)) : AccOf (w.alloc (accObj (N 0) (N 1) (N 2) (N 3) (N 4) (metV l : Nat) c)) w.heap.size l c N := by
  unfold accObj
  refine ⟨fun j hj => ?_, hr, by simp [go_sem], by simp [go_sem], fun j => by simp [go_sem]⟩
  rcases j with _ | _ | _ | _ | _ | j
  · simp [go_sem]
  · simp [go_sem]
  · simp [go_sem]
  · simp [go_sem]
  · simp [go_sem]
  · omega
theorem acc_nil (w : World) : AccOf (w.alloc (accObj 0 0 0 0 0 0 0)) w.heap.size [] 0 (fun _ => 0) := acc_made w [] 0 (fun _ => 0) Rep.nil
theorem acc_q (w : World) (a0 a1 a2 a3 a4 m c : Int) : Q w (w.alloc (accObj a0 a1 a2 a3 a4 m c)) := (Q.refl w).cells _ _
set_option maxHeartbeats 400000 in
theorem new_any (w : World) : Calls Tryz.prog 39 #[] w fun e w' => e = .returned (.pointer (some ⟨w.heap.size, 0, none⟩)) ∧ AccOf w' w.heap.size [] 0 (fun _ => 0) ∧ Q w w' ∧ w.heap.size < w'.heap.size := by
  go_enter Tryz.func39, Tryz.ntmps39
  go_wp2_with fail
  go_ret
  exact ⟨rfl, acc_nil w, acc_q w 0 0 0 0 0 0 0, by simp [go_sem]⟩
set_option maxHeartbeats 1000000 in
set_option maxRecDepth 100000 in
theorem copy_any (l : List Nat) (B c : Nat) (N : Nat → Nat) (w : World) (hA : AccOf w B l c N) : Calls Tryz.prog 47 #[.pointer (some ⟨B, 0, none⟩)] w fun e w' => e = .returned (.pointer (some ⟨w.heap.size, 0, none⟩)) ∧ AccOf w' w.heap.size l c N ∧ Q w w' ∧ w.heap.size < w'.heap.size := by
  have c0 := hA.n 0 (by decide)
  have c1 := hA.n 1 (by decide)
  have c2 := hA.n 2 (by decide)
  have c3 := hA.n 3 (by decide)
  have c4 := hA.n 4 (by decide)
  have c5 := hA.m
  have c6 := hA.c
  have HR : Hid (Rep N (sumZ l)) := hA.r
  clear hA
  go_enter Tryz.func47, Tryz.ntmps47
  go_wp2_with fail
  go_ret
  exact ⟨rfl, acc_made w l c N HR.out, acc_q w _ _ _ _ _ _ _, by simp [go_sem]⟩
/-- Five words written. -/
def put5 (w : World) (A : Nat) (D : Nat → Nat) : World := ((((w.setCell ⟨A, 0, none⟩ (.int .u64 (D 0 : Nat))).setCell ⟨A, 1, none⟩ (.int .u64 (D 1 : Nat))).setCell ⟨A, 2, none⟩ (.int .u64 (D 2 : Nat))).setCell ⟨A, 3, none⟩ (.int .u64 (D 3 : Nat))).setCell ⟨A, 4, none⟩ (.int .u64 (D 4 : Nat))
theorem put5_fb {w : World} {A : Nat} {D : Nat → Nat} : Fb A w (put5 w A D) := (((((Fb.refl A w).set rfl _).set rfl _).set rfl _).set rfl _).set rfl _
theorem put5_off {w : World} {A B j : Nat} {D : Nat → Nat} (h : 5 ≤ j) : (put5 w A D).cell? ⟨B, j, none⟩ = w.cell? ⟨B, j, none⟩ := by
  unfold put5
  rw [World.cell?_setCell_other _ _ _ _ (fun e => by injection e with _ e; omega), World.cell?_setCell_other _ _ _ _ (fun e => by injection e with _ e; omega), World.cell?_setCell_other _ _ _ _ (fun e => by injection e with _ e; omega), World.cell?_setCell_other _ _ _ _ (fun e => by injection e with _ e; omega), World.cell?_setCell_other _ _ _ _ (fun e => by injection e with _ e; omega)]
theorem put5_in {w : World} {A : Nat} {N D : Nat → Nat} (h : WIs w A N) : WIs (put5 w A D) A D := by
  have c0 := h 0 (by decide)
  have c1 := h 1 (by decide)
  have c2 := h 2 (by decide)
  have c3 := h 3 (by decide)
  have c4 := h 4 (by decide)
  unfold put5
  intro j hj
  rcases j with _ | _ | _ | _ | _ | j
  · simp [go_sem, c0, c1, c2, c3, c4]
  · simp [go_sem, c0, c1, c2, c3, c4]
  · simp [go_sem, c0, c1, c2, c3, c4]
  · simp [go_sem, c0, c1, c2, c3, c4]
  · simp [go_sem, c0, c1, c2, c3, c4]
  · omega
set_option maxHeartbeats 4000000 in
set_option maxRecDepth 100000 in
theorem merge_any (l m : List Nat) (A B c c' : Nat) (N M : Nat → Nat) (w : World) (hA : AccOf w A l c N) (hB : AccOf w B m c' M) (hn : c + c' ≤ 35184372087808) :
    Calls Tryz.prog 44 #[.pointer (some ⟨A, 0, none⟩), .pointer (some ⟨B, 0, none⟩)] w fun e w' => e = .returned (.tuple #[]) ∧ AccOf w' A (l ++ m) (c + c') (dgV N M) ∧ Fb A w w' := by
  have a0 := hA.n 0 (by decide)
  have a1 := hA.n 1 (by decide)
  have a2 := hA.n 2 (by decide)
  have a3 := hA.n 3 (by decide)
  have a4 := hA.n 4 (by decide)
  have b0 := hB.n 0 (by decide)
  have b1 := hB.n 1 (by decide)
  have b2 := hB.n 2 (by decide)
  have b3 := hB.n 3 (by decide)
  have b4 := hB.n 4 (by decide)
  have da0 := qw_cell a0
  have da1 := qw_cell a1
  have da2 := qw_cell a2
  have da3 := qw_cell a3
  have da4 := qw_cell a4
  have db0 := qw_cell b0
  have db1 := qw_cell b1
  have db2 := qw_cell b2
  have db3 := qw_cell b3
  have db4 := qw_cell b4
  have n0 := qw_some w
  have HA : Hid (AccOf w A l c N) := hA
  have HB : Hid (AccOf w B m c' M) := hB
  have HP : Hid (∀ n : QW w, Calls Tryz.prog 72 #[.agg #[.int .u64 (N 0 : Nat), .int .u64 (N 1 : Nat), .int .u64 (N 2 : Nat), .int .u64 (N 3 : Nat), .int .u64 (N 4 : Nat)], .agg #[.int .u64 (M 0 : Nat), .int .u64 (M 1 : Nat), .int .u64 (M 2 : Nat), .int .u64 (M 3 : Nat), .int .u64 (M 4 : Nat)]] n.x fun e w' => e = .returned (.agg #[.int .u64 (dgV N M 0 : Nat), .int .u64 (dgV N M 1 : Nat), .int .u64 (dgV N M 2 : Nat), .int .u64 (dgV N M 3 : Nat), .int .u64 (dgV N M 4 : Nat)]) ∧ Q n.x w') := fun n => nplus_any N M hA.r.lt hB.r.lt n.x
  clear hA hB a0 a1 a2 a3 a4 b0 b1 b2 b3 b4
  go_enter Tryz.func44, Tryz.ntmps44
  go_wp2_with fail
  refine wp_lastR 12 rfl _ rfl (by kernel_rfl) (by kernel_rfl) (by kernel_rfl) ?_
  simp only [List.take_succ_cons, List.take_zero]
  repeat (first | go_big_quiet_step (first | (go_at_call 72; exact calls_qw (HP.out _))) | quiet_step (first | (go_at_call 72; exact calls_qw (HP.out _))))
  refine wpQuiet_nil ?_
  intro nn K hK
  have HA1 : Hid (AccOf nn.x A l c N) := HA.out.next nn.q
  have HB1 : Hid (AccOf nn.x B m c' M) := HB.out.next nn.q
  have HQ1 : Hid (Q w nn.x) := nn.q
  clear HP da0 da1 da2 da3 da4 db0 db1 db2 db3 db4 n0
  have e0 := HA1.out.n 0 (by decide)
  have e1 := HA1.out.n 1 (by decide)
  have e2 := HA1.out.n 2 (by decide)
  have e3 := HA1.out.n 3 (by decide)
  have e4 := HA1.out.n 4 (by decide)
  have z0 := HA1.out.z
  go_wp2_with fail
  have HF2 : Hid (Fb A w (put5 nn.x A (dgV N M))) := (HQ1.out.fb A).trans put5_fb
  have HN2 : Hid (WIs (put5 nn.x A (dgV N M)) A (dgV N M)) := put5_in HA1.out.n
  have a5 : (put5 nn.x A (dgV N M)).cell? ⟨A, 5, none⟩ = some (.int .i64 (metV l : Nat)) := by rw [put5_off (by decide)]; exact HA1.out.m
  have a6 : (put5 nn.x A (dgV N M)).cell? ⟨A, 6, none⟩ = some (.int .i64 (c : Nat)) := by rw [put5_off (by decide)]; exact HA1.out.c
  have b5 : (put5 nn.x A (dgV N M)).cell? ⟨B, 5, none⟩ = some (.int .i64 (metV m : Nat)) := by rw [put5_off (by decide)]; exact HB1.out.m
  have b6 : (put5 nn.x A (dgV N M)).cell? ⟨B, 6, none⟩ = some (.int .i64 (c' : Nat)) := by rw [put5_off (by decide)]; exact HB1.out.c
  have z2 : ∀ j, (put5 nn.x A (dgV N M)).frozen? ⟨A, j, none⟩ = false := fun j => by rw [put5_fb.frz]; exact z0 j
  have HR : Hid (Rep (dgV N M) (sumZ (l ++ m))) := by
    show Rep (dgV N M) (sumZ (l ++ m))
    rw [sumZ_append]; exact HA.out.r.plus HB.out.r
  obtain ⟨y, hy⟩ : ∃ y, put5 nn.x A (dgV N M) = y := ⟨_, rfl⟩
  rw [hy] at a5 a6 b5 b6 z2 HF2 HN2
  unfold put5 at hy
  rw [hy]
  clear hy e0 e1 e2 e3 e4 z0 HA1 HB1 HQ1 HA HB
  have hor := or_small (metV l) (metV_lt l) (metV m) (metV_lt m)
  have HM : Hid (metV (l ++ m) = metV l ||| metV m) := metV_append l m
  generalize metV l = ml at *
  generalize metV m = mm at *
  have da5 := qw_cell a5
  have db5 := qw_cell b5
  have n0 := qw_some y
  refine wp_lastR 11 rfl _ rfl (by kernel_rfl) (by kernel_rfl) (by kernel_rfl) ?_
  simp only [List.take_succ_cons, List.take_zero]
  repeat (first | go_big_quiet_step (fail) | quiet_step (fail))
  refine wpQuiet_nil ?_
  intro n2 K2 hK2
  have f5 := n2.q.cell a5
  have f6 := n2.q.cell a6
  have g6 := n2.q.cell b6
  have zf : ∀ j, n2.x.frozen? ⟨A, j, none⟩ = false := fun j => by rw [n2.q.2]; exact z2 j
  have HF3 : Hid (Fb A w n2.x) := HF2.out.trans (n2.q.fb A)
  have HN3 : Hid (WIs n2.x A (dgV N M)) := fun j hj => n2.q.cell (HN2.out j hj)
  clear da5 db5 n0 a5 a6 b5 b6 z2 HF2 HN2
  generalize n2.x = y2 at *
  have z5 := zf 5
  go_wp2_with fail
  have h6 : (y2.setCell ⟨A, 5, none⟩ (.int .i64 ((ml ||| mm : Nat) : Int))).cell? ⟨A, 6, none⟩ = some (.int .i64 (c : Nat)) := by rw [set_off (by decide)]; exact f6
  have k6 : (y2.setCell ⟨A, 5, none⟩ (.int .i64 ((ml ||| mm : Nat) : Int))).cell? ⟨B, 6, none⟩ = some (.int .i64 (c' : Nat)) := by
    rw [World.cell?_setCell_other _ _ _ _ (fun e => by injection e with _ e; omega)]; exact g6
  have h5 : (y2.setCell ⟨A, 5, none⟩ (.int .i64 ((ml ||| mm : Nat) : Int))).cell? ⟨A, 5, none⟩ = some (.int .i64 ((ml ||| mm : Nat) : Int)) := set_same f5
  have HN4 : Hid (WIs (y2.setCell ⟨A, 5, none⟩ (.int .i64 ((ml ||| mm : Nat) : Int))) A (dgV N M)) := fun j hj => by rw [set_off (by omega)]; exact HN3.out j hj
  have z4 : ∀ j, (y2.setCell ⟨A, 5, none⟩ (.int .i64 ((ml ||| mm : Nat) : Int))).frozen? ⟨A, j, none⟩ = false := fun j => by rw [World.frozen?_setCell]; exact zf j
  have HF4 : Hid (Fb A w (y2.setCell ⟨A, 5, none⟩ (.int .i64 ((ml ||| mm : Nat) : Int)))) := HF3.out.set rfl _
  generalize y2.setCell ⟨A, 5, none⟩ (.int .i64 ((ml ||| mm : Nat) : Int)) = y3 at *
  clear f5 f6 g6 zf HF3 HN3 z5 hor
  have da6 := qw_cell h6
  have db6 := qw_cell k6
  have n0 := qw_some y3
  have ew : wrap64 ((c : Int) + (c' : Int)) = ((c + c' : Nat) : Int) := by unfold wrap64; omega
  refine wp_lastR 11 rfl _ rfl (by kernel_rfl) (by kernel_rfl) (by kernel_rfl) ?_
  simp only [List.take_succ_cons, List.take_zero]
  repeat (first | go_big_quiet_step (fail) | quiet_step (fail))
  refine wpQuiet_nil ?_
  intro n3 K3 hK3
  have f5 := n3.q.cell h5
  have f6 := n3.q.cell h6
  have zf : ∀ j, n3.x.frozen? ⟨A, j, none⟩ = false := fun j => by rw [n3.q.2]; exact z4 j
  have HF5 : Hid (Fb A w n3.x) := HF4.out.trans (n3.q.fb A)
  have HN5 : Hid (WIs n3.x A (dgV N M)) := fun j hj => n3.q.cell (HN4.out j hj)
  clear da6 db6 n0 h5 h6 k6 z4 HF4 HN4
  generalize n3.x = y4 at *
  have z6 := zf 6
  have HX : Hid (AccOf (y4.setCell ⟨A, 6, none⟩ (.int .i64 ((c + c' : Nat) : Int))) A (l ++ m) (c + c') (dgV N M)) := by
    have h : AccOf y4 A (l ++ m) c (dgV N M) := ⟨HN5.out, HR.out, by rw [HM.out]; exact f5, f6, zf⟩
    exact h.cnt
  have HY : Hid (Fb A w (y4.setCell ⟨A, 6, none⟩ (.int .i64 ((c + c' : Nat) : Int)))) := HF5.out.set rfl _
  go_wp2_with fail
  refine bodyPost_end (results_none Tryz.results44 _ _ _) rfl ⟨rfl, HX.out, HY.out⟩
end Go.Proofs.YtieojgblamkgoaaGreatDoor

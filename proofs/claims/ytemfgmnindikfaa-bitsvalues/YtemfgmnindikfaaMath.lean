/- Plain facts on whole numbers: the bit operations of a 32-bit sample, its key, and what is chosen by key. -/
import Derived.WalkKit
import Derived.Laws.BitsAll
namespace Go.Proofs.Ytemfgmnindikfaa
open Go.RowKit

theorem and_lo (s : Int) (h0 : 0 ≤ s) (h1 : s < 2147483648) : bits .and .u32 s 2147483648 = 0 := by go_bits2
theorem and_hi (s : Int) (h0 : 2147483648 ≤ s) (h1 : s ≤ 4294967295) : bits .and .u32 s 2147483648 = 2147483648 := by go_bits2
theorem or_lo (s : Int) (h0 : 0 ≤ s) (h1 : s < 2147483648) : bits .or .u32 s 2147483648 = s + 2147483648 := by go_bits2
theorem andNot_hi (s : Int) (h0 : 2147483648 ≤ s) (h1 : s ≤ 4294967295) : bits .andNot .u32 s 2147483648 = s - 2147483648 := by go_bits2
theorem and_255 (s : Int) (h0 : 0 ≤ s) (h1 : s ≤ 4294967295) : bits .and .u32 s 255 = s % 256 := by go_bits2
theorem and_frac (s : Int) (h0 : 0 ≤ s) (h1 : s ≤ 4294967295) : bits .and .u32 s 8388607 = s % 8388608 := by go_bits2

/-- A sample's key. -/
def keyV (s : Int) : Int := if s < 2147483648 then s + 2147483648 else 4294967295 - s
theorem keyV_lo {s : Int} (h : s < 2147483648) : keyV s = s + 2147483648 := by unfold keyV; rw [if_pos h]
theorem keyV_hi {s : Int} (h : 2147483648 ≤ s) : keyV s = 4294967295 - s := by unfold keyV; rw [if_neg (by omega)]
theorem keyV_bd {s : Int} (h0 : 0 ≤ s) (h1 : s ≤ 4294967295) : 0 ≤ keyV s ∧ keyV s ≤ 4294967295 := by
  unfold keyV; split <;> omega
theorem keyV_inj {a b : Int} (a0 : 0 ≤ a) (b0 : 0 ≤ b) (h : keyV a = keyV b) : a = b := by
  unfold keyV at h; split at h <;> split at h <;> omega

/-- The sample of a key. -/
def fkeyV (k : Int) : Int := if k < 2147483648 then 4294967295 - k else k - 2147483648
theorem fkeyV_lo {s : Int} (h : s < 2147483648) : fkeyV s = 4294967295 - s := by unfold fkeyV; rw [if_pos h]
theorem fkeyV_hi {s : Int} (h : 2147483648 ≤ s) : fkeyV s = s - 2147483648 := by unfold fkeyV; rw [if_neg (by omega)]
theorem fkeyV_bd {s : Int} (h0 : 0 ≤ s) (h1 : s ≤ 4294967295) : 0 ≤ fkeyV s ∧ fkeyV s ≤ 4294967295 := by
  unfold fkeyV; split <;> omega
theorem fkey_key {s : Int} (h0 : 0 ≤ s) (h1 : s ≤ 4294967295) : fkeyV (keyV s) = s := by
  unfold fkeyV keyV; split <;> split <;> omega
theorem key_fkey {s : Int} (h0 : 0 ≤ s) (h1 : s ≤ 4294967295) : keyV (fkeyV s) = s := by
  unfold fkeyV keyV; split <;> split <;> omega

/-- Whether a stands ahead of b. -/
def befB (a b : Int) : Bool := decide (keyV a < keyV b)
theorem befB_t {a b : Int} : befB a b = true ↔ keyV a < keyV b := by unfold befB; simp
theorem befB_f {a b : Int} : befB a b = false ↔ keyV b ≤ keyV a := by unfold befB; simp

def leastV (a b : Int) : Int := if befB b a = true then b else a
def greatestV (a b : Int) : Int := if befB a b = true then b else a
theorem leastV_bd {a b : Int} (a0 : 0 ≤ a) (a1 : a ≤ 4294967295) (b0 : 0 ≤ b) (b1 : b ≤ 4294967295) : 0 ≤ leastV a b ∧ leastV a b ≤ 4294967295 := by
  unfold leastV; split <;> omega
theorem greatestV_bd {a b : Int} (a0 : 0 ≤ a) (a1 : a ≤ 4294967295) (b0 : 0 ≤ b) (b1 : b ≤ 4294967295) : 0 ≤ greatestV a b ∧ greatestV a b ≤ 4294967295 := by
  unfold greatestV; split <;> omega
def medianV (a b c : Int) : Int := greatestV (leastV a b) (leastV (greatestV a b) c)
def betweenV (s lo hi : Int) : Int := leastV (greatestV s lo) hi

/-- The document's median, by three exchanges. -/
def rmedianV (a b c : Int) : Int :=
  let a' := if befB b a = true then b else a
  let b' := if befB b a = true then a else b
  let b'' := if befB c b' = true then c else b'
  if befB b'' a' = true then a' else b''
theorem rmedianV_eq {a b c : Int} (a0 : 0 ≤ a) (b0 : 0 ≤ b) (c0 : 0 ≤ c) : rmedianV a b c = medianV a b c := by
  unfold rmedianV medianV greatestV leastV
  simp only [befB_t]
  repeat' split
  all_goals first | rfl | omega | exact keyV_inj c0 b0 (by omega) | exact keyV_inj c0 a0 (by omega) | exact keyV_inj b0 a0 (by omega)

/-- The sample above, and whether there is one. -/
def nextV (s : Int) : Int := if keyV s = 4294967295 then 0 else fkeyV (keyV s + 1)
def nextB (s : Int) : Bool := !decide (keyV s = 4294967295)
def prevV (s : Int) : Int := if keyV s = 0 then 0 else fkeyV (keyV s - 1)
def prevB (s : Int) : Bool := !decide (keyV s = 0)

theorem ret_int {k : IntKind} {a b : Int} (h : a = b) : Ending.returned (.int k a) = .returned (.int k b) := by rw [h]
theorem ret_bool {a b : Bool} (h : a = b) : Ending.returned (.bool a) = .returned (.bool b) := by rw [h]
theorem ret_ib {k : IntKind} {a b : Int} {c d : Bool} (h : a = b) (g : c = d) : Ending.returned (.tuple #[.int k a, .bool c]) = .returned (.tuple #[.int k b, .bool d]) := by rw [h, g]

/-- The world may have new blocks; what was there is as it was. -/
def Q (w w' : World) : Prop := Below w.heap.size w w' ∧ ∀ a, w'.frozen? a = w.frozen? a
theorem Q.refl (w : World) : Q w w := ⟨Below.refl _ _, fun _ => rfl⟩
theorem Q.trans {a b c : World} (h : Q a b) (k : Q b c) : Q a c := ⟨h.1.trans (k.1.mono h.1.size), fun x => (k.2 x).trans (h.2 x)⟩
theorem Q.cells {a b : World} (h : Q a b) (c : Array Value) (t : TypeId) : Q a (b.alloc (.cells c t)) :=
  ⟨h.1.alloc h.1.size _, fun x => (frozen?_alloc_cells _ _ _ x).trans (h.2 x)⟩
theorem Q.set {a b : World} (h : Q a b) {p : Addr} (hp : a.heap.size ≤ p.block) (v : Value) : Q a (b.setCell p v) :=
  ⟨h.1.setCell hp v, fun x => (World.frozen?_setCell _ _ _ _).trans (h.2 x)⟩
theorem Q.grown {a b : World} (h : Q a b) : Grown a b := ⟨h.1.frame _, h.2, h.1.size⟩

/-- Exponent and fraction of a sample. -/
def expV (s : Int) : Int := s / 8388608 % 256
def fracV (s : Int) : Int := s % 8388608
def negB (s : Int) : Bool := decide (2147483648 ≤ s)
theorem expV_bd (s : Int) : 0 ≤ expV s ∧ expV s ≤ 255 := by unfold expV; omega
theorem fracV_bd (s : Int) : 0 ≤ fracV s ∧ fracV s ≤ 8388607 := by unfold fracV; omega
/-- What a sample is made of. -/
theorem made_of {s : Int} (h0 : 0 ≤ s) (h1 : s ≤ 4294967295) : s = (if 2147483648 ≤ s then 2147483648 else 0) + expV s * 8388608 + fracV s := by
  unfold expV fracV; split <;> omega
/-- The class by number: 1 NaN, 2 infinity, 3 normal, 4 small, 5 nought. -/
def classV (s : Int) : Int := if expV s = 255 then (if fracV s = 0 then 2 else 1) else if expV s = 0 then (if fracV s = 0 then 5 else 4) else 3
theorem neg_bit {s : Int} (h0 : 0 ≤ s) (h1 : s ≤ 4294967295) : (bits .and .u32 s 2147483648 != 0) = negB s := by
  unfold negB
  by_cases h : s < 2147483648
  · rw [and_lo s h0 h]; simp; omega
  · rw [and_hi s (by omega) h1]; simp; omega
end Go.Proofs.Ytemfgmnindikfaa

/- Numbers of five words: what they stand for. -/
import Derived.Test.YtnjagokojdpgpabDoorGd6eddb9d
import Derived.Test.YtnjagokojdpgpabDoorG4d223d74
import Derived.Test.YtnjagokojdpgpabDoorG273d4c77
namespace Go.Proofs.YtnjagokojdpgpabDoor
open Go.RowKit
set_option linter.unusedVariables false
set_option linter.unusedSimpArgs false

theorem cyS_add (N T : Nat → Nat) : ∀ i, cyS addC N T i = cyV N T i := by
  intro i
  induction i with
  | zero => rfl
  | succ i ih => show addC _ _ _ = addC _ _ _; rw [ih]
theorem dgS_add (N T : Nat → Nat) : dgS addE addC N T = dgV N T := by
  funext i
  show addE _ _ _ = addE _ _ _
  rw [cyS_add]
theorem dgS_eq (sE sC : Nat → Nat → Nat → Nat) (N T : Nat → Nat) (i : Nat) : dgS sE sC N T i = sE (N i) (T i) (cyS sC N T i) := rfl
theorem cyS_eq (sC : Nat → Nat → Nat → Nat) (N T : Nat → Nat) (i : Nat) : cyS sC N T (i + 1) = sC (N i) (T i) (cyS sC N T i) := rfl
theorem sub_fact {n t c : Nat} (hn : n < m64) (ht : t < m64) (hc : c ≤ 1) : subE n t c + t + c = n + subC n t c * m64 := by
  unfold subE subC m64 at *
  split <;> omega
theorem valW_succ (N : Nat → Nat) (i : Nat) : valW N (i + 1) = valW N i + N i * m64 ^ i := rfl
theorem two64 : (2 : Nat) ^ 64 = m64 := by unfold m64; decide
theorem words_alg {a4 a8 a7 d t n c1 c0 G M : Nat} (ih : a4 + a8 = a7 + c0 * G) (h1 : d + t + c0 = n + c1 * M) : a4 + d * G + (a8 + t * G) = a7 + n * G + c1 * (G * M) := by
  have h2 : (d + t + c0) * G = (n + c1 * M) * G := by rw [h1]
  rw [Nat.add_mul, Nat.add_mul, Nat.add_mul, Nat.mul_assoc, Nat.mul_comm M G] at h2
  omega
theorem sh_alg (X G M : Nat) : 0 + X % M * G + X / M * (G * M) = X * G := by
  have h := Nat.mod_add_div X M
  have h2 : (X % M + M * (X / M)) * G = X * G := by rw [h]
  rw [Nat.add_mul, Nat.mul_comm M, Nat.mul_assoc, Nat.mul_comm M G] at h2
  omega
theorem words_base {X : Nat} (h : X = 0) (a b c G : Nat) (ha : a = 0) (hb : b = 0) (hc : c = 0) : a + b = c + X * G := by
  rw [ha, hb, hc, h, Nat.zero_mul]
theorem valW_none (N : Nat → Nat) : valW N 0 = 0 := rfl
theorem cyS_none (sC : Nat → Nat → Nat → Nat) (N T : Nat → Nat) : cyS sC N T 0 = 0 := rfl
theorem sub_words {N T : Nat → Nat} (hN : ∀ i, N i < m64) (hT : ∀ i, T i < m64) : ∀ i, valW (dgS subE subC N T) i + valW T i = valW N i + cyS subC N T i * m64 ^ i := by
  intro i
  induction i with
  | zero => exact words_base (cyS_none _ _ _) _ _ _ _ (valW_none _) (valW_none _) (valW_none _)
  | succ i ih =>
    rw [valW_succ, valW_succ, valW_succ]
    have h1 : dgS subE subC N T i + T i + cyS subC N T i = N i + cyS subC N T (i + 1) * m64 := by
      rw [dgS_eq, cyS_eq]
      exact sub_fact (hN i) (hT i) (cyS_le ok_sub hN hT i)
    rw [Nat.pow_succ]
    exact words_alg ih h1
theorem subE_lt (n t c : Nat) : subE n t c < m64 := by unfold subE; exact Nat.mod_lt _ (by decide)
theorem dgS_sub_lt (N T : Nat → Nat) (i : Nat) : dgS subE subC N T i < m64 := by rw [dgS_eq]; exact subE_lt _ _ _
theorem sh_div {sz sh : Nat} (h1 : sh < 64) : sz * 2 ^ sh / m64 = sz / 2 ^ (64 - sh) := by
  have : m64 = 2 ^ (64 - sh) * 2 ^ sh := by rw [← Nat.pow_add, show 64 - sh + sh = 64 by omega, two64]
  rw [this, Nat.mul_div_mul_right _ _ (Nat.pow_pos (by decide))]
theorem shW_at (sz i0 sh : Nat) : shW sz i0 sh i0 = sz * 2 ^ sh % m64 := if_pos rfl
theorem shW_next (sz i0 sh : Nat) : shW sz i0 sh (i0 + 1) = sz / 2 ^ (64 - sh) := by unfold shW; rw [if_neg (by omega), if_pos rfl]
theorem shW_off (sz : Nat) {i0 sh k : Nat} (h : k ≠ i0) (h' : k ≠ i0 + 1) : shW sz i0 sh k = 0 := by unfold shW; rw [if_neg h, if_neg h']
/-- A shifted size. -/
theorem sh_val {sz i0 sh : Nat} (h0 : i0 < 4) (h1 : sh < 64) : valW (shW sz i0 sh) 5 = sz * 2 ^ (64 * i0 + sh) := by
  have hlt : ∀ k, k ≤ i0 → valW (shW sz i0 sh) k = 0 := by
    intro k
    induction k with
    | zero => intro _; rfl
    | succ k ih =>
      intro hk
      rw [valW_succ, ih (by omega)]
      rw [shW_off sz (by omega) (by omega)]
      simp
  have hx : valW (shW sz i0 sh) (i0 + 2) = sz * 2 ^ (64 * i0 + sh) := by
    rw [show i0 + 2 = i0 + 1 + 1 from rfl, valW_succ, valW_succ]
    rw [hlt i0 (Nat.le_refl _)]
    have e5 : sz * 2 ^ (64 * i0 + sh) = sz * 2 ^ sh * m64 ^ i0 := by
      rw [Nat.pow_add, Nat.pow_mul, two64, Nat.mul_comm (m64 ^ i0), Nat.mul_assoc]
    rw [shW_at, shW_next, e5, ← sh_div h1, Nat.pow_succ]
    exact sh_alg _ _ _
  have hgt : ∀ k, valW (shW sz i0 sh) (i0 + 2 + k) = valW (shW sz i0 sh) (i0 + 2) := by
    intro k
    induction k with
    | zero => rw [Nat.add_zero]
    | succ k ih =>
      have e1 : valW (shW sz i0 sh) (i0 + 2 + (k + 1)) = valW (shW sz i0 sh) (i0 + 2 + k) + shW sz i0 sh (i0 + 2 + k) * m64 ^ (i0 + 2 + k) := valW_succ _ _
      have e2 : shW sz i0 sh (i0 + 2 + k) = 0 := shW_off sz (by omega) (by omega)
      rw [e1, ih, e2, Nat.zero_mul, Nat.add_zero]
  rw [← hx, ← hgt (3 - i0), show i0 + 2 + (3 - i0) = 5 by omega]
/-- Words that stand for a whole number. -/
structure Rep (N : Nat → Nat) (z : Int) : Prop where
  lt : ∀ i, N i < m64
  eq : ((valW N 5 : Nat) : Int) = z % ((m64 ^ 5 : Nat) : Int)
theorem m5_pos : (0 : Int) < ((m64 ^ 5 : Nat) : Int) := Int.natCast_pos.2 (Nat.pow_pos (by decide))
theorem valW_nil : ∀ i, valW (fun _ => 0) i = 0 := by
  intro i
  induction i with
  | zero => rfl
  | succ i ih => show valW _ i + 0 * _ = 0; rw [ih, Nat.zero_mul]
theorem Rep.nil : Rep (fun _ => 0) 0 := ⟨fun _ => by decide, by rw [valW_nil]; simp⟩
theorem emod_of {a z : Int} {M : Int} (hM : 0 < M) (h0 : 0 ≤ a) (h1 : a < M) (k : Int) (h : a = z + k * M) : a = z % M := by
  have : z % M = a % M := by rw [h, Int.add_mul_emod_self_right]
  rw [this, Int.emod_eq_of_lt h0 h1]
theorem Rep.plus {N M : Nat → Nat} {z y : Int} (h : Rep N z) (g : Rep M y) : Rep (dgV N M) (z + y) := by
  refine ⟨dg_lt N M, ?_⟩
  have hs := sum_words N M 5
  have hl := valW_lt (dg_lt N M) 5
  have h1 : ((valW N 5 + valW M 5 : Nat) : Int) % ((m64 ^ 5 : Nat) : Int) = (z + y) % ((m64 ^ 5 : Nat) : Int) := by
    rw [Int.natCast_add, h.eq, g.eq, Int.emod_add_emod, Int.add_emod_emod]
  rw [← h1, ← hs]
  rw [Int.natCast_add, Int.natCast_mul, Int.add_mul_emod_self_right]
  exact (Int.emod_eq_of_lt (Int.natCast_nonneg _) (by exact_mod_cast hl)).symm
theorem Rep.minus {N T : Nat → Nat} {z : Int} {y : Nat} (h : Rep N z) (hT : ∀ i, T i < m64) (hy : valW T 5 = y) : Rep (dgS subE subC N T) (z - y) := by
  refine ⟨dgS_sub_lt N T, ?_⟩
  have hs := sub_words h.lt hT 5
  have hl := valW_lt (dgS_sub_lt N T) 5
  rw [hy] at hs
  have h1 : ((valW N 5 : Nat) : Int) % ((m64 ^ 5 : Nat) : Int) = z % ((m64 ^ 5 : Nat) : Int) := by rw [h.eq, Int.emod_emod_of_dvd _ (Int.dvd_refl _)]
  have h2 : ((valW (dgS subE subC N T) 5 : Nat) : Int) = (valW N 5 : Int) - y + (cyS subC N T 5 : Int) * ((m64 ^ 5 : Nat) : Int) := by
    have : ((valW (dgS subE subC N T) 5 + y : Nat) : Int) = ((valW N 5 + cyS subC N T 5 * m64 ^ 5 : Nat) : Int) := by rw [hs]
    rw [Int.natCast_add, Int.natCast_add, Int.natCast_mul] at this
    omega
  have h3 : ((valW N 5 : Int) - y) % ((m64 ^ 5 : Nat) : Int) = (z - y) % ((m64 ^ 5 : Nat) : Int) := by
    rw [Int.sub_emod, h1, ← Int.sub_emod]
  rw [← h3]
  exact emod_of m5_pos (Int.natCast_nonneg _) (by exact_mod_cast hl) _ h2
/-- A finite sample in units. -/
def unZ (s : Nat) : Int := if s < 2147483648 then ((szS s * 2 ^ atS s : Nat) : Int) else -((szS s * 2 ^ atS s : Nat) : Int)
theorem atS_lt {s : Nat} (h : s / 8388608 % 256 < 255) : atS s < 256 := by unfold atS; split <;> omega
theorem szS_lt (s : Nat) : szS s < 16777216 := by unfold szS; split <;> omega
theorem sh_at {s : Nat} (h : s / 8388608 % 256 < 255) : valW (shW (szS s) (atS s / 64) (atS s % 64)) 5 = szS s * 2 ^ atS s := by
  have h1 := atS_lt h
  rw [sh_val (by omega) (by omega), show 64 * (atS s / 64) + atS s % 64 = atS s by omega]
theorem shl_lt {s : Nat} (i : Nat) : shW (szS s) (atS s / 64) (atS s % 64) i < m64 := sh_lt (Nat.lt_trans (szS_lt s) (by decide)) i
theorem Rep.add {N : Nat → Nat} {z : Int} {s : Nat} (h : Rep N z) (hs : s / 8388608 % 256 < 255) : Rep (adS N s) (z + unZ s) := by
  unfold adS unZ
  by_cases g : s < 2147483648
  · rw [if_pos g, if_pos g, dgS_add]
    refine h.plus ⟨shl_lt, ?_⟩
    rw [sh_at hs]
    refine (Int.emod_eq_of_lt (Int.natCast_nonneg _) ?_).symm
    have h1 := valW_lt (N := shW (szS s) (atS s / 64) (atS s % 64)) shl_lt 5
    rw [sh_at hs] at h1
    exact_mod_cast h1
  · rw [if_neg g, if_neg g, ← Int.sub_eq_add_neg]
    exact h.minus shl_lt (sh_at hs)
/-- Of a number that isn't too great: its sign, and its size. -/
theorem top_val (N : Nat → Nat) (h : ∀ i, N i < m64) : (9223372036854775808 ≤ N 4 ↔ m64 ^ 5 ≤ 2 * valW N 5) := by
  have h4 : valW N 5 = valW N 4 + N 4 * m64 ^ 4 := rfl
  have h1 := valW_lt h 4
  have e : m64 ^ 5 = 2 * (9223372036854775808 * m64 ^ 4) := by
    rw [Nat.pow_succ, ← Nat.mul_assoc, Nat.mul_comm]
    rfl
  generalize m64 ^ 4 = G at *
  rw [e, h4]
  constructor
  · intro g
    have := Nat.mul_le_mul_right G g
    omega
  · intro g
    rcases Nat.lt_or_ge (N 4) 9223372036854775808 with k | k
    · exfalso
      have := Nat.mul_le_mul_right G (show N 4 + 1 ≤ 9223372036854775808 from k)
      rw [Nat.add_mul, Nat.one_mul] at this
      omega
    · exact k
theorem Rep.pos {N : Nat → Nat} {z : Int} (h : Rep N z) (h0 : 0 ≤ z) (h1 : 2 * z < ((m64 ^ 5 : Nat) : Int)) : ((valW N 5 : Nat) : Int) = z ∧ ¬ 9223372036854775808 ≤ N 4 := by
  have e : ((valW N 5 : Nat) : Int) = z := by rw [h.eq, Int.emod_eq_of_lt h0 (by omega)]
  refine ⟨e, fun g => ?_⟩
  have g := (top_val N h.lt).1 g
  generalize m64 ^ 5 = G at *
  omega
theorem Rep.neg {N : Nat → Nat} {z : Int} (h : Rep N z) (h0 : z < 0) (h1 : -((m64 ^ 5 : Nat) : Int) ≤ 2 * z) : ((valW (negW N) 5 : Nat) : Int) = -z ∧ 9223372036854775808 ≤ N 4 := by
  have e : ((valW N 5 : Nat) : Int) = z + ((m64 ^ 5 : Nat) : Int) := by
    rw [h.eq]
    have : z % ((m64 ^ 5 : Nat) : Int) = (z + ((m64 ^ 5 : Nat) : Int)) % ((m64 ^ 5 : Nat) : Int) := by rw [Int.add_emod_right]
    rw [this, Int.emod_eq_of_lt (by omega) (by omega)]
  have hl := valW_lt h.lt 5
  have hne : valW N 5 ≠ 0 := by
    intro g
    rw [g] at e
    have := m5_pos
    omega
  have hn := neg_words h.lt hne
  constructor
  · generalize m64 ^ 5 = G at *
    omega
  · refine (top_val N h.lt).2 ?_
    generalize m64 ^ 5 = G at *
    omega
theorem neg_lt (N : Nat → Nat) (i : Nat) : negW N i < m64 := dg_lt _ _ i
theorem valW_zero {N : Nat → Nat} : ∀ i, (valW N i = 0 ↔ ∀ j, j < i → N j = 0) := by
  intro i
  induction i with
  | zero => exact ⟨fun _ j h => by omega, fun _ => rfl⟩
  | succ i ih =>
    show valW N i + N i * m64 ^ i = 0 ↔ _
    have hp : 0 < m64 ^ i := Nat.pow_pos (by decide)
    constructor
    · intro h j hj
      have h1 : valW N i = 0 := by omega
      have h2 : N i * m64 ^ i = 0 := by omega
      rcases Nat.lt_or_ge j i with g | g
      · exact ih.1 h1 j g
      · obtain rfl : j = i := by omega
        rcases Nat.mul_eq_zero.1 h2 with k | k
        · exact k
        · omega
    · intro h
      rw [ih.2 (fun j hj => h j (by omega)), h i (by omega)]
      simp
end Go.Proofs.YtnjagokojdpgpabDoor
/- Sums divided: rounded to odd, then once. -/
namespace Go.Proofs.YtnjagokojdpgpabDoor
set_option linter.unusedVariables false
set_option linter.unusedSimpArgs false

/-- So many units divided by d, as a sample's rung. -/
def exR (V d : Nat) : Nat := rungOf Ieee.single (sqV V d 0) (-152)
theorem sqV_up (n d j A : Nat) : sqV n d (A + j) = sqV (n * 2 ^ j) d A := by
  unfold sqV
  rw [Nat.add_comm A j, Nat.pow_add, ← Nat.mul_assoc]
theorem sqV_zero (V d : Nat) : sqV V d 0 = 2 * (V / d) + if V % d = 0 then 0 else 1 := by
  unfold sqV
  rw [Nat.pow_zero, Nat.mul_one]
theorem rung_one : rungOf Ieee.single 1 (-151) = 0 := by decide +kernel
theorem ex_low {V d A : Nat} (hd : 0 < d) : rungOf Ieee.single (sqV V d A) (-152 - A) = exR V d := by
  unfold exR
  have hs : stick (sqV V d (0 + A)) (A + 1) = sqV V d 0 := sq_stick hd
  rw [Nat.zero_add] at hs
  rcases Nat.eq_zero_or_pos (V / d) with h | h
  · -- below one unit: both are rounded to nought
    have hV : V < d := by
      rcases Nat.lt_or_ge V d with g | g
      · exact g
      · exact absurd (Nat.div_pos g hd) (by omega)
    have h1 : V * 2 ^ A / d < 2 ^ A := by
      rw [Nat.div_lt_iff_lt_mul hd, Nat.mul_comm]
      exact Nat.mul_lt_mul_of_pos_left hV (Nat.two_pow_pos A)
    have h2 : sqV V d A ≤ 1 * 2 ^ (A + 1) := by
      unfold sqV
      rw [Nat.pow_succ]
      split <;> omega
    have h3 := rung_mono Ieee.single (-152 - A) h2
    rw [rung_scale, show (-152 - (A : Int) + (A + 1 : Nat)) = -151 by omega, rung_one] at h3
    have h4 : sqV V d 0 ≤ 1 * 2 ^ 1 := by
      rw [sqV_zero, h]
      split <;> omega
    have h5 := rung_mono Ieee.single (-152) h4
    rw [rung_scale, show (-152 + ((1 : Nat) : Int)) = -151 by omega, rung_one] at h5
    omega
  · have hq : 2 ^ A ≤ V * 2 ^ A / d := by
      rw [Nat.le_div_iff_mul_le hd, Nat.mul_comm]
      refine Nat.mul_le_mul_right _ ?_
      rcases Nat.lt_or_ge V d with g | g
      · rw [Nat.div_eq_of_lt g] at h; omega
      · exact g
    have h2 : 2 ^ (A + 1) ≤ sqV V d A := by
      unfold sqV
      rw [Nat.pow_succ]
      omega
    have hM : sqV V d A ≠ 0 := by have := Nat.two_pow_pos (A + 1); omega
    have hlog : A + 1 ≤ (sqV V d A).log2 := (Nat.le_log2 hM).2 h2
    have := rung_stick Ieee.single (M := sqV V d A) (k := A + 1) (-152 - A) hlog hM (by
      have := last_ge Ieee.single (sqV V d A) (-152 - A)
      rw [show Ieee.single.leastPlace = -149 by decide] at this
      omega)
    rw [hs] at this
    rw [← this]
    congr 1
    omega
/-- The document's quotient. -/
theorem ex_ref {n d A j : Nat} {e : Int} (hj : e = (j : Int) - 151) (hd : 0 < d) (hq : 2 ^ 24 ≤ n * 2 ^ A / d) : rungOf Ieee.single (sqV n d A) (e - A - 1) = exR (n * 2 ^ j) d := by
  rw [← sq_link Ieee.single (A := A + j) e hd (by omega) hq, sqV_up, ← ex_low (A := A) hd]
  congr 1
  omega
theorem top_stick (V d b : Nat) : stick (sqV V d 0) (b + 2) = if V % d = 0 ∧ V / d % 2 ^ b = 0 then V / d / 2 ^ b else 2 * (V / d / 2 ^ b / 2) + 1 := by
  rw [sqV_zero]
  generalize V / d = q
  have hr : ∃ r, (if V % d = 0 then 0 else 1) = r ∧ r ≤ 1 ∧ (r = 0 ↔ V % d = 0) := by
    by_cases h : V % d = 0
    · exact ⟨0, if_pos h, by omega, by omega⟩
    · exact ⟨1, if_neg h, by omega, by omega⟩
  obtain ⟨r, h1, h2, h3⟩ := hr
  rw [h1]
  unfold stick
  have e1 : (2 * q + r) / 2 ^ (b + 2) = q / 2 ^ b / 2 := by
    rw [show b + 2 = 1 + (b + 1) by omega, Nat.pow_add, ← Nat.div_div_eq_div_mul, show (2 * q + r) / 2 ^ 1 = q by omega, Nat.pow_succ, ← Nat.div_div_eq_div_mul]
  have e2 : (2 * q + r) % 2 ^ (b + 2) = 0 ↔ r = 0 ∧ q % 2 ^ (b + 1) = 0 := by
    rw [show 2 ^ (b + 2) = 2 * 2 ^ (b + 1) by rw [show b + 2 = b + 1 + 1 from rfl, Nat.pow_succ, Nat.mul_comm]]
    rw [Nat.mod_mul]
    have : (2 * q + r) / 2 = q := by omega
    rw [this]
    omega
  have e3 : q % 2 ^ (b + 1) = 0 ↔ q % 2 ^ b = 0 ∧ q / 2 ^ b % 2 = 0 := by
    rw [Nat.pow_succ, Nat.mod_mul]
    have hp := Nat.two_pow_pos b
    constructor
    · intro h
      have h4 : q % 2 ^ b = 0 := by omega
      rw [h4, Nat.zero_add] at h
      rcases Nat.mul_eq_zero.1 h with g | g
      · omega
      · exact ⟨h4, g⟩
    · rintro ⟨h4, h5⟩
      rw [h4, h5]
      rfl
  rw [e1]
  by_cases c : V % d = 0 ∧ q % 2 ^ b = 0
  · rw [if_pos c]
    by_cases g : q / 2 ^ b % 2 = 0
    · rw [if_pos (e2.2 ⟨h3.2 c.1, e3.2 ⟨c.2, g⟩⟩)]
      omega
    · rw [if_neg (fun h => g (e3.1 (e2.1 h).2).2)]
      omega
  · rw [if_neg c, if_neg (fun h => c ⟨h3.1 (e2.1 h).1, (e3.1 (e2.1 h).2).1⟩)]
theorem stick_low : ∀ M, M < 4 → rungOf Ieee.single (stick M 2) (-151) = rungOf Ieee.single M (-152) := by decide +kernel
theorem ex_top {V d b : Nat} (hb : b = blen (V / d) - 53) : rungOf Ieee.single (stick (sqV V d 0) (b + 2)) ((b : Int) - 151) = exR V d := by
  unfold exR
  have hz := sqV_zero V d
  rcases Nat.lt_or_ge (sqV V d 0) 4 with h | h
  · have hq : V / d < 2 := by split at hz <;> omega
    have hb0 : b = 0 := by
      have h1 := blen_le (n := V / d) (k := 1) (by omega)
      omega
    subst hb0
    exact stick_low _ h
  · have hM : sqV V d 0 ≠ 0 := by omega
    have hlog : b + 2 ≤ (sqV V d 0).log2 ∧ (b = 0 ∨ b + 53 ≤ (sqV V d 0).log2) := by
      rcases Nat.eq_zero_or_pos b with g | g
      · subst g
        exact ⟨(Nat.le_log2 hM).2 h, Or.inl rfl⟩
      · have hq : V / d ≠ 0 := by
          intro h0
          rw [h0] at hb
          unfold blen at hb
          rw [if_pos rfl] at hb
          omega
        have h1 : blen (V / d) = (V / d).log2 + 1 := if_neg hq
        have h2 : 2 ^ (V / d).log2 ≤ V / d := Nat.log2_self_le hq
        have h3 : 2 ^ ((V / d).log2 + 1) ≤ sqV V d 0 := by
          rw [Nat.pow_succ, hz]
          omega
        have h4 := (Nat.le_log2 hM).2 h3
        exact ⟨by omega, Or.inr (by omega)⟩
    have := rung_stick Ieee.single (M := sqV V d 0) (k := b + 2) (-152) hlog.1 hM (by
      have h5 := last_ge Ieee.single (sqV V d 0) (-152)
      rw [show Ieee.single.leastPlace = -149 by decide] at h5
      rcases hlog.2 with g | g
      · omega
      · unfold lastOf
        rw [show (Ieee.single.fractionBits : Int) = 23 from rfl]
        omega)
    rw [← this]
    congr 1
    omega
theorem top_lt {V d b : Nat} (hb : b = blen (V / d) - 53) : stick (sqV V d 0) (b + 2) < 2 ^ 53 := by
  have h1 := blen_lt (V / d)
  have h2 : V / d / 2 ^ b < 2 ^ 53 := by
    rw [Nat.div_lt_iff_lt_mul (Nat.two_pow_pos b), ← Nat.pow_add]
    exact Nat.lt_of_lt_of_le h1 (Nat.pow_le_pow_right (by decide) (by omega))
  rw [top_stick]
  split
  · exact h2
  · have : (2 : Nat) ^ 53 = 2 * 4503599627370496 := by decide
    omega
theorem top_pos {V d b : Nat} (hV : 0 < V) (hd : 0 < d) (hb : b = blen (V / d) - 53) : 0 < stick (sqV V d 0) (b + 2) := by
  rw [top_stick]
  split
  · rename_i h
    have hq : V / d ≠ 0 := by
      intro h0
      have := Nat.div_add_mod V d
      rw [h0, h.1, Nat.mul_zero] at this
      omega
    have h2 : 2 ^ b ≤ V / d := by
      refine Nat.le_trans (Nat.pow_le_pow_right (by decide) ?_) (Nat.log2_self_le hq)
      have h1 : blen (V / d) = (V / d).log2 + 1 := if_neg hq
      omega
    exact Nat.div_pos h2 (Nat.two_pow_pos b)
  · omega
end Go.Proofs.YtnjagokojdpgpabDoor

/- Numbers of five words: what they stand for. -/
import Derived.Test.YtjjjgdpgfndbdaaDoorG45b63b46
import Derived.Test.YtjjjgdpgfndbdaaDoorGafca0475
namespace Go.Proofs.YtjjjgdpgfndbdaaDoor
open Go.RowKit
set_option linter.unusedVariables false
set_option linter.unusedSimpArgs false

theorem cyS_add (N T : Nat → Nat) : ∀ i, cyS addC N T i = cyV N T i := by
  intro i
  induction i with
  | zero => rfl
  | succ i ih => show addC _ _ _ = addC _ _ _; rw [ih]
theorem dgS_add (N T : Nat → Nat) : dgS addE addC N T = dgV N T := by
  funext i
  show addE _ _ _ = addE _ _ _
  rw [cyS_add]
theorem dgS_eq (sE sC : Nat → Nat → Nat → Nat) (N T : Nat → Nat) (i : Nat) : dgS sE sC N T i = sE (N i) (T i) (cyS sC N T i) := rfl
theorem cyS_eq (sC : Nat → Nat → Nat → Nat) (N T : Nat → Nat) (i : Nat) : cyS sC N T (i + 1) = sC (N i) (T i) (cyS sC N T i) := rfl
theorem sub_fact {n t c : Nat} (hn : n < m64) (ht : t < m64) (hc : c ≤ 1) : subE n t c + t + c = n + subC n t c * m64 := by
  unfold subE subC m64 at *
  split <;> omega
theorem valW_succ (N : Nat → Nat) (i : Nat) : valW N (i + 1) = valW N i + N i * m64 ^ i := rfl
theorem two64 : (2 : Nat) ^ 64 = m64 := by unfold m64; decide
theorem words_alg {a4 a8 a7 d t n c1 c0 G M : Nat} (ih : a4 + a8 = a7 + c0 * G) (h1 : d + t + c0 = n + c1 * M) : a4 + d * G + (a8 + t * G) = a7 + n * G + c1 * (G * M) := by
  have h2 : (d + t + c0) * G = (n + c1 * M) * G := by rw [h1]
  rw [Nat.add_mul, Nat.add_mul, Nat.add_mul, Nat.mul_assoc, Nat.mul_comm M G] at h2
  omega
theorem sh_alg (X G M : Nat) : 0 + X % M * G + X / M * (G * M) = X * G := by
  have h := Nat.mod_add_div X M
  have h2 : (X % M + M * (X / M)) * G = X * G := by rw [h]
  rw [Nat.add_mul, Nat.mul_comm M, Nat.mul_assoc, Nat.mul_comm M G] at h2
  omega
theorem words_base {X : Nat} (h : X = 0) (a b c G : Nat) (ha : a = 0) (hb : b = 0) (hc : c = 0) : a + b = c + X * G := by
  rw [ha, hb, hc, h, Nat.zero_mul]
theorem valW_none (N : Nat → Nat) : valW N 0 = 0 := rfl
theorem cyS_none (sC : Nat → Nat → Nat → Nat) (N T : Nat → Nat) : cyS sC N T 0 = 0 := rfl
theorem sub_words {N T : Nat → Nat} (hN : ∀ i, N i < m64) (hT : ∀ i, T i < m64) : ∀ i, valW (dgS subE subC N T) i + valW T i = valW N i + cyS subC N T i * m64 ^ i := by
  intro i
  induction i with
  | zero => exact words_base (cyS_none _ _ _) _ _ _ _ (valW_none _) (valW_none _) (valW_none _)
  | succ i ih =>
    rw [valW_succ, valW_succ, valW_succ]
    have h1 : dgS subE subC N T i + T i + cyS subC N T i = N i + cyS subC N T (i + 1) * m64 := by
      rw [dgS_eq, cyS_eq]
      exact sub_fact (hN i) (hT i) (cyS_le ok_sub hN hT i)
    rw [Nat.pow_succ]
    exact words_alg ih h1
theorem subE_lt (n t c : Nat) : subE n t c < m64 := by unfold subE; exact Nat.mod_lt _ (by decide)
theorem dgS_sub_lt (N T : Nat → Nat) (i : Nat) : dgS subE subC N T i < m64 := by rw [dgS_eq]; exact subE_lt _ _ _
theorem sh_div {sz sh : Nat} (h1 : sh < 64) : sz * 2 ^ sh / m64 = sz / 2 ^ (64 - sh) := by
  have : m64 = 2 ^ (64 - sh) * 2 ^ sh := by rw [← Nat.pow_add, show 64 - sh + sh = 64 by omega, two64]
  rw [this, Nat.mul_div_mul_right _ _ (Nat.pow_pos (by decide))]
theorem shW_at (sz i0 sh : Nat) : shW sz i0 sh i0 = sz * 2 ^ sh % m64 := if_pos rfl
theorem shW_next (sz i0 sh : Nat) : shW sz i0 sh (i0 + 1) = sz / 2 ^ (64 - sh) := by unfold shW; rw [if_neg (by omega), if_pos rfl]
theorem shW_off (sz : Nat) {i0 sh k : Nat} (h : k ≠ i0) (h' : k ≠ i0 + 1) : shW sz i0 sh k = 0 := by unfold shW; rw [if_neg h, if_neg h']
/-- A shifted size. -/
theorem sh_val {sz i0 sh : Nat} (h0 : i0 < 4) (h1 : sh < 64) : valW (shW sz i0 sh) 5 = sz * 2 ^ (64 * i0 + sh) := by
  have hlt : ∀ k, k ≤ i0 → valW (shW sz i0 sh) k = 0 := by
    intro k
    induction k with
    | zero => intro _; rfl
    | succ k ih =>
      intro hk
      rw [valW_succ, ih (by omega)]
      rw [shW_off sz (by omega) (by omega)]
      simp
  have hx : valW (shW sz i0 sh) (i0 + 2) = sz * 2 ^ (64 * i0 + sh) := by
    rw [show i0 + 2 = i0 + 1 + 1 from rfl, valW_succ, valW_succ]
    rw [hlt i0 (Nat.le_refl _)]
    have e5 : sz * 2 ^ (64 * i0 + sh) = sz * 2 ^ sh * m64 ^ i0 := by
      rw [Nat.pow_add, Nat.pow_mul, two64, Nat.mul_comm (m64 ^ i0), Nat.mul_assoc]
    rw [shW_at, shW_next, e5, ← sh_div h1, Nat.pow_succ]
    exact sh_alg _ _ _
  have hgt : ∀ k, valW (shW sz i0 sh) (i0 + 2 + k) = valW (shW sz i0 sh) (i0 + 2) := by
    intro k
    induction k with
    | zero => rw [Nat.add_zero]
    | succ k ih =>
      have e1 : valW (shW sz i0 sh) (i0 + 2 + (k + 1)) = valW (shW sz i0 sh) (i0 + 2 + k) + shW sz i0 sh (i0 + 2 + k) * m64 ^ (i0 + 2 + k) := valW_succ _ _
      have e2 : shW sz i0 sh (i0 + 2 + k) = 0 := shW_off sz (by omega) (by omega)
      rw [e1, ih, e2, Nat.zero_mul, Nat.add_zero]
  rw [← hx, ← hgt (3 - i0), show i0 + 2 + (3 - i0) = 5 by omega]
/-- Words that stand for a whole number. -/
structure Rep (N : Nat → Nat) (z : Int) : Prop where
  lt : ∀ i, N i < m64
  eq : ((valW N 5 : Nat) : Int) = z % ((m64 ^ 5 : Nat) : Int)
theorem m5_pos : (0 : Int) < ((m64 ^ 5 : Nat) : Int) := Int.natCast_pos.2 (Nat.pow_pos (by decide))
theorem valW_nil : ∀ i, valW (fun _ => 0) i = 0 := by
  intro i
  induction i with
  | zero => rfl
  | succ i ih => show valW _ i + 0 * _ = 0; rw [ih, Nat.zero_mul]
theorem Rep.nil : Rep (fun _ => 0) 0 := ⟨fun _ => by decide, by rw [valW_nil]; simp⟩
theorem emod_of {a z : Int} {M : Int} (hM : 0 < M) (h0 : 0 ≤ a) (h1 : a < M) (k : Int) (h : a = z + k * M) : a = z % M := by
  have : z % M = a % M := by rw [h, Int.add_mul_emod_self_right]
  rw [this, Int.emod_eq_of_lt h0 h1]
theorem Rep.plus {N M : Nat → Nat} {z y : Int} (h : Rep N z) (g : Rep M y) : Rep (dgV N M) (z + y) := by
  refine ⟨dg_lt N M, ?_⟩
  have hs := sum_words N M 5
  have hl := valW_lt (dg_lt N M) 5
  have h1 : ((valW N 5 + valW M 5 : Nat) : Int) % ((m64 ^ 5 : Nat) : Int) = (z + y) % ((m64 ^ 5 : Nat) : Int) := by
    rw [Int.natCast_add, h.eq, g.eq, Int.emod_add_emod, Int.add_emod_emod]
  rw [← h1, ← hs]
  rw [Int.natCast_add, Int.natCast_mul, Int.add_mul_emod_self_right]
  exact (Int.emod_eq_of_lt (Int.natCast_nonneg _) (by exact_mod_cast hl)).symm
theorem Rep.minus {N T : Nat → Nat} {z : Int} {y : Nat} (h : Rep N z) (hT : ∀ i, T i < m64) (hy : valW T 5 = y) : Rep (dgS subE subC N T) (z - y) := by
  refine ⟨dgS_sub_lt N T, ?_⟩
  have hs := sub_words h.lt hT 5
  have hl := valW_lt (dgS_sub_lt N T) 5
  rw [hy] at hs
  have h1 : ((valW N 5 : Nat) : Int) % ((m64 ^ 5 : Nat) : Int) = z % ((m64 ^ 5 : Nat) : Int) := by rw [h.eq, Int.emod_emod_of_dvd _ (Int.dvd_refl _)]
  have h2 : ((valW (dgS subE subC N T) 5 : Nat) : Int) = (valW N 5 : Int) - y + (cyS subC N T 5 : Int) * ((m64 ^ 5 : Nat) : Int) := by
    have : ((valW (dgS subE subC N T) 5 + y : Nat) : Int) = ((valW N 5 + cyS subC N T 5 * m64 ^ 5 : Nat) : Int) := by rw [hs]
    rw [Int.natCast_add, Int.natCast_add, Int.natCast_mul] at this
    omega
  have h3 : ((valW N 5 : Int) - y) % ((m64 ^ 5 : Nat) : Int) = (z - y) % ((m64 ^ 5 : Nat) : Int) := by
    rw [Int.sub_emod, h1, ← Int.sub_emod]
  rw [← h3]
  exact emod_of m5_pos (Int.natCast_nonneg _) (by exact_mod_cast hl) _ h2
/-- A finite sample in units. -/
def unZ (s : Nat) : Int := if s < 2147483648 then ((szS s * 2 ^ atS s : Nat) : Int) else -((szS s * 2 ^ atS s : Nat) : Int)
theorem atS_lt {s : Nat} (h : s / 8388608 % 256 < 255) : atS s < 256 := by unfold atS; split <;> omega
theorem szS_lt (s : Nat) : szS s < 16777216 := by unfold szS; split <;> omega
theorem sh_at {s : Nat} (h : s / 8388608 % 256 < 255) : valW (shW (szS s) (atS s / 64) (atS s % 64)) 5 = szS s * 2 ^ atS s := by
  have h1 := atS_lt h
  rw [sh_val (by omega) (by omega), show 64 * (atS s / 64) + atS s % 64 = atS s by omega]
theorem shl_lt {s : Nat} (i : Nat) : shW (szS s) (atS s / 64) (atS s % 64) i < m64 := sh_lt (Nat.lt_trans (szS_lt s) (by decide)) i
theorem Rep.add {N : Nat → Nat} {z : Int} {s : Nat} (h : Rep N z) (hs : s / 8388608 % 256 < 255) : Rep (adS N s) (z + unZ s) := by
  unfold adS unZ
  by_cases g : s < 2147483648
  · rw [if_pos g, if_pos g, dgS_add]
    refine h.plus ⟨shl_lt, ?_⟩
    rw [sh_at hs]
    refine (Int.emod_eq_of_lt (Int.natCast_nonneg _) ?_).symm
    have h1 := valW_lt (N := shW (szS s) (atS s / 64) (atS s % 64)) shl_lt 5
    rw [sh_at hs] at h1
    exact_mod_cast h1
  · rw [if_neg g, if_neg g, ← Int.sub_eq_add_neg]
    exact h.minus shl_lt (sh_at hs)
/-- Of a number that isn't too great: its sign, and its size. -/
theorem top_val (N : Nat → Nat) (h : ∀ i, N i < m64) : (9223372036854775808 ≤ N 4 ↔ m64 ^ 5 ≤ 2 * valW N 5) := by
  have h4 : valW N 5 = valW N 4 + N 4 * m64 ^ 4 := rfl
  have h1 := valW_lt h 4
  have e : m64 ^ 5 = 2 * (9223372036854775808 * m64 ^ 4) := by
    rw [Nat.pow_succ, ← Nat.mul_assoc, Nat.mul_comm]
    rfl
  generalize m64 ^ 4 = G at *
  rw [e, h4]
  constructor
  · intro g
    have := Nat.mul_le_mul_right G g
    omega
  · intro g
    rcases Nat.lt_or_ge (N 4) 9223372036854775808 with k | k
    · exfalso
      have := Nat.mul_le_mul_right G (show N 4 + 1 ≤ 9223372036854775808 from k)
      rw [Nat.add_mul, Nat.one_mul] at this
      omega
    · exact k
theorem Rep.pos {N : Nat → Nat} {z : Int} (h : Rep N z) (h0 : 0 ≤ z) (h1 : 2 * z < ((m64 ^ 5 : Nat) : Int)) : ((valW N 5 : Nat) : Int) = z ∧ ¬ 9223372036854775808 ≤ N 4 := by
  have e : ((valW N 5 : Nat) : Int) = z := by rw [h.eq, Int.emod_eq_of_lt h0 (by omega)]
  refine ⟨e, fun g => ?_⟩
  have g := (top_val N h.lt).1 g
  generalize m64 ^ 5 = G at *
  omega
theorem Rep.neg {N : Nat → Nat} {z : Int} (h : Rep N z) (h0 : z < 0) (h1 : -((m64 ^ 5 : Nat) : Int) ≤ 2 * z) : ((valW (negW N) 5 : Nat) : Int) = -z ∧ 9223372036854775808 ≤ N 4 := by
  have e : ((valW N 5 : Nat) : Int) = z + ((m64 ^ 5 : Nat) : Int) := by
    rw [h.eq]
    have : z % ((m64 ^ 5 : Nat) : Int) = (z + ((m64 ^ 5 : Nat) : Int)) % ((m64 ^ 5 : Nat) : Int) := by rw [Int.add_emod_right]
    rw [this, Int.emod_eq_of_lt (by omega) (by omega)]
  have hl := valW_lt h.lt 5
  have hne : valW N 5 ≠ 0 := by
    intro g
    rw [g] at e
    have := m5_pos
    omega
  have hn := neg_words h.lt hne
  constructor
  · generalize m64 ^ 5 = G at *
    omega
  · refine (top_val N h.lt).2 ?_
    generalize m64 ^ 5 = G at *
    omega
theorem neg_lt (N : Nat → Nat) (i : Nat) : negW N i < m64 := dg_lt _ _ i
theorem valW_zero {N : Nat → Nat} : ∀ i, (valW N i = 0 ↔ ∀ j, j < i → N j = 0) := by
  intro i
  induction i with
  | zero => exact ⟨fun _ j h => by omega, fun _ => rfl⟩
  | succ i ih =>
    show valW N i + N i * m64 ^ i = 0 ↔ _
    have hp : 0 < m64 ^ i := Nat.pow_pos (by decide)
    constructor
    · intro h j hj
      have h1 : valW N i = 0 := by omega
      have h2 : N i * m64 ^ i = 0 := by omega
      rcases Nat.lt_or_ge j i with g | g
      · exact ih.1 h1 j g
      · obtain rfl : j = i := by omega
        rcases Nat.mul_eq_zero.1 h2 with k | k
        · exact k
        · omega
    · intro h
      rw [ih.2 (fun j hj => h j (by omega)), h i (by omega)]
      simp
end Go.Proofs.YtjjjgdpgfndbdaaDoor
/- What the reference's Minus, NatOf, Low and Bit return of whole numbers in memory. -/
namespace Go.Proofs.YtjjjgdpgfndbdaaDoor
open Go.RowKit

theorem minus_rel {w wr : World} {M d b k c : Nat} (X : Int) (c1 : Nat) (hX : X = dig d k) (hP : Part w wr M d k)
    (hQ : (d + b) / 4294967296 ^ (k + 1) = d / 4294967296 ^ (k + 1) + b / 4294967296 ^ (k + 1) + (c + dig d k + dig b k) / 4294967296)
    (h1 : c1 = (c + dig d k + dig b k) / 4294967296) (hk : k < M) (hc : c1 ≤ 1) :
    ∃ k' c' : Nat, k' ≤ M ∧ M - (k + 1) = M - k' ∧ Value.int .u64 c1 = .int .u64 c' ∧ Value.int .i64 ((k : Int) + 1) = .int .i64 k' ∧
      Part w (wr.setCell { block := w.heap.size, off := k } (.int .u32 X)) M d k' ∧ (d + b) / 4294967296 ^ k' = d / 4294967296 ^ k' + b / 4294967296 ^ k' + c' ∧ c' ≤ 1 :=
  ⟨k + 1, c1, by omega, rfl, rfl, by simp, part_step' hP hX, by rw [h1]; exact hQ, hc⟩

set_option maxHeartbeats 4000000 in
theorem minus_any (va vb : Value) (a b : Nat) (w : World) (ha : NatAt w va a) (hb : NatAt w vb b) (hs : a < cap) (hab : b ≤ a) :
    Calls Tryd.prog 98 #[va, vb] w fun e w' => ∃ v, e = .returned v ∧ NatAt w' v (a - b) ∧ Q w w' := by
  obtain ⟨pa, ba, La, Ca, rfl, ha⟩ := ha
  obtain ⟨pb, bb, Lb, Cb, rfl, hb⟩ := hb
  have hla := ha.len_cap (by omega)
  have hlb := hb.len_cap (by omega)
  obtain ⟨d, rfl⟩ : ∃ d, a = d + b := ⟨a - b, by omega⟩
  rw [Nat.add_sub_cancel]
  have hmk := run_make_row' (P := Tryd.prog) 78 25 (.int .u32 0) 4 Tryd.underlying78 info_u32 rfl .i64 .i64 La (by omega) (by omega)
  have q0 : (d + b) / 4294967296 ^ 0 = d / 4294967296 ^ 0 + b / 4294967296 ^ 0 + 0 := by rw [quo_zero, quo_zero, quo_zero]; rfl
  have HL : Hid (d < 4294967296 ^ La) := Nat.lt_of_le_of_lt (by omega) ha.hi
  go_enter Tryd.func98, Tryd.ntmps98
  go_wp2
  clear hmk
  go_loopg [6, 7] La (fun g s6 s7 wr => ∃ k c : Nat, k ≤ La ∧ g = La - k ∧ s6 = .int .u64 c ∧ s7 = .int .i64 k ∧ Part w wr La d k ∧ (d + b) / 4294967296 ^ k = d / 4294967296 ^ k + b / 4294967296 ^ k + c ∧ c ≤ 1)
  case atStart => exact ⟨0, 0, Nat.zero_le _, rfl, rfl, rfl, part_start w La _, q0, by decide⟩
  case round =>
    obtain ⟨k, c, hk, rfl, rfl, rfl, hP, hq, hc⟩ := hrel
    have hS := sum_dig hq
    have hda := dig_lt (d + b) k
    have hdb := dig_lt b k
    have hdd := dig_lt d k
    clear hq q0
    by_cases hkM : k < La
    · have hkz : (k : Int) < (La : Int) := by omega
      have f1 := part_open hP hkM
      have f2 := hP.row.frozen k
      obtain rfl := ha.ptr (by omega)
      have ca := hP.q.cell (ha.cell k hkM)
      have hlt : ((dig (d + b) k : Int) < (c : Int) + dig b k ∧ (dig (d + b) k : Int) + 4294967296 - ((c : Int) + dig b k) = dig d k ∧ 1 = (c + dig d k + dig b k) / 4294967296) ∨
          (¬ (dig (d + b) k : Int) < (c : Int) + dig b k ∧ (dig (d + b) k : Int) - ((c : Int) + dig b k) = dig d k ∧ 0 = (c + dig d k + dig b k) / 4294967296) := by
        have := hS.1
        omega
      have HS : Hid _ := hS.2
      clear hS
      have Hlt : Hid _ := hlt
      clear hlt
      by_cases h2 : k < Lb
      · obtain rfl := hb.ptr (by omega)
        have h2z : (k : Int) < (Lb : Int) := by omega
        have cb := hP.q.cell (hb.cell k h2)
        rcases Hlt.out with ⟨g1, g2, g3⟩ | ⟨g1, g2, g3⟩
        · have G3 : Hid _ := g3
          clear g3
          go_wp2
          go_roundg (La - (k + 1))
          case measure => go_light; omega
          case rel => go_light; exact minus_rel _ 1 rfl hP HS.out G3.out hkM (by decide)
        · have G3 : Hid _ := g3
          clear g3
          go_wp2
          go_roundg (La - (k + 1))
          case measure => go_light; omega
          case rel => go_light; exact minus_rel _ 0 rfl hP HS.out G3.out hkM (by decide)
      · have h2z : ¬ (k : Int) < (Lb : Int) := by omega
        have e2 := dig_end hb.hi (i := k) (by omega)
        have E2 : Hid _ := e2
        rcases Hlt.out with ⟨g1, g2, g3⟩ | ⟨g1, g2, g3⟩
        · have G3 : Hid _ := g3
          have g1' : (dig (d + b) k : Int) < (c : Int) := by omega
          have g2' : (dig (d + b) k : Int) + 4294967296 - (c : Int) = dig d k := by omega
          clear g3 g1 g2 e2
          go_wp2
          go_roundg (La - (k + 1))
          case measure => go_light; omega
          case rel => go_light; exact minus_rel _ 1 rfl hP HS.out G3.out hkM (by decide)
        · have G3 : Hid _ := g3
          have g1' : ¬ (dig (d + b) k : Int) < (c : Int) := by omega
          have g2' : (dig (d + b) k : Int) - (c : Int) = dig d k := by omega
          clear g3 g1 g2 e2
          go_wp2
          go_roundg (La - (k + 1))
          case measure => go_light; omega
          case rel => go_light; exact minus_rel _ 0 rfl hP HS.out G3.out hkM (by decide)
    · have hkz : ¬ (k : Int) < (La : Int) := by omega
      obtain rfl : k = La := by omega
      go_wp2_with fail
      refine (trimmed_any _ k k d wr (part_done hP) HL.out (by omega) (Nat.le_refl _)).mono ?_
      rintro e w' ⟨L', C', rfl, hN, rfl⟩
      go_wp2_with fail
      go_ret
      exact ⟨_, rfl, ⟨_, _, _, _, rfl, hN⟩, hP.q⟩

/-- How many digits a number of 64 bits has. -/
def len64 (n : Nat) : Nat := if n = 0 then 0 else if n < 4294967296 then 1 else 2
theorem len64_unique {w : World} {p : Option Addr} {b L n : Nat} (h : NatIs w p b L n) (hn : n < 18446744073709551616) : L = len64 n := by
  have h2 := h.len_le (k := 2) (by omega)
  unfold len64
  by_cases h0 : n = 0
  · rw [if_pos h0]; exact h.pos.1 h0
  · rw [if_neg h0]
    have hL : L ≠ 0 := fun e => h0 (h.pos.2 e)
    by_cases h1 : n < 4294967296
    · rw [if_pos h1]
      have := h.len_le (k := 1) (by omega)
      omega
    · rw [if_neg h1]
      rcases (by omega : L = 1 ∨ L = 2) with e | e
      · subst e
        have := h.hi
        omega
      · exact e
/-- Two digits that lie somewhere. -/
theorem natAt_two {w : World} {b n C : Nat} (hn : n < 18446744073709551616) (h0 : w.cell? ⟨b, 0, none⟩ = some (.int .u32 ((n : Int) % 4294967296))) (h1 : w.cell? ⟨b, 1, none⟩ = some (.int .u32 ((n : Int) / 4294967296))) :
    NatAt w (.slice (some ⟨b, 0, none⟩) (len64 n) C) n := by
  refine ⟨_, b, _, C, rfl, fun _ => rfl, fun i hi => ?_, ?_, ?_, ?_⟩
  · have hi2 : i < 2 := Nat.lt_of_lt_of_le hi (by unfold len64; split <;> (try split) <;> omega)
    rcases (by omega : i = 0 ∨ i = 1) with rfl | rfl
    · rw [h0]; congr 2; unfold dig; rw [quo_zero]; rfl
    · rw [h1]; congr 2; unfold dig; rw [Nat.pow_one]; omega
  · unfold len64; split
    · omega
    · split <;> omega
  · unfold len64; split
    · omega
    · split
      · intro _; omega
      · intro _; omega
  · unfold len64; split
    · omega
    · split <;> omega

set_option maxHeartbeats 800000 in
theorem natof_any (n : Nat) (w : World) (hn : n < 18446744073709551616) :
    Calls Tryd.prog 86 #[.int .u64 n] w fun e w' => ∃ C, e = .returned (.slice (some ⟨w.heap.size, 0, none⟩) (len64 n) C) ∧ w' = w.alloc (.cells #[.int .u32 ((n : Int) % 4294967296), .int .u32 ((n : Int) / 4294967296)] 25) := by
  have m1 := and_mask (n : Int) (by omega) (by omega)
  have hc : ∀ i, i < 2 → (w.alloc (.cells #[.int .u32 ((n : Int) % 4294967296), .int .u32 ((n : Int) / 4294967296)] 25)).cell? ⟨w.heap.size, i, none⟩ = some (.int .u32 (dig n i)) := by
    intro i hi
    have := (World.rowIs_alloc w #[.int .u32 ((n : Int) % 4294967296), .int .u32 ((n : Int) / 4294967296)] 25 (fun i => .int .u32 (dig n i)) (by
      intro i hi
      have hi' : i < 2 := hi
      rcases (by omega : i = 0 ∨ i = 1) with rfl | rfl
      · show some (Value.int .u32 ((n : Int) % 4294967296)) = _
        congr 2; unfold dig; rw [quo_zero]; rfl
      · show some (Value.int .u32 ((n : Int) / 4294967296)) = _
        congr 2; unfold dig; rw [Nat.pow_one]; omega)).cell (i := i) hi
    exact this
  go_enter Tryd.func86, Tryd.ntmps86
  go_wp2_with fail
  refine (trimmed_any _ 2 2 n _ hc (by omega) (by decide) (Nat.le_refl _)).mono ?_
  rintro e w' ⟨L', C', rfl, hN, rfl⟩
  rw [len64_unique hN hn]
  go_wp2_with fail
  go_ret
  exact ⟨_, rfl, rfl⟩
/-- The same, as the others are told. -/
theorem natof_nat (n : Nat) (w : World) (hn : n < 18446744073709551616) :
    Calls Tryd.prog 86 #[.int .u64 n] w fun e w' => ∃ v, e = .returned v ∧ NatAt w' v n ∧ Q w w' := by
  refine (natof_any n w hn).mono ?_
  rintro e w' ⟨C, rfl, rfl⟩
  refine ⟨_, rfl, natAt_two hn ?_ ?_, (Q.refl w).cells _ _⟩
  · simp [go_sem]
  · simp [go_sem]

theorem or_hi (x y : Nat) (hx : x < 4294967296) (hy : y < 4294967296) : bits .or .u64 (x : Int) ((y : Int) * 4294967296) = ((x + y * 4294967296 : Nat) : Int) := by
  have e : (y : Int) * 4294967296 = ((y * 4294967296 : Nat) : Int) := by omega
  rw [e, u64_or_nat _ _ (by omega) (by omega), Nat.or_comm, Nat.mul_comm y, show (4294967296 : Nat) = 2 ^ 32 from rfl, ← Nat.two_pow_add_eq_or_of_lt (i := 32) hx y, Nat.add_comm]

def lowV (n : Nat) : Nat := n % 18446744073709551616
set_option maxHeartbeats 800000 in
theorem low_any (va : Value) (n : Nat) (w : World) (ha : NatAt w va n) :
    Calls Tryd.prog 87 #[va] w fun e w' => e = .returned (.int .u64 (lowV n : Int)) ∧ w' = w := by
  obtain ⟨pa, ba, La, Ca, rfl, ha⟩ := ha
  have d0 := dig_lt n 0
  have d1 := dig_lt n 1
  have hlen := ha.len
  have hor := or_hi _ _ d0 d1
  have e0 : dig n 0 = n % 4294967296 := by unfold dig; rw [quo_zero]
  have e1 : dig n 1 = n / 4294967296 % 4294967296 := by unfold dig; rw [Nat.pow_one]
  have E0 : Hid _ := e0
  have E1 : Hid _ := e1
  clear e0 e1
  rcases Nat.eq_zero_or_pos La with rfl | hpos
  · have h0 := ha.pos.2 rfl
    subst h0
    go_enter Tryd.func87, Tryd.ntmps87
    go_wp2
    go_ret
    exact ⟨ret_int (by decide), rfl⟩
  · obtain rfl := ha.ptr hpos
    have c0 := ha.cell 0 hpos
    by_cases h1 : La = 1
    · subst h1
      go_enter Tryd.func87, Tryd.ntmps87
      go_wp2
      go_ret
      have := ha.hi
      rw [Nat.pow_one] at this
      exact ⟨ret_int (by have := E0.out; unfold lowV; omega), rfl⟩
    · have h1z : (1 : Int) < (La : Int) := by omega
      have h0z : (0 : Int) < (La : Int) := by omega
      have c1 := ha.cell 1 (by omega)
      go_enter Tryd.func87, Tryd.ntmps87
      go_wp2
      go_ret
      exact ⟨ret_int (by have := E0.out; have := E1.out; unfold lowV; omega), rfl⟩

/-- The i-th bit; the lowest 64. -/
def bitV (n i : Nat) : Nat := n / 2 ^ i % 2
theorem bitV_le (n i : Nat) : bitV n i ≤ 1 := by unfold bitV; omega

theorem dig_bit (n q r : Nat) (hr : r < 32) : dig n q / 2 ^ r % 2 = bitV n (32 * q + r) := by
  unfold dig bitV
  rw [Nat.pow_add, ← base_pow, ← Nat.div_div_eq_div_mul]
  generalize n / 4294967296 ^ q = x
  have e : 4294967296 = 2 ^ r * (2 * 2 ^ (31 - r)) := by rw [show 2 * 2 ^ (31 - r) = 2 ^ (31 - r + 1) by rw [Nat.pow_succ]; omega, ← Nat.pow_add, show r + (31 - r + 1) = 32 by omega]
  rw [e, Nat.mod_mul, Nat.mul_comm (2 ^ r), Nat.add_mul_div_right _ _ (Nat.two_pow_pos r), Nat.div_eq_of_lt (Nat.mod_lt _ (Nat.two_pow_pos r)), Nat.zero_add]
  rw [Nat.mod_mod_of_dvd _ ⟨_, rfl⟩]

set_option maxHeartbeats 800000 in
theorem bit_any (va : Value) (n i : Nat) (w : World) (ha : NatAt w va n) (hi : i ≤ 20000) :
    Calls Tryd.prog 82 #[va, .int .i64 i] w fun e w' => e = .returned (.int .i64 (bitV n i : Int)) ∧ w' = w := by
  obtain ⟨pa, ba, La, Ca, rfl, ha⟩ := ha
  obtain ⟨q, r, hq, hr⟩ : ∃ q r : Nat, i = 32 * q + r ∧ r < 32 := ⟨i / 32, i % 32, by omega, by omega⟩
  obtain ⟨e1, e2⟩ := i64_quo32 i q r hq hr
  have hB := dig_bit n q r hr
  rw [← hq] at hB
  have HN : Hid (i = 32 * q + r) := hq
  have hq6 : q ≤ 625 := by omega
  clear hq
  have hneg : ¬ (i : Int) < 0 := by omega
  have hlen := ha.len
  have hdq := dig_lt n q
  have hlt : dig n q / 2 ^ r ≤ dig n q := Nat.div_le_self _ _
  have hm : bits .and .u32 ((dig n q : Int) / 2 ^ r) 1 = (bitV n i : Int) := by
    have e : (dig n q : Int) / 2 ^ r = ((dig n q / 2 ^ r : Nat) : Int) := by rw [Int.natCast_ediv, Int.natCast_pow]; rfl
    rw [e, ← hB, show (1 : Int) = ((1 : Nat) : Int) from rfl, u32_and_nat _ _ (by omega) (by decide), Nat.and_one_is_mod]
  have hb2 := bitV_le n i
  by_cases h : q < La
  · have hz : ¬ (La : Int) ≤ (q : Int) := by omega
    obtain rfl := ha.ptr (by omega)
    have cq := ha.cell q h
    clear hB
    go_enter Tryd.func82, Tryd.ntmps82
    go_wp2
    go_ret
    exact ⟨rfl, rfl⟩
  · have hz : (La : Int) ≤ (q : Int) := by omega
    have h0 : n / 2 ^ i = 0 := Nat.div_eq_of_lt (by
      have h1 := ha.hi
      rw [base_pow] at h1
      exact Nat.lt_of_lt_of_le h1 (Nat.pow_le_pow_right (by decide) (by have := HN.out; omega)))
    have e0 : bitV n i = 0 := by unfold bitV; rw [h0]
    rw [e0]
    clear hm hB hb2
    go_enter Tryd.func82, Tryd.ntmps82
    go_wp2
    go_ret
    exact ⟨rfl, rfl⟩
end Go.Proofs.YtjjjgdpgfndbdaaDoor

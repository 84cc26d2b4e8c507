/- Plain facts: a number rounded to binary32 lies as near as any sample; from 2^128 - 2^103 on it is an infinity. -/
import Derived.Test.YtgpgjbgobaaohaaG496ee5f3
import Derived.Test.YtgpgjbgobaaohaaGc5c93131
import Derived.Test.YtgpgjbgobaaohaaG5bc75003
namespace Go.Proofs.Ytgpgjbgobaaohaa
open Go.RowKit
set_option linter.unusedVariables false
set_option linter.unusedSimpArgs false

/-- A number's size in units of 2^-1074. -/
def zm (n : Nat) (e : Int) : Nat := n * 2 ^ (e + 1074).toNat
theorem zm_cut {n : Nat} {e b : Int} (hb : -1074 ≤ b) (h : b ≤ e) : zm n e = n * 2 ^ (e - b).toNat * 2 ^ (b + 1074).toNat := by
  unfold zm
  rw [Nat.mul_assoc, ← Nat.pow_add]
  congr 2
  omega
theorem zm_le {n k : Nat} {e f : Int} (he : -1074 ≤ e) (hf : -1074 ≤ f) : decide (n * 2 ^ (e - min e f).toNat ≤ k * 2 ^ (f - min e f).toNat) = decide (zm n e ≤ zm k f) := by
  rw [decide_eq_decide, zm_cut (b := min e f) (by omega) (by omega), zm_cut (e := f) (b := min e f) (by omega) (by omega)]
  exact (Nat.mul_le_mul_right_iff (Nat.two_pow_pos _)).symm
theorem rung_zm {n : Nat} {e : Int} (he : -1074 ≤ e) : rungOf Ieee.single n e = rungOf Ieee.single (zm n e) (-1074) := by
  unfold zm
  rw [rung_scale]
  congr 1
  omega
/-- How many digits are lost. -/
def lostZ (M : Nat) : Nat := max (M.log2 - 23) 925
theorem lastZ (M : Nat) : lastOf Ieee.single M (-1074) = -1074 + (lostZ M : Int) := by
  unfold lastOf lostZ; rw [least32, frac32]; omega
theorem kept_bdZ {M : Nat} : rne M (lostZ M) ≤ 16777216 ∧ (925 < lostZ M → 8388608 ≤ rne M (lostZ M)) := by
  have e3 : (-1074 : Int) - (-1074 + (lostZ M : Int)) = -(lostZ M : Int) := by omega
  have hk := kept_le Ieee.single M (-1074)
  rw [lastZ, e3, rz_neg, binade32] at hk
  refine ⟨hk, fun h => ?_⟩
  have hM : M ≠ 0 := by intro h0; subst h0; exact absurd h (by decide)
  have := le_kept Ieee.single hM (-1074) (by rw [lastZ, frac32]; unfold lostZ at *; omega)
  rw [lastZ, e3, rz_neg, binade32] at this
  exact this
theorem rungZ {M : Nat} (hM : M ≠ 0) : rungOf Ieee.single M (-1074) = min ((lostZ M - 925) * 8388608 + rne M (lostZ M)) 2139095040 := by
  unfold rungOf
  rw [if_neg hM, lastZ, least32, binade32, inf32, show (-1074 + (lostZ M : Int) - -149).toNat = lostZ M - 925 by unfold lostZ; omega, show (-1074 : Int) - (-1074 + (lostZ M : Int)) = -(lostZ M : Int) by omega, rz_neg]
theorem lostZ_ge (M : Nat) : 925 ≤ lostZ M := by unfold lostZ; omega
theorem valZ {M c : Nat} (hc : c = 925) (hM : M ≠ 0) (hr : rungOf Ieee.single M (-1074) < 2139095040) : val32 (rungOf Ieee.single M (-1074)) * 2 ^ c = rne M (lostZ M) * 2 ^ lostZ M := by
  rw [rungZ hM] at hr ⊢
  have h1 : (lostZ M - 925) * 8388608 + rne M (lostZ M) < 2139095040 := by omega
  rw [Nat.min_eq_left (by omega), val_of32 kept_bdZ.1 (fun h => kept_bdZ.2 (by omega)), Nat.mul_assoc, ← Nat.pow_add]
  congr 2
  have := lostZ_ge M
  omega
/-- It lies as near as any sample. -/
theorem bestZ {M c : Nat} (hc : c = 925) (hr : rungOf Ieee.single M (-1074) < 2139095040) (r : Nat) : (((val32 (rungOf Ieee.single M (-1074)) * 2 ^ c : Nat) : Int) - (M : Int)).natAbs ≤ (((val32 r * 2 ^ c : Nat) : Int) - (M : Int)).natAbs := by
  by_cases h0 : M = 0
  · subst h0
    rw [rungOf_zero, val_zero32, Nat.zero_mul]
    exact Nat.zero_le _
  · rw [valZ hc h0 hr]
    have hval : val32 r * 2 ^ c = mag32 r * 2 ^ (plc32 r + c) := by unfold val32; rw [Nat.mul_assoc, ← Nat.pow_add]
    rw [hval]
    obtain ⟨K, hK⟩ : ∃ K, K = lostZ M := ⟨_, rfl⟩
    rw [← hK]
    rcases Nat.lt_or_ge (plc32 r + c) K with h | h
    · have hl : 23 + K = M.log2 := by unfold lostZ at hK; omega
      have hm : 2 ^ (23 + K) ≤ M := by rw [hl]; exact Nat.log2_self_le h0
      have hv : mag32 r * 2 ^ (plc32 r + c) < 2 ^ (23 + K) := by
        have a1 : mag32 r * 2 ^ (plc32 r + c) < 2 ^ 24 * 2 ^ (plc32 r + c) := Nat.mul_lt_mul_of_pos_right (mag_lt32 r) (Nat.two_pow_pos _)
        rw [← Nat.pow_add] at a1
        exact Nat.lt_of_lt_of_le a1 (Nat.pow_le_pow_right (by decide) (by omega))
      have hb := rne_best M K (2 ^ 23)
      rw [← Nat.pow_add] at hb
      clear hc hval
      generalize 2 ^ (23 + K) = G at hm hv hb
      generalize mag32 r * 2 ^ (plc32 r + c) = V at hv ⊢
      generalize rne M K * 2 ^ K = W at hb ⊢
      omega
    · have e : mag32 r * 2 ^ (plc32 r + c) = mag32 r * 2 ^ (plc32 r + c - K) * 2 ^ K := by
        rw [Nat.mul_assoc, ← Nat.pow_add, show plc32 r + c - K + K = plc32 r + c by omega]
      rw [e]
      exact rne_best M K _
theorem rne_under {M k d : Nat} (h : 2 * M < (2 * k + 1) * 2 ^ d) : rne M d ≤ k := by
  obtain ⟨h1, _⟩ := rne_near M d
  have hp := Nat.two_pow_pos d
  rcases Nat.lt_or_ge k (rne M d) with g | g
  · have : (k + 1) * 2 ^ d ≤ rne M d * 2 ^ d := Nat.mul_le_mul_right _ g
    rw [Nat.add_mul, Nat.one_mul] at this
    rw [Nat.add_mul, Nat.one_mul, Nat.mul_assoc] at h
    generalize rne M d * 2 ^ d = A at *
    generalize k * 2 ^ d = B at *
    generalize 2 ^ d = C at *
    omega
  · exact g
/-- From 2^128 - 2^103 on it is an infinity, and not below. -/
theorem great_iff {M c : Nat} (hc : c = 1177) : decide (33554431 * 2 ^ c ≤ M) = decide (rungOf Ieee.single M (-1074) = 2139095040) := by
  rw [decide_eq_decide]
  have hle : ∀ M, rungOf Ieee.single M (-1074) ≤ 2139095040 := fun M => by have := rungOf_le Ieee.single M (-1074); rw [inf32] at this; exact this
  constructor
  · intro h
    have h1 := rung_mono Ieee.single (-1074) h
    have h2 : rungOf Ieee.single (33554431 * 2 ^ c) (-1074) = 2139095040 := by
      rw [rung_scale, hc]
      decide +kernel
    rw [h2] at h1
    exact Nat.le_antisymm (hle M) h1
  · intro h
    rcases Nat.lt_or_ge M (33554431 * 2 ^ c) with g | g
    · exfalso
      have hM : M ≠ 0 := fun e => by rw [e, rungOf_zero] at h; cases h
      have hl : M.log2 < 25 + c := (Nat.log2_lt hM).2 (Nat.lt_of_lt_of_le g (by rw [Nat.pow_add]; exact Nat.mul_le_mul_right _ (by decide)))
      have hK : lostZ M ≤ c + 1 := by unfold lostZ; omega
      rw [rungZ hM] at h
      rcases Nat.lt_or_ge (lostZ M) (c + 1) with k | k
      · have := (kept_bdZ (M := M)).1
        omega
      · have hKe : lostZ M = c + 1 := by omega
        have : rne M (c + 1) ≤ 16777215 := rne_under (by
          rw [Nat.pow_succ]
          generalize 2 ^ c = G at g ⊢
          omega)
        rw [hKe] at h
        omega
    · exact g
/-- An exact sum. -/
theorem signed_zm (s : Bool) (n j : Nat) : Ieee.signed s n j = if s = true then -((n * 2 ^ j : Nat) : Int) else ((n * 2 ^ j : Nat) : Int) := by
  unfold Ieee.signed; rw [Nat.shiftLeft_eq]
theorem plus_zs (s t : Bool) (n k : Nat) (e f : Int) (g h : Bool) (he : -1074 ≤ e) (hf : -1074 ≤ f) : ∃ σ N, plusR (.fin s n e g) (.fin t k f h) = .fin σ N (min e f) false ∧ zm N (min e f) = (Ieee.signed s n (e + 1074).toNat + Ieee.signed t k (f + 1074).toNat).natAbs ∧ (N ≠ 0 → σ = decide (Ieee.signed s n (e + 1074).toNat + Ieee.signed t k (f + 1074).toNat < 0)) := by
  obtain ⟨b, hb⟩ : ∃ b, b = min e f := ⟨_, rfl⟩
  obtain ⟨x, hx⟩ : ∃ x, x = n * 2 ^ (e - b).toNat := ⟨_, rfl⟩
  obtain ⟨y, hy⟩ : ∃ y, y = k * 2 ^ (f - b).toNat := ⟨_, rfl⟩
  have zx : n * 2 ^ (e + 1074).toNat = x * 2 ^ (b + 1074).toNat := by rw [hx]; exact zm_cut (b := b) (by omega) (by omega)
  have zy : k * 2 ^ (f + 1074).toNat = y * 2 ^ (b + 1074).toNat := by rw [hy]; exact zm_cut (b := b) (by omega) (by omega)
  have hp : plusR (.fin s n e g) (.fin t k f h) = plusFin s t x y b := by rw [hx, hy, hb]; rfl
  rw [hp, signed_zm, signed_zm, zx, zy, ← hb]
  clear hp hx hy zx zy hb
  generalize hG : 2 ^ (b + 1074).toNat = G
  have hG0 : 0 < G := by rw [← hG]; exact Nat.two_pow_pos _
  have hz : ∀ N, zm N b = N * G := fun N => by unfold zm; rw [hG]
  unfold plusFin
  have key : ∀ N, N ≠ 0 → 0 < N * G := fun N hN => Nat.mul_pos (by omega) hG0
  by_cases hst : s = t
  · subst hst
    rw [if_pos rfl]
    refine ⟨s, x + y, rfl, ?_, fun hN => ?_⟩
    · rw [hz, Nat.add_mul]; split <;> omega
    · have := key _ hN
      rw [Nat.add_mul] at this
      cases s
      · rw [if_neg (by decide), if_neg (by decide), eq_comm, decide_eq_false_iff_not]; omega
      · rw [if_pos rfl, if_pos rfl, eq_comm, decide_eq_true_iff]; omega
  · rw [if_neg hst]
    by_cases hxy : x = y
    · subst hxy
      rw [if_pos rfl]
      refine ⟨false, 0, rfl, ?_, fun hN => absurd rfl hN⟩
      rw [hz, Nat.zero_mul]
      cases s <;> cases t <;> simp at hst ⊢ <;> omega
    · rw [if_neg hxy]
      by_cases hlt : y < x
      · rw [if_pos hlt]
        have hm : y * G < x * G := Nat.mul_lt_mul_of_pos_right hlt hG0
        refine ⟨s, x - y, rfl, ?_, fun _ => ?_⟩
        · rw [hz, Nat.sub_mul]
          cases s <;> cases t <;> simp at hst ⊢ <;> omega
        · cases s <;> cases t <;> simp at hst ⊢ <;> omega
      · rw [if_neg hlt]
        have hm : x * G < y * G := Nat.mul_lt_mul_of_pos_right (by omega) hG0
        refine ⟨t, y - x, rfl, ?_, fun _ => ?_⟩
        · rw [hz, Nat.sub_mul]
          cases s <;> cases t <;> simp at hst ⊢ <;> omega
        · cases s <;> cases t <;> simp at hst ⊢ <;> omega
/-- How far a sample of the same sign lies away. -/
theorem away_zs (s : Bool) (n k : Nat) (e f : Int) (g h : Bool) (he : -1074 ≤ e) (hf : -1074 ≤ f) : ∃ σ N, plusR (.fin s n e g) (.fin (!s) k f h) = .fin σ N (min e f) false ∧ zm N (min e f) = ((zm k f : Int) - (zm n e : Int)).natAbs := by
  obtain ⟨σ, N, h1, h2, _⟩ := plus_zs s (!s) n k e f g h he hf
  refine ⟨σ, N, h1, ?_⟩
  rw [h2, signed_zm, signed_zm]
  unfold zm
  cases s <;> simp <;> omega
end Go.Proofs.Ytgpgjbgobaaohaa
/- Numbers that lie in boxes: what loads and stores of them do. -/
namespace Go.Proofs.Ytgpgjbgobaaohaa
open Go.RowKit
set_option linter.unusedVariables false
set_option linter.unusedSimpArgs false

/-- The form of binary64. -/
def formV : Value := .agg #[.int .i64 52, .int .i64 11]
/-- Where that form lies. -/
structure FBox (w : World) (V : Nat) : Prop where
  c0 : w.cell? ⟨V, 0, none⟩ = some (.int .i64 52)
  c1 : w.cell? ⟨V, 1, none⟩ = some (.int .i64 11)
theorem FBox.next {w w' : World} {V : Nat} (h : FBox w V) (q : Q w w') : FBox w' V := ⟨q.cell h.c0, q.cell h.c1⟩
/-- A box of five cells. -/
structure Box5 (w : World) (V : Nat) (k : Int) (s : Bool) (p : Option Addr) (L C : Nat) (e : Int) (m : Bool) : Prop where
  c0 : w.cell? ⟨V, 0, none⟩ = some (.int .i64 k)
  c1 : w.cell? ⟨V, 1, none⟩ = some (.bool s)
  c2 : w.cell? ⟨V, 2, none⟩ = some (.slice p L C)
  c3 : w.cell? ⟨V, 3, none⟩ = some (.int .i64 e)
  c4 : w.cell? ⟨V, 4, none⟩ = some (.bool m)
theorem Box5.next {w w' : World} {V : Nat} {k : Int} {s : Bool} {p : Option Addr} {L C : Nat} {e : Int} {m : Bool} (h : Box5 w V k s p L C e m) (q : Q w w') : Box5 w' V k s p L C e m := ⟨q.cell h.c0, q.cell h.c1, q.cell h.c2, q.cell h.c3, q.cell h.c4⟩
def num5 (k : Int) (s : Bool) (p : Option Addr) (L C : Nat) (e : Int) (m : Bool) : Value := .agg #[.int .i64 k, .bool s, .slice p L C, .int .i64 e, .bool m]
/-- A number that lies in a box. -/
def NBox (w : World) (V : Nat) (X : RNum) : Prop := ∃ k s p L C e m, Box5 w V k s p L C e m ∧ NumAt w (num5 k s p L C e m) X
theorem NBox.next {w w' : World} {V : Nat} {X : RNum} (h : NBox w V X) (q : Q w w') : NBox w' V X := by
  obtain ⟨k, s, p, L, C, e, m, h1, h2⟩ := h
  exact ⟨k, s, p, L, C, e, m, h1.next q, q.num h2⟩
theorem run_form {ρ : Operand → Value} {x : World} {d : Option Tmp} {ty : TypeId} {ps : String} {af : Array Edge} {g : Option (Nat × Bool)} {j V : Nat} (h : ρ (.tmp j) = ptrV V) (b : FBox x V) : (execOp ρ { dst := d, op := .load 26 (.tmp j), type := ty, pos := ps, after := af, guard := g }).run Try.prog x = .ok (.value formV) x := by
  have c0 := b.c0
  have c1 := b.c1
  simp [execOp, h, go_sem, c0, c1, ptrV, formV]
theorem run_num {ρ : Operand → Value} {x : World} {d : Option Tmp} {ty : TypeId} {ps : String} {af : Array Edge} {g : Option (Nat × Bool)} {j V : Nat} {k : Int} {s : Bool} {p : Option Addr} {L C : Nat} {e : Int} {m : Bool} (h : ρ (.tmp j) = ptrV V) (b : Box5 x V k s p L C e m) : (execOp ρ { dst := d, op := .load 31 (.tmp j), type := ty, pos := ps, after := af, guard := g }).run Try.prog x = .ok (.value (num5 k s p L C e m)) x := by
  obtain ⟨c0, c1, c2, c3, c4⟩ := b
  simp [execOp, h, go_sem, c0, c1, c2, c3, c4, ptrV, num5]
theorem run_eql {ρ : Operand → Value} {x : World} {d : Option Tmp} {ty : TypeId} {ps : String} {af : Array Edge} {g : Option (Nat × Bool)} {j k : Nat} {n : Int} (h : ρ (.tmp j) = .int .u32 n) (h' : ρ (.tmp k) = .int .u32 n) : (execOp ρ { dst := d, op := .binOp .eql 22 (.tmp j) (.tmp k) 22, type := ty, pos := ps, after := af, guard := g }).run Try.prog x = .ok (.value (.bool true)) x := by
  simp [execOp, h, h', go_sem]
def zeroNum : Obj := .cells #[.int .i64 0, .bool false, .slice none 0 0, .int .i64 0, .bool false] 31
theorem run_newnum {ρ : Operand → Value} {x : World} {d : Option Tmp} {ty : TypeId} {ps : String} {af : Array Edge} {g : Option (Nat × Bool)} : (execOp ρ { dst := d, op := .alloc 31, type := ty, pos := ps, after := af, guard := g }).run Try.prog x = .ok (.value (ptrV x.heap.size)) (x.alloc zeroNum) := by
  simp [execOp, go_sem, zeroNum, ptrV]
/-- Laying a number into a box. -/
theorem store_num {a : Act} {x : World} {V b c : Nat} {k : Int} {s : Bool} {p : Option Addr} {L C : Nat} {e : Int} {m : Bool} {k0 : Int} {s0 : Bool} {p0 : Option Addr} {L0 C0 : Nat} {e0 : Int} {m0 : Bool} (hb : a.tmps[b]? = some (ptrV V)) (hc : a.tmps[c]? = some (num5 k s p L C e m)) (bx : Box5 x V k0 s0 p0 L0 C0 e0 m0) (hf : ∀ j, x.frozen? ⟨V, j, none⟩ = false)
    {ps : String} {af : Array Edge} {K : Act → World → Prop} {R : Exit → Act → World → Prop} (h : ∀ x', Q x x' ∨ True → x' = (((((x.setCell ⟨V, 0, none⟩ (.int .i64 k)).setCell ⟨V, 1, none⟩ (.bool s)).setCell ⟨V, 2, none⟩ (.slice p L C)).setCell ⟨V, 3, none⟩ (.int .i64 e)).setCell ⟨V, 4, none⟩ (.bool m)) → K a x') :
    Oper.wp Try.prog { dst := none, op := .store 31 (.tmp b) (.tmp c), type := 0, pos := ps, after := af, guard := none } a x K R := by
  obtain ⟨c0, c1, c2, c3, c4⟩ := bx
  unfold ptrV at hb
  unfold num5 at hc
  have hrun : (execOp a.eval { dst := none, op := .store 31 (.tmp b) (.tmp c), type := 0, pos := ps, after := af, guard := none }).run Try.prog x = .ok .skip (((((x.setCell ⟨V, 0, none⟩ (.int .i64 k)).setCell ⟨V, 1, none⟩ (.bool s)).setCell ⟨V, 2, none⟩ (.slice p L C)).setCell ⟨V, 3, none⟩ (.int .i64 e)).setCell ⟨V, 4, none⟩ (.bool m)) := by
    simp [execOp, hb, hc, go_sem, c0, c1, c2, c3, c4, hf]
  unfold Oper.wp
  rw [hrun, Oper.upon_skip]
  exact h _ (Or.inr trivial) rfl
theorem box_other {x : World} {V b : Nat} (h : b ≠ V) {j j' : Nat} {v : Value} : (x.setCell ⟨V, j, none⟩ v).cell? ⟨b, j', none⟩ = x.cell? ⟨b, j', none⟩ := World.cell?_setCell_other _ _ _ _ (by simp [h])
end Go.Proofs.Ytgpgjbgobaaohaa
/- A region that draws its order and stores nothing: each operation with a fact that lasts; those that are guarded are known to be let through, or known to be left out. -/
namespace Go.Proofs.Ytgpgjbgobaaohaa
open Go.RowKit
set_option linter.unusedVariables false
set_option linter.unusedSimpArgs false

theorem dst_mem {l : List Oper} {s : List Nat} (hs : l.map (fun o : Oper => o.dst) = s.map some) {k j : Nat} (h : dstOf l k = some j) : s[k]? = some j := by
  unfold dstOf at h
  have h1 : (l.map (fun o : Oper => o.dst))[k]? = (s.map some)[k]? := by rw [hs]
  rw [List.getElem?_map, List.getElem?_map] at h1
  cases hl : l[k]? with
  | none => rw [hl] at h; cases h
  | some o =>
    rw [hl] at h h1
    cases hk : s[k]? with
    | none => rw [hk] at h1; cases h1
    | some t =>
      rw [hk] at h1
      have h2 : some o.dst = some (some t) := h1
      injection h2 with h2
      have h3 : o.dst = some j := h
      rw [h2] at h3
      injection h3 with h3
      rw [h3]
theorem dst_of {l : List Oper} {s : List Nat} (hs : l.map (fun o : Oper => o.dst) = s.map some) {k j : Nat} (h : s[k]? = some j) : dstOf l k = some j := by
  have h1 : (l.map (fun o : Oper => o.dst))[k]? = (s.map some)[k]? := by rw [hs]
  rw [List.getElem?_map, List.getElem?_map, h] at h1
  unfold dstOf
  cases hl : l[k]? with
  | none => rw [hl] at h1; cases h1
  | some o =>
    rw [hl] at h1
    have h2 : some o.dst = some (some j) := h1
    injection h2
set_option maxHeartbeats 1000000 in
theorem wp_region_factsS {P : Program} {id : Nat} {R : Exit → Act → World → Prop} {a0 : Act} {w : World} {l : List Oper} (s : List Nat) (F : Nat → Value → World → Prop) (skip : Nat → Bool)
    (hm : P.follows .mixedOrders = true) (hB : regS l = true) (hs : l.map (fun o : Oper => o.dst) = s.map some) (hmax : ∀ t ∈ s, t < a0.tmps.size)
    (hst : ∀ i v x x', F i v x → Q x x' → F i v x')
    (hgu : ∀ (i : Nat) (o : Oper) (g : Nat) (b : Bool), l[i]? = some o → o.guard = some (g, b) → ∀ v x, F g v x → (v = .bool b ↔ skip i = false))
    (hgn : ∀ (i : Nat) (o : Oper), l[i]? = some o → o.guard = none → skip i = false)
    (hsk : ∀ i x, skip i = true → F i undef x)
    (hop : ∀ i t o (a : Act) x, skip i = false → s[i]? = some t → l[i]? = some o → Q w x → (∀ j, j ∉ s → a.tmps[j]? = a0.tmps[j]?) → (∀ ed ∈ o.after, Region.binds .any ed = true → ∀ t', s[ed.on]? = some t' → ∃ v, a.tmps[t']? = some v ∧ F ed.on v x) → Yld P R o a x t (F i))
    (hend : ∀ (a : Act) x, Q w x → a.tmps.size = a0.tmps.size → a.defers = a0.defers → (∀ j, j ∉ s → a.tmps[j]? = a0.tmps[j]?) → (∀ i t, s[i]? = some t → ∃ v, a.tmps[t]? = some v ∧ F i v x) → Shut (R .normal a x)) :
    (Code.region id l.toArray true).wp P R a0 w := by
  have oth : ∀ {a : Act}, (∀ j, (∀ k, dstOf l k ≠ some j) → a.tmps[j]? = a0.tmps[j]?) → ∀ j, j ∉ s → a.tmps[j]? = a0.tmps[j]? := fun h j hj => h j (fun k hk => hj (List.mem_of_getElem? (dst_mem hs hk)))
  refine wp_region_slots (fun done val x => Q w x ∧ ∀ i, done i = true → F i (val i) x) hm hB (fun i t h => hmax t (List.mem_of_getElem? (dst_mem hs h))) ⟨(Q.refl w).drew, fun i h => by cases h⟩ ?_ ?_ ?_
  · intro i o a x done val ho hd hdep I hoth hvals hg
    have hil : i < l.length := (List.getElem?_eq_some_iff.1 ho).1
    have hlen : l.length = s.length := by have := congrArg List.length hs; simpa using this
    obtain ⟨t, ht⟩ : ∃ t, s[i]? = some t := ⟨_, List.getElem?_eq_getElem (by omega)⟩
    have hdst : o.dst = some t := by rw [← dstOf_at ho]; exact dst_of hs ht
    have hski : skip i = false := by
      cases hgd : o.guard with
      | none => exact hgn i o ho hgd
      | some gb =>
        obtain ⟨g, b⟩ := gb
        obtain ⟨⟨ed, he, hb, hon⟩, _⟩ := (regS_at hB ho).1 g b hgd
        have hdone := hdep ed he hb
        rw [hon] at hdone
        exact (hgu i o g b ho hgd (val g) x (I.2 g hdone)).1 (hg g b hgd)
    have hrun := hop i t o a x hski ht ho I.1 (oth hoth) (fun ed he hb t' ht' => ⟨val ed.on, hvals ed.on t' (hdep ed he hb) (dst_of hs ht'), I.2 ed.on (hdep ed he hb)⟩)
    refine ⟨Oper.wp_mono ?_ hrun.out⟩
    rintro a' x' ⟨v, rfl, q', hf⟩
    refine ⟨v, by rw [hdst], I.1.trans q', fun j hj => ?_⟩
    by_cases e : j = i
    · subst e; rw [upd_eq]; exact hf
    · rw [upd_ne _ _ e] at hj ⊢
      exact hst _ _ _ _ (I.2 j hj) q'
  · intro i o x done val g b ho hd hdep I hgd hne
    have hsk' : skip i = true := by
      cases h : skip i with
      | true => rfl
      | false =>
        obtain ⟨⟨ed, he, hb, hon⟩, _⟩ := (regS_at hB ho).1 g b hgd
        have hdone := hdep ed he hb
        rw [hon] at hdone
        exact absurd ((hgu i o g b ho hgd (val g) x (I.2 g hdone)).2 h) hne
    refine ⟨I.1, fun j hj => ?_⟩
    by_cases e : j = i
    · subst e; rw [upd_eq]; exact hsk _ _ hsk'
    · rw [upd_ne _ _ e] at hj ⊢
      exact I.2 j hj
  · intro a x val I size defers other vals
    refine hend a x I.1 size defers (oth other) (fun i t ht => ⟨val i, vals i t (dst_of hs ht), I.2 i ?_⟩)
    have hlen : l.length = s.length := by have := congrArg List.length hs; simpa using this
    have := (List.getElem?_eq_some_iff.1 ht).1
    exact decide_eq_true (by omega)
end Go.Proofs.Ytgpgjbgobaaohaa

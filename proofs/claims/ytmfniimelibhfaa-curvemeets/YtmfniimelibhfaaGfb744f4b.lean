/- Arguments as the statements' walks take them: samples and knots in memory. -/
import Derived.Test.YtmfniimelibhfaaGf77df34b
import Derived.ProofKit
import Derived.OpenShut
import Derived.ShutString
import Derived.ChangeOld
import Derived.Below
import Derived.Deep.Slices
import Derived.Deep.SlicePairs
import Derived.Test.YtmfniimelibhfaaG059e2a6d
import Derived.Test.YtmfniimelibhfaaG88785cbc
namespace Go.Proofs.Ytmfniimelibhfaa
open Go.ChangeShapes Go.WideShapes Go.ChangeAt Go.RowKit Go.Deep
set_option linter.unusedVariables false

theorem prog_own : ownKnob Try.prog.godebug = none := by kernel_rfl
theorem prog_laid : laidOutB Try.prog = true := by kernel_rfl
theorem u32_bd {z : Int} (h : (Lit.int .u32 z).wf = true) : 0 ≤ z ∧ z < 4294967296 := by
  have h' : 0 ≤ z ∧ z ≤ 4294967295 := by simpa [Lit.wf, IntKind.min, IntKind.max, IntKind.signed, IntKind.bits] using h
  omega
theorem getD_map_toNat (l : List Int) (i : Nat) : (l.map Int.toNat).getD i 0 = (l.getD i 0).toNat := by
  rw [List.getD_eq_getElem?_getD, List.getD_eq_getElem?_getD, List.getElem?_map]
  cases l[i]? <;> rfl
/-- Samples that came in. -/
theorem read_us {H : Type} {enc : TypeId × Value → H} {W : World} {base : Nat} {sp : Nat → Bool} {held : Bool} {a : Option Addr} {len cap : Nat} {d : DataW H} {p : List MemPlace}
    (h : DataW.Trod enc Try.prog W base sp held 23 (.slice a len cap) d p) :
    ∃ xs : List Nat, USl W (.slice a len cap) xs ∧ len = xs.length ∧ xs.length ≤ maxLen ∧ ∀ i, xs.getD i 0 < 4294967296 := by
  obtain ⟨fuel, hf⟩ := h
  rcases open_ints Try.underlying23 Try.underlying30 (by kernel_rfl) hf with ⟨hcs, _⟩ | ⟨x, l, c, zs, hcs, _, hl, hm, hz, _, hcell, hwz⟩
  · simp [Value.cells] at hcs
    obtain ⟨rfl, rfl, rfl⟩ := hcs
    exact ⟨[], Or.inr ⟨_, _, rfl, rfl⟩, rfl, Nat.zero_le _, fun i => by show 0 < _; decide⟩
  · simp [Value.cells] at hcs
    obtain ⟨rfl, rfl, rfl⟩ := hcs
    have hzl : len ≤ zs.length := by rw [hz]; split <;> omega
    have bd : ∀ i, (zs.getD i 0) ≥ 0 ∧ zs.getD i 0 < 4294967296 := by
      intro i
      rw [List.getD_eq_getElem?_getD]
      cases h : zs[i]? with
      | none => exact ⟨by decide, by decide⟩
      | some z => exact u32_bd (hwz z (List.mem_of_getElem? h))
    have hlen : ((zs.take len).map Int.toNat).length = len := by simp; omega
    refine ⟨(zs.take len).map Int.toNat, ?_, hlen.symm, by rw [hlen]; omega, fun i => ?_⟩
    · by_cases h0 : len = 0
      · subst h0; exact Or.inr ⟨_, _, rfl, by simp⟩
      · obtain ⟨b, off, spot⟩ := x
        have hc := hcell 0 (by omega)
        have hspot : spot = none := by simpa [Addr.add] using World.cell?_spot hc
        subst hspot
        refine Or.inl ⟨b, off, cap, by rw [hlen], by rw [hlen]; exact hl, fun i hi => ?_⟩
        rw [hlen] at hi
        have hc := hcell i (by omega)
        have hadd : (⟨b, off, none⟩ : Addr).add i = ⟨b, off + i, none⟩ := by unfold Addr.add; split <;> simp_all
        rw [hadd] at hc
        rw [hc, getD_map_toNat]
        have e : (zs.take len).getD i 0 = zs.getD i 0 := by
          rw [List.getD_eq_getElem?_getD, List.getD_eq_getElem?_getD, List.getElem?_take, if_pos hi]
        rw [e]
        have := bd i
        congr 2
        omega
    · rw [getD_map_toNat]
      by_cases hi : i < len
      · have e : (zs.take len).getD i 0 = zs.getD i 0 := by
          rw [List.getD_eq_getElem?_getD, List.getD_eq_getElem?_getD, List.getElem?_take, if_pos hi]
        rw [e]; have := bd i; omega
      · have e : (zs.take len).getD i 0 = 0 := by
          rw [List.getD_eq_getElem?_getD, List.getElem?_take, if_neg hi]; rfl
        rw [e]; decide
/-- Knots that came in. -/
theorem read_ks {H : Type} {enc : TypeId × Value → H} {W : World} {base : Nat} {sp : Nat → Bool} {held : Bool} {a : Option Addr} {len cap : Nat} {d : DataW H} {p : List MemPlace}
    (h : DataW.Trod enc Try.prog W base sp held 22 (.slice a len cap) d p) :
    ∃ l : List (Nat × Nat), KSl W (.slice a len cap) l ∧ len = l.length ∧ l.length ≤ maxLen ∧ ∀ i, kx l i < 4294967296 ∧ ky l i < 4294967296 := by
  obtain ⟨fuel, hf⟩ := h
  rcases open_slice_pairs Try.underlying22 Try.underlying32 (by kernel_rfl) (by kernel_rfl) (by kernel_rfl) (by kernel_rfl) (by kernel_rfl) hf with ⟨hcs, _⟩ | ⟨x, l, c, m, n, V0, V1, D0, D1, P0, P1, hcs, _, hl, hm, hmm, _, hx⟩
  · simp [Value.cells] at hcs
    obtain ⟨rfl, rfl, rfl⟩ := hcs
    exact ⟨[], Or.inr ⟨_, _, rfl, rfl⟩, rfl, Nat.zero_le _, fun i => ⟨by show 0 < _; decide, by show 0 < _; decide⟩⟩
  · simp [Value.cells] at hcs
    obtain ⟨rfl, rfl, rfl⟩ := hcs
    have hml : len ≤ m := by rw [hmm]; split <;> omega
    have key : ∀ i, ∃ q : Nat × Nat, q.1 < 4294967296 ∧ q.2 < 4294967296 ∧ (i < len → W.cell? (x.add (i * 2)) = some (.int .u32 (q.1 : Int)) ∧ W.cell? (x.add (i * 2 + 1)) = some (.int .u32 (q.2 : Int))) := by
      intro i
      by_cases hi : i < len
      · obtain ⟨c0, c1, t0, t1⟩ := hx i (by omega)
        obtain ⟨n0, e0, _, w0⟩ := DataW.trod_int Try.underlying30 t0
        obtain ⟨n1, e1, _, w1⟩ := DataW.trod_int Try.underlying30 t1
        simp at e0 e1
        have b0 := u32_bd w0
        have b1 := u32_bd w1
        refine ⟨(n0.toNat, n1.toNat), by show n0.toNat < _; omega, by show n1.toNat < _; omega, fun _ => ⟨?_, ?_⟩⟩
        · rw [c0, e0, show ((n0.toNat : Nat) : Int) = n0 by omega]
        · rw [c1, e1, show ((n1.toNat : Nat) : Int) = n1 by omega]
      · exact ⟨(0, 0), by decide, by decide, fun h => absurd h hi⟩
    obtain ⟨f, hf'⟩ : ∃ f : Nat → Nat × Nat, ∀ i, (f i).1 < 4294967296 ∧ (f i).2 < 4294967296 ∧ (i < len → W.cell? (x.add (i * 2)) = some (.int .u32 ((f i).1 : Int)) ∧ W.cell? (x.add (i * 2 + 1)) = some (.int .u32 ((f i).2 : Int))) := ⟨fun i => Classical.choose (key i), fun i => Classical.choose_spec (key i)⟩
    have hlen : ((List.range len).map f).length = len := by simp
    have hk : ∀ i, i < len → ((List.range len).map f).getD i (0, 0) = f i := by
      intro i hi
      rw [List.getD_eq_getElem?_getD, List.getElem?_map, List.getElem?_range hi]; rfl
    have hk' : ∀ i, ¬ i < len → ((List.range len).map f).getD i (0, 0) = (0, 0) := by
      intro i hi
      rw [List.getD_eq_getElem?_getD, List.getElem?_eq_none (by rw [hlen]; omega)]; rfl
    refine ⟨(List.range len).map f, ?_, hlen.symm, by rw [hlen]; omega, fun i => ?_⟩
    · by_cases h0 : len = 0
      · subst h0; exact Or.inr ⟨_, _, rfl, by simp⟩
      · obtain ⟨b, off, spot⟩ := x
        have hc := ((hf' 0).2.2 (by omega)).1
        have hspot : spot = none := by simpa [Addr.add] using World.cell?_spot hc
        subst hspot
        refine Or.inl ⟨b, off, cap, by rw [hlen], by rw [hlen]; exact hl, fun i hi => ?_⟩
        rw [hlen] at hi
        obtain ⟨c0, c1⟩ := (hf' i).2.2 hi
        have hadd : ∀ j, (⟨b, off, none⟩ : Addr).add j = ⟨b, off + j, none⟩ := by intro j; unfold Addr.add; split <;> simp_all
        rw [hadd] at c0 c1
        unfold kx ky
        rw [hk i hi]
        exact ⟨c0, c1⟩
    · unfold kx ky
      by_cases hi : i < len
      · rw [hk i hi]; exact ⟨(hf' i).1, (hf' i).2.1⟩
      · rw [hk' i hi]; exact ⟨by decide, by decide⟩
end Go.Proofs.Ytmfniimelibhfaa
/- Plain facts: a curve rises, by value. -/
namespace Go.Proofs.Ytmfniimelibhfaa
open Go.RowKit
set_option linter.unusedVariables false

/-- What a finite binary64 is told as. -/
theorem told_word {V : Nat} (h : rung64 V < 5183643170835005440) : toldD (some (Ieee.double.read V)) = Ieee.single.word (sgn64 V) (rungOf Ieee.single (val64 (rung64 V)) (-1074)) ∧ rungOf Ieee.single (val64 (rung64 V)) (-1074) < 2139095040 := by
  have h1 := nar_lo h
  rw [rung_word64] at h1
  refine ⟨?_, h1⟩
  have hn : (Ieee.double.read V).isNaN = false := by rw [read_fin64 (by omega)]; rfl
  rw [toldD_some hn, read_fin64 (by omega)]
  show Ieee.single.nearest _ _ _ = _
  rw [nearest_rung, rung_word64]
theorem told_srung {V : Nat} (h : rung64 V < 5183643170835005440) : srung32 (toldD (some (Ieee.double.read V))) = if sgn64 V = true then -(rungOf Ieee.single (val64 (rung64 V)) (-1074) : Int) else (rungOf Ieee.single (val64 (rung64 V)) (-1074) : Int) := by
  obtain ⟨e, b⟩ := told_word h
  rw [e]
  obtain ⟨s1, s2⟩ := sgn_word32 (sgn64 V) (r := rungOf Ieee.single (val64 (rung64 V)) (-1074)) (by omega)
  unfold srung32
  rw [s1, s2]
theorem told_fin {V : Nat} (h : rung64 V < 5183643170835005440) : rung32 (toldD (some (Ieee.double.read V))) < 2139095040 := by
  obtain ⟨e, b⟩ := told_word h
  rw [e]
  obtain ⟨s1, s2⟩ := sgn_word32 (sgn64 V) (r := rungOf Ieee.single (val64 (rung64 V)) (-1074)) (by omega)
  rw [s2]; exact b
theorem rung_zero (f : Ieee.Format) (p : Int) : rungOf f 0 p = 0 := by unfold rungOf; simp
theorem narrow_mono {V V' : Nat} (h : rung64 V < 5183643170835005440) (h' : rung64 V' < 5183643170835005440) (hv : sval64 V ≤ sval64 V') : srung32 (toldD (some (Ieee.double.read V))) ≤ srung32 (toldD (some (Ieee.double.read V'))) := by
  rw [told_srung h, told_srung h']
  unfold sval64 at hv
  generalize sgn64 V = s at hv ⊢
  generalize sgn64 V' = t at hv ⊢
  cases s <;> cases t <;> simp only [if_true, Bool.false_eq_true, if_false] at hv ⊢
  · have := rung_mono Ieee.single (-1074) (show val64 (rung64 V) ≤ val64 (rung64 V') by omega); omega
  · have e1 : val64 (rung64 V) = 0 := by omega
    have e2 : val64 (rung64 V') = 0 := by omega
    rw [e1, e2, rung_zero]; decide
  · omega
  · have := rung_mono Ieee.single (-1074) (show val64 (rung64 V') ≤ val64 (rung64 V) by omega); omega

theorem clip_facts {p q y : Nat} (hp : rung32 p < 2139095040) (hq : rung32 q < 2139095040) (hy : rung32 y < 2139095040) (hpq : srung32 p ≤ srung32 q) :
    rung32 (clipV p q y) < 2139095040 ∧ srung32 (clipV p q y) = max (srung32 p) (min (srung32 q) (srung32 y)) := by
  unfold clipV
  rw [lessB_num (fin_nan hy) (fin_nan hp), lessB_num (fin_nan hq) (fin_nan hy)]
  by_cases h1 : srung32 y < srung32 p
  · rw [decide_eq_true h1, if_pos rfl]; exact ⟨hp, by omega⟩
  · rw [decide_eq_false h1]
    by_cases h2 : srung32 q < srung32 y
    · rw [decide_eq_true h2]; exact ⟨hq, by simp; omega⟩
    · rw [decide_eq_false h2]; exact ⟨hy, by simp; omega⟩

theorem piece_fin {px py qx qy x : Nat} (fa : rung32 px < 2139095040) (fb : rung32 py < 2139095040) (fc : rung32 qx < 2139095040) (fd : rung32 qy < 2139095040) (fx : rung32 x < 2139095040)
    (h1 : srung32 px < srung32 x) (h2 : srung32 x < srung32 qx) (h3 : srung32 py ≤ srung32 qy) :
    rung32 (pieceV px py qx qy x) < 2139095040 ∧ srung32 py ≤ srung32 (pieceV px py qx qy x) ∧ srung32 (pieceV px py qx qy x) ≤ srung32 qy := by
  have he := equalB_num (fin_nan fb) (fin_nan fd)
  unfold pieceV
  by_cases g : srung32 py = srung32 qy
  · rw [decide_eq_true g] at he
    rw [if_pos he]; exact ⟨fb, Int.le_refl _, h3⟩
  · rw [decide_eq_false g] at he
    rw [if_neg (by rw [he]; decide)]
    obtain ⟨A, H, D, S, T, V, M, N, e1, e2, e3, e4, e5, e6, hr, _⟩ := piece fa fb fc fd fx ((sampleZ_lt_iff _ _).2 h1) ((sampleZ_lt_iff _ _).2 h2) ((sampleZ_lt_iff _ _).2 (by omega)) rfl
    rw [pieceB_eq e1 e2 e3 e4 e5 e6]
    obtain ⟨c1, c2⟩ := clip_facts fb fd (told_fin hr) h3
    exact ⟨c1, by omega, by omega⟩
theorem piece_mono {px py qx qy x x' : Nat} (fa : rung32 px < 2139095040) (fb : rung32 py < 2139095040) (fc : rung32 qx < 2139095040) (fd : rung32 qy < 2139095040) (fx : rung32 x < 2139095040) (fx' : rung32 x' < 2139095040)
    (h1 : srung32 px < srung32 x) (hxx : srung32 x ≤ srung32 x') (h2 : srung32 x' < srung32 qx) (h3 : srung32 py ≤ srung32 qy) :
    srung32 (pieceV px py qx qy x) ≤ srung32 (pieceV px py qx qy x') := by
  have he := equalB_num (fin_nan fb) (fin_nan fd)
  unfold pieceV
  by_cases g : srung32 py = srung32 qy
  · rw [decide_eq_true g] at he
    rw [if_pos he, if_pos he]; exact Int.le_refl _
  · rw [decide_eq_false g] at he
    rw [if_neg (by rw [he]; decide), if_neg (by rw [he]; decide)]
    obtain ⟨E, hE⟩ : ∃ E : Nat, E = 1074 := ⟨_, rfl⟩
    obtain ⟨A, H, D, S, T, V, M, N, e1, e2, e3, e4, e5, e6, hr, m1, m2, m3⟩ := piece fa fb fc fd fx ((sampleZ_lt_iff _ _).2 h1) ((sampleZ_lt_iff _ _).2 (show srung32 x < srung32 qx by omega)) ((sampleZ_lt_iff _ _).2 (by omega)) hE
    obtain ⟨A', H', D', S', T', V', M', N', e1', e2', e3', e4', e5', e6', hr', m1', m2', m3'⟩ := piece fa fb fc fd fx' ((sampleZ_lt_iff _ _).2 (show srung32 px < srung32 x' by omega)) ((sampleZ_lt_iff _ _).2 h2) ((sampleZ_lt_iff _ _).2 (by omega)) hE
    rw [pieceB_eq e1 e2 e3 e4 e5 e6, pieceB_eq e1' e2' e3' e4' e5' e6']
    rw [e2] at e2'
    rw [e3] at e3'
    cases e2'
    cases e3'
    rw [e4] at e4'
    cases e4'
    have hz : sampleZ x ≤ sampleZ x' := by
      rcases Int.lt_or_eq_of_le hxx with k | k
      · exact Int.le_of_lt ((sampleZ_lt_iff _ _).2 k)
      · have a := sampleZ_lt_iff x x'
        have b := sampleZ_lt_iff x' x
        omega
    have hM := vN_mono (show M ≤ M' by omega)
    have hN : N ≤ N' := by
      have : N * 2 ^ E ≤ N' * 2 ^ E := by rw [m2, m2']; exact Nat.mul_le_mul_right _ hM
      exact Nat.le_of_mul_le_mul_right this (Nat.two_pow_pos E)
    have hN2 := vN_mono hN
    have hv : sval64 V ≤ sval64 V' := by rw [m3, m3']; exact RN_mono (by omega)
    have hy := narrow_mono hr hr' hv
    obtain ⟨_, c2⟩ := clip_facts fb fd (told_fin hr) h3
    obtain ⟨_, c2'⟩ := clip_facts fb fd (told_fin hr') h3
    rw [c2, c2']
    omega

theorem ky_mono {l : List (Nat × Nat)} (hl : COk l) : ∀ {i j : Nat}, i ≤ j → j < l.length → srung32 (ky l i) ≤ srung32 (ky l j) := by
  intro i j h
  induction j with
  | zero => intro _; rw [show i = 0 by omega]; exact Int.le_refl _
  | succ j ih =>
    intro hj
    have h1 := (hl.rise j hj).2
    rcases Nat.lt_or_ge i (j + 1) with g | g
    · have := ih (by omega) (by omega); omega
    · rw [show i = j + 1 by omega]; exact Int.le_refl _
/-- What At tells lies between the knots on both sides. -/
theorem at_range {l : List (Nat × Nat)} (hl : COk l) {x : Nat} (hn : nanN x = false) :
    rung32 (atV l x) < 2139095040 ∧ (aboveV l x = 0 → atV l x = ky l 0) ∧ (aboveV l x = l.length → atV l x = ky l (l.length - 1)) ∧
      (aboveV l x ≠ 0 → aboveV l x < l.length → srung32 (ky l (aboveV l x - 1)) ≤ srung32 (atV l x) ∧ srung32 (atV l x) ≤ srung32 (ky l (aboveV l x))) := by
  obtain ⟨a, b, c⟩ := above_facts l x
  have t := hl.two
  by_cases h0 : aboveV l x = 0
  · rw [atV_lo hn h0]
    exact ⟨(hl.fin 0 (by omega)).2, fun _ => rfl, fun h => by omega, fun h => absurd h0 h⟩
  · by_cases h1 : aboveV l x = l.length
    · rw [atV_knot hn h0 (Or.inl h1), h1]
      exact ⟨(hl.fin _ (by omega)).2, fun h => by omega, fun _ => rfl, fun _ h => by omega⟩
    · cases h2 : equalB (kx l (aboveV l x - 1)) x
      · rw [atV_in hn h0 h1 h2]
        obtain ⟨z0, z1, z2, z3⟩ := in_facts hl hn h0 (by omega) b c h2
        obtain ⟨y0, y1, y2⟩ := piece_fin (hl.fin (aboveV l x - 1) (by omega)).1 (hl.fin (aboveV l x - 1) (by omega)).2 (hl.fin (aboveV l x) (by omega)).1 (hl.fin (aboveV l x) (by omega)).2 z0 z1 z2 z3
        exact ⟨y0, fun h => absurd h h0, fun h => absurd h h1, fun _ _ => ⟨y1, y2⟩⟩
      · rw [atV_knot hn h0 (Or.inr h2)]
        exact ⟨(hl.fin _ (by omega)).2, fun h => absurd h h0, fun h => absurd h h1, fun _ _ => ⟨Int.le_refl _, ky_mono hl (by omega) (by omega)⟩⟩
theorem above_mono {l : List (Nat × Nat)} (hl : COk l) {x x' : Nat} (hn : nanN x = false) (hn' : nanN x' = false) (h : srung32 x ≤ srung32 x') : aboveV l x ≤ aboveV l x' := by
  obtain ⟨a, b, c⟩ := above_facts l x
  obtain ⟨a', b', c'⟩ := above_facts l x'
  rcases Nat.lt_or_ge (aboveV l x') (aboveV l x) with g | g
  · exfalso
    rcases b' with b' | b'
    · omega
    · rcases c with c | c
      · omega
      · rw [lessB_num hn' (fin_nan (hl.fin _ (by omega)).1)] at b'
        rw [lessB_num hn (fin_nan (hl.fin _ (by omega)).1)] at c
        have b' := of_decide_eq_true b'
        have c := of_decide_eq_false c
        rcases Nat.lt_or_eq_of_le (show aboveV l x' ≤ aboveV l x - 1 by omega) with k | k
        · have := kx_mono hl k (by omega); omega
        · rw [k] at b'; omega
  · exact g
/-- At rises. -/
theorem at_mono {l : List (Nat × Nat)} (hl : COk l) {x x' : Nat} (hn : nanN x = false) (hn' : nanN x' = false) (h : srung32 x ≤ srung32 x') : srung32 (atV l x) ≤ srung32 (atV l x') := by
  have hm := above_mono hl hn hn' h
  obtain ⟨a, b, c⟩ := above_facts l x
  obtain ⟨a', b', c'⟩ := above_facts l x'
  obtain ⟨_, r0, r1, r2⟩ := at_range hl hn
  obtain ⟨_, r0', r1', r2'⟩ := at_range hl hn'
  have t := hl.two
  rcases Nat.lt_or_eq_of_le hm with g | g
  · -- apart
    have lo : srung32 (ky l (aboveV l x' - 1)) ≤ srung32 (atV l x') := by
      by_cases k : aboveV l x' = l.length
      · rw [r1' k, k]; exact Int.le_refl _
      · exact (r2' (by omega) (by omega)).1
    have hi : srung32 (atV l x) ≤ srung32 (ky l (aboveV l x' - 1)) := by
      by_cases k : aboveV l x = 0
      · rw [r0 k]; exact ky_mono hl (by omega) (by omega)
      · have := (r2 k (by omega)).2
        have := ky_mono hl (show aboveV l x ≤ aboveV l x' - 1 by omega) (by omega)
        omega
    omega
  · by_cases k0 : aboveV l x = 0
    · rw [r0 k0, r0' (by omega)]; exact Int.le_refl _
    · by_cases k1 : aboveV l x = l.length
      · rw [r1 k1, r1' (by omega)]; exact Int.le_refl _
      · cases h2 : equalB (kx l (aboveV l x - 1)) x
        · obtain ⟨z0, z1, z2, z3⟩ := in_facts hl hn k0 (by omega) b c h2
          have h2' : equalB (kx l (aboveV l x' - 1)) x' = false := by
            rw [equalB_num (fin_nan (hl.fin _ (by omega)).1) hn', ← g]
            exact decide_eq_false (by omega)
          obtain ⟨y0, y1, y2, y3⟩ := in_facts hl hn' (by omega) (by omega) b' c' h2'
          rw [atV_in hn k0 k1 h2, atV_in hn' (by omega) (by omega) h2', ← g]
          rw [← g] at y2
          exact piece_mono (hl.fin (aboveV l x - 1) (by omega)).1 (hl.fin (aboveV l x - 1) (by omega)).2 (hl.fin (aboveV l x) (by omega)).1 (hl.fin (aboveV l x) (by omega)).2 z0 y0 z1 h y2 z3
        · rw [atV_knot hn k0 (Or.inr h2), g]
          exact (r2' (by omega) (by omega)).1
end Go.Proofs.Ytmfniimelibhfaa
/- The document's curves: one behind the other; where they come to something first. -/
namespace Go.Proofs.Ytmfniimelibhfaa
open Go.RowKit
set_option linter.unusedVariables false

/-- Curves one behind the other. -/
def chainV (ll : List (List (Nat × Nat))) (x : Nat) : Nat := ll.foldl (fun x l => atV l x) x
theorem atV_lt {l : List (Nat × Nat)} (hl : COk l) {x : Nat} (hx : x < 4294967296) : atV l x < 4294967296 := by
  unfold atV
  split
  · decide
  · split
    · exact (hl.lt _).2
    · split
      · exact (hl.lt _).2
      · unfold pieceV
        split
        · exact (hl.lt _).2
        · unfold clipV
          split
          · exact (hl.lt _).2
          · split
            · exact (hl.lt _).2
            · exact toldD_lt _
theorem chain_take {ll : List (List (Nat × Nat))} {k : Nat} (hk : k < ll.length) (x : Nat) : chainV (ll.take (k + 1)) x = atV (ll.getD k []) (chainV (ll.take k) x) := by
  unfold chainV
  rw [List.take_succ_eq_append_getElem hk, List.foldl_append, List.getD_eq_getElem?_getD, List.getElem?_eq_getElem hk]
  rfl
theorem chain_num : ∀ {ll : List (List (Nat × Nat))} (hll : ∀ l ∈ ll, COk l) {x : Nat}, nanN x = false → x < 4294967296 → nanN (chainV ll x) = false ∧ chainV ll x < 4294967296 := by
  intro ll
  induction ll with
  | nil => intro _ x h1 h2; exact ⟨h1, h2⟩
  | cons l ll ih =>
    intro hll x h1 h2
    have hl := hll l (List.mem_cons_self ..)
    exact ih (fun m hm => hll m (List.mem_cons_of_mem _ hm)) (fin_nan (at_range hl h1).1) (atV_lt hl h2)
theorem chain_lt : ∀ {ll : List (List (Nat × Nat))} (hll : ∀ l ∈ ll, COk l) {x : Nat}, x < 4294967296 → chainV ll x < 4294967296 := by
  intro ll
  induction ll with
  | nil => intro _ x h2; exact h2
  | cons l ll ih => intro hll x h2; exact ih (fun m hm => hll m (List.mem_cons_of_mem _ hm)) (atV_lt (hll l (List.mem_cons_self ..)) h2)
theorem chain_mono : ∀ {ll : List (List (Nat × Nat))} (hll : ∀ l ∈ ll, COk l) {x x' : Nat}, nanN x = false → nanN x' = false → srung32 x ≤ srung32 x' → srung32 (chainV ll x) ≤ srung32 (chainV ll x') := by
  intro ll
  induction ll with
  | nil => intro _ x x' _ _ h; exact h
  | cons l ll ih =>
    intro hll x x' h1 h2 h
    have hl := hll l (List.mem_cons_self ..)
    exact ih (fun m hm => hll m (List.mem_cons_of_mem _ hm)) (fin_nan (at_range hl h1).1) (fin_nan (at_range hl h2).1) (at_mono hl h1 h2 h)
/-- Lists of knots, in a list. -/
def LLs (w : World) (g o : Nat) (ll : List (List (Nat × Nat))) : Prop := ∀ i, i < ll.length → ∃ g' o' cap, w.cell? ⟨g, o + i, none⟩ = some (.slice (some ⟨g', o', none⟩) (ll.getD i []).length cap) ∧ (ll.getD i []).length ≤ cap ∧ KIs w g' o' (ll.getD i [])
theorem LLs.next {w w' : World} {g o : Nat} {ll : List (List (Nat × Nat))} (h : LLs w g o ll) (q : Q w w') : LLs w' g o ll := by
  intro i hi
  obtain ⟨g', o', cap, h1, h2, h3⟩ := h i hi
  exact ⟨g', o', cap, q.cell h1, h2, h3.next q⟩
theorem getD_mem {ll : List (List (Nat × Nat))} {k : Nat} (hk : k < ll.length) : ll.getD k [] ∈ ll := by
  rw [List.getD_eq_getElem?_getD, List.getElem?_eq_getElem hk]; exact List.getElem_mem hk
set_option maxHeartbeats 400000 in
theorem rfromkey_any (k : Nat) (h1 : k < 4294967296) (w : World) :
    Calls Try.prog 46 #[.int .i64 k] w fun e w' => e = .returned (.int .u32 (fkeyN k : Nat)) ∧ w' = w := by
  by_cases h : k < 2147483648
  · have e1 : (k : Int) < 2147483648 := by omega
    have e2 : decide ((2147483648 : Int) ≤ (k : Int)) = false := decide_eq_false (by omega)
    go_enter Try.func46, Try.ntmps46
    go_wp2
    go_ret
    exact ⟨ret_int (by unfold fkeyN; rw [if_neg (by omega)]; omega), rfl⟩
  · have e1 : (2147483648 : Int) ≤ k := by omega
    go_enter Try.func46, Try.ntmps46
    go_wp2
    go_ret
    exact ⟨ret_int (by unfold fkeyN; rw [if_pos (by omega)]; omega), rfl⟩
end Go.Proofs.Ytmfniimelibhfaa
/- The document's curves: one behind the other. -/
namespace Go.Proofs.Ytmfniimelibhfaa
open Go.RowKit
set_option linter.unusedVariables false

set_option maxHeartbeats 400000 in
theorem ratall_any (g o cap : Nat) (ll : List (List (Nat × Nat))) (hll : ∀ l ∈ ll, COk l) (hlen : ll.length ≤ 64) (x : Nat) (hx : x < 4294967296) (w : World) (hk : LLs w g o ll) :
    Calls Try.prog 28 #[.slice (some ⟨g, o, none⟩) ll.length cap, .int .u32 x] w fun e w' => e = .returned (.int .u32 (chainV ll x : Nat)) ∧ Q w w' := by
  have HK : Hid (LLs w g o ll) := hk
  have HL : Hid (∀ l ∈ ll, COk l) := hll
  clear hk hll
  go_enter Try.func28, Try.ntmps28
  go_wp2_with fail
  go_loopg [1, 5] ll.length (fun m s1 s5 wr => ∃ k X : Nat, s1 = .int .u32 X ∧ s5 = .int .i64 k ∧ k + m = ll.length ∧ X < 4294967296 ∧ Hid (X = chainV (ll.take k) x) ∧ Q w wr)
  case atStart => exact ⟨0, x, rfl, rfl, by omega, hx, (rfl : x = chainV (ll.take 0) x), Q.refl _⟩
  case round =>
    obtain ⟨k, X, rfl, rfl, hm, hX, HX, hq⟩ := hrel
    by_cases hkn : k < ll.length
    · obtain ⟨g', o', c', h1, h2, h3⟩ := HK.out.next hq k hkn
      have K3 : Hid (KIs wr g' o' (ll.getD k [])) := h3
      have ok : Hid (COk (ll.getD k [])) := HL.out _ (getD_mem hkn)
      have N1 : Hid (atV (ll.getD k []) X = chainV (ll.take (k + 1)) x) := by
        show atV (ll.getD k []) X = chainV (ll.take (k + 1)) x
        rw [chain_take hkn, ← HX.out]
      have N2 := atV_lt ok.out hX
      obtain ⟨lk, hlk⟩ : ∃ lk, ll.getD k [] = lk := ⟨_, rfl⟩
      rw [hlk] at h1 h2 K3 ok N1 N2
      clear hlk
      have hi0 : (0 : Int) ≤ (k : Int) := by omega
      have hi1 : (k : Int) < (ll.length : Int) := by omega
      clear h3
      go_wp2_with fail
      refine (rat_any g' o' c' _ ok.out X hX _ K3.out).mono ?_
      rintro e w1 ⟨rfl, q1⟩
      go_wp2_with fail
      go_roundg (ll.length - (k + 1))
      case measure => go_light; omega
      case rel => go_light; exact ⟨k + 1, _, rfl, by go_num, by omega, N2, N1, hq.trans q1⟩
    · have e1 : chainV ll x = X := by
        rw [HX.out, List.take_of_length_le (by omega)]
      have E1 : Hid (X = chainV ll x) := e1.symm
      clear e1 HX
      go_wp2_with fail
      go_ret
      exact ⟨ret_int (by rw [← E1.out]), hq⟩
end Go.Proofs.Ytmfniimelibhfaa

/- Lists of curves that came in: may. -/
import Derived.Test.YtmfniimelibhfaaG6a6912d9
import Derived.Test.YtmfniimelibhfaaGfb744f4b
namespace Go.Proofs.Ytmfniimelibhfaa
open Go.RowKit
set_option linter.unusedVariables false
set_option linter.unusedSimpArgs false

/-- Lists of knots, or none. -/
def VLs (w : World) (v : Value) (ll : List (List (Nat × Nat))) : Prop := (∃ g o cap, v = .slice (some ⟨g, o, none⟩) ll.length cap ∧ ll.length ≤ cap ∧ ∀ i, i < ll.length → ∃ u, w.cell? ⟨g, o + i, none⟩ = some u ∧ KSl w u (ll.getD i [])) ∨ (∃ a c, v = .slice a 0 c ∧ ll = [])
theorem VLs.next {w w' : World} {v : Value} {ll : List (List (Nat × Nat))} (h : VLs w v ll) (q : Q w w') : VLs w' v ll := by
  rcases h with ⟨g, o, cap, h1, h2, h3⟩ | h
  · exact Or.inl ⟨g, o, cap, h1, h2, fun i hi => by obtain ⟨u, a, b⟩ := h3 i hi; exact ⟨u, q.cell a, b.next q⟩⟩
  · exact Or.inr h
theorem VLs.form {w : World} {v : Value} {l : List (List (Nat × Nat))} (h : VLs w v l) : ∃ a cap, v = .slice a l.length cap := by
  rcases h with ⟨g, o, cap, h1, _⟩ | ⟨_, _, h1, h2⟩
  · exact ⟨_, _, h1⟩
  · subst h2; exact ⟨_, _, h1⟩
def Fits (ll : List (List (Nat × Nat))) : Prop := ∀ l ∈ ll, l.length ≤ 9223372036854775807 ∧ ∀ i, kx l i < 4294967296 ∧ ky l i < 4294967296

/-- What may tells. -/
def MayPost (ll : List (List (Nat × Nat))) (w : World) (e : Ending) (w' : World) : Prop := Q w w' ∧ ∃ B, e = .returned (.bool B) ∧ (B = true → 1 ≤ ll.length ∧ ll.length ≤ 8 ∧ ∀ i, i < ll.length → Good (ll.getD i []))

set_option maxHeartbeats 4000000 in
set_option maxRecDepth 100000 in
theorem may_any (sv : Value) (ll : List (List (Nat × Nat))) (hf : Fits ll) (bl : ll.length ≤ 9223372036854775807) (w : World) (hk : VLs w sv ll) :
    Calls Try.prog 31 #[sv] w (MayPost ll w) := by
  obtain ⟨a, cap, ev⟩ := hk.form
  have HK : Hid (VLs w sv ll) := hk
  have HF : Hid (Fits ll) := hf
  rw [ev]
  rw [ev] at HK
  obtain ⟨N, hN⟩ : ∃ N, ll.length = N := ⟨_, rfl⟩
  have HN : Hid (ll.length = N) := hN
  rw [hN] at bl HK ⊢
  clear hk hf ev hN
  go_enter Try.func31, Try.ntmps31
  go_wp2_with fail
  go_loopg [3] N (fun m s3 wr => ∃ k : Nat, s3 = .int .i64 k ∧ k + m = N ∧ Q w wr ∧ Hid (∀ i, i < k → Good (ll.getD i [])))
  case atStart => exact ⟨0, rfl, by omega, Q.refl _, (fun i hi => absurd hi (Nat.not_lt_zero _) : ∀ i, i < 0 → Good (ll.getD i []))⟩
  case round =>
    obtain ⟨k, rfl, hm, hqx, GK⟩ := hrel
    by_cases hkn : k < N
    · have hkl : k < ll.length := by rw [HN.out]; exact hkn
      obtain ⟨gx, ox, hae⟩ : ∃ gx ox, a = some ⟨gx, ox, none⟩ := by
        rcases HK.out with ⟨g, o, c, e, _⟩ | ⟨_, _, _, e⟩
        · injection e with e; exact ⟨g, o, e⟩
        · exfalso; rw [e] at hkl; exact Nat.not_lt_zero _ hkl
      subst hae
      obtain ⟨u, cx, ku⟩ : ∃ u, wr.cell? ⟨gx, ox + k, none⟩ = some u ∧ KSl wr u (ll.getD k []) := by
        rcases HK.out with ⟨g, o, c, e, _, h⟩ | ⟨_, _, _, e⟩
        · injection e with e; injection e with e; injection e with e1 e2; subst e1; subst e2
          obtain ⟨u, h1, h2⟩ := h k hkl
          exact ⟨u, hqx.cell h1, h2.next hqx⟩
        · exfalso; rw [e] at hkl; exact Nat.not_lt_zero _ hkl
      obtain ⟨f1, f2⟩ := HF.out _ (getD_mem hkl)
      obtain ⟨L, hL⟩ : ∃ L, ll.getD k [] = L := ⟨_, rfl⟩
      have HLk : Hid (ll.getD k [] = L) := hL
      rw [hL] at ku f1 f2
      obtain ⟨au, cu, rfl⟩ := ku.form
      have KU : Hid (KSl wr (.slice au L.length cu) L) := ku
      have FT : Hid (∀ i, kx L i < 4294967296 ∧ ky L i < 4294967296) := f2
      have hi0 : (0 : Int) ≤ (k : Int) := by omega
      have hi1 : (k : Int) < (N : Int) := by omega
      clear hL hkl ku f2
      by_cases h64 : 64 < L.length
      · have g1 : (64 : Int) < (L.length : Int) := by omega
        go_wp2_with fail
        go_ret
        exact ⟨hqx, false, rfl, fun h => absurd h (by decide)⟩
      · have g1 : ¬ (64 : Int) < (L.length : Int) := by omega
        have g2 : decide ((64 : Int) < (L.length : Int)) = false := decide_eq_false g1
        go_wp2_with fail
        refine (rcheck_all _ L (by omega) FT.out _ KU.out).mono ?_
        rintro e w1 ⟨q1, r, rfl, hb | ⟨hg, rfl⟩⟩
        · have hr : (r != 0) = true := by
            rcases hb with ⟨_, e⟩ | ⟨_, _, _, e⟩ | ⟨_, _, _, _, e⟩ <;> rw [e] <;> decide
          clear hb
          go_wp2_with fail
          go_ret
          exact ⟨hqx.trans q1, false, rfl, fun h => absurd h (by decide)⟩
        · have G2 : Hid (∀ i, i < k + 1 → Good (ll.getD i [])) := by
            intro i hi
            by_cases e : i = k
            · subst e; rw [HLk.out]; exact hg
            · exact GK.out i (by omega)
          clear hg
          go_wp2_with fail
          go_roundg (N - (k + 1))
          case measure => go_light; omega
          case rel => go_light; exact ⟨k + 1, by go_num, by omega, hqx.trans q1, G2⟩
    · have hk : k = N := by omega
      subst hk
      by_cases h1 : k < 1
      · have g1 : (k : Int) < 1 := by omega
        have g2 : decide ((1 : Int) ≤ (k : Int)) = false := decide_eq_false (by omega)
        have g3 : ¬ ((1 : Int) ≤ (k : Int)) := by omega
        go_wp2_with fail
        go_ret
        exact ⟨hqx, false, rfl, fun h => absurd h (by decide)⟩
      · have g3 : (1 : Int) ≤ (k : Int) := by omega
        have g2 : decide ((1 : Int) ≤ (k : Int)) = true := decide_eq_true g3
        by_cases h8 : 8 < k
        · have g4 : ¬ ((k : Int) ≤ 8) := by omega
          have g5 : decide ((k : Int) ≤ 8) = false := decide_eq_false g4
          go_wp2_with fail
          go_ret
          exact ⟨hqx, false, rfl, fun h => absurd h (by decide)⟩
        · have g4 : (k : Int) ≤ 8 := by omega
          have g5 : decide ((k : Int) ≤ 8) = true := decide_eq_true g4
          go_wp2_with fail
          go_ret
          exact ⟨hqx, true, rfl, fun _ => ⟨by rw [HN.out]; omega, by rw [HN.out]; omega, fun i hi => GK.out i (by rw [← HN.out]; exact hi)⟩⟩
end Go.Proofs.Ytmfniimelibhfaa
/- Lists of knots that came in, in a list. -/
namespace Go.Proofs.Ytmfniimelibhfaa
open Go.ChangeShapes Go.WideShapes Go.ChangeAt Go.RowKit Go.Deep
set_option linter.unusedVariables false

theorem read_ls {H : Type} {enc : TypeId × Value → H} {W : World} {base : Nat} {sp : Nat → Bool} {held : Bool} {a : Option Addr} {len cap : Nat} {d : DataW H} {p : List MemPlace}
    (h : DataW.Trod enc Try.prog W base sp held 37 (.slice a len cap) d p) :
    ∃ ll : List (List (Nat × Nat)), VLs W (.slice a len cap) ll ∧ len = ll.length ∧ ll.length ≤ maxLen ∧ Fits ll := by
  obtain ⟨fuel, hf⟩ := h
  rcases open_slice1 Try.underlying37 (by kernel_rfl) hf with ⟨hcs, _⟩ | ⟨x, l, c, m, n, V, D, Pl, hcs, _, hl, hm, hmm, _, hx⟩
  · simp [Value.cells] at hcs
    obtain ⟨rfl, rfl, rfl⟩ := hcs
    exact ⟨[], Or.inr ⟨_, _, rfl, rfl⟩, rfl, Nat.zero_le _, fun l hl => by cases hl⟩
  · simp [Value.cells] at hcs
    obtain ⟨rfl, rfl, rfl⟩ := hcs
    have hml : len ≤ m := by rw [hmm]; split <;> omega
    have key : ∀ i, ∃ q : List (Nat × Nat), q.length ≤ 9223372036854775807 ∧ (∀ j, kx q j < 4294967296 ∧ ky q j < 4294967296) ∧ (i < len → ∃ u, W.cell? (x.add i) = some u ∧ KSl W u q) := by
      intro i
      by_cases hi : i < len
      · obtain ⟨h1, h2⟩ := hx i (by omega)
        have hu : ∃ a' l' c', V i = .slice a' l' c' := by
          rcases open_slice Try.underlying22 h2 with ⟨hcs, _⟩ | ⟨x', l', c', _, _, _, _, hcs, _⟩
          · injection hcs with hcs; exact ⟨_, _, _, hcs⟩
          · injection hcs with hcs; exact ⟨_, _, _, hcs⟩
        obtain ⟨a', l', c', e⟩ := hu
        rw [e] at h1 h2
        obtain ⟨q, r1, _, r2, r3⟩ := read_ks (enc := enc) (W := W) (base := base) (sp := sp) (held := held) (a := a') (len := l') (cap := c') ⟨n, by simpa [Value.cells] using h2⟩
        exact ⟨q, by unfold maxLen at r2; omega, r3, fun _ => ⟨_, h1, r1⟩⟩
      · exact ⟨[], by decide, fun j => ⟨by show 0 < _; decide, by show 0 < _; decide⟩, fun h => absurd h hi⟩
    obtain ⟨f, hf'⟩ : ∃ f : Nat → List (Nat × Nat), ∀ i, (f i).length ≤ 9223372036854775807 ∧ (∀ j, kx (f i) j < 4294967296 ∧ ky (f i) j < 4294967296) ∧ (i < len → ∃ u, W.cell? (x.add i) = some u ∧ KSl W u (f i)) := ⟨fun i => Classical.choose (key i), fun i => Classical.choose_spec (key i)⟩
    have hlen : ((List.range len).map f).length = len := by simp
    have hk : ∀ i, i < len → ((List.range len).map f).getD i [] = f i := by
      intro i hi
      rw [List.getD_eq_getElem?_getD, List.getElem?_map, List.getElem?_range hi]; rfl
    refine ⟨(List.range len).map f, ?_, hlen.symm, by rw [hlen]; omega, fun l hl => ?_⟩
    · by_cases h0 : len = 0
      · subst h0; exact Or.inr ⟨_, _, rfl, by simp⟩
      · obtain ⟨b, off, spot⟩ := x
        obtain ⟨u0, hc, _⟩ := (hf' 0).2.2 (by omega)
        have hspot : spot = none := by simpa [Addr.add] using World.cell?_spot hc
        subst hspot
        refine Or.inl ⟨b, off, cap, by rw [hlen], by rw [hlen]; exact hl, fun i hi => ?_⟩
        rw [hlen] at hi
        obtain ⟨u, c0, c1⟩ := (hf' i).2.2 hi
        have hadd : ∀ j, (⟨b, off, none⟩ : Addr).add j = ⟨b, off + j, none⟩ := by intro j; unfold Addr.add; split <;> simp_all
        rw [hadd] at c0
        rw [hk i hi]
        exact ⟨u, c0, c1⟩
    · obtain ⟨i, _, rfl⟩ := List.mem_map.1 hl
      exact ⟨(hf' i).1, (hf' i).2.1⟩
end Go.Proofs.Ytmfniimelibhfaa

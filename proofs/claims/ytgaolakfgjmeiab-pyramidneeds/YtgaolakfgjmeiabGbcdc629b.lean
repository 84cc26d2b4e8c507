/- pyramid: join. (gen_pyq.py) -/
import Derived.Test.YtgaolakfgjmeiabG08b34131
import Derived.Test.YtgaolakfgjmeiabG9c3b8f81
import Derived.Test.YtgaolakfgjmeiabG73ae6c52
import Derived.Test.YtgaolakfgjmeiabG82f6c3e3
import Derived.Test.YtgaolakfgjmeiabGd943704b
namespace Go.Proofs.Ytgaolakfgjmeiab
open Go.RowKit Go.Shelf
set_option linter.unusedVariables false
set_option linter.unusedSimpArgs false
attribute [local go_sem] Oper.semAt_some

/-- A coarse plane and what lacks, put together. -/
def jnF (nr nc pa pb : Nat) (C F : List Nat) (j : Nat) : Nat := fkeyN (adN (F.getD j 0) (keyN (exF nr nc pa pb C j)))
theorem jnF_lt (nr nc pa pb : Nat) (C F : List Nat) (j : Nat) : jnF nr nc pa pb C F j < 4294967296 := fkeyN_lt (adN_lt _ _)
end Go.Proofs.Ytgaolakfgjmeiab
/- pyramid: the first plane of a list that may not be. -/
namespace Go.Proofs.Ytgaolakfgjmeiab
open Go.RowKit Go.Shelf
set_option linter.unusedVariables false
set_option linter.unusedSimpArgs false

/-- The first error of a list. -/
def Fst (E : Nat → Int) (N : Nat) (r : Int) : Prop := (r = 0 ∧ ∀ i, i < N → E i = 0) ∨ (∃ i, i < N ∧ r = E i ∧ r ≠ 0 ∧ ∀ j, j < i → E j = 0)
theorem Fst.unique {E : Nat → Int} {N : Nat} {r s : Int} (h : Fst E N r) (k : Fst E N s) : r = s := by
  rcases h with ⟨h1, h2⟩ | ⟨i, h1, h2, h3, h4⟩
  · rcases k with ⟨k1, k2⟩ | ⟨j, k1, k2, k3, k4⟩
    · omega
    · exact absurd (h2 j k1) (by rw [← k2]; exact k3)
  · rcases k with ⟨k1, k2⟩ | ⟨j, k1, k2, k3, k4⟩
    · exact absurd (k2 i h1) (by rw [← h2]; exact h3)
    · have : i = j := by
        rcases Nat.lt_trichotomy i j with g | g | g
        · exact absurd (k4 i g) (by rw [← h2]; exact h3)
        · exact g
        · exact absurd (h4 j g) (by rw [← k2]; exact k3)
      subst this
      omega
/-- A list of planes in memory, whatever they are. -/
structure PLs (x : World) (g o N : Nat) (W H : Nat → Int) (A : Nat → Option Addr) (n c : Nat → Nat) : Prop where
  c0 : ∀ i, i < N → x.cell? ⟨g, o + i * 3, none⟩ = some (.int .i64 (W i))
  c1 : ∀ i, i < N → x.cell? ⟨g, o + i * 3 + 1, none⟩ = some (.int .i64 (H i))
  c2 : ∀ i, i < N → x.cell? ⟨g, o + i * 3 + 2, none⟩ = some (.slice (A i) (n i) (c i))
theorem PLs.nextB {x y : World} {g o N : Nat} {W H : Nat → Int} {A : Nat → Option Addr} {n c : Nat → Nat} (h : PLs x g o N W H A n c) (q : Qb x y) : PLs y g o N W H A n c := ⟨fun i hi => q.cell (h.c0 i hi), fun i hi => q.cell (h.c1 i hi), fun i hi => q.cell (h.c2 i hi)⟩
end Go.Proofs.Ytgaolakfgjmeiab
/- pyramid: Join. (gen_pys.py) -/
namespace Go.Proofs.Ytgaolakfgjmeiab
open Go.RowKit Go.Shelf
theorem fst_zero {a b r : Int} (h : Fst (fun i : Nat => if i = 0 then a else b) 2 r) (ha : a = 0) (hb : b = 0) : r = 0 := by
  rcases h with ⟨h, _⟩ | ⟨i, h1, h2, h3, _⟩
  · exact h
  · exfalso
    apply h3
    rw [h2]
    simp only
    split <;> assumption
theorem fst_bad {a b r : Int} (h : Fst (fun i : Nat => if i = 0 then a else b) 2 r) (hb : ¬ (a = 0 ∧ b = 0)) : r ≠ 0 := by
  rcases h with ⟨_, h⟩ | ⟨i, h1, h2, h3, _⟩
  · exfalso
    have h0 := h 0 (by omega)
    have h1 := h 1 (by omega)
    simp at h0 h1
    exact hb ⟨h0, h1⟩
  · exact h3
end Go.Proofs.Ytgaolakfgjmeiab
/- PyramidAgain: what Join tells, split and joined again. -/
namespace Go.Proofs.Ytgaolakfgjmeiab
open Go.RowKit
set_option linter.unusedVariables false
set_option linter.unusedSimpArgs false

theorem key_back {s g : Nat} (hs : s < 4294967296) (hg : g < 4294967296) : fkeyN (adN (subN (keyN s) (keyN g)) (keyN g)) = s := by
  have h1 := keyN_lt hs
  have h2 := keyN_lt hg
  have e : adN (subN (keyN s) (keyN g)) (keyN g) = keyN s := by
    unfold adN subN
    generalize keyN s = a at *
    generalize keyN g = b at *
    omega
  rw [e, fkey_key hs]
/-- Split, then Join. -/
theorem split_back {pa pb nr nc n np : Nat} {S : List Nat} (hnr : (pa + 1) / 2 = nr) (hnc : (pb + 1) / 2 = nc) (hn : nr * nc = n) (hS : S.length = np) (hb : ∀ i, S.getD i 0 < 4294967296) : tabB np (jnF nr nc pa pb (tabB n (rdF pa pb S)) (tabB np (lkF pa pb S))) = S := by
  apply list_ext (by rw [tabB_len, hS])
  intro i hi
  rw [tabB_len] at hi
  rw [tabB_at hi]
  unfold jnF
  rw [tabB_at hi]
  unfold lkF gsF
  rw [hnr, hnc, hn]
  exact key_back (hb i) (dwnF_lt _ _ _ _)
theorem chk_of_list {W H : Int} {w : World} {v : Value} {S : List Nat} (h : chk W H S.length = 0) (hu : USl w v S) : ∃ a b g o c : Nat, W = a ∧ H = b ∧ Size a b ∧ S.length = a * b ∧ v = .slice (some ⟨g, o, none⟩) (a * b) c ∧ a * b ≤ c ∧ UIs w g o S := by
  obtain ⟨a, b, h1, h2, h3, h4⟩ := chk_zero h
  obtain ⟨g, o, c, e1, e2, e3⟩ := hu.some (by rw [h4]; exact h3.pos)
  rw [h4] at e1 e2
  exact ⟨a, b, g, o, c, h1, h2, h3, h4, e1, e2, e3⟩
end Go.Proofs.Ytgaolakfgjmeiab
/- PyramidNeeds: the walk, by cases. -/
namespace Go.Proofs.Ytgaolakfgjmeiab
open Go.RowKit
set_option linter.unusedVariables false

theorem pneeds_walk (w : World) (W H : Int) (sv : Value) (S : List Nat) (x y : Int) (s : Nat) (us : USl w sv S) (hb : ∀ i, S.getD i 0 < 4294967296) (hs : s < 4294967296) :
    Calls Try.prog 4 #[.agg #[.int .i64 W, .int .i64 H, sv], .int .i64 x, .int .i64 y, .int .u32 (s : Int)] w fun e w' => e = .returned (.bool true) ∧ Qb w w' := by
  by_cases he : chk W H S.length = 0
  · have he' := he
    obtain ⟨a, b, g, o, c, rfl, rfl, h3, h4, rfl, h6, h7⟩ := chk_of_list he us
    rw [h4] at he'
    by_cases hx : x < 0
    · exact pneeds_skip0 a b _ _ _ _ _ c x y s w h3 he' rfl rfl rfl hx
    by_cases hy : y < 0
    · exact pneeds_skip1 a b _ _ _ _ _ c x y s w h3 he' rfl rfl rfl hx hy
    by_cases hxr : (((a + 1) / 2 : Nat) : Int) ≤ x
    · exact pneeds_skip2 a b _ _ _ _ _ c x y s w h3 he' rfl rfl rfl hx hy hxr
    by_cases hyr : (((b + 1) / 2 : Nat) : Int) ≤ y
    · exact pneeds_skip3 a b _ _ _ _ _ c x y s w h3 he' rfl rfl rfl hx hy hxr hyr
    by_cases ha : 1024 < 2 * (a : Int)
    · exact pneeds_skip4 a b _ _ _ _ _ c x y s w h3 he' rfl rfl rfl hx hy hxr hyr ha
    by_cases hb2 : 1024 < 2 * (b : Int)
    · exact pneeds_skip5 a b _ _ _ _ _ c x y s w h3 he' rfl rfl rfl hx hy hxr hyr ha hb2
    by_cases hq : 65536 < ((4 * a * b : Nat) : Int)
    · exact pneeds_skip6 a b _ _ _ _ _ c x y s w h3 he' rfl rfl rfl hx hy hxr hyr ha hb2 hq
    obtain ⟨X, rfl⟩ : ∃ X : Nat, x = (X : Int) := ⟨x.toNat, by omega⟩
    obtain ⟨Y, rfl⟩ : ∃ Y : Nat, y = (Y : Int) := ⟨y.toNat, by omega⟩
    have ha1 := h3.a1
    have hb1 := h3.b1
    refine pneeds_good a b _ _ _ _ _ _ _ _ _ (2 * a) (2 * b) _ X Y _ _ _ _ g o c s S w h3 ⟨by omega, by omega, by omega, by omega, ?_⟩ rfl rfl rfl rfl rfl h4 hb h7 h6 hs (by omega) (by omega) rfl rfl rfl (by omega) rfl rfl rfl rfl rfl rfl rfl rfl
    rw [Nat.mul_mul_mul_comm, Nat.mul_assoc 4 a b] at *
    omega
  · obtain ⟨ad, cap, rfl⟩ := us.form
    exact pneeds_bad W H ad S.length cap x y s w he
end Go.Proofs.Ytgaolakfgjmeiab

/- What is said of where two planes are unlike: of every two planes. -/
import Derived.Test.YtkgfohodahkmmabLawWhere
namespace Go.Proofs.Ytkgfohodahkmmab
open Go.RowKit
set_option linter.unusedVariables false
set_option linter.unusedSimpArgs false

theorem pl_ofW {w : World} {W H : Int} {sv : Value} {S : List Nat} (hS : USl w sv S) (hz : chk W H S.length = 0) :
    ∃ a b g o cap : Nat, W = a ∧ H = b ∧ sv = .slice (some ⟨g, o, none⟩) S.length cap ∧ Pl w g o S.length cap a b S := by
  obtain ⟨a, b, rfl, rfl, hs, hn⟩ := chk_zero hz
  obtain ⟨g, o, cap, rfl, h2, h3⟩ := hS.some (by rw [hn]; exact hs.pos)
  exact ⟨a, b, g, o, cap, rfl, rfl, rfl, hs, hn, rfl, h2, h3⟩
theorem where_walk (W H : Int) (v : Value) (S : List Nat) (W' H' : Int) (v' : Value) (T : List Nat) (w : World) (hS : USl w v S) (hT : USl w v' T) (hn : S.length ≤ 9223372036854775807) (hn' : T.length ≤ 9223372036854775807) :
    Calls Try.prog 5 #[.agg #[.int .i64 W, .int .i64 H, v], .agg #[.int .i64 W', .int .i64 H', v']] w fun e w' => e = .returned (.bool true) ∧ Q w w' := by
  by_cases h : UnOk W H S W' H' T
  · obtain ⟨e1, e2, h1, h2, h3⟩ := h
    obtain ⟨a, b, g, o, cap, rfl, rfl, rfl, hp⟩ := pl_ofW hS h1
    obtain ⟨a', b', g', o', cap', ea, eb, rfl, hp'⟩ := pl_ofW hT h2
    obtain rfl : a = a' := by omega
    obtain rfl : b = b' := by omega
    subst e1 e2
    exact where_yes hp.size hp.len g o cap hp'.len g' o' cap' hp.room hp'.room h3 w hp.us hp'.us
  · have UN := fun (w' : World) (q : Q w w') => unlike_no W H v S W' H' v' T w' (hS.next q) (hT.next q) hn hn' h
    have EQ := fun (w' : World) (q : Q w w') => equal_any W H v S W' H' v' T w' (hS.next q) (hT.next q) hn hn'
    obtain ⟨a, cap, ev⟩ := hS.form
    obtain ⟨a', cap', ev'⟩ := hT.form
    subst ev ev'
    have C1 := fun w' : World => rcheck_any W H a S.length cap hn w'
    have C2 := fun w' : World => rcheck_any W' H' a' T.length cap' hn' w'
    by_cases h1 : chk W H S.length = 0
    · rw [h1] at C1
      by_cases h2 : chk W' H' T.length = 0
      · rw [h2] at C2
        by_cases e1 : W = W'
        · by_cases e2 : H = H'
          · have h3 : S = T := by
              by_cases g : S = T
              · exact g
              · exact absurd ⟨e1, e2, h1, h2, g⟩ h
            rw [eqB_true.2 ⟨e1, e2, h3⟩] at EQ
            exact where_n4 W H a _ cap W' H' a' _ cap' w UN C1 C2 (by rw [e1]; exact bne_self_eq_false _) (by rw [e2]; exact bne_self_eq_false _) EQ
          · exact where_n3 W H a _ cap W' H' a' _ cap' w UN C1 C2 (by rw [e1]; exact bne_self_eq_false _) (by rw [bne_iff_ne]; exact e2)
        · exact where_n2 W H a _ cap W' H' a' _ cap' w UN C1 C2 (by rw [bne_iff_ne]; exact e1)
      · exact where_n1 W H a _ cap W' H' a' _ cap' w UN C1 C2 (by rw [bne_iff_ne]; exact h2)
    · exact where_n0 W H a _ cap W' H' a' _ cap' w UN C1 (by rw [bne_iff_ne]; exact h1)
end Go.Proofs.Ytkgfohodahkmmab

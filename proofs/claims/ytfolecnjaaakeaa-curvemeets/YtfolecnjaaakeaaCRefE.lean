/- The document's curves: one behind the other; where they come to something first. -/
import Derived.Test.YtfolecnjaaakeaaCurvQ
import Derived.Test.YtfolecnjaaakeaaCurvU
namespace Go.Proofs.Ytfolecnjaaakeaa
open Go.RowKit
set_option linter.unusedVariables false

/-- Curves one behind the other. -/
def chainV (ll : List (List (Nat × Nat))) (x : Nat) : Nat := ll.foldl (fun x l => atV l x) x
theorem atV_lt {l : List (Nat × Nat)} (hl : COk l) {x : Nat} (hx : x < 4294967296) : atV l x < 4294967296 := by
  unfold atV
  split
  · decide
  · split
    · exact (hl.lt _).2
    · split
      · exact (hl.lt _).2
      · unfold pieceV
        split
        · exact (hl.lt _).2
        · unfold clipV
          split
          · exact (hl.lt _).2
          · split
            · exact (hl.lt _).2
            · exact toldD_lt _
theorem chain_take {ll : List (List (Nat × Nat))} {k : Nat} (hk : k < ll.length) (x : Nat) : chainV (ll.take (k + 1)) x = atV (ll.getD k []) (chainV (ll.take k) x) := by
  unfold chainV
  rw [List.take_succ_eq_append_getElem hk, List.foldl_append, List.getD_eq_getElem?_getD, List.getElem?_eq_getElem hk]
  rfl
theorem chain_num : ∀ {ll : List (List (Nat × Nat))} (hll : ∀ l ∈ ll, COk l) {x : Nat}, nanN x = false → x < 4294967296 → nanN (chainV ll x) = false ∧ chainV ll x < 4294967296 := by
  intro ll
  induction ll with
  | nil => intro _ x h1 h2; exact ⟨h1, h2⟩
  | cons l ll ih =>
    intro hll x h1 h2
    have hl := hll l (List.mem_cons_self ..)
    exact ih (fun m hm => hll m (List.mem_cons_of_mem _ hm)) (fin_nan (at_range hl h1).1) (atV_lt hl h2)
theorem chain_lt : ∀ {ll : List (List (Nat × Nat))} (hll : ∀ l ∈ ll, COk l) {x : Nat}, x < 4294967296 → chainV ll x < 4294967296 := by
  intro ll
  induction ll with
  | nil => intro _ x h2; exact h2
  | cons l ll ih => intro hll x h2; exact ih (fun m hm => hll m (List.mem_cons_of_mem _ hm)) (atV_lt (hll l (List.mem_cons_self ..)) h2)
theorem chain_mono : ∀ {ll : List (List (Nat × Nat))} (hll : ∀ l ∈ ll, COk l) {x x' : Nat}, nanN x = false → nanN x' = false → srung32 x ≤ srung32 x' → srung32 (chainV ll x) ≤ srung32 (chainV ll x') := by
  intro ll
  induction ll with
  | nil => intro _ x x' _ _ h; exact h
  | cons l ll ih =>
    intro hll x x' h1 h2 h
    have hl := hll l (List.mem_cons_self ..)
    exact ih (fun m hm => hll m (List.mem_cons_of_mem _ hm)) (fin_nan (at_range hl h1).1) (fin_nan (at_range hl h2).1) (at_mono hl h1 h2 h)
/-- Lists of knots, in a list. -/
def LLs (w : World) (g o : Nat) (ll : List (List (Nat × Nat))) : Prop := ∀ i, i < ll.length → ∃ g' o' cap, w.cell? ⟨g, o + i, none⟩ = some (.slice (some ⟨g', o', none⟩) (ll.getD i []).length cap) ∧ (ll.getD i []).length ≤ cap ∧ KIs w g' o' (ll.getD i [])
theorem LLs.next {w w' : World} {g o : Nat} {ll : List (List (Nat × Nat))} (h : LLs w g o ll) (q : Q w w') : LLs w' g o ll := by
  intro i hi
  obtain ⟨g', o', cap, h1, h2, h3⟩ := h i hi
  exact ⟨g', o', cap, q.cell h1, h2, h3.next q⟩
theorem getD_mem {ll : List (List (Nat × Nat))} {k : Nat} (hk : k < ll.length) : ll.getD k [] ∈ ll := by
  rw [List.getD_eq_getElem?_getD, List.getElem?_eq_getElem hk]; exact List.getElem_mem hk
set_option maxHeartbeats 400000 in
theorem rfromkey_any (k : Nat) (h1 : k < 4294967296) (w : World) :
    Calls Try.prog 46 #[.int .i64 k] w fun e w' => e = .returned (.int .u32 (fkeyN k : Nat)) ∧ w' = w := by
  by_cases h : k < 2147483648
  · have e1 : (k : Int) < 2147483648 := by omega
    have e2 : decide ((2147483648 : Int) ≤ (k : Int)) = false := decide_eq_false (by omega)
    go_enter Try.func46, Try.ntmps46
    go_wp2
    go_ret
    exact ⟨ret_int (by unfold fkeyN; rw [if_neg (by omega)]; omega), rfl⟩
  · have e1 : (2147483648 : Int) ≤ k := by omega
    go_enter Try.func46, Try.ntmps46
    go_wp2
    go_ret
    exact ⟨ret_int (by unfold fkeyN; rw [if_pos (by omega)]; omega), rfl⟩
end Go.Proofs.Ytfolecnjaaakeaa

/- A new curve lies in new memory; lists of knots held against each other; knots copied. -/
import Derived.Test.YtfolecnjaaakeaaCRefD
import Derived.Test.YtfolecnjaaakeaaCurvJ
namespace Go.Proofs.Ytfolecnjaaakeaa
open Go.RowKit
set_option linter.unusedVariables false

/-- A curve lies in blocks from a number on. -/
structure CNew (w : World) (base b : Nat) (l : List (Nat × Nat)) : Prop where
  it : ∃ g cap, base ≤ b ∧ base ≤ g ∧ w.cell? ⟨b, 0, none⟩ = some (.slice (some ⟨g, 0, none⟩) l.length cap) ∧ l.length ≤ cap ∧ KIs w g 0 l
theorem CNew.cis {w : World} {base b : Nat} {l : List (Nat × Nat)} (h : CNew w base b l) : CIs w b 0 l := by
  obtain ⟨g, cap, _, _, h1, h2, h3⟩ := h.it
  exact ⟨g, 0, cap, h1, h2, h3⟩
theorem CNew.keep {w w' : World} {base b : Nat} {l : List (Nat × Nat)} (h : CNew w base b l) (hc : ∀ a : Addr, base ≤ a.block → w'.cell? a = w.cell? a) : CNew w' base b l := by
  obtain ⟨g, cap, b1, b2, h1, h2, h3⟩ := h.it
  exact ⟨g, cap, b1, b2, by rw [hc _ b1]; exact h1, h2, fun i hi => ⟨by rw [hc _ b2]; exact (h3 i hi).1, by rw [hc _ b2]; exact (h3 i hi).2⟩⟩
theorem CNew.next {w w' : World} {base b : Nat} {l : List (Nat × Nat)} (h : CNew w base b l) (q : Q w w') : CNew w' base b l := by
  obtain ⟨g, cap, b1, b2, h1, h2, h3⟩ := h.it
  exact ⟨g, cap, b1, b2, q.cell h1, h2, h3.next q⟩

set_option maxHeartbeats 2000000 in
theorem newB_any (g o cap : Nat) (l : List (Nat × Nat)) (h2 : 2 ≤ l.length) (hl : l.length ≤ 64) (hcap : l.length ≤ cap) (hlt : ∀ i, kx l i < 4294967296 ∧ ky l i < 4294967296) (w : World) (hk : KIs w g o l) :
    Calls Try.prog 23 #[.slice (some ⟨g, o, none⟩) l.length cap] w fun e w' => Q w w' ∧
      ((∃ r, e = .returned (.tuple #[.pointer none, .int .i64 r]) ∧ Bad l r) ∨ (∃ b, e = .returned (.tuple #[.pointer (some ⟨b, 0, none⟩), .int .i64 0]) ∧ CNew w' w.heap.size b l ∧ Good l)) := by
  have h1 : ¬ (l.length : Int) < 2 := by omega
  have h3 : decide ((l.length : Int) < 2) = false := decide_eq_false h1
  have h4 : ¬ (64 : Int) < (l.length : Int) := by omega
  have h5 : decide ((64 : Int) < (l.length : Int)) = false := decide_eq_false h4
  have HK : Hid (KIs w g o l) := hk
  clear hk
  go_enter Try.func23, Try.ntmps23
  go_wp2_with fail
  refine (arefinite_any g o cap l hlt hl _ HK.out).mono ?_
  rintro e w1 ⟨r, rfl, hr, q1⟩
  have HK1 : Hid (KIs w1 g o l) := HK.out.next q1
  cases r
  · have HR1 : Hid (¬ finTo l l.length) := fun h => absurd (hr.2 h) (by decide)
    clear hr
    go_wp2_with fail
    go_ret2
    exact ⟨q1, Or.inl ⟨41, rfl, Or.inr (Or.inl ⟨h2, hl, HR1.out, rfl⟩)⟩⟩
  · have HR1 : Hid (finTo l l.length) := hr.1 rfl
    clear hr
    go_wp2_with fail
    refine (arerising_any g o cap l h2 hl hcap _ HK1.out).mono ?_
    rintro e w2 ⟨r, rfl, hr, q2⟩
    have HK2 : Hid (KIs w2 g o l) := HK1.out.next q2
    cases r
    · have HR2 : Hid (¬ riseTo l (l.length - 1)) := fun h => absurd (hr.2 h) (by decide)
      clear hr
      go_wp2_with fail
      go_ret2
      exact ⟨q1.trans q2, Or.inl ⟨42, rfl, Or.inr (Or.inr ⟨h2, hl, HR1.out, HR2.out, rfl⟩)⟩⟩
    · have HR2 : Hid (riseTo l (l.length - 1)) := hr.1 rfl
      clear hr
      go_wp2_with fail
      refine (clone_any g o cap l (by omega) hl _ HK2.out).mono ?_
      rintro e w3 ⟨g', cap', rfl, q3, q4, q5, q6, q7⟩
      have HK3 : Hid (KIs w3 g' 0 l) := q5
      clear q5
      go_wp2_with fail
      go_ret2
      have s1 : w.heap.size ≤ w3.heap.size := ((q1.trans q2).trans q7).1.size
      have s2 : w.heap.size ≤ g' := Nat.le_trans (q1.trans q2).1.size q4
      refine ⟨((q1.trans q2).trans q7).cells _ _, Or.inr ⟨w3.heap.size, rfl, ⟨g', cap', s1, s2, ?_, q3, HK3.out.next ((Q.refl _).cells _ _)⟩, h2, hl, HR1.out, HR2.out⟩⟩
      simp [go_sem]

/-- A list of knots, or none. -/
def KSl (w : World) (v : Value) (l : List (Nat × Nat)) : Prop := (∃ g o cap, v = .slice (some ⟨g, o, none⟩) l.length cap ∧ l.length ≤ cap ∧ KIs w g o l) ∨ (∃ a c, v = .slice a 0 c ∧ l = [])
theorem KSl.next {w w' : World} {v : Value} {l : List (Nat × Nat)} (h : KSl w v l) (q : Q w w') : KSl w' v l := by
  rcases h with ⟨g, o, cap, h1, h2, h3⟩ | h
  · exact Or.inl ⟨g, o, cap, h1, h2, h3.next q⟩
  · exact Or.inr h
set_option maxHeartbeats 1000000 in
theorem same_some (g o cap g' o' cap' : Nat) (l : List (Nat × Nat)) (hl : l.length ≤ 200) (w : World) (hk : KIs w g o l) (hk' : KIs w g' o' l) :
    Calls Try.prog 12 #[.slice (some ⟨g, o, none⟩) l.length cap, .slice (some ⟨g', o', none⟩) l.length cap'] w fun e w' => e = .returned (.bool true) ∧ Q w w' := by
  have HK : Hid (KIs w g o l) := hk
  have HK' : Hid (KIs w g' o' l) := hk'
  clear hk hk'
  go_enter Try.func12, Try.ntmps12
  go_wp2_with fail
  go_loopg [5] l.length (fun m s5 wr => ∃ k : Nat, s5 = .int .i64 k ∧ k + m = l.length ∧ Q w wr)
  case atStart => exact ⟨0, rfl, by omega, Q.refl _⟩
  case round =>
    obtain ⟨k, rfl, hm, hq⟩ := hrel
    by_cases hlt : k < l.length
    · obtain ⟨c1, c2⟩ := HK.out.next hq k hlt
      obtain ⟨c3, c4⟩ := HK'.out.next hq k hlt
      have hi0 : (0 : Int) ≤ (k : Int) := by omega
      have hi1 : (k : Int) < (l.length : Int) := by omega
      go_wp2_with fail
      go_quiet (fail)
      go_wp2_with fail
      go_roundg (l.length - (k + 1))
      case measure => go_light; omega
      case rel => go_light; exact ⟨k + 1, by go_num, by omega, hq.drewN _⟩
    · go_wp2_with fail
      go_ret
      exact ⟨rfl, hq⟩
set_option maxHeartbeats 1000000 in
theorem same_none (a a' : Option Addr) (cap cap' : Nat) (w : World) :
    Calls Try.prog 12 #[.slice a 0 cap, .slice a' 0 cap'] w fun e w' => e = .returned (.bool true) ∧ Q w w' := by
  go_enter Try.func12, Try.ntmps12
  go_wp2_with fail
  go_loopg [5] 0 (fun m s5 wr => s5 = .int .i64 0 ∧ wr = w)
  case atStart => exact ⟨rfl, rfl⟩
  case round =>
    obtain ⟨rfl, rfl⟩ := hrel
    go_wp2_with fail
    go_ret
    exact ⟨rfl, Q.refl _⟩
theorem same_any (v v' : Value) (l : List (Nat × Nat)) (hl : l.length ≤ 200) (w : World) (hk : KSl w v l) (hk' : KSl w v' l) :
    Calls Try.prog 12 #[v, v'] w fun e w' => e = .returned (.bool true) ∧ Q w w' := by
  rcases hk with ⟨g, o, cap, rfl, h2, h3⟩ | ⟨_, _, rfl, hn⟩
  · rcases hk' with ⟨g', o', cap', rfl, h2', h3'⟩ | ⟨_, _, rfl, hn⟩
    · exact same_some g o cap g' o' cap' l hl w h3 h3'
    · subst hn; exact same_none _ _ _ _ w
  · subst hn
    rcases hk' with ⟨g', o', cap', rfl, h2', h3'⟩ | ⟨_, _, rfl, _⟩
    · exact same_none _ _ _ _ w
    · exact same_none _ _ _ _ w
theorem run_app_zero {P : Program} (w : World) (t ty e : TypeId) (i : TypeInfo) (ht : P.underlying t = some (.slice e)) (hi : P.info? e = some i) (a : Option Addr) (c : Nat) :
    (Builtin.append_ #[t, t] ty #[.slice none 0 0, .slice a 0 c]).run P w = .ok (.slice none 0 0) w := by
  cases a <;> simp [Builtin.append_, run_underlying ht, sizeOf, typeInfo, hi, Builtin.lenOf, Builtin.firstCells, loadCells, loadCellsFrom]
theorem wpList_app0 {P : Program} (w : World) {ops : Array Oper} {rest : List Oper} {o : Oper} {a : Act} {R : Exit → Act → World → Prop} (hgd : o.guard = none) (s x : Operand) (t : TypeId)
    (ho : o.op = .call { callee := .builtin .append, args := #[s, x], argTypes := #[t, t] })
    (e : TypeId) (i : TypeInfo) (ht : P.underlying t = some (.slice e)) (hi : P.info? e = some i)
    (hs : a.eval s = .slice none 0 0) (ad : Option Addr) (c : Nat) (hx : a.eval x = .slice ad 0 c)
    (h : wpList P ops R rest (a.put o.dst (.slice none 0 0)) w) :
    wpList P ops R (o :: rest) a w := by
  have hr := run_app_zero (P := P) w t o.type e i ht hi ad c
  refine wpList_plain hgd fun _ hK => ?_
  unfold Oper.wp execOp
  simp only [ho, resolve, invoke, builtin, Sem.run_bind, Sem.run_pure, Result.andThen_ok, List.map_toArray, List.map_cons, List.map_nil, hs, hx, hr]
  exact hK _ _ h
end Go.Proofs.Ytfolecnjaaakeaa

/- The examples of the chapter, as the statements ask them. -/
import Derived.Test.YtmfniimelibhfaaG059e2a6d
namespace Go.Proofs.Ytmfniimelibhfaa
open Go.RowKit

theorem lk_kis (w : World) : KIs (w.alloc (.cells #[.int .u32 0, .int .u32 0, .int .u32 1065353216, .int .u32 1056964608, .int .u32 1073741824, .int .u32 1082130432] 32)) w.heap.size 0 lk := by
  intro i hi
  match i, hi with
  | 0, _ => exact ⟨by simp [go_sem, kx, lk], by simp [go_sem, ky, lk]⟩
  | 1, _ => exact ⟨by simp [go_sem, kx, lk], by simp [go_sem, ky, lk]⟩
  | 2, _ => exact ⟨by simp [go_sem, kx, lk], by simp [go_sem, ky, lk]⟩
  | i + 3, h => exact absurd h (by show ¬ (i + 3 < 3); omega)
set_option maxHeartbeats 2000000 in
set_option maxRecDepth 100000 in
theorem mkmade_any (w : World) : Calls Try.prog 35 #[] w fun e w' => ∃ b, e = .returned (.pointer (some ⟨b, 0, none⟩)) ∧ CIs w' b 0 lk ∧ Q w w' := by
  have HN : Hid (∀ W : World, KIs W w.heap.size 0 lk → Calls Try.prog 23 #[.slice (some ⟨w.heap.size, 0, none⟩) 3 3] W fun e w' => ∃ b, e = .returned (.tuple #[.pointer (some ⟨b, 0, none⟩), .int .i64 0]) ∧ CIs w' b 0 lk ∧ Q W w') := by
    intro W hk
    refine (new_any w.heap.size 0 3 lk (by decide) (by decide) (by decide) lk_lt W hk).mono ?_
    rintro e w' ⟨q, ⟨r, _, hb⟩ | ⟨b, rfl, _, h, _⟩⟩
    · exact absurd hb lk_n
    · exact ⟨b, rfl, h, q⟩
  go_enter Try.func35, Try.ntmps35
  go_wp2_with fail
  refine (HN.out _ (lk_kis w)).mono ?_
  rintro e w1 ⟨b, rfl, hc, q1⟩
  have HC : Hid (CIs w1 b 0 lk) := hc
  clear hc
  go_wp2_with fail
  go_ret
  exact ⟨b, rfl, HC.out, ((Q.refl w).cells _ _).trans q1⟩

set_option maxHeartbeats 4000000 in
set_option maxRecDepth 100000 in
theorem known_any (w : World) : Calls Try.prog 9 #[] w fun e w' => e = .returned (.bool true) ∧ Q w w' := by
  have ok := good_ok lk_ok lk_lt
  have A1 : Hid (∀ (b : Nat) (w : World), CIs w b 0 lk → Calls Try.prog 13 #[.pointer (some ⟨b, 0, none⟩), .int .u32 1056964608] w fun e w' => e = .returned (.int .u32 1048576000) ∧ Q w w') := fun b w h => by
    have := at_any b 0 lk ok 1056964608 (by decide) w h; rw [lk_1] at this; exact this
  have A2 : Hid (∀ (b : Nat) (w : World), CIs w b 0 lk → Calls Try.prog 13 #[.pointer (some ⟨b, 0, none⟩), .int .u32 1069547520] w fun e w' => e = .returned (.int .u32 1074790400) ∧ Q w w') := fun b w h => by
    have := at_any b 0 lk ok 1069547520 (by decide) w h; rw [lk_2] at this; exact this
  have A3 : Hid (∀ (b : Nat) (w : World), CIs w b 0 lk → Calls Try.prog 13 #[.pointer (some ⟨b, 0, none⟩), .int .u32 3212836864] w fun e w' => e = .returned (.int .u32 0) ∧ Q w w') := fun b w h => by
    have := at_any b 0 lk ok 3212836864 (by decide) w h; rw [lk_3] at this; exact this
  have A4 : Hid (∀ (b : Nat) (w : World), CIs w b 0 lk → Calls Try.prog 13 #[.pointer (some ⟨b, 0, none⟩), .int .u32 2139095041] w fun e w' => e = .returned (.int .u32 2143289344) ∧ Q w w') := fun b w h => by
    have := at_any b 0 lk ok 2139095041 (by decide) w h; rw [lk_4] at this; exact this
  have A5 : Hid (∀ (b : Nat) (w : World), CIs w b 0 lk → Calls Try.prog 16 #[.pointer (some ⟨b, 0, none⟩), .int .u32 1048576000] w fun e w' => e = .returned (.tuple #[.agg #[.int .u32 1056964608, .int .u32 1056964607, .bool true], .int .i64 0]) ∧ Q w w') := fun b w h => by
    have := cleastm_any b 0 lk ok 1048576000 w h
    rw [show kx lk 0 = 0 from rfl, show kx lk (lk.length - 1) = 1073741824 from rfl, lk_5, lk_6, lk_7, lk_8] at this; exact this
  have A6 : Hid (∀ (b : Nat) (w : World), CIs w b 0 lk → Calls Try.prog 16 #[.pointer (some ⟨b, 0, none⟩), .int .u32 1084227584] w fun e w' => (∃ x y z, e = .returned (.tuple #[.agg #[.int .u32 x, .int .u32 y, .bool z], .int .i64 43])) ∧ Q w w') := fun b w h => by
    have := cleastm_any b 0 lk ok 1084227584 w h
    rw [show kx lk 0 = 0 from rfl, show kx lk (lk.length - 1) = 1073741824 from rfl, lk_9] at this
    refine this.mono ?_
    rintro e w' ⟨rfl, q⟩
    exact ⟨⟨_, _, _, rfl⟩, q⟩
  have A7 : Hid (∀ (b : Nat) (w : World), CIs w b 0 lk → Calls Try.prog 17 #[.pointer (some ⟨b, 0, none⟩), .int .u32 1048576000, .agg #[.int .u32 1056964608, .int .u32 1056964607, .bool true]] w fun e w' => e = .returned (.bool true) ∧ Q w w') := fun b w h => by
    have := ccheckm_any b 0 lk ok 1048576000 1056964608 1056964607 true (by decide) (by decide) w h
    rw [show kx lk 0 = 0 from rfl, show kx lk (lk.length - 1) = 1073741824 from rfl, lk_10] at this; exact this
  clear ok
  go_enter Try.func9, Try.ntmps9
  go_wp2_with fail
  refine (mkmade_any _).mono ?_
  rintro e w1 ⟨b, rfl, hc, q1⟩
  have HC : Hid (CIs w1 b 0 lk) := hc
  clear hc
  go_wp2_with fail
  refine (A1.out b _ HC.out).mono ?_
  rintro e w2 ⟨rfl, q2⟩
  replace HC : Hid (CIs w2 b 0 lk) := HC.out.next q2
  go_wp2_with fail
  refine (A2.out b _ HC.out).mono ?_
  rintro e w3 ⟨rfl, q3⟩
  replace HC : Hid (CIs w3 b 0 lk) := HC.out.next q3
  go_wp2_with fail
  refine (A3.out b _ HC.out).mono ?_
  rintro e w4 ⟨rfl, q4⟩
  replace HC : Hid (CIs w4 b 0 lk) := HC.out.next q4
  go_wp2_with fail
  refine (A4.out b _ HC.out).mono ?_
  rintro e w5 ⟨rfl, q5⟩
  replace HC : Hid (CIs w5 b 0 lk) := HC.out.next q5
  have hq : Q w w5 := (((q1.trans q2).trans q3).trans q4).trans q5
  clear q1 q2 q3 q4 q5
  go_wp2_with fail
  refine (A5.out b _ HC.out).mono ?_
  rintro e w6 ⟨rfl, q6⟩
  replace HC : Hid (CIs w6 b 0 lk) := HC.out.next q6
  replace hq := hq.trans q6
  clear q6
  go_wp2_with fail
  refine (A6.out b _ (HC.out.next ((Q.refl _).cells _ _))).mono ?_
  rintro e w7 ⟨⟨x, y, z, rfl⟩, q7⟩
  have c0 : w7.cell? ⟨w6.heap.size, 0, none⟩ = some (.int .u32 1056964608) := q7.cell (by simp [go_sem])
  have c1 : w7.cell? ⟨w6.heap.size, 1, none⟩ = some (.int .u32 1056964607) := q7.cell (by simp [go_sem])
  have c2 : w7.cell? ⟨w6.heap.size, 2, none⟩ = some (.bool true) := q7.cell (by simp [go_sem])
  replace HC : Hid (CIs w7 b 0 lk) := (HC.out.next ((Q.refl _).cells _ _)).next q7
  replace hq := (hq.cells _ _).trans q7
  clear q7
  have d0 := fun c t => cell_1 c0 c t
  have d1 := fun c t => cell_1 c1 c t
  have d2 := fun c t => cell_1 c2 c t
  go_wp2_with fail
  refine (A7.out b _ (HC.out.next ((Q.refl _).cells _ _))).mono ?_
  rintro e w8 ⟨rfl, q8⟩
  go_wp2_with fail
  go_ret
  exact ⟨rfl, (hq.cells _ _).trans q8⟩
end Go.Proofs.Ytmfniimelibhfaa
/- A new curve lies in new memory; lists of knots held against each other; knots copied. -/
namespace Go.Proofs.Ytmfniimelibhfaa
open Go.RowKit
set_option linter.unusedVariables false

/-- A curve lies in blocks from a number on. -/
structure CNew (w : World) (base b : Nat) (l : List (Nat × Nat)) : Prop where
  it : ∃ g cap, base ≤ b ∧ base ≤ g ∧ w.cell? ⟨b, 0, none⟩ = some (.slice (some ⟨g, 0, none⟩) l.length cap) ∧ l.length ≤ cap ∧ KIs w g 0 l
theorem CNew.cis {w : World} {base b : Nat} {l : List (Nat × Nat)} (h : CNew w base b l) : CIs w b 0 l := by
  obtain ⟨g, cap, _, _, h1, h2, h3⟩ := h.it
  exact ⟨g, 0, cap, h1, h2, h3⟩
theorem CNew.keep {w w' : World} {base b : Nat} {l : List (Nat × Nat)} (h : CNew w base b l) (hc : ∀ a : Addr, base ≤ a.block → w'.cell? a = w.cell? a) : CNew w' base b l := by
  obtain ⟨g, cap, b1, b2, h1, h2, h3⟩ := h.it
  exact ⟨g, cap, b1, b2, by rw [hc _ b1]; exact h1, h2, fun i hi => ⟨by rw [hc _ b2]; exact (h3 i hi).1, by rw [hc _ b2]; exact (h3 i hi).2⟩⟩
theorem CNew.next {w w' : World} {base b : Nat} {l : List (Nat × Nat)} (h : CNew w base b l) (q : Q w w') : CNew w' base b l := by
  obtain ⟨g, cap, b1, b2, h1, h2, h3⟩ := h.it
  exact ⟨g, cap, b1, b2, q.cell h1, h2, h3.next q⟩

set_option maxHeartbeats 2000000 in
theorem newB_any (g o cap : Nat) (l : List (Nat × Nat)) (h2 : 2 ≤ l.length) (hl : l.length ≤ 64) (hcap : l.length ≤ cap) (hlt : ∀ i, kx l i < 4294967296 ∧ ky l i < 4294967296) (w : World) (hk : KIs w g o l) :
    Calls Try.prog 23 #[.slice (some ⟨g, o, none⟩) l.length cap] w fun e w' => Q w w' ∧
      ((∃ r, e = .returned (.tuple #[.pointer none, .int .i64 r]) ∧ Bad l r) ∨ (∃ b, e = .returned (.tuple #[.pointer (some ⟨b, 0, none⟩), .int .i64 0]) ∧ CNew w' w.heap.size b l ∧ Good l)) := by
  have h1 : ¬ (l.length : Int) < 2 := by omega
  have h3 : decide ((l.length : Int) < 2) = false := decide_eq_false h1
  have h4 : ¬ (64 : Int) < (l.length : Int) := by omega
  have h5 : decide ((64 : Int) < (l.length : Int)) = false := decide_eq_false h4
  have HK : Hid (KIs w g o l) := hk
  clear hk
  go_enter Try.func23, Try.ntmps23
  go_wp2_with fail
  refine (arefinite_any g o cap l hlt hl _ HK.out).mono ?_
  rintro e w1 ⟨r, rfl, hr, q1⟩
  have HK1 : Hid (KIs w1 g o l) := HK.out.next q1
  cases r
  · have HR1 : Hid (¬ finTo l l.length) := fun h => absurd (hr.2 h) (by decide)
    clear hr
    go_wp2_with fail
    go_ret2
    exact ⟨q1, Or.inl ⟨41, rfl, Or.inr (Or.inl ⟨h2, hl, HR1.out, rfl⟩)⟩⟩
  · have HR1 : Hid (finTo l l.length) := hr.1 rfl
    clear hr
    go_wp2_with fail
    refine (arerising_any g o cap l h2 hl hcap _ HK1.out).mono ?_
    rintro e w2 ⟨r, rfl, hr, q2⟩
    have HK2 : Hid (KIs w2 g o l) := HK1.out.next q2
    cases r
    · have HR2 : Hid (¬ riseTo l (l.length - 1)) := fun h => absurd (hr.2 h) (by decide)
      clear hr
      go_wp2_with fail
      go_ret2
      exact ⟨q1.trans q2, Or.inl ⟨42, rfl, Or.inr (Or.inr ⟨h2, hl, HR1.out, HR2.out, rfl⟩)⟩⟩
    · have HR2 : Hid (riseTo l (l.length - 1)) := hr.1 rfl
      clear hr
      go_wp2_with fail
      refine (clone_any g o cap l (by omega) hl _ HK2.out).mono ?_
      rintro e w3 ⟨g', cap', rfl, q3, q4, q5, q6, q7⟩
      have HK3 : Hid (KIs w3 g' 0 l) := q5
      clear q5
      go_wp2_with fail
      go_ret2
      have s1 : w.heap.size ≤ w3.heap.size := ((q1.trans q2).trans q7).1.size
      have s2 : w.heap.size ≤ g' := Nat.le_trans (q1.trans q2).1.size q4
      refine ⟨((q1.trans q2).trans q7).cells _ _, Or.inr ⟨w3.heap.size, rfl, ⟨g', cap', s1, s2, ?_, q3, HK3.out.next ((Q.refl _).cells _ _)⟩, h2, hl, HR1.out, HR2.out⟩⟩
      simp [go_sem]

/-- A list of knots, or none. -/
def KSl (w : World) (v : Value) (l : List (Nat × Nat)) : Prop := (∃ g o cap, v = .slice (some ⟨g, o, none⟩) l.length cap ∧ l.length ≤ cap ∧ KIs w g o l) ∨ (∃ a c, v = .slice a 0 c ∧ l = [])
theorem KSl.next {w w' : World} {v : Value} {l : List (Nat × Nat)} (h : KSl w v l) (q : Q w w') : KSl w' v l := by
  rcases h with ⟨g, o, cap, h1, h2, h3⟩ | h
  · exact Or.inl ⟨g, o, cap, h1, h2, h3.next q⟩
  · exact Or.inr h
set_option maxHeartbeats 1000000 in
theorem same_some (g o cap g' o' cap' : Nat) (l : List (Nat × Nat)) (hl : l.length ≤ 200) (w : World) (hk : KIs w g o l) (hk' : KIs w g' o' l) :
    Calls Try.prog 12 #[.slice (some ⟨g, o, none⟩) l.length cap, .slice (some ⟨g', o', none⟩) l.length cap'] w fun e w' => e = .returned (.bool true) ∧ Q w w' := by
  have HK : Hid (KIs w g o l) := hk
  have HK' : Hid (KIs w g' o' l) := hk'
  clear hk hk'
  go_enter Try.func12, Try.ntmps12
  go_wp2_with fail
  go_loopg [5] l.length (fun m s5 wr => ∃ k : Nat, s5 = .int .i64 k ∧ k + m = l.length ∧ Q w wr)
  case atStart => exact ⟨0, rfl, by omega, Q.refl _⟩
  case round =>
    obtain ⟨k, rfl, hm, hq⟩ := hrel
    by_cases hlt : k < l.length
    · obtain ⟨c1, c2⟩ := HK.out.next hq k hlt
      obtain ⟨c3, c4⟩ := HK'.out.next hq k hlt
      have hi0 : (0 : Int) ≤ (k : Int) := by omega
      have hi1 : (k : Int) < (l.length : Int) := by omega
      go_wp2_with fail
      go_quiet (fail)
      go_wp2_with fail
      go_roundg (l.length - (k + 1))
      case measure => go_light; omega
      case rel => go_light; exact ⟨k + 1, by go_num, by omega, hq.drewN _⟩
    · go_wp2_with fail
      go_ret
      exact ⟨rfl, hq⟩
set_option maxHeartbeats 1000000 in
theorem same_none (a a' : Option Addr) (cap cap' : Nat) (w : World) :
    Calls Try.prog 12 #[.slice a 0 cap, .slice a' 0 cap'] w fun e w' => e = .returned (.bool true) ∧ Q w w' := by
  go_enter Try.func12, Try.ntmps12
  go_wp2_with fail
  go_loopg [5] 0 (fun m s5 wr => s5 = .int .i64 0 ∧ wr = w)
  case atStart => exact ⟨rfl, rfl⟩
  case round =>
    obtain ⟨rfl, rfl⟩ := hrel
    go_wp2_with fail
    go_ret
    exact ⟨rfl, Q.refl _⟩
theorem same_any (v v' : Value) (l : List (Nat × Nat)) (hl : l.length ≤ 200) (w : World) (hk : KSl w v l) (hk' : KSl w v' l) :
    Calls Try.prog 12 #[v, v'] w fun e w' => e = .returned (.bool true) ∧ Q w w' := by
  rcases hk with ⟨g, o, cap, rfl, h2, h3⟩ | ⟨_, _, rfl, hn⟩
  · rcases hk' with ⟨g', o', cap', rfl, h2', h3'⟩ | ⟨_, _, rfl, hn⟩
    · exact same_some g o cap g' o' cap' l hl w h3 h3'
    · subst hn; exact same_none _ _ _ _ w
  · subst hn
    rcases hk' with ⟨g', o', cap', rfl, h2', h3'⟩ | ⟨_, _, rfl, _⟩
    · exact same_none _ _ _ _ w
    · exact same_none _ _ _ _ w
theorem run_app_zero {P : Program} (w : World) (t ty e : TypeId) (i : TypeInfo) (ht : P.underlying t = some (.slice e)) (hi : P.info? e = some i) (a : Option Addr) (c : Nat) :
    (Builtin.append_ #[t, t] ty #[.slice none 0 0, .slice a 0 c]).run P w = .ok (.slice none 0 0) w := by
  cases a <;> simp [Builtin.append_, run_underlying ht, sizeOf, typeInfo, hi, Builtin.lenOf, Builtin.firstCells, loadCells, loadCellsFrom]
theorem wpList_app0 {P : Program} (w : World) {ops : Array Oper} {rest : List Oper} {o : Oper} {a : Act} {R : Exit → Act → World → Prop} (hgd : o.guard = none) (s x : Operand) (t : TypeId)
    (ho : o.op = .call { callee := .builtin .append, args := #[s, x], argTypes := #[t, t] })
    (e : TypeId) (i : TypeInfo) (ht : P.underlying t = some (.slice e)) (hi : P.info? e = some i)
    (hs : a.eval s = .slice none 0 0) (ad : Option Addr) (c : Nat) (hx : a.eval x = .slice ad 0 c)
    (h : wpList P ops R rest (a.put o.dst (.slice none 0 0)) w) :
    wpList P ops R (o :: rest) a w := by
  have hr := run_app_zero (P := P) w t o.type e i ht hi ad c
  refine wpList_plain hgd fun _ hK => ?_
  unfold Oper.wp execOp
  simp only [ho, resolve, invoke, builtin, Sem.run_bind, Sem.run_pure, Result.andThen_ok, List.map_toArray, List.map_cons, List.map_nil, hs, hx, hr]
  exact hK _ _ h
end Go.Proofs.Ytmfniimelibhfaa
/- A curve of knots, as the statements make it. -/
namespace Go.Proofs.Ytmfniimelibhfaa
open Go.RowKit
set_option linter.unusedVariables false

theorem new_all (v : Value) (l : List (Nat × Nat)) (hl : l.length ≤ 200) (hlt : ∀ i, kx l i < 4294967296 ∧ ky l i < 4294967296) (w : World) (hk : KSl w v l) :
    Calls Try.prog 23 #[v] w fun e w' => Q w w' ∧
      ((∃ r, e = .returned (.tuple #[.pointer none, .int .i64 r]) ∧ Bad l r) ∨ (∃ b, e = .returned (.tuple #[.pointer (some ⟨b, 0, none⟩), .int .i64 0]) ∧ CNew w' w.heap.size b l ∧ Good l)) := by
  by_cases h : l.length < 2 ∨ 64 < l.length
  · have : ∃ a cap, v = .slice a l.length cap := by
      rcases hk with ⟨g, o, cap, rfl, _⟩ | ⟨_, _, rfl, rfl⟩
      · exact ⟨_, _, rfl⟩
      · exact ⟨_, _, rfl⟩
    obtain ⟨a, cap, hv⟩ := this
    refine (new_many v l.length cap a hv h (by omega) w).mono ?_
    rintro e w' ⟨rfl, rfl⟩
    exact ⟨Q.refl _, Or.inl ⟨40, rfl, Or.inl ⟨h, rfl⟩⟩⟩
  · rcases hk with ⟨g, o, cap, rfl, h2, h3⟩ | ⟨_, _, rfl, rfl⟩
    · exact newB_any g o cap l (by omega) (by omega) h2 hlt w h3
    · exact absurd (Or.inl (by decide)) h
theorem rcheck_all (v : Value) (l : List (Nat × Nat)) (hl : l.length ≤ 200) (hlt : ∀ i, kx l i < 4294967296 ∧ ky l i < 4294967296) (w : World) (hk : KSl w v l) :
    Calls Try.prog 22 #[v] w fun e w' => Q w w' ∧ ∃ r, e = .returned (.int .i64 r) ∧ (Bad l r ∨ (Good l ∧ r = 0)) := by
  by_cases h : l.length < 2 ∨ 64 < l.length
  · have : ∃ a cap, v = .slice a l.length cap := by
      rcases hk with ⟨g, o, cap, rfl, _⟩ | ⟨_, _, rfl, rfl⟩
      · exact ⟨_, _, rfl⟩
      · exact ⟨_, _, rfl⟩
    obtain ⟨a, cap, hv⟩ := this
    refine (rcheck_many v l.length cap a hv h (by omega) w).mono ?_
    rintro e w' ⟨rfl, rfl⟩
    exact ⟨Q.refl _, 40, rfl, Or.inl (Or.inl ⟨h, rfl⟩)⟩
  · rcases hk with ⟨g, o, cap, rfl, h2, h3⟩ | ⟨_, _, rfl, rfl⟩
    · exact rcheck_any g o cap l (by omega) (by omega) hlt w h3
    · exact absurd (Or.inl (by decide)) h
theorem bad_one {l : List (Nat × Nat)} {r r' : Int} (h : Bad l r) (h' : Bad l r') : r = r' := by
  rcases h with ⟨a, rfl⟩ | ⟨a, b, c, rfl⟩ | ⟨a, b, c, d, rfl⟩ <;> rcases h' with ⟨a', rfl⟩ | ⟨a', b', c', rfl⟩ | ⟨a', b', c', d', rfl⟩
  · rfl
  · omega
  · omega
  · omega
  · rfl
  · exact absurd c' c
  · omega
  · exact absurd c c'
  · rfl
theorem good_bad {l : List (Nat × Nat)} {r : Int} (h : Good l) (h' : Bad l r) : False := by
  obtain ⟨h1, h2, h3, h4⟩ := h
  rcases h' with ⟨a, _⟩ | ⟨a, b, c, _⟩ | ⟨a, b, c, d, _⟩
  · omega
  · exact c h3
  · exact d h4
/-- The document's answer, given the program's. -/
theorem rcheck_bad (v : Value) (l : List (Nat × Nat)) (hl : l.length ≤ 200) (hlt : ∀ i, kx l i < 4294967296 ∧ ky l i < 4294967296) {r : Int} (hb : Bad l r) (w : World) (hk : KSl w v l) :
    Calls Try.prog 22 #[v] w fun e w' => e = .returned (.int .i64 r) ∧ Q w w' := by
  refine (rcheck_all v l hl hlt w hk).mono ?_
  rintro e w' ⟨q, r', rfl, h | ⟨h, _⟩⟩
  · exact ⟨ret_int (bad_one h hb), q⟩
  · exact absurd hb (fun hb => good_bad h hb)
theorem rcheck_good (v : Value) (l : List (Nat × Nat)) (hl : l.length ≤ 200) (hlt : ∀ i, kx l i < 4294967296 ∧ ky l i < 4294967296) (hg : Good l) (w : World) (hk : KSl w v l) :
    Calls Try.prog 22 #[v] w fun e w' => e = .returned (.int .i64 0) ∧ Q w w' := by
  refine (rcheck_all v l hl hlt w hk).mono ?_
  rintro e w' ⟨q, r', rfl, h | ⟨h, rfl⟩⟩
  · exact absurd h (fun hb => good_bad hg hb)
  · exact ⟨rfl, q⟩

/-- What makes answers. -/
def MPost (l : List (Nat × Nat)) (w : World) (e : Ending) (w' : World) : Prop := Q w w' ∧ ((∃ b, e = .returned (.tuple #[.pointer (some ⟨b, 0, none⟩), .bool true, .bool true]) ∧ CIs w' b 0 l ∧ Good l) ∨ (e = .returned (.tuple #[.pointer none, .bool false, .bool true]) ∧ ¬ Good l))
set_option maxHeartbeats 2000000 in
set_option maxRecDepth 100000 in
theorem makes_nil (a : Option Addr) (c : Nat) (w : World) : Calls Try.prog 10 #[.slice a 0 c] w (MPost [] w) := by
  obtain ⟨i, i1, _, _, _⟩ := knotInfo
  have H4 : Hid (Try.prog.info? 32 = some i) := i1
  clear i1
  have nk : ∀ W : World, KSl W (.slice none 0 0) [] := fun W => Or.inr ⟨none, 0, rfl, rfl⟩
  have NK : Hid (∀ W : World, KSl W (.slice none 0 0) []) := nk
  clear nk
  go_enter Try.func10, Try.ntmps10
  go_wp2_with (at_builtin; go_must (refine wpList_app0 _ rfl (.const (.slice none 0 0)) (.tmp 9) 22 rfl 32 i Try.underlying22 H4.out rfl a c rfl ?_))
  refine (new_many (.slice none 0 0) 0 0 none rfl (Or.inl (by decide)) (by decide) _).mono ?_
  rintro e w1 ⟨rfl, rfl⟩
  go_wp2_with fail
  refine (same_none _ _ _ _ _).mono ?_
  rintro e w2 ⟨rfl, q2⟩
  go_wp2_with fail
  refine (rcheck_many (.slice a 0 c) 0 c a rfl (Or.inl (by decide)) (by decide) _).mono ?_
  rintro e w3 ⟨rfl, rfl⟩
  go_wp2_with fail
  go_loopg [8] 0 (fun m s8 wr => s8 = .int .i64 0 ∧ wr = w3)
  case atStart => exact ⟨rfl, rfl⟩
  case round =>
    obtain ⟨rfl, rfl⟩ := hrel
    go_wp2_with fail
    go_ret3
    exact ⟨q2, Or.inr ⟨rfl, fun h => absurd h.1 (by decide)⟩⟩

/-- Room that may be written over: all else stays. -/
structure Lent (w wr : World) (gl n : Nat) : Prop where
  cells : ∀ j, j < n → ∃ v, wr.cell? ⟨gl, j, none⟩ = some v
  free : ∀ j, wr.frozen? ⟨gl, j, none⟩ = false
  rest : ∀ a : Addr, a.block ≠ gl → wr.cell? a = w.cell? a
theorem Lent.set {w wr : World} {gl n : Nat} (h : Lent w wr gl n) {j : Nat} (hj : j < n) (v : Value) : Lent w (wr.setCell ⟨gl, j, none⟩ v) gl n := by
  refine ⟨fun i hi => ?_, fun i => ?_, fun a ha => ?_⟩
  · by_cases e : i = j
    · subst e
      obtain ⟨u, hu⟩ := h.cells i hi
      exact ⟨v, by simp [go_sem, hu]⟩
    · obtain ⟨u, hu⟩ := h.cells i hi
      exact ⟨u, by rw [World.cell?_setCell_other _ _ _ _ (fun c => e (by injection c with _ c; exact c.symm))]; exact hu⟩
  · have := h.free i; simpa [go_sem] using this
  · rw [set_other _ ha]; exact h.rest a ha
set_option maxHeartbeats 4000000 in
set_option maxRecDepth 100000 in
theorem makes_some (g o cap : Nat) (l : List (Nat × Nat)) (h1 : 1 ≤ l.length) (hl : l.length ≤ 200) (hcap : l.length ≤ cap) (hlt : ∀ i, kx l i < 4294967296 ∧ ky l i < 4294967296) (w : World) (hk : KIs w g o l) :
    Calls Try.prog 10 #[.slice (some ⟨g, o, none⟩) l.length cap] w (MPost l w) := by
  obtain ⟨i, i1, i2, i3, i4⟩ := knotInfo
  have hfl := hk.flat_cells
  have hlen : (flat l).length = l.length * i.size := by rw [i2, flat_len]
  have hby : l.length * i.bytes ≤ 140737488355328 := by rw [i3]; omega
  have H1 : Hid (∀ j u, (flat l)[j]? = some u → w.cell? ((⟨g, o, none⟩ : Addr).add j) = some u) := hfl
  have H2 : Hid ((flat l).length = l.length * i.size) := hlen
  have H3 : Hid (l.length * i.bytes ≤ 140737488355328) := hby
  have H4 : Hid (Try.prog.info? 32 = some i) := i1
  have H5 : Hid (i.zero = some (.agg #[.int .u32 0, .int .u32 0])) := i4
  have HK : Hid (KSl w (.slice (some ⟨g, o, none⟩) l.length cap) l) := Or.inl ⟨g, o, cap, rfl, hcap, hk⟩
  have HT : Hid (∀ i, kx l i < 4294967296 ∧ ky l i < 4294967296) := hlt
  clear hfl hlen hby hk i1 i2 i3 i4 hlt
  go_enter Try.func10, Try.ntmps10
  go_wp2_with (at_builtin; go_must (refine wpList_app _ rfl (.const (.slice none 0 0)) (.tmp 9) 22 rfl 32 i _ Try.underlying22 H4.out H5.out _ (Or.inl rfl) rfl _ l.length cap (flat l) rfl H2.out (fun j u h => H1.out j u h) (by omega) (by omega) H3.out ?_; intro cap' w1 q1 q2 q3 q4 q5))
  have K1 : Hid (KIs w1 w.heap.size 0 l) := KIs.of_flat q4
  have LE : Hid (Lent w1 w1 w.heap.size (l.length * 2)) := ⟨fun j hj => ⟨_, q4 j _ (flat_get hj)⟩, q5, fun _ _ => rfl⟩
  have S1 : w1.heap.size = w.heap.size + 1 := q3
  have HS : Hid (w1.heap.size = w.heap.size + 1) := S1
  clear q3 q4 q5 H1 H2 H3 H4 H5 S1
  refine (new_all _ l hl HT.out _ (Or.inl ⟨_, _, _, rfl, q2, K1.out⟩)).mono ?_
  rintro e w2 ⟨p2, ⟨r, rfl, hb⟩ | ⟨b, rfl, hc, hg⟩⟩
  · have HB : Hid (Bad l r) := hb
    have hr : r = 40 ∨ r = 41 ∨ r = 42 := by
      rcases hb with ⟨_, e⟩ | ⟨_, _, _, e⟩ | ⟨_, _, _, _, e⟩ <;> omega
    have hr0 : (r == 0) = false := by rw [beq_eq_false_iff_ne]; omega
    have hrr : (r != r) = false := by simp
    clear hb hr
    go_wp2_with fail
    refine (same_any _ _ l hl _ (Or.inl ⟨_, _, _, rfl, q2, K1.out.next p2⟩) (HK.out.next (q1.trans p2))).mono ?_
    rintro e w3 ⟨rfl, p3⟩
    go_wp2_with fail
    refine (rcheck_bad _ l hl HT.out HB.out _ (HK.out.next ((q1.trans p2).trans p3))).mono ?_
    rintro e w4 ⟨rfl, p4⟩
    have hq : Q w1 w4 := (p2.trans p3).trans p4
    have L4 : Hid (Lent w4 w4 w.heap.size (l.length * 2)) := ⟨fun j hj => by obtain ⟨v, hv⟩ := LE.out.cells j hj; exact ⟨v, hq.cell hv⟩, fun j => by rw [hq.2]; exact LE.out.free j, fun _ _ => rfl⟩
    replace hq := q1.trans hq
    clear q1 p2 p3 p4 LE K1
    go_wp2_with fail
    go_loopg [8] l.length (fun m s8 wr => ∃ k : Nat, s8 = .int .i64 k ∧ k + m = l.length ∧ Q w wr ∧ Hid (Lent w4 wr w.heap.size (l.length * 2)))
    case atStart => exact ⟨0, rfl, by omega, hq, L4⟩
    case round =>
      obtain ⟨k, rfl, hm, hq', LR⟩ := hrel
      by_cases hkn : k < l.length
      · obtain ⟨u, hu⟩ := LR.out.cells (k * 2) (by omega)
        obtain ⟨v, hv⟩ := LR.out.cells (k * 2 + 1) (by omega)
        have z1 := LR.out.free (k * 2)
        have z2 := LR.out.free (k * 2 + 1)
        have hi0 : (0 : Int) ≤ (k : Int) := by omega
        have hi1 : (k : Int) < (l.length : Int) := by omega
        have N1 : Hid (Lent w4 ((wr.setCell ⟨w.heap.size, k * 2, none⟩ (.int .u32 1)).setCell ⟨w.heap.size, k * 2 + 1, none⟩ (.int .u32 1)) w.heap.size (l.length * 2)) := (LR.out.set (by omega) _).set (by omega) _
        go_wp2_with fail
        go_roundg (l.length - (k + 1))
        case measure => go_light; omega
        case rel => go_light; exact ⟨k + 1, by go_num, by omega, (hq'.set (Nat.le_refl _) _).set (Nat.le_refl _) _, N1⟩
      · go_wp2_with fail
        go_ret3
        exact ⟨hq', Or.inr ⟨rfl, fun h => good_bad h HB.out⟩⟩
  · have HG : Hid (Good l) := hg
    have HC : Hid (CNew w2 w1.heap.size b l) := hc
    clear hg hc
    go_wp2_with fail
    refine (same_any _ _ l hl _ (Or.inl ⟨_, _, _, rfl, q2, K1.out.next p2⟩) (HK.out.next (q1.trans p2))).mono ?_
    rintro e w3 ⟨rfl, p3⟩
    go_wp2_with fail
    refine (rcheck_good _ l hl HT.out HG.out _ (HK.out.next ((q1.trans p2).trans p3))).mono ?_
    rintro e w4 ⟨rfl, p4⟩
    have hq : Q w1 w4 := (p2.trans p3).trans p4
    have C4 : Hid (CNew w4 w1.heap.size b l) := HC.out.next (p3.trans p4)
    have L4 : Hid (Lent w4 w4 w.heap.size (l.length * 2)) := ⟨fun j hj => by obtain ⟨v, hv⟩ := LE.out.cells j hj; exact ⟨v, hq.cell hv⟩, fun j => by rw [hq.2]; exact LE.out.free j, fun _ _ => rfl⟩
    replace hq := q1.trans hq
    clear q1 p2 p3 p4 LE K1 HC
    go_wp2_with fail
    go_loopg [8] l.length (fun m s8 wr => ∃ k : Nat, s8 = .int .i64 k ∧ k + m = l.length ∧ Q w wr ∧ Hid (Lent w4 wr w.heap.size (l.length * 2)))
    case atStart => exact ⟨0, rfl, by omega, hq, L4⟩
    case round =>
      obtain ⟨k, rfl, hm, hq', LR⟩ := hrel
      by_cases hkn : k < l.length
      · obtain ⟨u, hu⟩ := LR.out.cells (k * 2) (by omega)
        obtain ⟨v, hv⟩ := LR.out.cells (k * 2 + 1) (by omega)
        have z1 := LR.out.free (k * 2)
        have z2 := LR.out.free (k * 2 + 1)
        have hi0 : (0 : Int) ≤ (k : Int) := by omega
        have hi1 : (k : Int) < (l.length : Int) := by omega
        have N1 : Hid (Lent w4 ((wr.setCell ⟨w.heap.size, k * 2, none⟩ (.int .u32 1)).setCell ⟨w.heap.size, k * 2 + 1, none⟩ (.int .u32 1)) w.heap.size (l.length * 2)) := (LR.out.set (by omega) _).set (by omega) _
        go_wp2_with fail
        go_roundg (l.length - (k + 1))
        case measure => go_light; omega
        case rel => go_light; exact ⟨k + 1, by go_num, by omega, (hq'.set (Nat.le_refl _) _).set (Nat.le_refl _) _, N1⟩
      · go_wp2_with fail
        go_ret3
        refine ⟨hq', Or.inl ⟨b, rfl, (C4.out.keep (fun a ha => LR.out.rest a ?_)).cis, HG.out⟩⟩
        have := HS.out
        omega
theorem makes_any (v : Value) (l : List (Nat × Nat)) (hl : l.length ≤ 200) (hlt : ∀ i, kx l i < 4294967296 ∧ ky l i < 4294967296) (w : World) (hk : KSl w v l) :
    Calls Try.prog 10 #[v] w (MPost l w) := by
  rcases hk with ⟨g, o, cap, rfl, h2, h3⟩ | ⟨_, _, rfl, rfl⟩
  · by_cases h : 1 ≤ l.length
    · exact makes_some g o cap l h hl h2 hlt w h3
    · have : l = [] := List.eq_nil_of_length_eq_zero (by omega)
      subst this
      exact makes_nil _ _ w
  · exact makes_nil _ _ w
end Go.Proofs.Ytmfniimelibhfaa

/- The statements' helpers total and place. -/
import Derived.Test.YtmgpaheobhfioaaDoorGfa574f83
import Derived.Test.YtmgpaheobhfioaaDoorGc2145f97
import Derived.Test.YtmgpaheobhfioaaDoorG68081562
import Derived.Test.YtmgpaheobhfioaaDoorG04bdf37f
namespace Go.Proofs.YtmgpaheobhfioaaDoor
open Go.RowKit
set_option linter.unusedVariables false
set_option linter.unusedSimpArgs false

/-- How many samples the first steps hand in. -/
def stpS (D : List StD) (i : Nat) : Nat := ((D.take i).map fun x => x.S.length).sum
theorem stpS_zero (D : List StD) : stpS D 0 = 0 := by unfold stpS; rw [List.take_zero]; rfl
theorem stpS_next {D : List StD} {i : Nat} {x : StD} (h : D[i]? = some x) : stpS D (i + 1) = stpS D i + x.S.length := by
  unfold stpS
  obtain ⟨hi, hx⟩ := List.getElem?_eq_some_iff.1 h
  rw [List.take_succ_eq_append_getElem hi, List.map_append, List.sum_append, hx]
  simp
theorem stpS_le {D : List StD} : ∀ {i j : Nat}, i ≤ j → stpS D i ≤ stpS D j := by
  intro i j h
  induction j with
  | zero => have : i = 0 := by omega
            subst this; exact Nat.le_refl _
  | succ j ih =>
    rcases Nat.lt_or_ge i (j + 1) with k | k
    · refine Nat.le_trans (ih (by omega)) ?_
      cases hx : D[j]? with
      | none =>
        have hl := List.getElem?_eq_none_iff.1 hx
        unfold stpS
        rw [List.take_of_length_le (show D.length ≤ j + 1 by omega), List.take_of_length_le hl]
        exact Nat.le_refl _
      | some x => rw [stpS_next hx]; omega
    · obtain rfl : i = j + 1 := by omega
      exact Nat.le_refl _
set_option maxHeartbeats 2000000 in
set_option maxRecDepth 100000 in
theorem total_any (v : Value) (D : List StD) (w : World) (hD : SSl w v D) (hbd : D.length ≤ 140737488355328) (hbs : ∀ (i : Nat) (x : StD), D[i]? = some x → x.S.length ≤ 140737488355328) :
    Calls Tryd.prog 6 #[v] w fun e w' => ∃ T : Nat, e = .returned (.int .i64 (T : Int)) ∧ w' = w ∧ (T ≤ 2000 → T = D.length + stpS D D.length) := by
  obtain ⟨ad, c, rfl⟩ := hD.form
  obtain ⟨n, hn⟩ : ∃ n, D.length = n := ⟨_, rfl⟩
  rw [hn] at hD hbd ⊢
  have HBs : Hid (∀ (i : Nat) (x : StD), D[i]? = some x → x.S.length ≤ 140737488355328) := hbs
  clear hbs
  have HD : Hid (SSl w (.slice ad n c) D) := hD
  have HN : Hid (D.length = n) := hn
  clear hD hn
  go_enter Tryd.func6, Tryd.ntmps6
  go_wp2_with fail
  go_loopg [3, 4] n (fun m s3 s4 wr => ∃ (i N : Nat), s3 = .int .i64 (N : Int) ∧ s4 = .int .i64 (i : Int) ∧ i + m = n ∧ Hid (N = n + stpS D i ∧ wr = w))
  case atStart => exact ⟨0, n, rfl, rfl, by omega, by rw [stpS_zero]; rfl, rfl⟩
  case round =>
    obtain ⟨i, N, rfl, rfl, hi, HX⟩ := hrel
    obtain rfl : w = wr := HX.out.2.symm
    by_cases hlt : i < n
    · by_cases h2 : N ≤ 2000
      · obtain ⟨hl, g, o, x, e, hcap, hx, hit⟩ := HD.out.at hlt
        subst e
        have hki : (i : Int) < (n : Int) := by omega
        have hkn : (N : Int) ≤ 2000 := by omega
        have c3 : w.cell? ⟨g, o + i * 4 + 3, none⟩ = some (.slice x.ad x.S.length x.cap) := hit.c3
        have hm := HBs.out i x hx
        have HY : Hid (N + x.S.length = n + stpS D (i + 1)) := by
          show _ = _
          rw [stpS_next hx, HX.out.1]; omega
        clear hit hx hl
        generalize x.S.length = z at *
        go_wp2_with fail
        go_roundg (n - (i + 1))
        case measure => go_light; omega
        case rel => go_light; exact ⟨i + 1, N + z, by go_num, by go_num, by omega, HY.out, rfl⟩
      · have hki : (i : Int) < (n : Int) := by omega
        have hkn : ¬ (N : Int) ≤ 2000 := by omega
        go_wp2_with fail
        go_ret
        exact ⟨N, rfl, rfl, fun h => absurd h h2⟩
    · obtain rfl : n = i := by omega
      have hge : ¬ (n : Int) < (n : Int) := by omega
      go_wp2_with fail
      go_ret
      exact ⟨N, rfl, rfl, fun _ => HX.out.1⟩
set_option maxHeartbeats 1000000 in
theorem place3_any (k : Int) (w : World) : Calls Tryd.prog 8 #[.int .i64 k, .int .i64 3] w fun e w' => e = .returned (.int .i64 ((k % 3).toNat : Int)) ∧ w' = w := by
  have e : 3 * Int.tdiv k 3 + Int.tmod k 3 = k := Int.mul_tdiv_add_tmod k 3
  have l1 : Int.tmod k 3 < 3 := Int.tmod_lt_of_pos k (by decide)
  have l2 : -3 < Int.tmod k 3 := Int.lt_tmod_of_pos k (by decide)
  by_cases h : Int.tmod k 3 < 0
  · have hv : ((k % 3).toNat : Int) = Int.tmod k 3 + 3 := by omega
    have hw : IntKind.i64.wrap (Int.tmod k 3) = Int.tmod k 3 := by rw [IntKind.wrap_i64]; omega
    rw [hv]
    clear e hv
    go_enter Tryd.func8, Tryd.ntmps8
    go_wp2_with fail
    go_ret
    exact ⟨rfl, rfl⟩
  · have hv : ((k % 3).toNat : Int) = Int.tmod k 3 := by omega
    have hw : IntKind.i64.wrap (Int.tmod k 3) = Int.tmod k 3 := by rw [IntKind.wrap_i64]; omega
    rw [hv]
    clear e hv
    go_enter Tryd.func8, Tryd.ntmps8
    go_wp2_with fail
    go_ret
    exact ⟨rfl, rfl⟩
theorem usInfo : ∃ i, Tryd.prog.info? 29 = some i ∧ i.size = 1 ∧ i.bytes = 24 ∧ i.zero = some (.slice none 0 0) := info_of (by kernel_rfl) (by kernel_rfl)
theorem make_us3 : ∃ M : Array Value, (∀ w : World, (Instr.makeSlice 28 (.int .i64 3) (.int .i64 3)).run Tryd.prog w = .ok (.slice (some ⟨w.heap.size, 0, none⟩) 3 3) (w.alloc (.cells M 29))) ∧
    ∀ w : World, VR (w.alloc (.cells M 29)) w.heap.size 3 (fun _ => .slice none 0 0) := by
  obtain ⟨i, i1, i2, i3, i4⟩ := usInfo
  refine ⟨madeCells (Value.slice none 0 0).cells (3 * 1), fun w => ?_, fun w => made_vr rfl _ 3 w⟩
  have := run_make (P := Tryd.prog) w 28 29 i _ Tryd.underlying28 i1 i4 .i64 .i64 3 3 (by omega) (by omega) (by rw [i3]; decide) (by omega)
  rw [i2] at this
  exact this
end Go.Proofs.YtmgpaheobhfioaaDoor
/- The statement SumsAcc: its walk. (gen_sacc.py) -/
namespace Go.Proofs.YtmgpaheobhfioaaDoor
open Go.RowKit
set_option linter.unusedVariables false
set_option linter.unusedSimpArgs false

/-- How a list stands in the row. -/
def SvO (v : Value) (n : Nat) : Prop := ∃ a c, v = .slice a n c ∧ n ≤ c ∧ (a = none → n = 0 ∧ c = 0)
theorem usl_cap {w : World} {a : Option Addr} {n c : Nat} {S : List Nat} (h : USl w (.slice a n c) S) : USl w (.slice a n n) S := by
  rcases h with ⟨g, o, c', ev, hc, hI⟩ | ⟨a', c', ev, h0⟩
  · injection ev with e1 e2 e3
    exact Or.inl ⟨g, o, n, by rw [e1, ← e2], by omega, hI⟩
  · injection ev with e1 e2 e3
    exact Or.inr ⟨a, n, by rw [e2], h0⟩
theorem lt_app {X S : List Nat} (h : ∀ j, X.getD j 0 < 4294967296) (k : ∀ j, S.getD j 0 < 4294967296) : ∀ j, (X ++ S).getD j 0 < 4294967296 := by
  intro i
  rw [List.getD_eq_getElem?_getD, List.getElem?_append]
  split
  · have := h i
    rw [List.getD_eq_getElem?_getD] at this
    exact this
  · have := k (i - X.length)
    rw [List.getD_eq_getElem?_getD] at this
    exact this
theorem lt_nil : ∀ j, ([] : List Nat).getD j 0 < 4294967296 := fun i => by show 0 < _; decide
/-- Samples of the call's own, that may be written. -/
structure SpL (x : World) (g n : Nat) : Prop where
  cell : ∀ i, i < n → ∃ z : Int, x.cell? ⟨g, i, none⟩ = some (.int .u32 z)
  free : ∀ j, x.frozen? ⟨g, j, none⟩ = false
theorem SpL.set {x : World} {g n i : Nat} (h : SpL x g n) (z : Int) : SpL (x.setCell ⟨g, i, none⟩ (.int .u32 z)) g n := by
  refine ⟨fun j hj => ?_, fun j => by rw [World.frozen?_setCell]; exact h.free j⟩
  obtain ⟨y, hy⟩ := h.cell j hj
  by_cases e : j = i
  · subst e; exact ⟨z, World.cell?_setCell_same _ _ _ hy⟩
  · exact ⟨y, (World.cell?_setCell_other _ _ _ _ (fun k => e (by injection k with _ k; exact k.symm))).trans hy⟩
set_option maxHeartbeats 16000000 in
set_option maxRecDepth 100000 in
theorem sacc_walk (W0 : World) (v : Value) (D : List StD) (hD : SSl W0 v D) (hbd : D.length ≤ 140737488355328) (hbs : ∀ (i : Nat) (x : StD), D[i]? = some x → x.S.length ≤ 140737488355328) (hT : Tab W0) :
    Calls Tryd.prog 3 #[v] W0 fun e w' => e = .returned (.bool true) ∧ Q W0 w' := by
  obtain ⟨ad, c, rfl⟩ := hD.form
  obtain ⟨n, hn⟩ : ∃ n, D.length = n := ⟨_, rfl⟩
  have HK : Hid _ := known_any W0 hT
  have HD0 : Hid (SSl W0 (.slice ad n c) D) := by rw [← hn]; exact hD
  have HT0 : Hid (Tab W0) := hT
  have KT : Hid (∀ x, Q W0 x → _) := fun x q => total_any (.slice ad n c) D x (HD0.out.next q) hbd hbs
  have HN : Hid (D.length = n) := hn
  have hn2 : n ≤ 140737488355328 := by omega
  rw [hn]
  clear hD hT hbd hbs hn
  go_enter Tryd.func3, Tryd.ntmps3
  go_wp2_with fail
  refine Calls.mono HK.out ?_
  rintro e w1 ⟨rfl, q1⟩
  have HQ1 : Hid (Q W0 w1) := q1
  have HD1 : Hid (SSl w1 (.slice ad n c) D) := HD0.out.next q1
  have HTb : Hid (Tab w1) := q1.tab HT0.out
  have KT1 := KT.out w1 q1
  clear q1 HK HD0 HT0 KT
  go_wp2_with fail
  refine Calls.mono KT1 ?_
  rintro e w2 ⟨T, rfl, hw, hT2⟩
  obtain rfl : w1 = w2 := hw.symm
  clear KT1 hw
  by_cases h2 : (2000 : Int) < (T : Int)
  · go_wp2_with fail
    go_ret
    exact ⟨rfl, HQ1.out⟩
  have HP : Hid (n + stpS D n ≤ 2000) := by
    have := hT2 (by omega)
    rw [HN.out] at this
    show _ ≤ _
    omega
  clear hT2
  go_wp2_with fail
  refine Calls.mono (new_any _) ?_
  rintro e w2 ⟨rfl, ha0, q2, l2⟩
  have HA2 : Hid (AccAt w2 w1.heap.size [] ∧ Q w1 w2 ∧ w1.heap.size < w2.heap.size) := ⟨⟨_, ha0⟩, q2, l2⟩
  clear ha0 q2 l2
  go_wp2_with fail
  refine Calls.mono (new_any _) ?_
  rintro e w3 ⟨rfl, ha0, q2, l2⟩
  have HA3 : Hid (AccAt w3 w2.heap.size [] ∧ Q w2 w3 ∧ w2.heap.size < w3.heap.size) := ⟨⟨_, ha0⟩, q2, l2⟩
  clear ha0 q2 l2
  go_wp2_with fail
  refine Calls.mono (new_any _) ?_
  rintro e w4 ⟨rfl, ha0, q2, l2⟩
  have HA4 : Hid (AccAt w4 w3.heap.size [] ∧ Q w3 w4 ∧ w3.heap.size < w4.heap.size) := ⟨⟨_, ha0⟩, q2, l2⟩
  clear ha0 q2 l2
  obtain ⟨M, hM, hMv⟩ := make_us3
  obtain ⟨w5, hw5⟩ : ∃ w5, w4.alloc (.cells #[.pointer (some ⟨w1.heap.size, 0, none⟩), .pointer (some ⟨w2.heap.size, 0, none⟩), .pointer (some ⟨w3.heap.size, 0, none⟩)] 25) = w5 := ⟨_, rfl⟩
  obtain ⟨w6, hw6⟩ : ∃ w6, w5.alloc (.cells M 29) = w6 := ⟨_, rfl⟩
  have hM5 := hM w5
  have hV5 := hMv w5
  rw [hw6] at hM5 hV5
  obtain ⟨A0, hA0⟩ : ∃ A0, w1.heap.size = A0 := ⟨_, rfl⟩
  obtain ⟨A1, hA1⟩ : ∃ A1, w2.heap.size = A1 := ⟨_, rfl⟩
  obtain ⟨A2, hA2⟩ : ∃ A2, w3.heap.size = A2 := ⟨_, rfl⟩
  obtain ⟨BA, hBA⟩ : ∃ BA, w4.heap.size = BA := ⟨_, rfl⟩
  obtain ⟨BO, hBO⟩ : ∃ BO, w5.heap.size = BO := ⟨_, rfl⟩
  have h5s : w5.heap.size = BA + 1 := by rw [← hw5, ← hBA]; simp [go_sem]
  have q5 : Q w4 w5 := by rw [← hw5]; exact (Q.refl w4).cells _ _
  have q6 : Q w5 w6 := by rw [← hw6]; exact (Q.refl w5).cells _ _
  rw [hA0, hA1, hA2] at hw5
  have c0 : w5.cell? ⟨BA, 0, none⟩ = some (.pointer (some ⟨A0, 0, none⟩)) := by rw [← hw5, ← hBA]; simp [go_sem]
  have c1 : w5.cell? ⟨BA, 1, none⟩ = some (.pointer (some ⟨A1, 0, none⟩)) := by rw [← hw5, ← hBA]; simp [go_sem]
  have c2 : w5.cell? ⟨BA, 2, none⟩ = some (.pointer (some ⟨A2, 0, none⟩)) := by rw [← hw5, ← hBA]; simp [go_sem]
  have cf : ∀ j, w5.frozen? ⟨BA, j, none⟩ = false := fun j => by rw [← hw5, ← hBA]; simp [go_sem]
  have HTz : Hid (Tri w1 w6 BA BO (fun k => if k = 0 then A0 else if k = 1 then A1 else A2) (fun _ => []) (fun _ => []) (fun _ => .slice none 0 0)) := by
    have l2 := HA2.out.2.2
    have l3 := HA3.out.2.2
    have l4 := HA4.out.2.2
    rw [hA0] at HA2
    rw [hA1] at HA3
    rw [hA2] at HA4
    have q36 := HA4.out.2.1.trans (q5.trans q6)
    have q26 := HA3.out.2.1.trans q36
    refine ⟨HA2.out.2.1.trans q26, fun k hk => ?_, fun k hk => ?_, fun j => (q6.2 _).trans (cf j), fun j => by rw [← hBO]; exact hV5.free j, fun k hk => ?_, fun k hk => Or.inr ⟨_, _, rfl, rfl⟩, ⟨by omega, by omega⟩, fun k hk => ?_, by omega, fun k hk => ?_, fun i j hi hj hne => ?_, fun k hk g o n c e => by cases e⟩
    · rcases (show k = 0 ∨ k = 1 ∨ k = 2 by omega) with rfl | rfl | rfl
      · exact q6.cell c0
      · exact q6.cell c1
      · exact q6.cell c2
    · rw [← hBO]; exact hV5.cell k hk
    · rcases (show k = 0 ∨ k = 1 ∨ k = 2 by omega) with rfl | rfl | rfl
      · exact HA2.out.1.next q26
      · exact HA3.out.1.next q36
      · exact HA4.out.1.next (q5.trans q6)
    · rcases (show k = 0 ∨ k = 1 ∨ k = 2 by omega) with rfl | rfl | rfl <;> simp <;> omega
    · rcases (show k = 0 ∨ k = 1 ∨ k = 2 by omega) with rfl | rfl | rfl <;> simp <;> omega
    · rcases (show i = 0 ∨ i = 1 ∨ i = 2 by omega) with rfl | rfl | rfl <;> rcases (show j = 0 ∨ j = 1 ∨ j = 2 by omega) with rfl | rfl | rfl <;> simp at hne ⊢ <;> omega
  clear HA2 HA3 HA4 hV5 hM hMv q5 q6 c0 c1 c2 cf h5s
  go_wp2_with fail
  clear hM5 hw5 hw6
  go_loopg [5] n (fun m s5 wr => ∃ (i : Nat) (A : Nat → Nat) (L : Nat → List Nat) (V : Nat → Value), s5 = .int .i64 (i : Int) ∧ i + m = n ∧ Hid (Tri w1 wr BA BO A L L V ∧ (∀ k, k < 3 → SvO (V k) (L k).length) ∧ ∀ k, k < 3 → (L k).length ≤ 2000 + stpS D i ∧ ∀ j, (L k).getD j 0 < 4294967296))
  case atStart => exact ⟨0, _, _, _, rfl, by omega, HTz.out, fun k hk => ⟨none, 0, rfl, Nat.le_refl _, fun _ => ⟨rfl, rfl⟩⟩, fun k hk => ⟨Nat.zero_le _, lt_nil⟩⟩
  case round =>
    clear HTz
    obtain ⟨i, A, L, V, rfl, hi, HTw⟩ := hrel
    by_cases hlt : i < n
    · obtain ⟨hl, g, o, x, e, hcap, hx, hit⟩ := HD1.out.at hlt
      subst e
      have hit2 := hit.next HTw.out.1.q
      have HPn : Hid (stpS D (i + 1) = stpS D i + x.S.length) := stpS_next hx
      have HP1 : Hid (stpS D (i + 1) ≤ 2000) := by
        have := stpS_le (D := D) (show i + 1 ≤ n by omega)
        have := HP.out
        show _ ≤ _
        omega
      obtain ⟨sk, sw, so, ad2, cp2, S⟩ := x
      have d0 : wr.cell? ⟨g, o + i * 4, none⟩ = some (.int .i64 sk) := hit2.c0
      have d1 : wr.cell? ⟨g, o + i * 4 + 1, none⟩ = some (.int .i64 sw) := hit2.c1
      have d2 : wr.cell? ⟨g, o + i * 4 + 2, none⟩ = some (.int .i64 so) := hit2.c2
      have d3 : wr.cell? ⟨g, o + i * 4 + 3, none⟩ = some (.slice ad2 S.length cp2) := hit2.c3
      have hki : (i : Int) < (n : Int) := by omega
      have HU1 : Hid (USl w1 (.slice ad2 S.length cp2) S ∧ ∀ j, S.getD j 0 < 4294967296) := ⟨hit.us, hit.lt⟩
      obtain ⟨wo, hwo⟩ : ∃ wo, wr.alloc (.cells #[.int .i64 sk, .int .i64 sw, .int .i64 so, .slice ad2 S.length cp2] 31) = wo := ⟨_, rfl⟩
      obtain ⟨B6, hB⟩ : ∃ B6, wr.heap.size = B6 := ⟨_, rfl⟩
      have qo : Q wr wo := by rw [← hwo]; exact (Q.refl wr).cells _ _
      have e0 : wo.cell? ⟨B6, 0, none⟩ = some (.int .i64 sk) := by rw [← hwo, ← hB]; simp [go_sem]
      have e1 : wo.cell? ⟨B6, 1, none⟩ = some (.int .i64 sw) := by rw [← hwo, ← hB]; simp [go_sem]
      have e2 : wo.cell? ⟨B6, 2, none⟩ = some (.int .i64 so) := by rw [← hwo, ← hB]; simp [go_sem]
      have e3 : wo.cell? ⟨B6, 3, none⟩ = some (.slice ad2 S.length cp2) := by rw [← hwo, ← hB]; simp [go_sem]
      have HTo : Hid (Tri w1 wo BA BO A L L V) := HTw.out.1.next qo
      have HSv : Hid (∀ k, k < 3 → SvO (V k) (L k).length) := HTw.out.2.1
      have HBd : Hid (∀ k, k < 3 → (L k).length ≤ 2000 + stpS D i ∧ ∀ j, (L k).getD j 0 < 4294967296) := HTw.out.2.2
      have HB6 : Hid (BA < B6 ∧ BO < B6 ∧ ∀ k, k < 3 → A k < B6) := by
        rw [← hB]; exact HTw.out.1.in
      have HUo : Hid (USl wo (.slice ad2 S.length cp2) S) := hit2.us.next qo
      clear hit hit2 qo HTw hx hl
      go_wp2_with fail
      clear hwo hB d0 d1 d2 d3
      have f0 := qw_cell e0
      have f2 := qw_cell e2
      have n0 := qw_some wo
      refine wp_region_quiet_Q (by kernel_rfl) (by kernel_rfl) ?_
      repeat (first | go_big_quiet_step (first | (go_at_call 8; exact calls_qs (place3_any _ _))) | quiet_step (first | (go_at_call 8; exact calls_qs (place3_any _ _))))
      refine wpQuiet_nil ?_
      intro wp hw'
      have qp := qw_out hw'
      have e1 := qp.cell e1
      have e3 := qp.cell e3
      have HTp : Hid (Tri w1 wp BA BO A L L V) := HTo.out.next qp
      have HUS : Hid (USl wp (.slice ad2 S.length cp2) S) := HUo.out.next qp
      have hp3 : (sk % 3).toNat < 3 := by omega
      have hj3 : (so % 3).toNat < 3 := by omega
      have HB6p : Hid (B6 < wp.heap.size) := World.block_lt_of_cell? _ _ e1
      clear f0 f2 n0 hw' qp HTo HUo e0 e2
      generalize (sk % 3).toNat = p at *
      generalize (so % 3).toNat = j at *
      have hpi : (p : Int) < 3 := by omega
      have hji : (j : Int) < 3 := by omega
      by_cases k0 : sw = 0
      · have n0 : (sw == 0) = true := by rw [k0]; rfl
        clear k0
        have hSl : S.length ≤ 2000 := by
          have h1 : stpS D (i + 1) = stpS D i + S.length := HPn.out
          have h2 := HP1.out
          omega
        obtain ⟨va, vc, ev, hvc, hvz⟩ := HSv.out p hp3
        have b1 : (L p).length ≤ 4000 := by
          have h1 := (HBd.out p hp3).1
          have h2 := HPn.out
          have h3 := HP1.out
          omega
        go_wp2_with fail
        refine Calls.mono (lent_any _ S wp HUS.out (by omega)) ?_
        rintro e w2 ⟨rfl, hL, q2⟩
        obtain ⟨gl, hgl⟩ : ∃ gl, wp.heap.size = gl := ⟨_, rfl⟩
        rw [hgl] at hL
        rw [hgl]
        have HSp2 : Hid (SpL w2 gl S.length) := ⟨fun i hi => ⟨_, hL.s i hi⟩, fun j => (q2.2 _).trans (by rw [← hgl]; simp [World.frozen?])⟩
        have HL2 : Hid (Lent w2 gl S) := hL
        have HIn : Hid (BA < gl ∧ BO < gl ∧ (∀ k, k < 3 → A k < gl) ∧ w1.heap.size ≤ gl ∧ ∀ k, k < 3 → ∀ g o n c, V k = .slice (some ⟨g, o, none⟩) n c → 1 ≤ (L k).length → g < gl) := by
          obtain ⟨i1, i2, i3⟩ := HTp.out.in
          rw [← hgl]
          refine ⟨i1, i2, i3, HTp.out.q.1.size, fun k hk g o n c e hx => ?_⟩
          have hu := HTp.out.us k hk
          rw [e] at hu
          exact usl_in hu hx
        have HT2 : Hid (Tri w1 w2 BA BO A L L V) := HTp.out.next q2
        have e3 := q2.cell e3
        have HUS2 : Hid (USl w2 (.slice ad2 S.length cp2) S) := HUS.out.next q2
        have pa := HT2.out.pa p hp3
        obtain ⟨Np, hap⟩ := HT2.out.acc p hp3
        have KA := acc_add (lentV gl S) S (L p) (A p) (L p).length Np w2 hap hL.usl (fun g o cap _ e => by
          unfold lentV at e
          injection e with e _ _
          injection e with e
          injection e with e
          have := HIn.out.2.2.1 p hp3
          omega) HU1.out.2 (by omega)
        clear hap hL q2 hgl HTp HUS
        unfold lentV at KA ⊢
        go_wp2_with fail
        refine Calls.mono KA ?_
        rintro e w3 ⟨rfl, ⟨N3, hA3⟩, f3⟩
        clear KA pa
        have hne : gl ≠ A p := by have := HIn.out.2.2.1 p hp3; omega
        have HT3 : Hid (Tri w1 w3 BA BO A (up L p (L p ++ S)) L V) := HT2.out.add hp3 f3 ⟨N3, by rw [List.length_append]; exact hA3⟩
        have HL3 : Hid (Lent w3 gl S) := ⟨fun i hi => f3.cell (HL2.out.s i hi) hne, f3.cell HL2.out.a hne, f3.cell HL2.out.b hne, Nat.lt_of_lt_of_le HL2.out.l f3.size⟩
        have HSp3 : Hid (SpL w3 gl S.length) := ⟨fun i hi => by obtain ⟨z, hz⟩ := HSp2.out.cell i hi; exact ⟨z, f3.cell hz hne⟩, fun j => (f3.frz _).trans (HSp2.out.free j)⟩
        have e3 := f3.cell e3 (show B6 ≠ A p by have := HB6.out.2.2 p hp3; omega)
        have HUS3 : Hid (USl w3 (.slice ad2 S.length cp2) S) := usl_blk HUS2.out fun g o n c i e h1 => by
          have hu := HU1.out.1
          rw [e] at hu
          have h2 := usl_in hu h1
          have h3 := HT2.out.la p hp3
          have h4 := HT2.out.q.1.size
          exact f3.cells (by omega) (by omega)
        clear hA3 f3 HL2 HSp2 HUS2 HT2 hne
        have KS := stays_any gl (.slice ad2 S.length cp2) S w3 HL3.out HUS3.out (by omega)
        unfold lentV at KS
        go_wp2_with fail
        refine Calls.mono KS ?_
        rintro e w4 ⟨rfl, q4⟩
        clear KS
        have HT4 : Hid (Tri w1 w4 BA BO A (up L p (L p ++ S)) L V) := HT3.out.next q4
        have HSp4 : Hid (SpL w4 gl S.length) := ⟨fun i hi => by obtain ⟨z, hz⟩ := HSp3.out.cell i hi; exact ⟨z, q4.cell hz⟩, fun j => (q4.2 _).trans (HSp3.out.free j)⟩
        have HG4 : Hid (gl < w4.heap.size) := Nat.lt_of_lt_of_le HL3.out.l q4.1.size
        have e3 := q4.cell e3
        have HUS4 : Hid (USl w4 (.slice ad2 S.length cp2) S) := HUS3.out.next q4
        clear q4 HT3 HSp3 HUS3 HL3
        go_wp2_with fail
        refine regionA8 (BO := BO) (k := p) (B6 := B6) (k2 := 0) (aX := va) (aS := ad2) (nX := (L p).length) (cX := vc) (nS := S.length) (cS := cp2) (n0 := w4.heap.size) (X := L p) (S := S) rfl (by simp) ⟨rfl, rfl, hp3, by rw [← ev]; exact HT4.out.po p hp3, usl_cap (c := vc) (by have := HT4.out.us p hp3; rw [ev] at this; exact this), HUS4.out, rfl, rfl, by omega, hvc, hvz, rfl, HT4.out.fo, rfl, e3⟩ ?_
        intro x la lc v56 v57 v58 v59 v60 v61 v62 v63 v64 v65 v66 v67 v68 v69 v70 v71 v72 v73 v74 v75 v76 qx hu hb hlz
        have HT5 : Hid (Tri w1 (x.setCell ⟨BO, p, none⟩ (.slice la ((L p).length + S.length) lc)) BA BO A (up L p (L p ++ S)) (up L p (L p ++ S)) (up V p (.slice la ((L p).length + S.length) lc))) := by
          refine (HT4.out.next qx).row hp3 hu fun g o n c e h1 => ?_
          injection e with e _ _
          rcases hb g o e with h | ⟨h, h0⟩
          · obtain ⟨i1, i2, i3⟩ := HT4.out.in
            exact ⟨by omega, by omega, fun i hi => by have := i3 i hi; omega⟩
          · exact HT4.out.lb p hp3 g o (L p).length vc (by rw [ev, ← h, e]) (by rw [List.length_append] at h1; omega)
        have HG5 : Hid (∀ k, k < 3 → ∀ g o n c, up V p (.slice la ((L p).length + S.length) lc) k = .slice (some ⟨g, o, none⟩) n c → 1 ≤ (up L p (L p ++ S) k).length → g ≠ gl) := fun k hk g o n c e h1 => by
          by_cases hkp : k = p
          · rw [hkp, up_same] at e h1
            injection e with e _ _
            rcases hb g o e with h | ⟨h, h0⟩
            · have := HG4.out
              omega
            · have := HIn.out.2.2.2.2 p hp3 g o (L p).length vc (by rw [ev, ← h, e]) (by rw [List.length_append] at h1; omega)
              omega
          · rw [up_other _ _ hkp] at e h1
            have := HIn.out.2.2.2.2 k hk g o n c e h1
            omega
        have HSp5 : Hid (SpL (x.setCell ⟨BO, p, none⟩ (.slice la ((L p).length + S.length) lc)) gl S.length) := ⟨fun i hi => by
          obtain ⟨z, hz⟩ := HSp4.out.cell i hi
          exact ⟨z, (World.cell?_setCell_other _ _ _ _ (fun e => by injection e with e _; have := HIn.out.2.1; omega)).trans (qx.cell hz)⟩, fun j => (World.frozen?_setCell _ _ _ _).trans ((qx.2 _).trans (HSp4.out.free j))⟩
        rw [normA8]
        generalize x.setCell ⟨BO, p, none⟩ (.slice la ((L p).length + S.length) lc) = w5 at *
        clear hu hb HT4 qx HSp4 HUS4 e3 HG4
        go_wp2_with fail
        have HX0 : Hid (SpL w5 gl S.length ∧ Fb gl w5 w5) := ⟨HSp5.out, Fb.refl _ _⟩
        go_loopg [10] S.length (fun m s10 wx => ∃ q : Nat, s10 = .int .i64 (q : Int) ∧ q + m = S.length ∧ Hid (SpL wx gl S.length ∧ Fb gl w5 wx))
        case atStart => exact ⟨0, rfl, by omega, HX0⟩
        case round =>
          clear HX0
          obtain ⟨q, rfl, hq, HX⟩ := hrel
          by_cases hlq : q < S.length
          · have hkq : (q : Int) < (S.length : Int) := by omega
            obtain ⟨z, hz⟩ := HX.out.1.cell q hlq
            have fz := HX.out.1.free q
            have HY : Hid (SpL (wr.setCell ⟨gl, q, none⟩ (.int .u32 2139095040)) gl S.length ∧ Fb gl w5 (wr.setCell ⟨gl, q, none⟩ (.int .u32 2139095040))) := ⟨HX.out.1.set _, HX.out.2.set rfl _⟩
            go_wp2_with fail
            go_roundg (S.length - (q + 1))
            case measure => go_light; omega
            case rel => go_light; exact ⟨q + 1, by go_num, by omega, HY⟩
          · obtain rfl : q = S.length := by omega
            obtain ⟨w6, hw6⟩ : ∃ x, x = wr := ⟨wr, rfl⟩
            subst hw6
            have hgq : ¬ (S.length : Int) < (S.length : Int) := by omega
            have HT6 : Hid (Tri w1 w6 BA BO A (up L p (L p ++ S)) (up L p (L p ++ S)) (up V p (.slice la ((L p).length + S.length) lc))) := HT5.out.far HX.out.2 HIn.out.2.2.2.1 (by have := HIn.out.1; omega) (by have := HIn.out.2.1; omega) (fun k hk => by have := HIn.out.2.2.1 k hk; omega) HG5.out
            clear HX HT5 HSp5 HG5
            obtain ⟨A9, L9, V9, HE⟩ : ∃ (A : Nat → Nat) (L : Nat → List Nat) (V : Nat → Value), Hid (Tri w1 w6 BA BO A L L V ∧ (∀ k, k < 3 → SvO (V k) (L k).length) ∧ ∀ k, k < 3 → (L k).length ≤ 2000 + stpS D (i + 1) ∧ ∀ j, (L k).getD j 0 < 4294967296) := by
              refine ⟨_, _, _, HT6.out, fun k hk => ?_, fun k hk => ?_⟩
              · by_cases e : k = p
                · rw [e, up_same, up_same]
                  exact ⟨la, lc, by rw [List.length_append], by rw [List.length_append]; exact hlz.1, by rw [List.length_append]; exact hlz.2⟩
                · rw [up_other _ _ e, up_other _ _ e]; exact HSv.out k hk
              · by_cases e : k = p
                · rw [e, up_same]
                  exact ⟨by have := (HBd.out p hp3).1; have h9 : stpS D (i + 1) = stpS D i + S.length := HPn.out; rw [List.length_append]; omega, lt_app (HBd.out p hp3).2 HU1.out.2⟩
                · rw [up_other _ _ e]; exact ⟨by have := (HBd.out k hk).1; have := HPn.out; omega, (HBd.out k hk).2⟩
            clear HT6 HSv HBd HU1 ev hvc hvz hlz b1 HIn
            go_wp2_with fail
            go_loopg [11] 3 (fun m s11 wx => ∃ t : Nat, s11 = .int .i64 (t : Int) ∧ t + m = 3 ∧ Hid (Q w6 wx))
            case atStart => exact ⟨0, rfl, by omega, Q.refl _⟩
            case round =>
              obtain ⟨t, rfl, ht, HX⟩ := hrel
              by_cases h3 : t < 3
              · have h3' : (t : Int) < 3 := by omega
                have pa := HX.out.cell (HE.out.1.pa t h3)
                have po := HX.out.cell (HE.out.1.po t h3)
                obtain ⟨va, vc, ev, hvc, hvz⟩ := HE.out.2.1 t h3
                rw [ev] at po
                have KH : Hid (∀ y : QW wr, Calls Tryd.prog 14 #[.pointer (some ⟨A9 t, 0, none⟩), .slice va (L9 t).length vc] y.x fun e w' => e = .returned (.bool true) ∧ Q y.x w') := fun y => by
                  have q := HX.out.trans y.q
                  have hu := (HE.out.1.us t h3).next q
                  rw [ev] at hu
                  have hl := (HE.out.2.2 t h3).1
                  have hp := HP1.out
                  exact holds_any (A9 t) (L9 t) _ y.x ((HE.out.1.acc t h3).next q) hu (HE.out.2.2 t h3).2 (by omega) ((HE.out.1.q.trans q).tab HTb.out)
                clear ev hvc hvz
                generalize A9 t = P9 at pa KH
                generalize (L9 t).length = n9 at po KH
                go_wp2_with fail
                have f0 := qw_cell pa
                have f1 := qw_cell po
                have n0 := qw_some wr
                refine wp_region_quiet_Q (by kernel_rfl) (by kernel_rfl) ?_
                repeat (first | go_big_quiet_step (first | (go_at_call 14; exact calls_qw (KH.out _))) | quiet_step (first | (go_at_call 14; exact calls_qw (KH.out _))))
                refine wpQuiet_nil ?_
                intro wy hw'
                have HY : Hid (Q w6 wy) := HX.out.trans (qw_out hw')
                clear f0 f1 n0 hw' pa po KH HX
                go_wp2_with fail
                go_roundg (3 - (t + 1))
                case measure => go_light; omega
                case rel => go_light; exact ⟨t + 1, by go_num, by omega, HY⟩
              · obtain rfl : t = 3 := by omega
                have HF : Hid (Tri w1 wr BA BO A9 L9 L9 V9) := HE.out.1.next HX.out
                clear HX
                go_wp2_with fail
                go_roundg (n - (i + 1))
                case measure => go_light; omega
                case rel => go_light; exact ⟨i + 1, A9, L9, V9, by go_num, by omega, HF.out, HE.out.2.1, HE.out.2.2⟩
      by_cases k1 : sw = 1
      · have n0 : (sw == 0) = false := by rw [beq_eq_false_iff_ne]; omega
        have n1 : (sw == 1) = true := by rw [k1]; rfl
        clear k0 k1
        obtain ⟨va, vc, ev, hvc, hvz⟩ := HSv.out p hp3
        obtain ⟨vb, vd, eb, hbc, hbz⟩ := HSv.out j hj3
        have pop := HTp.out.po p hp3
        have poj := HTp.out.po j hj3
        rw [ev] at pop
        rw [eb] at poj
        have hlp := (HBd.out p hp3).1
        have hlj := (HBd.out j hj3).1
        have hp1 := HP1.out
        have hpn := HPn.out
        have HLn : Hid ((L p).length ≤ 2000 + stpS D i ∧ (L j).length ≤ 2000 + stpS D i ∧ stpS D i ≤ 2000) := ⟨hlp, hlj, by omega⟩
        have b1 : (L p).length ≤ 4000 := by omega
        have b2 : (L j).length ≤ 4000 := by omega
        clear hlp hlj hp1 hpn
        have f0 := qw_cell pop
        have f1 := qw_cell poj
        have n0' := qw_some wp
        go_wp2_with fail
        refine wp_region_quiet_Q (by kernel_rfl) (by kernel_rfl) ?_
        repeat (first | go_big_quiet_step (fail) | quiet_step (fail))
        refine wpQuiet_nil ?_
        intro w2 hw'
        have q2 := qw_out hw'
        have HT2 : Hid (Tri w1 w2 BA BO A L L V) := HTp.out.next q2
        clear f0 f1 n0' hw' q2 HTp pop poj
        by_cases h20 : (2000 : Int) < ((L p).length : Int) + ((L j).length : Int)
        · go_wp2_with fail
          go_ret
          exact ⟨rfl, HQ1.out.trans HT2.out.q⟩
        go_wp2_with fail
        have pa1 := HT2.out.pa p hp3
        have pa2 := HT2.out.pa j hj3
        have f0 := qw_cell pa1
        have f1 := qw_cell pa2
        have n0' := qw_some w2
        refine wp_lastR 8 rfl _ rfl (by kernel_rfl) (by kernel_rfl) (by kernel_rfl) ?_
        simp only [List.take_succ_cons, List.take_zero]
        repeat (first | go_big_quiet_step (fail) | quiet_step (fail))
        refine wpQuiet_nil ?_
        intro n2 K2 hK2
        clear f0 f1 n0' pa1 pa2
        have HT3 : Hid (Tri w1 n2.x BA BO A L L V) := HT2.out.next n2.q
        clear HT2
        generalize n2.x = w3 at *
        obtain ⟨Np, hap⟩ := HT3.out.acc p hp3
        obtain ⟨Nj, haj⟩ := HT3.out.acc j hj3
        have KM := merge_any (L p) (L j) (A p) (A j) (L p).length (L j).length Np Nj w3 hap haj (by omega)
        clear hap haj
        go_wp2_with fail
        refine Calls.mono KM ?_
        rintro e w4 ⟨rfl, hm, f4⟩
        have HT4 : Hid (Tri w1 w4 BA BO A (up L p (L p ++ L j)) L V) := HT3.out.add hp3 f4 ⟨_, by rw [List.length_append]; exact hm⟩
        clear hm f4 KM HT3
        go_wp2_with fail
        refine regionA7 (BO := BO) (k := p) (B6 := B6) (k2 := j) (aX := va) (aS := vb) (nX := (L p).length) (cX := vc) (nS := (L j).length) (cS := vd) (n0 := w4.heap.size) (X := L p) (S := L j) rfl (by simp) ⟨rfl, rfl, hp3, by rw [← ev]; exact HT4.out.po p hp3, usl_cap (c := vc) (by have := HT4.out.us p hp3; rw [ev] at this; exact this), by have := HT4.out.us j hj3; rw [eb] at this; exact this, rfl, rfl, by omega, hvc, hvz, rfl, HT4.out.fo, rfl, hj3, by rw [← eb]; exact HT4.out.po j hj3⟩ ?_
        intro x la lc v109 v110 v111 v112 v113 v114 v115 v116 v117 v118 v119 v120 v121 v122 v123 v124 v125 v126 v127 v128 v129 v130 v131 qx hu hb hlz
        have HT5 : Hid (Tri w1 (x.setCell ⟨BO, p, none⟩ (.slice la ((L p).length + (L j).length) lc)) BA BO A (up L p (L p ++ L j)) (up L p (L p ++ L j)) (up V p (.slice la ((L p).length + (L j).length) lc))) := by
          refine (HT4.out.next qx).row hp3 hu fun g o n c e h1 => ?_
          injection e with e _ _
          rcases hb g o e with h | ⟨h, h0⟩
          · obtain ⟨i1, i2, i3⟩ := HT4.out.in
            exact ⟨by omega, by omega, fun i hi => by have := i3 i hi; omega⟩
          · exact HT4.out.lb p hp3 g o (L p).length vc (by rw [ev, ← h, e]) (by rw [List.length_append] at h1; omega)
        rw [normA7]
        generalize x.setCell ⟨BO, p, none⟩ (.slice la ((L p).length + (L j).length) lc) = w5 at *
        clear hu hb HT4 qx
        obtain ⟨A9, L9, V9, HE⟩ : ∃ (A : Nat → Nat) (L : Nat → List Nat) (V : Nat → Value), Hid (Tri w1 w5 BA BO A L L V ∧ (∀ k, k < 3 → SvO (V k) (L k).length) ∧ ∀ k, k < 3 → (L k).length ≤ 2000 + stpS D (i + 1) ∧ ∀ j, (L k).getD j 0 < 4294967296) := by
          refine ⟨_, _, _, HT5.out, fun k hk => ?_, fun k hk => ?_⟩
          · by_cases e : k = p
            · rw [e, up_same, up_same]
              exact ⟨la, lc, by rw [List.length_append], by rw [List.length_append]; exact hlz.1, by rw [List.length_append]; exact hlz.2⟩
            · rw [up_other _ _ e, up_other _ _ e]; exact HSv.out k hk
          · by_cases e : k = p
            · rw [e, up_same]
              exact ⟨by rw [List.length_append]; omega, lt_app (HBd.out p hp3).2 (HBd.out j hj3).2⟩
            · rw [up_other _ _ e]; exact ⟨by have := (HBd.out k hk).1; have := HPn.out; omega, (HBd.out k hk).2⟩
        clear HT5 HSv HBd HUS e3 ev eb hvc hvz hbc hbz hlz h20 b1 b2 HLn
        go_wp2_with fail
        go_loopg [11] 3 (fun m s11 wx => ∃ t : Nat, s11 = .int .i64 (t : Int) ∧ t + m = 3 ∧ Hid (Q w5 wx))
        case atStart => exact ⟨0, rfl, by omega, Q.refl _⟩
        case round =>
          obtain ⟨t, rfl, ht, HX⟩ := hrel
          by_cases h3 : t < 3
          · have h3' : (t : Int) < 3 := by omega
            have pa := HX.out.cell (HE.out.1.pa t h3)
            have po := HX.out.cell (HE.out.1.po t h3)
            obtain ⟨va, vc, ev, hvc, hvz⟩ := HE.out.2.1 t h3
            rw [ev] at po
            have KH : Hid (∀ y : QW wr, Calls Tryd.prog 14 #[.pointer (some ⟨A9 t, 0, none⟩), .slice va (L9 t).length vc] y.x fun e w' => e = .returned (.bool true) ∧ Q y.x w') := fun y => by
              have q := HX.out.trans y.q
              have hu := (HE.out.1.us t h3).next q
              rw [ev] at hu
              have hl := (HE.out.2.2 t h3).1
              have hp := HP1.out
              exact holds_any (A9 t) (L9 t) _ y.x ((HE.out.1.acc t h3).next q) hu (HE.out.2.2 t h3).2 (by omega) ((HE.out.1.q.trans q).tab HTb.out)
            clear ev hvc hvz
            generalize A9 t = P9 at pa KH
            generalize (L9 t).length = n9 at po KH
            go_wp2_with fail
            have f0 := qw_cell pa
            have f1 := qw_cell po
            have n0 := qw_some wr
            refine wp_region_quiet_Q (by kernel_rfl) (by kernel_rfl) ?_
            repeat (first | go_big_quiet_step (first | (go_at_call 14; exact calls_qw (KH.out _))) | quiet_step (first | (go_at_call 14; exact calls_qw (KH.out _))))
            refine wpQuiet_nil ?_
            intro wy hw'
            have HY : Hid (Q w5 wy) := HX.out.trans (qw_out hw')
            clear f0 f1 n0 hw' pa po KH HX
            go_wp2_with fail
            go_roundg (3 - (t + 1))
            case measure => go_light; omega
            case rel => go_light; exact ⟨t + 1, by go_num, by omega, HY⟩
          · obtain rfl : t = 3 := by omega
            have HF : Hid (Tri w1 wr BA BO A9 L9 L9 V9) := HE.out.1.next HX.out
            clear HX
            go_wp2_with fail
            go_roundg (n - (i + 1))
            case measure => go_light; omega
            case rel => go_light; exact ⟨i + 1, A9, L9, V9, by go_num, by omega, HF.out, HE.out.2.1, HE.out.2.2⟩
      by_cases k2 : sw = 2
      · have n0 : (sw == 0) = false := by rw [beq_eq_false_iff_ne]; omega
        have n1 : (sw == 1) = false := by rw [beq_eq_false_iff_ne]; omega
        have n2 : (sw == 2) = true := by rw [k2]; rfl
        clear k0 k1 k2
        obtain ⟨Np, hap⟩ := HTp.out.acc p hp3
        have KC := copy_any (L p) (A p) (L p).length Np wp hap
        clear hap
        have pap := HTp.out.pa p hp3
        obtain ⟨va, vc, ev, hvc, hvz⟩ := HSv.out p hp3
        go_wp2_with fail
        refine Calls.mono KC ?_
        rintro e w2 ⟨rfl, ha0, q2, l2⟩
        clear KC
        have pa := q2.cell (HTp.out.pa j hj3)
        have pf : w2.frozen? ⟨BA, j, none⟩ = false := (q2.2 _).trans (HTp.out.fa j)
        have HT3 : Hid (Tri w1 (w2.setCell ⟨BA, j, none⟩ (.pointer (some ⟨wp.heap.size, 0, none⟩))) BA BO (up A j wp.heap.size) (up L j (L p)) L V) := by
          obtain ⟨i1, i2, i3⟩ := HTp.out.in
          have z := HTp.out.q.1.size
          refine (HTp.out.next q2).ptr hj3 ⟨_, ha0⟩ z ⟨by omega, by omega⟩ (fun j hj => by have := i3 j hj; omega) (fun j hj g o n c e hx => ?_)
          have hu := HTp.out.us j hj
          rw [e] at hu
          have := usl_in hu hx
          omega
        have po := HT3.out.po p hp3
        rw [ev] at po
        have pj := HT3.out.po j hj3
        have pof := HT3.out.fo j
        clear ha0 q2 l2 pap
        go_wp2_with fail
        have HT4 : Hid (Tri w1 ((w2.setCell ⟨BA, j, none⟩ (.pointer (some ⟨wp.heap.size, 0, none⟩))).setCell ⟨BO, j, none⟩ (.slice va (L p).length vc)) BA BO (up A j wp.heap.size) (up L j (L p)) (up L j (L p)) (up V j (.slice va (L p).length vc))) := by
          rw [← ev]
          exact HT3.out.row hj3 (HT3.out.us p hp3) (HT3.out.lb p hp3)
        generalize (w2.setCell ⟨BA, j, none⟩ (.pointer (some ⟨wp.heap.size, 0, none⟩))).setCell ⟨BO, j, none⟩ (.slice va (L p).length vc) = w5 at *
        obtain ⟨A9, L9, V9, HE⟩ : ∃ (A : Nat → Nat) (L : Nat → List Nat) (V : Nat → Value), Hid (Tri w1 w5 BA BO A L L V ∧ (∀ k, k < 3 → SvO (V k) (L k).length) ∧ ∀ k, k < 3 → (L k).length ≤ 2000 + stpS D (i + 1) ∧ ∀ j, (L k).getD j 0 < 4294967296) := by
          refine ⟨_, _, _, HT4.out, fun k hk => ?_, fun k hk => ?_⟩
          · by_cases e : k = j
            · rw [e, up_same, up_same]
              exact ⟨va, vc, rfl, hvc, hvz⟩
            · rw [up_other _ _ e, up_other _ _ e]; exact HSv.out k hk
          · by_cases e : k = j
            · rw [e, up_same]
              exact ⟨by have := (HBd.out p hp3).1; have := HPn.out; omega, (HBd.out p hp3).2⟩
            · rw [up_other _ _ e]; exact ⟨by have := (HBd.out k hk).1; have := HPn.out; omega, (HBd.out k hk).2⟩
        clear HT4 HT3 HTp HSv HBd HUS e3 pa pf po pj pof ev hvc hvz
        go_wp2_with fail
        go_loopg [11] 3 (fun m s11 wx => ∃ t : Nat, s11 = .int .i64 (t : Int) ∧ t + m = 3 ∧ Hid (Q w5 wx))
        case atStart => exact ⟨0, rfl, by omega, Q.refl _⟩
        case round =>
          obtain ⟨t, rfl, ht, HX⟩ := hrel
          by_cases h3 : t < 3
          · have h3' : (t : Int) < 3 := by omega
            have pa := HX.out.cell (HE.out.1.pa t h3)
            have po := HX.out.cell (HE.out.1.po t h3)
            obtain ⟨va, vc, ev, hvc, hvz⟩ := HE.out.2.1 t h3
            rw [ev] at po
            have KH : Hid (∀ y : QW wr, Calls Tryd.prog 14 #[.pointer (some ⟨A9 t, 0, none⟩), .slice va (L9 t).length vc] y.x fun e w' => e = .returned (.bool true) ∧ Q y.x w') := fun y => by
              have q := HX.out.trans y.q
              have hu := (HE.out.1.us t h3).next q
              rw [ev] at hu
              have hl := (HE.out.2.2 t h3).1
              have hp := HP1.out
              exact holds_any (A9 t) (L9 t) _ y.x ((HE.out.1.acc t h3).next q) hu (HE.out.2.2 t h3).2 (by omega) ((HE.out.1.q.trans q).tab HTb.out)
            clear ev hvc hvz
            generalize A9 t = P9 at pa KH
            generalize (L9 t).length = n9 at po KH
            go_wp2_with fail
            have f0 := qw_cell pa
            have f1 := qw_cell po
            have n0 := qw_some wr
            refine wp_region_quiet_Q (by kernel_rfl) (by kernel_rfl) ?_
            repeat (first | go_big_quiet_step (first | (go_at_call 14; exact calls_qw (KH.out _))) | quiet_step (first | (go_at_call 14; exact calls_qw (KH.out _))))
            refine wpQuiet_nil ?_
            intro wy hw'
            have HY : Hid (Q w5 wy) := HX.out.trans (qw_out hw')
            clear f0 f1 n0 hw' pa po KH HX
            go_wp2_with fail
            go_roundg (3 - (t + 1))
            case measure => go_light; omega
            case rel => go_light; exact ⟨t + 1, by go_num, by omega, HY⟩
          · obtain rfl : t = 3 := by omega
            have HF : Hid (Tri w1 wr BA BO A9 L9 L9 V9) := HE.out.1.next HX.out
            clear HX
            go_wp2_with fail
            go_roundg (n - (i + 1))
            case measure => go_light; omega
            case rel => go_light; exact ⟨i + 1, A9, L9, V9, by go_num, by omega, HF.out, HE.out.2.1, HE.out.2.2⟩
      by_cases k3 : sw = 3
      · have n0 : (sw == 0) = false := by rw [beq_eq_false_iff_ne]; omega
        have n1 : (sw == 1) = false := by rw [beq_eq_false_iff_ne]; omega
        have n2 : (sw == 2) = false := by rw [beq_eq_false_iff_ne]; omega
        have n3 : (sw == 3) = true := by rw [k3]; rfl
        clear k0 k1 k2 k3
        go_wp2_with fail
        refine Calls.mono (new_any _) ?_
        rintro e w2 ⟨rfl, ha0, q2, l2⟩
        have pa := q2.cell (HTp.out.pa p hp3)
        have pf : w2.frozen? ⟨BA, p, none⟩ = false := (q2.2 _).trans (HTp.out.fa p)
        have HT3 : Hid (Tri w1 (w2.setCell ⟨BA, p, none⟩ (.pointer (some ⟨wp.heap.size, 0, none⟩))) BA BO (up A p wp.heap.size) (up L p []) L V) := by
          obtain ⟨i1, i2, i3⟩ := HTp.out.in
          have z := HTp.out.q.1.size
          refine (HTp.out.next q2).ptr hp3 ⟨_, ha0⟩ z ⟨by omega, by omega⟩ (fun j hj => by have := i3 j hj; omega) (fun j hj g o n c e hx => ?_)
          have hu := HTp.out.us j hj
          rw [e] at hu
          have := usl_in hu hx
          omega
        have po := HT3.out.po p hp3
        have pof := HT3.out.fo p
        clear ha0 q2 l2
        go_wp2_with fail
        have HT4 : Hid (Tri w1 ((w2.setCell ⟨BA, p, none⟩ (.pointer (some ⟨wp.heap.size, 0, none⟩))).setCell ⟨BO, p, none⟩ (.slice none 0 0)) BA BO (up A p wp.heap.size) (up L p []) (up L p []) (up V p (.slice none 0 0))) := HT3.out.row hp3 (Or.inr ⟨_, _, rfl, rfl⟩) (fun g o n c e => by cases e)
        generalize (w2.setCell ⟨BA, p, none⟩ (.pointer (some ⟨wp.heap.size, 0, none⟩))).setCell ⟨BO, p, none⟩ (.slice none 0 0) = w5 at *
        obtain ⟨A9, L9, V9, HE⟩ : ∃ (A : Nat → Nat) (L : Nat → List Nat) (V : Nat → Value), Hid (Tri w1 w5 BA BO A L L V ∧ (∀ k, k < 3 → SvO (V k) (L k).length) ∧ ∀ k, k < 3 → (L k).length ≤ 2000 + stpS D (i + 1) ∧ ∀ j, (L k).getD j 0 < 4294967296) := by
          refine ⟨_, _, _, HT4.out, fun k hk => ?_, fun k hk => ?_⟩
          · by_cases e : k = p
            · rw [e, up_same, up_same]
              exact ⟨none, 0, rfl, Nat.le_refl _, fun _ => ⟨rfl, rfl⟩⟩
            · rw [up_other _ _ e, up_other _ _ e]; exact HSv.out k hk
          · by_cases e : k = p
            · rw [e, up_same]
              exact ⟨Nat.zero_le _, lt_nil⟩
            · rw [up_other _ _ e]; exact ⟨by have := (HBd.out k hk).1; have := HPn.out; omega, (HBd.out k hk).2⟩
        clear HT4 HT3 HTp HSv HBd HUS e3 pa pf po pof
        go_wp2_with fail
        go_loopg [11] 3 (fun m s11 wx => ∃ t : Nat, s11 = .int .i64 (t : Int) ∧ t + m = 3 ∧ Hid (Q w5 wx))
        case atStart => exact ⟨0, rfl, by omega, Q.refl _⟩
        case round =>
          obtain ⟨t, rfl, ht, HX⟩ := hrel
          by_cases h3 : t < 3
          · have h3' : (t : Int) < 3 := by omega
            have pa := HX.out.cell (HE.out.1.pa t h3)
            have po := HX.out.cell (HE.out.1.po t h3)
            obtain ⟨va, vc, ev, hvc, hvz⟩ := HE.out.2.1 t h3
            rw [ev] at po
            have KH : Hid (∀ y : QW wr, Calls Tryd.prog 14 #[.pointer (some ⟨A9 t, 0, none⟩), .slice va (L9 t).length vc] y.x fun e w' => e = .returned (.bool true) ∧ Q y.x w') := fun y => by
              have q := HX.out.trans y.q
              have hu := (HE.out.1.us t h3).next q
              rw [ev] at hu
              have hl := (HE.out.2.2 t h3).1
              have hp := HP1.out
              exact holds_any (A9 t) (L9 t) _ y.x ((HE.out.1.acc t h3).next q) hu (HE.out.2.2 t h3).2 (by omega) ((HE.out.1.q.trans q).tab HTb.out)
            clear ev hvc hvz
            generalize A9 t = P9 at pa KH
            generalize (L9 t).length = n9 at po KH
            go_wp2_with fail
            have f0 := qw_cell pa
            have f1 := qw_cell po
            have n0 := qw_some wr
            refine wp_region_quiet_Q (by kernel_rfl) (by kernel_rfl) ?_
            repeat (first | go_big_quiet_step (first | (go_at_call 14; exact calls_qw (KH.out _))) | quiet_step (first | (go_at_call 14; exact calls_qw (KH.out _))))
            refine wpQuiet_nil ?_
            intro wy hw'
            have HY : Hid (Q w5 wy) := HX.out.trans (qw_out hw')
            clear f0 f1 n0 hw' pa po KH HX
            go_wp2_with fail
            go_roundg (3 - (t + 1))
            case measure => go_light; omega
            case rel => go_light; exact ⟨t + 1, by go_num, by omega, HY⟩
          · obtain rfl : t = 3 := by omega
            have HF : Hid (Tri w1 wr BA BO A9 L9 L9 V9) := HE.out.1.next HX.out
            clear HX
            go_wp2_with fail
            go_roundg (n - (i + 1))
            case measure => go_light; omega
            case rel => go_light; exact ⟨i + 1, A9, L9, V9, by go_num, by omega, HF.out, HE.out.2.1, HE.out.2.2⟩
      have n0 : (sw == 0) = false := by rw [beq_eq_false_iff_ne]; omega
      have n1 : (sw == 1) = false := by rw [beq_eq_false_iff_ne]; omega
      have n2 : (sw == 2) = false := by rw [beq_eq_false_iff_ne]; omega
      have n3 : (sw == 3) = false := by rw [beq_eq_false_iff_ne]; omega
      clear k0 k1 k2 k3
      obtain ⟨A9, L9, V9, HE⟩ : ∃ (A : Nat → Nat) (L : Nat → List Nat) (V : Nat → Value), Hid (Tri w1 wp BA BO A L L V ∧ (∀ k, k < 3 → SvO (V k) (L k).length) ∧ ∀ k, k < 3 → (L k).length ≤ 2000 + stpS D (i + 1) ∧ ∀ j, (L k).getD j 0 < 4294967296) := ⟨A, L, V, HTp.out, HSv.out, fun k hk => ⟨by have := (HBd.out k hk).1; have := HPn.out; omega, (HBd.out k hk).2⟩⟩
      clear HTp HSv HBd HUS e3
      go_wp2_with fail
      go_loopg [11] 3 (fun m s11 wx => ∃ t : Nat, s11 = .int .i64 (t : Int) ∧ t + m = 3 ∧ Hid (Q wp wx))
      case atStart => exact ⟨0, rfl, by omega, Q.refl _⟩
      case round =>
        obtain ⟨t, rfl, ht, HX⟩ := hrel
        by_cases h3 : t < 3
        · have h3' : (t : Int) < 3 := by omega
          have pa := HX.out.cell (HE.out.1.pa t h3)
          have po := HX.out.cell (HE.out.1.po t h3)
          obtain ⟨va, vc, ev, hvc, hvz⟩ := HE.out.2.1 t h3
          rw [ev] at po
          have KH : Hid (∀ y : QW wr, Calls Tryd.prog 14 #[.pointer (some ⟨A9 t, 0, none⟩), .slice va (L9 t).length vc] y.x fun e w' => e = .returned (.bool true) ∧ Q y.x w') := fun y => by
            have q := HX.out.trans y.q
            have hu := (HE.out.1.us t h3).next q
            rw [ev] at hu
            have hl := (HE.out.2.2 t h3).1
            have hp := HP1.out
            exact holds_any (A9 t) (L9 t) _ y.x ((HE.out.1.acc t h3).next q) hu (HE.out.2.2 t h3).2 (by omega) ((HE.out.1.q.trans q).tab HTb.out)
          clear ev hvc hvz
          generalize A9 t = P9 at pa KH
          generalize (L9 t).length = n9 at po KH
          go_wp2_with fail
          have f0 := qw_cell pa
          have f1 := qw_cell po
          have n0 := qw_some wr
          refine wp_region_quiet_Q (by kernel_rfl) (by kernel_rfl) ?_
          repeat (first | go_big_quiet_step (first | (go_at_call 14; exact calls_qw (KH.out _))) | quiet_step (first | (go_at_call 14; exact calls_qw (KH.out _))))
          refine wpQuiet_nil ?_
          intro wy hw'
          have HY : Hid (Q wp wy) := HX.out.trans (qw_out hw')
          clear f0 f1 n0 hw' pa po KH HX
          go_wp2_with fail
          go_roundg (3 - (t + 1))
          case measure => go_light; omega
          case rel => go_light; exact ⟨t + 1, by go_num, by omega, HY⟩
        · obtain rfl : t = 3 := by omega
          have HF : Hid (Tri w1 wr BA BO A9 L9 L9 V9) := HE.out.1.next HX.out
          clear HX
          go_wp2_with fail
          go_roundg (n - (i + 1))
          case measure => go_light; omega
          case rel => go_light; exact ⟨i + 1, A9, L9, V9, by go_num, by omega, HF.out, HE.out.2.1, HE.out.2.2⟩
    · obtain rfl : n = i := by omega
      have hge : ¬ (n : Int) < (n : Int) := by omega
      have HQ9 : Hid (Q W0 wr) := HQ1.out.trans HTw.out.1.q
      clear HTw
      go_wp2_with fail
      go_ret
      exact ⟨rfl, HQ9.out⟩
end Go.Proofs.YtmgpaheobhfioaaDoor

/- Convert: spaces by number, and what Convert returns. -/
import Derived.Test.YtlelgifdnhnphaaG323da707
import Derived.Test.YtlelgifdnhnphaaG609c69ac
import Derived.Test.YtlelgifdnhnphaaG0c29997e
namespace Go.Proofs.Ytlelgifdnhnphaa
open Go.RowKit
set_option linter.unusedVariables false
set_option linter.unusedSimpArgs false

/-- A space that RGB goes to and comes from. -/
structure Way (k : Int) (t fa fb : Nat) (X0 X1 X2 U0 U1 U2 : Nat → Nat → Nat → Nat) : Prop where
  sp : ∀ w : World, Calls Try.prog 74 #[.int .i64 k] w fun e w' => e = .returned (.iface t (.agg #[])) ∧ w' = w
  m1 : ∀ x : World, (method 279 t (.agg #[]) "halide/space.toRGB").run Try.prog x = .ok (fa, .agg #[]) x
  m2 : ∀ x : World, (method 279 t (.agg #[]) "halide/space.fromRGB").run Try.prog x = .ok (fb, .agg #[]) x
  n1 : ∀ (args : Array Value) (x : World), (callFunc fa args).run Try.prog x = .ok (.enter fa args) x
  n2 : ∀ (args : Array Value) (x : World), (callFunc fb args).run Try.prog x = .ok (.enter fb args) x
  c1 : ∀ (a b c : Nat) (ha : a < 4294967296) (hb : b < 4294967296) (hc : c < 4294967296) (x : World), Calls Try.prog fa #[.agg #[], a3 a b c] x fun e x' => e = .returned (a3 (X0 a b c) (X1 a b c) (X2 a b c)) ∧ Q x x'
  c2 : ∀ (a b c : Nat) (ha : a < 4294967296) (hb : b < 4294967296) (hc : c < 4294967296) (x : World), Calls Try.prog fb #[.agg #[], a3 a b c] x fun e x' => e = .returned (a3 (U0 a b c) (U1 a b c) (U2 a b c)) ∧ Q x x'
  na : ∀ x : World, (nilAhead 279 t (.agg #[]) "halide/space.fromRGB").run Try.prog x = .ok (some false) x
  lt : ∀ (a b c : Nat) (ha : a < 4294967296) (hb : b < 4294967296) (hc : c < 4294967296), X0 a b c < 4294967296 ∧ X1 a b c < 4294967296 ∧ X2 a b c < 4294967296
  ut : ∀ (a b c : Nat) (ha : a < 4294967296) (hb : b < 4294967296) (hc : c < 4294967296), U0 a b c < 4294967296 ∧ U1 a b c < 4294967296 ∧ U2 a b c < 4294967296
theorem narW_lt (x : Nat) : narW x < 4294967296 := toldD_lt _
theorem logV_lt (x : Nat) : logV x < 4294967296 := by
  unfold logV
  split
  · decide
  · split
    · decide
    · split
      · decide
      · exact narW_lt _
theorem expW_lt (y : Nat) : expW y < 4294967296 := by
  unfold expW
  split
  · decide
  · split
    · decide
    · split
      · decide
      · have := exp_int (y := y) (by omega) (by omega)
        unfold expP; omega
set_option maxHeartbeats 1000000 in
theorem spaceOf_1 (w : World) : Calls Try.prog 74 #[.int .i64 1] w fun e w' => e = .returned (.iface 134 (.agg #[])) ∧ w' = w := by
  go_enter Try.func74, Try.ntmps74
  go_wp2_with fail
  go_ret
  exact ⟨rfl, rfl⟩
theorem way_1 : Way 1 134 124 123 rg0 rg1 rg2 rg0 rg1 rg2 where
  sp := spaceOf_1
  m1 := fun _ => by kernel_rfl
  m2 := fun _ => by kernel_rfl
  n1 := enters_of Try.func124 (by kernel_rfl) rfl
  n2 := enters_of Try.func123 (by kernel_rfl) rfl
  c1 := fun a b c ha hb hc x => gto_any a b c ha hb hc x
  c2 := fun a b c ha hb hc x => gfrom_any a b c ha hb hc x
  na := fun _ => by kernel_rfl
  lt := fun a b c ha hb hc => ⟨ha, hb, hc⟩
  ut := fun a b c ha hb hc => ⟨ha, hb, hc⟩
set_option maxHeartbeats 1000000 in
theorem spaceOf_2 (w : World) : Calls Try.prog 74 #[.int .i64 2] w fun e w' => e = .returned (.iface 135 (.agg #[])) ∧ w' = w := by
  go_enter Try.func74, Try.ntmps74
  go_wp2_with fail
  go_ret
  exact ⟨rfl, rfl⟩
theorem way_2 : Way 2 135 126 125 rgb0 rgb1 rgb2 ycc0 ycc1 ycc2 where
  sp := spaceOf_2
  m1 := fun _ => by kernel_rfl
  m2 := fun _ => by kernel_rfl
  n1 := enters_of Try.func126 (by kernel_rfl) rfl
  n2 := enters_of Try.func125 (by kernel_rfl) rfl
  c1 := fun a b c ha hb hc x => yto_any a b c ha hb hc x
  c2 := fun a b c ha hb hc x => yfrom_any a b c ha hb hc x
  na := fun _ => by kernel_rfl
  lt := fun a b c ha hb hc => ⟨narW_lt _, narW_lt _, narW_lt _⟩
  ut := fun a b c ha hb hc => ⟨narW_lt _, narW_lt _, narW_lt _⟩
set_option maxHeartbeats 1000000 in
theorem spaceOf_3 (w : World) : Calls Try.prog 74 #[.int .i64 3] w fun e w' => e = .returned (.iface 136 (.agg #[])) ∧ w' = w := by
  go_enter Try.func74, Try.ntmps74
  go_wp2_with fail
  go_ret
  exact ⟨rfl, rfl⟩
theorem way_3 : Way 3 136 130 129 otx0 otx1 otx2 ofx0 ofx1 ofx2 where
  sp := spaceOf_3
  m1 := fun _ => by kernel_rfl
  m2 := fun _ => by kernel_rfl
  n1 := enters_of Try.func130 (by kernel_rfl) rfl
  n2 := enters_of Try.func129 (by kernel_rfl) rfl
  c1 := fun a b c ha hb hc x => oto_any a b c ha hb hc x
  c2 := fun a b c ha hb hc x => ofrom_any a b c ha hb hc x
  na := fun _ => by kernel_rfl
  lt := fun a b c ha hb hc => ⟨expW_lt _, expW_lt _, expW_lt _⟩
  ut := fun a b c ha hb hc => ⟨logV_lt _, logV_lt _, logV_lt _⟩
set_option maxHeartbeats 1000000 in
theorem spaceOf_4 (w : World) : Calls Try.prog 74 #[.int .i64 4] w fun e w' => e = .returned (.iface 137 (.agg #[])) ∧ w' = w := by
  go_enter Try.func74, Try.ntmps74
  go_wp2_with fail
  go_ret
  exact ⟨rfl, rfl⟩
theorem way_4 : Way 4 137 135 134 drop0 drop1 drop2 lift0 lift1 lift2 where
  sp := spaceOf_4
  m1 := fun _ => by kernel_rfl
  m2 := fun _ => by kernel_rfl
  n1 := enters_of Try.func135 (by kernel_rfl) rfl
  n2 := enters_of Try.func134 (by kernel_rfl) rfl
  c1 := fun a b c ha hb hc x => lto_any a b c ha hb hc x
  c2 := fun a b c ha hb hc x => lfrom_any a b c ha hb hc x
  na := fun _ => by kernel_rfl
  lt := fun a b c ha hb hc => ⟨fkeyN_lt (addN_lt _ _), fkeyN_lt (addN_lt _ _), fkeyN_lt (lesN_lt _ _)⟩
  ut := fun a b c ha hb hc => ⟨fkeyN_lt (addN_lt _ _), fkeyN_lt (addN_lt _ _), fkeyN_lt (addN_lt _ _)⟩
set_option maxHeartbeats 1000000 in
theorem spaceOf_no (k : Int) (h1 : k ≠ 1) (h2 : k ≠ 2) (h3 : k ≠ 3) (h4 : k ≠ 4) (w : World) : Calls Try.prog 74 #[.int .i64 k] w fun e w' => e = .returned .nilIface ∧ w' = w := by
  have e1 : (k == 1) = false := by rw [beq_eq_false_iff_ne]; exact h1
  have e2 : (k == 2) = false := by rw [beq_eq_false_iff_ne]; exact h2
  have e3 : (k == 3) = false := by rw [beq_eq_false_iff_ne]; exact h3
  have e4 : (k == 4) = false := by rw [beq_eq_false_iff_ne]; exact h4
  clear h1 h2 h3 h4
  go_enter Try.func74, Try.ntmps74
  go_wp2_with fail
  go_ret
  exact ⟨rfl, rfl⟩
set_option maxHeartbeats 1000000 in
theorem isspace_any (k : Int) (w : World) : Calls Try.prog 73 #[.int .i64 k] w fun e w' => e = .returned (.bool (decide (0 ≤ k ∧ k ≤ 4))) ∧ w' = w := by
  by_cases h : 0 ≤ k
  · by_cases g : k ≤ 4
    · rw [decide_eq_true ⟨h, g⟩]
      go_enter Try.func73, Try.ntmps73
      go_wp2_with fail
      go_ret
      exact ⟨rfl, rfl⟩
    · rw [decide_eq_false (fun x => g x.2)]
      have g' : decide (k ≤ 4) = false := decide_eq_false g
      go_enter Try.func73, Try.ntmps73
      go_wp2_with fail
      go_ret
      exact ⟨rfl, rfl⟩
  · rw [decide_eq_false (fun x => h x.1)]
    have g' : decide (0 ≤ k) = false := decide_eq_false h
    go_enter Try.func73, Try.ntmps73
    go_wp2_with fail
    go_ret
    exact ⟨rfl, rfl⟩
def t4 (x y z : Nat) (e : Int) : Value := .tuple #[.int .u32 (x : Nat), .int .u32 (y : Nat), .int .u32 (z : Nat), .int .i64 e]
set_option maxHeartbeats 1000000 in
theorem conv_same (k : Int) (h0 : 0 ≤ k) (h1 : k ≤ 4) (a b c : Nat) (w : World) : Calls Try.prog 52 #[.int .i64 k, .int .i64 k, .int .u32 (a : Int), .int .u32 (b : Int), .int .u32 (c : Int)] w fun e w' => e = .returned (t4 a b c 0) ∧ Q w w' := by
  have hs := fun w => isspace_any k w
  rw [decide_eq_true ⟨h0, h1⟩] at hs
  clear h0 h1
  go_enter Try.func52, Try.ntmps52
  go_wp2_with fail
  refine (hs _).mono ?_
  rintro e w1 ⟨rfl, rfl⟩
  go_wp2_with fail
  refine bodyPost_ret (v := t4 a b c 0) (by simp [results, Try.results52, go_sem, t4]) rfl ⟨rfl, Q.refl _⟩
set_option maxHeartbeats 2000000 in
theorem conv_two {k l : Int} {ta fa fa' tb fb' fb : Nat} {X0 X1 X2 Y0 Y1 Y2 Z0 Z1 Z2 U0 U1 U2 : Nat → Nat → Nat → Nat} (h : k ≠ l) (hk : Way k ta fa fa' X0 X1 X2 Y0 Y1 Y2) (hl : Way l tb fb' fb Z0 Z1 Z2 U0 U1 U2) (a b c : Nat) (ha : a < 4294967296) (hb : b < 4294967296) (hc : c < 4294967296) (w : World) :
    Calls Try.prog 52 #[.int .i64 k, .int .i64 l, .int .u32 (a : Int), .int .u32 (b : Int), .int .u32 (c : Int)] w fun e w' => e = .returned (t4 (U0 (X0 a b c) (X1 a b c) (X2 a b c)) (U1 (X0 a b c) (X1 a b c) (X2 a b c)) (U2 (X0 a b c) (X1 a b c) (X2 a b c)) 0) ∧ Q w w' := by
  have e1 : (k == l) = false := by rw [beq_eq_false_iff_ne]; exact h
  obtain ⟨x0, x1, x2⟩ := hk.lt a b c ha hb hc
  generalize hX : X0 a b c = X at *
  generalize hY : X1 a b c = Y at *
  generalize hZ : X2 a b c = Z at *
  have HC1 : Hid (∀ x : World, Calls Try.prog fa #[.agg #[], a3 a b c] x fun e x' => e = .returned (a3 X Y Z) ∧ Q x x') := fun x => by rw [← hX, ← hY, ← hZ]; exact hk.c1 a b c ha hb hc x
  have HC2 : Hid (∀ x : World, Calls Try.prog fb #[.agg #[], a3 X Y Z] x fun e x' => e = .returned (a3 (U0 X Y Z) (U1 X Y Z) (U2 X Y Z)) ∧ Q x x') := fun x => hl.c2 X Y Z x0 x1 x2 x
  have HK : Hid (Way k ta fa fa' X0 X1 X2 Y0 Y1 Y2) := hk
  have HL : Hid (Way l tb fb' fb Z0 Z1 Z2 U0 U1 U2) := hl
  generalize U0 X Y Z = U at *
  generalize U1 X Y Z = V at *
  generalize U2 X Y Z = W at *
  clear h hk hl hX hY hZ x0 x1 x2
  go_enter Try.func52, Try.ntmps52
  go_wp2_with fail
  refine (HK.out.sp _).mono ?_
  rintro e w1 ⟨rfl, rfl⟩
  go_wp2_with fail
  refine (HL.out.sp _).mono ?_
  rintro e w2 ⟨rfl, rfl⟩
  go_wp2_with fail
  refine regionCv rfl rfl ⟨rfl, rfl, rfl, rfl, rfl, HK.out.m1, HL.out.m2, HK.out.n1, HL.out.n2, HC1.out, HC2.out, HL.out.na, Nat.le_refl _⟩ ?_
  intro x V' hlo hq hb3
  have c0' := hb3.c0
  have c1' := hb3.c1
  have c2' := hb3.c2
  generalize hz : (((x.setCell ⟨V', 0, none⟩ (.int .u32 (U : Nat))).setCell ⟨V', 1, none⟩ (.int .u32 (V : Nat))).setCell ⟨V', 2, none⟩ (.int .u32 (W : Nat))) = wz
  have HQ : Hid (Q w2 wz) := by rw [← hz]; exact ((hq.set hlo _).set hlo _).set hlo _
  have d0 : wz.cell? ⟨V', 0, none⟩ = some (.int .u32 (U : Nat)) := by rw [← hz]; simp [go_sem, c0', c1', c2']
  have d1 : wz.cell? ⟨V', 1, none⟩ = some (.int .u32 (V : Nat)) := by rw [← hz]; simp [go_sem, c0', c1', c2']
  have d2 : wz.cell? ⟨V', 2, none⟩ = some (.int .u32 (W : Nat)) := by rw [← hz]; simp [go_sem, c0', c1', c2']
  clear hz c0' c1' c2' hb3 hq hlo HC1 HC2 HK HL
  simp only [putAll]
  unfold ptrV
  go_wp2_with fail
  go_quiet (fail)
  have HZ : Hid (Q w2 (wz.drewN nq)) := sp_drewN HQ.out _
  generalize wz.drewN nq = wq at HZ ⊢
  go_wp2_with fail
  refine bodyPost_ret (v := t4 U V W 0) (by simp [results, Try.results52, go_sem, t4]) rfl ⟨rfl, HZ.out⟩
set_option maxHeartbeats 1000000 in
theorem conv_bad1 {k l : Int} (h : k ≠ l ∨ k < 0 ∨ 4 < k) (h1 : k ≠ 1) (h2 : k ≠ 2) (h3 : k ≠ 3) (h4 : k ≠ 4) (hl : (∃ t, ∀ w : World, Calls Try.prog 74 #[.int .i64 l] w fun e w' => e = .returned (.iface t (.agg #[])) ∧ w' = w) ∨ (∀ w : World, Calls Try.prog 74 #[.int .i64 l] w fun e w' => e = .returned .nilIface ∧ w' = w)) (a b c : Nat) (w : World) :
    Calls Try.prog 52 #[.int .i64 k, .int .i64 l, .int .u32 (a : Int), .int .u32 (b : Int), .int .u32 (c : Int)] w fun e w' => e = .returned (t4 0 0 0 70) ∧ Q w w' := by
  have hs := fun w => isspace_any k w
  have HS : Hid (∀ w : World, Calls Try.prog 74 #[.int .i64 k] w fun e w' => e = .returned .nilIface ∧ w' = w) := spaceOf_no k h1 h2 h3 h4
  by_cases hkl : k = l
  · have e1 : (k == l) = true := by rw [beq_iff_eq]; exact hkl
    rw [decide_eq_false (by omega)] at hs
    have HI := hs
    rcases hl with ⟨t, hl⟩ | hl
    all_goals
      clear hs h h1 h2 h3 h4 hkl
      go_enter Try.func52, Try.ntmps52
      go_wp2_with fail
      refine (HI _).mono ?_
      rintro e w1 ⟨rfl, rfl⟩
      go_wp2_with fail
      refine (HS.out _).mono ?_
      rintro e w1 ⟨rfl, rfl⟩
      go_wp2_with fail
      refine (hl _).mono ?_
      rintro e w1 ⟨rfl, rfl⟩
      go_wp2_with fail
      refine bodyPost_ret (v := t4 0 0 0 70) (by simp [results, Try.results52, go_sem, t4]) rfl ⟨rfl, Q.refl _⟩
  · have e1 : (k == l) = false := by rw [beq_eq_false_iff_ne]; exact hkl
    rcases hl with ⟨t, hl⟩ | hl
    all_goals
      clear hs h h1 h2 h3 h4 hkl
      go_enter Try.func52, Try.ntmps52
      go_wp2_with fail
      refine (HS.out _).mono ?_
      rintro e w1 ⟨rfl, rfl⟩
      go_wp2_with fail
      refine (hl _).mono ?_
      rintro e w1 ⟨rfl, rfl⟩
      go_wp2_with fail
      refine bodyPost_ret (v := t4 0 0 0 70) (by simp [results, Try.results52, go_sem, t4]) rfl ⟨rfl, Q.refl _⟩
set_option maxHeartbeats 1000000 in
theorem conv_bad2 {k l : Int} (h : k ≠ l) (t : Nat) (hk : ∀ w : World, Calls Try.prog 74 #[.int .i64 k] w fun e w' => e = .returned (.iface t (.agg #[])) ∧ w' = w) (hl : ∀ w : World, Calls Try.prog 74 #[.int .i64 l] w fun e w' => e = .returned .nilIface ∧ w' = w) (a b c : Nat) (w : World) :
    Calls Try.prog 52 #[.int .i64 k, .int .i64 l, .int .u32 (a : Int), .int .u32 (b : Int), .int .u32 (c : Int)] w fun e w' => e = .returned (t4 0 0 0 70) ∧ Q w w' := by
  have e1 : (k == l) = false := by rw [beq_eq_false_iff_ne]; exact h
  clear h
  go_enter Try.func52, Try.ntmps52
  go_wp2_with fail
  refine (hk _).mono ?_
  rintro e w1 ⟨rfl, rfl⟩
  go_wp2_with fail
  refine (hl _).mono ?_
  rintro e w1 ⟨rfl, rfl⟩
  go_wp2_with fail
  refine bodyPost_ret (v := t4 0 0 0 70) (by simp [results, Try.results52, go_sem, t4]) rfl ⟨rfl, Q.refl _⟩
end Go.Proofs.Ytlelgifdnhnphaa
/- Convert. -/
namespace Go.Proofs.Ytlelgifdnhnphaa
open Go.RowKit
set_option linter.unusedVariables false
set_option linter.unusedSimpArgs false

set_option maxHeartbeats 2000000 in
theorem way_any {k l : Int} {ta fa fa' tb fb' fb : Nat} {X0 X1 X2 Y0 Y1 Y2 Z0 Z1 Z2 U0 U1 U2 : Nat → Nat → Nat → Nat} (h : k ≠ l) (hk : Way k ta fa fa' X0 X1 X2 Y0 Y1 Y2) (hl : Way l tb fb' fb Z0 Z1 Z2 U0 U1 U2) :
    Fun3 53 (.agg #[.int .i64 k, .int .i64 l]) (fun a b c => U0 (X0 a b c) (X1 a b c) (X2 a b c)) (fun a b c => U1 (X0 a b c) (X1 a b c) (X2 a b c)) (fun a b c => U2 (X0 a b c) (X1 a b c) (X2 a b c)) where
  en := enters_of Try.func53 (by kernel_rfl) rfl
  lt := fun r s t hr hs ht => by
    obtain ⟨a1, a2, a3⟩ := hk.lt r s t hr hs ht
    exact hl.ut _ _ _ a1 a2 a3
  c := fun r s t hr hs ht w => by
    have HC : Hid (∀ w : World, Calls Try.prog 52 #[.int .i64 k, .int .i64 l, .int .u32 (r : Int), .int .u32 (s : Int), .int .u32 (t : Int)] w fun e w' => e = .returned (t4 (U0 (X0 r s t) (X1 r s t) (X2 r s t)) (U1 (X0 r s t) (X1 r s t) (X2 r s t)) (U2 (X0 r s t) (X1 r s t) (X2 r s t)) 0) ∧ Q w w') := conv_two h hk hl r s t hr hs ht
    show Calls Try.prog 53 #[.agg #[.int .i64 k, .int .i64 l], .agg #[.int .u32 (r : Int), .int .u32 (s : Int), .int .u32 (t : Int)]] w fun e w' => e = .returned (.agg #[.int .u32 ((U0 (X0 r s t) (X1 r s t) (X2 r s t) : Nat) : Int), .int .u32 ((U1 (X0 r s t) (X1 r s t) (X2 r s t) : Nat) : Int), .int .u32 ((U2 (X0 r s t) (X1 r s t) (X2 r s t) : Nat) : Int)]) ∧ Q w w'
    generalize U0 (X0 r s t) (X1 r s t) (X2 r s t) = u at *
    generalize U1 (X0 r s t) (X1 r s t) (X2 r s t) = v at *
    generalize U2 (X0 r s t) (X1 r s t) (X2 r s t) = z at *
    clear h hk hl
    have q0 : Hid (∀ a b c d e f, Q w (((w.alloc (.cells a b)).alloc (.cells c d)).alloc (.cells e f))) := fun a b c d e f => (((Q.refl w).cells _ _).cells _ _).cells _ _
    go_enter Try.func53, Try.ntmps53
    go_wp2_with fail
    refine (HC.out _).mono ?_
    rintro e w1 ⟨rfl, q1⟩
    have hQ : Hid (Q w w1) := (q0.out _ _ _ _ _ _).trans q1
    have d0 : w1.cell? ⟨w.heap.size + 1 + 1, 0, none⟩ = some (.int .u32 0) := q1.cell (by simp [go_sem])
    have d1 : w1.cell? ⟨w.heap.size + 1 + 1, 1, none⟩ = some (.int .u32 0) := q1.cell (by simp [go_sem])
    have d2 : w1.cell? ⟨w.heap.size + 1 + 1, 2, none⟩ = some (.int .u32 0) := q1.cell (by simp [go_sem])
    have df : ∀ j, w1.frozen? ⟨w.heap.size + 1 + 1, j, none⟩ = false := fun j => (q1.2 _).trans (by simp [go_sem])
    clear q1
    unfold t4
    go_wp2_with fail
    refine bodyPost_ret (v := .agg #[.int .u32 (u : Int), .int .u32 (v : Int), .int .u32 (z : Int)]) (by simp [results, Try.results53, go_sem, d0, d1, d2]) rfl ⟨rfl, ((hQ.out.set (by show _ ≤ w.heap.size + 1 + 1; omega) _).set (by show _ ≤ w.heap.size + 1 + 1; omega) _).set (by show _ ≤ w.heap.size + 1 + 1; omega) _⟩
/-- The planes of a good picture, as planes that came in. -/
def PL.pd (a b : Nat) (x : PL) : PD := ⟨a, b, some ⟨x.g, x.o, none⟩, x.cap, x.S⟩
theorem Pc.dsl {w : World} {g o a b n cap : Nat} {L : List PL} (h : Pc w g o a b L) (hn : L.length = n) (hcap : n ≤ cap) : DSl w (.slice (some ⟨g, o, none⟩) n cap) (L.map (PL.pd a b)) := by
  refine Or.inr ⟨g, o, cap, by rw [List.length_map, hn], by rw [List.length_map, hn]; exact hcap, fun i x hx => ?_⟩
  rw [List.getElem?_map] at hx
  cases hy : L[i]? with
  | none => rw [hy] at hx; cases hx
  | some y =>
    rw [hy] at hx
    have hx : PL.pd a b y = x := Option.some.inj hx
    subst hx
    obtain ⟨c0, c1, c2⟩ := h.row i y hy
    exact ⟨c0, c1, c2, (h.it y (List.mem_of_getElem? hy)).usl⟩
theorem Pc.fine {w : World} {g o a b n : Nat} {L : List PL} (h : Pc w g o a b L) (hn : L.length = n) {sp : Int} (hsp : spcB sp n = true) : chkP sp (L.map (PL.pd a b)) = 0 := by
  have hlen : (L.map (PL.pd a b)).length = n := by rw [List.length_map, hn]
  have h1 : numB ((L.map (PL.pd a b)).length : Int) = true := by
    have := h.n1; have := h.n4
    unfold numB; rw [hlen]; simp; omega
  have h2 : firstE (L.map (PL.pd a b)) = 0 := firstE_ok (fun j y hy => by
    rw [List.getElem?_map] at hy
    cases hz : L[j]? with
    | none => rw [hz] at hy; cases hy
    | some z =>
      rw [hz] at hy
      have hy : PL.pd a b z = y := Option.some.inj hy
      subst hy
      show chk a b z.S.length = 0
      rw [(h.it z (List.mem_of_getElem? hz)).len]
      exact chk_size h.size)
  obtain ⟨z, hz⟩ : ∃ z, L[0]? = some z := ⟨_, List.getElem?_eq_getElem (by have := h.n1; omega)⟩
  have h3 : ((L.map (PL.pd a b)).all fun x => x.like ((L.map (PL.pd a b)).getD 0 pd0)) = true := by
    rw [List.all_eq_true]
    intro x hx
    obtain ⟨y, hy, rfl⟩ := List.mem_map.1 hx
    rw [List.getD_eq_getElem?_getD, List.getElem?_map, hz]
    simp [PD.like, PL.pd]
  unfold chkP
  rw [if_pos h1, if_pos h2, if_pos h3, hlen, if_pos hsp]
theorem pcheck_good {w : World} {g o a b n cap : Nat} {L : List PL} (h : Pc w g o a b L) (hn : L.length = n) (hcap : n ≤ cap) {sp : Int} (hsp : spcB sp n = true) :
    Calls Try.prog 16 #[.agg #[.int .i64 sp, .slice (some ⟨g, o, none⟩) n cap]] w fun e w' => e = .returned (.int .i64 0) ∧ Q w w' := by
  have := pcheck_any w sp _ _ (h.dsl hn hcap) (fun x hx => by
    obtain ⟨y, hy, rfl⟩ := List.mem_map.1 hx
    have := (h.it y hy).len
    have := h.size.ab
    show y.S.length ≤ _
    omega) (by rw [List.length_map]; have := h.n4; omega)
  rwa [h.fine hn hsp] at this
set_option maxHeartbeats 2000000 in
set_option maxRecDepth 100000 in
theorem conv8_good {k l : Int} {ta fa fa' tb fb' fb : Nat} {X0 X1 X2 Y0 Y1 Y2 Z0 Z1 Z2 U0 U1 U2 : Nat → Nat → Nat → Nat} (hkl : k ≠ l) (hk : Way k ta fa fa' X0 X1 X2 Y0 Y1 Y2) (hl : Way l tb fb' fb Z0 Z1 Z2 U0 U1 U2)
    (w : World) (g o cap a b n : Nat) (L : List PL) (h : Pc w g o a b L) (hn : L.length = n) (hcap : n ≤ cap) (h3 : 3 ≤ n) (hsp : spcB k n = true) :
    Calls Try.prog 25 #[.agg #[.int .i64 k, .slice (some ⟨g, o, none⟩) n cap], .int .i64 l] w fun e w' => ∃ g' cap' M, e = .returned (.tuple #[.agg #[.int .i64 l, .slice (some ⟨g', 0, none⟩) n cap'], .int .i64 0]) ∧ M.map PL.S = mixL (fun a b c => U0 (X0 a b c) (X1 a b c) (X2 a b c)) (fun a b c => U1 (X0 a b c) (X1 a b c) (X2 a b c)) (fun a b c => U2 (X0 a b c) (X1 a b c) (X2 a b c)) (L.map PL.S) ∧ Hid (Nw w.heap.size w' g' cap' a b M) ∧ Q w w' := by
  have HP : Hid (Pc w g o a b L) := h
  have HF : Hid (Fun3 53 (.agg #[.int .i64 k, .int .i64 l]) (fun a b c => U0 (X0 a b c) (X1 a b c) (X2 a b c)) (fun a b c => U1 (X0 a b c) (X1 a b c) (X2 a b c)) (fun a b c => U2 (X0 a b c) (X1 a b c) (X2 a b c))) := way_any hkl hk hl
  have HC : Hid (∀ w : World, ∃ x y z : Nat, Calls Try.prog 52 #[.int .i64 k, .int .i64 l, .int .u32 0, .int .u32 0, .int .u32 0] w fun e w' => e = .returned (.tuple #[.int .u32 (x : Nat), .int .u32 (y : Nat), .int .u32 (z : Nat), .int .i64 0]) ∧ Q w w') := fun w => ⟨_, _, _, conv_two hkl hk hl 0 0 0 (by decide) (by decide) (by decide) w⟩
  have HN : Hid (L.length = n) := hn
  have HS : Hid (spcB k n = true) := hsp
  have e1 : (k == l) = false := by rw [beq_eq_false_iff_ne]; exact hkl
  generalize (fun a b c => U0 (X0 a b c) (X1 a b c) (X2 a b c)) = G0 at *
  generalize (fun a b c => U1 (X0 a b c) (X1 a b c) (X2 a b c)) = G1 at *
  generalize (fun a b c => U2 (X0 a b c) (X1 a b c) (X2 a b c)) = G2 at *
  clear h hkl hk hl hn hsp
  go_enter Try.func25, Try.ntmps25
  go_wp2_with fail
  refine (pcheck_good (HP.out.next (((Q.refl w).cells _ _).cells _ _)) HN.out hcap HS.out).mono ?_
  rintro e w1 ⟨rfl, q1⟩
  have HQ1 : Hid (Q w w1) := (((Q.refl w).cells _ _).cells _ _).trans q1
  have p0 : w1.cell? ⟨w.heap.size, 0, none⟩ = some (.int .i64 k) := q1.cell (by simp [go_sem])
  have p1 : w1.cell? ⟨w.heap.size, 1, none⟩ = some (.slice (some ⟨g, o, none⟩) n cap) := q1.cell (by simp [go_sem])
  have r0 : w1.cell? ⟨w.heap.size + 1, 0, none⟩ = some (.int .i64 0) := q1.cell (by simp [go_sem])
  have r1 : w1.cell? ⟨w.heap.size + 1, 1, none⟩ = some (.slice none 0 0) := q1.cell (by simp [go_sem])
  have rf : ∀ j, w1.frozen? ⟨w.heap.size + 1, j, none⟩ = false := fun j => (q1.2 _).trans (by simp [go_sem])
  clear q1
  go_wp2_with fail
  obtain ⟨x, y, z, hc⟩ := HC.out w1
  refine hc.mono ?_
  rintro e w2 ⟨rfl, q2⟩
  have HQ2 : Hid (Q w w2) := HQ1.out.trans q2
  replace p0 := q2.cell p0
  replace p1 := q2.cell p1
  replace r0 := q2.cell r0
  replace r1 := q2.cell r1
  replace rf : ∀ j, w2.frozen? ⟨w.heap.size + 1, j, none⟩ = false := fun j => (q2.2 _).trans (rf j)
  clear q2 hc
  go_wp2_with fail
  refine (mixing_any w2 k l g o cap a b n L (HP.out.next HQ2.out) HN.out hcap h3 53 (.agg #[.int .i64 k, .int .i64 l]) G0 G1 G2 HF.out).mono ?_
  rintro e w3 ⟨g3, cap3, M, rfl, hM, HW, q3⟩
  have hs2 := HQ2.out.1.size
  have hlt : w.heap.size + 1 < w2.heap.size := cell_in r0
  replace r0 := q3.cell r0
  replace r1 := q3.cell r1
  replace rf : ∀ j, w3.frozen? ⟨w.heap.size + 1, j, none⟩ = false := fun j => (q3.2 _).trans (rf j)
  have HQ3 : Hid (Q w w3) := HQ2.out.trans q3
  have HM : Hid (M.map PL.S = mixL G0 G1 G2 (L.map PL.S)) := hM
  have HW' : Hid (Nw (w.heap.size + 2) w3 g3 cap3 a b M) := HW.out.mono (by omega)
  clear q3 hM
  go_wp2_with fail
  have F9 : Fr w3 ((w3.setCell ⟨w.heap.size + 1, 0, none⟩ (.int .i64 l)).setCell ⟨w.heap.size + 1, 1, none⟩ (.slice (some ⟨g3, 0, none⟩) n cap3)) (fun b => b ≠ w.heap.size + 1) := ((Fr.refl w3 _).set (fun h => h rfl) _).set (fun h => h rfl) _
  refine bodyPost_ret (v := .tuple #[.agg #[.int .i64 l, .slice (some ⟨g3, 0, none⟩) n cap3], .int .i64 0]) (by simp [results, Try.results25, go_sem, r0, r1]) rfl ⟨g3, cap3, M, rfl, HM.out, (HW'.out.keep F9 (by have := HW'.out.low; omega) (fun x hx => by have := (HW'.out.it x hx).1.low; omega)).mono (by omega), (HQ3.out.set (by show _ ≤ w.heap.size + 1; omega) _).set (by show _ ≤ w.heap.size + 1; omega) _⟩
end Go.Proofs.Ytlelgifdnhnphaa

/- Convert: spaces by number, and what Convert returns. -/
import Derived.Test.YtedafbbpcpebbaaG6ef5e6b8
namespace Go.Proofs.Ytedafbbpcpebbaa
open Go.RowKit
set_option linter.unusedVariables false
set_option linter.unusedSimpArgs false

/-- A space that RGB goes to and comes from. -/
structure Way (k : Int) (t fa fb : Nat) (X0 X1 X2 U0 U1 U2 : Nat → Nat → Nat → Nat) : Prop where
  sp : ∀ w : World, Calls Try.prog 53 #[.int .i64 k] w fun e w' => e = .returned (.iface t (.agg #[])) ∧ w' = w
  m1 : ∀ x : World, (method 214 t (.agg #[]) "halide/space.toRGB").run Try.prog x = .ok (fa, .agg #[]) x
  m2 : ∀ x : World, (method 214 t (.agg #[]) "halide/space.fromRGB").run Try.prog x = .ok (fb, .agg #[]) x
  n1 : ∀ (args : Array Value) (x : World), (callFunc fa args).run Try.prog x = .ok (.enter fa args) x
  n2 : ∀ (args : Array Value) (x : World), (callFunc fb args).run Try.prog x = .ok (.enter fb args) x
  c1 : ∀ (a b c : Nat) (ha : a < 4294967296) (hb : b < 4294967296) (hc : c < 4294967296) (x : World), Calls Try.prog fa #[.agg #[], a3 a b c] x fun e x' => e = .returned (a3 (X0 a b c) (X1 a b c) (X2 a b c)) ∧ Q x x'
  c2 : ∀ (a b c : Nat) (ha : a < 4294967296) (hb : b < 4294967296) (hc : c < 4294967296) (x : World), Calls Try.prog fb #[.agg #[], a3 a b c] x fun e x' => e = .returned (a3 (U0 a b c) (U1 a b c) (U2 a b c)) ∧ Q x x'
  na : ∀ x : World, (nilAhead 214 t (.agg #[]) "halide/space.fromRGB").run Try.prog x = .ok (some false) x
  lt : ∀ (a b c : Nat) (ha : a < 4294967296) (hb : b < 4294967296) (hc : c < 4294967296), X0 a b c < 4294967296 ∧ X1 a b c < 4294967296 ∧ X2 a b c < 4294967296
  ut : ∀ (a b c : Nat) (ha : a < 4294967296) (hb : b < 4294967296) (hc : c < 4294967296), U0 a b c < 4294967296 ∧ U1 a b c < 4294967296 ∧ U2 a b c < 4294967296
theorem narW_lt (x : Nat) : narW x < 4294967296 := toldD_lt _
theorem logV_lt (x : Nat) : logV x < 4294967296 := by
  unfold logV
  split
  · decide
  · split
    · decide
    · split
      · decide
      · exact narW_lt _
theorem expW_lt (y : Nat) : expW y < 4294967296 := by
  unfold expW
  split
  · decide
  · split
    · decide
    · split
      · decide
      · have := exp_int (y := y) (by omega) (by omega)
        unfold expP; omega
set_option maxHeartbeats 1000000 in
theorem spaceOf_1 (w : World) : Calls Try.prog 53 #[.int .i64 1] w fun e w' => e = .returned (.iface 87 (.agg #[])) ∧ w' = w := by
  go_enter Try.func53, Try.ntmps53
  go_wp2_with fail
  go_ret
  exact ⟨rfl, rfl⟩
theorem way_1 : Way 1 87 113 112 rg0 rg1 rg2 rg0 rg1 rg2 where
  sp := spaceOf_1
  m1 := fun _ => by kernel_rfl
  m2 := fun _ => by kernel_rfl
  n1 := enters_of Try.func113 (by kernel_rfl) rfl
  n2 := enters_of Try.func112 (by kernel_rfl) rfl
  c1 := fun a b c ha hb hc x => gto_any a b c ha hb hc x
  c2 := fun a b c ha hb hc x => gfrom_any a b c ha hb hc x
  na := fun _ => by kernel_rfl
  lt := fun a b c ha hb hc => ⟨ha, hb, hc⟩
  ut := fun a b c ha hb hc => ⟨ha, hb, hc⟩
set_option maxHeartbeats 1000000 in
theorem spaceOf_2 (w : World) : Calls Try.prog 53 #[.int .i64 2] w fun e w' => e = .returned (.iface 49 (.agg #[])) ∧ w' = w := by
  go_enter Try.func53, Try.ntmps53
  go_wp2_with fail
  go_ret
  exact ⟨rfl, rfl⟩
theorem way_2 : Way 2 49 38 32 rgb0 rgb1 rgb2 ycc0 ycc1 ycc2 where
  sp := spaceOf_2
  m1 := fun _ => by kernel_rfl
  m2 := fun _ => by kernel_rfl
  n1 := enters_of Try.func38 (by kernel_rfl) rfl
  n2 := enters_of Try.func32 (by kernel_rfl) rfl
  c1 := fun a b c ha hb hc x => yto_any a b c ha hb hc x
  c2 := fun a b c ha hb hc x => yfrom_any a b c ha hb hc x
  na := fun _ => by kernel_rfl
  lt := fun a b c ha hb hc => ⟨narW_lt _, narW_lt _, narW_lt _⟩
  ut := fun a b c ha hb hc => ⟨narW_lt _, narW_lt _, narW_lt _⟩
set_option maxHeartbeats 1000000 in
theorem spaceOf_3 (w : World) : Calls Try.prog 53 #[.int .i64 3] w fun e w' => e = .returned (.iface 88 (.agg #[])) ∧ w' = w := by
  go_enter Try.func53, Try.ntmps53
  go_wp2_with fail
  go_ret
  exact ⟨rfl, rfl⟩
theorem way_3 : Way 3 88 115 114 otx0 otx1 otx2 ofx0 ofx1 ofx2 where
  sp := spaceOf_3
  m1 := fun _ => by kernel_rfl
  m2 := fun _ => by kernel_rfl
  n1 := enters_of Try.func115 (by kernel_rfl) rfl
  n2 := enters_of Try.func114 (by kernel_rfl) rfl
  c1 := fun a b c ha hb hc x => oto_any a b c ha hb hc x
  c2 := fun a b c ha hb hc x => ofrom_any a b c ha hb hc x
  na := fun _ => by kernel_rfl
  lt := fun a b c ha hb hc => ⟨expW_lt _, expW_lt _, expW_lt _⟩
  ut := fun a b c ha hb hc => ⟨logV_lt _, logV_lt _, logV_lt _⟩
set_option maxHeartbeats 1000000 in
theorem spaceOf_4 (w : World) : Calls Try.prog 53 #[.int .i64 4] w fun e w' => e = .returned (.iface 60 (.agg #[])) ∧ w' = w := by
  go_enter Try.func53, Try.ntmps53
  go_wp2_with fail
  go_ret
  exact ⟨rfl, rfl⟩
theorem way_4 : Way 4 60 51 47 drop0 drop1 drop2 lift0 lift1 lift2 where
  sp := spaceOf_4
  m1 := fun _ => by kernel_rfl
  m2 := fun _ => by kernel_rfl
  n1 := enters_of Try.func51 (by kernel_rfl) rfl
  n2 := enters_of Try.func47 (by kernel_rfl) rfl
  c1 := fun a b c ha hb hc x => lto_any a b c ha hb hc x
  c2 := fun a b c ha hb hc x => lfrom_any a b c ha hb hc x
  na := fun _ => by kernel_rfl
  lt := fun a b c ha hb hc => ⟨fkeyN_lt (addN_lt _ _), fkeyN_lt (addN_lt _ _), fkeyN_lt (lesN_lt _ _)⟩
  ut := fun a b c ha hb hc => ⟨fkeyN_lt (addN_lt _ _), fkeyN_lt (addN_lt _ _), fkeyN_lt (addN_lt _ _)⟩
set_option maxHeartbeats 1000000 in
theorem spaceOf_no (k : Int) (h1 : k ≠ 1) (h2 : k ≠ 2) (h3 : k ≠ 3) (h4 : k ≠ 4) (w : World) : Calls Try.prog 53 #[.int .i64 k] w fun e w' => e = .returned .nilIface ∧ w' = w := by
  have e1 : (k == 1) = false := by rw [beq_eq_false_iff_ne]; exact h1
  have e2 : (k == 2) = false := by rw [beq_eq_false_iff_ne]; exact h2
  have e3 : (k == 3) = false := by rw [beq_eq_false_iff_ne]; exact h3
  have e4 : (k == 4) = false := by rw [beq_eq_false_iff_ne]; exact h4
  clear h1 h2 h3 h4
  go_enter Try.func53, Try.ntmps53
  go_wp2_with fail
  go_ret
  exact ⟨rfl, rfl⟩
set_option maxHeartbeats 1000000 in
theorem isspace_any (k : Int) (w : World) : Calls Try.prog 52 #[.int .i64 k] w fun e w' => e = .returned (.bool (decide (0 ≤ k ∧ k ≤ 4))) ∧ w' = w := by
  by_cases h : 0 ≤ k
  · by_cases g : k ≤ 4
    · rw [decide_eq_true ⟨h, g⟩]
      go_enter Try.func52, Try.ntmps52
      go_wp2_with fail
      go_ret
      exact ⟨rfl, rfl⟩
    · rw [decide_eq_false (fun x => g x.2)]
      have g' : decide (k ≤ 4) = false := decide_eq_false g
      go_enter Try.func52, Try.ntmps52
      go_wp2_with fail
      go_ret
      exact ⟨rfl, rfl⟩
  · rw [decide_eq_false (fun x => h x.1)]
    have g' : decide (0 ≤ k) = false := decide_eq_false h
    go_enter Try.func52, Try.ntmps52
    go_wp2_with fail
    go_ret
    exact ⟨rfl, rfl⟩
def t4 (x y z : Nat) (e : Int) : Value := .tuple #[.int .u32 (x : Nat), .int .u32 (y : Nat), .int .u32 (z : Nat), .int .i64 e]
set_option maxHeartbeats 1000000 in
theorem conv_same (k : Int) (h0 : 0 ≤ k) (h1 : k ≤ 4) (a b c : Nat) (w : World) : Calls Try.prog 22 #[.int .i64 k, .int .i64 k, .int .u32 (a : Int), .int .u32 (b : Int), .int .u32 (c : Int)] w fun e w' => e = .returned (t4 a b c 0) ∧ Q w w' := by
  have hs := fun w => isspace_any k w
  rw [decide_eq_true ⟨h0, h1⟩] at hs
  clear h0 h1
  go_enter Try.func22, Try.ntmps22
  go_wp2_with fail
  refine (hs _).mono ?_
  rintro e w1 ⟨rfl, rfl⟩
  go_wp2_with fail
  refine bodyPost_ret (v := t4 a b c 0) (by simp [results, Try.results22, go_sem, t4]) rfl ⟨rfl, Q.refl _⟩
set_option maxHeartbeats 2000000 in
theorem conv_two {k l : Int} {ta fa fa' tb fb' fb : Nat} {X0 X1 X2 Y0 Y1 Y2 Z0 Z1 Z2 U0 U1 U2 : Nat → Nat → Nat → Nat} (h : k ≠ l) (hk : Way k ta fa fa' X0 X1 X2 Y0 Y1 Y2) (hl : Way l tb fb' fb Z0 Z1 Z2 U0 U1 U2) (a b c : Nat) (ha : a < 4294967296) (hb : b < 4294967296) (hc : c < 4294967296) (w : World) :
    Calls Try.prog 22 #[.int .i64 k, .int .i64 l, .int .u32 (a : Int), .int .u32 (b : Int), .int .u32 (c : Int)] w fun e w' => e = .returned (t4 (U0 (X0 a b c) (X1 a b c) (X2 a b c)) (U1 (X0 a b c) (X1 a b c) (X2 a b c)) (U2 (X0 a b c) (X1 a b c) (X2 a b c)) 0) ∧ Q w w' := by
  have e1 : (k == l) = false := by rw [beq_eq_false_iff_ne]; exact h
  obtain ⟨x0, x1, x2⟩ := hk.lt a b c ha hb hc
  generalize hX : X0 a b c = X at *
  generalize hY : X1 a b c = Y at *
  generalize hZ : X2 a b c = Z at *
  have HC1 : Hid (∀ x : World, Calls Try.prog fa #[.agg #[], a3 a b c] x fun e x' => e = .returned (a3 X Y Z) ∧ Q x x') := fun x => by rw [← hX, ← hY, ← hZ]; exact hk.c1 a b c ha hb hc x
  have HC2 : Hid (∀ x : World, Calls Try.prog fb #[.agg #[], a3 X Y Z] x fun e x' => e = .returned (a3 (U0 X Y Z) (U1 X Y Z) (U2 X Y Z)) ∧ Q x x') := fun x => hl.c2 X Y Z x0 x1 x2 x
  have HK : Hid (Way k ta fa fa' X0 X1 X2 Y0 Y1 Y2) := hk
  have HL : Hid (Way l tb fb' fb Z0 Z1 Z2 U0 U1 U2) := hl
  generalize U0 X Y Z = U at *
  generalize U1 X Y Z = V at *
  generalize U2 X Y Z = W at *
  clear h hk hl hX hY hZ x0 x1 x2
  go_enter Try.func22, Try.ntmps22
  go_wp2_with fail
  refine (HK.out.sp _).mono ?_
  rintro e w1 ⟨rfl, rfl⟩
  go_wp2_with fail
  refine (HL.out.sp _).mono ?_
  rintro e w2 ⟨rfl, rfl⟩
  go_wp2_with fail
  refine regionCv rfl rfl ⟨rfl, rfl, rfl, rfl, rfl, HK.out.m1, HL.out.m2, HK.out.n1, HL.out.n2, HC1.out, HC2.out, HL.out.na, Nat.le_refl _⟩ ?_
  intro x V' hlo hq hb3
  have c0' := hb3.c0
  have c1' := hb3.c1
  have c2' := hb3.c2
  generalize hz : (((x.setCell ⟨V', 0, none⟩ (.int .u32 (U : Nat))).setCell ⟨V', 1, none⟩ (.int .u32 (V : Nat))).setCell ⟨V', 2, none⟩ (.int .u32 (W : Nat))) = wz
  have HQ : Hid (Q w2 wz) := by rw [← hz]; exact ((hq.set hlo _).set hlo _).set hlo _
  have d0 : wz.cell? ⟨V', 0, none⟩ = some (.int .u32 (U : Nat)) := by rw [← hz]; simp [go_sem, c0', c1', c2']
  have d1 : wz.cell? ⟨V', 1, none⟩ = some (.int .u32 (V : Nat)) := by rw [← hz]; simp [go_sem, c0', c1', c2']
  have d2 : wz.cell? ⟨V', 2, none⟩ = some (.int .u32 (W : Nat)) := by rw [← hz]; simp [go_sem, c0', c1', c2']
  clear hz c0' c1' c2' hb3 hq hlo HC1 HC2 HK HL
  simp only [putAll]
  unfold ptrV
  go_wp2_with fail
  go_quiet (fail)
  have HZ : Hid (Q w2 (wz.drewN nq)) := sp_drewN HQ.out _
  generalize wz.drewN nq = wq at HZ ⊢
  go_wp2_with fail
  refine bodyPost_ret (v := t4 U V W 0) (by simp [results, Try.results22, go_sem, t4]) rfl ⟨rfl, HZ.out⟩
set_option maxHeartbeats 1000000 in
theorem conv_bad1 {k l : Int} (h : k ≠ l ∨ k < 0 ∨ 4 < k) (h1 : k ≠ 1) (h2 : k ≠ 2) (h3 : k ≠ 3) (h4 : k ≠ 4) (hl : (∃ t, ∀ w : World, Calls Try.prog 53 #[.int .i64 l] w fun e w' => e = .returned (.iface t (.agg #[])) ∧ w' = w) ∨ (∀ w : World, Calls Try.prog 53 #[.int .i64 l] w fun e w' => e = .returned .nilIface ∧ w' = w)) (a b c : Nat) (w : World) :
    Calls Try.prog 22 #[.int .i64 k, .int .i64 l, .int .u32 (a : Int), .int .u32 (b : Int), .int .u32 (c : Int)] w fun e w' => e = .returned (t4 0 0 0 70) ∧ Q w w' := by
  have hs := fun w => isspace_any k w
  have HS : Hid (∀ w : World, Calls Try.prog 53 #[.int .i64 k] w fun e w' => e = .returned .nilIface ∧ w' = w) := spaceOf_no k h1 h2 h3 h4
  by_cases hkl : k = l
  · have e1 : (k == l) = true := by rw [beq_iff_eq]; exact hkl
    rw [decide_eq_false (by omega)] at hs
    have HI := hs
    rcases hl with ⟨t, hl⟩ | hl
    all_goals
      clear hs h h1 h2 h3 h4 hkl
      go_enter Try.func22, Try.ntmps22
      go_wp2_with fail
      refine (HI _).mono ?_
      rintro e w1 ⟨rfl, rfl⟩
      go_wp2_with fail
      refine (HS.out _).mono ?_
      rintro e w1 ⟨rfl, rfl⟩
      go_wp2_with fail
      refine (hl _).mono ?_
      rintro e w1 ⟨rfl, rfl⟩
      go_wp2_with fail
      refine bodyPost_ret (v := t4 0 0 0 70) (by simp [results, Try.results22, go_sem, t4]) rfl ⟨rfl, Q.refl _⟩
  · have e1 : (k == l) = false := by rw [beq_eq_false_iff_ne]; exact hkl
    rcases hl with ⟨t, hl⟩ | hl
    all_goals
      clear hs h h1 h2 h3 h4 hkl
      go_enter Try.func22, Try.ntmps22
      go_wp2_with fail
      refine (HS.out _).mono ?_
      rintro e w1 ⟨rfl, rfl⟩
      go_wp2_with fail
      refine (hl _).mono ?_
      rintro e w1 ⟨rfl, rfl⟩
      go_wp2_with fail
      refine bodyPost_ret (v := t4 0 0 0 70) (by simp [results, Try.results22, go_sem, t4]) rfl ⟨rfl, Q.refl _⟩
set_option maxHeartbeats 1000000 in
theorem conv_bad2 {k l : Int} (h : k ≠ l) (t : Nat) (hk : ∀ w : World, Calls Try.prog 53 #[.int .i64 k] w fun e w' => e = .returned (.iface t (.agg #[])) ∧ w' = w) (hl : ∀ w : World, Calls Try.prog 53 #[.int .i64 l] w fun e w' => e = .returned .nilIface ∧ w' = w) (a b c : Nat) (w : World) :
    Calls Try.prog 22 #[.int .i64 k, .int .i64 l, .int .u32 (a : Int), .int .u32 (b : Int), .int .u32 (c : Int)] w fun e w' => e = .returned (t4 0 0 0 70) ∧ Q w w' := by
  have e1 : (k == l) = false := by rw [beq_eq_false_iff_ne]; exact h
  clear h
  go_enter Try.func22, Try.ntmps22
  go_wp2_with fail
  refine (hk _).mono ?_
  rintro e w1 ⟨rfl, rfl⟩
  go_wp2_with fail
  refine (hl _).mono ?_
  rintro e w1 ⟨rfl, rfl⟩
  go_wp2_with fail
  refine bodyPost_ret (v := t4 0 0 0 70) (by simp [results, Try.results22, go_sem, t4]) rfl ⟨rfl, Q.refl _⟩
end Go.Proofs.Ytedafbbpcpebbaa
/- The chapter's examples: 'known' is true. -/
namespace Go.Proofs.Ytedafbbpcpebbaa
open Go.RowKit
set_option linter.unusedVariables false

theorem k3 {f : FuncId} {args : Array Value} {w : World} {x y z a b c : Nat} (h : Calls Try.prog f args w fun e w' => e = .returned (t3 x y z) ∧ Q w w') (e1 : x = a) (e2 : y = b) (e3 : z = c) :
    Calls Try.prog f args w fun e w' => e = .returned (t3 a b c) ∧ Q w w' := by rw [← e1, ← e2, ← e3]; exact h
theorem k1' {f : FuncId} {args : Array Value} {w : World} {x a : Nat} (h : Calls Try.prog f args w fun e w' => e = .returned (.int .u32 (x : Nat)) ∧ Q w w') (e1 : x = a) :
    Calls Try.prog f args w fun e w' => e = .returned (.int .u32 (a : Nat)) ∧ Q w w' := by rw [← e1]; exact h
theorem k4 {f : FuncId} {args : Array Value} {w : World} {x y z a b c : Nat} {u : Int} (h : Calls Try.prog f args w fun e w' => e = .returned (t4 x y z u) ∧ Q w w') (e1 : x = a) (e2 : y = b) (e3 : z = c) :
    Calls Try.prog f args w fun e w' => e = .returned (t4 a b c u) ∧ Q w w' := by rw [← e1, ← e2, ← e3]; exact h
theorem kconv (w : World) : Calls Try.prog 22 #[.int .i64 1, .int .i64 2, .int .u32 ((1065353216 : Nat) : Int), .int .u32 ((1073741824 : Nat) : Int), .int .u32 ((1082130432 : Nat) : Int)] w fun e w' => e = .returned (t4 1074790400 3196059648 3217031168 0) ∧ Q w w' :=
  k4 (conv_two (by decide) way_1 way_2 1065353216 1073741824 1082130432 (by decide) (by decide) (by decide) w) (by decide +kernel) (by decide +kernel) (by decide +kernel)
theorem kconv0 (w : World) : Calls Try.prog 22 #[.int .i64 0, .int .i64 1, .int .u32 ((0 : Nat) : Int), .int .u32 ((0 : Nat) : Int), .int .u32 ((0 : Nat) : Int)] w fun e w' => e = .returned (t4 0 0 0 70) ∧ Q w w' :=
  conv_bad1 (k := 0) (l := 1) (Or.inl (by decide)) (by decide) (by decide) (by decide) (by decide) (Or.inl ⟨_, way_1.sp⟩) 0 0 0 w
set_option maxHeartbeats 2000000 in
set_option maxRecDepth 100000 in
theorem known7_any (w : World) : Calls Try.prog 9 #[] w fun e w' => e = .returned (.bool true) ∧ Q w w' := by
  have qq := Q.refl w
  go_enter Try.func9, Try.ntmps9
  go_wp2_with fail
  refine (k3 (a := 1074790400) (b := 3196059648) (c := 3217031168) (toycc_any 1065353216 1073741824 1082130432 (by decide) (by decide) (by decide) _) (by decide +kernel) (by decide +kernel) (by decide +kernel)).mono ?_
  rintro e w' ⟨rfl, q⟩
  replace qq := qq.trans q
  clear q
  unfold t3
  go_wp2_with fail
  refine (k3 (a := 1065353216) (b := 1073741824) (c := 1082130432) (fromycc_any 1074790400 3196059648 3217031168 (by decide) (by decide) (by decide) _) (by decide +kernel) (by decide +kernel) (by decide +kernel)).mono ?_
  rintro e w' ⟨rfl, q⟩
  replace qq := qq.trans q
  clear q
  unfold t3
  go_wp2_with fail
  refine (k1' (a := 1077936128) (log_any 1090519040 (by decide) _) (by decide +kernel)).mono ?_
  rintro e w' ⟨rfl, q⟩
  replace qq := qq.trans q
  clear q
  go_wp2_with fail
  refine (k1' (a := 2143289344) (log_any 3212836864 (by decide) _) (by decide +kernel)).mono ?_
  rintro e w' ⟨rfl, q⟩
  replace qq := qq.trans q
  clear q
  go_wp2_with fail
  refine (k1' (a := 4286578688) (log_any 2147483648 (by decide) _) (by decide +kernel)).mono ?_
  rintro e w' ⟨rfl, q⟩
  replace qq := qq.trans q
  clear q
  go_wp2_with fail
  refine (k1' (a := 1069547520) (exp_any 1056964608 (by decide) _) (by decide +kernel)).mono ?_
  rintro e w' ⟨rfl, q⟩
  replace qq := qq.trans q
  clear q
  go_wp2_with fail
  refine (k1' (a := 2139095040) (exp_any 1124073472 (by decide) _) (by decide +kernel)).mono ?_
  rintro e w' ⟨rfl, q⟩
  replace qq := qq.trans q
  clear q
  go_wp2_with fail
  refine (k1' (a := 1124073472) (log_any 2139095039 (by decide) _) (by decide +kernel)).mono ?_
  rintro e w' ⟨rfl, q⟩
  replace qq := qq.trans q
  clear q
  go_wp2_with fail
  refine (k3 (a := 1) (b := 1) (c := 3) (lift_any 3 2 0 (by decide) (by decide) (by decide) _) (by decide +kernel) (by decide +kernel) (by decide +kernel)).mono ?_
  rintro e w' ⟨rfl, q⟩
  replace qq := qq.trans q
  clear q
  unfold t3
  go_wp2_with fail
  refine (k3 (a := 3) (b := 2) (c := 0) (drop_any 1 1 3 (by decide) (by decide) (by decide) _) (by decide +kernel) (by decide +kernel) (by decide +kernel)).mono ?_
  rintro e w' ⟨rfl, q⟩
  replace qq := qq.trans q
  clear q
  unfold t3
  go_wp2_with fail
  refine (kconv _).mono ?_
  rintro e w' ⟨rfl, q⟩
  replace qq := qq.trans q
  clear q
  unfold t4
  go_wp2_with fail
  refine (kconv0 _).mono ?_
  rintro e w' ⟨rfl, q⟩
  replace qq := qq.trans q
  clear q
  unfold t4
  go_wp2_with fail
  go_ret
  exact ⟨rfl, qq⟩
end Go.Proofs.Ytedafbbpcpebbaa

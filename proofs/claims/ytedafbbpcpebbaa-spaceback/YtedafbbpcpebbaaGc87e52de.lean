/- SpaceBack: how the bound is reckoned. -/
import Derived.Test.YtedafbbpcpebbaaG3888a041
import Derived.Test.YtedafbbpcpebbaaGa34b2b13
namespace Go.Proofs.Ytedafbbpcpebbaa
open Go.RowKit
set_option linter.unusedVariables false
set_option linter.unusedSimpArgs false

set_option maxHeartbeats 1000000 in
theorem power_num (e : Int) (e0 : -1074 ≤ e) (e1 : e ≤ 2000) (w : World) : Calls Try.prog 27 #[.int .i64 e] w fun x w' => ∃ v, x = .returned v ∧ NumAt w' v (.fin false 1 e false) ∧ Q w w' := by
  go_enter Try.func27, Try.ntmps27
  go_wp2_with fail
  have hB : Hid (ABox w _ w.heap.size) := ⟨(Q.refl w).cells _ _, (zero_box w).1, (zero_box w).2, Nat.le_refl _⟩
  generalize w.alloc (.cells #[.int .i64 0, .bool false, .slice none 0 0, .int .i64 0, .bool false] 38) = wz at hB ⊢
  refine (natof_nat 1 _ (by decide)).mono ?_
  rintro e' w1 ⟨v, rfl, hv, q1⟩
  replace hB : Hid (ABox w w1 w.heap.size) := hB.out.next q1
  obtain ⟨p, b, L, C, rfl, hI⟩ := hv
  have HV : Hid (NumAt w1 (.agg #[.int .i64 2, .bool false, .slice p L C, .int .i64 e, .bool false]) (.fin false 1 e false)) := ⟨_, rfl, p, b, L, C, rfl, hI⟩
  clear q1 hI
  obtain ⟨h1, h2⟩ := five_set hB.out.b 2 false p L C e false
  have HN : Hid _ := h1 _ _ HV.out
  have HQ : Hid _ := h2 _ hB.out.q hB.out.v
  clear h1 h2 HV
  obtain ⟨c0, c1, c2, c3, c4⟩ := hB.out.b
  have hf := hB.out.f
  have HE : Hid (-1074 ≤ e ∧ e ≤ 2000) := ⟨e0, e1⟩
  clear hB e0 e1
  go_wp2_with fail
  refine bodyPost_ret (v := .agg #[.int .i64 2, .bool false, .slice p L C, .int .i64 e, .bool false]) (by simp [results, Try.results27, go_sem, c0, c1, c2, c3, c4]) rfl ⟨_, rfl, HN.out, HQ.out⟩
def oBe_0 : Oper := { dst := some 57, op := .load 38 (.tmp 8), type := 38, pos := "outright.go:80", after := #[], guard := none }
def oBe_1 : Oper := { dst := some 58, op := .call { callee := .value (.func 27), args := #[.const (.int .i64 (-147))], argTypes := #[3] }, type := 38, pos := "outright.go:80", after := #[], guard := none }
def oBe_2 : Oper := { dst := some 59, op := .call { callee := .value (.func 29), args := #[.tmp 57, .tmp 58], argTypes := #[38, 38] }, type := 38, pos := "outright.go:80", after := #[⟨0, .data⟩, ⟨1, .data⟩, ⟨1, .chain⟩], guard := none }
def oBe_3 : Oper := { dst := none, op := .store 38 (.tmp 8) (.tmp 59), type := 0, pos := "outright.go:80", after := #[⟨2, .data⟩, ⟨2, .chain⟩, ⟨0, .phase⟩, ⟨1, .phase⟩, ⟨2, .phase⟩], guard := none }
def opsBe : List Oper := [oBe_0, oBe_1, oBe_2, oBe_3]
def sBe : List Nat := [57, 58, 59]
def spBe (V n : Nat) (e : Int) : List Spec := [numQ (.fin false n e false), numQ (.fin false 1 (-147) false), numQ (plusR (.fin false n e false) (.fin false 1 (-147) false))]
structure EnvBe (a0 : Act) (w : World) (V n : Nat) (e : Int) : Prop where
  h8 : a0.tmps[8]? = some (ptrV V)
  nb : NBox w V (.fin false n e false)
  sm : small (.fin false n e false)
  fz : ∀ j, w.frozen? ⟨V, j, none⟩ = false
theorem yBe_0 {a0 : Act} {w : World} {V n : Nat} {e : Int} (E : EnvBe a0 w V n e) {R : Exit → Act → World → Prop} {a : Act} {x : World} (q : Q w x) (oth : ∀ j, j ∉ sBe → a.tmps[j]? = a0.tmps[j]?) (dep : ∀ ed ∈ oBe_0.after, Region.binds .any ed = true → ∀ t', sBe[ed.on]? = some t' → ∃ v, a.tmps[t']? = some v ∧ specAt (spBe V n e) ed.on v x) : Yld Try.prog R oBe_0 a x 57 (fun v x' => specAt (spBe V n e) 0 v x' ∧ (0 ∈ ([] : List Nat) → v = ptrV x.heap.size)) := by
  obtain ⟨k, s, p, L, C, e', m, b1, b2⟩ := E.nb.next q
  exact yld_run (x' := x) rfl (run_num (tmp_eval ((oth 8 (by decide)).trans E.h8)) b1) (Q.refl x) ⟨b2, fun h => absurd h (by decide)⟩
theorem yBe_1 {a0 : Act} {w : World} {V n : Nat} {e : Int} (E : EnvBe a0 w V n e) {R : Exit → Act → World → Prop} {a : Act} {x : World} (q : Q w x) (oth : ∀ j, j ∉ sBe → a.tmps[j]? = a0.tmps[j]?) (dep : ∀ ed ∈ oBe_1.after, Region.binds .any ed = true → ∀ t', sBe[ed.on]? = some t' → ∃ v, a.tmps[t']? = some v ∧ specAt (spBe V n e) ed.on v x) : Yld Try.prog R oBe_1 a x 58 (fun v x' => specAt (spBe V n e) 1 v x' ∧ (1 ∈ ([] : List Nat) → v = ptrV x.heap.size)) := by
  refine yld_call (enters_of Try.func27 (by kernel_rfl) rfl) argsC ((power_num (-147) (by decide) (by decide) x).mono ?_)
  rintro u x' ⟨v, rfl, h, q'⟩
  exact ⟨v, rfl, q', h, fun h => absurd h (by decide)⟩
theorem yBe_2 {a0 : Act} {w : World} {V n : Nat} {e : Int} (E : EnvBe a0 w V n e) {R : Exit → Act → World → Prop} {a : Act} {x : World} (q : Q w x) (oth : ∀ j, j ∉ sBe → a.tmps[j]? = a0.tmps[j]?) (dep : ∀ ed ∈ oBe_2.after, Region.binds .any ed = true → ∀ t', sBe[ed.on]? = some t' → ∃ v, a.tmps[t']? = some v ∧ specAt (spBe V n e) ed.on v x) : Yld Try.prog R oBe_2 a x 59 (fun v x' => specAt (spBe V n e) 2 v x' ∧ (2 ∈ ([] : List Nat) → v = ptrV x.heap.size)) := by
  obtain ⟨v0, t0, f0⟩ := dep ⟨0, .data⟩ (by simp [oBe_2]) rfl 57 rfl
  have f0 : (numQ (.fin false n e false)).p v0 x := f0
  obtain ⟨v1, t1, f1⟩ := dep ⟨1, .data⟩ (by simp [oBe_2]) rfl 58 rfl
  have f1 : (numQ (.fin false 1 (-147) false)).p v1 x := f1
  have f0 : NumAt x v0 (.fin false n e false) := f0
  have f1 : NumAt x v1 (.fin false 1 (-147) false) := f1
  refine yld_call (enters_of Try.func29 (by kernel_rfl) rfl) (args2 t0 t1) ((plusnum_any _ _ _ _ x f0 f1 E.sm ⟨by have := blen_le (n := 1) (k := 1) (by decide); omega, by decide, by decide⟩).mono ?_)
  rintro u x' ⟨v, rfl, h, q'⟩
  exact ⟨v, rfl, q', h, fun h => absurd h (by decide)⟩
theorem hopBe {a0 : Act} {w : World} {V n : Nat} {e : Int} (E : EnvBe a0 w V n e) {R : Exit → Act → World → Prop} : ∀ (i t : Nat) (o : Oper) (a : Act) (x : World), i < 3 → sBe[i]? = some t → opsBe[i]? = some o → Q w x → (∀ j, j ∉ sBe → a.tmps[j]? = a0.tmps[j]?) → (∀ ed ∈ o.after, Region.binds .any ed = true → ∀ t', sBe[ed.on]? = some t' → ∃ v, a.tmps[t']? = some v ∧ specAt (spBe V n e) ed.on v x) → Yld Try.prog R o a x t (fun v x' => specAt (spBe V n e) i v x' ∧ (i ∈ ([] : List Nat) → v = ptrV x.heap.size))
  | 0, t, o, a, x, hi, ht, ho, q, oth, dep => by
    have e1 : oBe_0 = o := Option.some.inj ho
    have e2 : 57 = t := Option.some.inj ht
    subst e1 e2
    exact yBe_0 E q oth dep
  | 1, t, o, a, x, hi, ht, ho, q, oth, dep => by
    have e1 : oBe_1 = o := Option.some.inj ho
    have e2 : 58 = t := Option.some.inj ht
    subst e1 e2
    exact yBe_1 E q oth dep
  | 2, t, o, a, x, hi, ht, ho, q, oth, dep => by
    have e1 : oBe_2 = o := Option.some.inj ho
    have e2 : 59 = t := Option.some.inj ht
    subst e1 e2
    exact yBe_2 E q oth dep
  | i + 3, t, o, a, x, hi, ht, ho, q, oth, dep => absurd hi (by omega)
theorem regionBe {id : Nat} {l : List Oper} {R : Exit → Act → World → Prop} {a0 : Act} {w : World} {V n : Nat} {e : Int} (hl : l = opsBe) (hsz : a0.tmps.size = 155) (E : EnvBe a0 w V n e)
    (hR : ∀ x x' v0 v1 v2, Q w x → (∀ w0, Q w0 x → w0.heap.size ≤ V → Q w0 x') → NBox x' V (plusR (.fin false n e false) (.fin false 1 (-147) false)) → R .normal (putAll a0 [(57, v0), (58, v1), (59, v2)]) x') :
    (Code.region id l.toArray true).wp Try.prog R a0 w := by
  subst hl
  refine wp_region_facts 3 sBe (specAt (spBe V n e)) [] (by kernel_rfl) (by decide +kernel) (by decide) rfl (by decide) (fun t ht => ?_) specAt.next (fun i v x hi hf => by cases hi) (hopBe E) (fun a x q size defers other facts apart => ?_)
  · rw [hsz]
    revert t
    decide
  · obtain ⟨v0, t0, f0⟩ := facts 0 57 (by decide) rfl
    obtain ⟨v1, t1, f1⟩ := facts 1 58 (by decide) rfl
    obtain ⟨v2, t2, f2⟩ := facts 2 59 (by decide) rfl
    have f2 : NumAt x v2 (plusR (.fin false n e false) (.fin false 1 (-147) false)) := f2
    refine ⟨?_⟩
    show Oper.wp Try.prog oBe_3 a x (fun a' w' => R .normal a' w') R
    unfold oBe_3
    have hA := act_puts (a := a) (a0 := a0) [(57, v0), (58, v1), (59, v2)] (by show [57, 58, 59].Nodup; decide) size defers (fun j hj => other j (fun hk => hj hk)) (fun r hr => by
      simp only [List.mem_cons, List.not_mem_nil, or_false] at hr
      rcases hr with rfl | rfl | rfl
      · exact t0
      · exact t1
      · exact t2)
    obtain ⟨k0, s0, p0, L0, C0, e0, m0, bx, _⟩ := E.nb.next q
    obtain ⟨k, s, p, L, C, e', m, rfl⟩ := f2.made
    refine store_num ((other 8 (by decide)).trans E.h8) t2 bx (fun j => (q.2 _).trans (E.fz j)) (fun x' _ hx => ?_)
    obtain ⟨g1, g2⟩ := five_set bx k s p L C e' m
    rw [← hx] at g1 g2
    rw [hA]
    refine hR x x' v0 v1 _ q g2 ⟨k, s, p, L, C, e', m, ?_, g1 _ _ f2⟩
    obtain ⟨c0, c1, c2, c3, c4⟩ := bx
    subst hx
    exact ⟨by simp [go_sem, c0, c1, c2, c3, c4], by simp [go_sem, c0, c1, c2, c3, c4], by simp [go_sem, c0, c1, c2, c3, c4], by simp [go_sem, c0, c1, c2, c3, c4], by simp [go_sem, c0, c1, c2, c3, c4]⟩
end Go.Proofs.Ytedafbbpcpebbaa
/- SpaceBack: the bound's first part, in whatever order the language takes. -/
namespace Go.Proofs.Ytedafbbpcpebbaa
open Go.RowKit
set_option linter.unusedVariables false
set_option linter.unusedSimpArgs false

theorem argsTb {a : Act} {j : Nat} {v : Value} {c : Value} (h : a.tmps[j]? = some v) : (#[Operand.tmp j, Operand.const c] : Array Operand).map a.eval = #[v, c] := by
  simp [go_sem, Act.eval, h]
section
variable {ρ : Operand → Value} {x : World} {d : Option Tmp} {ty : TypeId} {ps : String} {af : Array Edge} {gd : Option (Nat × Bool)}
theorem runb_fa2 {j b : Nat} (h : ρ (.tmp j) = ptrV b) : (execOp ρ { dst := d, op := .fieldAddr 38 (.tmp j) 2, type := ty, pos := ps, after := af, guard := gd }).run Try.prog x = .ok (.value (.pointer (some ⟨b, 2, none⟩))) x := by
  simp [execOp, h, go_sem, ptrV]
theorem runb_fa3 {j b : Nat} (h : ρ (.tmp j) = ptrV b) : (execOp ρ { dst := d, op := .fieldAddr 38 (.tmp j) 3, type := ty, pos := ps, after := af, guard := gd }).run Try.prog x = .ok (.value (.pointer (some ⟨b, 3, none⟩))) x := by
  simp [execOp, h, go_sem, ptrV]
theorem runb_ldN {j : Nat} {p : Addr} {q : Option Addr} {L C : Nat} (h : ρ (.tmp j) = .pointer (some p)) (c : x.cell? p = some (.slice q L C)) : (execOp ρ { dst := d, op := .load 36 (.tmp j), type := ty, pos := ps, after := af, guard := gd }).run Try.prog x = .ok (.value (.slice q L C)) x := by
  simp [execOp, h, go_sem, c]
theorem runb_ldi {j : Nat} {p : Addr} {v : Int} (h : ρ (.tmp j) = .pointer (some p)) (c : x.cell? p = some (.int .i64 v)) : (execOp ρ { dst := d, op := .load 3 (.tmp j), type := ty, pos := ps, after := af, guard := gd }).run Try.prog x = .ok (.value (.int .i64 v)) x := by
  simp [execOp, h, go_sem, c]
theorem runb_stN {j k : Nat} {p : Addr} {q : Option Addr} {L C : Nat} {u : Value} (h : ρ (.tmp j) = .pointer (some p)) (h' : ρ (.tmp k) = .slice q L C) (c : x.cell? p = some u) (f : x.frozen? p = false) : (execOp ρ { dst := none, op := .store 36 (.tmp j) (.tmp k), type := ty, pos := ps, after := af, guard := gd }).run Try.prog x = .ok .skip (x.setCell p (.slice q L C)) := by
  simp [execOp, h, h', go_sem, c, f]
theorem runb_sti {j k : Nat} {p : Addr} {v : Int} {u : Value} (h : ρ (.tmp j) = .pointer (some p)) (h' : ρ (.tmp k) = .int .i64 v) (c : x.cell? p = some u) (f : x.frozen? p = false) : (execOp ρ { dst := none, op := .store 3 (.tmp j) (.tmp k), type := ty, pos := ps, after := af, guard := gd }).run Try.prog x = .ok .skip (x.setCell p (.int .i64 v)) := by
  simp [execOp, h, h', go_sem, c, f]
theorem runb_sub {j : Nat} {e : Int} (lo : -100000 ≤ e) (hi : e ≤ 100000) (h : ρ (.tmp j) = .int .i64 e) (c : ρ (.const (.int .i64 24)) = .int .i64 24) : (execOp ρ { dst := d, op := .binOp .sub 3 (.tmp j) (.const (.int .i64 24)) 3, type := ty, pos := ps, after := af, guard := gd }).run Try.prog x = .ok (.value (.int .i64 (e - 24))) x := by
  have z : IntKind.i64.wrap (e - 24) = e - 24 := by rw [IntKind.wrap_i64]; omega
  simp [execOp, h, c, go_sem, z]
end
def oBf_0 : Oper := { dst := some 49, op := .fieldAddr 38 (.tmp 8) 2, type := 0, pos := "outright.go:79", after := #[], guard := none }
def oBf_1 : Oper := { dst := some 50, op := .load 36 (.tmp 49), type := 36, pos := "outright.go:79", after := #[⟨0, .data⟩], guard := none }
def oBf_2 : Oper := { dst := some 51, op := .call { callee := .value (.func 28), args := #[.tmp 50, .const (.int .u32 5)], argTypes := #[36, 23] }, type := 36, pos := "outright.go:79", after := #[⟨1, .data⟩], guard := none }
def oBf_3 : Oper := { dst := some 52, op := .fieldAddr 38 (.tmp 8) 3, type := 0, pos := "outright.go:79", after := #[], guard := none }
def oBf_4 : Oper := { dst := some 53, op := .load 3 (.tmp 52), type := 3, pos := "outright.go:79", after := #[⟨3, .data⟩], guard := none }
def oBf_5 : Oper := { dst := some 54, op := .binOp .sub 3 (.tmp 53) (.const (.int .i64 24)) 3, type := 3, pos := "outright.go:79", after := #[⟨4, .data⟩], guard := none }
def oBf_6 : Oper := { dst := some 55, op := .fieldAddr 38 (.tmp 8) 2, type := 0, pos := "outright.go:79", after := #[⟨0, .phase⟩, ⟨1, .phase⟩, ⟨2, .phase⟩, ⟨3, .phase⟩, ⟨4, .phase⟩, ⟨5, .textOnly .lateStoresUnsure⟩], guard := none }
def oBf_7 : Oper := { dst := none, op := .store 36 (.tmp 55) (.tmp 51), type := 0, pos := "outright.go:79", after := #[⟨6, .data⟩, ⟨2, .data⟩, ⟨2, .chain⟩, ⟨0, .phase⟩, ⟨1, .phase⟩, ⟨2, .phase⟩, ⟨3, .phase⟩, ⟨4, .phase⟩, ⟨5, .textOnly .lateStoresUnsure⟩], guard := none }
def oBf_8 : Oper := { dst := some 56, op := .fieldAddr 38 (.tmp 8) 3, type := 0, pos := "outright.go:79", after := #[⟨0, .phase⟩, ⟨1, .phase⟩, ⟨2, .phase⟩, ⟨3, .phase⟩, ⟨4, .phase⟩, ⟨5, .phase⟩, ⟨6, .phase⟩, ⟨7, .phase⟩], guard := none }
def oBf_9 : Oper := { dst := none, op := .store 3 (.tmp 56) (.tmp 54), type := 0, pos := "outright.go:79", after := #[⟨8, .data⟩, ⟨5, .data⟩, ⟨7, .chain⟩, ⟨0, .phase⟩, ⟨1, .phase⟩, ⟨2, .phase⟩, ⟨3, .phase⟩, ⟨4, .phase⟩, ⟨5, .phase⟩, ⟨6, .phase⟩, ⟨7, .phase⟩], guard := none }
def opsBf : List Oper := [oBf_0, oBf_1, oBf_2, oBf_3, oBf_4, oBf_5, oBf_6, oBf_7, oBf_8, oBf_9]
def vBf (b : Nat) (pa : Option Addr) (La Ca : Nat) (e : Int) (k : Nat) : Value := match k with
  | 0 => .pointer (some ⟨b, 2, none⟩)
  | 1 => .slice pa La Ca
  | 3 => .pointer (some ⟨b, 3, none⟩)
  | 4 => .int .i64 e
  | 5 => .int .i64 (e - 24)
  | 6 => .pointer (some ⟨b, 2, none⟩)
  | 8 => .pointer (some ⟨b, 3, none⟩)
  | _ => undef
theorem updb_tr {f : Nat → Bool} {i j : Nat} (h : f j = true) : upd f i true j = true := by unfold upd; split <;> first | rfl | exact h
structure InvBf (wa : World) (b mg : Nat) (pa : Option Addr) (La Ca : Nat) (e : Int) (done : Nat → Bool) (val : Nat → Value) (x : World) : Prop where
  vs : ∀ k, done k = true → k ≠ 2 → val k = vBf b pa La Ca e k
  v2 : done 2 = true → NatAt x (val 2) (mg * 5)
  q : ∀ w0, Q w0 wa → w0.heap.size ≤ b → Q w0 x
  nn : NatAt x (.slice pa La Ca) mg
  c0 : x.cell? ⟨b, 0, none⟩ = some (.int .i64 2)
  c1 : x.cell? ⟨b, 1, none⟩ = some (.bool false)
  c2 : ∃ q L C, x.cell? ⟨b, 2, none⟩ = some (.slice q L C) ∧ (done 7 = false → .slice q L C = Value.slice pa La Ca) ∧ (done 7 = true → .slice q L C = val 2)
  c3 : x.cell? ⟨b, 3, none⟩ = some (.int .i64 (if done 9 = true then e - 24 else e))
  c4 : x.cell? ⟨b, 4, none⟩ = some (.bool false)
  fz : ∀ k, x.frozen? ⟨b, k, none⟩ = false
  d7 : done 7 = true → done 1 = true ∧ done 2 = true
  d9 : done 9 = true → done 4 = true ∧ done 5 = true
theorem InvBf.vals {wa : World} {b mg : Nat} {pa : Option Addr} {La Ca : Nat} {e : Int} {done : Nat → Bool} {val : Nat → Value} {x : World} (I : InvBf wa b mg pa La Ca e done val x) (k : Nat) {v : Value} (hv : k ≠ 2 → v = vBf b pa La Ca e k) : ∀ j, upd done k true j = true → j ≠ 2 → upd val k v j = vBf b pa La Ca e j := by
  intro j hj h2
  by_cases e : j = k
  · subst e; rw [upd_eq]; exact hv h2
  · rw [upd_ne _ _ e] at hj ⊢; exact I.vs j hj h2
theorem InvBf.step {wa : World} {b mg : Nat} {pa : Option Addr} {La Ca : Nat} {e : Int} {done : Nat → Bool} {val : Nat → Value} {x : World} (I : InvBf wa b mg pa La Ca e done val x) {k : Nat} (h2 : k ≠ 2) (h7 : k ≠ 7) (h9 : k ≠ 9) {v : Value} (hv : v = vBf b pa La Ca e k) : InvBf wa b mg pa La Ca e (upd done k true) (upd val k v) x := by
  obtain ⟨q, L, C, z1, z2, z3⟩ := I.c2
  exact ⟨I.vals k (fun _ => hv), fun h => by rw [upd_ne _ _ (Ne.symm h2)] at h ⊢; exact I.v2 h, I.q, I.nn, I.c0, I.c1,
    ⟨q, L, C, z1, fun h => by rw [upd_ne _ _ (Ne.symm h7)] at h; exact z2 h, fun h => by rw [upd_ne _ _ (Ne.symm h7)] at h; rw [upd_ne _ _ (Ne.symm h2)]; exact z3 h⟩, by rw [upd_ne _ _ (Ne.symm h9)]; exact I.c3, I.c4, I.fz,
    fun h => by rw [upd_ne _ _ (Ne.symm h7)] at h; exact ⟨updb_tr (I.d7 h).1, updb_tr (I.d7 h).2⟩,
    fun h => by rw [upd_ne _ _ (Ne.symm h9)] at h; exact ⟨updb_tr (I.d9 h).1, updb_tr (I.d9 h).2⟩⟩
/-- A number in memory is none of a box's cells. -/
theorem natb_box {x : World} {v : Value} {m b j : Nat} {u0 u : Value} (h : NatAt x v m) (c : x.cell? ⟨b, j, none⟩ = some u0) (hu : ∀ z, u0 ≠ .int .u32 z) : NatAt (x.setCell ⟨b, j, none⟩ u) v m := by
  obtain ⟨p, k, L, C, e, hn⟩ := h
  refine ⟨p, k, L, C, e, hn.ptr, fun i hi => ?_, hn.hi, hn.lo, hn.len⟩
  rw [World.cell?_setCell_other _ _ _ _ (fun g => ?_)]
  · exact hn.cell i hi
  · have := hn.cell i hi
    rw [← g, c] at this
    exact hu _ (Option.some.inj this)
theorem dstBf : ∀ k, ∀ u ∈ dstOf opsBf k, u ∈ ([49, 50, 51, 52, 53, 54, 55, 56] : List Nat) := by
  intro k u hu
  by_cases h : k < 10
  · have : ∀ k : Nat, k < 10 → ∀ u ∈ dstOf opsBf k, u ∈ ([49, 50, 51, 52, 53, 54, 55, 56] : List Nat) := by decide +kernel
    exact this k h u hu
  · have : opsBf[k]? = none := List.getElem?_eq_none (by show 10 ≤ k; omega)
    unfold dstOf at hu
    rw [this] at hu
    cases hu
set_option maxHeartbeats 1000000 in
set_option maxRecDepth 100000 in
theorem hopBf {a0 : Act} {wa : World} {b mg : Nat} {pa : Option Addr} {La Ca : Nat} {e : Int} {R : Exit → Act → World → Prop} (h8 : a0.tmps[8]? = some (ptrV b)) (lo : -100000 ≤ e) (hi : e ≤ 100000) (hcap : mg < cap) :
    ∀ k o' (a : Act) x (done : Nat → Bool) (val : Nat → Value), opsBf[k]? = some o' → done k = false → (∀ e ∈ o'.after, Region.binds .any e = true → done e.on = true) → InvBf wa b mg pa La Ca e done val x → (∀ j, (∀ k, dstOf opsBf k ≠ some j) → a.tmps[j]? = a0.tmps[j]?) → (∀ j t, done j = true → dstOf opsBf j = some t → a.tmps[t]? = some (val j)) → (∀ g b, o'.guard = some (g, b) → val g = .bool b) →
      Shut (o'.wp Try.prog a x (fun a' x' => ∃ v, a' = a.put o'.dst v ∧ InvBf wa b mg pa La Ca e (upd done k true) (upd val k v) x') R) := by
  intro k o' a x done val ho hd dep I oth vals _
  have far : ∀ u, u ∉ ([49, 50, 51, 52, 53, 54, 55, 56] : List Nat) → a.tmps[u]? = a0.tmps[u]? := fun u hu => oth u (fun k e => hu (dstBf k u e))
  have i8 := (far 8 (by decide)).trans h8
  rcases k with _ | _ | _ | _ | _ | _ | _ | _ | _ | _ | k
  · have e1 : oBf_0 = o' := Option.some.inj ho
    subst e1
    have hrun : (execOp a.eval oBf_0).run Try.prog x = .ok (.value (vBf b pa La Ca e 0)) x := runb_fa2 (tmp_eval i8)
    refine ⟨?_⟩
    unfold Oper.wp
    rw [hrun]
    exact ⟨_, rfl, I.step (by decide) (by decide) (by decide) rfl⟩
  · have e1 : oBf_1 = o' := Option.some.inj ho
    subst e1
    have d0 : done 0 = true := dep ⟨0, .data⟩ (by simp [oBf_1]) rfl
    have t0 := vals 0 49 d0 rfl
    rw [I.vs 0 d0 (by decide)] at t0
    have d7 : done 7 = false := by
      cases e : done 7
      · rfl
      · have := (I.d7 e).1; rw [hd] at this; cases this
    obtain ⟨q, L, C, z1, z2, _⟩ := I.c2
    rw [z2 d7] at z1
    have hrun : (execOp a.eval oBf_1).run Try.prog x = .ok (.value (vBf b pa La Ca e 1)) x := runb_ldN (tmp_eval t0) z1
    refine ⟨?_⟩
    unfold Oper.wp
    rw [hrun]
    exact ⟨_, rfl, I.step (by decide) (by decide) (by decide) rfl⟩
  · have e1 : oBf_2 = o' := Option.some.inj ho
    subst e1
    have d1 : done 1 = true := dep ⟨1, .data⟩ (by simp [oBf_2]) rfl
    have t1 := vals 1 50 d1 rfl
    rw [I.vs 1 d1 (by decide)] at t1
    have hcall : Calls Try.prog 28 #[.slice pa La Ca, .int .u32 5] x fun e x' => ∃ u, e = .returned u ∧ Q x x' ∧ NatAt x' u (mg * 5) := (times_any _ mg 5 x I.nn (by decide) hcap).mono (fun e x' ⟨u, h1, h2, h3⟩ => ⟨u, h1, h3, h2⟩)
    have hy : Yld Try.prog R oBf_2 a x 51 (fun u x' => NatAt x' u (mg * 5)) := yld_call (enters_of Try.func28 (by kernel_rfl) rfl) (argsTb t1) hcall
    refine ⟨?_⟩
    refine Oper.wp_mono ?_ hy.out
    rintro a' x' ⟨v, h1, h2, h3⟩
    refine ⟨v, h1, ?_⟩
    obtain ⟨q, L, C, z1, z2, z3⟩ := I.c2
    have n7 : done 7 = false := by
      cases e : done 7
      · rfl
      · have := (I.d7 e).2; rw [hd] at this; cases this
    exact ⟨I.vals 2 (fun h => absurd rfl h), fun _ => by rw [upd_eq]; exact h3, fun w0 h hb => (I.q w0 h hb).trans h2, h2.nat I.nn, h2.cell I.c0, h2.cell I.c1,
      ⟨q, L, C, h2.cell z1, fun h => z2 n7, (fun h => by rw [upd_ne _ _ (by decide), n7] at h; cases h)⟩, by rw [upd_ne _ _ (by decide)]; exact h2.cell I.c3, h2.cell I.c4, fun k => by rw [h2.2]; exact I.fz k,
      (fun h => by rw [upd_ne _ _ (by decide), n7] at h; cases h),
      fun h => by rw [upd_ne _ _ (by decide)] at h; exact ⟨updb_tr (I.d9 h).1, updb_tr (I.d9 h).2⟩⟩
  · have e1 : oBf_3 = o' := Option.some.inj ho
    subst e1
    have hrun : (execOp a.eval oBf_3).run Try.prog x = .ok (.value (vBf b pa La Ca e 3)) x := runb_fa3 (tmp_eval i8)
    refine ⟨?_⟩
    unfold Oper.wp
    rw [hrun]
    exact ⟨_, rfl, I.step (by decide) (by decide) (by decide) rfl⟩
  · have e1 : oBf_4 = o' := Option.some.inj ho
    subst e1
    have d3 : done 3 = true := dep ⟨3, .data⟩ (by simp [oBf_4]) rfl
    have t3 := vals 3 52 d3 rfl
    rw [I.vs 3 d3 (by decide)] at t3
    have d9 : done 9 = false := by
      cases e : done 9
      · rfl
      · have := (I.d9 e).1; rw [hd] at this; cases this
    have z1 := I.c3
    rw [d9, if_neg (by decide)] at z1
    have hrun : (execOp a.eval oBf_4).run Try.prog x = .ok (.value (vBf b pa La Ca e 4)) x := runb_ldi (tmp_eval t3) z1
    refine ⟨?_⟩
    unfold Oper.wp
    rw [hrun]
    exact ⟨_, rfl, I.step (by decide) (by decide) (by decide) rfl⟩
  · have e1 : oBf_5 = o' := Option.some.inj ho
    subst e1
    have d4 : done 4 = true := dep ⟨4, .data⟩ (by simp [oBf_5]) rfl
    have t4 := vals 4 53 d4 rfl
    rw [I.vs 4 d4 (by decide)] at t4
    have hrun : (execOp a.eval oBf_5).run Try.prog x = .ok (.value (vBf b pa La Ca e 5)) x := runb_sub lo hi (tmp_eval t4) rfl
    refine ⟨?_⟩
    unfold Oper.wp
    rw [hrun]
    exact ⟨_, rfl, I.step (by decide) (by decide) (by decide) rfl⟩
  · have e1 : oBf_6 = o' := Option.some.inj ho
    subst e1
    have hrun : (execOp a.eval oBf_6).run Try.prog x = .ok (.value (vBf b pa La Ca e 6)) x := runb_fa2 (tmp_eval i8)
    refine ⟨?_⟩
    unfold Oper.wp
    rw [hrun]
    exact ⟨_, rfl, I.step (by decide) (by decide) (by decide) rfl⟩
  · have e1 : oBf_7 = o' := Option.some.inj ho
    subst e1
    have d6 : done 6 = true := dep ⟨6, .data⟩ (by simp [oBf_7]) rfl
    have t6 := vals 6 55 d6 rfl
    rw [I.vs 6 d6 (by decide)] at t6
    have d2 : done 2 = true := dep ⟨2, .data⟩ (by simp [oBf_7]) rfl
    have t2 := vals 2 51 d2 rfl
    have d1 : done 1 = true := dep ⟨1, .phase⟩ (by simp [oBf_7]) rfl
    obtain ⟨q, L, C, z1, z2, _⟩ := I.c2
    have hv2 := I.v2 d2
    obtain ⟨p2, k2, L2, C2, e2, _⟩ := hv2
    rw [e2] at t2
    have hrun : (execOp a.eval oBf_7).run Try.prog x = .ok .skip (x.setCell ⟨b, 2, none⟩ (.slice p2 L2 C2)) := runb_stN (tmp_eval t6) (tmp_eval t2) z1 (I.fz _)
    refine ⟨?_⟩
    unfold Oper.wp
    rw [hrun]
    refine ⟨undef, rfl, ?_⟩
    have oth : ∀ j, j ≠ 2 → (x.setCell ⟨b, 2, none⟩ (.slice p2 L2 C2)).cell? ⟨b, j, none⟩ = x.cell? ⟨b, j, none⟩ := fun j hj => World.cell?_setCell_other _ _ _ _ (fun h => by injection h with _ h; omega)
    exact ⟨I.vals 7 (fun _ => rfl), fun _ => by rw [upd_ne _ _ (by decide)]; exact natb_box (I.v2 d2) z1 (fun z h => (by cases h)), fun w0 h hb => (I.q w0 h hb).set hb _, natb_box I.nn z1 (fun z h => (by cases h)), (oth 0 (by decide)).trans I.c0, (oth 1 (by decide)).trans I.c1,
      ⟨p2, L2, C2, World.cell?_setCell_same _ _ _ z1, (fun h => by rw [upd_eq] at h; cases h), fun _ => by rw [upd_ne _ _ (by decide)]; exact e2.symm⟩, by rw [upd_ne _ _ (by decide)]; exact (oth 3 (by decide)).trans I.c3, (oth 4 (by decide)).trans I.c4, fun k => by rw [World.frozen?_setCell]; exact I.fz k,
      fun _ => ⟨updb_tr d1, updb_tr d2⟩, fun h => by rw [upd_ne _ _ (by decide)] at h; exact ⟨updb_tr (I.d9 h).1, updb_tr (I.d9 h).2⟩⟩
  · have e1 : oBf_8 = o' := Option.some.inj ho
    subst e1
    have hrun : (execOp a.eval oBf_8).run Try.prog x = .ok (.value (vBf b pa La Ca e 8)) x := runb_fa3 (tmp_eval i8)
    refine ⟨?_⟩
    unfold Oper.wp
    rw [hrun]
    exact ⟨_, rfl, I.step (by decide) (by decide) (by decide) rfl⟩
  · have e1 : oBf_9 = o' := Option.some.inj ho
    subst e1
    have d8 : done 8 = true := dep ⟨8, .data⟩ (by simp [oBf_9]) rfl
    have t8 := vals 8 56 d8 rfl
    rw [I.vs 8 d8 (by decide)] at t8
    have d5 : done 5 = true := dep ⟨5, .data⟩ (by simp [oBf_9]) rfl
    have t5 := vals 5 54 d5 rfl
    rw [I.vs 5 d5 (by decide)] at t5
    have d4 : done 4 = true := dep ⟨4, .phase⟩ (by simp [oBf_9]) rfl
    have z1 := I.c3
    have hrun : (execOp a.eval oBf_9).run Try.prog x = .ok .skip (x.setCell ⟨b, 3, none⟩ (.int .i64 (e - 24))) := runb_sti (tmp_eval t8) (tmp_eval t5) z1 (I.fz _)
    refine ⟨?_⟩
    unfold Oper.wp
    rw [hrun]
    refine ⟨undef, rfl, ?_⟩
    have oth : ∀ j, j ≠ 3 → (x.setCell ⟨b, 3, none⟩ (.int .i64 (e - 24))).cell? ⟨b, j, none⟩ = x.cell? ⟨b, j, none⟩ := fun j hj => World.cell?_setCell_other _ _ _ _ (fun h => by injection h with _ h; omega)
    obtain ⟨q, L, C, y1, y2, y3⟩ := I.c2
    exact ⟨I.vals 9 (fun _ => rfl), fun h => by rw [upd_ne _ _ (by decide)] at h ⊢; exact natb_box (I.v2 h) z1 (fun z h => (by cases h)), fun w0 h hb => (I.q w0 h hb).set hb _, natb_box I.nn z1 (fun z h => (by cases h)), (oth 0 (by decide)).trans I.c0, (oth 1 (by decide)).trans I.c1,
      ⟨q, L, C, (oth 2 (by decide)).trans y1, fun h => by rw [upd_ne _ _ (by decide)] at h; exact y2 h, fun h => by rw [upd_ne _ _ (by decide)] at h ⊢; exact y3 h⟩, by rw [upd_eq, if_pos rfl]; exact World.cell?_setCell_same _ _ _ z1, (oth 4 (by decide)).trans I.c4, fun k => by rw [World.frozen?_setCell]; exact I.fz k,
      fun h => by rw [upd_ne _ _ (by decide)] at h; exact ⟨updb_tr (I.d7 h).1, updb_tr (I.d7 h).2⟩, fun _ => ⟨updb_tr d4, updb_tr d5⟩⟩
  · cases ho
set_option maxHeartbeats 1000000 in
theorem regionBf {id : Nat} {l : List Oper} {R : Exit → Act → World → Prop} {a0 : Act} {wa : World} {b mg : Nat} {e : Int} (hl : l = opsBf) (hsz : a0.tmps.size = 155) (h8 : a0.tmps[8]? = some (ptrV b)) (lo : -100000 ≤ e) (hi : e ≤ 100000) (hcap : mg < cap) (nb : NBox wa b (.fin false mg e false)) (fz : ∀ k, wa.frozen? ⟨b, k, none⟩ = false)
    (hR : ∀ x v0 v1 v2 v3 v4 v5 v6 v8, (∀ w0, Q w0 wa → w0.heap.size ≤ b → Q w0 x) → NBox x b (.fin false (mg * 5) (e - 24) false) → (∀ k, x.frozen? ⟨b, k, none⟩ = false) → R .normal (putAll a0 [(49, v0), (50, v1), (51, v2), (52, v3), (53, v4), (54, v5), (55, v6), (56, v8)]) x) :
    (Code.region id l.toArray true).wp Try.prog R a0 wa := by
  subst hl
  obtain ⟨k0, s0, pa, La, Ca, e0, m0, ⟨c0, c1, c2, c3, c4⟩, nv, hnv, hN⟩ := nb
  simp only [num5, Value.agg.injEq, Array.mk.injEq, List.cons.injEq, Value.int.injEq, Value.bool.injEq, true_and, and_true] at hnv
  obtain ⟨rfl, rfl, rfl, rfl, rfl⟩ := hnv
  refine wp_region_slots (InvBf wa b mg pa La Ca e0) (by kernel_rfl) (by decide +kernel) ?_ ⟨(fun k h => by cases h), (fun h => by cases h), fun w0 h _ => h.drew, (Q.refl wa).drew.nat hN, c0, c1, ⟨pa, La, Ca, c2, fun _ => rfl, (fun h => by cases h)⟩, c3, c4, fz, (fun h => by cases h), (fun h => by cases h)⟩ (hopBf h8 lo hi hcap) ?_ ?_
  · intro k u hk
    rw [hsz]
    have := dstBf k u hk
    clear hk
    revert u
    decide
  · intro k o' x done val g' b' ho _ _ _ hg _
    have key : ∀ k : Nat, k < 10 → ((opsBf[k]?).bind fun o : Oper => o.guard) = none := by decide +kernel
    have := key k (List.getElem?_eq_some_iff.1 ho).1
    rw [ho] at this
    have : o'.guard = none := this
    rw [this] at hg
    cases hg
  · intro a x val I size defers other facts
    have h2 := I.v2 (by decide)
    have h2' := h2
    obtain ⟨p2, k2, L2, C2, e2, _⟩ := h2'
    obtain ⟨q, L, C, y1, _, y3⟩ := I.c2
    have y3 := y3 (by decide)
    rw [y3, e2] at y1
    rw [e2] at h2
    have z3 : x.cell? ⟨b, 3, none⟩ = some (.int .i64 (e0 - 24)) := I.c3
    have hA := act_puts (a := a) (a0 := a0) [(49, val 0), (50, val 1), (51, val 2), (52, val 3), (53, val 4), (54, val 5), (55, val 6), (56, val 8)] (show ([49, 50, 51, 52, 53, 54, 55, 56] : List Nat).Nodup by decide) size defers (fun u hu => other u (fun k e => hu (dstBf k u e))) (fun r hr => ?_)
    · refine ⟨?_⟩
      rw [hA]
      exact hR x _ _ _ _ _ _ _ _ I.q ⟨2, false, p2, L2, C2, e0 - 24, false, ⟨I.c0, I.c1, y1, z3, I.c4⟩, _, rfl, h2⟩ I.fz
    · simp only [List.mem_cons, List.not_mem_nil, or_false] at hr
      rcases hr with rfl | rfl | rfl | rfl | rfl | rfl | rfl | rfl
      · exact facts 0 49 rfl
      · exact facts 1 50 rfl
      · exact facts 2 51 rfl
      · exact facts 3 52 rfl
      · exact facts 4 53 rfl
      · exact facts 5 54 rfl
      · exact facts 6 55 rfl
      · exact facts 8 56 rfl
end Go.Proofs.Ytedafbbpcpebbaa

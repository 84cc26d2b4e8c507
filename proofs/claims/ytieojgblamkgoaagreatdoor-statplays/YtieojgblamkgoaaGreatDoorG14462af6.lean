/- stat: Copy. (gen_tzc.py) -/
import Derived.Test.YtieojgblamkgoaaGreatDoorG28b2403f
import Derived.Test.YtieojgblamkgoaaGreatDoorG9aa7668d
import Derived.Test.YtieojgblamkgoaaGreatDoorGc72c0315
import Derived.Test.YtieojgblamkgoaaGreatDoorG6b52728e
import Derived.Test.YtieojgblamkgoaaGreatDoorGab2760b1
import Derived.Test.YtieojgblamkgoaaGreatDoorG48ed55a6
import Derived.Test.YtieojgblamkgoaaGreatDoorG6bc7e889
import Derived.Test.YtieojgblamkgoaaGreatDoorGb82cbb4e
namespace Go.Proofs.YtieojgblamkgoaaGreatDoor
open Go.RowKit
set_option linter.unusedVariables false
set_option linter.unusedSimpArgs false
set_option maxRecDepth 100000

/-- A stat as a value. -/
def staV (A b H kc lo hi : Nat) (nn : Int) : Value := .agg #[.pointer (some ⟨A, 0, none⟩), .int .i64 (b : Int), .slice (some ⟨H, 0, none⟩) (2 ^ b) kc, .int .u32 (lo : Int), .int .u32 (hi : Int), .int .i64 nn]
section
variable {P : Program} {ρ : Operand → Value} {x : World} {d : Option Tmp} {ty : TypeId} {ps : String} {af : Array Edge} {g : Option (Nat × Bool)}
theorem run_nckC {j : Nat} {p : Addr} (h : ρ (.tmp j) = .pointer (some p)) : (execOp ρ { dst := d, op := .nilCheck (.tmp j), type := ty, pos := ps, after := af, guard := g }).run P x = .ok (.value (.pointer (some p))) x := by
  simp [execOp, h, go_sem]
theorem run_faC0 {j b : Nat} (h : ρ (.tmp j) = .pointer (some ⟨b, 0, none⟩)) : (execOp ρ { dst := d, op := .fieldAddr 76 (.tmp j) 0, type := ty, pos := ps, after := af, guard := g }).run Tryz.prog x = .ok (.value (.pointer (some ⟨b, 0, none⟩))) x := by
  simp [execOp, h, go_sem]
theorem run_faC1 {j b : Nat} (h : ρ (.tmp j) = .pointer (some ⟨b, 0, none⟩)) : (execOp ρ { dst := d, op := .fieldAddr 76 (.tmp j) 1, type := ty, pos := ps, after := af, guard := g }).run Tryz.prog x = .ok (.value (.pointer (some ⟨b, 1, none⟩))) x := by
  simp [execOp, h, go_sem]
theorem run_faC2 {j b : Nat} (h : ρ (.tmp j) = .pointer (some ⟨b, 0, none⟩)) : (execOp ρ { dst := d, op := .fieldAddr 76 (.tmp j) 2, type := ty, pos := ps, after := af, guard := g }).run Tryz.prog x = .ok (.value (.pointer (some ⟨b, 3, none⟩))) x := by
  simp [execOp, h, go_sem]
theorem run_faC3 {j b : Nat} (h : ρ (.tmp j) = .pointer (some ⟨b, 0, none⟩)) : (execOp ρ { dst := d, op := .fieldAddr 76 (.tmp j) 3, type := ty, pos := ps, after := af, guard := g }).run Tryz.prog x = .ok (.value (.pointer (some ⟨b, 5, none⟩))) x := by
  simp [execOp, h, go_sem]
theorem run_ldC0 {j b a : Nat} (h : ρ (.tmp j) = .pointer (some ⟨b, 0, none⟩)) (c : x.cell? ⟨b, 0, none⟩ = some (.pointer (some ⟨a, 0, none⟩))) : (execOp ρ { dst := d, op := .load 70 (.tmp j), type := ty, pos := ps, after := af, guard := g }).run Tryz.prog x = .ok (.value (.pointer (some ⟨a, 0, none⟩))) x := by
  simp [execOp, h, go_sem, c]
theorem run_ldC1 {j p b H kc : Nat} (h : ρ (.tmp j) = .pointer (some ⟨p, 1, none⟩)) (c1 : x.cell? ⟨p, 1, none⟩ = some (.int .i64 (b : Int))) (c2 : x.cell? ⟨p, 2, none⟩ = some (.slice (some ⟨H, 0, none⟩) (2 ^ b) kc)) : (execOp ρ { dst := d, op := .load 72 (.tmp j), type := ty, pos := ps, after := af, guard := g }).run Tryz.prog x = .ok (.value (talV b H kc)) x := by
  unfold talV
  generalize 2 ^ b = N at *
  simp [execOp, h, go_sem, c1, c2]
theorem run_ldC2 {j p a b : Nat} (h : ρ (.tmp j) = .pointer (some ⟨p, 3, none⟩)) (c1 : x.cell? ⟨p, 3, none⟩ = some (.int .u32 (a : Int))) (c2 : x.cell? ⟨p, 4, none⟩ = some (.int .u32 (b : Int))) : (execOp ρ { dst := d, op := .load 74 (.tmp j), type := ty, pos := ps, after := af, guard := g }).run Tryz.prog x = .ok (.value (spnV a b)) x := by
  unfold spnV
  simp [execOp, h, go_sem, c1, c2]
theorem run_ldC3 {j p : Nat} {a : Int} (h : ρ (.tmp j) = .pointer (some ⟨p, 5, none⟩)) (c : x.cell? ⟨p, 5, none⟩ = some (.int .i64 a)) : (execOp ρ { dst := d, op := .load 3 (.tmp j), type := ty, pos := ps, after := af, guard := g }).run Tryz.prog x = .ok (.value (.int .i64 a)) x := by
  simp [execOp, h, go_sem, c]
theorem run_bdC {i j k l A b H kc lo hi : Nat} {nn : Int} (h1 : ρ (.tmp i) = .pointer (some ⟨A, 0, none⟩)) (h2 : ρ (.tmp j) = talV b H kc) (h3 : ρ (.tmp k) = spnV lo hi) (h4 : ρ (.tmp l) = .int .i64 nn) : (execOp ρ { dst := d, op := .build 76 #[(0, .tmp i), (1, .tmp j), (2, .tmp k), (3, .tmp l)], type := ty, pos := ps, after := af, guard := g }).run Tryz.prog x = .ok (.value (staV A b H kc lo hi nn)) x := by
  unfold talV at h2
  unfold spnV at h3
  unfold staV
  generalize 2 ^ b = N at *
  simp [execOp, h1, h2, h3, h4, go_sem]
theorem run_bxC {j A b H kc lo hi : Nat} {nn : Int} (h : ρ (.tmp j) = staV A b H kc lo hi nn) :
    (execOp ρ { dst := d, op := .box 76 (.tmp j), type := ty, pos := ps, after := af, guard := g }).run Tryz.prog x = .ok (.value (.pointer (some ⟨x.heap.size, 0, none⟩))) (x.alloc (.cells #[.pointer (some ⟨A, 0, none⟩), .int .i64 (b : Int), .slice (some ⟨H, 0, none⟩) (2 ^ b) kc, .int .u32 (lo : Int), .int .u32 (hi : Int), .int .i64 nn] 76)) := by
  unfold staV at h
  generalize 2 ^ b = N at *
  simp [execOp, h, go_sem]
end
/-- The parts of a copy. -/
def spCA (L : List Nat) (n0 : Nat) : Spec := ⟨fun v x => ∃ A, v = .pointer (some ⟨A, 0, none⟩) ∧ AccAt x A L ∧ n0 ≤ A, fun ⟨A, h1, h2, h3⟩ q => ⟨A, h1, h2.next q, h3⟩⟩
def spCT (b : Nat) (L : List Nat) (n0 : Nat) : Spec := ⟨fun v x => ∃ G k, v = talV b G k ∧ 2 ^ b ≤ k ∧ VR x G (2 ^ b) (fun j => .int .i64 ((clsC b L j : Nat) : Int)) ∧ n0 ≤ G, fun ⟨G, k, h1, h2, h3, h4⟩ q => ⟨G, k, h1, h2, h3.next q, h4⟩⟩
def spCB (b : Nat) (L : List Nat) (n0 : Nat) : Spec := ⟨fun v x => ∃ A G k, v = staV A b G k (lowK L) (topK L) (nanC L : Nat) ∧ AccAt x A L ∧ n0 ≤ A ∧ 2 ^ b ≤ k ∧ VR x G (2 ^ b) (fun j => .int .i64 ((clsC b L j : Nat) : Int)) ∧ n0 ≤ G, fun ⟨A, G, k, h1, h2, h3, h4, h5, h6⟩ q => ⟨A, G, k, h1, h2.next q, h3, h4, h5.next q, h6⟩⟩
def spCS (b : Nat) (L : List Nat) (n0 : Nat) : Spec := ⟨fun v x => ∃ P A G k, v = .pointer (some ⟨P, 0, none⟩) ∧ StAt x P A G b k L ∧ n0 ≤ P ∧ n0 ≤ A ∧ n0 ≤ G, fun ⟨P, A, G, k, h1, h2, h3⟩ q => ⟨P, A, G, k, h1, h2.next q, h3⟩⟩
theorem acc_lt {x : World} {A : Nat} {L : List Nat} (h : AccAt x A L) : A < x.heap.size := by
  obtain ⟨N, a⟩ := h
  exact World.block_lt_of_cell? _ _ a.m
theorem acc_vr {x : World} {A G n : Nat} {L : List Nat} {F : Nat → Int} (h : AccAt x A L) (hv : VR x G n (fun j => .int .i64 (F j))) (hn : 1 ≤ n) : A ≠ G := by
  obtain ⟨N, a⟩ := h
  intro e
  subst e
  have c1 := a.n 0 (by decide)
  have c2 := hv.cell 0 (by omega)
  rw [c1] at c2
  cases c2
/-- A stat of its parts. -/
theorem statC {x : World} {A G b k : Nat} {L : List Nat} (b1 : 1 ≤ b) (b2 : b ≤ 12) (hA : AccAt x A L) (hv : VR x G (2 ^ b) (fun j => .int .i64 ((clsC b L j : Nat) : Int))) (hk : 2 ^ b ≤ k) :
    StAt (x.alloc (.cells #[.pointer (some ⟨A, 0, none⟩), .int .i64 (b : Int), .slice (some ⟨G, 0, none⟩) (2 ^ b) k, .int .u32 ((lowK L : Nat) : Int), .int .u32 ((topK L : Nat) : Int), .int .i64 ((nanC L : Nat) : Int)] 76)) x.heap.size A G b k L := by
  have lA := acc_lt hA
  have lG := hv.lt Nat.one_le_two_pow
  have q : Q x (x.alloc (.cells #[.pointer (some ⟨A, 0, none⟩), .int .i64 (b : Int), .slice (some ⟨G, 0, none⟩) (2 ^ b) k, .int .u32 ((lowK L : Nat) : Int), .int .u32 ((topK L : Nat) : Int), .int .i64 ((nanC L : Nat) : Int)] 76)) := (Q.refl x).cells _ _
  exact ⟨b1, b2, by simp [go_sem], by simp [go_sem], by simp [go_sem], by simp [go_sem], by simp [go_sem], by simp [go_sem], fun j => by simp [go_sem], hA.next q, hv.next q, hk, by omega, by omega, acc_vr hA hv Nat.one_le_two_pow⟩
def oCP_0 : Oper := { dst := some 3, op := .move (.tmp 0), type := 31, pos := "stat.go:69", after := #[], guard := none }
def oCP_1 : Oper := { dst := some 4, op := .nilCheck (.tmp 3), type := 0, pos := "stat.go:69", after := #[⟨0, .data⟩], guard := none }
def oCP_2 : Oper := { dst := some 5, op := .fieldAddr 76 (.tmp 4) 0, type := 0, pos := "stat.go:69", after := #[⟨1, .data⟩], guard := none }
def oCP_3 : Oper := { dst := some 6, op := .load 70 (.tmp 5), type := 70, pos := "stat.go:69", after := #[⟨2, .data⟩], guard := none }
def oCP_4 : Oper := { dst := some 7, op := .call { callee := .value (.func 47), args := #[.tmp 6], argTypes := #[70] }, type := 70, pos := "stat.go:69", after := #[⟨3, .data⟩], guard := none }
def oCP_5 : Oper := { dst := some 8, op := .move (.tmp 0), type := 31, pos := "stat.go:69", after := #[], guard := none }
def oCP_6 : Oper := { dst := some 9, op := .nilCheck (.tmp 8), type := 0, pos := "stat.go:69", after := #[⟨5, .data⟩], guard := none }
def oCP_7 : Oper := { dst := some 10, op := .fieldAddr 76 (.tmp 9) 1, type := 0, pos := "stat.go:69", after := #[⟨6, .data⟩], guard := none }
def oCP_8 : Oper := { dst := some 11, op := .load 72 (.tmp 10), type := 72, pos := "stat.go:69", after := #[⟨7, .data⟩], guard := none }
def oCP_9 : Oper := { dst := some 12, op := .call { callee := .value (.func 48), args := #[.tmp 11], argTypes := #[72] }, type := 72, pos := "stat.go:69", after := #[⟨8, .data⟩, ⟨4, .chain⟩], guard := none }
def oCP_10 : Oper := { dst := some 13, op := .move (.tmp 0), type := 31, pos := "stat.go:69", after := #[], guard := none }
def oCP_11 : Oper := { dst := some 14, op := .nilCheck (.tmp 13), type := 0, pos := "stat.go:69", after := #[⟨10, .data⟩], guard := none }
def oCP_12 : Oper := { dst := some 15, op := .fieldAddr 76 (.tmp 14) 2, type := 0, pos := "stat.go:69", after := #[⟨11, .data⟩], guard := none }
def oCP_13 : Oper := { dst := some 16, op := .load 74 (.tmp 15), type := 74, pos := "stat.go:69", after := #[⟨12, .data⟩], guard := none }
def oCP_14 : Oper := { dst := some 17, op := .move (.tmp 0), type := 31, pos := "stat.go:69", after := #[], guard := none }
def oCP_15 : Oper := { dst := some 18, op := .nilCheck (.tmp 17), type := 0, pos := "stat.go:69", after := #[⟨14, .data⟩], guard := none }
def oCP_16 : Oper := { dst := some 19, op := .fieldAddr 76 (.tmp 18) 3, type := 0, pos := "stat.go:69", after := #[⟨15, .data⟩], guard := none }
def oCP_17 : Oper := { dst := some 20, op := .load 3 (.tmp 19), type := 3, pos := "stat.go:69", after := #[⟨16, .data⟩], guard := none }
def oCP_18 : Oper := { dst := some 21, op := .build 76 #[(0, .tmp 7), (1, .tmp 12), (2, .tmp 16), (3, .tmp 20)], type := 76, pos := "stat.go:69", after := #[⟨4, .data⟩, ⟨9, .data⟩, ⟨13, .data⟩, ⟨17, .data⟩], guard := none }
def oCP_19 : Oper := { dst := some 22, op := .box 76 (.tmp 21), type := 31, pos := "stat.go:69", after := #[⟨18, .data⟩], guard := none }
def oCP_20 : Oper := { dst := some 2, op := .assign (.tmp 22), type := 31, pos := "stat.go:69", after := #[⟨19, .data⟩, ⟨9, .chain⟩, ⟨0, .phase⟩, ⟨1, .phase⟩, ⟨2, .phase⟩, ⟨3, .phase⟩, ⟨4, .phase⟩, ⟨5, .phase⟩, ⟨6, .phase⟩, ⟨7, .phase⟩, ⟨8, .phase⟩, ⟨9, .phase⟩, ⟨10, .phase⟩, ⟨11, .phase⟩, ⟨12, .phase⟩, ⟨13, .phase⟩, ⟨14, .phase⟩, ⟨15, .phase⟩, ⟨16, .phase⟩, ⟨17, .phase⟩, ⟨18, .phase⟩, ⟨19, .phase⟩], guard := none }
def opsCP : List Oper := [oCP_0, oCP_1, oCP_2, oCP_3, oCP_4, oCP_5, oCP_6, oCP_7, oCP_8, oCP_9, oCP_10, oCP_11, oCP_12, oCP_13, oCP_14, oCP_15, oCP_16, oCP_17, oCP_18, oCP_19, oCP_20]
def sCP : List Nat := [3, 4, 5, 6, 7, 8, 9, 10, 11, 12, 13, 14, 15, 16, 17, 18, 19, 20, 21, 22, 2]
def spCP (P A H bt kc n0 : Nat) (L : List Nat) : List Spec := [spV (.pointer (some ⟨P, 0, none⟩)), spV (.pointer (some ⟨P, 0, none⟩)), spV (.pointer (some ⟨P, 0, none⟩)), spV (.pointer (some ⟨A, 0, none⟩)), spCA L n0, spV (.pointer (some ⟨P, 0, none⟩)), spV (.pointer (some ⟨P, 0, none⟩)), spV (.pointer (some ⟨P, 1, none⟩)), spV (talV bt H kc), spCT bt L n0, spV (.pointer (some ⟨P, 0, none⟩)), spV (.pointer (some ⟨P, 0, none⟩)), spV (.pointer (some ⟨P, 3, none⟩)), spV (spnV (lowK L) (topK L)), spV (.pointer (some ⟨P, 0, none⟩)), spV (.pointer (some ⟨P, 0, none⟩)), spV (.pointer (some ⟨P, 5, none⟩)), spV (.int .i64 (nanC L : Nat)), spCB bt L n0, spCS bt L n0, spCS bt L n0]
structure EnvCP (a0 : Act) (w : World) (P A H bt kc n0 : Nat) (L : List Nat) : Prop where
  h0 : a0.tmps[0]? = some (.pointer (some ⟨P, 0, none⟩))
  st : StAt w P A H bt kc L
  n0 : w.heap.size = n0
def skCP (i : Nat) : Bool := [].contains i
theorem yCP_0 {a0 : Act} {w : World} {P A H bt kc n0 : Nat} {L : List Nat} (E : EnvCP a0 w P A H bt kc n0 L) {R : Exit → Act → World → Prop} {a : Act} {x : World} (q : Q w x) (oth : ∀ j, j ∉ sCP → a.tmps[j]? = a0.tmps[j]?) (dep : ∀ ed ∈ oCP_0.after, Region.binds .any ed = true → ∀ t', sCP[ed.on]? = some t' → ∃ v, a.tmps[t']? = some v ∧ specAt (spCP P A H bt kc n0 L) ed.on v x) : Yld Tryz.prog R oCP_0 a x 3 (specAt (spCP P A H bt kc n0 L) 0) := by
  exact yld_move ((oth 0 (by decide)).trans E.h0) rfl
theorem yCP_1 {a0 : Act} {w : World} {P A H bt kc n0 : Nat} {L : List Nat} (E : EnvCP a0 w P A H bt kc n0 L) {R : Exit → Act → World → Prop} {a : Act} {x : World} (q : Q w x) (oth : ∀ j, j ∉ sCP → a.tmps[j]? = a0.tmps[j]?) (dep : ∀ ed ∈ oCP_1.after, Region.binds .any ed = true → ∀ t', sCP[ed.on]? = some t' → ∃ v, a.tmps[t']? = some v ∧ specAt (spCP P A H bt kc n0 L) ed.on v x) : Yld Tryz.prog R oCP_1 a x 4 (specAt (spCP P A H bt kc n0 L) 1) := by
  obtain ⟨v0, t0, f0⟩ := dep ⟨0, .data⟩ (by simp [oCP_1]) rfl 3 rfl
  have f0 : v0 = (.pointer (some ⟨P, 0, none⟩)) := f0
  subst f0
  exact yld_run (x' := x) rfl (run_nckC (tmp_eval t0)) (Q.refl x) rfl
theorem yCP_2 {a0 : Act} {w : World} {P A H bt kc n0 : Nat} {L : List Nat} (E : EnvCP a0 w P A H bt kc n0 L) {R : Exit → Act → World → Prop} {a : Act} {x : World} (q : Q w x) (oth : ∀ j, j ∉ sCP → a.tmps[j]? = a0.tmps[j]?) (dep : ∀ ed ∈ oCP_2.after, Region.binds .any ed = true → ∀ t', sCP[ed.on]? = some t' → ∃ v, a.tmps[t']? = some v ∧ specAt (spCP P A H bt kc n0 L) ed.on v x) : Yld Tryz.prog R oCP_2 a x 5 (specAt (spCP P A H bt kc n0 L) 2) := by
  obtain ⟨v1, t1, f1⟩ := dep ⟨1, .data⟩ (by simp [oCP_2]) rfl 4 rfl
  have f1 : v1 = (.pointer (some ⟨P, 0, none⟩)) := f1
  subst f1
  exact yld_run (x' := x) rfl (run_faC0 (tmp_eval t1)) (Q.refl x) rfl
theorem yCP_3 {a0 : Act} {w : World} {P A H bt kc n0 : Nat} {L : List Nat} (E : EnvCP a0 w P A H bt kc n0 L) {R : Exit → Act → World → Prop} {a : Act} {x : World} (q : Q w x) (oth : ∀ j, j ∉ sCP → a.tmps[j]? = a0.tmps[j]?) (dep : ∀ ed ∈ oCP_3.after, Region.binds .any ed = true → ∀ t', sCP[ed.on]? = some t' → ∃ v, a.tmps[t']? = some v ∧ specAt (spCP P A H bt kc n0 L) ed.on v x) : Yld Tryz.prog R oCP_3 a x 6 (specAt (spCP P A H bt kc n0 L) 3) := by
  obtain ⟨v2, t2, f2⟩ := dep ⟨2, .data⟩ (by simp [oCP_3]) rfl 5 rfl
  have f2 : v2 = (.pointer (some ⟨P, 0, none⟩)) := f2
  subst f2
  exact yld_run (x' := x) rfl (run_ldC0 (tmp_eval t2) (E.st.next q).p0) (Q.refl x) rfl
theorem yCP_4 {a0 : Act} {w : World} {P A H bt kc n0 : Nat} {L : List Nat} (E : EnvCP a0 w P A H bt kc n0 L) {R : Exit → Act → World → Prop} {a : Act} {x : World} (q : Q w x) (oth : ∀ j, j ∉ sCP → a.tmps[j]? = a0.tmps[j]?) (dep : ∀ ed ∈ oCP_4.after, Region.binds .any ed = true → ∀ t', sCP[ed.on]? = some t' → ∃ v, a.tmps[t']? = some v ∧ specAt (spCP P A H bt kc n0 L) ed.on v x) : Yld Tryz.prog R oCP_4 a x 7 (specAt (spCP P A H bt kc n0 L) 4) := by
  obtain ⟨v3, t3, f3⟩ := dep ⟨3, .data⟩ (by simp [oCP_4]) rfl 6 rfl
  have f3 : v3 = (.pointer (some ⟨A, 0, none⟩)) := f3
  subst f3
  obtain ⟨N, hA⟩ := (E.st.next q).acc
  refine yld_call (enters_of Tryz.func47 (by kernel_rfl) rfl) (args1 t3) ((copy_any L A L.length N x hA).mono ?_)
  rintro u x' ⟨rfl, hA', q', _⟩
  exact ⟨_, rfl, q', ⟨_, rfl, ⟨N, hA'⟩, by have := q.1.size; have := E.n0; omega⟩⟩
theorem yCP_5 {a0 : Act} {w : World} {P A H bt kc n0 : Nat} {L : List Nat} (E : EnvCP a0 w P A H bt kc n0 L) {R : Exit → Act → World → Prop} {a : Act} {x : World} (q : Q w x) (oth : ∀ j, j ∉ sCP → a.tmps[j]? = a0.tmps[j]?) (dep : ∀ ed ∈ oCP_5.after, Region.binds .any ed = true → ∀ t', sCP[ed.on]? = some t' → ∃ v, a.tmps[t']? = some v ∧ specAt (spCP P A H bt kc n0 L) ed.on v x) : Yld Tryz.prog R oCP_5 a x 8 (specAt (spCP P A H bt kc n0 L) 5) := by
  exact yld_move ((oth 0 (by decide)).trans E.h0) rfl
theorem yCP_6 {a0 : Act} {w : World} {P A H bt kc n0 : Nat} {L : List Nat} (E : EnvCP a0 w P A H bt kc n0 L) {R : Exit → Act → World → Prop} {a : Act} {x : World} (q : Q w x) (oth : ∀ j, j ∉ sCP → a.tmps[j]? = a0.tmps[j]?) (dep : ∀ ed ∈ oCP_6.after, Region.binds .any ed = true → ∀ t', sCP[ed.on]? = some t' → ∃ v, a.tmps[t']? = some v ∧ specAt (spCP P A H bt kc n0 L) ed.on v x) : Yld Tryz.prog R oCP_6 a x 9 (specAt (spCP P A H bt kc n0 L) 6) := by
  obtain ⟨v5, t5, f5⟩ := dep ⟨5, .data⟩ (by simp [oCP_6]) rfl 8 rfl
  have f5 : v5 = (.pointer (some ⟨P, 0, none⟩)) := f5
  subst f5
  exact yld_run (x' := x) rfl (run_nckC (tmp_eval t5)) (Q.refl x) rfl
theorem yCP_7 {a0 : Act} {w : World} {P A H bt kc n0 : Nat} {L : List Nat} (E : EnvCP a0 w P A H bt kc n0 L) {R : Exit → Act → World → Prop} {a : Act} {x : World} (q : Q w x) (oth : ∀ j, j ∉ sCP → a.tmps[j]? = a0.tmps[j]?) (dep : ∀ ed ∈ oCP_7.after, Region.binds .any ed = true → ∀ t', sCP[ed.on]? = some t' → ∃ v, a.tmps[t']? = some v ∧ specAt (spCP P A H bt kc n0 L) ed.on v x) : Yld Tryz.prog R oCP_7 a x 10 (specAt (spCP P A H bt kc n0 L) 7) := by
  obtain ⟨v6, t6, f6⟩ := dep ⟨6, .data⟩ (by simp [oCP_7]) rfl 9 rfl
  have f6 : v6 = (.pointer (some ⟨P, 0, none⟩)) := f6
  subst f6
  exact yld_run (x' := x) rfl (run_faC1 (tmp_eval t6)) (Q.refl x) rfl
theorem yCP_8 {a0 : Act} {w : World} {P A H bt kc n0 : Nat} {L : List Nat} (E : EnvCP a0 w P A H bt kc n0 L) {R : Exit → Act → World → Prop} {a : Act} {x : World} (q : Q w x) (oth : ∀ j, j ∉ sCP → a.tmps[j]? = a0.tmps[j]?) (dep : ∀ ed ∈ oCP_8.after, Region.binds .any ed = true → ∀ t', sCP[ed.on]? = some t' → ∃ v, a.tmps[t']? = some v ∧ specAt (spCP P A H bt kc n0 L) ed.on v x) : Yld Tryz.prog R oCP_8 a x 11 (specAt (spCP P A H bt kc n0 L) 8) := by
  obtain ⟨v7, t7, f7⟩ := dep ⟨7, .data⟩ (by simp [oCP_8]) rfl 10 rfl
  have f7 : v7 = (.pointer (some ⟨P, 1, none⟩)) := f7
  subst f7
  exact yld_run (x' := x) rfl (run_ldC1 (tmp_eval t7) (E.st.next q).p1 (E.st.next q).p2) (Q.refl x) rfl
theorem yCP_9 {a0 : Act} {w : World} {P A H bt kc n0 : Nat} {L : List Nat} (E : EnvCP a0 w P A H bt kc n0 L) {R : Exit → Act → World → Prop} {a : Act} {x : World} (q : Q w x) (oth : ∀ j, j ∉ sCP → a.tmps[j]? = a0.tmps[j]?) (dep : ∀ ed ∈ oCP_9.after, Region.binds .any ed = true → ∀ t', sCP[ed.on]? = some t' → ∃ v, a.tmps[t']? = some v ∧ specAt (spCP P A H bt kc n0 L) ed.on v x) : Yld Tryz.prog R oCP_9 a x 12 (specAt (spCP P A H bt kc n0 L) 9) := by
  obtain ⟨v8, t8, f8⟩ := dep ⟨8, .data⟩ (by simp [oCP_9]) rfl 11 rfl
  have f8 : v8 = (talV bt H kc) := f8
  subst f8
  refine yld_call (enters_of Tryz.func48 (by kernel_rfl) rfl) (args1 t8) ((tclone_any bt H kc L x E.st.b2 (E.st.next q).tal E.st.cap).mono ?_)
  rintro u x' ⟨G, k, rfl, hk, hv, hG, q'⟩
  exact ⟨_, rfl, q', ⟨G, k, rfl, hk, hv, by have := q.1.size; have := E.n0; omega⟩⟩
theorem yCP_10 {a0 : Act} {w : World} {P A H bt kc n0 : Nat} {L : List Nat} (E : EnvCP a0 w P A H bt kc n0 L) {R : Exit → Act → World → Prop} {a : Act} {x : World} (q : Q w x) (oth : ∀ j, j ∉ sCP → a.tmps[j]? = a0.tmps[j]?) (dep : ∀ ed ∈ oCP_10.after, Region.binds .any ed = true → ∀ t', sCP[ed.on]? = some t' → ∃ v, a.tmps[t']? = some v ∧ specAt (spCP P A H bt kc n0 L) ed.on v x) : Yld Tryz.prog R oCP_10 a x 13 (specAt (spCP P A H bt kc n0 L) 10) := by
  exact yld_move ((oth 0 (by decide)).trans E.h0) rfl
theorem yCP_11 {a0 : Act} {w : World} {P A H bt kc n0 : Nat} {L : List Nat} (E : EnvCP a0 w P A H bt kc n0 L) {R : Exit → Act → World → Prop} {a : Act} {x : World} (q : Q w x) (oth : ∀ j, j ∉ sCP → a.tmps[j]? = a0.tmps[j]?) (dep : ∀ ed ∈ oCP_11.after, Region.binds .any ed = true → ∀ t', sCP[ed.on]? = some t' → ∃ v, a.tmps[t']? = some v ∧ specAt (spCP P A H bt kc n0 L) ed.on v x) : Yld Tryz.prog R oCP_11 a x 14 (specAt (spCP P A H bt kc n0 L) 11) := by
  obtain ⟨v10, t10, f10⟩ := dep ⟨10, .data⟩ (by simp [oCP_11]) rfl 13 rfl
  have f10 : v10 = (.pointer (some ⟨P, 0, none⟩)) := f10
  subst f10
  exact yld_run (x' := x) rfl (run_nckC (tmp_eval t10)) (Q.refl x) rfl
theorem yCP_12 {a0 : Act} {w : World} {P A H bt kc n0 : Nat} {L : List Nat} (E : EnvCP a0 w P A H bt kc n0 L) {R : Exit → Act → World → Prop} {a : Act} {x : World} (q : Q w x) (oth : ∀ j, j ∉ sCP → a.tmps[j]? = a0.tmps[j]?) (dep : ∀ ed ∈ oCP_12.after, Region.binds .any ed = true → ∀ t', sCP[ed.on]? = some t' → ∃ v, a.tmps[t']? = some v ∧ specAt (spCP P A H bt kc n0 L) ed.on v x) : Yld Tryz.prog R oCP_12 a x 15 (specAt (spCP P A H bt kc n0 L) 12) := by
  obtain ⟨v11, t11, f11⟩ := dep ⟨11, .data⟩ (by simp [oCP_12]) rfl 14 rfl
  have f11 : v11 = (.pointer (some ⟨P, 0, none⟩)) := f11
  subst f11
  exact yld_run (x' := x) rfl (run_faC2 (tmp_eval t11)) (Q.refl x) rfl
theorem yCP_13 {a0 : Act} {w : World} {P A H bt kc n0 : Nat} {L : List Nat} (E : EnvCP a0 w P A H bt kc n0 L) {R : Exit → Act → World → Prop} {a : Act} {x : World} (q : Q w x) (oth : ∀ j, j ∉ sCP → a.tmps[j]? = a0.tmps[j]?) (dep : ∀ ed ∈ oCP_13.after, Region.binds .any ed = true → ∀ t', sCP[ed.on]? = some t' → ∃ v, a.tmps[t']? = some v ∧ specAt (spCP P A H bt kc n0 L) ed.on v x) : Yld Tryz.prog R oCP_13 a x 16 (specAt (spCP P A H bt kc n0 L) 13) := by
  obtain ⟨v12, t12, f12⟩ := dep ⟨12, .data⟩ (by simp [oCP_13]) rfl 15 rfl
  have f12 : v12 = (.pointer (some ⟨P, 3, none⟩)) := f12
  subst f12
  exact yld_run (x' := x) rfl (run_ldC2 (tmp_eval t12) (E.st.next q).p3 (E.st.next q).p4) (Q.refl x) rfl
theorem yCP_14 {a0 : Act} {w : World} {P A H bt kc n0 : Nat} {L : List Nat} (E : EnvCP a0 w P A H bt kc n0 L) {R : Exit → Act → World → Prop} {a : Act} {x : World} (q : Q w x) (oth : ∀ j, j ∉ sCP → a.tmps[j]? = a0.tmps[j]?) (dep : ∀ ed ∈ oCP_14.after, Region.binds .any ed = true → ∀ t', sCP[ed.on]? = some t' → ∃ v, a.tmps[t']? = some v ∧ specAt (spCP P A H bt kc n0 L) ed.on v x) : Yld Tryz.prog R oCP_14 a x 17 (specAt (spCP P A H bt kc n0 L) 14) := by
  exact yld_move ((oth 0 (by decide)).trans E.h0) rfl
theorem yCP_15 {a0 : Act} {w : World} {P A H bt kc n0 : Nat} {L : List Nat} (E : EnvCP a0 w P A H bt kc n0 L) {R : Exit → Act → World → Prop} {a : Act} {x : World} (q : Q w x) (oth : ∀ j, j ∉ sCP → a.tmps[j]? = a0.tmps[j]?) (dep : ∀ ed ∈ oCP_15.after, Region.binds .any ed = true → ∀ t', sCP[ed.on]? = some t' → ∃ v, a.tmps[t']? = some v ∧ specAt (spCP P A H bt kc n0 L) ed.on v x) : Yld Tryz.prog R oCP_15 a x 18 (specAt (spCP P A H bt kc n0 L) 15) := by
  obtain ⟨v14, t14, f14⟩ := dep ⟨14, .data⟩ (by simp [oCP_15]) rfl 17 rfl
  have f14 : v14 = (.pointer (some ⟨P, 0, none⟩)) := f14
  subst f14
  exact yld_run (x' := x) rfl (run_nckC (tmp_eval t14)) (Q.refl x) rfl
theorem yCP_16 {a0 : Act} {w : World} {P A H bt kc n0 : Nat} {L : List Nat} (E : EnvCP a0 w P A H bt kc n0 L) {R : Exit → Act → World → Prop} {a : Act} {x : World} (q : Q w x) (oth : ∀ j, j ∉ sCP → a.tmps[j]? = a0.tmps[j]?) (dep : ∀ ed ∈ oCP_16.after, Region.binds .any ed = true → ∀ t', sCP[ed.on]? = some t' → ∃ v, a.tmps[t']? = some v ∧ specAt (spCP P A H bt kc n0 L) ed.on v x) : Yld Tryz.prog R oCP_16 a x 19 (specAt (spCP P A H bt kc n0 L) 16) := by
  obtain ⟨v15, t15, f15⟩ := dep ⟨15, .data⟩ (by simp [oCP_16]) rfl 18 rfl
  have f15 : v15 = (.pointer (some ⟨P, 0, none⟩)) := f15
  subst f15
  exact yld_run (x' := x) rfl (run_faC3 (tmp_eval t15)) (Q.refl x) rfl
theorem yCP_17 {a0 : Act} {w : World} {P A H bt kc n0 : Nat} {L : List Nat} (E : EnvCP a0 w P A H bt kc n0 L) {R : Exit → Act → World → Prop} {a : Act} {x : World} (q : Q w x) (oth : ∀ j, j ∉ sCP → a.tmps[j]? = a0.tmps[j]?) (dep : ∀ ed ∈ oCP_17.after, Region.binds .any ed = true → ∀ t', sCP[ed.on]? = some t' → ∃ v, a.tmps[t']? = some v ∧ specAt (spCP P A H bt kc n0 L) ed.on v x) : Yld Tryz.prog R oCP_17 a x 20 (specAt (spCP P A H bt kc n0 L) 17) := by
  obtain ⟨v16, t16, f16⟩ := dep ⟨16, .data⟩ (by simp [oCP_17]) rfl 19 rfl
  have f16 : v16 = (.pointer (some ⟨P, 5, none⟩)) := f16
  subst f16
  exact yld_run (x' := x) rfl (run_ldC3 (tmp_eval t16) (E.st.next q).p5) (Q.refl x) rfl
theorem yCP_18 {a0 : Act} {w : World} {P A H bt kc n0 : Nat} {L : List Nat} (E : EnvCP a0 w P A H bt kc n0 L) {R : Exit → Act → World → Prop} {a : Act} {x : World} (q : Q w x) (oth : ∀ j, j ∉ sCP → a.tmps[j]? = a0.tmps[j]?) (dep : ∀ ed ∈ oCP_18.after, Region.binds .any ed = true → ∀ t', sCP[ed.on]? = some t' → ∃ v, a.tmps[t']? = some v ∧ specAt (spCP P A H bt kc n0 L) ed.on v x) : Yld Tryz.prog R oCP_18 a x 21 (specAt (spCP P A H bt kc n0 L) 18) := by
  obtain ⟨v4, t4, f4⟩ := dep ⟨4, .data⟩ (by simp [oCP_18]) rfl 7 rfl
  have f4 : (spCA L n0).p v4 x := f4
  obtain ⟨v9, t9, f9⟩ := dep ⟨9, .data⟩ (by simp [oCP_18]) rfl 12 rfl
  have f9 : (spCT bt L n0).p v9 x := f9
  obtain ⟨v13, t13, f13⟩ := dep ⟨13, .data⟩ (by simp [oCP_18]) rfl 16 rfl
  have f13 : v13 = (spnV (lowK L) (topK L)) := f13
  subst f13
  obtain ⟨v17, t17, f17⟩ := dep ⟨17, .data⟩ (by simp [oCP_18]) rfl 20 rfl
  have f17 : v17 = (.int .i64 (nanC L : Nat)) := f17
  subst f17
  obtain ⟨A', rfl, hA, hl⟩ := f4
  obtain ⟨G, k, rfl, hk, hv, hG⟩ := f9
  exact yld_run (x' := x) rfl (run_bdC (tmp_eval t4) (tmp_eval t9) (tmp_eval t13) (tmp_eval t17)) (Q.refl x) ⟨A', G, k, rfl, hA, hl, hk, hv, hG⟩
theorem yCP_19 {a0 : Act} {w : World} {P A H bt kc n0 : Nat} {L : List Nat} (E : EnvCP a0 w P A H bt kc n0 L) {R : Exit → Act → World → Prop} {a : Act} {x : World} (q : Q w x) (oth : ∀ j, j ∉ sCP → a.tmps[j]? = a0.tmps[j]?) (dep : ∀ ed ∈ oCP_19.after, Region.binds .any ed = true → ∀ t', sCP[ed.on]? = some t' → ∃ v, a.tmps[t']? = some v ∧ specAt (spCP P A H bt kc n0 L) ed.on v x) : Yld Tryz.prog R oCP_19 a x 22 (specAt (spCP P A H bt kc n0 L) 19) := by
  obtain ⟨v18, t18, f18⟩ := dep ⟨18, .data⟩ (by simp [oCP_19]) rfl 21 rfl
  have f18 : (spCB bt L n0).p v18 x := f18
  obtain ⟨A', G, k, rfl, hA, hl, hk, hv, hG⟩ := f18
  exact yld_run (x' := _) rfl (run_bxC (tmp_eval t18)) ((Q.refl x).cells _ _) ⟨_, A', G, k, rfl, statC E.st.b1 E.st.b2 hA hv hk, by have := q.1.size; have := E.n0; omega, hl, hG⟩
theorem yCP_20 {a0 : Act} {w : World} {P A H bt kc n0 : Nat} {L : List Nat} (E : EnvCP a0 w P A H bt kc n0 L) {R : Exit → Act → World → Prop} {a : Act} {x : World} (q : Q w x) (oth : ∀ j, j ∉ sCP → a.tmps[j]? = a0.tmps[j]?) (dep : ∀ ed ∈ oCP_20.after, Region.binds .any ed = true → ∀ t', sCP[ed.on]? = some t' → ∃ v, a.tmps[t']? = some v ∧ specAt (spCP P A H bt kc n0 L) ed.on v x) : Yld Tryz.prog R oCP_20 a x 2 (specAt (spCP P A H bt kc n0 L) 20) := by
  obtain ⟨v19, t19, f19⟩ := dep ⟨19, .data⟩ (by simp [oCP_20]) rfl 22 rfl
  have f19 : (spCS bt L n0).p v19 x := f19
  exact yld_run (x' := x) rfl (by rw [← tmp_eval t19]; rfl) (Q.refl x) f19
theorem hopCP {a0 : Act} {w : World} {P A H bt kc n0 : Nat} {L : List Nat} (E : EnvCP a0 w P A H bt kc n0 L) {R : Exit → Act → World → Prop} : ∀ (i t : Nat) (o : Oper) (a : Act) (x : World), skCP i = false → sCP[i]? = some t → opsCP[i]? = some o → Q w x → (∀ j, j ∉ sCP → a.tmps[j]? = a0.tmps[j]?) → (∀ ed ∈ o.after, Region.binds .any ed = true → ∀ t', sCP[ed.on]? = some t' → ∃ v, a.tmps[t']? = some v ∧ specAt (spCP P A H bt kc n0 L) ed.on v x) → Yld Tryz.prog R o a x t (specAt (spCP P A H bt kc n0 L) i)
  | 0, t, o, a, x, hi, ht, ho, q, oth, dep => by
    have e1 : oCP_0 = o := Option.some.inj ho
    have e2 : 3 = t := Option.some.inj ht
    subst e1 e2
    exact yCP_0 E q oth dep
  | 1, t, o, a, x, hi, ht, ho, q, oth, dep => by
    have e1 : oCP_1 = o := Option.some.inj ho
    have e2 : 4 = t := Option.some.inj ht
    subst e1 e2
    exact yCP_1 E q oth dep
  | 2, t, o, a, x, hi, ht, ho, q, oth, dep => by
    have e1 : oCP_2 = o := Option.some.inj ho
    have e2 : 5 = t := Option.some.inj ht
    subst e1 e2
    exact yCP_2 E q oth dep
  | 3, t, o, a, x, hi, ht, ho, q, oth, dep => by
    have e1 : oCP_3 = o := Option.some.inj ho
    have e2 : 6 = t := Option.some.inj ht
    subst e1 e2
    exact yCP_3 E q oth dep
  | 4, t, o, a, x, hi, ht, ho, q, oth, dep => by
    have e1 : oCP_4 = o := Option.some.inj ho
    have e2 : 7 = t := Option.some.inj ht
    subst e1 e2
    exact yCP_4 E q oth dep
  | 5, t, o, a, x, hi, ht, ho, q, oth, dep => by
    have e1 : oCP_5 = o := Option.some.inj ho
    have e2 : 8 = t := Option.some.inj ht
    subst e1 e2
    exact yCP_5 E q oth dep
  | 6, t, o, a, x, hi, ht, ho, q, oth, dep => by
    have e1 : oCP_6 = o := Option.some.inj ho
    have e2 : 9 = t := Option.some.inj ht
    subst e1 e2
    exact yCP_6 E q oth dep
  | 7, t, o, a, x, hi, ht, ho, q, oth, dep => by
    have e1 : oCP_7 = o := Option.some.inj ho
    have e2 : 10 = t := Option.some.inj ht
    subst e1 e2
    exact yCP_7 E q oth dep
  | 8, t, o, a, x, hi, ht, ho, q, oth, dep => by
    have e1 : oCP_8 = o := Option.some.inj ho
    have e2 : 11 = t := Option.some.inj ht
    subst e1 e2
    exact yCP_8 E q oth dep
  | 9, t, o, a, x, hi, ht, ho, q, oth, dep => by
    have e1 : oCP_9 = o := Option.some.inj ho
    have e2 : 12 = t := Option.some.inj ht
    subst e1 e2
    exact yCP_9 E q oth dep
  | 10, t, o, a, x, hi, ht, ho, q, oth, dep => by
    have e1 : oCP_10 = o := Option.some.inj ho
    have e2 : 13 = t := Option.some.inj ht
    subst e1 e2
    exact yCP_10 E q oth dep
  | 11, t, o, a, x, hi, ht, ho, q, oth, dep => by
    have e1 : oCP_11 = o := Option.some.inj ho
    have e2 : 14 = t := Option.some.inj ht
    subst e1 e2
    exact yCP_11 E q oth dep
  | 12, t, o, a, x, hi, ht, ho, q, oth, dep => by
    have e1 : oCP_12 = o := Option.some.inj ho
    have e2 : 15 = t := Option.some.inj ht
    subst e1 e2
    exact yCP_12 E q oth dep
  | 13, t, o, a, x, hi, ht, ho, q, oth, dep => by
    have e1 : oCP_13 = o := Option.some.inj ho
    have e2 : 16 = t := Option.some.inj ht
    subst e1 e2
    exact yCP_13 E q oth dep
  | 14, t, o, a, x, hi, ht, ho, q, oth, dep => by
    have e1 : oCP_14 = o := Option.some.inj ho
    have e2 : 17 = t := Option.some.inj ht
    subst e1 e2
    exact yCP_14 E q oth dep
  | 15, t, o, a, x, hi, ht, ho, q, oth, dep => by
    have e1 : oCP_15 = o := Option.some.inj ho
    have e2 : 18 = t := Option.some.inj ht
    subst e1 e2
    exact yCP_15 E q oth dep
  | 16, t, o, a, x, hi, ht, ho, q, oth, dep => by
    have e1 : oCP_16 = o := Option.some.inj ho
    have e2 : 19 = t := Option.some.inj ht
    subst e1 e2
    exact yCP_16 E q oth dep
  | 17, t, o, a, x, hi, ht, ho, q, oth, dep => by
    have e1 : oCP_17 = o := Option.some.inj ho
    have e2 : 20 = t := Option.some.inj ht
    subst e1 e2
    exact yCP_17 E q oth dep
  | 18, t, o, a, x, hi, ht, ho, q, oth, dep => by
    have e1 : oCP_18 = o := Option.some.inj ho
    have e2 : 21 = t := Option.some.inj ht
    subst e1 e2
    exact yCP_18 E q oth dep
  | 19, t, o, a, x, hi, ht, ho, q, oth, dep => by
    have e1 : oCP_19 = o := Option.some.inj ho
    have e2 : 22 = t := Option.some.inj ht
    subst e1 e2
    exact yCP_19 E q oth dep
  | 20, t, o, a, x, hi, ht, ho, q, oth, dep => by
    have e1 : oCP_20 = o := Option.some.inj ho
    have e2 : 2 = t := Option.some.inj ht
    subst e1 e2
    exact yCP_20 E q oth dep
  | i + 21, t, o, a, x, hi, ht, ho, q, oth, dep => by cases ho
theorem keyCP : ∀ i, i < 21 → ((opsCP[i]?).bind (fun o : Oper => o.guard) = none ∧ skCP i = false) := by decide +kernel
theorem hguCP {P A H bt kc n0 : Nat} {L : List Nat} : ∀ (i : Nat) (o : Oper) (g : Nat) (b : Bool), opsCP[i]? = some o → o.guard = some (g, b) → ∀ v x, specAt (spCP P A H bt kc n0 L) g v x → (v = .bool b ↔ skCP i = false) := by
  intro i o g b ho hg v x hf
  have h := keyCP i (List.getElem?_eq_some_iff.1 ho).1
  rw [ho] at h
  simp only [Option.bind_some] at h
  rw [hg] at h
  rcases h with ⟨h, _⟩
  · cases h
theorem hgnCP : ∀ (i : Nat) (o : Oper), opsCP[i]? = some o → o.guard = none → skCP i = false := by
  intro i o ho hg
  have h := keyCP i (List.getElem?_eq_some_iff.1 ho).1
  rw [ho] at h
  simp only [Option.bind_some] at h
  rw [hg] at h
  rcases h with ⟨_, h⟩
  · exact h
theorem hskCP {P A H bt kc n0 : Nat} {L : List Nat} : ∀ (i : Nat) (x : World), skCP i = true → specAt (spCP P A H bt kc n0 L) i undef x := by
  intro i x h
  cases h
theorem regionCP {id : Nat} {l : List Oper} {R : Exit → Act → World → Prop} {a0 : Act} {w : World} {P A H bt kc n0 : Nat} {L : List Nat} (hl : l = opsCP) (hsz : a0.tmps.size = 23) (E : EnvCP a0 w P A H bt kc n0 L)
    (hR : ∀ (a : Act) x P' A' G k, Q w x → a.defers = a0.defers → a.tmps[2]? = some (.pointer (some ⟨P', 0, none⟩)) → StAt x P' A' G bt k L → n0 ≤ P' ∧ n0 ≤ A' ∧ n0 ≤ G → R .normal a x) :
    (Code.region id l.toArray true).wp Tryz.prog R a0 w := by
  subst hl
  refine wp_region_factsS sCP (specAt (spCP P A H bt kc n0 L)) skCP (by kernel_rfl) (by decide +kernel) (by decide) (fun t ht => ?_) specAt.next hguCP hgnCP hskCP (hopCP E) (fun a x q size defers other facts => ?_)
  · rw [hsz]
    revert t
    decide
  · obtain ⟨v9, t9, f9⟩ := facts 20 2 rfl
    obtain ⟨P', A', G, k, rfl, h1, h2⟩ : ∃ P A G k, v9 = .pointer (some ⟨P, 0, none⟩) ∧ StAt x P A G bt k L ∧ n0 ≤ P ∧ n0 ≤ A ∧ n0 ≤ G := f9
    exact ⟨hR a x P' A' G k q defers t9 h1 h2⟩
set_option maxHeartbeats 1000000 in
theorem scopy_any (P A H b kc : Nat) (L : List Nat) (w : World) (h : StAt w P A H b kc L) :
    Calls Tryz.prog 14 #[.pointer (some ⟨P, 0, none⟩)] w fun e w' => ∃ P' A' H' k, e = .returned (.pointer (some ⟨P', 0, none⟩)) ∧ StAt w' P' A' H' b k L ∧ (w.heap.size ≤ P' ∧ w.heap.size ≤ A' ∧ w.heap.size ≤ H') ∧ Q w w' := by
  go_enter Tryz.func14, Tryz.ntmps14
  go_wp2_with fail
  refine regionCP (P := P) (A := A) (H := H) (bt := b) (kc := kc) (n0 := w.heap.size) (L := L) rfl (by simp) ⟨rfl, h, rfl⟩ ?_
  intro a x P' A' G k q hd t2 hs hl
  go_wp2_with fail
  obtain ⟨tm, dd⟩ := a
  have df : dd = [] := hd
  subst df
  have t2' : tm[2]? = some (.pointer (some ⟨P', 0, none⟩)) := t2
  refine bodyPost_ret (v := .pointer (some ⟨P', 0, none⟩)) (by simp [results, Tryz.results14, go_sem, t2']) rfl ⟨P', rfl, A', G, ⟨k, hs⟩, hl, q⟩
end Go.Proofs.YtieojgblamkgoaaGreatDoor
/- halidehelp.Within; stat.Add's errors. -/
namespace Go.Proofs.YtieojgblamkgoaaGreatDoor
open Go.RowKit
set_option linter.unusedVariables false
set_option linter.unusedSimpArgs false

set_option maxHeartbeats 2000000 in
set_option maxRecDepth 100000 in
theorem hwithin_any (x0 y0 x1 y1 a b : Int) (w : World) : Calls Tryz.prog 42 #[.int .i64 a, .int .i64 b, .agg #[.int .i64 x0, .int .i64 y0, .int .i64 x1, .int .i64 y1]] w fun e w' => e = .returned (.bool (wiB x0 y0 x1 y1 a b)) ∧ Q w w' := by
  have Q0 : Hid (∀ c t, Q w (w.alloc (.cells c t))) := fun c t => (Q.refl w).cells c t
  unfold wiB
  by_cases h1 : 0 ≤ x0
  · by_cases h2 : x0 < x1
    · by_cases h3 : x1 ≤ a
      · by_cases h4 : 0 ≤ y0
        · by_cases h5 : y0 < y1
          · have e : (decide (0 ≤ x0) && (decide (x0 < x1) && (decide (x1 ≤ a) && (decide (0 ≤ y0) && (decide (y0 < y1) && decide (y1 ≤ b)))))) = decide (y1 ≤ b) := by simp [h1, h2, h3, h4, h5]
            rw [e]
            clear e
            by_cases h6 : y1 ≤ b
            · rw [decide_eq_true h6]
              go_enter Tryz.func42, Tryz.ntmps42
              go_wp2_with fail
              go_ret
              exact ⟨rfl, Q0.out _ _⟩
            · rw [decide_eq_false h6]
              have h7 : decide (y1 ≤ b) = false := decide_eq_false h6
              go_enter Tryz.func42, Tryz.ntmps42
              go_wp2_with fail
              go_ret
              exact ⟨rfl, Q0.out _ _⟩
          · have e : (decide (0 ≤ x0) && (decide (x0 < x1) && (decide (x1 ≤ a) && (decide (0 ≤ y0) && (decide (y0 < y1) && decide (y1 ≤ b)))))) = false := by simp [h5]
            rw [e]
            clear e
            have h7 : decide (y0 < y1) = false := decide_eq_false h5
            go_enter Tryz.func42, Tryz.ntmps42
            go_wp2_with fail
            go_ret
            exact ⟨rfl, Q0.out _ _⟩
        · have e : (decide (0 ≤ x0) && (decide (x0 < x1) && (decide (x1 ≤ a) && (decide (0 ≤ y0) && (decide (y0 < y1) && decide (y1 ≤ b)))))) = false := by simp [h4]
          rw [e]
          clear e
          have h7 : decide (0 ≤ y0) = false := decide_eq_false h4
          go_enter Tryz.func42, Tryz.ntmps42
          go_wp2_with fail
          go_ret
          exact ⟨rfl, Q0.out _ _⟩
      · have e : (decide (0 ≤ x0) && (decide (x0 < x1) && (decide (x1 ≤ a) && (decide (0 ≤ y0) && (decide (y0 < y1) && decide (y1 ≤ b)))))) = false := by simp [h3]
        rw [e]
        clear e
        have h7 : decide (x1 ≤ a) = false := decide_eq_false h3
        go_enter Tryz.func42, Tryz.ntmps42
        go_wp2_with fail
        go_ret
        exact ⟨rfl, Q0.out _ _⟩
    · have e : (decide (0 ≤ x0) && (decide (x0 < x1) && (decide (x1 ≤ a) && (decide (0 ≤ y0) && (decide (y0 < y1) && decide (y1 ≤ b)))))) = false := by simp [h2]
      rw [e]
      clear e
      have h7 : decide (x0 < x1) = false := decide_eq_false h2
      go_enter Tryz.func42, Tryz.ntmps42
      go_wp2_with fail
      go_ret
      exact ⟨rfl, Q0.out _ _⟩
  · have e : (decide (0 ≤ x0) && (decide (x0 < x1) && (decide (x1 ≤ a) && (decide (0 ≤ y0) && (decide (y0 < y1) && decide (y1 ≤ b)))))) = false := by simp [h1]
    rw [e]
    clear e
    have h7 : decide (0 ≤ x0) = false := decide_eq_false h1
    go_enter Tryz.func42, Tryz.ntmps42
    go_wp2_with fail
    go_ret
    exact ⟨rfl, Q0.out _ _⟩

set_option maxHeartbeats 2000000 in
set_option maxRecDepth 100000 in
theorem sadd_err (P : Nat) (W HH : Int) (a : Option Addr) (n c : Nat) (x0 y0 x1 y1 r : Int) (h0 : r ≠ 0) (w : World)
    (K : ∀ x, Calls Tryz.prog 66 #[.agg #[.int .i64 W, .int .i64 HH, .slice a n c], .agg #[.int .i64 x0, .int .i64 y0, .int .i64 x1, .int .i64 y1]] x (Fails x r)) :
    Calls Tryz.prog 35 #[.pointer (some ⟨P, 0, none⟩), .agg #[.int .i64 W, .int .i64 HH, .slice a n c], .agg #[.int .i64 x0, .int .i64 y0, .int .i64 x1, .int .i64 y1]] w fun e w' => e = .returned (.int .i64 r) ∧ Q w w' := by
  have hb : (r != 0) = true := by rw [bne_iff_ne]; exact h0
  obtain ⟨w1, hw1⟩ : ∃ w1, (w.alloc (.cells #[.int .i64 W, .int .i64 HH, .slice a n c] 26)).alloc (.cells #[.int .i64 x0, .int .i64 y0, .int .i64 x1, .int .i64 y1] 28) = w1 := ⟨_, rfl⟩
  have HQ1 : Hid (Q w w1) := by rw [← hw1]; exact ((Q.refl w).cells _ _).cells _ _
  have z00 : w1.cell? ⟨w.heap.size, 0, none⟩ = some (.int .i64 W) := by rw [← hw1]; simp [go_sem]
  have z01 : w1.cell? ⟨w.heap.size, 1, none⟩ = some (.int .i64 HH) := by rw [← hw1]; simp [go_sem]
  have z02 : w1.cell? ⟨w.heap.size, 2, none⟩ = some (.slice a n c) := by rw [← hw1]; simp [go_sem]
  have z10 : w1.cell? ⟨w.heap.size + 1, 0, none⟩ = some (.int .i64 x0) := by rw [← hw1]; simp [go_sem]
  have z11 : w1.cell? ⟨w.heap.size + 1, 1, none⟩ = some (.int .i64 y0) := by rw [← hw1]; simp [go_sem]
  have z12 : w1.cell? ⟨w.heap.size + 1, 2, none⟩ = some (.int .i64 x1) := by rw [← hw1]; simp [go_sem]
  have z13 : w1.cell? ⟨w.heap.size + 1, 3, none⟩ = some (.int .i64 y1) := by rw [← hw1]; simp [go_sem]
  go_enter Tryz.func35, Tryz.ntmps35
  go_wp2_with fail
  refine (K _).mono ?_
  rintro e w2 ⟨rfl, q2⟩
  unfold noPl
  clear hw1 z00 z01 z02 z10 z11 z12 z13 K
  have HQ2 : Hid (∀ c t, Q w (w2.alloc (.cells c t))) := fun c t => (HQ1.out.trans q2).cells c t
  clear q2
  go_wp2_with fail
  go_ret
  exact ⟨rfl, HQ2.out _ _⟩
end Go.Proofs.YtieojgblamkgoaaGreatDoor
/- halidehelp.Spoil: no block but the list's turns. -/
namespace Go.Proofs.YtieojgblamkgoaaGreatDoor
open Go.RowKit
set_option linter.unusedVariables false
set_option linter.unusedSimpArgs false

/-- A list of samples, whatever they are, that may be written. -/
structure SpW (x : World) (g n : Nat) : Prop where
  cell : ∀ i, i < n → ∃ z : Int, x.cell? ⟨g, i, none⟩ = some (.int .u32 z)
  free : ∀ j, x.frozen? ⟨g, j, none⟩ = false
theorem SpW.set {x : World} {g n i : Nat} (h : SpW x g n) (z : Int) : SpW (x.setCell ⟨g, i, none⟩ (.int .u32 z)) g n := by
  refine ⟨fun j hj => ?_, fun j => by rw [World.frozen?_setCell]; exact h.free j⟩
  obtain ⟨y, hy⟩ := h.cell j hj
  by_cases e : j = i
  · subst e; exact ⟨z, World.cell?_setCell_same _ _ _ hy⟩
  · exact ⟨y, (World.cell?_setCell_other _ _ _ _ (fun k => e (by injection k with _ k; exact k.symm))).trans hy⟩
theorem SpW.next {x x' : World} {g n : Nat} (h : SpW x g n) (q : Q x x') : SpW x' g n :=
  ⟨fun i hi => by obtain ⟨z, hz⟩ := h.cell i hi; exact ⟨z, q.cell hz⟩, fun j => by rw [q.2]; exact h.free j⟩
set_option maxHeartbeats 4000000 in
set_option maxRecDepth 100000 in
theorem spoil_fb (w : World) (a b : Int) (g n c : Nat) (h : SpW w g n) (hn1 : 1 ≤ n) (hn : n ≤ 9223372036854775807) (hc : n ≤ c) :
    Calls Tryz.prog 25 #[.agg #[.int .i64 a, .int .i64 b, .slice (some ⟨g, 0, none⟩) n c]] w fun e w' => e = .returned (.tuple #[]) ∧ Fb g w w' := by
  obtain ⟨w1, hw1⟩ : ∃ w1, w.alloc (.cells #[.int .i64 a, .int .i64 b, .slice (some ⟨g, 0, none⟩) n c] 26) = w1 := ⟨_, rfl⟩
  have q1 : Q w w1 := by rw [← hw1]; exact (Q.refl w).cells _ _
  have p2 : w1.cell? ⟨w.heap.size, 2, none⟩ = some (.slice (some ⟨g, 0, none⟩) n c) := by rw [← hw1]; simp [go_sem]
  obtain ⟨B, hB⟩ : ∃ B, w.heap.size = B := ⟨_, rfl⟩
  rw [hB] at p2
  have hgB : g ≠ B := by
    obtain ⟨z, hz⟩ := h.cell 0 (by omega)
    have := World.block_lt_of_cell? _ _ hz
    simp only at this
    omega
  have HX : Hid (Fb g w w1 ∧ SpW w1 g n ∧ w1.cell? ⟨B, 2, none⟩ = some (.slice (some ⟨g, 0, none⟩) n c)) := ⟨q1.fb g, h.next q1, p2⟩
  clear q1 h
  go_enter Tryz.func25, Tryz.ntmps25
  go_wp2_with fail
  clear hw1 hB
  go_loopg [2] n (fun m s2 wr => ∃ i : Nat, s2 = .int .i64 (i : Int) ∧ i + m = n ∧ Hid (Fb g w wr ∧ SpW wr g n ∧ wr.cell? ⟨B, 2, none⟩ = some (.slice (some ⟨g, 0, none⟩) n c)))
  case atStart => exact ⟨0, rfl, by omega, HX⟩
  case round =>
    clear HX p2
    obtain ⟨i, rfl, hi, HX⟩ := hrel
    have p2 := HX.out.2.2
    by_cases hlt : i < n
    · have hlt' : (i : Int) < (n : Int) := by omega
      obtain ⟨z, hz⟩ := HX.out.2.1.cell i hlt
      have fr := HX.out.2.1.free i
      go_wp2_with fail
      have n0 := qw_some wr
      have f0 := qw_cell p2
      have f1 := qw_cell hz
      refine wp_region_lastn 10 rfl _ rfl (by kernel_rfl) (by kernel_rfl) (by kernel_rfl) ?_
      simp only [List.take_succ_cons, List.take_zero]
      repeat (first | go_big_quiet_step (fail) | quiet_step (fail))
      refine wpQuiet_nil ?_
      intro nn K hK
      have cz := nn.q.cell hz
      have fz : nn.x.frozen? ⟨g, i, none⟩ = false := by rw [nn.q.2]; exact fr
      have HY : Hid (Fb g w (nn.x.setCell ⟨g, i, none⟩ (.int .u32 (bits BinOp.xor IntKind.u32 z 1515870810))) ∧ SpW (nn.x.setCell ⟨g, i, none⟩ (.int .u32 (bits BinOp.xor IntKind.u32 z 1515870810))) g n ∧ (nn.x.setCell ⟨g, i, none⟩ (.int .u32 (bits BinOp.xor IntKind.u32 z 1515870810))).cell? ⟨B, 2, none⟩ = some (.slice (some ⟨g, 0, none⟩) n c)) :=
        ⟨(HX.out.1.trans (nn.q.fb g)).set rfl _, (HX.out.2.1.next nn.q).set _, (World.cell?_setCell_other _ _ _ _ (fun e => by injection e with e1 e2; omega)).trans (nn.q.cell p2)⟩
      clear n0 f0 f1
      generalize bits BinOp.xor IntKind.u32 z 1515870810 = y at HY ⊢
      go_wp2_with fail
      generalize nn.x.setCell ⟨g, i, none⟩ (.int .u32 y) = w8 at HY ⊢
      go_roundg (n - (i + 1))
      case measure => go_light; omega
      case rel => go_light; exact ⟨i + 1, by go_num, by omega, HY⟩
    · obtain rfl : i = n := by omega
      have hge : ¬ (i : Int) < (i : Int) := by omega
      go_wp2_with fail
      go_end0
      exact ⟨rfl, HX.out.1⟩
end Go.Proofs.YtieojgblamkgoaaGreatDoor

/- The end of BlurNothing: two planes are those moved round. -/
import Derived.Test.YtpobgkcobgecoabGdf7f0042
namespace Go.Proofs.Ytpobgkcobgecoab
open Go.RowKit
set_option linter.unusedVariables false
set_option linter.unusedSimpArgs false

def MvS (pa pb n dx dy : Nat) (A : List Nat) : Spec := ⟨fun v x => ∃ b cap, v = .agg #[.int .i64 (pa : Int), .int .i64 (pb : Int), .slice (some ⟨b, 0, none⟩) n cap] ∧ n ≤ cap ∧ UIs x b 0 (tabB n (mvF pa pb dx dy A)), fun ⟨b, cap, h1, h2, h3⟩ q => ⟨b, cap, h1, h2, h3.next q⟩⟩
def oBn9_0 : Oper := { dst := some 110, op := .move (.tmp 17), type := 28, pos := "whatfor.go:139", after := #[], guard := none }
def oBn9_1 : Oper := { dst := some 111, op := .call { callee := .value (.func 10), args := #[.tmp 110], argTypes := #[28] }, type := 3, pos := "whatfor.go:139", after := #[⟨0, .data⟩], guard := none }
def oBn9_2 : Oper := { dst := some 112, op := .move (.tmp 20), type := 28, pos := "whatfor.go:139", after := #[], guard := none }
def oBn9_3 : Oper := { dst := some 113, op := .call { callee := .value (.func 10), args := #[.tmp 112], argTypes := #[28] }, type := 3, pos := "whatfor.go:139", after := #[⟨2, .data⟩, ⟨1, .chain⟩], guard := none }
def oBn9_4 : Oper := { dst := some 114, op := .binOp .add 3 (.tmp 111) (.tmp 113) 3, type := 3, pos := "whatfor.go:139", after := #[⟨1, .data⟩, ⟨3, .data⟩], guard := none }
def oBn9_5 : Oper := { dst := some 115, op := .binOp .eql 3 (.tmp 114) (.const (.int .i64 0)) 3, type := 4, pos := "whatfor.go:139", after := #[⟨4, .data⟩], guard := none }
def oBn9_6 : Oper := { dst := some 116, op := .move (.tmp 115), type := 4, pos := "whatfor.go:139", after := #[⟨5, .data⟩, ⟨3, .chain⟩], guard := none }
def oBn9_7 : Oper := { dst := some 117, op := .load 24 (.tmp 18), type := 24, pos := "whatfor.go:139", after := #[⟨6, .guard⟩], guard := some (6, true) }
def oBn9_8 : Oper := { dst := some 118, op := .load 24 (.tmp 15), type := 24, pos := "whatfor.go:139", after := #[⟨6, .guard⟩], guard := some (6, true) }
def oBn9_9 : Oper := { dst := some 119, op := .move (.tmp 3), type := 3, pos := "whatfor.go:139", after := #[⟨6, .guard⟩], guard := some (6, true) }
def oBn9_10 : Oper := { dst := some 120, op := .move (.tmp 4), type := 3, pos := "whatfor.go:139", after := #[⟨6, .guard⟩], guard := some (6, true) }
def oBn9_11 : Oper := { dst := some 121, op := .call { callee := .value (.func 12), args := #[.tmp 118, .tmp 119, .tmp 120], argTypes := #[24, 3, 3] }, type := 24, pos := "whatfor.go:139", after := #[⟨8, .data⟩, ⟨9, .data⟩, ⟨10, .data⟩, ⟨6, .chain⟩, ⟨6, .guard⟩], guard := some (6, true) }
def oBn9_12 : Oper := { dst := some 122, op := .call { callee := .value (.func 13), args := #[.tmp 117, .tmp 121], argTypes := #[24, 24] }, type := 4, pos := "whatfor.go:139", after := #[⟨7, .data⟩, ⟨11, .data⟩, ⟨11, .chain⟩, ⟨6, .guard⟩], guard := some (6, true) }
def oBn9_13 : Oper := { dst := some 123, op := .pick (.tmp 116) (.tmp 122) (.const (.bool false)), type := 4, pos := "whatfor.go:139", after := #[⟨6, .data⟩, ⟨12, .data⟩], guard := none }
def oBn9_14 : Oper := { dst := some 124, op := .move (.tmp 123), type := 4, pos := "whatfor.go:139", after := #[⟨13, .data⟩, ⟨12, .chain⟩], guard := none }
def oBn9_15 : Oper := { dst := some 125, op := .load 24 (.tmp 19), type := 24, pos := "whatfor.go:139", after := #[⟨14, .guard⟩], guard := some (14, true) }
def oBn9_16 : Oper := { dst := some 126, op := .load 24 (.tmp 16), type := 24, pos := "whatfor.go:139", after := #[⟨14, .guard⟩], guard := some (14, true) }
def oBn9_17 : Oper := { dst := some 127, op := .move (.tmp 3), type := 3, pos := "whatfor.go:139", after := #[⟨14, .guard⟩], guard := some (14, true) }
def oBn9_18 : Oper := { dst := some 128, op := .move (.tmp 4), type := 3, pos := "whatfor.go:139", after := #[⟨14, .guard⟩], guard := some (14, true) }
def oBn9_19 : Oper := { dst := some 129, op := .call { callee := .value (.func 12), args := #[.tmp 126, .tmp 127, .tmp 128], argTypes := #[24, 3, 3] }, type := 24, pos := "whatfor.go:139", after := #[⟨16, .data⟩, ⟨17, .data⟩, ⟨18, .data⟩, ⟨14, .chain⟩, ⟨14, .guard⟩], guard := some (14, true) }
def oBn9_20 : Oper := { dst := some 130, op := .call { callee := .value (.func 13), args := #[.tmp 125, .tmp 129], argTypes := #[24, 24] }, type := 4, pos := "whatfor.go:139", after := #[⟨15, .data⟩, ⟨19, .data⟩, ⟨19, .chain⟩, ⟨14, .guard⟩], guard := some (14, true) }
def oBn9_21 : Oper := { dst := some 131, op := .pick (.tmp 124) (.tmp 130) (.const (.bool false)), type := 4, pos := "whatfor.go:139", after := #[⟨14, .data⟩, ⟨20, .data⟩], guard := none }
def oBn9_22 : Oper := { dst := some 10, op := .assign (.tmp 131), type := 4, pos := "whatfor.go:139", after := #[⟨21, .data⟩, ⟨20, .chain⟩, ⟨0, .phase⟩, ⟨1, .phase⟩, ⟨2, .phase⟩, ⟨3, .phase⟩, ⟨4, .phase⟩, ⟨5, .phase⟩, ⟨6, .phase⟩, ⟨7, .phase⟩, ⟨8, .phase⟩, ⟨9, .phase⟩, ⟨10, .phase⟩, ⟨11, .phase⟩, ⟨12, .phase⟩, ⟨13, .phase⟩, ⟨14, .phase⟩, ⟨15, .phase⟩, ⟨16, .phase⟩, ⟨17, .phase⟩, ⟨18, .phase⟩, ⟨19, .phase⟩, ⟨20, .phase⟩, ⟨21, .phase⟩], guard := none }
def opsBn9 : List Oper := [oBn9_0, oBn9_1, oBn9_2, oBn9_3, oBn9_4, oBn9_5, oBn9_6, oBn9_7, oBn9_8, oBn9_9, oBn9_10, oBn9_11, oBn9_12, oBn9_13, oBn9_14, oBn9_15, oBn9_16, oBn9_17, oBn9_18, oBn9_19, oBn9_20, oBn9_21, oBn9_22]
def sBn9 : List Nat := [110, 111, 112, 113, 114, 115, 116, 117, 118, 119, 120, 121, 122, 123, 124, 125, 126, 127, 128, 129, 130, 131, 10]
def spBn9 (V15 V16 V18 V19 gx gy hx hy pa pb n dx dy : Nat) (A B : List Nat) : List Spec := [spV (.int .i64 0), spV (.int .i64 0), spV (.int .i64 0), spV (.int .i64 0), spV (.int .i64 0), spV (.bool true), spV (.bool true), spV (.agg #[.int .i64 (pa : Int), .int .i64 (pb : Int), .slice (some ⟨hx, 0, none⟩) n n]), spV (.agg #[.int .i64 (pa : Int), .int .i64 (pb : Int), .slice (some ⟨gx, 0, none⟩) n n]), spV (.int .i64 (dx : Int)), spV (.int .i64 (dy : Int)), MvS pa pb n dx dy A, spV (.bool true), spV (.bool true), spV (.bool true), spV (.agg #[.int .i64 (pa : Int), .int .i64 (pb : Int), .slice (some ⟨hy, 0, none⟩) n n]), spV (.agg #[.int .i64 (pa : Int), .int .i64 (pb : Int), .slice (some ⟨gy, 0, none⟩) n n]), spV (.int .i64 (dx : Int)), spV (.int .i64 (dy : Int)), MvS pa pb n dx dy B, spV (.bool true), spV (.bool true), spV (.bool true)]
structure EnvBn9 (a0 : Act) (w : World) (V15 V16 V18 V19 gx gy hx hy pa pb n dx dy : Nat) (A B : List Nat) : Prop where
  h3 : a0.tmps[3]? = some (.int .i64 (dx : Int))
  h4 : a0.tmps[4]? = some (.int .i64 (dy : Int))
  h17 : a0.tmps[17]? = some (.int .i64 0)
  h20 : a0.tmps[20]? = some (.int .i64 0)
  h15 : a0.tmps[15]? = some (ptrV V15)
  h16 : a0.tmps[16]? = some (ptrV V16)
  h18 : a0.tmps[18]? = some (ptrV V18)
  h19 : a0.tmps[19]? = some (ptrV V19)
  c150 : w.cell? ⟨V15, 0, none⟩ = some (.int .i64 (pa : Int))
  c151 : w.cell? ⟨V15, 1, none⟩ = some (.int .i64 (pb : Int))
  c152 : w.cell? ⟨V15, 2, none⟩ = some (.slice (some ⟨gx, 0, none⟩) n n)
  c160 : w.cell? ⟨V16, 0, none⟩ = some (.int .i64 (pa : Int))
  c161 : w.cell? ⟨V16, 1, none⟩ = some (.int .i64 (pb : Int))
  c162 : w.cell? ⟨V16, 2, none⟩ = some (.slice (some ⟨gy, 0, none⟩) n n)
  c180 : w.cell? ⟨V18, 0, none⟩ = some (.int .i64 (pa : Int))
  c181 : w.cell? ⟨V18, 1, none⟩ = some (.int .i64 (pb : Int))
  c182 : w.cell? ⟨V18, 2, none⟩ = some (.slice (some ⟨hx, 0, none⟩) n n)
  c190 : w.cell? ⟨V19, 0, none⟩ = some (.int .i64 (pa : Int))
  c191 : w.cell? ⟨V19, 1, none⟩ = some (.int .i64 (pb : Int))
  c192 : w.cell? ⟨V19, 2, none⟩ = some (.slice (some ⟨hy, 0, none⟩) n n)
  ua : UIs w gx 0 A
  ub : UIs w gy 0 B
  la : A.length = n
  lb : B.length = n
  ux : UIs w hx 0 (tabB n (mvF pa pb dx dy A))
  uy : UIs w hy 0 (tabB n (mvF pa pb dx dy B))
  sz : Size pa pb
  nn : n = pa * pb
  nb : n ≤ 65536
  hdx : dx < pa
  hdy : dy < pb
def skBn9 (i : Nat) : Bool := [].contains i
theorem yBn9_0 {a0 : Act} {w : World} {V15 V16 V18 V19 gx gy hx hy pa pb n dx dy : Nat} {A B : List Nat} (E : EnvBn9 a0 w V15 V16 V18 V19 gx gy hx hy pa pb n dx dy A B) {R : Exit → Act → World → Prop} {a : Act} {x : World} (q : Q w x) (oth : ∀ j, j ∉ sBn9 → a.tmps[j]? = a0.tmps[j]?) (dep : ∀ ed ∈ oBn9_0.after, Region.binds .any ed = true → ∀ t', sBn9[ed.on]? = some t' → ∃ v, a.tmps[t']? = some v ∧ specAt (spBn9 V15 V16 V18 V19 gx gy hx hy pa pb n dx dy A B) ed.on v x) : Yld Try.prog R oBn9_0 a x 110 (specAt (spBn9 V15 V16 V18 V19 gx gy hx hy pa pb n dx dy A B) 0) := by
  exact yld_move ((oth 17 (by decide)).trans E.h17) rfl
theorem yBn9_1 {a0 : Act} {w : World} {V15 V16 V18 V19 gx gy hx hy pa pb n dx dy : Nat} {A B : List Nat} (E : EnvBn9 a0 w V15 V16 V18 V19 gx gy hx hy pa pb n dx dy A B) {R : Exit → Act → World → Prop} {a : Act} {x : World} (q : Q w x) (oth : ∀ j, j ∉ sBn9 → a.tmps[j]? = a0.tmps[j]?) (dep : ∀ ed ∈ oBn9_1.after, Region.binds .any ed = true → ∀ t', sBn9[ed.on]? = some t' → ∃ v, a.tmps[t']? = some v ∧ specAt (spBn9 V15 V16 V18 V19 gx gy hx hy pa pb n dx dy A B) ed.on v x) : Yld Try.prog R oBn9_1 a x 111 (specAt (spBn9 V15 V16 V18 V19 gx gy hx hy pa pb n dx dy A B) 1) := by
  obtain ⟨v0, t0, f0⟩ := dep ⟨0, .data⟩ (by simp [oBn9_1]) rfl 110 rfl
  have f0 : v0 = (.int .i64 0) := f0
  subst f0
  have h0 := tmp_eval t0
  refine yld_call (enters_of Try.func10 (by kernel_rfl) rfl) (vs := #[.int .i64 0]) (by simp [h0]) ((num11_any 0 x).mono ?_)
  rintro u x' ⟨rfl, hx'⟩
  exact ⟨_, rfl, by rw [hx']; exact Q.refl x, rfl⟩
theorem yBn9_2 {a0 : Act} {w : World} {V15 V16 V18 V19 gx gy hx hy pa pb n dx dy : Nat} {A B : List Nat} (E : EnvBn9 a0 w V15 V16 V18 V19 gx gy hx hy pa pb n dx dy A B) {R : Exit → Act → World → Prop} {a : Act} {x : World} (q : Q w x) (oth : ∀ j, j ∉ sBn9 → a.tmps[j]? = a0.tmps[j]?) (dep : ∀ ed ∈ oBn9_2.after, Region.binds .any ed = true → ∀ t', sBn9[ed.on]? = some t' → ∃ v, a.tmps[t']? = some v ∧ specAt (spBn9 V15 V16 V18 V19 gx gy hx hy pa pb n dx dy A B) ed.on v x) : Yld Try.prog R oBn9_2 a x 112 (specAt (spBn9 V15 V16 V18 V19 gx gy hx hy pa pb n dx dy A B) 2) := by
  exact yld_move ((oth 20 (by decide)).trans E.h20) rfl
theorem yBn9_3 {a0 : Act} {w : World} {V15 V16 V18 V19 gx gy hx hy pa pb n dx dy : Nat} {A B : List Nat} (E : EnvBn9 a0 w V15 V16 V18 V19 gx gy hx hy pa pb n dx dy A B) {R : Exit → Act → World → Prop} {a : Act} {x : World} (q : Q w x) (oth : ∀ j, j ∉ sBn9 → a.tmps[j]? = a0.tmps[j]?) (dep : ∀ ed ∈ oBn9_3.after, Region.binds .any ed = true → ∀ t', sBn9[ed.on]? = some t' → ∃ v, a.tmps[t']? = some v ∧ specAt (spBn9 V15 V16 V18 V19 gx gy hx hy pa pb n dx dy A B) ed.on v x) : Yld Try.prog R oBn9_3 a x 113 (specAt (spBn9 V15 V16 V18 V19 gx gy hx hy pa pb n dx dy A B) 3) := by
  obtain ⟨v2, t2, f2⟩ := dep ⟨2, .data⟩ (by simp [oBn9_3]) rfl 112 rfl
  have f2 : v2 = (.int .i64 0) := f2
  subst f2
  have h2 := tmp_eval t2
  refine yld_call (enters_of Try.func10 (by kernel_rfl) rfl) (vs := #[.int .i64 0]) (by simp [h2]) ((num11_any 0 x).mono ?_)
  rintro u x' ⟨rfl, hx'⟩
  exact ⟨_, rfl, by rw [hx']; exact Q.refl x, rfl⟩
theorem yBn9_4 {a0 : Act} {w : World} {V15 V16 V18 V19 gx gy hx hy pa pb n dx dy : Nat} {A B : List Nat} (E : EnvBn9 a0 w V15 V16 V18 V19 gx gy hx hy pa pb n dx dy A B) {R : Exit → Act → World → Prop} {a : Act} {x : World} (q : Q w x) (oth : ∀ j, j ∉ sBn9 → a.tmps[j]? = a0.tmps[j]?) (dep : ∀ ed ∈ oBn9_4.after, Region.binds .any ed = true → ∀ t', sBn9[ed.on]? = some t' → ∃ v, a.tmps[t']? = some v ∧ specAt (spBn9 V15 V16 V18 V19 gx gy hx hy pa pb n dx dy A B) ed.on v x) : Yld Try.prog R oBn9_4 a x 114 (specAt (spBn9 V15 V16 V18 V19 gx gy hx hy pa pb n dx dy A B) 4) := by
  obtain ⟨v1, t1, f1⟩ := dep ⟨1, .data⟩ (by simp [oBn9_4]) rfl 111 rfl
  have f1 : v1 = (.int .i64 0) := f1
  subst f1
  obtain ⟨v3, t3, f3⟩ := dep ⟨3, .data⟩ (by simp [oBn9_4]) rfl 113 rfl
  have f3 : v3 = (.int .i64 0) := f3
  subst f3
  have h1 := tmp_eval t1
  have h3 := tmp_eval t3
  have hz : IntKind.i64.wrap 0 = 0 := by decide
  exact yld_run (x' := x) rfl (by simp [oBn9_4, execOp, go_sem, t1, t3, hz]) (Q.refl x) rfl
theorem yBn9_5 {a0 : Act} {w : World} {V15 V16 V18 V19 gx gy hx hy pa pb n dx dy : Nat} {A B : List Nat} (E : EnvBn9 a0 w V15 V16 V18 V19 gx gy hx hy pa pb n dx dy A B) {R : Exit → Act → World → Prop} {a : Act} {x : World} (q : Q w x) (oth : ∀ j, j ∉ sBn9 → a.tmps[j]? = a0.tmps[j]?) (dep : ∀ ed ∈ oBn9_5.after, Region.binds .any ed = true → ∀ t', sBn9[ed.on]? = some t' → ∃ v, a.tmps[t']? = some v ∧ specAt (spBn9 V15 V16 V18 V19 gx gy hx hy pa pb n dx dy A B) ed.on v x) : Yld Try.prog R oBn9_5 a x 115 (specAt (spBn9 V15 V16 V18 V19 gx gy hx hy pa pb n dx dy A B) 5) := by
  obtain ⟨v4, t4, f4⟩ := dep ⟨4, .data⟩ (by simp [oBn9_5]) rfl 114 rfl
  have f4 : v4 = (.int .i64 0) := f4
  subst f4
  have h4 := tmp_eval t4
  exact yld_run (x' := x) rfl (by simp [oBn9_5, execOp, go_sem, t4]) (Q.refl x) rfl
theorem yBn9_6 {a0 : Act} {w : World} {V15 V16 V18 V19 gx gy hx hy pa pb n dx dy : Nat} {A B : List Nat} (E : EnvBn9 a0 w V15 V16 V18 V19 gx gy hx hy pa pb n dx dy A B) {R : Exit → Act → World → Prop} {a : Act} {x : World} (q : Q w x) (oth : ∀ j, j ∉ sBn9 → a.tmps[j]? = a0.tmps[j]?) (dep : ∀ ed ∈ oBn9_6.after, Region.binds .any ed = true → ∀ t', sBn9[ed.on]? = some t' → ∃ v, a.tmps[t']? = some v ∧ specAt (spBn9 V15 V16 V18 V19 gx gy hx hy pa pb n dx dy A B) ed.on v x) : Yld Try.prog R oBn9_6 a x 116 (specAt (spBn9 V15 V16 V18 V19 gx gy hx hy pa pb n dx dy A B) 6) := by
  obtain ⟨v5, t5, f5⟩ := dep ⟨5, .data⟩ (by simp [oBn9_6]) rfl 115 rfl
  have f5 : v5 = (.bool true) := f5
  subst f5
  exact yld_move t5 rfl
theorem yBn9_7 {a0 : Act} {w : World} {V15 V16 V18 V19 gx gy hx hy pa pb n dx dy : Nat} {A B : List Nat} (E : EnvBn9 a0 w V15 V16 V18 V19 gx gy hx hy pa pb n dx dy A B) {R : Exit → Act → World → Prop} {a : Act} {x : World} (q : Q w x) (oth : ∀ j, j ∉ sBn9 → a.tmps[j]? = a0.tmps[j]?) (dep : ∀ ed ∈ oBn9_7.after, Region.binds .any ed = true → ∀ t', sBn9[ed.on]? = some t' → ∃ v, a.tmps[t']? = some v ∧ specAt (spBn9 V15 V16 V18 V19 gx gy hx hy pa pb n dx dy A B) ed.on v x) : Yld Try.prog R oBn9_7 a x 117 (specAt (spBn9 V15 V16 V18 V19 gx gy hx hy pa pb n dx dy A B) 7) := by
  have hs := (oth 18 (by decide)).trans E.h18
  have k0 := q.cell E.c180
  have k1 := q.cell E.c181
  have k2 := q.cell E.c182
  exact yld_run (x' := x) rfl (by simp [oBn9_7, execOp, go_sem, hs, ptrV, k0, k1, k2]) (Q.refl x) rfl
theorem yBn9_8 {a0 : Act} {w : World} {V15 V16 V18 V19 gx gy hx hy pa pb n dx dy : Nat} {A B : List Nat} (E : EnvBn9 a0 w V15 V16 V18 V19 gx gy hx hy pa pb n dx dy A B) {R : Exit → Act → World → Prop} {a : Act} {x : World} (q : Q w x) (oth : ∀ j, j ∉ sBn9 → a.tmps[j]? = a0.tmps[j]?) (dep : ∀ ed ∈ oBn9_8.after, Region.binds .any ed = true → ∀ t', sBn9[ed.on]? = some t' → ∃ v, a.tmps[t']? = some v ∧ specAt (spBn9 V15 V16 V18 V19 gx gy hx hy pa pb n dx dy A B) ed.on v x) : Yld Try.prog R oBn9_8 a x 118 (specAt (spBn9 V15 V16 V18 V19 gx gy hx hy pa pb n dx dy A B) 8) := by
  have hs := (oth 15 (by decide)).trans E.h15
  have k0 := q.cell E.c150
  have k1 := q.cell E.c151
  have k2 := q.cell E.c152
  exact yld_run (x' := x) rfl (by simp [oBn9_8, execOp, go_sem, hs, ptrV, k0, k1, k2]) (Q.refl x) rfl
theorem yBn9_9 {a0 : Act} {w : World} {V15 V16 V18 V19 gx gy hx hy pa pb n dx dy : Nat} {A B : List Nat} (E : EnvBn9 a0 w V15 V16 V18 V19 gx gy hx hy pa pb n dx dy A B) {R : Exit → Act → World → Prop} {a : Act} {x : World} (q : Q w x) (oth : ∀ j, j ∉ sBn9 → a.tmps[j]? = a0.tmps[j]?) (dep : ∀ ed ∈ oBn9_9.after, Region.binds .any ed = true → ∀ t', sBn9[ed.on]? = some t' → ∃ v, a.tmps[t']? = some v ∧ specAt (spBn9 V15 V16 V18 V19 gx gy hx hy pa pb n dx dy A B) ed.on v x) : Yld Try.prog R oBn9_9 a x 119 (specAt (spBn9 V15 V16 V18 V19 gx gy hx hy pa pb n dx dy A B) 9) := by
  exact yld_move ((oth 3 (by decide)).trans E.h3) rfl
theorem yBn9_10 {a0 : Act} {w : World} {V15 V16 V18 V19 gx gy hx hy pa pb n dx dy : Nat} {A B : List Nat} (E : EnvBn9 a0 w V15 V16 V18 V19 gx gy hx hy pa pb n dx dy A B) {R : Exit → Act → World → Prop} {a : Act} {x : World} (q : Q w x) (oth : ∀ j, j ∉ sBn9 → a.tmps[j]? = a0.tmps[j]?) (dep : ∀ ed ∈ oBn9_10.after, Region.binds .any ed = true → ∀ t', sBn9[ed.on]? = some t' → ∃ v, a.tmps[t']? = some v ∧ specAt (spBn9 V15 V16 V18 V19 gx gy hx hy pa pb n dx dy A B) ed.on v x) : Yld Try.prog R oBn9_10 a x 120 (specAt (spBn9 V15 V16 V18 V19 gx gy hx hy pa pb n dx dy A B) 10) := by
  exact yld_move ((oth 4 (by decide)).trans E.h4) rfl
theorem yBn9_11 {a0 : Act} {w : World} {V15 V16 V18 V19 gx gy hx hy pa pb n dx dy : Nat} {A B : List Nat} (E : EnvBn9 a0 w V15 V16 V18 V19 gx gy hx hy pa pb n dx dy A B) {R : Exit → Act → World → Prop} {a : Act} {x : World} (q : Q w x) (oth : ∀ j, j ∉ sBn9 → a.tmps[j]? = a0.tmps[j]?) (dep : ∀ ed ∈ oBn9_11.after, Region.binds .any ed = true → ∀ t', sBn9[ed.on]? = some t' → ∃ v, a.tmps[t']? = some v ∧ specAt (spBn9 V15 V16 V18 V19 gx gy hx hy pa pb n dx dy A B) ed.on v x) : Yld Try.prog R oBn9_11 a x 121 (specAt (spBn9 V15 V16 V18 V19 gx gy hx hy pa pb n dx dy A B) 11) := by
  obtain ⟨v8, t8, f8⟩ := dep ⟨8, .data⟩ (by simp [oBn9_11]) rfl 118 rfl
  have f8 : v8 = (.agg #[.int .i64 (pa : Int), .int .i64 (pb : Int), .slice (some ⟨gx, 0, none⟩) n n]) := f8
  subst f8
  obtain ⟨v9, t9, f9⟩ := dep ⟨9, .data⟩ (by simp [oBn9_11]) rfl 119 rfl
  have f9 : v9 = (.int .i64 (dx : Int)) := f9
  subst f9
  obtain ⟨v10, t10, f10⟩ := dep ⟨10, .data⟩ (by simp [oBn9_11]) rfl 120 rfl
  have f10 : v10 = (.int .i64 (dy : Int)) := f10
  subst f10
  have h8 := tmp_eval t8
  have h9 := tmp_eval t9
  have h10 := tmp_eval t10
  refine yld_call (enters_of Try.func12 (by kernel_rfl) rfl) (vs := #[.agg #[.int .i64 (pa : Int), .int .i64 (pb : Int), .slice (some ⟨gx, 0, none⟩) n n], .int .i64 (dx : Int), .int .i64 (dy : Int)]) (by simp [h8, h9, h10]) ((moved_any x pa pb dx dy gx 0 n n A E.sz E.nn E.la (E.ua.next q) E.hdx E.hdy).mono ?_)
  rintro u x' ⟨v, rfl, b, cap, rfl, hc, hv, q'⟩
  exact ⟨_, rfl, q', b, cap, rfl, hc, vr_uis hv⟩
theorem yBn9_12 {a0 : Act} {w : World} {V15 V16 V18 V19 gx gy hx hy pa pb n dx dy : Nat} {A B : List Nat} (E : EnvBn9 a0 w V15 V16 V18 V19 gx gy hx hy pa pb n dx dy A B) {R : Exit → Act → World → Prop} {a : Act} {x : World} (q : Q w x) (oth : ∀ j, j ∉ sBn9 → a.tmps[j]? = a0.tmps[j]?) (dep : ∀ ed ∈ oBn9_12.after, Region.binds .any ed = true → ∀ t', sBn9[ed.on]? = some t' → ∃ v, a.tmps[t']? = some v ∧ specAt (spBn9 V15 V16 V18 V19 gx gy hx hy pa pb n dx dy A B) ed.on v x) : Yld Try.prog R oBn9_12 a x 122 (specAt (spBn9 V15 V16 V18 V19 gx gy hx hy pa pb n dx dy A B) 12) := by
  obtain ⟨v7, t7, f7⟩ := dep ⟨7, .data⟩ (by simp [oBn9_12]) rfl 117 rfl
  have f7 : v7 = (.agg #[.int .i64 (pa : Int), .int .i64 (pb : Int), .slice (some ⟨hx, 0, none⟩) n n]) := f7
  subst f7
  obtain ⟨v11, t11, f11⟩ := dep ⟨11, .data⟩ (by simp [oBn9_12]) rfl 121 rfl
  have f11 : (MvS pa pb n dx dy A).p v11 x := f11
  obtain ⟨b1, cap1, rfl, c1, u1⟩ := f11
  refine yld_call (enters_of Try.func13 (by kernel_rfl) rfl) (args2 t7 t11) ((hplanes_yes pa pb _ _ n n cap1 (tabB n (mvF pa pb dx dy A)) x (usl_tab (E.ux.next q) (tabB_len _ _) (Nat.le_refl _)) (usl_tab u1 (tabB_len _ _) c1) (by rw [tabB_len]; have := E.nb; omega)).mono ?_)
  rintro u x' ⟨rfl, q'⟩
  exact ⟨_, rfl, q', rfl⟩
theorem yBn9_13 {a0 : Act} {w : World} {V15 V16 V18 V19 gx gy hx hy pa pb n dx dy : Nat} {A B : List Nat} (E : EnvBn9 a0 w V15 V16 V18 V19 gx gy hx hy pa pb n dx dy A B) {R : Exit → Act → World → Prop} {a : Act} {x : World} (q : Q w x) (oth : ∀ j, j ∉ sBn9 → a.tmps[j]? = a0.tmps[j]?) (dep : ∀ ed ∈ oBn9_13.after, Region.binds .any ed = true → ∀ t', sBn9[ed.on]? = some t' → ∃ v, a.tmps[t']? = some v ∧ specAt (spBn9 V15 V16 V18 V19 gx gy hx hy pa pb n dx dy A B) ed.on v x) : Yld Try.prog R oBn9_13 a x 123 (specAt (spBn9 V15 V16 V18 V19 gx gy hx hy pa pb n dx dy A B) 13) := by
  obtain ⟨v6, t6, f6⟩ := dep ⟨6, .data⟩ (by simp [oBn9_13]) rfl 116 rfl
  have f6 : v6 = (.bool true) := f6
  subst f6
  obtain ⟨v12, t12, f12⟩ := dep ⟨12, .data⟩ (by simp [oBn9_13]) rfl 122 rfl
  have f12 : v12 = (.bool true) := f12
  subst f12
  exact yld_run (x' := x) rfl (run_andq (tmp_eval t6) (tmp_eval t12)) (Q.refl x) rfl
theorem yBn9_14 {a0 : Act} {w : World} {V15 V16 V18 V19 gx gy hx hy pa pb n dx dy : Nat} {A B : List Nat} (E : EnvBn9 a0 w V15 V16 V18 V19 gx gy hx hy pa pb n dx dy A B) {R : Exit → Act → World → Prop} {a : Act} {x : World} (q : Q w x) (oth : ∀ j, j ∉ sBn9 → a.tmps[j]? = a0.tmps[j]?) (dep : ∀ ed ∈ oBn9_14.after, Region.binds .any ed = true → ∀ t', sBn9[ed.on]? = some t' → ∃ v, a.tmps[t']? = some v ∧ specAt (spBn9 V15 V16 V18 V19 gx gy hx hy pa pb n dx dy A B) ed.on v x) : Yld Try.prog R oBn9_14 a x 124 (specAt (spBn9 V15 V16 V18 V19 gx gy hx hy pa pb n dx dy A B) 14) := by
  obtain ⟨v13, t13, f13⟩ := dep ⟨13, .data⟩ (by simp [oBn9_14]) rfl 123 rfl
  have f13 : v13 = (.bool true) := f13
  subst f13
  exact yld_move t13 rfl
theorem yBn9_15 {a0 : Act} {w : World} {V15 V16 V18 V19 gx gy hx hy pa pb n dx dy : Nat} {A B : List Nat} (E : EnvBn9 a0 w V15 V16 V18 V19 gx gy hx hy pa pb n dx dy A B) {R : Exit → Act → World → Prop} {a : Act} {x : World} (q : Q w x) (oth : ∀ j, j ∉ sBn9 → a.tmps[j]? = a0.tmps[j]?) (dep : ∀ ed ∈ oBn9_15.after, Region.binds .any ed = true → ∀ t', sBn9[ed.on]? = some t' → ∃ v, a.tmps[t']? = some v ∧ specAt (spBn9 V15 V16 V18 V19 gx gy hx hy pa pb n dx dy A B) ed.on v x) : Yld Try.prog R oBn9_15 a x 125 (specAt (spBn9 V15 V16 V18 V19 gx gy hx hy pa pb n dx dy A B) 15) := by
  have hs := (oth 19 (by decide)).trans E.h19
  have k0 := q.cell E.c190
  have k1 := q.cell E.c191
  have k2 := q.cell E.c192
  exact yld_run (x' := x) rfl (by simp [oBn9_15, execOp, go_sem, hs, ptrV, k0, k1, k2]) (Q.refl x) rfl
theorem yBn9_16 {a0 : Act} {w : World} {V15 V16 V18 V19 gx gy hx hy pa pb n dx dy : Nat} {A B : List Nat} (E : EnvBn9 a0 w V15 V16 V18 V19 gx gy hx hy pa pb n dx dy A B) {R : Exit → Act → World → Prop} {a : Act} {x : World} (q : Q w x) (oth : ∀ j, j ∉ sBn9 → a.tmps[j]? = a0.tmps[j]?) (dep : ∀ ed ∈ oBn9_16.after, Region.binds .any ed = true → ∀ t', sBn9[ed.on]? = some t' → ∃ v, a.tmps[t']? = some v ∧ specAt (spBn9 V15 V16 V18 V19 gx gy hx hy pa pb n dx dy A B) ed.on v x) : Yld Try.prog R oBn9_16 a x 126 (specAt (spBn9 V15 V16 V18 V19 gx gy hx hy pa pb n dx dy A B) 16) := by
  have hs := (oth 16 (by decide)).trans E.h16
  have k0 := q.cell E.c160
  have k1 := q.cell E.c161
  have k2 := q.cell E.c162
  exact yld_run (x' := x) rfl (by simp [oBn9_16, execOp, go_sem, hs, ptrV, k0, k1, k2]) (Q.refl x) rfl
theorem yBn9_17 {a0 : Act} {w : World} {V15 V16 V18 V19 gx gy hx hy pa pb n dx dy : Nat} {A B : List Nat} (E : EnvBn9 a0 w V15 V16 V18 V19 gx gy hx hy pa pb n dx dy A B) {R : Exit → Act → World → Prop} {a : Act} {x : World} (q : Q w x) (oth : ∀ j, j ∉ sBn9 → a.tmps[j]? = a0.tmps[j]?) (dep : ∀ ed ∈ oBn9_17.after, Region.binds .any ed = true → ∀ t', sBn9[ed.on]? = some t' → ∃ v, a.tmps[t']? = some v ∧ specAt (spBn9 V15 V16 V18 V19 gx gy hx hy pa pb n dx dy A B) ed.on v x) : Yld Try.prog R oBn9_17 a x 127 (specAt (spBn9 V15 V16 V18 V19 gx gy hx hy pa pb n dx dy A B) 17) := by
  exact yld_move ((oth 3 (by decide)).trans E.h3) rfl
theorem yBn9_18 {a0 : Act} {w : World} {V15 V16 V18 V19 gx gy hx hy pa pb n dx dy : Nat} {A B : List Nat} (E : EnvBn9 a0 w V15 V16 V18 V19 gx gy hx hy pa pb n dx dy A B) {R : Exit → Act → World → Prop} {a : Act} {x : World} (q : Q w x) (oth : ∀ j, j ∉ sBn9 → a.tmps[j]? = a0.tmps[j]?) (dep : ∀ ed ∈ oBn9_18.after, Region.binds .any ed = true → ∀ t', sBn9[ed.on]? = some t' → ∃ v, a.tmps[t']? = some v ∧ specAt (spBn9 V15 V16 V18 V19 gx gy hx hy pa pb n dx dy A B) ed.on v x) : Yld Try.prog R oBn9_18 a x 128 (specAt (spBn9 V15 V16 V18 V19 gx gy hx hy pa pb n dx dy A B) 18) := by
  exact yld_move ((oth 4 (by decide)).trans E.h4) rfl
theorem yBn9_19 {a0 : Act} {w : World} {V15 V16 V18 V19 gx gy hx hy pa pb n dx dy : Nat} {A B : List Nat} (E : EnvBn9 a0 w V15 V16 V18 V19 gx gy hx hy pa pb n dx dy A B) {R : Exit → Act → World → Prop} {a : Act} {x : World} (q : Q w x) (oth : ∀ j, j ∉ sBn9 → a.tmps[j]? = a0.tmps[j]?) (dep : ∀ ed ∈ oBn9_19.after, Region.binds .any ed = true → ∀ t', sBn9[ed.on]? = some t' → ∃ v, a.tmps[t']? = some v ∧ specAt (spBn9 V15 V16 V18 V19 gx gy hx hy pa pb n dx dy A B) ed.on v x) : Yld Try.prog R oBn9_19 a x 129 (specAt (spBn9 V15 V16 V18 V19 gx gy hx hy pa pb n dx dy A B) 19) := by
  obtain ⟨v16, t16, f16⟩ := dep ⟨16, .data⟩ (by simp [oBn9_19]) rfl 126 rfl
  have f16 : v16 = (.agg #[.int .i64 (pa : Int), .int .i64 (pb : Int), .slice (some ⟨gy, 0, none⟩) n n]) := f16
  subst f16
  obtain ⟨v17, t17, f17⟩ := dep ⟨17, .data⟩ (by simp [oBn9_19]) rfl 127 rfl
  have f17 : v17 = (.int .i64 (dx : Int)) := f17
  subst f17
  obtain ⟨v18, t18, f18⟩ := dep ⟨18, .data⟩ (by simp [oBn9_19]) rfl 128 rfl
  have f18 : v18 = (.int .i64 (dy : Int)) := f18
  subst f18
  have h16 := tmp_eval t16
  have h17 := tmp_eval t17
  have h18 := tmp_eval t18
  refine yld_call (enters_of Try.func12 (by kernel_rfl) rfl) (vs := #[.agg #[.int .i64 (pa : Int), .int .i64 (pb : Int), .slice (some ⟨gy, 0, none⟩) n n], .int .i64 (dx : Int), .int .i64 (dy : Int)]) (by simp [h16, h17, h18]) ((moved_any x pa pb dx dy gy 0 n n B E.sz E.nn E.lb (E.ub.next q) E.hdx E.hdy).mono ?_)
  rintro u x' ⟨v, rfl, b, cap, rfl, hc, hv, q'⟩
  exact ⟨_, rfl, q', b, cap, rfl, hc, vr_uis hv⟩
theorem yBn9_20 {a0 : Act} {w : World} {V15 V16 V18 V19 gx gy hx hy pa pb n dx dy : Nat} {A B : List Nat} (E : EnvBn9 a0 w V15 V16 V18 V19 gx gy hx hy pa pb n dx dy A B) {R : Exit → Act → World → Prop} {a : Act} {x : World} (q : Q w x) (oth : ∀ j, j ∉ sBn9 → a.tmps[j]? = a0.tmps[j]?) (dep : ∀ ed ∈ oBn9_20.after, Region.binds .any ed = true → ∀ t', sBn9[ed.on]? = some t' → ∃ v, a.tmps[t']? = some v ∧ specAt (spBn9 V15 V16 V18 V19 gx gy hx hy pa pb n dx dy A B) ed.on v x) : Yld Try.prog R oBn9_20 a x 130 (specAt (spBn9 V15 V16 V18 V19 gx gy hx hy pa pb n dx dy A B) 20) := by
  obtain ⟨v15, t15, f15⟩ := dep ⟨15, .data⟩ (by simp [oBn9_20]) rfl 125 rfl
  have f15 : v15 = (.agg #[.int .i64 (pa : Int), .int .i64 (pb : Int), .slice (some ⟨hy, 0, none⟩) n n]) := f15
  subst f15
  obtain ⟨v19, t19, f19⟩ := dep ⟨19, .data⟩ (by simp [oBn9_20]) rfl 129 rfl
  have f19 : (MvS pa pb n dx dy B).p v19 x := f19
  obtain ⟨b1, cap1, rfl, c1, u1⟩ := f19
  refine yld_call (enters_of Try.func13 (by kernel_rfl) rfl) (args2 t15 t19) ((hplanes_yes pa pb _ _ n n cap1 (tabB n (mvF pa pb dx dy B)) x (usl_tab (E.uy.next q) (tabB_len _ _) (Nat.le_refl _)) (usl_tab u1 (tabB_len _ _) c1) (by rw [tabB_len]; have := E.nb; omega)).mono ?_)
  rintro u x' ⟨rfl, q'⟩
  exact ⟨_, rfl, q', rfl⟩
theorem yBn9_21 {a0 : Act} {w : World} {V15 V16 V18 V19 gx gy hx hy pa pb n dx dy : Nat} {A B : List Nat} (E : EnvBn9 a0 w V15 V16 V18 V19 gx gy hx hy pa pb n dx dy A B) {R : Exit → Act → World → Prop} {a : Act} {x : World} (q : Q w x) (oth : ∀ j, j ∉ sBn9 → a.tmps[j]? = a0.tmps[j]?) (dep : ∀ ed ∈ oBn9_21.after, Region.binds .any ed = true → ∀ t', sBn9[ed.on]? = some t' → ∃ v, a.tmps[t']? = some v ∧ specAt (spBn9 V15 V16 V18 V19 gx gy hx hy pa pb n dx dy A B) ed.on v x) : Yld Try.prog R oBn9_21 a x 131 (specAt (spBn9 V15 V16 V18 V19 gx gy hx hy pa pb n dx dy A B) 21) := by
  obtain ⟨v14, t14, f14⟩ := dep ⟨14, .data⟩ (by simp [oBn9_21]) rfl 124 rfl
  have f14 : v14 = (.bool true) := f14
  subst f14
  obtain ⟨v20, t20, f20⟩ := dep ⟨20, .data⟩ (by simp [oBn9_21]) rfl 130 rfl
  have f20 : v20 = (.bool true) := f20
  subst f20
  exact yld_run (x' := x) rfl (run_andq (tmp_eval t14) (tmp_eval t20)) (Q.refl x) rfl
theorem yBn9_22 {a0 : Act} {w : World} {V15 V16 V18 V19 gx gy hx hy pa pb n dx dy : Nat} {A B : List Nat} (E : EnvBn9 a0 w V15 V16 V18 V19 gx gy hx hy pa pb n dx dy A B) {R : Exit → Act → World → Prop} {a : Act} {x : World} (q : Q w x) (oth : ∀ j, j ∉ sBn9 → a.tmps[j]? = a0.tmps[j]?) (dep : ∀ ed ∈ oBn9_22.after, Region.binds .any ed = true → ∀ t', sBn9[ed.on]? = some t' → ∃ v, a.tmps[t']? = some v ∧ specAt (spBn9 V15 V16 V18 V19 gx gy hx hy pa pb n dx dy A B) ed.on v x) : Yld Try.prog R oBn9_22 a x 10 (specAt (spBn9 V15 V16 V18 V19 gx gy hx hy pa pb n dx dy A B) 22) := by
  obtain ⟨v21, t21, f21⟩ := dep ⟨21, .data⟩ (by simp [oBn9_22]) rfl 131 rfl
  have f21 : v21 = (.bool true) := f21
  subst f21
  exact yld_run (x' := x) rfl (run_asgq (tmp_eval t21)) (Q.refl x) rfl
theorem hopBn9 {a0 : Act} {w : World} {V15 V16 V18 V19 gx gy hx hy pa pb n dx dy : Nat} {A B : List Nat} (E : EnvBn9 a0 w V15 V16 V18 V19 gx gy hx hy pa pb n dx dy A B) {R : Exit → Act → World → Prop} : ∀ (i t : Nat) (o : Oper) (a : Act) (x : World), skBn9 i = false → sBn9[i]? = some t → opsBn9[i]? = some o → Q w x → (∀ j, j ∉ sBn9 → a.tmps[j]? = a0.tmps[j]?) → (∀ ed ∈ o.after, Region.binds .any ed = true → ∀ t', sBn9[ed.on]? = some t' → ∃ v, a.tmps[t']? = some v ∧ specAt (spBn9 V15 V16 V18 V19 gx gy hx hy pa pb n dx dy A B) ed.on v x) → Yld Try.prog R o a x t (specAt (spBn9 V15 V16 V18 V19 gx gy hx hy pa pb n dx dy A B) i)
  | 0, t, o, a, x, hi, ht, ho, q, oth, dep => by
    have e1 : oBn9_0 = o := Option.some.inj ho
    have e2 : 110 = t := Option.some.inj ht
    subst e1 e2
    exact yBn9_0 E q oth dep
  | 1, t, o, a, x, hi, ht, ho, q, oth, dep => by
    have e1 : oBn9_1 = o := Option.some.inj ho
    have e2 : 111 = t := Option.some.inj ht
    subst e1 e2
    exact yBn9_1 E q oth dep
  | 2, t, o, a, x, hi, ht, ho, q, oth, dep => by
    have e1 : oBn9_2 = o := Option.some.inj ho
    have e2 : 112 = t := Option.some.inj ht
    subst e1 e2
    exact yBn9_2 E q oth dep
  | 3, t, o, a, x, hi, ht, ho, q, oth, dep => by
    have e1 : oBn9_3 = o := Option.some.inj ho
    have e2 : 113 = t := Option.some.inj ht
    subst e1 e2
    exact yBn9_3 E q oth dep
  | 4, t, o, a, x, hi, ht, ho, q, oth, dep => by
    have e1 : oBn9_4 = o := Option.some.inj ho
    have e2 : 114 = t := Option.some.inj ht
    subst e1 e2
    exact yBn9_4 E q oth dep
  | 5, t, o, a, x, hi, ht, ho, q, oth, dep => by
    have e1 : oBn9_5 = o := Option.some.inj ho
    have e2 : 115 = t := Option.some.inj ht
    subst e1 e2
    exact yBn9_5 E q oth dep
  | 6, t, o, a, x, hi, ht, ho, q, oth, dep => by
    have e1 : oBn9_6 = o := Option.some.inj ho
    have e2 : 116 = t := Option.some.inj ht
    subst e1 e2
    exact yBn9_6 E q oth dep
  | 7, t, o, a, x, hi, ht, ho, q, oth, dep => by
    have e1 : oBn9_7 = o := Option.some.inj ho
    have e2 : 117 = t := Option.some.inj ht
    subst e1 e2
    exact yBn9_7 E q oth dep
  | 8, t, o, a, x, hi, ht, ho, q, oth, dep => by
    have e1 : oBn9_8 = o := Option.some.inj ho
    have e2 : 118 = t := Option.some.inj ht
    subst e1 e2
    exact yBn9_8 E q oth dep
  | 9, t, o, a, x, hi, ht, ho, q, oth, dep => by
    have e1 : oBn9_9 = o := Option.some.inj ho
    have e2 : 119 = t := Option.some.inj ht
    subst e1 e2
    exact yBn9_9 E q oth dep
  | 10, t, o, a, x, hi, ht, ho, q, oth, dep => by
    have e1 : oBn9_10 = o := Option.some.inj ho
    have e2 : 120 = t := Option.some.inj ht
    subst e1 e2
    exact yBn9_10 E q oth dep
  | 11, t, o, a, x, hi, ht, ho, q, oth, dep => by
    have e1 : oBn9_11 = o := Option.some.inj ho
    have e2 : 121 = t := Option.some.inj ht
    subst e1 e2
    exact yBn9_11 E q oth dep
  | 12, t, o, a, x, hi, ht, ho, q, oth, dep => by
    have e1 : oBn9_12 = o := Option.some.inj ho
    have e2 : 122 = t := Option.some.inj ht
    subst e1 e2
    exact yBn9_12 E q oth dep
  | 13, t, o, a, x, hi, ht, ho, q, oth, dep => by
    have e1 : oBn9_13 = o := Option.some.inj ho
    have e2 : 123 = t := Option.some.inj ht
    subst e1 e2
    exact yBn9_13 E q oth dep
  | 14, t, o, a, x, hi, ht, ho, q, oth, dep => by
    have e1 : oBn9_14 = o := Option.some.inj ho
    have e2 : 124 = t := Option.some.inj ht
    subst e1 e2
    exact yBn9_14 E q oth dep
  | 15, t, o, a, x, hi, ht, ho, q, oth, dep => by
    have e1 : oBn9_15 = o := Option.some.inj ho
    have e2 : 125 = t := Option.some.inj ht
    subst e1 e2
    exact yBn9_15 E q oth dep
  | 16, t, o, a, x, hi, ht, ho, q, oth, dep => by
    have e1 : oBn9_16 = o := Option.some.inj ho
    have e2 : 126 = t := Option.some.inj ht
    subst e1 e2
    exact yBn9_16 E q oth dep
  | 17, t, o, a, x, hi, ht, ho, q, oth, dep => by
    have e1 : oBn9_17 = o := Option.some.inj ho
    have e2 : 127 = t := Option.some.inj ht
    subst e1 e2
    exact yBn9_17 E q oth dep
  | 18, t, o, a, x, hi, ht, ho, q, oth, dep => by
    have e1 : oBn9_18 = o := Option.some.inj ho
    have e2 : 128 = t := Option.some.inj ht
    subst e1 e2
    exact yBn9_18 E q oth dep
  | 19, t, o, a, x, hi, ht, ho, q, oth, dep => by
    have e1 : oBn9_19 = o := Option.some.inj ho
    have e2 : 129 = t := Option.some.inj ht
    subst e1 e2
    exact yBn9_19 E q oth dep
  | 20, t, o, a, x, hi, ht, ho, q, oth, dep => by
    have e1 : oBn9_20 = o := Option.some.inj ho
    have e2 : 130 = t := Option.some.inj ht
    subst e1 e2
    exact yBn9_20 E q oth dep
  | 21, t, o, a, x, hi, ht, ho, q, oth, dep => by
    have e1 : oBn9_21 = o := Option.some.inj ho
    have e2 : 131 = t := Option.some.inj ht
    subst e1 e2
    exact yBn9_21 E q oth dep
  | 22, t, o, a, x, hi, ht, ho, q, oth, dep => by
    have e1 : oBn9_22 = o := Option.some.inj ho
    have e2 : 10 = t := Option.some.inj ht
    subst e1 e2
    exact yBn9_22 E q oth dep
  | i + 23, t, o, a, x, hi, ht, ho, q, oth, dep => by cases ho
theorem keyBn9 : ∀ i, i < 23 → ((opsBn9[i]?).bind (fun o : Oper => o.guard) = none ∧ skBn9 i = false) ∨ ((opsBn9[i]?).bind (fun o : Oper => o.guard) = some (6, true) ∧ skBn9 i = false) ∨ ((opsBn9[i]?).bind (fun o : Oper => o.guard) = some (14, true) ∧ skBn9 i = false) := by decide +kernel
theorem hguBn9 {V15 V16 V18 V19 gx gy hx hy pa pb n dx dy : Nat} {A B : List Nat} : ∀ (i : Nat) (o : Oper) (g : Nat) (b : Bool), opsBn9[i]? = some o → o.guard = some (g, b) → ∀ v x, specAt (spBn9 V15 V16 V18 V19 gx gy hx hy pa pb n dx dy A B) g v x → (v = .bool b ↔ skBn9 i = false) := by
  intro i o g b ho hg v x hf
  have h := keyBn9 i (List.getElem?_eq_some_iff.1 ho).1
  rw [ho] at h
  simp only [Option.bind_some] at h
  rw [hg] at h
  rcases h with ⟨h, _⟩ | ⟨h, hs⟩ | ⟨h, hs⟩
  · cases h
  · injection h with h
    injection h with h1 h2
    subst h1 h2
    have hv : v = .bool true := hf
    subst hv
    rw [hs]
    simp
  · injection h with h
    injection h with h1 h2
    subst h1 h2
    have hv : v = .bool true := hf
    subst hv
    rw [hs]
    simp
theorem hgnBn9 : ∀ (i : Nat) (o : Oper), opsBn9[i]? = some o → o.guard = none → skBn9 i = false := by
  intro i o ho hg
  have h := keyBn9 i (List.getElem?_eq_some_iff.1 ho).1
  rw [ho] at h
  simp only [Option.bind_some] at h
  rw [hg] at h
  rcases h with ⟨_, h⟩ | ⟨h, _⟩ | ⟨h, _⟩
  · exact h
  · cases h
  · cases h
theorem hskBn9 {V15 V16 V18 V19 gx gy hx hy pa pb n dx dy : Nat} {A B : List Nat} : ∀ (i : Nat) (x : World), skBn9 i = true → specAt (spBn9 V15 V16 V18 V19 gx gy hx hy pa pb n dx dy A B) i undef x := by
  intro i x h
  cases h
theorem regionBn9 {id : Nat} {l : List Oper} {R : Exit → Act → World → Prop} {a0 : Act} {w : World} {V15 V16 V18 V19 gx gy hx hy pa pb n dx dy : Nat} {A B : List Nat} (hl : l = opsBn9) (hsz : a0.tmps.size = 132) (E : EnvBn9 a0 w V15 V16 V18 V19 gx gy hx hy pa pb n dx dy A B)
    (hR : ∀ x v11 v19, Q w x → R .normal (putAll a0 [(110, (.int .i64 0)), (111, (.int .i64 0)), (112, (.int .i64 0)), (113, (.int .i64 0)), (114, (.int .i64 0)), (115, (.bool true)), (116, (.bool true)), (117, (.agg #[.int .i64 (pa : Int), .int .i64 (pb : Int), .slice (some ⟨hx, 0, none⟩) n n])), (118, (.agg #[.int .i64 (pa : Int), .int .i64 (pb : Int), .slice (some ⟨gx, 0, none⟩) n n])), (119, (.int .i64 (dx : Int))), (120, (.int .i64 (dy : Int))), (121, v11), (122, (.bool true)), (123, (.bool true)), (124, (.bool true)), (125, (.agg #[.int .i64 (pa : Int), .int .i64 (pb : Int), .slice (some ⟨hy, 0, none⟩) n n])), (126, (.agg #[.int .i64 (pa : Int), .int .i64 (pb : Int), .slice (some ⟨gy, 0, none⟩) n n])), (127, (.int .i64 (dx : Int))), (128, (.int .i64 (dy : Int))), (129, v19), (130, (.bool true)), (131, (.bool true)), (10, (.bool true))]) x) :
    (Code.region id l.toArray true).wp Try.prog R a0 w := by
  subst hl
  refine wp_region_factsS sBn9 (specAt (spBn9 V15 V16 V18 V19 gx gy hx hy pa pb n dx dy A B)) skBn9 (by kernel_rfl) (by decide +kernel) (by decide) (fun t ht => ?_) specAt.next hguBn9 hgnBn9 hskBn9 (hopBn9 E) (fun a x q size defers other facts => ?_)
  · rw [hsz]
    revert t
    decide
  · obtain ⟨v0, t0, f0⟩ := facts 0 110 rfl
    have f0 : v0 = (.int .i64 0) := f0
    subst f0
    obtain ⟨v1, t1, f1⟩ := facts 1 111 rfl
    have f1 : v1 = (.int .i64 0) := f1
    subst f1
    obtain ⟨v2, t2, f2⟩ := facts 2 112 rfl
    have f2 : v2 = (.int .i64 0) := f2
    subst f2
    obtain ⟨v3, t3, f3⟩ := facts 3 113 rfl
    have f3 : v3 = (.int .i64 0) := f3
    subst f3
    obtain ⟨v4, t4, f4⟩ := facts 4 114 rfl
    have f4 : v4 = (.int .i64 0) := f4
    subst f4
    obtain ⟨v5, t5, f5⟩ := facts 5 115 rfl
    have f5 : v5 = (.bool true) := f5
    subst f5
    obtain ⟨v6, t6, f6⟩ := facts 6 116 rfl
    have f6 : v6 = (.bool true) := f6
    subst f6
    obtain ⟨v7, t7, f7⟩ := facts 7 117 rfl
    have f7 : v7 = (.agg #[.int .i64 (pa : Int), .int .i64 (pb : Int), .slice (some ⟨hx, 0, none⟩) n n]) := f7
    subst f7
    obtain ⟨v8, t8, f8⟩ := facts 8 118 rfl
    have f8 : v8 = (.agg #[.int .i64 (pa : Int), .int .i64 (pb : Int), .slice (some ⟨gx, 0, none⟩) n n]) := f8
    subst f8
    obtain ⟨v9, t9, f9⟩ := facts 9 119 rfl
    have f9 : v9 = (.int .i64 (dx : Int)) := f9
    subst f9
    obtain ⟨v10, t10, f10⟩ := facts 10 120 rfl
    have f10 : v10 = (.int .i64 (dy : Int)) := f10
    subst f10
    obtain ⟨v11, t11, f11⟩ := facts 11 121 rfl
    obtain ⟨v12, t12, f12⟩ := facts 12 122 rfl
    have f12 : v12 = (.bool true) := f12
    subst f12
    obtain ⟨v13, t13, f13⟩ := facts 13 123 rfl
    have f13 : v13 = (.bool true) := f13
    subst f13
    obtain ⟨v14, t14, f14⟩ := facts 14 124 rfl
    have f14 : v14 = (.bool true) := f14
    subst f14
    obtain ⟨v15, t15, f15⟩ := facts 15 125 rfl
    have f15 : v15 = (.agg #[.int .i64 (pa : Int), .int .i64 (pb : Int), .slice (some ⟨hy, 0, none⟩) n n]) := f15
    subst f15
    obtain ⟨v16, t16, f16⟩ := facts 16 126 rfl
    have f16 : v16 = (.agg #[.int .i64 (pa : Int), .int .i64 (pb : Int), .slice (some ⟨gy, 0, none⟩) n n]) := f16
    subst f16
    obtain ⟨v17, t17, f17⟩ := facts 17 127 rfl
    have f17 : v17 = (.int .i64 (dx : Int)) := f17
    subst f17
    obtain ⟨v18, t18, f18⟩ := facts 18 128 rfl
    have f18 : v18 = (.int .i64 (dy : Int)) := f18
    subst f18
    obtain ⟨v19, t19, f19⟩ := facts 19 129 rfl
    obtain ⟨v20, t20, f20⟩ := facts 20 130 rfl
    have f20 : v20 = (.bool true) := f20
    subst f20
    obtain ⟨v21, t21, f21⟩ := facts 21 131 rfl
    have f21 : v21 = (.bool true) := f21
    subst f21
    obtain ⟨v22, t22, f22⟩ := facts 22 10 rfl
    have f22 : v22 = (.bool true) := f22
    subst f22
    have hA := act_puts (a := a) (a0 := a0) [(110, (.int .i64 0)), (111, (.int .i64 0)), (112, (.int .i64 0)), (113, (.int .i64 0)), (114, (.int .i64 0)), (115, (.bool true)), (116, (.bool true)), (117, (.agg #[.int .i64 (pa : Int), .int .i64 (pb : Int), .slice (some ⟨hx, 0, none⟩) n n])), (118, (.agg #[.int .i64 (pa : Int), .int .i64 (pb : Int), .slice (some ⟨gx, 0, none⟩) n n])), (119, (.int .i64 (dx : Int))), (120, (.int .i64 (dy : Int))), (121, v11), (122, (.bool true)), (123, (.bool true)), (124, (.bool true)), (125, (.agg #[.int .i64 (pa : Int), .int .i64 (pb : Int), .slice (some ⟨hy, 0, none⟩) n n])), (126, (.agg #[.int .i64 (pa : Int), .int .i64 (pb : Int), .slice (some ⟨gy, 0, none⟩) n n])), (127, (.int .i64 (dx : Int))), (128, (.int .i64 (dy : Int))), (129, v19), (130, (.bool true)), (131, (.bool true)), (10, (.bool true))] (by show [110, 111, 112, 113, 114, 115, 116, 117, 118, 119, 120, 121, 122, 123, 124, 125, 126, 127, 128, 129, 130, 131, 10].Nodup; decide) size defers (fun j hj => other j (fun hk => hj hk)) (fun r hr => by
      simp only [List.mem_cons, List.not_mem_nil, or_false] at hr
      rcases hr with rfl | rfl | rfl | rfl | rfl | rfl | rfl | rfl | rfl | rfl | rfl | rfl | rfl | rfl | rfl | rfl | rfl | rfl | rfl | rfl | rfl | rfl | rfl
      · exact t0
      · exact t1
      · exact t2
      · exact t3
      · exact t4
      · exact t5
      · exact t6
      · exact t7
      · exact t8
      · exact t9
      · exact t10
      · exact t11
      · exact t12
      · exact t13
      · exact t14
      · exact t15
      · exact t16
      · exact t17
      · exact t18
      · exact t19
      · exact t20
      · exact t21
      · exact t22)
    rw [hA]
    exact ⟨hR x v11 v19 q⟩
end Go.Proofs.Ytpobgkcobgecoab
/- The statement BlurNothing: its walk. -/
namespace Go.Proofs.Ytpobgkcobgecoab
open Go.RowKit
set_option linter.unusedVariables false
set_option linter.unusedSimpArgs false

theorem rem_in {D : Int} {p : Nat} (hp : 1 ≤ p) (hp2 : p ≤ 1024) : ∃ d : Nat, d < p ∧ Int.tmod (wrap64 (Int.tmod D (p : Int) + (p : Int))) (p : Int) = (d : Int) := by
  have h1 : Int.tmod D (p : Int) < (p : Int) := Int.tmod_lt_of_pos _ (by omega)
  have h2 : -(p : Int) < Int.tmod D (p : Int) := Int.lt_tmod_of_pos _ (by omega)
  obtain ⟨m, hm⟩ : ∃ m, Int.tmod D (p : Int) = m := ⟨_, rfl⟩
  rw [hm] at h1 h2 ⊢
  obtain ⟨q, hq⟩ : ∃ q : Nat, m + (p : Int) = (q : Int) := ⟨(m + (p : Int)).toNat, by omega⟩
  have e2 : wrap64 (m + (p : Int)) = (q : Int) := by unfold wrap64; omega
  exact ⟨q % p, Nat.mod_lt _ (by omega), by rw [e2]; rfl⟩
set_option maxHeartbeats 8000000 in
set_option maxRecDepth 100000 in
theorem bnothing_walk (W0 : World) (pw ph kind bd DX DY : Int) (sv : Value) (S : List Nat) (us : USl W0 sv S) (hb : ∀ i, S.getD i 0 < 4294967296) :
    Calls Try.prog 4 #[.agg #[.int .i64 pw, .int .i64 ph, sv], .int .i64 kind, .int .i64 bd, .int .i64 DX, .int .i64 DY] W0 fun e w' => e = .returned (.bool true) ∧ Q W0 w' := by
  obtain ⟨ad, c, rfl⟩ := us.form
  obtain ⟨n, hn⟩ : ∃ n, S.length = n := ⟨_, rfl⟩
  have HU : Hid (USl W0 (.slice ad n c) S) := by rw [hn] at us; exact us
  have HN : Hid (S.length = n) := hn
  have HB : Hid (∀ i, S.getD i 0 < 4294967296) := hb
  rw [hn]
  clear us hn hb
  obtain ⟨w1, hw1⟩ : ∃ w1, W0.alloc (.cells #[.int .i64 pw, .int .i64 ph, .slice ad n c] 24) = w1 := ⟨_, rfl⟩
  have HP1 : Hid (Pbb W0 w1 W0.heap.size pw ph (.slice ad n c)) := by
    show Pbb _ _ _ _ _ _
    rw [← hw1]
    exact Pbb.mk' W0 W0 (Q.refl W0) _ _ _ _ _
  have C0 := known11_any w1
  have CR : Hid (∀ w : World, Calls Try.prog 6 #[.agg #[.int .i64 pw, .int .i64 ph, .slice ad n c], .int .i64 kind, .int .i64 0, .int .i64 bd] w fun e w' => e = .returned (.bool (rgtB pw ph n kind 0 bd)) ∧ Q w w') := fun w => right_any pw ph ad n c kind 0 bd w
  obtain ⟨B, hB⟩ : ∃ B, rgtB pw ph n kind 0 bd = B := ⟨_, rfl⟩
  have HRB : Hid (rgtB pw ph n kind 0 bd = B) := hB
  rw [hB] at CR
  clear hB
  go_enter Try.func4, Try.ntmps4
  go_wp2_with fail
  refine C0.mono ?_
  rintro e w2 ⟨rfl, q2⟩
  have HP2 : Hid (Pbb W0 w2 W0.heap.size pw ph (.slice ad n c)) := HP1.out.next q2
  clear C0 q2 hw1 HP1
  have k0 := HP2.out.c0
  have k1 := HP2.out.c1
  have k2 := HP2.out.c2
  go_wp2_with fail
  refine (CR.out w2).mono ?_
  rintro e w3 ⟨rfl, q3⟩
  have HP3 : Hid (Pbb W0 w3 W0.heap.size pw ph (.slice ad n c)) := HP2.out.next q3
  clear CR q3 HP2 k0 k1 k2
  cases B
  · go_wp2_with fail
    go_ret
    exact ⟨rfl, HP3.out.q⟩
  obtain ⟨rr, k, hrr, hr7, hbw, rfl, hk, hchk⟩ := rgt_bw HRB.out
  obtain rfl : rr = 0 := by omega
  obtain ⟨pa, pb, rfl, rfl, hsz, hnn⟩ := chk_zero hchk
  have k0 := HP3.out.c0
  have k1 := HP3.out.c1
  have k2 := HP3.out.c2
  clear HRB hchk hrr
  obtain ⟨g0, o0, d0, hs0, hle, hI⟩ := HU.out.some (by rw [HN.out, hnn]; exact hsz.pos)
  rw [HN.out] at hs0
  injection hs0 with e1 e2 e3
  subst e1 e3
  have HUI : Hid (∀ w : World, Q W0 w → UIs w g0 o0 S) := fun w q i hi => q.cell (hI i hi)
  have HSZ : Hid (Size pa pb ∧ n = pa * pb ∧ (k = 1 ∨ k = 2 ∨ k = 3) ∧ bwE kind ((0 : Nat) : Int) = 0) := ⟨hsz, hnn, hk, hbw⟩
  have CP : Hid (∀ w : World, Q W0 w → Calls Try.prog 9 #[.agg #[.int .i64 (pa : Int), .int .i64 (pb : Int), .slice (some ⟨g0, o0, none⟩) n c], .int .i64 kind, .int .i64 0, .int .i64 (k : Int)] w fun e w' => ∃ gt, e = .returned (.tuple #[.agg #[.int .i64 (pa : Int), .int .i64 (pb : Int), .slice (some ⟨gt, 0, none⟩) n n], .int .i64 0]) ∧ VR w' gt n (fun j => .int .u32 ((bluV kind 0 k pa pb S j : Nat) : Int)) ∧ w.heap.size ≤ gt ∧ Q w w') := fun w q =>
    blur_good kind 0 k pa pb g0 o0 c n S w HSZ.out.1 HSZ.out.2.1 HN.out HB.out (HUI.out w q) (by decide) HSZ.out.2.2.1 HSZ.out.2.2.2
  have ha1 := hsz.a1
  have ha2 := hsz.a2
  have hb1 := hsz.b1
  have hb2 := hsz.b2
  have hn2 : n ≤ 65536 := by rw [hnn]; exact hsz.ab
  clear hI hle e2 hsz hk hbw hnn
  go_wp2_with fail
  refine (CP.out w3 HP3.out.q).mono ?_
  rintro e w4 ⟨gt, rfl, hv4, hl4, q4⟩
  obtain ⟨w5, hw5⟩ : ∃ w5, w4.alloc (.cells #[.int .i64 (pa : Int), .int .i64 (pb : Int), .slice (some ⟨gt, 0, none⟩) n n] 24) = w5 := ⟨_, rfl⟩
  have q45 : Q w4 w5 := by rw [← hw5]; exact (Q.refl w4).cells _ _
  have HP5 : Hid (Pbb W0 w5 w4.heap.size (pa : Int) (pb : Int) (.slice (some ⟨gt, 0, none⟩) n n) ∧ Pbb W0 w5 W0.heap.size (pa : Int) (pb : Int) (.slice (some ⟨g0, o0, none⟩) n c) ∧ ∀ j, j < n → w5.cell? ⟨gt, j, none⟩ = some (.int .u32 ((canS (S.getD j 0) : Nat) : Int))) := by
    refine ⟨?_, HP3.out.next (q4.trans q45), fun j hj => ?_⟩
    · rw [← hw5]
      exact Pbb.mk' W0 w4 (HP3.out.q.trans q4) _ _ _ _ _
    · have := q45.cell (hv4.cell j hj)
      rw [blu_zero HSZ.out.2.2.2 HSZ.out.2.2.1 ha1 hb1 HB.out (by rw [← HSZ.out.2.1]; exact hj)] at this
      exact this
  have NU : Hid (∀ W : World, Calls Try.prog 10 #[.int .i64 0] W fun e w' => e = .returned (.int .i64 0) ∧ w' = W) := fun W => num11_any 0 W
  clear k0 k1 k2 hv4 hl4 q4 q45 CP HP3
  have k0 := HP5.out.2.1.c0
  have k1 := HP5.out.2.1.c1
  have k2 := HP5.out.2.1.c2
  have j2 := HP5.out.1.c2
  go_wp2_with fail
  refine (NU.out _).mono ?_
  rintro e w7 ⟨rfl, hw7⟩
  obtain rfl := hw7.symm
  clear hw7 hw5
  go_wp2_with fail
  go_loopg [13, 14] n (fun m s13 s14 wr => ∃ i : Nat, s13 = .int .i64 (i : Int) ∧ i + m = n ∧ wr = w5)
  case atStart => exact ⟨0, by simp, by omega, rfl⟩
  case round =>
    obtain ⟨i, rfl, hi, rfl⟩ := hrel
    by_cases hlt : i < n
    · have ci := HUI.out wr HP5.out.1.q i (by rw [HN.out]; exact hlt)
      have cj := HP5.out.2.2 i hlt
      have x4 := HB.out i
      obtain ⟨x, hx⟩ : ∃ x, S.getD i 0 = x := ⟨_, rfl⟩
      rw [hx] at ci cj x4
      clear hx
      by_cases hs1 : (x : Int) / 8388608 % 256 = 255
      · have e1 : ((x : Int) / 8388608 % 256 == 255) = true := by simpa using hs1
        by_cases hs2 : (x : Int) % 8388608 = 0
        · have e2 : ((x : Int) % 8388608 != 0) = false := by simpa using hs2
          have e3 : canS x = x := by unfold canS; rw [if_pos (by unfold rung32; omega)]
          rw [e3] at cj
          clear hs1 hs2
          go_wp2_with fail
          go_roundg (n - (i + 1))
          case measure => go_light; omega
          case rel => go_light; exact ⟨i + 1, by simp, by omega, rfl⟩
        · have e2 : ((x : Int) % 8388608 != 0) = true := by simpa using hs2
          have e3 : canS x = 2143289344 := by unfold canS; rw [if_neg (by unfold rung32; omega)]
          rw [e3] at cj
          clear hs1 hs2
          go_wp2_with fail
          go_roundg (n - (i + 1))
          case measure => go_light; omega
          case rel => go_light; exact ⟨i + 1, by simp, by omega, rfl⟩
      · have e1 : ((x : Int) / 8388608 % 256 == 255) = false := by simpa using hs1
        have e3 : canS x = x := by unfold canS; rw [if_pos (by unfold rung32; omega)]
        rw [e3] at cj
        clear hs1
        go_wp2_with fail
        go_roundg (n - (i + 1))
        case measure => go_light; omega
        case rel => go_light; exact ⟨i + 1, by simp, by omega, rfl⟩
    · have hge : ¬ (i : Int) < (n : Int) := by omega
      have n0 := qw_some wr
      have f0 := qw_cell k0
      have f1 := qw_cell k1
      have zan : ¬ pa = 0 := by omega
      have zbn : ¬ pb = 0 := by omega
      go_wp2_with fail
      refine wp_region_quiet_Q (by kernel_rfl) (by kernel_rfl) ?_
      repeat (first | go_big_quiet_step (fail) | quiet_step (fail))
      refine wpQuiet_nil ?_
      intro w8 hz
      have q8 := qw_out hz
      obtain ⟨dx, hdx, hdx'⟩ := rem_in (D := DX) ha1 ha2
      obtain ⟨dy, hdy, hdy'⟩ := rem_in (D := DY) hb1 hb2
      rw [hdx', hdy']
      clear hdx' hdy' hz n0 f0 f1 zan zbn k0 k1 k2 j2 hge
      have CG : Hid (∀ (w : World) (g o cc : Nat) (L : List Nat), L.length = n → (∀ i, L.getD i 0 < 4294967296) → UIs w g o L → Calls Try.prog 11 #[.agg #[.int .i64 (pa : Int), .int .i64 (pb : Int), .slice (some ⟨g, o, none⟩) n cc], .int .i64 3] w fun e w' => ∃ gt gu, e = .returned (.tuple #[.agg #[.int .i64 (pa : Int), .int .i64 (pb : Int), .slice (some ⟨gt, 0, none⟩) n n], .agg #[.int .i64 (pa : Int), .int .i64 (pb : Int), .slice (some ⟨gu, 0, none⟩) n n], .int .i64 0]) ∧ VR w' gt n (fun j => .int .u32 ((rowB slpV 1 3 pa L j : Nat) : Int)) ∧ VR w' gu n (fun j => .int .u32 ((colB slpV 1 3 pa pb L j : Nat) : Int)) ∧ gt ≠ gu ∧ w.heap.size ≤ gt ∧ w.heap.size ≤ gu ∧ Q w w') := fun w g o cc L h1 h2 h3 =>
        grad_good 3 pa pb g o cc n L w HSZ.out.1 HSZ.out.2.1 h1 h2 h3 (Or.inr (Or.inr rfl))
      have CM : Hid (∀ (w : World) (g o cc : Nat) (L : List Nat), L.length = n → UIs w g o L → Calls Try.prog 12 #[.agg #[.int .i64 (pa : Int), .int .i64 (pb : Int), .slice (some ⟨g, o, none⟩) n cc], .int .i64 (dx : Int), .int .i64 (dy : Int)] w fun e w' => ∃ v, e = .returned v ∧ ∃ b cap, v = .agg #[.int .i64 (pa : Int), .int .i64 (pb : Int), .slice (some ⟨b, 0, none⟩) n cap] ∧ n ≤ cap ∧ VR w' b n (fun j => .int .u32 ((mvF pa pb dx dy L j : Nat) : Int)) ∧ Q w w') := fun w g o cc L h1 h2 =>
        moved_any w pa pb dx dy g o cc n L HSZ.out.1 HSZ.out.2.1 h1 h2 hdx hdy
      have HP8 : Hid (Pbb W0 w8 W0.heap.size (pa : Int) (pb : Int) (.slice (some ⟨g0, o0, none⟩) n c)) := HP5.out.2.1.next q8
      clear HP5 q8
      have k0 := HP8.out.c0
      have k1 := HP8.out.c1
      have k2 := HP8.out.c2
      go_wp2_with fail
      refine (CG.out w8 g0 o0 c S HN.out HB.out (HUI.out w8 HP8.out.q)).mono ?_
      rintro e w9 ⟨gx, gy, rfl, hvx, hvy, hne, hlx, hly, q9⟩
      obtain ⟨w10, hw10⟩ : ∃ w10, (w9.alloc (.cells #[.int .i64 (pa : Int), .int .i64 (pb : Int), .slice (some ⟨gx, 0, none⟩) n n] 24)).alloc (.cells #[.int .i64 (pa : Int), .int .i64 (pb : Int), .slice (some ⟨gy, 0, none⟩) n n] 24) = w10 := ⟨_, rfl⟩
      have q910 : Q w9 w10 := by rw [← hw10]; exact ((Q.refl w9).cells _ _).cells _ _
      have HP10 : Hid (Pbb W0 w10 W0.heap.size (pa : Int) (pb : Int) (.slice (some ⟨g0, o0, none⟩) n c) ∧ VR w10 gx n (fun j => .int .u32 ((rowB slpV 1 3 pa S j : Nat) : Int)) ∧ VR w10 gy n (fun j => .int .u32 ((colB slpV 1 3 pa pb S j : Nat) : Int)) ∧ Pbb W0 w10 w9.heap.size (pa : Int) (pb : Int) (.slice (some ⟨gx, 0, none⟩) n n) ∧ Pbb W0 w10 (w9.heap.size + 1) (pa : Int) (pb : Int) (.slice (some ⟨gy, 0, none⟩) n n)) := by
        have qq := (HP8.out.next (q9.trans q910)).q
        refine ⟨HP8.out.next (q9.trans q910), hvx.next q910, hvy.next q910, ⟨?_, ?_, ?_, qq⟩, ⟨?_, ?_, ?_, qq⟩⟩ <;> rw [← hw10] <;> simp [go_sem]
      clear k0 k1 k2 HP8 hvx hvy hne hlx hly q9 q910
      have k0 := HP10.out.1.c0
      have k1 := HP10.out.1.c1
      have k2 := HP10.out.1.c2
      go_wp2_with fail
      refine (CM.out w10 g0 o0 c S HN.out (HUI.out w10 HP10.out.1.q)).mono ?_
      rintro e w11 ⟨v, rfl, b, cap, rfl, hcap, hvb, q11⟩
      clear k0 k1 k2 hw10
      go_wp2_with fail
      refine (CG.out w11 b 0 cap (tabB n (mvF pa pb dx dy S)) (tabB_len _ _) (fun i => by
        rcases Nat.lt_or_ge i n with h | h
        · rw [tabB_at h]; exact HB.out _
        · rw [List.getD_eq_getElem?_getD, List.getElem?_eq_none (by rw [tabB_len]; exact h)]; decide) (vr_uis hvb)).mono ?_
      rintro e w12 ⟨hx, hy, rfl, hvx, hvy, hne, hlx, hly, q12⟩
      obtain ⟨w13, hw13⟩ : ∃ w13, (w12.alloc (.cells #[.int .i64 (pa : Int), .int .i64 (pb : Int), .slice (some ⟨hx, 0, none⟩) n n] 24)).alloc (.cells #[.int .i64 (pa : Int), .int .i64 (pb : Int), .slice (some ⟨hy, 0, none⟩) n n] 24) = w13 := ⟨_, rfl⟩
      have q1213 : Q w12 w13 := by rw [← hw13]; exact ((Q.refl w12).cells _ _).cells _ _
      have HP13 : Hid (Q W0 w13 ∧ (UIs w13 gx 0 (tabB n (rowB slpV 1 3 pa S)) ∧ UIs w13 gy 0 (tabB n (colB slpV 1 3 pa pb S)) ∧ UIs w13 hx 0 (tabB n (mvF pa pb dx dy (tabB n (rowB slpV 1 3 pa S)))) ∧ UIs w13 hy 0 (tabB n (mvF pa pb dx dy (tabB n (colB slpV 1 3 pa pb S))))) ∧ Pbb W0 w13 w9.heap.size (pa : Int) (pb : Int) (.slice (some ⟨gx, 0, none⟩) n n) ∧ Pbb W0 w13 (w9.heap.size + 1) (pa : Int) (pb : Int) (.slice (some ⟨gy, 0, none⟩) n n) ∧ Pbb W0 w13 w12.heap.size (pa : Int) (pb : Int) (.slice (some ⟨hx, 0, none⟩) n n) ∧ Pbb W0 w13 (w12.heap.size + 1) (pa : Int) (pb : Int) (.slice (some ⟨hy, 0, none⟩) n n)) := by
        have h := HP10.out
        have qa := (q11.trans q12).trans q1213
        have qq := (h.1.next qa).q
        have ex : tabB n (rowB slpV 1 3 pa (tabB n (mvF pa pb dx dy S))) = tabB n (mvF pa pb dx dy (tabB n (rowB slpV 1 3 pa S))) := tabB_ext fun j hj => by
          have := row_moved (S := S) ha1 hb1 hdx hdy (by rw [← HSZ.out.2.1]; exact hj)
          rw [← HSZ.out.2.1] at this
          exact this
        have ey : tabB n (colB slpV 1 3 pa pb (tabB n (mvF pa pb dx dy S))) = tabB n (mvF pa pb dx dy (tabB n (colB slpV 1 3 pa pb S))) := tabB_ext fun j hj => by
          have := col_moved (S := S) ha1 hb1 hdx hdy (by rw [← HSZ.out.2.1]; exact hj)
          rw [← HSZ.out.2.1] at this
          exact this
        refine ⟨qq, ⟨(vr_uis h.2.1).next qa, (vr_uis h.2.2.1).next qa, by rw [← ex]; exact (vr_uis hvx).next q1213, by rw [← ey]; exact (vr_uis hvy).next q1213⟩, h.2.2.2.1.next qa, h.2.2.2.2.next qa, ⟨?_, ?_, ?_, qq⟩, ⟨?_, ?_, ?_, qq⟩⟩ <;> rw [← hw13] <;> simp [go_sem]
      clear HP10 hvb q11 q12 q1213 hvx hvy hne hlx hly
      go_wp2_with fail
      have h := HP13.out
      refine regionBn9 rfl rfl (V15 := w9.heap.size) (V16 := w9.heap.size + 1) (V18 := w12.heap.size) (V19 := w12.heap.size + 1) (gx := gx) (gy := gy) (hx := hx) (hy := hy) (pa := pa) (pb := pb) (n := n) (dx := dx) (dy := dy) (A := tabB n (rowB slpV 1 3 pa S)) (B := tabB n (colB slpV 1 3 pa pb S)) ⟨rfl, rfl, rfl, rfl, rfl, rfl, rfl, rfl, h.2.2.1.c0, h.2.2.1.c1, h.2.2.1.c2, h.2.2.2.1.c0, h.2.2.2.1.c1, h.2.2.2.1.c2, h.2.2.2.2.1.c0, h.2.2.2.2.1.c1, h.2.2.2.2.1.c2, h.2.2.2.2.2.c0, h.2.2.2.2.2.c1, h.2.2.2.2.2.c2, h.2.1.1, h.2.1.2.1, tabB_len _ _, tabB_len _ _, h.2.1.2.2.1, h.2.1.2.2.2, HSZ.out.1, HSZ.out.2.1, hn2, hdx, hdy⟩ ?_
      intro x v11 v19 qx
      have HX : Hid (Q W0 x) := h.1.trans qx
      clear qx h HP13
      simp only [putAll]
      go_wp2_with fail
      refine bodyPost_ret (v := .bool true) (by simp [results, Try.results4, go_sem]) rfl ⟨rfl, HX.out⟩
end Go.Proofs.Ytpobgkcobgecoab

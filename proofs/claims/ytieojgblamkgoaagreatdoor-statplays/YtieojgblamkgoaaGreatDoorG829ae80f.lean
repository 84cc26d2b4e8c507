/- The document's exact sums: of lists. -/
import Derived.Test.YtieojgblamkgoaaGreatDoorGa4f48a42
import Derived.Test.YtieojgblamkgoaaGreatDoorG6b52728e
import Derived.Test.YtieojgblamkgoaaGreatDoorGab2760b1
import Derived.Test.YtieojgblamkgoaaGreatDoorG48ed55a6
import Derived.Test.YtieojgblamkgoaaGreatDoorGc1d968df
import Derived.Test.YtieojgblamkgoaaGreatDoorG6008b90b
import Derived.Test.YtieojgblamkgoaaGreatDoorG5da8ac6f
namespace Go.Proofs.YtieojgblamkgoaaGreatDoor
open Go.RowKit
set_option linter.unusedVariables false
set_option linter.unusedSimpArgs false

theorem splus_any (l : List Nat) (a B : Nat) (w : World) (ha : a < 4294967296) (hS : SAt w B l) (hn : l.length ≤ 1000000) (hb : ∀ s ∈ l, s < 4294967296) :
    Calls Tryz.prog 96 #[.pointer (some ⟨B, 0, none⟩), .int .u32 (a : Int)] w fun e' w' => e' = .returned (.tuple #[]) ∧ SAt w' B (l ++ [a]) ∧ Fb B w w' := by
  have hz := sumZ_fits hb (by omega)
  have hm := metV_lt l
  have hsn := sumZ_snoc l a
  have hmn := metV_snoc l a
  rcases kind_cases a ha with ⟨h1, h2, h3⟩ | ⟨h1, h2, h3⟩ | ⟨h1, h2, h3⟩ | ⟨h1, h2, h3⟩ | ⟨h1, h2, h3⟩
  · have u := fl_upd _ hm 16 (by decide)
    rw [h1] at hmn
    rw [← hmn] at u
    have e : sumZ (l ++ [a]) = sumZ l := by rw [hsn, unK_odd (by rw [h1]; decide), Int.add_zero]
    by_cases h0 : l = []
    · exact splus_nan0 l a B w ha hS h0 (by omega) h2 h3 e u.1 u.2.1 u.2.2.1 u.2.2.2
    · exact splus_nan l a B w ha hS h0 (by omega) h2 h3 e u.1 u.2.1 u.2.2.1 u.2.2.2
  · have u := fl_upd _ hm 4 (by decide)
    rw [h1] at hmn
    rw [← hmn] at u
    have e : sumZ (l ++ [a]) = sumZ l := by rw [hsn, unK_odd (by rw [h1]; decide), Int.add_zero]
    by_cases h0 : l = []
    · exact splus_pinf0 l a B w ha hS h0 (by omega) h2 h3 e u.1 u.2.1 u.2.2.1 u.2.2.2
    · exact splus_pinf l a B w ha hS h0 (by omega) h2 h3 e u.1 u.2.1 u.2.2.1 u.2.2.2
  · have u := fl_upd _ hm 8 (by decide)
    rw [h1] at hmn
    rw [← hmn] at u
    have e : sumZ (l ++ [a]) = sumZ l := by rw [hsn, unK_odd (by rw [h1]; decide), Int.add_zero]
    by_cases h0 : l = []
    · exact splus_minf0 l a B w ha hS h0 (by omega) h2 h3 e u.1 u.2.1 u.2.2.1 u.2.2.2
    · exact splus_minf l a B w ha hS h0 (by omega) h2 h3 e u.1 u.2.1 u.2.2.1 u.2.2.2
  · have u := fl_upd _ hm 1 (by decide)
    rw [h1] at hmn
    rw [← hmn] at u
    have e : sumZ (l ++ [a]) = sumZ l := by rw [hsn, unK_odd (by rw [h1]; decide), Int.add_zero]
    have hc9 : (((a : Nat) : Int) != 2147483648) = false := by rw [h3]; rfl
    by_cases h0 : l = []
    · exact splus_zero0 l a B w true (-149) false hc9 ha hS h0 (by omega) h2 e u.1 u.2.1 u.2.2.1 u.2.2.2
    · exact splus_zero l a B w true (-149) false hc9 ha hS h0 (by omega) h2 e u.1 u.2.1 u.2.2.1 u.2.2.2
  · have u := fl_upd _ hm 2 (by decide)
    have hfin := kind_fin ha h1
    have hV := Val.sample ha hfin
    have hk : unK a = unZ a := unK_fin h1
    rw [h1] at hmn
    rw [← hmn] at u
    rw [hk] at hsn
    by_cases hs0 : szS a = 0
    · have e : sumZ (l ++ [a]) = sumZ l := by
        rw [hsn, hV.zero.1 hs0, Int.add_zero]
      have hc9 : (((a : Nat) : Int) != 2147483648) = true := by rw [bne_iff_ne]; omega
      rw [hs0] at h2
      by_cases h0 : l = []
      · exact splus_zero0 l a B w _ _ true hc9 ha hS h0 (by omega) h2 e u.1 u.2.1 u.2.2.1 u.2.2.2
      · exact splus_zero l a B w _ _ true hc9 ha hS h0 (by omega) h2 e u.1 u.2.1 u.2.2.1 u.2.2.2
    · have hy : 2 * (unZ a).natAbs < m64 ^ 5 := by
        have h4 := unZ_le hfin
        have h5 := cap_m (n := 1) (by decide)
        rw [Nat.one_mul] at h5
        omega
      by_cases h0 : l = []
      · exact splus_fin0 l a B w _ _ _ hs0 _ hV hsn hz hy ha hS h0 (by omega) h2 h3 u.1 u.2.1 u.2.2.1 u.2.2.2
      · exact splus_fin l a B w _ _ _ hs0 _ hV hsn hz hy ha hS h0 (by omega) h2 h3 u.1 u.2.1 u.2.2.1 u.2.2.2
theorem sat_nil (w : World) : SAt (w.alloc (.cells #[.int .i64 0, .bool false, .slice none 0 0, .int .i64 0, .bool false, .int .i64 0, .bool false, .bool false, .bool false, .bool false] 140)) w.heap.size [] :=
  ⟨0, false, none, 0, 0, 0, false, ⟨⟨by simp [go_sem], by simp [go_sem], by simp [go_sem], by simp [go_sem], by simp [go_sem]⟩, by simp [go_sem], by simp [go_sem]; decide, by simp [go_sem]; decide, by simp [go_sem]; decide, by simp [go_sem]; decide, fun j => by simp [go_sem], by simp [go_sem]⟩, fun h => absurd rfl h⟩
set_option maxHeartbeats 2000000 in
theorem sof_any (v : Value) (S : List Nat) (w : World) (hv : USl w v S) (hn : S.length ≤ 1000000) (hb : ∀ i, S.getD i 0 < 4294967296) :
    Calls Tryz.prog 75 #[v] w fun e w' => e = .returned (.pointer (some ⟨w.heap.size, 0, none⟩)) ∧ SAt w' w.heap.size S ∧ Q w w' := by
  obtain ⟨a, c, rfl⟩ := hv.form
  have HV : Hid (USl w (.slice a S.length c) S) := hv
  have HB : Hid (∀ i, S.getD i 0 < 4294967296) := hb
  clear hv hb
  go_enter Tryz.func75, Tryz.ntmps75
  go_wp2_with fail
  have HS : Hid (SAt _ w.heap.size []) := sat_nil w
  have HQ : Hid (Q w (w.alloc (.cells #[.int .i64 0, .bool false, .slice none 0 0, .int .i64 0, .bool false, .int .i64 0, .bool false, .bool false, .bool false, .bool false] 140))) := (Q.refl w).cells _ _
  generalize w.alloc (.cells #[.int .i64 0, .bool false, .slice none 0 0, .int .i64 0, .bool false, .int .i64 0, .bool false, .bool false, .bool false, .bool false] 140) = y at *
  go_loopg [4] (S.length) (fun gh s4 wr => ∃ i : Nat, s4 = .int .i64 (i : Int) ∧ i ≤ S.length ∧ gh = S.length - i ∧ Hid (SAt wr w.heap.size (S.take i)) ∧ Hid (Q w wr))
  case atStart => exact ⟨0, rfl, by omega, rfl, HS.out, HQ.out⟩
  case round =>
    obtain ⟨i, rfl, hi, rfl, HR, HQr⟩ := hrel
    by_cases hlt : i < S.length
    · obtain ⟨g, o, cap', hsl, hcap, hI⟩ := HV.out.some (by omega)
      injection hsl with hs1 hs2 hs3
      subst hs1 hs3
      clear hs2
      have hc := HQr.out.cell (hI i hlt)
      have hx := HB.out i
      have HT : Hid (S.take (i + 1) = S.take i ++ [S.getD i 0]) := take_snoc hlt
      have HL : Hid ((S.take i).length ≤ 1000000) := by show (S.take i).length ≤ 1000000; rw [List.length_take]; omega
      have HM : Hid (∀ s ∈ S.take i, s < 4294967296) := fun s hs => by
        obtain ⟨j, hj, rfl⟩ := List.getElem_of_mem (List.mem_of_mem_take hs)
        have := HB.out j
        rw [List.getD_eq_getElem?_getD, List.getElem?_eq_getElem hj] at this
        exact this
      generalize S.getD i 0 = x at *
      clear hI
      go_wp2_with fail
      refine (splus_any (S.take i) x w.heap.size _ hx HR.out HL.out HM.out).mono ?_
      rintro e w1 ⟨rfl, h1, h2⟩
      have HR1 : Hid (SAt w1 w.heap.size (S.take (i + 1))) := by
        show SAt w1 w.heap.size (S.take (i + 1))
        rw [HT.out]; exact h1
      have HQ1 : Hid (Q w w1) := h2.q HQr.out (Nat.le_refl _)
      clear h1 h2 hc
      go_wp2_with fail
      go_roundg (S.length - (i + 1))
      case measure => go_light; omega
      case rel => go_light; exact ⟨i + 1, by simp, by omega, rfl, HR1, HQ1⟩
    · obtain rfl : i = S.length := by omega
      have hge : ¬ (S.length : Int) < (S.length : Int) := by omega
      have HR1 : Hid (SAt wr w.heap.size S) := by
        have := HR.out
        rw [List.take_of_length_le (Nat.le_refl _)] at this
        exact this
      clear HR
      go_wp2_with fail
      go_ret
      exact ⟨rfl, HR1.out, HQr.out⟩
end Go.Proofs.YtieojgblamkgoaaGreatDoor
/- The document's Over of an exact sum: it told, divided by a number. (gen_tyw.py) -/
namespace Go.Proofs.YtieojgblamkgoaaGreatDoor
open Go.RowKit
set_option linter.unusedVariables false
set_option linter.unusedSimpArgs false
set_option maxRecDepth 100000

section
variable {P : Program} {ρ : Operand → Value} {x : World} {d : Option Tmp} {ty : TypeId} {ps : String} {af : Array Edge} {g : Option (Nat × Bool)}
theorem run_nckW {j : Nat} {p : Addr} (h : ρ (.tmp j) = .pointer (some p)) : (execOp ρ { dst := d, op := .nilCheck (.tmp j), type := ty, pos := ps, after := af, guard := g }).run P x = .ok (.value (.pointer (some p))) x := by
  simp [execOp, h, go_sem]
theorem run_faW {j b : Nat} (h : ρ (.tmp j) = .pointer (some ⟨b, 0, none⟩)) : (execOp ρ { dst := d, op := .fieldAddr 140 (.tmp j) 0, type := ty, pos := ps, after := af, guard := g }).run Tryz.prog x = .ok (.value (.pointer (some ⟨b, 0, none⟩))) x := by
  simp [execOp, h, go_sem]
theorem run_cvW {j : Nat} {n m : Int} (h : ρ (.tmp j) = .int .u64 n) (hw : IntKind.u32.wrap n = m) : (execOp ρ { dst := d, op := .convert 110 43 (.tmp j), type := ty, pos := ps, after := af, guard := g }).run Tryz.prog x = .ok (.value (.int .u32 m)) x := by
  simp [execOp, h, go_sem, hw]
end
def spR (X : RNum) : Spec := ⟨fun v x => NumAt x v X, fun h q => q.num h⟩
def oOV_0 : Oper := { dst := some 42, op := .call { callee := .value (.func 100), args := #[], argTypes := #[] }, type := 145, pos := "halideref3.go:155", after := #[], guard := none }
def oOV_1 : Oper := { dst := some 43, op := .move (.tmp 0), type := 123, pos := "halideref3.go:155", after := #[], guard := none }
def oOV_2 : Oper := { dst := some 44, op := .nilCheck (.tmp 43), type := 0, pos := "halideref3.go:155", after := #[⟨1, .data⟩], guard := none }
def oOV_3 : Oper := { dst := some 45, op := .fieldAddr 140 (.tmp 44) 0, type := 0, pos := "halideref3.go:155", after := #[⟨2, .data⟩], guard := none }
def oOV_4 : Oper := { dst := some 46, op := .load 138 (.tmp 45), type := 138, pos := "halideref3.go:155", after := #[⟨3, .data⟩], guard := none }
def oOV_5 : Oper := { dst := some 47, op := .load 138 (.tmp 8), type := 138, pos := "halideref3.go:155", after := #[], guard := none }
def oOV_6 : Oper := { dst := some 48, op := .call { callee := .value (.func 102), args := #[.tmp 46, .tmp 47], argTypes := #[138, 138] }, type := 138, pos := "halideref3.go:155", after := #[⟨4, .data⟩, ⟨5, .data⟩, ⟨0, .chain⟩], guard := none }
def oOV_7 : Oper := { dst := some 49, op := .call { callee := .value (.func 101), args := #[.tmp 42, .tmp 48], argTypes := #[145, 138] }, type := 110, pos := "halideref3.go:155", after := #[⟨0, .data⟩, ⟨6, .data⟩, ⟨6, .chain⟩], guard := none }
def oOV_8 : Oper := { dst := some 50, op := .convert 110 43 (.tmp 49), type := 43, pos := "halideref3.go:155", after := #[⟨7, .data⟩], guard := none }
def oOV_9 : Oper := { dst := some 4, op := .assign (.tmp 50), type := 43, pos := "halideref3.go:155", after := #[⟨8, .data⟩, ⟨7, .chain⟩, ⟨0, .phase⟩, ⟨1, .phase⟩, ⟨2, .phase⟩, ⟨3, .phase⟩, ⟨4, .phase⟩, ⟨5, .phase⟩, ⟨6, .phase⟩, ⟨7, .phase⟩, ⟨8, .phase⟩], guard := none }
def oOV_10 : Oper := { dst := some 5, op := .assign (.const (.int .i64 0)), type := 3, pos := "halideref3.go:155", after := #[⟨9, .chain⟩, ⟨0, .phase⟩, ⟨1, .phase⟩, ⟨2, .phase⟩, ⟨3, .phase⟩, ⟨4, .phase⟩, ⟨5, .phase⟩, ⟨6, .phase⟩, ⟨7, .phase⟩, ⟨8, .phase⟩, ⟨9, .phase⟩], guard := none }
def opsOV : List Oper := [oOV_0, oOV_1, oOV_2, oOV_3, oOV_4, oOV_5, oOV_6, oOV_7, oOV_8, oOV_9, oOV_10]
def sOV : List Nat := [42, 43, 44, 45, 46, 47, 48, 49, 50, 4, 5]
def spOV (B V8 : Nat) (X Y : RNum) (Rr : Nat) : List Spec := [spV (.agg #[.int .i64 23, .int .i64 8]), spV (.pointer (some ⟨B, 0, none⟩)), spV (.pointer (some ⟨B, 0, none⟩)), spV (.pointer (some ⟨B, 0, none⟩)), spR X, spR Y, spR (divR X Y), spV (.int .u64 (Rr : Int)), spV (.int .u32 (Rr : Int)), spV (.int .u32 (Rr : Int)), spV (.int .i64 0)]
structure EnvOV (a0 : Act) (w : World) (B V8 : Nat) (X Y : RNum) (Rr : Nat) : Prop where
  h0 : a0.tmps[0]? = some (.pointer (some ⟨B, 0, none⟩))
  h8 : a0.tmps[8]? = some (.pointer (some ⟨V8, 0, none⟩))
  nB : NBox w B X
  n8 : NBox w V8 Y
  fx : few X
  fy : few Y
  eR : roundR (divR X Y) = Rr
  eW : IntKind.u32.wrap (Rr : Int) = (Rr : Int)
def skOV (i : Nat) : Bool := [].contains i
theorem yOV_0 {a0 : Act} {w : World} {B V8 : Nat} {X Y : RNum} {Rr : Nat} (E : EnvOV a0 w B V8 X Y Rr) {R : Exit → Act → World → Prop} {a : Act} {x : World} (q : Q w x) (oth : ∀ j, j ∉ sOV → a.tmps[j]? = a0.tmps[j]?) (dep : ∀ ed ∈ oOV_0.after, Region.binds .any ed = true → ∀ t', sOV[ed.on]? = some t' → ∃ v, a.tmps[t']? = some v ∧ specAt (spOV B V8 X Y Rr) ed.on v x) : Yld Tryz.prog R oOV_0 a x 42 (specAt (spOV B V8 X Y Rr) 0) := by
  refine yld_call (enters_of Tryz.func100 (by kernel_rfl) rfl) (vs := #[]) (by simp) ((f32_any x).mono ?_)
  rintro u x' ⟨rfl, q'⟩
  exact ⟨_, rfl, q', rfl⟩
theorem yOV_1 {a0 : Act} {w : World} {B V8 : Nat} {X Y : RNum} {Rr : Nat} (E : EnvOV a0 w B V8 X Y Rr) {R : Exit → Act → World → Prop} {a : Act} {x : World} (q : Q w x) (oth : ∀ j, j ∉ sOV → a.tmps[j]? = a0.tmps[j]?) (dep : ∀ ed ∈ oOV_1.after, Region.binds .any ed = true → ∀ t', sOV[ed.on]? = some t' → ∃ v, a.tmps[t']? = some v ∧ specAt (spOV B V8 X Y Rr) ed.on v x) : Yld Tryz.prog R oOV_1 a x 43 (specAt (spOV B V8 X Y Rr) 1) := by
  exact yld_move ((oth 0 (by decide)).trans E.h0) rfl
theorem yOV_2 {a0 : Act} {w : World} {B V8 : Nat} {X Y : RNum} {Rr : Nat} (E : EnvOV a0 w B V8 X Y Rr) {R : Exit → Act → World → Prop} {a : Act} {x : World} (q : Q w x) (oth : ∀ j, j ∉ sOV → a.tmps[j]? = a0.tmps[j]?) (dep : ∀ ed ∈ oOV_2.after, Region.binds .any ed = true → ∀ t', sOV[ed.on]? = some t' → ∃ v, a.tmps[t']? = some v ∧ specAt (spOV B V8 X Y Rr) ed.on v x) : Yld Tryz.prog R oOV_2 a x 44 (specAt (spOV B V8 X Y Rr) 2) := by
  obtain ⟨v1, t1, f1⟩ := dep ⟨1, .data⟩ (by simp [oOV_2]) rfl 43 rfl
  have f1 : v1 = (.pointer (some ⟨B, 0, none⟩)) := f1
  subst f1
  exact yld_run (x' := x) rfl (run_nckW (tmp_eval t1)) (Q.refl x) rfl
theorem yOV_3 {a0 : Act} {w : World} {B V8 : Nat} {X Y : RNum} {Rr : Nat} (E : EnvOV a0 w B V8 X Y Rr) {R : Exit → Act → World → Prop} {a : Act} {x : World} (q : Q w x) (oth : ∀ j, j ∉ sOV → a.tmps[j]? = a0.tmps[j]?) (dep : ∀ ed ∈ oOV_3.after, Region.binds .any ed = true → ∀ t', sOV[ed.on]? = some t' → ∃ v, a.tmps[t']? = some v ∧ specAt (spOV B V8 X Y Rr) ed.on v x) : Yld Tryz.prog R oOV_3 a x 45 (specAt (spOV B V8 X Y Rr) 3) := by
  obtain ⟨v2, t2, f2⟩ := dep ⟨2, .data⟩ (by simp [oOV_3]) rfl 44 rfl
  have f2 : v2 = (.pointer (some ⟨B, 0, none⟩)) := f2
  subst f2
  exact yld_run (x' := x) rfl (run_faW (tmp_eval t2)) (Q.refl x) rfl
theorem yOV_4 {a0 : Act} {w : World} {B V8 : Nat} {X Y : RNum} {Rr : Nat} (E : EnvOV a0 w B V8 X Y Rr) {R : Exit → Act → World → Prop} {a : Act} {x : World} (q : Q w x) (oth : ∀ j, j ∉ sOV → a.tmps[j]? = a0.tmps[j]?) (dep : ∀ ed ∈ oOV_4.after, Region.binds .any ed = true → ∀ t', sOV[ed.on]? = some t' → ∃ v, a.tmps[t']? = some v ∧ specAt (spOV B V8 X Y Rr) ed.on v x) : Yld Tryz.prog R oOV_4 a x 46 (specAt (spOV B V8 X Y Rr) 4) := by
  obtain ⟨v3, t3, f3⟩ := dep ⟨3, .data⟩ (by simp [oOV_4]) rfl 45 rfl
  have f3 : v3 = (.pointer (some ⟨B, 0, none⟩)) := f3
  subst f3
  obtain ⟨k, s, p, L, C, e, m, b1, b2⟩ := E.nB.next q
  exact yld_run (x' := x) rfl (run_num (tmp_eval t3) b1) (Q.refl x) b2
theorem yOV_5 {a0 : Act} {w : World} {B V8 : Nat} {X Y : RNum} {Rr : Nat} (E : EnvOV a0 w B V8 X Y Rr) {R : Exit → Act → World → Prop} {a : Act} {x : World} (q : Q w x) (oth : ∀ j, j ∉ sOV → a.tmps[j]? = a0.tmps[j]?) (dep : ∀ ed ∈ oOV_5.after, Region.binds .any ed = true → ∀ t', sOV[ed.on]? = some t' → ∃ v, a.tmps[t']? = some v ∧ specAt (spOV B V8 X Y Rr) ed.on v x) : Yld Tryz.prog R oOV_5 a x 47 (specAt (spOV B V8 X Y Rr) 5) := by
  obtain ⟨k, s, p, L, C, e, m, b1, b2⟩ := E.n8.next q
  exact yld_run (x' := x) rfl (run_num (tmp_eval ((oth 8 (by decide)).trans E.h8)) b1) (Q.refl x) b2
theorem yOV_6 {a0 : Act} {w : World} {B V8 : Nat} {X Y : RNum} {Rr : Nat} (E : EnvOV a0 w B V8 X Y Rr) {R : Exit → Act → World → Prop} {a : Act} {x : World} (q : Q w x) (oth : ∀ j, j ∉ sOV → a.tmps[j]? = a0.tmps[j]?) (dep : ∀ ed ∈ oOV_6.after, Region.binds .any ed = true → ∀ t', sOV[ed.on]? = some t' → ∃ v, a.tmps[t']? = some v ∧ specAt (spOV B V8 X Y Rr) ed.on v x) : Yld Tryz.prog R oOV_6 a x 48 (specAt (spOV B V8 X Y Rr) 6) := by
  obtain ⟨v4, t4, f4⟩ := dep ⟨4, .data⟩ (by simp [oOV_6]) rfl 46 rfl
  have f4 : (spR X).p v4 x := f4
  obtain ⟨v5, t5, f5⟩ := dep ⟨5, .data⟩ (by simp [oOV_6]) rfl 47 rfl
  have f5 : (spR Y).p v5 x := f5
  refine yld_call (enters_of Tryz.func102 (by kernel_rfl) rfl) (args2 t4 t5) ((divnum_any _ _ _ _ x f4 f5 E.fx E.fy).mono ?_)
  rintro u x' ⟨v, rfl, h, q'⟩
  exact ⟨v, rfl, q', h⟩
theorem yOV_7 {a0 : Act} {w : World} {B V8 : Nat} {X Y : RNum} {Rr : Nat} (E : EnvOV a0 w B V8 X Y Rr) {R : Exit → Act → World → Prop} {a : Act} {x : World} (q : Q w x) (oth : ∀ j, j ∉ sOV → a.tmps[j]? = a0.tmps[j]?) (dep : ∀ ed ∈ oOV_7.after, Region.binds .any ed = true → ∀ t', sOV[ed.on]? = some t' → ∃ v, a.tmps[t']? = some v ∧ specAt (spOV B V8 X Y Rr) ed.on v x) : Yld Tryz.prog R oOV_7 a x 49 (specAt (spOV B V8 X Y Rr) 7) := by
  obtain ⟨v0, t0, f0⟩ := dep ⟨0, .data⟩ (by simp [oOV_7]) rfl 42 rfl
  have f0 : v0 = (.agg #[.int .i64 23, .int .i64 8]) := f0
  subst f0
  obtain ⟨v6, t6, f6⟩ := dep ⟨6, .data⟩ (by simp [oOV_7]) rfl 48 rfl
  have f6 : (spR (divR X Y)).p v6 x := f6
  refine yld_call (enters_of Tryz.func101 (by kernel_rfl) rfl) (args2 t0 t6) ((round32_any _ _ x f6 (divR_fits E.fx E.fy)).mono ?_)
  rintro u x' ⟨rfl, q'⟩
  exact ⟨_, rfl, q', by rw [E.eR]; rfl⟩
theorem yOV_8 {a0 : Act} {w : World} {B V8 : Nat} {X Y : RNum} {Rr : Nat} (E : EnvOV a0 w B V8 X Y Rr) {R : Exit → Act → World → Prop} {a : Act} {x : World} (q : Q w x) (oth : ∀ j, j ∉ sOV → a.tmps[j]? = a0.tmps[j]?) (dep : ∀ ed ∈ oOV_8.after, Region.binds .any ed = true → ∀ t', sOV[ed.on]? = some t' → ∃ v, a.tmps[t']? = some v ∧ specAt (spOV B V8 X Y Rr) ed.on v x) : Yld Tryz.prog R oOV_8 a x 50 (specAt (spOV B V8 X Y Rr) 8) := by
  obtain ⟨v7, t7, f7⟩ := dep ⟨7, .data⟩ (by simp [oOV_8]) rfl 49 rfl
  have f7 : v7 = (.int .u64 (Rr : Int)) := f7
  subst f7
  exact yld_run (x' := x) rfl (run_cvW (tmp_eval t7) E.eW) (Q.refl x) rfl
theorem yOV_9 {a0 : Act} {w : World} {B V8 : Nat} {X Y : RNum} {Rr : Nat} (E : EnvOV a0 w B V8 X Y Rr) {R : Exit → Act → World → Prop} {a : Act} {x : World} (q : Q w x) (oth : ∀ j, j ∉ sOV → a.tmps[j]? = a0.tmps[j]?) (dep : ∀ ed ∈ oOV_9.after, Region.binds .any ed = true → ∀ t', sOV[ed.on]? = some t' → ∃ v, a.tmps[t']? = some v ∧ specAt (spOV B V8 X Y Rr) ed.on v x) : Yld Tryz.prog R oOV_9 a x 4 (specAt (spOV B V8 X Y Rr) 9) := by
  obtain ⟨v8, t8, f8⟩ := dep ⟨8, .data⟩ (by simp [oOV_9]) rfl 50 rfl
  have f8 : v8 = (.int .u32 (Rr : Int)) := f8
  subst f8
  exact yld_run (x' := x) rfl (by rw [← tmp_eval t8]; rfl) (Q.refl x) rfl
theorem yOV_10 {a0 : Act} {w : World} {B V8 : Nat} {X Y : RNum} {Rr : Nat} (E : EnvOV a0 w B V8 X Y Rr) {R : Exit → Act → World → Prop} {a : Act} {x : World} (q : Q w x) (oth : ∀ j, j ∉ sOV → a.tmps[j]? = a0.tmps[j]?) (dep : ∀ ed ∈ oOV_10.after, Region.binds .any ed = true → ∀ t', sOV[ed.on]? = some t' → ∃ v, a.tmps[t']? = some v ∧ specAt (spOV B V8 X Y Rr) ed.on v x) : Yld Tryz.prog R oOV_10 a x 5 (specAt (spOV B V8 X Y Rr) 10) := by
  exact yld_run (x' := x) rfl rfl (Q.refl x) rfl
theorem hopOV {a0 : Act} {w : World} {B V8 : Nat} {X Y : RNum} {Rr : Nat} (E : EnvOV a0 w B V8 X Y Rr) {R : Exit → Act → World → Prop} : ∀ (i t : Nat) (o : Oper) (a : Act) (x : World), skOV i = false → sOV[i]? = some t → opsOV[i]? = some o → Q w x → (∀ j, j ∉ sOV → a.tmps[j]? = a0.tmps[j]?) → (∀ ed ∈ o.after, Region.binds .any ed = true → ∀ t', sOV[ed.on]? = some t' → ∃ v, a.tmps[t']? = some v ∧ specAt (spOV B V8 X Y Rr) ed.on v x) → Yld Tryz.prog R o a x t (specAt (spOV B V8 X Y Rr) i)
  | 0, t, o, a, x, hi, ht, ho, q, oth, dep => by
    have e1 : oOV_0 = o := Option.some.inj ho
    have e2 : 42 = t := Option.some.inj ht
    subst e1 e2
    exact yOV_0 E q oth dep
  | 1, t, o, a, x, hi, ht, ho, q, oth, dep => by
    have e1 : oOV_1 = o := Option.some.inj ho
    have e2 : 43 = t := Option.some.inj ht
    subst e1 e2
    exact yOV_1 E q oth dep
  | 2, t, o, a, x, hi, ht, ho, q, oth, dep => by
    have e1 : oOV_2 = o := Option.some.inj ho
    have e2 : 44 = t := Option.some.inj ht
    subst e1 e2
    exact yOV_2 E q oth dep
  | 3, t, o, a, x, hi, ht, ho, q, oth, dep => by
    have e1 : oOV_3 = o := Option.some.inj ho
    have e2 : 45 = t := Option.some.inj ht
    subst e1 e2
    exact yOV_3 E q oth dep
  | 4, t, o, a, x, hi, ht, ho, q, oth, dep => by
    have e1 : oOV_4 = o := Option.some.inj ho
    have e2 : 46 = t := Option.some.inj ht
    subst e1 e2
    exact yOV_4 E q oth dep
  | 5, t, o, a, x, hi, ht, ho, q, oth, dep => by
    have e1 : oOV_5 = o := Option.some.inj ho
    have e2 : 47 = t := Option.some.inj ht
    subst e1 e2
    exact yOV_5 E q oth dep
  | 6, t, o, a, x, hi, ht, ho, q, oth, dep => by
    have e1 : oOV_6 = o := Option.some.inj ho
    have e2 : 48 = t := Option.some.inj ht
    subst e1 e2
    exact yOV_6 E q oth dep
  | 7, t, o, a, x, hi, ht, ho, q, oth, dep => by
    have e1 : oOV_7 = o := Option.some.inj ho
    have e2 : 49 = t := Option.some.inj ht
    subst e1 e2
    exact yOV_7 E q oth dep
  | 8, t, o, a, x, hi, ht, ho, q, oth, dep => by
    have e1 : oOV_8 = o := Option.some.inj ho
    have e2 : 50 = t := Option.some.inj ht
    subst e1 e2
    exact yOV_8 E q oth dep
  | 9, t, o, a, x, hi, ht, ho, q, oth, dep => by
    have e1 : oOV_9 = o := Option.some.inj ho
    have e2 : 4 = t := Option.some.inj ht
    subst e1 e2
    exact yOV_9 E q oth dep
  | 10, t, o, a, x, hi, ht, ho, q, oth, dep => by
    have e1 : oOV_10 = o := Option.some.inj ho
    have e2 : 5 = t := Option.some.inj ht
    subst e1 e2
    exact yOV_10 E q oth dep
  | i + 11, t, o, a, x, hi, ht, ho, q, oth, dep => by cases ho
theorem keyOV : ∀ i, i < 11 → ((opsOV[i]?).bind (fun o : Oper => o.guard) = none ∧ skOV i = false) := by decide +kernel
theorem hguOV {B V8 : Nat} {X Y : RNum} {Rr : Nat} : ∀ (i : Nat) (o : Oper) (g : Nat) (b : Bool), opsOV[i]? = some o → o.guard = some (g, b) → ∀ v x, specAt (spOV B V8 X Y Rr) g v x → (v = .bool b ↔ skOV i = false) := by
  intro i o g b ho hg v x hf
  have h := keyOV i (List.getElem?_eq_some_iff.1 ho).1
  rw [ho] at h
  simp only [Option.bind_some] at h
  rw [hg] at h
  rcases h with ⟨h, _⟩
  · cases h
theorem hgnOV : ∀ (i : Nat) (o : Oper), opsOV[i]? = some o → o.guard = none → skOV i = false := by
  intro i o ho hg
  have h := keyOV i (List.getElem?_eq_some_iff.1 ho).1
  rw [ho] at h
  simp only [Option.bind_some] at h
  rw [hg] at h
  rcases h with ⟨_, h⟩
  · exact h
theorem hskOV {B V8 : Nat} {X Y : RNum} {Rr : Nat} : ∀ (i : Nat) (x : World), skOV i = true → specAt (spOV B V8 X Y Rr) i undef x := by
  intro i x h
  cases h
theorem regionOV {id : Nat} {l : List Oper} {R : Exit → Act → World → Prop} {a0 : Act} {w : World} {B V8 : Nat} {X Y : RNum} {Rr : Nat} (hl : l = opsOV) (hsz : a0.tmps.size = 51) (E : EnvOV a0 w B V8 X Y Rr)
    (hR : ∀ (a : Act) x, Q w x → a.defers = a0.defers → a.tmps[4]? = some (.int .u32 (Rr : Int)) → a.tmps[5]? = some (.int .i64 0) → R .normal a x) :
    (Code.region id l.toArray true).wp Tryz.prog R a0 w := by
  subst hl
  refine wp_region_factsS sOV (specAt (spOV B V8 X Y Rr)) skOV (by kernel_rfl) (by decide +kernel) (by decide) (fun t ht => ?_) specAt.next hguOV hgnOV hskOV (hopOV E) (fun a x q size defers other facts => ?_)
  · rw [hsz]
    revert t
    decide
  · obtain ⟨v9, t9, f9⟩ := facts 9 4 rfl
    have f9 : v9 = .int .u32 (Rr : Int) := f9
    subst f9
    obtain ⟨v10, t10, f10⟩ := facts 10 5 rfl
    have f10 : v10 = .int .i64 0 := f10
    subst f10
    exact ⟨hR a x q defers t9 t10⟩
/-- A quotient, rounded, is the units' sample. -/
theorem Val.over {s : Bool} {n : Nat} {e z : Int} (h : Val s n e z) (h0 : z ≠ 0) {k : Nat} (hk : 0 < k) : roundR (divR (.fin s n e false) (.fin false k 0 false)) = exV z k := by
  have hn : n ≠ 0 := fun g => h0 (h.zero.1 g)
  have zn : zeroB (.fin s n e false) = false := by show (decide (n = 0) && !false) = false; rw [decide_eq_false hn]; rfl
  have zk : zeroB (.fin false k 0 false) = false := by show (decide (k = 0) && !false) = false; rw [decide_eq_false (by omega)]; rfl
  have hd : divR (.fin s n e false) (.fin false k 0 false) = .fin (s != false) (n * 2 ^ shV n k / k) (e - 0 - (shV n k : Int)) (!decide (n * 2 ^ shV n k % k = 0)) := by
    show (if zeroB (.fin s n e false) = true ∨ zeroB (.fin false k 0 false) = true then _ else _) = _
    rw [if_neg (by rw [zn, zk]; simp)]
  rw [hd]
  show Ieee.single.word (s != false) (rungOf Ieee.single (2 * (n * 2 ^ shV n k / k) + (!decide (n * 2 ^ shV n k % k = 0)).toNat) (e - 0 - (shV n k : Int) - 1)) = _
  have hq := quo_big hn (show k ≠ 0 by omega)
  have hsq : 2 * (n * 2 ^ shV n k / k) + (!decide (n * 2 ^ shV n k % k = 0)).toNat = sqV n k (shV n k) := by
    unfold sqV
    by_cases g : n * 2 ^ shV n k % k = 0
    · rw [if_pos g, decide_eq_true g]; rfl
    · rw [if_neg g, decide_eq_false g]; rfl
  have hlo := h.lo
  rw [hsq, Int.sub_zero, ex_ref (j := (e + 151).toNat) (by omega) hk (Nat.le_trans (by decide) hq), h.size]
  unfold exV
  rw [← h.sign h0]
  cases s <;> rfl
theorem few_val {s : Bool} {n : Nat} {e z : Int} (h : Val s n e z) (hz : 2 * z.natAbs < m64 ^ 5) : few (.fin s n e false) := by
  have h1 := h.le
  have h2 := blen_fits hz
  have h3 : blen n ≤ blen z.natAbs := blen_le (Nat.lt_of_le_of_lt h1 (blen_lt _))
  exact ⟨by omega, by have := h.lo; omega, by have := h.hi; omega, rfl⟩
theorem few_int {k : Nat} (h : k ≤ 1000000) : few (.fin false k 0 false) := ⟨Nat.le_trans (blen_le (k := 20) (by omega)) (by decide), by decide, by decide, rfl⟩
set_option maxHeartbeats 8000000 in
theorem sover_any (l : List Nat) (B : Nat) (w : World) (hS : SAt w B l) (h0 : l ≠ []) (hz : 2 * (sumZ l).natAbs < m64 ^ 5) (hn : l.length ≤ 1000000) (k : Nat) (k1 : 1 ≤ k) (k2 : k ≤ 1000000) :
    Calls Tryz.prog 76 #[.pointer (some ⟨B, 0, none⟩), .int .i64 (k : Int)] w fun e w' => e = .returned (.tuple #[.int .u32 (sumV l k : Nat), .int .i64 0]) ∧ Q w w' := by
  have HS : Hid (SAt w B l) := hS
  have HP : Hid _ := special_any l B w hS
  have HT : Hid (∀ x, Q w x → Calls Tryz.prog 95 #[.pointer (some ⟨B, 0, none⟩)] x fun e w' => e = .returned (.int .u32 (sumV l 1 : Nat)) ∧ Q x w') := fun x q => told_any l B x (hS.next q) hz hn
  obtain ⟨k0, s, p, L, C, e, m, h1, h2⟩ := hS
  have d5 := h1.n
  have c0 := h1.b.c0
  have c1 := h1.b.c1
  have c2 := h1.b.c2
  have c3 := h1.b.c3
  have c4 := h1.b.c4
  have hb0 : ((l.length : Int) == 0) = false := by
    rw [beq_eq_false_iff_ne]
    have : l.length ≠ 0 := fun g => h0 (List.eq_nil_of_length_eq_zero g)
    omega
  by_cases hm : metV l < 4
  · have HV : Hid _ := sumV_fin hm k
    have HV1 : Hid _ := sumV_fin hm 1
    rw [decide_eq_false (show ¬ 4 ≤ metV l by omega), show spcV (metV l) = 0 from if_pos hm] at HP
    obtain ⟨n, hn1, hv1⟩ := h2 h0
    have HN : Hid (NumAt w (num5 k0 s p L C e m) (.fin s n e false)) := hn1
    by_cases hz0 : sumZ l = 0
    · have hn0 : n = 0 := hv1.zero.2 hz0
      have HR : Hid (sumV l 1 = sumV l k) := by
        show sumV l 1 = sumV l k
        rw [HV.out, HV1.out]
        simp [hz0]
      clear h1 h2 hm HV HV1 h0 hz hn1 hv1 hz0
      go_enter Tryz.func76, Tryz.ntmps76
      go_wp2_with fail
      refine Calls.mono HP.out ?_
      rintro e1 w1 ⟨rfl, rfl⟩
      go_wp2_with fail
      refine (zero_q _ _ _ HN.out).mono ?_
      rintro e1 w2 ⟨rfl, q2⟩
      rw [zeroB_fin, decide_eq_true hn0]
      have HQ2 : Hid (Q w1 w2) := q2
      go_wp2_with fail
      refine (HT.out _ HQ2.out).mono ?_
      rintro e1 w3 ⟨rfl, q3⟩
      rw [HR.out]
      have HQ3 : Hid (Q w1 w3) := HQ2.out.trans q3
      clear q2 q3
      go_wp2_with fail
      go_ret2
      exact ⟨rfl, HQ3.out⟩
    · have hn0 : n ≠ 0 := fun g => hz0 (hv1.zero.1 g)
      have HR : Hid (roundR (divR (.fin s n e false) (.fin false k 0 false)) = sumV l k) := by
        show _ = sumV l k
        rw [HV.out, if_pos hz0, hv1.over hz0 (by omega)]
      have hlt : sumV l k < 4294967296 := by rw [← HR.out]; exact roundR_lt _
      have HFx : Hid (few (.fin s n e false)) := few_val hv1 hz
      have HFy : Hid (few (.fin false k 0 false)) := few_int k2
      have ek : IntKind.u64.wrap (k : Int) = (k : Int) := by rw [IntKind.wrap_u64]; omega
      have HBx : Hid (NBox w B (.fin s n e false)) := ⟨k0, s, p, L, C, e, m, h1.b, hn1⟩
      clear h1 h2 hm HV HV1 h0 hz hn1 hv1 hz0 HT HS
      generalize sumV l k = Rr at *
      go_enter Tryz.func76, Tryz.ntmps76
      go_wp2_with fail
      refine Calls.mono HP.out ?_
      rintro e1 w1 ⟨rfl, rfl⟩
      go_wp2_with fail
      refine (zero_q _ _ _ HN.out).mono ?_
      rintro e1 w2 ⟨rfl, q2⟩
      rw [zeroB_fin, decide_eq_false hn0]
      have HQ2 : Hid (Q w1 w2) := q2
      clear q2 c0 c1 c2 c3 c4 d5
      go_wp2_with fail
      refine (natof_nat k w2 (by omega)).mono ?_
      rintro e1 w3 ⟨v, rfl, hv, q3⟩
      obtain ⟨pv, bv, Lv, Cv, rfl, hvI⟩ := hv
      have HNk : Hid (NatAt w3 (.slice pv Lv Cv) k) := ⟨pv, bv, Lv, Cv, rfl, hvI⟩
      have HQ3 : Hid (Q w1 w3) := HQ2.out.trans q3
      clear q3 hvI
      have q34 : Q w3 (w3.alloc (.cells #[.int .i64 2, .bool false, .slice pv Lv Cv, .int .i64 0, .bool false] 138)) := (Q.refl w3).cells _ _
      have n8 : NBox (w3.alloc (.cells #[.int .i64 2, .bool false, .slice pv Lv Cv, .int .i64 0, .bool false] 138)) w3.heap.size (.fin false k 0 false) := by
        refine ⟨2, false, pv, Lv, Cv, 0, false, ⟨?_, ?_, ?_, ?_, ?_⟩, ⟨_, rfl, q34.nat HNk.out⟩⟩ <;> simp [go_sem]
      have HN8 : Hid _ := n8
      have HQ4 : Hid (Q w1 (w3.alloc (.cells #[.int .i64 2, .bool false, .slice pv Lv Cv, .int .i64 0, .bool false] 138))) := HQ3.out.trans q34
      clear n8 q34
      go_wp2_with fail
      refine regionOV (B := B) (V8 := w3.heap.size) (X := .fin s n e false) (Y := .fin false k 0 false) (Rr := Rr) rfl (by simp) ⟨rfl, rfl, HBx.out.next HQ4.out, HN8.out, HFx.out, HFy.out, HR.out, by rw [IntKind.wrap_u32]; omega⟩ ?_
      intro a x q4 hdef t4 t5
      have H5 : Hid (Q w1 x) := HQ4.out.trans q4
      clear q4
      go_wp2_with fail
      obtain ⟨tm, dd⟩ := a
      have df : dd = [] := hdef
      subst df
      have t4' : tm[4]? = some (.int .u32 (Rr : Int)) := t4
      have t5' : tm[5]? = some (.int .i64 0) := t5
      refine bodyPost_ret (v := .tuple #[.int .u32 (Rr : Nat), .int .i64 0]) (by simp [results, Tryz.results76, go_sem, t4', t5']) rfl ⟨rfl, H5.out⟩
  · have HR : Hid (sumV l k = spcV (metV l)) := sumV_spc hm k
    rw [decide_eq_true (show 4 ≤ metV l by omega)] at HP
    generalize spcV (metV l) = V at *
    clear h1 h2 hm hz h0
    rw [HR.out]
    go_enter Tryz.func76, Tryz.ntmps76
    go_wp2_with fail
    refine Calls.mono HP.out ?_
    rintro e1 w1 ⟨rfl, rfl⟩
    go_wp2_with fail
    go_ret2
    exact ⟨rfl, Q.refl _⟩
end Go.Proofs.YtieojgblamkgoaaGreatDoor
/- Keys of samples as plain numbers; what Key and FromKey return. -/
namespace Go.Proofs.YtieojgblamkgoaaGreatDoor
open Go.RowKit

def keyN (s : Nat) : Nat := if s < 2147483648 then s + 2147483648 else 4294967295 - s
def fkeyN (k : Nat) : Nat := if 2147483648 ≤ k then k - 2147483648 else 4294967295 - k
theorem keyN_lt {s : Nat} (h : s < 4294967296) : keyN s < 4294967296 := by unfold keyN; split <;> omega
theorem fkeyN_lt {s : Nat} (h : s < 4294967296) : fkeyN s < 4294967296 := by unfold fkeyN; split <;> omega
theorem keyV_N {s : Nat} (h : s < 4294967296) : keyV (s : Int) = (keyN s : Int) := by
  unfold keyN
  by_cases g : s < 2147483648
  · rw [keyV_lo (by omega), if_pos g]; omega
  · rw [keyV_hi (by omega), if_neg g]; omega
theorem keyN_inj {a b : Nat} (ha : a < 4294967296) (hb : b < 4294967296) (h : keyN a = keyN b) : a = b := by
  unfold keyN at h; split at h <;> split at h <;> omega
theorem fkey_key {s : Nat} (h : s < 4294967296) : fkeyN (keyN s) = s := by
  unfold keyN fkeyN; split <;> split <;> omega
theorem key_fkey {k : Nat} (h : k < 4294967296) : keyN (fkeyN k) = k := by
  unfold keyN fkeyN; split <;> split <;> omega

theorem not_hi (k : Int) (h0 : 2147483648 ≤ k) (h1 : k ≤ 4294967295) : bits .andNot .u32 k 2147483648 = k - 2147483648 := by go_bits2
set_option maxHeartbeats 400000 in
theorem fromkey_any (k : Nat) (h1 : k < 4294967296) (w : World) :
    Calls Tryz.prog 64 #[.int .u32 k] w fun e w' => e = .returned (.int .u32 (fkeyN k : Nat)) ∧ w' = w := by
  by_cases h : k < 2147483648
  · have e1 := and_lo k (by omega) (by omega)
    go_enter Tryz.func64, Tryz.ntmps64
    go_wp2
    go_ret
    exact ⟨ret_int (by unfold fkeyN; rw [if_neg (by omega)]; omega), rfl⟩
  · have e1 := and_hi k (by omega) (by omega)
    have e2 := not_hi k (by omega) (by omega)
    go_enter Tryz.func64, Tryz.ntmps64
    go_wp2
    go_ret
    exact ⟨ret_int (by unfold fkeyN; rw [if_pos (by omega)]; omega), rfl⟩
set_option maxHeartbeats 400000 in
theorem keyn_any (s : Nat) (h1 : s < 4294967296) (w : World) :
    Calls Tryz.prog 81 #[.int .u32 s] w fun e w' => e = .returned (.int .u32 (keyN s : Nat)) ∧ w' = w := by
  have := key_any s (by omega) (by omega) w
  rw [keyV_N h1] at this
  exact this
end Go.Proofs.YtieojgblamkgoaaGreatDoor
/- Ranks by key, plain: the sample of rank k; what rises, what is turned round. -/
namespace Go.Proofs.YtieojgblamkgoaaGreatDoor
open Go.RowKit
set_option linter.unusedVariables false

/-- Samples in the order of their keys. -/
def leK (x y : Nat) : Bool := decide (keyN x ≤ keyN y)
def rkL (L : List Nat) : List Nat := L.mergeSort leK
/-- The one of rank k. -/
def rkV (L : List Nat) (k : Nat) : Nat := (rkL L).getD k 0
theorem leK_trans (a b c : Nat) (h1 : leK a b = true) (h2 : leK b c = true) : leK a c = true := by
  unfold leK at *; simp only [decide_eq_true_eq] at *; omega
theorem leK_total (a b : Nat) : (leK a b || leK b a) = true := by
  unfold leK; simp only [Bool.or_eq_true, decide_eq_true_eq]; omega
theorem rkL_perm (L : List Nat) : (rkL L).Perm L := List.mergeSort_perm L leK
theorem rkL_len (L : List Nat) : (rkL L).length = L.length := (rkL_perm L).length_eq
theorem rkL_sorted (L : List Nat) : (rkL L).Pairwise (fun a b => leK a b = true) := List.pairwise_mergeSort leK_trans leK_total L
/-- How many have a key of at most t. -/
def cntK (L : List Nat) (t : Nat) : Nat := L.countP (fun s => decide (keyN s ≤ t))
theorem cntK_perm {L M : List Nat} (h : L.Perm M) (t : Nat) : cntK L t = cntK M t := h.countP_eq _
theorem sorted_cnt : ∀ (s : List Nat) (k t : Nat), s.Pairwise (fun a b => leK a b = true) → k < s.length → (keyN (s.getD k 0) ≤ t ↔ k < cntK s t) := by
  intro s
  induction s with
  | nil => intro k t _ h; simp at h
  | cons a l ih =>
    intro k t hp hk
    rw [List.pairwise_cons] at hp
    obtain ⟨h1, h2⟩ := hp
    cases k with
    | zero =>
      rw [List.getD_cons_zero]
      unfold cntK
      constructor
      · intro h
        rw [List.countP_cons_of_pos (by simpa using h)]; omega
      · intro h
        rcases Nat.lt_or_ge t (keyN a) with g | g
        · exfalso
          rw [List.countP_cons_of_neg (by simp; omega)] at h
          obtain ⟨b, hb, hb'⟩ := List.countP_pos_iff.1 h
          have := h1 b hb
          unfold leK at this
          simp only [decide_eq_true_eq] at this hb'
          omega
        · exact g
    | succ k =>
      rw [List.getD_cons_succ]
      have hk' : k < l.length := by simpa using hk
      have := ih k t h2 hk'
      by_cases g : keyN a ≤ t
      · unfold cntK at this ⊢
        rw [List.countP_cons_of_pos (by simpa using g), this]; omega
      · have hz : cntK l t = 0 := by
          unfold cntK
          rw [List.countP_eq_zero]
          intro b hb hb'
          have := h1 b hb
          unfold leK at this
          simp only [decide_eq_true_eq] at this hb'
          omega
        unfold cntK at this hz ⊢
        rw [List.countP_cons_of_neg (by simpa using g), this, hz]
        omega
theorem rk_le {L : List Nat} {k t : Nat} (h : k < L.length) : keyN (rkV L k) ≤ t ↔ k < cntK L t := by
  unfold rkV
  rw [sorted_cnt (rkL L) k t (rkL_sorted L) (by rw [rkL_len]; exact h), cntK_perm (rkL_perm L)]
theorem getD_mem {L : List Nat} {k : Nat} (h : k < L.length) : L.getD k 0 ∈ L := by
  rw [List.getD_eq_getElem?_getD, List.getElem?_eq_getElem h]; exact List.getElem_mem h
theorem rk_mem {L : List Nat} {k : Nat} (h : k < L.length) : rkV L k ∈ L := (rkL_perm L).mem_iff.1 (getD_mem (by rw [rkL_len]; exact h))
theorem rk_lt {L : List Nat} {k : Nat} (h : k < L.length) (hL : ∀ s ∈ L, s < 4294967296) : rkV L k < 4294967296 := hL _ (rk_mem h)
/-- Whatever is sorted and has the same samples is that list. -/
theorem sorted_eq {s L : List Nat} (hp : s.Perm L) (hs : s.Pairwise (fun a b => leK a b = true)) (hL : ∀ x ∈ L, x < 4294967296) : s = rkL L := by
  have hl : s.length = (rkL L).length := by rw [rkL_len]; exact hp.length_eq
  apply List.ext_getElem hl
  intro i h1 h2
  have e1 : s[i] = s.getD i 0 := by rw [List.getD_eq_getElem?_getD, List.getElem?_eq_getElem h1]; rfl
  have e2 : (rkL L)[i] = (rkL L).getD i 0 := by rw [List.getD_eq_getElem?_getD, List.getElem?_eq_getElem h2]; rfl
  rw [e1, e2]
  have hc : ∀ t, keyN (s.getD i 0) ≤ t ↔ keyN ((rkL L).getD i 0) ≤ t := fun t => by
    rw [sorted_cnt s i t hs h1, sorted_cnt (rkL L) i t (rkL_sorted L) h2, cntK_perm hp, cntK_perm (rkL_perm L)]
  have m1 : s.getD i 0 < 4294967296 := hL _ (hp.mem_iff.1 (getD_mem h1))
  have m2 : (rkL L).getD i 0 < 4294967296 := hL _ ((rkL_perm L).mem_iff.1 (getD_mem h2))
  have a1 := (hc (keyN (s.getD i 0))).1 (Nat.le_refl _)
  have a2 := (hc (keyN ((rkL L).getD i 0))).2 (Nat.le_refl _)
  exact keyN_inj m1 m2 (by omega)
end Go.Proofs.YtieojgblamkgoaaGreatDoor
/- stat, plain: what is told of a list of samples: numbers, NaNs, classes, ends. -/
namespace Go.Proofs.YtieojgblamkgoaaGreatDoor
open Go.RowKit
set_option linter.unusedVariables false

/-- Those that are no NaNs. -/
def numL (L : List Nat) : List Nat := L.filter fun s => !nanN s
def nanC (L : List Nat) : Nat := L.countP fun s => nanN s
/-- A sample's class. -/
def clsN (b s : Nat) : Nat := keyN s / 2 ^ (32 - b)
def clsC (b : Nat) (L : List Nat) (j : Nat) : Nat := L.countP fun s => decide (clsN b s = j)
theorem cls_lt {b s : Nat} (hb : b ≤ 12) (hs : s < 4294967296) : clsN b s < 2 ^ b := by
  unfold clsN
  have h1 := keyN_lt hs
  have h2 : (4294967296 : Nat) = 2 ^ b * 2 ^ (32 - b) := by rw [← Nat.pow_add, show b + (32 - b) = 32 by omega]
  rw [Nat.div_lt_iff_lt_mul (Nat.two_pow_pos _)]
  omega
theorem clsC_le (b : Nat) (L : List Nat) (j : Nat) : clsC b L j ≤ L.length := List.countP_le_length
theorem clsC_nil (b j : Nat) : clsC b [] j = 0 := rfl
theorem clsC_append (b : Nat) (L M : List Nat) (j : Nat) : clsC b (L ++ M) j = clsC b L j + clsC b M j := by unfold clsC; exact List.countP_append
theorem clsC_snoc (b : Nat) (L : List Nat) (s j : Nat) : clsC b (L ++ [s]) j = clsC b L j + if clsN b s = j then 1 else 0 := by
  rw [clsC_append]
  unfold clsC
  simp [List.countP_cons]
theorem nanC_append (L M : List Nat) : nanC (L ++ M) = nanC L + nanC M := by unfold nanC; exact List.countP_append
theorem numL_append (L M : List Nat) : numL (L ++ M) = numL L ++ numL M := by unfold numL; exact List.filter_append ..
theorem numL_mem {L : List Nat} {s : Nat} (h : s ∈ numL L) : s ∈ L ∧ nanN s = false := by
  unfold numL at h
  rw [List.mem_filter] at h
  exact ⟨h.1, by simpa using h.2⟩
theorem num_nan : ∀ L : List Nat, (numL L).length + nanC L = L.length
  | [] => rfl
  | a :: L => by
    have ih := num_nan L
    unfold numL nanC at *
    rw [List.filter_cons, List.countP_cons]
    cases nanN a <;> simp <;> omega
/-- The least key and the greatest. -/
def lowK (L : List Nat) : Nat := (numL L).foldl (fun m s => min m (keyN s)) 4294967295
def topK (L : List Nat) : Nat := (numL L).foldl (fun m s => max m (keyN s)) 0
theorem foldmin_le {a b : Nat} (h : a ≤ b) : ∀ l : List Nat, l.foldl (fun m s => min m (keyN s)) a = min a (l.foldl (fun m s => min m (keyN s)) b)
  | [] => by show a = min a b; omega
  | s :: l => by
    rw [List.foldl_cons, List.foldl_cons]
    rw [foldmin_le (a := min a (keyN s)) (b := min b (keyN s)) (by omega) l, foldmin_le (a := min b (keyN s)) (b := b) (by omega) l]
    omega
theorem foldmax_le {a b : Nat} (h : b ≤ a) : ∀ l : List Nat, l.foldl (fun m s => max m (keyN s)) a = max a (l.foldl (fun m s => max m (keyN s)) b)
  | [] => by show a = max a b; omega
  | s :: l => by
    rw [List.foldl_cons, List.foldl_cons]
    rw [foldmax_le (a := max a (keyN s)) (b := max b (keyN s)) (by omega) l, foldmax_le (a := max b (keyN s)) (b := b) (by omega) l]
    omega
theorem foldmin_top : ∀ (l : List Nat) (a : Nat), l.foldl (fun m s => min m (keyN s)) a ≤ a
  | [], _ => Nat.le_refl _
  | s :: l, a => by rw [List.foldl_cons]; have := foldmin_top l (min a (keyN s)); omega
theorem lowK_le (L : List Nat) : lowK L ≤ 4294967295 := foldmin_top _ _
theorem topK_le {L : List Nat} (h : ∀ s ∈ L, s < 4294967296) : topK L ≤ 4294967295 := by
  unfold topK
  have : ∀ (l : List Nat) (a : Nat), a ≤ 4294967295 → (∀ s ∈ l, s < 4294967296) → l.foldl (fun m s => max m (keyN s)) a ≤ 4294967295 := by
    intro l
    induction l with
    | nil => intro a ha _; exact ha
    | cons s l ih =>
      intro a ha hl
      rw [List.foldl_cons]
      have := keyN_lt (hl s List.mem_cons_self)
      exact ih _ (by omega) (fun x hx => hl x (List.mem_cons_of_mem _ hx))
  exact this _ _ (by decide) (fun s hs => h s (numL_mem hs).1)
theorem lowK_append (L M : List Nat) : lowK (L ++ M) = min (lowK L) (lowK M) := by
  show (numL (L ++ M)).foldl _ _ = _
  rw [numL_append, List.foldl_append]
  exact foldmin_le (lowK_le L) _
theorem topK_append (L M : List Nat) : topK (L ++ M) = max (topK L) (topK M) := by
  show (numL (L ++ M)).foldl _ _ = _
  rw [numL_append, List.foldl_append]
  exact foldmax_le (Nat.zero_le _) _
theorem lowK_num {s : Nat} (hs : s < 4294967296) (h : nanN s = false) : lowK [s] = keyN s ∧ topK [s] = keyN s := by
  have := keyN_lt hs
  unfold lowK topK numL
  rw [List.filter_cons, h]
  simp
  omega
theorem lowK_nan {s : Nat} (h : nanN s = true) : lowK [s] = 4294967295 ∧ topK [s] = 0 := by
  unfold lowK topK numL
  rw [List.filter_cons, h]
  simp
/-- The ends of some numbers: they are keys of some of them. -/
theorem ends_some : ∀ {L : List Nat}, (∀ s ∈ L, s < 4294967296) → numL L ≠ [] → ∃ a b, a ∈ numL L ∧ b ∈ numL L ∧ keyN a = lowK L ∧ keyN b = topK L ∧ (∀ s ∈ numL L, keyN a ≤ keyN s ∧ keyN s ≤ keyN b)
  | [], _, h => absurd rfl h
  | s :: L, hL, h => by
    have hs := hL s List.mem_cons_self
    have hL' : ∀ x ∈ L, x < 4294967296 := fun x hx => hL x (List.mem_cons_of_mem _ hx)
    have el := lowK_append [s] L
    have et := topK_append [s] L
    have en := numL_append [s] L
    rw [List.singleton_append] at el et en
    have hk := keyN_lt hs
    cases hn : nanN s with
    | true =>
      have h1 := lowK_nan hn
      have e1 : numL [s] = [] := by unfold numL; rw [List.filter_cons, hn]; rfl
      rw [e1, List.nil_append] at en
      have h2 := lowK_le L
      rw [en] at h ⊢
      obtain ⟨a, b, k1, k2, k3, k4, k5⟩ := ends_some hL' h
      exact ⟨a, b, k1, k2, by omega, by omega, k5⟩
    | false =>
      have h1 := lowK_num hs hn
      have e1 : numL [s] = [s] := by unfold numL; rw [List.filter_cons, hn]; rfl
      rw [e1] at en
      by_cases g : numL L = []
      · have l2 : lowK L = 4294967295 ∧ topK L = 0 := by unfold lowK topK; rw [g]; exact ⟨rfl, rfl⟩
        rw [en, g]
        refine ⟨s, s, by simp, by simp, by omega, by omega, ?_⟩
        intro x hx
        obtain rfl : x = s := by simpa using hx
        exact ⟨Nat.le_refl _, Nat.le_refl _⟩
      · obtain ⟨a, b, k1, k2, k3, k4, k5⟩ := ends_some hL' g
        rw [en]
        obtain ⟨a', ha', ha2⟩ : ∃ a', a' ∈ [s] ++ numL L ∧ keyN a' = min (keyN s) (keyN a) := by
          rcases Nat.le_total (keyN s) (keyN a) with c | c
          · exact ⟨s, by simp, by omega⟩
          · exact ⟨a, List.mem_append_right _ k1, by omega⟩
        obtain ⟨b', hb', hb2⟩ : ∃ b', b' ∈ [s] ++ numL L ∧ keyN b' = max (keyN s) (keyN b) := by
          rcases Nat.le_total (keyN s) (keyN b) with c | c
          · exact ⟨b, List.mem_append_right _ k2, by omega⟩
          · exact ⟨s, by simp, by omega⟩
        refine ⟨a', b', ha', hb', by omega, by omega, ?_⟩
        intro x hx
        rcases List.mem_append.1 hx with c | c
        · obtain rfl : x = s := by simpa using c
          omega
        · have := k5 x c
          omega
theorem ends_none {L : List Nat} (h : numL L = []) : lowK L = 4294967295 ∧ topK L = 0 := by unfold lowK topK; rw [h]; exact ⟨rfl, rfl⟩
/-- The span is that of no samples just if no sample is a number. -/
theorem ends_iff {L : List Nat} (hL : ∀ s ∈ L, s < 4294967296) : (lowK L = 4294967295 ∧ topK L = 0) ↔ numL L = [] := by
  refine ⟨fun h => ?_, ends_none⟩
  by_cases g : numL L = []
  · exact g
  · obtain ⟨a, b, k1, k2, k3, k4, k5⟩ := ends_some hL g
    have := (k5 a k1).2
    omega
end Go.Proofs.YtieojgblamkgoaaGreatDoor
/- stat: its small functions. -/
namespace Go.Proofs.YtieojgblamkgoaaGreatDoor
open Go.RowKit
set_option linter.unusedVariables false
set_option linter.unusedSimpArgs false

/-- May it be a number of bits? -/
def bitsB (n : Int) : Bool := decide (1 ≤ n ∧ n ≤ 12)
set_option maxHeartbeats 1000000 in
theorem isbits_any (n : Int) (w : World) : Calls Tryz.prog 38 #[.int .i64 n] w fun e w' => e = .returned (.bool (bitsB n)) ∧ w' = w := by
  unfold bitsB
  by_cases h1 : 1 ≤ n
  · by_cases h2 : n ≤ 12
    · rw [decide_eq_true ⟨h1, h2⟩]
      go_enter Tryz.func38, Tryz.ntmps38
      go_wp2_with fail
      go_ret
      exact ⟨rfl, rfl⟩
    · rw [decide_eq_false (fun h => h2 h.2)]
      go_enter Tryz.func38, Tryz.ntmps38
      go_wp2_with fail
      go_ret
      exact ⟨rfl, rfl⟩
  · rw [decide_eq_false (fun h => h1 h.1)]
    go_enter Tryz.func38, Tryz.ntmps38
    go_wp2_with fail
    go_ret
    exact ⟨rfl, rfl⟩
set_option maxHeartbeats 1000000 in
theorem isd16_any (n : Int) (w : World) : Calls Tryz.prog 11 #[.int .i64 n] w fun e w' => e = .returned (.bool (bitsB n)) ∧ w' = w := by
  unfold bitsB
  by_cases h1 : 1 ≤ n
  · by_cases h2 : n ≤ 12
    · rw [decide_eq_true ⟨h1, h2⟩]
      go_enter Tryz.func11, Tryz.ntmps11
      go_wp2_with fail
      go_ret
      exact ⟨rfl, rfl⟩
    · rw [decide_eq_false (fun h => h2 h.2)]
      go_enter Tryz.func11, Tryz.ntmps11
      go_wp2_with fail
      go_ret
      exact ⟨rfl, rfl⟩
  · rw [decide_eq_false (fun h => h1 h.1)]
    go_enter Tryz.func11, Tryz.ntmps11
    go_wp2_with fail
    go_ret
    exact ⟨rfl, rfl⟩
/-- A span: a least and a greatest key. -/
def spnV (a b : Nat) : Value := .agg #[.int .u32 (a : Int), .int .u32 (b : Int)]
theorem run_mnu {P : Program} (ts : Array TypeId) (t : TypeId) (x y : Nat) (w : World) : (Builtin.min_ ts t #[.int .u32 (x : Int), .int .u32 (y : Int)]).run P w = .ok (.int .u32 ((min x y : Nat) : Int)) w := by
  rcases Nat.lt_or_ge y x with h | h
  · rw [Nat.min_eq_right (by omega)]; simp [go_sem, h] <;> omega
  · rw [Nat.min_eq_left h]; simp [go_sem, Nat.not_lt.2 h] <;> omega
theorem run_mxu {P : Program} (ts : Array TypeId) (t : TypeId) (x y : Nat) (w : World) : (Builtin.max_ ts t #[.int .u32 (x : Int), .int .u32 (y : Int)]).run P w = .ok (.int .u32 ((max x y : Nat) : Int)) w := by
  rcases Nat.lt_or_ge x y with h | h
  · rw [Nat.max_eq_right (by omega)]; simp [go_sem, h] <;> omega
  · rw [Nat.max_eq_left h]; simp [go_sem, Nat.not_lt.2 h] <;> omega
set_option maxHeartbeats 1000000 in
theorem nospan_any (w : World) : Calls Tryz.prog 41 #[] w fun e w' => e = .returned (spnV 4294967295 0) ∧ Q w w' := by
  unfold spnV
  go_enter Tryz.func41, Tryz.ntmps41
  go_wp2_with fail
  refine bodyPost_ret (v := .agg #[.int .u32 4294967295, .int .u32 0]) (by simp [results, Tryz.results41, go_sem]) rfl ⟨rfl, ?_⟩
  exact (Q.refl w).cells _ _
set_option maxHeartbeats 1000000 in
theorem with_any (a b c d : Nat) (w : World) : Calls Tryz.prog 46 #[spnV a b, spnV c d] w fun e w' => e = .returned (spnV (min a c) (max b d)) ∧ Q w w' := by
  have m1 : ∀ ts t w, (Builtin.min_ ts t #[.int .u32 (a : Int), .int .u32 (c : Int)]).run Tryz.prog w = .ok (.int .u32 ((min a c : Nat) : Int)) w := fun ts t w => run_mnu ts t _ _ w
  have m2 : ∀ ts t w, (Builtin.max_ ts t #[.int .u32 (b : Int), .int .u32 (d : Int)]).run Tryz.prog w = .ok (.int .u32 ((max b d : Nat) : Int)) w := fun ts t w => run_mxu ts t _ _ w
  unfold spnV
  generalize min a c = m at *
  generalize max b d = n at *
  obtain ⟨w1, hw1⟩ : ∃ w1, ((w.alloc (.cells #[.int .u32 (a : Int), .int .u32 (b : Int)] 74)).alloc (.cells #[.int .u32 (c : Int), .int .u32 (d : Int)] 74)).alloc (.cells #[.int .u32 0, .int .u32 0] 74) = w1 := ⟨_, rfl⟩
  have q1 : Hid (Q w w1) := by rw [← hw1]; exact (((Q.refl w).cells _ _).cells _ _).cells _ _
  have z00 : w1.cell? ⟨w.heap.size, 0, none⟩ = some (.int .u32 (a : Int)) := by rw [← hw1]; simp [go_sem]
  have z01 : w1.cell? ⟨w.heap.size, 1, none⟩ = some (.int .u32 (b : Int)) := by rw [← hw1]; simp [go_sem]
  have z10 : w1.cell? ⟨w.heap.size + 1, 0, none⟩ = some (.int .u32 (c : Int)) := by rw [← hw1]; simp [go_sem]
  have z11 : w1.cell? ⟨w.heap.size + 1, 1, none⟩ = some (.int .u32 (d : Int)) := by rw [← hw1]; simp [go_sem]
  have z20 : w1.cell? ⟨w.heap.size + 1 + 1, 0, none⟩ = some (.int .u32 0) := by rw [← hw1]; simp [go_sem]
  have z21 : w1.cell? ⟨w.heap.size + 1 + 1, 1, none⟩ = some (.int .u32 0) := by rw [← hw1]; simp [go_sem]
  have zf : ∀ j, w1.frozen? ⟨w.heap.size + 1 + 1, j, none⟩ = false := fun j => by rw [← hw1]; simp [go_sem]
  go_enter Tryz.func46, Tryz.ntmps46
  go_wp2_with fail
  clear hw1
  refine bodyPost_ret (v := .agg #[.int .u32 (m : Int), .int .u32 (n : Int)]) (by simp [results, Tryz.results46, go_sem, z20, z21]) rfl ⟨rfl, ?_⟩
  exact (q1.out.set (by show w.heap.size ≤ w.heap.size + 1 + 1; omega) _).set (by show w.heap.size ≤ w.heap.size + 1 + 1; omega) _
set_option maxHeartbeats 2000000 in
theorem scls_any (b s : Nat) (h1 : 1 ≤ b) (h2 : b ≤ 12) (hs : s < 4294967296) (H n c : Nat) (w : World) : Calls Tryz.prog 85 #[.agg #[.int .i64 (b : Int), .slice (some ⟨H, 0, none⟩) n c], .int .u32 (s : Int)] w fun e w' => e = .returned (.int .i64 (clsN b s : Nat)) ∧ Q w w' := by
  have K := keyn_any s hs
  have hl := keyN_lt hs
  unfold clsN
  generalize keyN s = k at *
  have hd : k / 2 ^ (32 - b) ≤ k := Nat.div_le_self _ _
  have hc : ((k : Int) / 2 ^ (32 - b)) = ((k / 2 ^ (32 - b) : Nat) : Int) := by simp
  obtain ⟨q, hq⟩ : ∃ q, k / 2 ^ (32 - b) = q := ⟨_, rfl⟩
  rw [hq] at hd hc ⊢
  have HC : Hid ((k : Int) / 2 ^ (32 - b) = (q : Int)) := hc
  clear hc hq
  have HK : Hid (∀ w, Calls Tryz.prog 81 #[.int .u32 (s : Int)] w fun e w' => e = .returned (.int .u32 (k : Int)) ∧ w' = w) := K
  clear K
  obtain ⟨w1, hw1⟩ : ∃ w1, w.alloc (.cells #[.int .i64 (b : Int), .slice (some ⟨H, 0, none⟩) n c] 72) = w1 := ⟨_, rfl⟩
  have q1 : Hid (Q w w1) := by rw [← hw1]; exact (Q.refl w).cells _ _
  have z0 : w1.cell? ⟨w.heap.size, 0, none⟩ = some (.int .i64 (b : Int)) := by rw [← hw1]; simp [go_sem]
  have fz := qw_cell z0
  have n0 := qw_some w1
  go_enter Tryz.func85, Tryz.ntmps85
  go_wp2_with fail
  clear hw1
  have ew : wrap64 ((32 : Int) - (b : Int)) = ((32 - b : Nat) : Int) := by unfold wrap64; omega
  refine wp_region_quiet_Q (by kernel_rfl) (by kernel_rfl) ?_
  repeat (first | go_big_quiet_step (first | (go_at_call 81; exact calls_qs (HK.out _))) | quiet_step (first | (go_at_call 81; exact calls_qs (HK.out _))))
  refine wpQuiet_nil ?_
  intro w4 hw'
  have hq4 := qw_out hw'
  rw [HC.out]
  have ew2 : wrap64 (q : Int) = (q : Int) := by unfold wrap64; omega
  rw [ew2]
  go_wp2_with fail
  go_ret
  exact ⟨rfl, q1.out.trans hq4⟩
/-- A tally: classes of so many bits, and how many have each. -/
def talV (b H c : Nat) : Value := .agg #[.int .i64 (b : Int), .slice (some ⟨H, 0, none⟩) (2 ^ b) c]
set_option maxHeartbeats 2000000 in
set_option maxRecDepth 100000 in
theorem notally_any (b : Nat) (h1 : 1 ≤ b) (h2 : b ≤ 12) (w : World) : Calls Tryz.prog 40 #[.int .i64 (b : Int)] w fun e w' => ∃ H, e = .returned (talV b H (2 ^ b)) ∧ w.heap.size ≤ H ∧ H < w'.heap.size ∧ VR w' H (2 ^ b) (fun _ => .int .i64 0) ∧ Q w w' := by
  have hp : 2 ^ b ≤ 2 ^ 12 := Nat.pow_le_pow_right (by decide) h2
  have hp1 : 1 ≤ 2 ^ b := Nat.one_le_two_pow
  obtain ⟨M, hM, hV⟩ := make_vi (2 ^ b) (by omega)
  have ew : wrap64 ((2 : Int) ^ b) = ((2 ^ b : Nat) : Int) := by
    have : ((2 : Int) ^ b) = ((2 ^ b : Nat) : Int) := by simp
    rw [this]
    unfold wrap64; omega
  unfold talV
  generalize 2 ^ b = N at *
  obtain ⟨w1, hw1⟩ : ∃ w1, w.alloc (.cells #[.int .i64 0, .slice none 0 0] 72) = w1 := ⟨_, rfl⟩
  have q1 : Q w w1 := by rw [← hw1]; exact (Q.refl w).cells _ _
  have s1 : w1.heap.size = w.heap.size + 1 := by rw [← hw1]; simp [go_sem]
  have z0 : w1.cell? ⟨w.heap.size, 0, none⟩ = some (.int .i64 0) := by rw [← hw1]; simp [go_sem]
  have z1 : w1.cell? ⟨w.heap.size, 1, none⟩ = some (.slice none 0 0) := by rw [← hw1]; simp [go_sem]
  have zf : ∀ j, w1.frozen? ⟨w.heap.size, j, none⟩ = false := fun j => by rw [← hw1]; simp [go_sem]
  have hMw := hM w1
  rw [← ew] at hMw
  go_enter Tryz.func40, Tryz.ntmps40
  go_wp2_with fail
  obtain ⟨x, hx⟩ : ∃ x, (w1.setCell ⟨w.heap.size, 0, none⟩ (.int .i64 (b : Int))).setCell ⟨w.heap.size, 1, none⟩ (.slice (some ⟨w.heap.size + 1, 0, none⟩) N N) = x := ⟨_, rfl⟩
  have qx : Q w x := by rw [← hx]; exact (q1.set (Nat.le_refl _) _).set (Nat.le_refl _) _
  have sx : x.heap.size = w.heap.size + 1 := by rw [← hx]; simp [go_sem, s1]
  have y0 : (x.alloc (.cells M 3)).cell? ⟨w.heap.size, 0, none⟩ = some (.int .i64 (b : Int)) := ((Q.refl x).cells _ _).cell (by rw [← hx]; simp [go_sem, z0])
  have y1 : (x.alloc (.cells M 3)).cell? ⟨w.heap.size, 1, none⟩ = some (.slice (some ⟨w.heap.size + 1, 0, none⟩) N N) := ((Q.refl x).cells _ _).cell (by rw [← hx]; simp [go_sem, z0, z1])
  have hv := hV x
  rw [sx] at hv
  rw [hx]
  have sy : (x.alloc (.cells M 3)).heap.size = w.heap.size + 1 + 1 := by simp [go_sem, sx]
  have qy : Q w (x.alloc (.cells M 3)) := qx.cells _ _
  generalize x.alloc (.cells M 3) = y at *
  refine bodyPost_ret (v := .agg #[.int .i64 (b : Int), .slice (some ⟨w.heap.size + 1, 0, none⟩) N N]) (by simp [results, Tryz.results40, go_sem, y0, y1]) rfl ⟨_, rfl, by omega, by omega, hv, qy⟩
end Go.Proofs.YtieojgblamkgoaaGreatDoor

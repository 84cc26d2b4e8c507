/- What lies beside a sample, how far it lies away, is it nearest. -/
import Derived.Test.YtgpgjbgobaaohaaG4fa8ce42
import Derived.Test.YtgpgjbgobaaohaaG8765f801
import Derived.Test.YtgpgjbgobaaohaaGcbdaa2d9
namespace Go.Proofs.Ytgpgjbgobaaohaa
open Go.RowKit
set_option linter.unusedVariables false
set_option linter.unusedSimpArgs false

/-- The sample beside, of the same sign. -/
def besV (r : Nat) (d : Int) : Nat := (if sgn32 r = true then 2147483648 else 0) + (min (max ((rung32 r : Int) + d) 0) 2139095039).toNat
theorem bes_facts (r : Nat) (d : Int) : besV r d < 4294967296 ∧ sgn32 (besV r d) = sgn32 r ∧ rung32 (besV r d) < 2139095040 := by
  unfold besV
  obtain ⟨S, hS⟩ : ∃ S, S = (min (max ((rung32 r : Int) + d) 0) 2139095039).toNat := ⟨_, rfl⟩
  rw [← hS]
  have hl : S < 2139095040 := by omega
  clear hS
  cases sgn32 r
  · rw [if_neg (by decide)]
    refine ⟨by omega, ?_, by unfold rung32; omega⟩
    unfold sgn32
    have : (0 + S) / 2147483648 % 2 = 0 := by omega
    rw [this]; rfl
  · rw [if_pos rfl]
    refine ⟨by omega, ?_, by unfold rung32; omega⟩
    unfold sgn32
    have : (2147483648 + S) / 2147483648 % 2 = 1 := by omega
    rw [this]; rfl
theorem and_top {V : Nat} (h : V < 4294967296) : bits .and .u32 (V : Int) 2147483648 = if sgn32 V = true then 2147483648 else 0 := by
  have e : bits .and .u32 (V : Int) 2147483648 = (V : Int) / 2147483648 % 2 * 2147483648 := by go_bits2
  rw [e]
  have := top_bit h
  rw [this]
  split <;> rfl
theorem or_top {S : Int} (h0 : 0 ≤ S) (h : S < 2147483648) : bits .or .u32 2147483648 S = 2147483648 + S := by go_bits2
theorem or_low {S : Int} (h0 : 0 ≤ S) (h : S < 2147483648) : bits .or .u32 0 S = S := by go_bits2
set_option maxHeartbeats 4000000 in
set_option maxRecDepth 100000 in
theorem beside_any (r : Nat) (d : Int) (hr : r < 4294967296) (hd : d = 1 ∨ d = -1) (w : World) : Calls Try.prog 48 #[.int .u32 (r : Int), .int .i64 d] w fun e w' => e = .returned (.int .u32 (besV r d : Nat)) ∧ w' = w := by
  have e1 := and_low hr
  have e2 := and_top hr
  have hl : rung32 r < 2147483648 := Nat.mod_lt _ (by decide)
  rw [show r % 2147483648 = rung32 r from rfl] at e1
  obtain ⟨S, hS⟩ : ∃ S : Int, S = min (max ((rung32 r : Int) + d) 0) 2139095039 := ⟨_, rfl⟩
  have s0 : 0 ≤ S := by omega
  have s1 : S ≤ 2139095039 := by omega
  have e3 := or_top s0 (by omega)
  have e4 := or_low s0 (by omega)
  have hB : ((besV r d : Nat) : Int) = (if sgn32 r = true then 2147483648 else 0) + S := by
    unfold besV
    rw [← hS]
    split <;> omega
  rw [hB]
  have HS : Hid (S = min (max ((rung32 r : Int) + d) 0) 2139095039) := hS
  have d0 : -1 ≤ d := by omega
  have d1 : d ≤ 1 := by omega
  clear hB hd hS
  generalize rung32 r = R at e1 hl HS
  cases hs : sgn32 r
  · rw [hs, if_neg (by decide)] at e2
    rw [if_neg (by decide), Int.zero_add]
    clear hs
    go_enter Try.func48, Try.ntmps48
    go_wp2_with fail
    all_goals
      go_ret
      refine ⟨congrArg (fun z => Ending.returned (Value.int .u32 z)) ?_, rfl⟩
      have hS := HS.out
      clear HS
      rw [or_low (by omega) (by omega)]
      omega
  · rw [hs, if_pos rfl] at e2
    rw [if_pos rfl]
    clear hs
    go_enter Try.func48, Try.ntmps48
    go_wp2_with fail
    all_goals
      go_ret
      refine ⟨congrArg (fun z => Ending.returned (Value.int .u32 z)) ?_, rfl⟩
      have hS := HS.out
      clear HS
      rw [or_top (by omega) (by omega)]
      omega
/-- What a number that lies in a struct looks like. -/
theorem fin_at {w : World} {v : Value} {s : Bool} {n : Nat} {e : Int} {m : Bool} (h : NumAt w v (.fin s n e m)) : ∃ pa La Ca, v = .agg #[.int .i64 2, .bool s, .slice pa La Ca, .int .i64 e, .bool m] ∧ NatAt w (.slice pa La Ca) n := by
  obtain ⟨nv, rfl, hn⟩ := h
  obtain ⟨pa, ba, La, Ca, rfl, hI⟩ := id hn
  exact ⟨pa, La, Ca, rfl, hn⟩
theorem at_fin {w : World} {s : Bool} {n : Nat} {e : Int} {m : Bool} {nv : Value} (hn : NatAt w nv n) : NumAt w (.agg #[.int .i64 2, .bool s, nv, .int .i64 e, .bool m]) (.fin s n e m) := ⟨nv, rfl, hn⟩
theorem nearer_num (va vb : Value) (s t m g : Bool) (n k : Nat) (e f : Int) (w : World) (ha : NumAt w va (.fin s n e m)) (hb : NumAt w vb (.fin t k f g)) (n1 : blen n ≤ 2000) (e0 : -1074 ≤ e) (e1 : e ≤ 2000) (k1 : blen k ≤ 2000) (f0 : -1074 ≤ f) (f1 : f ≤ 2000) :
    Calls Try.prog 17 #[va, vb] w fun x w' => x = .returned (.bool (decide (zm n e ≤ zm k f))) ∧ Q w w' := by
  obtain ⟨pa, La, Ca, rfl, hn⟩ := fin_at ha
  obtain ⟨pb, Lb, Cb, rfl, hk⟩ := fin_at hb
  have h := nearer_any s t m g _ _ n k e f w hn hk n1 (by omega) e1 k1 (by omega) f1
  rw [zm_le e0 f0] at h
  exact h
theorem of_fin {p : Nat} (hp : p < 4294967296) (fp : rung32 p < 2139095040) (w : World) : Calls Try.prog 9 #[.agg #[.int .i64 23, .int .i64 8], .int .u64 (p : Int)] w fun e w' => ∃ pa La Ca, e = .returned (.agg #[.int .i64 2, .bool (sgn32 p), .slice pa La Ca, .int .i64 (-149 + (plc32 (rung32 p) : Int)), .bool false]) ∧ NatAt w' (.slice pa La Ca) (mag32 (rung32 p)) ∧ Q w w' := by
  refine (of32_any p w hp).mono ?_
  rintro e w' ⟨v, rfl, hv, q⟩
  rw [numOf_datum, read_fin32 fp] at hv
  obtain ⟨pa, La, Ca, rfl, hn⟩ := fin_at hv
  exact ⟨pa, La, Ca, rfl, hn, q⟩
theorem mag_blen {r : Nat} : blen (mag32 r) ≤ 24 := blen_le (mag_lt32 r)
/-- A sample's size in units of 2^-1074. -/
theorem zm_samp {r : Nat} {c : Nat} (hc : c = 925) : zm (mag32 r) (-149 + (plc32 r : Int)) = val32 r * 2 ^ c := by
  unfold zm val32
  rw [Nat.mul_assoc, ← Nat.pow_add]
  congr 2
  omega
/-- How many digits a number of a known size has. -/
theorem blen_zm {N : Nat} {b : Int} {k : Nat} (hb : -1074 ≤ b) (h : zm N b < 2 ^ k) : blen N ≤ k := by
  refine blen_le (Nat.lt_of_le_of_lt ?_ h)
  unfold zm
  exact Nat.le_mul_of_pos_right _ (Nat.two_pow_pos _)
theorem dist_lt {V M k : Nat} (hV : V < 2 ^ k) (hM : M < 2 ^ k) : ((V : Int) - (M : Int)).natAbs < 2 ^ k := by
  generalize 2 ^ k = G at *
  omega
theorem samp_lt {r c k : Nat} (fr : r < 2139095040) (hc : c = 925) (hk : 1202 ≤ k) : val32 r * 2 ^ c < 2 ^ k := by
  have hp : plc32 r ≤ 253 := by unfold plc32; omega
  unfold val32
  rw [Nat.mul_assoc, ← Nat.pow_add]
  have a1 : mag32 r * 2 ^ (plc32 r + c) < 2 ^ 24 * 2 ^ (plc32 r + c) := Nat.mul_lt_mul_of_pos_right (mag_lt32 r) (Nat.two_pow_pos _)
  rw [← Nat.pow_add] at a1
  exact Nat.lt_of_lt_of_le a1 (Nat.pow_le_pow_right (by decide) (by omega))
set_option maxHeartbeats 4000000 in
set_option maxRecDepth 100000 in
theorem away_any (va : Value) (s : Bool) (n : Nat) (e : Int) (r : Nat) (w : World) (ha : NumAt w va (.fin s n e false)) (n1 : blen n ≤ 2000) (e0 : -1074 ≤ e) (e1 : e ≤ 500) (hr : r < 4294967296) (fr : rung32 r < 2139095040) (hs : sgn32 r = s) {c k : Nat} (hc : c = 925) (hk : 1202 ≤ k) (hk2 : k ≤ 2000) (hz : zm n e < 2 ^ k) :
    Calls Try.prog 47 #[va, .int .u32 (r : Int)] w fun x w' => ∃ v N E, x = .returned v ∧ NumAt w' v (.fin false N E false) ∧ blen N ≤ 2000 ∧ -1074 ≤ E ∧ E ≤ 2000 ∧ zm N E = (((val32 (rung32 r) * 2 ^ c : Nat) : Int) - (zm n e : Int)).natAbs ∧ Q w w' := by
  obtain ⟨pa, La, Ca, rfl, hn⟩ := fin_at ha
  have HA : Hid (NatAt w (.slice pa La Ca) n) := hn
  have of := fun w => of_fin hr fr w
  rw [hs] at of
  have hp : plc32 (rung32 r) ≤ 253 := by unfold plc32; omega
  obtain ⟨E, hE⟩ : ∃ E : Int, E = -149 + (plc32 (rung32 r) : Int) := ⟨_, rfl⟩
  have b0 : -149 ≤ E := by omega
  have b1 : E ≤ 104 := by omega
  rw [← hE] at of
  have HE : Hid (E = -149 + (plc32 (rung32 r) : Int)) := hE
  clear ha hn hE hp
  go_enter Try.func47, Try.ntmps47
  go_wp2_with fail
  refine (f32_any _).mono ?_
  rintro x v1 ⟨rfl, g1⟩
  go_wp2_with fail
  refine (of _).mono ?_
  rintro x v2 ⟨pb, Lb, Cb, rfl, hk, g2⟩
  have g12 := g1.trans g2
  have Q2 : Hid (Q w v2) := (((Q.refl w).cells _ _).cells _ _).trans g12
  have BP : Box5 v2 w.heap.size 2 s pa La Ca e false := Box5.next ⟨by simp [go_sem], by simp [go_sem], by simp [go_sem], by simp [go_sem], by simp [go_sem]⟩ g12
  have BR : Box5 v2 (w.heap.size + 1) 0 false none 0 0 0 false := Box5.next ⟨by simp [go_sem], by simp [go_sem], by simp [go_sem], by simp [go_sem], by simp [go_sem]⟩ g12
  have ZR : ∀ j, v2.frozen? ⟨w.heap.size + 1, j, none⟩ = false := fun j => (g12.2 _).trans (by simp [go_sem])
  have sz : w.heap.size + 1 < v2.heap.size := by have := g12.1.size; simp at this; omega
  obtain ⟨a0, a1, a2, a3, a4⟩ := id BP
  have m1 : w.heap.size < v2.heap.size := by omega
  have m2 : w.heap.size + 1 < v2.heap.size := by omega
  have m1' : w.heap.size ≠ v2.heap.size := by omega
  have m2' : w.heap.size + 1 ≠ v2.heap.size := by omega
  have HK : Hid (NatAt v2 (.slice pb Lb Cb) (mag32 (rung32 r))) := hk
  clear g1 g2 g12 hk of
  go_wp2_with fail
  have N1 : NumAt (v2.alloc (Obj.cells #[Value.int .i64 2, Value.bool !s, Value.slice pb Lb Cb, Value.int .i64 E, Value.bool false] 31)) (.agg #[.int .i64 2, .bool s, .slice pa La Ca, .int .i64 e, .bool false]) (.fin s n e false) := at_fin (Q.nat (Q2.out.cells _ _) HA.out)
  have N2 : NumAt (v2.alloc (Obj.cells #[Value.int .i64 2, Value.bool !s, Value.slice pb Lb Cb, Value.int .i64 E, Value.bool false] 31)) (.agg #[.int .i64 2, .bool !s, .slice pb Lb Cb, .int .i64 E, .bool false]) (.fin (!s) (mag32 (rung32 r)) E false) := at_fin (Q.nat ((Q.refl v2).cells _ _) HK.out)
  obtain ⟨σ, N, hN1, hN2⟩ := away_zs s n (mag32 (rung32 r)) e E false false (by omega) (by omega)
  refine (plusnum_any _ _ _ _ _ N1 N2 ⟨by omega, by omega, by omega⟩ ⟨Nat.le_trans mag_blen (by decide), by omega, by omega⟩).mono ?_
  rw [hN1]
  rintro x v3 ⟨v, rfl, hv, g3⟩
  obtain ⟨pc, Lc, Cc, rfl, hc3⟩ := fin_at hv
  have q23 : Q v2 v3 := ((Q.refl v2).cells _ _).trans g3
  obtain ⟨r0, r1, r2, r3, r4⟩ := BR.next q23
  have z0 := (q23.2 ⟨w.heap.size + 1, 0, none⟩).trans (ZR 0)
  have z1 := (q23.2 ⟨w.heap.size + 1, 1, none⟩).trans (ZR 1)
  have z2 := (q23.2 ⟨w.heap.size + 1, 2, none⟩).trans (ZR 2)
  have z3 := (q23.2 ⟨w.heap.size + 1, 3, none⟩).trans (ZR 3)
  have z4 := (q23.2 ⟨w.heap.size + 1, 4, none⟩).trans (ZR 4)
  have sz3 := q23.1.size
  have m3 : w.heap.size + 1 < v3.heap.size := by omega
  have m3' : w.heap.size + 1 ≠ v3.heap.size := by omega
  have HC : Hid (NatAt v3 (.slice pc Lc Cc) N) := hc3
  have Q3 : Hid (Q w v3) := Q2.out.trans q23
  have HN : Hid (zm N (min e E) = ((zm (mag32 (rung32 r)) E : Int) - (zm n e : Int)).natAbs) := hN2
  have NC : Hid (NumAt v3 (.agg #[.int .i64 2, .bool false, .slice pc Lc Cc, .int .i64 (min e E), .bool false]) (.fin false N (min e E) false)) := at_fin HC.out
  clear hN1 hN2 hv hc3 g3 q23 BP BR ZR a0 a1 a2 a3 a4 N1 N2 HK HA
  have HZ : Hid (zm n e < 2 ^ k) := hz
  have HCC : Hid (c = 925) := hc
  clear hz hc
  go_wp2_with fail
  refine bodyPost_ret (v := .agg #[.int .i64 2, .bool false, .slice pc Lc Cc, .int .i64 (min e E), .bool false]) (by simp [results, Try.results47, go_sem, m3, m3', r0, r1, r2, r3, r4]) rfl ⟨_, N, min e E, rfl, ?_, ?_, by omega, by omega, ?_, ?_⟩
  · refine Q.num ((Q.refl _).cells _ _) (numAt_but NC.out r0 (fun y hy => ?_))
    have hn : ∀ j, (⟨w.heap.size + 1, j, none⟩ : Addr) ≠ y := fun j h => hy (by rw [← h])
    rw [World.cell?_setCell_other _ _ _ _ (hn _), World.cell?_setCell_other _ _ _ _ (hn _), World.cell?_setCell_other _ _ _ _ (hn _), World.cell?_setCell_other _ _ _ _ (hn _), World.cell?_setCell_other _ _ _ _ (hn _)]
  · have h := dist_lt (samp_lt fr HCC.out hk) HZ.out
    rw [← zm_samp HCC.out, ← HE.out, ← HN.out] at h
    exact Nat.le_trans (blen_zm (by omega) h) hk2
  · rw [HN.out, HE.out, zm_samp HCC.out]
  · have hle : w.heap.size ≤ w.heap.size + 1 := Nat.le_succ _
    exact (((((Q3.out.set hle _).set hle _).set hle _).set hle _).set hle _).cells _ _
def numS (X : RNum) : Spec := ⟨fun v x => NumAt x v X, fun h q => q.num h⟩
/-- A number that tells how far a sample lies away. -/
def distS (c M r : Nat) : Spec := ⟨fun v x => ∃ N E, NumAt x v (.fin false N E false) ∧ blen N ≤ 2000 ∧ -1074 ≤ E ∧ E ≤ 2000 ∧ zm N E = (((val32 (rung32 r) * 2 ^ c : Nat) : Int) - (M : Int)).natAbs, fun ⟨N, E, h1, h2⟩ q => ⟨N, E, q.num h1, h2⟩⟩
/-- A struct in a box, of which a property holds. -/
def BoxS (w : World) (V : Nat) (S : Spec) : Prop := ∃ k s p L C e m, Box5 w V k s p L C e m ∧ S.p (num5 k s p L C e m) w
theorem BoxS.next {w w' : World} {V : Nat} {S : Spec} (h : BoxS w V S) (q : Q w w') : BoxS w' V S := by
  obtain ⟨k, s, p, L, C, e, m, h1, h2⟩ := h
  exact ⟨k, s, p, L, C, e, m, h1.next q, S.st h2 q⟩
theorem argsc {a : Act} {j : Nat} {v u : Value} (h : a.tmps[j]? = some v) : (#[Operand.tmp j, .const u] : Array Operand).map a.eval = #[v, u] := by
  have h := tmp_eval h
  have h' : a.eval (.const u) = u := rfl
  simp [h, h']
theorem dist_le {c M r r' : Nat} {v v' : Value} {w : World} (h : (distS c M r).p v w) (h' : (distS c M r').p v' w) (hle : (((val32 (rung32 r) * 2 ^ c : Nat) : Int) - (M : Int)).natAbs ≤ (((val32 (rung32 r') * 2 ^ c : Nat) : Int) - (M : Int)).natAbs) : Calls Try.prog 17 #[v, v'] w fun x w' => x = .returned (.bool true) ∧ Q w w' := by
  obtain ⟨N, E, h1, h2, h3, h4, h5⟩ := h
  obtain ⟨N', E', g1, g2, g3, g4, g5⟩ := h'
  have := nearer_num v v' false false false false N N' E E' w h1 g1 h2 h3 h4 g2 g3 g4
  rw [h5, g5, decide_eq_true hle] at this
  exact this
def oNS_0 : Oper := { dst := some 15, op := .load 31 (.tmp 5), type := 31, pos := "outright.go:70", after := #[], guard := none }
def oNS_1 : Oper := { dst := some 16, op := .load 31 (.tmp 2), type := 31, pos := "outright.go:70", after := #[], guard := none }
def oNS_2 : Oper := { dst := some 17, op := .move (.tmp 1), type := 22, pos := "outright.go:70", after := #[], guard := none }
def oNS_3 : Oper := { dst := some 18, op := .call { callee := .value (.func 48), args := #[.tmp 17, .const (.int .i64 1)], argTypes := #[22, 3] }, type := 22, pos := "outright.go:70", after := #[⟨2, .data⟩], guard := none }
def oNS_4 : Oper := { dst := some 19, op := .call { callee := .value (.func 47), args := #[.tmp 16, .tmp 18], argTypes := #[31, 22] }, type := 31, pos := "outright.go:70", after := #[⟨1, .data⟩, ⟨3, .data⟩, ⟨3, .chain⟩], guard := none }
def oNS_5 : Oper := { dst := some 20, op := .call { callee := .value (.func 17), args := #[.tmp 15, .tmp 19], argTypes := #[31, 31] }, type := 4, pos := "outright.go:70", after := #[⟨0, .data⟩, ⟨4, .data⟩, ⟨4, .chain⟩], guard := none }
def oNS_6 : Oper := { dst := some 21, op := .move (.tmp 20), type := 4, pos := "outright.go:70", after := #[⟨5, .data⟩, ⟨5, .chain⟩], guard := none }
def oNS_7 : Oper := { dst := some 22, op := .load 31 (.tmp 5), type := 31, pos := "outright.go:70", after := #[⟨6, .guard⟩], guard := some (6, true) }
def oNS_8 : Oper := { dst := some 23, op := .load 31 (.tmp 2), type := 31, pos := "outright.go:70", after := #[⟨6, .guard⟩], guard := some (6, true) }
def oNS_9 : Oper := { dst := some 24, op := .move (.tmp 1), type := 22, pos := "outright.go:70", after := #[⟨6, .guard⟩], guard := some (6, true) }
def oNS_10 : Oper := { dst := some 25, op := .call { callee := .value (.func 48), args := #[.tmp 24, .const (.int .i64 (-1))], argTypes := #[22, 3] }, type := 22, pos := "outright.go:70", after := #[⟨9, .data⟩, ⟨6, .chain⟩, ⟨6, .guard⟩], guard := some (6, true) }
def oNS_11 : Oper := { dst := some 26, op := .call { callee := .value (.func 47), args := #[.tmp 23, .tmp 25], argTypes := #[31, 22] }, type := 31, pos := "outright.go:70", after := #[⟨8, .data⟩, ⟨10, .data⟩, ⟨10, .chain⟩, ⟨6, .guard⟩], guard := some (6, true) }
def oNS_12 : Oper := { dst := some 27, op := .call { callee := .value (.func 17), args := #[.tmp 22, .tmp 26], argTypes := #[31, 31] }, type := 4, pos := "outright.go:70", after := #[⟨7, .data⟩, ⟨11, .data⟩, ⟨11, .chain⟩, ⟨6, .guard⟩], guard := some (6, true) }
def oNS_13 : Oper := { dst := some 28, op := .pick (.tmp 21) (.tmp 27) (.const (.bool false)), type := 4, pos := "outright.go:70", after := #[⟨6, .data⟩, ⟨12, .data⟩], guard := none }
def oNS_14 : Oper := { dst := some 4, op := .assign (.tmp 28), type := 4, pos := "outright.go:70", after := #[⟨13, .data⟩, ⟨12, .chain⟩, ⟨0, .phase⟩, ⟨1, .phase⟩, ⟨2, .phase⟩, ⟨3, .phase⟩, ⟨4, .phase⟩, ⟨5, .phase⟩, ⟨6, .phase⟩, ⟨7, .phase⟩, ⟨8, .phase⟩, ⟨9, .phase⟩, ⟨10, .phase⟩, ⟨11, .phase⟩, ⟨12, .phase⟩, ⟨13, .phase⟩], guard := none }
def opsNS : List Oper := [oNS_0, oNS_1, oNS_2, oNS_3, oNS_4, oNS_5, oNS_6, oNS_7, oNS_8, oNS_9, oNS_10, oNS_11, oNS_12, oNS_13, oNS_14]
def sNS : List Nat := [15, 16, 17, 18, 19, 20, 21, 22, 23, 24, 25, 26, 27, 28]
def spNS (V2 V5 : Nat) (s : Bool) (n : Nat) (e : Int) (r c : Nat) : List Spec := [distS c (zm n e) r, numS (.fin s n e false), spV (.int .u32 (r : Nat)), spV (.int .u32 (besV r 1 : Nat)), distS c (zm n e) (besV r 1), spV (.bool true), spV (.bool true), distS c (zm n e) r, numS (.fin s n e false), spV (.int .u32 (r : Nat)), spV (.int .u32 (besV r (-1) : Nat)), distS c (zm n e) (besV r (-1)), spV (.bool true), spV (.bool true)]
structure EnvNS (a0 : Act) (w : World) (V2 V5 : Nat) (s : Bool) (n : Nat) (e : Int) (r c : Nat) : Prop where
  h1 : a0.tmps[1]? = some (.int .u32 (r : Nat))
  h2 : a0.tmps[2]? = some (ptrV V2)
  h5 : a0.tmps[5]? = some (ptrV V5)
  b2 : BoxS w V2 (numS (.fin s n e false))
  b5 : BoxS w V5 (distS c (zm n e) r)
  hr : r < 4294967296
  hs : sgn32 r = s
  n1 : blen n ≤ 2000
  e0 : -1074 ≤ e
  e1 : e ≤ 500
  hc : c = 925
  hz : zm n e < 2 ^ 1202
  d1 : (((val32 (rung32 r) * 2 ^ c : Nat) : Int) - (zm n e : Int)).natAbs ≤ (((val32 (rung32 (besV r 1)) * 2 ^ c : Nat) : Int) - (zm n e : Int)).natAbs
  d2 : (((val32 (rung32 r) * 2 ^ c : Nat) : Int) - (zm n e : Int)).natAbs ≤ (((val32 (rung32 (besV r (-1))) * 2 ^ c : Nat) : Int) - (zm n e : Int)).natAbs
theorem yNS_0 {a0 : Act} {w : World} {V2 V5 : Nat} {s : Bool} {n : Nat} {e : Int} {r c : Nat} (E : EnvNS a0 w V2 V5 s n e r c) {R : Exit → Act → World → Prop} {a : Act} {x : World} (q : Q w x) (oth : ∀ j, j ∉ sNS → a.tmps[j]? = a0.tmps[j]?) (dep : ∀ ed ∈ oNS_0.after, Region.binds .any ed = true → ∀ t', sNS[ed.on]? = some t' → ∃ v, a.tmps[t']? = some v ∧ specAt (spNS V2 V5 s n e r c) ed.on v x) : Yld Try.prog R oNS_0 a x 15 (fun v x' => specAt (spNS V2 V5 s n e r c) 0 v x' ∧ (0 ∈ ([] : List Nat) → v = ptrV x.heap.size)) := by
  obtain ⟨k, s', p, L, C, e', m, b1, b2⟩ := E.b5.next q
  exact yld_run (x' := x) rfl (run_num (tmp_eval ((oth 5 (by decide)).trans E.h5)) b1) (Q.refl x) ⟨b2, fun h => absurd h (by decide)⟩
theorem yNS_1 {a0 : Act} {w : World} {V2 V5 : Nat} {s : Bool} {n : Nat} {e : Int} {r c : Nat} (E : EnvNS a0 w V2 V5 s n e r c) {R : Exit → Act → World → Prop} {a : Act} {x : World} (q : Q w x) (oth : ∀ j, j ∉ sNS → a.tmps[j]? = a0.tmps[j]?) (dep : ∀ ed ∈ oNS_1.after, Region.binds .any ed = true → ∀ t', sNS[ed.on]? = some t' → ∃ v, a.tmps[t']? = some v ∧ specAt (spNS V2 V5 s n e r c) ed.on v x) : Yld Try.prog R oNS_1 a x 16 (fun v x' => specAt (spNS V2 V5 s n e r c) 1 v x' ∧ (1 ∈ ([] : List Nat) → v = ptrV x.heap.size)) := by
  obtain ⟨k, s', p, L, C, e', m, b1, b2⟩ := E.b2.next q
  exact yld_run (x' := x) rfl (run_num (tmp_eval ((oth 2 (by decide)).trans E.h2)) b1) (Q.refl x) ⟨b2, fun h => absurd h (by decide)⟩
theorem yNS_2 {a0 : Act} {w : World} {V2 V5 : Nat} {s : Bool} {n : Nat} {e : Int} {r c : Nat} (E : EnvNS a0 w V2 V5 s n e r c) {R : Exit → Act → World → Prop} {a : Act} {x : World} (q : Q w x) (oth : ∀ j, j ∉ sNS → a.tmps[j]? = a0.tmps[j]?) (dep : ∀ ed ∈ oNS_2.after, Region.binds .any ed = true → ∀ t', sNS[ed.on]? = some t' → ∃ v, a.tmps[t']? = some v ∧ specAt (spNS V2 V5 s n e r c) ed.on v x) : Yld Try.prog R oNS_2 a x 17 (fun v x' => specAt (spNS V2 V5 s n e r c) 2 v x' ∧ (2 ∈ ([] : List Nat) → v = ptrV x.heap.size)) := by
  exact yld_move ((oth 1 (by decide)).trans E.h1) ⟨rfl, fun h => absurd h (by decide)⟩
theorem yNS_3 {a0 : Act} {w : World} {V2 V5 : Nat} {s : Bool} {n : Nat} {e : Int} {r c : Nat} (E : EnvNS a0 w V2 V5 s n e r c) {R : Exit → Act → World → Prop} {a : Act} {x : World} (q : Q w x) (oth : ∀ j, j ∉ sNS → a.tmps[j]? = a0.tmps[j]?) (dep : ∀ ed ∈ oNS_3.after, Region.binds .any ed = true → ∀ t', sNS[ed.on]? = some t' → ∃ v, a.tmps[t']? = some v ∧ specAt (spNS V2 V5 s n e r c) ed.on v x) : Yld Try.prog R oNS_3 a x 18 (fun v x' => specAt (spNS V2 V5 s n e r c) 3 v x' ∧ (3 ∈ ([] : List Nat) → v = ptrV x.heap.size)) := by
  obtain ⟨v2, t2, f2⟩ := dep ⟨2, .data⟩ (by simp [oNS_3]) rfl 17 rfl
  have f2 : v2 = (.int .u32 (r : Nat)) := f2
  subst f2
  refine yld_call (enters_of Try.func48 (by kernel_rfl) rfl) (argsc t2) ((beside_any r 1 E.hr (by decide) x).mono ?_)
  rintro y x' ⟨rfl, rfl⟩
  exact ⟨_, rfl, Q.refl _, ⟨rfl, fun h => absurd h (by decide)⟩⟩
theorem yNS_4 {a0 : Act} {w : World} {V2 V5 : Nat} {s : Bool} {n : Nat} {e : Int} {r c : Nat} (E : EnvNS a0 w V2 V5 s n e r c) {R : Exit → Act → World → Prop} {a : Act} {x : World} (q : Q w x) (oth : ∀ j, j ∉ sNS → a.tmps[j]? = a0.tmps[j]?) (dep : ∀ ed ∈ oNS_4.after, Region.binds .any ed = true → ∀ t', sNS[ed.on]? = some t' → ∃ v, a.tmps[t']? = some v ∧ specAt (spNS V2 V5 s n e r c) ed.on v x) : Yld Try.prog R oNS_4 a x 19 (fun v x' => specAt (spNS V2 V5 s n e r c) 4 v x' ∧ (4 ∈ ([] : List Nat) → v = ptrV x.heap.size)) := by
  obtain ⟨v1, t1, f1⟩ := dep ⟨1, .data⟩ (by simp [oNS_4]) rfl 16 rfl
  have f1 : (numS (.fin s n e false)).p v1 x := f1
  obtain ⟨v3, t3, f3⟩ := dep ⟨3, .data⟩ (by simp [oNS_4]) rfl 18 rfl
  have f3 : v3 = (.int .u32 (besV r 1 : Nat)) := f3
  subst f3
  refine yld_call (enters_of Try.func47 (by kernel_rfl) rfl) (args2 t1 t3) ((away_any v1 s n e (besV r 1) x f1 E.n1 E.e0 E.e1 (bes_facts r 1).1 (bes_facts r 1).2.2 ((bes_facts r 1).2.1.trans E.hs) E.hc (Nat.le_refl _) (by decide) E.hz).mono ?_)
  rintro y x' ⟨v, N, F, rfl, h1, h2, h3, h4, h5, q'⟩
  exact ⟨v, rfl, q', ⟨⟨N, F, h1, h2, h3, h4, h5⟩, fun h => absurd h (by decide)⟩⟩
theorem yNS_5 {a0 : Act} {w : World} {V2 V5 : Nat} {s : Bool} {n : Nat} {e : Int} {r c : Nat} (E : EnvNS a0 w V2 V5 s n e r c) {R : Exit → Act → World → Prop} {a : Act} {x : World} (q : Q w x) (oth : ∀ j, j ∉ sNS → a.tmps[j]? = a0.tmps[j]?) (dep : ∀ ed ∈ oNS_5.after, Region.binds .any ed = true → ∀ t', sNS[ed.on]? = some t' → ∃ v, a.tmps[t']? = some v ∧ specAt (spNS V2 V5 s n e r c) ed.on v x) : Yld Try.prog R oNS_5 a x 20 (fun v x' => specAt (spNS V2 V5 s n e r c) 5 v x' ∧ (5 ∈ ([] : List Nat) → v = ptrV x.heap.size)) := by
  obtain ⟨v0, t0, f0⟩ := dep ⟨0, .data⟩ (by simp [oNS_5]) rfl 15 rfl
  have f0 : (distS c (zm n e) r).p v0 x := f0
  obtain ⟨v4, t4, f4⟩ := dep ⟨4, .data⟩ (by simp [oNS_5]) rfl 19 rfl
  have f4 : (distS c (zm n e) (besV r 1)).p v4 x := f4
  refine yld_call (enters_of Try.func17 (by kernel_rfl) rfl) (args2 t0 t4) ((dist_le f0 f4 E.d1).mono ?_)
  rintro y x' ⟨rfl, q'⟩
  exact ⟨_, rfl, q', ⟨rfl, fun h => absurd h (by decide)⟩⟩
theorem yNS_6 {a0 : Act} {w : World} {V2 V5 : Nat} {s : Bool} {n : Nat} {e : Int} {r c : Nat} (E : EnvNS a0 w V2 V5 s n e r c) {R : Exit → Act → World → Prop} {a : Act} {x : World} (q : Q w x) (oth : ∀ j, j ∉ sNS → a.tmps[j]? = a0.tmps[j]?) (dep : ∀ ed ∈ oNS_6.after, Region.binds .any ed = true → ∀ t', sNS[ed.on]? = some t' → ∃ v, a.tmps[t']? = some v ∧ specAt (spNS V2 V5 s n e r c) ed.on v x) : Yld Try.prog R oNS_6 a x 21 (fun v x' => specAt (spNS V2 V5 s n e r c) 6 v x' ∧ (6 ∈ ([] : List Nat) → v = ptrV x.heap.size)) := by
  obtain ⟨v5, t5, f5⟩ := dep ⟨5, .data⟩ (by simp [oNS_6]) rfl 20 rfl
  have f5 : v5 = (.bool true) := f5
  subst f5
  exact yld_move t5 ⟨rfl, fun h => absurd h (by decide)⟩
theorem yNS_7 {a0 : Act} {w : World} {V2 V5 : Nat} {s : Bool} {n : Nat} {e : Int} {r c : Nat} (E : EnvNS a0 w V2 V5 s n e r c) {R : Exit → Act → World → Prop} {a : Act} {x : World} (q : Q w x) (oth : ∀ j, j ∉ sNS → a.tmps[j]? = a0.tmps[j]?) (dep : ∀ ed ∈ oNS_7.after, Region.binds .any ed = true → ∀ t', sNS[ed.on]? = some t' → ∃ v, a.tmps[t']? = some v ∧ specAt (spNS V2 V5 s n e r c) ed.on v x) : Yld Try.prog R oNS_7 a x 22 (fun v x' => specAt (spNS V2 V5 s n e r c) 7 v x' ∧ (7 ∈ ([] : List Nat) → v = ptrV x.heap.size)) := by
  obtain ⟨k, s', p, L, C, e', m, b1, b2⟩ := E.b5.next q
  exact yld_run (x' := x) rfl (run_num (tmp_eval ((oth 5 (by decide)).trans E.h5)) b1) (Q.refl x) ⟨b2, fun h => absurd h (by decide)⟩
theorem yNS_8 {a0 : Act} {w : World} {V2 V5 : Nat} {s : Bool} {n : Nat} {e : Int} {r c : Nat} (E : EnvNS a0 w V2 V5 s n e r c) {R : Exit → Act → World → Prop} {a : Act} {x : World} (q : Q w x) (oth : ∀ j, j ∉ sNS → a.tmps[j]? = a0.tmps[j]?) (dep : ∀ ed ∈ oNS_8.after, Region.binds .any ed = true → ∀ t', sNS[ed.on]? = some t' → ∃ v, a.tmps[t']? = some v ∧ specAt (spNS V2 V5 s n e r c) ed.on v x) : Yld Try.prog R oNS_8 a x 23 (fun v x' => specAt (spNS V2 V5 s n e r c) 8 v x' ∧ (8 ∈ ([] : List Nat) → v = ptrV x.heap.size)) := by
  obtain ⟨k, s', p, L, C, e', m, b1, b2⟩ := E.b2.next q
  exact yld_run (x' := x) rfl (run_num (tmp_eval ((oth 2 (by decide)).trans E.h2)) b1) (Q.refl x) ⟨b2, fun h => absurd h (by decide)⟩
theorem yNS_9 {a0 : Act} {w : World} {V2 V5 : Nat} {s : Bool} {n : Nat} {e : Int} {r c : Nat} (E : EnvNS a0 w V2 V5 s n e r c) {R : Exit → Act → World → Prop} {a : Act} {x : World} (q : Q w x) (oth : ∀ j, j ∉ sNS → a.tmps[j]? = a0.tmps[j]?) (dep : ∀ ed ∈ oNS_9.after, Region.binds .any ed = true → ∀ t', sNS[ed.on]? = some t' → ∃ v, a.tmps[t']? = some v ∧ specAt (spNS V2 V5 s n e r c) ed.on v x) : Yld Try.prog R oNS_9 a x 24 (fun v x' => specAt (spNS V2 V5 s n e r c) 9 v x' ∧ (9 ∈ ([] : List Nat) → v = ptrV x.heap.size)) := by
  exact yld_move ((oth 1 (by decide)).trans E.h1) ⟨rfl, fun h => absurd h (by decide)⟩
theorem yNS_10 {a0 : Act} {w : World} {V2 V5 : Nat} {s : Bool} {n : Nat} {e : Int} {r c : Nat} (E : EnvNS a0 w V2 V5 s n e r c) {R : Exit → Act → World → Prop} {a : Act} {x : World} (q : Q w x) (oth : ∀ j, j ∉ sNS → a.tmps[j]? = a0.tmps[j]?) (dep : ∀ ed ∈ oNS_10.after, Region.binds .any ed = true → ∀ t', sNS[ed.on]? = some t' → ∃ v, a.tmps[t']? = some v ∧ specAt (spNS V2 V5 s n e r c) ed.on v x) : Yld Try.prog R oNS_10 a x 25 (fun v x' => specAt (spNS V2 V5 s n e r c) 10 v x' ∧ (10 ∈ ([] : List Nat) → v = ptrV x.heap.size)) := by
  obtain ⟨v9, t9, f9⟩ := dep ⟨9, .data⟩ (by simp [oNS_10]) rfl 24 rfl
  have f9 : v9 = (.int .u32 (r : Nat)) := f9
  subst f9
  refine yld_call (enters_of Try.func48 (by kernel_rfl) rfl) (argsc t9) ((beside_any r (-1) E.hr (by decide) x).mono ?_)
  rintro y x' ⟨rfl, rfl⟩
  exact ⟨_, rfl, Q.refl _, ⟨rfl, fun h => absurd h (by decide)⟩⟩
theorem yNS_11 {a0 : Act} {w : World} {V2 V5 : Nat} {s : Bool} {n : Nat} {e : Int} {r c : Nat} (E : EnvNS a0 w V2 V5 s n e r c) {R : Exit → Act → World → Prop} {a : Act} {x : World} (q : Q w x) (oth : ∀ j, j ∉ sNS → a.tmps[j]? = a0.tmps[j]?) (dep : ∀ ed ∈ oNS_11.after, Region.binds .any ed = true → ∀ t', sNS[ed.on]? = some t' → ∃ v, a.tmps[t']? = some v ∧ specAt (spNS V2 V5 s n e r c) ed.on v x) : Yld Try.prog R oNS_11 a x 26 (fun v x' => specAt (spNS V2 V5 s n e r c) 11 v x' ∧ (11 ∈ ([] : List Nat) → v = ptrV x.heap.size)) := by
  obtain ⟨v8, t8, f8⟩ := dep ⟨8, .data⟩ (by simp [oNS_11]) rfl 23 rfl
  have f8 : (numS (.fin s n e false)).p v8 x := f8
  obtain ⟨v10, t10, f10⟩ := dep ⟨10, .data⟩ (by simp [oNS_11]) rfl 25 rfl
  have f10 : v10 = (.int .u32 (besV r (-1) : Nat)) := f10
  subst f10
  refine yld_call (enters_of Try.func47 (by kernel_rfl) rfl) (args2 t8 t10) ((away_any v8 s n e (besV r (-1)) x f8 E.n1 E.e0 E.e1 (bes_facts r (-1)).1 (bes_facts r (-1)).2.2 ((bes_facts r (-1)).2.1.trans E.hs) E.hc (Nat.le_refl _) (by decide) E.hz).mono ?_)
  rintro y x' ⟨v, N, F, rfl, h1, h2, h3, h4, h5, q'⟩
  exact ⟨v, rfl, q', ⟨⟨N, F, h1, h2, h3, h4, h5⟩, fun h => absurd h (by decide)⟩⟩
theorem yNS_12 {a0 : Act} {w : World} {V2 V5 : Nat} {s : Bool} {n : Nat} {e : Int} {r c : Nat} (E : EnvNS a0 w V2 V5 s n e r c) {R : Exit → Act → World → Prop} {a : Act} {x : World} (q : Q w x) (oth : ∀ j, j ∉ sNS → a.tmps[j]? = a0.tmps[j]?) (dep : ∀ ed ∈ oNS_12.after, Region.binds .any ed = true → ∀ t', sNS[ed.on]? = some t' → ∃ v, a.tmps[t']? = some v ∧ specAt (spNS V2 V5 s n e r c) ed.on v x) : Yld Try.prog R oNS_12 a x 27 (fun v x' => specAt (spNS V2 V5 s n e r c) 12 v x' ∧ (12 ∈ ([] : List Nat) → v = ptrV x.heap.size)) := by
  obtain ⟨v7, t7, f7⟩ := dep ⟨7, .data⟩ (by simp [oNS_12]) rfl 22 rfl
  have f7 : (distS c (zm n e) r).p v7 x := f7
  obtain ⟨v11, t11, f11⟩ := dep ⟨11, .data⟩ (by simp [oNS_12]) rfl 26 rfl
  have f11 : (distS c (zm n e) (besV r (-1))).p v11 x := f11
  refine yld_call (enters_of Try.func17 (by kernel_rfl) rfl) (args2 t7 t11) ((dist_le f7 f11 E.d2).mono ?_)
  rintro y x' ⟨rfl, q'⟩
  exact ⟨_, rfl, q', ⟨rfl, fun h => absurd h (by decide)⟩⟩
theorem yNS_13 {a0 : Act} {w : World} {V2 V5 : Nat} {s : Bool} {n : Nat} {e : Int} {r c : Nat} (E : EnvNS a0 w V2 V5 s n e r c) {R : Exit → Act → World → Prop} {a : Act} {x : World} (q : Q w x) (oth : ∀ j, j ∉ sNS → a.tmps[j]? = a0.tmps[j]?) (dep : ∀ ed ∈ oNS_13.after, Region.binds .any ed = true → ∀ t', sNS[ed.on]? = some t' → ∃ v, a.tmps[t']? = some v ∧ specAt (spNS V2 V5 s n e r c) ed.on v x) : Yld Try.prog R oNS_13 a x 28 (fun v x' => specAt (spNS V2 V5 s n e r c) 13 v x' ∧ (13 ∈ ([] : List Nat) → v = ptrV x.heap.size)) := by
  obtain ⟨v6, t6, f6⟩ := dep ⟨6, .data⟩ (by simp [oNS_13]) rfl 21 rfl
  have f6 : v6 = (.bool true) := f6
  subst f6
  obtain ⟨v12, t12, f12⟩ := dep ⟨12, .data⟩ (by simp [oNS_13]) rfl 27 rfl
  have f12 : v12 = (.bool true) := f12
  subst f12
  exact yld_pick t6 t12 ⟨rfl, fun h => absurd h (by decide)⟩
theorem hopNS {a0 : Act} {w : World} {V2 V5 : Nat} {s : Bool} {n : Nat} {e : Int} {r c : Nat} (E : EnvNS a0 w V2 V5 s n e r c) {R : Exit → Act → World → Prop} : ∀ (i t : Nat) (o : Oper) (a : Act) (x : World), i < 14 → sNS[i]? = some t → opsNS[i]? = some o → Q w x → (∀ j, j ∉ sNS → a.tmps[j]? = a0.tmps[j]?) → (∀ ed ∈ o.after, Region.binds .any ed = true → ∀ t', sNS[ed.on]? = some t' → ∃ v, a.tmps[t']? = some v ∧ specAt (spNS V2 V5 s n e r c) ed.on v x) → Yld Try.prog R o a x t (fun v x' => specAt (spNS V2 V5 s n e r c) i v x' ∧ (i ∈ ([] : List Nat) → v = ptrV x.heap.size))
  | 0, t, o, a, x, hi, ht, ho, q, oth, dep => by
    have e1 : oNS_0 = o := Option.some.inj ho
    have e2 : 15 = t := Option.some.inj ht
    subst e1 e2
    exact yNS_0 E q oth dep
  | 1, t, o, a, x, hi, ht, ho, q, oth, dep => by
    have e1 : oNS_1 = o := Option.some.inj ho
    have e2 : 16 = t := Option.some.inj ht
    subst e1 e2
    exact yNS_1 E q oth dep
  | 2, t, o, a, x, hi, ht, ho, q, oth, dep => by
    have e1 : oNS_2 = o := Option.some.inj ho
    have e2 : 17 = t := Option.some.inj ht
    subst e1 e2
    exact yNS_2 E q oth dep
  | 3, t, o, a, x, hi, ht, ho, q, oth, dep => by
    have e1 : oNS_3 = o := Option.some.inj ho
    have e2 : 18 = t := Option.some.inj ht
    subst e1 e2
    exact yNS_3 E q oth dep
  | 4, t, o, a, x, hi, ht, ho, q, oth, dep => by
    have e1 : oNS_4 = o := Option.some.inj ho
    have e2 : 19 = t := Option.some.inj ht
    subst e1 e2
    exact yNS_4 E q oth dep
  | 5, t, o, a, x, hi, ht, ho, q, oth, dep => by
    have e1 : oNS_5 = o := Option.some.inj ho
    have e2 : 20 = t := Option.some.inj ht
    subst e1 e2
    exact yNS_5 E q oth dep
  | 6, t, o, a, x, hi, ht, ho, q, oth, dep => by
    have e1 : oNS_6 = o := Option.some.inj ho
    have e2 : 21 = t := Option.some.inj ht
    subst e1 e2
    exact yNS_6 E q oth dep
  | 7, t, o, a, x, hi, ht, ho, q, oth, dep => by
    have e1 : oNS_7 = o := Option.some.inj ho
    have e2 : 22 = t := Option.some.inj ht
    subst e1 e2
    exact yNS_7 E q oth dep
  | 8, t, o, a, x, hi, ht, ho, q, oth, dep => by
    have e1 : oNS_8 = o := Option.some.inj ho
    have e2 : 23 = t := Option.some.inj ht
    subst e1 e2
    exact yNS_8 E q oth dep
  | 9, t, o, a, x, hi, ht, ho, q, oth, dep => by
    have e1 : oNS_9 = o := Option.some.inj ho
    have e2 : 24 = t := Option.some.inj ht
    subst e1 e2
    exact yNS_9 E q oth dep
  | 10, t, o, a, x, hi, ht, ho, q, oth, dep => by
    have e1 : oNS_10 = o := Option.some.inj ho
    have e2 : 25 = t := Option.some.inj ht
    subst e1 e2
    exact yNS_10 E q oth dep
  | 11, t, o, a, x, hi, ht, ho, q, oth, dep => by
    have e1 : oNS_11 = o := Option.some.inj ho
    have e2 : 26 = t := Option.some.inj ht
    subst e1 e2
    exact yNS_11 E q oth dep
  | 12, t, o, a, x, hi, ht, ho, q, oth, dep => by
    have e1 : oNS_12 = o := Option.some.inj ho
    have e2 : 27 = t := Option.some.inj ht
    subst e1 e2
    exact yNS_12 E q oth dep
  | 13, t, o, a, x, hi, ht, ho, q, oth, dep => by
    have e1 : oNS_13 = o := Option.some.inj ho
    have e2 : 28 = t := Option.some.inj ht
    subst e1 e2
    exact yNS_13 E q oth dep
  | i + 14, t, o, a, x, hi, ht, ho, q, oth, dep => absurd hi (by omega)
theorem regionNS {id : Nat} {l : List Oper} {R : Exit → Act → World → Prop} {a0 : Act} {w : World} {V2 V5 : Nat} {s : Bool} {n : Nat} {e : Int} {r c : Nat} (hl : l = opsNS) (hsz : a0.tmps.size = 29) (E : EnvNS a0 w V2 V5 s n e r c)
    (hR : ∀ a x, Q w x → a.defers = a0.defers → a.tmps[4]? = some (.bool true) → R .normal a x) :
    (Code.region id l.toArray true).wp Try.prog R a0 w := by
  subst hl
  refine wp_region_factsG 14 sNS (specAt (spNS V2 V5 s n e r c)) [] (by kernel_rfl) (by decide +kernel) (by decide) rfl (by decide) (fun t ht => ?_) specAt.next (by decide +kernel) ?_ (fun i v x hi hf => by cases hi) (hopNS E) (fun a x q size defers other facts apart => ?_)
  · rw [hsz]
    revert t
    decide
  · intro i o g b ho hg v x hf
    have hi : i < 15 := (List.getElem?_eq_some_iff.1 ho).1
    have key : ∀ i, i < 15 → (opsNS[i]?).bind (·.guard) = none ∨ (opsNS[i]?).bind (·.guard) = some (6, true) := by decide +kernel
    have h := key i hi
    rw [ho] at h
    simp only [Option.bind_some] at h
    rw [hg] at h
    rcases h with h | h
    · cases h
    · injection h with h
      injection h with h1 h2
      subst h1 h2
      exact hf
  · obtain ⟨v, t28, f28⟩ := facts 13 28 (by decide) rfl
    have f28 : v = .bool true := f28
    subst f28
    refine ⟨?_⟩
    show R .normal (a.put (some 4) (a.eval (.tmp 28))) x
    rw [tmp_eval t28]
    refine hR _ _ q defers (Array.getElem?_setIfInBounds_self_of_lt ?_)
    rw [size, hsz]
    decide
set_option maxHeartbeats 4000000 in
set_option maxRecDepth 100000 in
theorem nearest_any (va : Value) (s : Bool) (n : Nat) (e : Int) (r : Nat) (w : World) (ha : NumAt w va (.fin s n e false)) (n1 : blen n ≤ 2000) (e0 : -1074 ≤ e) (e1 : e ≤ 500) (hr : r < 4294967296) (fr : rung32 r < 2139095040) (hs : sgn32 r = s) {c : Nat} (hc : c = 925) (hz : zm n e < 2 ^ 1202)
    (d1 : (((val32 (rung32 r) * 2 ^ c : Nat) : Int) - (zm n e : Int)).natAbs ≤ (((val32 (rung32 (besV r 1)) * 2 ^ c : Nat) : Int) - (zm n e : Int)).natAbs) (d2 : (((val32 (rung32 r) * 2 ^ c : Nat) : Int) - (zm n e : Int)).natAbs ≤ (((val32 (rung32 (besV r (-1))) * 2 ^ c : Nat) : Int) - (zm n e : Int)).natAbs) :
    Calls Try.prog 18 #[va, .int .u32 (r : Int)] w fun x w' => x = .returned (.bool true) ∧ Q w w' := by
  obtain ⟨pa, La, Ca, rfl, hn⟩ := fin_at ha
  have HA : Hid (NatAt w (.slice pa La Ca) n) := hn
  have k1 := fun w => lisnan_any r hr w
  have k2 := fun w => linf_any r hr w
  have hnan : nanN r = false := by rw [nanN_rung]; exact decide_eq_false (by omega)
  rw [hnan] at k1
  rw [decide_eq_false (by omega)] at k2
  have HZ : Hid (zm n e < 2 ^ 1202) := hz
  have HC : Hid (c = 925) := hc
  have HA1 : Hid ((((val32 (rung32 r) * 2 ^ c : Nat) : Int) - (zm n e : Int)).natAbs ≤ (((val32 (rung32 (besV r 1)) * 2 ^ c : Nat) : Int) - (zm n e : Int)).natAbs) := d1
  have HA2 : Hid ((((val32 (rung32 r) * 2 ^ c : Nat) : Int) - (zm n e : Int)).natAbs ≤ (((val32 (rung32 (besV r (-1))) * 2 ^ c : Nat) : Int) - (zm n e : Int)).natAbs) := d2
  clear ha hn hz hc d1 d2 hnan
  go_enter Try.func18, Try.ntmps18
  go_wp2_with fail
  refine (k1 _).mono ?_
  rintro x v1 ⟨rfl, rfl⟩
  go_wp2_with fail
  refine (k2 _).mono ?_
  rintro x v2 ⟨rfl, rfl⟩
  clear k1 k2
  go_wp2_with fail
  refine (away_any _ s n e r _ (at_fin (Q.nat ((Q.refl w).cells _ _) HA.out)) n1 e0 e1 hr fr hs HC.out (Nat.le_refl _) (by decide) HZ.out).mono ?_
  rintro x v3 ⟨v, N, F, rfl, h1, h2, h3, h4, h5, g3⟩
  obtain ⟨pc, Lc, Cc, rfl, hc3⟩ := fin_at h1
  have Q3 : Q w v3 := ((Q.refl w).cells _ _).trans g3
  have BX : Hid (BoxS v3 w.heap.size (numS (.fin s n e false))) := ⟨2, s, pa, La, Ca, e, false, Box5.next ⟨by simp [go_sem], by simp [go_sem], by simp [go_sem], by simp [go_sem], by simp [go_sem]⟩ g3, at_fin (Q.nat Q3 HA.out)⟩
  have DD : Hid ((distS c (zm n e) r).p (.agg #[.int .i64 2, .bool false, .slice pc Lc Cc, .int .i64 F, .bool false]) v3) := ⟨N, F, h1, h2, h3, h4, h5⟩
  have HQ3 : Hid (Q w v3) := Q3
  clear Q3 h1 h2 h3 h4 h5 g3 hc3 HA
  go_wp2_with fail
  have Qa : Q v3 (v3.alloc (Obj.cells #[Value.int .i64 2, Value.bool false, Value.slice pc Lc Cc, Value.int .i64 F, Value.bool false] 31)) := (Q.refl v3).cells _ _
  refine regionNS rfl rfl ⟨rfl, rfl, rfl, BX.out.next Qa, ⟨2, false, pc, Lc, Cc, F, false, ⟨by simp [go_sem], by simp [go_sem], by simp [go_sem], by simp [go_sem], by simp [go_sem]⟩, (distS c (zm n e) r).st DD.out Qa⟩, hr, hs, n1, e0, e1, HC.out, HZ.out, HA1.out, HA2.out⟩ ?_
  intro a9 x9 q9 df t4
  have HQ9 : Hid (Q w x9) := (HQ3.out.trans Qa).trans q9
  clear q9 Qa
  go_wp2_with fail
  obtain ⟨tm, dd⟩ := a9
  have df : dd = [] := df
  subst df
  have t4 : tm[4]? = some (.bool true) := t4
  go_ret
  have t4' : tm.getD 4 undef = .bool true := by rw [Array.getD_eq_getD_getElem?, t4]; rfl
  exact ⟨congrArg Ending.returned t4', HQ9.out⟩
end Go.Proofs.Ytgpgjbgobaaohaa

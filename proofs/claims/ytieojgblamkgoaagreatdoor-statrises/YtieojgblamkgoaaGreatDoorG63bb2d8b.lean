/- stat: Histogram, NaNs; the statements' helper same. -/
import Derived.Test.YtieojgblamkgoaaGreatDoorG08126ae2
import Derived.Test.YtieojgblamkgoaaGreatDoorG50204d31
import Derived.Test.YtieojgblamkgoaaGreatDoorGf196db84
import Derived.Test.YtieojgblamkgoaaGreatDoorG0317dd36
import Derived.Test.YtieojgblamkgoaaGreatDoorG289660dc
import Derived.Test.YtieojgblamkgoaaGreatDoorGc55c58d4
import Derived.Test.YtieojgblamkgoaaGreatDoorGbc27328e
namespace Go.Proofs.YtieojgblamkgoaaGreatDoor
open Go.RowKit
set_option linter.unusedVariables false
set_option linter.unusedSimpArgs false

set_option maxHeartbeats 1000000 in
set_option maxRecDepth 100000 in
theorem snans_any (P A H b kc : Nat) (L : List Nat) (w : World) (h : StAt w P A H b kc L) : Calls Tryz.prog 33 #[.pointer (some ⟨P, 0, none⟩)] w fun e w' => e = .returned (.int .i64 (nanC L : Nat)) ∧ w' = w := by
  have p5 := h.p5
  clear h
  go_enter Tryz.func33, Tryz.ntmps33
  go_wp2_with fail
  go_ret
  exact ⟨rfl, rfl⟩
set_option maxHeartbeats 1000000 in
set_option maxRecDepth 100000 in
theorem shist_any (P A H b kc : Nat) (L : List Nat) (w : World) (h : StAt w P A H b kc L) : Calls Tryz.prog 30 #[.pointer (some ⟨P, 0, none⟩)] w fun e w' => ∃ v, e = .returned v ∧ ISl w' v (hisL b L) ∧ Q w w' := by
  have p1 := h.p1
  have p2 := h.p2
  have K := tclone_any b H kc L w h.b2 h.tal h.cap
  have HK : Hid _ := K
  clear h K
  unfold talV at HK
  go_enter Tryz.func30, Tryz.ntmps30
  go_wp2_with fail
  refine Calls.mono HK.out ?_
  rintro e w2 ⟨G, k, rfl, hk, hv, hG, hq⟩
  have HI : Hid (ISl w2 (.slice (some ⟨G, 0, none⟩) (2 ^ b) k) (hisL b L)) := by
    refine Or.inl ⟨G, 0, k, by rw [hisL_len], fun i hi => ?_⟩
    rw [hisL_len] at hi
    rw [Nat.zero_add, hv.cell i hi, hisL_get hi]
  have HQ : Hid (Q w w2) := hq
  have hf : ∀ w, (Instr.field 72 (.agg #[.int .i64 (b : Int), .slice (some ⟨G, 0, none⟩) (2 ^ b) k]) 1).run Tryz.prog w = .ok (.slice (some ⟨G, 0, none⟩) (2 ^ b) k) w := fun w => by rfl
  clear hv hq HK
  go_wp2_with fail
  go_ret
  exact ⟨_, rfl, HI.out, HQ.out⟩
theorem lowK_perm {L M : List Nat} (h : L.Perm M) : lowK L = lowK M := by
  unfold lowK numL
  refine (h.filter _).foldl_eq' ?_ _
  intro x _ y _ z
  omega
theorem topK_perm {L M : List Nat} (h : L.Perm M) : topK L = topK M := by
  unfold topK numL
  refine (h.filter _).foldl_eq' ?_ _
  intro x _ y _ z
  omega
theorem nanC_perm {L M : List Nat} (h : L.Perm M) : nanC L = nanC M := by unfold nanC; exact h.countP_eq _
theorem ends_perm {L M : List Nat} (h : L.Perm M) : endsV L = endsV M := by
  unfold endsV
  rw [lowK_perm h, topK_perm h]
  have hl : (numL L).length = (numL M).length := by unfold numL; exact (h.filter _).length_eq
  by_cases e : numL L = []
  · rw [if_pos e, if_pos (List.length_eq_zero_iff.1 (by rw [← hl, e]; rfl))]
  · rw [if_neg e, if_neg (fun k => e (List.length_eq_zero_iff.1 (by rw [hl, k]; rfl)))]
theorem mean_perm {L M : List Nat} (h : L.Perm M) : smeanV L = smeanV M := by
  unfold smeanV
  rw [h.length_eq, sumV_perm h]
  by_cases e : L = []
  · subst e
    rw [if_pos rfl, if_pos (List.nil_perm.1 h)]
  · rw [if_neg e, if_neg (fun k => e (by rw [k] at h; exact List.perm_nil.1 h))]
set_option maxHeartbeats 8000000 in
set_option maxRecDepth 100000 in
theorem same_any (P A H b kc P' A' H' kc' : Nat) (L L' : List Nat) (w : World) (h : StAt w P A H b kc L) (h' : StAt w P' A' H' b kc' L') (hp : L'.Perm L) (hb : ∀ s ∈ L, s < 4294967296) (hL : L.length ≤ 65536) (hT : Tab w) :
    Calls Tryz.prog 28 #[.pointer (some ⟨P, 0, none⟩), .pointer (some ⟨P', 0, none⟩)] w fun e w' => e = .returned (.bool true) ∧ Q w w' := by
  have hb' : ∀ s ∈ L', s < 4294967296 := fun s hs => hb s (hp.mem_iff.1 hs)
  have hll : L'.length = L.length := hp.length_eq
  have HS : Hid (∀ x, Q w x → StAt x P A H b kc L ∧ StAt x P' A' H' b kc' L' ∧ Tab x) := fun x q => ⟨h.next q, h'.next q, q.tab hT⟩
  have K1 : Hid (∀ x, Q w x → Calls Tryz.prog 34 #[.pointer (some ⟨P, 0, none⟩)] x fun e w' => e = .returned (.tuple #[.int .u32 ((smeanV L).1 : Nat), .int .i64 (smeanV L).2]) ∧ Q x w') := fun x q => smean_any P A H b kc L x (HS.out x q).1 hb (by omega) (HS.out x q).2.2
  have K2 : Hid (∀ x, Q w x → Calls Tryz.prog 34 #[.pointer (some ⟨P', 0, none⟩)] x fun e w' => e = .returned (.tuple #[.int .u32 ((smeanV L).1 : Nat), .int .i64 (smeanV L).2]) ∧ Q x w') := fun x q => by
    rw [← mean_perm hp]; exact smean_any P' A' H' b kc' L' x (HS.out x q).2.1 hb' (by omega) (HS.out x q).2.2
  have K3 : Hid (∀ x, Q w x → Calls Tryz.prog 31 #[.pointer (some ⟨P, 0, none⟩)] x fun e w' => e = .returned (.tuple #[.int .u32 ((endsV L).1 : Nat), .int .u32 ((endsV L).2.1 : Nat), .int .i64 (endsV L).2.2]) ∧ Q x w') := fun x q => sends_any P A H b kc L x (HS.out x q).1 hb
  have K4 : Hid (∀ x, Q w x → Calls Tryz.prog 31 #[.pointer (some ⟨P', 0, none⟩)] x fun e w' => e = .returned (.tuple #[.int .u32 ((endsV L).1 : Nat), .int .u32 ((endsV L).2.1 : Nat), .int .i64 (endsV L).2.2]) ∧ Q x w') := fun x q => by
    rw [← ends_perm hp]; exact sends_any P' A' H' b kc' L' x (HS.out x q).2.1 hb'
  have K5 : Hid (∀ x, Q w x → Calls Tryz.prog 37 #[.pointer (some ⟨A, 0, none⟩)] x fun e w' => e = .returned (.int .u32 (sumV L 1 : Nat)) ∧ Q x w') := fun x q => by
    obtain ⟨N, hA⟩ := (HS.out x q).1.acc
    exact asum_any L A L.length N x hA (sumZ_fits hb (by omega)) (HS.out x q).2.2
  have K6 : Hid (∀ x, Q w x → Calls Tryz.prog 37 #[.pointer (some ⟨A', 0, none⟩)] x fun e w' => e = .returned (.int .u32 (sumV L 1 : Nat)) ∧ Q x w') := fun x q => by
    obtain ⟨N, hA⟩ := (HS.out x q).2.1.acc
    have := asum_any L' A' L'.length N x hA (sumZ_fits hb' (by omega)) (HS.out x q).2.2
    rw [sumV_perm hp] at this
    exact this
  have K7 : Hid (∀ x, Q w x → Calls Tryz.prog 32 #[.pointer (some ⟨A, 0, none⟩)] x fun e w' => e = .returned (.int .i64 (L.length : Int)) ∧ w' = x) := fun x q => by
    obtain ⟨N, hA⟩ := (HS.out x q).1.acc
    exact acount_any A _ x hA.c
  have K8 : Hid (∀ x, Q w x → Calls Tryz.prog 32 #[.pointer (some ⟨A', 0, none⟩)] x fun e w' => e = .returned (.int .i64 (L.length : Int)) ∧ w' = x) := fun x q => by
    obtain ⟨N, hA⟩ := (HS.out x q).2.1.acc
    have := acount_any A' _ x hA.c
    rw [hll] at this
    exact this
  have K9 : Hid (∀ x, Q w x → Calls Tryz.prog 33 #[.pointer (some ⟨P, 0, none⟩)] x fun e w' => e = .returned (.int .i64 (nanC L : Nat)) ∧ w' = x) := fun x q => snans_any P A H b kc L x (HS.out x q).1
  have K10 : Hid (∀ x, Q w x → Calls Tryz.prog 33 #[.pointer (some ⟨P', 0, none⟩)] x fun e w' => e = .returned (.int .i64 (nanC L : Nat)) ∧ w' = x) := fun x q => by
    rw [← nanC_perm hp]; exact snans_any P' A' H' b kc' L' x (HS.out x q).2.1
  have K11 : Hid (∀ x, Q w x → Calls Tryz.prog 30 #[.pointer (some ⟨P, 0, none⟩)] x fun e w' => ∃ v, e = .returned v ∧ ISl w' v (hisL b L) ∧ Q x w') := fun x q => shist_any P A H b kc L x (HS.out x q).1
  have K12 : Hid (∀ x, Q w x → Calls Tryz.prog 30 #[.pointer (some ⟨P', 0, none⟩)] x fun e w' => ∃ v, e = .returned v ∧ ISl w' v (hisL b L) ∧ Q x w') := fun x q => by
    rw [← hisL_perm hp]; exact shist_any P' A' H' b kc' L' x (HS.out x q).2.1
  have HHL : Hid ((hisL b L).length ≤ 100000) := by
    show _ ≤ _
    rw [hisL_len]
    exact Nat.le_trans (Nat.pow_le_pow_right (by decide) h.b2) (by decide)
  have HP0 : Hid (∀ x, Q w x → x.cell? ⟨P, 0, none⟩ = some (.pointer (some ⟨A, 0, none⟩)) ∧ x.cell? ⟨P', 0, none⟩ = some (.pointer (some ⟨A', 0, none⟩))) := fun x q => ⟨q.cell h.p0, q.cell h'.p0⟩
  clear h h' hT hb hb' hll hp HS
  generalize (smeanV L).1 = m1 at *
  generalize (smeanV L).2 = m2 at *
  generalize (endsV L).1 = e1 at *
  generalize (endsV L).2.1 = e2 at *
  generalize (endsV L).2.2 = e3 at *
  generalize sumV L 1 = sm at *
  generalize nanC L = nc at *
  go_enter Tryz.func28, Tryz.ntmps28
  go_wp2_with fail
  refine Calls.mono (K1.out w (Q.refl w)) ?_
  rintro e x1 ⟨rfl, q1⟩
  have H1 : Hid (Q w x1) := q1
  clear q1 K1
  go_wp2_with fail
  refine Calls.mono (K2.out _ H1.out) ?_
  rintro e x2 ⟨rfl, q2⟩
  have H2 : Hid (Q w x2) := H1.out.trans q2
  clear q2 K2 H1
  go_wp2_with fail
  refine Calls.mono (K3.out _ H2.out) ?_
  rintro e x3 ⟨rfl, q3⟩
  have H3 : Hid (Q w x3) := H2.out.trans q3
  clear q3 K3 H2
  go_wp2_with fail
  refine Calls.mono (K4.out _ H3.out) ?_
  rintro e x4 ⟨rfl, q4⟩
  have H4 : Hid (Q w x4) := H3.out.trans q4
  clear q4 K4 H3
  have c0 := (HP0.out x4 H4.out).1
  have c1 := (HP0.out x4 H4.out).2
  go_wp2_with fail
  refine regionSA (P := P) (A := A) (P2 := P') (A2 := A') (m1 := m1) (e1 := e1) (e2 := e2) (sm := sm) (m2 := m2) (e3 := e3) (nL := (L.length : Int)) (nc := (nc : Int)) (I := hisL b L) rfl (by simp) ⟨rfl, rfl, rfl, rfl, rfl, rfl, rfl, rfl, rfl, rfl, rfl, rfl, c0, c1, HHL.out,
    fun x q => K5.out x (H4.out.trans q), fun x q => K6.out x (H4.out.trans q), fun x q => (K7.out x (H4.out.trans q)).mono (fun e w' h => ⟨h.1, by rw [h.2]; exact Q.refl _⟩), fun x q => (K8.out x (H4.out.trans q)).mono (fun e w' h => ⟨h.1, by rw [h.2]; exact Q.refl _⟩),
    fun x q => (K9.out x (H4.out.trans q)).mono (fun e w' h => ⟨h.1, by rw [h.2]; exact Q.refl _⟩), fun x q => (K10.out x (H4.out.trans q)).mono (fun e w' h => ⟨h.1, by rw [h.2]; exact Q.refl _⟩), fun x q => K11.out x (H4.out.trans q), fun x q => K12.out x (H4.out.trans q)⟩ ?_
  intro a5 x5 q5 hd h4
  have H5 : Hid (Q w x5) := H4.out.trans q5
  clear q5 H4 c0 c1 K5 K6 K7 K8 K9 K10 K11 K12
  go_wp2_with fail
  obtain ⟨tm, dd⟩ := a5
  have df : dd = [] := hd
  subst df
  have t4 : tm[4]? = some (.bool true) := h4
  go_ret
  have t4' : tm.getD 4 undef = .bool true := by rw [Array.getD_eq_getD_getElem?, t4]; rfl
  exact ⟨congrArg Ending.returned t4', H5.out⟩
end Go.Proofs.YtieojgblamkgoaaGreatDoor
/- Sums of products with weights: the program's, whatever the products are. -/
namespace Go.Proofs.YtieojgblamkgoaaGreatDoor
open Go.RowKit
set_option linter.unusedVariables false
set_option linter.unusedSimpArgs false

/-- A product in binary64. -/
def prodV (y : Int) (s : Nat) : Nat := told64 ((Ieee.double.read (floatOfInt .f64 y)).product (Ieee.double.read (wideW s)))
theorem prod_num {d d' e : Ieee.Datum} (h : d.product d' = some e) : e.isNaN = false := by
  cases d <;> cases d' <;> simp [Ieee.Datum.product] at h
  all_goals first | (subst h; rfl) | (split at h <;> first | (cases h) | (injection h with h; subst h; rfl)) | (obtain ⟨_, h⟩ := h; subst h; rfl)
section
variable {P : Program} {ρ : Operand → Value} {x : World} {d : Option Tmp} {ty : TypeId} {ps : String} {af : Array Edge} {g : Option (Nat × Bool)}
theorem run_ixi {j k gg o Lw cap i : Nat} (h : ρ (.tmp j) = .slice (some ⟨gg, o, none⟩) Lw cap) (h' : ρ (.tmp k) = .int .i64 (i : Nat)) (hi : i < Lw) : (execOp ρ { dst := d, op := .indexAddr 60 (.tmp j) (.tmp k), type := ty, pos := ps, after := af, guard := g }).run Tryz.prog x = .ok (.value (.pointer (some ⟨gg, o + i, none⟩))) x := by
  simp [execOp, h, h', go_sem, hi]
theorem run_ldi {j : Nat} {p : Addr} {v : Value} (h : ρ (.tmp j) = .pointer (some p)) (c : x.cell? p = some v) : (execOp ρ { dst := d, op := .load 3 (.tmp j), type := ty, pos := ps, after := af, guard := g }).run Tryz.prog x = .ok (.value v) x := by
  simp [execOp, h, go_sem, c]
theorem run_cvf {j : Nat} {n : Int} (h : ρ (.tmp j) = .int .i64 n) : (execOp ρ { dst := d, op := .convert 3 108 (.tmp j), type := ty, pos := ps, after := af, guard := g }).run Tryz.prog x = .ok (.value (.float .f64 (floatOfInt .f64 n))) x := by
  simp [execOp, h, go_sem]
theorem run_mulf {j k : Nat} {y : Int} {s : Nat} (h : ρ (.tmp j) = .float .f64 (floatOfInt .f64 y)) (h' : ρ (.tmp k) = .float .f64 (wideW s)) : ∃ W x', (execOp ρ { dst := d, op := .binOp .mul 108 (.tmp j) (.tmp k) 108, type := ty, pos := ps, after := af, guard := g }).run Tryz.prog x = .ok (.value (.float .f64 W)) x' ∧ Q x x' ∧ W < 18446744073709551616 ∧ canW W = prodV y s := by
  cases hd : (Ieee.double.read (floatOfInt .f64 y)).product (Ieee.double.read (wideW s)) with
  | none =>
    have hf : floatBits .mul .f64 (floatOfInt .f64 y) (wideW s) = none := by
      show ((Ieee.double.read (floatOfInt .f64 y)).product (Ieee.double.read (wideW s))).map Ieee.double.write = none
      rw [hd]; rfl
    have l1 := run_arith_none .mul (by simp) 108 .f64 (floatOfInt .f64 y) (wideW s) hf Tryz.prog x
    refine ⟨nanw .f64 (floatOfInt .f64 y) (wideW s) x, x.drew, ?_, (Q.refl x).drew, (nanw64 _ _ _).2, ?_⟩
    · simp [execOp, h, h', go_sem, l1]
    · unfold prodV
      rw [hd]
      exact can_none _ _ _
  | some e =>
    have hf : floatBits .mul .f64 (floatOfInt .f64 y) (wideW s) = some (Ieee.double.write e) := by
      show ((Ieee.double.read (floatOfInt .f64 y)).product (Ieee.double.read (wideW s))).map Ieee.double.write = _
      rw [hd]; rfl
    have l1 := run_float_arith (P := Tryz.prog) x .mul 108 .f64 (floatOfInt .f64 y) (wideW s) _ hf
    refine ⟨Ieee.double.write e, x, ?_, Q.refl x, write64_lt e, ?_⟩
    · simp [execOp, h, h', go_sem, l1]
    · unfold prodV
      rw [hd]
      exact can_some (prod_num hd)
end
def flS (P : Nat) : Spec := ⟨fun v _ => ∃ W, v = .float .f64 W ∧ W < 18446744073709551616 ∧ canW W = P, fun h _ => h⟩
def oD5_0 : Oper := { dst := some 41, op := .move (.tmp 0), type := 60, pos := "sums.go:119", after := #[], guard := none }
def oD5_1 : Oper := { dst := some 42, op := .move (.tmp 9), type := 3, pos := "sums.go:119", after := #[], guard := none }
def oD5_2 : Oper := { dst := some 43, op := .indexAddr 60 (.tmp 41) (.tmp 42), type := 0, pos := "sums.go:119", after := #[⟨0, .data⟩, ⟨1, .data⟩], guard := none }
def oD5_3 : Oper := { dst := some 44, op := .load 3 (.tmp 43), type := 3, pos := "sums.go:119", after := #[⟨2, .data⟩], guard := none }
def oD5_4 : Oper := { dst := some 45, op := .convert 3 108 (.tmp 44), type := 108, pos := "sums.go:119", after := #[⟨3, .data⟩], guard := none }
def oD5_5 : Oper := { dst := some 46, op := .move (.tmp 10), type := 43, pos := "sums.go:119", after := #[], guard := none }
def oD5_7 : Oper := { dst := some 48, op := .binOp .mul 108 (.tmp 45) (.tmp 47) 108, type := 108, pos := "sums.go:119", after := #[⟨4, .data⟩, ⟨6, .data⟩], guard := none }
def oD5_8 : Oper := { dst := some 11, op := .assign (.tmp 48), type := 108, pos := "sums.go:119", after := #[⟨7, .data⟩, ⟨6, .chain⟩, ⟨0, .phase⟩, ⟨1, .phase⟩, ⟨2, .phase⟩, ⟨3, .phase⟩, ⟨4, .phase⟩, ⟨5, .phase⟩, ⟨6, .phase⟩, ⟨7, .phase⟩], guard := none }
def sD5 : List Nat := [41, 42, 43, 44, 45, 46, 47, 48]
def spD5 (gb ob ib Lw cap : Nat) (y : Int) (s : Nat) : List Spec := [spV (.slice (some ⟨gb, ob, none⟩) Lw cap), spV (.int .i64 (ib : Nat)), spV (.pointer (some ⟨gb, ob + ib, none⟩)), spV (.int .i64 y), spV (.float .f64 (floatOfInt .f64 y)), spV (.int .u32 (s : Nat)), spV (.float .f64 (wideW s)), flS (prodV y s)]
structure EnvD5 (a0 : Act) (w : World) (gb ob ib Lw cap : Nat) (y : Int) (s : Nat) : Prop where
  h0 : a0.tmps[0]? = some (.slice (some ⟨gb, ob, none⟩) Lw cap)
  h9 : a0.tmps[9]? = some (.int .i64 (ib : Nat))
  h10 : a0.tmps[10]? = some (.int .u32 (s : Nat))
  hi : ib < Lw
  c : w.cell? ⟨gb, ob + ib, none⟩ = some (.int .i64 y)
  hs : s < 4294967296
theorem yD5_0 {a0 : Act} {w : World} {gb ob ib Lw cap : Nat} {y : Int} {s : Nat} (E : EnvD5 a0 w gb ob ib Lw cap y s) {R : Exit → Act → World → Prop} {a : Act} {x : World} (q : Q w x) (oth : ∀ j, j ∉ sD5 → a.tmps[j]? = a0.tmps[j]?) (dep : ∀ ed ∈ oD5_0.after, Region.binds .any ed = true → ∀ t', sD5[ed.on]? = some t' → ∃ v, a.tmps[t']? = some v ∧ specAt (spD5 gb ob ib Lw cap y s) ed.on v x) : Yld Tryz.prog R oD5_0 a x 41 (fun v x' => specAt (spD5 gb ob ib Lw cap y s) 0 v x' ∧ (0 ∈ ([] : List Nat) → v = ptrV x.heap.size)) := by
  exact yld_move ((oth 0 (by decide)).trans E.h0) ⟨rfl, fun h => absurd h (by decide)⟩
theorem yD5_1 {a0 : Act} {w : World} {gb ob ib Lw cap : Nat} {y : Int} {s : Nat} (E : EnvD5 a0 w gb ob ib Lw cap y s) {R : Exit → Act → World → Prop} {a : Act} {x : World} (q : Q w x) (oth : ∀ j, j ∉ sD5 → a.tmps[j]? = a0.tmps[j]?) (dep : ∀ ed ∈ oD5_1.after, Region.binds .any ed = true → ∀ t', sD5[ed.on]? = some t' → ∃ v, a.tmps[t']? = some v ∧ specAt (spD5 gb ob ib Lw cap y s) ed.on v x) : Yld Tryz.prog R oD5_1 a x 42 (fun v x' => specAt (spD5 gb ob ib Lw cap y s) 1 v x' ∧ (1 ∈ ([] : List Nat) → v = ptrV x.heap.size)) := by
  exact yld_move ((oth 9 (by decide)).trans E.h9) ⟨rfl, fun h => absurd h (by decide)⟩
theorem yD5_2 {a0 : Act} {w : World} {gb ob ib Lw cap : Nat} {y : Int} {s : Nat} (E : EnvD5 a0 w gb ob ib Lw cap y s) {R : Exit → Act → World → Prop} {a : Act} {x : World} (q : Q w x) (oth : ∀ j, j ∉ sD5 → a.tmps[j]? = a0.tmps[j]?) (dep : ∀ ed ∈ oD5_2.after, Region.binds .any ed = true → ∀ t', sD5[ed.on]? = some t' → ∃ v, a.tmps[t']? = some v ∧ specAt (spD5 gb ob ib Lw cap y s) ed.on v x) : Yld Tryz.prog R oD5_2 a x 43 (fun v x' => specAt (spD5 gb ob ib Lw cap y s) 2 v x' ∧ (2 ∈ ([] : List Nat) → v = ptrV x.heap.size)) := by
  obtain ⟨v0, t0, f0⟩ := dep ⟨0, .data⟩ (by simp [oD5_2]) rfl 41 rfl
  have f0 : v0 = (.slice (some ⟨gb, ob, none⟩) Lw cap) := f0
  subst f0
  obtain ⟨v1, t1, f1⟩ := dep ⟨1, .data⟩ (by simp [oD5_2]) rfl 42 rfl
  have f1 : v1 = (.int .i64 (ib : Nat)) := f1
  subst f1
  exact yld_run (x' := x) rfl (run_ixi (tmp_eval t0) (tmp_eval t1) E.hi) (Q.refl x) ⟨rfl, fun h => absurd h (by decide)⟩
theorem yD5_3 {a0 : Act} {w : World} {gb ob ib Lw cap : Nat} {y : Int} {s : Nat} (E : EnvD5 a0 w gb ob ib Lw cap y s) {R : Exit → Act → World → Prop} {a : Act} {x : World} (q : Q w x) (oth : ∀ j, j ∉ sD5 → a.tmps[j]? = a0.tmps[j]?) (dep : ∀ ed ∈ oD5_3.after, Region.binds .any ed = true → ∀ t', sD5[ed.on]? = some t' → ∃ v, a.tmps[t']? = some v ∧ specAt (spD5 gb ob ib Lw cap y s) ed.on v x) : Yld Tryz.prog R oD5_3 a x 44 (fun v x' => specAt (spD5 gb ob ib Lw cap y s) 3 v x' ∧ (3 ∈ ([] : List Nat) → v = ptrV x.heap.size)) := by
  obtain ⟨v2, t2, f2⟩ := dep ⟨2, .data⟩ (by simp [oD5_3]) rfl 43 rfl
  have f2 : v2 = (.pointer (some ⟨gb, ob + ib, none⟩)) := f2
  subst f2
  exact yld_run (x' := x) rfl (run_ldi (tmp_eval t2) (q.cell E.c)) (Q.refl x) ⟨rfl, fun h => absurd h (by decide)⟩
theorem yD5_4 {a0 : Act} {w : World} {gb ob ib Lw cap : Nat} {y : Int} {s : Nat} (E : EnvD5 a0 w gb ob ib Lw cap y s) {R : Exit → Act → World → Prop} {a : Act} {x : World} (q : Q w x) (oth : ∀ j, j ∉ sD5 → a.tmps[j]? = a0.tmps[j]?) (dep : ∀ ed ∈ oD5_4.after, Region.binds .any ed = true → ∀ t', sD5[ed.on]? = some t' → ∃ v, a.tmps[t']? = some v ∧ specAt (spD5 gb ob ib Lw cap y s) ed.on v x) : Yld Tryz.prog R oD5_4 a x 45 (fun v x' => specAt (spD5 gb ob ib Lw cap y s) 4 v x' ∧ (4 ∈ ([] : List Nat) → v = ptrV x.heap.size)) := by
  obtain ⟨v3, t3, f3⟩ := dep ⟨3, .data⟩ (by simp [oD5_4]) rfl 44 rfl
  have f3 : v3 = (.int .i64 y) := f3
  subst f3
  exact yld_run (x' := x) rfl (run_cvf (tmp_eval t3)) (Q.refl x) ⟨rfl, fun h => absurd h (by decide)⟩
theorem yD5_5 {a0 : Act} {w : World} {gb ob ib Lw cap : Nat} {y : Int} {s : Nat} (E : EnvD5 a0 w gb ob ib Lw cap y s) {R : Exit → Act → World → Prop} {a : Act} {x : World} (q : Q w x) (oth : ∀ j, j ∉ sD5 → a.tmps[j]? = a0.tmps[j]?) (dep : ∀ ed ∈ oD5_5.after, Region.binds .any ed = true → ∀ t', sD5[ed.on]? = some t' → ∃ v, a.tmps[t']? = some v ∧ specAt (spD5 gb ob ib Lw cap y s) ed.on v x) : Yld Tryz.prog R oD5_5 a x 46 (fun v x' => specAt (spD5 gb ob ib Lw cap y s) 5 v x' ∧ (5 ∈ ([] : List Nat) → v = ptrV x.heap.size)) := by
  exact yld_move ((oth 10 (by decide)).trans E.h10) ⟨rfl, fun h => absurd h (by decide)⟩
theorem yD5_7 {a0 : Act} {w : World} {gb ob ib Lw cap : Nat} {y : Int} {s : Nat} (E : EnvD5 a0 w gb ob ib Lw cap y s) {R : Exit → Act → World → Prop} {a : Act} {x : World} (q : Q w x) (oth : ∀ j, j ∉ sD5 → a.tmps[j]? = a0.tmps[j]?) (dep : ∀ ed ∈ oD5_7.after, Region.binds .any ed = true → ∀ t', sD5[ed.on]? = some t' → ∃ v, a.tmps[t']? = some v ∧ specAt (spD5 gb ob ib Lw cap y s) ed.on v x) : Yld Tryz.prog R oD5_7 a x 48 (fun v x' => specAt (spD5 gb ob ib Lw cap y s) 7 v x' ∧ (7 ∈ ([] : List Nat) → v = ptrV x.heap.size)) := by
  obtain ⟨v4, t4, f4⟩ := dep ⟨4, .data⟩ (by simp [oD5_7]) rfl 45 rfl
  have f4 : v4 = (.float .f64 (floatOfInt .f64 y)) := f4
  subst f4
  obtain ⟨v6, t6, f6⟩ := dep ⟨6, .data⟩ (by simp [oD5_7]) rfl 47 rfl
  have f6 : v6 = (.float .f64 (wideW s)) := f6
  subst f6
  obtain ⟨W, x', hr, q', hW, hc⟩ := run_mulf (d := some 48) (ty := 108) (ps := "sums.go:119") (af := oD5_7.after) (g := none) (tmp_eval t4) (tmp_eval t6)
  exact yld_run (x' := x') rfl hr q' ⟨⟨W, rfl, hW, hc⟩, fun h => absurd h (by decide)⟩
set_option maxRecDepth 100000 in
theorem normD5 {t0 t1 t2 t3 t4 t5 t6 t7 t8 t9 t10 t11 t12 t13 t14 t15 t16 t17 t18 t19 t20 t21 t22 t23 t24 t25 t26 t27 t28 t29 t30 t31 t32 t33 t34 t35 t36 t37 t38 t39 t40 t41 t42 t43 t44 t45 t46 t47 t48 t49 t50 t51 t52 t53 v41 v42 v43 v44 v45 v46 v47 v48 v11 : Value} {d : List Deferred} : putAll ⟨#[t0, t1, t2, t3, t4, t5, t6, t7, t8, t9, t10, t11, t12, t13, t14, t15, t16, t17, t18, t19, t20, t21, t22, t23, t24, t25, t26, t27, t28, t29, t30, t31, t32, t33, t34, t35, t36, t37, t38, t39, t40, t41, t42, t43, t44, t45, t46, t47, t48, t49, t50, t51, t52, t53], d⟩ [(41, v41), (42, v42), (43, v43), (44, v44), (45, v45), (46, v46), (47, v47), (48, v48), (11, v11)] = ⟨#[t0, t1, t2, t3, t4, t5, t6, t7, t8, t9, t10, v11, t12, t13, t14, t15, t16, t17, t18, t19, t20, t21, t22, t23, t24, t25, t26, t27, t28, t29, t30, t31, t32, t33, t34, t35, t36, t37, t38, t39, t40, v41, v42, v43, v44, v45, v46, v47, v48, t49, t50, t51, t52, t53], d⟩ := by
  kernel_rfl
end Go.Proofs.YtieojgblamkgoaaGreatDoor
/- Sums of products with weights: the program's. -/
namespace Go.Proofs.YtieojgblamkgoaaGreatDoor
open Go.RowKit
set_option linter.unusedVariables false
set_option linter.unusedSimpArgs false

theorem sum64_nan2 {d' : Ieee.Datum} (h : d'.isNaN = true) (d : Ieee.Datum) : told64 (d.sum d') = 9221120237041090560 := by
  obtain ⟨s, t, rfl⟩ := isNaN_cases h
  cases d <;> rfl
theorem can_sum_r (W X : Nat) : add64V W (canW X) = add64V W X := by
  unfold canW
  cases h : nan64 X
  · rfl
  · rw [if_pos rfl]
    unfold add64V
    rw [sum64_nan2 (read64_nan h), sum64_nan2 (read64_nan made64)]
/-- The products of weights and samples. -/
def prods (W : List Int) (S : List Nat) : List Nat := (List.range S.length).map fun i => prodV (W.getD i 0) (S.getD i 0)
theorem prods_length (W : List Int) (S : List Nat) : (prods W S).length = S.length := by unfold prods; simp
theorem prods_at (W : List Int) (S : List Nat) {i : Nat} (h : i < S.length) : (prods W S).getD i 0 = prodV (W.getD i 0) (S.getD i 0) := by
  unfold prods
  rw [List.getD_eq_getElem?_getD, List.getElem?_map, List.getElem?_range h]
  rfl
end Go.Proofs.YtieojgblamkgoaaGreatDoor
/- One sample with whole weights, summed in binary64 (as in SWhB, over the program's side alone). -/
namespace Go.Proofs.YtieojgblamkgoaaGreatDoor
open Go.RowKit
set_option linter.unusedVariables false
set_option linter.unusedSimpArgs false

theorem read_weightq {y : Int} (h0 : y ≤ 268435456) (h1 : -268435456 ≤ y) : ∃ j : Nat, ∃ p : Int, Ieee.double.read (floatOfInt .f64 y) = .number (decide (y < 0)) (y.natAbs * 2 ^ j) p ∧ (y ≠ 0 → p = -(j : Int)) := by
  by_cases hy : y = 0
  · subst hy
    exact ⟨0, -1074, by decide +kernel, fun h => absurd rfl h⟩
  · have hne : y.natAbs ≠ 0 := by omega
    have a0 := Nat.log2_self_le hne
    have a1 : y.natAbs < 2 ^ (y.natAbs.log2 + 1) := Nat.lt_log2_self
    have aL : y.natAbs.log2 ≤ 52 := by
      have := (Nat.log2_lt hne).2 (Nat.lt_of_le_of_lt (show y.natAbs ≤ 268435456 by omega) (show 268435456 < 2 ^ 53 by decide))
      omega
    have e1 : floatOfInt .f64 y = Ieee.double.nearest (decide (y < 0)) y.natAbs 0 := rfl
    generalize y.natAbs.log2 = M at *
    have e2 := nearest_exact (neg := decide (y < 0)) (k := 0) (p := 0) a0 a1 aL (by omega) (by omega)
    rw [Nat.pow_zero, Nat.mul_one] at e2
    have b1 : y.natAbs * 2 ^ (52 - M) < 9007199254740992 := by
      have := Nat.mul_lt_mul_of_pos_right a1 (Nat.two_pow_pos (52 - M))
      rw [← Nat.pow_add, show M + 1 + (52 - M) = 53 by omega] at this
      exact this
    have b0 : 4503599627370496 ≤ y.natAbs * 2 ^ (52 - M) := by
      have := Nat.mul_le_mul_right (2 ^ (52 - M)) a0
      rw [← Nat.pow_add, show M + (52 - M) = 52 by omega] at this
      exact this
    refine ⟨52 - M, 0 + ((0 : Nat) : Int) + M - 52, ?_, fun _ => by omega⟩
    rw [e1, e2, read_wd b0 b1 (by omega) (by omega)]
theorem wideW_casesq (a : Nat) : (nanN a = true ∧ (Ieee.double.read (wideW a)).isNaN = true) ∨ (rung32 a = 2139095040 ∧ Ieee.double.read (wideW a) = .infinity (sgn32 a)) ∨
    (rung32 a < 2139095040 ∧ wideW a = wideN a ∧ ∃ M P, Ieee.double.read (wideW a) = .number (sgn32 a) M P ∧ -1074 ≤ P ∧ Ieee.signed (sgn32 a) M (P + 1074).toNat = sampleZ a) := by
  cases h : nanN a
  · have e : wideW a = wideN a := by unfold wideW; rw [h]; rfl
    have h' := h
    rw [nanN_rung] at h'
    have h' := of_decide_eq_false h'
    rcases Nat.lt_or_ge (rung32 a) 2139095040 with g | g
    · obtain ⟨r, s, v⟩ := wide_fin g
      refine Or.inr (Or.inr ⟨g, e, _, _, by rw [e, read_fin64 r, s], by omega, ?_⟩)
      rw [← s, signed_read, v]
    · exact Or.inr (Or.inl ⟨by omega, by rw [e]; exact wide_read_inf (by omega)⟩)
  · have e : wideW a = 9221120237041090560 := by unfold wideW; rw [h]; rfl
    exact Or.inl ⟨rfl, by rw [e]; decide⟩
theorem signed_eqq (s : Bool) (m k : Nat) : Ieee.signed s m k = if s = true then -((m * 2 ^ k : Nat) : Int) else ((m * 2 ^ k : Nat) : Int) := by
  unfold Ieee.signed; rw [Nat.shiftLeft_eq]

theorem quo_power64q (s : Bool) {m : Nat} (hm : m < 9007199254740992) (p q : Int) : ((Ieee.Datum.number s m p).quotient 54 (.number false 4503599627370496 q)).map Ieee.double.write = some (Ieee.double.word s (rungOf Ieee.double m (p - q - 52))) := by
  have hl2 : (4503599627370496 : Nat).log2 = 52 := by decide
  have hl : m.log2 ≤ 52 := by
    by_cases h0 : m = 0
    · subst h0; decide
    · have := (Nat.log2_lt h0).2 (show m < 2 ^ 53 from hm); omega
  obtain ⟨B, hB⟩ : ∃ B, B = 54 + (4503599627370496 : Nat).log2 - m.log2 := ⟨_, rfl⟩
  have hB1 : 54 ≤ B := by omega
  have em : (Ieee.Datum.number s m p).quotient 54 (.number false 4503599627370496 q) = some (.number (s ^^ false) (2 * ((m <<< B) / 4503599627370496) + ((m <<< B) % 4503599627370496 != 0).toNat) (p - q - (B : Int) - 1)) := by
    rw [hB]; simp [Ieee.Datum.quotient]
  have e1 : m <<< B = m * 2 ^ (B - 52) * 4503599627370496 := by
    rw [Nat.shiftLeft_eq, Nat.mul_assoc, show (4503599627370496 : Nat) = 2 ^ 52 from rfl, ← Nat.pow_add, show B - 52 + 52 = B by omega]
  rw [em, e1, Nat.mul_div_cancel _ (by decide), Nat.mul_mod_left, xor_f]
  show some (Ieee.double.nearest s (2 * (m * 2 ^ (B - 52)) + 0) (p - q - (B : Int) - 1)) = _
  rw [nearest_rung]
  refine congrArg (fun r => some (Ieee.double.word s r)) ?_
  have e2 : 2 * (m * 2 ^ (B - 52)) + 0 = m * 2 ^ (B - 51) := by
    rw [show B - 51 = (B - 52) + 1 by omega, Nat.pow_succ, Nat.add_zero, Nat.mul_comm 2, Nat.mul_assoc]
  rw [e2, rung_scale]
  congr 1; omega
theorem read_65536q : Ieee.double.read 4679240012837945344 = .number false 4503599627370496 (-36) := by decide +kernel
def sizeLq (L : List Int) : Nat := (L.map Int.natAbs).sum
theorem sizeL_consq (v : Int) (t : List Int) : sizeLq (v :: t) = v.natAbs + sizeLq t := by simp [sizeLq]
theorem X_formq {x : Nat} (h : rung32 x < 2139095040) : ∃ m g, (sampleZ x).natAbs = m * 2 ^ g ∧ m < 2 ^ 24 ∧ g ≤ 1178 :=
  ⟨mag32 (rung32 x), plc32 (rung32 x) + 925, signed_abs _ _ _, mag_lt32 _, by have := plc_le32 h; omega⟩
/-- A word of binary64 that is worth k times a sample's X. -/
def IsDq (X k : Int) (W : Nat) : Prop := W < 18446744073709551616 ∧ rung64 W = rungOf Ieee.double (k * X).natAbs (-1074) ∧ (k * X ≠ 0 → sgn64 W = decide (k * X < 0))
theorem word_lt64q (s : Bool) (r : Nat) (h : r ≤ 9218868437227405312) : Ieee.double.word s r < 18446744073709551616 := by
  unfold Ieee.Format.word
  rw [show Ieee.double.signWeight = 9223372036854775808 by decide]
  cases s <;> simp <;> omega
theorem rung_le64'q (M : Nat) (p : Int) : rungOf Ieee.double M p ≤ 9218868437227405312 := rungOf_le _ _ _
theorem IsDq.mk {X k : Int} {s : Bool} (h : k * X ≠ 0 → s = decide (k * X < 0)) : IsDq X k (Ieee.double.word s (rungOf Ieee.double (k * X).natAbs (-1074))) := by
  have hr := rung_le64'q (k * X).natAbs (-1074)
  obtain ⟨h1, h2⟩ := sgn_word64 s (r := rungOf Ieee.double (k * X).natAbs (-1074)) (by omega)
  exact ⟨word_lt64q _ _ hr, h2, fun g => by rw [h1]; exact h g⟩
theorem kX_valq {X k : Int} {m g : Nat} (hX : X.natAbs = m * 2 ^ g) (hm : m < 2 ^ 24) (hg : g ≤ 1178) (hk : k.natAbs ≤ 2 ^ 28) : val64 (rungOf Ieee.double (k * X).natAbs (-1074)) = (k * X).natAbs ∧ rungOf Ieee.double (k * X).natAbs (-1074) < 9218868437227405312 := by
  have e : (k * X).natAbs = k.natAbs * m * 2 ^ g := by rw [Int.natAbs_mul, hX, Nat.mul_assoc]
  have hkm : k.natAbs * m < 2 ^ 53 := Nat.lt_of_le_of_lt (Nat.mul_le_mul hk (Nat.le_of_lt hm)) (by decide)
  have hb : (k * X).natAbs < 2 ^ (53 + g) := by rw [e, Nat.pow_add]; exact Nat.mul_lt_mul_of_pos_right hkm (Nat.two_pow_pos g)
  have hlog : (k * X).natAbs.log2 ≤ 2000 := by
    by_cases h0 : (k * X).natAbs = 0
    · rw [h0]; decide
    · have := (Nat.log2_lt h0).2 hb; omega
  have hv := vN_exact (M := (k * X).natAbs) (g := g) hlog ⟨k.natAbs * m, by rw [e, Nat.mul_comm]⟩ hb
  refine ⟨hv, ?_⟩
  refine val_inj_lt64.1 ?_
  rw [hv]
  refine Nat.lt_of_lt_of_le hb ?_
  show 2 ^ (53 + g) ≤ mag64 9218868437227405312 * 2 ^ plc64 9218868437227405312
  obtain ⟨P, hP, hP2⟩ : ∃ P, plc64 9218868437227405312 = P ∧ 2046 ≤ P := ⟨_, rfl, by decide⟩
  rw [show mag64 9218868437227405312 = 2 ^ 52 by decide, hP, ← Nat.pow_add]
  exact Nat.pow_le_pow_right (by decide) (by omega)
theorem IsDq.sval {X k : Int} {W m g : Nat} (h : IsDq X k W) (hX : X.natAbs = m * 2 ^ g) (hm : m < 2 ^ 24) (hg : g ≤ 1178) (hk : k.natAbs ≤ 2 ^ 28) : rung64 W < 9218868437227405312 ∧ sval64 W = k * X := by
  obtain ⟨hv, hr⟩ := kX_valq hX hm hg hk
  obtain ⟨_, h1, h2⟩ := h
  rw [← h1] at hv hr
  refine ⟨hr, ?_⟩
  unfold sval64
  rw [hv]
  by_cases h0 : k * X = 0
  · rw [h0]; simp
  · rw [h2 h0]
    by_cases hn : k * X < 0
    · rw [if_pos (decide_eq_true hn)]; omega
    · rw [if_neg (by simpa using hn)]; omega
theorem sval_signed64q (a : Nat) : sval64 a = Ieee.signed (sgn64 a) (mag64 (rung64 a)) (plc64 (rung64 a)) := by
  unfold sval64 val64; rw [signed_eqq]
theorem told64_numq (s : Bool) (N : Nat) (b : Int) : told64 (some (.number s N b)) = Ieee.double.word s (rungOf Ieee.double N b) := nearest_rung _ _ _ _
theorem IsDq.add {X a b : Int} {A B m g : Nat} (hA : IsDq X a A) (hB : IsDq X b B) (hX : X.natAbs = m * 2 ^ g) (hm : m < 2 ^ 24) (hg : g ≤ 1178) (ha : a.natAbs ≤ 2 ^ 28) (hb : b.natAbs ≤ 2 ^ 28) : IsDq X (a + b) (add64V A B) := by
  obtain ⟨a1, a2⟩ := hA.sval hX hm hg ha
  obtain ⟨b1, b2⟩ := hB.sval hX hm hg hb
  unfold add64V
  rw [read_fin64 a1, read_fin64 b1]
  obtain ⟨N, c, e1, e2⟩ := sum_units (sgn64 A) (sgn64 B) (mag64 (rung64 A)) (mag64 (rung64 B)) (-1074 + (plc64 (rung64 A) : Int)) (-1074 + (plc64 (rung64 B) : Int)) (by omega) (by omega)
  rw [show (-1074 + (plc64 (rung64 A) : Int) + 1074).toNat = plc64 (rung64 A) by omega, show (-1074 + (plc64 (rung64 B) : Int) + 1074).toNat = plc64 (rung64 B) by omega, ← sval_signed64q, ← sval_signed64q, a2, b2, ← Int.add_mul] at e1 e2
  rw [e1, told64_numq, e2]
  exact IsDq.mk fun h => sg_of h
theorem IsDq.nought (X : Int) : IsDq X 0 9223372036854775808 := by
  refine ⟨by decide, ?_, fun h => absurd (Int.zero_mul X) h⟩
  rw [Int.zero_mul]
  show _ = rungOf Ieee.double 0 (-1074)
  rw [rungOf_zero]
  decide
theorem IsDq.prod {x : Nat} (h : rung32 x < 2139095040) {y : Int} (h0 : y ≤ 268435456) (h1 : -268435456 ≤ y) : IsDq (sampleZ x) y (prodV y x) := by
  obtain ⟨j, p, hr, hp⟩ := read_weightq h0 h1
  rcases wideW_casesq x with ⟨hn, _⟩ | ⟨hi, _⟩ | ⟨_, _, M, P, hw, hP, hs⟩
  · rw [nanN_rung] at hn; have := of_decide_eq_true hn; omega
  · omega
  · unfold prodV
    rw [hr, hw]
    have he : (Ieee.Datum.number (decide (y < 0)) (y.natAbs * 2 ^ j) p).product (.number (sgn32 x) M P) = some (.number (decide (y < 0) ^^ sgn32 x) (y.natAbs * 2 ^ j * M) (p + P)) := rfl
    rw [he, told64_numq]
    have hX : (sampleZ x).natAbs = M * 2 ^ (P + 1074).toNat := by rw [← hs]; exact signed_abs _ _ _
    have hrung : rungOf Ieee.double (y.natAbs * 2 ^ j * M) (p + P) = rungOf Ieee.double (y * sampleZ x).natAbs (-1074) := by
      rw [Int.natAbs_mul, hX]
      by_cases hy : y = 0
      · subst hy; simp [rungOf_zero]
      · rw [hp hy, show y.natAbs * 2 ^ j * M = y.natAbs * M * 2 ^ j by rw [Nat.mul_assoc, Nat.mul_comm (2 ^ j), ← Nat.mul_assoc], rung_scale, ← Nat.mul_assoc, rung_scale]
        congr 1
        omega
    rw [hrung]
    refine IsDq.mk fun hne => ?_
    have hs0 : sampleZ x ≠ 0 := fun e => hne (by rw [e, Int.mul_zero])
    have hy0 : y ≠ 0 := fun e => hne (by rw [e, Int.zero_mul])
    have hsx : sgn32 x = decide (sampleZ x < 0) := signed_sign (s := sgn32 x) (m := mag32 (rung32 x)) (k := plc32 (rung32 x) + 925) hs0
    rw [hsx]
    generalize sampleZ x = X at *
    rcases Int.lt_trichotomy y 0 with g | g | g
    · rcases Int.lt_trichotomy X 0 with k | k | k
      · have := Int.mul_pos_of_neg_of_neg g k
        rw [decide_eq_true g, decide_eq_true k, decide_eq_false (by omega)]; rfl
      · exact absurd k hs0
      · have := Int.mul_neg_of_neg_of_pos g k
        rw [decide_eq_true g, decide_eq_false (by omega), decide_eq_true this]; rfl
    · exact absurd g hy0
    · rcases Int.lt_trichotomy X 0 with k | k | k
      · have := Int.mul_neg_of_pos_of_neg g k
        rw [decide_eq_false (by omega), decide_eq_true k, decide_eq_true this]; rfl
      · exact absurd k hs0
      · have := Int.mul_pos g k
        rw [decide_eq_false (by omega), decide_eq_false (by omega), decide_eq_false (by omega)]; rfl
theorem IsDq.same {X k : Int} {A B : Nat} (hA : IsDq X k A) (hB : IsDq X k B) : A = B ∨ (A % 9223372036854775808 = 0 ∧ B % 9223372036854775808 = 0) := by
  obtain ⟨a0, a1, a2⟩ := hA
  obtain ⟨b0, b1, b2⟩ := hB
  have hr : A % 9223372036854775808 = B % 9223372036854775808 := a1.trans b1.symm
  by_cases h : k * X = 0
  · right
    rw [h, show (0 : Int).natAbs = 0 from rfl, rungOf_zero] at a1 b1
    exact ⟨a1, b1⟩
  · left
    have hs := (a2 h).trans (b2 h).symm
    unfold sgn64 at hs
    have hA2 : A / 9223372036854775808 % 2 = A / 9223372036854775808 := by omega
    have hB2 : B / 9223372036854775808 % 2 = B / 9223372036854775808 := by omega
    rw [hA2, hB2] at hs
    have : A / 9223372036854775808 = B / 9223372036854775808 := by
      have hA3 : A / 9223372036854775808 = 0 ∨ A / 9223372036854775808 = 1 := by omega
      have hB3 : B / 9223372036854775808 = 0 ∨ B / 9223372036854775808 = 1 := by omega
      rcases hA3 with e | e <;> rcases hB3 with f | f <;> rw [e, f] at hs ⊢ <;> first | rfl | (exact absurd hs (by decide))
    omega
theorem fold_Dq {X : Int} {m g : Nat} (hX : X.natAbs = m * 2 ^ g) (hm : m < 2 ^ 24) (hg : g ≤ 1178) : ∀ (l : List (Int × Nat)) (z : Int) (A : Nat), IsDq X z A → (∀ p ∈ l, IsDq X p.1 p.2) → z.natAbs + sizeLq (l.map Prod.fst) ≤ 2 ^ 28 → IsDq X (z + (l.map Prod.fst).sum) ((l.map Prod.snd).foldl add64V A)
  | [], z, A, hA, _, _ => by simpa using hA
  | p :: t, z, A, hA, hl, hs => by
    rw [List.map_cons, sizeL_consq] at hs
    rw [List.map_cons, List.map_cons, List.foldl_cons, List.sum_cons, ← Int.add_assoc]
    exact fold_Dq hX hm hg t (z + p.1) _ (hA.add (hl p (List.mem_cons_self ..)) hX hm hg (by omega) (by omega)) (fun q hq => hl q (List.mem_cons_of_mem _ hq)) (by omega)
theorem dot_Dq {x : Nat} (hx : rung32 x < 2139095040) {W : List Int} (hs : sizeLq W ≤ 2 ^ 28) (hb : ∀ y ∈ W, y.natAbs ≤ 268435456) : IsDq (sampleZ x) W.sum (dotF (prods W (List.replicate W.length x))) := by
  obtain ⟨m, g, h1, h2, h3⟩ := X_formq hx
  have e : prods W (List.replicate W.length x) = W.map fun y => prodV y x := by
    refine List.ext_getElem? fun i => ?_
    rcases Nat.lt_or_ge i W.length with h | h
    · have hp := prods_at W (List.replicate W.length x) (i := i) (by simp; exact h)
      have hl : i < (prods W (List.replicate W.length x)).length := by rw [prods_length]; simp; exact h
      rw [List.getD_eq_getElem?_getD, List.getElem?_eq_getElem hl] at hp
      rw [List.getElem?_eq_getElem hl, List.getElem?_map, List.getElem?_eq_getElem h]
      simp only [Option.getD_some, Option.map_some] at hp ⊢
      rw [hp, List.getD_eq_getElem?_getD, List.getElem?_eq_getElem h, List.getD_eq_getElem?_getD, List.getElem?_replicate, if_pos h]
      rfl
    · rw [List.getElem?_eq_none (by rw [prods_length]; simp; exact h), List.getElem?_eq_none (by simp; exact h)]
  rw [e]
  unfold dotF
  cases W with
  | nil =>
    rw [if_pos (show List.map (fun y => prodV y x) [] = [] from rfl)]
    refine ⟨by decide, ?_, fun h => absurd (Int.zero_mul _) h⟩
    show rung64 0 = rungOf Ieee.double (0 * sampleZ x).natAbs (-1074)
    rw [Int.zero_mul, show (0 : Int).natAbs = 0 from rfl, rungOf_zero]
    decide
  | cons y t =>
    rw [if_neg (by simp)]
    have := fold_Dq h1 h2 h3 ((y :: t).map fun y => (y, prodV y x)) 0 9223372036854775808 (IsDq.nought _) (fun p hp => by
      obtain ⟨z, hz, rfl⟩ := List.mem_map.1 hp
      have := hb z hz
      exact IsDq.prod hx (by omega) (by omega)) (by rw [List.map_map]; show 0 + sizeLq ((y :: t).map fun z => z) ≤ _; rw [List.map_id', Nat.zero_add]; exact hs)
    rw [List.map_map, List.map_map, Int.zero_add] at this
    have e1 : (y :: t).map (Prod.fst ∘ fun y => (y, prodV y x)) = y :: t := by
      show (y :: t).map (fun z => z) = _
      exact List.map_id' _
    rw [e1] at this
    exact this
end Go.Proofs.YtieojgblamkgoaaGreatDoor
/- What package arith's Floor, Nearest and Sqrt return, in the model's own words of floats; what was in memory stays as it was. -/
namespace Go.Proofs.YtieojgblamkgoaaGreatDoor
open Go.RowKit

theorem cut_zero (neg : Bool) (n d : Nat) : Ieee.Toward.zero.cut neg n d = n / 2 ^ d := by
  unfold Ieee.Toward.cut
  show n / (1 <<< min d (n.log2 + 2)) + 0 = _
  rw [Nat.shiftLeft_eq, Nat.one_mul, Nat.add_zero]
  rcases Nat.le_total d (n.log2 + 2) with h | h
  · rw [Nat.min_eq_left h]
  · rw [Nat.min_eq_right h]
    have h1 : n < 2 ^ (n.log2 + 1) := Nat.lt_log2_self
    have h2 : 2 ^ (n.log2 + 1) ≤ 2 ^ (n.log2 + 2) := Nat.pow_le_pow_right (by decide) (by omega)
    have h3 : 2 ^ (n.log2 + 2) ≤ 2 ^ d := Nat.pow_le_pow_right (by decide) h
    rw [Nat.div_eq_of_lt (by omega), Nat.div_eq_of_lt (by omega)]

/-- A binary64 as a whole number, towards 0. -/
def truncV (x : Nat) : Int := ((Ieee.double.read x).toInt .zero).getD 0
theorem trunc_fin {x : Nat} (h : rung64 x < 9218868437227405312) : (Ieee.double.read x).toInt .zero = some (truncV x) ∧ truncV x = Ieee.signed (sgn64 x) (mag64 (rung64 x) * 2 ^ (-1074 + (plc64 (rung64 x) : Int)).toNat / 2 ^ (-(-1074 + (plc64 (rung64 x) : Int))).toNat) 0 := by
  unfold truncV
  have e : (Ieee.double.read x).toInt .zero = some (Ieee.signed (sgn64 x) (mag64 (rung64 x) * 2 ^ (-1074 + (plc64 (rung64 x) : Int)).toNat / 2 ^ (-(-1074 + (plc64 (rung64 x) : Int))).toNat) 0) := by
    rw [read_fin64 h]
    show some (Ieee.signed (sgn64 x) (Ieee.Toward.zero.cut _ _ _) 0) = _
    rw [cut_zero, Nat.shiftLeft_eq]
  rw [e]; exact ⟨rfl, rfl⟩
/-- Is a binary64 at least -2^63 and below 2^63? -/
def inWhole (x : Nat) : Bool := !nan64 x && (decide (-4890909195324358656 ≤ srung64 x) && decide (srung64 x < 4890909195324358656))
theorem whole_bound {x : Nat} (h : inWhole x = true) : floatToIntVal .f64 x .i64 = some (truncV x) := by
  unfold inWhole at h
  simp only [Bool.and_eq_true, Bool.not_eq_true', decide_eq_true_eq] at h
  obtain ⟨hn, h1, h2⟩ := h
  have hr : rung64 x ≤ 4890909195324358656 := by
    unfold srung64 at h1 h2
    cases hs : sgn64 x <;> rw [hs] at h1 h2 <;> simp at h1 h2 <;> omega
  obtain ⟨e1, e2⟩ := trunc_fin (x := x) (by omega)
  unfold floatToIntVal
  have e3 : (FloatKind.f64.decode x).toInt .zero = some (truncV x) := e1
  rw [e3]
  dsimp only
  rw [if_pos]
  show (-9223372036854775808 : Int) ≤ truncV x ∧ truncV x ≤ 9223372036854775807
  rw [e2]
  rcases Nat.lt_or_ge (rung64 x) 4890909195324358656 with g | g
  · have hp : plc64 (rung64 x) ≤ 1084 := by unfold plc64; omega
    have hm := mag_lt64 (rung64 x)
    have hv : mag64 (rung64 x) * 2 ^ (-1074 + (plc64 (rung64 x) : Int)).toNat / 2 ^ (-(-1074 + (plc64 (rung64 x) : Int))).toNat < 9223372036854775808 := by
      have h1 : mag64 (rung64 x) * 2 ^ (-1074 + (plc64 (rung64 x) : Int)).toNat < 9007199254740992 * 2 ^ 10 := by
        have a1 : 2 ^ (-1074 + (plc64 (rung64 x) : Int)).toNat ≤ 2 ^ 10 := Nat.pow_le_pow_right (by decide) (by omega)
        have a2 : mag64 (rung64 x) * 2 ^ (-1074 + (plc64 (rung64 x) : Int)).toNat ≤ mag64 (rung64 x) * 2 ^ 10 := Nat.mul_le_mul_left _ a1
        omega
      exact Nat.lt_of_le_of_lt (Nat.div_le_self _ _) h1
    generalize mag64 (rung64 x) * 2 ^ (-1074 + (plc64 (rung64 x) : Int)).toNat / 2 ^ (-(-1074 + (plc64 (rung64 x) : Int))).toNat = z at hv
    unfold Ieee.signed
    rw [Nat.shiftLeft_zero]
    split <;> omega
  · have hr' : rung64 x = 4890909195324358656 := by omega
    have hs : sgn64 x = true := by
      cases hs : sgn64 x
      · unfold srung64 at h2; rw [hs] at h2
        simp at h2; omega
      · rfl
    rw [hr', hs]
    decide +kernel

theorem whole_lo : srung64 14114281232179134464 = -4890909195324358656 := by decide
theorem whole_hi : srung64 4890909195324358656 = 4890909195324358656 := by decide
theorem whole_cases (x : Nat) : (inWhole x = false ∧ (Ieee.double.order x 14114281232179134464 = none ∨ Ieee.double.order x 14114281232179134464 = some .lt ∨ (Ieee.double.order x 14114281232179134464 = some .gt ∧ (Ieee.double.order x 4890909195324358656 = some .eq ∨ Ieee.double.order x 4890909195324358656 = some .gt))))
    ∨ (inWhole x = true ∧ Ieee.double.order x 4890909195324358656 = some .lt ∧ (Ieee.double.order x 14114281232179134464 = some .gt ∨ Ieee.double.order x 14114281232179134464 = some .eq)) := by
  unfold inWhole
  cases h : nan64 x
  · have h' := h
    rw [nan64_rung] at h'
    have h' := of_decide_eq_false h'
    rw [order_num64 (x := x) (y := 14114281232179134464) (by omega) (by decide), order_num64 (x := x) (y := 4890909195324358656) (by omega) (by decide), whole_lo, whole_hi]
    generalize srung64 x = z
    rcases Int.lt_trichotomy z (-4890909195324358656) with a | a | a
    · rw [Int.compare_eq_lt.2 a]
      exact Or.inl ⟨by simp; omega, Or.inr (Or.inl rfl)⟩
    · rw [Int.compare_eq_eq.2 a, Int.compare_eq_lt.2 (by omega : z < 4890909195324358656)]
      exact Or.inr ⟨by simp; omega, rfl, Or.inr rfl⟩
    · rw [Int.compare_eq_gt.2 a]
      rcases Int.lt_trichotomy z 4890909195324358656 with b | b | b
      · rw [Int.compare_eq_lt.2 b]
        exact Or.inr ⟨by simp; omega, rfl, Or.inl rfl⟩
      · rw [Int.compare_eq_eq.2 b]
        exact Or.inl ⟨by simp; omega, Or.inr (Or.inr ⟨rfl, Or.inl rfl⟩)⟩
      · rw [Int.compare_eq_gt.2 b]
        exact Or.inl ⟨by simp; omega, Or.inr (Or.inr ⟨rfl, Or.inr rfl⟩)⟩
  · exact Or.inl ⟨rfl, Or.inl (order_nan1 _ (read64_nan h))⟩

/-- What whole tells: the number, and the error. -/
def wholeI (x : Nat) : Int := if inWhole x = true then truncV x else 0
def wholeE (x : Nat) : Int := if inWhole x = true then 0 else 20
/-- A binary64 made whole. -/
def flD (way : Ieee.Toward) (x : Nat) : Nat := Ieee.double.write ((Ieee.double.read x).integral way)
theorem integral_eq (name : String) (way : Ieee.Toward) (x : Nat) : Extern.MathFloor.toIntegral name way #[.float .f64 x] = match FloatKind.f64.decode x with
    | .nan s t => if FloatKind.f64.format.quiet t = t then pure (.float .f64 x) else choose (.extern "math.Floor,Ceil,Trunc,RoundToEven.signallingNaN kept" 2) >>= fun kept => pure (.float .f64 (if kept == 1 then x else FloatKind.f64.encode (.nan s (FloatKind.f64.format.quiet t))))
    | d => pure (.float .f64 (FloatKind.f64.encode (d.integral way))) := by kernel_rfl
theorem integral_run (name : String) (way : Ieee.Toward) {x : Nat} (h : nan64 x = false) (w : World) : (Extern.MathFloor.toIntegral name way #[.float .f64 x]).run Tryz.prog w = .ok (.float .f64 (flD way x)) w := by
  have hn := read64_num h
  unfold flD
  have e : FloatKind.f64.decode x = Ieee.double.read x := by kernel_rfl
  rw [integral_eq, e]
  cases hd : Ieee.double.read x with
  | nan s t => rw [hd] at hn; cases hn
  | infinity s => rfl
  | number s m p => rfl
/-- Of a NaN: it, or the same made quiet; and what is drawn for it. -/
def flV (x : Nat) (w : World) : Nat := match Ieee.double.read x with
  | .nan s t => if FloatKind.f64.format.quiet t = t then x else if (Question.extern "math.Floor,Ceil,Trunc,RoundToEven.signallingNaN kept" 2).cut (w.tape w.drawn (.extern "math.Floor,Ceil,Trunc,RoundToEven.signallingNaN kept" 2)) == 1 then x else Ieee.double.write (.nan s (FloatKind.f64.format.quiet t))
  | _ => x
def flU (x : Nat) (w : World) : World := match Ieee.double.read x with
  | .nan _ t => if FloatKind.f64.format.quiet t = t then w else w.drew
  | _ => w
theorem flU_q (x : Nat) (w : World) : Q w (flU x w) := by
  unfold flU; split
  · split
    · exact Q.refl _
    · exact (Q.refl _).drew
  · exact Q.refl _
theorem flV_nan {x : Nat} (h : nan64 x = true) (w : World) : nan64 (flV x w) = true := by
  have h' := h
  rw [nan64_rung] at h'
  have h' := of_decide_eq_true h'
  have hr : rung64 x < 9223372036854775808 := Nat.mod_lt _ (by decide)
  unfold flV
  rw [read_nan64 h']
  dsimp only
  split
  · exact h
  · split
    · exact h
    · have ht : rung64 x - 9218868437227405312 < 2 ^ 52 := by omega
      generalize rung64 x - 9218868437227405312 = t at ht
      show nan64 (Ieee.double.word (sgn64 x) (Ieee.double.infRung + (t ||| 2 ^ 51) % Ieee.double.binade)) = true
      rw [inf64, binade64]
      have h1 : t ||| 2 ^ 51 < 2 ^ 52 := Nat.or_lt_two_pow ht (by decide)
      have h2 : 2 ^ 51 ≤ t ||| 2 ^ 51 := Nat.right_le_or
      generalize t ||| 2 ^ 51 = u at h1 h2
      unfold nan64
      rw [word64]
      have := Bool.toNat_lt (sgn64 x)
      exact decide_eq_true (by omega)
theorem integral_nan (name : String) (way : Ieee.Toward) {x : Nat} (h : nan64 x = true) (w : World) : (Extern.MathFloor.toIntegral name way #[.float .f64 x]).run Tryz.prog w = .ok (.float .f64 (flV x w)) (flU x w) := by
  obtain ⟨s, t, e⟩ := isNaN_cases (read64_nan h)
  have e' : FloatKind.f64.decode x = .nan s t := e
  unfold flV flU
  rw [integral_eq, e', e]
  dsimp only
  by_cases g : FloatKind.f64.format.quiet t = t
  · rw [if_pos g, if_pos g, if_pos g]; rfl
  · rw [if_neg g, if_neg g, if_neg g]
    simp [Question.forced]
    rfl
theorem whole_nan {x : Nat} (h : nan64 x = true) : wholeI x = 0 ∧ wholeE x = 20 := by
  have e : inWhole x = false := by unfold inWhole; rw [h]; rfl
  unfold wholeI wholeE; rw [e]; exact ⟨rfl, rfl⟩
theorem wideN_nan {a : Nat} (h : nanN a = false) : nan64 (wideN a) = false := nan64_write (read32_num h)

/-- What Floor and Nearest tell: the number, and the error. -/
def floI (way : Ieee.Toward) (a : Nat) : Int := if nanN a = true then 0 else wholeI (flD way (wideN a))
def floE (way : Ieee.Toward) (a : Nat) : Int := if nanN a = true then 20 else wholeE (flD way (wideN a))

theorem sqrt_eq (x : Nat) : Extern.MathSqrt.sqrt #[.float .f64 x] = Option.casesOn (motive := fun _ => Sem Value) (FloatKind.f64.format.sqrt x) (choose (.nanBits .f64 x x) >>= fun b => pure (.float .f64 b)) (fun r => pure (.float .f64 r)) := by kernel_rfl
theorem sqrt_run0 {x r : Nat} (h : Ieee.double.sqrt x = some r) (w : World) : (Extern.MathSqrt.sqrt #[.float .f64 x]).run Tryz.prog w = .ok (.float .f64 r) w := by
  have h' : FloatKind.f64.format.sqrt x = some r := h
  rw [sqrt_eq, h']
  rfl
theorem sqrt_none0 {x : Nat} (h : Ieee.double.sqrt x = none) (w : World) : (Extern.MathSqrt.sqrt #[.float .f64 x]).run Tryz.prog w = .ok (.float .f64 (nanw .f64 x x w)) w.drew := by
  have h' : FloatKind.f64.format.sqrt x = none := h
  rw [sqrt_eq, h']
  simp [Question.forced, nanw]
theorem sqrt_nan {x : Nat} (h : nan64 x = true) : Ieee.double.sqrt x = none := by
  obtain ⟨s, t, e⟩ := isNaN_cases (read64_nan h)
  unfold Ieee.Format.sqrt; rw [e]; rfl
/-- The root. -/
def sqrtV (a : Nat) : Nat := if nanN a = true then 2143289344 else match Ieee.double.sqrt (wideN a) with
  | some r => toldD (some (Ieee.double.read r))
  | none => 2143289344
end Go.Proofs.YtieojgblamkgoaaGreatDoor
/- Arithmetic of binary64 whatever comes of it; what space's number, sample, Log and Exp return. -/
namespace Go.Proofs.YtieojgblamkgoaaGreatDoor
open Go.RowKit
set_option linter.unusedVariables false

/-- A word that an operation tells, drawn where it has no answer; the world behind it. -/
def resW (op : BinOp) (x y : Nat) (w : World) : Nat := match floatBits op .f64 x y with
  | none => nanw .f64 x y w
  | some r => r
def resU (op : BinOp) (x y : Nat) (w : World) : World := match floatBits op .f64 x y with
  | none => w.drew
  | some r => w
theorem resU_q (op : BinOp) (x y : Nat) (w : World) : Q w (resU op x y w) := by
  unfold resU; split
  · exact (Q.refl w).drew
  · exact Q.refl w
theorem run_res (op : BinOp) (hop : op = .add ∨ op = .sub ∨ op = .mul ∨ op = .quo) (t : TypeId) (x y : Nat) (P : Program) (w : World) :
    (binOp op t (.float .f64 x) (.float .f64 y)).run P w = .ok (.float .f64 (resW op x y w)) (resU op x y w) := by
  unfold resW resU
  cases h : floatBits op .f64 x y with
  | none => exact run_arith_none op hop t .f64 x y h P w
  | some r => exact run_float_arith w op t .f64 x y r h
theorem same7 (x : Nat) (w : World) : (convert 108 108 (.float .f64 x)).run Tryz.prog w = .ok (.float .f64 x) w :=
  run_convert_float_float w 108 108 .f64 .f64 x x (by kernel_rfl) Tryz.underlying108 rfl
def opD : BinOp → Ieee.Datum → Ieee.Datum → Option Ieee.Datum
  | .add, a, b => a.sum b
  | .sub, a, b => a.sum b.opposite
  | .mul, a, b => a.product b
  | .quo, a, b => a.quotient 54 b
  | _, _, _ => none
theorem bits_op (op : BinOp) (hop : op = .add ∨ op = .sub ∨ op = .mul ∨ op = .quo) (x y : Nat) : floatBits op .f64 x y = (opD op (Ieee.double.read x) (Ieee.double.read y)).map Ieee.double.write := by
  rcases hop with rfl | rfl | rfl | rfl <;> rfl
theorem opD_num {op : BinOp} {a b d : Ieee.Datum} (h : opD op a b = some d) : d.isNaN = false := by
  unfold opD at h
  split at h
  · exact sum_num h
  · exact sum_num h
  · exact product_num h
  · exact quotient_num h
  · cases h
theorem can_res (op : BinOp) (hop : op = .add ∨ op = .sub ∨ op = .mul ∨ op = .quo) (x y : Nat) (w : World) : canW (resW op x y w) = told64 (opD op (Ieee.double.read x) (Ieee.double.read y)) := by
  unfold resW
  rw [bits_op op hop]
  cases h : opD op (Ieee.double.read x) (Ieee.double.read y) with
  | none => exact can_none x y w
  | some d => exact can_some (opD_num h)
theorem resW_lt (op : BinOp) (hop : op = .add ∨ op = .sub ∨ op = .mul ∨ op = .quo) (x y : Nat) (w : World) : resW op x y w < 18446744073709551616 := by
  unfold resW
  rw [bits_op op hop]
  cases h : opD op (Ieee.double.read x) (Ieee.double.read y) with
  | none => exact (nanw64 x y w).2
  | some d => exact write64_lt d
def narW (x : Nat) : Nat := toldD (some (Ieee.double.read x))
end Go.Proofs.YtieojgblamkgoaaGreatDoor
/- Operations of binary64, of NaNs one: plain. -/
namespace Go.Proofs.YtieojgblamkgoaaGreatDoor
open Go.RowKit
set_option linter.unusedVariables false

abbrev isA (op : BinOp) : Prop := op = .add ∨ op = .sub ∨ op = .mul ∨ op = .quo
def opT (op : BinOp) (x y : Nat) : Nat := told64 (opD op (Ieee.double.read x) (Ieee.double.read y))
theorem opD_nan1 {op : BinOp} (hop : isA op) {a : Ieee.Datum} (h : a.isNaN = true) (b : Ieee.Datum) : told64 (opD op a b) = 9221120237041090560 := by
  obtain ⟨s, t, rfl⟩ := isNaN_cases h
  rcases hop with rfl | rfl | rfl | rfl <;> cases b <;> rfl
theorem opD_nan2 {op : BinOp} (hop : isA op) {b : Ieee.Datum} (h : b.isNaN = true) (a : Ieee.Datum) : told64 (opD op a b) = 9221120237041090560 := by
  obtain ⟨s, t, rfl⟩ := isNaN_cases h
  rcases hop with rfl | rfl | rfl | rfl <;> cases a <;> rfl
theorem can_cases (x : Nat) : canW x = x ∨ ((Ieee.double.read x).isNaN = true ∧ (Ieee.double.read (canW x)).isNaN = true) := by
  unfold canW
  cases h : nan64 x
  · left; rfl
  · right; rw [if_pos rfl]; exact ⟨read64_nan h, read64_nan made64⟩
theorem opT_can {op : BinOp} (hop : isA op) (x y : Nat) : opT op (canW x) (canW y) = opT op x y := by
  unfold opT
  rcases can_cases x with h | ⟨h, g⟩
  · rw [h]
    rcases can_cases y with h | ⟨h, g⟩
    · rw [h]
    · rw [opD_nan2 hop h, opD_nan2 hop g]
  · rw [opD_nan1 hop h, opD_nan1 hop g]
theorem res_can {op : BinOp} (hop : isA op) {x y X Y : Nat} {w : World} (hx : canW x = X) (hy : canW y = Y) : canW (resW op x y w) = opT op X Y := by
  rw [can_res op hop, ← hx, ← hy, opT_can hop]; rfl
theorem narW_can (x : Nat) : narW (canW x) = narW x := by
  unfold canW
  cases h : nan64 x
  · rfl
  · rw [if_pos rfl]; unfold narW; rw [nar_nan h, nar_nan made64]
theorem narW_of {x X : Nat} (h : canW x = X) : narW x = narW X := by rw [← h, narW_can]
theorem can_wide (a : Nat) : canW (wideW a) = wideW a := by
  unfold wideW
  cases h : nanN a
  · show canW (wideN a) = wideN a
    unfold canW; rw [wideN_nan h]; rfl
  · show canW 9221120237041090560 = 9221120237041090560
    unfold canW; rw [made64]; rfl
theorem hA1 : isA .add := Or.inl rfl
theorem hA2 : isA .sub := Or.inr (Or.inl rfl)
theorem hA3 : isA .mul := Or.inr (Or.inr (Or.inl rfl))
theorem hA4 : isA .quo := Or.inr (Or.inr (Or.inr rfl))
end Go.Proofs.YtieojgblamkgoaaGreatDoor
/- Plain facts: a number rounded to binary32, as a signed rung. -/
namespace Go.Proofs.YtieojgblamkgoaaGreatDoor
open Go.RowKit
set_option linter.unusedVariables false
set_option linter.unusedSimpArgs false

/-- A number in units of 2^-1074, rounded to binary32: the signed rung. -/
def RS (Z : Int) : Int := if Z < 0 then -(rungOf Ieee.single Z.natAbs (-1074) : Int) else (rungOf Ieee.single Z.natAbs (-1074) : Int)
theorem RS_mono {Y Z : Int} (h : Y ≤ Z) : RS Y ≤ RS Z := by
  unfold RS
  by_cases hy : Y < 0
  · rw [if_pos hy]
    by_cases hz : Z < 0
    · rw [if_pos hz]
      have := rung_mono Ieee.single (-1074) (show Z.natAbs ≤ Y.natAbs by omega)
      omega
    · rw [if_neg hz]; omega
  · rw [if_neg hy, if_neg (by omega)]
    have := rung_mono Ieee.single (-1074) (show Y.natAbs ≤ Z.natAbs by omega)
    omega
theorem srung_told {σ : Bool} {Z : Int} {N : Nat} {b : Int} (hσ : Z ≠ 0 → σ = decide (Z < 0)) (hN : rungOf Ieee.single N b = rungOf Ieee.single Z.natAbs (-1074)) : srung32 (toldD (some (.number σ N b))) = RS Z ∧ nanN (toldD (some (.number σ N b))) = false := by
  rw [toldD_num, hN]
  have hle : rungOf Ieee.single Z.natAbs (-1074) ≤ 2139095040 := by have := rungOf_le Ieee.single Z.natAbs (-1074); rw [inf32] at this; exact this
  obtain ⟨a, b'⟩ := sgn_word32 σ (r := rungOf Ieee.single Z.natAbs (-1074)) (by omega)
  refine ⟨?_, nanN_word hle⟩
  unfold srung32 RS
  rw [a, b']
  by_cases h : Z = 0
  · subst h
    rw [show (0 : Int).natAbs = 0 from rfl, rungOf_zero]
    cases σ <;> rfl
  · rw [hσ h]
    by_cases k : Z < 0
    · rw [decide_eq_true k, if_pos rfl, if_pos k]
    · rw [decide_eq_false k, if_neg (by decide), if_neg k]
theorem samp_eq (a : Nat) {c : Nat} (hc : c = 925) : sampleZ a = sval32 a * 2 ^ c := by
  unfold sampleZ sval32 val32 Ieee.signed
  rw [← hc, Nat.shiftLeft_eq, Nat.pow_add, ← Nat.mul_assoc]
  split
  · rw [Int.neg_mul, Int.natCast_mul, Int.natCast_pow]; rfl
  · rw [Int.natCast_mul, Int.natCast_pow]; rfl
theorem sval_le {a b : Nat} (h : srung32 a ≤ srung32 b) : sval32 a ≤ sval32 b := by
  have e := sval_srung32 a b
  rcases Int.lt_or_le (sval32 b) (sval32 a) with g | g
  · rw [Int.compare_eq_gt.2 g] at e
    have := Int.compare_eq_gt.1 e.symm
    omega
  · exact g
theorem sval_eq {a b : Nat} (h : sval32 a = sval32 b) : srung32 a = srung32 b := by
  have e := sval_srung32 a b
  rw [Int.compare_eq_eq.2 h] at e
  exact Int.compare_eq_eq.1 e.symm
theorem samp_le {a b : Nat} (h : srung32 a ≤ srung32 b) : sampleZ a ≤ sampleZ b := by
  obtain ⟨c, hc⟩ : ∃ c : Nat, c = 925 := ⟨_, rfl⟩
  rw [samp_eq a hc, samp_eq b hc]
  exact Int.mul_le_mul_of_nonneg_right (sval_le h) (Int.le_of_lt (Int.pow_pos (by decide)))
theorem srung_bd {x : Nat} (h : nanN x = false) : -2139095040 ≤ srung32 x ∧ srung32 x ≤ 2139095040 := by
  rw [nanN_rung] at h
  have h := of_decide_eq_false h
  unfold srung32
  split <;> omega
theorem fin_srung {x : Nat} (h : rung32 x < 2139095040) : -2139095040 < srung32 x ∧ srung32 x < 2139095040 := by
  unfold srung32; split <;> omega
theorem RS_self {a : Nat} (h : rung32 a < 2139095040) : RS (sampleZ a) = srung32 a := by
  have habs : (sampleZ a).natAbs = mag32 (rung32 a) * 2 ^ (plc32 (rung32 a) + 925) := by unfold sampleZ; rw [signed_abs]
  have hr : rungOf Ieee.single (sampleZ a).natAbs (-1074) = rung32 a := by
    rw [habs, rung_scale, show (-1074 + ((plc32 (rung32 a) + 925 : Nat) : Int)) = -149 + (plc32 (rung32 a) : Int) by omega]
    exact self32 h
  unfold RS srung32
  rw [hr]
  by_cases z : sampleZ a = 0
  · have : rung32 a = 0 := by rw [← hr, z]; exact rungOf_zero _ _
    rw [this]; split <;> split <;> rfl
  · have hs : sgn32 a = decide (sampleZ a < 0) := signed_sign z
    rw [hs]
    by_cases k : sampleZ a < 0
    · rw [if_pos k, if_pos (decide_eq_true k)]
    · rw [if_neg k, if_neg (by simp; omega)]
end Go.Proofs.YtieojgblamkgoaaGreatDoor

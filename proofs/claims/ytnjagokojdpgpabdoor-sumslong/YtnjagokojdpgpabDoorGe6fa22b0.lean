/- Sums in binary64, one behind the other: what the program tells. -/
import Derived.Test.YtnjagokojdpgpabDoorG532309ab
import Derived.Test.YtnjagokojdpgpabDoorG35a6d76e
import Derived.Test.YtnjagokojdpgpabDoorG1eff8dbd
import Derived.Test.YtnjagokojdpgpabDoorG6f916a79
import Derived.Test.YtnjagokojdpgpabDoorG4aec864f
namespace Go.Proofs.YtnjagokojdpgpabDoor
open Go.RowKit
set_option linter.unusedVariables false
set_option linter.unusedSimpArgs false

/-- What is told of a datum in binary64. -/
def told64 : Option Ieee.Datum → Nat
  | none => 9221120237041090560
  | some (.nan ..) => 9221120237041090560
  | some d => Ieee.double.write d
/-- A word of binary64, of NaNs one. -/
def canW (W : Nat) : Nat := if nan64 W = true then 9221120237041090560 else W
def add64V (a b : Nat) : Nat := told64 ((Ieee.double.read a).sum (Ieee.double.read b))
theorem sum64_nan {d : Ieee.Datum} (h : d.isNaN = true) (d' : Ieee.Datum) : told64 (d.sum d') = 9221120237041090560 := by
  obtain ⟨s, t, rfl⟩ := isNaN_cases h
  cases d' <;> rfl
theorem made64 : nan64 9221120237041090560 = true := by decide
theorem can_sum (W X : Nat) : add64V (canW W) X = add64V W X := by
  unfold canW
  cases h : nan64 W
  · rfl
  · rw [if_pos rfl]
    unfold add64V
    rw [sum64_nan (read64_nan h), sum64_nan (read64_nan made64)]
theorem told64_some {d : Ieee.Datum} (h : d.isNaN = false) : told64 (some d) = Ieee.double.write d := by
  cases d with
  | nan s t => cases h
  | infinity s => rfl
  | number s m p => rfl
theorem can_some {d : Ieee.Datum} (h : d.isNaN = false) : canW (Ieee.double.write d) = told64 (some d) := by
  unfold canW
  rw [nan64_write h, if_neg (by decide), told64_some h]
theorem can_none (x y : Nat) (w : World) : canW (nanw .f64 x y w) = 9221120237041090560 := by
  unfold canW
  rw [(nanw64 x y w).1, if_pos rfl]
set_option maxHeartbeats 400000 in
theorem swide_any (a : Nat) (ha : a < 4294967296) (w : World) : Calls Tryd.prog 62 #[.int .u32 (a : Int)] w fun e w' => e = .returned (.float .f64 (wideW a)) ∧ Q w w' := by
  have l1 := f64from
  go_enter Tryd.func62, Tryd.ntmps62
  go_wp2_with fail
  refine (cwide_any a ha _).mono ?_
  rintro e w1 ⟨rfl, q1⟩
  go_wp2_with fail
  go_ret
  exact ⟨by simp, q1⟩
set_option maxHeartbeats 400000 in
theorem widebits_any (W : Nat) (hW : W < 18446744073709551616) (w : World) : Calls Tryd.prog 53 #[.float .f64 W] w fun e w' => e = .returned (.int .u64 (canW W : Nat)) ∧ w' = w := by
  have l1 := f64bits
  have k := fun w => isnan64_any W w
  unfold canW
  cases h : nan64 W
  · rw [h] at k
    clear h
    go_enter Tryd.func53, Tryd.ntmps53
    go_wp2_with fail
    refine (k _).mono ?_
    rintro e w1 ⟨rfl, rfl⟩
    go_wp2_with fail
    go_ret
    exact ⟨rfl, rfl⟩
  · rw [h] at k
    clear h
    go_enter Tryd.func53, Tryd.ntmps53
    go_wp2_with fail
    refine (k _).mono ?_
    rintro e w1 ⟨rfl, rfl⟩
    go_wp2_with fail
    go_ret
    exact ⟨rfl, rfl⟩
set_option maxHeartbeats 400000 in
theorem copysign_any (w : World) : Calls Tryd.prog 61 #[.float .f64 0, .float .f64 13830554455654793216] w fun e w' => e = .returned (.float .f64 9223372036854775808) ∧ w' = w := by
  have l1 : ∀ w, (callFunc 71 #[.float .f64 0]).run Tryd.prog w = .ok (.value (.int .u64 0)) w := fun w => f64bits 0 w
  have l2 : ∀ w, (callFunc 71 #[.float .f64 13830554455654793216]).run Tryd.prog w = .ok (.value (.int .u64 13830554455654793216)) w := fun w => f64bits 13830554455654793216 w
  have l3 : ∀ w, (callFunc 72 #[.int .u64 9223372036854775808]).run Tryd.prog w = .ok (.value (.float .f64 9223372036854775808)) w := fun w => f64from 9223372036854775808 w
  have e1 : bits .andNot .u64 0 9223372036854775808 = 0 := by decide +kernel
  have e2 : bits .and .u64 13830554455654793216 9223372036854775808 = 9223372036854775808 := by decide +kernel
  have e3 : bits .or .u64 0 9223372036854775808 = 9223372036854775808 := by decide +kernel
  go_enter Tryd.func61, Tryd.ntmps61
  go_wp2_with fail
  go_ret
  exact ⟨rfl, rfl⟩
def left64V (l : List Nat) : Nat := if l = [] then 0 else l.foldl (fun z s => add64V z (wideW s)) 9223372036854775808
set_option maxHeartbeats 2000000 in
theorem left64_any (v : Value) (S : List Nat) (w : World) (h : USl w v S) (hn : S.length ≤ 35184372087808) (hb : ∀ i, S.getD i 0 < 4294967296) : Calls Tryd.prog 34 #[v] w fun e w' => e = .returned (.int .u64 (left64V S : Nat)) ∧ Q w w' := by
  obtain ⟨ad, cap, rfl⟩ := h.form
  by_cases h0 : S.length = 0
  · have hS : S = [] := List.eq_nil_of_length_eq_zero h0
    rw [h0]
    have e : left64V S = 0 := by rw [hS]; rfl
    rw [e]
    clear e hS h hb
    go_enter Tryd.func34, Tryd.ntmps34
    go_wp2_with fail
    go_ret
    exact ⟨rfl, Q.refl _⟩
  · obtain ⟨g, o, cap', he, hcap, hI⟩ := h.some (by omega)
    injection he with he1 he2 he3
    subst he1 he3
    clear he2
    have HI : Hid (UIs w g o S) := hI
    have hne : ((S.length : Int) == 0) = false := by rw [beq_eq_false_iff_ne]; omega
    have e : left64V S = S.foldl (fun z s => add64V z (wideW s)) 9223372036854775808 := by unfold left64V; rw [if_neg (fun e => h0 (by rw [e]; rfl))]
    rw [e]
    have HN : Hid (¬ S.length = 0) := h0
    have HB : Hid (∀ i, S.getD i 0 < 4294967296) := hb
    clear e h hI h0 hb
    go_enter Tryd.func34, Tryd.ntmps34
    go_wp2_with fail
    refine (copysign_any _).mono ?_
    rintro e w0 ⟨rfl, rfl⟩
    go_wp2_with fail
    go_loopg [3, 12] (S.length) (fun gh s3 s12 wr => ∃ i W : Nat, s3 = .float .f64 W ∧ Hid (canW W = (S.take i).foldl (fun z s => add64V z (wideW s)) 9223372036854775808) ∧ W < 18446744073709551616 ∧ s12 = .int .i64 (i : Int) ∧ i ≤ S.length ∧ gh = S.length - i ∧ Q w0 wr)
    case atStart => exact ⟨0, 9223372036854775808, rfl, (show canW 9223372036854775808 = 9223372036854775808 by decide +kernel), by decide, rfl, by omega, rfl, Q.refl _⟩
    case round =>
      obtain ⟨i, W, rfl, HW, hW, rfl, hi, rfl, qr⟩ := hrel
      by_cases hlt : i < S.length
      · have hc := qr.cell (HI.out i hlt)
        have HF : Hid ((S.take (i + 1)).foldl (fun z s => add64V z (wideW s)) 9223372036854775808 = add64V ((S.take i).foldl (fun z s => add64V z (wideW s)) 9223372036854775808) (wideW (S.getD i 0))) := take_succ_foldl _ _ _ _ hlt
        have HQ : Hid (Q w0 wr) := qr
        have hx := HB.out i
        generalize S.getD i 0 = x at hc HF hx
        have HC : Hid (∀ W', canW W' = add64V W (wideW x) → canW W' = (S.take (i + 1)).foldl (fun z s => add64V z (wideW s)) 9223372036854775808) := fun W' h => by rw [HF.out, ← HW.out, can_sum]; exact h
        clear qr HF HW
        cases hd : (Ieee.double.read W).sum (Ieee.double.read (wideW x)) with
        | none =>
          have hf : floatBits .add .f64 W (wideW x) = none := by
            show ((Ieee.double.read W).sum (Ieee.double.read (wideW x))).map Ieee.double.write = none
            rw [hd]; rfl
          have l1 := fun w => run_arith_none .add (by simp) 79 .f64 W (wideW x) hf Tryd.prog w
          have HE : Hid (add64V W (wideW x) = 9221120237041090560) := by show add64V W (wideW x) = _; unfold add64V; rw [hd]; rfl
          clear hd hf
          go_wp2_with fail
          refine (swide_any x hx _).mono ?_
          rintro e w2 ⟨rfl, q2⟩
          go_wp2_with fail
          go_roundg (S.length - (i + 1))
          case measure => go_light; omega
          case rel =>
            go_light
            exact ⟨i + 1, _, rfl, HC.out _ (by rw [HE.out]; exact can_none _ _ _), (nanw64 _ _ _).2, by simp, by omega, rfl, (HQ.out.trans q2).drew⟩
        | some d =>
          have hf : floatBits .add .f64 W (wideW x) = some (Ieee.double.write d) := by
            show ((Ieee.double.read W).sum (Ieee.double.read (wideW x))).map Ieee.double.write = _
            rw [hd]; rfl
          have l1 := fun w => run_float_arith (P := Tryd.prog) w .add 79 .f64 W (wideW x) _ hf
          have HE : Hid (add64V W (wideW x) = told64 (some d)) := by show add64V W (wideW x) = _; unfold add64V; rw [hd]
          have HD : Hid (d.isNaN = false) := sum_num hd
          clear hd hf
          go_wp2_with fail
          refine (swide_any x hx _).mono ?_
          rintro e w2 ⟨rfl, q2⟩
          go_wp2_with fail
          go_roundg (S.length - (i + 1))
          case measure => go_light; omega
          case rel =>
            go_light
            exact ⟨i + 1, _, rfl, HC.out _ (by rw [HE.out]; exact can_some HD.out), write64_lt d, by simp, by omega, rfl, HQ.out.trans q2⟩
      · obtain rfl : i = S.length := by omega
        have HQ : Hid (Q w0 wr) := qr
        have HW' : Hid (canW W = S.foldl (fun z s => add64V z (wideW s)) 9223372036854775808) := by have h := HW.out; rw [List.take_length] at h; exact h
        clear qr HW
        go_wp2_with fail
        refine (widebits_any W hW _).mono ?_
        rintro e w3 ⟨rfl, rfl⟩
        rw [HW'.out]
        go_wp2_with fail
        go_ret
        exact ⟨rfl, HQ.out⟩
end Go.Proofs.YtnjagokojdpgpabDoor
/- The document's sums one behind the other, by halves, with what was lost carried along: the same as the program's. -/
namespace Go.Proofs.YtnjagokojdpgpabDoor
open Go.RowKit
set_option linter.unusedVariables false
set_option linter.unusedSimpArgs false

theorem radd_told (a b : Nat) : roundR (plusR (numOf Ieee.single a) (numOf Ieee.single b)) = addV a b := by
  rw [numOf_datum, numOf_datum, plus_link]; rfl
theorem rsub_told (a b : Nat) : roundR (plusR (numOf Ieee.single a) (oppR (numOf Ieee.single b))) = subV a b := by
  rw [numOf_datum, numOf_datum, opp_link, plus_link]; rfl
theorem addV_lt (a b : Nat) : addV a b < 4294967296 := toldD_lt _
theorem subV_lt (a b : Nat) : subV a b < 4294967296 := toldD_lt _
theorem first_eq {a : Nat} (ha : a < 4294967296) : addV 2147483648 a = if nanN a = true then 2143289344 else a := by
  unfold addV
  rw [sum_comm, add_nought ha]
  cases h : nanN a
  · rw [madeN_of h]; rfl
  · rw [madeN_nan h]; rfl
theorem fold_lt {S : List Nat} (h : S ≠ []) : S.foldl addV 2147483648 < 4294967296 := by
  have key : ∀ (l : List Nat) (z : Nat), z < 4294967296 → l.foldl addV z < 4294967296 := by
    intro l
    induction l with
    | nil => exact fun z h => h
    | cons x l ih => exact fun z h => ih _ (addV_lt _ _)
  exact key S _ (by decide)
theorem take_one {S : List Nat} (h : 0 < S.length) : S.take 1 = [S.getD 0 0] := by
  cases S with
  | nil => cases h
  | cons x l => rfl
def oRp_0 : Oper := { dst := some 17, op := .move (.tmp 0), type := 22, pos := "halideref3.go:61", after := #[], guard := none }
def oRp_1 : Oper := { dst := some 18, op := .move (.tmp 3), type := 3, pos := "halideref3.go:61", after := #[], guard := none }
def oRp_2 : Oper := { dst := some 19, op := .slice 22 (.tmp 17) none (some (.tmp 18)) none, type := 22, pos := "halideref3.go:61", after := #[⟨0, .data⟩, ⟨1, .data⟩], guard := none }
def oRp_4 : Oper := { dst := some 21, op := .move (.tmp 0), type := 22, pos := "halideref3.go:61", after := #[], guard := none }
def oRp_5 : Oper := { dst := some 22, op := .move (.tmp 3), type := 3, pos := "halideref3.go:61", after := #[], guard := none }
def oRp_6 : Oper := { dst := some 23, op := .slice 22 (.tmp 21) (some (.tmp 22)) none none, type := 22, pos := "halideref3.go:61", after := #[⟨4, .data⟩, ⟨5, .data⟩], guard := none }
def oRp_9 : Oper := { dst := some 2, op := .assign (.tmp 25), type := 23, pos := "halideref3.go:61", after := #[⟨8, .data⟩, ⟨8, .chain⟩, ⟨0, .phase⟩, ⟨1, .phase⟩, ⟨2, .phase⟩, ⟨3, .phase⟩, ⟨4, .phase⟩, ⟨5, .phase⟩, ⟨6, .phase⟩, ⟨7, .phase⟩, ⟨8, .phase⟩], guard := none }
def sRp : List Nat := [17, 18, 19, 20, 21, 22, 23, 24, 25, 2]
def spRp (gb ob nn cc kk A B : Nat) : List Spec := [spV (.slice (some ⟨gb, ob, none⟩) nn cc), spV (.int .i64 (kk : Nat)), spV (.slice (some ⟨gb, ob, none⟩) kk cc), spV (.int .u32 (A : Nat)), spV (.slice (some ⟨gb, ob, none⟩) nn cc), spV (.int .i64 (kk : Nat)), spV (.slice (some ⟨gb, ob + kk, none⟩) (nn - kk) (cc - kk)), spV (.int .u32 (B : Nat)), spV (.int .u32 (addV A B : Nat)), spV (.int .u32 (addV A B : Nat))]
def skRp (i : Nat) : Bool := [].contains i
theorem hskRp {gb ob nn cc kk A B : Nat} : ∀ (i : Nat) (x : World), skRp i = true → specAt (spRp gb ob nn cc kk A B) i undef x := by
  intro i x h
  cases h
theorem take_lt {S : List Nat} (hb : ∀ i, S.getD i 0 < 4294967296) (k i : Nat) : (S.take k).getD i 0 < 4294967296 := by
  rw [List.getD_eq_getElem?_getD, List.getElem?_take]
  split
  · rw [← List.getD_eq_getElem?_getD]; exact hb i
  · decide
theorem drop_lt {S : List Nat} (hb : ∀ i, S.getD i 0 < 4294967296) (k i : Nat) : (S.drop k).getD i 0 < 4294967296 := by
  rw [List.getD_eq_getElem?_getD, List.getElem?_drop, ← List.getD_eq_getElem?_getD]
  exact hb _
theorem pairsV_lt (l : List Nat) : pairsV l < 4294967296 := by
  rcases Nat.lt_or_ge l.length 2 with h | h
  · have : l.length = 0 ∨ l.length = 1 := by omega
    rcases this with h | h
    · rw [pairsV_none h]; decide
    · rw [pairsV_one h]; exact addV_lt _ _
  · rw [pairsV_many h]; exact addV_lt _ _
end Go.Proofs.YtnjagokojdpgpabDoor

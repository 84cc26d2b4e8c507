/- Borders: the program's and the document's; the document's Size and Check. -/
import Derived.Test.YtedaacddnahjkaaGfcaae9a0
import Derived.Shelf.Abstract
import Derived.Test.YtedaacddnahjkaaG6ceeabd1
import Derived.Test.YtedaacddnahjkaaG5a5d7fd1
namespace Go.Proofs.Ytedaacddnahjkaa
open Go.RowKit
set_option linter.unusedVariables false
set_option linter.unusedSimpArgs false

def claV (n i : Int) : Int := if i < 0 then 0 else if i < n then i else n - 1
def mirV (n i : Int) : Int := if n = 1 then 0 else if i % (2 * (n - 1)) < n then i % (2 * (n - 1)) else 2 * (n - 1) - i % (2 * (n - 1))
/-- The place within, for one beyond. -/
def borV (k n i : Int) : Int := if k = 1 then claV n i else if k = 2 then mirV n i else i % n
theorem borV_lt {k n : Int} (i : Int) (hn : 1 ≤ n) : 0 ≤ borV k n i ∧ borV k n i < n := by
  unfold borV claV mirV
  split
  · split
    · omega
    · split <;> omega
  · split
    · split
      · omega
      · have h1 := Int.emod_nonneg i (show 2 * (n - 1) ≠ 0 by omega)
        have h2 := Int.emod_lt_of_pos i (show 0 < 2 * (n - 1) by omega)
        split <;> omega
    · exact ⟨Int.emod_nonneg i (by omega), Int.emod_lt_of_pos i (by omega)⟩
theorem clamped_any (n i : Int) (hn : 1 ≤ n) (hn2 : n ≤ 1024) (w : World) : Calls Try.prog 62 #[.int .i64 n, .int .i64 i] w fun e w' => e = .returned (.int .i64 (borV 1 n i)) ∧ w' = w := by
  have e : borV 1 n i = claV n i := rfl
  rw [e]
  clear e
  unfold claV
  have hw : IntKind.i64.wrap (n - 1) = n - 1 := by rw [IntKind.wrap_i64]; omega
  by_cases h1 : i < 0
  · rw [if_pos h1]
    by_cases h2 : n = 1
    · subst h2
      go_enter Try.func62, Try.ntmps62
      go_wp2_with fail
      go_ret
      exact ⟨rfl, rfl⟩
    · have h3 : (0 : Int) < n - 1 := by omega
      go_enter Try.func62, Try.ntmps62
      go_wp2_with fail
      go_ret
      exact ⟨rfl, rfl⟩
  · rw [if_neg h1]
    by_cases h2 : i < n
    · rw [if_pos h2]
      rcases Int.lt_or_eq_of_le (show i ≤ n - 1 by omega) with h3 | h3
      · rcases Int.lt_or_eq_of_le (show 0 ≤ i by omega) with h4 | h4
        · go_enter Try.func62, Try.ntmps62
          go_wp2_with fail
          go_ret
          exact ⟨rfl, rfl⟩
        · subst h4
          go_enter Try.func62, Try.ntmps62
          go_wp2_with fail
          go_ret
          exact ⟨rfl, rfl⟩
      · obtain ⟨m, hm⟩ : ∃ m, n - 1 = m := ⟨_, rfl⟩
        rw [hm] at hw h3
        subst h3
        have hm' : IntKind.i64.wrap (n - 1) = i := by rw [hm]; exact hw
        rcases Int.lt_or_eq_of_le (show 0 ≤ i by omega) with h4 | h4
        · clear hm
          go_enter Try.func62, Try.ntmps62
          go_wp2_with fail
          go_ret
          exact ⟨rfl, rfl⟩
        · subst h4
          clear hm
          go_enter Try.func62, Try.ntmps62
          go_wp2_with fail
          go_ret
          exact ⟨rfl, rfl⟩
    · rw [if_neg h2]
      have h3 : n - 1 < i := by omega
      have h4 : 0 < i := by omega
      go_enter Try.func62, Try.ntmps62
      go_wp2_with fail
      go_ret
      exact ⟨rfl, rfl⟩
theorem wrapped_any (n i : Int) (hn : 1 ≤ n) (hn2 : n ≤ 1024) (w : World) : Calls Try.prog 64 #[.int .i64 n, .int .i64 i] w fun e w' => e = .returned (.int .i64 (borV 3 n i)) ∧ w' = w := by
  have A := modulo_any i n hn (by omega) w
  have e : borV 3 n i = i % n := rfl
  rw [e]
  clear e
  go_enter Try.func64, Try.ntmps64
  go_wp2_with (go_at_call 66; refine A.mono ?_; rintro e w1 ⟨rfl, rfl⟩)
  go_ret
  exact ⟨rfl, rfl⟩
theorem mirrored_any (n i : Int) (hn : 1 ≤ n) (hn2 : n ≤ 1024) (w : World) : Calls Try.prog 63 #[.int .i64 n, .int .i64 i] w fun e w' => e = .returned (.int .i64 (borV 2 n i)) ∧ w' = w := by
  have e : borV 2 n i = mirV n i := rfl
  rw [e]
  clear e
  unfold mirV
  by_cases h1 : n = 1
  · rw [if_pos h1]
    subst h1
    go_enter Try.func63, Try.ntmps63
    go_wp2_with fail
    go_ret
    exact ⟨rfl, rfl⟩
  · rw [if_neg h1]
    have hb : (n == 1) = false := by rw [beq_eq_false_iff_ne]; exact h1
    obtain ⟨T, hT⟩ : ∃ T, 2 * (n - 1) = T := ⟨_, rfl⟩
    have hT1 : 1 ≤ T := by omega
    have hT2 : T ≤ 4096 := by omega
    have A := modulo_any i T hT1 hT2 w
    have l1 := Int.emod_nonneg i (show T ≠ 0 by omega)
    have l2 := Int.emod_lt_of_pos i (show 0 < T by omega)
    rw [hT]
    have w1 : IntKind.i64.wrap (n - 1) = n - 1 := by rw [IntKind.wrap_i64]; omega
    have w2 : IntKind.i64.wrap (2 * (n - 1)) = T := by rw [IntKind.wrap_i64]; omega
    by_cases h2 : i % T < n
    · rw [if_pos h2]
      generalize i % T = m at A l1 l2 h2 ⊢
      go_enter Try.func63, Try.ntmps63
      go_wp2_with fail
      refine A.mono ?_
      rintro e w1 ⟨rfl, rfl⟩
      go_wp2_with fail
      go_ret
      exact ⟨rfl, rfl⟩
    · rw [if_neg h2]
      generalize i % T = m at A l1 l2 h2 ⊢
      have h3 : decide (m < n) = false := decide_eq_false h2
      go_enter Try.func63, Try.ntmps63
      go_wp2_with fail
      refine A.mono ?_
      rintro e w1 ⟨rfl, rfl⟩
      go_wp2_with fail
      go_ret
      exact ⟨rfl, rfl⟩

/-- What stands for a border's function. -/
def bfn (k : Int) : Nat := if k = 1 then 62 else if k = 2 then 63 else 64
def bFn (k : Int) : Value := .func (.func (bfn k)) #[] #[]
theorem bfn_any (k n i : Int) (hk : k = 1 ∨ k = 2 ∨ k = 3) (hn : 1 ≤ n) (hn2 : n ≤ 1024) (w : World) : Calls Try.prog (bfn k) #[.int .i64 n, .int .i64 i] w fun e w' => e = .returned (.int .i64 (borV k n i)) ∧ w' = w := by
  rcases hk with rfl | rfl | rfl
  · exact clamped_any n i hn hn2 w
  · exact mirrored_any n i hn hn2 w
  · exact wrapped_any n i hn hn2 w
theorem bfn_enters (k : Int) (hk : k = 1 ∨ k = 2 ∨ k = 3) : ∀ (args : Array Value) (w : World), (callFunc (bfn k) args).run Try.prog w = .ok (.enter (bfn k) args) w := by
  rcases hk with rfl | rfl | rfl
  · exact enters_of Try.func62 (by kernel_rfl) rfl
  · exact enters_of Try.func63 (by kernel_rfl) rfl
  · exact enters_of Try.func64 (by kernel_rfl) rfl
theorem borderOf_some (k : Int) (hk : k = 1 ∨ k = 2 ∨ k = 3) (w : World) : Calls Try.prog 60 #[.int .i64 k] w fun e w' => e = .returned (bFn k) ∧ w' = w := by
  rcases hk with rfl | rfl | rfl
  · go_enter Try.func60, Try.ntmps60
    go_wp2_with fail
    go_ret
    exact ⟨rfl, rfl⟩
  · go_enter Try.func60, Try.ntmps60
    go_wp2_with fail
    go_ret
    exact ⟨rfl, rfl⟩
  · go_enter Try.func60, Try.ntmps60
    go_wp2_with fail
    go_ret
    exact ⟨rfl, rfl⟩
theorem borderOf_none (k : Int) (hk : ¬ (k = 1 ∨ k = 2 ∨ k = 3)) (w : World) : Calls Try.prog 60 #[.int .i64 k] w fun e w' => e = .returned .nilFunc ∧ w' = w := by
  have h1 : (k == 1) = false := by rw [beq_eq_false_iff_ne]; omega
  have h2 : (k == 2) = false := by rw [beq_eq_false_iff_ne]; omega
  have h3 : (k == 3) = false := by rw [beq_eq_false_iff_ne]; omega
  go_enter Try.func60, Try.ntmps60
  go_wp2_with fail
  go_ret
  exact ⟨rfl, rfl⟩
/-- What Border answers. -/
def borE (k n : Int) : Int := if k = 1 ∨ k = 2 ∨ k = 3 then (if sideB n = true then 0 else 50) else 53
def borA (k n i : Int) : Int := if k = 1 ∨ k = 2 ∨ k = 3 then (if sideB n = true then borV k n i else 0) else 0
theorem fn_nil (w : World) (f : Nat) : (binOp .eql 106 (.func (.func f) #[] #[]) .nilFunc).run Try.prog w = .ok (.bool false) w := by kernel_rfl
theorem nil_nil (w : World) : (binOp .eql 106 .nilFunc .nilFunc).run Try.prog w = .ok (.bool true) w := by kernel_rfl
set_option maxHeartbeats 1000000 in
set_option maxRecDepth 100000 in
theorem border_any (k n i : Int) (w : World) : Calls Try.prog 53 #[.int .i64 k, .int .i64 n, .int .i64 i] w fun e w' => e = .returned (.tuple #[.int .i64 (borA k n i), .int .i64 (borE k n)]) ∧ w' = w := by
  have f1 := fn_nil
  have f2 := nil_nil
  unfold borA borE
  by_cases hk : k = 1 ∨ k = 2 ∨ k = 3
  · rw [if_pos hk, if_pos hk]
    have A := borderOf_some k hk w
    have S := isSide_any n w
    by_cases hs : sideB n = true
    · rw [if_pos hs, if_pos hs]
      rw [hs] at S
      obtain ⟨n1, n2⟩ := sideB_true.1 hs
      have B := bfn_any k n i hk n1 n2 w
      have E := bfn_enters k hk
      unfold bFn at A
      generalize borV k n i = V at B ⊢
      generalize bfn k = f at A B E
      clear hk hs
      go_enter Try.func53, Try.ntmps53
      go_wp2_with fail
      refine A.mono ?_
      rintro e w1 ⟨rfl, rfl⟩
      go_wp2_with fail
      refine S.mono ?_
      rintro e w1 ⟨rfl, rfl⟩
      go_wp2_with (go_at_fn f; refine B.mono ?_; rintro e w1 ⟨rfl, rfl⟩)
      go_ret2
      exact ⟨rfl, rfl⟩
    · rw [if_neg hs, if_neg hs]
      have hs' : sideB n = false := by cases h : sideB n; rfl; exact absurd h hs
      rw [hs'] at S
      unfold bFn at A
      generalize bfn k = f at A
      clear hk hs hs'
      go_enter Try.func53, Try.ntmps53
      go_wp2_with fail
      refine A.mono ?_
      rintro e w1 ⟨rfl, rfl⟩
      go_wp2_with fail
      refine S.mono ?_
      rintro e w1 ⟨rfl, rfl⟩
      go_wp2_with fail
      go_ret2
      exact ⟨rfl, rfl⟩
  · rw [if_neg hk, if_neg hk]
    have A := borderOf_none k hk w
    clear hk
    go_enter Try.func53, Try.ntmps53
    go_wp2_with fail
    refine A.mono ?_
    rintro e w1 ⟨rfl, rfl⟩
    go_wp2_with fail
    go_ret2
    exact ⟨rfl, rfl⟩
end Go.Proofs.Ytedaacddnahjkaa
/- blur: slopes, places, lines; along's first region. -/
namespace Go.Proofs.Ytedaacddnahjkaa
open Go.RowKit
set_option linter.unusedVariables false
set_option linter.unusedSimpArgs false

def sApl (j : Nat) (a b : Int) : Sp2 := ⟨fun v val _ => v = .agg #[.int .i64 a, .int .i64 b, val j], [j], fun h _ e => by rw [h, e j (by simp)]⟩
def rowU (B n : Nat) : Sp2 := sP (fun v x => ∃ g, v = .slice (some ⟨g, 0, none⟩) n n ∧ B ≤ g ∧ g < x.heap.size ∧ VR x g n (fun _ => .int .u32 0)) (fun v x x' ⟨g, h1, h2, h3, h4⟩ q => ⟨g, h1, h2, by have := q.1.size; omega, h4.next q⟩)
def boxU (B : Nat) : Sp2 := sP (fun v x => ∃ g, v = .pointer (some ⟨g, 0, none⟩) ∧ B ≤ g ∧ g < x.heap.size ∧ x.cell? ⟨g, 0, none⟩ = some (.int .i64 0) ∧ x.cell? ⟨g, 1, none⟩ = some (.int .i64 0) ∧ x.cell? ⟨g, 2, none⟩ = some (.slice none 0 0) ∧ ∀ j, x.frozen? ⟨g, j, none⟩ = false)
  (fun v x x' ⟨g, h1, h2, h3, h4, h5, h6, h7⟩ q => ⟨g, h1, h2, by have := q.1.size; omega, q.cell h4, q.cell h5, q.cell h6, fun j => by rw [q.2]; exact h7 j⟩)
structure AlP (B : Nat) (pa pb : Int) (n g gb : Nat) (w x : World) : Prop where
  q : Q w x
  l1 : B ≤ g
  l2 : B ≤ gb
  ne : g ≠ gb
  row : VR x g n (fun _ => .int .u32 0)
  t0 : x.cell? ⟨gb, 0, none⟩ = some (.int .i64 pa)
  t1 : x.cell? ⟨gb, 1, none⟩ = some (.int .i64 pb)
  t2 : x.cell? ⟨gb, 2, none⟩ = some (.slice (some ⟨g, 0, none⟩) n n)
  tf : ∀ j, x.frozen? ⟨gb, j, none⟩ = false
def oAl_0 : Oper := { dst := some 14, op := .fieldAddr 43 (.tmp 5) 0, type := 0, pos := "sweep.go:39", after := #[], guard := none }
def oAl_1 : Oper := { dst := some 15, op := .load 3 (.tmp 14), type := 3, pos := "sweep.go:39", after := #[⟨0, .data⟩], guard := none }
def oAl_2 : Oper := { dst := some 16, op := .fieldAddr 43 (.tmp 5) 1, type := 0, pos := "sweep.go:39", after := #[], guard := none }
def oAl_3 : Oper := { dst := some 17, op := .load 3 (.tmp 16), type := 3, pos := "sweep.go:39", after := #[⟨2, .data⟩], guard := none }
def oAl_4 : Oper := { dst := some 18, op := .fieldAddr 43 (.tmp 5) 2, type := 0, pos := "sweep.go:39", after := #[], guard := none }
def oAl_5 : Oper := { dst := some 19, op := .load 41 (.tmp 18), type := 41, pos := "sweep.go:39", after := #[⟨4, .data⟩], guard := none }
def oAl_6 : Oper := { dst := some 20, op := .call { callee := .builtin .len, args := #[.tmp 19], argTypes := #[41] }, type := 3, pos := "sweep.go:39", after := #[⟨5, .data⟩], guard := none }
def oAl_7 : Oper := { dst := some 21, op := .makeSlice 41 (.tmp 20) (.tmp 20), type := 41, pos := "sweep.go:39", after := #[⟨6, .data⟩, ⟨6, .data⟩], guard := none }
def oAl_8 : Oper := { dst := some 22, op := .build 43 #[(0, .tmp 15), (1, .tmp 17), (2, .tmp 21)], type := 43, pos := "sweep.go:39", after := #[⟨1, .data⟩, ⟨3, .data⟩, ⟨7, .data⟩], guard := none }
def oAl_9 : Oper := { dst := some 7, op := .alloc 43, type := 0, pos := "sweep.go:39", after := #[], guard := none }
def oAl_10 : Oper := { dst := none, op := .store 43 (.tmp 7) (.tmp 22), type := 0, pos := "sweep.go:39", after := #[⟨9, .data⟩, ⟨8, .data⟩, ⟨0, .phase⟩, ⟨1, .phase⟩, ⟨2, .phase⟩, ⟨3, .phase⟩, ⟨4, .phase⟩, ⟨5, .phase⟩, ⟨6, .phase⟩, ⟨7, .phase⟩, ⟨8, .phase⟩, ⟨9, .phase⟩], guard := none }
def opsAl : List Oper := [oAl_0, oAl_1, oAl_2, oAl_3, oAl_4, oAl_5, oAl_6, oAl_7, oAl_8, oAl_9, oAl_10]
def sAl : List Nat := [14, 15, 16, 17, 18, 19, 20, 21, 22, 7]
def spAl (B : Nat) (pa pb : Int) (b5 : Nat) (ad : Option Addr) (n c : Nat) : List Sp2 := [sV (.pointer (some ⟨b5, 0, none⟩)), sV (.int .i64 pa), sV (.pointer (some ⟨b5, 1, none⟩)), sV (.int .i64 pb), sV (.pointer (some ⟨b5, 2, none⟩)), sV (.slice ad n c), sV (.int .i64 (n : Int)), rowU B n, sApl 7 pa pb, boxU B]
structure EnvAl (a0 : Act) (w : World) (B : Nat) (pa pb : Int) (b5 : Nat) (ad : Option Addr) (n c : Nat) : Prop where
  h5 : a0.tmps[5]? = some (.pointer (some ⟨b5, 0, none⟩))
  c0 : w.cell? ⟨b5, 0, none⟩ = some (.int .i64 pa)
  c1 : w.cell? ⟨b5, 1, none⟩ = some (.int .i64 pb)
  c2 : w.cell? ⟨b5, 2, none⟩ = some (.slice ad n c)
  hn : n ≤ 1048576
  hB : B = w.heap.size
theorem yAl_0 {a0 : Act} {w : World} {B : Nat} {pa pb : Int} {b5 : Nat} {ad : Option Addr} {n c : Nat} (E : EnvAl a0 w B pa pb b5 ad n c) {R : Exit → Act → World → Prop} {a : Act} {x : World} {val : Nat → Value} (q : Q w x) (oth : ∀ j, j ∉ sAl → a.tmps[j]? = a0.tmps[j]?) (dep : ∀ ed ∈ oAl_0.after, Region.binds .any ed = true → ∀ s' t', (spAl B pa pb b5 ad n c)[ed.on]? = some s' → sAl[ed.on]? = some t' → a.tmps[t']? = some (val ed.on) ∧ s'.p (val ed.on) val x) : Yld Try.prog R oAl_0 a x 14 (fun v x' => (sV (.pointer (some ⟨b5, 0, none⟩))).p v val x' ∧ (0 ∈ ([7, 9] : List Nat) → x.heap.size ≤ blkV v ∧ blkV v < x'.heap.size)) := by
  have tt := (oth 5 (by decide)).trans E.h5
  exact yld_run (x' := x) rfl (by simp [oAl_0, execOp, tt, go_sem]) (Q.refl x) ⟨rfl, fun h => absurd h (by decide)⟩
theorem yAl_1 {a0 : Act} {w : World} {B : Nat} {pa pb : Int} {b5 : Nat} {ad : Option Addr} {n c : Nat} (E : EnvAl a0 w B pa pb b5 ad n c) {R : Exit → Act → World → Prop} {a : Act} {x : World} {val : Nat → Value} (q : Q w x) (oth : ∀ j, j ∉ sAl → a.tmps[j]? = a0.tmps[j]?) (dep : ∀ ed ∈ oAl_1.after, Region.binds .any ed = true → ∀ s' t', (spAl B pa pb b5 ad n c)[ed.on]? = some s' → sAl[ed.on]? = some t' → a.tmps[t']? = some (val ed.on) ∧ s'.p (val ed.on) val x) : Yld Try.prog R oAl_1 a x 15 (fun v x' => (sV (.int .i64 pa)).p v val x' ∧ (1 ∈ ([7, 9] : List Nat) → x.heap.size ≤ blkV v ∧ blkV v < x'.heap.size)) := by
  obtain ⟨t0, f0⟩ := dep ⟨0, .data⟩ (by simp [oAl_1]) rfl _ 14 rfl rfl
  have f0 : val 0 = (.pointer (some ⟨b5, 0, none⟩)) := f0
  rw [f0] at t0
  have cc := q.cell E.c0
  exact yld_run (x' := x) rfl (by simp [oAl_1, execOp, t0, go_sem, cc]) (Q.refl x) ⟨rfl, fun h => absurd h (by decide)⟩
theorem yAl_2 {a0 : Act} {w : World} {B : Nat} {pa pb : Int} {b5 : Nat} {ad : Option Addr} {n c : Nat} (E : EnvAl a0 w B pa pb b5 ad n c) {R : Exit → Act → World → Prop} {a : Act} {x : World} {val : Nat → Value} (q : Q w x) (oth : ∀ j, j ∉ sAl → a.tmps[j]? = a0.tmps[j]?) (dep : ∀ ed ∈ oAl_2.after, Region.binds .any ed = true → ∀ s' t', (spAl B pa pb b5 ad n c)[ed.on]? = some s' → sAl[ed.on]? = some t' → a.tmps[t']? = some (val ed.on) ∧ s'.p (val ed.on) val x) : Yld Try.prog R oAl_2 a x 16 (fun v x' => (sV (.pointer (some ⟨b5, 1, none⟩))).p v val x' ∧ (2 ∈ ([7, 9] : List Nat) → x.heap.size ≤ blkV v ∧ blkV v < x'.heap.size)) := by
  have tt := (oth 5 (by decide)).trans E.h5
  exact yld_run (x' := x) rfl (by simp [oAl_2, execOp, tt, go_sem]) (Q.refl x) ⟨rfl, fun h => absurd h (by decide)⟩
theorem yAl_3 {a0 : Act} {w : World} {B : Nat} {pa pb : Int} {b5 : Nat} {ad : Option Addr} {n c : Nat} (E : EnvAl a0 w B pa pb b5 ad n c) {R : Exit → Act → World → Prop} {a : Act} {x : World} {val : Nat → Value} (q : Q w x) (oth : ∀ j, j ∉ sAl → a.tmps[j]? = a0.tmps[j]?) (dep : ∀ ed ∈ oAl_3.after, Region.binds .any ed = true → ∀ s' t', (spAl B pa pb b5 ad n c)[ed.on]? = some s' → sAl[ed.on]? = some t' → a.tmps[t']? = some (val ed.on) ∧ s'.p (val ed.on) val x) : Yld Try.prog R oAl_3 a x 17 (fun v x' => (sV (.int .i64 pb)).p v val x' ∧ (3 ∈ ([7, 9] : List Nat) → x.heap.size ≤ blkV v ∧ blkV v < x'.heap.size)) := by
  obtain ⟨t2, f2⟩ := dep ⟨2, .data⟩ (by simp [oAl_3]) rfl _ 16 rfl rfl
  have f2 : val 2 = (.pointer (some ⟨b5, 1, none⟩)) := f2
  rw [f2] at t2
  have cc := q.cell E.c1
  exact yld_run (x' := x) rfl (by simp [oAl_3, execOp, t2, go_sem, cc]) (Q.refl x) ⟨rfl, fun h => absurd h (by decide)⟩
theorem yAl_4 {a0 : Act} {w : World} {B : Nat} {pa pb : Int} {b5 : Nat} {ad : Option Addr} {n c : Nat} (E : EnvAl a0 w B pa pb b5 ad n c) {R : Exit → Act → World → Prop} {a : Act} {x : World} {val : Nat → Value} (q : Q w x) (oth : ∀ j, j ∉ sAl → a.tmps[j]? = a0.tmps[j]?) (dep : ∀ ed ∈ oAl_4.after, Region.binds .any ed = true → ∀ s' t', (spAl B pa pb b5 ad n c)[ed.on]? = some s' → sAl[ed.on]? = some t' → a.tmps[t']? = some (val ed.on) ∧ s'.p (val ed.on) val x) : Yld Try.prog R oAl_4 a x 18 (fun v x' => (sV (.pointer (some ⟨b5, 2, none⟩))).p v val x' ∧ (4 ∈ ([7, 9] : List Nat) → x.heap.size ≤ blkV v ∧ blkV v < x'.heap.size)) := by
  have tt := (oth 5 (by decide)).trans E.h5
  exact yld_run (x' := x) rfl (by simp [oAl_4, execOp, tt, go_sem]) (Q.refl x) ⟨rfl, fun h => absurd h (by decide)⟩
theorem yAl_5 {a0 : Act} {w : World} {B : Nat} {pa pb : Int} {b5 : Nat} {ad : Option Addr} {n c : Nat} (E : EnvAl a0 w B pa pb b5 ad n c) {R : Exit → Act → World → Prop} {a : Act} {x : World} {val : Nat → Value} (q : Q w x) (oth : ∀ j, j ∉ sAl → a.tmps[j]? = a0.tmps[j]?) (dep : ∀ ed ∈ oAl_5.after, Region.binds .any ed = true → ∀ s' t', (spAl B pa pb b5 ad n c)[ed.on]? = some s' → sAl[ed.on]? = some t' → a.tmps[t']? = some (val ed.on) ∧ s'.p (val ed.on) val x) : Yld Try.prog R oAl_5 a x 19 (fun v x' => (sV (.slice ad n c)).p v val x' ∧ (5 ∈ ([7, 9] : List Nat) → x.heap.size ≤ blkV v ∧ blkV v < x'.heap.size)) := by
  obtain ⟨t4, f4⟩ := dep ⟨4, .data⟩ (by simp [oAl_5]) rfl _ 18 rfl rfl
  have f4 : val 4 = (.pointer (some ⟨b5, 2, none⟩)) := f4
  rw [f4] at t4
  have cc := q.cell E.c2
  exact yld_run (x' := x) rfl (by simp [oAl_5, execOp, t4, go_sem, cc]) (Q.refl x) ⟨rfl, fun h => absurd h (by decide)⟩
theorem yAl_6 {a0 : Act} {w : World} {B : Nat} {pa pb : Int} {b5 : Nat} {ad : Option Addr} {n c : Nat} (E : EnvAl a0 w B pa pb b5 ad n c) {R : Exit → Act → World → Prop} {a : Act} {x : World} {val : Nat → Value} (q : Q w x) (oth : ∀ j, j ∉ sAl → a.tmps[j]? = a0.tmps[j]?) (dep : ∀ ed ∈ oAl_6.after, Region.binds .any ed = true → ∀ s' t', (spAl B pa pb b5 ad n c)[ed.on]? = some s' → sAl[ed.on]? = some t' → a.tmps[t']? = some (val ed.on) ∧ s'.p (val ed.on) val x) : Yld Try.prog R oAl_6 a x 20 (fun v x' => (sV (.int .i64 (n : Int))).p v val x' ∧ (6 ∈ ([7, 9] : List Nat) → x.heap.size ≤ blkV v ∧ blkV v < x'.heap.size)) := by
  obtain ⟨t5, f5⟩ := dep ⟨5, .data⟩ (by simp [oAl_6]) rfl _ 19 rfl rfl
  have f5 : val 5 = (.slice ad n c) := f5
  rw [f5] at t5
  exact yld_run (x' := x) rfl (by simp [oAl_6, execOp, resolve, invoke, builtin, t5, go_sem]) (Q.refl x) ⟨rfl, fun h => absurd h (by decide)⟩
theorem yAl_7 {a0 : Act} {w : World} {B : Nat} {pa pb : Int} {b5 : Nat} {ad : Option Addr} {n c : Nat} (E : EnvAl a0 w B pa pb b5 ad n c) {R : Exit → Act → World → Prop} {a : Act} {x : World} {val : Nat → Value} (q : Q w x) (oth : ∀ j, j ∉ sAl → a.tmps[j]? = a0.tmps[j]?) (dep : ∀ ed ∈ oAl_7.after, Region.binds .any ed = true → ∀ s' t', (spAl B pa pb b5 ad n c)[ed.on]? = some s' → sAl[ed.on]? = some t' → a.tmps[t']? = some (val ed.on) ∧ s'.p (val ed.on) val x) : Yld Try.prog R oAl_7 a x 21 (fun v x' => (rowU B n).p v val x' ∧ (7 ∈ ([7, 9] : List Nat) → x.heap.size ≤ blkV v ∧ blkV v < x'.heap.size)) := by
  obtain ⟨t6, f6⟩ := dep ⟨6, .data⟩ (by simp [oAl_7]) rfl _ 20 rfl rfl
  have f6 : val 6 = (.int .i64 (n : Int)) := f6
  rw [f6] at t6
  obtain ⟨M, hM, hF⟩ := make_vu n E.hn
  have hrun : (execOp a.eval oAl_7).run Try.prog x = .ok (.value (.slice (some ⟨x.heap.size, 0, none⟩) n n)) (x.alloc (.cells M 63)) := by
    have := tmp_eval t6
    simp [oAl_7, execOp, this, hM]
  have := q.1.size
  have := E.hB
  exact yld_run rfl hrun ((Q.refl x).cells _ _) ⟨⟨_, rfl, by omega, by simp, hF x⟩, fun _ => ⟨Nat.le_refl _, by simp [blkV]⟩⟩
theorem yAl_8 {a0 : Act} {w : World} {B : Nat} {pa pb : Int} {b5 : Nat} {ad : Option Addr} {n c : Nat} (E : EnvAl a0 w B pa pb b5 ad n c) {R : Exit → Act → World → Prop} {a : Act} {x : World} {val : Nat → Value} (q : Q w x) (oth : ∀ j, j ∉ sAl → a.tmps[j]? = a0.tmps[j]?) (dep : ∀ ed ∈ oAl_8.after, Region.binds .any ed = true → ∀ s' t', (spAl B pa pb b5 ad n c)[ed.on]? = some s' → sAl[ed.on]? = some t' → a.tmps[t']? = some (val ed.on) ∧ s'.p (val ed.on) val x) : Yld Try.prog R oAl_8 a x 22 (fun v x' => (sApl 7 pa pb).p v val x' ∧ (8 ∈ ([7, 9] : List Nat) → x.heap.size ≤ blkV v ∧ blkV v < x'.heap.size)) := by
  obtain ⟨t1, f1⟩ := dep ⟨1, .data⟩ (by simp [oAl_8]) rfl _ 15 rfl rfl
  have f1 : val 1 = (.int .i64 pa) := f1
  rw [f1] at t1
  obtain ⟨t3, f3⟩ := dep ⟨3, .data⟩ (by simp [oAl_8]) rfl _ 17 rfl rfl
  have f3 : val 3 = (.int .i64 pb) := f3
  rw [f3] at t3
  obtain ⟨t7, f7⟩ := dep ⟨7, .data⟩ (by simp [oAl_8]) rfl _ 21 rfl rfl
  obtain ⟨g, e7, _⟩ := f7
  have t7' := t7
  rw [e7] at t7'
  exact yld_run (x' := x) (v := .agg #[.int .i64 pa, .int .i64 pb, val 7]) rfl (by rw [e7]; simp [oAl_8, execOp, t1, t3, t7', go_sem]) (Q.refl x) ⟨rfl, fun h => absurd h (by decide)⟩
theorem yAl_9 {a0 : Act} {w : World} {B : Nat} {pa pb : Int} {b5 : Nat} {ad : Option Addr} {n c : Nat} (E : EnvAl a0 w B pa pb b5 ad n c) {R : Exit → Act → World → Prop} {a : Act} {x : World} {val : Nat → Value} (q : Q w x) (oth : ∀ j, j ∉ sAl → a.tmps[j]? = a0.tmps[j]?) (dep : ∀ ed ∈ oAl_9.after, Region.binds .any ed = true → ∀ s' t', (spAl B pa pb b5 ad n c)[ed.on]? = some s' → sAl[ed.on]? = some t' → a.tmps[t']? = some (val ed.on) ∧ s'.p (val ed.on) val x) : Yld Try.prog R oAl_9 a x 7 (fun v x' => (boxU B).p v val x' ∧ (9 ∈ ([7, 9] : List Nat) → x.heap.size ≤ blkV v ∧ blkV v < x'.heap.size)) := by
  have := q.1.size
  have := E.hB
  exact yld_run (x' := x.alloc (.cells #[.int .i64 0, .int .i64 0, .slice none 0 0] 43)) rfl (by simp [oAl_9, execOp, go_sem]) ((Q.refl x).cells _ _) ⟨⟨x.heap.size, rfl, by omega, by simp, by simp [go_sem], by simp [go_sem], by simp [go_sem], fun j => by simp [go_sem]⟩, fun _ => ⟨Nat.le_refl _, by simp [blkV]⟩⟩
theorem hopAl {a0 : Act} {w : World} {B : Nat} {pa pb : Int} {b5 : Nat} {ad : Option Addr} {n c : Nat} (E : EnvAl a0 w B pa pb b5 ad n c) {R : Exit → Act → World → Prop} : ∀ (i t : Nat) (o : Oper) (sp : Sp2) (a : Act) (x : World) (val : Nat → Value), sAl[i]? = some t → opsAl[i]? = some o → (spAl B pa pb b5 ad n c)[i]? = some sp → Q w x → (∀ j, j ∉ sAl → a.tmps[j]? = a0.tmps[j]?) → (∀ ed ∈ o.after, Region.binds .any ed = true → ∀ s' t', (spAl B pa pb b5 ad n c)[ed.on]? = some s' → sAl[ed.on]? = some t' → a.tmps[t']? = some (val ed.on) ∧ s'.p (val ed.on) val x) → Yld Try.prog R o a x t (fun v x' => sp.p v val x' ∧ (i ∈ ([7, 9] : List Nat) → x.heap.size ≤ blkV v ∧ blkV v < x'.heap.size))
  | 0, t, o, sp, a, x, val, ht, ho, hs, q, oth, dep => by
    have e1 : oAl_0 = o := Option.some.inj ho
    have e2 : 14 = t := Option.some.inj ht
    have e3 := Option.some.inj hs
    subst e1 e2 e3
    exact yAl_0 E q oth dep
  | 1, t, o, sp, a, x, val, ht, ho, hs, q, oth, dep => by
    have e1 : oAl_1 = o := Option.some.inj ho
    have e2 : 15 = t := Option.some.inj ht
    have e3 := Option.some.inj hs
    subst e1 e2 e3
    exact yAl_1 E q oth dep
  | 2, t, o, sp, a, x, val, ht, ho, hs, q, oth, dep => by
    have e1 : oAl_2 = o := Option.some.inj ho
    have e2 : 16 = t := Option.some.inj ht
    have e3 := Option.some.inj hs
    subst e1 e2 e3
    exact yAl_2 E q oth dep
  | 3, t, o, sp, a, x, val, ht, ho, hs, q, oth, dep => by
    have e1 : oAl_3 = o := Option.some.inj ho
    have e2 : 17 = t := Option.some.inj ht
    have e3 := Option.some.inj hs
    subst e1 e2 e3
    exact yAl_3 E q oth dep
  | 4, t, o, sp, a, x, val, ht, ho, hs, q, oth, dep => by
    have e1 : oAl_4 = o := Option.some.inj ho
    have e2 : 18 = t := Option.some.inj ht
    have e3 := Option.some.inj hs
    subst e1 e2 e3
    exact yAl_4 E q oth dep
  | 5, t, o, sp, a, x, val, ht, ho, hs, q, oth, dep => by
    have e1 : oAl_5 = o := Option.some.inj ho
    have e2 : 19 = t := Option.some.inj ht
    have e3 := Option.some.inj hs
    subst e1 e2 e3
    exact yAl_5 E q oth dep
  | 6, t, o, sp, a, x, val, ht, ho, hs, q, oth, dep => by
    have e1 : oAl_6 = o := Option.some.inj ho
    have e2 : 20 = t := Option.some.inj ht
    have e3 := Option.some.inj hs
    subst e1 e2 e3
    exact yAl_6 E q oth dep
  | 7, t, o, sp, a, x, val, ht, ho, hs, q, oth, dep => by
    have e1 : oAl_7 = o := Option.some.inj ho
    have e2 : 21 = t := Option.some.inj ht
    have e3 := Option.some.inj hs
    subst e1 e2 e3
    exact yAl_7 E q oth dep
  | 8, t, o, sp, a, x, val, ht, ho, hs, q, oth, dep => by
    have e1 : oAl_8 = o := Option.some.inj ho
    have e2 : 22 = t := Option.some.inj ht
    have e3 := Option.some.inj hs
    subst e1 e2 e3
    exact yAl_8 E q oth dep
  | 9, t, o, sp, a, x, val, ht, ho, hs, q, oth, dep => by
    have e1 : oAl_9 = o := Option.some.inj ho
    have e2 : 7 = t := Option.some.inj ht
    have e3 := Option.some.inj hs
    subst e1 e2 e3
    exact yAl_9 E q oth dep
  | i + 10, t, o, sp, a, x, val, ht, ho, hs, q, oth, dep => by cases ht
set_option maxHeartbeats 1000000 in
theorem regionAl {id : Nat} {l : List Oper} {R : Exit → Act → World → Prop} {a0 : Act} {w : World} {B : Nat} {pa pb : Int} {b5 : Nat} {ad : Option Addr} {n c : Nat} (hl : l = opsAl) (hsz : a0.tmps.size = 87) (E : EnvAl a0 w B pa pb b5 ad n c)
    (hR : ∀ x g gb, AlP B pa pb n g gb w x → R .normal (putAll a0 [(14, .pointer (some ⟨b5, 0, none⟩)), (15, .int .i64 pa), (16, .pointer (some ⟨b5, 1, none⟩)), (17, .int .i64 pb), (18, .pointer (some ⟨b5, 2, none⟩)), (19, .slice ad n c), (20, .int .i64 (n : Int)), (21, .slice (some ⟨g, 0, none⟩) n n), (22, .agg #[.int .i64 pa, .int .i64 pb, .slice (some ⟨g, 0, none⟩) n n]), (7, .pointer (some ⟨gb, 0, none⟩))]) x) :
    (Code.region id l.toArray true).wp Try.prog R a0 w := by
  subst hl
  refine wp_region_newP 10 sAl (spAl B pa pb b5 ad n c) [[], [], [], [], [], [], [], [], [7], []] [7, 9] (by kernel_rfl) (by decide +kernel) (by decide +kernel) rfl (by decide) (fun t ht => ?_) (hopAl E) (by decide) (fun a x val q size defers other facts apart => ?_)
  · rw [hsz]
    revert t
    decide
  · obtain ⟨t0, f0⟩ := facts 0 14 _ rfl rfl
    have f0 : val 0 = (.pointer (some ⟨b5, 0, none⟩)) := f0
    rw [f0] at t0
    obtain ⟨t1, f1⟩ := facts 1 15 _ rfl rfl
    have f1 : val 1 = (.int .i64 pa) := f1
    rw [f1] at t1
    obtain ⟨t2, f2⟩ := facts 2 16 _ rfl rfl
    have f2 : val 2 = (.pointer (some ⟨b5, 1, none⟩)) := f2
    rw [f2] at t2
    obtain ⟨t3, f3⟩ := facts 3 17 _ rfl rfl
    have f3 : val 3 = (.int .i64 pb) := f3
    rw [f3] at t3
    obtain ⟨t4, f4⟩ := facts 4 18 _ rfl rfl
    have f4 : val 4 = (.pointer (some ⟨b5, 2, none⟩)) := f4
    rw [f4] at t4
    obtain ⟨t5, f5⟩ := facts 5 19 _ rfl rfl
    have f5 : val 5 = (.slice ad n c) := f5
    rw [f5] at t5
    obtain ⟨t6, f6⟩ := facts 6 20 _ rfl rfl
    have f6 : val 6 = (.int .i64 (n : Int)) := f6
    rw [f6] at t6
    obtain ⟨t7, f7⟩ := facts 7 21 _ rfl rfl
    obtain ⟨t8, f8⟩ := facts 8 22 _ rfl rfl
    obtain ⟨t9, f9⟩ := facts 9 7 _ rfl rfl
    obtain ⟨g, e7, a1, a2, a3⟩ := f7
    obtain ⟨gb, e9, c1, c2, c3, c4, c5, c6⟩ := f9
    have p79 := apart 7 9 (by simp) (by simp) (by decide)
    rw [e7, e9] at p79
    have f8 : val 8 = .agg #[.int .i64 pa, .int .i64 pb, val 7] := f8
    rw [f8, e7] at t8
    rw [e7] at t7
    rw [e9] at t9
    have hA := act_puts (a := a) (a0 := a0) [(14, .pointer (some ⟨b5, 0, none⟩)), (15, .int .i64 pa), (16, .pointer (some ⟨b5, 1, none⟩)), (17, .int .i64 pb), (18, .pointer (some ⟨b5, 2, none⟩)), (19, .slice ad n c), (20, .int .i64 (n : Int)), (21, .slice (some ⟨g, 0, none⟩) n n), (22, .agg #[.int .i64 pa, .int .i64 pb, .slice (some ⟨g, 0, none⟩) n n]), (7, .pointer (some ⟨gb, 0, none⟩))] (show ([14, 15, 16, 17, 18, 19, 20, 21, 22, 7] : List Nat).Nodup by decide) size defers (fun j hj => other j (by simpa [sAl] using hj)) (fun r hr => ?_)
    · refine ⟨?_⟩
      refine post_skip (x' := ((x.setCell ⟨gb, 0, none⟩ (.int .i64 pa)).setCell ⟨gb, 1, none⟩ (.int .i64 pb)).setCell ⟨gb, 2, none⟩ (.slice (some ⟨g, 0, none⟩) n n)) rfl (by simp [oAl_10, execOp, t8, t9, go_sem, c3, c4, c5, c6]) ?_
      show R .normal a _
      rw [hA]
      have hl : w.heap.size ≤ gb := by rw [← E.hB]; exact c1
      exact hR _ g gb ⟨((q.set hl _).set hl _).set hl _, a1, c1, p79, ((a3.other (p := ⟨gb, 0, none⟩) (fun e => p79 e.symm) _).other (p := ⟨gb, 1, none⟩) (fun e => p79 e.symm) _).other (p := ⟨gb, 2, none⟩) (fun e => p79 e.symm) _, (World.cell?_setCell_other _ _ _ _ (fun e => by injection e with _ e; cases e)).trans ((World.cell?_setCell_other _ _ _ _ (fun e => by injection e with _ e; cases e)).trans (World.cell?_setCell_same _ _ _ c3)), (World.cell?_setCell_other _ _ _ _ (fun e => by injection e with _ e; cases e)).trans (World.cell?_setCell_same _ _ _ ((World.cell?_setCell_other _ _ _ _ (fun e => by injection e with _ e; cases e)).trans c4)), World.cell?_setCell_same _ _ _ ((World.cell?_setCell_other _ _ _ _ (fun e => by injection e with _ e; cases e)).trans ((World.cell?_setCell_other _ _ _ _ (fun e => by injection e with _ e; cases e)).trans c5)), fun j => by rw [World.frozen?_setCell, World.frozen?_setCell, World.frozen?_setCell]; exact c6 j⟩
    · simp only [List.mem_cons, List.not_mem_nil, or_false] at hr
      rcases hr with rfl | rfl | rfl | rfl | rfl | rfl | rfl | rfl | rfl | rfl
      · exact t0
      · exact t1
      · exact t2
      · exact t3
      · exact t4
      · exact t5
      · exact t6
      · exact t7
      · exact t8
      · exact t9
set_option maxRecDepth 100000 in
theorem normAl {t0 t1 t2 t3 t4 t5 t6 t7 t8 t9 t10 t11 t12 t13 t14 t15 t16 t17 t18 t19 t20 t21 t22 t23 t24 t25 t26 t27 t28 t29 t30 t31 t32 t33 t34 t35 t36 t37 t38 t39 t40 t41 t42 t43 t44 t45 t46 t47 t48 t49 t50 t51 t52 t53 t54 t55 t56 t57 t58 t59 t60 t61 t62 t63 t64 t65 t66 t67 t68 t69 t70 t71 t72 t73 t74 t75 t76 t77 t78 t79 t80 t81 t82 t83 t84 t85 t86 v14 v15 v16 v17 v18 v19 v20 v21 v22 v7 : Value} {d : List Deferred} : putAll ⟨#[t0, t1, t2, t3, t4, t5, t6, t7, t8, t9, t10, t11, t12, t13, t14, t15, t16, t17, t18, t19, t20, t21, t22, t23, t24, t25, t26, t27, t28, t29, t30, t31, t32, t33, t34, t35, t36, t37, t38, t39, t40, t41, t42, t43, t44, t45, t46, t47, t48, t49, t50, t51, t52, t53, t54, t55, t56, t57, t58, t59, t60, t61, t62, t63, t64, t65, t66, t67, t68, t69, t70, t71, t72, t73, t74, t75, t76, t77, t78, t79, t80, t81, t82, t83, t84, t85, t86], d⟩ [(14, v14), (15, v15), (16, v16), (17, v17), (18, v18), (19, v19), (20, v20), (21, v21), (22, v22), (7, v7)] = ⟨#[t0, t1, t2, t3, t4, t5, t6, v7, t8, t9, t10, t11, t12, t13, v14, v15, v16, v17, v18, v19, v20, v21, v22, t23, t24, t25, t26, t27, t28, t29, t30, t31, t32, t33, t34, t35, t36, t37, t38, t39, t40, t41, t42, t43, t44, t45, t46, t47, t48, t49, t50, t51, t52, t53, t54, t55, t56, t57, t58, t59, t60, t61, t62, t63, t64, t65, t66, t67, t68, t69, t70, t71, t72, t73, t74, t75, t76, t77, t78, t79, t80, t81, t82, t83, t84, t85, t86], d⟩ := by
  kernel_rfl
set_option maxHeartbeats 400000 in
theorem rcount_any (pa pb : Int) (sv : Option Addr) (n c : Nat) (w : World) : Calls Try.prog 89 #[.agg #[], .agg #[.int .i64 pa, .int .i64 pb, .slice sv n c]] w fun e w' => e = .returned (.int .i64 pb) ∧ Q w w' := by
  have HQ : Hid (Q w (w.alloc (.cells #[.int .i64 pa, .int .i64 pb, .slice sv n c] 43))) := (Q.refl w).cells _ _
  go_enter Try.func89, Try.ntmps89
  go_wp2_with fail
  go_ret
  exact ⟨rfl, ((Q.refl w).cells _ _).cells _ _⟩
set_option maxHeartbeats 400000 in
theorem rlength_any (pa pb : Int) (sv : Option Addr) (n c : Nat) (w : World) : Calls Try.prog 90 #[.agg #[], .agg #[.int .i64 pa, .int .i64 pb, .slice sv n c]] w fun e w' => e = .returned (.int .i64 pa) ∧ Q w w' := by
  have HQ : Hid (Q w (w.alloc (.cells #[.int .i64 pa, .int .i64 pb, .slice sv n c] 43))) := (Q.refl w).cells _ _
  go_enter Try.func90, Try.ntmps90
  go_wp2_with fail
  go_ret
  exact ⟨rfl, ((Q.refl w).cells _ _).cells _ _⟩
set_option maxHeartbeats 400000 in
theorem ccount_any (pa pb : Int) (sv : Option Addr) (n c : Nat) (w : World) : Calls Try.prog 86 #[.agg #[], .agg #[.int .i64 pa, .int .i64 pb, .slice sv n c]] w fun e w' => e = .returned (.int .i64 pa) ∧ Q w w' := by
  have HQ : Hid (Q w (w.alloc (.cells #[.int .i64 pa, .int .i64 pb, .slice sv n c] 43))) := (Q.refl w).cells _ _
  go_enter Try.func86, Try.ntmps86
  go_wp2_with fail
  go_ret
  exact ⟨rfl, ((Q.refl w).cells _ _).cells _ _⟩
set_option maxHeartbeats 400000 in
theorem clength_any (pa pb : Int) (sv : Option Addr) (n c : Nat) (w : World) : Calls Try.prog 87 #[.agg #[], .agg #[.int .i64 pa, .int .i64 pb, .slice sv n c]] w fun e w' => e = .returned (.int .i64 pb) ∧ Q w w' := by
  have HQ : Hid (Q w (w.alloc (.cells #[.int .i64 pa, .int .i64 pb, .slice sv n c] 43))) := (Q.refl w).cells _ _
  go_enter Try.func87, Try.ntmps87
  go_wp2_with fail
  go_ret
  exact ⟨rfl, ((Q.refl w).cells _ _).cells _ _⟩
set_option maxHeartbeats 400000 in
theorem rat_line (pa : Nat) (pb : Int) (sv : Option Addr) (n c l i : Nat) (ha : pa ≤ 1024) (hl : l ≤ 2048) (hi : i ≤ 2048) (w : World) : Calls Try.prog 88 #[.agg #[], .agg #[.int .i64 (pa : Int), .int .i64 pb, .slice sv n c], .int .i64 (l : Int), .int .i64 (i : Int)] w fun e w' => e = .returned (.int .i64 ((l * pa + i : Nat) : Int)) ∧ Q w w' := by
  have HQ : Hid (Q w (w.alloc (.cells #[.int .i64 (pa : Int), .int .i64 pb, .slice sv n c] 43))) := (Q.refl w).cells _ _
  have hb : l * pa ≤ 2048 * 1024 := Nat.mul_le_mul (by omega) ha
  have hc : (l : Int) * (pa : Int) = ((l * pa : Nat) : Int) := by rw [Int.natCast_mul]
  obtain ⟨m, hm⟩ : ∃ m, l * pa = m := ⟨_, rfl⟩
  rw [hm] at hb hc ⊢
  clear hm
  go_enter Try.func88, Try.ntmps88
  go_wp2_with fail
  go_ret
  exact ⟨rfl, ((Q.refl w).cells _ _).cells _ _⟩
set_option maxHeartbeats 400000 in
theorem cat_line (pa : Nat) (pb : Int) (sv : Option Addr) (n c l i : Nat) (ha : pa ≤ 1024) (hl : l ≤ 2048) (hi : i ≤ 2048) (w : World) : Calls Try.prog 85 #[.agg #[], .agg #[.int .i64 (pa : Int), .int .i64 pb, .slice sv n c], .int .i64 (l : Int), .int .i64 (i : Int)] w fun e w' => e = .returned (.int .i64 ((i * pa + l : Nat) : Int)) ∧ Q w w' := by
  have HQ : Hid (Q w (w.alloc (.cells #[.int .i64 (pa : Int), .int .i64 pb, .slice sv n c] 43))) := (Q.refl w).cells _ _
  have hb : i * pa ≤ 2048 * 1024 := Nat.mul_le_mul (by omega) ha
  have hc : (i : Int) * (pa : Int) = ((i * pa : Nat) : Int) := by rw [Int.natCast_mul]
  obtain ⟨m, hm⟩ : ∃ m, i * pa = m := ⟨_, rfl⟩
  rw [hm] at hb hc ⊢
  clear hm
  go_enter Try.func85, Try.ntmps85
  go_wp2_with fail
  go_ret
  exact ⟨rfl, ((Q.refl w).cells _ _).cells _ _⟩
/-- Half of what one sample is above another one. -/
def slpV (S : Nat → Nat) : Nat := narW (opT .quo (opT .sub (wideW (S 2)) (wideW (S 0))) 4611686018427387904)
theorem can_two : canW 4611686018427387904 = 4611686018427387904 := by decide +kernel
set_option maxHeartbeats 2000000 in
set_option maxRecDepth 100000 in
theorem slope_any (h o c : Nat) (X S : Nat → Nat) (w : World) (hc : 3 ≤ c) (hX : ∀ i, i < 3 → w.cell? ⟨h, o + i, none⟩ = some (.float .f64 (X i))) (hS : ∀ i, i < 3 → NumX (S i) (X i)) :
    Calls Try.prog 45 #[.slice (some ⟨h, o, none⟩) 3 c] w fun e w' => e = .returned (.int .u32 (slpV S : Nat)) ∧ Q w w' := by
  have HE : Hid (∀ x y : World, narW (resW .quo (resW .sub (X 2) (X 0) x) 4611686018427387904 y) = slpV S) := fun x y => narW_of (res_can hA4 (res_can hA2 (hS 2 (by omega)).2 (hS 0 (by omega)).2) can_two)
  have ls := fun (t : TypeId) (x y : Nat) (P : Program) (w : World) => run_res .sub hA2 t x y P w
  have lq := fun (t : TypeId) (x y : Nat) (P : Program) (w : World) => run_res .quo hA4 t x y P w
  have CS : Hid (∀ (x : Nat) (w : World), Calls Try.prog 54 #[.float .f64 x] w fun e w' => e = .returned (.int .u32 (narW x : Nat)) ∧ Q w w') := fun x w => bsample_any x w
  have n0 := qw_some w
  have f0 := qw_cell (hX 0 (by omega))
  have f2 := qw_cell (hX 2 (by omega))
  rw [Nat.add_zero] at f0
  clear hX hS
  go_enter Try.func45, Try.ntmps45
  go_wp2_with fail
  refine wp_region_mk [0, 1, 2, 3, 4, 5] [[6, 7]] 2 _ (by kernel_rfl) (by kernel_rfl) rfl (by kernel_rfl) ?_
  simp only [List.filterMap_cons, List.filterMap_nil, List.getElem?_cons_zero, List.getElem?_cons_succ]
  repeat (first | go_big_quiet_step (fail) | quiet_step (fail))
  refine wpQuiet_nil ?_
  intro x2 hx2
  refine tree_run 6 rfl rfl (v := .float .f64 (resW .sub (X 2) (X 0) x2)) (x' := resU .sub (X 2) (X 0) x2) (by simp [execOp, go_sem, ls]) (hx2.trans (resU_q _ _ _ _)) ?_
  refine tree_runF 7 rfl rfl rfl (v := .float .f64 (resW .sub (X 2) (X 0) x2)) (x' := resU .sub (X 2) (X 0) x2) (by simp [execOp, go_sem]) ?_
  refine tree_nil ?_
  have HZ : Hid (∀ y : World, narW (resW .quo (resW .sub (X 2) (X 0) x2) 4611686018427387904 y) = slpV S) := fun y => HE.out x2 y
  have HQ : Hid (∀ z, Q (resU .quo (resW .sub (X 2) (X 0) x2) 4611686018427387904 (resU .sub (X 2) (X 0) x2)) z → Q w z) := fun z q => (hx2.trans (resU_q _ _ _ _)).trans ((resU_q _ _ _ _).trans q)
  generalize resW .sub (X 2) (X 0) x2 = A0 at *
  generalize resU .sub (X 2) (X 0) x2 = w3 at *
  clear n0 f0 f2 hx2
  go_wp2_with fail
  refine (CS.out _ _).mono ?_
  rintro e w6 ⟨rfl, q6⟩
  have HQ6 : Hid (Q w w6) := HQ.out w6 q6
  rw [HZ.out]
  clear q6
  go_wp2_with fail
  go_ret
  exact ⟨rfl, HQ6.out⟩
set_option maxHeartbeats 2000000 in
set_option maxRecDepth 100000 in
theorem places_any (r k L : Nat) (fv : Value) (hfv : fv.cells = #[fv]) (hst : ∀ (a : Addr) (m : Mode) (w : World), (store a fv m).run Try.prog w = stored Try.prog w a fv m) (hk : k = 1 ∨ k = 2 ∨ k = 3) (hr : r ≤ 7) (hL : 1 ≤ L) (hL2 : L ≤ 1024) (w : World) :
    Calls Try.prog 55 #[.agg #[.int .i64 (r : Int), .int .i64 (k : Int), fv], .int .i64 (L : Int)] w fun e w' => ∃ v, e = .returned v ∧ (∃ g, v = .slice (some ⟨g, 0, none⟩) (L + 2 * r) (L + 2 * r) ∧ VR w' g (L + 2 * r) (fun i => .int .i64 (borV k L ((i : Int) - (r : Int)))) ∧ w.heap.size ≤ g ∧ g < w'.heap.size) ∧ Q w w' := by
  have HC : Hid (∀ (i : Int) (x : World), Calls Try.prog 53 #[.int .i64 (k : Int), .int .i64 (L : Int), .int .i64 i] x fun e w' => e = .returned (.tuple #[.int .i64 (borV k L i), .int .i64 0]) ∧ w' = x) := fun i x => by
    have := border_any k L i x
    have hk' : (k : Int) = 1 ∨ (k : Int) = 2 ∨ (k : Int) = 3 := by omega
    have hs : sideB (L : Int) = true := by unfold sideB; simp; omega
    unfold borA borE at this
    rw [if_pos hk', if_pos hs, if_pos hk', if_pos hs] at this
    exact this
  obtain ⟨P, hP⟩ : ∃ P, L + 2 * r = P := ⟨_, rfl⟩
  have HP : Hid (L + 2 * r = P) := hP
  have hP2 : P ≤ 2000 := by omega
  have hP1 : 1 ≤ P := by omega
  have hPz : (L : Int) + 2 * (r : Int) = (P : Int) := by omega
  obtain ⟨M, hM, hV⟩ := make_vi P (by omega)
  rw [hP]
  obtain ⟨w1, hw1⟩ : ∃ w1, w.alloc (.cells #[.int .i64 (r : Int), .int .i64 (k : Int), fv] 87) = w1 := ⟨_, rfl⟩
  have q1 : Q w w1 := by rw [← hw1]; exact (Q.refl w).cells _ _
  have k0 : w1.cell? ⟨w.heap.size, 0, none⟩ = some (.int .i64 (r : Int)) := by rw [← hw1]; simp [go_sem]
  have k1 : w1.cell? ⟨w.heap.size, 1, none⟩ = some (.int .i64 (k : Int)) := by rw [← hw1]; simp [go_sem]
  have hsz : w1.heap.size = w.heap.size + 1 := by rw [← hw1]; simp
  have HB : Hid (w1.cell? ⟨w.heap.size, 0, none⟩ = some (.int .i64 (r : Int)) ∧ w1.cell? ⟨w.heap.size, 1, none⟩ = some (.int .i64 (k : Int)) ∧ Q w w1 ∧ w1.heap.size = w.heap.size + 1) := ⟨k0, k1, q1, hsz⟩
  have hMw := hM w1
  have hVw := hV w1
  have HQ2 : Hid (Q w1 (w1.alloc (.cells M 3))) := (Q.refl w1).cells _ _
  generalize w1.alloc (.cells M 3) = w2 at hMw hVw HQ2
  have HV : Hid (VR w2 w1.heap.size P (sofar (fun i => .int .i64 (borV k L ((i : Int) - (r : Int)))) (.int .i64 0) 0) ∧ Q w1 w2) := by
    refine ⟨?_, HQ2.out⟩
    rw [sofar_zero]; exact hVw
  clear hM hV hVw HQ2 hP q1 hsz
  go_enter Try.func55, Try.ntmps55
  go_wp2_with fail
  go_loopg [6, 15] P (fun m s6 s15 wr => ∃ i : Nat, s15 = .int .i64 (i : Int) ∧ i + m = P ∧ Hid (VR wr w1.heap.size P (sofar (fun i => .int .i64 (borV k L ((i : Int) - (r : Int)))) (.int .i64 0) i) ∧ Q w1 wr))
  case atStart => exact ⟨0, rfl, by omega, HV⟩
  case round =>
    clear hw1 k0 k1
    obtain ⟨i, rfl, hi, HX⟩ := hrel
    by_cases hlt : i < P
    · have hlt' : (i : Int) < (P : Int) := by omega
      have c0 := HX.out.2.cell HB.out.1
      have c1 := HX.out.2.cell HB.out.2.1
      obtain ⟨u, hu⟩ : ∃ u, wr.cell? ⟨w1.heap.size, i, none⟩ = some u := ⟨_, HX.out.1.cell i hlt⟩
      have fu := HX.out.1.free i
      have C := HC.out ((i : Int) - (r : Int)) wr
      have HY : Hid (VR (wr.setCell ⟨w1.heap.size, i, none⟩ (.int .i64 (borV k L ((i : Int) - (r : Int))))) w1.heap.size P (sofar (fun i => .int .i64 (borV k L ((i : Int) - (r : Int)))) (.int .i64 0) (i + 1)) ∧ Q w1 (wr.setCell ⟨w1.heap.size, i, none⟩ (.int .i64 (borV k L ((i : Int) - (r : Int)))))) := ⟨HX.out.1.fill hlt rfl, HX.out.2.set (Nat.le_refl _) _⟩
      obtain ⟨z, hz⟩ : ∃ z, borV k L ((i : Int) - (r : Int)) = z := ⟨_, rfl⟩
      rw [hz] at C HY
      clear hz
      go_wp2_with fail
      refine C.mono ?_
      rintro e w5 ⟨rfl, hw5⟩
      obtain rfl := hw5.symm
      clear hw5 C
      go_wp2_with fail
      generalize wr.setCell ⟨w1.heap.size, i, none⟩ (.int .i64 z) = w8 at HY ⊢
      go_roundg (P - (i + 1))
      case measure => go_light; omega
      case rel => go_light; exact ⟨i + 1, by go_num, by omega, HY⟩
    · obtain rfl : i = P := by omega
      have hge : ¬ (i : Int) < (i : Int) := by omega
      go_wp2_with fail
      go_ret
      refine ⟨_, rfl, ⟨w1.heap.size, rfl, HX.out.1.full, ?_, HX.out.1.lt hP1⟩, HB.out.2.2.1.trans HX.out.2⟩
      rw [HB.out.2.2.2]; omega
end Go.Proofs.Ytedaacddnahjkaa

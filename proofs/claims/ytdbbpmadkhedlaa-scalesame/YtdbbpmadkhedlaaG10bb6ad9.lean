/- Kernels: dividing, adding up, comparing. -/
import Derived.Test.YtdbbpmadkhedlaaG6574cdb6
import Derived.Test.YtdbbpmadkhedlaaG306dedeb
import Derived.Laws.MakeOwn
import Derived.Deep.QuietTactic
import Derived.Test.YtdbbpmadkhedlaaGbf0ce6c2
import Derived.Test.YtdbbpmadkhedlaaG1d93a06b
import Derived.Test.YtdbbpmadkhedlaaGe5cc78ee
namespace Go.Proofs.Ytdbbpmadkhedlaa
open Go.RowKit
set_option linter.unusedVariables false
set_option linter.unusedSimpArgs false

theorem edrewk (w : World) : ∀ n, Q w (w.drewN n)
  | 0 => Q.refl w
  | n + 1 => (edrewk w n).trans ((Q.refl _).drew)
/-- The sum of the first k. -/
def sumI : List Int → Nat → Int
  | _, 0 => 0
  | l, k + 1 => sumI l k + l.getD k 0
theorem sumI_size (l : List Int) (M : Int) (hM : ∀ i, -M ≤ l.getD i 0 ∧ l.getD i 0 ≤ M) : ∀ k : Nat, -((k : Int) * M) ≤ sumI l k ∧ sumI l k ≤ (k : Int) * M
  | 0 => by simp [sumI]
  | k + 1 => by
    have := sumI_size l M hM k
    have h2 := hM k
    unfold sumI
    rw [show (((k + 1 : Nat) : Int)) * M = (k : Int) * M + M by rw [Int.natCast_add, Int.add_mul]; simp]
    omega
theorem div_down {a b : Int} (hb : 0 < b) : (a.tmod b < 0 → a / b = a.tdiv b - 1 ∧ a % b = a.tmod b + b) ∧ (¬ a.tmod b < 0 → a / b = a.tdiv b ∧ a % b = a.tmod b) := by
  have h1 := Int.tmod_add_tdiv_mul a b
  have h2 : a.tmod b < b := Int.tmod_lt_of_pos a hb
  have h3 : -b < a.tmod b := by
    have := Int.tmod_lt_of_pos (-a) hb
    rw [Int.neg_tmod] at this
    omega
  refine ⟨fun h => ?_, fun h => ?_⟩
  · have := (Int.ediv_emod_unique (a := a) (q := a.tdiv b - 1) (r := a.tmod b + b) hb).2 ⟨by rw [Int.mul_sub, Int.mul_one, Int.mul_comm b]; omega, by omega, by omega⟩
    exact this
  · have := (Int.ediv_emod_unique (a := a) (q := a.tdiv b) (r := a.tmod b) hb).2 ⟨by rw [Int.mul_comm b]; omega, by omega, by omega⟩
    exact this
theorem tdiv_size {a b : Int} (hb : 0 < b) : -a.natAbs ≤ a.tdiv b ∧ a.tdiv b ≤ a.natAbs ∧ -b < a.tmod b ∧ a.tmod b < b := by
  have h2 : a.tmod b < b := Int.tmod_lt_of_pos a hb
  have h3 : -b < a.tmod b := by
    have := Int.tmod_lt_of_pos (-a) hb
    rw [Int.neg_tmod] at this
    omega
  have h4 : (a.tdiv b).natAbs ≤ a.natAbs := by
    rw [Int.natAbs_tdiv]
    exact Nat.div_le_self _ _
  refine ⟨by omega, by omega, h3, h2⟩
set_option maxHeartbeats 1000000 in
set_option maxRecDepth 100000 in
theorem div_any (a b : Int) (w : World) (hb : 0 < b) (h1 : -4611686018427387904 ≤ a) (h2 : a ≤ 4611686018427387904) (h3 : b ≤ 4611686018427387904) :
    Calls Try.prog 48 #[.int .i64 a, .int .i64 b] w fun e w' => e = .returned (.tuple #[.int .i64 (a / b), .int .i64 (a % b)]) ∧ Q w w' := by
  obtain ⟨d1, d2⟩ := div_down (a := a) hb
  obtain ⟨b1, b2, b3, b4⟩ := tdiv_size (a := a) hb
  obtain ⟨q, hq⟩ : ∃ q, a.tdiv b = q := ⟨_, rfl⟩
  obtain ⟨m, hm⟩ : ∃ m, a.tmod b = m := ⟨_, rfl⟩
  rw [hq, hm] at d1 d2
  rw [hq] at b1 b2
  rw [hm] at b3 b4
  have q1 : -4611686018427387904 ≤ q := by omega
  have q2 : q ≤ 4611686018427387904 := by omega
  have hz : ¬ b = 0 := by omega
  have hz' : (b == 0) = false := by simp; omega
  by_cases hm0 : m < 0
  · obtain ⟨e1, e2⟩ := d1 hm0
    rw [e1, e2]
    clear d1 d2 e1 e2 b1 b2
    go_enter Try.func48, Try.ntmps48
    go_wp2_with fail
    go_quiet (fail)
    go_wp2_with fail
    go_ret2
    exact ⟨rfl, edrewk w _⟩
  · obtain ⟨e1, e2⟩ := d2 hm0
    rw [e1, e2]
    clear d1 d2 e1 e2 b1 b2
    go_enter Try.func48, Try.ntmps48
    go_wp2_with fail
    go_quiet (fail)
    go_wp2_with fail
    go_ret2
    exact ⟨rfl, edrewk w _⟩
set_option maxHeartbeats 1000000 in
set_option maxRecDepth 100000 in
theorem total_any (v : Value) (l : List Int) (w : World) (hv : ISl w v l) (hn : l.length ≤ 64) (hM : ∀ i, -72057594037927936 ≤ l.getD i 0 ∧ l.getD i 0 ≤ 72057594037927936) :
    Calls Try.prog 42 #[v] w fun e w' => e = .returned (.int .i64 (sumI l l.length)) ∧ w' = w := by
  obtain ⟨ad, c, rfl⟩ := hv.form
  obtain ⟨N, eN⟩ : ∃ N, l.length = N := ⟨_, rfl⟩
  have HV : Hid (ISl w (.slice ad N c) l ∧ l.length = N) := ⟨by rw [← eN]; exact hv, eN⟩
  have HM : Hid (∀ k, -(k * 72057594037927936) ≤ sumI l k ∧ sumI l k ≤ k * 72057594037927936) := fun k => sumI_size l 72057594037927936 hM k
  rw [eN] at hn ⊢
  clear hv hM eN
  go_enter Try.func42, Try.ntmps42
  go_wp2_with fail
  go_loopg [3, 5, 8] N (fun gh s3 s5 s8 wr => ∃ (i : Nat) (S : Int), s3 = .int .i64 S ∧ s8 = .int .i64 (i : Int) ∧ i ≤ N ∧ gh = N - i ∧ Hid (S = sumI l i) ∧ wr = w)
  case atStart => exact ⟨0, 0, rfl, rfl, Nat.zero_le _, rfl, rfl, rfl⟩
  case round =>
    obtain ⟨i, S, rfl, rfl, hi, rfl, HS, rfl⟩ := hrel
    by_cases hlt : i < N
    · have hltz : (i : Int) < (N : Int) := by omega
      obtain ⟨g1, o1, d1, hs1, hI1⟩ := HV.out.1.some (by have := HV.out.2; omega)
      rw [HV.out.2] at hs1 hI1
      injection hs1 with e1 e2 e3
      subst e1 e3
      have c1 := hI1 i hlt
      obtain ⟨z, hz⟩ : ∃ z, z = l.getD i 0 := ⟨_, rfl⟩
      rw [← hz] at c1
      have HS2 : Hid (S + z = sumI l (i + 1)) := by
        show S + z = sumI l i + l.getD i 0
        rw [HS.out, hz]
      have b1 := HM.out i
      have b2 := HM.out (i + 1)
      rw [← HS.out] at b1
      rw [← HS2.out] at b2
      have b3 : -4611686018427387904 ≤ S := by omega
      have b4 : S ≤ 4611686018427387904 := by omega
      have b5 : -9223372036854775808 ≤ S + z := by omega
      have b6 : S + z ≤ 9223372036854775807 := by omega
      clear hz hI1 e2 b1 b2
      go_wp2_with fail
      go_roundg (N - (i + 1))
      case measure => go_light; omega
      case rel => go_light; exact ⟨i + 1, S + z, rfl, by simp, by omega, rfl, HS2, rfl⟩
    · have hge : ¬ (i : Int) < (N : Int) := by omega
      obtain rfl : i = N := by omega
      go_wp2_with fail
      go_ret
      exact ⟨by rw [← HS.out]; rfl, rfl⟩
def tooB (n : Int) : Bool := decide (n < -1099511627776) || decide (1099511627776 < n)
set_option maxHeartbeats 1000000 in
set_option maxRecDepth 100000 in
theorem too_any (n : Int) (w : World) : Calls Try.prog 41 #[.int .i64 n] w fun e w' => e = .returned (.bool (tooB n)) ∧ w' = w := by
  have HT : Hid (tooB n = (decide (n < -1099511627776) || decide (1099511627776 < n))) := rfl
  rw [HT.out]
  by_cases h1 : n < -1099511627776
  · rw [decide_eq_true h1]
    go_enter Try.func41, Try.ntmps41
    go_wp2_with fail
    go_ret
    exact ⟨by first | rfl | simp, rfl⟩
  · by_cases h2 : 1099511627776 < n
    · rw [decide_eq_false h1, decide_eq_true h2]
      go_enter Try.func41, Try.ntmps41
      go_wp2_with fail
      go_ret
      exact ⟨by first | rfl | simp, rfl⟩
    · rw [decide_eq_false h1, decide_eq_false h2]
      go_enter Try.func41, Try.ntmps41
      go_wp2_with fail
      go_ret
      exact ⟨by first | rfl | simp, rfl⟩
theorem enters_too : ∀ args w, (callFunc 41 args).run Try.prog w = .ok (.enter 41 args) w := fun args w => rfl
/-- Is one of the first k too great? -/
def anyT (l : List Int) : Nat → Bool
  | 0 => false
  | k + 1 => anyT l k || tooB (l.getD k 0)
set_option maxHeartbeats 1000000 in
set_option maxRecDepth 100000 in
theorem idxf_any (v : Value) (l : List Int) (w : World) (hv : ISl w v l) (hn : l.length ≤ 100000) :
    Calls Try.prog 57 #[v, .func (.func 41) #[] #[]] w fun e w' => (∃ k : Int, e = .returned (.int .i64 k) ∧ (decide (0 ≤ k) = anyT l l.length)) ∧ w' = w := by
  obtain ⟨ad, c, rfl⟩ := hv.form
  obtain ⟨N, eN⟩ : ∃ N, l.length = N := ⟨_, rfl⟩
  have HV : Hid (ISl w (.slice ad N c) l ∧ l.length = N) := ⟨by rw [← eN]; exact hv, eN⟩
  rw [eN] at hn ⊢
  clear hv eN
  go_enter Try.func57, Try.ntmps57
  go_wp2_with fail
  go_loopg [5, 8] N (fun gh s5 s8 wr => ∃ (i : Nat), s8 = .int .i64 (i : Int) ∧ i ≤ N ∧ gh = N - i ∧ Hid (anyT l i = false) ∧ wr = w)
  case atStart => exact ⟨0, rfl, Nat.zero_le _, rfl, rfl, rfl⟩
  case round =>
    obtain ⟨i, rfl, hi, rfl, HS, rfl⟩ := hrel
    by_cases hlt : i < N
    · have hltz : (i : Int) < (N : Int) := by omega
      obtain ⟨g1, o1, d1, hs1, hI1⟩ := HV.out.1.some (by have := HV.out.2; omega)
      rw [HV.out.2] at hs1 hI1
      injection hs1 with e1 e2 e3
      subst e1 e3
      have c1 := hI1 i hlt
      obtain ⟨z, hz⟩ : ∃ z, z = l.getD i 0 := ⟨_, rfl⟩
      rw [← hz] at c1
      have HZ : Hid (z = l.getD i 0) := hz
      have C := too_any z wr
      clear hz hI1 e2
      cases ht : tooB z
      · rw [ht] at C
        have HS2 : Hid (anyT l (i + 1) = false) := by show (anyT l i || tooB (l.getD i 0)) = false; rw [HS.out, ← HZ.out, ht]; rfl
        clear ht
        go_wp2_with (refine C.mono ?_; rintro e w' ⟨rfl, rfl⟩)
        go_roundg (N - (i + 1))
        case measure => go_light; omega
        case rel => go_light; exact ⟨i + 1, by simp, by omega, rfl, HS2, rfl⟩
      · rw [ht] at C
        have HS2 : Hid (anyT l N = true) := by
          have : ∀ k, i + 1 ≤ k → anyT l k = true := by
            intro k hk
            induction k with
            | zero => omega
            | succ k ih =>
              show (anyT l k || tooB (l.getD k 0)) = true
              by_cases e : i = k
              · subst e; rw [← HZ.out, ht, Bool.or_true]
              · rw [ih (by omega)]; rfl
          exact this N (by omega)
        clear ht
        go_wp2_with (refine C.mono ?_; rintro e w' ⟨rfl, rfl⟩)
        go_ret
        exact ⟨⟨(i : Int), rfl, by rw [HS2.out]; exact decide_eq_true (by omega)⟩, rfl⟩
    · have hge : ¬ (i : Int) < (N : Int) := by omega
      obtain rfl : i = N := by omega
      go_wp2_with fail
      go_ret
      exact ⟨⟨-1, rfl, by rw [HS.out]; rfl⟩, rfl⟩
set_option maxHeartbeats 1000000 in
set_option maxRecDepth 100000 in
theorem conf_any (v : Value) (l : List Int) (w : World) (hv : ISl w v l) (hn : l.length ≤ 100000) :
    Calls Try.prog 40 #[v, .func (.func 41) #[] #[]] w fun e w' => e = .returned (.bool (anyT l l.length)) ∧ w' = w := by
  have C := idxf_any v l w hv hn
  obtain ⟨ad, c, rfl⟩ := hv.form
  clear hv
  generalize anyT l l.length = B at C ⊢
  generalize l.length = N at C ⊢
  go_enter Try.func40, Try.ntmps40
  go_wp2_with fail
  refine C.mono ?_
  rintro e w' ⟨⟨k, rfl, hk⟩, rfl⟩
  clear C
  have HK : Hid (decide (0 ≤ k) = B) := hk
  clear hk
  go_wp2_with fail
  go_ret
  exact ⟨by rw [← HK.out]; rfl, rfl⟩
set_option maxHeartbeats 1000000 in
set_option maxRecDepth 100000 in
theorem nan_any (x : Int) (w : World) : Calls Try.prog 61 #[.int .i64 x] w fun e w' => e = .returned (.bool false) ∧ w' = w := by
  go_enter Try.func61, Try.ntmps61
  go_wp2_with fail
  go_ret
  exact ⟨by first | rfl | simp, rfl⟩
def cmpK (x y : Int) : Int := if x < y then -1 else if y < x then 1 else 0
set_option maxHeartbeats 1000000 in
set_option maxRecDepth 100000 in
theorem cmp_any (x y : Int) (w : World) : Calls Try.prog 56 #[.int .i64 x, .int .i64 y] w fun e w' => e = .returned (.int .i64 (cmpK x y)) ∧ w' = w := by
  have HT : Hid (cmpK x y = if x < y then -1 else if y < x then 1 else 0) := rfl
  rw [HT.out]
  have C1 := nan_any x w
  have C2 := nan_any y w
  by_cases h1 : x < y
  · rw [if_pos h1]
    go_enter Try.func56, Try.ntmps56
    go_wp2_with (first | (refine C1.mono ?_; rintro e w' ⟨rfl, rfl⟩) | (refine C2.mono ?_; rintro e w' ⟨rfl, rfl⟩))
    go_ret
    exact ⟨rfl, rfl⟩
  · rw [if_neg h1]
    by_cases h2 : y < x
    · rw [if_pos h2]
      go_enter Try.func56, Try.ntmps56
      go_wp2_with (first | (refine C1.mono ?_; rintro e w' ⟨rfl, rfl⟩) | (refine C2.mono ?_; rintro e w' ⟨rfl, rfl⟩))
      go_ret
      exact ⟨rfl, rfl⟩
    · rw [if_neg h2]
      go_enter Try.func56, Try.ntmps56
      go_wp2_with (first | (refine C1.mono ?_; rintro e w' ⟨rfl, rfl⟩) | (refine C2.mono ?_; rintro e w' ⟨rfl, rfl⟩))
      go_ret
      exact ⟨rfl, rfl⟩
end Go.Proofs.Ytdbbpmadkhedlaa
/- Rows of whole numbers that the call makes; three of them, and a box, in whatever order. -/
namespace Go.Proofs.Ytdbbpmadkhedlaa
open Go.RowKit
set_option linter.unusedVariables false
set_option linter.unusedSimpArgs false

/-- Whole numbers that lie at the head of a block, and may be written over. -/
structure IRow (x : World) (g : Nat) (zs : List Int) : Prop where
  cell : ∀ i z, zs[i]? = some z → x.cell? ⟨g, i, none⟩ = some (.int .i64 z)
  free : ∀ j, x.frozen? ⟨g, j, none⟩ = false
theorem IRow.next {x x' : World} {g : Nat} {zs : List Int} (h : IRow x g zs) (q : Q x x') : IRow x' g zs := ⟨fun i z hi => q.cell (h.cell i z hi), fun j => by rw [q.2]; exact h.free j⟩
theorem IRow.other {x : World} {g : Nat} {zs : List Int} (h : IRow x g zs) {p : Addr} (hp : p.block ≠ g) (v : Value) : IRow (x.setCell p v) g zs :=
  ⟨fun i z hi => (World.cell?_setCell_other _ _ _ _ (fun e => hp (by rw [e]))).trans (h.cell i z hi), fun j => by rw [World.frozen?_setCell]; exact h.free j⟩
theorem IRow.set {x : World} {g : Nat} {zs : List Int} (h : IRow x g zs) {i : Nat} (hi : i < zs.length) (z : Int) : IRow (x.setCell ⟨g, i, none⟩ (.int .i64 z)) g (zs.set i z) := by
  refine ⟨fun k u hk => ?_, fun j => by rw [World.frozen?_setCell]; exact h.free j⟩
  by_cases e : i = k
  · subst e
    rw [List.getElem?_set_self hi] at hk
    cases hk
    exact World.cell?_setCell_same _ _ _ (h.cell i _ (List.getElem?_eq_getElem hi))
  · rw [List.getElem?_set_ne e] at hk
    rw [World.cell?_setCell_other _ _ _ _ (fun e' => e (by injection e'))]
    exact h.cell k u hk
theorem IRow.drew {x : World} {g : Nat} {zs : List Int} (h : IRow x g zs) : IRow x.drew g zs := h.next ((Q.refl x).drew)
theorem IRow.isl {x : World} {g : Nat} {zs : List Int} (h : IRow x g zs) (c : Nat) : ISl x (.slice (some ⟨g, 0, none⟩) zs.length c) zs :=
  Or.inl ⟨g, 0, c, rfl, fun i hi => by
    rw [Nat.zero_add, List.getD_eq_getElem?_getD, List.getElem?_eq_getElem hi]
    exact h.cell i _ (List.getElem?_eq_getElem hi)⟩
theorem kinfo_of {i : Option TypeInfo} {sz by_ : Nat} {z : Option Value} (h : i.map (fun j => (j.size, j.bytes, j.zero)) = some (sz, by_, z)) : ∃ j, i = some j ∧ j.size = sz ∧ j.bytes = by_ ∧ j.zero = z := by
  cases i with
  | none => cases h
  | some j => simp at h; exact ⟨j, rfl, h.1, h.2.1, h.2.2⟩
theorem iInfo : ∃ i, Try.prog.info? 3 = some i ∧ i.size = 1 ∧ i.bytes = 8 ∧ i.zero = some (.int .i64 0) := kinfo_of (by kernel_rfl)
theorem make_i (n : Nat) (hn : n ≤ 1048576) : ∃ M : Array Value, (∀ w : World, (Instr.makeSlice 51 (.int .i64 (n : Int)) (.int .i64 (n : Int))).run Try.prog w = .ok (.slice (some ⟨w.heap.size, 0, none⟩) n n) (w.alloc (.cells M 3))) ∧
    ∀ w : World, IRow (w.alloc (.cells M 3)) w.heap.size (List.replicate n 0) := by
  obtain ⟨i, i1, i2, i3, i4⟩ := iInfo
  refine ⟨madeCells (Value.int .i64 0).cells (n * 1), fun w => ?_, fun w => ?_⟩
  · have := run_make (P := Try.prog) w 51 3 i _ Try.underlying51 i1 i4 .i64 .i64 n n (by omega) (by omega) (by rw [i3]; omega) (by omega)
    rw [i2] at this
    simp only [Int.toNat_natCast] at this
    exact this
  · have hb : (w.alloc (.cells (madeCells (Value.int .i64 0).cells (n * 1)) 3)).heap[w.heap.size]? = some (.cells (madeCells (Value.int .i64 0).cells (n * 1)) 3 (0, 0)) := by
      show (w.heap.push _)[w.heap.size]? = _; simp
    have cr : ∀ j, (w.alloc (.cells (madeCells (Value.int .i64 0).cells (n * 1)) 3)).cell? ⟨w.heap.size, j, none⟩ = (madeCells (Value.int .i64 0).cells (n * 1))[j]? := fun j => by unfold World.cell?; rw [hb]; rfl
    refine ⟨fun j z hj => ?_, fun j => ?_⟩
    · rw [cr]
      rw [List.getElem?_replicate] at hj
      split at hj
      · rename_i hlt
        cases hj
        unfold madeCells
        simp [Value.cells, hlt, Nat.mod_one]
      · cases hj
    · unfold World.frozen?; rw [hb]; simp
def blkOf : Value → Nat
  | .slice (some a) _ _ => a.block
  | .pointer (some a) => a.block
  | _ => 0
structure InvM (n : Nat) (v : Value) (w : World) (done : Nat → Bool) (val : Nat → Value) (x : World) : Prop where
  q : Q w x
  v0 : ∀ k, k = 0 ∨ k = 3 ∨ k = 6 → done k = true → val k = v
  v1 : ∀ k, k = 1 ∨ k = 4 ∨ k = 7 → done k = true → val k = .int .i64 (n : Int)
  mks : ∀ k, k = 2 ∨ k = 5 ∨ k = 8 → done k = true → ∃ g, val k = .slice (some ⟨g, 0, none⟩) n n ∧ w.heap.size ≤ g ∧ g < x.heap.size ∧ IRow x g (List.replicate n 0)
  bx : done 9 = true → ∃ g, val 9 = .pointer (some ⟨g, 0, none⟩) ∧ w.heap.size ≤ g ∧ g < x.heap.size ∧ x.cell? ⟨g, 0, none⟩ = some (if done 11 = true then val 5 else .slice none 0 0) ∧ x.frozen? ⟨g, 0, none⟩ = false
  ap : ∀ i j, (i = 2 ∨ i = 5 ∨ i = 8 ∨ i = 9) → (j = 2 ∨ j = 5 ∨ j = 8 ∨ j = 9) → i ≠ j → done i = true → done j = true → blkOf (val i) ≠ blkOf (val j)
  d10 : done 10 = true → val 10 = val 2 ∧ done 2 = true
  d11 : done 11 = true → done 5 = true ∧ done 9 = true
  d12 : done 12 = true → val 12 = val 8 ∧ done 8 = true
theorem InvM.lt {n : Nat} {v : Value} {w : World} {done : Nat → Bool} {val : Nat → Value} {x : World} (I : InvM n v w done val x) {j : Nat} (hj : j = 2 ∨ j = 5 ∨ j = 8 ∨ j = 9) (hd : done j = true) : blkOf (val j) < x.heap.size := by
  rcases hj with rfl | rfl | rfl | rfl
  · obtain ⟨g, e, _, h, _⟩ := I.mks 2 (by simp) hd; rw [e]; exact h
  · obtain ⟨g, e, _, h, _⟩ := I.mks 5 (by simp) hd; rw [e]; exact h
  · obtain ⟨g, e, _, h, _⟩ := I.mks 8 (by simp) hd; rw [e]; exact h
  · obtain ⟨g, e, _, h, _⟩ := I.bx hd; rw [e]; exact h
theorem upd_true' {f : Nat → Bool} {i j : Nat} (h : f j = true) : upd f i true j = true := by unfold upd; split <;> first | rfl | exact h
theorem InvM.keep {n : Nat} {v : Value} {w : World} {done : Nat → Bool} {val : Nat → Value} {x x' : World} (I : InvM n v w done val x) {k : Nat} (hk : done k = false) (q : Q x x') {u : Value}
    (h0 : k = 0 ∨ k = 3 ∨ k = 6 → u = v) (h1 : k = 1 ∨ k = 4 ∨ k = 7 → u = .int .i64 (n : Int)) (h2 : k = 2 ∨ k = 5 ∨ k = 8 → ∃ g, u = .slice (some ⟨g, 0, none⟩) n n ∧ x.heap.size ≤ g ∧ g < x'.heap.size ∧ IRow x' g (List.replicate n 0))
    (h9 : k = 9 → done 11 = false ∧ ∃ g, u = .pointer (some ⟨g, 0, none⟩) ∧ x.heap.size ≤ g ∧ g < x'.heap.size ∧ x'.cell? ⟨g, 0, none⟩ = some (.slice none 0 0) ∧ x'.frozen? ⟨g, 0, none⟩ = false)
    (h10 : k = 10 → u = val 2 ∧ done 2 = true) (h11 : k ≠ 11) (h12 : k = 12 → u = val 8 ∧ done 8 = true) : InvM n v w (upd done k true) (upd val k u) x' := by
  have old : ∀ j, j ≠ k → upd done k true j = done j := fun j e => upd_ne _ _ e
  have oldv : ∀ j, j ≠ k → upd val k u j = val j := fun j e => upd_ne _ _ e
  have new : ∀ j, (j = 2 ∨ j = 5 ∨ j = 8 ∨ j = 9) → j = k → x.heap.size ≤ blkOf u := fun j hj e => by
    subst e
    rcases hj with rfl | rfl | rfl | rfl
    · obtain ⟨g, e, h, _⟩ := h2 (by simp); rw [e]; exact h
    · obtain ⟨g, e, h, _⟩ := h2 (by simp); rw [e]; exact h
    · obtain ⟨g, e, h, _⟩ := h2 (by simp); rw [e]; exact h
    · obtain ⟨_, g, e, h, _⟩ := h9 rfl; rw [e]; exact h
  have hsz := q.1.size
  have hws := I.q.1.size
  refine ⟨I.q.trans q, fun j hj hd => ?_, fun j hj hd => ?_, fun j hj hd => ?_, fun hd => ?_, fun i j hi hj hij hdi hdj => ?_, fun hd => ?_, fun hd => ?_, fun hd => ?_⟩
  · by_cases e : j = k
    · subst e; rw [upd_eq]; exact h0 hj
    · rw [old j e] at hd; rw [oldv j e]; exact I.v0 j hj hd
  · by_cases e : j = k
    · subst e; rw [upd_eq]; exact h1 hj
    · rw [old j e] at hd; rw [oldv j e]; exact I.v1 j hj hd
  · by_cases e : j = k
    · subst e; rw [upd_eq]
      obtain ⟨g, a1, a2, a3, a4⟩ := h2 hj
      exact ⟨g, a1, by omega, a3, a4⟩
    · rw [old j e] at hd; rw [oldv j e]
      obtain ⟨g, a1, a2, a3, a4⟩ := I.mks j hj hd
      exact ⟨g, a1, a2, by omega, a4.next q⟩
  · by_cases e : 9 = k
    · subst e
      rw [upd_eq, old 11 (by decide)]
      obtain ⟨a0, g, a1, a2, a3, a4, a5⟩ := h9 rfl
      refine ⟨g, a1, by omega, a3, ?_, a5⟩
      rw [a0]; exact a4
    · rw [old 9 e] at hd
      obtain ⟨g, a1, a2, a3, a4, a5⟩ := I.bx hd
      refine ⟨g, by rw [oldv 9 e]; exact a1, a2, by omega, ?_, by rw [q.2]; exact a5⟩
      rw [old 11 (Ne.symm h11)]
      by_cases c : done 11 = true
      · rw [if_pos c] at a4 ⊢
        have h5 : (5 : Nat) ≠ k := fun e => by subst e; rw [(I.d11 c).1] at hk; cases hk
        rw [oldv 5 h5]; exact q.cell a4
      · rw [if_neg c] at a4 ⊢; exact q.cell a4
  · by_cases e : i = k
    · have ej : j ≠ k := fun h => hij (e.trans h.symm)
      rw [old j ej] at hdj
      have := new i hi e
      have := I.lt hj hdj
      rw [oldv j ej, e, upd_eq]; omega
    · rw [old i e] at hdi
      have hi' := I.lt hi hdi
      by_cases ej : j = k
      · have := new j hj ej
        rw [oldv i e, ej, upd_eq]; omega
      · rw [old j ej] at hdj
        rw [oldv i e, oldv j ej]; exact I.ap i j hi hj hij hdi hdj
  · by_cases e : 10 = k
    · subst e; rw [upd_eq, oldv 2 (by decide), old 2 (by decide)]; exact h10 rfl
    · rw [old 10 e] at hd
      obtain ⟨a1, a2⟩ := I.d10 hd
      have h5 : (2 : Nat) ≠ k := fun e => by subst e; rw [a2] at hk; cases hk
      rw [oldv 10 e, oldv 2 h5, old 2 h5]; exact ⟨a1, a2⟩
  · rw [old 11 (Ne.symm h11)] at hd
    obtain ⟨a1, a2⟩ := I.d11 hd
    exact ⟨upd_true' a1, upd_true' a2⟩
  · by_cases e : 12 = k
    · subst e; rw [upd_eq, oldv 8 (by decide), old 8 (by decide)]; exact h12 rfl
    · rw [old 12 e] at hd
      obtain ⟨a1, a2⟩ := I.d12 hd
      have h5 : (8 : Nat) ≠ k := fun e => by subst e; rw [a2] at hk; cases hk
      rw [oldv 12 e, oldv 8 h5, old 8 h5]; exact ⟨a1, a2⟩
theorem InvM.store {n : Nat} {v : Value} {w : World} {done : Nat → Bool} {val : Nat → Value} {x : World} (I : InvM n v w done val x) (hk : done 11 = false) (h5 : done 5 = true) (h9 : done 9 = true) {g : Nat} (hg : val 9 = .pointer (some ⟨g, 0, none⟩)) (u : Value) :
    InvM n v w (upd done 11 true) (upd val 11 u) (x.setCell ⟨g, 0, none⟩ (val 5)) := by
  have old : ∀ j, j ≠ 11 → upd done 11 true j = done j := fun j e => upd_ne _ _ e
  have oldv : ∀ j, j ≠ 11 → upd val 11 u j = val j := fun j e => upd_ne _ _ e
  obtain ⟨g', a1, a2, a3, a4, a5⟩ := I.bx h9
  rw [hg] at a1
  cases a1
  refine ⟨I.q.set a2 _, fun j hj hd => ?_, fun j hj hd => ?_, fun j hj hd => ?_, fun hd => ?_, fun i j hi hj hij hdi hdj => ?_, fun hd => ?_, fun hd => ?_, fun hd => ?_⟩
  · have e : j ≠ 11 := by omega
    rw [old j e] at hd; rw [oldv j e]; exact I.v0 j hj hd
  · have e : j ≠ 11 := by omega
    rw [old j e] at hd; rw [oldv j e]; exact I.v1 j hj hd
  · have e : j ≠ 11 := by omega
    rw [old j e] at hd; rw [oldv j e]
    obtain ⟨g', b1, b2, b3, b4⟩ := I.mks j hj hd
    refine ⟨g', b1, b2, by simpa using b3, b4.other ?_ _⟩
    have := I.ap 9 j (by simp) (by omega) (by omega) h9 hd
    rw [hg, b1] at this
    exact this
  · refine ⟨g, by rw [oldv 9 (by decide)]; exact hg, a2, by simpa using a3, ?_, by rw [World.frozen?_setCell]; exact a5⟩
    rw [upd_eq, if_pos rfl, oldv 5 (by decide)]
    exact World.cell?_setCell_same _ _ _ a4
  · rw [old i (by omega)] at hdi
    rw [old j (by omega)] at hdj
    rw [oldv i (by omega), oldv j (by omega)]
    exact I.ap i j hi hj hij hdi hdj
  · rw [old 10 (by decide)] at hd
    rw [oldv 10 (by decide), oldv 2 (by decide), old 2 (by decide)]; exact I.d10 hd
  · rw [old 5 (by decide), old 9 (by decide)]; exact ⟨h5, h9⟩
  · rw [old 12 (by decide)] at hd
    rw [oldv 12 (by decide), oldv 8 (by decide), old 8 (by decide)]; exact I.d12 hd
def oMk_0 : Oper := { dst := some 11, op := .move (.tmp 0), type := 51, pos := "share.go:37", after := #[], guard := none }
def oMk_1 : Oper := { dst := some 12, op := .call { callee := .builtin .len, args := #[.tmp 11], argTypes := #[51] }, type := 3, pos := "share.go:37", after := #[⟨0, .data⟩], guard := none }
def oMk_2 : Oper := { dst := some 13, op := .makeSlice 51 (.tmp 12) (.tmp 12), type := 51, pos := "share.go:37", after := #[⟨1, .data⟩, ⟨1, .data⟩], guard := none }
def oMk_3 : Oper := { dst := some 14, op := .move (.tmp 0), type := 51, pos := "share.go:37", after := #[], guard := none }
def oMk_4 : Oper := { dst := some 15, op := .call { callee := .builtin .len, args := #[.tmp 14], argTypes := #[51] }, type := 3, pos := "share.go:37", after := #[⟨3, .data⟩], guard := none }
def oMk_5 : Oper := { dst := some 16, op := .makeSlice 51 (.tmp 15) (.tmp 15), type := 51, pos := "share.go:37", after := #[⟨4, .data⟩, ⟨4, .data⟩], guard := none }
def oMk_6 : Oper := { dst := some 17, op := .move (.tmp 0), type := 51, pos := "share.go:37", after := #[], guard := none }
def oMk_7 : Oper := { dst := some 18, op := .call { callee := .builtin .len, args := #[.tmp 17], argTypes := #[51] }, type := 3, pos := "share.go:37", after := #[⟨6, .data⟩], guard := none }
def oMk_8 : Oper := { dst := some 19, op := .makeSlice 51 (.tmp 18) (.tmp 18), type := 51, pos := "share.go:37", after := #[⟨7, .data⟩, ⟨7, .data⟩], guard := none }
def oMk_9 : Oper := { dst := some 5, op := .alloc 51, type := 0, pos := "share.go:37", after := #[], guard := none }
def oMk_10 : Oper := { dst := some 4, op := .assign (.tmp 13), type := 51, pos := "share.go:37", after := #[⟨2, .data⟩, ⟨0, .phase⟩, ⟨1, .phase⟩, ⟨2, .phase⟩, ⟨3, .textOnly .lateStores⟩, ⟨4, .textOnly .lateStoresUnsure⟩, ⟨5, .textOnly .lateStoresUnsure⟩, ⟨6, .textOnly .lateStores⟩, ⟨7, .textOnly .lateStoresUnsure⟩, ⟨8, .textOnly .lateStoresUnsure⟩, ⟨9, .phase⟩], guard := none }
def oMk_11 : Oper := { dst := none, op := .store 51 (.tmp 5) (.tmp 16), type := 0, pos := "share.go:37", after := #[⟨9, .data⟩, ⟨5, .data⟩, ⟨10, .chain⟩, ⟨0, .phase⟩, ⟨1, .phase⟩, ⟨2, .phase⟩, ⟨3, .phase⟩, ⟨4, .phase⟩, ⟨5, .phase⟩, ⟨6, .textOnly .lateStores⟩, ⟨7, .textOnly .lateStoresUnsure⟩, ⟨8, .textOnly .lateStoresUnsure⟩, ⟨9, .phase⟩, ⟨10, .phase⟩], guard := none }
def oMk_12 : Oper := { dst := some 6, op := .assign (.tmp 19), type := 51, pos := "share.go:37", after := #[⟨8, .data⟩, ⟨11, .chain⟩, ⟨0, .phase⟩, ⟨1, .phase⟩, ⟨2, .phase⟩, ⟨3, .phase⟩, ⟨4, .phase⟩, ⟨5, .phase⟩, ⟨6, .phase⟩, ⟨7, .phase⟩, ⟨8, .phase⟩, ⟨9, .phase⟩, ⟨10, .phase⟩, ⟨11, .phase⟩], guard := none }
def opsMk : List Oper := [oMk_0, oMk_1, oMk_2, oMk_3, oMk_4, oMk_5, oMk_6, oMk_7, oMk_8, oMk_9, oMk_10, oMk_11, oMk_12]
theorem dstMk : ∀ k, ∀ u ∈ dstOf opsMk k, u ∈ ([4, 5, 6, 11, 12, 13, 14, 15, 16, 17, 18, 19] : List Nat) := by
  intro k u hu
  by_cases h : k < 13
  · have : ∀ k : Nat, k < 13 → ∀ u ∈ dstOf opsMk k, u ∈ ([4, 5, 6, 11, 12, 13, 14, 15, 16, 17, 18, 19] : List Nat) := by decide +kernel
    exact this k h u hu
  · have : opsMk[k]? = none := List.getElem?_eq_none (by show 13 ≤ k; omega)
    unfold dstOf at hu
    rw [this] at hu
    cases hu
set_option maxHeartbeats 1000000 in
theorem hopMk {a0 : Act} {w : World} {n c : Nat} {ad : Option Addr} {R : Exit → Act → World → Prop} (h0 : a0.tmps[0]? = some (.slice ad n c)) (hn : n ≤ 1048576) :
    ∀ k o' (a : Act) x (done : Nat → Bool) (val : Nat → Value), opsMk[k]? = some o' → done k = false → (∀ e ∈ o'.after, Region.binds .any e = true → done e.on = true) → InvM n (.slice ad n c) w done val x → (∀ j, (∀ k, dstOf opsMk k ≠ some j) → a.tmps[j]? = a0.tmps[j]?) → (∀ j t, done j = true → dstOf opsMk j = some t → a.tmps[t]? = some (val j)) → (∀ g b, o'.guard = some (g, b) → val g = .bool b) →
      Shut (o'.wp Try.prog a x (fun a' x' => ∃ v, a' = a.put o'.dst v ∧ InvM n (.slice ad n c) w (upd done k true) (upd val k v) x') R) := by
  intro k o' a x done val ho hd dep I oth vals _
  have far : ∀ u, u ∉ ([4, 5, 6, 11, 12, 13, 14, 15, 16, 17, 18, 19] : List Nat) → a.tmps[u]? = a0.tmps[u]? := fun u hu => oth u (fun k e => hu (dstMk k u e))
  have i0 := (far 0 (by decide)).trans h0
  obtain ⟨M, hM, hF⟩ := make_i n hn
  rcases k with _ | _ | _ | _ | _ | _ | _ | _ | _ | _ | _ | _ | _ | k
  · have e1 : oMk_0 = o' := Option.some.inj ho
    subst e1
    have hrun : (execOp a.eval oMk_0).run Try.prog x = .ok (.value (.slice ad n c)) x := by rw [← tmp_eval i0]; rfl
    refine ⟨?_⟩
    unfold Oper.wp
    rw [hrun]
    exact ⟨_, rfl, I.keep hd (Q.refl x) (fun _ => rfl) (fun h => by omega) (fun h => by omega) (fun h => by omega) (fun h => by omega) (by decide) (fun h => by omega)⟩
  · have e1 : oMk_1 = o' := Option.some.inj ho
    subst e1
    have d0 : done 0 = true := dep ⟨0, .data⟩ (by simp [oMk_1]) rfl
    have t0 := vals 0 11 d0 rfl
    rw [I.v0 0 (by simp) d0] at t0
    have hrun : (execOp a.eval oMk_1).run Try.prog x = .ok (.value (.int .i64 (n : Int))) x := by
      simp [oMk_1, execOp, resolve, invoke, builtin, t0, go_sem]
    refine ⟨?_⟩
    unfold Oper.wp
    rw [hrun]
    exact ⟨_, rfl, I.keep hd (Q.refl x) (fun h => by omega) (fun _ => rfl) (fun h => by omega) (fun h => by omega) (fun h => by omega) (by decide) (fun h => by omega)⟩
  · have e1 : oMk_2 = o' := Option.some.inj ho
    subst e1
    have d1 : done 1 = true := dep ⟨1, .data⟩ (by simp [oMk_2]) rfl
    have t1 := vals 1 12 d1 rfl
    rw [I.v1 1 (by simp) d1] at t1
    have hrun : (execOp a.eval oMk_2).run Try.prog x = .ok (.value (.slice (some ⟨x.heap.size, 0, none⟩) n n)) (x.alloc (.cells M 3)) := by
      have := tmp_eval t1
      simp [oMk_2, execOp, this, hM]
    refine ⟨?_⟩
    unfold Oper.wp
    rw [hrun]
    exact ⟨_, rfl, I.keep hd ((Q.refl x).cells _ _) (fun h => by omega) (fun h => by omega) (fun _ => ⟨_, rfl, Nat.le_refl _, by simp, hF x⟩) (fun h => by omega) (fun h => by omega) (by decide) (fun h => by omega)⟩
  · have e1 : oMk_3 = o' := Option.some.inj ho
    subst e1
    have hrun : (execOp a.eval oMk_3).run Try.prog x = .ok (.value (.slice ad n c)) x := by rw [← tmp_eval i0]; rfl
    refine ⟨?_⟩
    unfold Oper.wp
    rw [hrun]
    exact ⟨_, rfl, I.keep hd (Q.refl x) (fun _ => rfl) (fun h => by omega) (fun h => by omega) (fun h => by omega) (fun h => by omega) (by decide) (fun h => by omega)⟩
  · have e1 : oMk_4 = o' := Option.some.inj ho
    subst e1
    have d3 : done 3 = true := dep ⟨3, .data⟩ (by simp [oMk_4]) rfl
    have t3 := vals 3 14 d3 rfl
    rw [I.v0 3 (by simp) d3] at t3
    have hrun : (execOp a.eval oMk_4).run Try.prog x = .ok (.value (.int .i64 (n : Int))) x := by
      simp [oMk_4, execOp, resolve, invoke, builtin, t3, go_sem]
    refine ⟨?_⟩
    unfold Oper.wp
    rw [hrun]
    exact ⟨_, rfl, I.keep hd (Q.refl x) (fun h => by omega) (fun _ => rfl) (fun h => by omega) (fun h => by omega) (fun h => by omega) (by decide) (fun h => by omega)⟩
  · have e1 : oMk_5 = o' := Option.some.inj ho
    subst e1
    have d4 : done 4 = true := dep ⟨4, .data⟩ (by simp [oMk_5]) rfl
    have t4 := vals 4 15 d4 rfl
    rw [I.v1 4 (by simp) d4] at t4
    have hrun : (execOp a.eval oMk_5).run Try.prog x = .ok (.value (.slice (some ⟨x.heap.size, 0, none⟩) n n)) (x.alloc (.cells M 3)) := by
      have := tmp_eval t4
      simp [oMk_5, execOp, this, hM]
    refine ⟨?_⟩
    unfold Oper.wp
    rw [hrun]
    exact ⟨_, rfl, I.keep hd ((Q.refl x).cells _ _) (fun h => by omega) (fun h => by omega) (fun _ => ⟨_, rfl, Nat.le_refl _, by simp, hF x⟩) (fun h => by omega) (fun h => by omega) (by decide) (fun h => by omega)⟩
  · have e1 : oMk_6 = o' := Option.some.inj ho
    subst e1
    have hrun : (execOp a.eval oMk_6).run Try.prog x = .ok (.value (.slice ad n c)) x := by rw [← tmp_eval i0]; rfl
    refine ⟨?_⟩
    unfold Oper.wp
    rw [hrun]
    exact ⟨_, rfl, I.keep hd (Q.refl x) (fun _ => rfl) (fun h => by omega) (fun h => by omega) (fun h => by omega) (fun h => by omega) (by decide) (fun h => by omega)⟩
  · have e1 : oMk_7 = o' := Option.some.inj ho
    subst e1
    have d6 : done 6 = true := dep ⟨6, .data⟩ (by simp [oMk_7]) rfl
    have t6 := vals 6 17 d6 rfl
    rw [I.v0 6 (by simp) d6] at t6
    have hrun : (execOp a.eval oMk_7).run Try.prog x = .ok (.value (.int .i64 (n : Int))) x := by
      simp [oMk_7, execOp, resolve, invoke, builtin, t6, go_sem]
    refine ⟨?_⟩
    unfold Oper.wp
    rw [hrun]
    exact ⟨_, rfl, I.keep hd (Q.refl x) (fun h => by omega) (fun _ => rfl) (fun h => by omega) (fun h => by omega) (fun h => by omega) (by decide) (fun h => by omega)⟩
  · have e1 : oMk_8 = o' := Option.some.inj ho
    subst e1
    have d7 : done 7 = true := dep ⟨7, .data⟩ (by simp [oMk_8]) rfl
    have t7 := vals 7 18 d7 rfl
    rw [I.v1 7 (by simp) d7] at t7
    have hrun : (execOp a.eval oMk_8).run Try.prog x = .ok (.value (.slice (some ⟨x.heap.size, 0, none⟩) n n)) (x.alloc (.cells M 3)) := by
      have := tmp_eval t7
      simp [oMk_8, execOp, this, hM]
    refine ⟨?_⟩
    unfold Oper.wp
    rw [hrun]
    exact ⟨_, rfl, I.keep hd ((Q.refl x).cells _ _) (fun h => by omega) (fun h => by omega) (fun _ => ⟨_, rfl, Nat.le_refl _, by simp, hF x⟩) (fun h => by omega) (fun h => by omega) (by decide) (fun h => by omega)⟩
  · have e1 : oMk_9 = o' := Option.some.inj ho
    subst e1
    have hrun : (execOp a.eval oMk_9).run Try.prog x = .ok (.value (.pointer (some ⟨x.heap.size, 0, none⟩))) (x.alloc (.cells #[.slice none 0 0] 51)) := by
      simp [oMk_9, execOp, go_sem]
    have h11 : done 11 = false := by
      cases e : done 11
      · rfl
      · rw [(I.d11 e).2] at hd; cases hd
    refine ⟨?_⟩
    unfold Oper.wp
    rw [hrun]
    exact ⟨_, rfl, I.keep hd ((Q.refl x).cells _ _) (fun h => by omega) (fun h => by omega) (fun h => by omega) (fun _ => ⟨h11, _, rfl, Nat.le_refl _, by simp, by simp [go_sem], by simp [go_sem]⟩) (fun h => by omega) (by decide) (fun h => by omega)⟩
  · have e1 : oMk_10 = o' := Option.some.inj ho
    subst e1
    have d2 : done 2 = true := dep ⟨2, .data⟩ (by simp [oMk_10]) rfl
    have t2 := vals 2 13 d2 rfl
    have hrun : (execOp a.eval oMk_10).run Try.prog x = .ok (.value (val 2)) x := by rw [← tmp_eval t2]; rfl
    refine ⟨?_⟩
    unfold Oper.wp
    rw [hrun]
    exact ⟨_, rfl, I.keep hd (Q.refl x) (fun h => by omega) (fun h => by omega) (fun h => by omega) (fun h => by omega) (fun _ => ⟨rfl, d2⟩) (by decide) (fun h => by omega)⟩
  · have e1 : oMk_11 = o' := Option.some.inj ho
    subst e1
    have d9 : done 9 = true := dep ⟨9, .data⟩ (by simp [oMk_11]) rfl
    have t9 := vals 9 5 d9 rfl
    have d5 : done 5 = true := dep ⟨5, .data⟩ (by simp [oMk_11]) rfl
    have t5 := vals 5 16 d5 rfl
    obtain ⟨g, b1, b2, b3, b4, b5⟩ := I.bx d9
    obtain ⟨g5, c1, c2, c3, c4⟩ := I.mks 5 (by simp) d5
    have hrun : (execOp a.eval oMk_11).run Try.prog x = .ok .skip (x.setCell ⟨g, 0, none⟩ (val 5)) := by
      rw [b1] at t9
      rw [c1] at t5 ⊢
      simp [oMk_11, execOp, t9, t5, go_sem, b4, b5]
    refine ⟨?_⟩
    unfold Oper.wp
    rw [hrun]
    exact ⟨_, rfl, I.store hd d5 d9 b1 _⟩
  · have e1 : oMk_12 = o' := Option.some.inj ho
    subst e1
    have d8 : done 8 = true := dep ⟨8, .data⟩ (by simp [oMk_12]) rfl
    have t8 := vals 8 19 d8 rfl
    have hrun : (execOp a.eval oMk_12).run Try.prog x = .ok (.value (val 8)) x := by rw [← tmp_eval t8]; rfl
    refine ⟨?_⟩
    unfold Oper.wp
    rw [hrun]
    exact ⟨_, rfl, I.keep hd (Q.refl x) (fun h => by omega) (fun h => by omega) (fun h => by omega) (fun h => by omega) (fun h => by omega) (by decide) (fun _ => ⟨rfl, d8⟩)⟩
  · have : opsMk[k + 13]? = none := List.getElem?_eq_none (by show 13 ≤ k + 13; omega)
    rw [this] at ho
    cases ho
/-- Three rows and a box. -/
structure Made3 (w x : World) (n g gr go gb : Nat) : Prop where
  q : Q w x
  l1 : w.heap.size ≤ g
  l2 : w.heap.size ≤ gr
  l3 : w.heap.size ≤ go
  l4 : w.heap.size ≤ gb
  r1 : IRow x g (List.replicate n 0)
  r2 : IRow x gr (List.replicate n 0)
  r3 : IRow x go (List.replicate n 0)
  box : x.cell? ⟨gb, 0, none⟩ = some (.slice (some ⟨gr, 0, none⟩) n n)
  n12 : g ≠ gr
  n13 : g ≠ go
  n14 : g ≠ gb
  n23 : gr ≠ go
  n24 : gr ≠ gb
  n34 : go ≠ gb
  b1 : g < x.heap.size
  b2 : gr < x.heap.size
  b3 : go < x.heap.size
set_option maxHeartbeats 1000000 in
theorem regionMk {id : Nat} {l : List Oper} {R : Exit → Act → World → Prop} {a0 : Act} {w : World} {n c : Nat} {ad : Option Addr} (hl : l = opsMk) (hsz : a0.tmps.size = 66) (h0 : a0.tmps[0]? = some (.slice ad n c)) (hn : n ≤ 1048576)
    (hR : ∀ x g gr go gb, Made3 w x n g gr go gb → R .normal (putAll a0 [(11, .slice ad n c), (12, .int .i64 (n : Int)), (13, .slice (some ⟨g, 0, none⟩) n n), (14, .slice ad n c), (15, .int .i64 (n : Int)), (16, .slice (some ⟨gr, 0, none⟩) n n), (17, .slice ad n c), (18, .int .i64 (n : Int)), (19, .slice (some ⟨go, 0, none⟩) n n), (5, .pointer (some ⟨gb, 0, none⟩)), (4, .slice (some ⟨g, 0, none⟩) n n), (6, .slice (some ⟨go, 0, none⟩) n n)]) x) :
    (Code.region id l.toArray true).wp Try.prog R a0 w := by
  subst hl
  refine wp_region_slots (InvM n (.slice ad n c) w) (by kernel_rfl) (by decide +kernel) ?_ ⟨(Q.refl w).drew, (fun _ _ h => (by cases h)), (fun _ _ h => (by cases h)), (fun _ _ h => (by cases h)), (fun h => (by cases h)), (fun _ _ _ _ _ h => (by cases h)), (fun h => (by cases h)), (fun h => (by cases h)), (fun h => (by cases h))⟩ (hopMk h0 hn) ?_ ?_
  · intro k u hk
    rw [hsz]
    have := dstMk k u hk
    clear hk
    revert u
    decide
  · intro k o' x done val g' b ho _ _ _ hg _
    have key : ∀ k : Nat, k < 13 → ((opsMk[k]?).bind fun o : Oper => o.guard) = none := by decide +kernel
    have := key k (List.getElem?_eq_some_iff.1 ho).1
    rw [ho] at this
    have : o'.guard = none := this
    rw [this] at hg
    cases hg
  · intro a x val I size defers other facts
    have dn : ∀ k, k < 13 → (decide (k < opsMk.length)) = true := fun k hk => decide_eq_true hk
    obtain ⟨g, a1, a2, a3, a4⟩ := I.mks 2 (by simp) (dn 2 (by decide))
    obtain ⟨gr, b1, b2, b3, b4⟩ := I.mks 5 (by simp) (dn 5 (by decide))
    obtain ⟨go, c1, c2, c3, c4⟩ := I.mks 8 (by simp) (dn 8 (by decide))
    obtain ⟨gb, d1, d2, d3, d4, d5⟩ := I.bx (dn 9 (by decide))
    rw [if_pos (dn 11 (by decide)), b1] at d4
    have ap : ∀ i j, (i = 2 ∨ i = 5 ∨ i = 8 ∨ i = 9) → (j = 2 ∨ j = 5 ∨ j = 8 ∨ j = 9) → i ≠ j → blkOf (val i) ≠ blkOf (val j) := fun i j hi hj hij => I.ap i j hi hj hij (dn i (by omega)) (dn j (by omega))
    have hA := act_puts (a := a) (a0 := a0) [(11, .slice ad n c), (12, .int .i64 (n : Int)), (13, .slice (some ⟨g, 0, none⟩) n n), (14, .slice ad n c), (15, .int .i64 (n : Int)), (16, .slice (some ⟨gr, 0, none⟩) n n), (17, .slice ad n c), (18, .int .i64 (n : Int)), (19, .slice (some ⟨go, 0, none⟩) n n), (5, .pointer (some ⟨gb, 0, none⟩)), (4, .slice (some ⟨g, 0, none⟩) n n), (6, .slice (some ⟨go, 0, none⟩) n n)] (by show ([11, 12, 13, 14, 15, 16, 17, 18, 19, 5, 4, 6] : List Nat).Nodup; decide) size defers (fun j hj => other j (fun k e => hj (by have := dstMk k j e; revert this; simp only [List.map_cons, List.map_nil, List.mem_cons, List.not_mem_nil, or_false]; omega))) (fun r hr => ?_)
    · refine ⟨?_⟩
      rw [hA]
      have p25 := ap 2 5 (by simp) (by simp) (by decide)
      have p28 := ap 2 8 (by simp) (by simp) (by decide)
      have p29 := ap 2 9 (by simp) (by simp) (by decide)
      have p58 := ap 5 8 (by simp) (by simp) (by decide)
      have p59 := ap 5 9 (by simp) (by simp) (by decide)
      have p89 := ap 8 9 (by simp) (by simp) (by decide)
      rw [a1, b1] at p25
      rw [a1, c1] at p28
      rw [a1, d1] at p29
      rw [b1, c1] at p58
      rw [b1, d1] at p59
      rw [c1, d1] at p89
      exact hR x g gr go gb ⟨I.q, a2, b2, c2, d2, a4, b4, c4, d4, p25, p28, p29, p58, p59, p89, a3, b3, c3⟩
    · simp only [List.mem_cons, List.not_mem_nil, or_false] at hr
      rcases hr with rfl | rfl | rfl | rfl | rfl | rfl | rfl | rfl | rfl | rfl | rfl | rfl
      · exact (facts 0 11 rfl).trans (congrArg some (I.v0 0 (by simp) (dn 0 (by decide))))
      · exact (facts 1 12 rfl).trans (congrArg some (I.v1 1 (by simp) (dn 1 (by decide))))
      · exact (facts 2 13 rfl).trans (congrArg some a1)
      · exact (facts 3 14 rfl).trans (congrArg some (I.v0 3 (by simp) (dn 3 (by decide))))
      · exact (facts 4 15 rfl).trans (congrArg some (I.v1 4 (by simp) (dn 4 (by decide))))
      · exact (facts 5 16 rfl).trans (congrArg some b1)
      · exact (facts 6 17 rfl).trans (congrArg some (I.v0 6 (by simp) (dn 6 (by decide))))
      · exact (facts 7 18 rfl).trans (congrArg some (I.v1 7 (by simp) (dn 7 (by decide))))
      · exact (facts 8 19 rfl).trans (congrArg some c1)
      · exact (facts 9 5 rfl).trans (congrArg some d1)
      · exact (facts 10 4 rfl).trans (congrArg some ((I.d10 (dn 10 (by decide))).1.trans a1))
      · exact (facts 12 6 rfl).trans (congrArg some ((I.d12 (dn 12 (by decide))).1.trans c1))
set_option maxRecDepth 100000 in
theorem normMk {t0 t1 t2 t3 t4 t5 t6 t7 t8 t9 t10 t11 t12 t13 t14 t15 t16 t17 t18 t19 t20 t21 t22 t23 t24 t25 t26 t27 t28 t29 t30 t31 t32 t33 t34 t35 t36 t37 t38 t39 t40 t41 t42 t43 t44 t45 t46 t47 t48 t49 t50 t51 t52 t53 t54 t55 t56 t57 t58 t59 t60 t61 t62 t63 t64 t65 v11 v12 v13 v14 v15 v16 v17 v18 v19 v5 v4 v6 : Value} {d : List Deferred} : putAll ⟨#[t0, t1, t2, t3, t4, t5, t6, t7, t8, t9, t10, t11, t12, t13, t14, t15, t16, t17, t18, t19, t20, t21, t22, t23, t24, t25, t26, t27, t28, t29, t30, t31, t32, t33, t34, t35, t36, t37, t38, t39, t40, t41, t42, t43, t44, t45, t46, t47, t48, t49, t50, t51, t52, t53, t54, t55, t56, t57, t58, t59, t60, t61, t62, t63, t64, t65], d⟩ [(11, v11), (12, v12), (13, v13), (14, v14), (15, v15), (16, v16), (17, v17), (18, v18), (19, v19), (5, v5), (4, v4), (6, v6)] = ⟨#[t0, t1, t2, t3, v4, v5, v6, t7, t8, t9, t10, v11, v12, v13, v14, v15, v16, v17, v18, v19, t20, t21, t22, t23, t24, t25, t26, t27, t28, t29, t30, t31, t32, t33, t34, t35, t36, t37, t38, t39, t40, t41, t42, t43, t44, t45, t46, t47, t48, t49, t50, t51, t52, t53, t54, t55, t56, t57, t58, t59, t60, t61, t62, t63, t64, t65], d⟩ := by
  kernel_rfl
end Go.Proofs.Ytdbbpmadkhedlaa
/- Shares of 65536, plain: rounded down, and one more of those whose rests are the greatest. -/
namespace Go.Proofs.Ytdbbpmadkhedlaa
open Go.Sort
set_option linter.unusedVariables false
set_option linter.unusedSimpArgs false

def sumF (f : Nat → Int) : Nat → Int
  | 0 => 0
  | k + 1 => sumF f k + f k
theorem sumF_congr {f g : Nat → Int} : ∀ n, (∀ i, i < n → f i = g i) → sumF f n = sumF g n
  | 0, _ => rfl
  | n + 1, h => by unfold sumF; rw [sumF_congr n (fun i hi => h i (by omega)), h n (by omega)]
theorem sumF_add (f g : Nat → Int) : ∀ n, sumF (fun i => f i + g i) n = sumF f n + sumF g n
  | 0 => rfl
  | n + 1 => by unfold sumF; rw [sumF_add f g n]; omega
theorem sumF_mul (c : Int) (f : Nat → Int) : ∀ n, sumF (fun i => c * f i) n = c * sumF f n
  | 0 => by simp [sumF]
  | n + 1 => by unfold sumF; rw [sumF_mul c f n, Int.mul_add]
theorem sumF_mono {f g : Nat → Int} : ∀ n, (∀ i, i < n → f i ≤ g i) → sumF f n ≤ sumF g n
  | 0, _ => Int.le_refl _
  | n + 1, h => by unfold sumF; have := sumF_mono n (fun i hi => h i (by omega)); have := h n (by omega); omega
theorem sumF_const (c : Int) : ∀ n : Nat, sumF (fun _ => c) n = (n : Int) * c
  | 0 => by simp [sumF]
  | n + 1 => by unfold sumF; rw [sumF_const c n, show ((n + 1 : Nat) : Int) = (n : Int) + 1 by omega, Int.add_mul]; omega
theorem sumF_nonneg {f : Nat → Int} (n : Nat) (h : ∀ i, i < n → 0 ≤ f i) : 0 ≤ sumF f n := by
  have := sumF_mono (f := fun _ => 0) n h
  rw [sumF_const] at this
  omega
/-- Rounded down, and what is left. -/
def flo (z : Nat → Int) (S : Int) (i : Nat) : Int := 65536 * z i / S
def rsV (z : Nat → Int) (S : Int) (i : Int) : Int := 65536 * z i.toNat % S
def missV (z : Nat → Int) (S : Int) (n : Nat) : Int := 65536 - sumF (flo z S) n
theorem flo_rs (z : Nat → Int) (S : Int) (i : Nat) : S * flo z S i + rsV z S i = 65536 * z i := by
  unfold flo rsV
  rw [Int.toNat_natCast]
  exact Int.mul_ediv_add_emod _ _
theorem rs_nonneg (z : Nat → Int) {S : Int} (hS : 0 < S) (i : Int) : 0 ≤ rsV z S i := Int.emod_nonneg _ (by omega)
theorem rs_lt (z : Nat → Int) {S : Int} (hS : 0 < S) (i : Int) : rsV z S i < S := Int.emod_lt_of_pos _ hS
theorem miss_eq (z : Nat → Int) {S : Int} {n : Nat} (hS : S = sumF z n) : S * missV z S n = sumF (fun i => rsV z S i) n := by
  have h1 : sumF (fun i => 65536 * z i) n = sumF (fun i => S * flo z S i + rsV z S i) n := sumF_congr n (fun i _ => (flo_rs z S i).symm)
  rw [sumF_mul, sumF_add, sumF_mul, ← hS] at h1
  unfold missV
  rw [Int.mul_sub, Int.mul_comm S 65536]
  omega
theorem miss_ge (z : Nat → Int) {S : Int} {n : Nat} (hS : S = sumF z n) (h0 : 0 < S) : 0 ≤ missV z S n := by
  have h1 := miss_eq z hS
  have h2 := sumF_nonneg (f := fun i => rsV z S i) n (fun i _ => rs_nonneg z h0 i)
  rw [← h1] at h2
  rcases Int.lt_or_le (missV z S n) 0 with h | h
  · have := Int.mul_neg_of_pos_of_neg h0 h; omega
  · exact h
theorem miss_le (z : Nat → Int) {S : Int} {n : Nat} (hS : S = sumF z n) (h0 : 0 < S) (hn : 0 < n) : missV z S n < (n : Int) := by
  have h1 := miss_eq z hS
  have h2 := sumF_mono (f := fun i => rsV z S i) (g := fun _ => S - 1) n (fun i _ => by have := rs_lt z h0 i; omega)
  rw [sumF_const, ← h1] at h2
  rcases Int.lt_or_le (missV z S n) (n : Int) with h | h
  · exact h
  · have h3 : S * (n : Int) ≤ S * missV z S n := Int.mul_le_mul_of_nonneg_left h (by omega)
    rw [Int.mul_sub, Int.mul_one, Int.mul_comm (n : Int) S] at h2
    omega
/-- The places 0, 1, .. -/
def placesL (n : Nat) : List Int := (List.range n).map fun i : Nat => (i : Int)
theorem placesL_len (n : Nat) : (placesL n).length = n := by simp [placesL]
theorem placesL_at {n i : Nat} (h : i < n) : (placesL n)[i]? = some (i : Int) := by
  unfold placesL; rw [List.getElem?_map, List.getElem?_range h]; rfl
theorem placesL_mem {n : Nat} {x : Int} : x ∈ placesL n ↔ 0 ≤ x ∧ x < (n : Int) := by
  unfold placesL
  rw [List.mem_map]
  constructor
  · rintro ⟨i, hi, rfl⟩; have := List.mem_range.1 hi; omega
  · rintro ⟨h1, h2⟩; exact ⟨x.toNat, List.mem_range.2 (by omega), by omega⟩
/-- The places by their rests, the greatest first. -/
def ordL (r : Int → Int) (n : Nat) : List Int := (placesL n).mergeSort fun x y => !tltB r y x
theorem ordL_perm (r : Int → Int) (n : Nat) : (ordL r n).Perm (placesL n) := List.mergeSort_perm _ _
theorem ordL_len (r : Int → Int) (n : Nat) : (ordL r n).length = n := by rw [(ordL_perm r n).length_eq, placesL_len]
theorem ordL_mem {r : Int → Int} {n : Nat} {x : Int} : x ∈ ordL r n ↔ 0 ≤ x ∧ x < (n : Int) := by rw [(ordL_perm r n).mem_iff, placesL_mem]
theorem ordL_nodup (r : Int → Int) (n : Nat) : (ordL r n).Nodup := by
  refine (ordL_perm r n).nodup_iff.2 ?_
  unfold placesL
  refine List.Pairwise.map _ ?_ (List.nodup_range (n := n))
  intro a b h e
  exact h (by omega)
theorem ordL_sorted (r : Int → Int) (n : Nat) : (ordL r n).Pairwise fun x y => tltB r y x = false := by
  have h := List.pairwise_mergeSort (le := fun x y => !tltB r y x) (fun a b c h1 h2 => by
    simp only [Bool.not_eq_true'] at h1 h2 ⊢
    exact (swo_tltB r).ntrans c b a h2 h1) (fun a b => by
    cases h1 : tltB r b a
    · rfl
    · have := tltB_iff.1 h1
      cases h2 : tltB r a b
      · rfl
      · have := tltB_iff.1 h2
        exact absurd (tlt_trans (tltB_iff.1 h1) (tltB_iff.1 h2)) tlt_irr) (placesL n)
  exact h.imp (fun h => by simpa using h)
theorem ordL_lt {r : Int → Int} {n : Nat} {i j : Nat} {x y : Int} (hi : (ordL r n)[i]? = some x) (hj : (ordL r n)[j]? = some y) (h : i < j) : tlt r x y := by
  obtain ⟨h1, e1⟩ := List.getElem?_eq_some_iff.1 hi
  obtain ⟨h2, e2⟩ := List.getElem?_eq_some_iff.1 hj
  have hs := List.pairwise_iff_getElem.1 (ordL_sorted r n) i j h1 h2 h
  have hn := List.pairwise_iff_getElem.1 (ordL_nodup r n) i j h1 h2 h
  rw [e1, e2] at hs hn
  exact tlt_tot (fun e => hn e.symm) (fun h => by rw [tltB_iff.2 h] at hs; cases hs)
/-- What a stable sort of the places tells is that list. -/
theorem ordL_of {r : Int → Int} {n : Nat} {d d' : Array Int} (hn : n = d.size) (hd : ∀ i, i < n → d[i]! = (i : Int)) (hP : PermIn 0 n d d') (hT : TS r 0 n d') : d'.toList = ordL r n := by
  have e : d.toList = placesL n := by
    apply List.ext_getElem?
    intro i
    by_cases h : i < n
    · rw [placesL_at h, Array.getElem?_toList, Array.getElem?_eq_getElem (by omega)]
      have := hd i h
      rw [getElem!_pos d i (by omega)] at this
      rw [this]
    · rw [List.getElem?_eq_none (by simp; omega), List.getElem?_eq_none (by rw [placesL_len]; omega)]
  have h := sorted_unique_holds (swo_tltB r) (fun x y h1 h2 => by
    have a1 : ¬ tlt r x y := fun h => by rw [tltB_iff.2 h] at h1; cases h1
    have a2 : ¬ tlt r y x := fun h => by rw [tltB_iff.2 h] at h2; cases h2
    rcases Classical.em (x = y) with e | e
    · exact e
    · exact absurd (tlt_tot e a1) a2) d d' (by rw [← hn]; exact hP) (fun i j h1 h2 h3 => by
    cases h : tltB r d'[j]! d'[i]!
    · rfl
    · exact absurd (tlt_trans (hT i j h1 h2 (by omega)) (tltB_iff.1 h)) tlt_irr)
  rw [h, e]
  rfl
/-- Shares: k of the places have one more. -/
def shrK (z : Nat → Int) (S : Int) (n k i : Nat) : Int := flo z S i + if (i : Int) ∈ (ordL (rsV z S) n).take k then 1 else 0
def shrV (z : Nat → Int) (n : Nat) (i : Nat) : Int := shrK z (sumF z n) n (missV z (sumF z n) n).toNat i
theorem shrK_zero (z : Nat → Int) (S : Int) (n i : Nat) : shrK z S n 0 i = flo z S i := by unfold shrK; rw [List.take_zero, if_neg (by simp)]; omega
theorem shrK_hit {z : Nat → Int} {S : Int} {n k o : Nat} (h : (ordL (rsV z S) n)[k]? = some (o : Int)) : shrK z S n (k + 1) o = shrK z S n k o + 1 ∧ ∀ i, i ≠ o → shrK z S n (k + 1) i = shrK z S n k i := by
  unfold shrK
  have e : (ordL (rsV z S) n).take (k + 1) = (ordL (rsV z S) n).take k ++ [(o : Int)] := by rw [List.take_add_one, h]; rfl
  have hnot : (o : Int) ∉ (ordL (rsV z S) n).take k := fun hm => by
    obtain ⟨i, hi⟩ := List.getElem?_of_mem hm
    have hik : i < k := by have := (List.getElem?_eq_some_iff.1 hi).1; rw [List.length_take] at this; omega
    rw [List.getElem?_take_of_lt hik] at hi
    exact tlt_irr (ordL_lt hi h hik)
  refine ⟨?_, fun i hi => ?_⟩
  · rw [e, if_pos (by simp), if_neg hnot]; omega
  · rw [e]
    congr 1
    by_cases c : (i : Int) ∈ (ordL (rsV z S) n).take k
    · rw [if_pos (List.mem_append_left _ c), if_pos c]
    · rw [if_neg (fun hm => by
        rcases List.mem_append.1 hm with h1 | h1
        · exact c h1
        · rw [List.mem_singleton] at h1; omega), if_neg c]
end Go.Proofs.Ytdbbpmadkhedlaa
/- The order of shares: the closure that compares, the sort's world. -/
namespace Go.Proofs.Ytdbbpmadkhedlaa
open Go.RowKit Go.Shelf Go.Lib Go.Sort
set_option linter.unusedVariables false
set_option linter.unusedSimpArgs false

theorem cmpK_cfR (r : Int → Int) (x y : Int) : cmpK (r y) (r x) = cfR r x y := rfl
set_option maxHeartbeats 2000000 in
set_option maxRecDepth 100000 in
theorem cmpc_any (r : Int → Int) (gb gr n c x y : Nat) (W : World) (hx : x < n) (hy : y < n) (hb : W.cell? ⟨gb, 0, none⟩ = some (.slice (some ⟨gr, 0, none⟩) n c)) (hr : ∀ k : Nat, k < n → W.cell? ⟨gr, k, none⟩ = some (.int .i64 (r k))) :
    Calls Try.prog 55 #[.int .i64 (x : Int), .int .i64 (y : Int), .pointer (some ⟨gb, 0, none⟩)] W fun e w' => e = .returned (.int .i64 (cfR r x y)) ∧ ∃ q, w' = W.drewN q := by
  have c1 := hr x hx
  have c2 := hr y hy
  have HC : Hid (∀ W' : World, Calls Try.prog 56 #[.int .i64 (r y), .int .i64 (r x)] W' fun e w' => e = .returned (.int .i64 (cfR r x y)) ∧ w' = W') := fun W' => cmp_any (r y) (r x) W'
  generalize cfR r x y = cv at HC ⊢
  generalize r x = p at c1 HC
  generalize r y = q at c2 HC
  have hx' : (x : Int) < (n : Int) := by omega
  have hy' : (y : Int) < (n : Int) := by omega
  clear hr
  go_enter Try.func55, Try.ntmps55
  go_wp2_with fail
  go_quiet (first | (go_at_call 56; exact (HC.out _).mono (fun e w' ⟨h1, h2⟩ => ⟨h1, _, h2⟩)) | (refine (HC.out _).mono ?_; rintro e w' ⟨rfl, rfl⟩; exact ⟨rfl, _, rfl⟩))
  go_wp2_with fail
  go_ret
  exact ⟨rfl, _, rfl⟩
theorem sv_other {w0 W : World} {blk off : Nat} {dk : Array Int} (h : SV w0 blk off dk W) : W.heap.size = w0.heap.size ∧ (∀ a, W.frozen? a = w0.frozen? a) ∧ (∀ b, b ≠ blk → W.heap[b]? = w0.heap[b]?) ∧ W.os = w0.os ∧ W.tape = w0.tape ∧ W.output = w0.output := by
  obtain ⟨⟨n, rfl⟩, _⟩ := h
  unfold sortWorld
  rw [grow_empty]
  refine ⟨by simp [putRow, mapBlock, Sort.ahead], fun a => by rw [frozen?_putRow]; rfl, fun b hb => ?_, rfl, rfl, rfl⟩
  unfold putRow mapBlock
  simp only [Array.getElem?_modify, Sort.ahead]
  rw [if_neg (fun e => hb e.symm)]
theorem sv_q {w w0 W : World} {blk off : Nat} {dk : Array Int} (h : SV w0 blk off dk W) (q : Q w w0) (hb : w.heap.size ≤ blk) : Q w W := by
  obtain ⟨h1, h2, h3, h4, h5, h6⟩ := sv_other h
  exact ⟨⟨h4.trans q.1.os, h5.trans q.1.tape, h6.trans q.1.output, by rw [h1]; exact q.1.size, fun b hlt => (h3 b (by omega)).trans (q.1.block b hlt)⟩, fun a => (h2 a).trans (q.2 a)⟩
theorem sv_cell {w0 W : World} {blk off : Nat} {dk : Array Int} (h : SV w0 blk off dk W) {p : Addr} (hp : p.block ≠ blk) : W.cell? p = w0.cell? p := World.cell?_of_block ((sv_other h).2.2.1 p.block hp)
theorem sv_row {w0 W : World} {blk off g : Nat} {dk : Array Int} {zs : List Int} (h : SV w0 blk off dk W) (hg : g ≠ blk) (hr : IRow w0 g zs) : IRow W g zs :=
  ⟨fun i z hi => (sv_cell h hg).trans (hr.cell i z hi), fun j => ((sv_other h).2.1 _).trans (hr.free j)⟩
theorem row_holds {w : World} {g : Nat} {zs : List Int} (h : IRow w g zs) : Holds iEnc w g 0 zs.toArray := fun j hj => by
  have hj' : j < zs.length := by simpa using hj
  rw [Nat.zero_add]
  refine ⟨?_, h.free j⟩
  rw [h.cell j zs[j] (List.getElem?_eq_getElem hj'), getElem!_pos zs.toArray j hj]
  simp
theorem sv_own {w0 W : World} {blk : Nat} {dk d0 : Array Int} (h : SV w0 blk 0 dk W) (R : Row1 iEnc w0 blk 0 d0) (hs : dk.size = d0.size) (hf : ∀ j, w0.frozen? ⟨blk, j, none⟩ = false) : IRow W blk dk.toList := by
  refine ⟨fun i z hi => ?_, fun j => ((sv_other h).2.1 _).trans (hf j)⟩
  obtain ⟨h1, e⟩ := List.getElem?_eq_some_iff.1 hi
  have h1' : i < dk.size := by simpa using h1
  have := h.c1 R hs i h1'
  rw [Nat.zero_add, getElem!_pos dk i h1'] at this
  rw [this, ← e]
  simp
/-- The closure, in every world of the sort's. -/
theorem cmpr_of (r : Int → Int) (gb gr go n c : Nat) (w0 : World) (hgo : go < w0.heap.size) (h1 : gb ≠ go) (h2 : gr ≠ go) (hb : w0.cell? ⟨gb, 0, none⟩ = some (.slice (some ⟨gr, 0, none⟩) n c)) (hr : ∀ k : Nat, k < n → w0.cell? ⟨gr, k, none⟩ = some (.int .i64 (r k))) :
    CmpR r 55 #[.pointer (some ⟨gb, 0, none⟩)] go 0 n w0 := by
  intro m os dk hs x y x0 x1 y0 y1
  have key : ∀ p : Addr, p.block ≠ go → ∀ v, w0.cell? p = some v → (sortWorld iEnc w0 go 0 m dk os).cell? p = some v := fun p hp v hv => by
    have hlt := World.block_lt_of_cell? _ _ hv
    unfold sortWorld
    have hsz : (putRow iEnc (Sort.ahead w0 m) go 0 dk).heap.size = w0.heap.size := by simp [putRow, mapBlock, Sort.ahead]
    rw [cell?_grow _ _ _ (by rw [hsz]; exact hlt)]
    rw [← hv]
    refine World.cell?_of_block ?_
    unfold putRow mapBlock
    simp only [Array.getElem?_modify, Sort.ahead]
    rw [if_neg (fun e => hp e.symm)]
  have := cmpc_any r gb gr n c x.toNat y.toNat (sortWorld iEnc w0 go 0 m dk os) (by omega) (by omega) (key _ h1 _ hb) (fun k hk => key _ h2 _ (hr k hk))
  rw [show ((x.toNat : Nat) : Int) = x by omega, show ((y.toNat : Nat) : Int) = y by omega] at this
  exact this
/-- Lists told place by place. -/
def tabI (n : Nat) (f : Nat → Int) : List Int := (List.range n).map f
theorem tabI_len (n : Nat) (f : Nat → Int) : (tabI n f).length = n := by simp [tabI]
theorem tabI_at {n : Nat} {f : Nat → Int} {i : Nat} (h : i < n) : (tabI n f)[i]? = some (f i) := by unfold tabI; rw [List.getElem?_map, List.getElem?_range h]; rfl
theorem tabI_set {n : Nat} {f g : Nat → Int} {k : Nat} {v : Int} (hv : v = g k) (hs : ∀ i, i ≠ k → g i = f i) : (tabI n f).set k v = tabI n g := by
  apply List.ext_getElem?
  intro i
  by_cases hi : i < n
  · rw [tabI_at hi]
    by_cases e : k = i
    · subst e; rw [List.getElem?_set_self (by rw [tabI_len]; exact hi), hv]
    · rw [List.getElem?_set_ne e, tabI_at hi, hs i (fun h => e h.symm)]
  · rw [List.getElem?_eq_none (by rw [List.length_set, tabI_len]; omega), List.getElem?_eq_none (by rw [tabI_len]; omega)]
theorem tabI_zero (n : Nat) : List.replicate n (0 : Int) = tabI n (fun _ => 0) := by
  apply List.ext_getElem?
  intro i
  by_cases hi : i < n
  · rw [tabI_at hi, List.getElem?_replicate, if_pos hi]
  · rw [List.getElem?_eq_none (by simp; omega), List.getElem?_eq_none (by rw [tabI_len]; omega)]
theorem tabI_congr {n : Nat} {f g : Nat → Int} (h : ∀ i, i < n → f i = g i) : tabI n f = tabI n g := List.map_congr_left (fun i hi => h i (List.mem_range.1 hi))
theorem tabI_sum (n : Nat) (f : Nat → Int) : ∀ k, k ≤ n → sumI (tabI n f) k = sumF f k
  | 0, _ => rfl
  | k + 1, h => by
    unfold sumI sumF
    rw [tabI_sum n f k (by omega), List.getD_eq_getElem?_getD, tabI_at (by omega)]
    rfl
end Go.Proofs.Ytdbbpmadkhedlaa

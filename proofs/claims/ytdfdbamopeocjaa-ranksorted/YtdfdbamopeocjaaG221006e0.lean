/- Arguments as the statements' walks take them: planes that came in. -/
import Derived.Test.YtdfdbamopeocjaaG7b1a4013
import Derived.Test.YtdfdbamopeocjaaGe175f1db
import Derived.Deep.Strs
import Derived.Test.YtdfdbamopeocjaaGdb53cbf3
namespace Go.Proofs.Ytdfdbamopeocjaa
open Go.ChangeShapes Go.WideShapes Go.ChangeAt Go.RowKit Go.Deep
set_option linter.unusedVariables false
set_option linter.constructorNameAsVariable false

theorem getD_map_toNat (l : List Int) (i : Nat) : (l.map Int.toNat).getD i 0 = (l.getD i 0).toNat := by
  rw [List.getD_eq_getElem?_getD, List.getD_eq_getElem?_getD, List.getElem?_map]
  cases l[i]? <;> rfl
/-- Samples that came in. -/
theorem read_us {H : Type} {enc : TypeId × Value → H} {W : World} {base : Nat} {sp : Nat → Bool} {held : Bool} {v : Value} {fuel : Nat} {x : DataW H × List MemPlace}
    (hf : DataW.trod enc Try.prog W base sp held fuel 23 [v] = some x) :
    ∃ xs : List Nat, USl W v xs ∧ xs.length ≤ maxLen ∧ ∀ i, xs.getD i 0 < 4294967296 := by
  rcases open_ints Try.underlying23 Try.underlying41 (by kernel_rfl) hf with ⟨hcs, _⟩ | ⟨x, len, cap, zs, hcs, _, hl, hm, hz, _, hcell, hwz⟩
  · simp at hcs
    subst hcs
    exact ⟨[], Or.inr ⟨_, _, rfl, rfl⟩, Nat.zero_le _, fun i => by show 0 < _; decide⟩
  · simp at hcs
    subst hcs
    have hzl : len ≤ zs.length := by rw [hz]; split <;> omega
    have bd : ∀ i, (zs.getD i 0) ≥ 0 ∧ zs.getD i 0 < 4294967296 := by
      intro i
      rw [List.getD_eq_getElem?_getD]
      cases h : zs[i]? with
      | none => exact ⟨by decide, by decide⟩
      | some z => have := u32_bd (hwz z (List.mem_of_getElem? h)); exact ⟨this.1, Int.lt_of_le_of_lt this.2 (by decide)⟩
    have hlen : ((zs.take len).map Int.toNat).length = len := by simp; omega
    refine ⟨(zs.take len).map Int.toNat, ?_, by rw [hlen]; omega, fun i => ?_⟩
    · by_cases h0 : len = 0
      · subst h0; exact Or.inr ⟨_, _, rfl, by simp⟩
      · obtain ⟨b, off, spot⟩ := x
        have hc := hcell 0 (by omega)
        have hspot : spot = none := by simpa [Addr.add] using World.cell?_spot hc
        subst hspot
        refine Or.inl ⟨b, off, cap, by rw [hlen], by rw [hlen]; exact hl, fun i hi => ?_⟩
        rw [hlen] at hi
        have hc := hcell i (by omega)
        have hadd : (⟨b, off, none⟩ : Addr).add i = ⟨b, off + i, none⟩ := by unfold Addr.add; split <;> simp_all
        rw [hadd] at hc
        rw [hc, getD_map_toNat]
        have e : (zs.take len).getD i 0 = zs.getD i 0 := by
          rw [List.getD_eq_getElem?_getD, List.getD_eq_getElem?_getD, List.getElem?_take, if_pos hi]
        rw [e]
        have := bd i
        congr 2
        omega
    · rw [getD_map_toNat]
      by_cases hi : i < len
      · have e : (zs.take len).getD i 0 = zs.getD i 0 := by
          rw [List.getD_eq_getElem?_getD, List.getD_eq_getElem?_getD, List.getElem?_take, if_pos hi]
        rw [e]; have := bd i; omega
      · have e : (zs.take len).getD i 0 = 0 := by
          rw [List.getD_eq_getElem?_getD, List.getElem?_take, if_neg hi]; rfl
        rw [e]; decide
set_option maxRecDepth 100000 in
/-- A plane that came in. -/
theorem read_pl {H : Type} {enc : TypeId × Value → H} {W : World} {base b0 : Nat} {r : Reach} {sp : Nat → Bool} {held : Bool} {v : Value} {d : DataW H} {p : List MemPlace}
    (hv : Value.okWide Try.prog W r b0 25 v) (h : DataW.Trod enc Try.prog W base sp held 25 v d p) :
    ∃ (w0 h0 : Int) (sv : Value) (S : List Nat), v = .agg #[.int .i64 w0, .int .i64 h0, sv] ∧ (-9223372036854775808 ≤ w0 ∧ w0 ≤ 9223372036854775807) ∧ (-9223372036854775808 ≤ h0 ∧ h0 ≤ 9223372036854775807) ∧ USl W sv S ∧ S.length ≤ maxLen ∧ ∀ i, S.getD i 0 < 4294967296 := by
  obtain ⟨cs, rfl, hsz⟩ := okWide_struct Try.underlying25 hv
  obtain ⟨fuel, hf⟩ := h
  have hc3 : Try.prog.cellsOf 25 = 3 := by kernel_rfl
  obtain ⟨y0, y1, y2, n, _, hl, t0, t1, t2⟩ := trod_struct3 Try.underlying25 hf
  rw [hc3] at hsz
  obtain ⟨l⟩ := cs
  match l, hsz with
  | [c0, c1, c2], _ =>
    obtain ⟨n0, e0, _, w0⟩ := DataW.trod_int Try.underlying3 t0
    obtain ⟨n1, e1, _, w1⟩ := DataW.trod_int Try.underlying3 t1
    have k1 : Try.prog.cellsOf 3 = 1 := by kernel_rfl
    have k2 : Try.prog.cellsOf 23 = 1 := by kernel_rfl
    rw [k1] at e0 e1
    rw [k2] at t2
    simp [Value.cells] at e0 e1 t2
    obtain ⟨S, h1, h2, h3⟩ := read_us t2
    exact ⟨n0, n1, c2, S, by rw [e0, e1], i64_bd w0, i64_bd w1, h1, h2, h3⟩
end Go.Proofs.Ytdfdbamopeocjaa
/- rank: what is refused; rectangles. -/
namespace Go.Proofs.Ytdfdbamopeocjaa
open Go.RowKit
set_option linter.unusedVariables false
set_option linter.unusedSimpArgs false

/-- A side of a window. -/
def rsdB (n : Int) : Bool := decide (1 ≤ n) && decide (n ≤ 15)
theorem rsdB_true {n : Int} : rsdB n = true ↔ 1 ≤ n ∧ n ≤ 15 := by unfold rsdB; simp
theorem rside_any (n : Int) (w : World) : Calls Try.prog 42 #[.int .i64 n] w fun e w' => e = .returned (.bool (rsdB n)) ∧ w' = w := by
  by_cases h1 : 1 ≤ n
  · by_cases h2 : n ≤ 15
    · have e : rsdB n = true := rsdB_true.2 ⟨h1, h2⟩
      rw [e]
      clear e
      go_enter Try.func42, Try.ntmps42
      go_wp2_with fail
      go_ret
      exact ⟨rfl, rfl⟩
    · have e : rsdB n = false := by unfold rsdB; simp [h2]
      rw [e]
      clear e
      go_enter Try.func42, Try.ntmps42
      go_wp2_with fail
      go_ret
      exact ⟨rfl, rfl⟩
  · have e : rsdB n = false := by unfold rsdB; simp [h1]
    rw [e]
    clear e
    go_enter Try.func42, Try.ntmps42
    go_wp2_with fail
    go_ret
    exact ⟨rfl, rfl⟩
/-- How many places a window has. -/
def cntV (w h : Int) : Int := if rsdB w = true then (if rsdB h = true then w * h else 0) else 0
theorem win_area {a b : Int} (ha : 1 ≤ a ∧ a ≤ 15) (hb : 1 ≤ b ∧ b ≤ 15) : 1 ≤ a * b ∧ a * b ≤ 225 := by
  have h1 : 1 * 1 ≤ a * b := Int.mul_le_mul ha.1 hb.1 (by omega) (by omega)
  have h2 : a * b ≤ 15 * 15 := Int.mul_le_mul ha.2 hb.2 (by omega) (by omega)
  omega
theorem cntV_bd (w h : Int) : 0 ≤ cntV w h ∧ cntV w h ≤ 225 := by
  unfold cntV
  split
  · rename_i h1
    split
    · rename_i h2
      have := win_area (rsdB_true.1 h1) (rsdB_true.1 h2)
      omega
    · omega
  · omega
theorem cntV_pos {w h : Int} (g : cntV w h ≠ 0) : ∃ a b : Nat, w = (a : Int) ∧ h = (b : Int) ∧ 1 ≤ a ∧ a ≤ 15 ∧ 1 ≤ b ∧ b ≤ 15 ∧ cntV w h = ((a * b : Nat) : Int) := by
  unfold cntV at g ⊢
  split at g
  · rename_i h1
    split at g
    · rename_i h2
      have h3 := rsdB_true.1 h1
      have h4 := rsdB_true.1 h2
      rw [if_pos h1, if_pos h2]
      exact ⟨w.toNat, h.toNat, by omega, by omega, by omega, by omega, by omega, by omega, by rw [Int.natCast_mul]; congr 1 <;> omega⟩
    · exact absurd rfl g
  · exact absurd rfl g
theorem cntV_of {a b : Nat} (h1 : 1 ≤ a) (h2 : a ≤ 15) (h3 : 1 ≤ b) (h4 : b ≤ 15) : cntV a b = ((a * b : Nat) : Int) := by
  unfold cntV
  rw [if_pos (rsdB_true.2 ⟨by omega, by omega⟩), if_pos (rsdB_true.2 ⟨by omega, by omega⟩), Int.natCast_mul]
theorem count_any (W H : Int) (w : World) : Calls Try.prog 30 #[.int .i64 W, .int .i64 H] w fun e w' => e = .returned (.int .i64 (cntV W H)) ∧ w' = w := by
  unfold cntV
  cases hW : rsdB W
  · have A : Calls Try.prog 42 #[.int .i64 W] w fun e w' => e = .returned (.bool false) ∧ w' = w := hW ▸ rside_any W w
    go_enter Try.func30, Try.ntmps30
    go_wp2_with fail
    refine A.mono ?_
    rintro e w1 ⟨rfl, rfl⟩
    go_wp2_with fail
    go_ret
    exact ⟨rfl, rfl⟩
  · have A : Calls Try.prog 42 #[.int .i64 W] w fun e w' => e = .returned (.bool true) ∧ w' = w := hW ▸ rside_any W w
    cases hH : rsdB H
    · have B : Calls Try.prog 42 #[.int .i64 H] w fun e w' => e = .returned (.bool false) ∧ w' = w := hH ▸ rside_any H w
      go_enter Try.func30, Try.ntmps30
      go_wp2_with fail
      refine A.mono ?_
      rintro e w1 ⟨rfl, rfl⟩
      go_wp2_with fail
      refine B.mono ?_
      rintro e w1 ⟨rfl, rfl⟩
      go_wp2_with fail
      go_ret
      exact ⟨rfl, rfl⟩
    · have B : Calls Try.prog 42 #[.int .i64 H] w fun e w' => e = .returned (.bool true) ∧ w' = w := hH ▸ rside_any H w
      have h3 := win_area (rsdB_true.1 hW) (rsdB_true.1 hH)
      clear hW hH
      rw [if_pos rfl, if_pos rfl]
      generalize hA : W * H = A0 at h3
      go_enter Try.func30, Try.ntmps30
      go_wp2_with fail
      refine A.mono ?_
      rintro e w1 ⟨rfl, rfl⟩
      go_wp2_with fail
      refine B.mono ?_
      rintro e w1 ⟨rfl, rfl⟩
      go_wp2_with fail
      go_ret
      exact ⟨rfl, rfl⟩

/-- P12.2's errors. -/
def rkE (pw ph : Int) (n : Nat) (bd W H k : Int) : Int := if chk pw ph n = 0 then (if cntV W H = 0 then 120 else if k < 0 then 121 else if cntV W H ≤ k then 121 else borE bd pw) else chk pw ph n
set_option maxHeartbeats 2000000 in
theorem refusal12_any (pw ph : Int) (ad : Option Addr) (n c : Nat) (bd W H k : Int) (hn : n ≤ 9223372036854775807) (w : World) :
    Calls Try.prog 32 #[.agg #[.int .i64 pw, .int .i64 ph, .slice ad n c], .int .i64 bd, .int .i64 W, .int .i64 H, .int .i64 k] w fun e w' => e = .returned (.int .i64 (rkE pw ph n bd W H k)) ∧ Q w w' := by
  obtain ⟨w1, hw1⟩ : ∃ w1, w.alloc (.cells #[.int .i64 pw, .int .i64 ph, .slice ad n c] 25) = w1 := ⟨_, rfl⟩
  have HQ : Hid (Q w w1) := by show Q w w1; rw [← hw1]; exact (Q.refl w).cells _ _
  have k0 : w1.cell? ⟨w.heap.size, 0, none⟩ = some (.int .i64 pw) := by rw [← hw1]; simp [go_sem]
  have k1 : w1.cell? ⟨w.heap.size, 1, none⟩ = some (.int .i64 ph) := by rw [← hw1]; simp [go_sem]
  have k2 : w1.cell? ⟨w.heap.size, 2, none⟩ = some (.slice ad n c) := by rw [← hw1]; simp [go_sem]
  have A := check_any pw ph ad n c hn w1
  have B := fun x => count_any W H x
  have D := fun x => border_any bd pw 0 x
  unfold rkE
  obtain ⟨E, hE⟩ : ∃ E, chk pw ph n = E := ⟨_, rfl⟩
  obtain ⟨M, hM⟩ : ∃ M, cntV W H = M := ⟨_, rfl⟩
  obtain ⟨b1, hb1⟩ : ∃ b1, borA bd pw 0 = b1 := ⟨_, rfl⟩
  obtain ⟨b2, hb2⟩ : ∃ b2, borE bd pw = b2 := ⟨_, rfl⟩
  rw [hE] at A
  rw [hM] at B
  rw [hb1, hb2] at D
  rw [hE, hM, hb2]
  clear hE hM hb1 hb2
  have HA : Hid _ := A
  have HB : Hid _ := B
  have HD : Hid _ := D
  clear A B D
  by_cases g0 : E = 0
  · subst g0
    rw [if_pos rfl]
    by_cases g1 : M = 0
    · subst g1
      rw [if_pos rfl]
      go_enter Try.func32, Try.ntmps32
      go_wp2_with fail
      refine Calls.mono HA.out ?_
      rintro e w2 ⟨rfl, q2⟩
      have k0 := q2.cell k0
      have HQ2 : Hid (Q w w2) := HQ.out.trans q2
      clear q2
      go_wp2_with fail
      refine Calls.mono (HB.out _) ?_
      rintro e w3 ⟨rfl, hw2⟩
      obtain rfl := hw2.symm
      go_wp2_with fail
      go_ret
      exact ⟨rfl, HQ2.out⟩
    · rw [if_neg g1]
      have g1b : (M == 0) = false := by simp [g1]
      by_cases g2 : k < 0
      · rw [if_pos g2]
        go_enter Try.func32, Try.ntmps32
        go_wp2_with fail
        refine Calls.mono HA.out ?_
        rintro e w2 ⟨rfl, q2⟩
        have k0 := q2.cell k0
        have HQ2 : Hid (Q w w2) := HQ.out.trans q2
        clear q2
        go_wp2_with fail
        refine Calls.mono (HB.out _) ?_
        rintro e w3 ⟨rfl, hw2⟩
        obtain rfl := hw2.symm
        go_wp2_with fail
        go_ret
        exact ⟨rfl, HQ2.out⟩
      · rw [if_neg g2]
        by_cases g3 : M ≤ k
        · rw [if_pos g3]
          go_enter Try.func32, Try.ntmps32
          go_wp2_with fail
          refine Calls.mono HA.out ?_
          rintro e w2 ⟨rfl, q2⟩
          have k0 := q2.cell k0
          have HQ2 : Hid (Q w w2) := HQ.out.trans q2
          clear q2
          go_wp2_with fail
          refine Calls.mono (HB.out _) ?_
          rintro e w3 ⟨rfl, hw2⟩
          obtain rfl := hw2.symm
          go_wp2_with fail
          go_ret
          exact ⟨rfl, HQ2.out⟩
        · rw [if_neg g3]
          have g4 : k < M := by omega
          go_enter Try.func32, Try.ntmps32
          go_wp2_with fail
          refine Calls.mono HA.out ?_
          rintro e w2 ⟨rfl, q2⟩
          have k0 := q2.cell k0
          have HQ2 : Hid (Q w w2) := HQ.out.trans q2
          clear q2
          go_wp2_with fail
          refine Calls.mono (HB.out _) ?_
          rintro e w3 ⟨rfl, hw2⟩
          obtain rfl := hw2.symm
          go_wp2_with fail
          refine Calls.mono (HD.out _) ?_
          rintro e w3 ⟨rfl, hw2⟩
          obtain rfl := hw2.symm
          go_wp2_with fail
          go_ret
          exact ⟨rfl, HQ2.out⟩
  · rw [if_neg g0]
    have g0b : (E == 0) = false := by simp [g0]
    go_enter Try.func32, Try.ntmps32
    go_wp2_with fail
    refine Calls.mono HA.out ?_
    rintro e w2 ⟨rfl, q2⟩
    have k0 := q2.cell k0
    have HQ2 : Hid (Q w w2) := HQ.out.trans q2
    clear q2
    go_wp2_with fail
    go_ret
    exact ⟨rfl, HQ2.out⟩

/-- A piece of a side. -/
def spnB (lo hi n : Int) : Bool := decide (0 ≤ lo) && decide (lo < hi) && decide (hi ≤ n)
theorem isspan_any (lo hi n : Int) (w : World) : Calls Try.prog 45 #[.int .i64 lo, .int .i64 hi, .int .i64 n] w fun e w' => e = .returned (.bool (spnB lo hi n)) ∧ w' = w := by
  unfold spnB
  by_cases h1 : 0 ≤ lo
  · by_cases h2 : lo < hi
    · by_cases h3 : hi ≤ n
      · simp only [h1, h2, h3, decide_true, Bool.and_true, Bool.true_and]
        go_enter Try.func45, Try.ntmps45
        go_wp2_with fail
        go_ret
        exact ⟨rfl, rfl⟩
      · simp only [h1, h2, h3, decide_true, decide_false, Bool.and_true, Bool.true_and, Bool.and_false]
        go_enter Try.func45, Try.ntmps45
        go_wp2_with fail
        go_ret
        exact ⟨rfl, rfl⟩
    · simp only [h1, h2, decide_true, decide_false, Bool.and_true, Bool.true_and, Bool.and_false, Bool.false_and]
      go_enter Try.func45, Try.ntmps45
      go_wp2_with fail
      go_ret
      exact ⟨rfl, rfl⟩
  · simp only [h1, decide_false, Bool.false_and]
    go_enter Try.func45, Try.ntmps45
    go_wp2_with fail
    go_ret
    exact ⟨rfl, rfl⟩
theorem iswithin_any (x0 y0 x1 y1 W H : Int) (w : World) : Calls Try.prog 33 #[.agg #[.int .i64 x0, .int .i64 y0, .int .i64 x1, .int .i64 y1], .int .i64 W, .int .i64 H] w fun e w' => e = .returned (.bool (spnB x0 x1 W && spnB y0 y1 H)) ∧ Q w w' := by
  have HQ : Hid (∀ a b, Q w (w.alloc (.cells a b))) := fun a b => (Q.refl w).cells _ _
  have A := fun x => isspan_any x0 x1 W x
  have B := fun x => isspan_any y0 y1 H x
  generalize spnB x0 x1 W = s at A
  generalize spnB y0 y1 H = t at B
  have HA : Hid _ := A
  have HB : Hid _ := B
  clear A B
  cases s
  · go_enter Try.func33, Try.ntmps33
    go_wp2_with fail
    refine Calls.mono (HA.out _) ?_
    rintro e w2 ⟨rfl, hw2⟩
    obtain rfl := hw2.symm
    go_wp2_with fail
    go_ret
    exact ⟨rfl, HQ.out _ _⟩
  · go_enter Try.func33, Try.ntmps33
    go_wp2_with fail
    refine Calls.mono (HA.out _) ?_
    rintro e w2 ⟨rfl, hw2⟩
    obtain rfl := hw2.symm
    go_wp2_with fail
    refine Calls.mono (HB.out _) ?_
    rintro e w2 ⟨rfl, hw2⟩
    obtain rfl := hw2.symm
    go_wp2_with fail
    go_ret
    exact ⟨by simp, HQ.out _ _⟩
end Go.Proofs.Ytdfdbamopeocjaa
/- Rows of values in memory, told by a function of the place. -/
namespace Go.Proofs.Ytdfdbamopeocjaa
open Go.RowKit
set_option linter.unusedVariables false
set_option linter.unusedSimpArgs false

/-- A row of values that may be written. -/
structure VR (x : World) (g n : Nat) (F : Nat → Value) : Prop where
  cell : ∀ i, i < n → x.cell? ⟨g, i, none⟩ = some (F i)
  free : ∀ j, x.frozen? ⟨g, j, none⟩ = false
theorem VR.next {x x' : World} {g n : Nat} {F : Nat → Value} (h : VR x g n F) (q : Q x x') : VR x' g n F := ⟨fun i hi => q.cell (h.cell i hi), fun j => by rw [q.2]; exact h.free j⟩
theorem VR.other {x : World} {g n : Nat} {F : Nat → Value} (h : VR x g n F) {p : Addr} (hp : p.block ≠ g) (v : Value) : VR (x.setCell p v) g n F :=
  ⟨fun i hi => (World.cell?_setCell_other _ _ _ _ (fun e => hp (by rw [e]))).trans (h.cell i hi), fun j => by rw [World.frozen?_setCell]; exact h.free j⟩
theorem VR.put {x : World} {g n : Nat} {F G : Nat → Value} (h : VR x g n F) {i : Nat} (hi : i < n) {v : Value} (hv : G i = v) (ho : ∀ j, j < n → j ≠ i → G j = F j) : VR (x.setCell ⟨g, i, none⟩ v) g n G := by
  refine ⟨fun j hj => ?_, fun j => by rw [World.frozen?_setCell]; exact h.free j⟩
  by_cases e : j = i
  · subst e; rw [hv]; exact World.cell?_setCell_same _ _ _ (h.cell j hi)
  · rw [ho j hj e]
    exact (World.cell?_setCell_other _ _ _ _ (fun k => e (by injection k with _ k; exact k.symm))).trans (h.cell j hj)
theorem VR.congr {x : World} {g n : Nat} {F G : Nat → Value} (h : VR x g n F) (hG : ∀ j, j < n → G j = F j) : VR x g n G := ⟨fun i hi => by rw [hG i hi]; exact h.cell i hi, h.free⟩
theorem VR.lt {x : World} {g n : Nat} {F : Nat → Value} (h : VR x g n F) (hn : 1 ≤ n) : g < x.heap.size := World.block_lt_of_cell? _ _ (h.cell 0 hn)
/-- What lies there by now. -/
def sofar (L : Nat → Value) (z : Value) (k : Nat) (j : Nat) : Value := if j < k then L j else z
theorem sofar_zero (L : Nat → Value) (z : Value) : sofar L z 0 = fun _ => z := by funext j; unfold sofar; rw [if_neg (by omega)]
theorem sofar_step {L : Nat → Value} {z : Value} {k n : Nat} : (∀ j, j < n → j ≠ k → sofar L z (k + 1) j = sofar L z k j) ∧ sofar L z (k + 1) k = L k := by
  refine ⟨fun j hj he => ?_, by unfold sofar; rw [if_pos (by omega)]⟩
  unfold sofar
  by_cases h : j < k
  · rw [if_pos h, if_pos (by omega)]
  · rw [if_neg h, if_neg (by omega)]
theorem sofar_all {L : Nat → Value} {z : Value} {n j : Nat} (h : j < n) : sofar L z n j = L j := by unfold sofar; rw [if_pos h]
theorem VR.fill {x : World} {g n k : Nat} {L : Nat → Value} {z v : Value} (h : VR x g n (sofar L z k)) (hk : k < n) (hv : v = L k) : VR (x.setCell ⟨g, k, none⟩ v) g n (sofar L z (k + 1)) :=
  h.put hk (by rw [hv]; exact (sofar_step (n := n)).2) (sofar_step (n := n)).1
theorem VR.full {x : World} {g n : Nat} {L : Nat → Value} {z : Value} (h : VR x g n (sofar L z n)) : VR x g n L := h.congr fun j hj => (sofar_all hj).symm
theorem made_vr {z : Value} (hz : z.cells = #[z]) (e : TypeId) (n : Nat) (w : World) : VR (w.alloc (.cells (madeCells z.cells (n * 1)) e)) w.heap.size n (fun _ => z) := by
  have hb : (w.alloc (.cells (madeCells z.cells (n * 1)) e)).heap[w.heap.size]? = some (.cells (madeCells z.cells (n * 1)) e (0, 0)) := heap_alloc_new w _
  refine ⟨fun j hj => ?_, fun j => frozen_of_row _ _ _ _ _ hb⟩
  rw [cell_of_row _ _ j _ e (0, 0) hb]
  unfold madeCells
  rw [hz]
  simp [hj, Nat.mod_one]
theorem intInfoV : ∃ i, Try.prog.info? 3 = some i ∧ i.size = 1 ∧ i.bytes = 8 ∧ i.zero = some (.int .i64 0) := info_of (by kernel_rfl) (by kernel_rfl)
theorem u32InfoV : ∃ i, Try.prog.info? 41 = some i ∧ i.size = 1 ∧ i.bytes = 4 ∧ i.zero = some (.int .u32 0) := info_of (by kernel_rfl) (by kernel_rfl)
theorem make_vi (n : Nat) (hn : n ≤ 1048576) : ∃ M : Array Value, (∀ w : World, (Instr.makeSlice 74 (.int .i64 (n : Int)) (.int .i64 (n : Int))).run Try.prog w = .ok (.slice (some ⟨w.heap.size, 0, none⟩) n n) (w.alloc (.cells M 3))) ∧
    ∀ w : World, VR (w.alloc (.cells M 3)) w.heap.size n (fun _ => .int .i64 0) := by
  obtain ⟨i, i1, i2, i3, i4⟩ := intInfoV
  refine ⟨madeCells (Value.int .i64 0).cells (n * 1), fun w => ?_, fun w => made_vr rfl _ n w⟩
  have := run_make (P := Try.prog) w 74 3 i _ Try.underlying74 i1 i4 .i64 .i64 n n (by omega) (by omega) (by rw [i3]; omega) (by omega)
  rw [i2] at this
  simp only [Int.toNat_natCast] at this
  exact this
theorem make_vu (n : Nat) (hn : n ≤ 1048576) : ∃ M : Array Value, (∀ w : World, (Instr.makeSlice 23 (.int .i64 (n : Int)) (.int .i64 (n : Int))).run Try.prog w = .ok (.slice (some ⟨w.heap.size, 0, none⟩) n n) (w.alloc (.cells M 41))) ∧
    ∀ w : World, VR (w.alloc (.cells M 41)) w.heap.size n (fun _ => .int .u32 0) := by
  obtain ⟨i, i1, i2, i3, i4⟩ := u32InfoV
  refine ⟨madeCells (Value.int .u32 0).cells (n * 1), fun w => ?_, fun w => made_vr rfl _ n w⟩
  have := run_make (P := Try.prog) w 23 41 i _ Try.underlying23 i1 i4 .i64 .i64 n n (by omega) (by omega) (by rw [i3]; omega) (by omega)
  rw [i2] at this
  simp only [Int.toNat_natCast] at this
  exact this
end Go.Proofs.Ytdfdbamopeocjaa

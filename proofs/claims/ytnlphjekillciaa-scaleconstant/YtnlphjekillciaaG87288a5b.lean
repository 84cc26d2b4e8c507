/- Sums of products with weights: the program's. -/
import Derived.Test.YtnlphjekillciaaG1f63e357
import Derived.Test.YtnlphjekillciaaGfca76d29
namespace Go.Proofs.Ytnlphjekillciaa
open Go.RowKit
set_option linter.unusedVariables false
set_option linter.unusedSimpArgs false

theorem sum64_nan2 {d' : Ieee.Datum} (h : d'.isNaN = true) (d : Ieee.Datum) : told64 (d.sum d') = 9221120237041090560 := by
  obtain ⟨s, t, rfl⟩ := isNaN_cases h
  cases d <;> rfl
theorem can_sum_r (W X : Nat) : add64V W (canW X) = add64V W X := by
  unfold canW
  cases h : nan64 X
  · rfl
  · rw [if_pos rfl]
    unfold add64V
    rw [sum64_nan2 (read64_nan h), sum64_nan2 (read64_nan made64)]
/-- The products of weights and samples. -/
def prods (W : List Int) (S : List Nat) : List Nat := (List.range S.length).map fun i => prodV (W.getD i 0) (S.getD i 0)
theorem prods_length (W : List Int) (S : List Nat) : (prods W S).length = S.length := by unfold prods; simp
theorem prods_at (W : List Int) (S : List Nat) {i : Nat} (h : i < S.length) : (prods W S).getD i 0 = prodV (W.getD i 0) (S.getD i 0) := by
  unfold prods
  rw [List.getD_eq_getElem?_getD, List.getElem?_map, List.getElem?_range h]
  rfl
set_option maxHeartbeats 4000000 in
set_option maxRecDepth 100000 in
theorem dot_gen (vw vl : Value) (W : List Int) (S : List Nat) (w : World) (hw : ISl w vw W) (hl : USl w vl S) (hn : S.length ≤ 35184372087808) (he : W.length = S.length) (hb : ∀ i, S.getD i 0 < 4294967296)
    (hW : ∀ i, i < W.length → W.getD i 0 ≤ 268435456 ∧ -268435456 ≤ W.getD i 0) :
    Calls Try.prog 74 #[vw, vl] w fun e w' => ∃ X : Nat, e = .returned (.tuple #[.float .f64 X, .int .i64 0]) ∧ X < 18446744073709551616 ∧ canW X = dotF (prods W S) ∧ Q w w' := by
  obtain ⟨Ps, hPs⟩ : ∃ Ps, prods W S = Ps := ⟨_, rfl⟩
  have hP : Ps.length = S.length := by rw [← hPs]; exact prods_length W S
  have hp : ∀ i, i < S.length → Ps.getD i 0 = prodV (W.getD i 0) (S.getD i 0) := fun i hi => by rw [← hPs]; exact prods_at W S hi
  rw [hPs]
  clear hPs
  obtain ⟨aw, cw, rfl⟩ := hw.form
  obtain ⟨al, cl, rfl⟩ := hl.form
  have hn' : W.length ≤ 35184372087808 := by rw [he]; exact hn
  have ne0 : ((W.length : Int) != (S.length : Int)) = false := by rw [he]; simp
  have HS : Hid (USl w (.slice al S.length cl) S) := hl
  have HI : Hid (ISl w (.slice aw W.length cw) W) := hw
  have HB : Hid (∀ i, S.getD i 0 < 4294967296) := hb
  have HW : Hid _ := hW
  have HP : Hid _ := hp
  have HE : Hid (W.length = S.length) := he
  have HL : Hid (Ps.length = S.length) := hP
  clear hl hw hb hW hp he hP
  go_enter Try.func74, Try.ntmps74
  go_wp2_with fail
  go_loopg [19] (W.length) (fun gh s19 wr => ∃ i : Nat, s19 = .int .i64 (i : Int) ∧ i ≤ W.length ∧ gh = W.length - i ∧ wr = w)
  case atStart => exact ⟨0, rfl, by omega, rfl, rfl⟩
  case round =>
    obtain ⟨i, rfl, hi, rfl, rfl⟩ := hrel
    by_cases hlt : i < W.length
    · obtain ⟨g, o, cap', hsl, hI⟩ := HI.out.some (by omega)
      injection hsl with hs1 hs2 hs3
      subst hs1 hs3
      clear hs2
      have hc := hI i hlt
      obtain ⟨h1, h2⟩ := HW.out i hlt
      have h1' : ¬ 268435456 < W.getD i 0 := by omega
      have h2' : ¬ W.getD i 0 < -268435456 := by omega
      generalize W.getD i 0 = x at *
      clear hI h1 h2
      go_wp2_with fail
      go_roundg (W.length - (i + 1))
      case measure => go_light; omega
      case rel => go_light; exact ⟨i + 1, by simp, by omega, rfl, rfl⟩
    · obtain rfl : i = W.length := by omega
      have hge : ¬ (W.length : Int) < (W.length : Int) := by omega
      by_cases h0 : S.length = 0
      · have b0 : ((S.length : Int) == 0) = true := by rw [h0]; rfl
        have HF : Hid (dotF Ps = 0) := by
          show dotF Ps = 0
          rw [List.eq_nil_of_length_eq_zero (HL.out.trans h0)]; rfl
        clear h0
        go_wp2_with fail
        go_ret2
        exact ⟨0, rfl, by decide, by rw [HF.out]; decide +kernel, Q.refl _⟩
      · have b0 : ((S.length : Int) == 0) = false := by rw [beq_eq_false_iff_ne]; omega
        have HF : Hid (dotF Ps = Ps.foldl add64V 9223372036854775808) := by
          show dotF Ps = _
          unfold dotF
          rw [if_neg (fun e => h0 (by rw [← HL.out, e]; rfl))]
        clear h0
        go_wp2_with fail
        refine (copysign_any _).mono ?_
        rintro e w0 ⟨rfl, rfl⟩
        go_wp2_with fail
        go_loopg [8, 36] (S.length) (fun gh s8 s36 wr => ∃ i X : Nat, s8 = .float .f64 X ∧ Hid (canW X = (Ps.take i).foldl add64V 9223372036854775808) ∧ X < 18446744073709551616 ∧ s36 = .int .i64 (i : Int) ∧ i ≤ S.length ∧ gh = S.length - i ∧ Q w0 wr)
        case atStart => exact ⟨0, 9223372036854775808, rfl, (show canW 9223372036854775808 = 9223372036854775808 by decide +kernel), by decide, rfl, by omega, rfl, Q.refl _⟩
        case round =>
          obtain ⟨i, X, rfl, HX, hX, rfl, hi2, rfl, qr⟩ := hrel
          by_cases hlt : i < S.length
          · obtain ⟨g, o, cap', hsl, hcap, hI⟩ := HS.out.some (by omega)
            injection hsl with hs1 hs2 hs3
            subst hs1 hs3
            clear hs2
            have hwi : i < W.length := by rw [HE.out]; exact hlt
            have hwi' : (i : Int) < (W.length : Int) := by omega
            obtain ⟨g2, o2, cap2, hsl2, hI2⟩ := HI.out.some (by omega)
            injection hsl2 with hs1 hs2 hs3
            subst hs1 hs3
            clear hs2
            have hc := qr.cell (hI i hlt)
            have hc2 := qr.cell (hI2 i hwi)
            have hx := HB.out i
            have hpi := HP.out i hlt
            have HFo : Hid ((Ps.take (i + 1)).foldl add64V 9223372036854775808 = add64V ((Ps.take i).foldl add64V 9223372036854775808) (Ps.getD i 0)) := take_succ_foldl _ _ _ _ (by rw [HL.out]; exact hlt)
            have HQ : Hid (Q w0 wr) := qr
            generalize S.getD i 0 = x at *
            generalize W.getD i 0 = y at *
            generalize Ps.getD i 0 = p at *
            have hpi : p = prodV y x := hpi
            subst hpi
            have HC : Hid (∀ P X', canW P = prodV y x → canW X' = add64V X P → canW X' = (Ps.take (i + 1)).foldl add64V 9223372036854775808) := fun P X' hP h => by rw [HFo.out, ← HX.out, can_sum, ← hP, can_sum_r]; exact h
            clear qr HFo HX hI hI2
            go_wp2_with fail
            refine regionD5 (gb := g2) (ob := o2) (ib := i) (Lw := W.length) (cap := cw) (y := y) (s := x) rfl rfl ⟨rfl, rfl, rfl, hwi, hc2, hx⟩ ?_
            intro w4 p hq4 hp64 hcP
            rw [normD5]
            have HCP : Hid (canW p = prodV y x) := hcP
            clear hcP hc hc2
            cases hd : (Ieee.double.read X).sum (Ieee.double.read p) with
            | none =>
              have hf : floatBits .add .f64 X p = none := by
                show ((Ieee.double.read X).sum (Ieee.double.read p)).map Ieee.double.write = none
                rw [hd]; rfl
              have l2 := fun w => run_arith_none .add (by simp) 96 .f64 X p hf Try.prog w
              have HE2 : Hid (add64V X p = 9221120237041090560) := by show add64V X p = _; unfold add64V; rw [hd]; rfl
              clear hd hf
              go_wp2_with fail
              go_roundg (S.length - (i + 1))
              case measure => go_light; omega
              case rel =>
                go_light
                exact ⟨i + 1, _, rfl, HC.out _ _ HCP.out (by rw [HE2.out]; exact can_none _ _ _), (nanw64 _ _ _).2, by simp, by omega, rfl, (HQ.out.trans hq4).drew⟩
            | some d =>
              have hf : floatBits .add .f64 X p = some (Ieee.double.write d) := by
                show ((Ieee.double.read X).sum (Ieee.double.read p)).map Ieee.double.write = _
                rw [hd]; rfl
              have l2 := fun w => run_float_arith (P := Try.prog) w .add 96 .f64 X p _ hf
              have HE2 : Hid (add64V X p = told64 (some d)) := by show add64V X p = _; unfold add64V; rw [hd]
              have HD : Hid (d.isNaN = false) := sum_num hd
              clear hd hf
              go_wp2_with fail
              go_roundg (S.length - (i + 1))
              case measure => go_light; omega
              case rel =>
                go_light
                exact ⟨i + 1, _, rfl, HC.out _ _ HCP.out (by rw [HE2.out]; exact can_some HD.out), write64_lt _, by simp, by omega, rfl, HQ.out.trans hq4⟩
          · obtain rfl : i = S.length := by omega
            have hge2 : ¬ (S.length : Int) < (S.length : Int) := by omega
            have HQ : Hid (Q w0 wr) := qr
            have HZ : Hid (canW X = dotF Ps) := by
              show canW X = dotF Ps
              rw [HF.out, HX.out, ← HL.out, List.take_of_length_le (Nat.le_refl _)]
            clear qr HX
            go_wp2_with fail
            go_ret2
            exact ⟨X, rfl, hX, HZ.out, HQ.out⟩
set_option maxHeartbeats 2000000 in
theorem dot_bad (vw vl : Value) (W : List Int) (S : List Nat) (w : World) (hw : ISl w vw W) (hl : USl w vl S) (hn : S.length ≤ 35184372087808) (he : W.length = S.length) (hW : ¬ ∀ i, i < W.length → W.getD i 0 ≤ 268435456 ∧ -268435456 ≤ W.getD i 0) :
    Calls Try.prog 74 #[vw, vl] w fun e w' => e = .returned (.tuple #[.float .f64 0, .int .i64 32]) ∧ w' = w := by
  obtain ⟨aw, cw, rfl⟩ := hw.form
  obtain ⟨al, cl, rfl⟩ := hl.form
  have hn' : W.length ≤ 35184372087808 := by rw [he]; exact hn
  have ne0 : ((W.length : Int) != (S.length : Int)) = false := by rw [he]; simp
  have HI : Hid (ISl w (.slice aw W.length cw) W) := hw
  have HW : Hid _ := hW
  clear hl hw hW he
  go_enter Try.func74, Try.ntmps74
  go_wp2_with fail
  go_loopg [19] (W.length) (fun gh s19 wr => ∃ i : Nat, s19 = .int .i64 (i : Int) ∧ i ≤ W.length ∧ gh = W.length - i ∧ Hid (∀ j, j < i → W.getD j 0 ≤ 268435456 ∧ -268435456 ≤ W.getD j 0) ∧ wr = w)
  case atStart => exact ⟨0, rfl, by omega, rfl, fun j hj => absurd hj (Nat.not_lt_zero _), rfl⟩
  case round =>
    obtain ⟨i, rfl, hi, rfl, HG, rfl⟩ := hrel
    by_cases hlt : i < W.length
    · obtain ⟨g, o, cap', hsl, hI⟩ := HI.out.some (by omega)
      injection hsl with hs1 hs2 hs3
      subst hs1 hs3
      clear hs2
      have hc := hI i hlt
      obtain ⟨x, hx⟩ : ∃ x, W.getD i 0 = x := ⟨_, rfl⟩
      rw [hx] at hc
      have HX : Hid (W.getD i 0 = x) := hx
      clear hI hx
      by_cases h1 : 268435456 < x
      · go_wp2_with fail
        go_ret2
        exact ⟨rfl, rfl⟩
      · by_cases h2 : x < -268435456
        · go_wp2_with fail
          go_ret2
          exact ⟨rfl, rfl⟩
        · go_wp2_with fail
          go_roundg (W.length - (i + 1))
          case measure => go_light; omega
          case rel =>
            go_light
            refine ⟨i + 1, by simp, by omega, rfl, fun j hj => ?_, rfl⟩
            rcases Nat.lt_or_ge j i with g' | g'
            · exact HG.out j g'
            · obtain rfl : j = i := by omega
              rw [HX.out]
              omega
    · exfalso
      exact HW.out (fun j hj => HG.out j (by omega))
set_option maxHeartbeats 1000000 in
theorem dot_err {vw vl : Value} {w : World} {E : Int} (hE : (E != 0) = true) (H : Calls Try.prog 74 #[vw, vl] w fun e w' => e = .returned (.tuple #[.float .f64 0, .int .i64 E]) ∧ w' = w) :
    Calls Try.prog 61 #[vw, vl] w fun e w' => e = .returned (.tuple #[.int .u32 0, .int .i64 E]) ∧ w' = w := by
  have HD : Hid _ := H
  clear H
  go_enter Try.func61, Try.ntmps61
  go_wp2_with fail
  refine Calls.mono HD.out ?_
  rintro e w1 ⟨rfl, rfl⟩
  go_wp2_with fail
  go_ret2
  exact ⟨rfl, rfl⟩
end Go.Proofs.Ytnlphjekillciaa
/- What one sample is made of. -/
namespace Go.Proofs.Ytnlphjekillciaa
open Go.RowKit
set_option linter.unusedVariables false
set_option linter.unusedSimpArgs false

/-- The samples at the places of taps. -/
def pickV (L : List (Int × Int)) (S : List Nat) : List Nat := L.map fun e => S.getD e.1.toNat 0
/-- The sample that is made of taps. -/
def smpV (L : List (Int × Int)) (S : List Nat) : Nat := overW (dotF (prods (L.map Prod.snd) (pickV L S)))
/-- Taps as two lists. -/
def BlV (w : World) (v : Value) (L : List (Int × Int)) : Prop := ∃ vp vw, v = .agg #[vp, vw] ∧ ISl w vp (L.map Prod.fst) ∧ ISl w vw (L.map Prod.snd)
theorem BlV.next {w w' : World} {v : Value} {L : List (Int × Int)} (h : BlV w v L) (q : Q w w') : BlV w' v L := by
  obtain ⟨vp, vw, h1, h2, h3⟩ := h
  exact ⟨vp, vw, h1, h2.next q, h3.next q⟩
theorem fill_alloc {w w1 : World} (q : Q w w1) {b : Nat} (hb : w1.heap.size = b) (M : Array Value) (t : TypeId) (n : Nat) (hM : M.size = n) (L : Nat → Nat) : Fill w (w1.alloc (.cells M t)) b n L 0 := by
  subst hb
  have hb : (w1.alloc (.cells M t)).heap[w1.heap.size]? = some (.cells M t (0, 0)) := heap_alloc_new w1 _
  refine ⟨q.cells _ _, q.1.size, fun i hi => by omega, fun j hj => ⟨M[j]'(by omega), ?_⟩, fun j => ?_⟩
  · rw [cell_of_row _ _ j _ t (0, 0) hb, Array.getElem?_eq_getElem (by omega)]
  · unfold World.frozen?; rw [hb]; simp
theorem pickV_at {L : List (Int × Int)} {S : List Nat} {i : Nat} {e : Int × Int} (h : L[i]? = some e) : (pickV L S).getD i 0 = S.getD e.1.toNat 0 := by
  unfold pickV
  rw [List.getD_eq_getElem?_getD, List.getElem?_map, h]; rfl
set_option maxHeartbeats 4000000 in
set_option maxRecDepth 100000 in
theorem blend_of (v vl : Value) (L : List (Int × Int)) (S : List Nat) (w : World) (hv : BlV w v L) (hl : USl w vl S) (h64 : L.length ≤ 64) (hn : S.length ≤ 35184372087808) (hb : ∀ i, S.getD i 0 < 4294967296)
    (hp : ∀ e ∈ L, 0 ≤ e.1 ∧ e.1 < (S.length : Int)) (hw : ∀ e ∈ L, -268435456 ≤ e.2 ∧ e.2 ≤ 268435456) :
    Calls Try.prog 47 #[v, vl] w fun e w' => e = .returned (.int .u32 (smpV L S : Nat)) ∧ Q w w' := by
  obtain ⟨vp, vw, rfl, hP, hW⟩ := hv
  obtain ⟨aP, cP, rfl⟩ := hP.form
  obtain ⟨aW, cW, rfl⟩ := hW.form
  obtain ⟨al, cl, rfl⟩ := hl.form
  obtain ⟨N, eN⟩ : ∃ N, L.length = N := ⟨_, rfl⟩
  obtain ⟨M, eM⟩ : ∃ M, S.length = M := ⟨_, rfl⟩
  have HP : Hid (ISl w (.slice aP N cP) (L.map Prod.fst)) := by rw [List.length_map, eN] at hP; exact hP
  have HW : Hid (ISl w (.slice aW N cW) (L.map Prod.snd)) := by rw [List.length_map, eN] at hW; exact hW
  have HL : Hid (USl w (.slice al M cl) S) := by rw [eM] at hl; exact hl
  rw [List.length_map, List.length_map, eN, eM]
  rw [eN] at h64
  rw [eM] at hn
  have h64z : ¬ (64 : Int) < (N : Int) := by omega
  have HF : Hid (pickV L S = pickV L S ∧ (pickV L S).length = N) := ⟨rfl, by unfold pickV; rw [List.length_map, eN]⟩
  have HE : Hid (L.length = N ∧ S.length = M) := ⟨eN, eM⟩
  have HB : Hid (∀ i, S.getD i 0 < 4294967296) := hb
  have HPl : Hid (∀ e ∈ L, 0 ≤ e.1 ∧ e.1 < (M : Int)) := by rw [← eM]; exact hp
  have HWt : Hid (∀ e ∈ L, -268435456 ≤ e.2 ∧ e.2 ≤ 268435456) := hw
  clear hP hW hl hb hp hw eN eM
  go_enter Try.func47, Try.ntmps47
  go_wp2_with fail
  obtain ⟨w1, hw1⟩ : ∃ w1, w.alloc (.cells #[.slice aP N cP, .slice aW N cW] 88) = w1 := ⟨_, rfl⟩
  have HQ1 : Hid (Q w w1) := by rw [← hw1]; exact (Q.refl w).cells _ _
  have HC1 : Hid (w1.cell? ⟨w.heap.size, 1, none⟩ = some (.slice aW N cW)) := by show w1.cell? ⟨w.heap.size, 1, none⟩ = _; rw [← hw1]; simp [go_sem]
  have HS1 : Hid (w1.heap.size = w.heap.size + 1) := by show w1.heap.size = _; rw [← hw1]; simp
  go_loopg [7, 8, 18] N (fun gh s7 s8 s18 wr => ∃ k : Nat, s18 = .int .i64 (k : Int) ∧ k ≤ N ∧ gh = N - k ∧ Hid (Fill w1 wr (w.heap.size + 1) 64 (fun i => (pickV L S).getD i 0) k))
  case atStart => exact ⟨0, rfl, Nat.zero_le _, rfl, (by show Fill w1 _ _ _ _ _; rw [← hw1]; exact fill_alloc (Q.refl _) (by simp) _ _ 64 rfl _)⟩
  case round =>
    clear hw1
    obtain ⟨k, rfl, hk, rfl, HFl⟩ := hrel
    by_cases hlt : k < N
    · have hltz : (k : Int) < (N : Int) := by omega
      obtain ⟨e, he⟩ : ∃ e, L[k]? = some e := ⟨_, List.getElem?_eq_getElem (by rw [HE.out.1]; exact hlt)⟩
      obtain ⟨pl, wt⟩ := e
      have hpl := HPl.out _ (List.mem_of_getElem? he)
      obtain ⟨P, hP⟩ : ∃ P : Nat, pl = (P : Int) := ⟨pl.toNat, by have := hpl.1; simp only at this; omega⟩
      subst hP
      have hPM : P < M := by have := hpl.2; simp only at this; omega
      have hPz : (P : Int) < (M : Int) := by omega
      have q1 := HQ1.out.trans HFl.out.q
      obtain ⟨g1, o1, d1, hs1, hI1⟩ := (HP.out.next q1).some (by rw [List.length_map, HE.out.1]; omega)
      rw [List.length_map, HE.out.1] at hs1 hI1
      injection hs1 with e1 e2 e3
      subst e1 e3
      have c1 := hI1 k hlt
      rw [List.getD_eq_getElem?_getD, List.getElem?_map, he] at c1
      simp only [Option.map_some, Option.getD_some] at c1
      obtain ⟨g2, o2, d2, hs2, _, hI2⟩ := (HL.out.next q1).some (by rw [HE.out.2]; omega)
      rw [HE.out.2] at hs2
      injection hs2 with e4 e5 e6
      subst e4 e6
      have c2 := hI2 P (by rw [HE.out.2]; exact hPM)
      obtain ⟨x, hx⟩ : ∃ x, x = S.getD P 0 := ⟨_, rfl⟩
      rw [← hx] at c2
      obtain ⟨u, cu⟩ := HFl.out.room k (by omega)
      have fu := HFl.out.free k
      have HF2 : Hid _ := HFl.out.step (by omega : k < 64) (v := x) (by rw [hx, pickV_at he]; simp)
      have hk64 : k < 64 := by omega
      clear he hpl hI1 hI2 e2 e5 hx HFl
      go_wp2_with fail
      generalize wr.setCell ⟨w.heap.size + 1, k, none⟩ (.int .u32 (x : Nat)) = w9 at HF2 ⊢
      go_roundg (N - (k + 1))
      case measure => go_light; omega
      case rel => go_light; exact ⟨k + 1, by simp, by omega, rfl, HF2⟩
    · have hge : ¬ (k : Int) < (N : Int) := by omega
      obtain rfl : k = N := by omega
      have hown : UIs wr (w.heap.size + 1) 0 (pickV L S) := fun i hi => by rw [Nat.zero_add]; exact HFl.out.done i (by rw [HF.out.2] at hi; exact hi)
      have hus : USl wr (.slice (some ⟨w.heap.size + 1, 0, none⟩) k 64) (pickV L S) := by
        have := hown.usl (cap := 64) (by rw [HF.out.2]; exact h64)
        rw [HF.out.2] at this
        exact this
      have c1 := HFl.out.q.cell HC1.out
      have q1 := HQ1.out.trans HFl.out.q
      have C := dot_of (dot_gen (.slice aW k cW) (.slice (some ⟨w.heap.size + 1, 0, none⟩) k 64) (L.map Prod.snd) (pickV L S) wr (HW.out.next q1) hus (by rw [HF.out.2]; omega) (by rw [List.length_map, HF.out.2, HE.out.1]) (fun i => by
        unfold pickV
        rw [List.getD_eq_getElem?_getD, List.getElem?_map]
        cases L[i]? with
        | none => show 0 < 4294967296; decide
        | some e => exact HB.out _) (fun i hi => by
        rw [List.length_map] at hi
        rw [List.getD_eq_getElem?_getD, List.getElem?_map, List.getElem?_eq_getElem hi]
        have := HWt.out _ (List.getElem_mem hi)
        exact ⟨this.2, this.1⟩))
      have HS : Hid (overW (dotF (prods (L.map Prod.snd) (pickV L S))) = smpV L S) := rfl
      rw [HS.out] at C
      obtain ⟨R, hR⟩ : ∃ R, smpV L S = R := ⟨_, rfl⟩
      rw [hR] at C
      have HR : Hid (smpV L S = R) := hR
      clear hR
      have HQ : Hid (Q w wr) := q1
      clear hown hus q1 HFl
      go_wp2_with fail
      refine C.mono ?_
      rintro e w3 ⟨rfl, q3⟩
      clear C
      have HQ3 : Hid (Q w w3) := HQ.out.trans q3
      clear q3
      go_wp2_with fail
      go_ret
      exact ⟨by rw [HR.out]; rfl, HQ3.out⟩
end Go.Proofs.Ytnlphjekillciaa

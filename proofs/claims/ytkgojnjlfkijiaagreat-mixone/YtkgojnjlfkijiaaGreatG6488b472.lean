/- Mixing: One, Step and what they are made of. -/
import Derived.Test.YtkgojnjlfkijiaaGreatGa5cf00b6
import Derived.Test.YtkgojnjlfkijiaaGreatG5727610f
import Derived.Laws.EntriesVeiled
import Derived.Test.YtkgojnjlfkijiaaGreatG56246111
namespace Go.Proofs.YtkgojnjlfkijiaaGreat
open Go.RowKit
set_option linter.unusedVariables false
set_option linter.unusedSimpArgs false

set_option maxHeartbeats 400000 in
theorem mnum_any (a : Nat) (ha : a < 4294967296) (w : World) : Calls Tryz.prog 34 #[.int .u32 (a : Int)] w fun e w' => e = .returned (.float .f64 (wideW a)) ∧ Q w w' := by
  have l1 := f64from
  go_enter Tryz.func34, Tryz.ntmps34
  go_wp2_with fail
  refine (cwide_any a ha _).mono ?_
  rintro e w1 ⟨rfl, q1⟩
  go_wp2_with fail
  go_ret
  exact ⟨by simp, q1⟩
set_option maxHeartbeats 400000 in
theorem msam_any (x : Nat) (w : World) : Calls Tryz.prog 35 #[.float .f64 x] w fun e w' => e = .returned (.int .u32 (narW x : Nat)) ∧ Q w w' := by
  have l1 := f64bits
  go_enter Tryz.func35, Tryz.ntmps35
  go_wp2_with fail
  refine (cnarrow_any x _).mono ?_
  rintro e w1 ⟨rfl, q1⟩
  go_wp2_with fail
  go_ret
  exact ⟨rfl, q1⟩
set_option maxHeartbeats 400000 in
theorem msum_any (x y X Y : Nat) (hx : canW x = X) (hy : canW y = Y) (w : World) : Calls Tryz.prog 36 #[.float .f64 x, .float .f64 y] w fun e w' => ∃ r, e = .returned (.float .f64 r) ∧ canW r = opT .add X Y ∧ Q w w' := by
  have l1 := fun x y w => run_res .add (by simp) 68 x y Tryz.prog w
  have HX : Hid (canW x = X) := hx
  have HY : Hid (canW y = Y) := hy
  clear hx hy
  go_enter Tryz.func36, Tryz.ntmps36
  go_wp2_with fail
  go_ret
  exact ⟨_, rfl, res_can hA1 HX.out HY.out, resU_q _ _ _ _⟩
set_option maxHeartbeats 400000 in
theorem mpro_any (x y X Y : Nat) (hx : canW x = X) (hy : canW y = Y) (w : World) : Calls Tryz.prog 37 #[.float .f64 x, .float .f64 y] w fun e w' => ∃ r, e = .returned (.float .f64 r) ∧ canW r = opT .mul X Y ∧ Q w w' := by
  have l1 := fun x y w => run_res .mul (by simp) 68 x y Tryz.prog w
  have HX : Hid (canW x = X) := hx
  have HY : Hid (canW y = Y) := hy
  clear hx hy
  go_enter Tryz.func37, Tryz.ntmps37
  go_wp2_with fail
  go_ret
  exact ⟨_, rfl, res_can hA3 HX.out HY.out, resU_q _ _ _ _⟩
theorem can_1 : canW 4607182418800017408 = 4607182418800017408 := by decide +kernel
set_option maxHeartbeats 400000 in
theorem mres_any (x X : Nat) (hx : canW x = X) (w : World) : Calls Tryz.prog 38 #[.float .f64 x] w fun e w' => ∃ r, e = .returned (.float .f64 r) ∧ canW r = rsT X ∧ Q w w' := by
  have l1 := fun x y w => run_res .sub (by simp) 68 x y Tryz.prog w
  have HX : Hid (canW x = X) := hx
  clear hx
  go_enter Tryz.func38, Tryz.ntmps38
  go_wp2_with fail
  go_ret
  exact ⟨_, rfl, res_can hA2 can_1 HX.out, resU_q _ _ _ _⟩
/-- A way's function. -/
def WayF (k : Nat) (f : FuncId) : Prop := ∀ (s a d b S A D B : Nat) (w : World), canW s = S → canW a = A → canW d = D → canW b = B → Calls Tryz.prog f #[.float .f64 s, .float .f64 a, .float .f64 d, .float .f64 b] w fun e w' => ∃ r, e = .returned (.float .f64 r) ∧ canW r = mxT k S A D B ∧ Q w w'
set_option maxHeartbeats 1000000 in
theorem way1_any : WayF 1 85 := by
  intro s a d b S A D B w hs ha hd hb
  have Hs : Hid (canW s = S) := hs
  have Ha : Hid (canW a = A) := ha
  have Hd : Hid (canW d = D) := hd
  have Hb : Hid (canW b = B) := hb
  clear hs ha hd hb
  go_enter Tryz.func85, Tryz.ntmps85
  go_wp2_with fail
  refine (mres_any _ _ Ha.out _).mono ?_
  rintro e w0 ⟨r0, rfl, h0, q0⟩
  have H0 : Hid (canW r0 = _) := h0
  clear h0
  go_wp2_with fail
  refine (mpro_any _ _ _ _ Hd.out H0.out _).mono ?_
  rintro e w1 ⟨r1, rfl, h1, q1⟩
  have H1 : Hid (canW r1 = _) := h1
  clear h1
  go_wp2_with fail
  refine (msum_any _ _ _ _ Hs.out H1.out _).mono ?_
  rintro e w2 ⟨r2, rfl, h2, q2⟩
  have H2 : Hid (canW r2 = _) := h2
  clear h2
  go_wp2_with fail
  go_ret
  exact ⟨_, rfl, H2.out, ((q0).trans q1).trans q2⟩
set_option maxHeartbeats 1000000 in
theorem way2_any : WayF 2 86 := by
  intro s a d b S A D B w hs ha hd hb
  have Hs : Hid (canW s = S) := hs
  have Ha : Hid (canW a = A) := ha
  have Hd : Hid (canW d = D) := hd
  have Hb : Hid (canW b = B) := hb
  clear hs ha hd hb
  go_enter Tryz.func86, Tryz.ntmps86
  go_wp2_with fail
  refine (mpro_any _ _ _ _ Hs.out Hb.out _).mono ?_
  rintro e w0 ⟨r0, rfl, h0, q0⟩
  have H0 : Hid (canW r0 = _) := h0
  clear h0
  go_wp2_with fail
  go_ret
  exact ⟨_, rfl, H0.out, q0⟩
set_option maxHeartbeats 1000000 in
theorem way3_any : WayF 3 87 := by
  intro s a d b S A D B w hs ha hd hb
  have Hs : Hid (canW s = S) := hs
  have Ha : Hid (canW a = A) := ha
  have Hd : Hid (canW d = D) := hd
  have Hb : Hid (canW b = B) := hb
  clear hs ha hd hb
  go_enter Tryz.func87, Tryz.ntmps87
  go_wp2_with fail
  refine (mres_any _ _ Hb.out _).mono ?_
  rintro e w0 ⟨r0, rfl, h0, q0⟩
  have H0 : Hid (canW r0 = _) := h0
  clear h0
  go_wp2_with fail
  refine (mpro_any _ _ _ _ Hs.out H0.out _).mono ?_
  rintro e w1 ⟨r1, rfl, h1, q1⟩
  have H1 : Hid (canW r1 = _) := h1
  clear h1
  go_wp2_with fail
  go_ret
  exact ⟨_, rfl, H1.out, (q0).trans q1⟩
set_option maxHeartbeats 1000000 in
theorem way4_any : WayF 4 88 := by
  intro s a d b S A D B w hs ha hd hb
  have Hs : Hid (canW s = S) := hs
  have Ha : Hid (canW a = A) := ha
  have Hd : Hid (canW d = D) := hd
  have Hb : Hid (canW b = B) := hb
  clear hs ha hd hb
  go_enter Tryz.func88, Tryz.ntmps88
  go_wp2_with fail
  refine (mpro_any _ _ _ _ Hs.out Hb.out _).mono ?_
  rintro e w0 ⟨r0, rfl, h0, q0⟩
  have H0 : Hid (canW r0 = _) := h0
  clear h0
  go_wp2_with fail
  refine (mres_any _ _ Ha.out _).mono ?_
  rintro e w1 ⟨r1, rfl, h1, q1⟩
  have H1 : Hid (canW r1 = _) := h1
  clear h1
  go_wp2_with fail
  refine (mpro_any _ _ _ _ Hd.out H1.out _).mono ?_
  rintro e w2 ⟨r2, rfl, h2, q2⟩
  have H2 : Hid (canW r2 = _) := h2
  clear h2
  go_wp2_with fail
  refine (msum_any _ _ _ _ H0.out H2.out _).mono ?_
  rintro e w3 ⟨r3, rfl, h3, q3⟩
  have H3 : Hid (canW r3 = _) := h3
  clear h3
  go_wp2_with fail
  go_ret
  exact ⟨_, rfl, H3.out, (((q0).trans q1).trans q2).trans q3⟩
set_option maxHeartbeats 1000000 in
theorem way5_any : WayF 5 89 := by
  intro s a d b S A D B w hs ha hd hb
  have Hs : Hid (canW s = S) := hs
  have Ha : Hid (canW a = A) := ha
  have Hd : Hid (canW d = D) := hd
  have Hb : Hid (canW b = B) := hb
  clear hs ha hd hb
  go_enter Tryz.func89, Tryz.ntmps89
  go_wp2_with fail
  refine (mres_any _ _ Hb.out _).mono ?_
  rintro e w0 ⟨r0, rfl, h0, q0⟩
  have H0 : Hid (canW r0 = _) := h0
  clear h0
  go_wp2_with fail
  refine (mpro_any _ _ _ _ Hs.out H0.out _).mono ?_
  rintro e w1 ⟨r1, rfl, h1, q1⟩
  have H1 : Hid (canW r1 = _) := h1
  clear h1
  go_wp2_with fail
  refine (mres_any _ _ Ha.out _).mono ?_
  rintro e w2 ⟨r2, rfl, h2, q2⟩
  have H2 : Hid (canW r2 = _) := h2
  clear h2
  go_wp2_with fail
  refine (mpro_any _ _ _ _ Hd.out H2.out _).mono ?_
  rintro e w3 ⟨r3, rfl, h3, q3⟩
  have H3 : Hid (canW r3 = _) := h3
  clear h3
  go_wp2_with fail
  refine (msum_any _ _ _ _ H1.out H3.out _).mono ?_
  rintro e w4 ⟨r4, rfl, h4, q4⟩
  have H4 : Hid (canW r4 = _) := h4
  clear h4
  go_wp2_with fail
  go_ret
  exact ⟨_, rfl, H4.out, ((((q0).trans q1).trans q2).trans q3).trans q4⟩
set_option maxHeartbeats 1000000 in
theorem way6_any : WayF 6 90 := by
  intro s a d b S A D B w hs ha hd hb
  have Hs : Hid (canW s = S) := hs
  have Ha : Hid (canW a = A) := ha
  have Hd : Hid (canW d = D) := hd
  have Hb : Hid (canW b = B) := hb
  clear hs ha hd hb
  go_enter Tryz.func90, Tryz.ntmps90
  go_wp2_with fail
  refine (msum_any _ _ _ _ Hs.out Hd.out _).mono ?_
  rintro e w0 ⟨r0, rfl, h0, q0⟩
  have H0 : Hid (canW r0 = _) := h0
  clear h0
  go_wp2_with fail
  go_ret
  exact ⟨_, rfl, H0.out, q0⟩
/-- The ways' functions, by their numbers. -/
def wayFn : Nat → FuncId
  | 1 => 85
  | 2 => 86
  | 3 => 87
  | 4 => 88
  | 5 => 89
  | _ => 90
theorem wayF_all (k : Nat) (h1 : 1 ≤ k) (h6 : k ≤ 6) : WayF k (wayFn k) := by
  rcases (by omega : k = 1 ∨ k = 2 ∨ k = 3 ∨ k = 4 ∨ k = 5 ∨ k = 6) with rfl | rfl | rfl | rfl | rfl | rfl
  · exact way1_any
  · exact way2_any
  · exact way3_any
  · exact way4_any
  · exact way5_any
  · exact way6_any
theorem wayFn_en (k : Nat) (args : Array Value) (x : World) : (callFunc (wayFn k) args).run Tryz.prog x = .ok (.enter (wayFn k) args) x := by
  unfold wayFn
  split
  · exact enters_of Tryz.func85 (by kernel_rfl) rfl args x
  · exact enters_of Tryz.func86 (by kernel_rfl) rfl args x
  · exact enters_of Tryz.func87 (by kernel_rfl) rfl args x
  · exact enters_of Tryz.func88 (by kernel_rfl) rfl args x
  · exact enters_of Tryz.func89 (by kernel_rfl) rfl args x
  · exact enters_of Tryz.func90 (by kernel_rfl) rfl args x
def wayV (k : Nat) : Value := .agg #[.int .i64 (k : Int), .func (.func (wayFn k)) #[] #[]]
def waysV : Value := .agg #[.int .i64 1, .func (.func 85) #[] #[], .int .i64 2, .func (.func 86) #[] #[], .int .i64 3, .func (.func 87) #[] #[], .int .i64 4, .func (.func 88) #[] #[], .int .i64 5, .func (.func 89) #[] #[], .int .i64 6, .func (.func 90) #[] #[]]
set_option maxHeartbeats 1000000 in
theorem ways_any (w : World) : Calls Tryz.prog 58 #[] w fun e w' => e = .returned waysV ∧ Q w w' := by
  go_enter Tryz.func58, Tryz.ntmps58
  go_wp2_with fail
  refine bodyPost_ret (v := waysV) (by simp [results, Tryz.results58, go_sem, waysV]) rfl ⟨rfl, (Q.refl w).cells _ _⟩
def noWay : Value := .agg #[.int .i64 0, .nilFunc]
def wayR (K : Int) : Value := if 1 ≤ K ∧ K ≤ 6 then .tuple #[wayV K.toNat, .int .i64 0] else .tuple #[noWay, .int .i64 150]
theorem run_ways (i : Nat) (h : i < 6) (w : World) : (Instr.index 86 waysV (.int .i64 (i : Int))).run Tryz.prog w = .ok (.agg #[.int .i64 ((i : Int) + 1), .func (.func (wayFn (i + 1))) #[] #[]]) w := by
  rcases (by omega : i = 0 ∨ i = 1 ∨ i = 2 ∨ i = 3 ∨ i = 4 ∨ i = 5) with rfl | rfl | rfl | rfl | rfl | rfl <;> kernel_rfl
set_option maxHeartbeats 2000000 in
set_option maxRecDepth 100000 in
theorem wayof_any (K : Int) (w : World) : Calls Tryz.prog 27 #[.int .i64 K] w fun e w' => e = .returned (wayR K) ∧ Q w w' := by
  obtain ⟨w1, hw1⟩ : ∃ w1, w.alloc (.cells #[.int .i64 0, .nilFunc] 57) = w1 := ⟨_, rfl⟩
  have H1 : Hid (Q w w1) := by show Q w w1; rw [← hw1]; exact (Q.refl w).cells _ _
  have k0 : w1.cell? ⟨w.heap.size, 0, none⟩ = some (.int .i64 0) := by rw [← hw1]; simp [go_sem]
  have k1 : w1.cell? ⟨w.heap.size, 1, none⟩ = some .nilFunc := by rw [← hw1]; simp [go_sem]
  have kf : ∀ j, w1.frozen? ⟨w.heap.size, j, none⟩ = false := fun j => by rw [← hw1]; simp [go_sem]
  have HI := run_ways
  go_enter Tryz.func27, Tryz.ntmps27
  go_wp2_with fail
  refine (ways_any w1).mono ?_
  rintro e w2 ⟨rfl, q2⟩
  have H2 : Hid (Q w w2) := H1.out.trans q2
  have k0 := q2.cell k0
  have k1 := q2.cell k1
  have kf : ∀ j, w2.frozen? ⟨w.heap.size, j, none⟩ = false := fun j => (q2.2 _).trans (kf j)
  have hlt : w.heap.size < w2.heap.size := cell_in k0
  clear q2 hw1
  obtain ⟨VW, hVW⟩ : ∃ VW, waysV = VW := ⟨_, rfl⟩
  rw [hVW] at HI ⊢
  go_wp2_with fail
  go_loopg [7] 6 (fun m s7 wx => ∃ i : Nat, s7 = .int .i64 i ∧ i + m = 6 ∧ Hid (∀ j : Nat, j < i → K ≠ (j : Int) + 1) ∧ Hid (Q w2 wx))
  case atStart => exact ⟨0, rfl, by omega, fun j hj => absurd hj (Nat.not_lt_zero _), Q.refl _⟩
  case round =>
    obtain ⟨i, rfl, him, HN, HQ⟩ := hrel
    by_cases hi : i < 6
    · have hi1 : (i : Int) < 6 := by omega
      have hr := HI i hi
      by_cases hk : (i : Int) + 1 = K
      · have hb : ((i : Int) + 1 == K) = true := by simpa using hk
        have k0r := HQ.out.cell k0
        have k1r := HQ.out.cell k1
        have kfr : ∀ j, wr.frozen? ⟨w.heap.size, j, none⟩ = false := fun j => (HQ.out.2 _).trans (kf j)
        have k0a := fun c t => ((Q.refl wr).cells c t).cell k0r
        have k1a := fun c t => ((Q.refl wr).cells c t).cell k1r
        have kfa : ∀ c t j, (wr.alloc (.cells c t)).frozen? ⟨w.heap.size, j, none⟩ = false := fun c t j => (((Q.refl wr).cells c t).2 _).trans (kfr j)
        go_wp2_with fail
        have hR : wayR K = .tuple #[.agg #[.int .i64 K, .func (.func (wayFn (i + 1))) #[] #[]], .int .i64 0] := by
          unfold wayR
          rw [if_pos (by omega)]
          unfold wayV
          rw [show K.toNat = i + 1 by omega, show ((i + 1 : Nat) : Int) = K by omega]
        refine bodyPost_ret (v := .tuple #[.agg #[.int .i64 K, .func (.func (wayFn (i + 1))) #[] #[]], .int .i64 0]) (by simp [results, Tryz.results27, go_sem, k0a, k1a]) rfl ⟨by rw [hR], ?_⟩
        exact (((H2.out.trans HQ.out).cells _ _).set (Nat.le_refl _) _).set (Nat.le_refl _) _
      · have hb : ((i : Int) + 1 == K) = false := by simpa using hk
        have HN2 : Hid (∀ j : Nat, j < i + 1 → K ≠ (j : Int) + 1) := fun j hj => by
          by_cases h : j = i
          · subst h; exact fun e => hk e.symm
          · exact HN.out j (by omega)
        go_wp2_with fail
        go_roundg (6 - (i + 1))
        case measure => go_light; omega
        case rel => go_light; exact ⟨i + 1, by go_num, by omega, HN2, HQ.out.cells _ _⟩
    · have hie : i = 6 := by omega
      subst hie
      have k0r := HQ.out.cell k0
      have k1r := HQ.out.cell k1
      have kfr : ∀ j, wr.frozen? ⟨w.heap.size, j, none⟩ = false := fun j => (HQ.out.2 _).trans (kf j)
      go_wp2_with fail
      have hR : wayR K = .tuple #[.agg #[.int .i64 0, .nilFunc], .int .i64 150] := by
        unfold wayR
        rw [if_neg (fun h => HN.out (K.toNat - 1) (by omega) (by omega))]
        rfl
      refine bodyPost_ret (v := .tuple #[.agg #[.int .i64 0, .nilFunc], .int .i64 150]) (by simp [results, Tryz.results27, go_sem, k0r, k1r]) rfl ⟨by rw [hR], ?_⟩
      exact ((H2.out.trans HQ.out).set (Nat.le_refl _) _).set (Nat.le_refl _) _
end Go.Proofs.YtkgojnjlfkijiaaGreat
/- Layer 15's document: One and Step. (gen_myb.py) -/
namespace Go.Proofs.YtkgojnjlfkijiaaGreat
open Go.RowKit
set_option linter.unusedVariables false
set_option linter.unusedSimpArgs false
set_option linter.unnecessarySimpa false

set_option maxHeartbeats 2000000 in
theorem num15_any (a : Nat) (ha : a < 4294967296) (w : World) : Calls Tryz.prog 29 #[.int .u32 (a : Int)] w fun e w' => ∃ v', e = .returned v' ∧ Dn w' v' (wideW a) ∧ Q w w' := by
  have ew : IntKind.u64.wrap (a : Int) = a := by rw [IntKind.wrap_u64]; omega
  go_enter Tryz.func29, Tryz.ntmps29
  go_wp2_with fail
  have hB : Hid (ABox w _ w.heap.size) := ⟨(Q.refl w).cells _ _, (zero_box w).1, (zero_box w).2, Nat.le_refl _⟩
  generalize w.alloc (.cells #[.int .i64 0, .bool false, .slice none 0 0, .int .i64 0, .bool false] 63) = wz at hB ⊢
  refine (f32_any _).mono ?_
  rintro e' w1 ⟨rfl, q1⟩
  replace hB : Hid (ABox w w1 w.heap.size) := hB.out.next q1
  clear q1
  go_wp2_with fail
  refine (of32_any a _ ha).mono ?_
  rintro e' w2 ⟨v, rfl, hv, q2⟩
  replace hB : Hid (ABox w w2 w.heap.size) := hB.out.next q2
  clear q2
  go_wp2_with fail
  refine (rd15_any _ _ _ hv (fits_single a)).mono ?_
  rintro e' w3 ⟨v, rfl, hv, q3⟩
  replace hB : Hid (ABox w w3 w.heap.size) := hB.out.next q3
  clear q3
  rw [wide_told] at hv
  obtain ⟨k9, s9, p9, L9, C9, e9, m9, rfl⟩ := hv.made
  obtain ⟨h1, h2⟩ := five_set hB.out.b k9 s9 p9 L9 C9 e9 m9
  have HN : Hid _ := h1 _ _ hv
  have HQ : Hid _ := h2 _ hB.out.q hB.out.v
  clear h1 h2 hv
  obtain ⟨c0, c1, c2, c3, c4⟩ := hB.out.b
  have hf := hB.out.f
  clear hB
  go_wp2_with fail
  refine bodyPost_ret (v := .agg #[.int .i64 k9, .bool s9, .slice p9 L9 C9, .int .i64 e9, .bool m9]) (by simp [results, Tryz.results29, go_sem, c0, c1, c2, c3, c4]) rfl ⟨_, rfl, HN.out, HQ.out⟩
set_option maxHeartbeats 2000000 in
theorem plus15_any (va vb : Value) (X Y : RNum) (w : World) (hx : NumAt w va X) (hy : NumAt w vb Y) (dx : dblR X) (dy : dblR Y) : Calls Tryz.prog 31 #[va, vb] w fun e w' => ∃ v', e = .returned v' ∧ NumAt w' v' (numOf Ieee.double (roundD (plusR X Y))) ∧ Q w w' := by
  obtain ⟨k, s, p, L, C, e, m, rfl⟩ := hx.made
  obtain ⟨k1, s1, p1, L1, C1, e1, m1, rfl⟩ := hy.made
  have HX : Hid _ := hx
  have HY : Hid _ := hy
  have HD : Hid (dblR X ∧ dblR Y) := ⟨dx, dy⟩
  clear hx hy dx dy
  go_enter Tryz.func31, Tryz.ntmps31
  go_wp2_with fail
  have hB : Hid (ABox w _ (w.heap.size + 1 + 1)) := ⟨(((Q.refl w).cells _ _).cells _ _).cells _ _, by have := (zero_box ((w.alloc (.cells #[.int .i64 k, .bool s, .slice p L C, .int .i64 e, .bool m] 63)).alloc (.cells #[.int .i64 k1, .bool s1, .slice p1 L1 C1, .int .i64 e1, .bool m1] 63))).1; simpa using this, by have := (zero_box ((w.alloc (.cells #[.int .i64 k, .bool s, .slice p L C, .int .i64 e, .bool m] 63)).alloc (.cells #[.int .i64 k1, .bool s1, .slice p1 L1 C1, .int .i64 e1, .bool m1] 63))).2; simpa using this, by omega⟩
  generalize ((w.alloc (.cells #[.int .i64 k, .bool s, .slice p L C, .int .i64 e, .bool m] 63)).alloc (.cells #[.int .i64 k1, .bool s1, .slice p1 L1 C1, .int .i64 e1, .bool m1] 63)).alloc (.cells #[.int .i64 0, .bool false, .slice none 0 0, .int .i64 0, .bool false] 63) = wz at hB ⊢
  refine (plusnum_any _ _ _ _ _ (hB.out.q.num HX.out) (hB.out.q.num HY.out) (dblR_small HD.out.1) (dblR_small HD.out.2)).mono ?_
  rintro e' w2 ⟨v, rfl, hv, q2⟩
  replace hB : Hid (ABox w w2 (w.heap.size + 1 + 1)) := hB.out.next q2
  clear q2 HX HY
  go_wp2_with fail
  refine (rd15_any _ _ _ hv (dbl_fits HD.out.1 HD.out.2)).mono ?_
  rintro e' w3 ⟨v, rfl, hv, q3⟩
  replace hB : Hid (ABox w w3 (w.heap.size + 1 + 1)) := hB.out.next q3
  clear q3 HD
  obtain ⟨k9, s9, p9, L9, C9, e9, m9, rfl⟩ := hv.made
  obtain ⟨h1, h2⟩ := five_set hB.out.b k9 s9 p9 L9 C9 e9 m9
  have HN : Hid _ := h1 _ _ hv
  have HQ : Hid _ := h2 _ hB.out.q hB.out.v
  clear h1 h2 hv
  obtain ⟨c0, c1, c2, c3, c4⟩ := hB.out.b
  have hf := hB.out.f
  clear hB
  go_wp2_with fail
  refine bodyPost_ret (v := .agg #[.int .i64 k9, .bool s9, .slice p9 L9 C9, .int .i64 e9, .bool m9]) (by simp [results, Tryz.results31, go_sem, c0, c1, c2, c3, c4]) rfl ⟨_, rfl, HN.out, HQ.out⟩
set_option maxHeartbeats 2000000 in
theorem times15_any (va vb : Value) (X Y : RNum) (w : World) (hx : NumAt w va X) (hy : NumAt w vb Y) (dx : dblR X) (dy : dblR Y) : Calls Tryz.prog 32 #[va, vb] w fun e w' => ∃ v', e = .returned v' ∧ NumAt w' v' (numOf Ieee.double (roundD (timesR X Y))) ∧ Q w w' := by
  obtain ⟨k, s, p, L, C, e, m, rfl⟩ := hx.made
  obtain ⟨k1, s1, p1, L1, C1, e1, m1, rfl⟩ := hy.made
  have HX : Hid _ := hx
  have HY : Hid _ := hy
  have HD : Hid (dblR X ∧ dblR Y) := ⟨dx, dy⟩
  clear hx hy dx dy
  go_enter Tryz.func32, Tryz.ntmps32
  go_wp2_with fail
  have hB : Hid (ABox w _ (w.heap.size + 1 + 1)) := ⟨(((Q.refl w).cells _ _).cells _ _).cells _ _, by have := (zero_box ((w.alloc (.cells #[.int .i64 k, .bool s, .slice p L C, .int .i64 e, .bool m] 63)).alloc (.cells #[.int .i64 k1, .bool s1, .slice p1 L1 C1, .int .i64 e1, .bool m1] 63))).1; simpa using this, by have := (zero_box ((w.alloc (.cells #[.int .i64 k, .bool s, .slice p L C, .int .i64 e, .bool m] 63)).alloc (.cells #[.int .i64 k1, .bool s1, .slice p1 L1 C1, .int .i64 e1, .bool m1] 63))).2; simpa using this, by omega⟩
  generalize ((w.alloc (.cells #[.int .i64 k, .bool s, .slice p L C, .int .i64 e, .bool m] 63)).alloc (.cells #[.int .i64 k1, .bool s1, .slice p1 L1 C1, .int .i64 e1, .bool m1] 63)).alloc (.cells #[.int .i64 0, .bool false, .slice none 0 0, .int .i64 0, .bool false] 63) = wz at hB ⊢
  refine (times_dbl _ _ _ _ _ (hB.out.q.num HX.out) (hB.out.q.num HY.out) HD.out.1 HD.out.2).mono ?_
  rintro e' w2 ⟨v, rfl, hv, q2⟩
  replace hB : Hid (ABox w w2 (w.heap.size + 1 + 1)) := hB.out.next q2
  clear q2 HX HY
  go_wp2_with fail
  refine (rd15_any _ _ _ hv (times_fits HD.out.1 HD.out.2)).mono ?_
  rintro e' w3 ⟨v, rfl, hv, q3⟩
  replace hB : Hid (ABox w w3 (w.heap.size + 1 + 1)) := hB.out.next q3
  clear q3 HD
  obtain ⟨k9, s9, p9, L9, C9, e9, m9, rfl⟩ := hv.made
  obtain ⟨h1, h2⟩ := five_set hB.out.b k9 s9 p9 L9 C9 e9 m9
  have HN : Hid _ := h1 _ _ hv
  have HQ : Hid _ := h2 _ hB.out.q hB.out.v
  clear h1 h2 hv
  obtain ⟨c0, c1, c2, c3, c4⟩ := hB.out.b
  have hf := hB.out.f
  clear hB
  go_wp2_with fail
  refine bodyPost_ret (v := .agg #[.int .i64 k9, .bool s9, .slice p9 L9 C9, .int .i64 e9, .bool m9]) (by simp [results, Tryz.results32, go_sem, c0, c1, c2, c3, c4]) rfl ⟨_, rfl, HN.out, HQ.out⟩
theorem plus_dn (va vb : Value) (A B : Nat) (w : World) (hx : Dn w va A) (hy : Dn w vb B) : Calls Tryz.prog 31 #[va, vb] w fun e w' => ∃ v', e = .returned v' ∧ Dn w' v' (opT .add A B) ∧ Q w w' := by
  have := plus15_any va vb _ _ w hx hy (dblR_of A) (dblR_of B)
  rw [add_link] at this
  exact this
theorem times_dn (va vb : Value) (A B : Nat) (w : World) (hx : Dn w va A) (hy : Dn w vb B) : Calls Tryz.prog 32 #[va, vb] w fun e w' => ∃ v', e = .returned v' ∧ Dn w' v' (opT .mul A B) ∧ Q w w' := by
  have := times15_any va vb _ _ w hx hy (dblR_of A) (dblR_of B)
  rw [mul_link] at this
  exact this
set_option maxHeartbeats 2000000 in
theorem rest_dn (va : Value) (A : Nat) (w : World) (hx : Dn w va A) : Calls Tryz.prog 33 #[va] w fun e w' => ∃ v', e = .returned v' ∧ Dn w' v' (rsT A) ∧ Q w w' := by
  obtain ⟨k, s, p, L, C, e, m, rfl⟩ := NumAt.made hx
  have HX : Hid (NumAt w (.agg #[.int .i64 k, .bool (!s), .slice p L C, .int .i64 e, .bool m]) (oppR (numOf Ieee.double A))) := num_opp hx
  clear hx
  have en1 := enters_of Tryz.func29 (by kernel_rfl) rfl
  have en2 := enters_of Tryz.func31 (by kernel_rfl) rfl
  go_enter Tryz.func33, Tryz.ntmps33
  go_wp2_with fail
  have e0 : ((w.alloc (.cells #[.int .i64 k, .bool (!s), .slice p L C, .int .i64 e, .bool m] 63)).alloc (.cells #[.int .i64 0, .bool false, .slice none 0 0, .int .i64 0, .bool false] 63)).cell? ⟨w.heap.size, 0, none⟩ = some (.int .i64 k) := by simp [go_sem]
  have e1 : ((w.alloc (.cells #[.int .i64 k, .bool (!s), .slice p L C, .int .i64 e, .bool m] 63)).alloc (.cells #[.int .i64 0, .bool false, .slice none 0 0, .int .i64 0, .bool false] 63)).cell? ⟨w.heap.size, 1, none⟩ = some (.bool (!s)) := by simp [go_sem]
  have e2 : ((w.alloc (.cells #[.int .i64 k, .bool (!s), .slice p L C, .int .i64 e, .bool m] 63)).alloc (.cells #[.int .i64 0, .bool false, .slice none 0 0, .int .i64 0, .bool false] 63)).cell? ⟨w.heap.size, 2, none⟩ = some (.slice p L C) := by simp [go_sem]
  have e3 : ((w.alloc (.cells #[.int .i64 k, .bool (!s), .slice p L C, .int .i64 e, .bool m] 63)).alloc (.cells #[.int .i64 0, .bool false, .slice none 0 0, .int .i64 0, .bool false] 63)).cell? ⟨w.heap.size, 3, none⟩ = some (.int .i64 e) := by simp [go_sem]
  have e4 : ((w.alloc (.cells #[.int .i64 k, .bool (!s), .slice p L C, .int .i64 e, .bool m] 63)).alloc (.cells #[.int .i64 0, .bool false, .slice none 0 0, .int .i64 0, .bool false] 63)).cell? ⟨w.heap.size, 4, none⟩ = some (.bool m) := by simp [go_sem]
  have hB : Hid (ABox w ((w.alloc (.cells #[.int .i64 k, .bool (!s), .slice p L C, .int .i64 e, .bool m] 63)).alloc (.cells #[.int .i64 0, .bool false, .slice none 0 0, .int .i64 0, .bool false] 63)) (w.heap.size + 1)) := ⟨((Q.refl w).cells _ _).cells _ _, by have := (zero_box (w.alloc (.cells #[.int .i64 k, .bool (!s), .slice p L C, .int .i64 e, .bool m] 63))).1; simpa using this, by have := (zero_box (w.alloc (.cells #[.int .i64 k, .bool (!s), .slice p L C, .int .i64 e, .bool m] 63))).2; simpa using this, by omega⟩
  generalize (w.alloc (.cells #[.int .i64 k, .bool (!s), .slice p L C, .int .i64 e, .bool m] 63)).alloc (.cells #[.int .i64 0, .bool false, .slice none 0 0, .int .i64 0, .bool false] 63) = wz at hB e0 e1 e2 e3 e4 ⊢
  have HX : Hid _ := hB.out.q.num HX.out
  have n0 := qw_some wz
  have f0 := qw_cell e0
  have f1 := qw_cell e1
  have f2 := qw_cell e2
  have f3 := qw_cell e3
  have f4 := qw_cell e4
  refine wp_region_mk [1] [[0, 2, 3]] 3 _ (by kernel_rfl) (by kernel_rfl) rfl (by kernel_rfl) ?_
  simp only [List.filterMap_cons, List.filterMap_nil, List.getElem?_cons_zero, List.getElem?_cons_succ]
  repeat (first | go_big_quiet_step (fail) | quiet_step (fail))
  refine wpQuiet_nil ?_
  intro x0 q0
  clear f0 f1 f2 f3 f4 n0 e0 e1 e2 e3 e4
  refine tree_call 0 rfl rfl (run_fn 29 #[.const (.int .u32 1065353216)] _ rfl en1 (vs := #[.int .u32 1065353216]) (by simp [Act.eval, Act.put])) (G := fun u x' => Dn x' u (wideW 1065353216) ∧ Q x0 x') ((num15_any 1065353216 (by decide) x0).mono fun e' w' ⟨v, a, b, c⟩ => ⟨v, a, b, c⟩) ?_
  rintro u x1 ⟨hu, q1⟩
  have q01 := q0.trans q1
  refine ⟨q01, ?_⟩
  have HX : Hid _ := q01.num HX.out
  refine tree_call 2 rfl rfl (run_fn 31 #[.tmp 7, .tmp 8] _ rfl en2 (vs := #[u, .agg #[.int .i64 k, .bool (!s), .slice p L C, .int .i64 e, .bool m]]) (by simp [Act.eval, Act.put])) (G := fun u' x' => NumAt x' u' (numOf Ieee.double (roundD (plusR (numOf Ieee.double (wideW 1065353216)) (oppR (numOf Ieee.double A))))) ∧ Q x1 x') ((plus15_any _ _ _ _ x1 hu HX.out (dblR_of _) (dblR_opp (dblR_of A))).mono fun e' w' ⟨v, a, b, c⟩ => ⟨v, a, b, c⟩) ?_
  rintro u2 x2 ⟨hv, q2⟩
  have q02 := q01.trans q2
  refine ⟨q02, ?_⟩
  rw [sub_link, wide_one] at hv
  have hv : Dn x2 u2 (rsT A) := hv
  replace hB : Hid (ABox w x2 (w.heap.size + 1)) := hB.out.next q02
  obtain ⟨k9, s9, p9, L9, C9, e9, m9, rfl⟩ := NumAt.made hv
  obtain ⟨h1, h2⟩ := five_set hB.out.b k9 s9 p9 L9 C9 e9 m9
  have HN : Hid _ := h1 _ _ hv
  have HQ : Hid _ := h2 _ hB.out.q hB.out.v
  obtain ⟨c0, c1, c2, c3, c4⟩ := hB.out.b
  have hf := hB.out.f
  refine tree_skipF 3 rfl rfl rfl (x' := ((((x2.setCell ⟨w.heap.size + 1, 0, none⟩ (.int .i64 k9)).setCell ⟨w.heap.size + 1, 1, none⟩ (.bool s9)).setCell ⟨w.heap.size + 1, 2, none⟩ (.slice p9 L9 C9)).setCell ⟨w.heap.size + 1, 3, none⟩ (.int .i64 e9)).setCell ⟨w.heap.size + 1, 4, none⟩ (.bool m9)) (by simp [execOp, go_sem, Act.eval, Act.put, c0, c1, c2, c3, c4, hf]) ?_
  refine tree_nil ?_
  clear h1 h2 hv hB hu q0 q1 q2 q01 q02 HX
  go_wp2_with fail
  refine bodyPost_ret (v := .agg #[.int .i64 k9, .bool s9, .slice p9 L9 C9, .int .i64 e9, .bool m9]) (by simp [results, Tryz.results33, go_sem, c0, c1, c2, c3, c4]) rfl ⟨_, rfl, HN.out, HQ.out⟩
set_option maxHeartbeats 2000000 in
theorem told15_any (va : Value) (A : Nat) (hA : A < 18446744073709551616) (w : World) (hx : Dn w va A) : Calls Tryz.prog 30 #[va] w fun e w' => e = .returned (.int .u32 (narW A : Nat)) ∧ Q w w' := by
  obtain ⟨k, s, p, L, C, e, m, rfl⟩ := NumAt.made hx
  have HX : Hid (NumAt w (.agg #[.int .i64 k, .bool s, .slice p L C, .int .i64 e, .bool m]) (numOf Ieee.double A)) := hx
  have HA : Hid (canW A < 18446744073709551616) := by show _ < _; rw [← round_num hA]; exact roundD_lt _
  have HF : Hid (fitsD (numOf Ieee.double A)) := dbl_fits1
  have HR : Hid (roundD (numOf Ieee.double A) = canW A) := round_num hA
  clear hx
  go_enter Tryz.func30, Tryz.ntmps30
  go_wp2_with fail
  have HQ : Hid (Q w _) := (Q.refl w).cells #[.int .i64 k, .bool s, .slice p L C, .int .i64 e, .bool m] 63
  have d0 : (w.alloc (.cells #[.int .i64 k, .bool s, .slice p L C, .int .i64 e, .bool m] 63)).cell? ⟨w.heap.size, 0, none⟩ = some (.int .i64 k) := by simp [go_sem]
  have d1 : (w.alloc (.cells #[.int .i64 k, .bool s, .slice p L C, .int .i64 e, .bool m] 63)).cell? ⟨w.heap.size, 1, none⟩ = some (.bool s) := by simp [go_sem]
  have d2 : (w.alloc (.cells #[.int .i64 k, .bool s, .slice p L C, .int .i64 e, .bool m] 63)).cell? ⟨w.heap.size, 2, none⟩ = some (.slice p L C) := by simp [go_sem]
  have d3 : (w.alloc (.cells #[.int .i64 k, .bool s, .slice p L C, .int .i64 e, .bool m] 63)).cell? ⟨w.heap.size, 3, none⟩ = some (.int .i64 e) := by simp [go_sem]
  have d4 : (w.alloc (.cells #[.int .i64 k, .bool s, .slice p L C, .int .i64 e, .bool m] 63)).cell? ⟨w.heap.size, 4, none⟩ = some (.bool m) := by simp [go_sem]
  generalize w.alloc (.cells #[.int .i64 k, .bool s, .slice p L C, .int .i64 e, .bool m] 63) = wz at HQ d0 d1 d2 d3 d4 ⊢
  replace d0 := qw_cell d0
  replace d1 := qw_cell d1
  replace d2 := qw_cell d2
  replace d3 := qw_cell d3
  replace d4 := qw_cell d4
  have n0 := qw_some wz
  have KF : Hid (∀ n : QW wz, Calls Tryz.prog 63 #[] n.x fun e w' => e = .returned (.agg #[.int .i64 52, .int .i64 11]) ∧ Q n.x w') := fun n => f64_any n.x
  have KR : Hid (∀ n : QW wz, Calls Tryz.prog 64 #[.agg #[.int .i64 52, .int .i64 11], .agg #[.int .i64 k, .bool s, .slice p L C, .int .i64 e, .bool m]] n.x fun e w' => e = .returned (.int .u64 (canW A : Nat)) ∧ Q n.x w') := fun n => by rw [← HR.out]; exact round64_any _ _ n.x ((HQ.out.trans n.q).num HX.out) HF.out
  have KN : Hid (∀ n : QW wz, Calls Tryz.prog 62 #[.int .u64 (canW A : Nat)] n.x fun e w' => e = .returned (.int .u32 (narW A : Nat)) ∧ Q n.x w') := fun n => by rw [← narW_can]; exact rnarrow_any (canW A) HA.out n.x
  refine wp_region_quiet_Q (by kernel_rfl) (by kernel_rfl) ?_
  repeat (first | go_big_quiet_step (first | (go_at_call 63; exact calls_qw (KF.out _)) | (go_at_call 64; exact calls_qw (KR.out _)) | (go_at_call 62; exact calls_qw (KN.out _))) | quiet_step (first | (go_at_call 63; exact calls_qw (KF.out _)) | (go_at_call 64; exact calls_qw (KR.out _)) | (go_at_call 62; exact calls_qw (KN.out _))))
  refine wpQuiet_nil ?_
  intro w4 hw'
  have hq4 : Hid (Q w w4) := HQ.out.trans (qw_out hw')
  clear hw' d0 d1 d2 d3 d4 n0 KF KR KN HQ HX HA HF HR
  go_wp2_with fail
  go_ret
  exact ⟨rfl, hq4.out⟩
end Go.Proofs.YtkgojnjlfkijiaaGreat

/- PictureKeeps: the walk. -/
import Derived.Test.YtlelgifdnhnphabG2270c596
import Derived.Test.YtlelgifdnhnphabGb505b1c7
namespace Go.Proofs.Ytlelgifdnhnphab
open Go.RowKit
set_option linter.unusedVariables false
set_option linter.unusedSimpArgs false

set_option maxHeartbeats 4000000 in
set_option maxRecDepth 100000 in
theorem keeps_walk (w : World) (sp sp' : Int) (v v' : Value) (D D' : List PD) (lo hi : Nat) (hlo : lo < 4294967296) (hhi : hi < 4294967296) (h : DSl w v D) (hl : ∀ x ∈ D, x.S.length ≤ 9223372036854775807) (hlt : ∀ x ∈ D, ∀ i, x.S.getD i 0 < 4294967296) (hD : D.length ≤ 9223372036854775807) (h' : DSl w v' D') (hl' : ∀ x ∈ D', x.S.length ≤ 9223372036854775807) (hlt' : ∀ x ∈ D', ∀ i, x.S.getD i 0 < 4294967296) (hD' : D'.length ≤ 9223372036854775807) :
    Calls Try.prog 3 #[.agg #[.int .i64 sp, v], .agg #[.int .i64 sp', v'], .int .u32 (lo : Int), .int .u32 (hi : Int)] w fun e w' => e = .returned (.bool true) ∧ Q w w' := by
  obtain ⟨ad, cap, hv⟩ := h.form
  subst hv
  obtain ⟨ad', cap', hv⟩ := h'.form
  subst hv
  have HD : Hid (DSl w (.slice ad D.length cap) D) := h
  have HL : Hid (∀ x ∈ D, x.S.length ≤ 9223372036854775807) := hl
  have HT : Hid (∀ x ∈ D, ∀ i, x.S.getD i 0 < 4294967296) := hlt
  have HE : Hid (DSl w (.slice ad' D'.length cap') D') := h'
  have HL' : Hid (∀ x ∈ D', x.S.length ≤ 9223372036854775807) := hl'
  have HT' : Hid (∀ x ∈ D', ∀ i, x.S.getD i 0 < 4294967296) := hlt'
  obtain ⟨n, hn⟩ : ∃ n, D.length = n := ⟨_, rfl⟩
  have HDL : Hid (D.length = n ∧ D.length ≤ 9223372036854775807) := ⟨hn, hD⟩
  obtain ⟨n', hn'⟩ : ∃ n, D'.length = n := ⟨_, rfl⟩
  have HEL : Hid (D'.length = n' ∧ D'.length ≤ 9223372036854775807) := ⟨hn', hD'⟩
  rw [hn] at HD hD ⊢
  rw [hn'] at HE hD' ⊢
  have qa : Hid (∀ c t c' t', Q w ((w.alloc (.cells c t)).alloc (.cells c' t'))) := fun c t c' t' => ((Q.refl w).cells c t).cells c' t'
  clear h hl hlt hn h' hl' hlt' hn'
  have l1 := num8_any
  go_enter Try.func3, Try.ntmps3
  go_wp2_with fail
  refine (known8_any _).mono ?_
  rintro e w1 ⟨rfl, q1⟩
  have HQ1 : Hid (Q w w1) := (qa.out _ _ _ _).trans q1
  have p0 : w1.cell? ⟨w.heap.size, 0, none⟩ = some (.int .i64 sp) := q1.cell (by simp [go_sem])
  have p1 : w1.cell? ⟨w.heap.size, 1, none⟩ = some (.slice ad n cap) := q1.cell (by simp [go_sem])
  have r0 : w1.cell? ⟨w.heap.size + 1, 0, none⟩ = some (.int .i64 sp') := q1.cell (by simp [go_sem])
  have r1 : w1.cell? ⟨w.heap.size + 1, 1, none⟩ = some (.slice ad' n' cap') := q1.cell (by simp [go_sem])
  clear q1 qa
  go_wp2_with fail
  refine (pcheck_any w1 sp _ D (HD.out.next HQ1.out) HL.out HDL.out.2).mono ?_
  rintro e w2 ⟨rfl, q2⟩
  have HQ2 : Hid (Q w w2) := HQ1.out.trans q2
  replace p0 := q2.cell p0
  replace p1 := q2.cell p1
  replace r0 := q2.cell r0
  replace r1 := q2.cell r1
  have HD2 : Hid (DSl w2 (.slice ad n cap) D) := (HD.out.next HQ1.out).next q2
  have HE2 : Hid (DSl w2 (.slice ad' n' cap') D') := (HE.out.next HQ1.out).next q2
  obtain ⟨c, hc⟩ : ∃ c, chkP sp D = c := ⟨_, rfl⟩
  have HC : Hid (chkP sp D = c) := hc
  rw [hc]
  clear q2 hc HD HE HQ1
  go_wp2_with fail
  refine (l1 c w2).mono ?_
  rintro e w2' ⟨rfl, rfl⟩
  rcases Decidable.em (¬ c = 0) with h0 | h0
  · have h1 : (c != 0) = true := by rw [bne_iff_ne]; exact h0
    have h2 : (c == 0) = false := by rw [beq_eq_false_iff_ne]; exact h0
    go_wp2_with fail
    go_ret
    exact ⟨rfl, HQ2.out⟩
  replace h0 := Decidable.not_not.1 h0
  subst h0
  go_wp2_with fail
  refine (pcheck_any w2' sp' _ D' HE2.out HL'.out HEL.out.2).mono ?_
  rintro e w3 ⟨rfl, q3⟩
  have HQ3 : Hid (Q w w3) := HQ2.out.trans q3
  replace p0 := q3.cell p0
  replace p1 := q3.cell p1
  replace r0 := q3.cell r0
  replace r1 := q3.cell r1
  have HD3 : Hid (DSl w3 (.slice ad n cap) D) := HD2.out.next q3
  have HE3 : Hid (DSl w3 (.slice ad' n' cap') D') := HE2.out.next q3
  obtain ⟨c', hc'⟩ : ∃ c', chkP sp' D' = c' := ⟨_, rfl⟩
  have HC' : Hid (chkP sp' D' = c') := hc'
  rw [hc']
  clear q3 hc' HD2 HE2 HQ2
  go_wp2_with fail
  refine (l1 c' w3).mono ?_
  rintro e w3' ⟨rfl, rfl⟩
  rcases Decidable.em (¬ c' = 0) with h0 | h0
  · have h1 : (c' != 0) = true := by rw [bne_iff_ne]; exact h0
    have h2 : (c' == 0) = false := by rw [beq_eq_false_iff_ne]; exact h0
    go_wp2_with fail
    go_ret
    exact ⟨rfl, HQ3.out⟩
  replace h0 := Decidable.not_not.1 h0
  subst h0
  obtain ⟨g, o, cap1, a, b, L, e1, e2, e3, e4, e5⟩ := chkP_zero HD3.out HC.out HT.out
  injection e1 with e1 e6 e7
  have HN : Hid (L.length = n) := e6.symm
  subst e1 e7
  rw [← e6] at e2 e4
  have HP : Hid (Pc w3' g o a b L) := e3
  have HSP : Hid (spcB sp (n : Int) = true) := e4
  have n1 : 1 ≤ n := by rw [e6]; exact e3.n1
  have n4 : n ≤ 4 := by rw [e6]; exact e3.n4
  have hcap : n ≤ cap := e2
  clear e2 e3 e4 e5 e6 HD3 HC
  obtain ⟨g', o', cap1, a', b', L', e1, e2, e3, e4, e5⟩ := chkP_zero HE3.out HC'.out HT'.out
  injection e1 with e1 e6 e7
  have HN' : Hid (L'.length = n') := e6.symm
  subst e1 e7
  rw [← e6] at e2 e4
  have HR : Hid (Pc w3' g' o' a' b' L') := e3
  have HSP' : Hid (spcB sp' (n' : Int) = true) := e4
  have n1' : 1 ≤ n' := by rw [e6]; exact e3.n1
  have n4' : n' ≤ 4 := by rw [e6]; exact e3.n4
  have hcap' : n' ≤ cap' := e2
  clear e2 e3 e4 e5 e6 HE3 HC' HL HT HL' HT' HDL HEL hD hD'
  go_wp2_with fail
  refine (affine_good 1065353216 2147483648 (by decide) (by decide) w3' sp (-1) g o cap a b n L HP.out HN.out hcap HSP.out (Or.inl rfl)).mono ?_
  rintro e w4 ⟨ga, ca, MA, rfl, hMA, HWMA, q4⟩
  have HMA : Hid (MA.map PL.S = chgL (affineV 1065353216 2147483648) (-1) 0 (L.map PL.S)) := hMA
  have HLA : Hid (MA.length = n) := by have := congrArg List.length hMA; rw [List.length_map, chgL_len, List.length_map] at this; exact this.trans HN.out
  have hca : n ≤ ca := by have h1 := HWMA.out.room; have := HLA.out; omega
  have QN0 : Q w3' (w4.alloc (Obj.cells #[Value.int IntKind.i64 sp, Value.slice (some { block := ga, off := 0 }) n ca] 24)) := q4.cells _ _
  have HP4 : Hid (Pc (w4.alloc (Obj.cells #[Value.int IntKind.i64 sp, Value.slice (some { block := ga, off := 0 }) n ca] 24)) g o a b L) := HP.out.next QN0
  have HR4 : Hid (Pc (w4.alloc (Obj.cells #[Value.int IntKind.i64 sp, Value.slice (some { block := ga, off := 0 }) n ca] 24)) g' o' a' b' L') := HR.out.next QN0
  have HA4 : Hid (Pc (w4.alloc (Obj.cells #[Value.int IntKind.i64 sp, Value.slice (some { block := ga, off := 0 }) n ca] 24)) ga 0 a b MA) := HWMA.out.pc.next ((Q.refl w4).cells _ _)
  have HQ4 : Hid (Q w (w4.alloc (Obj.cells #[Value.int IntKind.i64 sp, Value.slice (some { block := ga, off := 0 }) n ca] 24))) := HQ3.out.trans QN0
  have t0 : (w4.alloc (Obj.cells #[Value.int IntKind.i64 sp, Value.slice (some { block := ga, off := 0 }) n ca] 24)).cell? ⟨w4.heap.size, 0, none⟩ = some (.int .i64 sp) := by simp [go_sem]
  have t1 : (w4.alloc (Obj.cells #[Value.int IntKind.i64 sp, Value.slice (some { block := ga, off := 0 }) n ca] 24)).cell? ⟨w4.heap.size, 1, none⟩ = some (.slice (some ⟨ga, 0, none⟩) n ca) := by simp [go_sem]
  replace p0 := QN0.cell p0
  replace p1 := QN0.cell p1
  replace r0 := QN0.cell r0
  replace r1 := QN0.cell r1
  clear hMA HWMA q4 HP HR HQ3
  go_wp2_with (go_at_call 5; refine (l1 _ _).mono ?_; rintro e w1 ⟨rfl, rfl⟩)
  generalize (w4.alloc (Obj.cells #[Value.int IntKind.i64 sp, Value.slice (some { block := ga, off := 0 }) n ca] 24)) = w5 at *
  generalize w4.heap.size = B1 at *
  generalize w.heap.size = B0 at *
  clear QN0
  go_loopg [12] n (fun m s12 wx => ∃ k : Nat, s12 = .int .i64 k ∧ k + m = n ∧ Hid (Q w5 wx))
  case atStart => exact ⟨0, rfl, by omega, Q.refl w5⟩
  case round =>
    obtain ⟨k, rfl, hkm, HQr⟩ := hrel
    have u1 := HQr.out.cell p1
    by_cases hk : k < n
    · have hk0 : (0 : Int) ≤ (k : Int) := by omega
      have hk1 : (k : Int) < (n : Int) := by omega
      obtain ⟨x, hx⟩ : ∃ x, L[k]? = some x := ⟨_, List.getElem?_eq_getElem (by rw [HN.out]; exact hk)⟩
      obtain ⟨y, hy⟩ : ∃ y, MA[k]? = some y := ⟨_, List.getElem?_eq_getElem (by rw [HLA.out]; exact hk)⟩
      have HXG : Hid (Gd w5 (a * b) x) := HP4.out.it x (List.mem_of_getElem? hx)
      have HYG : Hid (Gd w5 (a * b) y) := HA4.out.it y (List.mem_of_getElem? hy)
      have HXY : Hid (∀ i, i < a * b → y.S.getD i 0 = madeN (x.S.getD i 0)) := by
        show ∀ i, i < a * b → _
        intro i hi
        have h1 : (MA.map PL.S)[k]? = some y.S := by rw [List.getElem?_map, hy]; rfl
        have h2 : (L.map PL.S)[k]? = some x.S := by rw [List.getElem?_map, hx]; rfl
        rw [HMA.out] at h1
        exact (chg_get h2 h1 (by rw [HXG.out.len]; exact hi)).trans (affine_one (HXG.out.lt i))
      obtain ⟨_, _, x3⟩ := HP4.out.row k x hx
      obtain ⟨_, _, y3⟩ := HA4.out.row k y hy
      unfold PL.v at x3 y3
      rw [HXG.out.len] at x3
      rw [HYG.out.len] at y3
      obtain ⟨N, hN⟩ : ∃ N, a * b = N := ⟨_, rfl⟩
      have HNN : Hid (a * b = N) := hN
      have hNm : N ≤ 9223372036854775807 := by have := HP4.out.size.ab; omega
      rw [hN] at x3 y3
      rw [Nat.zero_add] at y3
      have x4 := HQr.out.cell x3
      clear hN hx hy
      go_wp2_with fail
      go_loopg [13] N (fun m s13 wx => ∃ i : Nat, s13 = .int .i64 i ∧ i + m = N ∧ Hid (Q w5 wx))
      case atStart => exact ⟨0, rfl, by omega, HQr⟩
      case round =>
        obtain ⟨i, rfl, him, HQi⟩ := hrel
        have v1 := HQi.out.cell p1
        have v3 := HQi.out.cell x3
        clear u1 x4
        by_cases hi : i < N
        · have hi0 : (0 : Int) ≤ (i : Int) := by omega
          have hi1 : (i : Int) < (N : Int) := by omega
          have v4 := HQi.out.cell (HXG.out.us i (by rw [HXG.out.len, HNN.out]; exact hi))
          have z1 := HQi.out.cell t1
          have z3 := HQi.out.cell y3
          have z4 := HQi.out.cell (HYG.out.us i (by rw [HYG.out.len, HNN.out]; exact hi))
          rw [HXY.out i (by rw [HNN.out]; exact hi)] at z4
          have hpl := HXG.out.lt i
          generalize x.S.getD i 0 = p at *
          have hp0 : (0 : Int) ≤ (p : Int) := by omega
          have hp1 : (p : Int) ≤ 4294967295 := by omega
          have hpp : ((p : Int) == (p : Int)) = true := by simp
          have hpq : ((p : Int) != (p : Int)) = false := by simp
          rcases Decidable.em (p / 8388608 % 256 = 255) with d1 | d1
          · have b1 : ((p : Int) / 8388608 % 256 == 255) = true := by rw [beq_iff_eq]; omega
            rcases Decidable.em (p % 8388608 = 0) with d2 | d2
            · have b2 : ((p : Int) % 8388608 != 0) = false := by rw [bne_eq_false_iff_eq]; omega
              have b3 : ((p : Int) % 8388608 == 0) = true := by rw [beq_iff_eq]; omega
              have em : madeN p = p := by unfold madeN; rw [if_neg (by rw [nanN_dig hpl]; simp; omega)]
              rw [em] at z4
              clear em d1 d2
              go_wp2_with fail
              go_roundg (N - (i + 1))
              case measure => go_light; omega
              case rel => go_light; exact ⟨i + 1, by go_num, by omega, HQi⟩
            · have b2 : ((p : Int) % 8388608 != 0) = true := by rw [bne_iff_ne]; omega
              have b3 : ((p : Int) % 8388608 == 0) = false := by rw [beq_eq_false_iff_ne]; omega
              have em : madeN p = 2143289344 := by unfold madeN; rw [if_pos (by rw [nanN_dig hpl]; simp; omega)]
              rw [em] at z4
              clear em d1 d2
              go_wp2_with fail
              go_roundg (N - (i + 1))
              case measure => go_light; omega
              case rel => go_light; exact ⟨i + 1, by go_num, by omega, HQi⟩
          · have b1 : ((p : Int) / 8388608 % 256 == 255) = false := by rw [beq_eq_false_iff_ne]; omega
            have em : madeN p = p := by unfold madeN; rw [if_neg (by rw [nanN_dig hpl]; simp; omega)]
            rw [em] at z4
            clear em d1
            go_wp2_with fail
            go_roundg (N - (i + 1))
            case measure => go_light; omega
            case rel => go_light; exact ⟨i + 1, by go_num, by omega, HQi⟩
        · have hie : i = N := by omega
          go_wp2_with fail
          go_roundg (n - (k + 1))
          case measure => go_light; omega
          case rel => go_light; exact ⟨k + 1, by go_num, by omega, HQi⟩
    · have hke : k = n := by omega
      clear hkm hk
      obtain ⟨x0, hx0⟩ : ∃ x, L[0]? = some x := ⟨_, List.getElem?_eq_getElem (by rw [HN.out]; omega)⟩
      obtain ⟨c0, c1, _⟩ := HP4.out.row 0 x0 hx0
      rw [Nat.zero_mul, Nat.add_zero] at c0 c1
      replace c0 := HQr.out.cell c0
      replace c1 := HQr.out.cell c1
      have n0 := qw_some wr
      have f0 := qw_cell c0
      have f1 := qw_cell c1
      have f2 := qw_cell u1
      have hn0 : (0 : Int) < (n : Int) := by omega
      have hn0' : 0 < n := by omega
      clear hx0
      go_wp2_with fail
      refine wp_region_quiet_Q (by kernel_rfl) (by kernel_rfl) ?_
      repeat (first | go_big_quiet_step (fail) | quiet_step (fail))
      refine wpQuiet_nil ?_
      intro w6 hw6'
      have hw6 := qw_out hw6'
      clear f0 f1 f2 n0 c0 c1 u1 hw6'
      have q6 : Q w5 w6 := HQr.out.trans hw6
      have HP6 : Hid (Pc w6 g o a b L) := HP4.out.next q6
      have HR6 : Hid (Pc w6 g' o' a' b' L') := HR4.out.next q6
      have HQ6 : Hid (Q w w6) := HQ4.out.trans q6
      replace p0 := q6.cell p0
      replace p1 := q6.cell p1
      replace r0 := q6.cell r0
      replace r1 := q6.cell r1
      clear q6 hw6 HQr HP4 HR4 HA4 HQ4 t0 t1 HMA HLA hca
      go_wp2_with fail
      rcases Nat.lt_or_ge n 3 with n3 | n3
      · refine (matrix_80 idM w6 sp g o cap a b n L HP6.out HN.out hcap n3 HSP.out).mono ?_
        rintro e w7 ⟨rfl, q7⟩
        have QN0 : Q w6 (w7.alloc (Obj.cells #[Value.int IntKind.i64 0, Value.slice none 0 0] 24)) := q7.cells _ _
        have HP8 : Hid (Pc (w7.alloc (Obj.cells #[Value.int IntKind.i64 0, Value.slice none 0 0] 24)) g o a b L) := HP6.out.next QN0
        have HR8 : Hid (Pc (w7.alloc (Obj.cells #[Value.int IntKind.i64 0, Value.slice none 0 0] 24)) g' o' a' b' L') := HR6.out.next QN0
        have HQ8 : Hid (Q w (w7.alloc (Obj.cells #[Value.int IntKind.i64 0, Value.slice none 0 0] 24))) := HQ6.out.trans QN0
        replace p0 := QN0.cell p0
        replace p1 := QN0.cell p1
        replace r0 := QN0.cell r0
        replace r1 := QN0.cell r1
        clear q7 HP6 HR6 HQ6 QN0
        go_wp2_with fail
        generalize (w7.alloc (Obj.cells #[Value.int IntKind.i64 0, Value.slice none 0 0] 24)) = w8 at *
        generalize w7.heap.size = B2 at *
        go_loopg [20] 0 (fun m s20 wx => s20 = .int .i64 0 ∧ Hid (Q w8 wx))
        case atStart => exact ⟨rfl, Q.refl w8⟩
        case round =>
          obtain ⟨rfl, HQr⟩ := hrel
          have HPt : Hid (Pc wr g o a b L) := HP8.out.next HQr.out
          have HRt : Hid (Pc wr g' o' a' b' L') := HR8.out.next HQr.out
          have HQt : Hid (Q w wr) := HQ8.out.trans HQr.out
          replace p0 := HQr.out.cell p0
          replace p1 := HQr.out.cell p1
          replace r0 := HQr.out.cell r0
          replace r1 := HQr.out.cell r1
          clear HP8 HR8 HQ8
          go_wp2_with (go_at_call 5; refine (l1 _ _).mono ?_; rintro e w1 ⟨rfl, hw⟩; obtain rfl := hw.symm)
          have hge := HPt.out.size.a1
          refine (new8_good sp n a b HPt.out.size lo hlo n1 n4 HSP.out wr).mono ?_
          rintro e uA ⟨gA, cA, MA, rfl, hMA, HWA, qA⟩
          have HMA : Hid (MA.map PL.S = List.replicate n (sameS a b lo)) := hMA
          have HLA : Hid (MA.length = n) := by have := congrArg List.length hMA; rw [List.length_map, List.length_replicate] at this; first | exact this | exact this.trans HN.out | (rw [HLC.out] at this; exact this) | (rw [HN'.out] at this; exact this)
          have hcA : n ≤ cA := by have h1 := HWA.out.room; have := HLA.out; omega
          have QN : Q wr (uA.alloc (Obj.cells #[Value.int IntKind.i64 sp, Value.slice (some { block := gA, off := 0 }) n cA] 24)) := qA.cells _ _
          have HQn : Hid (Q w (uA.alloc (Obj.cells #[Value.int IntKind.i64 sp, Value.slice (some { block := gA, off := 0 }) n cA] 24))) := HQt.out.trans QN
          clear HQt
          replace HPt : Hid (Pc (uA.alloc (Obj.cells #[Value.int IntKind.i64 sp, Value.slice (some { block := gA, off := 0 }) n cA] 24)) g o a b L) := HPt.out.next QN
          replace HRt : Hid (Pc (uA.alloc (Obj.cells #[Value.int IntKind.i64 sp, Value.slice (some { block := gA, off := 0 }) n cA] 24)) g' o' a' b' L') := HRt.out.next QN
          have HPA : Hid (Pc (uA.alloc (Obj.cells #[Value.int IntKind.i64 sp, Value.slice (some { block := gA, off := 0 }) n cA] 24)) gA 0 a b MA) := HWA.out.pc.next ((Q.refl uA).cells _ _)
          replace p0 := QN.cell p0
          replace p1 := QN.cell p1
          replace r0 := QN.cell r0
          replace r1 := QN.cell r1
          have sA0 : (uA.alloc (Obj.cells #[Value.int IntKind.i64 sp, Value.slice (some { block := gA, off := 0 }) n cA] 24)).cell? ⟨uA.heap.size, 0, none⟩ = some (.int .i64 sp) := by simp [go_sem]
          have sA1 : (uA.alloc (Obj.cells #[Value.int IntKind.i64 sp, Value.slice (some { block := gA, off := 0 }) n cA] 24)).cell? ⟨uA.heap.size, 1, none⟩ = some (.slice (some ⟨gA, 0, none⟩) n cA) := by simp [go_sem]
          clear hMA HWA qA
          go_wp2_with (go_at_call 5; refine (l1 _ _).mono ?_; rintro e w1 ⟨rfl, hw⟩; obtain rfl := hw.symm)
          generalize (uA.alloc (Obj.cells #[Value.int IntKind.i64 sp, Value.slice (some { block := gA, off := 0 }) n cA] 24)) = wA at *
          generalize uA.heap.size = BA at *
          clear QN
          have HQt := HQn
          clear HQn
          refine (new8_good sp n a b HPt.out.size hi hhi n1 n4 HSP.out wA).mono ?_
          rintro e uB ⟨gB, cB, MB, rfl, hMB, HWB, qB⟩
          have HMB : Hid (MB.map PL.S = List.replicate n (sameS a b hi)) := hMB
          have HLB : Hid (MB.length = n) := by have := congrArg List.length hMB; rw [List.length_map, List.length_replicate] at this; first | exact this | exact this.trans HN.out | (rw [HLC.out] at this; exact this) | (rw [HN'.out] at this; exact this)
          have hcB : n ≤ cB := by have h1 := HWB.out.room; have := HLB.out; omega
          have QN : Q wA (uB.alloc (Obj.cells #[Value.int IntKind.i64 sp, Value.slice (some { block := gB, off := 0 }) n cB] 24)) := qB.cells _ _
          have HQn : Hid (Q w (uB.alloc (Obj.cells #[Value.int IntKind.i64 sp, Value.slice (some { block := gB, off := 0 }) n cB] 24))) := HQt.out.trans QN
          clear HQt
          replace HPt : Hid (Pc (uB.alloc (Obj.cells #[Value.int IntKind.i64 sp, Value.slice (some { block := gB, off := 0 }) n cB] 24)) g o a b L) := HPt.out.next QN
          replace HRt : Hid (Pc (uB.alloc (Obj.cells #[Value.int IntKind.i64 sp, Value.slice (some { block := gB, off := 0 }) n cB] 24)) g' o' a' b' L') := HRt.out.next QN
          replace HPA : Hid (Pc (uB.alloc (Obj.cells #[Value.int IntKind.i64 sp, Value.slice (some { block := gB, off := 0 }) n cB] 24)) gA 0 a b MA) := HPA.out.next QN
          have HPB : Hid (Pc (uB.alloc (Obj.cells #[Value.int IntKind.i64 sp, Value.slice (some { block := gB, off := 0 }) n cB] 24)) gB 0 a b MB) := HWB.out.pc.next ((Q.refl uB).cells _ _)
          replace p0 := QN.cell p0
          replace p1 := QN.cell p1
          replace r0 := QN.cell r0
          replace r1 := QN.cell r1
          replace sA0 := QN.cell sA0
          replace sA1 := QN.cell sA1
          have sB0 : (uB.alloc (Obj.cells #[Value.int IntKind.i64 sp, Value.slice (some { block := gB, off := 0 }) n cB] 24)).cell? ⟨uB.heap.size, 0, none⟩ = some (.int .i64 sp) := by simp [go_sem]
          have sB1 : (uB.alloc (Obj.cells #[Value.int IntKind.i64 sp, Value.slice (some { block := gB, off := 0 }) n cB] 24)).cell? ⟨uB.heap.size, 1, none⟩ = some (.slice (some ⟨gB, 0, none⟩) n cB) := by simp [go_sem]
          clear hMB HWB qB
          go_wp2_with (go_at_call 5; refine (l1 _ _).mono ?_; rintro e w1 ⟨rfl, hw⟩; obtain rfl := hw.symm)
          generalize (uB.alloc (Obj.cells #[Value.int IntKind.i64 sp, Value.slice (some { block := gB, off := 0 }) n cB] 24)) = wB at *
          generalize uB.heap.size = BB at *
          clear QN
          have HQt := HQn
          clear HQn
          refine (two_good kind_great wB sp g o cap gA 0 cA a b n L MA HPt.out HN.out hcap HPA.out HLA.out hcA HSP.out).mono ?_
          rintro e uC ⟨gC, cC, MC, rfl, hMC, HWC, qC⟩
          have HMC : Hid (MC.map PL.S = zTo greatG (L.map PL.S) (MA.map PL.S) n) := hMC
          have HLC : Hid (MC.length = n) := by have := congrArg List.length hMC; rw [List.length_map, zTo_len, List.length_map] at this; first | exact this | exact this.trans HN.out | (rw [HLC.out] at this; exact this) | (rw [HN'.out] at this; exact this)
          have hcC : n ≤ cC := by have h1 := HWC.out.room; have := HLC.out; omega
          have QN : Q wB (uC.alloc (Obj.cells #[Value.int IntKind.i64 sp, Value.slice (some { block := gC, off := 0 }) n cC] 24)) := qC.cells _ _
          have HQn : Hid (Q w (uC.alloc (Obj.cells #[Value.int IntKind.i64 sp, Value.slice (some { block := gC, off := 0 }) n cC] 24))) := HQt.out.trans QN
          clear HQt
          replace HPt : Hid (Pc (uC.alloc (Obj.cells #[Value.int IntKind.i64 sp, Value.slice (some { block := gC, off := 0 }) n cC] 24)) g o a b L) := HPt.out.next QN
          replace HRt : Hid (Pc (uC.alloc (Obj.cells #[Value.int IntKind.i64 sp, Value.slice (some { block := gC, off := 0 }) n cC] 24)) g' o' a' b' L') := HRt.out.next QN
          replace HPA : Hid (Pc (uC.alloc (Obj.cells #[Value.int IntKind.i64 sp, Value.slice (some { block := gC, off := 0 }) n cC] 24)) gA 0 a b MA) := HPA.out.next QN
          replace HPB : Hid (Pc (uC.alloc (Obj.cells #[Value.int IntKind.i64 sp, Value.slice (some { block := gC, off := 0 }) n cC] 24)) gB 0 a b MB) := HPB.out.next QN
          have HPC : Hid (Pc (uC.alloc (Obj.cells #[Value.int IntKind.i64 sp, Value.slice (some { block := gC, off := 0 }) n cC] 24)) gC 0 a b MC) := HWC.out.pc.next ((Q.refl uC).cells _ _)
          replace p0 := QN.cell p0
          replace p1 := QN.cell p1
          replace r0 := QN.cell r0
          replace r1 := QN.cell r1
          replace sA0 := QN.cell sA0
          replace sA1 := QN.cell sA1
          replace sB0 := QN.cell sB0
          replace sB1 := QN.cell sB1
          have sC0 : (uC.alloc (Obj.cells #[Value.int IntKind.i64 sp, Value.slice (some { block := gC, off := 0 }) n cC] 24)).cell? ⟨uC.heap.size, 0, none⟩ = some (.int .i64 sp) := by simp [go_sem]
          have sC1 : (uC.alloc (Obj.cells #[Value.int IntKind.i64 sp, Value.slice (some { block := gC, off := 0 }) n cC] 24)).cell? ⟨uC.heap.size, 1, none⟩ = some (.slice (some ⟨gC, 0, none⟩) n cC) := by simp [go_sem]
          clear hMC HWC qC
          go_wp2_with (go_at_call 5; refine (l1 _ _).mono ?_; rintro e w1 ⟨rfl, hw⟩; obtain rfl := hw.symm)
          generalize (uC.alloc (Obj.cells #[Value.int IntKind.i64 sp, Value.slice (some { block := gC, off := 0 }) n cC] 24)) = wC at *
          generalize uC.heap.size = BC at *
          clear QN
          have HQt := HQn
          clear HQn
          refine (two_good kind_least wC sp gC 0 cC gB 0 cB a b n MC MB HPC.out HLC.out hcC HPB.out HLB.out hcB HSP.out).mono ?_
          rintro e uD ⟨gD, cD, MD, rfl, hMD, HWD, qD⟩
          have HMD : Hid (MD.map PL.S = zTo leastG (MC.map PL.S) (MB.map PL.S) n) := hMD
          have HLD : Hid (MD.length = n) := by have := congrArg List.length hMD; rw [List.length_map, zTo_len, List.length_map] at this; first | exact this | exact this.trans HN.out | (rw [HLC.out] at this; exact this) | (rw [HN'.out] at this; exact this)
          have hcD : n ≤ cD := by have h1 := HWD.out.room; have := HLD.out; omega
          have QN : Q wC (uD.alloc (Obj.cells #[Value.int IntKind.i64 sp, Value.slice (some { block := gD, off := 0 }) n cD] 24)) := qD.cells _ _
          have HQn : Hid (Q w (uD.alloc (Obj.cells #[Value.int IntKind.i64 sp, Value.slice (some { block := gD, off := 0 }) n cD] 24))) := HQt.out.trans QN
          clear HQt
          replace HPt : Hid (Pc (uD.alloc (Obj.cells #[Value.int IntKind.i64 sp, Value.slice (some { block := gD, off := 0 }) n cD] 24)) g o a b L) := HPt.out.next QN
          replace HRt : Hid (Pc (uD.alloc (Obj.cells #[Value.int IntKind.i64 sp, Value.slice (some { block := gD, off := 0 }) n cD] 24)) g' o' a' b' L') := HRt.out.next QN
          replace HPA : Hid (Pc (uD.alloc (Obj.cells #[Value.int IntKind.i64 sp, Value.slice (some { block := gD, off := 0 }) n cD] 24)) gA 0 a b MA) := HPA.out.next QN
          replace HPB : Hid (Pc (uD.alloc (Obj.cells #[Value.int IntKind.i64 sp, Value.slice (some { block := gD, off := 0 }) n cD] 24)) gB 0 a b MB) := HPB.out.next QN
          replace HPC : Hid (Pc (uD.alloc (Obj.cells #[Value.int IntKind.i64 sp, Value.slice (some { block := gD, off := 0 }) n cD] 24)) gC 0 a b MC) := HPC.out.next QN
          have HPD : Hid (Pc (uD.alloc (Obj.cells #[Value.int IntKind.i64 sp, Value.slice (some { block := gD, off := 0 }) n cD] 24)) gD 0 a b MD) := HWD.out.pc.next ((Q.refl uD).cells _ _)
          replace p0 := QN.cell p0
          replace p1 := QN.cell p1
          replace r0 := QN.cell r0
          replace r1 := QN.cell r1
          replace sA0 := QN.cell sA0
          replace sA1 := QN.cell sA1
          replace sB0 := QN.cell sB0
          replace sB1 := QN.cell sB1
          replace sC0 := QN.cell sC0
          replace sC1 := QN.cell sC1
          have sD0 : (uD.alloc (Obj.cells #[Value.int IntKind.i64 sp, Value.slice (some { block := gD, off := 0 }) n cD] 24)).cell? ⟨uD.heap.size, 0, none⟩ = some (.int .i64 sp) := by simp [go_sem]
          have sD1 : (uD.alloc (Obj.cells #[Value.int IntKind.i64 sp, Value.slice (some { block := gD, off := 0 }) n cD] 24)).cell? ⟨uD.heap.size, 1, none⟩ = some (.slice (some ⟨gD, 0, none⟩) n cD) := by simp [go_sem]
          clear hMD HWD qD
          go_wp2_with (go_at_call 5; refine (l1 _ _).mono ?_; rintro e w1 ⟨rfl, hw⟩; obtain rfl := hw.symm)
          generalize (uD.alloc (Obj.cells #[Value.int IntKind.i64 sp, Value.slice (some { block := gD, off := 0 }) n cD] 24)) = wD at *
          generalize uD.heap.size = BD at *
          clear QN
          have HQt := HQn
          clear HQn
          refine (bounds_good lo hi hlo hhi wD sp (-1) g o cap a b n L HPt.out HN.out hcap HSP.out (Or.inl rfl)).mono ?_
          rintro e uE ⟨gE, cE, ME, rfl, hME, HWE, qE⟩
          have HME : Hid (ME.map PL.S = chgL (boundsV lo hi) (-1) 0 (L.map PL.S)) := hME
          have HLE : Hid (ME.length = n) := by have := congrArg List.length hME; rw [List.length_map, chgL_len, List.length_map] at this; first | exact this | exact this.trans HN.out | (rw [HLC.out] at this; exact this) | (rw [HN'.out] at this; exact this)
          have hcE : n ≤ cE := by have h1 := HWE.out.room; have := HLE.out; omega
          have QN : Q wD (uE.alloc (Obj.cells #[Value.int IntKind.i64 sp, Value.slice (some { block := gE, off := 0 }) n cE] 24)) := qE.cells _ _
          have HQn : Hid (Q w (uE.alloc (Obj.cells #[Value.int IntKind.i64 sp, Value.slice (some { block := gE, off := 0 }) n cE] 24))) := HQt.out.trans QN
          clear HQt
          replace HPt : Hid (Pc (uE.alloc (Obj.cells #[Value.int IntKind.i64 sp, Value.slice (some { block := gE, off := 0 }) n cE] 24)) g o a b L) := HPt.out.next QN
          replace HRt : Hid (Pc (uE.alloc (Obj.cells #[Value.int IntKind.i64 sp, Value.slice (some { block := gE, off := 0 }) n cE] 24)) g' o' a' b' L') := HRt.out.next QN
          replace HPA : Hid (Pc (uE.alloc (Obj.cells #[Value.int IntKind.i64 sp, Value.slice (some { block := gE, off := 0 }) n cE] 24)) gA 0 a b MA) := HPA.out.next QN
          replace HPB : Hid (Pc (uE.alloc (Obj.cells #[Value.int IntKind.i64 sp, Value.slice (some { block := gE, off := 0 }) n cE] 24)) gB 0 a b MB) := HPB.out.next QN
          replace HPC : Hid (Pc (uE.alloc (Obj.cells #[Value.int IntKind.i64 sp, Value.slice (some { block := gE, off := 0 }) n cE] 24)) gC 0 a b MC) := HPC.out.next QN
          replace HPD : Hid (Pc (uE.alloc (Obj.cells #[Value.int IntKind.i64 sp, Value.slice (some { block := gE, off := 0 }) n cE] 24)) gD 0 a b MD) := HPD.out.next QN
          have HPE : Hid (Pc (uE.alloc (Obj.cells #[Value.int IntKind.i64 sp, Value.slice (some { block := gE, off := 0 }) n cE] 24)) gE 0 a b ME) := HWE.out.pc.next ((Q.refl uE).cells _ _)
          replace p0 := QN.cell p0
          replace p1 := QN.cell p1
          replace r0 := QN.cell r0
          replace r1 := QN.cell r1
          replace sA0 := QN.cell sA0
          replace sA1 := QN.cell sA1
          replace sB0 := QN.cell sB0
          replace sB1 := QN.cell sB1
          replace sC0 := QN.cell sC0
          replace sC1 := QN.cell sC1
          replace sD0 := QN.cell sD0
          replace sD1 := QN.cell sD1
          have sE0 : (uE.alloc (Obj.cells #[Value.int IntKind.i64 sp, Value.slice (some { block := gE, off := 0 }) n cE] 24)).cell? ⟨uE.heap.size, 0, none⟩ = some (.int .i64 sp) := by simp [go_sem]
          have sE1 : (uE.alloc (Obj.cells #[Value.int IntKind.i64 sp, Value.slice (some { block := gE, off := 0 }) n cE] 24)).cell? ⟨uE.heap.size, 1, none⟩ = some (.slice (some ⟨gE, 0, none⟩) n cE) := by simp [go_sem]
          clear hME HWE qE
          go_wp2_with (go_at_call 5; refine (l1 _ _).mono ?_; rintro e w1 ⟨rfl, hw⟩; obtain rfl := hw.symm)
          generalize (uE.alloc (Obj.cells #[Value.int IntKind.i64 sp, Value.slice (some { block := gE, off := 0 }) n cE] 24)) = wE at *
          generalize uE.heap.size = BE at *
          clear QN
          have HQt := HQn
          clear HQn
          have HDE : Hid (MD.map PL.S = ME.map PL.S) := by show _ = _; rw [HMD.out, HMC.out, HMA.out, HMB.out, HME.out]; exact bounds_all (by rw [List.length_map]; exact HN.out) HPt.out.lens
          clear HMA HMB HMC HMD HME HPA HPB HPC sA0 sA1 sB0 sB1 sC0 sC1 HLA HLB HLC hcA hcB hcC
          rcases Decidable.em (n = n' ∧ a = a' ∧ b = b' ∧ sp = sp') with ⟨rfl, rfl, rfl, rfl⟩ | hsame
          · refine (two_good kind_least wE sp g o cap g' o' cap' a b n L L' HPt.out HN.out hcap HRt.out HN'.out hcap' HSP.out).mono ?_
            rintro e uF ⟨gF, cF, MF, rfl, hMF, HWF, qF⟩
            have HMF : Hid (MF.map PL.S = zTo leastG (L.map PL.S) (L'.map PL.S) n) := hMF
            have HLF : Hid (MF.length = n) := by have := congrArg List.length hMF; rw [List.length_map, zTo_len, List.length_map] at this; first | exact this | exact this.trans HN.out | (rw [HLC.out] at this; exact this) | (rw [HN'.out] at this; exact this)
            have hcF : n ≤ cF := by have h1 := HWF.out.room; have := HLF.out; omega
            have QN : Q wE (uF.alloc (Obj.cells #[Value.int IntKind.i64 sp, Value.slice (some { block := gF, off := 0 }) n cF] 24)) := qF.cells _ _
            have HQn : Hid (Q w (uF.alloc (Obj.cells #[Value.int IntKind.i64 sp, Value.slice (some { block := gF, off := 0 }) n cF] 24))) := HQt.out.trans QN
            clear HQt
            replace HPt : Hid (Pc (uF.alloc (Obj.cells #[Value.int IntKind.i64 sp, Value.slice (some { block := gF, off := 0 }) n cF] 24)) g o a b L) := HPt.out.next QN
            replace HRt : Hid (Pc (uF.alloc (Obj.cells #[Value.int IntKind.i64 sp, Value.slice (some { block := gF, off := 0 }) n cF] 24)) g' o' a b L') := HRt.out.next QN
            replace HPD : Hid (Pc (uF.alloc (Obj.cells #[Value.int IntKind.i64 sp, Value.slice (some { block := gF, off := 0 }) n cF] 24)) gD 0 a b MD) := HPD.out.next QN
            replace HPE : Hid (Pc (uF.alloc (Obj.cells #[Value.int IntKind.i64 sp, Value.slice (some { block := gF, off := 0 }) n cF] 24)) gE 0 a b ME) := HPE.out.next QN
            have HPF : Hid (Pc (uF.alloc (Obj.cells #[Value.int IntKind.i64 sp, Value.slice (some { block := gF, off := 0 }) n cF] 24)) gF 0 a b MF) := HWF.out.pc.next ((Q.refl uF).cells _ _)
            replace p0 := QN.cell p0
            replace p1 := QN.cell p1
            replace r0 := QN.cell r0
            replace r1 := QN.cell r1
            replace sD0 := QN.cell sD0
            replace sD1 := QN.cell sD1
            replace sE0 := QN.cell sE0
            replace sE1 := QN.cell sE1
            have sF0 : (uF.alloc (Obj.cells #[Value.int IntKind.i64 sp, Value.slice (some { block := gF, off := 0 }) n cF] 24)).cell? ⟨uF.heap.size, 0, none⟩ = some (.int .i64 sp) := by simp [go_sem]
            have sF1 : (uF.alloc (Obj.cells #[Value.int IntKind.i64 sp, Value.slice (some { block := gF, off := 0 }) n cF] 24)).cell? ⟨uF.heap.size, 1, none⟩ = some (.slice (some ⟨gF, 0, none⟩) n cF) := by simp [go_sem]
            clear hMF HWF qF
            go_wp2_with (go_at_call 5; refine (l1 _ _).mono ?_; rintro e w1 ⟨rfl, hw⟩; obtain rfl := hw.symm)
            generalize (uF.alloc (Obj.cells #[Value.int IntKind.i64 sp, Value.slice (some { block := gF, off := 0 }) n cF] 24)) = wF at *
            generalize uF.heap.size = BF at *
            clear QN
            have HQt := HQn
            clear HQn
            refine (two_good kind_least wF sp g' o' cap' g o cap a b n L' L HRt.out HN'.out hcap' HPt.out HN.out hcap HSP.out).mono ?_
            rintro e uG ⟨gG, cG, MG, rfl, hMG, HWG, qG⟩
            have HMG : Hid (MG.map PL.S = zTo leastG (L'.map PL.S) (L.map PL.S) n) := hMG
            have HLG : Hid (MG.length = n) := by have := congrArg List.length hMG; rw [List.length_map, zTo_len, List.length_map] at this; first | exact this | exact this.trans HN.out | (rw [HLC.out] at this; exact this) | (rw [HN'.out] at this; exact this)
            have hcG : n ≤ cG := by have h1 := HWG.out.room; have := HLG.out; omega
            have QN : Q wF (uG.alloc (Obj.cells #[Value.int IntKind.i64 sp, Value.slice (some { block := gG, off := 0 }) n cG] 24)) := qG.cells _ _
            have HQn : Hid (Q w (uG.alloc (Obj.cells #[Value.int IntKind.i64 sp, Value.slice (some { block := gG, off := 0 }) n cG] 24))) := HQt.out.trans QN
            clear HQt
            replace HPt : Hid (Pc (uG.alloc (Obj.cells #[Value.int IntKind.i64 sp, Value.slice (some { block := gG, off := 0 }) n cG] 24)) g o a b L) := HPt.out.next QN
            replace HRt : Hid (Pc (uG.alloc (Obj.cells #[Value.int IntKind.i64 sp, Value.slice (some { block := gG, off := 0 }) n cG] 24)) g' o' a b L') := HRt.out.next QN
            replace HPD : Hid (Pc (uG.alloc (Obj.cells #[Value.int IntKind.i64 sp, Value.slice (some { block := gG, off := 0 }) n cG] 24)) gD 0 a b MD) := HPD.out.next QN
            replace HPE : Hid (Pc (uG.alloc (Obj.cells #[Value.int IntKind.i64 sp, Value.slice (some { block := gG, off := 0 }) n cG] 24)) gE 0 a b ME) := HPE.out.next QN
            replace HPF : Hid (Pc (uG.alloc (Obj.cells #[Value.int IntKind.i64 sp, Value.slice (some { block := gG, off := 0 }) n cG] 24)) gF 0 a b MF) := HPF.out.next QN
            have HPG : Hid (Pc (uG.alloc (Obj.cells #[Value.int IntKind.i64 sp, Value.slice (some { block := gG, off := 0 }) n cG] 24)) gG 0 a b MG) := HWG.out.pc.next ((Q.refl uG).cells _ _)
            replace p0 := QN.cell p0
            replace p1 := QN.cell p1
            replace r0 := QN.cell r0
            replace r1 := QN.cell r1
            replace sD0 := QN.cell sD0
            replace sD1 := QN.cell sD1
            replace sE0 := QN.cell sE0
            replace sE1 := QN.cell sE1
            replace sF0 := QN.cell sF0
            replace sF1 := QN.cell sF1
            have sG0 : (uG.alloc (Obj.cells #[Value.int IntKind.i64 sp, Value.slice (some { block := gG, off := 0 }) n cG] 24)).cell? ⟨uG.heap.size, 0, none⟩ = some (.int .i64 sp) := by simp [go_sem]
            have sG1 : (uG.alloc (Obj.cells #[Value.int IntKind.i64 sp, Value.slice (some { block := gG, off := 0 }) n cG] 24)).cell? ⟨uG.heap.size, 1, none⟩ = some (.slice (some ⟨gG, 0, none⟩) n cG) := by simp [go_sem]
            clear hMG HWG qG
            have HFG : Hid (MF.map PL.S = MG.map PL.S) := by show _ = _; rw [HMF.out, HMG.out]; exact zTo_swap (by rw [List.length_map]; exact HN.out) (by rw [List.length_map]; exact HN'.out) HPt.out.lens HRt.out.lens least_comm
            go_wp2_with (go_at_call 5; refine (l1 _ _).mono ?_; rintro e w1 ⟨rfl, hw⟩; obtain rfl := hw.symm)
            generalize (uG.alloc (Obj.cells #[Value.int IntKind.i64 sp, Value.slice (some { block := gG, off := 0 }) n cG] 24)) = wG at *
            generalize uG.heap.size = BG at *
            clear QN
            have HQt := HQn
            clear HQn
            refine (pics_same HPD.out HPE.out HLD.out HDE.out hcD hcE).mono ?_
            rintro e z1 ⟨rfl, qz1⟩
            replace sF0 := qz1.cell sF0
            replace sF1 := qz1.cell sF1
            replace sG0 := qz1.cell sG0
            replace sG1 := qz1.cell sG1
            have HY : Hid (Pc z1 gF 0 a b MF) := HPF.out.next qz1
            have HZ : Hid (Pc z1 gG 0 a b MG) := HPG.out.next qz1
            have HQz : Hid (Q w z1) := HQt.out.trans qz1
            clear qz1
            go_wp2_with (go_at_call 5; refine (l1 _ _).mono ?_; rintro e w1 ⟨rfl, hw⟩; obtain rfl := hw.symm)
            refine (pics_same HY.out HZ.out HLF.out HFG.out hcF hcG).mono ?_
            rintro e z2 ⟨rfl, qz2⟩
            have HQy : Hid (Q w z2) := HQz.out.trans qz2
            clear qz2
            go_wp2_with fail
            go_ret
            exact ⟨rfl, HQy.out⟩
          · obtain ⟨c, E1, E2⟩ := least_err HPt.out HN.out hcap HRt.out HN'.out hcap' HSP.out HSP'.out hsame
            replace E1 := E1 wE (Q.refl wE)
            have E3 : Hid (∀ x, Q wE x → _) := E2
            clear E2
            have hcc : (c == c) = true := by simp
            refine E1.mono ?_
            rintro e uF ⟨rfl, qF⟩
            have QN : Q wE (uF.alloc (Obj.cells #[Value.int IntKind.i64 0, Value.slice none 0 0] 24)) := qF.cells _ _
            clear E1 qF
            have HQn : Hid (Q w (uF.alloc (Obj.cells #[Value.int IntKind.i64 0, Value.slice none 0 0] 24))) := HQt.out.trans QN
            clear HQt
            replace HPt : Hid (Pc (uF.alloc (Obj.cells #[Value.int IntKind.i64 0, Value.slice none 0 0] 24)) g o a b L) := HPt.out.next QN
            replace HRt : Hid (Pc (uF.alloc (Obj.cells #[Value.int IntKind.i64 0, Value.slice none 0 0] 24)) g' o' a' b' L') := HRt.out.next QN
            replace HPD : Hid (Pc (uF.alloc (Obj.cells #[Value.int IntKind.i64 0, Value.slice none 0 0] 24)) gD 0 a b MD) := HPD.out.next QN
            replace HPE : Hid (Pc (uF.alloc (Obj.cells #[Value.int IntKind.i64 0, Value.slice none 0 0] 24)) gE 0 a b ME) := HPE.out.next QN
            replace p0 := QN.cell p0
            replace p1 := QN.cell p1
            replace r0 := QN.cell r0
            replace r1 := QN.cell r1
            replace sD0 := QN.cell sD0
            replace sD1 := QN.cell sD1
            replace sE0 := QN.cell sE0
            replace sE1 := QN.cell sE1
            have sF0 : (uF.alloc (Obj.cells #[Value.int IntKind.i64 0, Value.slice none 0 0] 24)).cell? ⟨uF.heap.size, 0, none⟩ = some (.int .i64 0) := by simp [go_sem]
            have sF1 : (uF.alloc (Obj.cells #[Value.int IntKind.i64 0, Value.slice none 0 0] 24)).cell? ⟨uF.heap.size, 1, none⟩ = some (.slice none 0 0) := by simp [go_sem]
            have E4 := E3.out _ QN
            clear E3 QN
            go_wp2_with (go_at_call 5; refine (l1 _ _).mono ?_; rintro e w1 ⟨rfl, hw⟩; obtain rfl := hw.symm)
            generalize (uF.alloc (Obj.cells #[Value.int IntKind.i64 0, Value.slice none 0 0] 24)) = wF at *
            generalize uF.heap.size = BF at *
            refine E4.mono ?_
            rintro e uG ⟨rfl, qG⟩
            have QN : Q wF (uG.alloc (Obj.cells #[Value.int IntKind.i64 0, Value.slice none 0 0] 24)) := qG.cells _ _
            clear E4 qG
            have HQm : Hid (Q w (uG.alloc (Obj.cells #[Value.int IntKind.i64 0, Value.slice none 0 0] 24))) := HQn.out.trans QN
            clear HQn
            replace HPt : Hid (Pc (uG.alloc (Obj.cells #[Value.int IntKind.i64 0, Value.slice none 0 0] 24)) g o a b L) := HPt.out.next QN
            replace HRt : Hid (Pc (uG.alloc (Obj.cells #[Value.int IntKind.i64 0, Value.slice none 0 0] 24)) g' o' a' b' L') := HRt.out.next QN
            replace HPD : Hid (Pc (uG.alloc (Obj.cells #[Value.int IntKind.i64 0, Value.slice none 0 0] 24)) gD 0 a b MD) := HPD.out.next QN
            replace HPE : Hid (Pc (uG.alloc (Obj.cells #[Value.int IntKind.i64 0, Value.slice none 0 0] 24)) gE 0 a b ME) := HPE.out.next QN
            replace p0 := QN.cell p0
            replace p1 := QN.cell p1
            replace r0 := QN.cell r0
            replace r1 := QN.cell r1
            replace sD0 := QN.cell sD0
            replace sD1 := QN.cell sD1
            replace sE0 := QN.cell sE0
            replace sE1 := QN.cell sE1
            replace sF0 := QN.cell sF0
            replace sF1 := QN.cell sF1
            have sG0 : (uG.alloc (Obj.cells #[Value.int IntKind.i64 0, Value.slice none 0 0] 24)).cell? ⟨uG.heap.size, 0, none⟩ = some (.int .i64 0) := by simp [go_sem]
            have sG1 : (uG.alloc (Obj.cells #[Value.int IntKind.i64 0, Value.slice none 0 0] 24)).cell? ⟨uG.heap.size, 1, none⟩ = some (.slice none 0 0) := by simp [go_sem]
            go_wp2_with (go_at_call 5; refine (l1 _ _).mono ?_; rintro e w1 ⟨rfl, hw⟩; obtain rfl := hw.symm)
            generalize (uG.alloc (Obj.cells #[Value.int IntKind.i64 0, Value.slice none 0 0] 24)) = wG at *
            generalize uG.heap.size = BG at *
            clear QN
            refine (pics_same HPD.out HPE.out HLD.out HDE.out hcD hcE).mono ?_
            rintro e z1 ⟨rfl, qz1⟩
            replace sF0 := qz1.cell sF0
            replace sF1 := qz1.cell sF1
            replace sG0 := qz1.cell sG0
            replace sG1 := qz1.cell sG1
            have HQz : Hid (Q w z1) := HQm.out.trans qz1
            clear qz1
            go_wp2_with (go_at_call 5; refine (l1 _ _).mono ?_; rintro e w1 ⟨rfl, hw⟩; obtain rfl := hw.symm)
            refine (yes_pics0 z1).mono ?_
            rintro e z2 ⟨rfl, qz2⟩
            have HQy : Hid (Q w z2) := HQz.out.trans qz2
            clear qz2
            go_wp2_with fail
            go_ret
            exact ⟨rfl, HQy.out⟩
      · refine (matrix_good idM idM_lt w6 sp g o cap a b n L HP6.out HN.out hcap n3 HSP.out).mono ?_
        rintro e w7 ⟨gb, cb, MB, rfl, hMB, HWMB, q7⟩
        have HMB : Hid (MB.map PL.S = mixL (mixM idM 0) (mixM idM 1) (mixM idM 2) (L.map PL.S)) := hMB
        have HLB : Hid (MB.length = n) := by have := congrArg List.length hMB; rw [List.length_map, mixL_len, List.length_map] at this; exact this.trans HN.out
        have hcb : n ≤ cb := by have h1 := HWMB.out.room; have := HLB.out; omega
        have QN0 : Q w6 (w7.alloc (Obj.cells #[Value.int IntKind.i64 sp, Value.slice (some { block := gb, off := 0 }) n cb] 24)) := q7.cells _ _
        have HP8 : Hid (Pc (w7.alloc (Obj.cells #[Value.int IntKind.i64 sp, Value.slice (some { block := gb, off := 0 }) n cb] 24)) g o a b L) := HP6.out.next QN0
        have HR8 : Hid (Pc (w7.alloc (Obj.cells #[Value.int IntKind.i64 sp, Value.slice (some { block := gb, off := 0 }) n cb] 24)) g' o' a' b' L') := HR6.out.next QN0
        have HB8 : Hid (Pc (w7.alloc (Obj.cells #[Value.int IntKind.i64 sp, Value.slice (some { block := gb, off := 0 }) n cb] 24)) gb 0 a b MB) := HWMB.out.pc.next ((Q.refl w7).cells _ _)
        have HQ8 : Hid (Q w (w7.alloc (Obj.cells #[Value.int IntKind.i64 sp, Value.slice (some { block := gb, off := 0 }) n cb] 24))) := HQ6.out.trans QN0
        have t1 : (w7.alloc (Obj.cells #[Value.int IntKind.i64 sp, Value.slice (some { block := gb, off := 0 }) n cb] 24)).cell? ⟨w7.heap.size, 1, none⟩ = some (.slice (some ⟨gb, 0, none⟩) n cb) := by simp [go_sem]
        replace p0 := QN0.cell p0
        replace p1 := QN0.cell p1
        replace r0 := QN0.cell r0
        replace r1 := QN0.cell r1
        obtain ⟨x0, x1, x2, rr, hL⟩ : ∃ x0 x1 x2 r, L = x0 :: x1 :: x2 :: r := by
          have := HN.out
          match L, this with
          | [], h => simp at h; omega
          | [_], h => simp at h; omega
          | [_, _], h => simp at h; omega
          | x0 :: x1 :: x2 :: r, _ => exact ⟨x0, x1, x2, r, rfl⟩
        obtain ⟨N, hN⟩ : ∃ N, a * b = N := ⟨_, rfl⟩
        have HNN : Hid (a * b = N) := hN
        have HK := Hid.mk' (keep_all hL (fun x hx => (HP8.out.it x hx).len.trans hN) HMB.out)
        have HG0 : Hid (Gd w6 N x0) := by have := HP6.out.it x0 (by rw [hL]; simp); rw [hN] at this; exact this
        have HG1 : Hid (Gd w6 N x1) := by have := HP6.out.it x1 (by rw [hL]; simp); rw [hN] at this; exact this
        have HG2 : Hid (Gd w6 N x2) := by have := HP6.out.it x2 (by rw [hL]; simp); rw [hN] at this; exact this
        obtain ⟨_, _, y0⟩ := HP6.out.row 0 x0 (by rw [hL]; rfl)
        obtain ⟨_, _, y1⟩ := HP6.out.row 1 x1 (by rw [hL]; rfl)
        obtain ⟨_, _, y2⟩ := HP6.out.row 2 x2 (by rw [hL]; rfl)
        unfold PL.v at y0 y1 y2
        rw [HG0.out.len, Nat.zero_mul, Nat.add_zero] at y0
        rw [HG1.out.len, Nat.one_mul] at y1
        rw [HG2.out.len, show 2 * 3 = 6 from rfl] at y2
        replace y0 := QN0.cell y0
        replace y1 := QN0.cell y1
        replace y2 := QN0.cell y2
        have hn1 : (1 : Int) < (n : Int) := by omega
        have hn1' : 1 < n := by omega
        have hn2 : (2 : Int) < (n : Int) := by omega
        have hn2' : 2 < n := by omega
        have hNm : N ≤ 65536 := by have := HP6.out.size.ab; omega
        have hcast : (a : Int) * (b : Int) = (N : Int) := by rw [← Int.natCast_mul, hN]
        have HU : Hid (Q w6 (w7.alloc (Obj.cells #[Value.int IntKind.i64 sp, Value.slice (some { block := gb, off := 0 }) n cb] 24))) := QN0
        clear hMB HWMB q7 HR6 HQ6 hL hN HMB QN0
        go_wp2_with fail
        generalize (w7.alloc (Obj.cells #[Value.int IntKind.i64 sp, Value.slice (some { block := gb, off := 0 }) n cb] 24)) = w8 at *
        generalize w7.heap.size = B2 at *
        go_loopg [20] 3 (fun m s20 wx => ∃ k : Nat, s20 = .int .i64 k ∧ k + m = 3 ∧ Hid (Q w8 wx))
        case atStart => exact ⟨0, rfl, by omega, Q.refl w8⟩
        case round =>
          obtain ⟨j, rfl, hjm, HQr⟩ := hrel
          by_cases hj : j < 3
          · have hj0 : (0 : Int) ≤ (j : Int) := by omega
            have hj1 : (j : Int) < (n : Int) := by omega
            have hj3 : (j : Int) < 3 := by omega
            obtain ⟨x, hx⟩ : ∃ x, L[j]? = some x := ⟨_, List.getElem?_eq_getElem (by rw [HN.out]; omega)⟩
            obtain ⟨y, hy⟩ : ∃ y, MB[j]? = some y := ⟨_, List.getElem?_eq_getElem (by rw [HLB.out]; omega)⟩
            have HXG : Hid (Gd w8 N x) := by have := HP8.out.it x (List.mem_of_getElem? hx); rw [HNN.out] at this; exact this
            have HYG : Hid (Gd w8 N y) := by have := HB8.out.it y (List.mem_of_getElem? hy); rw [HNN.out] at this; exact this
            have HXY := Hid.mk' (fun i hi => HK.out j x y i hj hx hy hi)
            obtain ⟨_, _, x3⟩ := HP8.out.row j x hx
            obtain ⟨_, _, y3⟩ := HB8.out.row j y hy
            unfold PL.v at x3 y3
            rw [HXG.out.len] at x3
            rw [HYG.out.len, Nat.zero_add] at y3
            clear hx hy
            go_wp2_with (go_at_call 5; refine (l1 _ _).mono ?_; rintro e w1 ⟨rfl, rfl⟩)
            go_loopg [21] N (fun m s21 wx => ∃ i : Nat, s21 = .int .i64 i ∧ i + m = N ∧ Hid (Q w8 wx))
            case atStart => exact ⟨0, rfl, by omega, HQr⟩
            case round =>
              obtain ⟨i, rfl, him, HQi⟩ := hrel
              by_cases hi : i < N
              · have hi0 : (0 : Int) ≤ (i : Int) := by omega
                have hi1 : (i : Int) < (N : Int) := by omega
                have n0 := qw_some wr
                have f1 := qw_cell (HQi.out.cell p1)
                have f2 := qw_cell (HQi.out.cell y0)
                have f3 := qw_cell (HQi.out.cell y1)
                have f4 := qw_cell (HQi.out.cell y2)
                have c0 := HQi.out.cell (HU.out.cell (HG0.out.us i (by rw [HG0.out.len]; exact hi)))
                have c1 := HQi.out.cell (HU.out.cell (HG1.out.us i (by rw [HG1.out.len]; exact hi)))
                have c2 := HQi.out.cell (HU.out.cell (HG2.out.us i (by rw [HG2.out.len]; exact hi)))
                have k0 := HG0.out.lt i
                have k1 := HG1.out.lt i
                have k2 := HG2.out.lt i
                have HF := Hid.mk' (HXY.out i hi)
                have hcx := HQi.out.cell (HXG.out.us i (by rw [HXG.out.len]; exact hi))
                have hcy := HQi.out.cell (HYG.out.us i (by rw [HYG.out.len]; exact hi))
                generalize x0.S.getD i 0 = P0 at *
                obtain ⟨PX, hPX⟩ : ∃ p, x.S.getD i 0 = p := ⟨_, rfl⟩
                obtain ⟨PY, hPY⟩ : ∃ p, y.S.getD i 0 = p := ⟨_, rfl⟩
                rw [hPX] at hcx HF
                rw [hPY] at hcy HF
                clear hPX hPY
                generalize x1.S.getD i 0 = P1 at *
                generalize x2.S.getD i 0 = P2 at *
                have f5 := qw_cell c0
                have f6 := qw_cell c1
                have f7 := qw_cell c2
                go_wp2_with fail
                refine wp_region_quiet_Q (by kernel_rfl) (by kernel_rfl) ?_
                repeat (first | go_big_quiet_step (fail) | quiet_step (fail))
                refine wpQuiet_nil ?_
                intro w9 hw9'
                have hw9 := qw_out hw9'
                clear f1 f2 f3 f4 f5 f6 f7 n0 c0 c1 c2 hw9'
                have HQ9 : Hid (Q w8 w9) := HQi.out.trans hw9
                replace hcx := hw9.cell hcx
                replace hcy := hw9.cell hcy
                have hP0 : (0 : Int) ≤ (P0 : Int) := by omega
                have hP1 : (0 : Int) ≤ (P1 : Int) := by omega
                have hP2 : (0 : Int) ≤ (P2 : Int) := by omega
                have hP3 : (P0 : Int) ≤ 4294967295 := by omega
                have hP4 : (P1 : Int) ≤ 4294967295 := by omega
                have hP5 : (P2 : Int) ≤ 4294967295 := by omega
                have n9 := qw_some w9
                clear hw9
                rcases Decidable.em (P0 / 8388608 % 256 = 255) with d0 | d0
                · have b0 : ((P0 : Int) / 8388608 % 256 != 255) = false := by rw [bne_eq_false_iff_eq]; omega
                  have e0 : ((P0 : Int) / 8388608 % 256 == 255) = true := by rw [beq_iff_eq]; omega
                  clear d0
                  go_wp2_with fail
                  refine wp_region_quiet_Q (by kernel_rfl) (by kernel_rfl) ?_
                  repeat (first | go_big_quiet_step (fail) | quiet_step (fail))
                  refine wpQuiet_nil ?_
                  intro z hz'
                  have hz := qw_out hz'
                  have HZ : Hid (Q w8 z) := HQ9.out.trans hz
                  clear hz hz' n9
                  go_wp2_with fail
                  go_roundg (N - (i + 1))
                  case measure => go_light; omega
                  case rel => go_light; exact ⟨i + 1, by go_num, by omega, HZ⟩
                have b0 : ((P0 : Int) / 8388608 % 256 != 255) = true := by rw [bne_iff_ne]; omega
                have e0 : ((P0 : Int) / 8388608 % 256 == 255) = false := by rw [beq_eq_false_iff_ne]; omega
                have g0 : rung32 P0 < 2139095040 := fin_dig k0 d0
                clear d0
                rcases Decidable.em (P1 / 8388608 % 256 = 255) with d1 | d1
                · have b1 : ((P1 : Int) / 8388608 % 256 != 255) = false := by rw [bne_eq_false_iff_eq]; omega
                  have e1 : ((P1 : Int) / 8388608 % 256 == 255) = true := by rw [beq_iff_eq]; omega
                  clear d1
                  go_wp2_with fail
                  refine wp_region_quiet_Q (by kernel_rfl) (by kernel_rfl) ?_
                  repeat (first | go_big_quiet_step (fail) | quiet_step (fail))
                  refine wpQuiet_nil ?_
                  intro z hz'
                  have hz := qw_out hz'
                  have HZ : Hid (Q w8 z) := HQ9.out.trans hz
                  clear hz hz' n9
                  go_wp2_with fail
                  go_roundg (N - (i + 1))
                  case measure => go_light; omega
                  case rel => go_light; exact ⟨i + 1, by go_num, by omega, HZ⟩
                have b1 : ((P1 : Int) / 8388608 % 256 != 255) = true := by rw [bne_iff_ne]; omega
                have e1 : ((P1 : Int) / 8388608 % 256 == 255) = false := by rw [beq_eq_false_iff_ne]; omega
                have g1 : rung32 P1 < 2139095040 := fin_dig k1 d1
                clear d1
                rcases Decidable.em (P2 / 8388608 % 256 = 255) with d2 | d2
                · have b2 : ((P2 : Int) / 8388608 % 256 != 255) = false := by rw [bne_eq_false_iff_eq]; omega
                  have e2 : ((P2 : Int) / 8388608 % 256 == 255) = true := by rw [beq_iff_eq]; omega
                  clear d2
                  go_wp2_with fail
                  refine wp_region_quiet_Q (by kernel_rfl) (by kernel_rfl) ?_
                  repeat (first | go_big_quiet_step (fail) | quiet_step (fail))
                  refine wpQuiet_nil ?_
                  intro z hz'
                  have hz := qw_out hz'
                  have HZ : Hid (Q w8 z) := HQ9.out.trans hz
                  clear hz hz' n9
                  go_wp2_with fail
                  go_roundg (N - (i + 1))
                  case measure => go_light; omega
                  case rel => go_light; exact ⟨i + 1, by go_num, by omega, HZ⟩
                have b2 : ((P2 : Int) / 8388608 % 256 != 255) = true := by rw [bne_iff_ne]; omega
                have e2 : ((P2 : Int) / 8388608 % 256 == 255) = false := by rw [beq_eq_false_iff_ne]; omega
                have g2 : rung32 P2 < 2139095040 := fin_dig k2 d2
                clear d2
                obtain ⟨s1, s2, s3⟩ := HF.out g0 g1 g2
                have hv1 := fun w => value8_any PY s2 w
                have hv2 := fun w => value8_any PX s3 w
                have ho : FloatKind.f64.format.order (wideN PY) (wideN PX) = some .eq := keep_same s2 s3 s1
                generalize wideN PY = W1 at *
                generalize wideN PX = W2 at *
                have f1 := qw_cell (HQ9.out.cell p1)
                have f2 := qw_cell (HQ9.out.cell x3)
                have f3 := qw_cell hcx
                have f4 := qw_cell (HQ9.out.cell t1)
                have f5 := qw_cell (HQ9.out.cell y3)
                have f6 := qw_cell hcy
                clear s1 s2 s3 hcx hcy
                go_wp2_with fail
                refine wp_region_quiet_Q (by kernel_rfl) (by kernel_rfl) ?_
                repeat (first | go_big_quiet_step (fail) | quiet_step (first | (go_at_call 9; exact calls_qs (hv1 _)) | (go_at_call 9; exact calls_qs (hv2 _))))
                refine wpQuiet_nil ?_
                intro z hz'
                have hz := qw_out hz'
                have HZ : Hid (Q w8 z) := HQ9.out.trans hz
                clear hz hz' n9 f1 f2 f3 f4 f5 f6
                go_wp2_with fail
                go_roundg (N - (i + 1))
                case measure => go_light; omega
                case rel => go_light; exact ⟨i + 1, by go_num, by omega, HZ⟩
              · have hie : i = N := by omega
                go_wp2_with fail
                go_roundg (3 - (j + 1))
                case measure => go_light; omega
                case rel => go_light; exact ⟨j + 1, by go_num, by omega, HQi⟩
          · have hje : j = 3 := by omega
            have HPt : Hid (Pc wr g o a b L) := HP8.out.next HQr.out
            have HRt : Hid (Pc wr g' o' a' b' L') := HR8.out.next HQr.out
            have HQt : Hid (Q w wr) := HQ8.out.trans HQr.out
            replace p0 := HQr.out.cell p0
            replace p1 := HQr.out.cell p1
            replace r0 := HQr.out.cell r0
            replace r1 := HQr.out.cell r1
            clear HP8 HR8 HQ8 HB8 HK HG0 HG1 HG2 HU t1 y0 y1 y2 HLB hcb HP6 hcast hNm HNN
            go_wp2_with (go_at_call 5; refine (l1 _ _).mono ?_; rintro e w1 ⟨rfl, hw⟩; obtain rfl := hw.symm)
            have hge := HPt.out.size.a1
            refine (new8_good sp n a b HPt.out.size lo hlo n1 n4 HSP.out wr).mono ?_
            rintro e uA ⟨gA, cA, MA, rfl, hMA, HWA, qA⟩
            have HMA : Hid (MA.map PL.S = List.replicate n (sameS a b lo)) := hMA
            have HLA : Hid (MA.length = n) := by have := congrArg List.length hMA; rw [List.length_map, List.length_replicate] at this; first | exact this | exact this.trans HN.out | (rw [HLC.out] at this; exact this) | (rw [HN'.out] at this; exact this)
            have hcA : n ≤ cA := by have h1 := HWA.out.room; have := HLA.out; omega
            have QN : Q wr (uA.alloc (Obj.cells #[Value.int IntKind.i64 sp, Value.slice (some { block := gA, off := 0 }) n cA] 24)) := qA.cells _ _
            have HQn : Hid (Q w (uA.alloc (Obj.cells #[Value.int IntKind.i64 sp, Value.slice (some { block := gA, off := 0 }) n cA] 24))) := HQt.out.trans QN
            clear HQt
            replace HPt : Hid (Pc (uA.alloc (Obj.cells #[Value.int IntKind.i64 sp, Value.slice (some { block := gA, off := 0 }) n cA] 24)) g o a b L) := HPt.out.next QN
            replace HRt : Hid (Pc (uA.alloc (Obj.cells #[Value.int IntKind.i64 sp, Value.slice (some { block := gA, off := 0 }) n cA] 24)) g' o' a' b' L') := HRt.out.next QN
            have HPA : Hid (Pc (uA.alloc (Obj.cells #[Value.int IntKind.i64 sp, Value.slice (some { block := gA, off := 0 }) n cA] 24)) gA 0 a b MA) := HWA.out.pc.next ((Q.refl uA).cells _ _)
            replace p0 := QN.cell p0
            replace p1 := QN.cell p1
            replace r0 := QN.cell r0
            replace r1 := QN.cell r1
            have sA0 : (uA.alloc (Obj.cells #[Value.int IntKind.i64 sp, Value.slice (some { block := gA, off := 0 }) n cA] 24)).cell? ⟨uA.heap.size, 0, none⟩ = some (.int .i64 sp) := by simp [go_sem]
            have sA1 : (uA.alloc (Obj.cells #[Value.int IntKind.i64 sp, Value.slice (some { block := gA, off := 0 }) n cA] 24)).cell? ⟨uA.heap.size, 1, none⟩ = some (.slice (some ⟨gA, 0, none⟩) n cA) := by simp [go_sem]
            clear hMA HWA qA
            go_wp2_with (go_at_call 5; refine (l1 _ _).mono ?_; rintro e w1 ⟨rfl, hw⟩; obtain rfl := hw.symm)
            generalize (uA.alloc (Obj.cells #[Value.int IntKind.i64 sp, Value.slice (some { block := gA, off := 0 }) n cA] 24)) = wA at *
            generalize uA.heap.size = BA at *
            clear QN
            have HQt := HQn
            clear HQn
            refine (new8_good sp n a b HPt.out.size hi hhi n1 n4 HSP.out wA).mono ?_
            rintro e uB ⟨gB, cB, MB, rfl, hMB, HWB, qB⟩
            have HMB : Hid (MB.map PL.S = List.replicate n (sameS a b hi)) := hMB
            have HLB : Hid (MB.length = n) := by have := congrArg List.length hMB; rw [List.length_map, List.length_replicate] at this; first | exact this | exact this.trans HN.out | (rw [HLC.out] at this; exact this) | (rw [HN'.out] at this; exact this)
            have hcB : n ≤ cB := by have h1 := HWB.out.room; have := HLB.out; omega
            have QN : Q wA (uB.alloc (Obj.cells #[Value.int IntKind.i64 sp, Value.slice (some { block := gB, off := 0 }) n cB] 24)) := qB.cells _ _
            have HQn : Hid (Q w (uB.alloc (Obj.cells #[Value.int IntKind.i64 sp, Value.slice (some { block := gB, off := 0 }) n cB] 24))) := HQt.out.trans QN
            clear HQt
            replace HPt : Hid (Pc (uB.alloc (Obj.cells #[Value.int IntKind.i64 sp, Value.slice (some { block := gB, off := 0 }) n cB] 24)) g o a b L) := HPt.out.next QN
            replace HRt : Hid (Pc (uB.alloc (Obj.cells #[Value.int IntKind.i64 sp, Value.slice (some { block := gB, off := 0 }) n cB] 24)) g' o' a' b' L') := HRt.out.next QN
            replace HPA : Hid (Pc (uB.alloc (Obj.cells #[Value.int IntKind.i64 sp, Value.slice (some { block := gB, off := 0 }) n cB] 24)) gA 0 a b MA) := HPA.out.next QN
            have HPB : Hid (Pc (uB.alloc (Obj.cells #[Value.int IntKind.i64 sp, Value.slice (some { block := gB, off := 0 }) n cB] 24)) gB 0 a b MB) := HWB.out.pc.next ((Q.refl uB).cells _ _)
            replace p0 := QN.cell p0
            replace p1 := QN.cell p1
            replace r0 := QN.cell r0
            replace r1 := QN.cell r1
            replace sA0 := QN.cell sA0
            replace sA1 := QN.cell sA1
            have sB0 : (uB.alloc (Obj.cells #[Value.int IntKind.i64 sp, Value.slice (some { block := gB, off := 0 }) n cB] 24)).cell? ⟨uB.heap.size, 0, none⟩ = some (.int .i64 sp) := by simp [go_sem]
            have sB1 : (uB.alloc (Obj.cells #[Value.int IntKind.i64 sp, Value.slice (some { block := gB, off := 0 }) n cB] 24)).cell? ⟨uB.heap.size, 1, none⟩ = some (.slice (some ⟨gB, 0, none⟩) n cB) := by simp [go_sem]
            clear hMB HWB qB
            go_wp2_with (go_at_call 5; refine (l1 _ _).mono ?_; rintro e w1 ⟨rfl, hw⟩; obtain rfl := hw.symm)
            generalize (uB.alloc (Obj.cells #[Value.int IntKind.i64 sp, Value.slice (some { block := gB, off := 0 }) n cB] 24)) = wB at *
            generalize uB.heap.size = BB at *
            clear QN
            have HQt := HQn
            clear HQn
            refine (two_good kind_great wB sp g o cap gA 0 cA a b n L MA HPt.out HN.out hcap HPA.out HLA.out hcA HSP.out).mono ?_
            rintro e uC ⟨gC, cC, MC, rfl, hMC, HWC, qC⟩
            have HMC : Hid (MC.map PL.S = zTo greatG (L.map PL.S) (MA.map PL.S) n) := hMC
            have HLC : Hid (MC.length = n) := by have := congrArg List.length hMC; rw [List.length_map, zTo_len, List.length_map] at this; first | exact this | exact this.trans HN.out | (rw [HLC.out] at this; exact this) | (rw [HN'.out] at this; exact this)
            have hcC : n ≤ cC := by have h1 := HWC.out.room; have := HLC.out; omega
            have QN : Q wB (uC.alloc (Obj.cells #[Value.int IntKind.i64 sp, Value.slice (some { block := gC, off := 0 }) n cC] 24)) := qC.cells _ _
            have HQn : Hid (Q w (uC.alloc (Obj.cells #[Value.int IntKind.i64 sp, Value.slice (some { block := gC, off := 0 }) n cC] 24))) := HQt.out.trans QN
            clear HQt
            replace HPt : Hid (Pc (uC.alloc (Obj.cells #[Value.int IntKind.i64 sp, Value.slice (some { block := gC, off := 0 }) n cC] 24)) g o a b L) := HPt.out.next QN
            replace HRt : Hid (Pc (uC.alloc (Obj.cells #[Value.int IntKind.i64 sp, Value.slice (some { block := gC, off := 0 }) n cC] 24)) g' o' a' b' L') := HRt.out.next QN
            replace HPA : Hid (Pc (uC.alloc (Obj.cells #[Value.int IntKind.i64 sp, Value.slice (some { block := gC, off := 0 }) n cC] 24)) gA 0 a b MA) := HPA.out.next QN
            replace HPB : Hid (Pc (uC.alloc (Obj.cells #[Value.int IntKind.i64 sp, Value.slice (some { block := gC, off := 0 }) n cC] 24)) gB 0 a b MB) := HPB.out.next QN
            have HPC : Hid (Pc (uC.alloc (Obj.cells #[Value.int IntKind.i64 sp, Value.slice (some { block := gC, off := 0 }) n cC] 24)) gC 0 a b MC) := HWC.out.pc.next ((Q.refl uC).cells _ _)
            replace p0 := QN.cell p0
            replace p1 := QN.cell p1
            replace r0 := QN.cell r0
            replace r1 := QN.cell r1
            replace sA0 := QN.cell sA0
            replace sA1 := QN.cell sA1
            replace sB0 := QN.cell sB0
            replace sB1 := QN.cell sB1
            have sC0 : (uC.alloc (Obj.cells #[Value.int IntKind.i64 sp, Value.slice (some { block := gC, off := 0 }) n cC] 24)).cell? ⟨uC.heap.size, 0, none⟩ = some (.int .i64 sp) := by simp [go_sem]
            have sC1 : (uC.alloc (Obj.cells #[Value.int IntKind.i64 sp, Value.slice (some { block := gC, off := 0 }) n cC] 24)).cell? ⟨uC.heap.size, 1, none⟩ = some (.slice (some ⟨gC, 0, none⟩) n cC) := by simp [go_sem]
            clear hMC HWC qC
            go_wp2_with (go_at_call 5; refine (l1 _ _).mono ?_; rintro e w1 ⟨rfl, hw⟩; obtain rfl := hw.symm)
            generalize (uC.alloc (Obj.cells #[Value.int IntKind.i64 sp, Value.slice (some { block := gC, off := 0 }) n cC] 24)) = wC at *
            generalize uC.heap.size = BC at *
            clear QN
            have HQt := HQn
            clear HQn
            refine (two_good kind_least wC sp gC 0 cC gB 0 cB a b n MC MB HPC.out HLC.out hcC HPB.out HLB.out hcB HSP.out).mono ?_
            rintro e uD ⟨gD, cD, MD, rfl, hMD, HWD, qD⟩
            have HMD : Hid (MD.map PL.S = zTo leastG (MC.map PL.S) (MB.map PL.S) n) := hMD
            have HLD : Hid (MD.length = n) := by have := congrArg List.length hMD; rw [List.length_map, zTo_len, List.length_map] at this; first | exact this | exact this.trans HN.out | (rw [HLC.out] at this; exact this) | (rw [HN'.out] at this; exact this)
            have hcD : n ≤ cD := by have h1 := HWD.out.room; have := HLD.out; omega
            have QN : Q wC (uD.alloc (Obj.cells #[Value.int IntKind.i64 sp, Value.slice (some { block := gD, off := 0 }) n cD] 24)) := qD.cells _ _
            have HQn : Hid (Q w (uD.alloc (Obj.cells #[Value.int IntKind.i64 sp, Value.slice (some { block := gD, off := 0 }) n cD] 24))) := HQt.out.trans QN
            clear HQt
            replace HPt : Hid (Pc (uD.alloc (Obj.cells #[Value.int IntKind.i64 sp, Value.slice (some { block := gD, off := 0 }) n cD] 24)) g o a b L) := HPt.out.next QN
            replace HRt : Hid (Pc (uD.alloc (Obj.cells #[Value.int IntKind.i64 sp, Value.slice (some { block := gD, off := 0 }) n cD] 24)) g' o' a' b' L') := HRt.out.next QN
            replace HPA : Hid (Pc (uD.alloc (Obj.cells #[Value.int IntKind.i64 sp, Value.slice (some { block := gD, off := 0 }) n cD] 24)) gA 0 a b MA) := HPA.out.next QN
            replace HPB : Hid (Pc (uD.alloc (Obj.cells #[Value.int IntKind.i64 sp, Value.slice (some { block := gD, off := 0 }) n cD] 24)) gB 0 a b MB) := HPB.out.next QN
            replace HPC : Hid (Pc (uD.alloc (Obj.cells #[Value.int IntKind.i64 sp, Value.slice (some { block := gD, off := 0 }) n cD] 24)) gC 0 a b MC) := HPC.out.next QN
            have HPD : Hid (Pc (uD.alloc (Obj.cells #[Value.int IntKind.i64 sp, Value.slice (some { block := gD, off := 0 }) n cD] 24)) gD 0 a b MD) := HWD.out.pc.next ((Q.refl uD).cells _ _)
            replace p0 := QN.cell p0
            replace p1 := QN.cell p1
            replace r0 := QN.cell r0
            replace r1 := QN.cell r1
            replace sA0 := QN.cell sA0
            replace sA1 := QN.cell sA1
            replace sB0 := QN.cell sB0
            replace sB1 := QN.cell sB1
            replace sC0 := QN.cell sC0
            replace sC1 := QN.cell sC1
            have sD0 : (uD.alloc (Obj.cells #[Value.int IntKind.i64 sp, Value.slice (some { block := gD, off := 0 }) n cD] 24)).cell? ⟨uD.heap.size, 0, none⟩ = some (.int .i64 sp) := by simp [go_sem]
            have sD1 : (uD.alloc (Obj.cells #[Value.int IntKind.i64 sp, Value.slice (some { block := gD, off := 0 }) n cD] 24)).cell? ⟨uD.heap.size, 1, none⟩ = some (.slice (some ⟨gD, 0, none⟩) n cD) := by simp [go_sem]
            clear hMD HWD qD
            go_wp2_with (go_at_call 5; refine (l1 _ _).mono ?_; rintro e w1 ⟨rfl, hw⟩; obtain rfl := hw.symm)
            generalize (uD.alloc (Obj.cells #[Value.int IntKind.i64 sp, Value.slice (some { block := gD, off := 0 }) n cD] 24)) = wD at *
            generalize uD.heap.size = BD at *
            clear QN
            have HQt := HQn
            clear HQn
            refine (bounds_good lo hi hlo hhi wD sp (-1) g o cap a b n L HPt.out HN.out hcap HSP.out (Or.inl rfl)).mono ?_
            rintro e uE ⟨gE, cE, ME, rfl, hME, HWE, qE⟩
            have HME : Hid (ME.map PL.S = chgL (boundsV lo hi) (-1) 0 (L.map PL.S)) := hME
            have HLE : Hid (ME.length = n) := by have := congrArg List.length hME; rw [List.length_map, chgL_len, List.length_map] at this; first | exact this | exact this.trans HN.out | (rw [HLC.out] at this; exact this) | (rw [HN'.out] at this; exact this)
            have hcE : n ≤ cE := by have h1 := HWE.out.room; have := HLE.out; omega
            have QN : Q wD (uE.alloc (Obj.cells #[Value.int IntKind.i64 sp, Value.slice (some { block := gE, off := 0 }) n cE] 24)) := qE.cells _ _
            have HQn : Hid (Q w (uE.alloc (Obj.cells #[Value.int IntKind.i64 sp, Value.slice (some { block := gE, off := 0 }) n cE] 24))) := HQt.out.trans QN
            clear HQt
            replace HPt : Hid (Pc (uE.alloc (Obj.cells #[Value.int IntKind.i64 sp, Value.slice (some { block := gE, off := 0 }) n cE] 24)) g o a b L) := HPt.out.next QN
            replace HRt : Hid (Pc (uE.alloc (Obj.cells #[Value.int IntKind.i64 sp, Value.slice (some { block := gE, off := 0 }) n cE] 24)) g' o' a' b' L') := HRt.out.next QN
            replace HPA : Hid (Pc (uE.alloc (Obj.cells #[Value.int IntKind.i64 sp, Value.slice (some { block := gE, off := 0 }) n cE] 24)) gA 0 a b MA) := HPA.out.next QN
            replace HPB : Hid (Pc (uE.alloc (Obj.cells #[Value.int IntKind.i64 sp, Value.slice (some { block := gE, off := 0 }) n cE] 24)) gB 0 a b MB) := HPB.out.next QN
            replace HPC : Hid (Pc (uE.alloc (Obj.cells #[Value.int IntKind.i64 sp, Value.slice (some { block := gE, off := 0 }) n cE] 24)) gC 0 a b MC) := HPC.out.next QN
            replace HPD : Hid (Pc (uE.alloc (Obj.cells #[Value.int IntKind.i64 sp, Value.slice (some { block := gE, off := 0 }) n cE] 24)) gD 0 a b MD) := HPD.out.next QN
            have HPE : Hid (Pc (uE.alloc (Obj.cells #[Value.int IntKind.i64 sp, Value.slice (some { block := gE, off := 0 }) n cE] 24)) gE 0 a b ME) := HWE.out.pc.next ((Q.refl uE).cells _ _)
            replace p0 := QN.cell p0
            replace p1 := QN.cell p1
            replace r0 := QN.cell r0
            replace r1 := QN.cell r1
            replace sA0 := QN.cell sA0
            replace sA1 := QN.cell sA1
            replace sB0 := QN.cell sB0
            replace sB1 := QN.cell sB1
            replace sC0 := QN.cell sC0
            replace sC1 := QN.cell sC1
            replace sD0 := QN.cell sD0
            replace sD1 := QN.cell sD1
            have sE0 : (uE.alloc (Obj.cells #[Value.int IntKind.i64 sp, Value.slice (some { block := gE, off := 0 }) n cE] 24)).cell? ⟨uE.heap.size, 0, none⟩ = some (.int .i64 sp) := by simp [go_sem]
            have sE1 : (uE.alloc (Obj.cells #[Value.int IntKind.i64 sp, Value.slice (some { block := gE, off := 0 }) n cE] 24)).cell? ⟨uE.heap.size, 1, none⟩ = some (.slice (some ⟨gE, 0, none⟩) n cE) := by simp [go_sem]
            clear hME HWE qE
            go_wp2_with (go_at_call 5; refine (l1 _ _).mono ?_; rintro e w1 ⟨rfl, hw⟩; obtain rfl := hw.symm)
            generalize (uE.alloc (Obj.cells #[Value.int IntKind.i64 sp, Value.slice (some { block := gE, off := 0 }) n cE] 24)) = wE at *
            generalize uE.heap.size = BE at *
            clear QN
            have HQt := HQn
            clear HQn
            have HDE : Hid (MD.map PL.S = ME.map PL.S) := by show _ = _; rw [HMD.out, HMC.out, HMA.out, HMB.out, HME.out]; exact bounds_all (by rw [List.length_map]; exact HN.out) HPt.out.lens
            clear HMA HMB HMC HMD HME HPA HPB HPC sA0 sA1 sB0 sB1 sC0 sC1 HLA HLB HLC hcA hcB hcC
            rcases Decidable.em (n = n' ∧ a = a' ∧ b = b' ∧ sp = sp') with ⟨rfl, rfl, rfl, rfl⟩ | hsame
            · refine (two_good kind_least wE sp g o cap g' o' cap' a b n L L' HPt.out HN.out hcap HRt.out HN'.out hcap' HSP.out).mono ?_
              rintro e uF ⟨gF, cF, MF, rfl, hMF, HWF, qF⟩
              have HMF : Hid (MF.map PL.S = zTo leastG (L.map PL.S) (L'.map PL.S) n) := hMF
              have HLF : Hid (MF.length = n) := by have := congrArg List.length hMF; rw [List.length_map, zTo_len, List.length_map] at this; first | exact this | exact this.trans HN.out | (rw [HLC.out] at this; exact this) | (rw [HN'.out] at this; exact this)
              have hcF : n ≤ cF := by have h1 := HWF.out.room; have := HLF.out; omega
              have QN : Q wE (uF.alloc (Obj.cells #[Value.int IntKind.i64 sp, Value.slice (some { block := gF, off := 0 }) n cF] 24)) := qF.cells _ _
              have HQn : Hid (Q w (uF.alloc (Obj.cells #[Value.int IntKind.i64 sp, Value.slice (some { block := gF, off := 0 }) n cF] 24))) := HQt.out.trans QN
              clear HQt
              replace HPt : Hid (Pc (uF.alloc (Obj.cells #[Value.int IntKind.i64 sp, Value.slice (some { block := gF, off := 0 }) n cF] 24)) g o a b L) := HPt.out.next QN
              replace HRt : Hid (Pc (uF.alloc (Obj.cells #[Value.int IntKind.i64 sp, Value.slice (some { block := gF, off := 0 }) n cF] 24)) g' o' a b L') := HRt.out.next QN
              replace HPD : Hid (Pc (uF.alloc (Obj.cells #[Value.int IntKind.i64 sp, Value.slice (some { block := gF, off := 0 }) n cF] 24)) gD 0 a b MD) := HPD.out.next QN
              replace HPE : Hid (Pc (uF.alloc (Obj.cells #[Value.int IntKind.i64 sp, Value.slice (some { block := gF, off := 0 }) n cF] 24)) gE 0 a b ME) := HPE.out.next QN
              have HPF : Hid (Pc (uF.alloc (Obj.cells #[Value.int IntKind.i64 sp, Value.slice (some { block := gF, off := 0 }) n cF] 24)) gF 0 a b MF) := HWF.out.pc.next ((Q.refl uF).cells _ _)
              replace p0 := QN.cell p0
              replace p1 := QN.cell p1
              replace r0 := QN.cell r0
              replace r1 := QN.cell r1
              replace sD0 := QN.cell sD0
              replace sD1 := QN.cell sD1
              replace sE0 := QN.cell sE0
              replace sE1 := QN.cell sE1
              have sF0 : (uF.alloc (Obj.cells #[Value.int IntKind.i64 sp, Value.slice (some { block := gF, off := 0 }) n cF] 24)).cell? ⟨uF.heap.size, 0, none⟩ = some (.int .i64 sp) := by simp [go_sem]
              have sF1 : (uF.alloc (Obj.cells #[Value.int IntKind.i64 sp, Value.slice (some { block := gF, off := 0 }) n cF] 24)).cell? ⟨uF.heap.size, 1, none⟩ = some (.slice (some ⟨gF, 0, none⟩) n cF) := by simp [go_sem]
              clear hMF HWF qF
              go_wp2_with (go_at_call 5; refine (l1 _ _).mono ?_; rintro e w1 ⟨rfl, hw⟩; obtain rfl := hw.symm)
              generalize (uF.alloc (Obj.cells #[Value.int IntKind.i64 sp, Value.slice (some { block := gF, off := 0 }) n cF] 24)) = wF at *
              generalize uF.heap.size = BF at *
              clear QN
              have HQt := HQn
              clear HQn
              refine (two_good kind_least wF sp g' o' cap' g o cap a b n L' L HRt.out HN'.out hcap' HPt.out HN.out hcap HSP.out).mono ?_
              rintro e uG ⟨gG, cG, MG, rfl, hMG, HWG, qG⟩
              have HMG : Hid (MG.map PL.S = zTo leastG (L'.map PL.S) (L.map PL.S) n) := hMG
              have HLG : Hid (MG.length = n) := by have := congrArg List.length hMG; rw [List.length_map, zTo_len, List.length_map] at this; first | exact this | exact this.trans HN.out | (rw [HLC.out] at this; exact this) | (rw [HN'.out] at this; exact this)
              have hcG : n ≤ cG := by have h1 := HWG.out.room; have := HLG.out; omega
              have QN : Q wF (uG.alloc (Obj.cells #[Value.int IntKind.i64 sp, Value.slice (some { block := gG, off := 0 }) n cG] 24)) := qG.cells _ _
              have HQn : Hid (Q w (uG.alloc (Obj.cells #[Value.int IntKind.i64 sp, Value.slice (some { block := gG, off := 0 }) n cG] 24))) := HQt.out.trans QN
              clear HQt
              replace HPt : Hid (Pc (uG.alloc (Obj.cells #[Value.int IntKind.i64 sp, Value.slice (some { block := gG, off := 0 }) n cG] 24)) g o a b L) := HPt.out.next QN
              replace HRt : Hid (Pc (uG.alloc (Obj.cells #[Value.int IntKind.i64 sp, Value.slice (some { block := gG, off := 0 }) n cG] 24)) g' o' a b L') := HRt.out.next QN
              replace HPD : Hid (Pc (uG.alloc (Obj.cells #[Value.int IntKind.i64 sp, Value.slice (some { block := gG, off := 0 }) n cG] 24)) gD 0 a b MD) := HPD.out.next QN
              replace HPE : Hid (Pc (uG.alloc (Obj.cells #[Value.int IntKind.i64 sp, Value.slice (some { block := gG, off := 0 }) n cG] 24)) gE 0 a b ME) := HPE.out.next QN
              replace HPF : Hid (Pc (uG.alloc (Obj.cells #[Value.int IntKind.i64 sp, Value.slice (some { block := gG, off := 0 }) n cG] 24)) gF 0 a b MF) := HPF.out.next QN
              have HPG : Hid (Pc (uG.alloc (Obj.cells #[Value.int IntKind.i64 sp, Value.slice (some { block := gG, off := 0 }) n cG] 24)) gG 0 a b MG) := HWG.out.pc.next ((Q.refl uG).cells _ _)
              replace p0 := QN.cell p0
              replace p1 := QN.cell p1
              replace r0 := QN.cell r0
              replace r1 := QN.cell r1
              replace sD0 := QN.cell sD0
              replace sD1 := QN.cell sD1
              replace sE0 := QN.cell sE0
              replace sE1 := QN.cell sE1
              replace sF0 := QN.cell sF0
              replace sF1 := QN.cell sF1
              have sG0 : (uG.alloc (Obj.cells #[Value.int IntKind.i64 sp, Value.slice (some { block := gG, off := 0 }) n cG] 24)).cell? ⟨uG.heap.size, 0, none⟩ = some (.int .i64 sp) := by simp [go_sem]
              have sG1 : (uG.alloc (Obj.cells #[Value.int IntKind.i64 sp, Value.slice (some { block := gG, off := 0 }) n cG] 24)).cell? ⟨uG.heap.size, 1, none⟩ = some (.slice (some ⟨gG, 0, none⟩) n cG) := by simp [go_sem]
              clear hMG HWG qG
              have HFG : Hid (MF.map PL.S = MG.map PL.S) := by show _ = _; rw [HMF.out, HMG.out]; exact zTo_swap (by rw [List.length_map]; exact HN.out) (by rw [List.length_map]; exact HN'.out) HPt.out.lens HRt.out.lens least_comm
              go_wp2_with (go_at_call 5; refine (l1 _ _).mono ?_; rintro e w1 ⟨rfl, hw⟩; obtain rfl := hw.symm)
              generalize (uG.alloc (Obj.cells #[Value.int IntKind.i64 sp, Value.slice (some { block := gG, off := 0 }) n cG] 24)) = wG at *
              generalize uG.heap.size = BG at *
              clear QN
              have HQt := HQn
              clear HQn
              refine (pics_same HPD.out HPE.out HLD.out HDE.out hcD hcE).mono ?_
              rintro e z1 ⟨rfl, qz1⟩
              replace sF0 := qz1.cell sF0
              replace sF1 := qz1.cell sF1
              replace sG0 := qz1.cell sG0
              replace sG1 := qz1.cell sG1
              have HY : Hid (Pc z1 gF 0 a b MF) := HPF.out.next qz1
              have HZ : Hid (Pc z1 gG 0 a b MG) := HPG.out.next qz1
              have HQz : Hid (Q w z1) := HQt.out.trans qz1
              clear qz1
              go_wp2_with (go_at_call 5; refine (l1 _ _).mono ?_; rintro e w1 ⟨rfl, hw⟩; obtain rfl := hw.symm)
              refine (pics_same HY.out HZ.out HLF.out HFG.out hcF hcG).mono ?_
              rintro e z2 ⟨rfl, qz2⟩
              have HQy : Hid (Q w z2) := HQz.out.trans qz2
              clear qz2
              go_wp2_with fail
              go_ret
              exact ⟨rfl, HQy.out⟩
            · obtain ⟨c, E1, E2⟩ := least_err HPt.out HN.out hcap HRt.out HN'.out hcap' HSP.out HSP'.out hsame
              replace E1 := E1 wE (Q.refl wE)
              have E3 : Hid (∀ x, Q wE x → _) := E2
              clear E2
              have hcc : (c == c) = true := by simp
              refine E1.mono ?_
              rintro e uF ⟨rfl, qF⟩
              have QN : Q wE (uF.alloc (Obj.cells #[Value.int IntKind.i64 0, Value.slice none 0 0] 24)) := qF.cells _ _
              clear E1 qF
              have HQn : Hid (Q w (uF.alloc (Obj.cells #[Value.int IntKind.i64 0, Value.slice none 0 0] 24))) := HQt.out.trans QN
              clear HQt
              replace HPt : Hid (Pc (uF.alloc (Obj.cells #[Value.int IntKind.i64 0, Value.slice none 0 0] 24)) g o a b L) := HPt.out.next QN
              replace HRt : Hid (Pc (uF.alloc (Obj.cells #[Value.int IntKind.i64 0, Value.slice none 0 0] 24)) g' o' a' b' L') := HRt.out.next QN
              replace HPD : Hid (Pc (uF.alloc (Obj.cells #[Value.int IntKind.i64 0, Value.slice none 0 0] 24)) gD 0 a b MD) := HPD.out.next QN
              replace HPE : Hid (Pc (uF.alloc (Obj.cells #[Value.int IntKind.i64 0, Value.slice none 0 0] 24)) gE 0 a b ME) := HPE.out.next QN
              replace p0 := QN.cell p0
              replace p1 := QN.cell p1
              replace r0 := QN.cell r0
              replace r1 := QN.cell r1
              replace sD0 := QN.cell sD0
              replace sD1 := QN.cell sD1
              replace sE0 := QN.cell sE0
              replace sE1 := QN.cell sE1
              have sF0 : (uF.alloc (Obj.cells #[Value.int IntKind.i64 0, Value.slice none 0 0] 24)).cell? ⟨uF.heap.size, 0, none⟩ = some (.int .i64 0) := by simp [go_sem]
              have sF1 : (uF.alloc (Obj.cells #[Value.int IntKind.i64 0, Value.slice none 0 0] 24)).cell? ⟨uF.heap.size, 1, none⟩ = some (.slice none 0 0) := by simp [go_sem]
              have E4 := E3.out _ QN
              clear E3 QN
              go_wp2_with (go_at_call 5; refine (l1 _ _).mono ?_; rintro e w1 ⟨rfl, hw⟩; obtain rfl := hw.symm)
              generalize (uF.alloc (Obj.cells #[Value.int IntKind.i64 0, Value.slice none 0 0] 24)) = wF at *
              generalize uF.heap.size = BF at *
              refine E4.mono ?_
              rintro e uG ⟨rfl, qG⟩
              have QN : Q wF (uG.alloc (Obj.cells #[Value.int IntKind.i64 0, Value.slice none 0 0] 24)) := qG.cells _ _
              clear E4 qG
              have HQm : Hid (Q w (uG.alloc (Obj.cells #[Value.int IntKind.i64 0, Value.slice none 0 0] 24))) := HQn.out.trans QN
              clear HQn
              replace HPt : Hid (Pc (uG.alloc (Obj.cells #[Value.int IntKind.i64 0, Value.slice none 0 0] 24)) g o a b L) := HPt.out.next QN
              replace HRt : Hid (Pc (uG.alloc (Obj.cells #[Value.int IntKind.i64 0, Value.slice none 0 0] 24)) g' o' a' b' L') := HRt.out.next QN
              replace HPD : Hid (Pc (uG.alloc (Obj.cells #[Value.int IntKind.i64 0, Value.slice none 0 0] 24)) gD 0 a b MD) := HPD.out.next QN
              replace HPE : Hid (Pc (uG.alloc (Obj.cells #[Value.int IntKind.i64 0, Value.slice none 0 0] 24)) gE 0 a b ME) := HPE.out.next QN
              replace p0 := QN.cell p0
              replace p1 := QN.cell p1
              replace r0 := QN.cell r0
              replace r1 := QN.cell r1
              replace sD0 := QN.cell sD0
              replace sD1 := QN.cell sD1
              replace sE0 := QN.cell sE0
              replace sE1 := QN.cell sE1
              replace sF0 := QN.cell sF0
              replace sF1 := QN.cell sF1
              have sG0 : (uG.alloc (Obj.cells #[Value.int IntKind.i64 0, Value.slice none 0 0] 24)).cell? ⟨uG.heap.size, 0, none⟩ = some (.int .i64 0) := by simp [go_sem]
              have sG1 : (uG.alloc (Obj.cells #[Value.int IntKind.i64 0, Value.slice none 0 0] 24)).cell? ⟨uG.heap.size, 1, none⟩ = some (.slice none 0 0) := by simp [go_sem]
              go_wp2_with (go_at_call 5; refine (l1 _ _).mono ?_; rintro e w1 ⟨rfl, hw⟩; obtain rfl := hw.symm)
              generalize (uG.alloc (Obj.cells #[Value.int IntKind.i64 0, Value.slice none 0 0] 24)) = wG at *
              generalize uG.heap.size = BG at *
              clear QN
              refine (pics_same HPD.out HPE.out HLD.out HDE.out hcD hcE).mono ?_
              rintro e z1 ⟨rfl, qz1⟩
              replace sF0 := qz1.cell sF0
              replace sF1 := qz1.cell sF1
              replace sG0 := qz1.cell sG0
              replace sG1 := qz1.cell sG1
              have HQz : Hid (Q w z1) := HQm.out.trans qz1
              clear qz1
              go_wp2_with (go_at_call 5; refine (l1 _ _).mono ?_; rintro e w1 ⟨rfl, hw⟩; obtain rfl := hw.symm)
              refine (yes_pics0 z1).mono ?_
              rintro e z2 ⟨rfl, qz2⟩
              have HQy : Hid (Q w z2) := HQz.out.trans qz2
              clear qz2
              go_wp2_with fail
              go_ret
              exact ⟨rfl, HQy.out⟩
end Go.Proofs.Ytlelgifdnhnphab

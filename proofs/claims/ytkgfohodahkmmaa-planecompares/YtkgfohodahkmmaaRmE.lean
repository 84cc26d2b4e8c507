/- A Room holds what it has lent. -/
import Derived.Test.YtkgfohodahkmmaaRmD
namespace Go.Proofs.Ytkgfohodahkmmaa
open Go.RowKit
set_option linter.unusedVariables false
set_option linter.unusedSimpArgs false

set_option maxHeartbeats 8000000 in
set_option maxRecDepth 100000 in
theorem room_hold (base : Nat) (w : World) (r : Nat) {sv wv : Value} {L : List Lend} (h : Rm base w r sv wv L) (hL : L.length ≤ 1000) (hn : ∀ x ∈ L, x.V.length ≤ 35184372087813) :
    Calls Try.prog 21 #[.pointer (some ⟨r, 0, none⟩)] w fun e w' => e = .returned (.bool true) ∧ Q w w' := by
  obtain ⟨sa, sc, es⟩ := own_len h.own
  obtain ⟨wa, wc, ew⟩ := own_len h.were
  subst es ew
  obtain ⟨l, hl⟩ : ∃ l, L.length = l := ⟨_, rfl⟩
  have HLL : Hid (L.length = l) := hl
  have HR : Hid (Rm base w r (.slice sa L.length sc) (.slice wa L.length wc) L) := h
  have HB : Hid (∀ x ∈ L, x.V.length ≤ 35184372087813) := hn
  have c0 := h.c0
  have c1 := h.c1
  have c2 := h.c2
  have c4 := h.c4
  have c6 := h.c6
  rw [hl] at c0 c1 hL
  clear h hl hn
  go_enter Try.func21, Try.ntmps21
  go_wp2_with fail
  go_loopg [3] l (fun m s3 wx => ∃ i : Nat, s3 = .int .i64 i ∧ i + m = l ∧ Hid (Q w wx))
  case atStart => exact ⟨0, rfl, by omega, Q.refl w⟩
  case round =>
    obtain ⟨i, rfl, hi, HQ⟩ := hrel
    generalize wr = wo at *
    generalize gk = gm at *
    have k0 := HQ.out.cell c0
    have k1 := HQ.out.cell c1
    have k2 := HQ.out.cell c2
    have k4 := HQ.out.cell c4
    have k6 := HQ.out.cell c6
    by_cases hil : i < l
    · have hi0 : (0 : Int) ≤ (i : Int) := by omega
      have hi1 : (i : Int) < (l : Int) := by omega
      have hiL : i < L.length := by rw [HLL.out]; exact hil
      obtain ⟨x, hx⟩ : ∃ x, L[i]? = some x := ⟨_, List.getElem?_eq_getElem hiL⟩
      have hxm : x ∈ L := List.mem_of_getElem? hx
      obtain ⟨gs, cs, e1, e2, e3, e4⟩ := own_cell HR.out.own (i := i) (u := x.s) (by rw [List.getElem?_map, hx]; rfl)
      obtain ⟨gw, cw, f1, f2, f3, f4⟩ := own_cell HR.out.were (i := i) (u := x.t) (by rw [List.getElem?_map, hx]; rfl)
      injection e1 with e1 _ _
      injection f1 with f1 _ _
      rw [e1] at k0
      rw [f1] at k1
      replace e4 := HQ.out.cell e4
      replace f4 := HQ.out.cell f4
      unfold Lend.s at e4
      unfold Lend.t at f4
      obtain ⟨p1, p2, p3⟩ := HR.out.it x hxm
      have US : Hid (UIs wo x.g 0 x.V) := p2.us.next HQ.out
      have UW : Hid (UIs wo x.h 0 x.V) := p3.us.next HQ.out
      have hxn := HB.out x hxm
      obtain ⟨xg, ex1⟩ : ∃ xg, x.g = xg := ⟨_, rfl⟩
      obtain ⟨xh, ex2⟩ : ∃ xh, x.h = xh := ⟨_, rfl⟩
      obtain ⟨xc, ex3⟩ : ∃ xc, x.cap = xc := ⟨_, rfl⟩
      obtain ⟨xn, ex4⟩ : ∃ xn, x.V.length = xn := ⟨_, rfl⟩
      have HXN : Hid (x.V.length = xn) := ex4
      rw [ex1, ex4] at e4
      rw [ex2, ex3, ex4] at f4
      rw [ex1] at US
      rw [ex2] at UW
      rw [ex4] at hxn
      clear ex1 ex2 ex3 ex4 e1 f1 hx hxm p1 p2 p3 e2 e3 f2 f3
      go_wp2_with fail
      go_loopg [4] xn (fun m s4 wy => ∃ j : Nat, s4 = .int .i64 j ∧ j + m = xn ∧ Hid (Q wo wy))
      case atStart => exact ⟨0, rfl, by omega, Q.refl wo⟩
      case round =>
        obtain ⟨j, rfl, hj, HQJ⟩ := hrel
        have n0' := HQJ.out.cell k0
        have n1' := HQJ.out.cell k1
        have n2' := HQJ.out.cell e4
        have n3' := HQJ.out.cell f4
        by_cases hjn : j < xn
        · have hj0 : (0 : Int) ≤ (j : Int) := by omega
          have hj1 : (j : Int) < (xn : Int) := by omega
          have n4 := HQJ.out.cell (US.out j (by rw [HXN.out]; exact hjn))
          have n5 := HQJ.out.cell (UW.out j (by rw [HXN.out]; exact hjn))
          rw [Nat.zero_add] at n4 n5
          obtain ⟨z, hz⟩ : ∃ z, x.V.getD j 0 = z := ⟨_, rfl⟩
          rw [hz] at n4 n5
          have hzz : ((z : Int) == (z : Int)) = true := by simp
          have n0 := qw_some wr
          have d0 := qw_cell n0'
          have d1 := qw_cell n1'
          have d2 := qw_cell n2'
          have d3 := qw_cell n3'
          have d4 := qw_cell n4
          have d5 := qw_cell n5
          clear hz
          go_wp2_with fail
          refine wp_region_quiet_Q (by kernel_rfl) (by kernel_rfl) ?_
          repeat (first | go_big_quiet_step (fail) | quiet_step (fail))
          refine wpQuiet_nil ?_
          intro w4 hw'
          have hq4 := qw_out hw'
          clear hw' n0 d0 d1 d2 d3 d4 d5
          have HQ4 : Hid (Q wo w4) := HQJ.out.trans hq4
          go_wp2_with fail
          go_roundg (xn - (j + 1))
          case measure => go_light; omega
          case rel => go_light; exact ⟨j + 1, by go_num, by omega, HQ4⟩
        · have hje : j = xn := by omega
          have HQE : Hid (Q w wr) := HQ.out.trans HQJ.out
          go_wp2_with fail
          go_roundg (gm - 1)
          case measure => go_light; omega
          case rel => go_light; exact ⟨i + 1, by go_num, by omega, HQE⟩
    · have hie : i = l := by omega
      clear k1
      go_wp2_with fail
      go_loopg [5] 0 (fun m s5 wx => s5 = .int .i64 ((0 : Nat) : Int) ∧ m = 0 ∧ Hid (Q wo wx))
      case atStart => exact ⟨rfl, rfl, Q.refl wo⟩
      case round =>
        obtain ⟨rfl, hm0, HQ3⟩ := hrel
        generalize wr = wp at *
        generalize gk = gn at *
        replace k2 := HQ3.out.cell k2
        replace k4 := HQ3.out.cell k4
        replace k6 := HQ3.out.cell k6
        go_wp2_with fail
        go_loopg [7] 0 (fun m s7 wx => s7 = .int .i64 ((0 : Nat) : Int) ∧ m = 0 ∧ Hid (Q wp wx))
        case atStart => exact ⟨rfl, rfl, Q.refl wp⟩
        case round =>
          obtain ⟨rfl, hm1, HQ5⟩ := hrel
          generalize wr = wq at *
          generalize gk = gq at *
          replace k4 := HQ5.out.cell k4
          replace k6 := HQ5.out.cell k6
          go_wp2_with fail
          go_loopg [9] 0 (fun m s9 wx => s9 = .int .i64 ((0 : Nat) : Int) ∧ m = 0 ∧ Hid (Q wq wx))
          case atStart => exact ⟨rfl, rfl, Q.refl wq⟩
          case round =>
            obtain ⟨rfl, hm2, HQ7⟩ := hrel
            replace k6 := HQ7.out.cell k6
            have QE : Hid (Q w wr) := ((HQ.out.trans HQ3.out).trans HQ5.out).trans HQ7.out
            go_wp2_with fail
            go_ret
            exact ⟨rfl, QE.out⟩
end Go.Proofs.Ytkgfohodahkmmaa

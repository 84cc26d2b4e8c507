/- A Book keeps a plane; it holds what it keeps. -/
import Derived.Test.YtkgfohodahkmmaaBkB
namespace Go.Proofs.Ytkgfohodahkmmaa
open Go.RowKit
set_option linter.unusedVariables false
set_option linter.unusedSimpArgs false

set_option maxHeartbeats 4000000 in
set_option maxRecDepth 100000 in
theorem book_plane_y (w0 w : World) (q0 : Q w0 w) (k lo : Nat) {R : Nat → Prop} {sv mv : Value} {L : List Kept} (h : Bk R w0.heap.size w k sv mv L) (hlo : ∀ b, BBlk k sv mv L b → b < lo) (hRl : ∀ b, R b → b < lo) (hL : L.length ≤ 1000) (W H : Int) (v : Value) (n m : Nat) (hv : NewN lo w v n) (hn : n ≤ 65536) (hm : m ≤ 100000) :
    Calls Try.prog 19 #[.pointer (some ⟨k, 0, none⟩), .agg #[.int .i64 W, .int .i64 H, v], .int .i64 (m : Int)] w fun e w' => e = .returned (.tuple #[]) ∧ ∃ sv' mv' x, Hid (Q w0 w') ∧ Hid (Bk (Left R lo w v) w0.heap.size w' k sv' mv' (L ++ [x])) ∧ Hid (Fr w w' (Left R lo w v)) := by
  obtain ⟨w1, hw1⟩ : ∃ w1, w.alloc (.cells #[.int .i64 W, .int .i64 H, v] 25) = w1 := ⟨_, rfl⟩
  have Q1 : Hid (Q w w1) := by rw [← hw1]; exact (Q.refl w).cells _ _
  have z02 : w1.cell? ⟨w.heap.size, 2, none⟩ = some v := by rw [← hw1]; simp [go_sem]
  have A := book_samples_y w0 w1 (q0.trans Q1.out) k lo (h.next Q1.out) hlo hRl hL v n m (hv.next Q1.out) hn hm
  obtain ⟨a, c, hvv⟩ : ∃ a c, v = .slice a n c := by
    rcases hv with ⟨rfl, rfl⟩ | ⟨g, rfl, _⟩
    · exact ⟨_, _, rfl⟩
    · exact ⟨_, _, rfl⟩
  subst hvv
  clear h hv q0 hlo hRl
  go_enter Try.func19, Try.ntmps19
  go_wp2_with fail
  clear hw1
  refine A.mono ?_
  rintro e w2 ⟨rfl, sv', mv', x, q2, b2, f2⟩
  have FF : Hid (Fr w w2 (Left R lo w (.slice a n c))) := (Q1.out.fr _).trans (f2.out.mono (fun y hy _ => hy.elim Or.inl (fun h => Or.inr ⟨h.1, Nat.lt_of_lt_of_le h.2.1 Q1.out.1.size, h.2.2⟩)))
  have BB : Hid (Bk (Left R lo w (.slice a n c)) w0.heap.size w2 k sv' mv' (L ++ [x])) := b2.out.more (fun y hy => Or.inl (hy.elim Or.inl (fun h => Or.inr ⟨h.1, Nat.lt_of_lt_of_le h.2.1 Q1.out.1.size, h.2.2⟩)))
  clear A
  go_wp2_with fail
  refine bodyPost_end (v := .tuple #[]) (by simp [results, Try.results19, go_sem]) rfl ⟨rfl, _, _, _, q2, BB, FF⟩
theorem book_plane_x (w0 wp w : World) (q0 : Q w0 w) (qp : Q wp w) (k : Nat) {R : Nat → Prop} {sv mv : Value} {L : List Kept} (h : Bk R w0.heap.size wp k sv mv L) (hL : L.length ≤ 1000) (W H : Int) (v : Value) (n m : Nat) (hv : New wp w v n) (hn : n ≤ 65536) (hm : m ≤ 100000) :
    Calls Try.prog 19 #[.pointer (some ⟨k, 0, none⟩), .agg #[.int .i64 W, .int .i64 H, v], .int .i64 (m : Int)] w fun e w' => e = .returned (.tuple #[]) ∧ ∃ sv' mv' x, Hid (Q w0 w') ∧ Hid (Bk (Left R wp.heap.size w v) w0.heap.size w' k sv' mv' (L ++ [x])) ∧ Hid (Fr w w' (Left R wp.heap.size w v)) :=
  book_plane_y w0 w q0 k wp.heap.size (h.next qp) (fun b hb => (h.lt hb).2) (fun b hb => (h.far b hb).1) hL W H v n m hv.toN hn hm
theorem book_plane (w0 wp w : World) (q0 : Q w0 w) (qp : Q wp w) (k : Nat) {R : Nat → Prop} {sv mv : Value} {L : List Kept} (h : Bk R w0.heap.size wp k sv mv L) (hL : L.length ≤ 1000) (W H : Int) (v : Value) (n m : Nat) (hv : New wp w v n) (hn : n ≤ 65536) (hm : m ≤ 100000) :
    Calls Try.prog 19 #[.pointer (some ⟨k, 0, none⟩), .agg #[.int .i64 W, .int .i64 H, v], .int .i64 (m : Int)] w fun e w' => e = .returned (.tuple #[]) ∧ ∃ sv' mv' x, Hid (Q w0 w') ∧ Hid (Bk R w0.heap.size w' k sv' mv' (L ++ [x])) ∧ Hid (Fr w w' R) :=
  (book_plane_x w0 wp w q0 qp k h hL W H v n m hv hn hm).mono fun e w' ⟨he, sv', mv', x, q, b, f⟩ => ⟨he, sv', mv', x, q, b.out.more (fun y hy => Or.inl (Or.inl hy)), f.out.mono (fun y hy _ => Or.inl hy)⟩
set_option maxHeartbeats 8000000 in
set_option maxRecDepth 100000 in
theorem book_hold {R : Nat → Prop} (base : Nat) (w : World) (k : Nat) {sv mv : Value} {L : List Kept} (h : Bk R base w k sv mv L) (hL : L.length ≤ 1000) :
    Calls Try.prog 20 #[.pointer (some ⟨k, 0, none⟩)] w fun e w' => e = .returned (.bool true) ∧ Q w w' := by
  obtain ⟨sa, sc, es⟩ := own_len h.own
  obtain ⟨wa, wc, ew⟩ := own_len h.marks
  subst es ew
  obtain ⟨l, hl⟩ : ∃ l, L.length = l := ⟨_, rfl⟩
  have HLL : Hid (L.length = l) := hl
  have HR : Hid (Bk R base w k (.slice sa L.length sc) (.slice wa L.length wc) L) := h
  have c0 := h.c0
  have c1 := h.c1
  have c2 := h.c2
  have c3 := h.c3
  have c4 := h.c4
  rw [hl] at c0 c4 hL
  clear h hl
  go_enter Try.func20, Try.ntmps20
  go_wp2_with fail
  go_loopg [3] l (fun m s3 wx => ∃ i : Nat, s3 = .int .i64 i ∧ i + m = l ∧ Hid (Q w wx))
  case atStart => exact ⟨0, rfl, by omega, Q.refl w⟩
  case round =>
    obtain ⟨i, rfl, hi, HQ⟩ := hrel
    generalize wr = wo at *
    generalize gk = gm at *
    have k0 := HQ.out.cell c0
    have k1 := HQ.out.cell c1
    have k2 := HQ.out.cell c2
    have k3 := HQ.out.cell c3
    have k4 := HQ.out.cell c4
    by_cases hil : i < l
    · have hi0 : (0 : Int) ≤ (i : Int) := by omega
      have hi1 : (i : Int) < (l : Int) := by omega
      have hiL : i < L.length := by rw [HLL.out]; exact hil
      obtain ⟨x, hx⟩ : ∃ x, L[i]? = some x := ⟨_, List.getElem?_eq_getElem hiL⟩
      have hxm : x ∈ L := List.mem_of_getElem? hx
      obtain ⟨gs, cs, e1, e2, e3, e4⟩ := own_cell HR.out.own (i := i) (u := x.s) (by rw [List.getElem?_map, hx]; rfl)
      obtain ⟨gw, cw, f1, f2, f3, f4⟩ := own_cell HR.out.marks (i := i) (u := x.t) (by rw [List.getElem?_map, hx]; rfl)
      injection e1 with e1 _ _
      injection f1 with f1 _ _
      rw [e1] at k0
      rw [f1] at k4
      replace e4 := HQ.out.cell e4
      replace f4 := HQ.out.cell f4
      unfold Kept.s at e4
      unfold Kept.t at f4
      obtain ⟨p1, p2, p3, p4⟩ := HR.out.it x hxm
      have US : Hid (∀ g, x.a = some g → ∀ i, i < x.n → wo.cell? ⟨g, i, none⟩ = some (.int .u32 (mkv x.m i : Nat))) := fun g hg i hi => HQ.out.cell ((p4 g hg).us i hi)
      have NN : Hid (x.a = none → x.n = 0) := p3
      obtain ⟨xa, ex1⟩ : ∃ xa, x.a = xa := ⟨_, rfl⟩
      obtain ⟨xn, ex2⟩ : ∃ xn, x.n = xn := ⟨_, rfl⟩
      obtain ⟨xm, ex3⟩ : ∃ xm, x.m = xm := ⟨_, rfl⟩
      rw [ex1, ex2] at e4 NN
      rw [ex3] at f4 p2
      rw [ex2] at p1
      rw [ex1, ex2, ex3] at US
      obtain ⟨AD, hAD⟩ : ∃ AD, xa.map (fun g => (⟨g, 0, none⟩ : Addr)) = AD := ⟨_, rfl⟩
      rw [hAD] at e4
      have HAD : Hid (xa.map (fun g => (⟨g, 0, none⟩ : Addr)) = AD) := hAD
      clear ex1 ex2 ex3 e1 f1 hx hxm p3 p4 e2 e3 f2 f3 hAD
      go_wp2_with fail
      go_loopg [4] xn (fun m s4 wy => ∃ j : Nat, s4 = .int .i64 j ∧ j + m = xn ∧ Hid (Q wo wy))
      case atStart => exact ⟨0, rfl, by omega, Q.refl wo⟩
      case round =>
        obtain ⟨j, rfl, hj, HQJ⟩ := hrel
        have n0' := HQJ.out.cell k0
        have n1' := HQJ.out.cell k4
        have n2' := HQJ.out.cell e4
        have n3' := HQJ.out.cell f4
        by_cases hjn : j < xn
        · have hj0 : (0 : Int) ≤ (j : Int) := by omega
          have hj1 : (j : Int) < (xn : Int) := by omega
          obtain ⟨g, hg⟩ : ∃ g, xa = some g := by
            cases hxa : xa with
            | none => have := NN.out hxa; omega
            | some g => exact ⟨g, rfl⟩
          have hAD : AD = some ⟨g, 0, none⟩ := by rw [← HAD.out, hg]; rfl
          rw [hAD] at n2'
          have n4 := HQJ.out.cell (US.out g hg j hjn)
          have MA : Hid (∀ w' : World, Calls Try.prog 50 #[.int .i64 (xm : Int), .int .i64 (j : Int)] w' fun e w'' => e = .returned (.int .i64 (mkv xm j : Nat)) ∧ w'' = w') := fun w' => mark_any xm j p2 (by omega) w'
          have zl := mkv_lt xm j
          obtain ⟨z, hz⟩ : ∃ z, mkv xm j = z := ⟨_, rfl⟩
          rw [hz] at n4 zl MA
          have hzz : ((z : Int) == (z : Int)) = true := by simp
          have hw : IntKind.u32.wrap (z : Int) = (z : Int) := by rw [IntKind.wrap_u32]; omega
          have n0 := qw_some wr
          have d0 := qw_cell n0'
          have d1 := qw_cell n1'
          have d2 := qw_cell n2'
          have d3 := qw_cell n3'
          have d4 := qw_cell n4
          clear hz hg
          go_wp2_with fail
          refine wp_region_quiet_Q (by kernel_rfl) (by kernel_rfl) ?_
          repeat (first | go_big_quiet_step (first | (go_at_call 50; exact calls_qs (MA.out _))) | quiet_step (first | (go_at_call 50; exact calls_qs (MA.out _))))
          refine wpQuiet_nil ?_
          intro w4 hw'
          have hq4 := qw_out hw'
          clear hw' n0 d0 d1 d2 d3 d4 MA
          have HQ4 : Hid (Q wo w4) := HQJ.out.trans hq4
          go_wp2_with fail
          go_roundg (xn - (j + 1))
          case measure => go_light; omega
          case rel => go_light; exact ⟨j + 1, by go_num, by omega, HQ4⟩
        · have hje : j = xn := by omega
          have HQE : Hid (Q w wr) := HQ.out.trans HQJ.out
          go_wp2_with fail
          go_roundg (gm - 1)
          case measure => go_light; omega
          case rel => go_light; exact ⟨i + 1, by go_num, by omega, HQE⟩
    · have hie : i = l := by omega
      clear k4
      go_wp2_with fail
      go_loopg [5] 0 (fun m s5 wx => s5 = .int .i64 ((0 : Nat) : Int) ∧ m = 0 ∧ Hid (Q wo wx))
      case atStart => exact ⟨rfl, rfl, Q.refl wo⟩
      case round =>
        obtain ⟨rfl, hm0, HQ3⟩ := hrel
        generalize wr = wp at *
        generalize gk = gn at *
        replace k1 := HQ3.out.cell k1
        replace k2 := HQ3.out.cell k2
        replace k3 := HQ3.out.cell k3
        go_wp2_with fail
        go_loopg [7] 0 (fun m s7 wx => s7 = .int .i64 ((0 : Nat) : Int) ∧ m = 0 ∧ Hid (Q wp wx))
        case atStart => exact ⟨rfl, rfl, Q.refl wp⟩
        case round =>
          obtain ⟨rfl, hm1, HQ5⟩ := hrel
          generalize wr = wq at *
          generalize gk = gq at *
          replace k2 := HQ5.out.cell k2
          replace k3 := HQ5.out.cell k3
          go_wp2_with fail
          go_loopg [9] 0 (fun m s9 wx => s9 = .int .i64 ((0 : Nat) : Int) ∧ m = 0 ∧ Hid (Q wq wx))
          case atStart => exact ⟨rfl, rfl, Q.refl wq⟩
          case round =>
            obtain ⟨rfl, hm2, HQ7⟩ := hrel
            replace k3 := HQ7.out.cell k3
            have QE : Hid (Q w wr) := ((HQ.out.trans HQ3.out).trans HQ5.out).trans HQ7.out
            go_wp2_with fail
            go_ret
            exact ⟨rfl, QE.out⟩
end Go.Proofs.Ytkgfohodahkmmaa

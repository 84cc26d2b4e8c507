/- pyramid: columns made anew. (gen_pyj.py, out of PyI) -/
import Derived.Test.YtgaolakfgjmeiabG3b137fda
namespace Go.Proofs.Ytgaolakfgjmeiab
open Go.RowKit Go.Shelf
set_option linter.unusedVariables false
set_option linter.unusedSimpArgs false
attribute [local go_sem] Oper.semAt_some

set_option maxHeartbeats 4000000 in
set_option maxRecDepth 100000 in
theorem down_any (L : Nat → Mx) (pa pb nc n gm g0 o0 np c : Nat) (S : List Nat) (w : World) (hsz : Size pa pb) (hszr : Size pa nc) (hnp : np = pa * pb) (hn : pa * nc = n) (hS : S.length = np) (hb : ∀ i, S.getD i 0 < 4294967296) (hI : UIs w g0 o0 S) (hc : np ≤ c) (hL : MxL w gm nc L) (hO : ∀ i, (L i).Ok pb) :
    Calls Try.prog 29 #[.agg #[.int .i64 (pa : Int), .int .i64 (pb : Int), .slice (some ⟨g0, o0, none⟩) np c], .slice (some ⟨gm, 0, none⟩) nc nc] w fun e w' => ∃ gt, e = .returned (.agg #[.int .i64 (pa : Int), .int .i64 (nc : Int), .slice (some ⟨gt, 0, none⟩) n n]) ∧ VR w' gt n (fun j => .int .u32 ((dwnF L pa S j : Nat) : Int)) ∧ w.heap.size ≤ gt ∧ gt < w'.heap.size ∧ Qb w w' := by
  have hn2 : n ≤ 65536 := by rw [← hn]; exact hszr.ab
  have CZ : Hid (∀ w : World, Calls Try.prog 25 #[.int .i64 (pa : Int), .int .i64 (nc : Int)] w fun e w' => ∃ g, e = .returned (.agg #[.int .i64 (pa : Int), .int .i64 (nc : Int), .slice (some ⟨g, 0, none⟩) n n]) ∧ VR w' g n (fun _ => .int .u32 0) ∧ w.heap.size ≤ g ∧ Q w w') := fun w => sized_any pa nc n (by omega) hn w
  obtain ⟨w1, hw1⟩ : ∃ w1, ((w.alloc (.cells #[.int .i64 (pa : Int), .int .i64 (pb : Int), .slice (some ⟨g0, o0, none⟩) np c] 24)).alloc (.cells #[.slice (some ⟨gm, 0, none⟩) nc nc] 55)).alloc (.cells #[.int .i64 0, .int .i64 0, .slice none 0 0] 24) = w1 := ⟨_, rfl⟩
  have q1 : Q w w1 := by rw [← hw1]; exact (((Q.refl w).cells _ _).cells _ _).cells _ _
  have s1 : w1.heap.size = w.heap.size + 3 := by rw [← hw1]; simp
  have p1 : PBx w1 w.heap.size pa pb (.slice (some ⟨g0, o0, none⟩) np c) := ⟨by rw [← hw1]; simp [go_sem], by rw [← hw1]; simp [go_sem], by rw [← hw1]; simp [go_sem]⟩
  have m1 : w1.cell? ⟨w.heap.size + 1, 0, none⟩ = some (.slice (some ⟨gm, 0, none⟩) nc nc) := by rw [← hw1]; simp [go_sem]
  have r0 : w1.cell? ⟨w.heap.size + 2, 0, none⟩ = some (.int .i64 0) := by rw [← hw1]; simp [go_sem]
  have r1 : w1.cell? ⟨w.heap.size + 2, 1, none⟩ = some (.int .i64 0) := by rw [← hw1]; simp [go_sem]
  have r2 : w1.cell? ⟨w.heap.size + 2, 2, none⟩ = some (.slice none 0 0) := by rw [← hw1]; simp [go_sem]
  have rf : ∀ j, w1.frozen? ⟨w.heap.size + 2, j, none⟩ = false := fun j => by rw [← hw1]; simp [go_sem]
  have H1 : Hid (Q w w1 ∧ w1.heap.size = w.heap.size + 3 ∧ PBx w1 w.heap.size pa pb (.slice (some ⟨g0, o0, none⟩) np c) ∧ w1.cell? ⟨w.heap.size + 1, 0, none⟩ = some (.slice (some ⟨gm, 0, none⟩) nc nc) ∧ VR w1 (w.heap.size + 2) 3 (fun j => if j = 2 then .slice none 0 0 else .int .i64 0)) := ⟨q1, s1, p1, m1, fun i hi => by
    have : i = 0 ∨ i = 1 ∨ i = 2 := by omega
    rcases this with rfl | rfl | rfl
    · exact r0
    · exact r1
    · exact r2, rf⟩
  have p1c1 := p1.c0
  have HN : Hid (np = pa * pb ∧ pa * nc = n ∧ S.length = np) := ⟨hnp, hn, hS⟩
  have hn1 : 1 ≤ n := by rw [← hn]; exact hszr.pos
  clear q1 s1 p1 r0 r1 r2 rf hnp hn hS
  refine (callsIn_wide (n := 0)).1 (callsIn_of_wp_marks Try.func29 rfl trivial ?_ rfl)
  simp only [Try.ntmps29, List.size_toArray, List.length_cons, List.length_nil, Nat.reduceAdd, Nat.reduceSub, Array.replicate_succ, Array.replicate_zero, List.push_toArray, List.append_toArray, List.nil_append, List.cons_append]
  gi_wp2
  refine ⟨trivial, rfl, (callsIn_wide.2 (CZ.out _)).mono ?_⟩
  rintro e w4 ⟨gt, rfl, v4, g4, q4⟩
  obtain ⟨w5, hw5⟩ : ∃ w5, w4.alloc (.cells #[.int .i64 (pa : Int), .int .i64 (nc : Int), .slice (some ⟨gt, 0, none⟩) n n] 24) = w5 := ⟨_, rfl⟩
  have q5 : Q w4 w5 := by rw [← hw5]; exact (Q.refl w4).cells _ _
  have t5 : PBx w5 w4.heap.size pa nc (.slice (some ⟨gt, 0, none⟩) n n) := ⟨by rw [← hw5]; simp [go_sem], by rw [← hw5]; simp [go_sem], by rw [← hw5]; simp [go_sem]⟩
  have HQ5 : Hid (Q w4 w5 ∧ PBx w5 w4.heap.size pa nc (.slice (some ⟨gt, 0, none⟩) n n)) := ⟨q5, t5⟩
  have t0 := t5.c0
  have t1 := t5.c1
  have s4 : gt < w4.heap.size := v4.lt hn1
  have H4 : Hid (VR w4 gt n (fun _ => .int .u32 0) ∧ w1.heap.size ≤ gt ∧ Q w1 w4 ∧ gt < w4.heap.size) := ⟨v4, g4, q4, s4⟩
  clear v4 g4 q4 q5 t5 s4
  gi_wp2
  refine ⟨trivial, rfl, (callsIn_wide.2 (places_any pa nc w5)).mono ?_⟩
  rintro e w6 ⟨rfl, q6, s6, d0, d1⟩
  clear hw5 t0 t1 p1c1 m1 hw1
  obtain ⟨Bt, hBt⟩ : ∃ Bt, w4.heap.size = Bt := ⟨_, rfl⟩
  have hlt : gt < w5.heap.size ∧ w5.heap.size + 2 = w6.heap.size ∧ Bt < w5.heap.size ∧ w.heap.size + 3 ≤ gt ∧ gt < Bt := by
    have a1 := HQ5.out.1.1.size
    have a2 := World.block_lt_of_cell? _ _ HQ5.out.2.c0
    have a3 := H4.out.2.1
    have a4 := H4.out.2.2.2
    have a5 := H1.out.2.1
    rw [← hBt]
    refine ⟨by omega, by omega, a2, by omega, a4⟩
  have q16 : Q w1 w6 := (H4.out.2.2.1.trans HQ5.out.1).trans q6
  have HF : Hid (UIs w6 g0 o0 S ∧ MxL w6 gm nc L ∧ PBx w6 w.heap.size pa pb (.slice (some ⟨g0, o0, none⟩) np c) ∧ w6.cell? ⟨w.heap.size + 1, 0, none⟩ = some (.slice (some ⟨gm, 0, none⟩) nc nc) ∧ PBx w6 Bt pa nc (.slice (some ⟨gt, 0, none⟩) n n) ∧ VR w6 (w.heap.size + 2) 3 (fun j => if j = 2 then .slice none 0 0 else .int .i64 0)) := by
    refine ⟨(hI.next H1.out.1).next q16, (hL.next H1.out.1).next q16, H1.out.2.2.1.next q16, q16.cell H1.out.2.2.2.1, ?_, H1.out.2.2.2.2.next q16⟩
    rw [← hBt]
    exact HQ5.out.2.next q6
  have HV6 : Hid (VR w6 gt n (fun _ => .int .u32 0)) := (H4.out.1.next HQ5.out.1).next q6
  have HQ6 : Hid (Q w w6) := H1.out.1.trans q16
  have HLT : Hid (gt < w5.heap.size ∧ w5.heap.size + 2 = w6.heap.size ∧ Bt < w5.heap.size ∧ w.heap.size + 3 ≤ gt ∧ gt < Bt) := hlt
  have HOLD : Hid (g0 < w.heap.size ∧ gm < w.heap.size ∧ (∀ i, i < nc → ∃ gb gf, Ent w6 gm i (L i) gb gf ∧ gb < w.heap.size ∧ gf < w.heap.size)) := by
    have hS := HN.out.2.2
    have hnp := HN.out.1
    have := hsz.pos
    refine ⟨World.block_lt_of_cell? _ _ (hI 0 (by omega)), ?_, fun i hi => ?_⟩
    · obtain ⟨gb, gf, he⟩ := hL 0 (by have := hszr.b1; omega)
      exact he.lt.1
    · obtain ⟨gb, gf, he⟩ := hL i hi
      exact ⟨gb, gf, (he.next H1.out.1).next q16, he.lt.2.1, he.lt.2.2⟩
  rw [hBt]
  clear H4 HQ5 H1 q16 CZ hL hI q6 hlt hBt
  gi_wp2
  refine range_fix (P := Try.prog) (gf := 42) (lb := #[.pointer (some ⟨w5.heap.size + 1, 0, none⟩), .pointer (some ⟨w5.heap.size, 0, none⟩)]) rfl (fun args w => by kernel_rfl) (places_it (w5.heap.size + 1) w5.heap.size pa nc hszr) ?pre ?rd ?ps
    (fun pre Wr => VR Wr gt n (sofar (fun j => .int .u32 ((dwnF L pa S j : Nat) : Int)) (.int .u32 0) pre.length) ∧ KeptIn (fun b => b < w6.heap.size ∧ b ≠ gt) w6 Wr) (fun b => b = gt) ?hD ?hDR ?st ?start ?round ?done
  case pre =>
    intro Wr hk
    exact ⟨hk.one (show w5.heap.size + 1 < w6.heap.size by omega) d1, hk.one (show w5.heap.size < w6.heap.size by omega) d0⟩
  case rd => rintro b (rfl | rfl) <;> omega
  case ps => rintro x args B W ⟨rfl, _⟩; rfl
  case hD => rintro b rfl; have := HLT.out; omega
  case hDR => rintro b (rfl | rfl) h <;> (have := HLT.out; omega)
  case st =>
    rintro pre W W' ⟨h1, h2⟩ hk
    exact ⟨h1.kept hk (by have := HLT.out; omega), h2.trans (hk.mono fun b hb => hb.1)⟩
  case start => exact ⟨by rw [List.length_nil, sofar_zero]; exact HV6.out, KeptIn.reflP _ _⟩
  case round =>
    rintro l pre x rest W args B hl hlw hx ⟨hV, hK⟩ hs ⟨rfl, hB0⟩
    obtain ⟨x1, x2⟩ := range_at hx
    obtain ⟨xi, hxi⟩ : ∃ xi, x % pa = xi := ⟨_, rfl⟩
    obtain ⟨yi, hyi⟩ : ∃ yi, x / pa = yi := ⟨_, rfl⟩
    rw [hxi, hyi]
    have hxl : xi < pa := by rw [← hxi]; exact Nat.mod_lt _ (by have := hszr.a1; omega)
    have hyl : yi < nc := by rw [← hyi]; exact (row_lt x2).2.2
    obtain ⟨gb, gf, he, hgb, hgf⟩ := HOLD.out.2.2 yi hyl
    have hmn : pa ≤ np := by
      have := Nat.le_mul_of_pos_right pa hsz.b1
      have := HN.out.1
      omega
    have HX : Hid (pre.length = x ∧ x < n ∧ x % pa = xi ∧ x / pa = yi) := ⟨x1, by rw [← HN.out.2.1]; exact x2, hxi, hyi⟩
    have HRV : Hid (VR W gt n (sofar (fun j => .int .u32 ((dwnF L pa S j : Nat) : Int)) (.int .u32 0) pre.length) ∧ KeptIn (fun b => b < w6.heap.size ∧ b ≠ gt) w6 W) := ⟨hV, hK⟩
    have HEN : Hid (Ent w6 gm yi (L yi) gb gf ∧ gb < w.heap.size ∧ gf < w.heap.size) := ⟨he, hgb, hgf⟩
    obtain ⟨W1, hW1⟩ : ∃ W1, W.alloc (.cells #[.int .i64 (xi : Int), .int .i64 (yi : Int)] 69) = W1 := ⟨_, rfl⟩
    have qW1 : Q W W1 := by rw [← hW1]; exact (Q.refl W).cells _ _
    have z0 : W1.cell? ⟨W.heap.size, 0, none⟩ = some (.int .i64 (xi : Int)) := by rw [← hW1]; simp [go_sem]
    have z1 : W1.cell? ⟨W.heap.size, 1, none⟩ = some (.int .i64 (yi : Int)) := by rw [← hW1]; simp [go_sem]
    have HZ : Hid (Q W W1 ∧ W1.cell? ⟨W.heap.size, 0, none⟩ = some (.int .i64 (xi : Int)) ∧ W1.cell? ⟨W.heap.size, 1, none⟩ = some (.int .i64 (yi : Int))) := ⟨qW1, z0, z1⟩
    clear hV hK hB0 x1 x2 hxi hyi hx he hgb hgf qW1 z0 z1
    gi_wp2
    refine ⟨HZ.out.1, ?_⟩
    intro W2 hk2 hf2
    have HLTv := HLT.out
    have HKK : Hid (KeptIn (fun b => b < w6.heap.size ∧ b ≠ gt) w6 W2 ∧ VR W2 gt n (sofar (fun j => .int .u32 ((dwnF L pa S j : Nat) : Int)) (.int .u32 0) pre.length) ∧ W2.cell? ⟨W.heap.size, 0, none⟩ = some (.int .i64 (xi : Int)) ∧ W2.cell? ⟨W.heap.size, 1, none⟩ = some (.int .i64 (yi : Int))) := by
      have kl : KeptIn (fun b => b < w6.heap.size ∧ b ≠ gt) W1 W2 := hk2.mono (fun b hb e => by subst e; have := hb.1; omega)
      refine ⟨(HRV.out.2.trans (KeptIn.of_qP HZ.out.1 (fun b hb => by have := hb.1; omega))).trans kl, (HRV.out.1.next HZ.out.1).kept hk2 (by omega), hk2.one (by omega) HZ.out.2.1, hk2.one (by omega) HZ.out.2.2⟩
    have k6 := HKK.out.1
    have he2 : Ent W2 gm yi (L yi) gb gf := HEN.out.1.kept k6 ⟨by have := HOLD.out; omega, by have := HOLD.out; omega⟩ ⟨by have := HEN.out; omega, by have := HEN.out; omega⟩ ⟨by have := HEN.out; omega, by have := HEN.out; omega⟩
    have n0 := qw_some W2
    have f0 := qw_cell (k6.one (b := Bt) ⟨by omega, by omega⟩ HF.out.2.2.2.2.1.c2)
    have f1 := qw_cell (k6.one (b := w.heap.size + 1) ⟨by omega, by omega⟩ HF.out.2.2.2.1)
    have f2 := qw_cell HKK.out.2.2.1
    have f3 := qw_cell HKK.out.2.2.2
    have f4 := qw_cell (k6.one (b := w.heap.size) ⟨by omega, by omega⟩ HF.out.2.2.1.c2)
    have f5 := qw_cell (k6.one (b := w.heap.size) ⟨by omega, by omega⟩ HF.out.2.2.1.c0)
    have f6 := qw_cell he2.c0
    have f7 := qw_cell he2.c1
    have f8 := qw_cell he2.c2
    have HE2 : Hid (Ent W2 gm yi (L yi) gb gf) := he2
    have HUI : Hid (UIs W2 g0 o0 S) := fun i hi => k6.one (b := g0) ⟨by have := HOLD.out; omega, by have := HOLD.out; omega⟩ (HF.out.1 i hi)
    obtain ⟨kk, hkk⟩ : ∃ kk, (L yi).k = kk := ⟨_, rfl⟩
    obtain ⟨fs, hfs⟩ : ∃ fs, floatOfInt .f64 (L yi).sm = fs := ⟨_, rfl⟩
    rw [hkk] at f6 f8
    rw [hfs] at f7
    have HKF : Hid ((L yi).k = kk ∧ floatOfInt .f64 (L yi).sm = fs) := ⟨hkk, hfs⟩
    have COF : Hid (∀ x2 : World, Q W2 x2 → Calls Try.prog 39 #[.agg #[.slice (some ⟨gb, 0, none⟩) (kk + 1) (kk + 1), .float .f64 fs, .slice (some ⟨gf, 0, none⟩) (kk + 1) (kk + 1)], .slice (some ⟨g0, o0 + xi, none⟩) (np - xi) (c - xi), .int .i64 (pa : Int)] x2 fun e w' => ∃ v, e = .returned v ∧ v = .int .u32 ((dwnF L pa S x : Nat) : Int) ∧ Q x2 w') := fun x2 q2 => by
      have := of_any (L yi) gb gf pb pa g0 (o0 + xi) (np - xi) (c - xi) (fun t => S.getD (t * pa + xi) 0) x2 (hO yi) (HE2.out.p.next q2) hsz.b2 hsz.a2 (fun i hi => by
        have hp : i * pa + xi < np := by
          have := place_lt (W := pa) (H := pb) (x := xi) (y := i) hxl hi
          have := HN.out.1
          omega
        refine ⟨by omega, ?_, hb _⟩
        have h := q2.cell (HUI.out (i * pa + xi) (by have := HN.out.2.2; omega))
        rw [Nat.add_assoc, Nat.add_comm xi]
        exact h) (by have := HN.out.1; have := hsz.ab; omega)
      rw [HKF.out.1, HKF.out.2] at this
      refine this.mono ?_
      rintro e w' ⟨rfl, q⟩
      refine ⟨_, rfl, ?_, q⟩
      unfold dwnF
      rw [HX.out.2.2.1, HX.out.2.2.2]
    have HFE : Hid (∀ (args : Array Value) (x : World), (callFunc 39 args).run Try.prog x = .ok (.enter 39 args) x) := fun args x => by kernel_rfl
    have hyl' : (yi : Int) < (nc : Int) := by omega
    have hm1 : (xi : Int) ≤ (np : Int) := by omega
    have hm2 : (xi : Int) ≤ (c : Int) := by omega
    have hm3 : (xi : Int) < (np : Int) := by omega
    have hm4 : (xi : Int) < (c : Int) := by omega
    have hm5 : xi < c := by omega
    have hpa1 := hsz.a1
    have HXN : Hid (x < n) := HX.out.2.1
    clear hkk hfs he2 k6 hk2 hf2 HLTv hpa1 hmn
    refine wpIn_block ?_
    refine wpIn_region_mk [0, 1, 2, 3, 4, 5, 6, 7, 8, 9, 10, 11, 12, 13, 14] [[15, 16, 17]] 3 _ (by kernel_rfl) (by kernel_rfl) rfl (by kernel_rfl) ?_
    simp only [List.filterMap_cons, List.filterMap_nil, List.getElem?_cons_zero, List.getElem?_cons_succ]
    repeat (first | go_big_quiet_step (fail) | quiet_step (fail))
    refine wpQuiet_nil ?_
    intro x2 hx2
    refine itree_callG (open_round l) 15 rfl rfl (fun c h => by cases h) (run_fn 39 #[.tmp 27, .tmp 32, .tmp 34] _ rfl HFE.out (vs := #[.agg #[.slice (some ⟨gb, 0, none⟩) (kk + 1) (kk + 1), .float .f64 fs, .slice (some ⟨gf, 0, none⟩) (kk + 1) (kk + 1)], .slice (some ⟨g0, o0 + xi, none⟩) (np - xi) (c - xi), .int .i64 (pa : Int)]) (by simp [Act.eval, Act.put]; try omega)) (G := fun v w' => v = .int .u32 ((dwnF L pa S x : Nat) : Int) ∧ Q x2 w') (CallsIn.inRound l (callsIn_wide.2 (COF.out x2 hx2))) ?_
    rintro v x3 ⟨rfl, q3⟩
    refine ⟨fun _ => hx2.trans q3, ?_⟩
    have hx23 := hx2.trans q3
    have V3 := HKK.out.2.1.next hx23
    obtain ⟨u, hu⟩ : ∃ u, x3.cell? ⟨gt, x, none⟩ = some u := ⟨_, V3.cell x HXN.out⟩
    have fu := V3.free x
    have hxn : x < n := HXN.out
    have hxn' : (x : Int) < (n : Int) := by omega
    refine itree_runF 16 rfl rfl rfl rfl (v := .pointer (some ⟨gt, x, none⟩)) (x' := x3) (by simp [execOp, go_sem, Act.eval, Act.put, hxn, hxn']) ?_
    refine itree_skipF 17 rfl rfl rfl rfl (x' := x3.setCell ⟨gt, x, none⟩ (.int .u32 ((dwnF L pa S x : Nat) : Int))) (by simp [execOp, go_sem, Act.eval, Act.put, hu, fu]) ?_
    refine itree_nil ?_
    refine ⟨rfl, ?_, ?_, ?_⟩
    · exact (Same.of_q hx23 _).trans (same_setP x3 gt x _ (D := fun b => b = gt) rfl) (fun b hb => Or.inl hb)
    · rw [List.length_append, List.length_cons, List.length_nil, HX.out.1] 
      rw [HX.out.1] at V3
      exact V3.fill hxn rfl
    · exact (HKK.out.1.trans (KeptIn.of_qP hx23 (fun b hb => Nat.lt_of_lt_of_le hb.1 HKK.out.1.size))).trans (keptP_set x3 gt x _ (fun h => h.2 rfl))
  case done =>
    rintro E W hE hd hSm ⟨hV, hK⟩
    have HLTv := HLT.out
    have hVf : VR W gt n (fun j => .int .u32 ((dwnF L pa S j : Nat) : Int)) := by
      rw [List.length_range, HN.out.2.1] at hV
      exact hV.full
    have t0 := hK.one (b := Bt) ⟨by omega, by omega⟩ HF.out.2.2.2.2.1.c0
    have t1 := hK.one (b := Bt) ⟨by omega, by omega⟩ HF.out.2.2.2.2.1.c1
    have t2 := hK.one (b := Bt) ⟨by omega, by omega⟩ HF.out.2.2.2.2.1.c2
    have hR := HF.out.2.2.2.2.2.kept hK (by omega)
    have r0 : W.cell? ⟨w.heap.size + 2, 0, none⟩ = some (.int .i64 0) := hR.cell 0 (by omega)
    have r1 : W.cell? ⟨w.heap.size + 2, 1, none⟩ = some (.int .i64 0) := hR.cell 1 (by omega)
    have r2 : W.cell? ⟨w.heap.size + 2, 2, none⟩ = some (.slice none 0 0) := hR.cell 2 (by omega)
    have f0 := hR.free 0
    have f1 := hR.free 1
    have f2 := hR.free 2
    obtain ⟨W5, hW5⟩ : ∃ W5, ((W.setCell ⟨w.heap.size + 2, 0, none⟩ (.int .i64 (pa : Int))).setCell ⟨w.heap.size + 2, 1, none⟩ (.int .i64 (nc : Int))).setCell ⟨w.heap.size + 2, 2, none⟩ (.slice (some ⟨gt, 0, none⟩) n n) = W5 := ⟨_, rfl⟩
    have hneE : w.heap.size + 2 ≠ E := by omega
    have v0 : (W5.putObj E (.deferred none)).cell? ⟨w.heap.size + 2, 0, none⟩ = some (.int .i64 (pa : Int)) := by rw [put_cell hneE, ← hW5]; simp [go_sem, r0, r1, r2]
    have v1 : (W5.putObj E (.deferred none)).cell? ⟨w.heap.size + 2, 1, none⟩ = some (.int .i64 (nc : Int)) := by rw [put_cell hneE, ← hW5]; simp [go_sem, r0, r1, r2]
    have v2 : (W5.putObj E (.deferred none)).cell? ⟨w.heap.size + 2, 2, none⟩ = some (.slice (some ⟨gt, 0, none⟩) n n) := by rw [put_cell hneE, ← hW5]; simp [go_sem, r0, r1, r2]
    have hdef : W5.heap[E]? = some (.deferred (some [])) := by
      rw [← hW5, Below.heap_setCell _ _ _ _ (by exact hneE.symm), Below.heap_setCell _ _ _ _ (by exact hneE.symm), Below.heap_setCell _ _ _ _ (by exact hneE.symm)]
      exact hd
    have HEND : Hid (VR (W5.putObj E (.deferred none)) gt n (fun j => .int .u32 ((dwnF L pa S j : Nat) : Int)) ∧ w.heap.size ≤ gt ∧ gt < (W5.putObj E (.deferred none)).heap.size ∧ Qb w (W5.putObj E (.deferred none))) := by
      have nB : w.heap.size + 2 ≠ gt := by omega
      have hv5 : VR W5 gt n (fun j => .int .u32 ((dwnF L pa S j : Nat) : Int)) := by rw [← hW5]; exact ((hVf.other nB _).other nB _).other nB _
      have hqb : Qb w W := HQ6.out.qb.trans' hSm (fun b hb => by omega)
      have hq5 : Qb w W5 := by rw [← hW5]; exact ((hqb.set (by show w.heap.size ≤ w.heap.size + 2; omega) _).set (by show w.heap.size ≤ w.heap.size + 2; omega) _).set (by show w.heap.size ≤ w.heap.size + 2; omega) _
      have hend := hv5.putO (E := E) (by omega) (.deferred none)
      exact ⟨hend, by omega, hend.lt hn1, hq5.put (by omega) _⟩
    clear hV hK hSm hVf hR HLTv hd hE
    gi_wp2
    refine ⟨by simp, .inl ⟨_, _, rfl, run_takeDeferred hdef, ?_⟩⟩
    exact ⟨.agg #[.int .i64 (pa : Int), .int .i64 (nc : Int), .slice (some ⟨gt, 0, none⟩) n n], by simp [results, Try.results29, go_sem, v0, v1, v2], gt, rfl, HEND.out⟩
end Go.Proofs.Ytgaolakfgjmeiab
/- pyramid: reduced, expanded. (gen_pyk.py) -/
namespace Go.Proofs.Ytgaolakfgjmeiab
open Go.RowKit Go.Shelf
set_option linter.unusedVariables false
set_option linter.unusedSimpArgs false

def rdF (pa pb : Nat) (S : List Nat) (j : Nat) : Nat := dwnF (hlv pb) ((pa + 1) / 2) (tabB ((pa + 1) / 2 * pb) (acrF (hlv pa) ((pa + 1) / 2) pa S)) j
def exF (pa pb a b : Nat) (S : List Nat) (j : Nat) : Nat := dwnF (dbl pb) a (tabB (a * pb) (acrF (dbl pa) a pa S)) j
theorem dwnF_lt (L : Nat → Mx) (pa : Nat) (S : List Nat) (j : Nat) : dwnF L pa S j < 4294967296 := Mx.val_lt _ _
theorem acrF_lt (L : Nat → Mx) (nr pa : Nat) (S : List Nat) (j : Nat) : acrF L nr pa S j < 4294967296 := Mx.val_lt _ _
theorem tabB_lt {n : Nat} {F : Nat → Nat} (h : ∀ j, F j < 4294967296) (i : Nat) : (tabB n F).getD i 0 < 4294967296 := by
  unfold tabB
  rw [List.getD_eq_getElem?_getD, List.getElem?_map]
  cases (List.range n)[i]? with
  | none => show 0 < 4294967296; decide
  | some x => exact h x
theorem Size.mid {a b c d : Nat} (h : Size a b) (k : Size c d) (h1 : c ≤ a ∨ b ≤ d) : Size c b := by
  refine ⟨k.a1, k.a2, h.b1, h.b2, ?_⟩
  rcases h1 with h1 | h1
  · exact Nat.le_trans (Nat.mul_le_mul_right _ h1) h.ab
  · exact Nat.le_trans (Nat.mul_le_mul_left _ h1) k.ab
theorem Size.half {a b : Nat} (h : Size a b) : Size ((a + 1) / 2) ((b + 1) / 2) := by
  have h1 := h.a1
  have h2 := h.a2
  have h3 := h.b1
  have h4 := h.b2
  refine ⟨by omega, by omega, by omega, by omega, Nat.le_trans (Nat.mul_le_mul (by omega : (a + 1) / 2 ≤ a) (by omega : (b + 1) / 2 ≤ b)) h.ab⟩
set_option maxHeartbeats 4000000 in
set_option maxRecDepth 100000 in
theorem reduced_any (pa pb nr nc nm n g0 o0 np c : Nat) (S : List Nat) (w : World) (hsz : Size pa pb) (hnp : np = pa * pb) (hnr : (pa + 1) / 2 = nr) (hnc : (pb + 1) / 2 = nc) (hnm : nr * pb = nm) (hn : nr * nc = n) (hS : S.length = np) (hb : ∀ i, S.getD i 0 < 4294967296) (hI : UIs w g0 o0 S) (hc : np ≤ c) :
    Calls Try.prog 20 #[.agg #[.int .i64 (pa : Int), .int .i64 (pb : Int), .slice (some ⟨g0, o0, none⟩) np c]] w fun e w' => ∃ gt, e = .returned (.agg #[.int .i64 (nr : Int), .int .i64 (nc : Int), .slice (some ⟨gt, 0, none⟩) n n]) ∧ VR w' gt n (fun j => .int .u32 ((rdF pa pb S j : Nat) : Int)) ∧ w.heap.size ≤ gt ∧ gt < w'.heap.size ∧ Qb w w' := by
  obtain ⟨w1, hw1⟩ : ∃ w1, (w.alloc (.cells #[.int .i64 (pa : Int), .int .i64 (pb : Int), .slice (some ⟨g0, o0, none⟩) np c] 24)).alloc (.cells #[.int .i64 0, .int .i64 0, .slice none 0 0] 24) = w1 := ⟨_, rfl⟩
  have q1 : Q w w1 := by rw [← hw1]; exact ((Q.refl w).cells _ _).cells _ _
  have s1 : w1.heap.size = w.heap.size + 2 := by rw [← hw1]; simp
  have p1 : PBx w1 w.heap.size pa pb (.slice (some ⟨g0, o0, none⟩) np c) := ⟨by rw [← hw1]; simp [go_sem], by rw [← hw1]; simp [go_sem], by rw [← hw1]; simp [go_sem]⟩
  have r0 : w1.cell? ⟨w.heap.size + 1, 0, none⟩ = some (.int .i64 0) := by rw [← hw1]; simp [go_sem]
  have r1 : w1.cell? ⟨w.heap.size + 1, 1, none⟩ = some (.int .i64 0) := by rw [← hw1]; simp [go_sem]
  have r2 : w1.cell? ⟨w.heap.size + 1, 2, none⟩ = some (.slice none 0 0) := by rw [← hw1]; simp [go_sem]
  have rf : ∀ j, w1.frozen? ⟨w.heap.size + 1, j, none⟩ = false := fun j => by rw [← hw1]; simp [go_sem]
  have HR : Hid (Q w w1 ∧ w1.heap.size = w.heap.size + 2 ∧ w1.cell? ⟨w.heap.size + 1, 0, none⟩ = some (.int .i64 0) ∧ w1.cell? ⟨w.heap.size + 1, 1, none⟩ = some (.int .i64 0) ∧ w1.cell? ⟨w.heap.size + 1, 2, none⟩ = some (.slice none 0 0) ∧ ∀ j, w1.frozen? ⟨w.heap.size + 1, j, none⟩ = false) := ⟨q1, s1, r0, r1, r2, rf⟩
  have szr : Size nr pb := by rw [← hnr]; exact hsz.mid hsz.half (Or.inl (by have := hsz.a1; omega))
  have szc : Size nr nc := by rw [← hnr, ← hnc]; exact hsz.half
  have HI : Hid (UIs w1 g0 o0 S) := hI.next q1
  have HN : Hid (np = pa * pb ∧ nr * pb = nm ∧ nr * nc = n ∧ S.length = np) := ⟨hnp, hnm, hn, hS⟩
  have hn1 : 1 ≤ n := by rw [← hn]; exact szc.pos
  have n0 := cw_some (D := fun x => Qb w1 x) (Qb.refl w1)
  have f0 : ∀ n : CW (fun x => Qb w1 x), n.x.cell? ⟨w.heap.size, 0, none⟩ = some (.int .i64 (pa : Int)) := fun n => n.h.cell p1.c0
  have f1 : ∀ n : CW (fun x => Qb w1 x), n.x.cell? ⟨w.heap.size, 1, none⟩ = some (.int .i64 (pb : Int)) := fun n => n.h.cell p1.c1
  have f2 : ∀ n : CW (fun x => Qb w1 x), n.x.cell? ⟨w.heap.size, 2, none⟩ = some (.slice (some ⟨g0, o0, none⟩) np c) := fun n => n.h.cell p1.c2
  have HE : Hid ((∀ (args : Array Value) (x : World), (callFunc 31 args).run Try.prog x = .ok (.enter 31 args) x) ∧ (∀ (args : Array Value) (x : World), (callFunc 30 args).run Try.prog x = .ok (.enter 30 args) x) ∧ (∀ (args : Array Value) (x : World), (callFunc 29 args).run Try.prog x = .ok (.enter 29 args) x)) := ⟨fun args x => by kernel_rfl, fun args x => by kernel_rfl, fun args x => by kernel_rfl⟩
  have HNR : Hid ((pa + 1) / 2 = nr ∧ (pb + 1) / 2 = nc) := ⟨hnr, hnc⟩
  have HFF : Hid (∀ j, dwnF (hlv pb) nr (tabB nm (acrF (hlv pa) nr pa S)) j = rdF pa pb S j) := fun j => by unfold rdF; rw [hnr, hnm]
  clear hnr hnc
  clear q1 s1 p1 r0 r1 r2 rf hI hnp hnm hn hS
  go_enter Try.func20, Try.ntmps20
  go_wp2_with fail
  refine wp_region_mkP [0, 1, 2, 5, 6] [[3, 4, 7, 8, 9]] 5 _ (fun x => Qb w1 x) (by kernel_rfl) (by kernel_rfl) rfl (by kernel_rfl) ((Qb.refl w1).drew) ?_
  simp only [List.filterMap_cons, List.filterMap_nil, List.getElem?_cons_zero, List.getElem?_cons_succ]
  repeat (first | go_big_quiet_step (fail) | quiet_step (fail))
  refine wpQuiet_nil ?_
  have q1 : Qb w1 w1.drew := (Qb.refl w1).drew
  generalize w1.drew = x1 at q1 ⊢
  refine tree_call 3 rfl rfl (run_fn 31 #[.tmp 5] _ rfl HE.out.1 (vs := #[.int .i64 (pa : Int)]) (by simp [Act.eval, Act.put])) (G := fun v x' => ∃ gm, v = .slice (some ⟨gm, 0, none⟩) nr nr ∧ MxL x' gm nr (hlv pa) ∧ Q x1 x') ((halved_any pa nr hsz.a1 hsz.a2 HNR.out.1 x1).mono fun e x' ⟨gm, h1, h2, h3⟩ => ⟨_, h1, gm, rfl, h2, h3⟩) ?_
  rintro v x2 ⟨gm, rfl, hL2, q2⟩
  refine ⟨q1.trans q2.qb, ?_⟩
  refine tree_call 4 rfl rfl (run_fn 30 #[.tmp 3, .tmp 6] _ rfl HE.out.2.1 (vs := #[.agg #[.int .i64 (pa : Int), .int .i64 (pb : Int), .slice (some ⟨g0, o0, none⟩) np c], .slice (some ⟨gm, 0, none⟩) nr nr]) (by simp [Act.eval, Act.put])) (G := fun v x' => ∃ gt, v = .agg #[.int .i64 (nr : Int), .int .i64 (pb : Int), .slice (some ⟨gt, 0, none⟩) nm nm] ∧ VR x' gt nm (fun j => .int .u32 ((acrF (hlv pa) nr pa S j : Nat) : Int)) ∧ Qb x2 x') ((across_any (hlv pa) pa pb nr nm gm g0 o0 np c S x2 hsz szr HN.out.1 HN.out.2.1 HN.out.2.2.2 hb (HI.out.nextB (q1.trans q2.qb)) hc hL2 (fun i => hlv_ok hsz.a1 i)).mono fun e x' ⟨gt, h1, h2, h3, h4, h5⟩ => ⟨_, h1, gt, rfl, h2, h5⟩) ?_
  rintro v x3 ⟨g3, rfl, v3, q3⟩
  have q13 := (q1.trans q2.qb).trans q3
  refine ⟨q13, ?_⟩
  refine tree_call 7 rfl rfl (run_fn 31 #[.tmp 9] _ rfl HE.out.1 (vs := #[.int .i64 (pb : Int)]) (by simp [Act.eval, Act.put])) (G := fun v x' => ∃ gm, v = .slice (some ⟨gm, 0, none⟩) nc nc ∧ MxL x' gm nc (hlv pb) ∧ Q x3 x') ((halved_any pb nc hsz.b1 hsz.b2 HNR.out.2 x3).mono fun e x' ⟨gm, h1, h2, h3⟩ => ⟨_, h1, gm, rfl, h2, h3⟩) ?_
  rintro v x4 ⟨g4, rfl, hL4, q4⟩
  refine ⟨q13.trans q4.qb, ?_⟩
  refine tree_call 8 rfl rfl (run_fn 29 #[.tmp 7, .tmp 10] _ rfl HE.out.2.2 (vs := #[.agg #[.int .i64 (nr : Int), .int .i64 (pb : Int), .slice (some ⟨g3, 0, none⟩) nm nm], .slice (some ⟨g4, 0, none⟩) nc nc]) (by simp [Act.eval, Act.put])) (G := fun v x' => ∃ gt, v = .agg #[.int .i64 (nr : Int), .int .i64 (nc : Int), .slice (some ⟨gt, 0, none⟩) n n] ∧ VR x' gt n (fun j => .int .u32 ((rdF pa pb S j : Nat) : Int)) ∧ x4.heap.size ≤ gt ∧ gt < x'.heap.size ∧ Qb x4 x') ((down_any (hlv pb) nr pb nc n g4 g3 0 nm nm (tabB nm (acrF (hlv pa) nr pa S)) x4 szr szc HN.out.2.1.symm HN.out.2.2.1 (tabB_len _ _) (tabB_lt (acrF_lt _ _ _ _)) ((vr_uis v3).next q4) (Nat.le_refl _) hL4 (fun i => hlv_ok hsz.b1 i)).mono fun e x' ⟨gt, h1, h2, h3, h4, h5⟩ => ⟨_, h1, gt, rfl, (h2.congr fun j _ => by rw [HFF.out]), h3, h4, h5⟩) ?_
  rintro v x5 ⟨g5, rfl, v5, l5, m5, q5⟩
  have q15 := (q13.trans q4.qb).trans q5
  refine ⟨q15, ?_⟩
  have hs14 : w.heap.size + 2 ≤ x4.heap.size := by have := (q13.trans q4.qb).sz; have := HR.out.2.1; omega
  have e0 := q15.cell HR.out.2.2.1
  have e1 := q15.cell HR.out.2.2.2.1
  have e2 := q15.cell HR.out.2.2.2.2.1
  have hlt : w.heap.size + 1 < w1.heap.size := by have := HR.out.2.1; omega
  have k0 : x5.frozen? ⟨w.heap.size + 1, 0, none⟩ = false := by rw [q15.frozen (by exact hlt)]; exact HR.out.2.2.2.2.2 0
  have k1 : x5.frozen? ⟨w.heap.size + 1, 1, none⟩ = false := by rw [q15.frozen (by exact hlt)]; exact HR.out.2.2.2.2.2 1
  have k2 : x5.frozen? ⟨w.heap.size + 1, 2, none⟩ = false := by rw [q15.frozen (by exact hlt)]; exact HR.out.2.2.2.2.2 2
  obtain ⟨x6, hx6⟩ : ∃ x6, ((x5.setCell ⟨w.heap.size + 1, 0, none⟩ (.int .i64 (nr : Int))).setCell ⟨w.heap.size + 1, 1, none⟩ (.int .i64 (nc : Int))).setCell ⟨w.heap.size + 1, 2, none⟩ (.slice (some ⟨g5, 0, none⟩) n n) = x6 := ⟨_, rfl⟩
  have u0 : x6.cell? ⟨w.heap.size + 1, 0, none⟩ = some (.int .i64 (nr : Int)) := by rw [← hx6]; simp [go_sem, e0, e1, e2]
  have u1 : x6.cell? ⟨w.heap.size + 1, 1, none⟩ = some (.int .i64 (nc : Int)) := by rw [← hx6]; simp [go_sem, e0, e1, e2]
  have u2 : x6.cell? ⟨w.heap.size + 1, 2, none⟩ = some (.slice (some ⟨g5, 0, none⟩) n n) := by rw [← hx6]; simp [go_sem, e0, e1, e2]
  have HEND : Hid (VR x6 g5 n (fun j => .int .u32 ((rdF pa pb S j : Nat) : Int)) ∧ w.heap.size ≤ g5 ∧ g5 < x6.heap.size ∧ Qb w x6) := by
    have nB : w.heap.size + 1 ≠ g5 := by omega
    have hq5 : Qb w x5 := HR.out.1.qb.trans q15
    have l1 : w.heap.size ≤ w.heap.size + 1 := by omega
    rw [← hx6]
    have hv := ((v5.other nB (.int .i64 (nr : Int)) (p := ⟨w.heap.size + 1, 0, none⟩)).other nB (.int .i64 (nc : Int)) (p := ⟨w.heap.size + 1, 1, none⟩)).other nB (.slice (some ⟨g5, 0, none⟩) n n) (p := ⟨w.heap.size + 1, 2, none⟩)
    exact ⟨hv, by omega, hv.lt hn1, ((hq5.set l1 _).set l1 _).set l1 _⟩
  refine tree_skipF 9 rfl rfl rfl (x' := x6) (by simp [execOp, go_sem, Act.eval, Act.put, e0, e1, e2, k0, k1, k2, hx6]) ?_
  refine tree_nil ?_
  clear e0 e1 e2 k0 k1 k2 hx6 v5 l5 m5 q5 q15 v3 q3 q13 q4 hL4 hL2 q2 q1 f0 f1 f2 n0
  go_wp2_with fail
  exact bodyPost_ret (v := .agg #[.int .i64 (nr : Int), .int .i64 (nc : Int), .slice (some ⟨g5, 0, none⟩) n n]) (by simp [results, Try.results20, go_sem, u0, u1, u2]) rfl ⟨g5, rfl, HEND.out⟩
set_option maxHeartbeats 4000000 in
set_option maxRecDepth 100000 in
theorem expanded_any (pa pb nr nc nm n g0 o0 np c : Nat) (S : List Nat) (w : World) (hsz : Size pa pb) (hnp : np = pa * pb) (hsn : Size nr nc) (hbc : pb ≤ nc) (hnm : nr * pb = nm) (hn : nr * nc = n) (hS : S.length = np) (hb : ∀ i, S.getD i 0 < 4294967296) (hI : UIs w g0 o0 S) (hc : np ≤ c) :
    Calls Try.prog 23 #[.agg #[.int .i64 (pa : Int), .int .i64 (pb : Int), .slice (some ⟨g0, o0, none⟩) np c], .int .i64 (nr : Int), .int .i64 (nc : Int)] w fun e w' => ∃ gt, e = .returned (.agg #[.int .i64 (nr : Int), .int .i64 (nc : Int), .slice (some ⟨gt, 0, none⟩) n n]) ∧ VR w' gt n (fun j => .int .u32 ((exF pa pb nr nc S j : Nat) : Int)) ∧ w.heap.size ≤ gt ∧ gt < w'.heap.size ∧ Qb w w' := by
  obtain ⟨w1, hw1⟩ : ∃ w1, (w.alloc (.cells #[.int .i64 (pa : Int), .int .i64 (pb : Int), .slice (some ⟨g0, o0, none⟩) np c] 24)).alloc (.cells #[.int .i64 0, .int .i64 0, .slice none 0 0] 24) = w1 := ⟨_, rfl⟩
  have q1 : Q w w1 := by rw [← hw1]; exact ((Q.refl w).cells _ _).cells _ _
  have s1 : w1.heap.size = w.heap.size + 2 := by rw [← hw1]; simp
  have p1 : PBx w1 w.heap.size pa pb (.slice (some ⟨g0, o0, none⟩) np c) := ⟨by rw [← hw1]; simp [go_sem], by rw [← hw1]; simp [go_sem], by rw [← hw1]; simp [go_sem]⟩
  have r0 : w1.cell? ⟨w.heap.size + 1, 0, none⟩ = some (.int .i64 0) := by rw [← hw1]; simp [go_sem]
  have r1 : w1.cell? ⟨w.heap.size + 1, 1, none⟩ = some (.int .i64 0) := by rw [← hw1]; simp [go_sem]
  have r2 : w1.cell? ⟨w.heap.size + 1, 2, none⟩ = some (.slice none 0 0) := by rw [← hw1]; simp [go_sem]
  have rf : ∀ j, w1.frozen? ⟨w.heap.size + 1, j, none⟩ = false := fun j => by rw [← hw1]; simp [go_sem]
  have HR : Hid (Q w w1 ∧ w1.heap.size = w.heap.size + 2 ∧ w1.cell? ⟨w.heap.size + 1, 0, none⟩ = some (.int .i64 0) ∧ w1.cell? ⟨w.heap.size + 1, 1, none⟩ = some (.int .i64 0) ∧ w1.cell? ⟨w.heap.size + 1, 2, none⟩ = some (.slice none 0 0) ∧ ∀ j, w1.frozen? ⟨w.heap.size + 1, j, none⟩ = false) := ⟨q1, s1, r0, r1, r2, rf⟩
  have szr : Size nr pb := hsz.mid hsn (Or.inr hbc)
  have szc : Size nr nc := hsn
  have HI : Hid (UIs w1 g0 o0 S) := hI.next q1
  have HN : Hid (np = pa * pb ∧ nr * pb = nm ∧ nr * nc = n ∧ S.length = np) := ⟨hnp, hnm, hn, hS⟩
  have hn1 : 1 ≤ n := by rw [← hn]; exact szc.pos
  have n0 := cw_some (D := fun x => Qb w1 x) (Qb.refl w1)
  have f0 : ∀ n : CW (fun x => Qb w1 x), n.x.cell? ⟨w.heap.size, 0, none⟩ = some (.int .i64 (pa : Int)) := fun n => n.h.cell p1.c0
  have f1 : ∀ n : CW (fun x => Qb w1 x), n.x.cell? ⟨w.heap.size, 1, none⟩ = some (.int .i64 (pb : Int)) := fun n => n.h.cell p1.c1
  have f2 : ∀ n : CW (fun x => Qb w1 x), n.x.cell? ⟨w.heap.size, 2, none⟩ = some (.slice (some ⟨g0, o0, none⟩) np c) := fun n => n.h.cell p1.c2
  have HE : Hid ((∀ (args : Array Value) (x : World), (callFunc 33 args).run Try.prog x = .ok (.enter 33 args) x) ∧ (∀ (args : Array Value) (x : World), (callFunc 30 args).run Try.prog x = .ok (.enter 30 args) x) ∧ (∀ (args : Array Value) (x : World), (callFunc 29 args).run Try.prog x = .ok (.enter 29 args) x)) := ⟨fun args x => by kernel_rfl, fun args x => by kernel_rfl, fun args x => by kernel_rfl⟩
  have HFF : Hid (∀ j, dwnF (dbl pb) nr (tabB nm (acrF (dbl pa) nr pa S)) j = exF pa pb nr nc S j) := fun j => by unfold exF; rw [hnm]
  clear q1 s1 p1 r0 r1 r2 rf hI hnp hnm hn hS
  go_enter Try.func23, Try.ntmps23
  go_wp2_with fail
  refine wp_region_mkP [0, 1, 2, 3, 6, 7, 8] [[4, 5, 9, 10, 11]] 5 _ (fun x => Qb w1 x) (by kernel_rfl) (by kernel_rfl) rfl (by kernel_rfl) ((Qb.refl w1).drew) ?_
  simp only [List.filterMap_cons, List.filterMap_nil, List.getElem?_cons_zero, List.getElem?_cons_succ]
  repeat (first | go_big_quiet_step (fail) | quiet_step (fail))
  refine wpQuiet_nil ?_
  have q1 : Qb w1 w1.drew := (Qb.refl w1).drew
  generalize w1.drew = x1 at q1 ⊢
  refine tree_call 4 rfl rfl (run_fn 33 #[.tmp 9, .tmp 10] _ rfl HE.out.1 (vs := #[.int .i64 (pa : Int), .int .i64 (nr : Int)]) (by simp [Act.eval, Act.put])) (G := fun v x' => ∃ gm, v = .slice (some ⟨gm, 0, none⟩) nr nr ∧ MxL x' gm nr (dbl pa) ∧ Q x1 x') ((doubled_any pa nr hsz.a1 hsz.a2 hsn.a1 hsn.a2 x1).mono fun e x' ⟨gm, h1, h2, h3⟩ => ⟨_, h1, gm, rfl, h2, h3⟩) ?_
  rintro v x2 ⟨gm, rfl, hL2, q2⟩
  refine ⟨q1.trans q2.qb, ?_⟩
  refine tree_call 5 rfl rfl (run_fn 30 #[.tmp 7, .tmp 11] _ rfl HE.out.2.1 (vs := #[.agg #[.int .i64 (pa : Int), .int .i64 (pb : Int), .slice (some ⟨g0, o0, none⟩) np c], .slice (some ⟨gm, 0, none⟩) nr nr]) (by simp [Act.eval, Act.put])) (G := fun v x' => ∃ gt, v = .agg #[.int .i64 (nr : Int), .int .i64 (pb : Int), .slice (some ⟨gt, 0, none⟩) nm nm] ∧ VR x' gt nm (fun j => .int .u32 ((acrF (dbl pa) nr pa S j : Nat) : Int)) ∧ Qb x2 x') ((across_any (dbl pa) pa pb nr nm gm g0 o0 np c S x2 hsz szr HN.out.1 HN.out.2.1 HN.out.2.2.2 hb (HI.out.nextB (q1.trans q2.qb)) hc hL2 (fun i => dbl_ok hsz.a1 i)).mono fun e x' ⟨gt, h1, h2, h3, h4, h5⟩ => ⟨_, h1, gt, rfl, h2, h5⟩) ?_
  rintro v x3 ⟨g3, rfl, v3, q3⟩
  have q13 := (q1.trans q2.qb).trans q3
  refine ⟨q13, ?_⟩
  refine tree_call 9 rfl rfl (run_fn 33 #[.tmp 14, .tmp 15] _ rfl HE.out.1 (vs := #[.int .i64 (pb : Int), .int .i64 (nc : Int)]) (by simp [Act.eval, Act.put])) (G := fun v x' => ∃ gm, v = .slice (some ⟨gm, 0, none⟩) nc nc ∧ MxL x' gm nc (dbl pb) ∧ Q x3 x') ((doubled_any pb nc hsz.b1 hsz.b2 hsn.b1 hsn.b2 x3).mono fun e x' ⟨gm, h1, h2, h3⟩ => ⟨_, h1, gm, rfl, h2, h3⟩) ?_
  rintro v x4 ⟨g4, rfl, hL4, q4⟩
  refine ⟨q13.trans q4.qb, ?_⟩
  refine tree_call 10 rfl rfl (run_fn 29 #[.tmp 12, .tmp 16] _ rfl HE.out.2.2 (vs := #[.agg #[.int .i64 (nr : Int), .int .i64 (pb : Int), .slice (some ⟨g3, 0, none⟩) nm nm], .slice (some ⟨g4, 0, none⟩) nc nc]) (by simp [Act.eval, Act.put])) (G := fun v x' => ∃ gt, v = .agg #[.int .i64 (nr : Int), .int .i64 (nc : Int), .slice (some ⟨gt, 0, none⟩) n n] ∧ VR x' gt n (fun j => .int .u32 ((exF pa pb nr nc S j : Nat) : Int)) ∧ x4.heap.size ≤ gt ∧ gt < x'.heap.size ∧ Qb x4 x') ((down_any (dbl pb) nr pb nc n g4 g3 0 nm nm (tabB nm (acrF (dbl pa) nr pa S)) x4 szr szc HN.out.2.1.symm HN.out.2.2.1 (tabB_len _ _) (tabB_lt (acrF_lt _ _ _ _)) ((vr_uis v3).next q4) (Nat.le_refl _) hL4 (fun i => dbl_ok hsz.b1 i)).mono fun e x' ⟨gt, h1, h2, h3, h4, h5⟩ => ⟨_, h1, gt, rfl, (h2.congr fun j _ => by rw [HFF.out]), h3, h4, h5⟩) ?_
  rintro v x5 ⟨g5, rfl, v5, l5, m5, q5⟩
  have q15 := (q13.trans q4.qb).trans q5
  refine ⟨q15, ?_⟩
  have hs14 : w.heap.size + 2 ≤ x4.heap.size := by have := (q13.trans q4.qb).sz; have := HR.out.2.1; omega
  have e0 := q15.cell HR.out.2.2.1
  have e1 := q15.cell HR.out.2.2.2.1
  have e2 := q15.cell HR.out.2.2.2.2.1
  have hlt : w.heap.size + 1 < w1.heap.size := by have := HR.out.2.1; omega
  have k0 : x5.frozen? ⟨w.heap.size + 1, 0, none⟩ = false := by rw [q15.frozen (by exact hlt)]; exact HR.out.2.2.2.2.2 0
  have k1 : x5.frozen? ⟨w.heap.size + 1, 1, none⟩ = false := by rw [q15.frozen (by exact hlt)]; exact HR.out.2.2.2.2.2 1
  have k2 : x5.frozen? ⟨w.heap.size + 1, 2, none⟩ = false := by rw [q15.frozen (by exact hlt)]; exact HR.out.2.2.2.2.2 2
  obtain ⟨x6, hx6⟩ : ∃ x6, ((x5.setCell ⟨w.heap.size + 1, 0, none⟩ (.int .i64 (nr : Int))).setCell ⟨w.heap.size + 1, 1, none⟩ (.int .i64 (nc : Int))).setCell ⟨w.heap.size + 1, 2, none⟩ (.slice (some ⟨g5, 0, none⟩) n n) = x6 := ⟨_, rfl⟩
  have u0 : x6.cell? ⟨w.heap.size + 1, 0, none⟩ = some (.int .i64 (nr : Int)) := by rw [← hx6]; simp [go_sem, e0, e1, e2]
  have u1 : x6.cell? ⟨w.heap.size + 1, 1, none⟩ = some (.int .i64 (nc : Int)) := by rw [← hx6]; simp [go_sem, e0, e1, e2]
  have u2 : x6.cell? ⟨w.heap.size + 1, 2, none⟩ = some (.slice (some ⟨g5, 0, none⟩) n n) := by rw [← hx6]; simp [go_sem, e0, e1, e2]
  have HEND : Hid (VR x6 g5 n (fun j => .int .u32 ((exF pa pb nr nc S j : Nat) : Int)) ∧ w.heap.size ≤ g5 ∧ g5 < x6.heap.size ∧ Qb w x6) := by
    have nB : w.heap.size + 1 ≠ g5 := by omega
    have hq5 : Qb w x5 := HR.out.1.qb.trans q15
    have l1 : w.heap.size ≤ w.heap.size + 1 := by omega
    rw [← hx6]
    have hv := ((v5.other nB (.int .i64 (nr : Int)) (p := ⟨w.heap.size + 1, 0, none⟩)).other nB (.int .i64 (nc : Int)) (p := ⟨w.heap.size + 1, 1, none⟩)).other nB (.slice (some ⟨g5, 0, none⟩) n n) (p := ⟨w.heap.size + 1, 2, none⟩)
    exact ⟨hv, by omega, hv.lt hn1, ((hq5.set l1 _).set l1 _).set l1 _⟩
  refine tree_skipF 11 rfl rfl rfl (x' := x6) (by simp [execOp, go_sem, Act.eval, Act.put, e0, e1, e2, k0, k1, k2, hx6]) ?_
  refine tree_nil ?_
  clear e0 e1 e2 k0 k1 k2 hx6 v5 l5 m5 q5 q15 v3 q3 q13 q4 hL4 hL2 q2 q1 f0 f1 f2 n0
  go_wp2_with fail
  exact bodyPost_ret (v := .agg #[.int .i64 (nr : Int), .int .i64 (nc : Int), .slice (some ⟨g5, 0, none⟩) n n]) (by simp [results, Try.results23, go_sem, u0, u1, u2]) rfl ⟨g5, rfl, HEND.out⟩
end Go.Proofs.Ytgaolakfgjmeiab
/- pyramid: Reduce, Expand. (gen_pyl.py) -/
namespace Go.Proofs.Ytgaolakfgjmeiab
open Go.RowKit Go.Shelf
set_option linter.unusedVariables false
set_option linter.unusedSimpArgs false

/-- A box of a plane of one's own. -/
structure ZBp (x : World) (R : Nat) : Prop where
  c0 : x.cell? ⟨R, 0, none⟩ = some (.int .i64 0)
  c1 : x.cell? ⟨R, 1, none⟩ = some (.int .i64 0)
  c2 : x.cell? ⟨R, 2, none⟩ = some (.slice none 0 0)
  fr : ∀ j, x.frozen? ⟨R, j, none⟩ = false
theorem ZBp.lt {x : World} {R : Nat} (h : ZBp x R) : R < x.heap.size := World.block_lt_of_cell? _ _ h.c0
theorem ZBp.nextB {x y : World} {R : Nat} (h : ZBp x R) (q : Qb x y) : ZBp y R := ⟨q.cell h.c0, q.cell h.c1, q.cell h.c2, fun j => by rw [q.frozen (by exact h.lt)]; exact h.fr j⟩
theorem zbp_new (w : World) : ZBp (w.alloc (.cells #[.int .i64 0, .int .i64 0, .slice none 0 0] 24)) w.heap.size := ⟨by simp [go_sem], by simp [go_sem], by simp [go_sem], fun j => by simp [go_sem]⟩
theorem ZBp.alloc {x : World} {R : Nat} (h : ZBp x R) (c : Array Value) (t : TypeId) : ZBp (x.alloc (.cells c t)) R := h.nextB ((Q.refl x).cells _ _).qb
/-- What is laid into such a box. -/
theorem ZBp.put {x y : World} {R a b g n : Nat} (h : ZBp x R) (hy : ((x.setCell ⟨R, 0, none⟩ (.int .i64 (a : Int))).setCell ⟨R, 1, none⟩ (.int .i64 (b : Int))).setCell ⟨R, 2, none⟩ (.slice (some ⟨g, 0, none⟩) n n) = y) : PBx y R a b (.slice (some ⟨g, 0, none⟩) n n) := by
  have e0 := h.c0
  have e1 := h.c1
  have e2 := h.c2
  exact ⟨by rw [← hy]; simp [go_sem, e0, e1, e2], by rw [← hy]; simp [go_sem, e0, e1, e2], by rw [← hy]; simp [go_sem, e0, e1, e2]⟩
theorem put3_keep {w x y : World} {R a b g n m gt : Nat} {F : Nat → Value} (hR : w.heap.size ≤ R) (hn : R ≠ gt) (hm : 1 ≤ m) (hy : ((x.setCell ⟨R, 0, none⟩ (.int .i64 (a : Int))).setCell ⟨R, 1, none⟩ (.int .i64 (b : Int))).setCell ⟨R, 2, none⟩ (.slice (some ⟨g, 0, none⟩) n n) = y) (hv : VR x gt m F) (hq : Qb w x) : VR y gt m F ∧ gt < y.heap.size ∧ Qb w y := by
  have h1 : VR y gt m F := by rw [← hy]; exact ((hv.other hn _).other hn _).other hn _
  exact ⟨h1, h1.lt hm, by rw [← hy]; exact ((hq.set hR _).set hR _).set hR _⟩
set_option maxHeartbeats 2000000 in
set_option maxRecDepth 100000 in
theorem reduce_bad (W H : Int) (ad : Option Addr) (n c : Nat) (hn : n ≤ 9223372036854775807) (he : chk W H n ≠ 0) (w : World) :
    Calls Try.prog 9 #[.agg #[.int .i64 W, .int .i64 H, .slice ad n c]] w fun e w' => e = .returned (.tuple #[.agg #[.int .i64 0, .int .i64 0, .slice none 0 0], .int .i64 (chk W H n)]) ∧ Qb w w' := by
  have CK : Hid (∀ w : World, Calls Try.prog 19 #[.agg #[.int .i64 W, .int .i64 H, .slice ad n c]] w fun e w' => e = .returned (.int .i64 (chk W H n)) ∧ Q w w') := fun w => check_any W H ad n c hn w
  obtain ⟨w1, hw1⟩ : ∃ w1, (w.alloc (.cells #[.int .i64 W, .int .i64 H, .slice ad n c] 24)).alloc (.cells #[.int .i64 0, .int .i64 0, .slice none 0 0] 24) = w1 := ⟨_, rfl⟩
  have p0 : w1.cell? ⟨w.heap.size, 0, none⟩ = some (.int .i64 W) := by rw [← hw1]; simp [go_sem]
  have p1 : w1.cell? ⟨w.heap.size, 1, none⟩ = some (.int .i64 H) := by rw [← hw1]; simp [go_sem]
  have p2 : w1.cell? ⟨w.heap.size, 2, none⟩ = some (.slice ad n c) := by rw [← hw1]; simp [go_sem]
  have HR : Hid (ZBp w1 (w.heap.size + 1) ∧ Qb w w1) := by
    refine ⟨?_, by rw [← hw1]; exact (((Q.refl w).cells _ _).cells _ _).qb⟩
    have := zbp_new (w.alloc (.cells #[.int .i64 W, .int .i64 H, .slice ad n c] 24))
    rw [World.size_alloc, hw1] at this
    exact this
  obtain ⟨E, hE⟩ : ∃ E, chk W H n = E := ⟨_, rfl⟩
  rw [hE] at CK he ⊢
  have hbe : (E != 0) = true := by simpa using he
  have hbe2 : (E == 0) = false := by simpa using he
  go_enter Try.func9, Try.ntmps9
  go_wp2_with fail
  refine (CK.out _).mono ?_
  rintro e w2 ⟨rfl, q2⟩
  have z2 := HR.out.1.nextB q2.qb
  have r0 := z2.c0
  have r1 := z2.c1
  have r2 := z2.c2
  have f0 := z2.fr 0
  have f1 := z2.fr 1
  have f2 := z2.fr 2
  have i0 := setcell_id r0
  have i1 := setcell_id r1
  have i2 := setcell_id r2
  have HE : Hid (Qb w w2) := HR.out.2.trans q2.qb
  clear z2 q2 p0 p1 p2
  go_wp2_with fail
  exact bodyPost_ret (v := .tuple #[.agg #[.int .i64 0, .int .i64 0, .slice none 0 0], .int .i64 E]) (by simp [results, Try.results9, go_sem, r0, r1, r2]) rfl ⟨rfl, HE.out⟩
set_option maxHeartbeats 2000000 in
set_option maxRecDepth 100000 in
theorem reduce_good (pa pb nr nc n g0 o0 np c : Nat) (S : List Nat) (w : World) (hsz : Size pa pb) (hnp : np = pa * pb) (hnr : (pa + 1) / 2 = nr) (hnc : (pb + 1) / 2 = nc) (hn : nr * nc = n) (hS : S.length = np) (hb : ∀ i, S.getD i 0 < 4294967296) (hI : UIs w g0 o0 S) (hc : np ≤ c) :
    Calls Try.prog 9 #[.agg #[.int .i64 (pa : Int), .int .i64 (pb : Int), .slice (some ⟨g0, o0, none⟩) np c]] w fun e w' => ∃ gt, e = .returned (.tuple #[.agg #[.int .i64 (nr : Int), .int .i64 (nc : Int), .slice (some ⟨gt, 0, none⟩) n n], .int .i64 0]) ∧ VR w' gt n (fun j => .int .u32 ((rdF pa pb S j : Nat) : Int)) ∧ w.heap.size ≤ gt ∧ gt < w'.heap.size ∧ Qb w w' := by
  have hck : chk pa pb np = 0 := by rw [hnp]; exact chk_size hsz
  have hnn : np ≤ 9223372036854775807 := by rw [hnp]; have := hsz.ab; omega
  have CK : Hid (∀ w : World, Calls Try.prog 19 #[.agg #[.int .i64 (pa : Int), .int .i64 (pb : Int), .slice (some ⟨g0, o0, none⟩) np c]] w fun e w' => e = .returned (.int .i64 0) ∧ Q w w') := fun w => by have := check_any pa pb (some ⟨g0, o0, none⟩) np c hnn w; rw [hck] at this; exact this
  have CR : Hid (∀ x : World, Qb w x → Calls Try.prog 20 #[.agg #[.int .i64 (pa : Int), .int .i64 (pb : Int), .slice (some ⟨g0, o0, none⟩) np c]] x fun e w' => ∃ gt, e = .returned (.agg #[.int .i64 (nr : Int), .int .i64 (nc : Int), .slice (some ⟨gt, 0, none⟩) n n]) ∧ VR w' gt n (fun j => .int .u32 ((rdF pa pb S j : Nat) : Int)) ∧ x.heap.size ≤ gt ∧ gt < w'.heap.size ∧ Qb x w') := fun x q => reduced_any pa pb nr nc (nr * pb) n g0 o0 np c S x hsz hnp hnr hnc rfl hn hS hb (hI.nextB q) hc
  have hn1 : 1 ≤ n := by rw [← hn, ← hnr, ← hnc]; exact hsz.half.pos
  obtain ⟨w1, hw1⟩ : ∃ w1, (w.alloc (.cells #[.int .i64 (pa : Int), .int .i64 (pb : Int), .slice (some ⟨g0, o0, none⟩) np c] 24)).alloc (.cells #[.int .i64 0, .int .i64 0, .slice none 0 0] 24) = w1 := ⟨_, rfl⟩
  have hp : PBx w1 w.heap.size pa pb (.slice (some ⟨g0, o0, none⟩) np c) := ⟨by rw [← hw1]; simp [go_sem], by rw [← hw1]; simp [go_sem], by rw [← hw1]; simp [go_sem]⟩
  have HR : Hid (ZBp w1 (w.heap.size + 1) ∧ Qb w w1 ∧ PBx w1 w.heap.size pa pb (.slice (some ⟨g0, o0, none⟩) np c)) := by
    refine ⟨?_, by rw [← hw1]; exact (((Q.refl w).cells _ _).cells _ _).qb, hp⟩
    have := zbp_new (w.alloc (.cells #[.int .i64 (pa : Int), .int .i64 (pb : Int), .slice (some ⟨g0, o0, none⟩) np c] 24))
    rw [World.size_alloc, hw1] at this
    exact this
  have p0 := hp.c0
  have p1 := hp.c1
  have p2 := hp.c2
  clear hck hnn hnp hnr hnc hn hS hb hI hc hp
  go_enter Try.func9, Try.ntmps9
  go_wp2_with fail
  refine (CK.out _).mono ?_
  rintro e w2 ⟨rfl, q2⟩
  have H2 : Hid (Q w1 w2) := q2
  have p0 := q2.cell p0
  have p1 := q2.cell p1
  have p2 := q2.cell p2
  clear q2
  go_wp2_with fail
  refine (CR.out w2 (HR.out.2.1.trans H2.out.qb)).mono ?_
  rintro e w3 ⟨gt, rfl, v3, l3, m3, q3⟩
  have q13 : Qb w1 w3 := H2.out.qb.trans q3
  have z3 := HR.out.1.nextB q13
  have r0 := z3.c0
  have r1 := z3.c1
  have r2 := z3.c2
  have f0 := z3.fr 0
  have f1 := z3.fr 1
  have f2 := z3.fr 2
  obtain ⟨x6, hx6⟩ : ∃ x6, ((w3.setCell ⟨w.heap.size + 1, 0, none⟩ (.int .i64 (nr : Int))).setCell ⟨w.heap.size + 1, 1, none⟩ (.int .i64 (nc : Int))).setCell ⟨w.heap.size + 1, 2, none⟩ (.slice (some ⟨gt, 0, none⟩) n n) = x6 := ⟨_, rfl⟩
  have u := z3.put hx6
  have u0 := u.c0
  have u1 := u.c1
  have u2 := u.c2
  have HE : Hid (VR x6 gt n (fun j => .int .u32 ((rdF pa pb S j : Nat) : Int)) ∧ w.heap.size ≤ gt ∧ gt < x6.heap.size ∧ Qb w x6) := by
    have hl : w.heap.size + 1 < w2.heap.size := Nat.lt_of_lt_of_le HR.out.1.lt H2.out.qb.sz
    obtain ⟨a1, a2, a3⟩ := put3_keep (w := w) (by omega) (by omega) hn1 hx6 v3 (HR.out.2.1.trans q13)
    exact ⟨a1, by omega, a2, a3⟩
  clear u z3 q13 v3 l3 m3 q3 p0 p1 p2
  go_wp2_with fail
  exact bodyPost_ret (v := .tuple #[.agg #[.int .i64 (nr : Int), .int .i64 (nc : Int), .slice (some ⟨gt, 0, none⟩) n n], .int .i64 0]) (by simp [results, Try.results9, go_sem, u0, u1, u2]) rfl ⟨gt, rfl, HE.out⟩
end Go.Proofs.Ytgaolakfgjmeiab
/- pyramid: sizes and halves. -/
namespace Go.Proofs.Ytgaolakfgjmeiab
open Go.RowKit Go.Shelf
set_option linter.unusedVariables false
set_option linter.unusedSimpArgs false

theorem chk_none (W H : Int) : (chk W H 0 != 50) = sizeB W H := by
  cases h : sizeB W H
  · rw [chk_bad h]; rfl
  · have : (0 : Int) ≠ W * H := by
      have := (sizeB_true.1 h)
      have h2 : 1 ≤ W * H := (area_le ⟨this.1, this.2.1⟩ ⟨this.2.2.1, this.2.2.2.1⟩).1
      omega
    rw [chk_count h (by exact_mod_cast this)]; rfl
theorem pisize_any (W H : Int) (w : World) : Calls Try.prog 21 #[.int .i64 W, .int .i64 H] w fun e w' => e = .returned (.bool (sizeB W H)) ∧ Q w w' := by
  have CK : Hid (∀ w : World, Calls Try.prog 19 #[.agg #[.int .i64 W, .int .i64 H, .slice none 0 0]] w fun e w' => e = .returned (.int .i64 (chk W H 0)) ∧ Q w w') := fun w => check_any W H none 0 0 (by decide) w
  have HC : Hid ((chk W H 0 != 50) = sizeB W H) := chk_none W H
  generalize chk W H 0 = E at CK HC
  go_enter Try.func21, Try.ntmps21
  go_wp2_with fail
  refine (CK.out _).mono ?_
  rintro e w2 ⟨rfl, q2⟩
  have HQ : Hid (Q w w2) := q2
  clear q2
  cases hb : sizeB W H
  · have hE : E = 50 := by have := HC.out; rw [hb] at this; simpa using this
    subst hE
    go_wp2_with fail
    go_ret
    exact ⟨by rw [hb]; rfl, HQ.out⟩
  · have hE : (E != 50) = true := by have := HC.out; rw [hb] at this; exact this
    have hE2 : (E == 50) = false := by simpa using hE
    go_wp2_with fail
    go_ret
    exact ⟨by rw [hb]; rfl, HQ.out⟩
set_option maxHeartbeats 2000000 in
set_option maxRecDepth 100000 in
theorem ishalf_any (pa pb a b : Nat) (sv : Value) (hsv : ∃ ad n c, sv = .slice ad n c) (ha : a ≤ 1024) (hb : b ≤ 1024) (w : World) : Calls Try.prog 22 #[.agg #[.int .i64 (pa : Int), .int .i64 (pb : Int), sv], .int .i64 (a : Int), .int .i64 (b : Int)] w fun e w' => e = .returned (.bool (decide ((a + 1) / 2 = pa) && decide ((b + 1) / 2 = pb))) ∧ Q w w' := by
  obtain ⟨ad, n, c, rfl⟩ := hsv
  obtain ⟨w1, hw1⟩ : ∃ w1, w.alloc (.cells #[.int .i64 (pa : Int), .int .i64 (pb : Int), .slice ad n c] 24) = w1 := ⟨_, rfl⟩
  have q1 : Q w w1 := by rw [← hw1]; exact (Q.refl w).cells _ _
  have k0 : w1.cell? ⟨w.heap.size, 0, none⟩ = some (.int .i64 (pa : Int)) := by rw [← hw1]; simp [go_sem]
  have k1 : w1.cell? ⟨w.heap.size, 1, none⟩ = some (.int .i64 (pb : Int)) := by rw [← hw1]; simp [go_sem]
  have HQ : Hid (Q w w1) := q1
  have n0 := qw_some w1
  have f0 := qw_cell k0
  have f1 := qw_cell k1
  have C : ∀ (n : Nat) (W : World), n ≤ 1024 → Calls Try.prog 32 #[.int .i64 (n : Int)] W fun e w' => e = .returned (.int .i64 (((n + 1) / 2 : Nat) : Int)) ∧ w' = W := fun n W h => half_any n (by omega) W
  obtain ⟨h2, hh2⟩ : ∃ h2 : Nat → Nat, ∀ n, (n + 1) / 2 = h2 n := ⟨fun n => (n + 1) / 2, fun _ => rfl⟩
  simp only [hh2] at C ⊢
  have HC : Hid _ := C
  by_cases e1 : h2 a = pa
  · have b1 : ((h2 a : Int) == (pa : Int)) = true := by rw [e1]; simp
    by_cases e2 : h2 b = pb
    · have b2 : ((h2 b : Int) == (pb : Int)) = true := by rw [e2]; simp
      rw [decide_eq_true e1, decide_eq_true e2]
      clear e1 e2 C q1 k0 k1
      go_enter Try.func22, Try.ntmps22
      go_wp2_with fail
      refine wp_region_quiet_Q (by kernel_rfl) (by kernel_rfl) ?_
      repeat (first | go_big_quiet_step (first | (go_at_call 32; exact calls_qs (HC.out _ _ (by assumption)))) | quiet_step (first | (go_at_call 32; exact calls_qs (HC.out _ _ (by assumption)))))
      refine wpQuiet_nil ?_
      intro w4 hw'
      have hq4 := qw_out hw'
      go_wp2_with fail
      go_ret
      exact ⟨rfl, HQ.out.trans hq4⟩
    · have b2 : ((h2 b : Int) == (pb : Int)) = false := by simp; omega
      rw [decide_eq_true e1, decide_eq_false e2]
      clear e1 e2 C q1 k0 k1
      go_enter Try.func22, Try.ntmps22
      go_wp2_with fail
      refine wp_region_quiet_Q (by kernel_rfl) (by kernel_rfl) ?_
      repeat (first | go_big_quiet_step (first | (go_at_call 32; exact calls_qs (HC.out _ _ (by assumption)))) | quiet_step (first | (go_at_call 32; exact calls_qs (HC.out _ _ (by assumption)))))
      refine wpQuiet_nil ?_
      intro w4 hw'
      have hq4 := qw_out hw'
      go_wp2_with fail
      go_ret
      exact ⟨rfl, HQ.out.trans hq4⟩
  · have b1 : ((h2 a : Int) == (pa : Int)) = false := by simp; omega
    rw [decide_eq_false e1]
    clear e1 C q1 k0 k1
    go_enter Try.func22, Try.ntmps22
    go_wp2_with fail
    refine wp_region_quiet_Q (by kernel_rfl) (by kernel_rfl) ?_
    repeat (first | go_big_quiet_step (first | (go_at_call 32; exact calls_qs (HC.out _ _ (by assumption)))) | quiet_step (first | (go_at_call 32; exact calls_qs (HC.out _ _ (by assumption)))))
    refine wpQuiet_nil ?_
    intro w4 hw'
    have hq4 := qw_out hw'
    go_wp2_with fail
    go_ret
    exact ⟨rfl, HQ.out.trans hq4⟩
end Go.Proofs.Ytgaolakfgjmeiab

/- PyramidAgain: what Join tells, split and joined again. -/
import Derived.Test.YtomcbkpplbijgaaGe5f5a95a
import Derived.Test.YtomcbkpplbijgaaG3a16b850
namespace Go.Proofs.Ytomcbkpplbijgaa
open Go.RowKit
set_option linter.unusedVariables false
set_option linter.unusedSimpArgs false

theorem key_back {s g : Nat} (hs : s < 4294967296) (hg : g < 4294967296) : fkeyN (adN (subN (keyN s) (keyN g)) (keyN g)) = s := by
  have h1 := keyN_lt hs
  have h2 := keyN_lt hg
  have e : adN (subN (keyN s) (keyN g)) (keyN g) = keyN s := by
    unfold adN subN
    generalize keyN s = a at *
    generalize keyN g = b at *
    omega
  rw [e, fkey_key hs]
/-- Split, then Join. -/
theorem split_back {pa pb nr nc n np : Nat} {S : List Nat} (hnr : (pa + 1) / 2 = nr) (hnc : (pb + 1) / 2 = nc) (hn : nr * nc = n) (hS : S.length = np) (hb : ∀ i, S.getD i 0 < 4294967296) : tabB np (jnF nr nc pa pb (tabB n (rdF pa pb S)) (tabB np (lkF pa pb S))) = S := by
  apply list_ext (by rw [tabB_len, hS])
  intro i hi
  rw [tabB_len] at hi
  rw [tabB_at hi]
  unfold jnF
  rw [tabB_at hi]
  unfold lkF gsF
  rw [hnr, hnc, hn]
  exact key_back (hb i) (dwnF_lt _ _ _ _)
theorem chk_of_list {W H : Int} {w : World} {v : Value} {S : List Nat} (h : chk W H S.length = 0) (hu : USl w v S) : ∃ a b g o c : Nat, W = a ∧ H = b ∧ Size a b ∧ S.length = a * b ∧ v = .slice (some ⟨g, o, none⟩) (a * b) c ∧ a * b ≤ c ∧ UIs w g o S := by
  obtain ⟨a, b, h1, h2, h3, h4⟩ := chk_zero h
  obtain ⟨g, o, c, e1, e2, e3⟩ := hu.some (by rw [h4]; exact h3.pos)
  rw [h4] at e1 e2
  exact ⟨a, b, g, o, c, h1, h2, h3, h4, e1, e2, e3⟩
set_option maxHeartbeats 8000000 in
set_option maxRecDepth 100000 in
theorem pagain_good (nr nc pa pb g0 o0 cc gf of cf n np : Nat) (C F : List Nat) (w : World) (hsz : Size pa pb) (hszc : Size nr nc) (hnp : np = pa * pb) (hn : n = nr * nc) (hnr : (pa + 1) / 2 = nr) (hnc : (pb + 1) / 2 = nc) (hC : C.length = n) (hb : ∀ i, C.getD i 0 < 4294967296) (hI : UIs w g0 o0 C) (hcc : n ≤ cc) (hF : F.length = np) (hbf : ∀ i, F.getD i 0 < 4294967296) (hJ : UIs w gf of F) :
    Calls Try.prog 7 #[.agg #[.int .i64 (nr : Int), .int .i64 (nc : Int), .slice (some ⟨g0, o0, none⟩) n cc], .agg #[.int .i64 (pa : Int), .int .i64 (pb : Int), .slice (some ⟨gf, of, none⟩) np cf]] w fun e w' => e = .returned (.bool true) ∧ Qb w w' := by
  obtain ⟨w1, hw1⟩ : ∃ w1, (w.alloc (.cells #[.int .i64 (nr : Int), .int .i64 (nc : Int), .slice (some ⟨g0, o0, none⟩) n cc] 24)).alloc (.cells #[.int .i64 (pa : Int), .int .i64 (pb : Int), .slice (some ⟨gf, of, none⟩) np cf] 24) = w1 := ⟨_, rfl⟩
  have q1 : Q w w1 := by rw [← hw1]; exact ((Q.refl w).cells _ _).cells _ _
  have p1 : PBx w1 w.heap.size nr nc (.slice (some ⟨g0, o0, none⟩) n cc) := ⟨by rw [← hw1]; simp [go_sem], by rw [← hw1]; simp [go_sem], by rw [← hw1]; simp [go_sem]⟩
  have m1 : PBx w1 (w.heap.size + 1) pa pb (.slice (some ⟨gf, of, none⟩) np cf) := ⟨by rw [← hw1]; simp [go_sem], by rw [← hw1]; simp [go_sem], by rw [← hw1]; simp [go_sem]⟩
  have H1 : Hid (Qb w w1) := q1.qb
  have hnp1 : 1 ≤ np := by rw [hnp]; exact hsz.pos
  have hnp2 : np ≤ 9223372036854775807 := by rw [hnp]; have := hsz.ab; omega
  have CJ : Hid (∀ x : World, Qb w x → Calls Try.prog 23 #[.agg #[.int .i64 (nr : Int), .int .i64 (nc : Int), .slice (some ⟨g0, o0, none⟩) n cc], .agg #[.int .i64 (pa : Int), .int .i64 (pb : Int), .slice (some ⟨gf, of, none⟩) np cf]] x fun e w' => ∃ gt, e = .returned (.tuple #[.agg #[.int .i64 (pa : Int), .int .i64 (pb : Int), .slice (some ⟨gt, 0, none⟩) np np], .int .i64 0]) ∧ UIs w' gt 0 (tabB np (jnF nr nc pa pb C F)) ∧ Qb x w') := fun x q => (Join_good pa pb nr nc n g0 o0 cc gf of cf np C F x hsz hszc hnp hnr hnc hn hC hb (hI.nextB q) hcc hF hbf (hJ.nextB q)).mono fun e w' ⟨gt, h1, h2, h3, h4, h5⟩ => ⟨gt, h1, vr_uis h2, h5⟩
  obtain ⟨S, hS⟩ : ∃ S, tabB np (jnF nr nc pa pb C F) = S := ⟨_, rfl⟩
  have hSl : S.length = np := by rw [← hS]; exact tabB_len _ _
  have hSb : ∀ i, S.getD i 0 < 4294967296 := by rw [← hS]; exact tabB_lt (jnF_lt _ _ _ _ _ _)
  rw [hS] at CJ
  have CS : Hid (∀ (x : World) (g : Nat), UIs x g 0 S → Calls Try.prog 22 #[.agg #[.int .i64 (pa : Int), .int .i64 (pb : Int), .slice (some ⟨g, 0, none⟩) np np]] x fun e w' => ∃ gc gl, e = .returned (.tuple #[.agg #[.int .i64 (nr : Int), .int .i64 (nc : Int), .slice (some ⟨gc, 0, none⟩) n n], .agg #[.int .i64 (pa : Int), .int .i64 (pb : Int), .slice (some ⟨gl, 0, none⟩) np np], .int .i64 0]) ∧ UIs w' gc 0 (tabB n (rdF pa pb S)) ∧ UIs w' gl 0 (tabB np (lkF pa pb S)) ∧ Qb x w') := fun x g hu => (Split_good pa pb nr nc n g 0 np np S x hsz hnp hnr hnc hn.symm hSl hSb hu (Nat.le_refl _)).mono fun e w' ⟨gc, gl, h1, h2, h3, _, _, _, _, _, h5⟩ => ⟨gc, gl, h1, vr_uis h2, vr_uis h3, h5⟩
  have CK : Hid (∀ (x : World) (gc gl : Nat), UIs x gc 0 (tabB n (rdF pa pb S)) → UIs x gl 0 (tabB np (lkF pa pb S)) → Calls Try.prog 23 #[.agg #[.int .i64 (nr : Int), .int .i64 (nc : Int), .slice (some ⟨gc, 0, none⟩) n n], .agg #[.int .i64 (pa : Int), .int .i64 (pb : Int), .slice (some ⟨gl, 0, none⟩) np np]] x fun e w' => ∃ gt, e = .returned (.tuple #[.agg #[.int .i64 (pa : Int), .int .i64 (pb : Int), .slice (some ⟨gt, 0, none⟩) np np], .int .i64 0]) ∧ UIs w' gt 0 S ∧ Qb x w') := fun x gc gl h1 h2 => (Join_good pa pb nr nc n gc 0 n gl 0 np np (tabB n (rdF pa pb S)) (tabB np (lkF pa pb S)) x hsz hszc hnp hnr hnc hn (tabB_len _ _) (tabB_lt fun j => dwnF_lt _ _ _ _) h1 (Nat.le_refl _) (tabB_len _ _) (tabB_lt fun j => subN_lt _ _) h2).mono fun e w' ⟨gt, h1, h2, h3, h4, h5⟩ => ⟨gt, h1, by rw [← split_back hnr hnc hn.symm hSl hSb]; exact vr_uis h2, h5⟩
  have CN : Hid (∀ x : World, Calls Try.prog 14 #[.int .i64 0] x fun e w' => e = .returned (.int .i64 0) ∧ w' = x) := fun x => num14_any 0 x
  have CP : Hid (∀ (x : World) (p q : Nat), UIs x p 0 S → UIs x q 0 S → Calls Try.prog 15 #[.agg #[.int .i64 (pa : Int), .int .i64 (pb : Int), .slice (some ⟨p, 0, none⟩) np np], .agg #[.int .i64 (pa : Int), .int .i64 (pb : Int), .slice (some ⟨q, 0, none⟩) np np]] x fun e w' => e = .returned (.bool true) ∧ Q x w') := fun x p q h1 h2 => hplanes_yes pa pb (some ⟨p, 0, none⟩) (some ⟨q, 0, none⟩) np np np S x (by have := h1.usl (cap := np) (by omega); rwa [hSl] at this) (by have := h2.usl (cap := np) (by omega); rwa [hSl] at this) (by omega)
  have k0 := p1.c0
  have k1 := p1.c1
  have k2 := p1.c2
  have k3 := m1.c0
  have k4 := m1.c1
  have k5 := m1.c2
  clear hnp hnr hnc hn hC hb hI hcc hF hbf hJ hS hSb q1 p1 m1 hSl
  go_enter Try.func7, Try.ntmps7
  go_wp2_with fail
  refine (known14_any w1).mono ?_
  rintro e w2 ⟨rfl, q2⟩
  have H2 : Hid (Qb w w2) := H1.out.trans q2
  have k0 := q2.cell k0
  have k1 := q2.cell k1
  have k2 := q2.cell k2
  have k3 := q2.cell k3
  have k4 := q2.cell k4
  have k5 := q2.cell k5
  clear q2 hw1
  go_wp2_with fail
  refine (CJ.out w2 H2.out).mono ?_
  rintro e w3 ⟨gt, rfl, u3, q3⟩
  obtain ⟨w4, hw4⟩ : ∃ w4, w3.alloc (.cells #[.int .i64 (pa : Int), .int .i64 (pb : Int), .slice (some ⟨gt, 0, none⟩) np np] 24) = w4 := ⟨_, rfl⟩
  have q34 : Q w3 w4 := by rw [← hw4]; exact (Q.refl w3).cells _ _
  have d : PBx w4 w3.heap.size pa pb (.slice (some ⟨gt, 0, none⟩) np np) := ⟨by rw [← hw4]; simp [go_sem], by rw [← hw4]; simp [go_sem], by rw [← hw4]; simp [go_sem]⟩
  have d0 := d.c0
  have d1 := d.c1
  have d2 := d.c2
  have H4 : Hid (Qb w w4 ∧ UIs w4 gt 0 S) := ⟨(H2.out.trans q3).trans q34.qb, u3.next q34⟩
  clear q3 u3 q34 d k0 k1 k2 k3 k4 k5
  go_wp2_with fail
  refine (CN.out _).mono ?_
  rintro e w5 ⟨rfl, hw5⟩
  obtain rfl := hw5.symm
  go_wp2_with fail
  refine (CS.out w4 gt H4.out.2).mono ?_
  rintro e w5 ⟨gc, gl, rfl, uc, ul, q5⟩
  obtain ⟨w6, hw6⟩ : ∃ w6, (w5.alloc (.cells #[.int .i64 (nr : Int), .int .i64 (nc : Int), .slice (some ⟨gc, 0, none⟩) n n] 24)).alloc (.cells #[.int .i64 (pa : Int), .int .i64 (pb : Int), .slice (some ⟨gl, 0, none⟩) np np] 24) = w6 := ⟨_, rfl⟩
  have q56 : Q w5 w6 := by rw [← hw6]; exact ((Q.refl w5).cells _ _).cells _ _
  have ea : PBx w6 w5.heap.size nr nc (.slice (some ⟨gc, 0, none⟩) n n) := ⟨by rw [← hw6]; simp [go_sem], by rw [← hw6]; simp [go_sem], by rw [← hw6]; simp [go_sem]⟩
  have eb : PBx w6 (w5.heap.size + 1) pa pb (.slice (some ⟨gl, 0, none⟩) np np) := ⟨by rw [← hw6]; simp [go_sem], by rw [← hw6]; simp [go_sem], by rw [← hw6]; simp [go_sem]⟩
  have q46 : Qb w4 w6 := q5.trans q56.qb
  have d0 := q46.cell d0
  have d1 := q46.cell d1
  have d2 := q46.cell d2
  have e0 := ea.c0
  have e1 := ea.c1
  have e2 := ea.c2
  have e3 := eb.c0
  have e4 := eb.c1
  have e5 := eb.c2
  have H6 : Hid (Qb w w6 ∧ UIs w6 gt 0 S ∧ UIs w6 gc 0 (tabB n (rdF pa pb S)) ∧ UIs w6 gl 0 (tabB np (lkF pa pb S))) := ⟨H4.out.1.trans q46, H4.out.2.nextB q46, uc.next q56, ul.next q56⟩
  clear q5 uc ul q56 ea eb q46 H4 hw4
  go_wp2_with fail
  refine (CK.out w6 gc gl H6.out.2.2.1 H6.out.2.2.2).mono ?_
  rintro e w7 ⟨gq, rfl, uq, q7⟩
  obtain ⟨w8, hw8⟩ : ∃ w8, w7.alloc (.cells #[.int .i64 (pa : Int), .int .i64 (pb : Int), .slice (some ⟨gq, 0, none⟩) np np] 24) = w8 := ⟨_, rfl⟩
  have q78 : Q w7 w8 := by rw [← hw8]; exact (Q.refl w7).cells _ _
  have f : PBx w8 w7.heap.size pa pb (.slice (some ⟨gq, 0, none⟩) np np) := ⟨by rw [← hw8]; simp [go_sem], by rw [← hw8]; simp [go_sem], by rw [← hw8]; simp [go_sem]⟩
  have q68 : Qb w6 w8 := q7.trans q78.qb
  have d0 := q68.cell d0
  have d1 := q68.cell d1
  have d2 := q68.cell d2
  have f0 := f.c0
  have f1 := f.c1
  have f2 := f.c2
  have H8 : Hid (Qb w w8 ∧ UIs w8 gt 0 S ∧ UIs w8 gq 0 S) := ⟨H6.out.1.trans q68, H6.out.2.1.nextB q68, uq.next q78⟩
  clear q7 uq q78 f q68 H6 hw6 e0 e1 e2 e3 e4 e5
  go_wp2_with fail
  refine (CN.out _).mono ?_
  rintro e w9 ⟨rfl, hw9⟩
  obtain rfl := hw9.symm
  go_wp2_with fail
  refine (CN.out _).mono ?_
  rintro e w9 ⟨rfl, hw9⟩
  obtain rfl := hw9.symm
  go_wp2_with fail
  refine (CP.out w8 gq gt H8.out.2.2 H8.out.2.1).mono ?_
  rintro e w9 ⟨rfl, q9⟩
  have HE : Hid (Qb w w9) := H8.out.1.trans q9.qb
  clear q9
  go_wp2_with fail
  go_ret
  exact ⟨rfl, HE.out⟩
set_option maxHeartbeats 4000000 in
set_option maxRecDepth 100000 in
theorem pagain_bad (W H W' H' : Int) (a a' : Option Addr) (n c n' c' : Nat) (w : World)
    (hJ : ∀ x : World, Calls Try.prog 23 #[.agg #[.int .i64 W, .int .i64 H, .slice a n c], .agg #[.int .i64 W', .int .i64 H', .slice a' n' c']] x fun e w' => ∃ r, e = .returned (.tuple #[.agg #[.int .i64 0, .int .i64 0, .slice none 0 0], .int .i64 r]) ∧ r ≠ 0 ∧ Qb x w') :
    Calls Try.prog 7 #[.agg #[.int .i64 W, .int .i64 H, .slice a n c], .agg #[.int .i64 W', .int .i64 H', .slice a' n' c']] w fun e w' => e = .returned (.bool true) ∧ Qb w w' := by
  obtain ⟨w1, hw1⟩ : ∃ w1, (w.alloc (.cells #[.int .i64 W, .int .i64 H, .slice a n c] 24)).alloc (.cells #[.int .i64 W', .int .i64 H', .slice a' n' c'] 24) = w1 := ⟨_, rfl⟩
  have H1 : Hid (Qb w w1) := by show Qb w w1; rw [← hw1]; exact (((Q.refl w).cells _ _).cells _ _).qb
  have k0 : w1.cell? ⟨w.heap.size, 0, none⟩ = some (.int .i64 W) := by rw [← hw1]; simp [go_sem]
  have k1 : w1.cell? ⟨w.heap.size, 1, none⟩ = some (.int .i64 H) := by rw [← hw1]; simp [go_sem]
  have k2 : w1.cell? ⟨w.heap.size, 2, none⟩ = some (.slice a n c) := by rw [← hw1]; simp [go_sem]
  have k3 : w1.cell? ⟨w.heap.size + 1, 0, none⟩ = some (.int .i64 W') := by rw [← hw1]; simp [go_sem]
  have k4 : w1.cell? ⟨w.heap.size + 1, 1, none⟩ = some (.int .i64 H') := by rw [← hw1]; simp [go_sem]
  have k5 : w1.cell? ⟨w.heap.size + 1, 2, none⟩ = some (.slice a' n' c') := by rw [← hw1]; simp [go_sem]
  have CJ : Hid (∀ x : World, Calls Try.prog 23 #[.agg #[.int .i64 W, .int .i64 H, .slice a n c], .agg #[.int .i64 W', .int .i64 H', .slice a' n' c']] x fun e w' => ∃ r, e = .returned (.tuple #[.agg #[.int .i64 0, .int .i64 0, .slice none 0 0], .int .i64 r]) ∧ r ≠ 0 ∧ Qb x w') := hJ
  clear hJ
  go_enter Try.func7, Try.ntmps7
  go_wp2_with fail
  refine (known14_any w1).mono ?_
  rintro e w2 ⟨rfl, q2⟩
  have H2 : Hid (Qb w w2) := H1.out.trans q2
  have k0 := q2.cell k0
  have k1 := q2.cell k1
  have k2 := q2.cell k2
  have k3 := q2.cell k3
  have k4 := q2.cell k4
  have k5 := q2.cell k5
  clear q2 hw1
  go_wp2_with fail
  refine (CJ.out w2).mono ?_
  rintro e w3 ⟨r, rfl, hr, q3⟩
  have HE : Hid (Qb w (w3.alloc (.cells #[.int .i64 0, .int .i64 0, .slice none 0 0] 24))) := (H2.out.trans q3).trans ((Q.refl w3).cells _ _).qb
  have hbe : (r != 0) = true := by simpa using hr
  have hbe2 : (r == 0) = false := by simpa using hr
  have CN : Hid (∀ x : World, Calls Try.prog 14 #[.int .i64 r] x fun e w' => e = .returned (.int .i64 r) ∧ w' = x) := fun x => num14_any r x
  clear q3 hr k0 k1 k2 k3 k4 k5
  have i0 : ∀ w3 : World, (w3.alloc (.cells #[.int .i64 0, .int .i64 0, .slice none 0 0] 24)).cell? ⟨w3.heap.size, 2, none⟩ = some (.slice none 0 0) := fun w3 => by simp [go_sem]
  obtain ⟨w4, hw4⟩ : ∃ w4, w3.alloc (.cells #[.int .i64 0, .int .i64 0, .slice none 0 0] 24) = w4 := ⟨_, rfl⟩
  have z := zbp_new w3
  rw [hw4] at z HE
  have j0 := setcell_id z.c0
  have j1 := setcell_id z.c1
  have j2 := setcell_id z.c2
  have c0 := z.c0
  have c1 := z.c1
  have c2 := z.c2
  have f0 := z.fr 0
  have f1 := z.fr 1
  have f2 := z.fr 2
  clear z i0
  go_wp2_with fail
  refine (CN.out _).mono ?_
  rintro e w5 ⟨rfl, hw5⟩
  obtain rfl := hw5.symm
  go_wp2_with fail
  go_ret
  exact ⟨rfl, HE.out⟩
/-- The walk, whatever comes in. -/
theorem pagain_walk (w : World) (W H W' H' : Int) (sv sv' : Value) (S S' : List Nat) (us : USl w sv S) (us' : USl w sv' S') (hb : ∀ i, S.getD i 0 < 4294967296) (hb' : ∀ i, S'.getD i 0 < 4294967296) (hl : S.length ≤ 9223372036854775807) (hl' : S'.length ≤ 9223372036854775807) :
    Calls Try.prog 7 #[.agg #[.int .i64 W, .int .i64 H, sv], .agg #[.int .i64 W', .int .i64 H', sv']] w fun e w' => e = .returned (.bool true) ∧ Qb w w' := by
  by_cases hg : chk W H S.length = 0 ∧ chk W' H' S'.length = 0
  · obtain ⟨a, b, g, o, c, rfl, rfl, h3, h4, rfl, h6, h7⟩ := chk_of_list hg.1 us
    obtain ⟨a', b', g', o', c', rfl, rfl, i3, i4, rfl, i6, i7⟩ := chk_of_list hg.2 us'
    by_cases hh : (a' + 1) / 2 = a ∧ (b' + 1) / 2 = b
    · exact pagain_good a b a' b' g o c g' o' c' (a * b) (a' * b') S S' w i3 h3 rfl rfl hh.1 hh.2 h4 hb h7 h6 i4 hb' i7
    · refine pagain_bad a b a' b' _ _ _ _ _ _ w (fun x => ?_)
      have h1 := hg.1
      have h2 := hg.2
      rw [h4] at h1 hl
      rw [i4] at h2 hl'
      exact (Join_141 a b a' b' (some ⟨g, o, none⟩) (some ⟨g', o', none⟩) (a * b) c (a' * b') c' x hl hl' h1 h2 i3.a2 i3.b2 hh).mono fun e w' ⟨e1, e2⟩ => ⟨141, e1, by decide, e2⟩
  · obtain ⟨ad, cap, rfl⟩ := us.form
    obtain ⟨ad', cap', rfl⟩ := us'.form
    exact pagain_bad W H W' H' _ _ _ _ _ _ w (fun x => (Join_bad W H W' H' ad ad' S.length cap S'.length cap' x hl hl' hg).mono fun e w' ⟨r, e1, _, e2, e3⟩ => ⟨r, e1, e2, e3⟩)
end Go.Proofs.Ytomcbkpplbijgaa

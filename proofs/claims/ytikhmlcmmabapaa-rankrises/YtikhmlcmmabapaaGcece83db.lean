/- rank: Plane, Erode, Median, Dilate. -/
import Derived.Test.YtikhmlcmmabapaaG0a9198e3
import Derived.Test.YtikhmlcmmabapaaG8bd94108
import Derived.Test.YtikhmlcmmabapaaG4ec67552
import Derived.Test.YtikhmlcmmabapaaGcce89acd
namespace Go.Proofs.Ytikhmlcmmabapaa
open Go.RowKit
set_option linter.unusedVariables false
set_option linter.unusedSimpArgs false

section
variable {P : Program} {l : List Oper} {rd : List Nat} {ords : List (List Nat)} {C : World → Prop} {N : Act → World → Prop} {n : Nat} {p : List Nat} {A : Act} {x : World}
/-- One operation comes next, in every order. -/
theorem treeC (k : Nat) (hk : (nexts ords p).all (fun j => j == k) = true) {o : Oper} (ho : l[k]? = some o) (h : Does P o A.eval x (fun v x' => (fullB l rd k = false → C x') ∧ wpTree P l rd ords C N n (p ++ [k]) (A.put o.dst v) x')) : wpTree P l rd ords C N (n + 1) p A x := by
  intro k' hk' o' ho'
  have := List.all_eq_true.1 hk k' hk'
  have e : k' = k := by simpa using this
  subst e
  rw [ho] at ho'
  injection ho' with ho'
  subst ho'
  exact h
theorem treeC_run (k : Nat) (hk : (nexts ords p).all (fun j => j == k) = true) {o : Oper} (ho : l[k]? = some o) {v : Value} {x' : World} (hr : (execOp A.eval o).run P x = .ok (.value v) x') (hC : C x') (h : wpTree P l rd ords C N n (p ++ [k]) (A.put o.dst v) x') : wpTree P l rd ords C N (n + 1) p A x :=
  treeC k hk ho (does_value hr ⟨fun _ => hC, h⟩)
theorem treeC_call (k : Nat) (hk : (nexts ords p).all (fun j => j == k) = true) {o : Oper} (ho : l[k]? = some o) {f : FuncId} {vs : Array Value} (hr : (execOp A.eval o).run P x = .ok (.enter f vs) x) {G : Value → World → Prop} (hc : Calls P f vs x fun e x' => ∃ v, e = .returned v ∧ G v x') (h : ∀ v x', G v x' → C x' ∧ wpTree P l rd ords C N n (p ++ [k]) (A.put o.dst v) x') : wpTree P l rd ords C N (n + 1) p A x :=
  treeC k hk ho (does_call hr (hc.mono fun e x' ⟨v, h1, h2⟩ => ⟨v, h1, fun _ => (h v x' h2).1, (h v x' h2).2⟩))
theorem treeC_call8 (k : Nat) (hk : (nexts ords p).all (fun j => j == k) = true) {o : Oper} (ho : l[k]? = some o) (hf : fullB l rd k = true) {f : FuncId} {vs : Array Value} (hr : (execOp A.eval o).run P x = .ok (.enter f vs) x) {G : Value → World → Prop} (hc : Calls P f vs x fun e x' => ∃ v, e = .returned v ∧ G v x') (h : ∀ v x', G v x' → wpTree P l rd ords C N n (p ++ [k]) (A.put o.dst v) x') : wpTree P l rd ords C N (n + 1) p A x :=
  treeC k hk ho (does_call hr (hc.mono fun e x' ⟨v, h1, h2⟩ => ⟨v, h1, fun e => (by rw [hf] at e; cases e), h v x' h2⟩))
end
section
variable {ρ : Operand → Value} {x : World} {d : Option Tmp} {ty : TypeId} {ps : String} {af : Array Edge} {gd : Option (Nat × Bool)}
theorem run_quo2 {j : Nat} {N K : Int} (h : ρ (.tmp j) = .int .i64 N) (hc : ρ (.const (.int .i64 2)) = .int .i64 2) (hK : Int.tdiv N 2 = K) (hw : IntKind.i64.wrap K = K) : (execOp ρ { dst := d, op := .binOp .quo 3 (.tmp j) (.const (.int .i64 2)) 3, type := ty, pos := ps, after := af, guard := gd }).run Try.prog x = .ok (.value (.int .i64 K)) x := by
  simp [execOp, h, hc, go_sem, hK, hw]
theorem run_sub1 {j : Nat} {N K : Int} (h : ρ (.tmp j) = .int .i64 N) (hc : ρ (.const (.int .i64 1)) = .int .i64 1) (hK : N - 1 = K) (hw : IntKind.i64.wrap K = K) : (execOp ρ { dst := d, op := .binOp .sub 3 (.tmp j) (.const (.int .i64 1)) 3, type := ty, pos := ps, after := af, guard := gd }).run Try.prog x = .ok (.value (.int .i64 K)) x := by
  simp [execOp, h, hc, go_sem, hK, hw]
theorem run_ext0 {j : Nat} {a b : Value} (h : ρ (.tmp j) = .tuple #[a, b]) : (execOp ρ { dst := d, op := .extract (.tmp j) 0, type := ty, pos := ps, after := af, guard := gd }).run Try.prog x = .ok (.value a) x := by
  simp [execOp, h, go_sem]
theorem run_ext1 {j : Nat} {a b : Value} (h : ρ (.tmp j) = .tuple #[a, b]) : (execOp ρ { dst := d, op := .extract (.tmp j) 1, type := ty, pos := ps, after := af, guard := gd }).run Try.prog x = .ok (.value b) x := by
  simp [execOp, h, go_sem]
theorem run_asg {j : Nat} {E : Int} (h : ρ (.tmp j) = .int .i64 E) : (execOp ρ { dst := d, op := .assign (.tmp j), type := ty, pos := ps, after := af, guard := gd }).run Try.prog x = .ok (.value (.int .i64 E)) x := by
  simp [execOp, h, go_sem]
theorem run_st3 {i j b : Nat} {p q : Int} {ad : Option Addr} {m cc : Nat} {u0 u1 u2 : Value} {x' : World} (h : ρ (.tmp i) = .pointer (some ⟨b, 0, none⟩)) (h' : ρ (.tmp j) = .agg #[.int .i64 p, .int .i64 q, .slice ad m cc]) (c0 : x.cell? ⟨b, 0, none⟩ = some u0) (c1 : x.cell? ⟨b, 1, none⟩ = some u1) (c2 : x.cell? ⟨b, 2, none⟩ = some u2) (f0 : x.frozen? ⟨b, 0, none⟩ = false) (f1 : x.frozen? ⟨b, 1, none⟩ = false) (f2 : x.frozen? ⟨b, 2, none⟩ = false) (hx : put3 x b (.int .i64 p) (.int .i64 q) (.slice ad m cc) = x') :
    (execOp ρ { dst := d, op := .store 24 (.tmp i) (.tmp j), type := ty, pos := ps, after := af, guard := gd }).run Try.prog x = .ok .skip x' := by
  rw [← hx]
  simp [execOp, h, h', go_sem, c0, c1, c2, f0, f1, f2, put3]
end

theorem paE_full (pw ph : Int) (n : Nat) (bd W H k : Int) : paE pw ph n bd W H k 0 0 pw ph = rkE pw ph n bd W H k := by
  unfold paE
  by_cases h : rkE pw ph n bd W H k = 0
  · rw [if_pos h, h]
    obtain ⟨pa, pb, b, wa, ha, kk, rfl, rfl, _, _, _, _, hsz, _⟩ := rkE_ok h
    have h1 := hsz.a1
    have h2 := hsz.b1
    rw [if_pos]
    unfold spnB
    simp only [Bool.and_eq_true, decide_eq_true_eq]
    omega
  · rw [if_neg h]
set_option maxHeartbeats 8000000 in
set_option maxRecDepth 100000 in
theorem rplane_any (pw ph : Int) (ad : Option Addr) (n c : Nat) (S : List Nat) (bd W H k : Int) (w : World) (hU : USl w (.slice ad n c) S) (hS : S.length = n) (hSb : ∀ i, S.getD i 0 < 4294967296) (hn : n ≤ 9223372036854775807) :
    Calls Try.prog 9 #[.agg #[.int .i64 pw, .int .i64 ph, .slice ad n c], .int .i64 bd, .int .i64 W, .int .i64 H, .int .i64 k] w fun e w' => ∃ a b ad' m cc E, e = .returned (.tuple #[.agg #[.int .i64 a, .int .i64 b, .slice ad' m cc], .int .i64 E]) ∧ Pans w w' (rkE pw ph n bd W H k) pw.toNat ph.toNat (fun i => rnkV S pw.toNat ph.toNat bd.toNat W.toNat H.toNat k.toNat (i % pw.toNat) (i / pw.toNat)) a b ad' m cc E := by
  obtain ⟨w1, hw1⟩ : ∃ w1, w.alloc (.cells #[.int .i64 pw, .int .i64 ph, .slice ad n c] 24) = w1 := ⟨_, rfl⟩
  obtain ⟨w2, hw2⟩ : ∃ w2, w1.alloc (.cells #[.int .i64 0, .int .i64 0, .slice none 0 0] 24) = w2 := ⟨_, rfl⟩
  have q1 : Q w w1 := by rw [← hw1]; exact (Q.refl w).cells _ _
  have q2 : Q w1 w2 := by rw [← hw2]; exact (Q.refl w1).cells _ _
  have s1 : w1.heap.size = w.heap.size + 1 := by rw [← hw1]; simp
  have s2 : w2.heap.size = w1.heap.size + 1 := by rw [← hw2]; simp
  have p0 : w2.cell? ⟨w.heap.size, 0, none⟩ = some (.int .i64 pw) := q2.cell (by rw [← hw1]; simp [go_sem])
  have p1 : w2.cell? ⟨w.heap.size, 1, none⟩ = some (.int .i64 ph) := q2.cell (by rw [← hw1]; simp [go_sem])
  have p2 : w2.cell? ⟨w.heap.size, 2, none⟩ = some (.slice ad n c) := q2.cell (by rw [← hw1]; simp [go_sem])
  have HO : Hid ((w2.cell? ⟨w1.heap.size, 0, none⟩ = some (.int .i64 0) ∧ w2.cell? ⟨w1.heap.size, 1, none⟩ = some (.int .i64 0) ∧ w2.cell? ⟨w1.heap.size, 2, none⟩ = some (.slice none 0 0) ∧ ∀ j, w2.frozen? ⟨w1.heap.size, j, none⟩ = false) ∧ Q w w2 ∧ w.heap.size < w1.heap.size ∧ w1.heap.size < w2.heap.size) := by
    refine ⟨?_, q1.trans q2, by omega, by omega⟩
    rw [← hw2]
    exact ⟨by simp [go_sem], by simp [go_sem], by simp [go_sem], fun j => by simp [go_sem]⟩
  have HC : Hid (∀ x, Q w x → Calls Try.prog 18 #[.agg #[.int .i64 pw, .int .i64 ph, .slice ad n c], .int .i64 bd, .int .i64 W, .int .i64 H, .int .i64 k, .agg #[.int .i64 0, .int .i64 0, .int .i64 pw, .int .i64 ph]] x fun e w' => ∃ a b ad' m cc E, e = .returned (.tuple #[.agg #[.int .i64 a, .int .i64 b, .slice ad' m cc], .int .i64 E]) ∧ Pans x w' (rkE pw ph n bd W H k) pw.toNat ph.toNat (fun i => rnkV S pw.toNat ph.toNat bd.toNat W.toNat H.toNat k.toNat (i % pw.toNat) (i / pw.toNat)) a b ad' m cc E) := fun x q => by
    have := part_any pw ph ad n c S bd W H k 0 0 pw ph x (hU.next q) hS hSb hn
    rw [paE_full] at this
    simp only [Int.sub_zero, Int.toNat_zero, Nat.zero_add] at this
    exact this
  generalize (fun i => rnkV S pw.toNat ph.toNat bd.toNat W.toNat H.toNat k.toNat (i % pw.toNat) (i / pw.toNat)) = V at HC ⊢
  obtain ⟨E0, hE0⟩ : ∃ E0, rkE pw ph n bd W H k = E0 := ⟨_, rfl⟩
  rw [hE0] at HC ⊢
  obtain ⟨pc, hpc⟩ : ∃ pc, pw.toNat = pc := ⟨_, rfl⟩
  obtain ⟨pd, hpd⟩ : ∃ pd, ph.toNat = pd := ⟨_, rfl⟩
  simp only [hpc, hpd] at HC
  rw [hpc, hpd]
  clear q1 q2 s1 s2 hU hS hSb hE0 hpc hpd
  go_enter Try.func9, Try.ntmps9
  go_wp2_with fail
  refine Calls.mono (HC.out _ HO.out.2.1) ?_
  rintro e w3 ⟨a, b, ad', m, cc, E, rfl, hP⟩
  have q23 := hP.q
  have HW : Hid (Pans w (put3 w3 w1.heap.size (.int .i64 a) (.int .i64 b) (.slice ad' m cc)) E0 pc pd V a b ad' m cc E) := hP.box HO.out.2.1.qb (by have := HO.out.2.2.1; omega) HO.out.2.2.2 _ _ _
  obtain ⟨o0, o1, o2, fo⟩ : w3.cell? ⟨w1.heap.size, 0, none⟩ = some (.int .i64 0) ∧ w3.cell? ⟨w1.heap.size, 1, none⟩ = some (.int .i64 0) ∧ w3.cell? ⟨w1.heap.size, 2, none⟩ = some (.slice none 0 0) ∧ ∀ j, w3.frozen? ⟨w1.heap.size, j, none⟩ = false := ⟨q23.cell HO.out.1.1, q23.cell HO.out.1.2.1, q23.cell HO.out.1.2.2.1, fun j => by rw [q23.frozen (p := ⟨w1.heap.size, j, none⟩) HO.out.2.2.2]; exact HO.out.1.2.2.2 j⟩
  have fo0 := fo 0
  have fo1 := fo 1
  have fo2 := fo 2
  have v0 := put3_c0 (v0 := .int .i64 a) (v1 := .int .i64 b) (v2 := .slice ad' m cc) o0
  have v1 := put3_c1 (v0 := .int .i64 a) (v1 := .int .i64 b) (v2 := .slice ad' m cc) o1
  have v2 := put3_c2 (v0 := .int .i64 a) (v1 := .int .i64 b) (v2 := .slice ad' m cc) o2
  obtain ⟨w9, hw9⟩ : ∃ w9, put3 w3 w1.heap.size (.int .i64 a) (.int .i64 b) (.slice ad' m cc) = w9 := ⟨_, rfl⟩
  rw [hw9] at HW v0 v1 v2
  have HW9 : Hid (put3 w3 w1.heap.size (.int .i64 a) (.int .i64 b) (.slice ad' m cc) = w9) := hw9
  clear q23 hP fo hw9
  go_wp2_with fail
  have h9 : ((w3.setCell ⟨w1.heap.size, 0, none⟩ (.int .i64 a)).setCell ⟨w1.heap.size, 1, none⟩ (.int .i64 b)).setCell ⟨w1.heap.size, 2, none⟩ (.slice ad' m cc) = w9 := HW9.out
  rw [h9]
  exact bodyPost_ret (v := .tuple #[.agg #[.int .i64 a, .int .i64 b, .slice ad' m cc], .int .i64 E]) (by simp [results, Try.results9, go_sem, v0, v1, v2]) rfl ⟨_, _, _, _, _, _, rfl, HW.out⟩
set_option maxHeartbeats 8000000 in
set_option maxRecDepth 100000 in
theorem erode_any (pw ph : Int) (ad : Option Addr) (n c : Nat) (S : List Nat) (bd W H : Int) (w : World) (hU : USl w (.slice ad n c) S) (hS : S.length = n) (hSb : ∀ i, S.getD i 0 < 4294967296) (hn : n ≤ 9223372036854775807) :
    Calls Try.prog 13 #[.agg #[.int .i64 pw, .int .i64 ph, .slice ad n c], .int .i64 bd, .int .i64 W, .int .i64 H] w fun e w' => ∃ a b ad' m cc E, e = .returned (.tuple #[.agg #[.int .i64 a, .int .i64 b, .slice ad' m cc], .int .i64 E]) ∧ Pans w w' (rkE pw ph n bd W H 0) pw.toNat ph.toNat (fun i => rnkV S pw.toNat ph.toNat bd.toNat W.toNat H.toNat 0 (i % pw.toNat) (i / pw.toNat)) a b ad' m cc E := by
  obtain ⟨w1, hw1⟩ : ∃ w1, w.alloc (.cells #[.int .i64 pw, .int .i64 ph, .slice ad n c] 24) = w1 := ⟨_, rfl⟩
  obtain ⟨w2, hw2⟩ : ∃ w2, w1.alloc (.cells #[.int .i64 0, .int .i64 0, .slice none 0 0] 24) = w2 := ⟨_, rfl⟩
  have q1 : Q w w1 := by rw [← hw1]; exact (Q.refl w).cells _ _
  have q2 : Q w1 w2 := by rw [← hw2]; exact (Q.refl w1).cells _ _
  have s1 : w1.heap.size = w.heap.size + 1 := by rw [← hw1]; simp
  have s2 : w2.heap.size = w1.heap.size + 1 := by rw [← hw2]; simp
  have p0 : w2.cell? ⟨w.heap.size, 0, none⟩ = some (.int .i64 pw) := q2.cell (by rw [← hw1]; simp [go_sem])
  have p1 : w2.cell? ⟨w.heap.size, 1, none⟩ = some (.int .i64 ph) := q2.cell (by rw [← hw1]; simp [go_sem])
  have p2 : w2.cell? ⟨w.heap.size, 2, none⟩ = some (.slice ad n c) := q2.cell (by rw [← hw1]; simp [go_sem])
  have HO : Hid ((w2.cell? ⟨w1.heap.size, 0, none⟩ = some (.int .i64 0) ∧ w2.cell? ⟨w1.heap.size, 1, none⟩ = some (.int .i64 0) ∧ w2.cell? ⟨w1.heap.size, 2, none⟩ = some (.slice none 0 0) ∧ ∀ j, w2.frozen? ⟨w1.heap.size, j, none⟩ = false) ∧ Q w w2 ∧ w.heap.size < w1.heap.size ∧ w1.heap.size < w2.heap.size) := by
    refine ⟨?_, q1.trans q2, by omega, by omega⟩
    rw [← hw2]
    exact ⟨by simp [go_sem], by simp [go_sem], by simp [go_sem], fun j => by simp [go_sem]⟩
  have HC : Hid (∀ x, Q w x → Calls Try.prog 9 #[.agg #[.int .i64 pw, .int .i64 ph, .slice ad n c], .int .i64 bd, .int .i64 W, .int .i64 H, .int .i64 0] x fun e w' => ∃ a b ad' m cc E, e = .returned (.tuple #[.agg #[.int .i64 a, .int .i64 b, .slice ad' m cc], .int .i64 E]) ∧ Pans x w' (rkE pw ph n bd W H 0) pw.toNat ph.toNat (fun i => rnkV S pw.toNat ph.toNat bd.toNat W.toNat H.toNat 0 (i % pw.toNat) (i / pw.toNat)) a b ad' m cc E) := fun x q => rplane_any pw ph ad n c S bd W H 0 x (hU.next q) hS hSb hn
  generalize (fun i => rnkV S pw.toNat ph.toNat bd.toNat W.toNat H.toNat 0 (i % pw.toNat) (i / pw.toNat)) = V at HC ⊢
  obtain ⟨E0, hE0⟩ : ∃ E0, rkE pw ph n bd W H 0 = E0 := ⟨_, rfl⟩
  rw [hE0] at HC ⊢
  obtain ⟨pc, hpc⟩ : ∃ pc, pw.toNat = pc := ⟨_, rfl⟩
  obtain ⟨pd, hpd⟩ : ∃ pd, ph.toNat = pd := ⟨_, rfl⟩
  simp only [hpc, hpd] at HC
  rw [hpc, hpd]
  clear q1 q2 s1 s2 hU hS hSb hE0 hpc hpd
  go_enter Try.func13, Try.ntmps13
  go_wp2_with fail
  refine Calls.mono (HC.out _ HO.out.2.1) ?_
  rintro e w3 ⟨a, b, ad', m, cc, E, rfl, hP⟩
  have q23 := hP.q
  have HW : Hid (Pans w (put3 w3 w1.heap.size (.int .i64 a) (.int .i64 b) (.slice ad' m cc)) E0 pc pd V a b ad' m cc E) := hP.box HO.out.2.1.qb (by have := HO.out.2.2.1; omega) HO.out.2.2.2 _ _ _
  obtain ⟨o0, o1, o2, fo⟩ : w3.cell? ⟨w1.heap.size, 0, none⟩ = some (.int .i64 0) ∧ w3.cell? ⟨w1.heap.size, 1, none⟩ = some (.int .i64 0) ∧ w3.cell? ⟨w1.heap.size, 2, none⟩ = some (.slice none 0 0) ∧ ∀ j, w3.frozen? ⟨w1.heap.size, j, none⟩ = false := ⟨q23.cell HO.out.1.1, q23.cell HO.out.1.2.1, q23.cell HO.out.1.2.2.1, fun j => by rw [q23.frozen (p := ⟨w1.heap.size, j, none⟩) HO.out.2.2.2]; exact HO.out.1.2.2.2 j⟩
  have fo0 := fo 0
  have fo1 := fo 1
  have fo2 := fo 2
  have v0 := put3_c0 (v0 := .int .i64 a) (v1 := .int .i64 b) (v2 := .slice ad' m cc) o0
  have v1 := put3_c1 (v0 := .int .i64 a) (v1 := .int .i64 b) (v2 := .slice ad' m cc) o1
  have v2 := put3_c2 (v0 := .int .i64 a) (v1 := .int .i64 b) (v2 := .slice ad' m cc) o2
  obtain ⟨w9, hw9⟩ : ∃ w9, put3 w3 w1.heap.size (.int .i64 a) (.int .i64 b) (.slice ad' m cc) = w9 := ⟨_, rfl⟩
  rw [hw9] at HW v0 v1 v2
  have HW9 : Hid (put3 w3 w1.heap.size (.int .i64 a) (.int .i64 b) (.slice ad' m cc) = w9) := hw9
  clear q23 hP fo hw9
  go_wp2_with fail
  have h9 : ((w3.setCell ⟨w1.heap.size, 0, none⟩ (.int .i64 a)).setCell ⟨w1.heap.size, 1, none⟩ (.int .i64 b)).setCell ⟨w1.heap.size, 2, none⟩ (.slice ad' m cc) = w9 := HW9.out
  rw [h9]
  exact bodyPost_ret (v := .tuple #[.agg #[.int .i64 a, .int .i64 b, .slice ad' m cc], .int .i64 E]) (by simp [results, Try.results13, go_sem, v0, v1, v2]) rfl ⟨_, _, _, _, _, _, rfl, HW.out⟩
set_option maxHeartbeats 8000000 in
set_option maxRecDepth 100000 in
theorem median_any (pw ph : Int) (ad : Option Addr) (n c : Nat) (S : List Nat) (bd W H : Int) (w : World) (hU : USl w (.slice ad n c) S) (hS : S.length = n) (hSb : ∀ i, S.getD i 0 < 4294967296) (hn : n ≤ 9223372036854775807) :
    Calls Try.prog 12 #[.agg #[.int .i64 pw, .int .i64 ph, .slice ad n c], .int .i64 bd, .int .i64 W, .int .i64 H] w fun e w' => ∃ a b ad' m cc E, e = .returned (.tuple #[.agg #[.int .i64 a, .int .i64 b, .slice ad' m cc], .int .i64 E]) ∧ Pans w w' (rkE pw ph n bd W H (cntV W H / 2)) pw.toNat ph.toNat (fun i => rnkV S pw.toNat ph.toNat bd.toNat W.toNat H.toNat (cntV W H / 2).toNat (i % pw.toNat) (i / pw.toNat)) a b ad' m cc E := by
  obtain ⟨w1, hw1⟩ : ∃ w1, w.alloc (.cells #[.int .i64 pw, .int .i64 ph, .slice ad n c] 24) = w1 := ⟨_, rfl⟩
  obtain ⟨w2, hw2⟩ : ∃ w2, w1.alloc (.cells #[.int .i64 0, .int .i64 0, .slice none 0 0] 24) = w2 := ⟨_, rfl⟩
  have q1 : Q w w1 := by rw [← hw1]; exact (Q.refl w).cells _ _
  have q2 : Q w1 w2 := by rw [← hw2]; exact (Q.refl w1).cells _ _
  have s1 : w1.heap.size = w.heap.size + 1 := by rw [← hw1]; simp
  have s2 : w2.heap.size = w1.heap.size + 1 := by rw [← hw2]; simp
  have p0 : w2.cell? ⟨w.heap.size, 0, none⟩ = some (.int .i64 pw) := q2.cell (by rw [← hw1]; simp [go_sem])
  have p1 : w2.cell? ⟨w.heap.size, 1, none⟩ = some (.int .i64 ph) := q2.cell (by rw [← hw1]; simp [go_sem])
  have p2 : w2.cell? ⟨w.heap.size, 2, none⟩ = some (.slice ad n c) := q2.cell (by rw [← hw1]; simp [go_sem])
  have HO : Hid ((w2.cell? ⟨w1.heap.size, 0, none⟩ = some (.int .i64 0) ∧ w2.cell? ⟨w1.heap.size, 1, none⟩ = some (.int .i64 0) ∧ w2.cell? ⟨w1.heap.size, 2, none⟩ = some (.slice none 0 0) ∧ ∀ j, w2.frozen? ⟨w1.heap.size, j, none⟩ = false) ∧ Q w w2 ∧ w.heap.size < w1.heap.size ∧ w1.heap.size < w2.heap.size) := by
    refine ⟨?_, q1.trans q2, by omega, by omega⟩
    rw [← hw2]
    exact ⟨by simp [go_sem], by simp [go_sem], by simp [go_sem], fun j => by simp [go_sem]⟩
  have hcb := cntV_bd W H
  have HD : Hid _ := fun x => count_any W H x
  have HC : Hid (∀ x, Q w x → Calls Try.prog 9 #[.agg #[.int .i64 pw, .int .i64 ph, .slice ad n c], .int .i64 bd, .int .i64 W, .int .i64 H, .int .i64 (cntV W H / 2)] x fun e w' => ∃ a b ad' m cc E, e = .returned (.tuple #[.agg #[.int .i64 a, .int .i64 b, .slice ad' m cc], .int .i64 E]) ∧ Pans x w' (rkE pw ph n bd W H (cntV W H / 2)) pw.toNat ph.toNat (fun i => rnkV S pw.toNat ph.toNat bd.toNat W.toNat H.toNat (cntV W H / 2).toNat (i % pw.toNat) (i / pw.toNat)) a b ad' m cc E) := fun x q => rplane_any pw ph ad n c S bd W H (cntV W H / 2) x (hU.next q) hS hSb hn
  generalize (fun i => rnkV S pw.toNat ph.toNat bd.toNat W.toNat H.toNat (cntV W H / 2).toNat (i % pw.toNat) (i / pw.toNat)) = V at HC ⊢
  obtain ⟨E0, hE0⟩ : ∃ E0, rkE pw ph n bd W H (cntV W H / 2) = E0 := ⟨_, rfl⟩
  rw [hE0] at HC ⊢
  obtain ⟨N, hN⟩ : ∃ N, cntV W H = N := ⟨_, rfl⟩
  rw [hN] at hcb
  simp only [hN] at HC HD
  clear hE0 hN
  obtain ⟨K, hK⟩ : ∃ K, (N / 2) = K := ⟨_, rfl⟩
  have hKr : Int.tdiv N 2 = K := by rw [Int.tdiv_eq_ediv_of_nonneg hcb.1]; exact hK
  have hwK : IntKind.i64.wrap K = K := by rw [IntKind.wrap_i64]; omega
  simp only [hK] at HC
  obtain ⟨pc, hpc⟩ : ∃ pc, pw.toNat = pc := ⟨_, rfl⟩
  obtain ⟨pd, hpd⟩ : ∃ pd, ph.toNat = pd := ⟨_, rfl⟩
  simp only [hpc, hpd] at HC
  rw [hpc, hpd]
  clear q1 q2 s1 s2 hU hS hSb hpc hpd hK
  have n0 := qw_some w2
  have f0 := qw_cell p0
  have f1 := qw_cell p1
  have f2 := qw_cell p2
  clear p0 p1 p2
  go_enter Try.func12, Try.ntmps12
  go_wp2_with fail
  refine wp_region_mk [0, 1, 2, 3, 4, 5] [[6, 7, 8, 9, 10, 11, 12], [6, 7, 8, 10, 9, 11, 12]] 7 _ (by kernel_rfl) (by kernel_rfl) rfl (by kernel_rfl) ?_
  simp only [List.filterMap_cons, List.filterMap_nil, List.getElem?_cons_zero, List.getElem?_cons_succ]
  repeat (first | go_big_quiet_step (fail) | quiet_step (fail))
  refine wpQuiet_nil ?_
  intro x5 hx5
  clear f0 f1 f2 n0
  refine treeC_call 6 (by kernel_rfl) rfl (run_fn 23 #[.tmp 14, .tmp 15] _ rfl (fun _ _ => rfl) (vs := #[.int .i64 W, .int .i64 H]) (by kernel_rfl)) (G := fun v x' => v = .int .i64 N ∧ x' = x5) ((HD.out x5).mono fun e x' h => ⟨_, h.1, rfl, h.2⟩) ?_
  rintro vq z6 ⟨rfl, hz6⟩
  obtain rfl := hz6.symm
  refine ⟨hx5, ?_⟩
  refine treeC_run 7 (by kernel_rfl) rfl (v := .int .i64 K) (x' := x5) (run_quo2 (by kernel_rfl) rfl hKr hwK) hx5 ?_
  have hC5 := HC.out x5 (HO.out.2.1.trans hx5)
  refine treeC_call8 8 (by kernel_rfl) rfl (by kernel_rfl) (run_fn 9 #[.tmp 10, .tmp 11, .tmp 12, .tmp 13, .tmp 17] _ rfl (fun _ _ => rfl) (vs := #[.agg #[.int .i64 pw, .int .i64 ph, .slice ad n c], .int .i64 bd, .int .i64 W, .int .i64 H, .int .i64 K]) (by kernel_rfl)) (G := fun v x' => ∃ a b ad' m cc E, v = .tuple #[.agg #[.int .i64 a, .int .i64 b, .slice ad' m cc], .int .i64 E] ∧ Pans x5 x' E0 pc pd V a b ad' m cc E) (hC5.mono fun e x' ⟨a, b, ad', m, cc, E, h1, h2⟩ => ⟨_, h1, a, b, ad', m, cc, E, rfl, h2⟩) ?_
  rintro vq w3 ⟨a, b, ad', m, cc, E, rfl, hP⟩
  have q23 := hx5.qb.trans hP.q
  have HW : Hid (Pans w (put3 w3 w1.heap.size (.int .i64 a) (.int .i64 b) (.slice ad' m cc)) E0 pc pd V a b ad' m cc E) := hP.box (HO.out.2.1.trans hx5).qb (by have := HO.out.2.2.1; omega) (by have := HO.out.2.2.2; have := hx5.1.size; omega) _ _ _
  obtain ⟨o0, o1, o2, fo⟩ : w3.cell? ⟨w1.heap.size, 0, none⟩ = some (.int .i64 0) ∧ w3.cell? ⟨w1.heap.size, 1, none⟩ = some (.int .i64 0) ∧ w3.cell? ⟨w1.heap.size, 2, none⟩ = some (.slice none 0 0) ∧ ∀ j, w3.frozen? ⟨w1.heap.size, j, none⟩ = false := ⟨q23.cell HO.out.1.1, q23.cell HO.out.1.2.1, q23.cell HO.out.1.2.2.1, fun j => by rw [q23.frozen (p := ⟨w1.heap.size, j, none⟩) HO.out.2.2.2]; exact HO.out.1.2.2.2 j⟩
  have fo0 := fo 0
  have fo1 := fo 1
  have fo2 := fo 2
  have v0 := put3_c0 (v0 := .int .i64 a) (v1 := .int .i64 b) (v2 := .slice ad' m cc) o0
  have v1 := put3_c1 (v0 := .int .i64 a) (v1 := .int .i64 b) (v2 := .slice ad' m cc) o1
  have v2 := put3_c2 (v0 := .int .i64 a) (v1 := .int .i64 b) (v2 := .slice ad' m cc) o2
  obtain ⟨w9, hw9⟩ : ∃ w9, put3 w3 w1.heap.size (.int .i64 a) (.int .i64 b) (.slice ad' m cc) = w9 := ⟨_, rfl⟩
  rw [hw9] at HW v0 v1 v2
  have HW9 : Hid (put3 w3 w1.heap.size (.int .i64 a) (.int .i64 b) (.slice ad' m cc) = w9) := hw9
  clear q23 hP fo hw9 hC5
  refine tree2 9 10 (by kernel_rfl) rfl rfl (does_value (v := .agg #[.int .i64 a, .int .i64 b, .slice ad' m cc]) (x' := w3) (run_ext0 (b := .int .i64 E) (by kernel_rfl)) ⟨fun e => absurd e (by decide), ?_⟩) (does_value (v := .int .i64 E) (x' := w3) (run_ext1 (a := .agg #[.int .i64 a, .int .i64 b, .slice ad' m cc]) (by kernel_rfl)) ⟨fun e => absurd e (by decide), ?_⟩)
  · refine tree_runF 10 (by kernel_rfl) rfl (by kernel_rfl) (v := .int .i64 E) (x' := w3) (run_ext1 (a := .agg #[.int .i64 a, .int .i64 b, .slice ad' m cc]) (by kernel_rfl)) ?_
    refine tree_skipF 11 (by kernel_rfl) rfl (by kernel_rfl) (x' := w9) (run_st3 (b := w1.heap.size) (by kernel_rfl) (by kernel_rfl) o0 o1 o2 fo0 fo1 fo2 HW9.out) ?_
    refine tree_runF 12 (by kernel_rfl) rfl (by kernel_rfl) (v := .int .i64 E) (x' := w9) (run_asg (by kernel_rfl)) ?_
    refine tree_nil ?_
    go_wp2_with fail
    exact bodyPost_ret (v := .tuple #[.agg #[.int .i64 a, .int .i64 b, .slice ad' m cc], .int .i64 E]) (by simp [results, Try.results12, go_sem, v0, v1, v2]) rfl ⟨_, _, _, _, _, _, rfl, HW.out⟩
  · refine tree_runF 9 (by kernel_rfl) rfl (by kernel_rfl) (v := .agg #[.int .i64 a, .int .i64 b, .slice ad' m cc]) (x' := w3) (run_ext0 (b := .int .i64 E) (by kernel_rfl)) ?_
    refine tree_skipF 11 (by kernel_rfl) rfl (by kernel_rfl) (x' := w9) (run_st3 (b := w1.heap.size) (by kernel_rfl) (by kernel_rfl) o0 o1 o2 fo0 fo1 fo2 HW9.out) ?_
    refine tree_runF 12 (by kernel_rfl) rfl (by kernel_rfl) (v := .int .i64 E) (x' := w9) (run_asg (by kernel_rfl)) ?_
    refine tree_nil ?_
    go_wp2_with fail
    exact bodyPost_ret (v := .tuple #[.agg #[.int .i64 a, .int .i64 b, .slice ad' m cc], .int .i64 E]) (by simp [results, Try.results12, go_sem, v0, v1, v2]) rfl ⟨_, _, _, _, _, _, rfl, HW.out⟩
set_option maxHeartbeats 8000000 in
set_option maxRecDepth 100000 in
theorem dilate_any (pw ph : Int) (ad : Option Addr) (n c : Nat) (S : List Nat) (bd W H : Int) (w : World) (hU : USl w (.slice ad n c) S) (hS : S.length = n) (hSb : ∀ i, S.getD i 0 < 4294967296) (hn : n ≤ 9223372036854775807) :
    Calls Try.prog 14 #[.agg #[.int .i64 pw, .int .i64 ph, .slice ad n c], .int .i64 bd, .int .i64 W, .int .i64 H] w fun e w' => ∃ a b ad' m cc E, e = .returned (.tuple #[.agg #[.int .i64 a, .int .i64 b, .slice ad' m cc], .int .i64 E]) ∧ Pans w w' (rkE pw ph n bd W H (cntV W H - 1)) pw.toNat ph.toNat (fun i => rnkV S pw.toNat ph.toNat bd.toNat W.toNat H.toNat (cntV W H - 1).toNat (i % pw.toNat) (i / pw.toNat)) a b ad' m cc E := by
  obtain ⟨w1, hw1⟩ : ∃ w1, w.alloc (.cells #[.int .i64 pw, .int .i64 ph, .slice ad n c] 24) = w1 := ⟨_, rfl⟩
  obtain ⟨w2, hw2⟩ : ∃ w2, w1.alloc (.cells #[.int .i64 0, .int .i64 0, .slice none 0 0] 24) = w2 := ⟨_, rfl⟩
  have q1 : Q w w1 := by rw [← hw1]; exact (Q.refl w).cells _ _
  have q2 : Q w1 w2 := by rw [← hw2]; exact (Q.refl w1).cells _ _
  have s1 : w1.heap.size = w.heap.size + 1 := by rw [← hw1]; simp
  have s2 : w2.heap.size = w1.heap.size + 1 := by rw [← hw2]; simp
  have p0 : w2.cell? ⟨w.heap.size, 0, none⟩ = some (.int .i64 pw) := q2.cell (by rw [← hw1]; simp [go_sem])
  have p1 : w2.cell? ⟨w.heap.size, 1, none⟩ = some (.int .i64 ph) := q2.cell (by rw [← hw1]; simp [go_sem])
  have p2 : w2.cell? ⟨w.heap.size, 2, none⟩ = some (.slice ad n c) := q2.cell (by rw [← hw1]; simp [go_sem])
  have HO : Hid ((w2.cell? ⟨w1.heap.size, 0, none⟩ = some (.int .i64 0) ∧ w2.cell? ⟨w1.heap.size, 1, none⟩ = some (.int .i64 0) ∧ w2.cell? ⟨w1.heap.size, 2, none⟩ = some (.slice none 0 0) ∧ ∀ j, w2.frozen? ⟨w1.heap.size, j, none⟩ = false) ∧ Q w w2 ∧ w.heap.size < w1.heap.size ∧ w1.heap.size < w2.heap.size) := by
    refine ⟨?_, q1.trans q2, by omega, by omega⟩
    rw [← hw2]
    exact ⟨by simp [go_sem], by simp [go_sem], by simp [go_sem], fun j => by simp [go_sem]⟩
  have hcb := cntV_bd W H
  have HD : Hid _ := fun x => count_any W H x
  have HC : Hid (∀ x, Q w x → Calls Try.prog 9 #[.agg #[.int .i64 pw, .int .i64 ph, .slice ad n c], .int .i64 bd, .int .i64 W, .int .i64 H, .int .i64 (cntV W H - 1)] x fun e w' => ∃ a b ad' m cc E, e = .returned (.tuple #[.agg #[.int .i64 a, .int .i64 b, .slice ad' m cc], .int .i64 E]) ∧ Pans x w' (rkE pw ph n bd W H (cntV W H - 1)) pw.toNat ph.toNat (fun i => rnkV S pw.toNat ph.toNat bd.toNat W.toNat H.toNat (cntV W H - 1).toNat (i % pw.toNat) (i / pw.toNat)) a b ad' m cc E) := fun x q => rplane_any pw ph ad n c S bd W H (cntV W H - 1) x (hU.next q) hS hSb hn
  generalize (fun i => rnkV S pw.toNat ph.toNat bd.toNat W.toNat H.toNat (cntV W H - 1).toNat (i % pw.toNat) (i / pw.toNat)) = V at HC ⊢
  obtain ⟨E0, hE0⟩ : ∃ E0, rkE pw ph n bd W H (cntV W H - 1) = E0 := ⟨_, rfl⟩
  rw [hE0] at HC ⊢
  obtain ⟨N, hN⟩ : ∃ N, cntV W H = N := ⟨_, rfl⟩
  rw [hN] at hcb
  simp only [hN] at HC HD
  clear hE0 hN
  obtain ⟨K, hK⟩ : ∃ K, (N - 1) = K := ⟨_, rfl⟩
  have hKr : N - 1 = K := by exact hK
  have hwK : IntKind.i64.wrap K = K := by rw [IntKind.wrap_i64]; omega
  simp only [hK] at HC
  obtain ⟨pc, hpc⟩ : ∃ pc, pw.toNat = pc := ⟨_, rfl⟩
  obtain ⟨pd, hpd⟩ : ∃ pd, ph.toNat = pd := ⟨_, rfl⟩
  simp only [hpc, hpd] at HC
  rw [hpc, hpd]
  clear q1 q2 s1 s2 hU hS hSb hpc hpd hK
  have n0 := qw_some w2
  have f0 := qw_cell p0
  have f1 := qw_cell p1
  have f2 := qw_cell p2
  clear p0 p1 p2
  go_enter Try.func14, Try.ntmps14
  go_wp2_with fail
  refine wp_region_mk [0, 1, 2, 3, 4, 5] [[6, 7, 8, 9, 10, 11, 12], [6, 7, 8, 10, 9, 11, 12]] 7 _ (by kernel_rfl) (by kernel_rfl) rfl (by kernel_rfl) ?_
  simp only [List.filterMap_cons, List.filterMap_nil, List.getElem?_cons_zero, List.getElem?_cons_succ]
  repeat (first | go_big_quiet_step (fail) | quiet_step (fail))
  refine wpQuiet_nil ?_
  intro x5 hx5
  clear f0 f1 f2 n0
  refine treeC_call 6 (by kernel_rfl) rfl (run_fn 23 #[.tmp 14, .tmp 15] _ rfl (fun _ _ => rfl) (vs := #[.int .i64 W, .int .i64 H]) (by kernel_rfl)) (G := fun v x' => v = .int .i64 N ∧ x' = x5) ((HD.out x5).mono fun e x' h => ⟨_, h.1, rfl, h.2⟩) ?_
  rintro vq z6 ⟨rfl, hz6⟩
  obtain rfl := hz6.symm
  refine ⟨hx5, ?_⟩
  refine treeC_run 7 (by kernel_rfl) rfl (v := .int .i64 K) (x' := x5) (run_sub1 (by kernel_rfl) rfl hKr hwK) hx5 ?_
  have hC5 := HC.out x5 (HO.out.2.1.trans hx5)
  refine treeC_call8 8 (by kernel_rfl) rfl (by kernel_rfl) (run_fn 9 #[.tmp 10, .tmp 11, .tmp 12, .tmp 13, .tmp 17] _ rfl (fun _ _ => rfl) (vs := #[.agg #[.int .i64 pw, .int .i64 ph, .slice ad n c], .int .i64 bd, .int .i64 W, .int .i64 H, .int .i64 K]) (by kernel_rfl)) (G := fun v x' => ∃ a b ad' m cc E, v = .tuple #[.agg #[.int .i64 a, .int .i64 b, .slice ad' m cc], .int .i64 E] ∧ Pans x5 x' E0 pc pd V a b ad' m cc E) (hC5.mono fun e x' ⟨a, b, ad', m, cc, E, h1, h2⟩ => ⟨_, h1, a, b, ad', m, cc, E, rfl, h2⟩) ?_
  rintro vq w3 ⟨a, b, ad', m, cc, E, rfl, hP⟩
  have q23 := hx5.qb.trans hP.q
  have HW : Hid (Pans w (put3 w3 w1.heap.size (.int .i64 a) (.int .i64 b) (.slice ad' m cc)) E0 pc pd V a b ad' m cc E) := hP.box (HO.out.2.1.trans hx5).qb (by have := HO.out.2.2.1; omega) (by have := HO.out.2.2.2; have := hx5.1.size; omega) _ _ _
  obtain ⟨o0, o1, o2, fo⟩ : w3.cell? ⟨w1.heap.size, 0, none⟩ = some (.int .i64 0) ∧ w3.cell? ⟨w1.heap.size, 1, none⟩ = some (.int .i64 0) ∧ w3.cell? ⟨w1.heap.size, 2, none⟩ = some (.slice none 0 0) ∧ ∀ j, w3.frozen? ⟨w1.heap.size, j, none⟩ = false := ⟨q23.cell HO.out.1.1, q23.cell HO.out.1.2.1, q23.cell HO.out.1.2.2.1, fun j => by rw [q23.frozen (p := ⟨w1.heap.size, j, none⟩) HO.out.2.2.2]; exact HO.out.1.2.2.2 j⟩
  have fo0 := fo 0
  have fo1 := fo 1
  have fo2 := fo 2
  have v0 := put3_c0 (v0 := .int .i64 a) (v1 := .int .i64 b) (v2 := .slice ad' m cc) o0
  have v1 := put3_c1 (v0 := .int .i64 a) (v1 := .int .i64 b) (v2 := .slice ad' m cc) o1
  have v2 := put3_c2 (v0 := .int .i64 a) (v1 := .int .i64 b) (v2 := .slice ad' m cc) o2
  obtain ⟨w9, hw9⟩ : ∃ w9, put3 w3 w1.heap.size (.int .i64 a) (.int .i64 b) (.slice ad' m cc) = w9 := ⟨_, rfl⟩
  rw [hw9] at HW v0 v1 v2
  have HW9 : Hid (put3 w3 w1.heap.size (.int .i64 a) (.int .i64 b) (.slice ad' m cc) = w9) := hw9
  clear q23 hP fo hw9 hC5
  refine tree2 9 10 (by kernel_rfl) rfl rfl (does_value (v := .agg #[.int .i64 a, .int .i64 b, .slice ad' m cc]) (x' := w3) (run_ext0 (b := .int .i64 E) (by kernel_rfl)) ⟨fun e => absurd e (by decide), ?_⟩) (does_value (v := .int .i64 E) (x' := w3) (run_ext1 (a := .agg #[.int .i64 a, .int .i64 b, .slice ad' m cc]) (by kernel_rfl)) ⟨fun e => absurd e (by decide), ?_⟩)
  · refine tree_runF 10 (by kernel_rfl) rfl (by kernel_rfl) (v := .int .i64 E) (x' := w3) (run_ext1 (a := .agg #[.int .i64 a, .int .i64 b, .slice ad' m cc]) (by kernel_rfl)) ?_
    refine tree_skipF 11 (by kernel_rfl) rfl (by kernel_rfl) (x' := w9) (run_st3 (b := w1.heap.size) (by kernel_rfl) (by kernel_rfl) o0 o1 o2 fo0 fo1 fo2 HW9.out) ?_
    refine tree_runF 12 (by kernel_rfl) rfl (by kernel_rfl) (v := .int .i64 E) (x' := w9) (run_asg (by kernel_rfl)) ?_
    refine tree_nil ?_
    go_wp2_with fail
    exact bodyPost_ret (v := .tuple #[.agg #[.int .i64 a, .int .i64 b, .slice ad' m cc], .int .i64 E]) (by simp [results, Try.results14, go_sem, v0, v1, v2]) rfl ⟨_, _, _, _, _, _, rfl, HW.out⟩
  · refine tree_runF 9 (by kernel_rfl) rfl (by kernel_rfl) (v := .agg #[.int .i64 a, .int .i64 b, .slice ad' m cc]) (x' := w3) (run_ext0 (b := .int .i64 E) (by kernel_rfl)) ?_
    refine tree_skipF 11 (by kernel_rfl) rfl (by kernel_rfl) (x' := w9) (run_st3 (b := w1.heap.size) (by kernel_rfl) (by kernel_rfl) o0 o1 o2 fo0 fo1 fo2 HW9.out) ?_
    refine tree_runF 12 (by kernel_rfl) rfl (by kernel_rfl) (v := .int .i64 E) (x' := w9) (run_asg (by kernel_rfl)) ?_
    refine tree_nil ?_
    go_wp2_with fail
    exact bodyPost_ret (v := .tuple #[.agg #[.int .i64 a, .int .i64 b, .slice ad' m cc], .int .i64 E]) (by simp [results, Try.results14, go_sem, v0, v1, v2]) rfl ⟨_, _, _, _, _, _, rfl, HW.out⟩
end Go.Proofs.Ytikhmlcmmabapaa
/- rank: At. -/
namespace Go.Proofs.Ytikhmlcmmabapaa
open Go.RowKit
set_option linter.unusedVariables false
set_option linter.unusedSimpArgs false

/-- Is a place one of a plane's? -/
def plcB (x y pw ph : Int) : Bool := decide (0 ≤ x) && decide (x < pw) && decide (0 ≤ y) && decide (y < ph)
def atE (pw ph : Int) (n : Nat) (bd W H k x y : Int) : Int := if rkE pw ph n bd W H k = 0 then (if plcB x y pw ph = true then 0 else 52) else rkE pw ph n bd W H k
/-- What At tells. -/
def atW (S : List Nat) (pw ph : Int) (n : Nat) (bd W H k x y : Int) : Nat := if atE pw ph n bd W H k x y = 0 then rnkV S pw.toNat ph.toNat bd.toNat W.toNat H.toNat k.toNat x.toNat y.toNat else 0
set_option maxHeartbeats 8000000 in
set_option maxRecDepth 100000 in
theorem at12_any (pw ph : Int) (ad : Option Addr) (n c : Nat) (S : List Nat) (bd W H k x y : Int) (w : World) (hU : USl w (.slice ad n c) S) (hS : S.length = n) (hSb : ∀ i, S.getD i 0 < 4294967296) (hn : n ≤ 9223372036854775807) :
    Calls Try.prog 17 #[.agg #[.int .i64 pw, .int .i64 ph, .slice ad n c], .int .i64 bd, .int .i64 W, .int .i64 H, .int .i64 k, .int .i64 x, .int .i64 y] w fun e w' => e = .returned (.tuple #[.int .u32 ((atW S pw ph n bd W H k x y : Nat) : Int), .int .i64 (atE pw ph n bd W H k x y)]) ∧ Qb w w' := by
  obtain ⟨w1, hw1⟩ : ∃ w1, w.alloc (.cells #[.int .i64 pw, .int .i64 ph, .slice ad n c] 24) = w1 := ⟨_, rfl⟩
  have q1 : Q w w1 := by rw [← hw1]; exact (Q.refl w).cells _ _
  have p0 : w1.cell? ⟨w.heap.size, 0, none⟩ = some (.int .i64 pw) := by rw [← hw1]; simp [go_sem]
  have p1 : w1.cell? ⟨w.heap.size, 1, none⟩ = some (.int .i64 ph) := by rw [← hw1]; simp [go_sem]
  have p2 : w1.cell? ⟨w.heap.size, 2, none⟩ = some (.slice ad n c) := by rw [← hw1]; simp [go_sem]
  have HQ : Hid (Q w w1) := q1
  have HR : Hid _ := refusal12_any pw ph ad n c bd W H k hn w1
  clear q1
  by_cases hE : rkE pw ph n bd W H k = 0
  · obtain ⟨pa, pb, b, wa, ha, kk, rfl, rfl, rfl, rfl, rfl, rfl, hsz, hnn, hb, a1, a2, b1, b2, hkk⟩ := rkE_ok hE
    obtain ⟨gs, os, cs, hv, hcs, hUI⟩ := hU.some (by rw [hS, hnn]; exact hsz.pos)
    rw [hS] at hv hcs
    injection hv with hv1 _ hv2
    subst hv1 hv2
    rw [hE] at HR
    by_cases hI : plcB x y pa pb = true
    · have hpe : atE pa pb n b wa ha kk x y = 0 := by unfold atE; rw [if_pos hE, if_pos hI]
      have hpw : atW S pa pb n b wa ha kk x y = rnkV S pa pb b wa ha kk x.toNat y.toNat := by unfold atW; rw [if_pos hpe]; simp only [Int.toNat_natCast]
      rw [hpe, hpw]
      unfold plcB at hI
      simp only [Bool.and_eq_true, decide_eq_true_eq] at hI
      obtain ⟨xa, rfl⟩ : ∃ xa : Nat, x = (xa : Int) := ⟨x.toNat, by omega⟩
      obtain ⟨ya, rfl⟩ : ∃ ya : Nat, y = (ya : Int) := ⟨y.toNat, by omega⟩
      simp only [Int.toNat_natCast]
      have HG : Hid (∀ x, Q w x → ∃ u : Int, Calls Try.prog 25 #[.agg #[.int .i64 (pa : Int), .int .i64 (pb : Int), .slice (some ⟨gs, os, none⟩) n c], .int .i64 (xa : Int), .int .i64 (ya : Int)] x fun e w' => e = .returned (.tuple #[.int .u32 u, .int .i64 0]) ∧ Q x w') := fun x q => by
        have := get_in hsz (hS.trans hnn) gs os c (xa : Int) (ya : Int) xa ya rfl rfl (by omega) (by omega) x (hUI.next q)
        rw [hS] at this
        exact ⟨_, this⟩
      have HP : Hid _ := fun x (q : Q w x) => rpiece_any b pa pb wa ha kk xa ya 1 1 gs os n c S x hb hsz hnn hS (hUI.next q) hcs hSb a1 a2 b1 b2 hkk (by omega) (by omega) (Nat.le_refl 1) (Nat.le_refl 1)
      have hx2 : xa ≤ 1024 := by have := hsz.a2; omega
      have hy2 : ya ≤ 1024 := by have := hsz.b2; omega
      obtain ⟨xe, hxe⟩ : ∃ xe, xa + 1 = xe := ⟨_, rfl⟩
      obtain ⟨ye, hye⟩ : ∃ ye, ya + 1 = ye := ⟨_, rfl⟩
      have exe : (xa : Int) + 1 = (xe : Int) := by omega
      have eye : (ya : Int) + 1 = (ye : Int) := by omega
      simp only [hxe, hye] at HP
      clear hE hI hpe hpw hxe hye hUI hnn hsz hb a1 a2 b1 b2 hkk hcs hU hS hSb
      go_enter Try.func17, Try.ntmps17
      go_wp2_with fail
      refine Calls.mono HR.out ?_
      rintro e w3 ⟨rfl, q3⟩
      have p0 := q3.cell p0
      have p1 := q3.cell p1
      have p2 := q3.cell p2
      have HQ3 : Hid (Q w w3) := HQ.out.trans q3
      clear q3
      go_wp2_with fail
      obtain ⟨u, hG⟩ := HG.out _ HQ3.out
      refine Calls.mono hG ?_
      rintro e w4 ⟨rfl, q4⟩
      have p0 := q4.cell p0
      have p1 := q4.cell p1
      have p2 := q4.cell p2
      have HQ4 : Hid (Q w w4) := HQ3.out.trans q4
      clear q4 hG
      go_wp2_with fail
      refine Calls.mono (HP.out _ HQ4.out) ?_
      rintro e w5 ⟨g, rfl, hVR, hg1, hg2, q5⟩
      have hc := hVR.cell 0 (by decide)
      have HQ5 : Hid (Qb w w5) := HQ4.out.qb.trans q5
      have e0 : rnkV S pa pb b wa ha kk (xa + 0 % 1) (ya + 0 / 1) = rnkV S pa pb b wa ha kk xa ya := rfl
      simp only [e0] at hc
      obtain ⟨z, hz⟩ : ∃ z, rnkV S pa pb b wa ha kk xa ya = z := ⟨_, rfl⟩
      rw [hz] at hc
      have HZ : Hid (rnkV S pa pb b wa ha kk xa ya = z) := hz
      obtain ⟨w6, hw6⟩ : ∃ w6, w5.alloc (.cells #[.int .i64 1, .int .i64 1, .slice (some ⟨g, 0, none⟩) 1 1] 24) = w6 := ⟨_, rfl⟩
      have q6 : Qb w5 w6 := by rw [← hw6]; exact (Qb.refl w5).alloc _
      have hc6 := q6.cell hc
      have h62 : w6.cell? ⟨w5.heap.size, 2, none⟩ = some (.slice (some ⟨g, 0, none⟩) 1 1) := by rw [← hw6]; simp [go_sem]
      have HQ6 : Hid (Qb w w6) := HQ5.out.trans q6
      clear hVR hg1 hg2 q5 e0 hz q6 hc
      go_wp2_with fail
      go_ret2
      exact ⟨by rw [HZ.out]; rfl, HQ6.out⟩
    · have hpe : atE pa pb n b wa ha kk x y = 52 := by unfold atE; rw [if_pos hE, if_neg hI]
      have hpw : atW S pa pb n b wa ha kk x y = 0 := by unfold atW; rw [if_neg (by rw [hpe]; decide)]
      rw [hpe, hpw]
      have hout : x < 0 ∨ (pa : Int) ≤ x ∨ y < 0 ∨ (pb : Int) ≤ y := by
        unfold plcB at hI
        simp only [Bool.and_eq_true, decide_eq_true_eq] at hI
        omega
      have HG : Hid (∀ z, Q w z → Calls Try.prog 25 #[.agg #[.int .i64 (pa : Int), .int .i64 (pb : Int), .slice (some ⟨gs, os, none⟩) n c], .int .i64 x, .int .i64 y] z fun e w' => e = .returned (.tuple #[.int .u32 0, .int .i64 52]) ∧ Q z w') := fun z q => by
        have := get_out hsz (hS.trans hnn) gs os c x y hout z
        rw [hS] at this
        exact this
      clear hE hI hpe hpw hUI hnn hsz hb a1 a2 b1 b2 hkk hcs hU hS hSb hout
      go_enter Try.func17, Try.ntmps17
      go_wp2_with fail
      refine Calls.mono HR.out ?_
      rintro e w3 ⟨rfl, q3⟩
      have p0 := q3.cell p0
      have p1 := q3.cell p1
      have p2 := q3.cell p2
      have HQ3 : Hid (Q w w3) := HQ.out.trans q3
      clear q3
      go_wp2_with fail
      refine Calls.mono (HG.out _ HQ3.out) ?_
      rintro e w4 ⟨rfl, q4⟩
      have HQ4 : Hid (Q w w4) := HQ3.out.trans q4
      clear q4
      go_wp2_with fail
      go_ret2
      exact ⟨rfl, HQ4.out.qb⟩
  · have hpe : atE pw ph n bd W H k x y = rkE pw ph n bd W H k := by unfold atE; rw [if_neg hE]
    have hpw : atW S pw ph n bd W H k x y = 0 := by unfold atW; rw [if_neg (by rw [hpe]; exact hE)]
    rw [hpe, hpw]
    obtain ⟨E, hEe⟩ : ∃ E, rkE pw ph n bd W H k = E := ⟨_, rfl⟩
    rw [hEe] at HR hE
    rw [hEe]
    have hEb : (E == 0) = false := by simp [hE]
    clear hpe hpw hEe hE hU hS hSb
    go_enter Try.func17, Try.ntmps17
    go_wp2_with fail
    refine Calls.mono HR.out ?_
    rintro e w3 ⟨rfl, q3⟩
    have HQ3 : Hid (Q w w3) := HQ.out.trans q3
    clear q3
    go_wp2_with fail
    go_ret2
    exact ⟨rfl, HQ3.out.qb⟩
end Go.Proofs.Ytikhmlcmmabapaa
/- Ranks reckoned; the chapter's examples. -/
namespace Go.Proofs.Ytikhmlcmmabapaa
open Go.RowKit
set_option linter.unusedVariables false

def insK (a : Nat) : List Nat → List Nat
  | [] => [a]
  | b :: l => if keyN a ≤ keyN b then a :: b :: l else b :: insK a l
def isortK : List Nat → List Nat
  | [] => []
  | a :: l => insK a (isortK l)
theorem insK_perm (a : Nat) : ∀ l : List Nat, (insK a l).Perm (a :: l)
  | [] => List.Perm.refl _
  | b :: l => by
    unfold insK
    split
    · exact List.Perm.refl _
    · exact ((insK_perm a l).cons b).trans (List.Perm.swap a b l)
theorem insK_sorted (a : Nat) : ∀ l : List Nat, l.Pairwise (fun x y => leK x y = true) → (insK a l).Pairwise (fun x y => leK x y = true)
  | [], _ => by unfold insK; simp
  | b :: l, h => by
    rw [List.pairwise_cons] at h
    unfold insK
    split
    · rename_i hab
      rw [List.pairwise_cons, List.pairwise_cons]
      refine ⟨fun c hc => ?_, h⟩
      rcases List.mem_cons.1 hc with rfl | hc
      · unfold leK; simpa using hab
      · exact leK_trans a b c (by unfold leK; simpa using hab) (h.1 c hc)
    · rename_i hab
      rw [List.pairwise_cons]
      refine ⟨fun c hc => ?_, insK_sorted a l h.2⟩
      rcases List.mem_cons.1 ((insK_perm a l).mem_iff.1 hc) with rfl | hc
      · unfold leK; simp only [decide_eq_true_eq]; omega
      · exact h.1 c hc
theorem isortK_perm : ∀ l : List Nat, (isortK l).Perm l
  | [] => List.Perm.refl _
  | a :: l => (insK_perm a (isortK l)).trans ((isortK_perm l).cons a)
theorem isortK_sorted : ∀ l : List Nat, (isortK l).Pairwise (fun x y => leK x y = true)
  | [] => List.Pairwise.nil
  | a :: l => insK_sorted a _ (isortK_sorted l)
theorem rkL_isort {L : List Nat} (h : ∀ x ∈ L, x < 4294967296) : rkL L = isortK L := (sorted_eq (isortK_perm L) (isortK_sorted L) h).symm
theorem rnkV_isort {S : List Nat} (hb : ∀ i, S.getD i 0 < 4294967296) (pa pb bd w h k x y : Nat) : rnkV S pa pb bd w h k x y = (isortK (winL S pa pb bd w h x y)).getD k 0 := by
  unfold rnkV rkV
  rw [rkL_isort (winL_lt hb _ _ _ _ _ _ _)]
/-- The chapter's row. -/
def exS : List Nat := [1065353216, 2147483648, 2143289345, 1073741824, 0]
theorem exS_lt : ∀ i, exS.getD i 0 < 4294967296 := fun i => by
  rcases Nat.lt_or_ge i 5 with h | h
  · have : i = 0 ∨ i = 1 ∨ i = 2 ∨ i = 3 ∨ i = 4 := by omega
    rcases this with rfl | rfl | rfl | rfl | rfl <;> decide
  · rw [List.getD_eq_getElem?_getD, List.getElem?_eq_none (by simpa [exS] using h)]; decide
def fiveL (V : Nat → Nat) (l : List Nat) : Prop := ∀ i, i < 5 → V i = l.getD i 0
theorem five_of {V : Nat → Nat} {l : List Nat} (h0 : V 0 = l.getD 0 0) (h1 : V 1 = l.getD 1 0) (h2 : V 2 = l.getD 2 0) (h3 : V 3 = l.getD 3 0) (h4 : V 4 = l.getD 4 0) : fiveL V l := fun i hi => by
  have : i = 0 ∨ i = 1 ∨ i = 2 ∨ i = 3 ∨ i = 4 := by omega
  rcases this with rfl | rfl | rfl | rfl | rfl <;> assumption
theorem ex_med : fiveL (fun i => rnkV exS 5 1 1 3 1 1 (i % 5) (i / 5)) [1065353216, 1065353216, 1073741824, 1073741824, 0] := by
  refine five_of ?_ ?_ ?_ ?_ ?_ <;> (show rnkV exS 5 1 1 3 1 1 _ _ = _) <;> rw [rnkV_isort exS_lt] <;> decide
theorem ex_ero : fiveL (fun i => rnkV exS 5 1 1 3 1 0 (i % 5) (i / 5)) [2147483648, 2147483648, 2147483648, 0, 0] := by
  refine five_of ?_ ?_ ?_ ?_ ?_ <;> (show rnkV exS 5 1 1 3 1 0 _ _ = _) <;> rw [rnkV_isort exS_lt] <;> decide
theorem ex_dil : fiveL (fun i => rnkV exS 5 1 1 3 1 2 (i % 5) (i / 5)) [1065353216, 2143289345, 2143289345, 2143289345, 1073741824] := by
  refine five_of ?_ ?_ ?_ ?_ ?_ <;> (show rnkV exS 5 1 1 3 1 2 _ _ = _) <;> rw [rnkV_isort exS_lt] <;> decide
theorem ex_two : fiveL (fun i => rnkV exS 5 1 1 2 1 0 (i % 5) (i / 5)) [1065353216, 2147483648, 2147483648, 1073741824, 0] := by
  refine five_of ?_ ?_ ?_ ?_ ?_ <;> (show rnkV exS 5 1 1 2 1 0 _ _ = _) <;> rw [rnkV_isort exS_lt] <;> decide
theorem ex_at : rnkV exS 5 1 1 3 1 1 0 0 = 1065353216 := by rw [rnkV_isort exS_lt]; decide
theorem ex_part : rnkV exS 5 1 1 3 1 1 (1 + 0 % 2) (0 + 0 / 2) = 1065353216 ∧ rnkV exS 5 1 1 3 1 1 (1 + 1 % 2) (0 + 1 / 2) = 1073741824 := by
  constructor <;> rw [rnkV_isort exS_lt] <;> decide
theorem ex_sorted : rkL [1073741824, 2147483648, 4294967295, 0, 1065353216] = [4294967295, 2147483648, 0, 1065353216, 1073741824] := by
  rw [rkL_isort (by decide)]; decide
end Go.Proofs.Ytikhmlcmmabapaa
/- rank: Sorted. -/
namespace Go.Proofs.Ytikhmlcmmabapaa
open Go.RowKit
set_option linter.unusedVariables false
set_option linter.unusedSimpArgs false

theorem but_new {w w' : World} {g : Nat} (h : But g w w') (hg : g < w.heap.size) (hf : ∀ j, w.frozen? ⟨g, j, none⟩ = false) (j : Nat) : w'.frozen? ⟨g, j, none⟩ = false := by rw [h.froz _ hg]; exact hf j
set_option maxHeartbeats 4000000 in
set_option maxRecDepth 100000 in
theorem sorted_any (L : List Nat) (n c : Nat) (ad : Option Addr) (w : World) (hn : L.length = n) (hU : USl w (.slice ad n c) L) (hb : ∀ s ∈ L, s < 4294967296) (hn2 : n ≤ 1000000) :
    Calls Try.prog 20 #[.slice ad n c] w fun e w' => ∃ g, e = .returned (.slice (some ⟨g, 0, none⟩) n n) ∧ UIs w' g 0 (rkL L) ∧ w.heap.size ≤ g ∧ g < w'.heap.size ∧ (∀ j, w'.frozen? ⟨g, j, none⟩ = false) ∧ Qb w w' := by
  obtain ⟨M, hM, hmk⟩ := make_row n (by omega)
  have hmw := hmk w
  obtain ⟨w2, hcp, hF, hlt⟩ := copy_rowL w n ad c L hn hU M hM
  have hgi : goInt n = .int .i64 (n : Int) := rfl
  rw [hgi] at hcp
  obtain ⟨w1, hw1⟩ : ∃ w1, w.alloc (.cells M 38) = w1 := ⟨_, rfl⟩
  have hl1 : w.heap.size < w1.heap.size := by rw [← hw1]; simp
  rw [hw1] at hmw hcp
  have hI : UIs w2 w.heap.size 0 L := fun i hi => by
    rw [Nat.zero_add, hF.done i (by omega)]
    unfold lf
    rw [if_pos hi]
  have C := sortf_any w.heap.size 0 n n L w2 hn hI hF.free hb hlt (by omega)
  have HC : Hid _ := C
  have HK : Hid (Q w w2 ∧ w.heap.size < w2.heap.size ∧ ∀ j, w2.frozen? ⟨w.heap.size, j, none⟩ = false) := ⟨hF.q, hlt, hF.free⟩
  have HD : Hid _ := fun x => bykey_any x
  unfold byK at HC HD
  clear C hI hlt hF hmk hw1 hl1 hM hU hb hn
  go_enter Try.func20, Try.ntmps20
  go_wp2_with fail
  refine Calls.mono (HD.out _) ?_
  rintro e w3 ⟨rfl, hw⟩
  obtain rfl := hw.symm
  go_wp2_with fail
  refine Calls.mono HC.out ?_
  rintro e w3 ⟨rfl, hU, hB⟩
  have HE : Hid (UIs w3 w.heap.size 0 (rkL L) ∧ w.heap.size ≤ w.heap.size ∧ w.heap.size < w3.heap.size ∧ (∀ j, w3.frozen? ⟨w.heap.size, j, none⟩ = false) ∧ Qb w w3) := ⟨hU, Nat.le_refl _, Nat.lt_of_lt_of_le HK.out.2.1 hB.size, but_new hB HK.out.2.1 HK.out.2.2, hB.qb HK.out.1.qb (Nat.le_refl _)⟩
  clear hU hB
  go_wp2_with fail
  go_ret
  exact ⟨_, rfl, HE.out⟩
end Go.Proofs.Ytikhmlcmmabapaa

/- The chapter's examples: known. -/
import Derived.Test.YtgaolakfgjmeiabG9d92eca5
import Derived.Test.YtgaolakfgjmeiabG472513cb
import Derived.Test.YtgaolakfgjmeiabGe2f133e3
import Derived.Test.YtgaolakfgjmeiabGec6c67fb
import Derived.Test.YtgaolakfgjmeiabG45b3ecec
import Derived.Test.YtgaolakfgjmeiabGb9bbfaf8
namespace Go.Proofs.Ytgaolakfgjmeiab
open Go.RowKit
set_option linter.unusedVariables false
set_option linter.unusedSimpArgs false

theorem ex_red : tabB 2 (rdF 4 1 [1065353216, 1073741824, 1082130432, 1090519040]) = [1069023232, 1083310080] := by decide +kernel
theorem ex_exp : tabB 4 (exF 2 1 4 1 [1065353216, 1077936128]) = [1067450368, 1073741824, 1076887552, 1077936128] := by decide +kernel
theorem ex_spc : tabB 1 (rdF 1 1 [4294967295]) = [2143289344] := by decide +kernel
theorem ex_spf : tabB 1 (lkF 1 1 [4294967295]) = [4194304] := by decide +kernel
theorem lit_bdp {xs : List Nat} (h : ∀ x ∈ xs, x < 4294967296) (i : Nat) : xs.getD i 0 < 4294967296 := by
  rw [List.getD_eq_getElem?_getD]
  cases g : xs[i]? with
  | none => show 0 < 4294967296; decide
  | some x => exact h x (List.mem_of_getElem? g)
structure Kb (x : World) (V g n : Nat) (xs : List Nat) : Prop where
  a : x.cell? ⟨V, 0, none⟩ = some (.int .i64 (n : Int))
  b : x.cell? ⟨V, 1, none⟩ = some (.int .i64 1)
  c : x.cell? ⟨V, 2, none⟩ = some (.slice (some ⟨g, 0, none⟩) n n)
  u : UIs x g 0 xs
theorem Kb.nextB {x y : World} {V g n : Nat} {xs : List Nat} (h : Kb x V g n xs) (q : Qb x y) : Kb y V g n xs := ⟨q.cell h.a, q.cell h.b, q.cell h.c, h.u.nextB q⟩
set_option maxHeartbeats 8000000 in
set_option maxRecDepth 100000 in
theorem known14_any (w : World) : Calls Try.prog 5 #[] w fun e w' => e = .returned (.bool true) ∧ Qb w w' := by
  have sz41 : Size 4 1 := ⟨by decide, by decide, by decide, by decide, by decide⟩
  have sz21 : Size 2 1 := ⟨by decide, by decide, by decide, by decide, by decide⟩
  have sz11 : Size 1 1 := ⟨by decide, by decide, by decide, by decide, by decide⟩
  have HC1 : Hid (∀ (W : World) (g : Nat), UIs W g 0 [1065353216, 1073741824, 1082130432, 1090519040] → Calls Try.prog 9 #[.agg #[.int .i64 4, .int .i64 1, .slice (some ⟨g, 0, none⟩) 4 4]] W fun e w' => ∃ g, e = .returned (.tuple #[.agg #[.int .i64 2, .int .i64 1, .slice (some ⟨g, 0, none⟩) 2 2], .int .i64 0]) ∧ UIs w' g 0 [1069023232, 1083310080] ∧ Qb W w') := fun W g hu => (reduce_good 4 1 2 1 2 g 0 4 4 [1065353216, 1073741824, 1082130432, 1090519040] W sz41 rfl rfl rfl rfl rfl (lit_bdp (by decide)) hu (by decide)).mono fun e w' ⟨gt, h1, h2, h3, h4, h5⟩ => ⟨gt, h1, by rw [← ex_red]; exact vr_uis h2, h5⟩
  have HC2 : Hid (∀ (W : World) (g : Nat), UIs W g 0 [1065353216, 1077936128] → Calls Try.prog 10 #[.agg #[.int .i64 2, .int .i64 1, .slice (some ⟨g, 0, none⟩) 2 2], .int .i64 4, .int .i64 1] W fun e w' => ∃ g, e = .returned (.tuple #[.agg #[.int .i64 4, .int .i64 1, .slice (some ⟨g, 0, none⟩) 4 4], .int .i64 0]) ∧ UIs w' g 0 [1067450368, 1073741824, 1076887552, 1077936128] ∧ Qb W w') := fun W g hu => (expand_good 2 1 4 1 4 g 0 2 2 [1065353216, 1077936128] W sz21 rfl sz41 rfl rfl rfl rfl (lit_bdp (by decide)) hu (by decide)).mono fun e w' ⟨gt, h1, h2, h3, h4, h5⟩ => ⟨gt, h1, by rw [← ex_exp]; exact vr_uis h2, h5⟩
  have HC3 : Hid (∀ (W : World) (g : Nat), UIs W g 0 [4294967295] → Calls Try.prog 15 #[.agg #[.int .i64 1, .int .i64 1, .slice (some ⟨g, 0, none⟩) 1 1]] W fun e w' => ∃ gc gl, e = .returned (.tuple #[.agg #[.int .i64 1, .int .i64 1, .slice (some ⟨gc, 0, none⟩) 1 1], .agg #[.int .i64 1, .int .i64 1, .slice (some ⟨gl, 0, none⟩) 1 1], .int .i64 0]) ∧ UIs w' gc 0 [2143289344] ∧ UIs w' gl 0 [4194304] ∧ Qb W w') := fun W g hu => (Split_good 1 1 1 1 1 g 0 1 1 [4294967295] W sz11 rfl rfl rfl rfl rfl (lit_bdp (by decide)) hu (by decide)).mono fun e w' ⟨gc, gl, h1, h2, h3, _, _, _, _, _, h5⟩ => ⟨gc, gl, h1, by rw [← ex_spc]; exact vr_uis h2, by rw [← ex_spf]; exact vr_uis h3, h5⟩
  have HLR : Hid (∀ (W : World) (g n : Nat), Calls Try.prog 14 #[.slice (some ⟨g, 0, none⟩) n n] W fun e w' => e = .returned (.agg #[.int .i64 (n : Int), .int .i64 1, .slice (some ⟨g, 0, none⟩) n n]) ∧ Q W w') := fun W g n => prow_any _ n n W
  clear sz41 sz21 sz11
  go_enter Try.func5, Try.ntmps5
  go_wp2_with fail
  refine (HLR.out _ _ 4).mono ?_
  rintro e w1 ⟨rfl, q1⟩
  have H1 : Hid (UIs w1 w.heap.size 0 [1065353216, 1073741824, 1082130432, 1090519040] ∧ Qb w w1) := ⟨(lit_uis (xs := [1065353216, 1073741824, 1082130432, 1090519040]) rfl).next q1, (((Q.refl w).cells _ _).trans q1).qb⟩
  clear q1
  go_wp2_with fail
  refine (HC1.out w1 _ H1.out.1).mono ?_
  rintro e w2 ⟨g1, rfl, u1, q2⟩
  obtain ⟨w3, hw3⟩ : ∃ w3, w2.alloc (.cells #[.int .i64 2, .int .i64 1, .slice (some ⟨g1, 0, none⟩) 2 2] 24) = w3 := ⟨_, rfl⟩
  have H3 : Hid (Qb w w3 ∧ Kb w3 w2.heap.size g1 2 [1069023232, 1083310080]) := by
    have q23 : Q w2 w3 := by rw [← hw3]; exact (Q.refl w2).cells _ _
    exact ⟨(H1.out.2.trans q2).trans q23.qb, by rw [← hw3]; simp [go_sem], by rw [← hw3]; simp [go_sem], by rw [← hw3]; simp [go_sem], u1.next q23⟩
  clear u1 q2 H1
  go_wp2_with fail
  refine (HLR.out _ _ 2).mono ?_
  rintro e w4 ⟨rfl, q4⟩
  have H4 : Hid (UIs w4 w3.heap.size 0 [1065353216, 1077936128] ∧ Qb w3 w4) := ⟨(lit_uis (xs := [1065353216, 1077936128]) rfl).next q4, (((Q.refl w3).cells _ _).trans q4).qb⟩
  clear q4 hw3
  go_wp2_with fail
  refine (HC2.out w4 _ H4.out.1).mono ?_
  rintro e w5 ⟨g3, rfl, u3, q5⟩
  obtain ⟨w6, hw6⟩ : ∃ w6, w5.alloc (.cells #[.int .i64 4, .int .i64 1, .slice (some ⟨g3, 0, none⟩) 4 4] 24) = w6 := ⟨_, rfl⟩
  have H6 : Hid (Qb w w6 ∧ Kb w6 w2.heap.size g1 2 [1069023232, 1083310080] ∧ Kb w6 w5.heap.size g3 4 [1067450368, 1073741824, 1076887552, 1077936128]) := by
    have q56 : Q w5 w6 := by rw [← hw6]; exact (Q.refl w5).cells _ _
    have q36 := (H4.out.2.trans q5).trans q56.qb
    exact ⟨H3.out.1.trans q36, H3.out.2.nextB q36, by rw [← hw6]; simp [go_sem], by rw [← hw6]; simp [go_sem], by rw [← hw6]; simp [go_sem], u3.next q56⟩
  clear u3 q5 H4 H3
  go_wp2_with fail
  refine (HLR.out _ _ 1).mono ?_
  rintro e w7 ⟨rfl, q7⟩
  have H7 : Hid (UIs w7 w6.heap.size 0 [4294967295] ∧ Qb w6 w7) := ⟨(lit_uis (xs := [4294967295]) rfl).next q7, (((Q.refl w6).cells _ _).trans q7).qb⟩
  clear q7 hw6
  go_wp2_with fail
  refine (HC3.out w7 _ H7.out.1).mono ?_
  rintro e w8 ⟨g5, g6, rfl, u5, u6, q8⟩
  obtain ⟨w9, hw9⟩ : ∃ w9, (w8.alloc (.cells #[.int .i64 1, .int .i64 1, .slice (some ⟨g5, 0, none⟩) 1 1] 24)).alloc (.cells #[.int .i64 1, .int .i64 1, .slice (some ⟨g6, 0, none⟩) 1 1] 24) = w9 := ⟨_, rfl⟩
  have H9 : Hid (Qb w w9 ∧ Kb w9 w2.heap.size g1 2 [1069023232, 1083310080] ∧ Kb w9 w5.heap.size g3 4 [1067450368, 1073741824, 1076887552, 1077936128] ∧ Kb w9 w8.heap.size g5 1 [2143289344] ∧ Kb w9 (w8.heap.size + 1) g6 1 [4194304]) := by
    have q89 : Q w8 w9 := by rw [← hw9]; exact ((Q.refl w8).cells _ _).cells _ _
    have q69 := (H7.out.2.trans q8).trans q89.qb
    exact ⟨H6.out.1.trans q69, H6.out.2.1.nextB q69, H6.out.2.2.nextB q69, ⟨by rw [← hw9]; simp [go_sem], by rw [← hw9]; simp [go_sem], by rw [← hw9]; simp [go_sem], u5.next q89⟩, by rw [← hw9]; simp [go_sem], by rw [← hw9]; simp [go_sem], by rw [← hw9]; simp [go_sem], u6.next q89⟩
  clear u5 u6 q8 H7 H6
  go_wp2_with fail
  have z := H9.out
  refine regionKq rfl rfl (V1 := w2.heap.size) (V3 := w5.heap.size) (V5 := w8.heap.size) (V6 := w8.heap.size + 1) (g1 := g1) (g3 := g3) (g5 := g5) (g6 := g6) ⟨rfl, rfl, rfl, rfl, z.2.1.a, z.2.1.b, z.2.1.c, z.2.1.u, rfl, z.2.2.1.a, z.2.2.1.b, z.2.2.1.c, z.2.2.1.u, rfl, z.2.2.2.1.a, z.2.2.2.1.b, z.2.2.2.1.c, z.2.2.2.1.u, rfl, z.2.2.2.2.a, z.2.2.2.2.b, z.2.2.2.2.c, z.2.2.2.2.u⟩ ?_
  clear z
  intro x v11 v12 v17 v18 v23 v24 v29 v30 qx
  have HX : Hid (Qb w x) := H9.out.1.trans qx.qb
  clear qx hw9
  simp only [putAll]
  go_wp2_with fail
  refine bodyPost_ret (v := .bool true) (by simp [results, Try.results5, go_sem]) rfl ⟨rfl, HX.out⟩
end Go.Proofs.Ytgaolakfgjmeiab
/- pyramid: what weights make of one sample, and of two lines, one nowhere above the other. Plain. -/
namespace Go.Proofs.Ytgaolakfgjmeiab
open Go.RowKit
set_option linter.unusedVariables false
set_option linter.unusedSimpArgs false

/-- The weights' sum is theirs. -/
def Mx.Sm (m : Mx) : Prop := m.sm = smW m.W (m.k + 1)
theorem hlv_sm (n i : Nat) : (hlv n i).Sm := by unfold Mx.Sm; rfl
theorem dbl_sm (n i : Nat) : (dbl n i).Sm := by
  unfold Mx.Sm dbl
  split <;> rfl
theorem mx_key {m : Mx} {n : Nat} (ho : m.Ok n) (hs : m.Sm) {S : Nat → Nat} (hS : ∀ i, i < n → rung32 (S i) < 2139095040) : ∃ k : Nat, 1 ≤ k ∧ (k : Int) = m.sm ∧ srung32 (m.val S) = RS (qsv k (racc m.W (fun t => S (m.fr t)) m.k)) ∧ nanN (m.val S) = false := by
  obtain ⟨j, hj⟩ : ∃ j : Nat, j = 1230 := ⟨_, rfl⟩
  have hk := ho.k14
  obtain ⟨w1, w2⟩ := wac_wb (W := m.W) (S := fun t => S (m.fr t)) hj m.k hk (fun i hi => ⟨hS _ (ho.f i (by omega)), ho.w i (by omega)⟩)
  obtain ⟨k, hk2⟩ : ∃ k : Nat, m.sm = (k : Int) := ⟨m.sm.toNat, by have := ho.s; omega⟩
  have hsm := ho.s
  rw [hk2] at hsm
  have := nar_quo w1 (k := k) (by omega) (by omega) w2 (by omega)
  refine ⟨k, by omega, hk2.symm, ?_, ?_⟩
  · unfold Mx.val wghV
    rw [hk2]
    exact this.1
  · unfold Mx.val wghV
    rw [hk2]
    exact this.2
theorem mx_rises {m : Mx} {n : Nat} (ho : m.Ok n) (hs : m.Sm) {S T : Nat → Nat} (hS : ∀ i, i < n → rung32 (S i) < 2139095040) (hT : ∀ i, i < n → rung32 (T i) < 2139095040) (hle : ∀ i, i < n → srung32 (S i) ≤ srung32 (T i)) : srung32 (m.val S) ≤ srung32 (m.val T) := by
  obtain ⟨k, k1, k2, k3, _⟩ := mx_key ho hs hS
  obtain ⟨l, l1, l2, l3, _⟩ := mx_key ho hs hT
  have e : l = k := by omega
  subst e
  rw [k3, l3]
  exact RS_mono (qsv_mono k1 (racc_mono _ (fun i hi => ⟨(ho.w i (by omega)).1, hle _ (ho.f i (by omega))⟩)))
theorem w5_four : ∀ x ∈ [0, 2147483648, 2139095040, 4286578688], wghV 4 w5 16 (fun _ => x) = x := by decide +kernel
theorem w3_four : ∀ x ∈ [0, 2147483648, 2139095040, 4286578688], wghV 2 w3 8 (fun _ => x) = x := by decide +kernel
theorem w2_four : ∀ x ∈ [0, 2147483648, 2139095040, 4286578688], wghV 1 w2 2 (fun _ => x) = x := by decide +kernel
/-- One of the three. -/
def Mx.Of (m : Mx) : Prop := (m.k = 4 ∧ m.W = w5 ∧ m.sm = 16) ∨ (m.k = 2 ∧ m.W = w3 ∧ m.sm = 8) ∨ (m.k = 1 ∧ m.W = w2 ∧ m.sm = 2)
theorem hlv_of (n i : Nat) : (hlv n i).Of := Or.inl ⟨rfl, rfl, rfl⟩
theorem dbl_of (n i : Nat) : (dbl n i).Of := by
  unfold dbl
  split
  · exact Or.inr (Or.inl ⟨rfl, rfl, rfl⟩)
  · exact Or.inr (Or.inr ⟨rfl, rfl, rfl⟩)
theorem mx_const {m : Mx} {n : Nat} (ho : m.Ok n) (hs : m.Sm) (hm : m.Of) {S : Nat → Nat} {x : Nat} (hx : rung32 x ≤ 2139095040) (hx4 : x < 4294967296) (hS : ∀ i, i < n → S i = x) : m.val S = x := by
  rw [m.val_congr ho (T := fun _ => x) hS]
  by_cases hz : srung32 x = 0 ∨ rung32 x = 2139095040
  · have hmem : x ∈ [0, 2147483648, 2139095040, 4286578688] := by
      simp only [List.mem_cons, List.not_mem_nil, or_false]
      unfold srung32 rung32 at hz
      unfold rung32 at hx
      rcases hz with h | h
      · split at h <;> omega
      · omega
    unfold Mx.val
    rcases hm with ⟨a, b, c⟩ | ⟨a, b, c⟩ | ⟨a, b, c⟩
    · rw [a, b, c]; exact w5_four x hmem
    · rw [a, b, c]; exact w3_four x hmem
    · rw [a, b, c]; exact w2_four x hmem
  · have hf : rung32 x < 2139095040 := by omega
    obtain ⟨k, k1, k2, k3, _⟩ := mx_key ho hs (S := fun _ => x) (fun _ _ => hf)
    rw [racc_const hf m.k ho.k14 (fun i hi => ho.w i (by omega)), ← hs, ← k2, qsv_exact hf k1, RS_self hf] at k3
    exact word_of_srung (Mx.val_lt _ _) hx4 k3 (by omega)
theorem mx_between {m : Mx} {n : Nat} (ho : m.Ok n) (hs : m.Sm) (hm : m.Of) {S : Nat → Nat} {lo hi : Nat} (hlo : rung32 lo < 2139095040 ∧ lo < 4294967296) (hhi : rung32 hi < 2139095040 ∧ hi < 4294967296) (hS : ∀ i, i < n → rung32 (S i) < 2139095040 ∧ srung32 lo ≤ srung32 (S i) ∧ srung32 (S i) ≤ srung32 hi) : rung32 (m.val S) < 2139095040 ∧ srung32 lo ≤ srung32 (m.val S) ∧ srung32 (m.val S) ≤ srung32 hi := by
  have cl := mx_const ho hs hm (S := fun _ => lo) (x := lo) (by omega) hlo.2 (fun _ _ => rfl)
  have ch := mx_const ho hs hm (S := fun _ => hi) (x := hi) (by omega) hhi.2 (fun _ _ => rfl)
  have r1 := mx_rises ho hs (S := fun _ => lo) (T := S) (fun _ _ => hlo.1) (fun i h => (hS i h).1) (fun i h => (hS i h).2.1)
  have r2 := mx_rises ho hs (S := S) (T := fun _ => hi) (fun i h => (hS i h).1) (fun _ _ => hhi.1) (fun i h => (hS i h).2.2)
  rw [cl] at r1
  rw [ch] at r2
  have f1 := fin_srung hlo.1
  have f2 := fin_srung hhi.1
  exact ⟨fin_of_srungb ⟨by omega, by omega⟩, r1, r2⟩
/-- A relation of samples that mixtures of lines of n keep. -/
def Keeps (R : Nat → Nat → Prop) (L : Nat → Mx) (n : Nat) : Prop := ∀ i S T, (∀ t, t < n → R (S t) (T t)) → R ((L i).val S) ((L i).val T)
theorem acr_rel {R : Nat → Nat → Prop} {L : Nat → Mx} {nr pa pb : Nat} {S T : List Nat} (hR : Keeps R L pa) (hr : 0 < nr) (h : ∀ i, i < pa * pb → R (S.getD i 0) (T.getD i 0)) {j : Nat} (hj : j < nr * pb) : R (acrF L nr pa S j) (acrF L nr pa T j) := by
  unfold acrF
  refine hR _ _ _ (fun t ht => h _ ?_)
  exact place_lt ht ((row_lt hj).2.2)
theorem dwn_rel {R : Nat → Nat → Prop} {L : Nat → Mx} {pa pb nc : Nat} {S T : List Nat} (hR : Keeps R L pb) (h : ∀ i, i < pa * pb → R (S.getD i 0) (T.getD i 0)) {j : Nat} (hj : j < pa * nc) : R (dwnF L pa S j) (dwnF L pa T j) := by
  unfold dwnF
  refine hR _ _ _ (fun t ht => h _ ?_)
  exact place_lt ((row_lt hj).2.1) ht
theorem rd_rel {R : Nat → Nat → Prop} {pa pb : Nat} {S T : List Nat} (hsz : Size pa pb) (h1 : Keeps R (hlv pa) pa) (h2 : Keeps R (hlv pb) pb) (h : ∀ i, i < pa * pb → R (S.getD i 0) (T.getD i 0)) {j : Nat} (hj : j < (pa + 1) / 2 * ((pb + 1) / 2)) : R (rdF pa pb S j) (rdF pa pb T j) := by
  unfold rdF
  refine dwn_rel (nc := (pb + 1) / 2) (pb := pb) h2 (fun i hi => ?_) hj
  rw [tabB_at hi, tabB_at hi]
  exact acr_rel h1 (by have := hsz.a1; omega) h hi
theorem ex_rel {R : Nat → Nat → Prop} {pa pb a b : Nat} {S T : List Nat} (ha : 0 < a) (h1 : Keeps R (dbl pa) pa) (h2 : Keeps R (dbl pb) pb) (h : ∀ i, i < pa * pb → R (S.getD i 0) (T.getD i 0)) {j : Nat} (hj : j < a * b) : R (exF pa pb a b S j) (exF pa pb a b T j) := by
  unfold exF
  refine dwn_rel (nc := b) (pb := pb) h2 (fun i hi => ?_) hj
  rw [tabB_at hi, tabB_at hi]
  exact acr_rel h1 ha h hi
/-- One sample stays. -/
theorem keeps_const {x n : Nat} (hx : rung32 x ≤ 2139095040) (hx4 : x < 4294967296) {L : Nat → Mx} (ho : ∀ i, (L i).Ok n) (hs : ∀ i, (L i).Sm) (hm : ∀ i, (L i).Of) : Keeps (fun a b => a = x) L n := fun i S T h => mx_const (ho i) (hs i) (hm i) hx hx4 h
theorem rd_const {pa pb x : Nat} {S : List Nat} (hsz : Size pa pb) (hx : rung32 x ≤ 2139095040) (hx4 : x < 4294967296) (h : ∀ i, i < pa * pb → S.getD i 0 = x) {j : Nat} (hj : j < (pa + 1) / 2 * ((pb + 1) / 2)) : rdF pa pb S j = x :=
  rd_rel (R := fun a b => a = x) (T := S) hsz (keeps_const hx hx4 (hlv_ok hsz.a1) (hlv_sm pa) (hlv_of pa)) (keeps_const hx hx4 (hlv_ok hsz.b1) (hlv_sm pb) (hlv_of pb)) h hj
theorem ex_const {pa pb a b x : Nat} {S : List Nat} (hsz : Size pa pb) (ha : 0 < a) (hx : rung32 x ≤ 2139095040) (hx4 : x < 4294967296) (h : ∀ i, i < pa * pb → S.getD i 0 = x) {j : Nat} (hj : j < a * b) : exF pa pb a b S j = x :=
  ex_rel (R := fun a b => a = x) (T := S) ha (keeps_const hx hx4 (dbl_ok hsz.a1) (dbl_sm pa) (dbl_of pa)) (keeps_const hx hx4 (dbl_ok hsz.b1) (dbl_sm pb) (dbl_of pb)) h hj
theorem lk_const {pa pb x : Nat} {S : List Nat} (hsz : Size pa pb) (hx : rung32 x ≤ 2139095040) (hx4 : x < 4294967296) (h : ∀ i, i < pa * pb → S.getD i 0 = x) {j : Nat} (hj : j < pa * pb) : lkF pa pb S j = 0 := by
  unfold lkF gsF
  rw [h j hj, ex_const hsz.half (by have := hsz.a1; omega) hx hx4 (fun i hi => by rw [tabB_at hi]; exact rd_const hsz hx hx4 h hi) hj]
  unfold subN
  have := keyN_lt hx4
  omega
end Go.Proofs.Ytgaolakfgjmeiab
/- The statements' helpers: sizes, planes that may be. (Out of BlL.) -/
namespace Go.Proofs.Ytgaolakfgjmeiab
open Go.RowKit
set_option linter.unusedVariables false
set_option linter.unusedSimpArgs false

set_option maxHeartbeats 2000000 in
set_option maxRecDepth 100000 in
theorem hsize_b (W H : Int) (w : World) : Calls Try.prog 17 #[.int .i64 W, .int .i64 H] w fun e w' => e = .returned (.bool (sizeB W H)) ∧ w' = w := by
  have E : Hid (sizeB W H = true ↔ SizeB W H) := sizeB_true
  have EF : Hid (¬ SizeB W H → sizeB W H = false) := fun h => by
    cases g : sizeB W H
    · rfl
    · exact absurd (sizeB_true.1 g) h
  generalize sizeB W H = b at *
  rcases Int.lt_or_le W 1 with h0 | h0
  · obtain rfl : b = false := EF.out (fun c => by unfold SizeB at c; omega)
    clear E EF
    go_enter Try.func17, Try.ntmps17
    go_wp2_with fail
    exact bodyPost_ret (v := .bool false) (by simp [results, Try.results17, go_sem] <;> omega) rfl ⟨rfl, rfl⟩
  rcases Int.lt_or_le H 1 with h1 | h1
  · obtain rfl : b = false := EF.out (fun c => by unfold SizeB at c; omega)
    clear E EF
    go_enter Try.func17, Try.ntmps17
    go_wp2_with fail
    exact bodyPost_ret (v := .bool false) (by simp [results, Try.results17, go_sem] <;> omega) rfl ⟨rfl, rfl⟩
  rcases Int.lt_or_le 1024 W with h2 | h2
  · obtain rfl : b = false := EF.out (fun c => by unfold SizeB at c; omega)
    clear E EF
    go_enter Try.func17, Try.ntmps17
    go_wp2_with fail
    exact bodyPost_ret (v := .bool false) (by simp [results, Try.results17, go_sem] <;> omega) rfl ⟨rfl, rfl⟩
  rcases Int.lt_or_le 1024 H with h3 | h3
  · obtain rfl : b = false := EF.out (fun c => by unfold SizeB at c; omega)
    clear E EF
    go_enter Try.func17, Try.ntmps17
    go_wp2_with fail
    exact bodyPost_ret (v := .bool false) (by simp [results, Try.results17, go_sem] <;> omega) rfl ⟨rfl, rfl⟩
  have hb1 : 0 ≤ W * H := Int.mul_nonneg (by omega) (by omega)
  have hb2 : W * H ≤ 1048576 := Int.le_trans (Int.mul_le_mul h2 h3 (by omega) (by omega)) (by decide)
  rcases Int.lt_or_le 65536 (W * H) with h4 | h4
  · obtain rfl : b = false := EF.out (fun c => by unfold SizeB at c; omega)
    clear E EF
    go_enter Try.func17, Try.ntmps17
    go_wp2_with fail
    exact bodyPost_ret (v := .bool false) (by simp [results, Try.results17, go_sem] <;> omega) rfl ⟨rfl, rfl⟩
  · obtain rfl : b = true := E.out.2 (by unfold SizeB; omega)
    clear E EF
    go_enter Try.func17, Try.ntmps17
    go_wp2_with fail
    exact bodyPost_ret (v := .bool true) (by simp [results, Try.results17, go_sem] <;> omega) rfl ⟨rfl, rfl⟩
set_option maxHeartbeats 2000000 in
set_option maxRecDepth 100000 in
theorem may_any (W H : Int) (ad : Option Addr) (n c : Nat) (w : World) : Calls Try.prog 6 #[.agg #[.int .i64 W, .int .i64 H, .slice ad n c]] w fun e w' => e = .returned (.int .i64 (chk W H n)) ∧ Q w w' := by
  obtain ⟨w1, hw1⟩ : ∃ w1, w.alloc (.cells #[.int .i64 W, .int .i64 H, .slice ad n c] 24) = w1 := ⟨_, rfl⟩
  have HQ : Hid (Q w w1) := by show Q w w1; rw [← hw1]; exact (Q.refl w).cells _ _
  have k0 : w1.cell? ⟨w.heap.size, 0, none⟩ = some (.int .i64 W) := by rw [← hw1]; simp [go_sem]
  have k1 : w1.cell? ⟨w.heap.size, 1, none⟩ = some (.int .i64 H) := by rw [← hw1]; simp [go_sem]
  have k2 : w1.cell? ⟨w.heap.size, 2, none⟩ = some (.slice ad n c) := by rw [← hw1]; simp [go_sem]
  have C := hsize_b W H w1
  cases hs : sizeB W H
  · rw [hs] at C
    rw [chk_bad hs]
    go_enter Try.func6, Try.ntmps6
    go_wp2_with fail
    refine C.mono ?_
    rintro e w2 ⟨rfl, hw2⟩
    obtain rfl := hw2.symm
    clear hw2 C
    go_wp2_with fail
    go_ret
    exact ⟨rfl, HQ.out⟩
  · rw [hs] at C
    have hb := sizeB_true.1 hs
    have hb1 : 0 ≤ W * H := Int.mul_nonneg (by unfold SizeB at hb; omega) (by unfold SizeB at hb; omega)
    have hb2 : W * H ≤ 65536 := by unfold SizeB at hb; omega
    by_cases hn : (n : Int) = W * H
    · rw [chk_ok hs hn]
      have e1 : ((n : Int) != W * H) = false := by simpa using hn
      clear hn hb hs
      go_enter Try.func6, Try.ntmps6
      go_wp2_with fail
      refine C.mono ?_
      rintro e w2 ⟨rfl, hw2⟩
      obtain rfl := hw2.symm
      clear hw2 C
      go_wp2_with fail
      go_ret
      exact ⟨rfl, HQ.out⟩
    · rw [chk_count hs hn]
      have e1 : ((n : Int) != W * H) = true := by simpa using hn
      clear hn hb hs
      go_enter Try.func6, Try.ntmps6
      go_wp2_with fail
      refine C.mono ?_
      rintro e w2 ⟨rfl, hw2⟩
      obtain rfl := hw2.symm
      clear hw2 C
      go_wp2_with fail
      go_ret
      exact ⟨rfl, HQ.out⟩
end Go.Proofs.Ytgaolakfgjmeiab
/- A region that draws its order: operations that come up in whatever order, each with a fact that lasts (it may speak of what those told that it waits for); blocks that are made lie apart. -/
namespace Go.Proofs.Ytgaolakfgjmeiab
open Go.RowKit
set_option linter.unusedVariables false
set_option linter.unusedSimpArgs false

/-- The block that a slice or a pointer is at. -/
def blkV : Value → Nat
  | .slice (some a) _ _ => a.block
  | .pointer (some a) => a.block
  | _ => 0
/-- What is told of a value, where others (deps) may be named. -/
structure Sp2 where
  p : Value → (Nat → Value) → World → Prop
  deps : List Nat
  st : ∀ {v : Value} {val val' : Nat → Value} {x x' : World}, p v val x → Q x x' → (∀ j ∈ deps, val' j = val j) → p v val' x'
def sV (u : Value) : Sp2 := ⟨fun v _ _ => v = u, [], fun h _ _ => h⟩
def sE (j : Nat) : Sp2 := ⟨fun v val _ => v = val j, [j], fun h _ e => h.trans (e j (by simp)).symm⟩
def sP (p : Value → World → Prop) (st : ∀ v x x', p v x → Q x x' → p v x') : Sp2 := ⟨fun v _ x => p v x, [], fun h q _ => st _ _ _ h q⟩
/-- Each operation fills a slot, is not guarded, and what is told of it names what it waits for. -/
def newB (l : List Oper) (D : List (List Nat)) (s : List Nat) : Bool := (D.length == l.length) && ((s.length == l.length) && (List.range l.length).all fun k => match l[k]? with
  | some o => o.guard.isNone && ((o.dst == s[k]?) && (D.getD k []).all fun j => decide (j < k) && o.after.toList.any fun e => Region.binds .any e && (e.on == j))
  | none => true)
structure InvN (l : List Oper) (L : List Sp2) (A : List Nat) (w : World) (done : Nat → Bool) (val : Nat → Value) (x : World) : Prop where
  q : Q w x
  f : ∀ i s, L[i]? = some s → done i = true → s.p (val i) val x
  lt : ∀ i, i ∈ A → done i = true → blkV (val i) < x.heap.size
  ap : ∀ i j, i ∈ A → j ∈ A → i ≠ j → done i = true → done j = true → blkV (val i) ≠ blkV (val j)
  cl : ∀ i o, l[i]? = some o → done i = true → ∀ e ∈ o.after, Region.binds .any e = true → done e.on = true
set_option maxHeartbeats 1000000 in
theorem wp_region_new {P : Program} {id : Nat} {R : Exit → Act → World → Prop} {a0 : Act} {w : World} {l : List Oper} (s : List Nat) (L : List Sp2) (D : List (List Nat)) (A : List Nat)
    (hm : P.follows .mixedOrders = true) (hB : regS l = true) (hN : newB l D s = true) (hD : L.map (·.deps) = D) (hmax : ∀ t ∈ s, t < a0.tmps.size)
    (hop : ∀ i t o sp (a : Act) x (val : Nat → Value), s[i]? = some t → l[i]? = some o → L[i]? = some sp → Q w x → (∀ j, j ∉ s → a.tmps[j]? = a0.tmps[j]?) → (∀ e ∈ o.after, Region.binds .any e = true → ∀ s' t', L[e.on]? = some s' → s[e.on]? = some t' → a.tmps[t']? = some (val e.on) ∧ s'.p (val e.on) val x) →
      Yld P R o a x t (fun v x' => sp.p v val x' ∧ (i ∈ A → x.heap.size ≤ blkV v ∧ blkV v < x'.heap.size)))
    (hend : ∀ (a : Act) x (val : Nat → Value), Q w x → a.tmps.size = a0.tmps.size → a.defers = a0.defers → (∀ j, j ∉ s → a.tmps[j]? = a0.tmps[j]?) → (∀ i t sp, s[i]? = some t → L[i]? = some sp → a.tmps[t]? = some (val i) ∧ sp.p (val i) val x) → (∀ i j, i ∈ A → j ∈ A → i < l.length → j < l.length → i ≠ j → blkV (val i) ≠ blkV (val j)) → Shut (R .normal a x)) :
    (Code.region id l.toArray true).wp P R a0 w := by
  unfold newB at hN
  simp only [Bool.and_eq_true, beq_iff_eq] at hN
  obtain ⟨hDl, hsl, hall⟩ := hN
  have hLl : L.length = l.length := by rw [← hDl, ← hD]; simp
  have at_ : ∀ k o, l[k]? = some o → o.guard = none ∧ o.dst = s[k]? ∧ ∀ j ∈ D.getD k [], j < k ∧ ∃ e ∈ o.after, Region.binds .any e = true ∧ e.on = j := fun k o hk => by
    have g := List.all_eq_true.1 hall k (List.mem_range.2 (List.getElem?_eq_some_iff.1 hk).1)
    rw [hk] at g
    simp only [Bool.and_eq_true, beq_iff_eq] at g
    refine ⟨by simpa using g.1, g.2.1, fun j hj => ?_⟩
    have h := List.all_eq_true.1 g.2.2 j hj
    rw [Bool.and_eq_true] at h
    obtain ⟨e, he, hb⟩ := List.any_eq_true.1 h.2
    rw [Bool.and_eq_true] at hb
    exact ⟨by simpa using h.1, e, by simpa using he, hb.1, by simpa using hb.2⟩
  have dst_s : ∀ k t, dstOf l k = some t ↔ s[k]? = some t := fun k t => by
    cases hk : l[k]? with
    | none =>
      have : l.length ≤ k := by
        rcases Nat.lt_or_ge k l.length with c | c
        · rw [List.getElem?_eq_getElem c] at hk; cases hk
        · exact c
      rw [List.getElem?_eq_none (by omega)]
      unfold dstOf
      rw [hk]
      exact Iff.rfl
    | some o => rw [dstOf_at hk, (at_ k o hk).2.1]
  have mem_s : ∀ j, (∀ k, dstOf l k ≠ some j) ↔ j ∉ s := fun j => by
    constructor
    · intro h hm
      obtain ⟨k, hk⟩ := List.getElem?_of_mem hm
      exact h k ((dst_s k j).2 hk)
    · intro h k e
      exact h (List.mem_of_getElem? ((dst_s k j).1 e))
  have depsD : ∀ k sp, L[k]? = some sp → sp.deps = D.getD k [] := fun k sp hk => by
    rw [← hD, List.getD_eq_getElem?_getD, List.getElem?_map, hk]; rfl
  refine wp_region_slots (InvN l L A w) hm hB (fun i t h => hmax t (List.mem_of_getElem? ((dst_s i t).1 h))) ⟨(Q.refl w).drew, fun _ _ _ h => (by cases h), fun _ _ h => (by cases h), fun _ _ _ _ _ h => (by cases h), fun _ _ _ h => (by cases h)⟩ ?_ ?_ ?_
  · intro i o a x done val ho hd hdep I oth vals _
    have hil : i < l.length := (List.getElem?_eq_some_iff.1 ho).1
    obtain ⟨sp, hsp⟩ : ∃ sp, L[i]? = some sp := ⟨_, List.getElem?_eq_getElem (by omega)⟩
    obtain ⟨t, ht⟩ : ∃ t, s[i]? = some t := ⟨_, List.getElem?_eq_getElem (by omega)⟩
    obtain ⟨hg, hdst, hdp⟩ := at_ i o ho
    have hrun := hop i t o sp a x val ht ho hsp I.q (fun j hj => oth j ((mem_s j).2 hj)) (fun e he hb s' t' hs' ht' => ⟨vals e.on t' (hdep e he hb) ((dst_s _ _).2 ht'), I.f e.on s' hs' (hdep e he hb)⟩)
    refine ⟨Oper.wp_mono ?_ hrun.out⟩
    rintro a' x' ⟨v, rfl, q', hf, hfA⟩
    refine ⟨v, by rw [hdst, ht], I.q.trans q', fun j sj hsj hdj => ?_, fun j hj hdj => ?_, fun j k hj hk hjk hdj hdk => ?_, fun j o' ho' hdj e he hb => ?_⟩
    · by_cases e : j = i
      · subst e
        rw [hsp] at hsj
        injection hsj with hsj
        subst hsj
        rw [upd_eq]
        refine sp.st hf (Q.refl x') (fun k hk => upd_ne _ _ ?_)
        rw [depsD j sp hsp] at hk
        have := (hdp k hk).1
        omega
      · rw [upd_ne _ _ e] at hdj ⊢
        refine sj.st (I.f j sj hsj hdj) q' (fun k hk => upd_ne _ _ ?_)
        rw [depsD j sj hsj] at hk
        have hjl : j < l.length := by have := (List.getElem?_eq_some_iff.1 hsj).1; omega
        obtain ⟨_, e2, he2, hb2, hk2⟩ := (at_ j _ (List.getElem?_eq_getElem hjl)).2.2 k hk
        have := I.cl j _ (List.getElem?_eq_getElem hjl) hdj e2 he2 hb2
        intro ek
        rw [hk2, ek, hd] at this
        cases this
    · by_cases e : j = i
      · subst e; rw [upd_eq]; exact (hfA hj).2
      · rw [upd_ne _ _ e] at hdj ⊢
        have := I.lt j hj hdj
        have := q'.1.size
        omega
    · by_cases e : j = i
      · subst e
        have ek : k ≠ j := fun h => hjk h.symm
        rw [upd_eq, upd_ne _ _ ek]
        rw [upd_ne _ _ ek] at hdk
        have := I.lt k hk hdk
        have := (hfA hj).1
        omega
      · rw [upd_ne _ _ e] at hdj ⊢
        by_cases ek : k = i
        · subst ek
          rw [upd_eq]
          have := I.lt j hj hdj
          have := (hfA hk).1
          omega
        · rw [upd_ne _ _ ek] at hdk ⊢
          exact I.ap j k hj hk hjk hdj hdk
    · by_cases ee : e.on = i
      · rw [ee, upd_eq]
      · rw [upd_ne _ _ ee]
        by_cases ej : j = i
        · subst ej
          rw [ho] at ho'
          injection ho' with ho'
          subst ho'
          exact hdep e he hb
        · rw [upd_ne _ _ ej] at hdj
          exact I.cl j o' ho' hdj e he hb
  · intro i o x done val g b ho _ _ _ hg _
    rw [(at_ i o ho).1] at hg
    cases hg
  · intro a x val I size defers other facts
    refine hend a x val I.q size defers (fun j hj => other j ((mem_s j).2 hj)) (fun i t sp ht hsp => ⟨facts i t ((dst_s i t).2 ht), I.f i sp hsp (decide_eq_true (by have := (List.getElem?_eq_some_iff.1 hsp).1; omega))⟩) (fun i j hi hj hil hjl hij => I.ap i j hi hj hij (decide_eq_true hil) (decide_eq_true hjl))
end Go.Proofs.Ytgaolakfgjmeiab
/- A region that draws its order: first operations that come up in whatever order, each with a fact that lasts (RegN's), blocks apart; then others, one behind the other. -/
namespace Go.Proofs.Ytgaolakfgjmeiab
open Go.RowKit
set_option linter.unusedVariables false
set_option linter.unusedSimpArgs false

/-- Each of the first n operations fills a slot, and what is told of it names what it waits for. -/
def newBP (l : List Oper) (n : Nat) (D : List (List Nat)) (s : List Nat) : Bool := (D.length == n) && ((s.length == n) && ((decide (n ≤ l.length)) && (List.range n).all fun k => match l[k]? with
  | some o => (o.dst == s[k]?) && (D.getD k []).all fun j => decide (j < k) && o.after.toList.any fun e => Region.binds .any e && (e.on == j)
  | none => true))
structure FactsV (L : List Sp2) (A : List Nat) (w : World) (a0 : Act) (s : List Nat) (l : List Oper) (n : Nat) (lst : Array Bool) (a : Act) (x : World) (val : Nat → Value) : Prop where
  size : a.tmps.size = a0.tmps.size
  defers : a.defers = a0.defers
  other : ∀ j, j ∉ s → a.tmps[j]? = a0.tmps[j]?
  q : Q w x
  ls : lst.size = l.length
  post : ∀ k, n ≤ k → k < l.length → lst.getD k true = false
  closed : ∀ (j : Nat) (o : Oper), lst.getD j false = true → l[j]? = some o → ∀ e ∈ o.after, Region.binds .any e = true → lst.getD e.on false = true
  facts : ∀ i t sp, s[i]? = some t → L[i]? = some sp → lst.getD i false = true → a.tmps[t]? = some (val i) ∧ sp.p (val i) val x
  lt : ∀ i, i ∈ A → lst.getD i false = true → blkV (val i) < x.heap.size
  apart : ∀ i j, i ∈ A → j ∈ A → i ≠ j → lst.getD i false = true → lst.getD j false = true → blkV (val i) ≠ blkV (val j)
set_option maxHeartbeats 2000000 in
theorem wp_region_newP {P : Program} {id : Nat} {R : Exit → Act → World → Prop} {a0 : Act} {w : World} {l : List Oper} (n : Nat) (s : List Nat) (L : List Sp2) (D : List (List Nat)) (A : List Nat)
    (hm : P.follows .mixedOrders = true) (hB : regB l n = true) (hN : newBP l n D s = true) (hD : L.map (·.deps) = D) (hd : s.Nodup) (hmax : ∀ t ∈ s, t < a0.tmps.size)
    (hop : ∀ i t o sp (a : Act) x (val : Nat → Value), s[i]? = some t → l[i]? = some o → L[i]? = some sp → Q w x → (∀ j, j ∉ s → a.tmps[j]? = a0.tmps[j]?) → (∀ e ∈ o.after, Region.binds .any e = true → ∀ s' t', L[e.on]? = some s' → s[e.on]? = some t' → a.tmps[t']? = some (val e.on) ∧ s'.p (val e.on) val x) →
      Yld P R o a x t (fun v x' => sp.p v val x' ∧ (i ∈ A → x.heap.size ≤ blkV v ∧ blkV v < x'.heap.size)))
    (hAn : ∀ i ∈ A, i < n)
    (hend : ∀ (a : Act) x (val : Nat → Value), Q w x → a.tmps.size = a0.tmps.size → a.defers = a0.defers → (∀ j, j ∉ s → a.tmps[j]? = a0.tmps[j]?) → (∀ i t sp, s[i]? = some t → L[i]? = some sp → a.tmps[t]? = some (val i) ∧ sp.p (val i) val x) → (∀ i j, i ∈ A → j ∈ A → i ≠ j → blkV (val i) ≠ blkV (val j)) → Shut (wpPost P R (l.drop n) a x)) :
    (Code.region id l.toArray true).wp P R a0 w := by
  have get : ∀ k, l.toArray[k]? = l[k]? := fun k => List.getElem?_toArray
  unfold newBP at hN
  simp only [Bool.and_eq_true, beq_iff_eq, decide_eq_true_eq] at hN
  obtain ⟨hDl, hsl, hnl, hall⟩ := hN
  have hLl : L.length = n := by rw [← hDl, ← hD]; simp
  have at_ : ∀ k o, k < n → l[k]? = some o → o.dst = s[k]? ∧ ∀ j ∈ D.getD k [], j < k ∧ ∃ e ∈ o.after, Region.binds .any e = true ∧ e.on = j := fun k o hkn hk => by
    have g := List.all_eq_true.1 hall k (List.mem_range.2 hkn)
    rw [hk] at g
    simp only [Bool.and_eq_true, beq_iff_eq] at g
    refine ⟨g.1, fun j hj => ?_⟩
    have h := List.all_eq_true.1 g.2 j hj
    rw [Bool.and_eq_true] at h
    obtain ⟨e, he, hb⟩ := List.any_eq_true.1 h.2
    rw [Bool.and_eq_true] at hb
    exact ⟨by simpa using h.1, e, by simpa using he, hb.1, by simpa using hb.2⟩
  have depsD : ∀ k sp, L[k]? = some sp → sp.deps = D.getD k [] := fun k sp hk => by
    rw [← hD, List.getD_eq_getElem?_getD, List.getElem?_map, hk]; rfl
  refine wp_region_inv (fun lst a x => (∃ val, FactsV L A w a0 s l n lst a x val) ∨ ∃ k, n < k ∧ k ≤ l.length ∧ lst.size = l.length ∧ (∀ i, i < k → lst.getD i true = true) ∧ (∀ i, k ≤ i → i < l.length → lst.getD i true = false) ∧ (∀ (j : Nat) (o : Oper), lst.getD j false = true → l[j]? = some o → ∀ e ∈ o.after, Region.binds .any e = true → lst.getD e.on false = true) ∧ Shut (wpPost P R (l.drop k) a x)) hm ?_ ?_ ?_
  · have none_ : ∀ j, (Array.replicate l.toArray.size false).getD j false = false := fun j => by
      rw [Array.getD_eq_getD_getElem?, Array.getElem?_replicate]
      split <;> rfl
    refine Or.inl ⟨fun _ => undef, rfl, rfl, fun _ _ => rfl, (Q.refl w).drew, by simp, fun k h1 h2 => ?_, fun j o hj _ => ?_, fun i t sp _ _ hl => ?_, fun i _ hl => ?_, fun i j _ _ _ hl => ?_⟩
    · rw [Array.getD_eq_getD_getElem?, Array.getElem?_replicate, if_pos (by simpa using h2)]; rfl
    · rw [none_] at hj; cases hj
    · rw [none_] at hl; cases hl
    · rw [none_] at hl; cases hl
    · rw [none_] at hl; cases hl
  · intro lst a x i o hI ho hl hdep
    rw [get] at ho
    obtain ⟨hg, hdl, hall'⟩ := regB_at hB ho
    have hil : i < l.length := (List.getElem?_eq_some_iff.1 ho).1
    refine ⟨hg, ?_⟩
    rcases hI with ⟨val, T⟩ | ⟨k, hk1, hk2, hls, hk3, hk4, hkc, hw⟩
    · by_cases hin : i < n
      · obtain ⟨t, ht⟩ : ∃ t, s[i]? = some t := ⟨_, List.getElem?_eq_getElem (by omega)⟩
        obtain ⟨sp, hsp⟩ : ∃ sp, L[i]? = some sp := ⟨_, List.getElem?_eq_getElem (by omega)⟩
        have hts : t ∈ s := List.mem_of_getElem? ht
        have inj : ∀ j t', s[j]? = some t' → j ≠ i → t ≠ t' := fun j t' hj hne e => hne (by
          subst e
          obtain ⟨h1, h2⟩ := List.getElem?_eq_some_iff.1 hj
          obtain ⟨h3, h4⟩ := List.getElem?_eq_some_iff.1 ht
          exact (List.getElem_inj hd).1 (h2.trans h4.symm))
        obtain ⟨hdst, hdp⟩ := at_ i o hin ho
        have hd0 : lst.getD i false = false := not_got hl
        have hrun := hop i t o sp a x val ht ho hsp T.q T.other (fun e he hb s' t' hs' ht' => T.facts e.on t' s' ht' hs' (hdep e he hb))
        refine Oper.wp_mono ?_ hrun.out
        rintro a' x' ⟨v, rfl, q', hf, hfA⟩
        refine Or.inl ⟨upd val i v, ?_, T.defers, fun j hj => ?_, T.q.trans q', by rw [Array.size_setIfInBounds]; exact T.ls, fun k h1 h2 => ?_, closed_set ho T.closed hdep, fun j t' sj ht' hsj hlj => ?_, fun j hj hlj => ?_, fun j k hj hk hjk hlj hlk => ?_⟩
        · exact (Array.size_setIfInBounds).trans T.size
        · exact (Array.getElem?_setIfInBounds_ne (fun e => hj (by rw [← e]; exact hts))).trans (T.other j hj)
        · rw [set_ne (by omega)]; exact T.post k h1 h2
        · by_cases e : j = i
          · subst e
            rw [ht] at ht'
            injection ht' with ht'
            subst ht'
            rw [hsp] at hsj
            injection hsj with hsj
            subst hsj
            refine ⟨?_, ?_⟩
            · rw [upd_eq]; exact Array.getElem?_setIfInBounds_self_of_lt (by rw [T.size]; exact hmax t hts)
            · rw [upd_eq]
              refine sp.st hf (Q.refl x') (fun k hk => upd_ne _ _ ?_)
              rw [depsD j sp hsp] at hk
              have := (hdp k hk).1
              omega
          · rw [set_ne (fun e' => e e'.symm)] at hlj
            obtain ⟨h1, h2⟩ := T.facts j t' sj ht' hsj hlj
            rw [upd_ne _ _ e]
            refine ⟨(Array.getElem?_setIfInBounds_ne (inj j t' ht' e)).trans h1, sj.st h2 q' (fun k hk => upd_ne _ _ ?_)⟩
            rw [depsD j sj hsj] at hk
            have hjn : j < n := by have := (List.getElem?_eq_some_iff.1 hsj).1; omega
            have hjl : l[j]? = some (l[j]'(by omega)) := List.getElem?_eq_getElem (by omega)
            obtain ⟨_, e2, he2, hb2, hk2⟩ := (at_ j _ hjn hjl).2 k hk
            have := T.closed j _ hlj hjl e2 he2 hb2
            intro ek
            rw [hk2, ek, hd0] at this
            cases this
        · by_cases e : j = i
          · subst e; rw [upd_eq]; exact (hfA hj).2
          · rw [set_ne (fun e' => e e'.symm)] at hlj
            rw [upd_ne _ _ e]
            have := T.lt j hj hlj
            have := q'.1.size
            omega
        · by_cases e : j = i
          · subst e
            have ek : k ≠ j := fun h => hjk h.symm
            rw [set_ne (fun e' => ek e'.symm)] at hlk
            rw [upd_eq, upd_ne _ _ ek]
            have := T.lt k hk hlk
            have := (hfA hj).1
            omega
          · rw [set_ne (fun e' => e e'.symm)] at hlj
            rw [upd_ne _ _ e]
            by_cases ek : k = i
            · subst ek
              rw [upd_eq]
              have := T.lt j hj hlj
              have := (hfA hk).1
              omega
            · rw [set_ne (fun e' => ek e'.symm)] at hlk
              rw [upd_ne _ _ ek]
              exact T.apart j k hj hk hjk hlj hlk
      · have hie : i = n := by
          rcases Nat.lt_or_ge n i with h | h
          · have h1 := deps_got T.closed hdep n (hall' (by omega) n h)
            have h2 := not_got (T.post n (Nat.le_refl _) (by omega))
            rw [h1] at h2
            cases h2
          · omega
        subst hie
        have hallg : ∀ j, j < i → lst.getD j false = true := fun j hj => deps_got T.closed hdep j (hall' (Nat.le_refl _) j hj)
        have hE := hend a x val T.q T.size T.defers T.other (fun j t sp ht hsp => T.facts j t sp ht hsp (hallg j (by have := (List.getElem?_eq_some_iff.1 hsp).1; omega))) (fun j k hj hk hjk => T.apart j k hj hk hjk (hallg j (hAn j hj)) (hallg k (hAn k hk)))
        have hdr : l.drop i = o :: l.drop (i + 1) := by
          obtain ⟨h1, h2⟩ := List.getElem?_eq_some_iff.1 ho
          rw [List.drop_eq_getElem_cons h1, h2]
        rw [hdr] at hE
        refine Oper.wp_mono (fun a' x' h => Or.inr ⟨i + 1, by omega, by omega, by rw [Array.size_setIfInBounds]; exact T.ls, fun j hj => ?_, fun j h1 h2 => ?_, closed_set ho T.closed hdep, ⟨h⟩⟩) hE.out
        · by_cases e : i = j
          · subst e; exact set_eq (by rw [T.ls]; omega)
          · rw [set_ne e]
            have := hallg j (by omega)
            rw [Array.getD_eq_getD_getElem?] at this ⊢
            cases g : lst[j]? with
            | none => rfl
            | some b => rw [g] at this; exact this
        · rw [set_ne (by omega)]; exact T.post j (by omega) h2
    · have hie : i = k := by
        rcases Nat.lt_trichotomy i k with h | h | h
        · have := hk3 i h; rw [hl] at this; cases this
        · exact h
        · have h1 := deps_got hkc hdep k (hall' (by omega) k h)
          have h2 := not_got (hk4 k (Nat.le_refl _) (by omega))
          rw [h1] at h2
          cases h2
      subst hie
      have hdr : l.drop i = o :: l.drop (i + 1) := by
        obtain ⟨h1, h2⟩ := List.getElem?_eq_some_iff.1 ho
        rw [List.drop_eq_getElem_cons h1, h2]
      rw [hdr] at hw
      refine Oper.wp_mono (fun a' x' h => Or.inr ⟨i + 1, by omega, by omega, by rw [Array.size_setIfInBounds]; exact hls, fun j hj => ?_, fun j h1 h2 => ?_, closed_set ho hkc hdep, ⟨h⟩⟩) hw.out
      · by_cases e : i = j
        · subst e; exact set_eq (by rw [hls]; omega)
        · rw [set_ne e]; exact hk3 j (by omega)
      · rw [set_ne (by omega)]; exact hk4 j (by omega) h2
  · intro lst a x hI hno
    rcases hI with ⟨val, T⟩ | ⟨k, hk1, hk2, hls, hk3, hk4, hkc, hw⟩
    · have all : ∀ j, j < n → lst.getD j false = true := by
        intro j
        induction j using Nat.strongRecOn with
        | ind j ih =>
          intro hj
          obtain ⟨o, ho⟩ : ∃ o, l[j]? = some o := ⟨_, List.getElem?_eq_getElem (by omega)⟩
          refine got_of (hno j o (by rw [get]; exact ho) (fun e he hb => ?_)) (by rw [T.ls]; omega)
          have := (regB_at hB ho).2.1 e he hb
          exact ih e.on this (by omega)
      by_cases hnl : n < l.length
      · exfalso
        obtain ⟨o, ho⟩ : ∃ o, l[n]? = some o := ⟨_, List.getElem?_eq_getElem hnl⟩
        have := hno n o (by rw [get]; exact ho) (fun e he hb => all e.on ((regB_at hB ho).2.1 e he hb))
        rw [T.post n (Nat.le_refl _) hnl] at this
        cases this
      · have hE := hend a x val T.q T.size T.defers T.other (fun j t sp ht hsp => T.facts j t sp ht hsp (all j (by have := (List.getElem?_eq_some_iff.1 hsp).1; omega))) (fun j k hj hk hjk => T.apart j k hj hk hjk (all j (hAn j hj)) (all k (hAn k hk)))
        rw [List.drop_eq_nil_of_le (by omega)] at hE
        exact hE.out
    · by_cases hkl : k < l.length
      · exfalso
        obtain ⟨o, ho⟩ : ∃ o, l[k]? = some o := ⟨_, List.getElem?_eq_getElem hkl⟩
        have := hno k o (by rw [get]; exact ho) (fun e he hb => got_of (hk3 e.on ((regB_at hB ho).2.1 e he hb)) (by rw [hls]; have := (regB_at hB ho).2.1 e he hb; omega))
        rw [hk4 k (Nat.le_refl _) hkl] at this
        cases this
      · rw [List.drop_eq_nil_of_le (by omega)] at hw
        exact hw.out
section
variable {P : Program} {R : Exit → Act → World → Prop} {a : Act} {x x' : World} {rest : List Oper}
theorem post_skip {o : Oper} (hd : o.dst = none) (hr : (execOp a.eval o).run P x = .ok .skip x') (h : wpPost P R rest a x') : wpPost P R (o :: rest) a x := by
  show o.wp P a x (fun a' w' => wpPost P R rest a' w') R
  unfold Oper.wp
  rw [hr, Oper.upon_skip, hd]
  exact h
theorem post_run {o : Oper} {t : Nat} {v : Value} (hd : o.dst = some t) (hr : (execOp a.eval o).run P x = .ok (.value v) x') (h : wpPost P R rest (a.put (some t) v) x') : wpPost P R (o :: rest) a x := by
  show o.wp P a x (fun a' w' => wpPost P R rest a' w') R
  unfold Oper.wp
  rw [hr, Oper.upon_value, hd]
  exact h
end
end Go.Proofs.Ytgaolakfgjmeiab
/- A region that draws its order: as RegO, but each operation has an interval of blocks of its own (those that it has made), and these lie apart. -/
namespace Go.Proofs.Ytgaolakfgjmeiab
open Go.RowKit
set_option linter.unusedVariables false
set_option linter.unusedSimpArgs false

/-- What is told of a value: others (deps) may be named, and the interval of blocks that were made. -/
structure Sp3 where
  p : Value → (Nat → Value) → Nat → Nat → World → Prop
  deps : List Nat
  st : ∀ {v : Value} {val val' : Nat → Value} {lo hi : Nat} {x x' : World}, p v val lo hi x → Q x x' → (∀ j ∈ deps, val' j = val j) → p v val' lo hi x'
def iV (u : Value) : Sp3 := ⟨fun v _ _ _ _ => v = u, [], fun h _ _ => h⟩
def iP (p : Value → Nat → Nat → World → Prop) (st : ∀ v lo hi x x', p v lo hi x → Q x x' → p v lo hi x') : Sp3 := ⟨fun v _ lo hi x => p v lo hi x, [], fun h q _ => st _ _ _ _ _ h q⟩
/-- Each of the first n operations fills a slot, and what is told of it names what it waits for. -/
def newBI (l : List Oper) (n : Nat) (D : List (List Nat)) (s : List Nat) : Bool := (D.length == n) && ((s.length == n) && ((decide (n ≤ l.length)) && (List.range n).all fun k => match l[k]? with
  | some o => (o.dst == s[k]?) && (D.getD k []).all fun j => decide (j < k) && o.after.toList.any fun e => Region.binds .any e && (e.on == j)
  | none => true))
structure FactsI (L : List Sp3) (w : World) (a0 : Act) (s : List Nat) (l : List Oper) (n : Nat) (lst : Array Bool) (a : Act) (x : World) (val : Nat → Value) (iv : Nat → Nat × Nat) : Prop where
  size : a.tmps.size = a0.tmps.size
  defers : a.defers = a0.defers
  other : ∀ j, j ∉ s → a.tmps[j]? = a0.tmps[j]?
  q : Q w x
  ls : lst.size = l.length
  post : ∀ k, n ≤ k → k < l.length → lst.getD k true = false
  closed : ∀ (j : Nat) (o : Oper), lst.getD j false = true → l[j]? = some o → ∀ e ∈ o.after, Region.binds .any e = true → lst.getD e.on false = true
  facts : ∀ i t sp, s[i]? = some t → L[i]? = some sp → lst.getD i false = true → a.tmps[t]? = some (val i) ∧ sp.p (val i) val (iv i).1 (iv i).2 x
  lt : ∀ i, i < n → lst.getD i false = true → w.heap.size ≤ (iv i).1 ∧ (iv i).2 ≤ x.heap.size
  apart : ∀ i j, i < n → j < n → i ≠ j → lst.getD i false = true → lst.getD j false = true → (iv i).2 ≤ (iv j).1 ∨ (iv j).2 ≤ (iv i).1
set_option maxHeartbeats 2000000 in
theorem wp_region_newI {P : Program} {id : Nat} {R : Exit → Act → World → Prop} {a0 : Act} {w : World} {l : List Oper} (n : Nat) (s : List Nat) (L : List Sp3) (D : List (List Nat))
    (hm : P.follows .mixedOrders = true) (hB : regB l n = true) (hN : newBI l n D s = true) (hD : L.map (·.deps) = D) (hd : s.Nodup) (hmax : ∀ t ∈ s, t < a0.tmps.size)
    (hop : ∀ (i t : Nat) (o : Oper) (sp : Sp3) (a : Act) (x : World) (val : Nat → Value), s[i]? = some t → l[i]? = some o → L[i]? = some sp → Q w x → (∀ j, j ∉ s → a.tmps[j]? = a0.tmps[j]?) → (∀ e ∈ o.after, Region.binds .any e = true → ∀ (s' : Sp3) t', L[e.on]? = some s' → s[e.on]? = some t' → a.tmps[t']? = some (val e.on) ∧ ∃ lo hi, s'.p (val e.on) val lo hi x) →
      Yld P R o a x t (fun v x' => sp.p v val x.heap.size x'.heap.size x'))
    (hend : ∀ (a : Act) x (val : Nat → Value) (iv : Nat → Nat × Nat), Q w x → a.tmps.size = a0.tmps.size → a.defers = a0.defers → (∀ j, j ∉ s → a.tmps[j]? = a0.tmps[j]?) → (∀ i t sp, s[i]? = some t → L[i]? = some sp → a.tmps[t]? = some (val i) ∧ sp.p (val i) val (iv i).1 (iv i).2 x) → (∀ i, i < n → w.heap.size ≤ (iv i).1 ∧ (iv i).2 ≤ x.heap.size) → (∀ i j, i < n → j < n → i ≠ j → (iv i).2 ≤ (iv j).1 ∨ (iv j).2 ≤ (iv i).1) → Shut (wpPost P R (l.drop n) a x)) :
    (Code.region id l.toArray true).wp P R a0 w := by
  have get : ∀ k, l.toArray[k]? = l[k]? := fun k => List.getElem?_toArray
  unfold newBI at hN
  simp only [Bool.and_eq_true, beq_iff_eq, decide_eq_true_eq] at hN
  obtain ⟨hDl, hsl, hnl, hall⟩ := hN
  have hLl : L.length = n := by rw [← hDl, ← hD]; simp
  have at_ : ∀ k o, k < n → l[k]? = some o → o.dst = s[k]? ∧ ∀ j ∈ D.getD k [], j < k ∧ ∃ e ∈ o.after, Region.binds .any e = true ∧ e.on = j := fun k o hkn hk => by
    have g := List.all_eq_true.1 hall k (List.mem_range.2 hkn)
    rw [hk] at g
    simp only [Bool.and_eq_true, beq_iff_eq] at g
    refine ⟨g.1, fun j hj => ?_⟩
    have h := List.all_eq_true.1 g.2 j hj
    rw [Bool.and_eq_true] at h
    obtain ⟨e, he, hb⟩ := List.any_eq_true.1 h.2
    rw [Bool.and_eq_true] at hb
    exact ⟨by simpa using h.1, e, by simpa using he, hb.1, by simpa using hb.2⟩
  have depsD : ∀ k sp, L[k]? = some sp → sp.deps = D.getD k [] := fun k sp hk => by
    rw [← hD, List.getD_eq_getElem?_getD, List.getElem?_map, hk]; rfl
  refine wp_region_inv (fun lst a x => (∃ val iv, FactsI L w a0 s l n lst a x val iv) ∨ ∃ k, n < k ∧ k ≤ l.length ∧ lst.size = l.length ∧ (∀ i, i < k → lst.getD i true = true) ∧ (∀ i, k ≤ i → i < l.length → lst.getD i true = false) ∧ (∀ (j : Nat) (o : Oper), lst.getD j false = true → l[j]? = some o → ∀ e ∈ o.after, Region.binds .any e = true → lst.getD e.on false = true) ∧ Shut (wpPost P R (l.drop k) a x)) hm ?_ ?_ ?_
  · have none_ : ∀ j, (Array.replicate l.toArray.size false).getD j false = false := fun j => by
      rw [Array.getD_eq_getD_getElem?, Array.getElem?_replicate]
      split <;> rfl
    refine Or.inl ⟨fun _ => undef, fun _ => (0, 0), rfl, rfl, fun _ _ => rfl, (Q.refl w).drew, by simp, fun k h1 h2 => ?_, fun j o hj _ => ?_, fun i t sp _ _ hl => ?_, fun i _ hl => ?_, fun i j _ _ _ hl => ?_⟩
    · rw [Array.getD_eq_getD_getElem?, Array.getElem?_replicate, if_pos (by simpa using h2)]; rfl
    · rw [none_] at hj; cases hj
    · rw [none_] at hl; cases hl
    · rw [none_] at hl; cases hl
    · rw [none_] at hl; cases hl
  · intro lst a x i o hI ho hl hdep
    rw [get] at ho
    obtain ⟨hg, hdl, hall'⟩ := regB_at hB ho
    have hil : i < l.length := (List.getElem?_eq_some_iff.1 ho).1
    refine ⟨hg, ?_⟩
    rcases hI with ⟨val, iv, T⟩ | ⟨k, hk1, hk2, hls, hk3, hk4, hkc, hw⟩
    · by_cases hin : i < n
      · obtain ⟨t, ht⟩ : ∃ t, s[i]? = some t := ⟨_, List.getElem?_eq_getElem (by omega)⟩
        obtain ⟨sp, hsp⟩ : ∃ sp, L[i]? = some sp := ⟨_, List.getElem?_eq_getElem (by omega)⟩
        have hts : t ∈ s := List.mem_of_getElem? ht
        have inj : ∀ j t', s[j]? = some t' → j ≠ i → t ≠ t' := fun j t' hj hne e => hne (by
          subst e
          obtain ⟨h1, h2⟩ := List.getElem?_eq_some_iff.1 hj
          obtain ⟨h3, h4⟩ := List.getElem?_eq_some_iff.1 ht
          exact (List.getElem_inj hd).1 (h2.trans h4.symm))
        obtain ⟨hdst, hdp⟩ := at_ i o hin ho
        have hd0 : lst.getD i false = false := not_got hl
        have hrun := hop i t o sp a x val ht ho hsp T.q T.other (fun e he hb s' t' hs' ht' => ⟨(T.facts e.on t' s' ht' hs' (hdep e he hb)).1, _, _, (T.facts e.on t' s' ht' hs' (hdep e he hb)).2⟩)
        refine Oper.wp_mono ?_ hrun.out
        rintro a' x' ⟨v, rfl, q', hf⟩
        refine Or.inl ⟨upd val i v, upd iv i (x.heap.size, x'.heap.size), ?_, T.defers, fun j hj => ?_, T.q.trans q', by rw [Array.size_setIfInBounds]; exact T.ls, fun k h1 h2 => ?_, closed_set ho T.closed hdep, fun j t' sj ht' hsj hlj => ?_, fun j hj hlj => ?_, fun j k hj hk hjk hlj hlk => ?_⟩
        · exact (Array.size_setIfInBounds).trans T.size
        · exact (Array.getElem?_setIfInBounds_ne (fun e => hj (by rw [← e]; exact hts))).trans (T.other j hj)
        · rw [set_ne (by omega)]; exact T.post k h1 h2
        · by_cases e : j = i
          · subst e
            rw [ht] at ht'
            injection ht' with ht'
            subst ht'
            rw [hsp] at hsj
            injection hsj with hsj
            subst hsj
            refine ⟨?_, ?_⟩
            · rw [upd_eq]; exact Array.getElem?_setIfInBounds_self_of_lt (by rw [T.size]; exact hmax t hts)
            · rw [upd_eq, upd_eq]
              refine sp.st hf (Q.refl x') (fun k hk => upd_ne _ _ ?_)
              rw [depsD j sp hsp] at hk
              have := (hdp k hk).1
              omega
          · rw [set_ne (fun e' => e e'.symm)] at hlj
            obtain ⟨h1, h2⟩ := T.facts j t' sj ht' hsj hlj
            rw [upd_ne _ _ e, upd_ne _ _ e]
            refine ⟨(Array.getElem?_setIfInBounds_ne (inj j t' ht' e)).trans h1, sj.st h2 q' (fun k hk => upd_ne _ _ ?_)⟩
            rw [depsD j sj hsj] at hk
            have hjn : j < n := by have := (List.getElem?_eq_some_iff.1 hsj).1; omega
            have hjl : l[j]? = some (l[j]'(by omega)) := List.getElem?_eq_getElem (by omega)
            obtain ⟨_, e2, he2, hb2, hk2⟩ := (at_ j _ hjn hjl).2 k hk
            have := T.closed j _ hlj hjl e2 he2 hb2
            intro ek
            rw [hk2, ek, hd0] at this
            cases this
        · by_cases e : j = i
          · subst e; rw [upd_eq]; exact ⟨T.q.1.size, Nat.le_refl _⟩
          · rw [set_ne (fun e' => e e'.symm)] at hlj
            rw [upd_ne _ _ e]
            have := T.lt j hj hlj
            have := q'.1.size
            omega
        · by_cases e : j = i
          · subst e
            have ek : k ≠ j := fun h => hjk h.symm
            rw [set_ne (fun e' => ek e'.symm)] at hlk
            rw [upd_eq, upd_ne _ _ ek]
            have := T.lt k hk hlk
            exact Or.inr this.2
          · rw [set_ne (fun e' => e e'.symm)] at hlj
            rw [upd_ne _ _ e]
            by_cases ek : k = i
            · subst ek
              rw [upd_eq]
              have := T.lt j hj hlj
              exact Or.inl this.2
            · rw [set_ne (fun e' => ek e'.symm)] at hlk
              rw [upd_ne _ _ ek]
              exact T.apart j k hj hk hjk hlj hlk
      · have hie : i = n := by
          rcases Nat.lt_or_ge n i with h | h
          · have h1 := deps_got T.closed hdep n (hall' (by omega) n h)
            have h2 := not_got (T.post n (Nat.le_refl _) (by omega))
            rw [h1] at h2
            cases h2
          · omega
        subst hie
        have hallg : ∀ j, j < i → lst.getD j false = true := fun j hj => deps_got T.closed hdep j (hall' (Nat.le_refl _) j hj)
        have hE := hend a x val iv T.q T.size T.defers T.other (fun j t sp ht hsp => T.facts j t sp ht hsp (hallg j (by have := (List.getElem?_eq_some_iff.1 hsp).1; omega))) (fun j hj => T.lt j hj (hallg j hj)) (fun j k hj hk hjk => T.apart j k hj hk hjk (hallg j hj) (hallg k hk))
        have hdr : l.drop i = o :: l.drop (i + 1) := by
          obtain ⟨h1, h2⟩ := List.getElem?_eq_some_iff.1 ho
          rw [List.drop_eq_getElem_cons h1, h2]
        rw [hdr] at hE
        refine Oper.wp_mono (fun a' x' h => Or.inr ⟨i + 1, by omega, by omega, by rw [Array.size_setIfInBounds]; exact T.ls, fun j hj => ?_, fun j h1 h2 => ?_, closed_set ho T.closed hdep, ⟨h⟩⟩) hE.out
        · by_cases e : i = j
          · subst e; exact set_eq (by rw [T.ls]; omega)
          · rw [set_ne e]
            have := hallg j (by omega)
            rw [Array.getD_eq_getD_getElem?] at this ⊢
            cases g : lst[j]? with
            | none => rfl
            | some b => rw [g] at this; exact this
        · rw [set_ne (by omega)]; exact T.post j (by omega) h2
    · have hie : i = k := by
        rcases Nat.lt_trichotomy i k with h | h | h
        · have := hk3 i h; rw [hl] at this; cases this
        · exact h
        · have h1 := deps_got hkc hdep k (hall' (by omega) k h)
          have h2 := not_got (hk4 k (Nat.le_refl _) (by omega))
          rw [h1] at h2
          cases h2
      subst hie
      have hdr : l.drop i = o :: l.drop (i + 1) := by
        obtain ⟨h1, h2⟩ := List.getElem?_eq_some_iff.1 ho
        rw [List.drop_eq_getElem_cons h1, h2]
      rw [hdr] at hw
      refine Oper.wp_mono (fun a' x' h => Or.inr ⟨i + 1, by omega, by omega, by rw [Array.size_setIfInBounds]; exact hls, fun j hj => ?_, fun j h1 h2 => ?_, closed_set ho hkc hdep, ⟨h⟩⟩) hw.out
      · by_cases e : i = j
        · subst e; exact set_eq (by rw [hls]; omega)
        · rw [set_ne e]; exact hk3 j (by omega)
      · rw [set_ne (by omega)]; exact hk4 j (by omega) h2
  · intro lst a x hI hno
    rcases hI with ⟨val, iv, T⟩ | ⟨k, hk1, hk2, hls, hk3, hk4, hkc, hw⟩
    · have all : ∀ j, j < n → lst.getD j false = true := by
        intro j
        induction j using Nat.strongRecOn with
        | ind j ih =>
          intro hj
          obtain ⟨o, ho⟩ : ∃ o, l[j]? = some o := ⟨_, List.getElem?_eq_getElem (by omega)⟩
          refine got_of (hno j o (by rw [get]; exact ho) (fun e he hb => ?_)) (by rw [T.ls]; omega)
          have := (regB_at hB ho).2.1 e he hb
          exact ih e.on this (by omega)
      by_cases hnl : n < l.length
      · exfalso
        obtain ⟨o, ho⟩ : ∃ o, l[n]? = some o := ⟨_, List.getElem?_eq_getElem hnl⟩
        have := hno n o (by rw [get]; exact ho) (fun e he hb => all e.on ((regB_at hB ho).2.1 e he hb))
        rw [T.post n (Nat.le_refl _) hnl] at this
        cases this
      · have hE := hend a x val iv T.q T.size T.defers T.other (fun j t sp ht hsp => T.facts j t sp ht hsp (all j (by have := (List.getElem?_eq_some_iff.1 hsp).1; omega))) (fun j hj => T.lt j hj (all j hj)) (fun j k hj hk hjk => T.apart j k hj hk hjk (all j hj) (all k hk))
        rw [List.drop_eq_nil_of_le (by omega)] at hE
        exact hE.out
    · by_cases hkl : k < l.length
      · exfalso
        obtain ⟨o, ho⟩ : ∃ o, l[k]? = some o := ⟨_, List.getElem?_eq_getElem hkl⟩
        have := hno k o (by rw [get]; exact ho) (fun e he hb => got_of (hk3 e.on ((regB_at hB ho).2.1 e he hb)) (by rw [hls]; have := (regB_at hB ho).2.1 e he hb; omega))
        rw [hk4 k (Nat.le_refl _) hkl] at this
        cases this
      · rw [List.drop_eq_nil_of_le (by omega)] at hw
        exact hw.out
end Go.Proofs.Ytgaolakfgjmeiab

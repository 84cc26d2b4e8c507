/- The chapter's examples: known. -/
import Derived.Test.YtomcbkpplbijgaaG106a7e7d
import Derived.Test.YtomcbkpplbijgaaG905bd549
import Derived.Test.YtomcbkpplbijgaaG1abd88cb
import Derived.Test.YtomcbkpplbijgaaG3a16b850
import Derived.Test.YtomcbkpplbijgaaGc9b06688
import Derived.Test.YtomcbkpplbijgaaGd32da53e
namespace Go.Proofs.Ytomcbkpplbijgaa
open Go.RowKit
set_option linter.unusedVariables false
set_option linter.unusedSimpArgs false

theorem ex_red : tabB 2 (rdF 4 1 [1065353216, 1073741824, 1082130432, 1090519040]) = [1069023232, 1083310080] := by decide +kernel
theorem ex_exp : tabB 4 (exF 2 1 4 1 [1065353216, 1077936128]) = [1067450368, 1073741824, 1076887552, 1077936128] := by decide +kernel
theorem ex_spc : tabB 1 (rdF 1 1 [4294967295]) = [2143289344] := by decide +kernel
theorem ex_spf : tabB 1 (lkF 1 1 [4294967295]) = [4194304] := by decide +kernel
theorem lit_bdp {xs : List Nat} (h : ∀ x ∈ xs, x < 4294967296) (i : Nat) : xs.getD i 0 < 4294967296 := by
  rw [List.getD_eq_getElem?_getD]
  cases g : xs[i]? with
  | none => show 0 < 4294967296; decide
  | some x => exact h x (List.mem_of_getElem? g)
structure Kb (x : World) (V g n : Nat) (xs : List Nat) : Prop where
  a : x.cell? ⟨V, 0, none⟩ = some (.int .i64 (n : Int))
  b : x.cell? ⟨V, 1, none⟩ = some (.int .i64 1)
  c : x.cell? ⟨V, 2, none⟩ = some (.slice (some ⟨g, 0, none⟩) n n)
  u : UIs x g 0 xs
theorem Kb.nextB {x y : World} {V g n : Nat} {xs : List Nat} (h : Kb x V g n xs) (q : Qb x y) : Kb y V g n xs := ⟨q.cell h.a, q.cell h.b, q.cell h.c, h.u.nextB q⟩
set_option maxHeartbeats 8000000 in
set_option maxRecDepth 100000 in
theorem known14_any (w : World) : Calls Try.prog 9 #[] w fun e w' => e = .returned (.bool true) ∧ Qb w w' := by
  have sz41 : Size 4 1 := ⟨by decide, by decide, by decide, by decide, by decide⟩
  have sz21 : Size 2 1 := ⟨by decide, by decide, by decide, by decide, by decide⟩
  have sz11 : Size 1 1 := ⟨by decide, by decide, by decide, by decide, by decide⟩
  have HC1 : Hid (∀ (W : World) (g : Nat), UIs W g 0 [1065353216, 1073741824, 1082130432, 1090519040] → Calls Try.prog 13 #[.agg #[.int .i64 4, .int .i64 1, .slice (some ⟨g, 0, none⟩) 4 4]] W fun e w' => ∃ g, e = .returned (.tuple #[.agg #[.int .i64 2, .int .i64 1, .slice (some ⟨g, 0, none⟩) 2 2], .int .i64 0]) ∧ UIs w' g 0 [1069023232, 1083310080] ∧ Qb W w') := fun W g hu => (reduce_good 4 1 2 1 2 g 0 4 4 [1065353216, 1073741824, 1082130432, 1090519040] W sz41 rfl rfl rfl rfl rfl (lit_bdp (by decide)) hu (by decide)).mono fun e w' ⟨gt, h1, h2, h3, h4, h5⟩ => ⟨gt, h1, by rw [← ex_red]; exact vr_uis h2, h5⟩
  have HC2 : Hid (∀ (W : World) (g : Nat), UIs W g 0 [1065353216, 1077936128] → Calls Try.prog 17 #[.agg #[.int .i64 2, .int .i64 1, .slice (some ⟨g, 0, none⟩) 2 2], .int .i64 4, .int .i64 1] W fun e w' => ∃ g, e = .returned (.tuple #[.agg #[.int .i64 4, .int .i64 1, .slice (some ⟨g, 0, none⟩) 4 4], .int .i64 0]) ∧ UIs w' g 0 [1067450368, 1073741824, 1076887552, 1077936128] ∧ Qb W w') := fun W g hu => (expand_good 2 1 4 1 4 g 0 2 2 [1065353216, 1077936128] W sz21 rfl sz41 rfl rfl rfl rfl (lit_bdp (by decide)) hu (by decide)).mono fun e w' ⟨gt, h1, h2, h3, h4, h5⟩ => ⟨gt, h1, by rw [← ex_exp]; exact vr_uis h2, h5⟩
  have HC3 : Hid (∀ (W : World) (g : Nat), UIs W g 0 [4294967295] → Calls Try.prog 22 #[.agg #[.int .i64 1, .int .i64 1, .slice (some ⟨g, 0, none⟩) 1 1]] W fun e w' => ∃ gc gl, e = .returned (.tuple #[.agg #[.int .i64 1, .int .i64 1, .slice (some ⟨gc, 0, none⟩) 1 1], .agg #[.int .i64 1, .int .i64 1, .slice (some ⟨gl, 0, none⟩) 1 1], .int .i64 0]) ∧ UIs w' gc 0 [2143289344] ∧ UIs w' gl 0 [4194304] ∧ Qb W w') := fun W g hu => (Split_good 1 1 1 1 1 g 0 1 1 [4294967295] W sz11 rfl rfl rfl rfl rfl (lit_bdp (by decide)) hu (by decide)).mono fun e w' ⟨gc, gl, h1, h2, h3, _, _, _, _, _, h5⟩ => ⟨gc, gl, h1, by rw [← ex_spc]; exact vr_uis h2, by rw [← ex_spf]; exact vr_uis h3, h5⟩
  have HLR : Hid (∀ (W : World) (g n : Nat), Calls Try.prog 35 #[.slice (some ⟨g, 0, none⟩) n n] W fun e w' => e = .returned (.agg #[.int .i64 (n : Int), .int .i64 1, .slice (some ⟨g, 0, none⟩) n n]) ∧ Q W w') := fun W g n => prow_any _ n n W
  clear sz41 sz21 sz11
  go_enter Try.func9, Try.ntmps9
  go_wp2_with fail
  refine (HLR.out _ _ 4).mono ?_
  rintro e w1 ⟨rfl, q1⟩
  have H1 : Hid (UIs w1 w.heap.size 0 [1065353216, 1073741824, 1082130432, 1090519040] ∧ Qb w w1) := ⟨(lit_uis (xs := [1065353216, 1073741824, 1082130432, 1090519040]) rfl).next q1, (((Q.refl w).cells _ _).trans q1).qb⟩
  clear q1
  go_wp2_with fail
  refine (HC1.out w1 _ H1.out.1).mono ?_
  rintro e w2 ⟨g1, rfl, u1, q2⟩
  obtain ⟨w3, hw3⟩ : ∃ w3, w2.alloc (.cells #[.int .i64 2, .int .i64 1, .slice (some ⟨g1, 0, none⟩) 2 2] 24) = w3 := ⟨_, rfl⟩
  have H3 : Hid (Qb w w3 ∧ Kb w3 w2.heap.size g1 2 [1069023232, 1083310080]) := by
    have q23 : Q w2 w3 := by rw [← hw3]; exact (Q.refl w2).cells _ _
    exact ⟨(H1.out.2.trans q2).trans q23.qb, by rw [← hw3]; simp [go_sem], by rw [← hw3]; simp [go_sem], by rw [← hw3]; simp [go_sem], u1.next q23⟩
  clear u1 q2 H1
  go_wp2_with fail
  refine (HLR.out _ _ 2).mono ?_
  rintro e w4 ⟨rfl, q4⟩
  have H4 : Hid (UIs w4 w3.heap.size 0 [1065353216, 1077936128] ∧ Qb w3 w4) := ⟨(lit_uis (xs := [1065353216, 1077936128]) rfl).next q4, (((Q.refl w3).cells _ _).trans q4).qb⟩
  clear q4 hw3
  go_wp2_with fail
  refine (HC2.out w4 _ H4.out.1).mono ?_
  rintro e w5 ⟨g3, rfl, u3, q5⟩
  obtain ⟨w6, hw6⟩ : ∃ w6, w5.alloc (.cells #[.int .i64 4, .int .i64 1, .slice (some ⟨g3, 0, none⟩) 4 4] 24) = w6 := ⟨_, rfl⟩
  have H6 : Hid (Qb w w6 ∧ Kb w6 w2.heap.size g1 2 [1069023232, 1083310080] ∧ Kb w6 w5.heap.size g3 4 [1067450368, 1073741824, 1076887552, 1077936128]) := by
    have q56 : Q w5 w6 := by rw [← hw6]; exact (Q.refl w5).cells _ _
    have q36 := (H4.out.2.trans q5).trans q56.qb
    exact ⟨H3.out.1.trans q36, H3.out.2.nextB q36, by rw [← hw6]; simp [go_sem], by rw [← hw6]; simp [go_sem], by rw [← hw6]; simp [go_sem], u3.next q56⟩
  clear u3 q5 H4 H3
  go_wp2_with fail
  refine (HLR.out _ _ 1).mono ?_
  rintro e w7 ⟨rfl, q7⟩
  have H7 : Hid (UIs w7 w6.heap.size 0 [4294967295] ∧ Qb w6 w7) := ⟨(lit_uis (xs := [4294967295]) rfl).next q7, (((Q.refl w6).cells _ _).trans q7).qb⟩
  clear q7 hw6
  go_wp2_with fail
  refine (HC3.out w7 _ H7.out.1).mono ?_
  rintro e w8 ⟨g5, g6, rfl, u5, u6, q8⟩
  obtain ⟨w9, hw9⟩ : ∃ w9, (w8.alloc (.cells #[.int .i64 1, .int .i64 1, .slice (some ⟨g5, 0, none⟩) 1 1] 24)).alloc (.cells #[.int .i64 1, .int .i64 1, .slice (some ⟨g6, 0, none⟩) 1 1] 24) = w9 := ⟨_, rfl⟩
  have H9 : Hid (Qb w w9 ∧ Kb w9 w2.heap.size g1 2 [1069023232, 1083310080] ∧ Kb w9 w5.heap.size g3 4 [1067450368, 1073741824, 1076887552, 1077936128] ∧ Kb w9 w8.heap.size g5 1 [2143289344] ∧ Kb w9 (w8.heap.size + 1) g6 1 [4194304]) := by
    have q89 : Q w8 w9 := by rw [← hw9]; exact ((Q.refl w8).cells _ _).cells _ _
    have q69 := (H7.out.2.trans q8).trans q89.qb
    exact ⟨H6.out.1.trans q69, H6.out.2.1.nextB q69, H6.out.2.2.nextB q69, ⟨by rw [← hw9]; simp [go_sem], by rw [← hw9]; simp [go_sem], by rw [← hw9]; simp [go_sem], u5.next q89⟩, by rw [← hw9]; simp [go_sem], by rw [← hw9]; simp [go_sem], by rw [← hw9]; simp [go_sem], u6.next q89⟩
  clear u5 u6 q8 H7 H6
  go_wp2_with fail
  have z := H9.out
  refine regionKq rfl rfl (V1 := w2.heap.size) (V3 := w5.heap.size) (V5 := w8.heap.size) (V6 := w8.heap.size + 1) (g1 := g1) (g3 := g3) (g5 := g5) (g6 := g6) ⟨rfl, rfl, rfl, rfl, z.2.1.a, z.2.1.b, z.2.1.c, z.2.1.u, rfl, z.2.2.1.a, z.2.2.1.b, z.2.2.1.c, z.2.2.1.u, rfl, z.2.2.2.1.a, z.2.2.2.1.b, z.2.2.2.1.c, z.2.2.2.1.u, rfl, z.2.2.2.2.a, z.2.2.2.2.b, z.2.2.2.2.c, z.2.2.2.2.u⟩ ?_
  clear z
  intro x v11 v12 v17 v18 v23 v24 v29 v30 qx
  have HX : Hid (Qb w x) := H9.out.1.trans qx.qb
  clear qx hw9
  simp only [putAll]
  go_wp2_with fail
  refine bodyPost_ret (v := .bool true) (by simp [results, Try.results9, go_sem]) rfl ⟨rfl, HX.out⟩
end Go.Proofs.Ytomcbkpplbijgaa
/- pyramid: what weights make of one sample, and of two lines, one nowhere above the other. Plain. -/
namespace Go.Proofs.Ytomcbkpplbijgaa
open Go.RowKit
set_option linter.unusedVariables false
set_option linter.unusedSimpArgs false

/-- The weights' sum is theirs. -/
def Mx.Sm (m : Mx) : Prop := m.sm = smW m.W (m.k + 1)
theorem hlv_sm (n i : Nat) : (hlv n i).Sm := by unfold Mx.Sm; rfl
theorem dbl_sm (n i : Nat) : (dbl n i).Sm := by
  unfold Mx.Sm dbl
  split <;> rfl
theorem mx_key {m : Mx} {n : Nat} (ho : m.Ok n) (hs : m.Sm) {S : Nat → Nat} (hS : ∀ i, i < n → rung32 (S i) < 2139095040) : ∃ k : Nat, 1 ≤ k ∧ (k : Int) = m.sm ∧ srung32 (m.val S) = RS (qsv k (racc m.W (fun t => S (m.fr t)) m.k)) ∧ nanN (m.val S) = false := by
  obtain ⟨j, hj⟩ : ∃ j : Nat, j = 1230 := ⟨_, rfl⟩
  have hk := ho.k14
  obtain ⟨w1, w2⟩ := wac_wb (W := m.W) (S := fun t => S (m.fr t)) hj m.k hk (fun i hi => ⟨hS _ (ho.f i (by omega)), ho.w i (by omega)⟩)
  obtain ⟨k, hk2⟩ : ∃ k : Nat, m.sm = (k : Int) := ⟨m.sm.toNat, by have := ho.s; omega⟩
  have hsm := ho.s
  rw [hk2] at hsm
  have := nar_quo w1 (k := k) (by omega) (by omega) w2 (by omega)
  refine ⟨k, by omega, hk2.symm, ?_, ?_⟩
  · unfold Mx.val wghV
    rw [hk2]
    exact this.1
  · unfold Mx.val wghV
    rw [hk2]
    exact this.2
theorem mx_rises {m : Mx} {n : Nat} (ho : m.Ok n) (hs : m.Sm) {S T : Nat → Nat} (hS : ∀ i, i < n → rung32 (S i) < 2139095040) (hT : ∀ i, i < n → rung32 (T i) < 2139095040) (hle : ∀ i, i < n → srung32 (S i) ≤ srung32 (T i)) : srung32 (m.val S) ≤ srung32 (m.val T) := by
  obtain ⟨k, k1, k2, k3, _⟩ := mx_key ho hs hS
  obtain ⟨l, l1, l2, l3, _⟩ := mx_key ho hs hT
  have e : l = k := by omega
  subst e
  rw [k3, l3]
  exact RS_mono (qsv_mono k1 (racc_mono _ (fun i hi => ⟨(ho.w i (by omega)).1, hle _ (ho.f i (by omega))⟩)))
theorem w5_four : ∀ x ∈ [0, 2147483648, 2139095040, 4286578688], wghV 4 w5 16 (fun _ => x) = x := by decide +kernel
theorem w3_four : ∀ x ∈ [0, 2147483648, 2139095040, 4286578688], wghV 2 w3 8 (fun _ => x) = x := by decide +kernel
theorem w2_four : ∀ x ∈ [0, 2147483648, 2139095040, 4286578688], wghV 1 w2 2 (fun _ => x) = x := by decide +kernel
/-- One of the three. -/
def Mx.Of (m : Mx) : Prop := (m.k = 4 ∧ m.W = w5 ∧ m.sm = 16) ∨ (m.k = 2 ∧ m.W = w3 ∧ m.sm = 8) ∨ (m.k = 1 ∧ m.W = w2 ∧ m.sm = 2)
theorem hlv_of (n i : Nat) : (hlv n i).Of := Or.inl ⟨rfl, rfl, rfl⟩
theorem dbl_of (n i : Nat) : (dbl n i).Of := by
  unfold dbl
  split
  · exact Or.inr (Or.inl ⟨rfl, rfl, rfl⟩)
  · exact Or.inr (Or.inr ⟨rfl, rfl, rfl⟩)
theorem mx_const {m : Mx} {n : Nat} (ho : m.Ok n) (hs : m.Sm) (hm : m.Of) {S : Nat → Nat} {x : Nat} (hx : rung32 x ≤ 2139095040) (hx4 : x < 4294967296) (hS : ∀ i, i < n → S i = x) : m.val S = x := by
  rw [m.val_congr ho (T := fun _ => x) hS]
  by_cases hz : srung32 x = 0 ∨ rung32 x = 2139095040
  · have hmem : x ∈ [0, 2147483648, 2139095040, 4286578688] := by
      simp only [List.mem_cons, List.not_mem_nil, or_false]
      unfold srung32 rung32 at hz
      unfold rung32 at hx
      rcases hz with h | h
      · split at h <;> omega
      · omega
    unfold Mx.val
    rcases hm with ⟨a, b, c⟩ | ⟨a, b, c⟩ | ⟨a, b, c⟩
    · rw [a, b, c]; exact w5_four x hmem
    · rw [a, b, c]; exact w3_four x hmem
    · rw [a, b, c]; exact w2_four x hmem
  · have hf : rung32 x < 2139095040 := by omega
    obtain ⟨k, k1, k2, k3, _⟩ := mx_key ho hs (S := fun _ => x) (fun _ _ => hf)
    rw [racc_const hf m.k ho.k14 (fun i hi => ho.w i (by omega)), ← hs, ← k2, qsv_exact hf k1, RS_self hf] at k3
    exact word_of_srung (Mx.val_lt _ _) hx4 k3 (by omega)
theorem mx_between {m : Mx} {n : Nat} (ho : m.Ok n) (hs : m.Sm) (hm : m.Of) {S : Nat → Nat} {lo hi : Nat} (hlo : rung32 lo < 2139095040 ∧ lo < 4294967296) (hhi : rung32 hi < 2139095040 ∧ hi < 4294967296) (hS : ∀ i, i < n → rung32 (S i) < 2139095040 ∧ srung32 lo ≤ srung32 (S i) ∧ srung32 (S i) ≤ srung32 hi) : rung32 (m.val S) < 2139095040 ∧ srung32 lo ≤ srung32 (m.val S) ∧ srung32 (m.val S) ≤ srung32 hi := by
  have cl := mx_const ho hs hm (S := fun _ => lo) (x := lo) (by omega) hlo.2 (fun _ _ => rfl)
  have ch := mx_const ho hs hm (S := fun _ => hi) (x := hi) (by omega) hhi.2 (fun _ _ => rfl)
  have r1 := mx_rises ho hs (S := fun _ => lo) (T := S) (fun _ _ => hlo.1) (fun i h => (hS i h).1) (fun i h => (hS i h).2.1)
  have r2 := mx_rises ho hs (S := S) (T := fun _ => hi) (fun i h => (hS i h).1) (fun _ _ => hhi.1) (fun i h => (hS i h).2.2)
  rw [cl] at r1
  rw [ch] at r2
  have f1 := fin_srung hlo.1
  have f2 := fin_srung hhi.1
  exact ⟨fin_of_srungb ⟨by omega, by omega⟩, r1, r2⟩
/-- A relation of samples that mixtures of lines of n keep. -/
def Keeps (R : Nat → Nat → Prop) (L : Nat → Mx) (n : Nat) : Prop := ∀ i S T, (∀ t, t < n → R (S t) (T t)) → R ((L i).val S) ((L i).val T)
theorem acr_rel {R : Nat → Nat → Prop} {L : Nat → Mx} {nr pa pb : Nat} {S T : List Nat} (hR : Keeps R L pa) (hr : 0 < nr) (h : ∀ i, i < pa * pb → R (S.getD i 0) (T.getD i 0)) {j : Nat} (hj : j < nr * pb) : R (acrF L nr pa S j) (acrF L nr pa T j) := by
  unfold acrF
  refine hR _ _ _ (fun t ht => h _ ?_)
  exact place_lt ht ((row_lt hj).2.2)
theorem dwn_rel {R : Nat → Nat → Prop} {L : Nat → Mx} {pa pb nc : Nat} {S T : List Nat} (hR : Keeps R L pb) (h : ∀ i, i < pa * pb → R (S.getD i 0) (T.getD i 0)) {j : Nat} (hj : j < pa * nc) : R (dwnF L pa S j) (dwnF L pa T j) := by
  unfold dwnF
  refine hR _ _ _ (fun t ht => h _ ?_)
  exact place_lt ((row_lt hj).2.1) ht
theorem rd_rel {R : Nat → Nat → Prop} {pa pb : Nat} {S T : List Nat} (hsz : Size pa pb) (h1 : Keeps R (hlv pa) pa) (h2 : Keeps R (hlv pb) pb) (h : ∀ i, i < pa * pb → R (S.getD i 0) (T.getD i 0)) {j : Nat} (hj : j < (pa + 1) / 2 * ((pb + 1) / 2)) : R (rdF pa pb S j) (rdF pa pb T j) := by
  unfold rdF
  refine dwn_rel (nc := (pb + 1) / 2) (pb := pb) h2 (fun i hi => ?_) hj
  rw [tabB_at hi, tabB_at hi]
  exact acr_rel h1 (by have := hsz.a1; omega) h hi
theorem ex_rel {R : Nat → Nat → Prop} {pa pb a b : Nat} {S T : List Nat} (ha : 0 < a) (h1 : Keeps R (dbl pa) pa) (h2 : Keeps R (dbl pb) pb) (h : ∀ i, i < pa * pb → R (S.getD i 0) (T.getD i 0)) {j : Nat} (hj : j < a * b) : R (exF pa pb a b S j) (exF pa pb a b T j) := by
  unfold exF
  refine dwn_rel (nc := b) (pb := pb) h2 (fun i hi => ?_) hj
  rw [tabB_at hi, tabB_at hi]
  exact acr_rel h1 ha h hi
/-- One sample stays. -/
theorem keeps_const {x n : Nat} (hx : rung32 x ≤ 2139095040) (hx4 : x < 4294967296) {L : Nat → Mx} (ho : ∀ i, (L i).Ok n) (hs : ∀ i, (L i).Sm) (hm : ∀ i, (L i).Of) : Keeps (fun a b => a = x) L n := fun i S T h => mx_const (ho i) (hs i) (hm i) hx hx4 h
theorem rd_const {pa pb x : Nat} {S : List Nat} (hsz : Size pa pb) (hx : rung32 x ≤ 2139095040) (hx4 : x < 4294967296) (h : ∀ i, i < pa * pb → S.getD i 0 = x) {j : Nat} (hj : j < (pa + 1) / 2 * ((pb + 1) / 2)) : rdF pa pb S j = x :=
  rd_rel (R := fun a b => a = x) (T := S) hsz (keeps_const hx hx4 (hlv_ok hsz.a1) (hlv_sm pa) (hlv_of pa)) (keeps_const hx hx4 (hlv_ok hsz.b1) (hlv_sm pb) (hlv_of pb)) h hj
theorem ex_const {pa pb a b x : Nat} {S : List Nat} (hsz : Size pa pb) (ha : 0 < a) (hx : rung32 x ≤ 2139095040) (hx4 : x < 4294967296) (h : ∀ i, i < pa * pb → S.getD i 0 = x) {j : Nat} (hj : j < a * b) : exF pa pb a b S j = x :=
  ex_rel (R := fun a b => a = x) (T := S) ha (keeps_const hx hx4 (dbl_ok hsz.a1) (dbl_sm pa) (dbl_of pa)) (keeps_const hx hx4 (dbl_ok hsz.b1) (dbl_sm pb) (dbl_of pb)) h hj
theorem lk_const {pa pb x : Nat} {S : List Nat} (hsz : Size pa pb) (hx : rung32 x ≤ 2139095040) (hx4 : x < 4294967296) (h : ∀ i, i < pa * pb → S.getD i 0 = x) {j : Nat} (hj : j < pa * pb) : lkF pa pb S j = 0 := by
  unfold lkF gsF
  rw [h j hj, ex_const hsz.half (by have := hsz.a1; omega) hx hx4 (fun i hi => by rw [tabB_at hi]; exact rd_const hsz hx hx4 h hi) hj]
  unfold subN
  have := keyN_lt hx4
  omega
end Go.Proofs.Ytomcbkpplbijgaa
/- PyramidConstant: one sample stays; nothing lacks. -/
namespace Go.Proofs.Ytomcbkpplbijgaa
open Go.RowKit
set_option linter.unusedVariables false
set_option linter.unusedSimpArgs false

theorem tabB_same {n x : Nat} {F : Nat → Nat} {a b : Nat} (hn : n = a * b) (h : ∀ j, j < n → F j = x) : tabB n F = tab a b (fun _ _ => x) := by
  apply list_ext (by rw [tabB_len, tab_length, hn])
  intro i hi
  rw [tabB_len] at hi
  rw [tabB_at hi, tab_get (by rw [← hn]; exact hi), h i hi]
/-- What the statement asks of a sample. -/
theorem smp_kind {x : Nat} (hx4 : x < 4294967296) (h : ¬ (x / 8388608 % 256 = 255 ∧ ¬ x % 8388608 = 0)) : rung32 x ≤ 2139095040 := by
  unfold rung32
  omega
structure Bxp (x : World) (V a b g n : Nat) (S : List Nat) : Prop where
  p : PBx x V a b (.slice (some ⟨g, 0, none⟩) n n)
  u : UIs x g 0 S
theorem Bxp.nextB {x y : World} {V a b g n : Nat} {S : List Nat} (h : Bxp x V a b g n S) (q : Qb x y) : Bxp y V a b g n S := ⟨⟨q.cell h.p.c0, q.cell h.p.c1, q.cell h.p.c2⟩, h.u.nextB q⟩
theorem bxp_new {x y : World} {a b g n : Nat} {S : List Nat} (hu : UIs x g 0 S) (hy : x.alloc (.cells #[.int .i64 (a : Int), .int .i64 (b : Int), .slice (some ⟨g, 0, none⟩) n n] 24) = y) : Bxp y x.heap.size a b g n S ∧ Qb x y := by
  have q : Q x y := by rw [← hy]; exact (Q.refl x).cells _ _
  exact ⟨⟨⟨by rw [← hy]; simp [go_sem], by rw [← hy]; simp [go_sem], by rw [← hy]; simp [go_sem]⟩, hu.next q⟩, q.qb⟩
set_option maxHeartbeats 16000000 in
set_option maxRecDepth 100000 in
theorem pconst_good (a b s nr nc n np : Nat) (w : World) (hsz : Size a b) (hs4 : s < 4294967296) (hs : rung32 s ≤ 2139095040) (hk : ¬ (s / 8388608 % 256 = 255 ∧ ¬ s % 8388608 = 0)) (h4096 : a * b ≤ 4096) (hnr : (a + 1) / 2 = nr) (hnc : (b + 1) / 2 = nc) (hn : nr * nc = n) (hnp : a * b = np) :
    Calls Try.prog 8 #[.int .i64 (a : Int), .int .i64 (b : Int), .int .u32 (s : Int)] w fun e w' => e = .returned (.bool true) ∧ Qb w w' := by
  have hszc : Size nr nc := by rw [← hnr, ← hnc]; exact hsz.half
  obtain ⟨PA, hPA⟩ : ∃ PA, tab a b (fun _ _ => s) = PA := ⟨_, rfl⟩
  obtain ⟨PH, hPH⟩ : ∃ PH, tab nr nc (fun _ _ => s) = PH := ⟨_, rfl⟩
  obtain ⟨PZ, hPZ⟩ : ∃ PZ, tab a b (fun _ _ => 0) = PZ := ⟨_, rfl⟩
  have lA : PA.length = np := by rw [← hPA, tab_length, hnp]
  have lH : PH.length = n := by rw [← hPH, tab_length, hn]
  have lZ : PZ.length = np := by rw [← hPZ, tab_length, hnp]
  have bA : ∀ i, PA.getD i 0 < 4294967296 := by rw [← hPA]; exact tab_lt (by decide) (fun _ _ => hs4)
  have bH : ∀ i, PH.getD i 0 < 4294967296 := by rw [← hPH]; exact tab_lt (by decide) (fun _ _ => hs4)
  have aA : ∀ i, i < a * b → PA.getD i 0 = s := fun i hi => by rw [← hPA, tab_get hi]
  have aH : ∀ i, i < nr * nc → PH.getD i 0 = s := fun i hi => by rw [← hPH, tab_get hi]
  have CN1 : Hid (∀ w : World, Calls Try.prog 34 #[.int .i64 (a : Int), .int .i64 (b : Int), .int .u32 (s : Int)] w fun e w' => ∃ g, e = .returned (.tuple #[.agg #[.int .i64 (a : Int), .int .i64 (b : Int), .slice (some ⟨g, 0, none⟩) np np], .int .i64 0]) ∧ UIs w' g 0 PA ∧ Qb w w') := fun w => (new_good hsz s w).mono fun e w' ⟨g, h1, h2⟩ => ⟨g, by rw [← hnp]; exact h1, by rw [← hPA]; exact h2.cells, h2.q.qb⟩
  have CN2 : Hid (∀ w : World, Calls Try.prog 34 #[.int .i64 (nr : Int), .int .i64 (nc : Int), .int .u32 (s : Int)] w fun e w' => ∃ g, e = .returned (.tuple #[.agg #[.int .i64 (nr : Int), .int .i64 (nc : Int), .slice (some ⟨g, 0, none⟩) n n], .int .i64 0]) ∧ UIs w' g 0 PH ∧ Qb w w') := fun w => (new_good hszc s w).mono fun e w' ⟨g, h1, h2⟩ => ⟨g, by rw [← hn]; exact h1, by rw [← hPH]; exact h2.cells, h2.q.qb⟩
  have CN3 : Hid (∀ w : World, Calls Try.prog 34 #[.int .i64 (a : Int), .int .i64 (b : Int), .int .u32 0] w fun e w' => ∃ g, e = .returned (.tuple #[.agg #[.int .i64 (a : Int), .int .i64 (b : Int), .slice (some ⟨g, 0, none⟩) np np], .int .i64 0]) ∧ UIs w' g 0 PZ ∧ Qb w w') := fun w => (new_good hsz 0 w).mono fun e w' ⟨g, h1, h2⟩ => ⟨g, by rw [← hnp]; exact h1, by rw [← hPZ]; exact h2.cells, h2.q.qb⟩
  have CR : Hid (∀ (x : World) (g : Nat), UIs x g 0 PA → Calls Try.prog 13 #[.agg #[.int .i64 (a : Int), .int .i64 (b : Int), .slice (some ⟨g, 0, none⟩) np np]] x fun e w' => ∃ gt, e = .returned (.tuple #[.agg #[.int .i64 (nr : Int), .int .i64 (nc : Int), .slice (some ⟨gt, 0, none⟩) n n], .int .i64 0]) ∧ UIs w' gt 0 PH ∧ Qb x w') := fun x g hu => (reduce_good a b nr nc n g 0 np np PA x hsz hnp.symm hnr hnc hn lA bA hu (Nat.le_refl _)).mono fun e w' ⟨gt, h1, h2, _, _, h5⟩ => ⟨gt, h1, by rw [← hPH, ← tabB_same hn.symm (fun j hj => rd_const hsz hs hs4 aA (by rw [hnr, hnc, hn]; exact hj))]; exact vr_uis h2, h5⟩
  have CX : Hid (∀ (x : World) (g : Nat), UIs x g 0 PH → Calls Try.prog 17 #[.agg #[.int .i64 (nr : Int), .int .i64 (nc : Int), .slice (some ⟨g, 0, none⟩) n n], .int .i64 (a : Int), .int .i64 (b : Int)] x fun e w' => ∃ gt, e = .returned (.tuple #[.agg #[.int .i64 (a : Int), .int .i64 (b : Int), .slice (some ⟨gt, 0, none⟩) np np], .int .i64 0]) ∧ UIs w' gt 0 PA ∧ Qb x w') := fun x g hu => (expand_good nr nc a b np g 0 n n PH x hszc hn.symm hsz hnr hnc hnp lH bH hu (Nat.le_refl _)).mono fun e w' ⟨gt, h1, h2, _, _, h5⟩ => ⟨gt, h1, by rw [← hPA, ← tabB_same hnp.symm (fun j hj => ex_const (a := a) (b := b) hszc (by have := hsz.a1; omega) hs hs4 aH (by rw [hnp]; exact hj))]; exact vr_uis h2, h5⟩
  have CS : Hid (∀ (x : World) (g : Nat), UIs x g 0 PA → Calls Try.prog 22 #[.agg #[.int .i64 (a : Int), .int .i64 (b : Int), .slice (some ⟨g, 0, none⟩) np np]] x fun e w' => ∃ gc gl, e = .returned (.tuple #[.agg #[.int .i64 (nr : Int), .int .i64 (nc : Int), .slice (some ⟨gc, 0, none⟩) n n], .agg #[.int .i64 (a : Int), .int .i64 (b : Int), .slice (some ⟨gl, 0, none⟩) np np], .int .i64 0]) ∧ UIs w' gc 0 PH ∧ UIs w' gl 0 PZ ∧ Qb x w') := fun x g hu => (Split_good a b nr nc n g 0 np np PA x hsz hnp.symm hnr hnc hn lA bA hu (Nat.le_refl _)).mono fun e w' ⟨gc, gl, h1, h2, h3, _, _, _, _, _, h5⟩ => ⟨gc, gl, h1, by rw [← hPH, ← tabB_same hn.symm (fun j hj => rd_const hsz hs hs4 aA (by rw [hnr, hnc, hn]; exact hj))]; exact vr_uis h2, by rw [← hPZ, ← tabB_same hnp.symm (fun j hj => lk_const hsz hs hs4 aA (by rw [hnp]; exact hj))]; exact vr_uis h3, h5⟩
  have CM : Hid (∀ x : World, Calls Try.prog 14 #[.int .i64 0] x fun e w' => e = .returned (.int .i64 0) ∧ w' = x) := fun x => num14_any 0 x
  have CP : Hid (∀ (x : World) (p q u v m : Nat) (S : List Nat), S.length = m → m ≤ 65536 → UIs x p 0 S → UIs x q 0 S → Calls Try.prog 15 #[.agg #[.int .i64 (u : Int), .int .i64 (v : Int), .slice (some ⟨p, 0, none⟩) m m], .agg #[.int .i64 (u : Int), .int .i64 (v : Int), .slice (some ⟨q, 0, none⟩) m m]] x fun e w' => e = .returned (.bool true) ∧ Qb x w') := fun x p q u v m S hl hm h1 h2 => (hplanes_yes u v (some ⟨p, 0, none⟩) (some ⟨q, 0, none⟩) m m m S x (by have := h1.usl (cap := m) (by omega); rwa [hl] at this) (by have := h2.usl (cap := m) (by omega); rwa [hl] at this) (by omega)).mono fun e w' ⟨e1, e2⟩ => ⟨e1, e2.qb⟩
  have CH : Hid (∀ x : World, Calls Try.prog 33 #[.int .i64 (a : Int), .int .i64 (b : Int)] x fun e w' => e = .returned (.bool true) ∧ w' = x) := fun x => by have := hsize_b a b x; rw [sizeB_true.2 hsz.b] at this; exact this
  have HB : Hid (n ≤ 65536 ∧ np ≤ 65536 ∧ PA.length = np ∧ PH.length = n ∧ PZ.length = np) := ⟨by rw [← hn]; exact hszc.ab, by rw [← hnp]; exact hsz.ab, lA, lH, lZ⟩
  have hml : (a : Int) * (b : Int) = (np : Int) := by rw [← Int.natCast_mul, hnp]
  have hmb : (np : Int) ≤ 4096 := by omega
  have hdr : Int.tdiv ((a : Int) + 1) 2 = (nr : Int) := by rw [Int.tdiv_eq_ediv_of_nonneg (by omega)]; omega
  have hdc : Int.tdiv ((b : Int) + 1) 2 = (nc : Int) := by rw [Int.tdiv_eq_ediv_of_nonneg (by omega)]; omega
  have hr1 := hszc.a2
  have hc1 := hszc.b2
  have hwr1 : wrap64 (nr : Int) = (nr : Int) := by unfold wrap64; omega
  have hwc1 : wrap64 (nc : Int) = (nc : Int) := by unfold wrap64; omega
  have ha1 := hsz.a2
  have hb1 := hsz.b2
  obtain ⟨sq, hsq⟩ : ∃ sq, s / 8388608 % 256 = sq := ⟨_, rfl⟩
  obtain ⟨sr, hsr⟩ : ∃ sr, s % 8388608 = sr := ⟨_, rfl⟩
  have eq1 : (s : Int) / 8388608 % 256 = (sq : Int) := by omega
  have er1 : (s : Int) % 8388608 = (sr : Int) := by omega
  have hgt : ¬ (4096 : Int) < (np : Int) := by omega
  have hgt2 : decide ((4096 : Int) < (np : Int)) = false := decide_eq_false hgt
  have hgt3 : ¬ 4096 < np := by omega
  rw [hsq, hsr] at hk
  clear hnr hnc hn hnp hPA hPH hPZ lA lH lZ bA bH aA aH hsz hszc hs h4096 hsq hsr
  go_enter Try.func8, Try.ntmps8
  go_wp2_with fail
  refine (known14_any w).mono ?_
  rintro e w1 ⟨rfl, q1⟩
  have H1 : Hid (Qb w w1) := q1
  clear q1
  go_wp2_with fail
  refine (CH.out _).mono ?_
  rintro e w2 ⟨rfl, hw2⟩
  obtain rfl := hw2.symm
  by_cases hq : sq = 255
  · have hr0 : sr = 0 := by omega
    subst hq
    subst hr0
    go_wp2_with fail
    clear eq1 er1 hgt hgt2 hgt3 hmb hs4
    refine (CN1.out _).mono ?_
    rintro e w2 ⟨gB7, rfl, uB7, qw2⟩
    obtain ⟨w3, hw3⟩ : ∃ w3, w2.alloc (.cells #[.int .i64 (a : Int), .int .i64 (b : Int), .slice (some ⟨gB7, 0, none⟩) np np] 24) = w3 := ⟨_, rfl⟩
    obtain ⟨hnB7, qy⟩ := bxp_new uB7 hw3
    have qq := qw2.trans qy
    replace H1 : Hid (Qb w w3) := H1.out.trans qq
    have B7 : Hid (Bxp w3 w2.heap.size a b gB7 np PA) := hnB7
    clear hnB7 qy qq qw2 uB7
    go_wp2_with fail
    clear hw3
    refine (CN2.out _).mono ?_
    rintro e w4 ⟨gB9, rfl, uB9, qw4⟩
    obtain ⟨w5, hw5⟩ : ∃ w5, w4.alloc (.cells #[.int .i64 (nr : Int), .int .i64 (nc : Int), .slice (some ⟨gB9, 0, none⟩) n n] 24) = w5 := ⟨_, rfl⟩
    obtain ⟨hnB9, qy⟩ := bxp_new uB9 hw5
    have qq := qw4.trans qy
    replace B7 : Hid (Bxp w5 w2.heap.size a b gB7 np PA) := B7.out.nextB qq
    replace H1 : Hid (Qb w w5) := H1.out.trans qq
    have B9 : Hid (Bxp w5 w4.heap.size nr nc gB9 n PH) := hnB9
    clear hnB9 qy qq qw4 uB9
    go_wp2_with fail
    clear hw5
    clear hdr hdc hwr1 hwc1
    refine (CN3.out _).mono ?_
    rintro e w6 ⟨gBz, rfl, uBz, qw6⟩
    obtain ⟨w7, hw7⟩ : ∃ w7, w6.alloc (.cells #[.int .i64 (a : Int), .int .i64 (b : Int), .slice (some ⟨gBz, 0, none⟩) np np] 24) = w7 := ⟨_, rfl⟩
    obtain ⟨hnBz, qy⟩ := bxp_new uBz hw7
    have qq := qw6.trans qy
    replace B7 : Hid (Bxp w7 w2.heap.size a b gB7 np PA) := B7.out.nextB qq
    replace B9 : Hid (Bxp w7 w4.heap.size nr nc gB9 n PH) := B9.out.nextB qq
    replace H1 : Hid (Qb w w7) := H1.out.trans qq
    have Bz : Hid (Bxp w7 w6.heap.size a b gBz np PZ) := hnBz
    clear hnBz qy qq qw6 uBz
    have kB70 := B7.out.p.c0
    have kB71 := B7.out.p.c1
    have kB72 := B7.out.p.c2
    go_wp2_with fail
    clear kB70 kB71 kB72
    clear hw7
    refine (CR.out _ _ B7.out.u).mono ?_
    rintro e w8 ⟨gBr, rfl, uBr, qw8⟩
    obtain ⟨w9, hw9⟩ : ∃ w9, w8.alloc (.cells #[.int .i64 (nr : Int), .int .i64 (nc : Int), .slice (some ⟨gBr, 0, none⟩) n n] 24) = w9 := ⟨_, rfl⟩
    obtain ⟨hnBr, qy⟩ := bxp_new uBr hw9
    have qq := qw8.trans qy
    replace B7 : Hid (Bxp w9 w2.heap.size a b gB7 np PA) := B7.out.nextB qq
    replace B9 : Hid (Bxp w9 w4.heap.size nr nc gB9 n PH) := B9.out.nextB qq
    replace Bz : Hid (Bxp w9 w6.heap.size a b gBz np PZ) := Bz.out.nextB qq
    replace H1 : Hid (Qb w w9) := H1.out.trans qq
    have Br : Hid (Bxp w9 w8.heap.size nr nc gBr n PH) := hnBr
    clear hnBr qy qq qw8 uBr
    have kB90 := B9.out.p.c0
    have kB91 := B9.out.p.c1
    have kB92 := B9.out.p.c2
    go_wp2_with fail
    clear kB90 kB91 kB92
    clear hw9
    refine (CX.out _ _ B9.out.u).mono ?_
    rintro e w10 ⟨gBx, rfl, uBx, qw10⟩
    obtain ⟨w11, hw11⟩ : ∃ w11, w10.alloc (.cells #[.int .i64 (a : Int), .int .i64 (b : Int), .slice (some ⟨gBx, 0, none⟩) np np] 24) = w11 := ⟨_, rfl⟩
    obtain ⟨hnBx, qy⟩ := bxp_new uBx hw11
    have qq := qw10.trans qy
    replace B7 : Hid (Bxp w11 w2.heap.size a b gB7 np PA) := B7.out.nextB qq
    replace B9 : Hid (Bxp w11 w4.heap.size nr nc gB9 n PH) := B9.out.nextB qq
    replace Bz : Hid (Bxp w11 w6.heap.size a b gBz np PZ) := Bz.out.nextB qq
    replace Br : Hid (Bxp w11 w8.heap.size nr nc gBr n PH) := Br.out.nextB qq
    replace H1 : Hid (Qb w w11) := H1.out.trans qq
    have Bx : Hid (Bxp w11 w10.heap.size a b gBx np PA) := hnBx
    clear hnBx qy qq qw10 uBx
    have kB70 := B7.out.p.c0
    have kB71 := B7.out.p.c1
    have kB72 := B7.out.p.c2
    go_wp2_with fail
    clear kB70 kB71 kB72
    clear hw11
    refine (CS.out _ _ B7.out.u).mono ?_
    rintro e w12 ⟨gBc, gBl, rfl, uBc, uBl, qw12⟩
    obtain ⟨w14, hw14⟩ : ∃ w14, w12.alloc (.cells #[.int .i64 (nr : Int), .int .i64 (nc : Int), .slice (some ⟨gBc, 0, none⟩) n n] 24) = w14 := ⟨_, rfl⟩
    obtain ⟨w13, hw13⟩ : ∃ w13, w14.alloc (.cells #[.int .i64 (a : Int), .int .i64 (b : Int), .slice (some ⟨gBl, 0, none⟩) np np] 24) = w13 := ⟨_, rfl⟩
    obtain ⟨hnBc, qz⟩ := bxp_new uBc hw14
    obtain ⟨hnBl, qy⟩ := bxp_new (uBl.nextB qz) hw13
    have sz : w14.heap.size = w12.heap.size + 1 := by rw [← hw14]; simp
    rw [sz] at hnBl
    have qq := (qw12.trans qz).trans qy
    replace B7 : Hid (Bxp w13 w2.heap.size a b gB7 np PA) := B7.out.nextB qq
    replace B9 : Hid (Bxp w13 w4.heap.size nr nc gB9 n PH) := B9.out.nextB qq
    replace Bz : Hid (Bxp w13 w6.heap.size a b gBz np PZ) := Bz.out.nextB qq
    replace Br : Hid (Bxp w13 w8.heap.size nr nc gBr n PH) := Br.out.nextB qq
    replace Bx : Hid (Bxp w13 w10.heap.size a b gBx np PA) := Bx.out.nextB qq
    replace H1 : Hid (Qb w w13) := H1.out.trans qq
    have Bc : Hid (Bxp w13 w12.heap.size nr nc gBc n PH) := hnBc.nextB qy
    have Bl : Hid (Bxp w13 (w12.heap.size + 1) a b gBl np PZ) := hnBl
    have hw132 : (w12.alloc (.cells #[.int .i64 (nr : Int), .int .i64 (nc : Int), .slice (some ⟨gBc, 0, none⟩) n n] 24)).alloc (.cells #[.int .i64 (a : Int), .int .i64 (b : Int), .slice (some ⟨gBl, 0, none⟩) np np] 24) = w13 := by rw [hw14]; exact hw13
    clear hnBc hnBl qz qy qq qw12 uBc uBl sz hw13 hw14
    go_wp2_with fail
    refine (CM.out _).mono ?_
    rintro e wn0 ⟨rfl, hwn⟩
    obtain rfl := hwn.symm
    clear hw132
    go_wp2_with fail
    refine (CM.out _).mono ?_
    rintro e wn1 ⟨rfl, hwn⟩
    obtain rfl := hwn.symm
    go_wp2_with fail
    refine (CM.out _).mono ?_
    rintro e wn2 ⟨rfl, hwn⟩
    obtain rfl := hwn.symm
    have kBr0 := Br.out.p.c0
    have kBr1 := Br.out.p.c1
    have kBr2 := Br.out.p.c2
    have kB90 := B9.out.p.c0
    have kB91 := B9.out.p.c1
    have kB92 := B9.out.p.c2
    go_wp2_with fail
    clear kBr0 kBr1 kBr2
    clear kB90 kB91 kB92
    refine (CP.out _ _ _ nr nc n PH HB.out.2.2.2.1 HB.out.1 Br.out.u B9.out.u).mono ?_
    rintro e w15 ⟨rfl, qq⟩
    replace B7 : Hid (Bxp w15 w2.heap.size a b gB7 np PA) := B7.out.nextB qq
    replace B9 : Hid (Bxp w15 w4.heap.size nr nc gB9 n PH) := B9.out.nextB qq
    replace Bz : Hid (Bxp w15 w6.heap.size a b gBz np PZ) := Bz.out.nextB qq
    replace Br : Hid (Bxp w15 w8.heap.size nr nc gBr n PH) := Br.out.nextB qq
    replace Bx : Hid (Bxp w15 w10.heap.size a b gBx np PA) := Bx.out.nextB qq
    replace Bc : Hid (Bxp w15 w12.heap.size nr nc gBc n PH) := Bc.out.nextB qq
    replace Bl : Hid (Bxp w15 (w12.heap.size + 1) a b gBl np PZ) := Bl.out.nextB qq
    replace H1 : Hid (Qb w w15) := H1.out.trans qq
    clear qq
    have kBx0 := Bx.out.p.c0
    have kBx1 := Bx.out.p.c1
    have kBx2 := Bx.out.p.c2
    have kB70 := B7.out.p.c0
    have kB71 := B7.out.p.c1
    have kB72 := B7.out.p.c2
    go_wp2_with fail
    clear kBx0 kBx1 kBx2
    clear kB70 kB71 kB72
    refine (CP.out _ _ _ a b np PA HB.out.2.2.1 HB.out.2.1 Bx.out.u B7.out.u).mono ?_
    rintro e w16 ⟨rfl, qq⟩
    replace B7 : Hid (Bxp w16 w2.heap.size a b gB7 np PA) := B7.out.nextB qq
    replace B9 : Hid (Bxp w16 w4.heap.size nr nc gB9 n PH) := B9.out.nextB qq
    replace Bz : Hid (Bxp w16 w6.heap.size a b gBz np PZ) := Bz.out.nextB qq
    replace Br : Hid (Bxp w16 w8.heap.size nr nc gBr n PH) := Br.out.nextB qq
    replace Bx : Hid (Bxp w16 w10.heap.size a b gBx np PA) := Bx.out.nextB qq
    replace Bc : Hid (Bxp w16 w12.heap.size nr nc gBc n PH) := Bc.out.nextB qq
    replace Bl : Hid (Bxp w16 (w12.heap.size + 1) a b gBl np PZ) := Bl.out.nextB qq
    replace H1 : Hid (Qb w w16) := H1.out.trans qq
    clear qq
    have kBc0 := Bc.out.p.c0
    have kBc1 := Bc.out.p.c1
    have kBc2 := Bc.out.p.c2
    have kB90 := B9.out.p.c0
    have kB91 := B9.out.p.c1
    have kB92 := B9.out.p.c2
    go_wp2_with fail
    clear kBc0 kBc1 kBc2
    clear kB90 kB91 kB92
    refine (CP.out _ _ _ nr nc n PH HB.out.2.2.2.1 HB.out.1 Bc.out.u B9.out.u).mono ?_
    rintro e w17 ⟨rfl, qq⟩
    replace B7 : Hid (Bxp w17 w2.heap.size a b gB7 np PA) := B7.out.nextB qq
    replace B9 : Hid (Bxp w17 w4.heap.size nr nc gB9 n PH) := B9.out.nextB qq
    replace Bz : Hid (Bxp w17 w6.heap.size a b gBz np PZ) := Bz.out.nextB qq
    replace Br : Hid (Bxp w17 w8.heap.size nr nc gBr n PH) := Br.out.nextB qq
    replace Bx : Hid (Bxp w17 w10.heap.size a b gBx np PA) := Bx.out.nextB qq
    replace Bc : Hid (Bxp w17 w12.heap.size nr nc gBc n PH) := Bc.out.nextB qq
    replace Bl : Hid (Bxp w17 (w12.heap.size + 1) a b gBl np PZ) := Bl.out.nextB qq
    replace H1 : Hid (Qb w w17) := H1.out.trans qq
    clear qq
    have kBl0 := Bl.out.p.c0
    have kBl1 := Bl.out.p.c1
    have kBl2 := Bl.out.p.c2
    have kBz0 := Bz.out.p.c0
    have kBz1 := Bz.out.p.c1
    have kBz2 := Bz.out.p.c2
    go_wp2_with fail
    clear kBl0 kBl1 kBl2
    clear kBz0 kBz1 kBz2
    refine (CP.out _ _ _ a b np PZ HB.out.2.2.2.2 HB.out.2.1 Bl.out.u Bz.out.u).mono ?_
    rintro e w18 ⟨rfl, qq⟩
    replace B7 : Hid (Bxp w18 w2.heap.size a b gB7 np PA) := B7.out.nextB qq
    replace B9 : Hid (Bxp w18 w4.heap.size nr nc gB9 n PH) := B9.out.nextB qq
    replace Bz : Hid (Bxp w18 w6.heap.size a b gBz np PZ) := Bz.out.nextB qq
    replace Br : Hid (Bxp w18 w8.heap.size nr nc gBr n PH) := Br.out.nextB qq
    replace Bx : Hid (Bxp w18 w10.heap.size a b gBx np PA) := Bx.out.nextB qq
    replace Bc : Hid (Bxp w18 w12.heap.size nr nc gBc n PH) := Bc.out.nextB qq
    replace Bl : Hid (Bxp w18 (w12.heap.size + 1) a b gBl np PZ) := Bl.out.nextB qq
    replace H1 : Hid (Qb w w18) := H1.out.trans qq
    clear qq
    go_wp2_with fail
    go_ret
    exact ⟨rfl, H1.out⟩
  · have hq1 : ((sq : Int) == 255) = false := by simp; omega
    have hq2 : ¬ (sq : Int) = 255 := by omega
    clear hk
    go_wp2_with fail
    clear eq1 er1 hgt hgt2 hgt3 hmb hs4
    refine (CN1.out _).mono ?_
    rintro e w2 ⟨gB7, rfl, uB7, qw2⟩
    obtain ⟨w3, hw3⟩ : ∃ w3, w2.alloc (.cells #[.int .i64 (a : Int), .int .i64 (b : Int), .slice (some ⟨gB7, 0, none⟩) np np] 24) = w3 := ⟨_, rfl⟩
    obtain ⟨hnB7, qy⟩ := bxp_new uB7 hw3
    have qq := qw2.trans qy
    replace H1 : Hid (Qb w w3) := H1.out.trans qq
    have B7 : Hid (Bxp w3 w2.heap.size a b gB7 np PA) := hnB7
    clear hnB7 qy qq qw2 uB7
    go_wp2_with fail
    clear hw3
    refine (CN2.out _).mono ?_
    rintro e w4 ⟨gB9, rfl, uB9, qw4⟩
    obtain ⟨w5, hw5⟩ : ∃ w5, w4.alloc (.cells #[.int .i64 (nr : Int), .int .i64 (nc : Int), .slice (some ⟨gB9, 0, none⟩) n n] 24) = w5 := ⟨_, rfl⟩
    obtain ⟨hnB9, qy⟩ := bxp_new uB9 hw5
    have qq := qw4.trans qy
    replace B7 : Hid (Bxp w5 w2.heap.size a b gB7 np PA) := B7.out.nextB qq
    replace H1 : Hid (Qb w w5) := H1.out.trans qq
    have B9 : Hid (Bxp w5 w4.heap.size nr nc gB9 n PH) := hnB9
    clear hnB9 qy qq qw4 uB9
    go_wp2_with fail
    clear hw5
    clear hdr hdc hwr1 hwc1
    refine (CN3.out _).mono ?_
    rintro e w6 ⟨gBz, rfl, uBz, qw6⟩
    obtain ⟨w7, hw7⟩ : ∃ w7, w6.alloc (.cells #[.int .i64 (a : Int), .int .i64 (b : Int), .slice (some ⟨gBz, 0, none⟩) np np] 24) = w7 := ⟨_, rfl⟩
    obtain ⟨hnBz, qy⟩ := bxp_new uBz hw7
    have qq := qw6.trans qy
    replace B7 : Hid (Bxp w7 w2.heap.size a b gB7 np PA) := B7.out.nextB qq
    replace B9 : Hid (Bxp w7 w4.heap.size nr nc gB9 n PH) := B9.out.nextB qq
    replace H1 : Hid (Qb w w7) := H1.out.trans qq
    have Bz : Hid (Bxp w7 w6.heap.size a b gBz np PZ) := hnBz
    clear hnBz qy qq qw6 uBz
    have kB70 := B7.out.p.c0
    have kB71 := B7.out.p.c1
    have kB72 := B7.out.p.c2
    go_wp2_with fail
    clear kB70 kB71 kB72
    clear hw7
    refine (CR.out _ _ B7.out.u).mono ?_
    rintro e w8 ⟨gBr, rfl, uBr, qw8⟩
    obtain ⟨w9, hw9⟩ : ∃ w9, w8.alloc (.cells #[.int .i64 (nr : Int), .int .i64 (nc : Int), .slice (some ⟨gBr, 0, none⟩) n n] 24) = w9 := ⟨_, rfl⟩
    obtain ⟨hnBr, qy⟩ := bxp_new uBr hw9
    have qq := qw8.trans qy
    replace B7 : Hid (Bxp w9 w2.heap.size a b gB7 np PA) := B7.out.nextB qq
    replace B9 : Hid (Bxp w9 w4.heap.size nr nc gB9 n PH) := B9.out.nextB qq
    replace Bz : Hid (Bxp w9 w6.heap.size a b gBz np PZ) := Bz.out.nextB qq
    replace H1 : Hid (Qb w w9) := H1.out.trans qq
    have Br : Hid (Bxp w9 w8.heap.size nr nc gBr n PH) := hnBr
    clear hnBr qy qq qw8 uBr
    have kB90 := B9.out.p.c0
    have kB91 := B9.out.p.c1
    have kB92 := B9.out.p.c2
    go_wp2_with fail
    clear kB90 kB91 kB92
    clear hw9
    refine (CX.out _ _ B9.out.u).mono ?_
    rintro e w10 ⟨gBx, rfl, uBx, qw10⟩
    obtain ⟨w11, hw11⟩ : ∃ w11, w10.alloc (.cells #[.int .i64 (a : Int), .int .i64 (b : Int), .slice (some ⟨gBx, 0, none⟩) np np] 24) = w11 := ⟨_, rfl⟩
    obtain ⟨hnBx, qy⟩ := bxp_new uBx hw11
    have qq := qw10.trans qy
    replace B7 : Hid (Bxp w11 w2.heap.size a b gB7 np PA) := B7.out.nextB qq
    replace B9 : Hid (Bxp w11 w4.heap.size nr nc gB9 n PH) := B9.out.nextB qq
    replace Bz : Hid (Bxp w11 w6.heap.size a b gBz np PZ) := Bz.out.nextB qq
    replace Br : Hid (Bxp w11 w8.heap.size nr nc gBr n PH) := Br.out.nextB qq
    replace H1 : Hid (Qb w w11) := H1.out.trans qq
    have Bx : Hid (Bxp w11 w10.heap.size a b gBx np PA) := hnBx
    clear hnBx qy qq qw10 uBx
    have kB70 := B7.out.p.c0
    have kB71 := B7.out.p.c1
    have kB72 := B7.out.p.c2
    go_wp2_with fail
    clear kB70 kB71 kB72
    clear hw11
    refine (CS.out _ _ B7.out.u).mono ?_
    rintro e w12 ⟨gBc, gBl, rfl, uBc, uBl, qw12⟩
    obtain ⟨w14, hw14⟩ : ∃ w14, w12.alloc (.cells #[.int .i64 (nr : Int), .int .i64 (nc : Int), .slice (some ⟨gBc, 0, none⟩) n n] 24) = w14 := ⟨_, rfl⟩
    obtain ⟨w13, hw13⟩ : ∃ w13, w14.alloc (.cells #[.int .i64 (a : Int), .int .i64 (b : Int), .slice (some ⟨gBl, 0, none⟩) np np] 24) = w13 := ⟨_, rfl⟩
    obtain ⟨hnBc, qz⟩ := bxp_new uBc hw14
    obtain ⟨hnBl, qy⟩ := bxp_new (uBl.nextB qz) hw13
    have sz : w14.heap.size = w12.heap.size + 1 := by rw [← hw14]; simp
    rw [sz] at hnBl
    have qq := (qw12.trans qz).trans qy
    replace B7 : Hid (Bxp w13 w2.heap.size a b gB7 np PA) := B7.out.nextB qq
    replace B9 : Hid (Bxp w13 w4.heap.size nr nc gB9 n PH) := B9.out.nextB qq
    replace Bz : Hid (Bxp w13 w6.heap.size a b gBz np PZ) := Bz.out.nextB qq
    replace Br : Hid (Bxp w13 w8.heap.size nr nc gBr n PH) := Br.out.nextB qq
    replace Bx : Hid (Bxp w13 w10.heap.size a b gBx np PA) := Bx.out.nextB qq
    replace H1 : Hid (Qb w w13) := H1.out.trans qq
    have Bc : Hid (Bxp w13 w12.heap.size nr nc gBc n PH) := hnBc.nextB qy
    have Bl : Hid (Bxp w13 (w12.heap.size + 1) a b gBl np PZ) := hnBl
    have hw132 : (w12.alloc (.cells #[.int .i64 (nr : Int), .int .i64 (nc : Int), .slice (some ⟨gBc, 0, none⟩) n n] 24)).alloc (.cells #[.int .i64 (a : Int), .int .i64 (b : Int), .slice (some ⟨gBl, 0, none⟩) np np] 24) = w13 := by rw [hw14]; exact hw13
    clear hnBc hnBl qz qy qq qw12 uBc uBl sz hw13 hw14
    go_wp2_with fail
    refine (CM.out _).mono ?_
    rintro e wn0 ⟨rfl, hwn⟩
    obtain rfl := hwn.symm
    clear hw132
    go_wp2_with fail
    refine (CM.out _).mono ?_
    rintro e wn1 ⟨rfl, hwn⟩
    obtain rfl := hwn.symm
    go_wp2_with fail
    refine (CM.out _).mono ?_
    rintro e wn2 ⟨rfl, hwn⟩
    obtain rfl := hwn.symm
    have kBr0 := Br.out.p.c0
    have kBr1 := Br.out.p.c1
    have kBr2 := Br.out.p.c2
    have kB90 := B9.out.p.c0
    have kB91 := B9.out.p.c1
    have kB92 := B9.out.p.c2
    go_wp2_with fail
    clear kBr0 kBr1 kBr2
    clear kB90 kB91 kB92
    refine (CP.out _ _ _ nr nc n PH HB.out.2.2.2.1 HB.out.1 Br.out.u B9.out.u).mono ?_
    rintro e w15 ⟨rfl, qq⟩
    replace B7 : Hid (Bxp w15 w2.heap.size a b gB7 np PA) := B7.out.nextB qq
    replace B9 : Hid (Bxp w15 w4.heap.size nr nc gB9 n PH) := B9.out.nextB qq
    replace Bz : Hid (Bxp w15 w6.heap.size a b gBz np PZ) := Bz.out.nextB qq
    replace Br : Hid (Bxp w15 w8.heap.size nr nc gBr n PH) := Br.out.nextB qq
    replace Bx : Hid (Bxp w15 w10.heap.size a b gBx np PA) := Bx.out.nextB qq
    replace Bc : Hid (Bxp w15 w12.heap.size nr nc gBc n PH) := Bc.out.nextB qq
    replace Bl : Hid (Bxp w15 (w12.heap.size + 1) a b gBl np PZ) := Bl.out.nextB qq
    replace H1 : Hid (Qb w w15) := H1.out.trans qq
    clear qq
    have kBx0 := Bx.out.p.c0
    have kBx1 := Bx.out.p.c1
    have kBx2 := Bx.out.p.c2
    have kB70 := B7.out.p.c0
    have kB71 := B7.out.p.c1
    have kB72 := B7.out.p.c2
    go_wp2_with fail
    clear kBx0 kBx1 kBx2
    clear kB70 kB71 kB72
    refine (CP.out _ _ _ a b np PA HB.out.2.2.1 HB.out.2.1 Bx.out.u B7.out.u).mono ?_
    rintro e w16 ⟨rfl, qq⟩
    replace B7 : Hid (Bxp w16 w2.heap.size a b gB7 np PA) := B7.out.nextB qq
    replace B9 : Hid (Bxp w16 w4.heap.size nr nc gB9 n PH) := B9.out.nextB qq
    replace Bz : Hid (Bxp w16 w6.heap.size a b gBz np PZ) := Bz.out.nextB qq
    replace Br : Hid (Bxp w16 w8.heap.size nr nc gBr n PH) := Br.out.nextB qq
    replace Bx : Hid (Bxp w16 w10.heap.size a b gBx np PA) := Bx.out.nextB qq
    replace Bc : Hid (Bxp w16 w12.heap.size nr nc gBc n PH) := Bc.out.nextB qq
    replace Bl : Hid (Bxp w16 (w12.heap.size + 1) a b gBl np PZ) := Bl.out.nextB qq
    replace H1 : Hid (Qb w w16) := H1.out.trans qq
    clear qq
    have kBc0 := Bc.out.p.c0
    have kBc1 := Bc.out.p.c1
    have kBc2 := Bc.out.p.c2
    have kB90 := B9.out.p.c0
    have kB91 := B9.out.p.c1
    have kB92 := B9.out.p.c2
    go_wp2_with fail
    clear kBc0 kBc1 kBc2
    clear kB90 kB91 kB92
    refine (CP.out _ _ _ nr nc n PH HB.out.2.2.2.1 HB.out.1 Bc.out.u B9.out.u).mono ?_
    rintro e w17 ⟨rfl, qq⟩
    replace B7 : Hid (Bxp w17 w2.heap.size a b gB7 np PA) := B7.out.nextB qq
    replace B9 : Hid (Bxp w17 w4.heap.size nr nc gB9 n PH) := B9.out.nextB qq
    replace Bz : Hid (Bxp w17 w6.heap.size a b gBz np PZ) := Bz.out.nextB qq
    replace Br : Hid (Bxp w17 w8.heap.size nr nc gBr n PH) := Br.out.nextB qq
    replace Bx : Hid (Bxp w17 w10.heap.size a b gBx np PA) := Bx.out.nextB qq
    replace Bc : Hid (Bxp w17 w12.heap.size nr nc gBc n PH) := Bc.out.nextB qq
    replace Bl : Hid (Bxp w17 (w12.heap.size + 1) a b gBl np PZ) := Bl.out.nextB qq
    replace H1 : Hid (Qb w w17) := H1.out.trans qq
    clear qq
    have kBl0 := Bl.out.p.c0
    have kBl1 := Bl.out.p.c1
    have kBl2 := Bl.out.p.c2
    have kBz0 := Bz.out.p.c0
    have kBz1 := Bz.out.p.c1
    have kBz2 := Bz.out.p.c2
    go_wp2_with fail
    clear kBl0 kBl1 kBl2
    clear kBz0 kBz1 kBz2
    refine (CP.out _ _ _ a b np PZ HB.out.2.2.2.2 HB.out.2.1 Bl.out.u Bz.out.u).mono ?_
    rintro e w18 ⟨rfl, qq⟩
    replace B7 : Hid (Bxp w18 w2.heap.size a b gB7 np PA) := B7.out.nextB qq
    replace B9 : Hid (Bxp w18 w4.heap.size nr nc gB9 n PH) := B9.out.nextB qq
    replace Bz : Hid (Bxp w18 w6.heap.size a b gBz np PZ) := Bz.out.nextB qq
    replace Br : Hid (Bxp w18 w8.heap.size nr nc gBr n PH) := Br.out.nextB qq
    replace Bx : Hid (Bxp w18 w10.heap.size a b gBx np PA) := Bx.out.nextB qq
    replace Bc : Hid (Bxp w18 w12.heap.size nr nc gBc n PH) := Bc.out.nextB qq
    replace Bl : Hid (Bxp w18 (w12.heap.size + 1) a b gBl np PZ) := Bl.out.nextB qq
    replace H1 : Hid (Qb w w18) := H1.out.trans qq
    clear qq
    go_wp2_with fail
    go_ret
    exact ⟨rfl, H1.out⟩
end Go.Proofs.Ytomcbkpplbijgaa
/- PyramidConstant: whatever comes in. -/
namespace Go.Proofs.Ytomcbkpplbijgaa
open Go.RowKit
set_option linter.unusedVariables false
set_option linter.unusedSimpArgs false

set_option maxHeartbeats 4000000 in
set_option maxRecDepth 100000 in
theorem pconst_size (W H : Int) (s : Nat) (w : World) (hb : sizeB W H = false) :
    Calls Try.prog 8 #[.int .i64 W, .int .i64 H, .int .u32 (s : Int)] w fun e w' => e = .returned (.bool true) ∧ Qb w w' := by
  have CH : Hid (∀ x : World, Calls Try.prog 33 #[.int .i64 W, .int .i64 H] x fun e w' => e = .returned (.bool false) ∧ w' = x) := fun x => by have := hsize_b W H x; rw [hb] at this; exact this
  clear hb
  go_enter Try.func8, Try.ntmps8
  go_wp2_with fail
  refine (known14_any w).mono ?_
  rintro e w1 ⟨rfl, q1⟩
  have H1 : Hid (Qb w w1) := q1
  clear q1
  go_wp2_with fail
  refine (CH.out _).mono ?_
  rintro e w2 ⟨rfl, hw2⟩
  obtain rfl := hw2.symm
  go_wp2_with fail
  go_ret
  exact ⟨rfl, H1.out⟩
set_option maxHeartbeats 4000000 in
set_option maxRecDepth 100000 in
theorem pconst_great (a b s np : Nat) (w : World) (hsz : Size a b) (hnp : a * b = np) (h : 4096 < np) :
    Calls Try.prog 8 #[.int .i64 (a : Int), .int .i64 (b : Int), .int .u32 (s : Int)] w fun e w' => e = .returned (.bool true) ∧ Qb w w' := by
  have CH : Hid (∀ x : World, Calls Try.prog 33 #[.int .i64 (a : Int), .int .i64 (b : Int)] x fun e w' => e = .returned (.bool true) ∧ w' = x) := fun x => by have := hsize_b a b x; rw [sizeB_true.2 hsz.b] at this; exact this
  have hml : (a : Int) * (b : Int) = (np : Int) := by rw [← Int.natCast_mul, hnp]
  have hnb : (np : Int) ≤ 65536 := by have := hsz.ab; omega
  have hgt : (4096 : Int) < (np : Int) := by omega
  have hgt2 : decide ((4096 : Int) < (np : Int)) = true := decide_eq_true hgt
  clear hnp hsz
  go_enter Try.func8, Try.ntmps8
  go_wp2_with fail
  refine (known14_any w).mono ?_
  rintro e w1 ⟨rfl, q1⟩
  have H1 : Hid (Qb w w1) := q1
  clear q1
  go_wp2_with fail
  refine (CH.out _).mono ?_
  rintro e w2 ⟨rfl, hw2⟩
  obtain rfl := hw2.symm
  go_wp2_with fail
  go_ret
  exact ⟨rfl, H1.out⟩
set_option maxHeartbeats 4000000 in
set_option maxRecDepth 100000 in
theorem pconst_nan (a b s np : Nat) (w : World) (hsz : Size a b) (hs4 : s < 4294967296) (hnp : a * b = np) (h : np ≤ 4096) (h1 : s / 8388608 % 256 = 255) (h2 : ¬ s % 8388608 = 0) :
    Calls Try.prog 8 #[.int .i64 (a : Int), .int .i64 (b : Int), .int .u32 (s : Int)] w fun e w' => e = .returned (.bool true) ∧ Qb w w' := by
  have CH : Hid (∀ x : World, Calls Try.prog 33 #[.int .i64 (a : Int), .int .i64 (b : Int)] x fun e w' => e = .returned (.bool true) ∧ w' = x) := fun x => by have := hsize_b a b x; rw [sizeB_true.2 hsz.b] at this; exact this
  have hml : (a : Int) * (b : Int) = (np : Int) := by rw [← Int.natCast_mul, hnp]
  have hmb : (np : Int) ≤ 4096 := by omega
  have hgt : ¬ (4096 : Int) < (np : Int) := by omega
  have hgt2 : decide ((4096 : Int) < (np : Int)) = false := decide_eq_false hgt
  have hgt3 : ¬ 4096 < np := by omega
  obtain ⟨sr, hsr⟩ : ∃ sr, s % 8388608 = sr := ⟨_, rfl⟩
  have eq1 : (s : Int) / 8388608 % 256 = 255 := by omega
  have er1 : (s : Int) % 8388608 = (sr : Int) := by omega
  have hr1 : ((sr : Int) != 0) = true := by simp; omega
  have hr2 : ((sr : Int) == 0) = false := by simp; omega
  have hr3 : ¬ (sr : Int) = 0 := by omega
  clear hnp hsz h1 h2 hsr h
  go_enter Try.func8, Try.ntmps8
  go_wp2_with fail
  refine (known14_any w).mono ?_
  rintro e w1 ⟨rfl, q1⟩
  have H1 : Hid (Qb w w1) := q1
  clear q1
  go_wp2_with fail
  refine (CH.out _).mono ?_
  rintro e w2 ⟨rfl, hw2⟩
  obtain rfl := hw2.symm
  go_wp2_with fail
  go_ret
  exact ⟨rfl, H1.out⟩
/-- The walk, whatever comes in. -/
theorem pconst_walk (w : World) (W H : Int) (s : Nat) (hs4 : s < 4294967296) :
    Calls Try.prog 8 #[.int .i64 W, .int .i64 H, .int .u32 (s : Int)] w fun e w' => e = .returned (.bool true) ∧ Qb w w' := by
  cases hb : sizeB W H
  · exact pconst_size W H s w hb
  · obtain ⟨a, b, rfl, rfl, hsz⟩ := (sizeB_true.1 hb).nat
    by_cases hg : a * b ≤ 4096
    · by_cases hk : s / 8388608 % 256 = 255 ∧ ¬ s % 8388608 = 0
      · exact pconst_nan a b s (a * b) w hsz hs4 rfl hg hk.1 hk.2
      · exact pconst_good a b s _ _ _ _ w hsz hs4 (smp_kind hs4 hk) hk hg rfl rfl rfl rfl
    · exact pconst_great a b s (a * b) w hsz rfl (by omega)
end Go.Proofs.Ytomcbkpplbijgaa

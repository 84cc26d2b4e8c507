/- Numbers of five words: a sample added where they lie. -/
import Derived.Test.YtmgpaheobhfioaaDoorG8f7abc4d
import Derived.Test.YtmgpaheobhfioaaDoorG8dbd2455
namespace Go.Proofs.YtmgpaheobhfioaaDoor
open Go.RowKit
set_option linter.unusedVariables false
set_option linter.unusedSimpArgs false

/-- All blocks but one stay. -/
structure Fb (B : Nat) (w w' : World) : Prop where
  os : w'.os = w.os
  tape : w'.tape = w.tape
  output : w'.output = w.output
  size : w.heap.size ≤ w'.heap.size
  block : ∀ b, b < w.heap.size → b ≠ B → w'.heap[b]? = w.heap[b]?
  frz : ∀ a, w'.frozen? a = w.frozen? a
theorem Fb.refl (B : Nat) (w : World) : Fb B w w := ⟨rfl, rfl, rfl, Nat.le_refl _, fun _ _ _ => rfl, fun _ => rfl⟩
theorem Q.fb {w w' : World} (q : Q w w') (B : Nat) : Fb B w w' := ⟨q.1.os, q.1.tape, q.1.output, q.1.size, fun b hb _ => q.1.block b hb, q.2⟩
theorem Fb.q {w0 w w' : World} {B : Nat} (f : Fb B w w') (q : Q w0 w) (hB : w0.heap.size ≤ B) : Q w0 w' :=
  ⟨⟨f.os.trans q.1.os, f.tape.trans q.1.tape, f.output.trans q.1.output, Nat.le_trans q.1.size f.size, fun b hb => (f.block b (Nat.lt_of_lt_of_le hb q.1.size) (by omega)).trans (q.1.block b hb)⟩, fun a => (f.frz a).trans (q.2 a)⟩
theorem Fb.trans {a b c : World} {B : Nat} (f : Fb B a b) (g : Fb B b c) : Fb B a c :=
  ⟨g.os.trans f.os, g.tape.trans f.tape, g.output.trans f.output, Nat.le_trans f.size g.size, fun x hx hr => (g.block x (Nat.lt_of_lt_of_le hx f.size) hr).trans (f.block x hx hr), fun x => (g.frz x).trans (f.frz x)⟩
theorem Fb.cell {a b : World} {B : Nat} (f : Fb B a b) {p : Addr} {v : Value} (h : a.cell? p = some v) (hr : p.block ≠ B) : b.cell? p = some v :=
  (World.cell?_of_block (f.block p.block (World.block_lt_of_cell? _ _ h) hr)).trans h
theorem Fb.set {a b : World} {B : Nat} (f : Fb B a b) {p : Addr} (hp : p.block = B) (v : Value) : Fb B a (b.setCell p v) :=
  ⟨f.os, f.tape, f.output, by simpa [World.setCell] using f.size, fun x hx hr => (Below.heap_setCell _ _ _ _ (fun e => hr (by rw [e, hp]))).trans (f.block x hx hr), fun x => (World.frozen?_setCell _ _ _ _).trans (f.frz x)⟩
theorem Fb.drew {a b : World} {B : Nat} (f : Fb B a b) : Fb B a b.drew := f.trans ((Q.refl b).drew.fb B)
/-- Digits with carries or borrows. -/
def cyS (sC : Nat → Nat → Nat → Nat) (N T : Nat → Nat) : Nat → Nat
  | 0 => 0
  | i + 1 => sC (N i) (T i) (cyS sC N T i)
def dgS (sE sC : Nat → Nat → Nat → Nat) (N T : Nat → Nat) (i : Nat) : Nat := sE (N i) (T i) (cyS sC N T i)
structure StepOk (sE sC : Nat → Nat → Nat → Nat) : Prop where
  e0 : ∀ n, n < m64 → sE n 0 0 = n
  c0 : ∀ n, n < m64 → sC n 0 0 = 0
  c1 : ∀ n m c, n < m64 → m < m64 → c ≤ 1 → sC n m c ≤ 1
theorem ok_add : StepOk addE addC := ⟨fun n h => by unfold addE m64 at *; omega, fun n h => by unfold addC m64 at *; omega, fun n m c h1 h2 h3 => by unfold addC m64 at *; omega⟩
theorem ok_sub : StepOk subE subC := ⟨fun n h => by unfold subE m64 at *; omega, fun n h => by unfold subC m64 at *; split <;> omega, fun n m c h1 h2 h3 => by unfold subC m64 at *; split <;> omega⟩
/-- What is added: the two words of a size shifted. -/
def shW (sz i0 sh : Nat) (j : Nat) : Nat := if j = i0 then sz * 2 ^ sh % m64 else if j = i0 + 1 then sz / 2 ^ (64 - sh) else 0
theorem sh_lt {sz i0 sh : Nat} (h : sz < m64) (j : Nat) : shW sz i0 sh j < m64 := by
  unfold shW
  split
  · exact Nat.mod_lt _ (by decide)
  · split
    · exact Nat.lt_of_le_of_lt (Nat.div_le_self _ _) h
    · decide
section
variable {sE sC : Nat → Nat → Nat → Nat} {N T : Nat → Nat}
theorem cyS_le (H : StepOk sE sC) (hN : ∀ i, N i < m64) (hT : ∀ i, T i < m64) : ∀ i, cyS sC N T i ≤ 1 := by
  intro i
  induction i with
  | zero => exact Nat.zero_le _
  | succ i ih => exact H.c1 _ _ _ (hN i) (hT i) ih
theorem cyS_lo (H : StepOk sE sC) (hN : ∀ i, N i < m64) {k : Nat} (h : ∀ j, j < k → T j = 0) : ∀ i, i ≤ k → cyS sC N T i = 0 := by
  intro i
  induction i with
  | zero => intro _; rfl
  | succ i ih =>
    intro hi
    show sC (N i) (T i) (cyS sC N T i) = 0
    rw [ih (by omega), h i (by omega)]
    exact H.c0 _ (hN i)
theorem dgS_lo (H : StepOk sE sC) (hN : ∀ i, N i < m64) {k : Nat} (h : ∀ j, j < k → T j = 0) (i : Nat) (hi : i < k) : dgS sE sC N T i = N i := by
  unfold dgS
  rw [cyS_lo H hN h i (by omega), h i hi]
  exact H.e0 _ (hN i)
theorem cyS_hi (H : StepOk sE sC) (hN : ∀ i, N i < m64) {k : Nat} (h : ∀ j, k ≤ j → T j = 0) (hk : cyS sC N T k = 0) : ∀ i, k ≤ i → cyS sC N T i = 0 := by
  intro i
  induction i with
  | zero => intro _; rfl
  | succ i ih =>
    intro hi
    rcases Nat.lt_or_ge i k with g | g
    · obtain rfl : k = i + 1 := by omega
      exact hk
    · show sC (N i) (T i) (cyS sC N T i) = 0
      rw [ih g, h i g]
      exact H.c0 _ (hN i)
theorem dgS_hi (H : StepOk sE sC) (hN : ∀ i, N i < m64) {k : Nat} (h : ∀ j, k ≤ j → T j = 0) (hk : cyS sC N T k = 0) (i : Nat) (hi : k ≤ i) : dgS sE sC N T i = N i := by
  unfold dgS
  rw [cyS_hi H hN h hk i hi, h i hi]
  exact H.e0 _ (hN i)
end
/-- A number that lies in a block, while it is turned into another one. -/
structure ASt (w : World) (B : Nat) (N D : Nat → Nat) (i : Nat) (x : World) : Prop where
  fb : Fb B w x
  c : ∀ j, j < 5 → x.cell? ⟨B, j, none⟩ = some (.int .u64 ((if j < i then D j else N j : Nat) : Int))
  r : ∀ j, 5 ≤ j → x.cell? ⟨B, j, none⟩ = w.cell? ⟨B, j, none⟩
theorem ASt.step {w x : World} {B : Nat} {N D : Nat → Nat} {i : Nat} (h : ASt w B N D i x) (hi : i < 5) : ASt w B N D (i + 1) (x.drew.setCell ⟨B, i, none⟩ (.int .u64 (D i : Nat))) := by
  refine ⟨h.fb.drew.set rfl _, fun j hj => ?_, fun j hj => ?_⟩
  · by_cases e : j = i
    · subst e
      have c := h.c j hj
      rw [if_pos (by omega)]
      simp [go_sem, c]
    · have hne : (⟨B, i, none⟩ : Addr) ≠ ⟨B, j, none⟩ := fun e' => e (by injection e' with _ e'; exact e'.symm)
      rw [World.cell?_setCell_other _ _ _ _ hne]
      have c := h.c j hj
      have : (if j < i + 1 then D j else N j) = (if j < i then D j else N j) := by
        by_cases g : j < i
        · rw [if_pos g, if_pos (by omega)]
        · rw [if_neg g, if_neg (by omega)]
      rw [this]
      simpa using c
  · have hne : (⟨B, i, none⟩ : Addr) ≠ ⟨B, j, none⟩ := fun e' => by injection e' with _ e'; omega
    rw [World.cell?_setCell_other _ _ _ _ hne]
    simpa using h.r j hj
theorem ASt.at {w x : World} {B : Nat} {N D : Nat → Nat} {i : Nat} (h : ASt w B N D i x) (hi : i < 5) : x.drew.cell? ⟨B, i, none⟩ = some (.int .u64 (N i : Nat)) := by
  have c := h.c i hi
  rw [if_neg (Nat.lt_irrefl _)] at c
  simpa using c
/-- A number lies in a block. -/
def WIs (w : World) (B : Nat) (N : Nat → Nat) : Prop := ∀ j, j < 5 → w.cell? ⟨B, j, none⟩ = some (.int .u64 (N j : Nat))
theorem ASt.start {w : World} {B : Nat} {N D : Nat → Nat} (h : WIs w B N) {i : Nat} (hi : ∀ j, j < i → D j = N j) : ASt w B N D i w := by
  refine ⟨Fb.refl _ _, fun j hj => ?_, fun _ _ => rfl⟩
  have : (if j < i then D j else N j) = N j := by
    split
    · exact hi j (by assumption)
    · rfl
  rw [this]
  exact h j hj
/-- Behind it all. -/
structure ADone (w : World) (B : Nat) (D : Nat → Nat) (x : World) : Prop where
  fb : Fb B w x
  c : WIs x B D
  r : ∀ j, 5 ≤ j → x.cell? ⟨B, j, none⟩ = w.cell? ⟨B, j, none⟩
theorem ASt.done {w x : World} {B : Nat} {N D : Nat → Nat} {i : Nat} (h : ASt w B N D i x) (hi : ∀ j, i ≤ j → j < 5 → D j = N j) : ADone w B D x := by
  refine ⟨h.fb, fun j hj => ?_, h.r⟩
  have c := h.c j hj
  have : (if j < i then D j else N j) = D j := by
    split
    · rfl
    · exact (hi j (by omega) hj).symm
  rw [this] at c
  exact c
set_option maxRecDepth 100000 in
theorem normN1 {t0 t1 t2 t3 t4 t5 t6 t7 t8 t9 t10 t11 t12 t13 t14 t15 t16 t17 t18 t19 t20 t21 t22 t23 t24 t25 t26 t27 t28 t29 t30 t31 t32 t33 t34 t35 t36 t37 t38 t39 t40 t41 t42 t43 t44 t45 t46 t47 t48 t49 t50 t51 t52 t53 t54 t55 t56 t57 t58 t59 t60 t61 t62 t63 t64 t65 t66 t67 t68 t69 t70 t71 t72 t73 t74 t75 t76 t77 t78 t79 t80 t81 t82 t83 t84 t85 t86 t87 t88 t89 t90 t91 t92 t93 t94 t95 v33 v34 v35 v36 v37 v38 v39 v40 v41 v42 v43 v44 v45 v32 v46 v47 v48 v49 v10 : Value} {d : List Deferred} : putAll ⟨#[t0, t1, t2, t3, t4, t5, t6, t7, t8, t9, t10, t11, t12, t13, t14, t15, t16, t17, t18, t19, t20, t21, t22, t23, t24, t25, t26, t27, t28, t29, t30, t31, t32, t33, t34, t35, t36, t37, t38, t39, t40, t41, t42, t43, t44, t45, t46, t47, t48, t49, t50, t51, t52, t53, t54, t55, t56, t57, t58, t59, t60, t61, t62, t63, t64, t65, t66, t67, t68, t69, t70, t71, t72, t73, t74, t75, t76, t77, t78, t79, t80, t81, t82, t83, t84, t85, t86, t87, t88, t89, t90, t91, t92, t93, t94, t95], d⟩ [(33, v33), (34, v34), (35, v35), (36, v36), (37, v37), (38, v38), (39, v39), (40, v40), (41, v41), (42, v42), (43, v43), (44, v44), (45, v45), (32, v32), (46, v46), (47, v47), (48, v48), (49, v49), (10, v10)] = ⟨#[t0, t1, t2, t3, t4, t5, t6, t7, t8, t9, v10, t11, t12, t13, t14, t15, t16, t17, t18, t19, t20, t21, t22, t23, t24, t25, t26, t27, t28, t29, t30, t31, v32, v33, v34, v35, v36, v37, v38, v39, v40, v41, v42, v43, v44, v45, v46, v47, v48, v49, t50, t51, t52, t53, t54, t55, t56, t57, t58, t59, t60, t61, t62, t63, t64, t65, t66, t67, t68, t69, t70, t71, t72, t73, t74, t75, t76, t77, t78, t79, t80, t81, t82, t83, t84, t85, t86, t87, t88, t89, t90, t91, t92, t93, t94, t95], d⟩ := by
  kernel_rfl
set_option maxRecDepth 100000 in
theorem normN2 {t0 t1 t2 t3 t4 t5 t6 t7 t8 t9 t10 t11 t12 t13 t14 t15 t16 t17 t18 t19 t20 t21 t22 t23 t24 t25 t26 t27 t28 t29 t30 t31 t32 t33 t34 t35 t36 t37 t38 t39 t40 t41 t42 t43 t44 t45 t46 t47 t48 t49 t50 t51 t52 t53 t54 t55 t56 t57 t58 t59 t60 t61 t62 t63 t64 t65 t66 t67 t68 t69 t70 t71 t72 t73 t74 t75 t76 t77 t78 t79 t80 t81 t82 t83 t84 t85 t86 t87 t88 t89 t90 t91 t92 t93 t94 t95 v51 v52 v53 v54 v55 v56 v57 v58 v59 v60 v61 v62 v63 v64 v65 v66 v50 v67 v68 v69 v70 v10 : Value} {d : List Deferred} : putAll ⟨#[t0, t1, t2, t3, t4, t5, t6, t7, t8, t9, t10, t11, t12, t13, t14, t15, t16, t17, t18, t19, t20, t21, t22, t23, t24, t25, t26, t27, t28, t29, t30, t31, t32, t33, t34, t35, t36, t37, t38, t39, t40, t41, t42, t43, t44, t45, t46, t47, t48, t49, t50, t51, t52, t53, t54, t55, t56, t57, t58, t59, t60, t61, t62, t63, t64, t65, t66, t67, t68, t69, t70, t71, t72, t73, t74, t75, t76, t77, t78, t79, t80, t81, t82, t83, t84, t85, t86, t87, t88, t89, t90, t91, t92, t93, t94, t95], d⟩ [(51, v51), (52, v52), (53, v53), (54, v54), (55, v55), (56, v56), (57, v57), (58, v58), (59, v59), (60, v60), (61, v61), (62, v62), (63, v63), (64, v64), (65, v65), (66, v66), (50, v50), (67, v67), (68, v68), (69, v69), (70, v70), (10, v10)] = ⟨#[t0, t1, t2, t3, t4, t5, t6, t7, t8, t9, v10, t11, t12, t13, t14, t15, t16, t17, t18, t19, t20, t21, t22, t23, t24, t25, t26, t27, t28, t29, t30, t31, t32, t33, t34, t35, t36, t37, t38, t39, t40, t41, t42, t43, t44, t45, t46, t47, t48, t49, v50, v51, v52, v53, v54, v55, v56, v57, v58, v59, v60, v61, v62, v63, v64, v65, v66, v67, v68, v69, v70, t71, t72, t73, t74, t75, t76, t77, t78, t79, t80, t81, t82, t83, t84, t85, t86, t87, t88, t89, t90, t91, t92, t93, t94, t95], d⟩ := by
  kernel_rfl
set_option maxRecDepth 100000 in
theorem normN3 {t0 t1 t2 t3 t4 t5 t6 t7 t8 t9 t10 t11 t12 t13 t14 t15 t16 t17 t18 t19 t20 t21 t22 t23 t24 t25 t26 t27 t28 t29 t30 t31 t32 t33 t34 t35 t36 t37 t38 t39 t40 t41 t42 t43 t44 t45 t46 t47 t48 t49 t50 t51 t52 t53 t54 t55 t56 t57 t58 t59 t60 t61 t62 t63 t64 t65 t66 t67 t68 t69 t70 t71 t72 t73 t74 t75 t76 t77 t78 t79 t80 t81 t82 t83 t84 t85 t86 t87 t88 t89 t90 t91 t92 t93 t94 t95 v82 v83 v84 v85 v86 v87 v88 v89 v90 v91 v81 v92 v93 v94 v95 v10 : Value} {d : List Deferred} : putAll ⟨#[t0, t1, t2, t3, t4, t5, t6, t7, t8, t9, t10, t11, t12, t13, t14, t15, t16, t17, t18, t19, t20, t21, t22, t23, t24, t25, t26, t27, t28, t29, t30, t31, t32, t33, t34, t35, t36, t37, t38, t39, t40, t41, t42, t43, t44, t45, t46, t47, t48, t49, t50, t51, t52, t53, t54, t55, t56, t57, t58, t59, t60, t61, t62, t63, t64, t65, t66, t67, t68, t69, t70, t71, t72, t73, t74, t75, t76, t77, t78, t79, t80, t81, t82, t83, t84, t85, t86, t87, t88, t89, t90, t91, t92, t93, t94, t95], d⟩ [(82, v82), (83, v83), (84, v84), (85, v85), (86, v86), (87, v87), (88, v88), (89, v89), (90, v90), (91, v91), (81, v81), (92, v92), (93, v93), (94, v94), (95, v95), (10, v10)] = ⟨#[t0, t1, t2, t3, t4, t5, t6, t7, t8, t9, v10, t11, t12, t13, t14, t15, t16, t17, t18, t19, t20, t21, t22, t23, t24, t25, t26, t27, t28, t29, t30, t31, t32, t33, t34, t35, t36, t37, t38, t39, t40, t41, t42, t43, t44, t45, t46, t47, t48, t49, t50, t51, t52, t53, t54, t55, t56, t57, t58, t59, t60, t61, t62, t63, t64, t65, t66, t67, t68, t69, t70, t71, t72, t73, t74, t75, t76, t77, t78, t79, t80, v81, v82, v83, v84, v85, v86, v87, v88, v89, v90, v91, v92, v93, v94, v95], d⟩ := by
  kernel_rfl
/-- A finite sample's size, in least samples, and how far it is shifted. -/
def szS (s : Nat) : Nat := if s / 8388608 % 256 = 0 then s % 8388608 else s % 8388608 + 8388608
def atS (s : Nat) : Nat := if s / 8388608 % 256 = 0 then 2 else s / 8388608 % 256 + 1
def adS (N : Nat → Nat) (s : Nat) : Nat → Nat := if s < 2147483648 then dgS addE addC N (shW (szS s) (atS s / 64) (atS s % 64)) else dgS subE subC N (shW (szS s) (atS s / 64) (atS s % 64))
set_option maxHeartbeats 4000000 in
set_option maxRecDepth 100000 in
theorem nadd_zp (sE sC : Nat → Nat → Nat → Nat) (HST : Steps 58 sE sC) (HOK : StepOk sE sC) (N : Nat → Nat) (s B : Nat) (hN : ∀ i, N i < m64) (hs : s < 4294967296) (hf : s / 8388608 % 256 < 255) (h0 : s / 8388608 % 256 = 0) (h1 : s < 2147483648) (w : World) (hc : WIs w B N) (hz : ∀ j, w.frozen? ⟨B, j, none⟩ = false) : Calls Tryd.prog 35 #[.pointer (some ⟨B, 0, none⟩), .int .u32 (s : Nat)] w fun e w' => e = .returned (.tuple #[]) ∧ ADone w B (dgS sE sC N (shW (szS s) (atS s / 64) (atS s % 64))) w' := by
  have HN : Hid (∀ i, N i < m64) := hN
  have HC : Hid (WIs w B N) := hc
  have HZ : Hid (∀ j, w.frozen? ⟨B, j, none⟩ = false) := hz
  clear hN hc hz
  obtain ⟨k, hk⟩ : ∃ k, s / 8388608 % 256 = k := ⟨_, rfl⟩
  obtain ⟨fr, hfr⟩ : ∃ fr, s % 8388608 = fr := ⟨_, rfl⟩
  have e255 : bits .and .u32 ((s : Int) / 8388608) 255 = (k : Int) := (and_255 _ (by omega) (by omega)).trans (by omega)
  have r2 : (s : Int) % 8388608 = (fr : Int) := by omega
  have hk1 : k < 255 := by omega
  have hfr1 : fr < 8388608 := by omega
  rw [hk] at h0
  have hsz : szS s = fr := (if_pos (hk.trans h0)).trans hfr
  have hat : atS s = 2 := if_pos (hk.trans h0)
  have hszl : szS s < m64 := by rw [hsz]; unfold m64; omega
  have hal : atS s < 256 := by rw [hat]; omega
  have HT : Hid (∀ i, shW (szS s) (atS s / 64) (atS s % 64) i < m64) := sh_lt hszl
  have HCY : Hid (∀ i, cyS sC N (shW (szS s) (atS s / 64) (atS s % 64)) i ≤ 1) := cyS_le HOK HN.out HT.out
  have tlo : ∀ j, j < atS s / 64 → shW (szS s) (atS s / 64) (atS s % 64) j = 0 := fun j hj => by unfold shW; rw [if_neg (by omega), if_neg (by omega)]
  have thi : ∀ j, atS s / 64 + 2 ≤ j → shW (szS s) (atS s / 64) (atS s % 64) j = 0 := fun j hj => by unfold shW; rw [if_neg (by omega), if_neg (by omega)]
  have HLO : Hid (∀ j, j < atS s / 64 → dgS sE sC N (shW (szS s) (atS s / 64) (atS s % 64)) j = N j) := dgS_lo HOK HN.out tlo
  have HHI : Hid (∀ k, atS s / 64 + 2 ≤ k → cyS sC N (shW (szS s) (atS s / 64) (atS s % 64)) k = 0 → ∀ j, k ≤ j → dgS sE sC N (shW (szS s) (atS s / 64) (atS s % 64)) j = N j) := fun k hk h j hj => dgS_hi HOK HN.out (fun i hi => thi i (by omega)) h j hj
  have HC0 : Hid (cyS sC N (shW (szS s) (atS s / 64) (atS s % 64)) (atS s / 64) = 0) := cyS_lo HOK HN.out tlo _ (Nat.le_refl _)
  have HE1 : Hid (shW (szS s) (atS s / 64) (atS s % 64) (atS s / 64) = szS s * 2 ^ (atS s % 64) % m64) := if_pos rfl
  have HE2 : Hid (shW (szS s) (atS s / 64) (atS s % 64) (atS s / 64 + 1) = szS s / 2 ^ (64 - atS s % 64)) := by
    show shW _ _ _ _ = _
    unfold shW
    rw [if_neg (by omega), if_pos rfl]
  have HT0 : Hid (∀ j, atS s / 64 + 2 ≤ j → shW (szS s) (atS s / 64) (atS s % 64) j = 0) := thi
  have q1 : Int.tdiv (2) 64 = ((atS s / 64 : Nat) : Int) := by rw [hat]; rfl
  have q2 : Int.tmod (2) 64 = ((atS s % 64 : Nat) : Int) := by rw [hat]; rfl
  have hz0 : ((k : Int) == 0) = true := by rw [h0]; rfl
  have hsg : bits .and .u32 (s : Int) 2147483648 = 0 := and_lo _ (by omega) (by omega)
  have hszv : Hid (((fr : Int)) = ((szS s : Nat) : Int)) := by
    show _ = _
    rw [hsz]
    try rfl
  generalize hS : szS s = S at *
  generalize hI : atS s / 64 = i0 at *
  generalize hH : atS s % 64 = h at *
  have hi0 : i0 < 4 := by omega
  have hh : h ≤ 64 := by omega
  clear hsz hat tlo thi hS hI hH hal h0 h1 HT hk hfr
  have HD : Hid (∀ i, dgS sE sC N (shW S i0 h) i = sE (N i) (shW S i0 h i) (cyS sC N (shW S i0 h) i)) := fun _ => rfl
  have HS : Hid (∀ i, cyS sC N (shW S i0 h) (i + 1) = sC (N i) (shW S i0 h i) (cyS sC N (shW S i0 h) i)) := fun _ => rfl
  generalize dgS sE sC N (shW S i0 h) = D at *
  generalize cyS sC N (shW S i0 h) = cy at *
  generalize shW S i0 h = T at *
  go_enter Tryd.func35, Tryd.ntmps35
  go_wp2_with fail
  refine regionN1 (nn := N i0) (cy := 0) (sz := S) (sh := h) (fk := 58) (sE := sE) (sC := sC) rfl rfl ⟨rfl, rfl, rfl, rfl, HST, by decide, by omega, ?_, ?_, congrArg (fun v => some (Value.int .u64 v)) hszv.out, rfl, hh⟩ ?_
  · simpa using HC.out i0 (by omega)
  · simpa using HZ.out i0
  have hd1 : sE (N i0) (S * 2 ^ h % m64) 0 = D i0 := by rw [HD.out, HC0.out, HE1.out]
  have hc1 : sC (N i0) (S * 2 ^ h % m64) 0 = cy (i0 + 1) := by rw [HS.out, HC0.out, HE1.out]
  rw [hd1, hc1]
  have HA1 : Hid (ASt w B N (D) (i0 + 1) (w.drew.setCell ⟨B, i0, none⟩ (.int .u64 (D i0 : Nat)))) := (ASt.start HC.out HLO.out).step (by omega)
  generalize (w.drew.setCell ⟨B, i0, none⟩ (.int .u64 (D i0 : Nat))) = x1 at HA1 ⊢
  clear hd1 hc1 HC HE1 HLO HC0
  have HZ1 : Hid (∀ j, x1.frozen? ⟨B, j, none⟩ = false) := fun j => (HA1.out.fb.frz _).trans (HZ.out j)
  rw [normN1]
  go_wp2_with fail
  refine regionN2 (nn := N (i0 + 1)) (cy := cy (i0 + 1)) (sz := S) (sh := h) (fk := 58) (sE := sE) (sC := sC) rfl rfl ⟨rfl, rfl, rfl, rfl, HST, HCY.out _, by omega, HA1.out.at (by omega), ?_, congrArg (fun v => some (Value.int .u64 v)) hszv.out, rfl, hh⟩ ?_
  · simpa using HZ1.out (i0 + 1)
  have hd1 : sE (N (i0 + 1)) (S / 2 ^ (64 - h)) (cy (i0 + 1)) = D (i0 + 1) := by rw [HD.out, HE2.out]
  have hc1 : sC (N (i0 + 1)) (S / 2 ^ (64 - h)) (cy (i0 + 1)) = cy (i0 + 2) := by rw [HS.out (i0 + 1), HE2.out]
  rw [hd1, hc1]
  have HA2 : Hid (ASt w B N (D) (i0 + 2) (x1.drew.setCell ⟨B, i0 + 1, none⟩ (.int .u64 (D (i0 + 1) : Nat)))) := HA1.out.step (by omega)
  generalize (x1.drew.setCell ⟨B, i0 + 1, none⟩ (.int .u64 (D (i0 + 1) : Nat))) = x2 at HA2 ⊢
  clear hd1 hc1 HE2 HA1 HZ1
  rw [normN2]
  go_wp2_with fail
  go_loopg [8, 10] (5 - (i0 + 2)) (fun gh s8 s10 wr => ∃ i : Nat, s8 = .int .i64 (i : Int) ∧ s10 = .int .u64 (cy i : Nat) ∧ i0 + 2 ≤ i ∧ i ≤ 5 ∧ gh = 5 - i ∧ Hid (ASt w B N (D) i wr))
  case atStart => exact ⟨i0 + 2, by simp, rfl, by omega, by omega, rfl, HA2.out⟩
  case round =>
    obtain ⟨i, rfl, rfl, hi, hi5, rfl, HA⟩ := hrel
    have hcle := HCY.out i
    by_cases h5 : i < 5
    · rcases Nat.eq_zero_or_pos (cy i) with hc0 | hc1
      · have HAD : Hid (ADone w B D wr) := HA.out.done (fun j hj _ => HHI.out i hi hc0 j hj)
        rw [hc0]
        clear HA hc0 hcle
        have hlt : (i : Int) < 5 := by omega
        go_wp2_with fail
        exact bodyPost_end (results_none Tryd.results35 _ _ _) rfl ⟨rfl, HAD.out⟩
      · have hc1 : cy i = 1 := by omega
        have HA' : Hid (ASt w B N D (i + 1) (wr.drew.setCell ⟨B, i, none⟩ (.int .u64 (D i : Nat)))) := HA.out.step h5
        have hd1 : sE (N i) 0 1 = D i := by rw [HD.out, HT0.out i hi, hc1]
        have hs1 : sC (N i) 0 1 = cy (i + 1) := by rw [HS.out, HT0.out i hi, hc1]
        rw [hc1]
        have hlt : (i : Int) < 5 := by omega
        go_wp2_with fail
        refine regionN3 (nn := N i) (cy := 1) (fk := 58) (sE := sE) (sC := sC) rfl rfl ⟨rfl, rfl, rfl, rfl, HST, by decide, h5, HA.out.at h5, ?_⟩ ?_
        · have := (HA.out.fb.frz ⟨B, i, none⟩).trans (HZ.out i)
          simpa using this
        rw [hd1, hs1, normN3]
        go_wp2_with fail
        go_roundg (5 - (i + 1))
        case measure => go_light; omega
        case rel =>
          go_light
          exact ⟨i + 1, by simp, rfl, by omega, by omega, rfl, HA'.out⟩
    · obtain rfl : i = 5 := by omega
      have HAD : Hid (ADone w B D wr) := HA.out.done (fun j hj h => by omega)
      clear HA
      generalize cy 5 = c5 at *
      go_wp2_with fail
      exact bodyPost_end (results_none Tryd.results35 _ _ _) rfl ⟨rfl, HAD.out⟩
set_option maxHeartbeats 4000000 in
set_option maxRecDepth 100000 in
theorem nadd_zm (sE sC : Nat → Nat → Nat → Nat) (HST : Steps 59 sE sC) (HOK : StepOk sE sC) (N : Nat → Nat) (s B : Nat) (hN : ∀ i, N i < m64) (hs : s < 4294967296) (hf : s / 8388608 % 256 < 255) (h0 : s / 8388608 % 256 = 0) (h1 : ¬ s < 2147483648) (w : World) (hc : WIs w B N) (hz : ∀ j, w.frozen? ⟨B, j, none⟩ = false) : Calls Tryd.prog 35 #[.pointer (some ⟨B, 0, none⟩), .int .u32 (s : Nat)] w fun e w' => e = .returned (.tuple #[]) ∧ ADone w B (dgS sE sC N (shW (szS s) (atS s / 64) (atS s % 64))) w' := by
  have HN : Hid (∀ i, N i < m64) := hN
  have HC : Hid (WIs w B N) := hc
  have HZ : Hid (∀ j, w.frozen? ⟨B, j, none⟩ = false) := hz
  clear hN hc hz
  obtain ⟨k, hk⟩ : ∃ k, s / 8388608 % 256 = k := ⟨_, rfl⟩
  obtain ⟨fr, hfr⟩ : ∃ fr, s % 8388608 = fr := ⟨_, rfl⟩
  have e255 : bits .and .u32 ((s : Int) / 8388608) 255 = (k : Int) := (and_255 _ (by omega) (by omega)).trans (by omega)
  have r2 : (s : Int) % 8388608 = (fr : Int) := by omega
  have hk1 : k < 255 := by omega
  have hfr1 : fr < 8388608 := by omega
  rw [hk] at h0
  have hsz : szS s = fr := (if_pos (hk.trans h0)).trans hfr
  have hat : atS s = 2 := if_pos (hk.trans h0)
  have hszl : szS s < m64 := by rw [hsz]; unfold m64; omega
  have hal : atS s < 256 := by rw [hat]; omega
  have HT : Hid (∀ i, shW (szS s) (atS s / 64) (atS s % 64) i < m64) := sh_lt hszl
  have HCY : Hid (∀ i, cyS sC N (shW (szS s) (atS s / 64) (atS s % 64)) i ≤ 1) := cyS_le HOK HN.out HT.out
  have tlo : ∀ j, j < atS s / 64 → shW (szS s) (atS s / 64) (atS s % 64) j = 0 := fun j hj => by unfold shW; rw [if_neg (by omega), if_neg (by omega)]
  have thi : ∀ j, atS s / 64 + 2 ≤ j → shW (szS s) (atS s / 64) (atS s % 64) j = 0 := fun j hj => by unfold shW; rw [if_neg (by omega), if_neg (by omega)]
  have HLO : Hid (∀ j, j < atS s / 64 → dgS sE sC N (shW (szS s) (atS s / 64) (atS s % 64)) j = N j) := dgS_lo HOK HN.out tlo
  have HHI : Hid (∀ k, atS s / 64 + 2 ≤ k → cyS sC N (shW (szS s) (atS s / 64) (atS s % 64)) k = 0 → ∀ j, k ≤ j → dgS sE sC N (shW (szS s) (atS s / 64) (atS s % 64)) j = N j) := fun k hk h j hj => dgS_hi HOK HN.out (fun i hi => thi i (by omega)) h j hj
  have HC0 : Hid (cyS sC N (shW (szS s) (atS s / 64) (atS s % 64)) (atS s / 64) = 0) := cyS_lo HOK HN.out tlo _ (Nat.le_refl _)
  have HE1 : Hid (shW (szS s) (atS s / 64) (atS s % 64) (atS s / 64) = szS s * 2 ^ (atS s % 64) % m64) := if_pos rfl
  have HE2 : Hid (shW (szS s) (atS s / 64) (atS s % 64) (atS s / 64 + 1) = szS s / 2 ^ (64 - atS s % 64)) := by
    show shW _ _ _ _ = _
    unfold shW
    rw [if_neg (by omega), if_pos rfl]
  have HT0 : Hid (∀ j, atS s / 64 + 2 ≤ j → shW (szS s) (atS s / 64) (atS s % 64) j = 0) := thi
  have q1 : Int.tdiv (2) 64 = ((atS s / 64 : Nat) : Int) := by rw [hat]; rfl
  have q2 : Int.tmod (2) 64 = ((atS s % 64 : Nat) : Int) := by rw [hat]; rfl
  have hz0 : ((k : Int) == 0) = true := by rw [h0]; rfl
  have hsg : bits .and .u32 (s : Int) 2147483648 = 2147483648 := and_hi _ (by omega) (by omega)
  have hszv : Hid (((fr : Int)) = ((szS s : Nat) : Int)) := by
    show _ = _
    rw [hsz]
    try rfl
  generalize hS : szS s = S at *
  generalize hI : atS s / 64 = i0 at *
  generalize hH : atS s % 64 = h at *
  have hi0 : i0 < 4 := by omega
  have hh : h ≤ 64 := by omega
  clear hsz hat tlo thi hS hI hH hal h0 h1 HT hk hfr
  have HD : Hid (∀ i, dgS sE sC N (shW S i0 h) i = sE (N i) (shW S i0 h i) (cyS sC N (shW S i0 h) i)) := fun _ => rfl
  have HS : Hid (∀ i, cyS sC N (shW S i0 h) (i + 1) = sC (N i) (shW S i0 h i) (cyS sC N (shW S i0 h) i)) := fun _ => rfl
  generalize dgS sE sC N (shW S i0 h) = D at *
  generalize cyS sC N (shW S i0 h) = cy at *
  generalize shW S i0 h = T at *
  go_enter Tryd.func35, Tryd.ntmps35
  go_wp2_with fail
  refine regionN1 (nn := N i0) (cy := 0) (sz := S) (sh := h) (fk := 59) (sE := sE) (sC := sC) rfl rfl ⟨rfl, rfl, rfl, rfl, HST, by decide, by omega, ?_, ?_, congrArg (fun v => some (Value.int .u64 v)) hszv.out, rfl, hh⟩ ?_
  · simpa using HC.out i0 (by omega)
  · simpa using HZ.out i0
  have hd1 : sE (N i0) (S * 2 ^ h % m64) 0 = D i0 := by rw [HD.out, HC0.out, HE1.out]
  have hc1 : sC (N i0) (S * 2 ^ h % m64) 0 = cy (i0 + 1) := by rw [HS.out, HC0.out, HE1.out]
  rw [hd1, hc1]
  have HA1 : Hid (ASt w B N (D) (i0 + 1) (w.drew.setCell ⟨B, i0, none⟩ (.int .u64 (D i0 : Nat)))) := (ASt.start HC.out HLO.out).step (by omega)
  generalize (w.drew.setCell ⟨B, i0, none⟩ (.int .u64 (D i0 : Nat))) = x1 at HA1 ⊢
  clear hd1 hc1 HC HE1 HLO HC0
  have HZ1 : Hid (∀ j, x1.frozen? ⟨B, j, none⟩ = false) := fun j => (HA1.out.fb.frz _).trans (HZ.out j)
  rw [normN1]
  go_wp2_with fail
  refine regionN2 (nn := N (i0 + 1)) (cy := cy (i0 + 1)) (sz := S) (sh := h) (fk := 59) (sE := sE) (sC := sC) rfl rfl ⟨rfl, rfl, rfl, rfl, HST, HCY.out _, by omega, HA1.out.at (by omega), ?_, congrArg (fun v => some (Value.int .u64 v)) hszv.out, rfl, hh⟩ ?_
  · simpa using HZ1.out (i0 + 1)
  have hd1 : sE (N (i0 + 1)) (S / 2 ^ (64 - h)) (cy (i0 + 1)) = D (i0 + 1) := by rw [HD.out, HE2.out]
  have hc1 : sC (N (i0 + 1)) (S / 2 ^ (64 - h)) (cy (i0 + 1)) = cy (i0 + 2) := by rw [HS.out (i0 + 1), HE2.out]
  rw [hd1, hc1]
  have HA2 : Hid (ASt w B N (D) (i0 + 2) (x1.drew.setCell ⟨B, i0 + 1, none⟩ (.int .u64 (D (i0 + 1) : Nat)))) := HA1.out.step (by omega)
  generalize (x1.drew.setCell ⟨B, i0 + 1, none⟩ (.int .u64 (D (i0 + 1) : Nat))) = x2 at HA2 ⊢
  clear hd1 hc1 HE2 HA1 HZ1
  rw [normN2]
  go_wp2_with fail
  go_loopg [8, 10] (5 - (i0 + 2)) (fun gh s8 s10 wr => ∃ i : Nat, s8 = .int .i64 (i : Int) ∧ s10 = .int .u64 (cy i : Nat) ∧ i0 + 2 ≤ i ∧ i ≤ 5 ∧ gh = 5 - i ∧ Hid (ASt w B N (D) i wr))
  case atStart => exact ⟨i0 + 2, by simp, rfl, by omega, by omega, rfl, HA2.out⟩
  case round =>
    obtain ⟨i, rfl, rfl, hi, hi5, rfl, HA⟩ := hrel
    have hcle := HCY.out i
    by_cases h5 : i < 5
    · rcases Nat.eq_zero_or_pos (cy i) with hc0 | hc1
      · have HAD : Hid (ADone w B D wr) := HA.out.done (fun j hj _ => HHI.out i hi hc0 j hj)
        rw [hc0]
        clear HA hc0 hcle
        have hlt : (i : Int) < 5 := by omega
        go_wp2_with fail
        exact bodyPost_end (results_none Tryd.results35 _ _ _) rfl ⟨rfl, HAD.out⟩
      · have hc1 : cy i = 1 := by omega
        have HA' : Hid (ASt w B N D (i + 1) (wr.drew.setCell ⟨B, i, none⟩ (.int .u64 (D i : Nat)))) := HA.out.step h5
        have hd1 : sE (N i) 0 1 = D i := by rw [HD.out, HT0.out i hi, hc1]
        have hs1 : sC (N i) 0 1 = cy (i + 1) := by rw [HS.out, HT0.out i hi, hc1]
        rw [hc1]
        have hlt : (i : Int) < 5 := by omega
        go_wp2_with fail
        refine regionN3 (nn := N i) (cy := 1) (fk := 59) (sE := sE) (sC := sC) rfl rfl ⟨rfl, rfl, rfl, rfl, HST, by decide, h5, HA.out.at h5, ?_⟩ ?_
        · have := (HA.out.fb.frz ⟨B, i, none⟩).trans (HZ.out i)
          simpa using this
        rw [hd1, hs1, normN3]
        go_wp2_with fail
        go_roundg (5 - (i + 1))
        case measure => go_light; omega
        case rel =>
          go_light
          exact ⟨i + 1, by simp, rfl, by omega, by omega, rfl, HA'.out⟩
    · obtain rfl : i = 5 := by omega
      have HAD : Hid (ADone w B D wr) := HA.out.done (fun j hj h => by omega)
      clear HA
      generalize cy 5 = c5 at *
      go_wp2_with fail
      exact bodyPost_end (results_none Tryd.results35 _ _ _) rfl ⟨rfl, HAD.out⟩
set_option maxHeartbeats 4000000 in
set_option maxRecDepth 100000 in
theorem nadd_np (sE sC : Nat → Nat → Nat → Nat) (HST : Steps 58 sE sC) (HOK : StepOk sE sC) (N : Nat → Nat) (s B : Nat) (hN : ∀ i, N i < m64) (hs : s < 4294967296) (hf : s / 8388608 % 256 < 255) (h0 : s / 8388608 % 256 ≠ 0) (h1 : s < 2147483648) (w : World) (hc : WIs w B N) (hz : ∀ j, w.frozen? ⟨B, j, none⟩ = false) : Calls Tryd.prog 35 #[.pointer (some ⟨B, 0, none⟩), .int .u32 (s : Nat)] w fun e w' => e = .returned (.tuple #[]) ∧ ADone w B (dgS sE sC N (shW (szS s) (atS s / 64) (atS s % 64))) w' := by
  have HN : Hid (∀ i, N i < m64) := hN
  have HC : Hid (WIs w B N) := hc
  have HZ : Hid (∀ j, w.frozen? ⟨B, j, none⟩ = false) := hz
  clear hN hc hz
  obtain ⟨k, hk⟩ : ∃ k, s / 8388608 % 256 = k := ⟨_, rfl⟩
  obtain ⟨fr, hfr⟩ : ∃ fr, s % 8388608 = fr := ⟨_, rfl⟩
  have e255 : bits .and .u32 ((s : Int) / 8388608) 255 = (k : Int) := (and_255 _ (by omega) (by omega)).trans (by omega)
  have r2 : (s : Int) % 8388608 = (fr : Int) := by omega
  have hk1 : k < 255 := by omega
  have hfr1 : fr < 8388608 := by omega
  rw [hk] at h0
  have hsz : szS s = fr + 8388608 := (if_neg (fun e => h0 (hk.symm.trans e))).trans (by rw [hfr])
  have hat : atS s = k + 1 := (if_neg (fun e => h0 (hk.symm.trans e))).trans (by rw [hk])
  have hszl : szS s < m64 := by rw [hsz]; unfold m64; omega
  have hal : atS s < 256 := by rw [hat]; omega
  have HT : Hid (∀ i, shW (szS s) (atS s / 64) (atS s % 64) i < m64) := sh_lt hszl
  have HCY : Hid (∀ i, cyS sC N (shW (szS s) (atS s / 64) (atS s % 64)) i ≤ 1) := cyS_le HOK HN.out HT.out
  have tlo : ∀ j, j < atS s / 64 → shW (szS s) (atS s / 64) (atS s % 64) j = 0 := fun j hj => by unfold shW; rw [if_neg (by omega), if_neg (by omega)]
  have thi : ∀ j, atS s / 64 + 2 ≤ j → shW (szS s) (atS s / 64) (atS s % 64) j = 0 := fun j hj => by unfold shW; rw [if_neg (by omega), if_neg (by omega)]
  have HLO : Hid (∀ j, j < atS s / 64 → dgS sE sC N (shW (szS s) (atS s / 64) (atS s % 64)) j = N j) := dgS_lo HOK HN.out tlo
  have HHI : Hid (∀ k, atS s / 64 + 2 ≤ k → cyS sC N (shW (szS s) (atS s / 64) (atS s % 64)) k = 0 → ∀ j, k ≤ j → dgS sE sC N (shW (szS s) (atS s / 64) (atS s % 64)) j = N j) := fun k hk h j hj => dgS_hi HOK HN.out (fun i hi => thi i (by omega)) h j hj
  have HC0 : Hid (cyS sC N (shW (szS s) (atS s / 64) (atS s % 64)) (atS s / 64) = 0) := cyS_lo HOK HN.out tlo _ (Nat.le_refl _)
  have HE1 : Hid (shW (szS s) (atS s / 64) (atS s % 64) (atS s / 64) = szS s * 2 ^ (atS s % 64) % m64) := if_pos rfl
  have HE2 : Hid (shW (szS s) (atS s / 64) (atS s % 64) (atS s / 64 + 1) = szS s / 2 ^ (64 - atS s % 64)) := by
    show shW _ _ _ _ = _
    unfold shW
    rw [if_neg (by omega), if_pos rfl]
  have HT0 : Hid (∀ j, atS s / 64 + 2 ≤ j → shW (szS s) (atS s / 64) (atS s % 64) j = 0) := thi
  have q1 : Int.tdiv ((k : Int) - 1 + 2) 64 = ((atS s / 64 : Nat) : Int) := by rw [hat]; rw [Int.tdiv_eq_ediv_of_nonneg (by omega)]; omega
  have q2 : Int.tmod ((k : Int) - 1 + 2) 64 = ((atS s % 64 : Nat) : Int) := by rw [hat]; rw [Int.tmod_eq_emod_of_nonneg (by omega)]; omega
  have hz0 : ((k : Int) == 0) = false := by rw [beq_eq_false_iff_ne]; omega
  have hsg : bits .and .u32 (s : Int) 2147483648 = 0 := and_lo _ (by omega) (by omega)
  have hszv : Hid (((fr : Int) + 8388608) = ((szS s : Nat) : Int)) := by
    show _ = _
    rw [hsz]
    try rfl
  generalize hS : szS s = S at *
  generalize hI : atS s / 64 = i0 at *
  generalize hH : atS s % 64 = h at *
  have hi0 : i0 < 4 := by omega
  have hh : h ≤ 64 := by omega
  clear hsz hat tlo thi hS hI hH hal h0 h1 HT hk hfr
  have HD : Hid (∀ i, dgS sE sC N (shW S i0 h) i = sE (N i) (shW S i0 h i) (cyS sC N (shW S i0 h) i)) := fun _ => rfl
  have HS : Hid (∀ i, cyS sC N (shW S i0 h) (i + 1) = sC (N i) (shW S i0 h i) (cyS sC N (shW S i0 h) i)) := fun _ => rfl
  generalize dgS sE sC N (shW S i0 h) = D at *
  generalize cyS sC N (shW S i0 h) = cy at *
  generalize shW S i0 h = T at *
  go_enter Tryd.func35, Tryd.ntmps35
  go_wp2_with fail
  refine regionN1 (nn := N i0) (cy := 0) (sz := S) (sh := h) (fk := 58) (sE := sE) (sC := sC) rfl rfl ⟨rfl, rfl, rfl, rfl, HST, by decide, by omega, ?_, ?_, congrArg (fun v => some (Value.int .u64 v)) hszv.out, rfl, hh⟩ ?_
  · simpa using HC.out i0 (by omega)
  · simpa using HZ.out i0
  have hd1 : sE (N i0) (S * 2 ^ h % m64) 0 = D i0 := by rw [HD.out, HC0.out, HE1.out]
  have hc1 : sC (N i0) (S * 2 ^ h % m64) 0 = cy (i0 + 1) := by rw [HS.out, HC0.out, HE1.out]
  rw [hd1, hc1]
  have HA1 : Hid (ASt w B N (D) (i0 + 1) (w.drew.setCell ⟨B, i0, none⟩ (.int .u64 (D i0 : Nat)))) := (ASt.start HC.out HLO.out).step (by omega)
  generalize (w.drew.setCell ⟨B, i0, none⟩ (.int .u64 (D i0 : Nat))) = x1 at HA1 ⊢
  clear hd1 hc1 HC HE1 HLO HC0
  have HZ1 : Hid (∀ j, x1.frozen? ⟨B, j, none⟩ = false) := fun j => (HA1.out.fb.frz _).trans (HZ.out j)
  rw [normN1]
  go_wp2_with fail
  refine regionN2 (nn := N (i0 + 1)) (cy := cy (i0 + 1)) (sz := S) (sh := h) (fk := 58) (sE := sE) (sC := sC) rfl rfl ⟨rfl, rfl, rfl, rfl, HST, HCY.out _, by omega, HA1.out.at (by omega), ?_, congrArg (fun v => some (Value.int .u64 v)) hszv.out, rfl, hh⟩ ?_
  · simpa using HZ1.out (i0 + 1)
  have hd1 : sE (N (i0 + 1)) (S / 2 ^ (64 - h)) (cy (i0 + 1)) = D (i0 + 1) := by rw [HD.out, HE2.out]
  have hc1 : sC (N (i0 + 1)) (S / 2 ^ (64 - h)) (cy (i0 + 1)) = cy (i0 + 2) := by rw [HS.out (i0 + 1), HE2.out]
  rw [hd1, hc1]
  have HA2 : Hid (ASt w B N (D) (i0 + 2) (x1.drew.setCell ⟨B, i0 + 1, none⟩ (.int .u64 (D (i0 + 1) : Nat)))) := HA1.out.step (by omega)
  generalize (x1.drew.setCell ⟨B, i0 + 1, none⟩ (.int .u64 (D (i0 + 1) : Nat))) = x2 at HA2 ⊢
  clear hd1 hc1 HE2 HA1 HZ1
  rw [normN2]
  go_wp2_with fail
  go_loopg [8, 10] (5 - (i0 + 2)) (fun gh s8 s10 wr => ∃ i : Nat, s8 = .int .i64 (i : Int) ∧ s10 = .int .u64 (cy i : Nat) ∧ i0 + 2 ≤ i ∧ i ≤ 5 ∧ gh = 5 - i ∧ Hid (ASt w B N (D) i wr))
  case atStart => exact ⟨i0 + 2, by simp, rfl, by omega, by omega, rfl, HA2.out⟩
  case round =>
    obtain ⟨i, rfl, rfl, hi, hi5, rfl, HA⟩ := hrel
    have hcle := HCY.out i
    by_cases h5 : i < 5
    · rcases Nat.eq_zero_or_pos (cy i) with hc0 | hc1
      · have HAD : Hid (ADone w B D wr) := HA.out.done (fun j hj _ => HHI.out i hi hc0 j hj)
        rw [hc0]
        clear HA hc0 hcle
        have hlt : (i : Int) < 5 := by omega
        go_wp2_with fail
        exact bodyPost_end (results_none Tryd.results35 _ _ _) rfl ⟨rfl, HAD.out⟩
      · have hc1 : cy i = 1 := by omega
        have HA' : Hid (ASt w B N D (i + 1) (wr.drew.setCell ⟨B, i, none⟩ (.int .u64 (D i : Nat)))) := HA.out.step h5
        have hd1 : sE (N i) 0 1 = D i := by rw [HD.out, HT0.out i hi, hc1]
        have hs1 : sC (N i) 0 1 = cy (i + 1) := by rw [HS.out, HT0.out i hi, hc1]
        rw [hc1]
        have hlt : (i : Int) < 5 := by omega
        go_wp2_with fail
        refine regionN3 (nn := N i) (cy := 1) (fk := 58) (sE := sE) (sC := sC) rfl rfl ⟨rfl, rfl, rfl, rfl, HST, by decide, h5, HA.out.at h5, ?_⟩ ?_
        · have := (HA.out.fb.frz ⟨B, i, none⟩).trans (HZ.out i)
          simpa using this
        rw [hd1, hs1, normN3]
        go_wp2_with fail
        go_roundg (5 - (i + 1))
        case measure => go_light; omega
        case rel =>
          go_light
          exact ⟨i + 1, by simp, rfl, by omega, by omega, rfl, HA'.out⟩
    · obtain rfl : i = 5 := by omega
      have HAD : Hid (ADone w B D wr) := HA.out.done (fun j hj h => by omega)
      clear HA
      generalize cy 5 = c5 at *
      go_wp2_with fail
      exact bodyPost_end (results_none Tryd.results35 _ _ _) rfl ⟨rfl, HAD.out⟩
set_option maxHeartbeats 4000000 in
set_option maxRecDepth 100000 in
theorem nadd_nm (sE sC : Nat → Nat → Nat → Nat) (HST : Steps 59 sE sC) (HOK : StepOk sE sC) (N : Nat → Nat) (s B : Nat) (hN : ∀ i, N i < m64) (hs : s < 4294967296) (hf : s / 8388608 % 256 < 255) (h0 : s / 8388608 % 256 ≠ 0) (h1 : ¬ s < 2147483648) (w : World) (hc : WIs w B N) (hz : ∀ j, w.frozen? ⟨B, j, none⟩ = false) : Calls Tryd.prog 35 #[.pointer (some ⟨B, 0, none⟩), .int .u32 (s : Nat)] w fun e w' => e = .returned (.tuple #[]) ∧ ADone w B (dgS sE sC N (shW (szS s) (atS s / 64) (atS s % 64))) w' := by
  have HN : Hid (∀ i, N i < m64) := hN
  have HC : Hid (WIs w B N) := hc
  have HZ : Hid (∀ j, w.frozen? ⟨B, j, none⟩ = false) := hz
  clear hN hc hz
  obtain ⟨k, hk⟩ : ∃ k, s / 8388608 % 256 = k := ⟨_, rfl⟩
  obtain ⟨fr, hfr⟩ : ∃ fr, s % 8388608 = fr := ⟨_, rfl⟩
  have e255 : bits .and .u32 ((s : Int) / 8388608) 255 = (k : Int) := (and_255 _ (by omega) (by omega)).trans (by omega)
  have r2 : (s : Int) % 8388608 = (fr : Int) := by omega
  have hk1 : k < 255 := by omega
  have hfr1 : fr < 8388608 := by omega
  rw [hk] at h0
  have hsz : szS s = fr + 8388608 := (if_neg (fun e => h0 (hk.symm.trans e))).trans (by rw [hfr])
  have hat : atS s = k + 1 := (if_neg (fun e => h0 (hk.symm.trans e))).trans (by rw [hk])
  have hszl : szS s < m64 := by rw [hsz]; unfold m64; omega
  have hal : atS s < 256 := by rw [hat]; omega
  have HT : Hid (∀ i, shW (szS s) (atS s / 64) (atS s % 64) i < m64) := sh_lt hszl
  have HCY : Hid (∀ i, cyS sC N (shW (szS s) (atS s / 64) (atS s % 64)) i ≤ 1) := cyS_le HOK HN.out HT.out
  have tlo : ∀ j, j < atS s / 64 → shW (szS s) (atS s / 64) (atS s % 64) j = 0 := fun j hj => by unfold shW; rw [if_neg (by omega), if_neg (by omega)]
  have thi : ∀ j, atS s / 64 + 2 ≤ j → shW (szS s) (atS s / 64) (atS s % 64) j = 0 := fun j hj => by unfold shW; rw [if_neg (by omega), if_neg (by omega)]
  have HLO : Hid (∀ j, j < atS s / 64 → dgS sE sC N (shW (szS s) (atS s / 64) (atS s % 64)) j = N j) := dgS_lo HOK HN.out tlo
  have HHI : Hid (∀ k, atS s / 64 + 2 ≤ k → cyS sC N (shW (szS s) (atS s / 64) (atS s % 64)) k = 0 → ∀ j, k ≤ j → dgS sE sC N (shW (szS s) (atS s / 64) (atS s % 64)) j = N j) := fun k hk h j hj => dgS_hi HOK HN.out (fun i hi => thi i (by omega)) h j hj
  have HC0 : Hid (cyS sC N (shW (szS s) (atS s / 64) (atS s % 64)) (atS s / 64) = 0) := cyS_lo HOK HN.out tlo _ (Nat.le_refl _)
  have HE1 : Hid (shW (szS s) (atS s / 64) (atS s % 64) (atS s / 64) = szS s * 2 ^ (atS s % 64) % m64) := if_pos rfl
  have HE2 : Hid (shW (szS s) (atS s / 64) (atS s % 64) (atS s / 64 + 1) = szS s / 2 ^ (64 - atS s % 64)) := by
    show shW _ _ _ _ = _
    unfold shW
    rw [if_neg (by omega), if_pos rfl]
  have HT0 : Hid (∀ j, atS s / 64 + 2 ≤ j → shW (szS s) (atS s / 64) (atS s % 64) j = 0) := thi
  have q1 : Int.tdiv ((k : Int) - 1 + 2) 64 = ((atS s / 64 : Nat) : Int) := by rw [hat]; rw [Int.tdiv_eq_ediv_of_nonneg (by omega)]; omega
  have q2 : Int.tmod ((k : Int) - 1 + 2) 64 = ((atS s % 64 : Nat) : Int) := by rw [hat]; rw [Int.tmod_eq_emod_of_nonneg (by omega)]; omega
  have hz0 : ((k : Int) == 0) = false := by rw [beq_eq_false_iff_ne]; omega
  have hsg : bits .and .u32 (s : Int) 2147483648 = 2147483648 := and_hi _ (by omega) (by omega)
  have hszv : Hid (((fr : Int) + 8388608) = ((szS s : Nat) : Int)) := by
    show _ = _
    rw [hsz]
    try rfl
  generalize hS : szS s = S at *
  generalize hI : atS s / 64 = i0 at *
  generalize hH : atS s % 64 = h at *
  have hi0 : i0 < 4 := by omega
  have hh : h ≤ 64 := by omega
  clear hsz hat tlo thi hS hI hH hal h0 h1 HT hk hfr
  have HD : Hid (∀ i, dgS sE sC N (shW S i0 h) i = sE (N i) (shW S i0 h i) (cyS sC N (shW S i0 h) i)) := fun _ => rfl
  have HS : Hid (∀ i, cyS sC N (shW S i0 h) (i + 1) = sC (N i) (shW S i0 h i) (cyS sC N (shW S i0 h) i)) := fun _ => rfl
  generalize dgS sE sC N (shW S i0 h) = D at *
  generalize cyS sC N (shW S i0 h) = cy at *
  generalize shW S i0 h = T at *
  go_enter Tryd.func35, Tryd.ntmps35
  go_wp2_with fail
  refine regionN1 (nn := N i0) (cy := 0) (sz := S) (sh := h) (fk := 59) (sE := sE) (sC := sC) rfl rfl ⟨rfl, rfl, rfl, rfl, HST, by decide, by omega, ?_, ?_, congrArg (fun v => some (Value.int .u64 v)) hszv.out, rfl, hh⟩ ?_
  · simpa using HC.out i0 (by omega)
  · simpa using HZ.out i0
  have hd1 : sE (N i0) (S * 2 ^ h % m64) 0 = D i0 := by rw [HD.out, HC0.out, HE1.out]
  have hc1 : sC (N i0) (S * 2 ^ h % m64) 0 = cy (i0 + 1) := by rw [HS.out, HC0.out, HE1.out]
  rw [hd1, hc1]
  have HA1 : Hid (ASt w B N (D) (i0 + 1) (w.drew.setCell ⟨B, i0, none⟩ (.int .u64 (D i0 : Nat)))) := (ASt.start HC.out HLO.out).step (by omega)
  generalize (w.drew.setCell ⟨B, i0, none⟩ (.int .u64 (D i0 : Nat))) = x1 at HA1 ⊢
  clear hd1 hc1 HC HE1 HLO HC0
  have HZ1 : Hid (∀ j, x1.frozen? ⟨B, j, none⟩ = false) := fun j => (HA1.out.fb.frz _).trans (HZ.out j)
  rw [normN1]
  go_wp2_with fail
  refine regionN2 (nn := N (i0 + 1)) (cy := cy (i0 + 1)) (sz := S) (sh := h) (fk := 59) (sE := sE) (sC := sC) rfl rfl ⟨rfl, rfl, rfl, rfl, HST, HCY.out _, by omega, HA1.out.at (by omega), ?_, congrArg (fun v => some (Value.int .u64 v)) hszv.out, rfl, hh⟩ ?_
  · simpa using HZ1.out (i0 + 1)
  have hd1 : sE (N (i0 + 1)) (S / 2 ^ (64 - h)) (cy (i0 + 1)) = D (i0 + 1) := by rw [HD.out, HE2.out]
  have hc1 : sC (N (i0 + 1)) (S / 2 ^ (64 - h)) (cy (i0 + 1)) = cy (i0 + 2) := by rw [HS.out (i0 + 1), HE2.out]
  rw [hd1, hc1]
  have HA2 : Hid (ASt w B N (D) (i0 + 2) (x1.drew.setCell ⟨B, i0 + 1, none⟩ (.int .u64 (D (i0 + 1) : Nat)))) := HA1.out.step (by omega)
  generalize (x1.drew.setCell ⟨B, i0 + 1, none⟩ (.int .u64 (D (i0 + 1) : Nat))) = x2 at HA2 ⊢
  clear hd1 hc1 HE2 HA1 HZ1
  rw [normN2]
  go_wp2_with fail
  go_loopg [8, 10] (5 - (i0 + 2)) (fun gh s8 s10 wr => ∃ i : Nat, s8 = .int .i64 (i : Int) ∧ s10 = .int .u64 (cy i : Nat) ∧ i0 + 2 ≤ i ∧ i ≤ 5 ∧ gh = 5 - i ∧ Hid (ASt w B N (D) i wr))
  case atStart => exact ⟨i0 + 2, by simp, rfl, by omega, by omega, rfl, HA2.out⟩
  case round =>
    obtain ⟨i, rfl, rfl, hi, hi5, rfl, HA⟩ := hrel
    have hcle := HCY.out i
    by_cases h5 : i < 5
    · rcases Nat.eq_zero_or_pos (cy i) with hc0 | hc1
      · have HAD : Hid (ADone w B D wr) := HA.out.done (fun j hj _ => HHI.out i hi hc0 j hj)
        rw [hc0]
        clear HA hc0 hcle
        have hlt : (i : Int) < 5 := by omega
        go_wp2_with fail
        exact bodyPost_end (results_none Tryd.results35 _ _ _) rfl ⟨rfl, HAD.out⟩
      · have hc1 : cy i = 1 := by omega
        have HA' : Hid (ASt w B N D (i + 1) (wr.drew.setCell ⟨B, i, none⟩ (.int .u64 (D i : Nat)))) := HA.out.step h5
        have hd1 : sE (N i) 0 1 = D i := by rw [HD.out, HT0.out i hi, hc1]
        have hs1 : sC (N i) 0 1 = cy (i + 1) := by rw [HS.out, HT0.out i hi, hc1]
        rw [hc1]
        have hlt : (i : Int) < 5 := by omega
        go_wp2_with fail
        refine regionN3 (nn := N i) (cy := 1) (fk := 59) (sE := sE) (sC := sC) rfl rfl ⟨rfl, rfl, rfl, rfl, HST, by decide, h5, HA.out.at h5, ?_⟩ ?_
        · have := (HA.out.fb.frz ⟨B, i, none⟩).trans (HZ.out i)
          simpa using this
        rw [hd1, hs1, normN3]
        go_wp2_with fail
        go_roundg (5 - (i + 1))
        case measure => go_light; omega
        case rel =>
          go_light
          exact ⟨i + 1, by simp, rfl, by omega, by omega, rfl, HA'.out⟩
    · obtain rfl : i = 5 := by omega
      have HAD : Hid (ADone w B D wr) := HA.out.done (fun j hj h => by omega)
      clear HA
      generalize cy 5 = c5 at *
      go_wp2_with fail
      exact bodyPost_end (results_none Tryd.results35 _ _ _) rfl ⟨rfl, HAD.out⟩
theorem nadd_any (N : Nat → Nat) (s B : Nat) (hN : ∀ i, N i < m64) (hs : s < 4294967296) (hf : s / 8388608 % 256 < 255) (w : World) (hc : WIs w B N) (hz : ∀ j, w.frozen? ⟨B, j, none⟩ = false) : Calls Tryd.prog 35 #[.pointer (some ⟨B, 0, none⟩), .int .u32 (s : Nat)] w fun e w' => e = .returned (.tuple #[]) ∧ ADone w B (adS N s) w' := by
  by_cases h0 : s / 8388608 % 256 = 0
  · by_cases h1 : s < 2147483648
    · rw [show adS N s = _ from if_pos h1]; exact nadd_zp addE addC steps_add ok_add N s B hN hs hf h0 h1 w hc hz
    · rw [show adS N s = _ from if_neg h1]; exact nadd_zm subE subC steps_sub ok_sub N s B hN hs hf h0 h1 w hc hz
  · by_cases h1 : s < 2147483648
    · rw [show adS N s = _ from if_pos h1]; exact nadd_np addE addC steps_add ok_add N s B hN hs hf h0 h1 w hc hz
    · rw [show adS N s = _ from if_neg h1]; exact nadd_nm subE subC steps_sub ok_sub N s B hN hs hf h0 h1 w hc hz
end Go.Proofs.YtmgpaheobhfioaaDoor
/- Numbers of five words: what they stand for. -/
namespace Go.Proofs.YtmgpaheobhfioaaDoor
open Go.RowKit
set_option linter.unusedVariables false
set_option linter.unusedSimpArgs false

theorem cyS_add (N T : Nat → Nat) : ∀ i, cyS addC N T i = cyV N T i := by
  intro i
  induction i with
  | zero => rfl
  | succ i ih => show addC _ _ _ = addC _ _ _; rw [ih]
theorem dgS_add (N T : Nat → Nat) : dgS addE addC N T = dgV N T := by
  funext i
  show addE _ _ _ = addE _ _ _
  rw [cyS_add]
theorem dgS_eq (sE sC : Nat → Nat → Nat → Nat) (N T : Nat → Nat) (i : Nat) : dgS sE sC N T i = sE (N i) (T i) (cyS sC N T i) := rfl
theorem cyS_eq (sC : Nat → Nat → Nat → Nat) (N T : Nat → Nat) (i : Nat) : cyS sC N T (i + 1) = sC (N i) (T i) (cyS sC N T i) := rfl
theorem sub_fact {n t c : Nat} (hn : n < m64) (ht : t < m64) (hc : c ≤ 1) : subE n t c + t + c = n + subC n t c * m64 := by
  unfold subE subC m64 at *
  split <;> omega
theorem valW_succ (N : Nat → Nat) (i : Nat) : valW N (i + 1) = valW N i + N i * m64 ^ i := rfl
theorem two64 : (2 : Nat) ^ 64 = m64 := by unfold m64; decide
theorem words_alg {a4 a8 a7 d t n c1 c0 G M : Nat} (ih : a4 + a8 = a7 + c0 * G) (h1 : d + t + c0 = n + c1 * M) : a4 + d * G + (a8 + t * G) = a7 + n * G + c1 * (G * M) := by
  have h2 : (d + t + c0) * G = (n + c1 * M) * G := by rw [h1]
  rw [Nat.add_mul, Nat.add_mul, Nat.add_mul, Nat.mul_assoc, Nat.mul_comm M G] at h2
  omega
theorem sh_alg (X G M : Nat) : 0 + X % M * G + X / M * (G * M) = X * G := by
  have h := Nat.mod_add_div X M
  have h2 : (X % M + M * (X / M)) * G = X * G := by rw [h]
  rw [Nat.add_mul, Nat.mul_comm M, Nat.mul_assoc, Nat.mul_comm M G] at h2
  omega
theorem words_base {X : Nat} (h : X = 0) (a b c G : Nat) (ha : a = 0) (hb : b = 0) (hc : c = 0) : a + b = c + X * G := by
  rw [ha, hb, hc, h, Nat.zero_mul]
theorem valW_none (N : Nat → Nat) : valW N 0 = 0 := rfl
theorem cyS_none (sC : Nat → Nat → Nat → Nat) (N T : Nat → Nat) : cyS sC N T 0 = 0 := rfl
theorem sub_words {N T : Nat → Nat} (hN : ∀ i, N i < m64) (hT : ∀ i, T i < m64) : ∀ i, valW (dgS subE subC N T) i + valW T i = valW N i + cyS subC N T i * m64 ^ i := by
  intro i
  induction i with
  | zero => exact words_base (cyS_none _ _ _) _ _ _ _ (valW_none _) (valW_none _) (valW_none _)
  | succ i ih =>
    rw [valW_succ, valW_succ, valW_succ]
    have h1 : dgS subE subC N T i + T i + cyS subC N T i = N i + cyS subC N T (i + 1) * m64 := by
      rw [dgS_eq, cyS_eq]
      exact sub_fact (hN i) (hT i) (cyS_le ok_sub hN hT i)
    rw [Nat.pow_succ]
    exact words_alg ih h1
theorem subE_lt (n t c : Nat) : subE n t c < m64 := by unfold subE; exact Nat.mod_lt _ (by decide)
theorem dgS_sub_lt (N T : Nat → Nat) (i : Nat) : dgS subE subC N T i < m64 := by rw [dgS_eq]; exact subE_lt _ _ _
theorem sh_div {sz sh : Nat} (h1 : sh < 64) : sz * 2 ^ sh / m64 = sz / 2 ^ (64 - sh) := by
  have : m64 = 2 ^ (64 - sh) * 2 ^ sh := by rw [← Nat.pow_add, show 64 - sh + sh = 64 by omega, two64]
  rw [this, Nat.mul_div_mul_right _ _ (Nat.pow_pos (by decide))]
theorem shW_at (sz i0 sh : Nat) : shW sz i0 sh i0 = sz * 2 ^ sh % m64 := if_pos rfl
theorem shW_next (sz i0 sh : Nat) : shW sz i0 sh (i0 + 1) = sz / 2 ^ (64 - sh) := by unfold shW; rw [if_neg (by omega), if_pos rfl]
theorem shW_off (sz : Nat) {i0 sh k : Nat} (h : k ≠ i0) (h' : k ≠ i0 + 1) : shW sz i0 sh k = 0 := by unfold shW; rw [if_neg h, if_neg h']
/-- A shifted size. -/
theorem sh_val {sz i0 sh : Nat} (h0 : i0 < 4) (h1 : sh < 64) : valW (shW sz i0 sh) 5 = sz * 2 ^ (64 * i0 + sh) := by
  have hlt : ∀ k, k ≤ i0 → valW (shW sz i0 sh) k = 0 := by
    intro k
    induction k with
    | zero => intro _; rfl
    | succ k ih =>
      intro hk
      rw [valW_succ, ih (by omega)]
      rw [shW_off sz (by omega) (by omega)]
      simp
  have hx : valW (shW sz i0 sh) (i0 + 2) = sz * 2 ^ (64 * i0 + sh) := by
    rw [show i0 + 2 = i0 + 1 + 1 from rfl, valW_succ, valW_succ]
    rw [hlt i0 (Nat.le_refl _)]
    have e5 : sz * 2 ^ (64 * i0 + sh) = sz * 2 ^ sh * m64 ^ i0 := by
      rw [Nat.pow_add, Nat.pow_mul, two64, Nat.mul_comm (m64 ^ i0), Nat.mul_assoc]
    rw [shW_at, shW_next, e5, ← sh_div h1, Nat.pow_succ]
    exact sh_alg _ _ _
  have hgt : ∀ k, valW (shW sz i0 sh) (i0 + 2 + k) = valW (shW sz i0 sh) (i0 + 2) := by
    intro k
    induction k with
    | zero => rw [Nat.add_zero]
    | succ k ih =>
      have e1 : valW (shW sz i0 sh) (i0 + 2 + (k + 1)) = valW (shW sz i0 sh) (i0 + 2 + k) + shW sz i0 sh (i0 + 2 + k) * m64 ^ (i0 + 2 + k) := valW_succ _ _
      have e2 : shW sz i0 sh (i0 + 2 + k) = 0 := shW_off sz (by omega) (by omega)
      rw [e1, ih, e2, Nat.zero_mul, Nat.add_zero]
  rw [← hx, ← hgt (3 - i0), show i0 + 2 + (3 - i0) = 5 by omega]
/-- Words that stand for a whole number. -/
structure Rep (N : Nat → Nat) (z : Int) : Prop where
  lt : ∀ i, N i < m64
  eq : ((valW N 5 : Nat) : Int) = z % ((m64 ^ 5 : Nat) : Int)
theorem m5_pos : (0 : Int) < ((m64 ^ 5 : Nat) : Int) := Int.natCast_pos.2 (Nat.pow_pos (by decide))
theorem valW_nil : ∀ i, valW (fun _ => 0) i = 0 := by
  intro i
  induction i with
  | zero => rfl
  | succ i ih => show valW _ i + 0 * _ = 0; rw [ih, Nat.zero_mul]
theorem Rep.nil : Rep (fun _ => 0) 0 := ⟨fun _ => by decide, by rw [valW_nil]; simp⟩
theorem emod_of {a z : Int} {M : Int} (hM : 0 < M) (h0 : 0 ≤ a) (h1 : a < M) (k : Int) (h : a = z + k * M) : a = z % M := by
  have : z % M = a % M := by rw [h, Int.add_mul_emod_self_right]
  rw [this, Int.emod_eq_of_lt h0 h1]
theorem Rep.plus {N M : Nat → Nat} {z y : Int} (h : Rep N z) (g : Rep M y) : Rep (dgV N M) (z + y) := by
  refine ⟨dg_lt N M, ?_⟩
  have hs := sum_words N M 5
  have hl := valW_lt (dg_lt N M) 5
  have h1 : ((valW N 5 + valW M 5 : Nat) : Int) % ((m64 ^ 5 : Nat) : Int) = (z + y) % ((m64 ^ 5 : Nat) : Int) := by
    rw [Int.natCast_add, h.eq, g.eq, Int.emod_add_emod, Int.add_emod_emod]
  rw [← h1, ← hs]
  rw [Int.natCast_add, Int.natCast_mul, Int.add_mul_emod_self_right]
  exact (Int.emod_eq_of_lt (Int.natCast_nonneg _) (by exact_mod_cast hl)).symm
theorem Rep.minus {N T : Nat → Nat} {z : Int} {y : Nat} (h : Rep N z) (hT : ∀ i, T i < m64) (hy : valW T 5 = y) : Rep (dgS subE subC N T) (z - y) := by
  refine ⟨dgS_sub_lt N T, ?_⟩
  have hs := sub_words h.lt hT 5
  have hl := valW_lt (dgS_sub_lt N T) 5
  rw [hy] at hs
  have h1 : ((valW N 5 : Nat) : Int) % ((m64 ^ 5 : Nat) : Int) = z % ((m64 ^ 5 : Nat) : Int) := by rw [h.eq, Int.emod_emod_of_dvd _ (Int.dvd_refl _)]
  have h2 : ((valW (dgS subE subC N T) 5 : Nat) : Int) = (valW N 5 : Int) - y + (cyS subC N T 5 : Int) * ((m64 ^ 5 : Nat) : Int) := by
    have : ((valW (dgS subE subC N T) 5 + y : Nat) : Int) = ((valW N 5 + cyS subC N T 5 * m64 ^ 5 : Nat) : Int) := by rw [hs]
    rw [Int.natCast_add, Int.natCast_add, Int.natCast_mul] at this
    omega
  have h3 : ((valW N 5 : Int) - y) % ((m64 ^ 5 : Nat) : Int) = (z - y) % ((m64 ^ 5 : Nat) : Int) := by
    rw [Int.sub_emod, h1, ← Int.sub_emod]
  rw [← h3]
  exact emod_of m5_pos (Int.natCast_nonneg _) (by exact_mod_cast hl) _ h2
/-- A finite sample in units. -/
def unZ (s : Nat) : Int := if s < 2147483648 then ((szS s * 2 ^ atS s : Nat) : Int) else -((szS s * 2 ^ atS s : Nat) : Int)
theorem atS_lt {s : Nat} (h : s / 8388608 % 256 < 255) : atS s < 256 := by unfold atS; split <;> omega
theorem szS_lt (s : Nat) : szS s < 16777216 := by unfold szS; split <;> omega
theorem sh_at {s : Nat} (h : s / 8388608 % 256 < 255) : valW (shW (szS s) (atS s / 64) (atS s % 64)) 5 = szS s * 2 ^ atS s := by
  have h1 := atS_lt h
  rw [sh_val (by omega) (by omega), show 64 * (atS s / 64) + atS s % 64 = atS s by omega]
theorem shl_lt {s : Nat} (i : Nat) : shW (szS s) (atS s / 64) (atS s % 64) i < m64 := sh_lt (Nat.lt_trans (szS_lt s) (by decide)) i
theorem Rep.add {N : Nat → Nat} {z : Int} {s : Nat} (h : Rep N z) (hs : s / 8388608 % 256 < 255) : Rep (adS N s) (z + unZ s) := by
  unfold adS unZ
  by_cases g : s < 2147483648
  · rw [if_pos g, if_pos g, dgS_add]
    refine h.plus ⟨shl_lt, ?_⟩
    rw [sh_at hs]
    refine (Int.emod_eq_of_lt (Int.natCast_nonneg _) ?_).symm
    have h1 := valW_lt (N := shW (szS s) (atS s / 64) (atS s % 64)) shl_lt 5
    rw [sh_at hs] at h1
    exact_mod_cast h1
  · rw [if_neg g, if_neg g, ← Int.sub_eq_add_neg]
    exact h.minus shl_lt (sh_at hs)
/-- Of a number that isn't too great: its sign, and its size. -/
theorem top_val (N : Nat → Nat) (h : ∀ i, N i < m64) : (9223372036854775808 ≤ N 4 ↔ m64 ^ 5 ≤ 2 * valW N 5) := by
  have h4 : valW N 5 = valW N 4 + N 4 * m64 ^ 4 := rfl
  have h1 := valW_lt h 4
  have e : m64 ^ 5 = 2 * (9223372036854775808 * m64 ^ 4) := by
    rw [Nat.pow_succ, ← Nat.mul_assoc, Nat.mul_comm]
    rfl
  generalize m64 ^ 4 = G at *
  rw [e, h4]
  constructor
  · intro g
    have := Nat.mul_le_mul_right G g
    omega
  · intro g
    rcases Nat.lt_or_ge (N 4) 9223372036854775808 with k | k
    · exfalso
      have := Nat.mul_le_mul_right G (show N 4 + 1 ≤ 9223372036854775808 from k)
      rw [Nat.add_mul, Nat.one_mul] at this
      omega
    · exact k
theorem Rep.pos {N : Nat → Nat} {z : Int} (h : Rep N z) (h0 : 0 ≤ z) (h1 : 2 * z < ((m64 ^ 5 : Nat) : Int)) : ((valW N 5 : Nat) : Int) = z ∧ ¬ 9223372036854775808 ≤ N 4 := by
  have e : ((valW N 5 : Nat) : Int) = z := by rw [h.eq, Int.emod_eq_of_lt h0 (by omega)]
  refine ⟨e, fun g => ?_⟩
  have g := (top_val N h.lt).1 g
  generalize m64 ^ 5 = G at *
  omega
theorem Rep.neg {N : Nat → Nat} {z : Int} (h : Rep N z) (h0 : z < 0) (h1 : -((m64 ^ 5 : Nat) : Int) ≤ 2 * z) : ((valW (negW N) 5 : Nat) : Int) = -z ∧ 9223372036854775808 ≤ N 4 := by
  have e : ((valW N 5 : Nat) : Int) = z + ((m64 ^ 5 : Nat) : Int) := by
    rw [h.eq]
    have : z % ((m64 ^ 5 : Nat) : Int) = (z + ((m64 ^ 5 : Nat) : Int)) % ((m64 ^ 5 : Nat) : Int) := by rw [Int.add_emod_right]
    rw [this, Int.emod_eq_of_lt (by omega) (by omega)]
  have hl := valW_lt h.lt 5
  have hne : valW N 5 ≠ 0 := by
    intro g
    rw [g] at e
    have := m5_pos
    omega
  have hn := neg_words h.lt hne
  constructor
  · generalize m64 ^ 5 = G at *
    omega
  · refine (top_val N h.lt).2 ?_
    generalize m64 ^ 5 = G at *
    omega
theorem neg_lt (N : Nat → Nat) (i : Nat) : negW N i < m64 := dg_lt _ _ i
theorem valW_zero {N : Nat → Nat} : ∀ i, (valW N i = 0 ↔ ∀ j, j < i → N j = 0) := by
  intro i
  induction i with
  | zero => exact ⟨fun _ j h => by omega, fun _ => rfl⟩
  | succ i ih =>
    show valW N i + N i * m64 ^ i = 0 ↔ _
    have hp : 0 < m64 ^ i := Nat.pow_pos (by decide)
    constructor
    · intro h j hj
      have h1 : valW N i = 0 := by omega
      have h2 : N i * m64 ^ i = 0 := by omega
      rcases Nat.lt_or_ge j i with g | g
      · exact ih.1 h1 j g
      · obtain rfl : j = i := by omega
        rcases Nat.mul_eq_zero.1 h2 with k | k
        · exact k
        · omega
    · intro h
      rw [ih.2 (fun j hj => h j (by omega)), h i (by omega)]
      simp
end Go.Proofs.YtmgpaheobhfioaaDoor

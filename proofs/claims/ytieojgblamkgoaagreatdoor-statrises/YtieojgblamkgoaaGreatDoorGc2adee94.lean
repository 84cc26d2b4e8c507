/- Numbers of five words: a sample added where they lie. -/
import Derived.Test.YtieojgblamkgoaaGreatDoorGda92861c
import Derived.Test.YtieojgblamkgoaaGreatDoorG63430311
import Derived.Test.YtieojgblamkgoaaGreatDoorGedd9c870
import Derived.Test.YtieojgblamkgoaaGreatDoorG6dfefa34
namespace Go.Proofs.YtieojgblamkgoaaGreatDoor
open Go.RowKit
set_option linter.unusedVariables false
set_option linter.unusedSimpArgs false

/-- All blocks but one stay. -/
structure Fb (B : Nat) (w w' : World) : Prop where
  os : w'.os = w.os
  tape : w'.tape = w.tape
  output : w'.output = w.output
  size : w.heap.size ≤ w'.heap.size
  block : ∀ b, b < w.heap.size → b ≠ B → w'.heap[b]? = w.heap[b]?
  frz : ∀ a, w'.frozen? a = w.frozen? a
theorem Fb.refl (B : Nat) (w : World) : Fb B w w := ⟨rfl, rfl, rfl, Nat.le_refl _, fun _ _ _ => rfl, fun _ => rfl⟩
theorem Q.fb {w w' : World} (q : Q w w') (B : Nat) : Fb B w w' := ⟨q.1.os, q.1.tape, q.1.output, q.1.size, fun b hb _ => q.1.block b hb, q.2⟩
theorem Fb.q {w0 w w' : World} {B : Nat} (f : Fb B w w') (q : Q w0 w) (hB : w0.heap.size ≤ B) : Q w0 w' :=
  ⟨⟨f.os.trans q.1.os, f.tape.trans q.1.tape, f.output.trans q.1.output, Nat.le_trans q.1.size f.size, fun b hb => (f.block b (Nat.lt_of_lt_of_le hb q.1.size) (by omega)).trans (q.1.block b hb)⟩, fun a => (f.frz a).trans (q.2 a)⟩
theorem Fb.trans {a b c : World} {B : Nat} (f : Fb B a b) (g : Fb B b c) : Fb B a c :=
  ⟨g.os.trans f.os, g.tape.trans f.tape, g.output.trans f.output, Nat.le_trans f.size g.size, fun x hx hr => (g.block x (Nat.lt_of_lt_of_le hx f.size) hr).trans (f.block x hx hr), fun x => (g.frz x).trans (f.frz x)⟩
theorem Fb.cell {a b : World} {B : Nat} (f : Fb B a b) {p : Addr} {v : Value} (h : a.cell? p = some v) (hr : p.block ≠ B) : b.cell? p = some v :=
  (World.cell?_of_block (f.block p.block (World.block_lt_of_cell? _ _ h) hr)).trans h
theorem Fb.set {a b : World} {B : Nat} (f : Fb B a b) {p : Addr} (hp : p.block = B) (v : Value) : Fb B a (b.setCell p v) :=
  ⟨f.os, f.tape, f.output, by simpa [World.setCell] using f.size, fun x hx hr => (Below.heap_setCell _ _ _ _ (fun e => hr (by rw [e, hp]))).trans (f.block x hx hr), fun x => (World.frozen?_setCell _ _ _ _).trans (f.frz x)⟩
theorem Fb.drew {a b : World} {B : Nat} (f : Fb B a b) : Fb B a b.drew := f.trans ((Q.refl b).drew.fb B)
/-- Digits with carries or borrows. -/
def cyS (sC : Nat → Nat → Nat → Nat) (N T : Nat → Nat) : Nat → Nat
  | 0 => 0
  | i + 1 => sC (N i) (T i) (cyS sC N T i)
def dgS (sE sC : Nat → Nat → Nat → Nat) (N T : Nat → Nat) (i : Nat) : Nat := sE (N i) (T i) (cyS sC N T i)
structure StepOk (sE sC : Nat → Nat → Nat → Nat) : Prop where
  e0 : ∀ n, n < m64 → sE n 0 0 = n
  c0 : ∀ n, n < m64 → sC n 0 0 = 0
  c1 : ∀ n m c, n < m64 → m < m64 → c ≤ 1 → sC n m c ≤ 1
theorem ok_add : StepOk addE addC := ⟨fun n h => by unfold addE m64 at *; omega, fun n h => by unfold addC m64 at *; omega, fun n m c h1 h2 h3 => by unfold addC m64 at *; omega⟩
theorem ok_sub : StepOk subE subC := ⟨fun n h => by unfold subE m64 at *; omega, fun n h => by unfold subC m64 at *; split <;> omega, fun n m c h1 h2 h3 => by unfold subC m64 at *; split <;> omega⟩
/-- What is added: the two words of a size shifted. -/
def shW (sz i0 sh : Nat) (j : Nat) : Nat := if j = i0 then sz * 2 ^ sh % m64 else if j = i0 + 1 then sz / 2 ^ (64 - sh) else 0
theorem sh_lt {sz i0 sh : Nat} (h : sz < m64) (j : Nat) : shW sz i0 sh j < m64 := by
  unfold shW
  split
  · exact Nat.mod_lt _ (by decide)
  · split
    · exact Nat.lt_of_le_of_lt (Nat.div_le_self _ _) h
    · decide
section
variable {sE sC : Nat → Nat → Nat → Nat} {N T : Nat → Nat}
theorem cyS_le (H : StepOk sE sC) (hN : ∀ i, N i < m64) (hT : ∀ i, T i < m64) : ∀ i, cyS sC N T i ≤ 1 := by
  intro i
  induction i with
  | zero => exact Nat.zero_le _
  | succ i ih => exact H.c1 _ _ _ (hN i) (hT i) ih
theorem cyS_lo (H : StepOk sE sC) (hN : ∀ i, N i < m64) {k : Nat} (h : ∀ j, j < k → T j = 0) : ∀ i, i ≤ k → cyS sC N T i = 0 := by
  intro i
  induction i with
  | zero => intro _; rfl
  | succ i ih =>
    intro hi
    show sC (N i) (T i) (cyS sC N T i) = 0
    rw [ih (by omega), h i (by omega)]
    exact H.c0 _ (hN i)
theorem dgS_lo (H : StepOk sE sC) (hN : ∀ i, N i < m64) {k : Nat} (h : ∀ j, j < k → T j = 0) (i : Nat) (hi : i < k) : dgS sE sC N T i = N i := by
  unfold dgS
  rw [cyS_lo H hN h i (by omega), h i hi]
  exact H.e0 _ (hN i)
theorem cyS_hi (H : StepOk sE sC) (hN : ∀ i, N i < m64) {k : Nat} (h : ∀ j, k ≤ j → T j = 0) (hk : cyS sC N T k = 0) : ∀ i, k ≤ i → cyS sC N T i = 0 := by
  intro i
  induction i with
  | zero => intro _; rfl
  | succ i ih =>
    intro hi
    rcases Nat.lt_or_ge i k with g | g
    · obtain rfl : k = i + 1 := by omega
      exact hk
    · show sC (N i) (T i) (cyS sC N T i) = 0
      rw [ih g, h i g]
      exact H.c0 _ (hN i)
theorem dgS_hi (H : StepOk sE sC) (hN : ∀ i, N i < m64) {k : Nat} (h : ∀ j, k ≤ j → T j = 0) (hk : cyS sC N T k = 0) (i : Nat) (hi : k ≤ i) : dgS sE sC N T i = N i := by
  unfold dgS
  rw [cyS_hi H hN h hk i hi, h i hi]
  exact H.e0 _ (hN i)
end
/-- A number that lies in a block, while it is turned into another one. -/
structure ASt (w : World) (B : Nat) (N D : Nat → Nat) (i : Nat) (x : World) : Prop where
  fb : Fb B w x
  c : ∀ j, j < 5 → x.cell? ⟨B, j, none⟩ = some (.int .u64 ((if j < i then D j else N j : Nat) : Int))
  r : ∀ j, 5 ≤ j → x.cell? ⟨B, j, none⟩ = w.cell? ⟨B, j, none⟩
theorem ASt.step {w x : World} {B : Nat} {N D : Nat → Nat} {i : Nat} (h : ASt w B N D i x) (hi : i < 5) : ASt w B N D (i + 1) (x.drew.setCell ⟨B, i, none⟩ (.int .u64 (D i : Nat))) := by
  refine ⟨h.fb.drew.set rfl _, fun j hj => ?_, fun j hj => ?_⟩
  · by_cases e : j = i
    · subst e
      have c := h.c j hj
      rw [if_pos (by omega)]
      simp [go_sem, c]
    · have hne : (⟨B, i, none⟩ : Addr) ≠ ⟨B, j, none⟩ := fun e' => e (by injection e' with _ e'; exact e'.symm)
      rw [World.cell?_setCell_other _ _ _ _ hne]
      have c := h.c j hj
      have : (if j < i + 1 then D j else N j) = (if j < i then D j else N j) := by
        by_cases g : j < i
        · rw [if_pos g, if_pos (by omega)]
        · rw [if_neg g, if_neg (by omega)]
      rw [this]
      simpa using c
  · have hne : (⟨B, i, none⟩ : Addr) ≠ ⟨B, j, none⟩ := fun e' => by injection e' with _ e'; omega
    rw [World.cell?_setCell_other _ _ _ _ hne]
    simpa using h.r j hj
theorem ASt.at {w x : World} {B : Nat} {N D : Nat → Nat} {i : Nat} (h : ASt w B N D i x) (hi : i < 5) : x.drew.cell? ⟨B, i, none⟩ = some (.int .u64 (N i : Nat)) := by
  have c := h.c i hi
  rw [if_neg (Nat.lt_irrefl _)] at c
  simpa using c
/-- A number lies in a block. -/
def WIs (w : World) (B : Nat) (N : Nat → Nat) : Prop := ∀ j, j < 5 → w.cell? ⟨B, j, none⟩ = some (.int .u64 (N j : Nat))
theorem ASt.start {w : World} {B : Nat} {N D : Nat → Nat} (h : WIs w B N) {i : Nat} (hi : ∀ j, j < i → D j = N j) : ASt w B N D i w := by
  refine ⟨Fb.refl _ _, fun j hj => ?_, fun _ _ => rfl⟩
  have : (if j < i then D j else N j) = N j := by
    split
    · exact hi j (by assumption)
    · rfl
  rw [this]
  exact h j hj
/-- Behind it all. -/
structure ADone (w : World) (B : Nat) (D : Nat → Nat) (x : World) : Prop where
  fb : Fb B w x
  c : WIs x B D
  r : ∀ j, 5 ≤ j → x.cell? ⟨B, j, none⟩ = w.cell? ⟨B, j, none⟩
theorem ASt.done {w x : World} {B : Nat} {N D : Nat → Nat} {i : Nat} (h : ASt w B N D i x) (hi : ∀ j, i ≤ j → j < 5 → D j = N j) : ADone w B D x := by
  refine ⟨h.fb, fun j hj => ?_, h.r⟩
  have c := h.c j hj
  have : (if j < i then D j else N j) = D j := by
    split
    · rfl
    · exact (hi j (by omega) hj).symm
  rw [this] at c
  exact c
set_option maxRecDepth 100000 in
theorem normN1 {t0 t1 t2 t3 t4 t5 t6 t7 t8 t9 t10 t11 t12 t13 t14 t15 t16 t17 t18 t19 t20 t21 t22 t23 t24 t25 t26 t27 t28 t29 t30 t31 t32 t33 t34 t35 t36 t37 t38 t39 t40 t41 t42 t43 t44 t45 t46 t47 t48 t49 t50 t51 t52 t53 t54 t55 t56 t57 t58 t59 t60 t61 t62 t63 t64 t65 t66 t67 t68 t69 t70 t71 t72 t73 t74 t75 t76 t77 t78 t79 t80 t81 t82 t83 t84 t85 t86 t87 t88 t89 t90 t91 t92 t93 t94 t95 v33 v34 v35 v36 v37 v38 v39 v40 v41 v42 v43 v44 v45 v32 v46 v47 v48 v49 v10 : Value} {d : List Deferred} : putAll ⟨#[t0, t1, t2, t3, t4, t5, t6, t7, t8, t9, t10, t11, t12, t13, t14, t15, t16, t17, t18, t19, t20, t21, t22, t23, t24, t25, t26, t27, t28, t29, t30, t31, t32, t33, t34, t35, t36, t37, t38, t39, t40, t41, t42, t43, t44, t45, t46, t47, t48, t49, t50, t51, t52, t53, t54, t55, t56, t57, t58, t59, t60, t61, t62, t63, t64, t65, t66, t67, t68, t69, t70, t71, t72, t73, t74, t75, t76, t77, t78, t79, t80, t81, t82, t83, t84, t85, t86, t87, t88, t89, t90, t91, t92, t93, t94, t95], d⟩ [(33, v33), (34, v34), (35, v35), (36, v36), (37, v37), (38, v38), (39, v39), (40, v40), (41, v41), (42, v42), (43, v43), (44, v44), (45, v45), (32, v32), (46, v46), (47, v47), (48, v48), (49, v49), (10, v10)] = ⟨#[t0, t1, t2, t3, t4, t5, t6, t7, t8, t9, v10, t11, t12, t13, t14, t15, t16, t17, t18, t19, t20, t21, t22, t23, t24, t25, t26, t27, t28, t29, t30, t31, v32, v33, v34, v35, v36, v37, v38, v39, v40, v41, v42, v43, v44, v45, v46, v47, v48, v49, t50, t51, t52, t53, t54, t55, t56, t57, t58, t59, t60, t61, t62, t63, t64, t65, t66, t67, t68, t69, t70, t71, t72, t73, t74, t75, t76, t77, t78, t79, t80, t81, t82, t83, t84, t85, t86, t87, t88, t89, t90, t91, t92, t93, t94, t95], d⟩ := by
  kernel_rfl
set_option maxRecDepth 100000 in
theorem normN2 {t0 t1 t2 t3 t4 t5 t6 t7 t8 t9 t10 t11 t12 t13 t14 t15 t16 t17 t18 t19 t20 t21 t22 t23 t24 t25 t26 t27 t28 t29 t30 t31 t32 t33 t34 t35 t36 t37 t38 t39 t40 t41 t42 t43 t44 t45 t46 t47 t48 t49 t50 t51 t52 t53 t54 t55 t56 t57 t58 t59 t60 t61 t62 t63 t64 t65 t66 t67 t68 t69 t70 t71 t72 t73 t74 t75 t76 t77 t78 t79 t80 t81 t82 t83 t84 t85 t86 t87 t88 t89 t90 t91 t92 t93 t94 t95 v51 v52 v53 v54 v55 v56 v57 v58 v59 v60 v61 v62 v63 v64 v65 v66 v50 v67 v68 v69 v70 v10 : Value} {d : List Deferred} : putAll ⟨#[t0, t1, t2, t3, t4, t5, t6, t7, t8, t9, t10, t11, t12, t13, t14, t15, t16, t17, t18, t19, t20, t21, t22, t23, t24, t25, t26, t27, t28, t29, t30, t31, t32, t33, t34, t35, t36, t37, t38, t39, t40, t41, t42, t43, t44, t45, t46, t47, t48, t49, t50, t51, t52, t53, t54, t55, t56, t57, t58, t59, t60, t61, t62, t63, t64, t65, t66, t67, t68, t69, t70, t71, t72, t73, t74, t75, t76, t77, t78, t79, t80, t81, t82, t83, t84, t85, t86, t87, t88, t89, t90, t91, t92, t93, t94, t95], d⟩ [(51, v51), (52, v52), (53, v53), (54, v54), (55, v55), (56, v56), (57, v57), (58, v58), (59, v59), (60, v60), (61, v61), (62, v62), (63, v63), (64, v64), (65, v65), (66, v66), (50, v50), (67, v67), (68, v68), (69, v69), (70, v70), (10, v10)] = ⟨#[t0, t1, t2, t3, t4, t5, t6, t7, t8, t9, v10, t11, t12, t13, t14, t15, t16, t17, t18, t19, t20, t21, t22, t23, t24, t25, t26, t27, t28, t29, t30, t31, t32, t33, t34, t35, t36, t37, t38, t39, t40, t41, t42, t43, t44, t45, t46, t47, t48, t49, v50, v51, v52, v53, v54, v55, v56, v57, v58, v59, v60, v61, v62, v63, v64, v65, v66, v67, v68, v69, v70, t71, t72, t73, t74, t75, t76, t77, t78, t79, t80, t81, t82, t83, t84, t85, t86, t87, t88, t89, t90, t91, t92, t93, t94, t95], d⟩ := by
  kernel_rfl
set_option maxRecDepth 100000 in
theorem normN3 {t0 t1 t2 t3 t4 t5 t6 t7 t8 t9 t10 t11 t12 t13 t14 t15 t16 t17 t18 t19 t20 t21 t22 t23 t24 t25 t26 t27 t28 t29 t30 t31 t32 t33 t34 t35 t36 t37 t38 t39 t40 t41 t42 t43 t44 t45 t46 t47 t48 t49 t50 t51 t52 t53 t54 t55 t56 t57 t58 t59 t60 t61 t62 t63 t64 t65 t66 t67 t68 t69 t70 t71 t72 t73 t74 t75 t76 t77 t78 t79 t80 t81 t82 t83 t84 t85 t86 t87 t88 t89 t90 t91 t92 t93 t94 t95 v82 v83 v84 v85 v86 v87 v88 v89 v90 v91 v81 v92 v93 v94 v95 v10 : Value} {d : List Deferred} : putAll ⟨#[t0, t1, t2, t3, t4, t5, t6, t7, t8, t9, t10, t11, t12, t13, t14, t15, t16, t17, t18, t19, t20, t21, t22, t23, t24, t25, t26, t27, t28, t29, t30, t31, t32, t33, t34, t35, t36, t37, t38, t39, t40, t41, t42, t43, t44, t45, t46, t47, t48, t49, t50, t51, t52, t53, t54, t55, t56, t57, t58, t59, t60, t61, t62, t63, t64, t65, t66, t67, t68, t69, t70, t71, t72, t73, t74, t75, t76, t77, t78, t79, t80, t81, t82, t83, t84, t85, t86, t87, t88, t89, t90, t91, t92, t93, t94, t95], d⟩ [(82, v82), (83, v83), (84, v84), (85, v85), (86, v86), (87, v87), (88, v88), (89, v89), (90, v90), (91, v91), (81, v81), (92, v92), (93, v93), (94, v94), (95, v95), (10, v10)] = ⟨#[t0, t1, t2, t3, t4, t5, t6, t7, t8, t9, v10, t11, t12, t13, t14, t15, t16, t17, t18, t19, t20, t21, t22, t23, t24, t25, t26, t27, t28, t29, t30, t31, t32, t33, t34, t35, t36, t37, t38, t39, t40, t41, t42, t43, t44, t45, t46, t47, t48, t49, t50, t51, t52, t53, t54, t55, t56, t57, t58, t59, t60, t61, t62, t63, t64, t65, t66, t67, t68, t69, t70, t71, t72, t73, t74, t75, t76, t77, t78, t79, t80, v81, v82, v83, v84, v85, v86, v87, v88, v89, v90, v91, v92, v93, v94, v95], d⟩ := by
  kernel_rfl
/-- A finite sample's size, in least samples, and how far it is shifted. -/
def szS (s : Nat) : Nat := if s / 8388608 % 256 = 0 then s % 8388608 else s % 8388608 + 8388608
def atS (s : Nat) : Nat := if s / 8388608 % 256 = 0 then 2 else s / 8388608 % 256 + 1
def adS (N : Nat → Nat) (s : Nat) : Nat → Nat := if s < 2147483648 then dgS addE addC N (shW (szS s) (atS s / 64) (atS s % 64)) else dgS subE subC N (shW (szS s) (atS s / 64) (atS s % 64))
set_option maxHeartbeats 4000000 in
set_option maxRecDepth 100000 in
theorem nadd_zp (sE sC : Nat → Nat → Nat → Nat) (HST : Steps 94 sE sC) (HOK : StepOk sE sC) (N : Nat → Nat) (s B : Nat) (hN : ∀ i, N i < m64) (hs : s < 4294967296) (hf : s / 8388608 % 256 < 255) (h0 : s / 8388608 % 256 = 0) (h1 : s < 2147483648) (w : World) (hc : WIs w B N) (hz : ∀ j, w.frozen? ⟨B, j, none⟩ = false) : Calls Tryz.prog 92 #[.pointer (some ⟨B, 0, none⟩), .int .u32 (s : Nat)] w fun e w' => e = .returned (.tuple #[]) ∧ ADone w B (dgS sE sC N (shW (szS s) (atS s / 64) (atS s % 64))) w' := by
  have HN : Hid (∀ i, N i < m64) := hN
  have HC : Hid (WIs w B N) := hc
  have HZ : Hid (∀ j, w.frozen? ⟨B, j, none⟩ = false) := hz
  clear hN hc hz
  obtain ⟨k, hk⟩ : ∃ k, s / 8388608 % 256 = k := ⟨_, rfl⟩
  obtain ⟨fr, hfr⟩ : ∃ fr, s % 8388608 = fr := ⟨_, rfl⟩
  have e255 : bits .and .u32 ((s : Int) / 8388608) 255 = (k : Int) := (and_255 _ (by omega) (by omega)).trans (by omega)
  have r2 : (s : Int) % 8388608 = (fr : Int) := by omega
  have hk1 : k < 255 := by omega
  have hfr1 : fr < 8388608 := by omega
  rw [hk] at h0
  have hsz : szS s = fr := (if_pos (hk.trans h0)).trans hfr
  have hat : atS s = 2 := if_pos (hk.trans h0)
  have hszl : szS s < m64 := by rw [hsz]; unfold m64; omega
  have hal : atS s < 256 := by rw [hat]; omega
  have HT : Hid (∀ i, shW (szS s) (atS s / 64) (atS s % 64) i < m64) := sh_lt hszl
  have HCY : Hid (∀ i, cyS sC N (shW (szS s) (atS s / 64) (atS s % 64)) i ≤ 1) := cyS_le HOK HN.out HT.out
  have tlo : ∀ j, j < atS s / 64 → shW (szS s) (atS s / 64) (atS s % 64) j = 0 := fun j hj => by unfold shW; rw [if_neg (by omega), if_neg (by omega)]
  have thi : ∀ j, atS s / 64 + 2 ≤ j → shW (szS s) (atS s / 64) (atS s % 64) j = 0 := fun j hj => by unfold shW; rw [if_neg (by omega), if_neg (by omega)]
  have HLO : Hid (∀ j, j < atS s / 64 → dgS sE sC N (shW (szS s) (atS s / 64) (atS s % 64)) j = N j) := dgS_lo HOK HN.out tlo
  have HHI : Hid (∀ k, atS s / 64 + 2 ≤ k → cyS sC N (shW (szS s) (atS s / 64) (atS s % 64)) k = 0 → ∀ j, k ≤ j → dgS sE sC N (shW (szS s) (atS s / 64) (atS s % 64)) j = N j) := fun k hk h j hj => dgS_hi HOK HN.out (fun i hi => thi i (by omega)) h j hj
  have HC0 : Hid (cyS sC N (shW (szS s) (atS s / 64) (atS s % 64)) (atS s / 64) = 0) := cyS_lo HOK HN.out tlo _ (Nat.le_refl _)
  have HE1 : Hid (shW (szS s) (atS s / 64) (atS s % 64) (atS s / 64) = szS s * 2 ^ (atS s % 64) % m64) := if_pos rfl
  have HE2 : Hid (shW (szS s) (atS s / 64) (atS s % 64) (atS s / 64 + 1) = szS s / 2 ^ (64 - atS s % 64)) := by
    show shW _ _ _ _ = _
    unfold shW
    rw [if_neg (by omega), if_pos rfl]
  have HT0 : Hid (∀ j, atS s / 64 + 2 ≤ j → shW (szS s) (atS s / 64) (atS s % 64) j = 0) := thi
  have q1 : Int.tdiv (2) 64 = ((atS s / 64 : Nat) : Int) := by rw [hat]; rfl
  have q2 : Int.tmod (2) 64 = ((atS s % 64 : Nat) : Int) := by rw [hat]; rfl
  have hz0 : ((k : Int) == 0) = true := by rw [h0]; rfl
  have hsg : bits .and .u32 (s : Int) 2147483648 = 0 := and_lo _ (by omega) (by omega)
  have hszv : Hid (((fr : Int)) = ((szS s : Nat) : Int)) := by
    show _ = _
    rw [hsz]
    try rfl
  generalize hS : szS s = S at *
  generalize hI : atS s / 64 = i0 at *
  generalize hH : atS s % 64 = h at *
  have hi0 : i0 < 4 := by omega
  have hh : h ≤ 64 := by omega
  clear hsz hat tlo thi hS hI hH hal h0 h1 HT hk hfr
  have HD : Hid (∀ i, dgS sE sC N (shW S i0 h) i = sE (N i) (shW S i0 h i) (cyS sC N (shW S i0 h) i)) := fun _ => rfl
  have HS : Hid (∀ i, cyS sC N (shW S i0 h) (i + 1) = sC (N i) (shW S i0 h i) (cyS sC N (shW S i0 h) i)) := fun _ => rfl
  generalize dgS sE sC N (shW S i0 h) = D at *
  generalize cyS sC N (shW S i0 h) = cy at *
  generalize shW S i0 h = T at *
  go_enter Tryz.func92, Tryz.ntmps92
  go_wp2_with fail
  refine regionN1 (nn := N i0) (cy := 0) (sz := S) (sh := h) (fk := 94) (sE := sE) (sC := sC) rfl rfl ⟨rfl, rfl, rfl, rfl, HST, by decide, by omega, ?_, ?_, congrArg (fun v => some (Value.int .u64 v)) hszv.out, rfl, hh⟩ ?_
  · simpa using HC.out i0 (by omega)
  · simpa using HZ.out i0
  have hd1 : sE (N i0) (S * 2 ^ h % m64) 0 = D i0 := by rw [HD.out, HC0.out, HE1.out]
  have hc1 : sC (N i0) (S * 2 ^ h % m64) 0 = cy (i0 + 1) := by rw [HS.out, HC0.out, HE1.out]
  rw [hd1, hc1]
  have HA1 : Hid (ASt w B N (D) (i0 + 1) (w.drew.setCell ⟨B, i0, none⟩ (.int .u64 (D i0 : Nat)))) := (ASt.start HC.out HLO.out).step (by omega)
  generalize (w.drew.setCell ⟨B, i0, none⟩ (.int .u64 (D i0 : Nat))) = x1 at HA1 ⊢
  clear hd1 hc1 HC HE1 HLO HC0
  have HZ1 : Hid (∀ j, x1.frozen? ⟨B, j, none⟩ = false) := fun j => (HA1.out.fb.frz _).trans (HZ.out j)
  rw [normN1]
  go_wp2_with fail
  refine regionN2 (nn := N (i0 + 1)) (cy := cy (i0 + 1)) (sz := S) (sh := h) (fk := 94) (sE := sE) (sC := sC) rfl rfl ⟨rfl, rfl, rfl, rfl, HST, HCY.out _, by omega, HA1.out.at (by omega), ?_, congrArg (fun v => some (Value.int .u64 v)) hszv.out, rfl, hh⟩ ?_
  · simpa using HZ1.out (i0 + 1)
  have hd1 : sE (N (i0 + 1)) (S / 2 ^ (64 - h)) (cy (i0 + 1)) = D (i0 + 1) := by rw [HD.out, HE2.out]
  have hc1 : sC (N (i0 + 1)) (S / 2 ^ (64 - h)) (cy (i0 + 1)) = cy (i0 + 2) := by rw [HS.out (i0 + 1), HE2.out]
  rw [hd1, hc1]
  have HA2 : Hid (ASt w B N (D) (i0 + 2) (x1.drew.setCell ⟨B, i0 + 1, none⟩ (.int .u64 (D (i0 + 1) : Nat)))) := HA1.out.step (by omega)
  generalize (x1.drew.setCell ⟨B, i0 + 1, none⟩ (.int .u64 (D (i0 + 1) : Nat))) = x2 at HA2 ⊢
  clear hd1 hc1 HE2 HA1 HZ1
  rw [normN2]
  go_wp2_with fail
  go_loopg [8, 10] (5 - (i0 + 2)) (fun gh s8 s10 wr => ∃ i : Nat, s8 = .int .i64 (i : Int) ∧ s10 = .int .u64 (cy i : Nat) ∧ i0 + 2 ≤ i ∧ i ≤ 5 ∧ gh = 5 - i ∧ Hid (ASt w B N (D) i wr))
  case atStart => exact ⟨i0 + 2, by simp, rfl, by omega, by omega, rfl, HA2.out⟩
  case round =>
    obtain ⟨i, rfl, rfl, hi, hi5, rfl, HA⟩ := hrel
    have hcle := HCY.out i
    by_cases h5 : i < 5
    · rcases Nat.eq_zero_or_pos (cy i) with hc0 | hc1
      · have HAD : Hid (ADone w B D wr) := HA.out.done (fun j hj _ => HHI.out i hi hc0 j hj)
        rw [hc0]
        clear HA hc0 hcle
        have hlt : (i : Int) < 5 := by omega
        go_wp2_with fail
        exact bodyPost_end (results_none Tryz.results92 _ _ _) rfl ⟨rfl, HAD.out⟩
      · have hc1 : cy i = 1 := by omega
        have HA' : Hid (ASt w B N D (i + 1) (wr.drew.setCell ⟨B, i, none⟩ (.int .u64 (D i : Nat)))) := HA.out.step h5
        have hd1 : sE (N i) 0 1 = D i := by rw [HD.out, HT0.out i hi, hc1]
        have hs1 : sC (N i) 0 1 = cy (i + 1) := by rw [HS.out, HT0.out i hi, hc1]
        rw [hc1]
        have hlt : (i : Int) < 5 := by omega
        go_wp2_with fail
        refine regionN3 (nn := N i) (cy := 1) (fk := 94) (sE := sE) (sC := sC) rfl rfl ⟨rfl, rfl, rfl, rfl, HST, by decide, h5, HA.out.at h5, ?_⟩ ?_
        · have := (HA.out.fb.frz ⟨B, i, none⟩).trans (HZ.out i)
          simpa using this
        rw [hd1, hs1, normN3]
        go_wp2_with fail
        go_roundg (5 - (i + 1))
        case measure => go_light; omega
        case rel =>
          go_light
          exact ⟨i + 1, by simp, rfl, by omega, by omega, rfl, HA'.out⟩
    · obtain rfl : i = 5 := by omega
      have HAD : Hid (ADone w B D wr) := HA.out.done (fun j hj h => by omega)
      clear HA
      generalize cy 5 = c5 at *
      go_wp2_with fail
      exact bodyPost_end (results_none Tryz.results92 _ _ _) rfl ⟨rfl, HAD.out⟩
set_option maxHeartbeats 4000000 in
set_option maxRecDepth 100000 in
theorem nadd_zm (sE sC : Nat → Nat → Nat → Nat) (HST : Steps 108 sE sC) (HOK : StepOk sE sC) (N : Nat → Nat) (s B : Nat) (hN : ∀ i, N i < m64) (hs : s < 4294967296) (hf : s / 8388608 % 256 < 255) (h0 : s / 8388608 % 256 = 0) (h1 : ¬ s < 2147483648) (w : World) (hc : WIs w B N) (hz : ∀ j, w.frozen? ⟨B, j, none⟩ = false) : Calls Tryz.prog 92 #[.pointer (some ⟨B, 0, none⟩), .int .u32 (s : Nat)] w fun e w' => e = .returned (.tuple #[]) ∧ ADone w B (dgS sE sC N (shW (szS s) (atS s / 64) (atS s % 64))) w' := by
  have HN : Hid (∀ i, N i < m64) := hN
  have HC : Hid (WIs w B N) := hc
  have HZ : Hid (∀ j, w.frozen? ⟨B, j, none⟩ = false) := hz
  clear hN hc hz
  obtain ⟨k, hk⟩ : ∃ k, s / 8388608 % 256 = k := ⟨_, rfl⟩
  obtain ⟨fr, hfr⟩ : ∃ fr, s % 8388608 = fr := ⟨_, rfl⟩
  have e255 : bits .and .u32 ((s : Int) / 8388608) 255 = (k : Int) := (and_255 _ (by omega) (by omega)).trans (by omega)
  have r2 : (s : Int) % 8388608 = (fr : Int) := by omega
  have hk1 : k < 255 := by omega
  have hfr1 : fr < 8388608 := by omega
  rw [hk] at h0
  have hsz : szS s = fr := (if_pos (hk.trans h0)).trans hfr
  have hat : atS s = 2 := if_pos (hk.trans h0)
  have hszl : szS s < m64 := by rw [hsz]; unfold m64; omega
  have hal : atS s < 256 := by rw [hat]; omega
  have HT : Hid (∀ i, shW (szS s) (atS s / 64) (atS s % 64) i < m64) := sh_lt hszl
  have HCY : Hid (∀ i, cyS sC N (shW (szS s) (atS s / 64) (atS s % 64)) i ≤ 1) := cyS_le HOK HN.out HT.out
  have tlo : ∀ j, j < atS s / 64 → shW (szS s) (atS s / 64) (atS s % 64) j = 0 := fun j hj => by unfold shW; rw [if_neg (by omega), if_neg (by omega)]
  have thi : ∀ j, atS s / 64 + 2 ≤ j → shW (szS s) (atS s / 64) (atS s % 64) j = 0 := fun j hj => by unfold shW; rw [if_neg (by omega), if_neg (by omega)]
  have HLO : Hid (∀ j, j < atS s / 64 → dgS sE sC N (shW (szS s) (atS s / 64) (atS s % 64)) j = N j) := dgS_lo HOK HN.out tlo
  have HHI : Hid (∀ k, atS s / 64 + 2 ≤ k → cyS sC N (shW (szS s) (atS s / 64) (atS s % 64)) k = 0 → ∀ j, k ≤ j → dgS sE sC N (shW (szS s) (atS s / 64) (atS s % 64)) j = N j) := fun k hk h j hj => dgS_hi HOK HN.out (fun i hi => thi i (by omega)) h j hj
  have HC0 : Hid (cyS sC N (shW (szS s) (atS s / 64) (atS s % 64)) (atS s / 64) = 0) := cyS_lo HOK HN.out tlo _ (Nat.le_refl _)
  have HE1 : Hid (shW (szS s) (atS s / 64) (atS s % 64) (atS s / 64) = szS s * 2 ^ (atS s % 64) % m64) := if_pos rfl
  have HE2 : Hid (shW (szS s) (atS s / 64) (atS s % 64) (atS s / 64 + 1) = szS s / 2 ^ (64 - atS s % 64)) := by
    show shW _ _ _ _ = _
    unfold shW
    rw [if_neg (by omega), if_pos rfl]
  have HT0 : Hid (∀ j, atS s / 64 + 2 ≤ j → shW (szS s) (atS s / 64) (atS s % 64) j = 0) := thi
  have q1 : Int.tdiv (2) 64 = ((atS s / 64 : Nat) : Int) := by rw [hat]; rfl
  have q2 : Int.tmod (2) 64 = ((atS s % 64 : Nat) : Int) := by rw [hat]; rfl
  have hz0 : ((k : Int) == 0) = true := by rw [h0]; rfl
  have hsg : bits .and .u32 (s : Int) 2147483648 = 2147483648 := and_hi _ (by omega) (by omega)
  have hszv : Hid (((fr : Int)) = ((szS s : Nat) : Int)) := by
    show _ = _
    rw [hsz]
    try rfl
  generalize hS : szS s = S at *
  generalize hI : atS s / 64 = i0 at *
  generalize hH : atS s % 64 = h at *
  have hi0 : i0 < 4 := by omega
  have hh : h ≤ 64 := by omega
  clear hsz hat tlo thi hS hI hH hal h0 h1 HT hk hfr
  have HD : Hid (∀ i, dgS sE sC N (shW S i0 h) i = sE (N i) (shW S i0 h i) (cyS sC N (shW S i0 h) i)) := fun _ => rfl
  have HS : Hid (∀ i, cyS sC N (shW S i0 h) (i + 1) = sC (N i) (shW S i0 h i) (cyS sC N (shW S i0 h) i)) := fun _ => rfl
  generalize dgS sE sC N (shW S i0 h) = D at *
  generalize cyS sC N (shW S i0 h) = cy at *
  generalize shW S i0 h = T at *
  go_enter Tryz.func92, Tryz.ntmps92
  go_wp2_with fail
  refine regionN1 (nn := N i0) (cy := 0) (sz := S) (sh := h) (fk := 108) (sE := sE) (sC := sC) rfl rfl ⟨rfl, rfl, rfl, rfl, HST, by decide, by omega, ?_, ?_, congrArg (fun v => some (Value.int .u64 v)) hszv.out, rfl, hh⟩ ?_
  · simpa using HC.out i0 (by omega)
  · simpa using HZ.out i0
  have hd1 : sE (N i0) (S * 2 ^ h % m64) 0 = D i0 := by rw [HD.out, HC0.out, HE1.out]
  have hc1 : sC (N i0) (S * 2 ^ h % m64) 0 = cy (i0 + 1) := by rw [HS.out, HC0.out, HE1.out]
  rw [hd1, hc1]
  have HA1 : Hid (ASt w B N (D) (i0 + 1) (w.drew.setCell ⟨B, i0, none⟩ (.int .u64 (D i0 : Nat)))) := (ASt.start HC.out HLO.out).step (by omega)
  generalize (w.drew.setCell ⟨B, i0, none⟩ (.int .u64 (D i0 : Nat))) = x1 at HA1 ⊢
  clear hd1 hc1 HC HE1 HLO HC0
  have HZ1 : Hid (∀ j, x1.frozen? ⟨B, j, none⟩ = false) := fun j => (HA1.out.fb.frz _).trans (HZ.out j)
  rw [normN1]
  go_wp2_with fail
  refine regionN2 (nn := N (i0 + 1)) (cy := cy (i0 + 1)) (sz := S) (sh := h) (fk := 108) (sE := sE) (sC := sC) rfl rfl ⟨rfl, rfl, rfl, rfl, HST, HCY.out _, by omega, HA1.out.at (by omega), ?_, congrArg (fun v => some (Value.int .u64 v)) hszv.out, rfl, hh⟩ ?_
  · simpa using HZ1.out (i0 + 1)
  have hd1 : sE (N (i0 + 1)) (S / 2 ^ (64 - h)) (cy (i0 + 1)) = D (i0 + 1) := by rw [HD.out, HE2.out]
  have hc1 : sC (N (i0 + 1)) (S / 2 ^ (64 - h)) (cy (i0 + 1)) = cy (i0 + 2) := by rw [HS.out (i0 + 1), HE2.out]
  rw [hd1, hc1]
  have HA2 : Hid (ASt w B N (D) (i0 + 2) (x1.drew.setCell ⟨B, i0 + 1, none⟩ (.int .u64 (D (i0 + 1) : Nat)))) := HA1.out.step (by omega)
  generalize (x1.drew.setCell ⟨B, i0 + 1, none⟩ (.int .u64 (D (i0 + 1) : Nat))) = x2 at HA2 ⊢
  clear hd1 hc1 HE2 HA1 HZ1
  rw [normN2]
  go_wp2_with fail
  go_loopg [8, 10] (5 - (i0 + 2)) (fun gh s8 s10 wr => ∃ i : Nat, s8 = .int .i64 (i : Int) ∧ s10 = .int .u64 (cy i : Nat) ∧ i0 + 2 ≤ i ∧ i ≤ 5 ∧ gh = 5 - i ∧ Hid (ASt w B N (D) i wr))
  case atStart => exact ⟨i0 + 2, by simp, rfl, by omega, by omega, rfl, HA2.out⟩
  case round =>
    obtain ⟨i, rfl, rfl, hi, hi5, rfl, HA⟩ := hrel
    have hcle := HCY.out i
    by_cases h5 : i < 5
    · rcases Nat.eq_zero_or_pos (cy i) with hc0 | hc1
      · have HAD : Hid (ADone w B D wr) := HA.out.done (fun j hj _ => HHI.out i hi hc0 j hj)
        rw [hc0]
        clear HA hc0 hcle
        have hlt : (i : Int) < 5 := by omega
        go_wp2_with fail
        exact bodyPost_end (results_none Tryz.results92 _ _ _) rfl ⟨rfl, HAD.out⟩
      · have hc1 : cy i = 1 := by omega
        have HA' : Hid (ASt w B N D (i + 1) (wr.drew.setCell ⟨B, i, none⟩ (.int .u64 (D i : Nat)))) := HA.out.step h5
        have hd1 : sE (N i) 0 1 = D i := by rw [HD.out, HT0.out i hi, hc1]
        have hs1 : sC (N i) 0 1 = cy (i + 1) := by rw [HS.out, HT0.out i hi, hc1]
        rw [hc1]
        have hlt : (i : Int) < 5 := by omega
        go_wp2_with fail
        refine regionN3 (nn := N i) (cy := 1) (fk := 108) (sE := sE) (sC := sC) rfl rfl ⟨rfl, rfl, rfl, rfl, HST, by decide, h5, HA.out.at h5, ?_⟩ ?_
        · have := (HA.out.fb.frz ⟨B, i, none⟩).trans (HZ.out i)
          simpa using this
        rw [hd1, hs1, normN3]
        go_wp2_with fail
        go_roundg (5 - (i + 1))
        case measure => go_light; omega
        case rel =>
          go_light
          exact ⟨i + 1, by simp, rfl, by omega, by omega, rfl, HA'.out⟩
    · obtain rfl : i = 5 := by omega
      have HAD : Hid (ADone w B D wr) := HA.out.done (fun j hj h => by omega)
      clear HA
      generalize cy 5 = c5 at *
      go_wp2_with fail
      exact bodyPost_end (results_none Tryz.results92 _ _ _) rfl ⟨rfl, HAD.out⟩
set_option maxHeartbeats 4000000 in
set_option maxRecDepth 100000 in
theorem nadd_np (sE sC : Nat → Nat → Nat → Nat) (HST : Steps 94 sE sC) (HOK : StepOk sE sC) (N : Nat → Nat) (s B : Nat) (hN : ∀ i, N i < m64) (hs : s < 4294967296) (hf : s / 8388608 % 256 < 255) (h0 : s / 8388608 % 256 ≠ 0) (h1 : s < 2147483648) (w : World) (hc : WIs w B N) (hz : ∀ j, w.frozen? ⟨B, j, none⟩ = false) : Calls Tryz.prog 92 #[.pointer (some ⟨B, 0, none⟩), .int .u32 (s : Nat)] w fun e w' => e = .returned (.tuple #[]) ∧ ADone w B (dgS sE sC N (shW (szS s) (atS s / 64) (atS s % 64))) w' := by
  have HN : Hid (∀ i, N i < m64) := hN
  have HC : Hid (WIs w B N) := hc
  have HZ : Hid (∀ j, w.frozen? ⟨B, j, none⟩ = false) := hz
  clear hN hc hz
  obtain ⟨k, hk⟩ : ∃ k, s / 8388608 % 256 = k := ⟨_, rfl⟩
  obtain ⟨fr, hfr⟩ : ∃ fr, s % 8388608 = fr := ⟨_, rfl⟩
  have e255 : bits .and .u32 ((s : Int) / 8388608) 255 = (k : Int) := (and_255 _ (by omega) (by omega)).trans (by omega)
  have r2 : (s : Int) % 8388608 = (fr : Int) := by omega
  have hk1 : k < 255 := by omega
  have hfr1 : fr < 8388608 := by omega
  rw [hk] at h0
  have hsz : szS s = fr + 8388608 := (if_neg (fun e => h0 (hk.symm.trans e))).trans (by rw [hfr])
  have hat : atS s = k + 1 := (if_neg (fun e => h0 (hk.symm.trans e))).trans (by rw [hk])
  have hszl : szS s < m64 := by rw [hsz]; unfold m64; omega
  have hal : atS s < 256 := by rw [hat]; omega
  have HT : Hid (∀ i, shW (szS s) (atS s / 64) (atS s % 64) i < m64) := sh_lt hszl
  have HCY : Hid (∀ i, cyS sC N (shW (szS s) (atS s / 64) (atS s % 64)) i ≤ 1) := cyS_le HOK HN.out HT.out
  have tlo : ∀ j, j < atS s / 64 → shW (szS s) (atS s / 64) (atS s % 64) j = 0 := fun j hj => by unfold shW; rw [if_neg (by omega), if_neg (by omega)]
  have thi : ∀ j, atS s / 64 + 2 ≤ j → shW (szS s) (atS s / 64) (atS s % 64) j = 0 := fun j hj => by unfold shW; rw [if_neg (by omega), if_neg (by omega)]
  have HLO : Hid (∀ j, j < atS s / 64 → dgS sE sC N (shW (szS s) (atS s / 64) (atS s % 64)) j = N j) := dgS_lo HOK HN.out tlo
  have HHI : Hid (∀ k, atS s / 64 + 2 ≤ k → cyS sC N (shW (szS s) (atS s / 64) (atS s % 64)) k = 0 → ∀ j, k ≤ j → dgS sE sC N (shW (szS s) (atS s / 64) (atS s % 64)) j = N j) := fun k hk h j hj => dgS_hi HOK HN.out (fun i hi => thi i (by omega)) h j hj
  have HC0 : Hid (cyS sC N (shW (szS s) (atS s / 64) (atS s % 64)) (atS s / 64) = 0) := cyS_lo HOK HN.out tlo _ (Nat.le_refl _)
  have HE1 : Hid (shW (szS s) (atS s / 64) (atS s % 64) (atS s / 64) = szS s * 2 ^ (atS s % 64) % m64) := if_pos rfl
  have HE2 : Hid (shW (szS s) (atS s / 64) (atS s % 64) (atS s / 64 + 1) = szS s / 2 ^ (64 - atS s % 64)) := by
    show shW _ _ _ _ = _
    unfold shW
    rw [if_neg (by omega), if_pos rfl]
  have HT0 : Hid (∀ j, atS s / 64 + 2 ≤ j → shW (szS s) (atS s / 64) (atS s % 64) j = 0) := thi
  have q1 : Int.tdiv ((k : Int) - 1 + 2) 64 = ((atS s / 64 : Nat) : Int) := by rw [hat]; rw [Int.tdiv_eq_ediv_of_nonneg (by omega)]; omega
  have q2 : Int.tmod ((k : Int) - 1 + 2) 64 = ((atS s % 64 : Nat) : Int) := by rw [hat]; rw [Int.tmod_eq_emod_of_nonneg (by omega)]; omega
  have hz0 : ((k : Int) == 0) = false := by rw [beq_eq_false_iff_ne]; omega
  have hsg : bits .and .u32 (s : Int) 2147483648 = 0 := and_lo _ (by omega) (by omega)
  have hszv : Hid (((fr : Int) + 8388608) = ((szS s : Nat) : Int)) := by
    show _ = _
    rw [hsz]
    try rfl
  generalize hS : szS s = S at *
  generalize hI : atS s / 64 = i0 at *
  generalize hH : atS s % 64 = h at *
  have hi0 : i0 < 4 := by omega
  have hh : h ≤ 64 := by omega
  clear hsz hat tlo thi hS hI hH hal h0 h1 HT hk hfr
  have HD : Hid (∀ i, dgS sE sC N (shW S i0 h) i = sE (N i) (shW S i0 h i) (cyS sC N (shW S i0 h) i)) := fun _ => rfl
  have HS : Hid (∀ i, cyS sC N (shW S i0 h) (i + 1) = sC (N i) (shW S i0 h i) (cyS sC N (shW S i0 h) i)) := fun _ => rfl
  generalize dgS sE sC N (shW S i0 h) = D at *
  generalize cyS sC N (shW S i0 h) = cy at *
  generalize shW S i0 h = T at *
  go_enter Tryz.func92, Tryz.ntmps92
  go_wp2_with fail
  refine regionN1 (nn := N i0) (cy := 0) (sz := S) (sh := h) (fk := 94) (sE := sE) (sC := sC) rfl rfl ⟨rfl, rfl, rfl, rfl, HST, by decide, by omega, ?_, ?_, congrArg (fun v => some (Value.int .u64 v)) hszv.out, rfl, hh⟩ ?_
  · simpa using HC.out i0 (by omega)
  · simpa using HZ.out i0
  have hd1 : sE (N i0) (S * 2 ^ h % m64) 0 = D i0 := by rw [HD.out, HC0.out, HE1.out]
  have hc1 : sC (N i0) (S * 2 ^ h % m64) 0 = cy (i0 + 1) := by rw [HS.out, HC0.out, HE1.out]
  rw [hd1, hc1]
  have HA1 : Hid (ASt w B N (D) (i0 + 1) (w.drew.setCell ⟨B, i0, none⟩ (.int .u64 (D i0 : Nat)))) := (ASt.start HC.out HLO.out).step (by omega)
  generalize (w.drew.setCell ⟨B, i0, none⟩ (.int .u64 (D i0 : Nat))) = x1 at HA1 ⊢
  clear hd1 hc1 HC HE1 HLO HC0
  have HZ1 : Hid (∀ j, x1.frozen? ⟨B, j, none⟩ = false) := fun j => (HA1.out.fb.frz _).trans (HZ.out j)
  rw [normN1]
  go_wp2_with fail
  refine regionN2 (nn := N (i0 + 1)) (cy := cy (i0 + 1)) (sz := S) (sh := h) (fk := 94) (sE := sE) (sC := sC) rfl rfl ⟨rfl, rfl, rfl, rfl, HST, HCY.out _, by omega, HA1.out.at (by omega), ?_, congrArg (fun v => some (Value.int .u64 v)) hszv.out, rfl, hh⟩ ?_
  · simpa using HZ1.out (i0 + 1)
  have hd1 : sE (N (i0 + 1)) (S / 2 ^ (64 - h)) (cy (i0 + 1)) = D (i0 + 1) := by rw [HD.out, HE2.out]
  have hc1 : sC (N (i0 + 1)) (S / 2 ^ (64 - h)) (cy (i0 + 1)) = cy (i0 + 2) := by rw [HS.out (i0 + 1), HE2.out]
  rw [hd1, hc1]
  have HA2 : Hid (ASt w B N (D) (i0 + 2) (x1.drew.setCell ⟨B, i0 + 1, none⟩ (.int .u64 (D (i0 + 1) : Nat)))) := HA1.out.step (by omega)
  generalize (x1.drew.setCell ⟨B, i0 + 1, none⟩ (.int .u64 (D (i0 + 1) : Nat))) = x2 at HA2 ⊢
  clear hd1 hc1 HE2 HA1 HZ1
  rw [normN2]
  go_wp2_with fail
  go_loopg [8, 10] (5 - (i0 + 2)) (fun gh s8 s10 wr => ∃ i : Nat, s8 = .int .i64 (i : Int) ∧ s10 = .int .u64 (cy i : Nat) ∧ i0 + 2 ≤ i ∧ i ≤ 5 ∧ gh = 5 - i ∧ Hid (ASt w B N (D) i wr))
  case atStart => exact ⟨i0 + 2, by simp, rfl, by omega, by omega, rfl, HA2.out⟩
  case round =>
    obtain ⟨i, rfl, rfl, hi, hi5, rfl, HA⟩ := hrel
    have hcle := HCY.out i
    by_cases h5 : i < 5
    · rcases Nat.eq_zero_or_pos (cy i) with hc0 | hc1
      · have HAD : Hid (ADone w B D wr) := HA.out.done (fun j hj _ => HHI.out i hi hc0 j hj)
        rw [hc0]
        clear HA hc0 hcle
        have hlt : (i : Int) < 5 := by omega
        go_wp2_with fail
        exact bodyPost_end (results_none Tryz.results92 _ _ _) rfl ⟨rfl, HAD.out⟩
      · have hc1 : cy i = 1 := by omega
        have HA' : Hid (ASt w B N D (i + 1) (wr.drew.setCell ⟨B, i, none⟩ (.int .u64 (D i : Nat)))) := HA.out.step h5
        have hd1 : sE (N i) 0 1 = D i := by rw [HD.out, HT0.out i hi, hc1]
        have hs1 : sC (N i) 0 1 = cy (i + 1) := by rw [HS.out, HT0.out i hi, hc1]
        rw [hc1]
        have hlt : (i : Int) < 5 := by omega
        go_wp2_with fail
        refine regionN3 (nn := N i) (cy := 1) (fk := 94) (sE := sE) (sC := sC) rfl rfl ⟨rfl, rfl, rfl, rfl, HST, by decide, h5, HA.out.at h5, ?_⟩ ?_
        · have := (HA.out.fb.frz ⟨B, i, none⟩).trans (HZ.out i)
          simpa using this
        rw [hd1, hs1, normN3]
        go_wp2_with fail
        go_roundg (5 - (i + 1))
        case measure => go_light; omega
        case rel =>
          go_light
          exact ⟨i + 1, by simp, rfl, by omega, by omega, rfl, HA'.out⟩
    · obtain rfl : i = 5 := by omega
      have HAD : Hid (ADone w B D wr) := HA.out.done (fun j hj h => by omega)
      clear HA
      generalize cy 5 = c5 at *
      go_wp2_with fail
      exact bodyPost_end (results_none Tryz.results92 _ _ _) rfl ⟨rfl, HAD.out⟩
set_option maxHeartbeats 4000000 in
set_option maxRecDepth 100000 in
theorem nadd_nm (sE sC : Nat → Nat → Nat → Nat) (HST : Steps 108 sE sC) (HOK : StepOk sE sC) (N : Nat → Nat) (s B : Nat) (hN : ∀ i, N i < m64) (hs : s < 4294967296) (hf : s / 8388608 % 256 < 255) (h0 : s / 8388608 % 256 ≠ 0) (h1 : ¬ s < 2147483648) (w : World) (hc : WIs w B N) (hz : ∀ j, w.frozen? ⟨B, j, none⟩ = false) : Calls Tryz.prog 92 #[.pointer (some ⟨B, 0, none⟩), .int .u32 (s : Nat)] w fun e w' => e = .returned (.tuple #[]) ∧ ADone w B (dgS sE sC N (shW (szS s) (atS s / 64) (atS s % 64))) w' := by
  have HN : Hid (∀ i, N i < m64) := hN
  have HC : Hid (WIs w B N) := hc
  have HZ : Hid (∀ j, w.frozen? ⟨B, j, none⟩ = false) := hz
  clear hN hc hz
  obtain ⟨k, hk⟩ : ∃ k, s / 8388608 % 256 = k := ⟨_, rfl⟩
  obtain ⟨fr, hfr⟩ : ∃ fr, s % 8388608 = fr := ⟨_, rfl⟩
  have e255 : bits .and .u32 ((s : Int) / 8388608) 255 = (k : Int) := (and_255 _ (by omega) (by omega)).trans (by omega)
  have r2 : (s : Int) % 8388608 = (fr : Int) := by omega
  have hk1 : k < 255 := by omega
  have hfr1 : fr < 8388608 := by omega
  rw [hk] at h0
  have hsz : szS s = fr + 8388608 := (if_neg (fun e => h0 (hk.symm.trans e))).trans (by rw [hfr])
  have hat : atS s = k + 1 := (if_neg (fun e => h0 (hk.symm.trans e))).trans (by rw [hk])
  have hszl : szS s < m64 := by rw [hsz]; unfold m64; omega
  have hal : atS s < 256 := by rw [hat]; omega
  have HT : Hid (∀ i, shW (szS s) (atS s / 64) (atS s % 64) i < m64) := sh_lt hszl
  have HCY : Hid (∀ i, cyS sC N (shW (szS s) (atS s / 64) (atS s % 64)) i ≤ 1) := cyS_le HOK HN.out HT.out
  have tlo : ∀ j, j < atS s / 64 → shW (szS s) (atS s / 64) (atS s % 64) j = 0 := fun j hj => by unfold shW; rw [if_neg (by omega), if_neg (by omega)]
  have thi : ∀ j, atS s / 64 + 2 ≤ j → shW (szS s) (atS s / 64) (atS s % 64) j = 0 := fun j hj => by unfold shW; rw [if_neg (by omega), if_neg (by omega)]
  have HLO : Hid (∀ j, j < atS s / 64 → dgS sE sC N (shW (szS s) (atS s / 64) (atS s % 64)) j = N j) := dgS_lo HOK HN.out tlo
  have HHI : Hid (∀ k, atS s / 64 + 2 ≤ k → cyS sC N (shW (szS s) (atS s / 64) (atS s % 64)) k = 0 → ∀ j, k ≤ j → dgS sE sC N (shW (szS s) (atS s / 64) (atS s % 64)) j = N j) := fun k hk h j hj => dgS_hi HOK HN.out (fun i hi => thi i (by omega)) h j hj
  have HC0 : Hid (cyS sC N (shW (szS s) (atS s / 64) (atS s % 64)) (atS s / 64) = 0) := cyS_lo HOK HN.out tlo _ (Nat.le_refl _)
  have HE1 : Hid (shW (szS s) (atS s / 64) (atS s % 64) (atS s / 64) = szS s * 2 ^ (atS s % 64) % m64) := if_pos rfl
  have HE2 : Hid (shW (szS s) (atS s / 64) (atS s % 64) (atS s / 64 + 1) = szS s / 2 ^ (64 - atS s % 64)) := by
    show shW _ _ _ _ = _
    unfold shW
    rw [if_neg (by omega), if_pos rfl]
  have HT0 : Hid (∀ j, atS s / 64 + 2 ≤ j → shW (szS s) (atS s / 64) (atS s % 64) j = 0) := thi
  have q1 : Int.tdiv ((k : Int) - 1 + 2) 64 = ((atS s / 64 : Nat) : Int) := by rw [hat]; rw [Int.tdiv_eq_ediv_of_nonneg (by omega)]; omega
  have q2 : Int.tmod ((k : Int) - 1 + 2) 64 = ((atS s % 64 : Nat) : Int) := by rw [hat]; rw [Int.tmod_eq_emod_of_nonneg (by omega)]; omega
  have hz0 : ((k : Int) == 0) = false := by rw [beq_eq_false_iff_ne]; omega
  have hsg : bits .and .u32 (s : Int) 2147483648 = 2147483648 := and_hi _ (by omega) (by omega)
  have hszv : Hid (((fr : Int) + 8388608) = ((szS s : Nat) : Int)) := by
    show _ = _
    rw [hsz]
    try rfl
  generalize hS : szS s = S at *
  generalize hI : atS s / 64 = i0 at *
  generalize hH : atS s % 64 = h at *
  have hi0 : i0 < 4 := by omega
  have hh : h ≤ 64 := by omega
  clear hsz hat tlo thi hS hI hH hal h0 h1 HT hk hfr
  have HD : Hid (∀ i, dgS sE sC N (shW S i0 h) i = sE (N i) (shW S i0 h i) (cyS sC N (shW S i0 h) i)) := fun _ => rfl
  have HS : Hid (∀ i, cyS sC N (shW S i0 h) (i + 1) = sC (N i) (shW S i0 h i) (cyS sC N (shW S i0 h) i)) := fun _ => rfl
  generalize dgS sE sC N (shW S i0 h) = D at *
  generalize cyS sC N (shW S i0 h) = cy at *
  generalize shW S i0 h = T at *
  go_enter Tryz.func92, Tryz.ntmps92
  go_wp2_with fail
  refine regionN1 (nn := N i0) (cy := 0) (sz := S) (sh := h) (fk := 108) (sE := sE) (sC := sC) rfl rfl ⟨rfl, rfl, rfl, rfl, HST, by decide, by omega, ?_, ?_, congrArg (fun v => some (Value.int .u64 v)) hszv.out, rfl, hh⟩ ?_
  · simpa using HC.out i0 (by omega)
  · simpa using HZ.out i0
  have hd1 : sE (N i0) (S * 2 ^ h % m64) 0 = D i0 := by rw [HD.out, HC0.out, HE1.out]
  have hc1 : sC (N i0) (S * 2 ^ h % m64) 0 = cy (i0 + 1) := by rw [HS.out, HC0.out, HE1.out]
  rw [hd1, hc1]
  have HA1 : Hid (ASt w B N (D) (i0 + 1) (w.drew.setCell ⟨B, i0, none⟩ (.int .u64 (D i0 : Nat)))) := (ASt.start HC.out HLO.out).step (by omega)
  generalize (w.drew.setCell ⟨B, i0, none⟩ (.int .u64 (D i0 : Nat))) = x1 at HA1 ⊢
  clear hd1 hc1 HC HE1 HLO HC0
  have HZ1 : Hid (∀ j, x1.frozen? ⟨B, j, none⟩ = false) := fun j => (HA1.out.fb.frz _).trans (HZ.out j)
  rw [normN1]
  go_wp2_with fail
  refine regionN2 (nn := N (i0 + 1)) (cy := cy (i0 + 1)) (sz := S) (sh := h) (fk := 108) (sE := sE) (sC := sC) rfl rfl ⟨rfl, rfl, rfl, rfl, HST, HCY.out _, by omega, HA1.out.at (by omega), ?_, congrArg (fun v => some (Value.int .u64 v)) hszv.out, rfl, hh⟩ ?_
  · simpa using HZ1.out (i0 + 1)
  have hd1 : sE (N (i0 + 1)) (S / 2 ^ (64 - h)) (cy (i0 + 1)) = D (i0 + 1) := by rw [HD.out, HE2.out]
  have hc1 : sC (N (i0 + 1)) (S / 2 ^ (64 - h)) (cy (i0 + 1)) = cy (i0 + 2) := by rw [HS.out (i0 + 1), HE2.out]
  rw [hd1, hc1]
  have HA2 : Hid (ASt w B N (D) (i0 + 2) (x1.drew.setCell ⟨B, i0 + 1, none⟩ (.int .u64 (D (i0 + 1) : Nat)))) := HA1.out.step (by omega)
  generalize (x1.drew.setCell ⟨B, i0 + 1, none⟩ (.int .u64 (D (i0 + 1) : Nat))) = x2 at HA2 ⊢
  clear hd1 hc1 HE2 HA1 HZ1
  rw [normN2]
  go_wp2_with fail
  go_loopg [8, 10] (5 - (i0 + 2)) (fun gh s8 s10 wr => ∃ i : Nat, s8 = .int .i64 (i : Int) ∧ s10 = .int .u64 (cy i : Nat) ∧ i0 + 2 ≤ i ∧ i ≤ 5 ∧ gh = 5 - i ∧ Hid (ASt w B N (D) i wr))
  case atStart => exact ⟨i0 + 2, by simp, rfl, by omega, by omega, rfl, HA2.out⟩
  case round =>
    obtain ⟨i, rfl, rfl, hi, hi5, rfl, HA⟩ := hrel
    have hcle := HCY.out i
    by_cases h5 : i < 5
    · rcases Nat.eq_zero_or_pos (cy i) with hc0 | hc1
      · have HAD : Hid (ADone w B D wr) := HA.out.done (fun j hj _ => HHI.out i hi hc0 j hj)
        rw [hc0]
        clear HA hc0 hcle
        have hlt : (i : Int) < 5 := by omega
        go_wp2_with fail
        exact bodyPost_end (results_none Tryz.results92 _ _ _) rfl ⟨rfl, HAD.out⟩
      · have hc1 : cy i = 1 := by omega
        have HA' : Hid (ASt w B N D (i + 1) (wr.drew.setCell ⟨B, i, none⟩ (.int .u64 (D i : Nat)))) := HA.out.step h5
        have hd1 : sE (N i) 0 1 = D i := by rw [HD.out, HT0.out i hi, hc1]
        have hs1 : sC (N i) 0 1 = cy (i + 1) := by rw [HS.out, HT0.out i hi, hc1]
        rw [hc1]
        have hlt : (i : Int) < 5 := by omega
        go_wp2_with fail
        refine regionN3 (nn := N i) (cy := 1) (fk := 108) (sE := sE) (sC := sC) rfl rfl ⟨rfl, rfl, rfl, rfl, HST, by decide, h5, HA.out.at h5, ?_⟩ ?_
        · have := (HA.out.fb.frz ⟨B, i, none⟩).trans (HZ.out i)
          simpa using this
        rw [hd1, hs1, normN3]
        go_wp2_with fail
        go_roundg (5 - (i + 1))
        case measure => go_light; omega
        case rel =>
          go_light
          exact ⟨i + 1, by simp, rfl, by omega, by omega, rfl, HA'.out⟩
    · obtain rfl : i = 5 := by omega
      have HAD : Hid (ADone w B D wr) := HA.out.done (fun j hj h => by omega)
      clear HA
      generalize cy 5 = c5 at *
      go_wp2_with fail
      exact bodyPost_end (results_none Tryz.results92 _ _ _) rfl ⟨rfl, HAD.out⟩
theorem nadd_any (N : Nat → Nat) (s B : Nat) (hN : ∀ i, N i < m64) (hs : s < 4294967296) (hf : s / 8388608 % 256 < 255) (w : World) (hc : WIs w B N) (hz : ∀ j, w.frozen? ⟨B, j, none⟩ = false) : Calls Tryz.prog 92 #[.pointer (some ⟨B, 0, none⟩), .int .u32 (s : Nat)] w fun e w' => e = .returned (.tuple #[]) ∧ ADone w B (adS N s) w' := by
  by_cases h0 : s / 8388608 % 256 = 0
  · by_cases h1 : s < 2147483648
    · rw [show adS N s = _ from if_pos h1]; exact nadd_zp addE addC steps_add ok_add N s B hN hs hf h0 h1 w hc hz
    · rw [show adS N s = _ from if_neg h1]; exact nadd_zm subE subC steps_sub ok_sub N s B hN hs hf h0 h1 w hc hz
  · by_cases h1 : s < 2147483648
    · rw [show adS N s = _ from if_pos h1]; exact nadd_np addE addC steps_add ok_add N s B hN hs hf h0 h1 w hc hz
    · rw [show adS N s = _ from if_neg h1]; exact nadd_nm subE subC steps_sub ok_sub N s B hN hs hf h0 h1 w hc hz
end Go.Proofs.YtieojgblamkgoaaGreatDoor
/- Regions that draw their order, whose last operation waits for all others: one walk in the order of the text, and then the last operation. -/
namespace Go.Proofs.YtieojgblamkgoaaGreatDoor
open Go.RowKit
set_option linter.unusedVariables false

theorem push_getD_lt (l : Array Bool) (d : Bool) {i : Nat} (h : i < l.size) : (l.push false).getD i d = l.getD i d := by
  rw [Array.getD_eq_getD_getElem?, Array.getD_eq_getD_getElem?, Array.getElem?_push_lt h, Array.getElem?_eq_getElem h]
theorem push_getD_eq (l : Array Bool) (d : Bool) : (l.push false).getD l.size d = false := by
  rw [Array.getD_eq_getD_getElem?, Array.getElem?_push_size]; rfl
theorem ops_lt {pre : List Oper} {st : Oper} {i : Nat} (h : i < pre.length) : (pre ++ [st]).toArray[i]? = pre.toArray[i]? := by
  simp [List.getElem?_append_left h]
theorem push_set (l : Array Bool) {i : Nat} (h : i < l.size) : (l.push false).setIfInBounds i true = (l.setIfInBounds i true).push false := by
  apply Array.ext_getElem?
  intro j
  rw [Array.getElem?_setIfInBounds, Array.getElem?_push, Array.getElem?_push, Array.getElem?_setIfInBounds]
  simp only [Array.size_push, Array.size_setIfInBounds]
  by_cases e : i = j
  · subst e
    have h3 : ¬ i = l.size := by omega
    have h4 : i < l.size + 1 := by omega
    simp [h, h3, h4]
  · simp [e]
theorem wpAny_done {P : Program} {ops : Array Oper} {Q' : Exit → Act → World → Prop} {listed : Array Bool} (hr : Region.ready .any ops listed = []) {a : Act} {w : World} (h : Q' .normal a w) : ∀ f, wpAny P .any ops Q' f listed a w
  | 0 => ⟨hr, h⟩
  | f + 1 => ⟨fun _ => h, fun i hi => by rw [hr] at hi; cases hi⟩
end Go.Proofs.YtieojgblamkgoaaGreatDoor
/- Regions that draw their order, whose last operation waits, at last, for all others (by way of some that it waits for). -/
namespace Go.Proofs.YtieojgblamkgoaaGreatDoor
open Go.RowKit
set_option linter.unusedVariables false

def lastR (pre : List Oper) (st : Oper) : Bool :=
  ((List.range pre.length).all fun k => match pre[k]? with
    | some o => o.guard.isNone && o.after.toList.all fun e => !(Region.binds .any e) || decide (e.on < k)
    | none => true) &&
  ((st.guard.isNone && st.after.toList.all fun e => !(Region.binds .any e) || decide (e.on < pre.length)) && (List.range pre.length).all fun k => (reach pre 3 ((st.after.toList.filter (Region.binds .any)).map (·.on))).contains k)
theorem lastR_pre {pre : List Oper} {st : Oper} (h : lastR pre st = true) {k : Nat} {o : Oper} (hk : pre[k]? = some o) : o.guard = none ∧ ∀ e ∈ o.after, Region.binds .any e = true → e.on < k := by
  unfold lastR at h
  rw [Bool.and_eq_true] at h
  have hlt : k < pre.length := (List.getElem?_eq_some_iff.1 hk).1
  have h1 := List.all_eq_true.1 h.1 k (List.mem_range.2 hlt)
  rw [hk] at h1
  simp only [Bool.and_eq_true] at h1
  refine ⟨by simpa using h1.1, fun e he hb => ?_⟩
  have h2 := List.all_eq_true.1 h1.2 e (by simpa using he)
  rw [hb] at h2
  simpa using h2
theorem lastR_st {pre : List Oper} {st : Oper} (h : lastR pre st = true) : st.guard = none ∧ (∀ k, k < pre.length → k ∈ reach pre 3 ((st.after.toList.filter (Region.binds .any)).map (·.on))) ∧ ∀ e ∈ st.after, Region.binds .any e = true → e.on < pre.length := by
  unfold lastR at h
  simp only [Bool.and_eq_true] at h
  refine ⟨by simpa using h.2.1.1, fun k hk => ?_, fun e he hb => ?_⟩
  · have h1 := List.all_eq_true.1 h.2.2 k (List.mem_range.2 hk)
    simpa using h1
  · have h2 := List.all_eq_true.1 h.2.1.2 e (by simpa using he)
    rw [hb] at h2
    simpa using h2
theorem ready_ltR {pre : List Oper} {st : Oper} (hB : lastR pre st = true) {listed : Array Bool} (hs : listed.size = pre.length) (hc : ∀ (j : Nat) (o : Oper), listed.getD j false = true → pre[j]? = some o → ∀ e ∈ o.after, Region.binds .any e = true → listed.getD e.on false = true) {i : Nat} (hi : i ∈ Region.ready .any (pre ++ [st]).toArray (listed.push false)) :
    (i < pre.length ∧ i ∈ Region.ready .any pre.toArray listed) ∨ (i = pre.length ∧ ∀ k, k < pre.length → listed.getD k false = true) := by
  obtain ⟨h1, o, ho, h2⟩ := mem_ready.1 hi
  rcases Nat.lt_trichotomy i pre.length with h | h | h
  · left
    refine ⟨h, mem_ready.2 ⟨?_, o, ?_, fun e he hb => ?_⟩⟩
    · rw [← push_getD_lt listed true (by omega)]; exact h1
    · rw [← ops_lt (st := st) h]; exact ho
    · have hk : pre[i]? = some o := by rw [ops_lt h] at ho; simpa using ho
      have := (lastR_pre hB hk).2 e he hb
      rw [← push_getD_lt listed false (by omega)]
      exact h2 e he hb
  · right
    refine ⟨h, fun k hk => ?_⟩
    have hst : o = st := by
      rw [h] at ho
      simp at ho
      exact ho.symm
    subst hst
    obtain ⟨g1, g2, g3⟩ := lastR_st hB
    refine deps_got hc (fun e he hb => ?_) k (g2 k hk)
    have := g3 e he hb
    rw [← push_getD_lt listed false (by omega)]
    exact h2 e he hb
  · exfalso
    rw [List.getElem?_toArray, List.getElem?_eq_none (by simp; omega)] at ho
    cases ho
theorem ready_backR {pre : List Oper} {st : Oper} (hB : lastR pre st = true) {listed : Array Bool} (hs : listed.size = pre.length) {i : Nat} (hi : i ∈ Region.ready .any pre.toArray listed) : i ∈ Region.ready .any (pre ++ [st]).toArray (listed.push false) := by
  obtain ⟨h1, o, ho, h2⟩ := mem_ready.1 hi
  have h : i < pre.length := by
    have := (List.getElem?_eq_some_iff.1 (show pre[i]? = some o by simpa using ho)).1
    exact this
  refine mem_ready.2 ⟨?_, o, ?_, fun e he hb => ?_⟩
  · rw [push_getD_lt listed true (by omega)]; exact h1
  · rw [ops_lt h]; exact ho
  · have hk : pre[i]? = some o := by simpa using ho
    have := (lastR_pre hB hk).2 e he hb
    rw [push_getD_lt listed false (by omega)]
    exact h2 e he hb
theorem ready_nilR {pre : List Oper} {st : Oper} (hB : lastR pre st = true) {listed : Array Bool} (hs : listed.size = pre.length) (hr : Region.ready .any pre.toArray listed = []) : ∀ k, k < pre.length → listed.getD k false = true := by
  intro k
  induction k using Nat.strongRecOn with
  | ind k ih =>
    intro hk
    have hk' : k < listed.size := by omega
    cases hl : listed.getD k false with
    | true => rfl
    | false =>
      exfalso
      obtain ⟨o, ho⟩ : ∃ o, pre[k]? = some o := ⟨_, List.getElem?_eq_getElem hk⟩
      have : k ∈ Region.ready .any pre.toArray listed := by
        refine mem_ready.2 ⟨?_, o, by simpa using ho, fun e he hb => ?_⟩
        · rw [Array.getD_eq_getD_getElem?, Array.getElem?_eq_getElem hk'] at hl ⊢; exact hl
        · have := (lastR_pre hB ho).2 e he hb
          exact ih e.on this (by omega)
      rw [hr] at this
      cases this
theorem wpAny_lastR {P : Program} {pre : List Oper} {st : Oper} {C : World → Prop} {Q : Act → Prop} {Q' : Exit → Act → World → Prop} (hB : lastR pre st = true)
    (hQ : ∀ a w, C w → Q a → st.wp P a w (fun a' w' => Q' .normal a' w') Q') : ∀ (fuel : Nat) (listed : Array Bool) (a : Act) (w : World), listed.size = pre.length → (∀ (j : Nat) (o : Oper), listed.getD j false = true → pre[j]? = some o → ∀ e ∈ o.after, Region.binds .any e = true → listed.getD e.on false = true) → C w →
    wpAnyQ P .any pre.toArray C Q fuel listed a → wpAny P .any (pre ++ [st]).toArray Q' (fuel + 1) (listed.push false) a w := by
  have done : ∀ (fuel : Nat) (listed : Array Bool) (a : Act) (w : World), listed.size = pre.length → (∀ (j : Nat) (o : Oper), listed.getD j false = true → pre[j]? = some o → ∀ e ∈ o.after, Region.binds .any e = true → listed.getD e.on false = true) → C w → (∀ k, k < pre.length → listed.getD k false = true) → Q a → wpAny P .any (pre ++ [st]).toArray Q' (fuel + 1) (listed.push false) a w := by
    intro fuel listed a w hs hc hC hall hq
    obtain ⟨g1, g2, g3⟩ := lastR_st hB
    have hrn : pre.length ∈ Region.ready .any (pre ++ [st]).toArray (listed.push false) := by
      refine mem_ready.2 ⟨?_, st, by simp, fun e he hb => ?_⟩
      · rw [← hs]; exact push_getD_eq _ _
      · have := g3 e he hb
        rw [push_getD_lt listed false (by omega)]
        exact hall _ this
    refine ⟨fun hr => (by rw [hr] at hrn; cases hrn), fun i hi => ?_⟩
    have hin : i = pre.length := by
      rcases ready_ltR hB hs hc hi with ⟨h1, h2⟩ | ⟨h1, _⟩
      · exfalso
        obtain ⟨h3, _⟩ := mem_ready.1 h2
        have h4 := hall i h1
        rw [Array.getD_eq_getD_getElem?, Array.getElem?_eq_getElem (by omega)] at h3 h4
        simp at h3 h4
        rw [h4] at h3
        cases h3
      · exact h1
    subst hin
    unfold wpOp
    have hget : (pre ++ [st]).toArray[pre.length]? = some st := by simp
    rw [hget]
    simp only
    rw [if_pos (by unfold Region.wanted; rw [g1])]
    refine Or.inl (Oper.wp_mono (fun a' w' h => ?_) (hQ a w hC hq))
    refine wpAny_done ?_ h fuel
    cases hrr : Region.ready .any (pre ++ [st]).toArray ((listed.push false).setIfInBounds pre.length true) with
    | nil => rfl
    | cons j js =>
      exfalso
      have hj : j ∈ Region.ready .any (pre ++ [st]).toArray ((listed.push false).setIfInBounds pre.length true) := by rw [hrr]; exact List.mem_cons_self
      obtain ⟨h3, o, ho, _⟩ := mem_ready.1 hj
      have hj2 : j < (pre ++ [st]).length := by
        have := (List.getElem?_eq_some_iff.1 (show (pre ++ [st])[j]? = some o by simpa using ho)).1
        exact this
      rw [List.length_append, List.length_singleton] at hj2
      rw [Array.getD_eq_getD_getElem?, Array.getElem?_setIfInBounds] at h3
      by_cases e : pre.length = j
      · rw [if_pos e, if_pos (by rw [Array.size_push]; omega)] at h3
        cases h3
      · rw [if_neg e, Array.getElem?_push_lt (by omega)] at h3
        have h4 := hall j (by omega)
        rw [Array.getD_eq_getD_getElem?, Array.getElem?_eq_getElem (by omega)] at h4
        simp at h3 h4
        rw [h4] at h3
        cases h3
  intro fuel
  induction fuel with
  | zero =>
    intro listed a w hs hc hC h
    exact done 0 listed a w hs hc hC (ready_nilR hB hs h.1) h.2
  | succ fuel ih =>
    intro listed a w hs hc hC h
    cases hr : Region.ready .any pre.toArray listed with
    | nil => exact done (fuel + 1) listed a w hs hc hC (ready_nilR hB hs hr) (h.1 hr)
    | cons j js =>
      have hj : j ∈ Region.ready .any pre.toArray listed := by rw [hr]; exact List.mem_cons_self
      refine ⟨fun hn => (by have := ready_backR (st := st) hB hs hj; rw [hn] at this; cases this), fun i hi => ?_⟩
      rcases ready_ltR hB hs hc hi with ⟨h1, h2⟩ | ⟨_, h2⟩
      · have hq := h.2 i h2
        obtain ⟨o, ho⟩ : ∃ o, pre[i]? = some o := ⟨_, List.getElem?_eq_getElem h1⟩
        have hg := (lastR_pre hB ho).1
        unfold qOp at hq
        unfold wpOp
        rw [ops_lt h1]
        rw [show pre.toArray[i]? = some o by simpa using ho] at hq ⊢
        simp only at hq ⊢
        have hwt : ∀ y, Region.wanted o y = true := fun y => by unfold Region.wanted; rw [hg]
        rw [if_pos (hwt _)] at hq ⊢
        refine Or.inl (Oper.wp_of_quiet hC (fun a' w' hC' hk => ?_) hq)
        rw [push_set listed (by omega)]
        have hd : ∀ e ∈ o.after, Region.binds .any e = true → listed.getD e.on false = true := by
          obtain ⟨_, o2, ho2, hd⟩ := mem_ready.1 h2
          have e2 : o = o2 := by
            rw [show pre.toArray[i]? = some o by simpa using ho] at ho2
            injection ho2
          rw [e2]
          exact hd
        exact ih (listed.setIfInBounds i true) a' w' (by simpa using hs) (closed_set ho hc hd) hC' hk
      · exfalso
        obtain ⟨h3, o, ho, _⟩ := mem_ready.1 hj
        have hj2 : j < pre.length := (List.getElem?_eq_some_iff.1 (show pre[j]? = some o by simpa using ho)).1
        have h4 := h2 j hj2
        rw [Array.getD_eq_getD_getElem?, Array.getElem?_eq_getElem (by omega)] at h3 h4
        simp at h3 h4
        rw [h4] at h3
        cases h3
/-- The region's wp: the walk of all operations but the last, each quiet in the worlds that differ by new blocks; then the last one. -/
theorem wp_region_lastR {P : Program} {id : Nat} {R : Exit → Act → World → Prop} {a : Act} {w : World} {l : List Oper} (pre : List Oper) (st : Oper) (hl : l = pre ++ [st]) (hm : P.follows .mixedOrders = true) (hB : Region.lexB .any pre.toArray = true) (hL : lastR pre st = true)
    (h : wpQuiet P pre.toArray (fun w' => ∃ n : QW w, w' = n.x) (fun a' => ∀ (n : QW w) (K : Act → World → Prop), (∀ a'' w'', R .normal a'' w'' → K a'' w'') → st.wp P a' n.x K R) pre a) : (Code.region id l.toArray true).wp P R a w := by
  subst hl
  refine wp_region_any hm ?_
  have hq := wpAnyQ_lex (C := fun w' => ∃ n : QW w, w' = n.x) (md := .any) (by simp only [Region.lexB, Bool.and_eq_true] at hB; exact hB.1) pre 0 (Array.replicate pre.length false) a (by simp) (by simp only [Region.lexB, Bool.and_eq_true] at hB; simpa using hB.2) h
  have := wpAny_lastR (Q' := R) hL (fun a' w' hC hq => by obtain ⟨n, rfl⟩ := hC; exact hq n _ (fun _ _ h => h)) pre.length (Array.replicate pre.length false) a w.drew (by simp) (fun j o hj => by rw [Array.getD_eq_getD_getElem?, Array.getElem?_replicate] at hj; split at hj <;> cases hj) ⟨⟨w.drew, (Q.refl w).drew⟩, rfl⟩ hq
  have e : (Array.replicate pre.length false).push false = Array.replicate (pre ++ [st]).toArray.size false := by
    rw [show (pre ++ [st]).toArray.size = pre.length + 1 by simp, Array.replicate_succ]
  rw [e] at this
  simpa using this
theorem wp_lastR {P : Program} {id : Nat} {R : Exit → Act → World → Prop} {a : Act} {w : World} {l : List Oper} (n : Nat) (hn : l.length = n + 1) (st : Oper) (hst : l[n]? = some st) (hm : P.follows .mixedOrders = true) (hB : Region.lexB .any (l.take n).toArray = true) (hL : lastR (l.take n) st = true)
    (h : wpQuiet P (l.take n).toArray (fun w' => ∃ n : QW w, w' = n.x) (fun a' => ∀ (n : QW w) (K : Act → World → Prop), (∀ a'' w'', R .normal a'' w'' → K a'' w'') → st.wp P a' n.x K R) (l.take n) a) : (Code.region id l.toArray true).wp P R a w := by
  refine wp_region_lastR (l.take n) st ?_ hm hB hL h
  have h1 : n < l.length := by omega
  have h2 : l[n] = st := by rw [List.getElem?_eq_getElem h1] at hst; injection hst
  rw [← h2, List.take_append_getElem h1, List.take_of_length_le (by omega)]
end Go.Proofs.YtieojgblamkgoaaGreatDoor

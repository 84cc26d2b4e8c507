/- blur: along lines. -/
import Derived.Test.YtedaacddnahjkaaG32f5711b
namespace Go.Proofs.Ytedaacddnahjkaa
open Go.RowKit
set_option linter.unusedVariables false
set_option linter.unusedSimpArgs false

/-- What is made of the window about a place of a line. -/
def alV (k L r : Nat) (at' : Nat → Nat → Nat) (S : List Nat) (mixV : (Nat → Nat) → Nat) (l i : Nat) : Nat := mixV fun t => S.getD (at' l (borV k L ((i : Int) + (t : Int) - (r : Int))).toNat) 0
/-- The numbers of a line by now. -/
def NumsV (k L r : Nat) (at' : Nat → Nat → Nat) (S : List Nat) (l : Nat) (F : Nat → Value) (m : Nat) : Prop := ∀ j, j < m → ∃ X, F j = .float .f64 X ∧ NumX (S.getD (at' l (borV k L ((j : Int) - (r : Int))).toNat) 0) X
structure AlI (w x : World) (r k : Int) (fv : Value) (pa pb : Int) (sv : Value) (n gt gb gp gn P : Nat) (FP FN FT : Nat → Value) : Prop where
  q : Q w x
  s0 : x.cell? ⟨w.heap.size, 0, none⟩ = some (.int .i64 r)
  s1 : x.cell? ⟨w.heap.size, 1, none⟩ = some (.int .i64 k)
  s2 : x.cell? ⟨w.heap.size, 2, none⟩ = some fv
  p0 : x.cell? ⟨w.heap.size + 1, 0, none⟩ = some (.int .i64 pa)
  p1 : x.cell? ⟨w.heap.size + 1, 1, none⟩ = some (.int .i64 pb)
  p2 : x.cell? ⟨w.heap.size + 1, 2, none⟩ = some sv
  r0 : x.cell? ⟨w.heap.size + 2, 0, none⟩ = some (.int .i64 0)
  r1 : x.cell? ⟨w.heap.size + 2, 1, none⟩ = some (.int .i64 0)
  r2 : x.cell? ⟨w.heap.size + 2, 2, none⟩ = some (.slice none 0 0)
  rf : ∀ j, x.frozen? ⟨w.heap.size + 2, j, none⟩ = false
  t0 : x.cell? ⟨gb, 0, none⟩ = some (.int .i64 pa)
  t1 : x.cell? ⟨gb, 1, none⟩ = some (.int .i64 pb)
  t2 : x.cell? ⟨gb, 2, none⟩ = some (.slice (some ⟨gt, 0, none⟩) n n)
  pv : VR x gp P FP
  nv : VR x gn P FN
  tv : VR x gt n FT
  lt : w.heap.size + 2 < gt ∧ w.heap.size + 2 < gn ∧ gt ≠ gn ∧ gt ≠ gb ∧ gt ≠ gp ∧ gn ≠ gb ∧ gn ≠ gp
section
variable {w x : World} {r k : Int} {fv : Value} {pa pb : Int} {sv : Value} {n gt gb gp gn P : Nat} {FP FN FT : Nat → Value}
theorem AlI.next {y : World} (h : AlI w x r k fv pa pb sv n gt gb gp gn P FP FN FT) (q : Q x y) : AlI w y r k fv pa pb sv n gt gb gp gn P FP FN FT :=
  ⟨h.q.trans q, q.cell h.s0, q.cell h.s1, q.cell h.s2, q.cell h.p0, q.cell h.p1, q.cell h.p2, q.cell h.r0, q.cell h.r1, q.cell h.r2, fun j => by rw [q.2]; exact h.rf j, q.cell h.t0, q.cell h.t1, q.cell h.t2, h.pv.next q, h.nv.next q, h.tv.next q, h.lt⟩
theorem AlI.putN {i : Nat} {v : Value} {F : Nat → Value} (h : AlI w x r k fv pa pb sv n gt gb gp gn P FP FN FT) (hi : i < P) (hv : F i = v) (ho : ∀ j, j < P → j ≠ i → F j = FN j) : AlI w (x.setCell ⟨gn, i, none⟩ v) r k fv pa pb sv n gt gb gp gn P FP F FT := by
  obtain ⟨l1, l2, l3, l4, l5, l6, l7⟩ := h.lt
  have ot : ∀ {b j : Nat} {u : Value}, b ≠ gn → x.cell? ⟨b, j, none⟩ = some u → (x.setCell ⟨gn, i, none⟩ v).cell? ⟨b, j, none⟩ = some u := fun hb hu => (World.cell?_setCell_other _ _ _ _ (fun e => hb (by injection e with e; exact e.symm))).trans hu
  exact ⟨h.q.set (by show w.heap.size ≤ gn; omega) _, ot (by omega) h.s0, ot (by omega) h.s1, ot (by omega) h.s2, ot (by omega) h.p0, ot (by omega) h.p1, ot (by omega) h.p2, ot (by omega) h.r0, ot (by omega) h.r1, ot (by omega) h.r2, fun j => by rw [World.frozen?_setCell]; exact h.rf j, ot (fun e => l6 e.symm) h.t0, ot (fun e => l6 e.symm) h.t1, ot (fun e => l6 e.symm) h.t2, h.pv.other (by show gn ≠ gp; exact l7) _, h.nv.put hi hv ho, h.tv.other (by show gn ≠ gt; exact fun e => l3 e.symm) _, h.lt⟩
theorem AlI.putT {i : Nat} {v : Value} {F : Nat → Value} (h : AlI w x r k fv pa pb sv n gt gb gp gn P FP FN FT) (hi : i < n) (hv : F i = v) (ho : ∀ j, j < n → j ≠ i → F j = FT j) : AlI w (x.setCell ⟨gt, i, none⟩ v) r k fv pa pb sv n gt gb gp gn P FP FN F := by
  obtain ⟨l1, l2, l3, l4, l5, l6, l7⟩ := h.lt
  have ot : ∀ {b j : Nat} {u : Value}, b ≠ gt → x.cell? ⟨b, j, none⟩ = some u → (x.setCell ⟨gt, i, none⟩ v).cell? ⟨b, j, none⟩ = some u := fun hb hu => (World.cell?_setCell_other _ _ _ _ (fun e => hb (by injection e with e; exact e.symm))).trans hu
  exact ⟨h.q.set (by show w.heap.size ≤ gt; omega) _, ot (by omega) h.s0, ot (by omega) h.s1, ot (by omega) h.s2, ot (by omega) h.p0, ot (by omega) h.p1, ot (by omega) h.p2, ot (by omega) h.r0, ot (by omega) h.r1, ot (by omega) h.r2, fun j => by rw [World.frozen?_setCell]; exact h.rf j, ot (fun e => l4 e.symm) h.t0, ot (fun e => l4 e.symm) h.t1, ot (fun e => l4 e.symm) h.t2, h.pv.other (by show gt ≠ gp; exact l5) _, h.nv.other (by show gt ≠ gn; exact l3) _, h.tv.put hi hv ho, h.lt⟩
theorem AlI.congr {F : Nat → Value} (h : AlI w x r k fv pa pb sv n gt gb gp gn P FP FN FT) (hF : ∀ j, j < n → F j = FT j) : AlI w x r k fv pa pb sv n gt gb gp gn P FP FN F := { h with tv := h.tv.congr hF }
end
theorem run_inv1 {ρ : Operand → Value} {x : World} {d : Option Tmp} {ty : TypeId} {ps : String} {af : Array Edge} {g : Option (Nat × Bool)} {j f : Nat} {tt : TypeId} {vv v1 : Value} {name : String} {args : Array Operand} {at' : Array TypeId} (hr : ρ (.tmp j) = .iface tt vv)
    (hm : ∀ x : World, (method 231 tt vv name).run Try.prog x = .ok (f, vv) x) (hen : ∀ (args : Array Value) (x : World), (callFunc f args).run Try.prog x = .ok (.enter f args) x) (h : args.map ρ = #[v1]) :
    (execOp ρ { dst := d, op := .call { callee := .invoke (.tmp j) name, args := args, argTypes := at' }, type := ty, pos := ps, after := af, guard := g }).run Try.prog x = .ok (.enter f #[vv, v1]) x := by
  simp [execOp, resolve, invoke, callMethod, h, hr, hm, hen, go_sem]
theorem run_inv3 {ρ : Operand → Value} {x : World} {d : Option Tmp} {ty : TypeId} {ps : String} {af : Array Edge} {g : Option (Nat × Bool)} {j f : Nat} {tt : TypeId} {vv v1 v2 v3 : Value} {name : String} {args : Array Operand} {at' : Array TypeId} (hr : ρ (.tmp j) = .iface tt vv)
    (hm : ∀ x : World, (method 231 tt vv name).run Try.prog x = .ok (f, vv) x) (hen : ∀ (args : Array Value) (x : World), (callFunc f args).run Try.prog x = .ok (.enter f args) x) (h : args.map ρ = #[v1, v2, v3]) :
    (execOp ρ { dst := d, op := .call { callee := .invoke (.tmp j) name, args := args, argTypes := at' }, type := ty, pos := ps, after := af, guard := g }).run Try.prog x = .ok (.enter f #[vv, v1, v2, v3]) x := by
  simp [execOp, resolve, invoke, callMethod, h, hr, hm, hen, go_sem]
theorem run_fnv {ρ : Operand → Value} {x : World} {d : Option Tmp} {ty : TypeId} {ps : String} {af : Array Edge} {g : Option (Nat × Bool)} {j f : Nat} {bs : Array Value} {args : Array Operand} {at' : Array TypeId} {vs : Array Value} (hr : ρ (.tmp j) = .func (.func f) bs #[])
    (hen : ∀ (args : Array Value) (x : World), (callFunc f args).run Try.prog x = .ok (.enter f args) x) (h : args.map ρ = vs) :
    (execOp ρ { dst := d, op := .call { callee := .value (.tmp j), args := args, argTypes := at' }, type := ty, pos := ps, after := af, guard := g }).run Try.prog x = .ok (.enter f (bs ++ vs)) x := by
  simp [execOp, resolve, invoke, h, hr, hen, go_sem]
theorem wpQuiet_val {P : Program} {ops : Array Oper} {C : World → Prop} {N : Act → Prop} {a : Act} {o : Oper} {rest : List Oper} {v : Value} (hg : o.guard = none) (hr : ∀ x, C x → (execOp a.eval o).run P x = .ok (.value v) x) (h : wpQuiet P ops C N rest (a.put o.dst v)) : wpQuiet P ops C N (o :: rest) a :=
  wpQuiet_step fun K hK => by
    rw [if_pos (by unfold Region.wanted; rw [hg])]
    exact ⟨v, fun x hx => by unfold Oper.quietAt; rw [hr x hx]; exact ⟨rfl, rfl⟩, hK _ h⟩
theorem wrap_win (t r : Nat) (ht : t ≤ 2000) (hr : r ≤ 7) : IntKind.i64.wrap (IntKind.i64.wrap ((t : Int) + IntKind.i64.wrap (2 * (r : Int))) + 1) = (t : Int) + 2 * (r : Int) + 1 := by
  simp only [IntKind.wrap_i64]
  omega
theorem slice_win (gn i t r : Nat) (h : t + 2 * r + 1 ≤ i) (x : World) : (Instr.slice 82 (.slice (some ⟨gn, 0, none⟩) i i) (some (.int .i64 (t : Int))) (some (.int .i64 ((t : Int) + 2 * (r : Int) + 1))) none).run Try.prog x = .ok (.slice (some ⟨gn, t, none⟩) (2 * r + 1) (i - t)) x := by
  have e1 : ((t : Int) + 2 * (r : Int) + 1).toNat = t + 2 * r + 1 := by omega
  have e2 : ¬ i = t := by omega
  have e3 : t + 2 * r + 1 - t = 2 * r + 1 := by omega
  rw [run_slice_lh (t := 82) (ht := by kernel_rfl) (h0 := by omega) (h1 := by omega) (h2 := by omega)]
  simp [go_sem, sliced, e1, e2, e3]
/-- Told by now: lines ahead of l, and of l the first i. -/
def todor (pa : Nat) (V : Nat → Nat → Nat) (l i : Nat) (j : Nat) : Value := if j / pa < l ∨ (j / pa = l ∧ j % pa < i) then .int .u32 ((V (j / pa) (j % pa) : Nat) : Int) else .int .u32 0
theorem todor_step {pa : Nat} {V : Nat → Nat → Nat} {l i n : Nat} (h1 : 0 < pa) (hi : i < pa) : (todor pa V l (i + 1) (l * pa + i) = .int .u32 ((V l i : Nat) : Int)) ∧ ∀ j, j < n → j ≠ (l * pa + i) → todor pa V l (i + 1) j = todor pa V l i j := by
  have e1 : (l * pa + i) / pa = l := by rw [Nat.mul_comm, Nat.mul_add_div h1, Nat.div_eq_of_lt (by omega)]; omega
  have e2 : (l * pa + i) % pa = i := by rw [Nat.mul_comm, Nat.mul_add_mod, Nat.mod_eq_of_lt (by omega)]
  refine ⟨?_, fun j hj hne => ?_⟩
  · unfold todor
    rw [e1, e2, if_pos (Or.inr ⟨rfl, by omega⟩)]
  · unfold todor
    have hd := Nat.div_add_mod j pa
    by_cases c1 : j / pa < l ∨ (j / pa = l ∧ j % pa < i)
    · rw [if_pos c1, if_pos (by omega)]
    · rw [if_neg c1, if_neg ?_]
      intro c2
      rcases c2 with c2 | ⟨c2, c3⟩
      · exact c1 (Or.inl c2)
      · have : j % pa = i := by omega
        apply hne
        rw [← c2, ← this, Nat.mul_comm]
        exact hd.symm
theorem todor_line {pa : Nat} {V : Nat → Nat → Nat} {l n : Nat} (h1 : 0 < pa) : ∀ j, j < n → todor pa V (l + 1) 0 j = todor pa V l pa j := by
  intro j hj
  unfold todor
  have hm := Nat.mod_lt j h1
  obtain ⟨u, hu⟩ : ∃ u, j / pa = u := ⟨_, rfl⟩
  obtain ⟨v, hv⟩ : ∃ v, j % pa = v := ⟨_, rfl⟩
  rw [hu, hv]
  rw [hv] at hm
  by_cases c : u < l ∨ (u = l ∧ v < pa)
  · rw [if_pos c, if_pos (by omega)]
  · rw [if_neg c, if_neg (by omega)]
set_option maxHeartbeats 8000000 in
set_option maxRecDepth 100000 in
theorem along_rows (r k fm pa pb g0 o0 c0 n : Nat) (bs : Array Value) (mixV : (Nat → Nat) → Nat) (S : List Nat) (w : World) (hsz : Size pa pb) (hn : n = pa * pb) (hS : S.length = n) (hb : ∀ i, S.getD i 0 < 4294967296) (hI : UIs w g0 o0 S) (hr : r ≤ 7) (hk : k = 1 ∨ k = 2 ∨ k = 3)
    (hen : ∀ (args : Array Value) (x : World), (callFunc fm args).run Try.prog x = .ok (.enter fm args) x)
    (hM : ∀ (x : World) (h o c : Nat) (X Sx : Nat → Nat), Q w x → 2 * r + 1 ≤ c → (∀ i, i < 2 * r + 1 → x.cell? ⟨h, o + i, none⟩ = some (.float .f64 (X i))) → (∀ i, i < 2 * r + 1 → NumX (Sx i) (X i)) → Calls Try.prog fm (bs ++ #[.slice (some ⟨h, o, none⟩) (2 * r + 1) c]) x fun e w' => e = .returned (.int .u32 (mixV Sx : Nat)) ∧ Q x w') :
    Calls Try.prog 41 #[.agg #[.int .i64 (r : Int), .int .i64 (k : Int), .func (.func fm) bs #[]], .iface 91 (.agg #[]), .agg #[.int .i64 (pa : Int), .int .i64 (pb : Int), .slice (some ⟨g0, o0, none⟩) n c0]] w fun e w' => ∃ v, e = .returned v ∧ (∃ gt, v = .agg #[.int .i64 (pa : Int), .int .i64 (pb : Int), .slice (some ⟨gt, 0, none⟩) n n] ∧ VR w' gt n (fun j => .int .u32 (((alV k pa r (fun l i => (l * pa + i)) S mixV) (j / pa) (j % pa) : Nat) : Int)) ∧ w.heap.size ≤ gt ∧ gt < w'.heap.size) ∧ Q w w' := by
  have HI : Hid (∀ (x : World) (i : Nat), Q w x → i < n → x.cell? ⟨g0, o0 + i, none⟩ = some (.int .u32 ((S.getD i 0 : Nat) : Int))) := fun x i q hi => q.cell (hI i (by rw [hS]; exact hi))
  have HB : Hid (∀ i, S.getD i 0 < 4294967296) := hb
  have HM : Hid _ := hM
  have HEN : Hid _ := hen
  have HN : Hid (n = pa * pb ∧ 0 < pa ∧ 0 < pb) := ⟨hn, hsz.a1, hsz.b1⟩
  have ha1 := hsz.a1
  have ha2 := hsz.a2
  have hb1 := hsz.b1
  have hb2 := hsz.b2
  have hn2 : n ≤ 65536 := by rw [hn]; exact hsz.ab
  have hn1 : 1 ≤ n := by rw [hn]; exact hsz.pos
  have HBV : Hid (∀ i : Int, 0 ≤ borV k pa i ∧ borV k pa i < (pa : Int)) := fun i => borV_lt i (by omega)
  have HPL : Hid (∀ x : World, Calls Try.prog 55 #[.agg #[.int .i64 (r : Int), .int .i64 (k : Int), .func (.func fm) bs #[]], .int .i64 (pa : Int)] x fun e w' => ∃ v, e = .returned v ∧ (∃ g, v = .slice (some ⟨g, 0, none⟩) (pa + 2 * r) (pa + 2 * r) ∧ VR w' g (pa + 2 * r) (fun i : Nat => Value.int .i64 (borV k pa ((i : Int) - (r : Int)))) ∧ x.heap.size ≤ g ∧ g < w'.heap.size) ∧ Q x w') := fun x => places_any r k pa _ rfl (fun a m w => run_store Try.prog w a _ m rfl) hk hr (by omega) (by omega) x
  have HLE : Hid (∀ x : World, Calls Try.prog 90 #[.agg #[], .agg #[.int .i64 (pa : Int), .int .i64 (pb : Int), .slice (some ⟨g0, o0, none⟩) n c0]] x fun e w' => e = .returned (.int .i64 (pa : Int)) ∧ Q x w') := fun x => rlength_any pa pb _ n c0 x
  have HLE2 : Hid (∀ x : World, Calls Try.prog 90 #[.agg #[], .agg #[.int .i64 (pa : Int), .int .i64 (pb : Int), .slice (some ⟨g0, o0, none⟩) n c0]] x fun e w' => ∃ v, e = .returned v ∧ v = .int .i64 (pa : Int) ∧ Q x w') := fun x => (HLE.out x).mono fun e w' ⟨h1, h2⟩ => ⟨_, h1, rfl, h2⟩
  have HCO : Hid (∀ x : World, Calls Try.prog 89 #[.agg #[], .agg #[.int .i64 (pa : Int), .int .i64 (pb : Int), .slice (some ⟨g0, o0, none⟩) n c0]] x fun e w' => e = .returned (.int .i64 (pb : Int)) ∧ Q x w') := fun x => rcount_any pa pb _ n c0 x
  have HAT : Hid (∀ (l i : Nat) (x : World), l ≤ 2048 → i ≤ 2048 → Calls Try.prog 88 #[.agg #[], .agg #[.int .i64 (pa : Int), .int .i64 (pb : Int), .slice (some ⟨g0, o0, none⟩) n c0], .int .i64 (l : Int), .int .i64 (i : Int)] x fun e w' => ∃ v, e = .returned v ∧ v = .int .i64 (((l * pa + i) : Nat) : Int) ∧ Q x w') := fun l i x hl hi => (rat_line pa pb _ n c0 l i ha2 hl hi x).mono fun e w' ⟨h1, h2⟩ => ⟨_, h1, rfl, h2⟩
  have HIN : Hid (∀ l i : Nat, l < pb → i < pa → (l * pa + i) < n) := fun l i hl hi => by
    rw [hn]
    have h1 : (l + 1) * pa ≤ pb * pa := Nat.mul_le_mul_right _ (by omega)
    rw [Nat.add_mul, Nat.one_mul, Nat.mul_comm pb pa] at h1
    omega
  have m1 : ∀ x : World, (method 231 91 (.agg #[]) "halide/blur.length").run Try.prog x = .ok (90, .agg #[]) x := fun _ => by kernel_rfl
  have m2 : ∀ x : World, (method 231 91 (.agg #[]) "halide/blur.count").run Try.prog x = .ok (89, .agg #[]) x := fun _ => by kernel_rfl
  have m3 : ∀ x : World, (method 231 91 (.agg #[]) "halide/blur.at").run Try.prog x = .ok (88, .agg #[]) x := fun _ => by kernel_rfl
  have e1 := enters_of Try.func90 (by kernel_rfl) rfl
  have e3 := enters_of Try.func88 (by kernel_rfl) rfl
  have e4 := enters_of Try.func55 (by kernel_rfl) rfl
  have e5 := enters_of Try.func56 (by kernel_rfl) rfl
  have HE : Hid ((∀ (args : Array Value) (x : World), (callFunc 90 args).run Try.prog x = .ok (.enter 90 args) x) ∧ (∀ (args : Array Value) (x : World), (callFunc 88 args).run Try.prog x = .ok (.enter 88 args) x) ∧ (∀ (args : Array Value) (x : World), (callFunc 55 args).run Try.prog x = .ok (.enter 55 args) x) ∧ (∀ (args : Array Value) (x : World), (callFunc 56 args).run Try.prog x = .ok (.enter 56 args) x)) := ⟨e1, e3, e4, e5⟩
  have HM3 : Hid _ := m3
  have HM1 : Hid _ := m1
  clear hM hen hI hb hS hn hsz hk e1 e3 e4 e5
  obtain ⟨w1, hw1⟩ : ∃ w1, ((w.alloc (.cells #[.int .i64 (r : Int), .int .i64 (k : Int), .func (.func fm) bs #[]] 87)).alloc (.cells #[.int .i64 (pa : Int), .int .i64 (pb : Int), .slice (some ⟨g0, o0, none⟩) n c0] 43)).alloc (.cells #[.int .i64 0, .int .i64 0, .slice none 0 0] 43) = w1 := ⟨_, rfl⟩
  have q1 : Q w w1 := by rw [← hw1]; exact (((Q.refl w).cells _ _).cells _ _).cells _ _
  have p0 : w1.cell? ⟨w.heap.size + 1, 0, none⟩ = some (.int .i64 (pa : Int)) := by rw [← hw1]; simp [go_sem]
  have p1 : w1.cell? ⟨w.heap.size + 1, 1, none⟩ = some (.int .i64 (pb : Int)) := by rw [← hw1]; simp [go_sem]
  have p2 : w1.cell? ⟨w.heap.size + 1, 2, none⟩ = some (.slice (some ⟨g0, o0, none⟩) n c0) := by rw [← hw1]; simp [go_sem]
  have HA1 : Hid (Q w w1 ∧ w1.cell? ⟨w.heap.size, 0, none⟩ = some (.int .i64 (r : Int)) ∧ w1.cell? ⟨w.heap.size, 1, none⟩ = some (.int .i64 (k : Int)) ∧ w1.cell? ⟨w.heap.size, 2, none⟩ = some (.func (.func fm) bs #[]) ∧ w1.cell? ⟨w.heap.size + 1, 0, none⟩ = some (.int .i64 (pa : Int)) ∧ w1.cell? ⟨w.heap.size + 1, 1, none⟩ = some (.int .i64 (pb : Int)) ∧ w1.cell? ⟨w.heap.size + 1, 2, none⟩ = some (.slice (some ⟨g0, o0, none⟩) n c0) ∧ w1.cell? ⟨w.heap.size + 2, 0, none⟩ = some (.int .i64 0) ∧ w1.cell? ⟨w.heap.size + 2, 1, none⟩ = some (.int .i64 0) ∧ w1.cell? ⟨w.heap.size + 2, 2, none⟩ = some (.slice none 0 0) ∧ (∀ j, w1.frozen? ⟨w.heap.size + 2, j, none⟩ = false) ∧ w1.heap.size = w.heap.size + 3) := by
    refine ⟨q1, ?_, ?_, ?_, p0, p1, p2, ?_, ?_, ?_, ?_, ?_⟩
    all_goals rw [← hw1]
    · simp [go_sem]
    · simp [go_sem]
    · simp [go_sem]
    · simp [go_sem]
    · simp [go_sem]
    · simp [go_sem]
    · intro j; simp [go_sem]
    · simp
  clear q1
  go_enter Try.func41, Try.ntmps41
  go_wp2_with fail
  refine regionAl (B := w1.heap.size) (pa := (pa : Int)) (pb := (pb : Int)) (b5 := w.heap.size + 1) (ad := some ⟨g0, o0, none⟩) (n := n) (c := c0) rfl rfl ⟨rfl, p0, p1, p2, by omega, rfl⟩ ?_
  intro w2 gt gb HT
  rw [normAl]
  have HT2 : Hid (AlP w1.heap.size (pa : Int) (pb : Int) n gt gb w1 w2) := HT
  have s0 := HT.q.cell HA1.out.2.1
  have s1 := HT.q.cell HA1.out.2.2.1
  have s2 := HT.q.cell HA1.out.2.2.2.1
  have v0 := HT.q.cell p0
  have v1 := HT.q.cell p1
  have v2 := HT.q.cell p2
  clear p0 p1 p2 hw1 HT
  have n0 := qw_some w2
  have f0 := qw_cell s0
  have f1 := qw_cell s1
  have f2 := qw_cell s2
  have f3 := qw_cell v0
  have f4 := qw_cell v1
  have f5 := qw_cell v2
  go_wp2_with fail
  refine wp_region_mk [0, 1, 2] [[3, 4, 5]] 3 _ (by kernel_rfl) (by kernel_rfl) rfl (by kernel_rfl) ?_
  simp only [List.filterMap_cons, List.filterMap_nil, List.getElem?_cons_zero, List.getElem?_cons_succ]
  repeat (first | go_big_quiet_step (fail) | quiet_step (fail))
  refine wpQuiet_nil ?_
  intro x3 hx3
  clear n0 f0 f1 f2 f3 f4 f5
  refine tree_call 3 rfl rfl (run_inv1 (v1 := .agg #[.int .i64 (pa : Int), .int .i64 (pb : Int), .slice (some ⟨g0, o0, none⟩) n c0]) (tt := 91) (vv := .agg #[]) (f := 90) (by simp [Act.eval, Act.put]) HM1.out HE.out.1 (by simp [Act.eval, Act.put])) (HLE2.out x3) ?_
  rintro u x4 ⟨rfl, hq4⟩
  refine ⟨hx3.trans hq4, ?_⟩
  refine tree_call 4 rfl rfl (run_fn 55 #[.tmp 23, .tmp 26] _ rfl HE.out.2.2.1 (vs := #[.agg #[.int .i64 (r : Int), .int .i64 (k : Int), .func (.func fm) bs #[]], .int .i64 (pa : Int)]) (by simp [Act.eval, Act.put])) (HPL.out x4) ?_
  rintro u x5 ⟨⟨gp, rfl, hpv, hpl, hpu⟩, hq5⟩
  refine ⟨(hx3.trans hq4).trans hq5, ?_⟩
  obtain ⟨P, hP⟩ : ∃ P, pa + 2 * r = P := ⟨_, rfl⟩
  rw [hP] at hpv ⊢
  refine tree_runF 5 rfl rfl rfl (v := .slice (some ⟨gp, 0, none⟩) P P) (x' := x5) (by simp [execOp, go_sem, Act.put]) ?_
  refine tree_nil ?_
  obtain ⟨Mn, hMn, hVn⟩ := make_vf P (by omega)
  have hMw := hMn x5
  have hVw := hVn x5
  have q26 : Q w2 x5 := (hx3.trans hq4).trans hq5
  have q56 : Q x5 (x5.alloc (.cells Mn 61)) := (Q.refl x5).cells _ _
  have hs56 : (x5.alloc (.cells Mn 61)).heap.size = x5.heap.size + 1 := by simp
  obtain ⟨w6, hw6⟩ : ∃ w6, x5.alloc (.cells Mn 61) = w6 := ⟨_, rfl⟩
  rw [hw6] at hMw hVw q56 hs56
  obtain ⟨gn, hgn⟩ : ∃ gn, x5.heap.size = gn := ⟨_, rfl⟩
  have HP : Hid (pa + 2 * r = P) := hP
  have HA6 : Hid (AlI w w6 (r : Int) (k : Int) (.func (.func fm) bs #[]) (pa : Int) (pb : Int) (.slice (some ⟨g0, o0, none⟩) n c0) n gt gb gp gn P (fun i : Nat => Value.int .i64 (borV k pa ((i : Int) - (r : Int)))) (fun _ => .float .f64 0) (todor pa (alV k pa r (fun l i => (l * pa + i)) S mixV) 0 0)) := by
    have z := HA1.out
    have t := HT2.out
    have q16 : Q w1 w6 := (t.q.trans q26).trans q56
    have q2 : Q w2 w6 := q26.trans q56
    have hh1 := z.2.2.2.2.2.2.2.2.2.2.2
    have hg1 := t.l1
    have hg2 := t.l2
    have hg3 := t.row.lt hn1
    have hg4 : gb < w2.heap.size := World.block_lt_of_cell? _ _ t.t0
    have hx23 := hx3.1.size
    have hx34 := hq4.1.size
    have hx45 := hq5.1.size
    refine ⟨z.1.trans q16, q16.cell z.2.1, q16.cell z.2.2.1, q16.cell z.2.2.2.1, q16.cell z.2.2.2.2.1, q16.cell z.2.2.2.2.2.1, q16.cell z.2.2.2.2.2.2.1, q16.cell z.2.2.2.2.2.2.2.1, q16.cell z.2.2.2.2.2.2.2.2.1, q16.cell z.2.2.2.2.2.2.2.2.2.1, fun j => by rw [q16.2]; exact z.2.2.2.2.2.2.2.2.2.2.1 j, q2.cell t.t0, q2.cell t.t1, q2.cell t.t2, hpv.next q56, by rw [← hgn]; exact hVw, (t.row.next q2).congr (fun j hj => ?_), ?_⟩
    · unfold todor
      rw [if_neg (by rintro (h | ⟨_, h⟩) <;> exact absurd h (Nat.not_lt_zero _))]
    · exact ⟨by omega, by omega, by omega, t.ne, by omega, by omega, by omega⟩
  rw [hgn] at hMw
  clear hMn hVn hVw q26 q56 hs56 hpv hpl hpu hq5 hq4 hx3 s0 s1 s2 v0 v1 v2 HT2 HA1 HPL hP hgn
  have hPz : (pa : Int) + 2 * (r : Int) = (P : Int) := by have := HP.out; omega
  have hP2 : P ≤ 2000 := by have := HP.out; omega
  have a0 := HA6.out.p0
  have a1 := HA6.out.p1
  have a2 := HA6.out.p2
  clear hw6
  go_wp2_with fail
  refine (HCO.out _).mono ?_
  rintro e w7 ⟨rfl, q7⟩
  have HA7 : Hid (AlI w w7 (r : Int) (k : Int) (.func (.func fm) bs #[]) (pa : Int) (pb : Int) (.slice (some ⟨g0, o0, none⟩) n c0) n gt gb gp gn P (fun i : Nat => Value.int .i64 (borV k pa ((i : Int) - (r : Int)))) (fun _ => .float .f64 0) (todor pa (alV k pa r (fun l i => (l * pa + i)) S mixV) 0 0)) := HA6.out.next q7
  clear q7 HA6 a0 a1 a2 HCO m2
  go_wp2_with fail
  go_loopg [10, 11, 12, 13, 34] pb (fun m s10 s11 s12 s13 s34 wr => ∃ (l : Nat) (FN : Nat → Value), s34 = .int .i64 (l : Int) ∧ l + m = pb ∧ Hid (AlI w wr (r : Int) (k : Int) (.func (.func fm) bs #[]) (pa : Int) (pb : Int) (.slice (some ⟨g0, o0, none⟩) n c0) n gt gb gp gn P (fun i : Nat => Value.int .i64 (borV k pa ((i : Int) - (r : Int)))) FN (todor pa (alV k pa r (fun l i => (l * pa + i)) S mixV) l 0)))
  case atStart => exact ⟨0, _, rfl, by omega, HA7⟩
  case round =>
    clear HA7
    obtain ⟨l, FN, rfl, hl, HX⟩ := hrel
    by_cases hlt : l < pb
    · have hlt' : (l : Int) < (pb : Int) := by omega
      go_wp2_with fail
      go_loopg [11, 12, 39] P (fun m s11 s12 s39 wx => ∃ (i : Nat) (FM : Nat → Value), s39 = .int .i64 (i : Int) ∧ i + m = P ∧ Hid ((AlI w wx (r : Int) (k : Int) (.func (.func fm) bs #[]) (pa : Int) (pb : Int) (.slice (some ⟨g0, o0, none⟩) n c0) n gt gb gp gn P (fun i : Nat => Value.int .i64 (borV k pa ((i : Int) - (r : Int)))) FM (todor pa (alV k pa r (fun l i => (l * pa + i)) S mixV) l 0)) ∧ NumsV k pa r (fun l i => (l * pa + i)) S l FM i))
      case atStart => exact ⟨0, FN, rfl, by omega, ⟨HX.out, fun j hj => by omega⟩⟩
      case round =>
        obtain ⟨i, FM, rfl, hi, HY⟩ := hrel
        by_cases hlp : i < P
        · have hlp' : (i : Int) < (P : Int) := by omega
          have cp : wr.cell? ⟨gp, i, none⟩ = some (.int .i64 (borV k pa ((i : Int) - (r : Int)))) := HY.out.1.pv.cell i hlp
          obtain ⟨b, hb⟩ : ∃ b : Nat, borV k pa ((i : Int) - (r : Int)) = (b : Int) := ⟨(borV k pa ((i : Int) - (r : Int))).toNat, by have := (HBV.out ((i : Int) - (r : Int))).1; omega⟩
          have hbL : b < pa := by have := (HBV.out ((i : Int) - (r : Int))).2; omega
          have Hb : Hid (borV k pa ((i : Int) - (r : Int)) = (b : Int)) := hb
          rw [hb] at cp
          clear hb
          have v0 := HY.out.1.p0
          have v1 := HY.out.1.p1
          have v2 := HY.out.1.p2
          have n0 := qw_some wr
          have f1 := qw_cell v0
          have f2 := qw_cell v1
          have f3 := qw_cell v2
          go_wp2_with fail
          refine wp_region_mk [0, 1, 2, 3, 4, 5, 6, 7] [[8, 9, 10, 11, 12, 13]] 6 _ (by kernel_rfl) (by kernel_rfl) rfl (by kernel_rfl) ?_
          simp only [List.filterMap_cons, List.filterMap_nil, List.getElem?_cons_zero, List.getElem?_cons_succ]
          repeat (first | go_big_quiet_step (fail) | quiet_step (fail))
          refine wpQuiet_nil ?_
          intro x3 hx3
          clear n0 f1 f2 f3 v0 v1 v2 cp
          refine tree_call 8 rfl rfl (run_inv3 (v1 := .agg #[.int .i64 (pa : Int), .int .i64 (pb : Int), .slice (some ⟨g0, o0, none⟩) n c0]) (v2 := .int .i64 (l : Int)) (v3 := .int .i64 (b : Int)) (tt := 91) (vv := .agg #[]) (f := 88) (by simp [Act.eval, Act.put]) HM3.out HE.out.2.1 (by simp [Act.eval, Act.put])) (HAT.out l b x3 (by omega) (by omega)) ?_
          rintro u x4 ⟨rfl, hq4⟩
          refine ⟨hx3.trans hq4, ?_⟩
          have hin := HIN.out l b hlt hbL
          obtain ⟨A, hA⟩ : ∃ A, (l * pa + b) = A := ⟨_, rfl⟩
          rw [hA] at hin ⊢
          have HAA : Hid ((l * pa + b) = A) := hA
          clear hA
          have cs := HI.out x4 A ((HY.out.1.q.trans hx3).trans hq4) hin
          obtain ⟨s, hs⟩ : ∃ s, S.getD A 0 = s := ⟨_, rfl⟩
          have hs4 : s < 4294967296 := by rw [← hs]; exact HB.out A
          rw [hs] at cs
          have Hs : Hid (S.getD A 0 = s) := hs
          clear hs
          refine tree_run 9 rfl rfl (v := .pointer (some ⟨g0, o0 + A, none⟩)) (x' := x4) (by simp [execOp, go_sem, Act.put, hin]) (hx3.trans hq4) ?_
          refine tree_run 10 rfl rfl (v := .int .u32 (s : Int)) (x' := x4) (by simp [execOp, go_sem, Act.put, cs]) (hx3.trans hq4) ?_
          refine tree_call 11 rfl rfl (run_fn 56 #[.tmp 54] _ rfl HE.out.2.2.2 (vs := #[.int .u32 (s : Int)]) (by simp [Act.eval, Act.put])) (bnumber_any s hs4 x4) ?_
          rintro u x5 ⟨⟨X, rfl, hX⟩, hq5⟩
          have q35 : Q wr x5 := (hx3.trans hq4).trans hq5
          refine ⟨q35, ?_⟩
          refine tree_run 12 rfl rfl (v := .pointer (some ⟨gn, i, none⟩)) (x' := x5) (by simp [execOp, go_sem, Act.put, hlp]) q35 ?_
          have hY5 := HY.out.1.next q35
          have c5 := hY5.nv.cell i hlp
          have z5 := hY5.nv.free i
          have lf := store_f64
          refine tree_skipF 13 rfl rfl rfl (x' := x5.setCell ⟨gn, i, none⟩ (.float .f64 X)) (by simp [execOp, go_sem, Act.put, c5, z5, lf]) ?_
          refine tree_nil ?_
          have HZ : Hid ((AlI w (x5.setCell ⟨gn, i, none⟩ (.float .f64 X)) (r : Int) (k : Int) (.func (.func fm) bs #[]) (pa : Int) (pb : Int) (.slice (some ⟨g0, o0, none⟩) n c0) n gt gb gp gn P (fun i : Nat => Value.int .i64 (borV k pa ((i : Int) - (r : Int)))) (fun j => if j = i then .float .f64 X else FM j) (todor pa (alV k pa r (fun l i => (l * pa + i)) S mixV) l 0)) ∧ NumsV k pa r (fun l i => (l * pa + i)) S l (fun j => if j = i then .float .f64 X else FM j) (i + 1)) := by
            refine ⟨hY5.putN hlp (by simp) (fun j _ hj => by rw [if_neg hj]), fun j hj => ?_⟩
            by_cases e : j = i
            · subst e
              refine ⟨X, by show (if j = j then _ else _) = _; rw [if_pos rfl], ?_⟩
              rw [Hb.out, Int.toNat_natCast]
              show NumX (S.getD (l * pa + b) 0) X
              rw [HAA.out, Hs.out]
              exact hX
            · obtain ⟨Y, h1, h2⟩ := HY.out.2 j (by omega)
              exact ⟨Y, by show (if j = i then _ else _) = _; rw [if_neg e]; exact h1, h2⟩
          generalize x5.setCell ⟨gn, i, none⟩ (.float .f64 X) = w8 at HZ ⊢
          clear lf c5 z5 hY5 q35 hq5 cs hq4 hx3 hX
          go_wp2_with fail
          go_roundg (P - (i + 1))
          case measure => go_light; omega
          case rel => go_light; exact ⟨i + 1, _, by go_num, by omega, HZ⟩
        · obtain rfl : i = P := by omega
          have hge : ¬ (i : Int) < (i : Int) := by omega
          have v0 := HY.out.1.p0
          have v1 := HY.out.1.p1
          have v2 := HY.out.1.p2
          have HNV : Hid (NumsV k pa r (fun l i => (l * pa + i)) S l FM i) := HY.out.2
          have m1' := HM1.out
          go_wp2_with fail
          refine (HLE.out _).mono ?_
          rintro e w9 ⟨rfl, q9⟩
          have HZ9 : Hid (AlI w w9 (r : Int) (k : Int) (.func (.func fm) bs #[]) (pa : Int) (pb : Int) (.slice (some ⟨g0, o0, none⟩) n c0) n gt gb gp gn i (fun i : Nat => Value.int .i64 (borV k pa ((i : Int) - (r : Int)))) FM (todor pa (alV k pa r (fun l i => (l * pa + i)) S mixV) l 0)) := HY.out.1.next q9
          clear q9 HY v0 v1 v2 m1'
          go_wp2_with fail
          go_loopg [13, 61] pa (fun m s13 s61 wx => ∃ (t : Nat), s61 = .int .i64 (t : Int) ∧ t + m = pa ∧ Hid (AlI w wx (r : Int) (k : Int) (.func (.func fm) bs #[]) (pa : Int) (pb : Int) (.slice (some ⟨g0, o0, none⟩) n c0) n gt gb gp gn i (fun i : Nat => Value.int .i64 (borV k pa ((i : Int) - (r : Int)))) FM (todor pa (alV k pa r (fun l i => (l * pa + i)) S mixV) l t)))
          case atStart => exact ⟨0, rfl, by omega, HZ9⟩
          case round =>
            clear HZ9
            obtain ⟨t, rfl, ht, HY⟩ := hrel
            by_cases hlL : t < pa
            · have hlL' : (t : Int) < (pa : Int) := by omega
              have hP3 := HP.out
              have v0 := HY.out.p0
              have v1 := HY.out.p1
              have v2 := HY.out.p2
              have n0 := qw_some wr
              have f1 := qw_cell v0
              have f2 := qw_cell v1
              have f3 := qw_cell v2
              have f4 := qw_cell HY.out.s0
              have f5 := qw_cell HY.out.s2
              have f6 := qw_cell HY.out.t2
              have hsl := slice_win gn i t r (by omega)
              have hww := wrap_win t r (by omega) hr
              go_wp2_with fail
              refine wp_region_mk [0, 1, 2, 3, 4, 5, 7, 8, 9, 10, 11, 12, 13, 14, 15, 16, 17] [[6, 18, 19, 20]] 4 _ (by kernel_rfl) (by kernel_rfl) rfl (by kernel_rfl) ?_
              simp only [List.filterMap_cons, List.filterMap_nil, List.getElem?_cons_zero, List.getElem?_cons_succ]
              repeat (first | go_big_quiet_step (fail) | quiet_step (fail))
              refine wpQuiet_nil ?_
              intro x3 hx3
              clear n0 f1 f2 f3 f4 f5 f6 v0 v1 v2
              refine tree_call 6 rfl rfl (run_inv3 (v1 := .agg #[.int .i64 (pa : Int), .int .i64 (pb : Int), .slice (some ⟨g0, o0, none⟩) n c0]) (v2 := .int .i64 (l : Int)) (v3 := .int .i64 (t : Int)) (tt := 91) (vv := .agg #[]) (f := 88) (by simp [Act.eval, Act.put]) HM3.out HE.out.2.1 (by simp [Act.eval, Act.put])) (HAT.out l t x3 (by omega) (by omega)) ?_
              rintro u x4 ⟨rfl, hq4⟩
              refine ⟨hx3.trans hq4, ?_⟩
              have hin := HIN.out l t hlt hlL
              have hY4 := (HY.out.next hx3).next hq4
              have HMX : Hid (∀ j, j < 2 * r + 1 → ∃ X, x4.cell? ⟨gn, t + j, none⟩ = some (.float .f64 X) ∧ NumX (S.getD (l * pa + (borV k pa ((t : Int) + (j : Int) - (r : Int))).toNat) 0) X) := fun j hj => by
                obtain ⟨X, h1, h2⟩ := HNV.out (t + j) (by omega)
                refine ⟨X, by rw [← h1]; exact hY4.nv.cell (t + j) (by omega), ?_⟩
                rw [Int.natCast_add] at h2
                exact h2
              have CM := HM.out x4 gn t (i - t) (fun j => if h : j < 2 * r + 1 then Classical.choose (HMX.out j h) else 0) (fun j => S.getD (l * pa + (borV k pa ((t : Int) + (j : Int) - (r : Int))).toNat) 0) hY4.q (by omega) (fun j hj => by show x4.cell? _ = some (.float .f64 (if h : j < 2 * r + 1 then Classical.choose (HMX.out j h) else 0)); rw [dif_pos hj]; exact (Classical.choose_spec (HMX.out j hj)).1) (fun j hj => by show NumX _ (if h : j < 2 * r + 1 then Classical.choose (HMX.out j h) else 0); rw [dif_pos hj]; exact (Classical.choose_spec (HMX.out j hj)).2)
              have CM2 : Calls Try.prog fm (bs ++ #[.slice (some ⟨gn, t, none⟩) (2 * r + 1) (i - t)]) x4 fun e w' => ∃ v, e = .returned v ∧ v = .int .u32 (((alV k pa r (fun l i => (l * pa + i)) S mixV) l t : Nat) : Int) ∧ Q x4 w' := CM.mono fun e w' ⟨h1, h2⟩ => ⟨_, h1, rfl, h2⟩
              clear CM
              obtain ⟨A, hA⟩ : ∃ A, (l * pa + t) = A := ⟨_, rfl⟩
              have HAA : Hid ((l * pa + t) = A) := hA
              rw [hA] at hin ⊢
              obtain ⟨Z, hZ⟩ : ∃ Z, (alV k pa r (fun l i => (l * pa + i)) S mixV) l t = Z := ⟨_, rfl⟩
              have HZ : Hid ((alV k pa r (fun l i => (l * pa + i)) S mixV) l t = Z) := hZ
              rw [hZ] at CM2
              clear hA hZ
              refine tree_call 18 rfl rfl (run_fnv (f := fm) (bs := bs) (vs := #[.slice (some ⟨gn, t, none⟩) (2 * r + 1) (i - t)]) (by simp [Act.eval, Act.put]) HEN.out (by simp [Act.eval, Act.put])) CM2 ?_
              rintro u x5 ⟨rfl, hq5⟩
              have q35 : Q wr x5 := (hx3.trans hq4).trans hq5
              refine ⟨q35, ?_⟩
              refine tree_run 19 rfl rfl (v := .pointer (some ⟨gt, A, none⟩)) (x' := x5) (by simp [execOp, go_sem, Act.put, hin]) q35 ?_
              have hY5 := hY4.next hq5
              have c5 := hY5.tv.cell A hin
              have z5 := hY5.tv.free A
              refine tree_skipF 20 rfl rfl rfl (x' := x5.setCell ⟨gt, A, none⟩ (.int .u32 (Z : Int))) (by simp [execOp, go_sem, Act.put, c5, z5]) ?_
              refine tree_nil ?_
              have HZ9 : Hid (AlI w (x5.setCell ⟨gt, A, none⟩ (.int .u32 (Z : Int))) (r : Int) (k : Int) (.func (.func fm) bs #[]) (pa : Int) (pb : Int) (.slice (some ⟨g0, o0, none⟩) n c0) n gt gb gp gn i (fun i : Nat => Value.int .i64 (borV k pa ((i : Int) - (r : Int)))) FM (todor pa (alV k pa r (fun l i => (l * pa + i)) S mixV) l (t + 1))) := by
                have st := todor_step (pa := pa) (V := (alV k pa r (fun l i => (l * pa + i)) S mixV)) (l := l) (i := t) (n := n) HN.out.2.1 (by omega)
                rw [HAA.out] at st
                exact hY5.putT hin (by rw [st.1, HZ.out]) st.2
              generalize x5.setCell ⟨gt, A, none⟩ (.int .u32 (Z : Int)) = w8 at HZ9 ⊢
              clear c5 z5 hY5 hY4 q35 hq5 hq4 hx3 CM2 hsl hww HMX
              go_wp2_with fail
              go_roundg (pa - (t + 1))
              case measure => go_light; omega
              case rel => go_light; exact ⟨t + 1, by go_num, by omega, HZ9⟩
            · have htL : t = pa := by omega
              have hge2 : ¬ (t : Int) < (pa : Int) := by omega
              have HtL : Hid (t = pa) := htL
              clear htL
              have HZ9 : Hid (AlI w wr (r : Int) (k : Int) (.func (.func fm) bs #[]) (pa : Int) (pb : Int) (.slice (some ⟨g0, o0, none⟩) n c0) n gt gb gp gn i (fun i : Nat => Value.int .i64 (borV k pa ((i : Int) - (r : Int)))) FM (todor pa (alV k pa r (fun l i => (l * pa + i)) S mixV) (l + 1) 0)) := by
                have st := todor_line (pa := pa) (V := (alV k pa r (fun l i => (l * pa + i)) S mixV)) (l := l) (n := n) HN.out.2.1 
                have h := HY.out
                rw [HtL.out] at h
                exact h.congr st
              go_wp2_with fail
              go_roundg (pb - (l + 1))
              case measure => go_light; omega
              case rel => go_light; exact ⟨l + 1, FM, by go_num, by omega, HZ9⟩
    · have hlN : l = pb := by omega
      have hge3 : ¬ (l : Int) < (pb : Int) := by omega
      have HlN : Hid (l = pb) := hlN
      clear hlN
      have d0 := HX.out.t0
      have d1 := HX.out.t1
      have d2 := HX.out.t2
      have g0' := HX.out.r0
      have g1' := HX.out.r1
      have g2' := HX.out.r2
      have z0 := HX.out.rf 0
      have z1 := HX.out.rf 1
      have z2 := HX.out.rf 2
      have HV : Hid (VR (((wr.setCell ⟨w.heap.size + 2, 0, none⟩ (.int .i64 (pa : Int))).setCell ⟨w.heap.size + 2, 1, none⟩ (.int .i64 (pb : Int))).setCell ⟨w.heap.size + 2, 2, none⟩ (.slice (some ⟨gt, 0, none⟩) n n)) gt n (fun j => .int .u32 (((alV k pa r (fun l i => (l * pa + i)) S mixV) (j / pa) (j % pa) : Nat) : Int)) ∧ w.heap.size ≤ gt ∧ gt < (((wr.setCell ⟨w.heap.size + 2, 0, none⟩ (.int .i64 (pa : Int))).setCell ⟨w.heap.size + 2, 1, none⟩ (.int .i64 (pb : Int))).setCell ⟨w.heap.size + 2, 2, none⟩ (.slice (some ⟨gt, 0, none⟩) n n)).heap.size ∧ Q w (((wr.setCell ⟨w.heap.size + 2, 0, none⟩ (.int .i64 (pa : Int))).setCell ⟨w.heap.size + 2, 1, none⟩ (.int .i64 (pb : Int))).setCell ⟨w.heap.size + 2, 2, none⟩ (.slice (some ⟨gt, 0, none⟩) n n))) := by
        have l1 := HX.out.lt.1
        have hv : VR (((wr.setCell ⟨w.heap.size + 2, 0, none⟩ (.int .i64 (pa : Int))).setCell ⟨w.heap.size + 2, 1, none⟩ (.int .i64 (pb : Int))).setCell ⟨w.heap.size + 2, 2, none⟩ (.slice (some ⟨gt, 0, none⟩) n n)) gt n (fun j => .int .u32 (((alV k pa r (fun l i => (l * pa + i)) S mixV) (j / pa) (j % pa) : Nat) : Int)) := by
          refine (((HX.out.tv.other (p := ⟨w.heap.size + 2, 0, none⟩) (by show w.heap.size + 2 ≠ gt; omega) _).other (p := ⟨w.heap.size + 2, 1, none⟩) (by show w.heap.size + 2 ≠ gt; omega) _).other (p := ⟨w.heap.size + 2, 2, none⟩) (by show w.heap.size + 2 ≠ gt; omega) _).congr (fun j hj => ?_)
          unfold todor
          rw [if_pos (Or.inl ?_)]
          rw [HlN.out]
          exact Nat.div_lt_of_lt_mul (by rw [← HN.out.1]; exact hj)
        exact ⟨hv, by omega, hv.lt hn1, ((HX.out.q.set (by show w.heap.size ≤ w.heap.size + 2; omega) _).set (by show w.heap.size ≤ w.heap.size + 2; omega) _).set (by show w.heap.size ≤ w.heap.size + 2; omega) _⟩
      have y0 : (((wr.setCell ⟨w.heap.size + 2, 0, none⟩ (.int .i64 (pa : Int))).setCell ⟨w.heap.size + 2, 1, none⟩ (.int .i64 (pb : Int))).setCell ⟨w.heap.size + 2, 2, none⟩ (.slice (some ⟨gt, 0, none⟩) n n)).cell? ⟨w.heap.size + 2, 0, none⟩ = some (.int .i64 (pa : Int)) := (World.cell?_setCell_other _ _ _ _ (fun e => by injection e with _ e; cases e)).trans ((World.cell?_setCell_other _ _ _ _ (fun e => by injection e with _ e; cases e)).trans (World.cell?_setCell_same _ _ _ g0'))
      have y1 : (((wr.setCell ⟨w.heap.size + 2, 0, none⟩ (.int .i64 (pa : Int))).setCell ⟨w.heap.size + 2, 1, none⟩ (.int .i64 (pb : Int))).setCell ⟨w.heap.size + 2, 2, none⟩ (.slice (some ⟨gt, 0, none⟩) n n)).cell? ⟨w.heap.size + 2, 1, none⟩ = some (.int .i64 (pb : Int)) := (World.cell?_setCell_other _ _ _ _ (fun e => by injection e with _ e; cases e)).trans (World.cell?_setCell_same _ _ _ ((World.cell?_setCell_other _ _ _ _ (fun e => by injection e with _ e; cases e)).trans g1'))
      have y2 : (((wr.setCell ⟨w.heap.size + 2, 0, none⟩ (.int .i64 (pa : Int))).setCell ⟨w.heap.size + 2, 1, none⟩ (.int .i64 (pb : Int))).setCell ⟨w.heap.size + 2, 2, none⟩ (.slice (some ⟨gt, 0, none⟩) n n)).cell? ⟨w.heap.size + 2, 2, none⟩ = some (.slice (some ⟨gt, 0, none⟩) n n) := World.cell?_setCell_same _ _ _ ((World.cell?_setCell_other _ _ _ _ (fun e => by injection e with _ e; cases e)).trans ((World.cell?_setCell_other _ _ _ _ (fun e => by injection e with _ e; cases e)).trans g2'))
      go_wp2_with fail
      generalize ((wr.setCell ⟨w.heap.size + 2, 0, none⟩ (.int .i64 (pa : Int))).setCell ⟨w.heap.size + 2, 1, none⟩ (.int .i64 (pb : Int))).setCell ⟨w.heap.size + 2, 2, none⟩ (.slice (some ⟨gt, 0, none⟩) n n) = w9 at HV y0 y1 y2 ⊢
      exact bodyPost_ret (v := .agg #[.int .i64 (pa : Int), .int .i64 (pb : Int), .slice (some ⟨gt, 0, none⟩) n n]) (by simp [results, Try.results41, go_sem, y0, y1, y2]) rfl ⟨_, rfl, ⟨gt, rfl, HV.out.1, HV.out.2.1, HV.out.2.2.1⟩, HV.out.2.2.2⟩
/-- Told by now: lines ahead of l, and of l the first i. -/
def todoc (pa : Nat) (V : Nat → Nat → Nat) (l i : Nat) (j : Nat) : Value := if j % pa < l ∨ (j % pa = l ∧ j / pa < i) then .int .u32 ((V (j % pa) (j / pa) : Nat) : Int) else .int .u32 0
theorem todoc_step {pa : Nat} {V : Nat → Nat → Nat} {l i n : Nat} (h1 : 0 < pa) (hl : l < pa) : (todoc pa V l (i + 1) (i * pa + l) = .int .u32 ((V l i : Nat) : Int)) ∧ ∀ j, j < n → j ≠ (i * pa + l) → todoc pa V l (i + 1) j = todoc pa V l i j := by
  have e1 : (i * pa + l) / pa = i := by rw [Nat.mul_comm, Nat.mul_add_div h1, Nat.div_eq_of_lt (by omega)]; omega
  have e2 : (i * pa + l) % pa = l := by rw [Nat.mul_comm, Nat.mul_add_mod, Nat.mod_eq_of_lt (by omega)]
  refine ⟨?_, fun j hj hne => ?_⟩
  · unfold todoc
    rw [e1, e2, if_pos (Or.inr ⟨rfl, by omega⟩)]
  · unfold todoc
    have hd := Nat.div_add_mod j pa
    by_cases c1 : j % pa < l ∨ (j % pa = l ∧ j / pa < i)
    · rw [if_pos c1, if_pos (by omega)]
    · rw [if_neg c1, if_neg ?_]
      intro c2
      rcases c2 with c2 | ⟨c2, c3⟩
      · exact c1 (Or.inl c2)
      · have : j / pa = i := by omega
        apply hne
        rw [← c2, ← this, Nat.mul_comm]
        exact hd.symm
theorem todoc_line {pa : Nat} {V : Nat → Nat → Nat} {l n : Nat} {pb : Nat} (h1 : 0 < pa) (hn : n = pa * pb) : ∀ j, j < n → todoc pa V (l + 1) 0 j = todoc pa V l pb j := by
  intro j hj
  unfold todoc
  have hm := Nat.mod_lt j h1
  have hd : j / pa < pb := Nat.div_lt_of_lt_mul (by rw [← hn]; exact hj)
  obtain ⟨u, hu⟩ : ∃ u, j / pa = u := ⟨_, rfl⟩
  obtain ⟨v, hv⟩ : ∃ v, j % pa = v := ⟨_, rfl⟩
  rw [hu, hv]
  rw [hv] at hm
  rw [hu] at hd
  by_cases c : v < l ∨ (v = l ∧ u < pb)
  · rw [if_pos c, if_pos (by omega)]
  · rw [if_neg c, if_neg (by omega)]
set_option maxHeartbeats 8000000 in
set_option maxRecDepth 100000 in
theorem along_columns (r k fm pa pb g0 o0 c0 n : Nat) (bs : Array Value) (mixV : (Nat → Nat) → Nat) (S : List Nat) (w : World) (hsz : Size pa pb) (hn : n = pa * pb) (hS : S.length = n) (hb : ∀ i, S.getD i 0 < 4294967296) (hI : UIs w g0 o0 S) (hr : r ≤ 7) (hk : k = 1 ∨ k = 2 ∨ k = 3)
    (hen : ∀ (args : Array Value) (x : World), (callFunc fm args).run Try.prog x = .ok (.enter fm args) x)
    (hM : ∀ (x : World) (h o c : Nat) (X Sx : Nat → Nat), Q w x → 2 * r + 1 ≤ c → (∀ i, i < 2 * r + 1 → x.cell? ⟨h, o + i, none⟩ = some (.float .f64 (X i))) → (∀ i, i < 2 * r + 1 → NumX (Sx i) (X i)) → Calls Try.prog fm (bs ++ #[.slice (some ⟨h, o, none⟩) (2 * r + 1) c]) x fun e w' => e = .returned (.int .u32 (mixV Sx : Nat)) ∧ Q x w') :
    Calls Try.prog 41 #[.agg #[.int .i64 (r : Int), .int .i64 (k : Int), .func (.func fm) bs #[]], .iface 90 (.agg #[]), .agg #[.int .i64 (pa : Int), .int .i64 (pb : Int), .slice (some ⟨g0, o0, none⟩) n c0]] w fun e w' => ∃ v, e = .returned v ∧ (∃ gt, v = .agg #[.int .i64 (pa : Int), .int .i64 (pb : Int), .slice (some ⟨gt, 0, none⟩) n n] ∧ VR w' gt n (fun j => .int .u32 (((alV k pb r (fun l i => (i * pa + l)) S mixV) (j % pa) (j / pa) : Nat) : Int)) ∧ w.heap.size ≤ gt ∧ gt < w'.heap.size) ∧ Q w w' := by
  have HI : Hid (∀ (x : World) (i : Nat), Q w x → i < n → x.cell? ⟨g0, o0 + i, none⟩ = some (.int .u32 ((S.getD i 0 : Nat) : Int))) := fun x i q hi => q.cell (hI i (by rw [hS]; exact hi))
  have HB : Hid (∀ i, S.getD i 0 < 4294967296) := hb
  have HM : Hid _ := hM
  have HEN : Hid _ := hen
  have HN : Hid (n = pa * pb ∧ 0 < pa ∧ 0 < pb) := ⟨hn, hsz.a1, hsz.b1⟩
  have ha1 := hsz.a1
  have ha2 := hsz.a2
  have hb1 := hsz.b1
  have hb2 := hsz.b2
  have hn2 : n ≤ 65536 := by rw [hn]; exact hsz.ab
  have hn1 : 1 ≤ n := by rw [hn]; exact hsz.pos
  have HBV : Hid (∀ i : Int, 0 ≤ borV k pb i ∧ borV k pb i < (pb : Int)) := fun i => borV_lt i (by omega)
  have HPL : Hid (∀ x : World, Calls Try.prog 55 #[.agg #[.int .i64 (r : Int), .int .i64 (k : Int), .func (.func fm) bs #[]], .int .i64 (pb : Int)] x fun e w' => ∃ v, e = .returned v ∧ (∃ g, v = .slice (some ⟨g, 0, none⟩) (pb + 2 * r) (pb + 2 * r) ∧ VR w' g (pb + 2 * r) (fun i : Nat => Value.int .i64 (borV k pb ((i : Int) - (r : Int)))) ∧ x.heap.size ≤ g ∧ g < w'.heap.size) ∧ Q x w') := fun x => places_any r k pb _ rfl (fun a m w => run_store Try.prog w a _ m rfl) hk hr (by omega) (by omega) x
  have HLE : Hid (∀ x : World, Calls Try.prog 87 #[.agg #[], .agg #[.int .i64 (pa : Int), .int .i64 (pb : Int), .slice (some ⟨g0, o0, none⟩) n c0]] x fun e w' => e = .returned (.int .i64 (pb : Int)) ∧ Q x w') := fun x => clength_any pa pb _ n c0 x
  have HLE2 : Hid (∀ x : World, Calls Try.prog 87 #[.agg #[], .agg #[.int .i64 (pa : Int), .int .i64 (pb : Int), .slice (some ⟨g0, o0, none⟩) n c0]] x fun e w' => ∃ v, e = .returned v ∧ v = .int .i64 (pb : Int) ∧ Q x w') := fun x => (HLE.out x).mono fun e w' ⟨h1, h2⟩ => ⟨_, h1, rfl, h2⟩
  have HCO : Hid (∀ x : World, Calls Try.prog 86 #[.agg #[], .agg #[.int .i64 (pa : Int), .int .i64 (pb : Int), .slice (some ⟨g0, o0, none⟩) n c0]] x fun e w' => e = .returned (.int .i64 (pa : Int)) ∧ Q x w') := fun x => ccount_any pa pb _ n c0 x
  have HAT : Hid (∀ (l i : Nat) (x : World), l ≤ 2048 → i ≤ 2048 → Calls Try.prog 85 #[.agg #[], .agg #[.int .i64 (pa : Int), .int .i64 (pb : Int), .slice (some ⟨g0, o0, none⟩) n c0], .int .i64 (l : Int), .int .i64 (i : Int)] x fun e w' => ∃ v, e = .returned v ∧ v = .int .i64 (((i * pa + l) : Nat) : Int) ∧ Q x w') := fun l i x hl hi => (cat_line pa pb _ n c0 l i ha2 hl hi x).mono fun e w' ⟨h1, h2⟩ => ⟨_, h1, rfl, h2⟩
  have HIN : Hid (∀ l i : Nat, l < pa → i < pb → (i * pa + l) < n) := fun l i hl hi => by
    rw [hn]
    have h1 : (i + 1) * pa ≤ pb * pa := Nat.mul_le_mul_right _ (by omega)
    rw [Nat.add_mul, Nat.one_mul, Nat.mul_comm pb pa] at h1
    omega
  have m1 : ∀ x : World, (method 231 90 (.agg #[]) "halide/blur.length").run Try.prog x = .ok (87, .agg #[]) x := fun _ => by kernel_rfl
  have m2 : ∀ x : World, (method 231 90 (.agg #[]) "halide/blur.count").run Try.prog x = .ok (86, .agg #[]) x := fun _ => by kernel_rfl
  have m3 : ∀ x : World, (method 231 90 (.agg #[]) "halide/blur.at").run Try.prog x = .ok (85, .agg #[]) x := fun _ => by kernel_rfl
  have e1 := enters_of Try.func87 (by kernel_rfl) rfl
  have e3 := enters_of Try.func85 (by kernel_rfl) rfl
  have e4 := enters_of Try.func55 (by kernel_rfl) rfl
  have e5 := enters_of Try.func56 (by kernel_rfl) rfl
  have HE : Hid ((∀ (args : Array Value) (x : World), (callFunc 87 args).run Try.prog x = .ok (.enter 87 args) x) ∧ (∀ (args : Array Value) (x : World), (callFunc 85 args).run Try.prog x = .ok (.enter 85 args) x) ∧ (∀ (args : Array Value) (x : World), (callFunc 55 args).run Try.prog x = .ok (.enter 55 args) x) ∧ (∀ (args : Array Value) (x : World), (callFunc 56 args).run Try.prog x = .ok (.enter 56 args) x)) := ⟨e1, e3, e4, e5⟩
  have HM3 : Hid _ := m3
  have HM1 : Hid _ := m1
  clear hM hen hI hb hS hn hsz hk e1 e3 e4 e5
  obtain ⟨w1, hw1⟩ : ∃ w1, ((w.alloc (.cells #[.int .i64 (r : Int), .int .i64 (k : Int), .func (.func fm) bs #[]] 87)).alloc (.cells #[.int .i64 (pa : Int), .int .i64 (pb : Int), .slice (some ⟨g0, o0, none⟩) n c0] 43)).alloc (.cells #[.int .i64 0, .int .i64 0, .slice none 0 0] 43) = w1 := ⟨_, rfl⟩
  have q1 : Q w w1 := by rw [← hw1]; exact (((Q.refl w).cells _ _).cells _ _).cells _ _
  have p0 : w1.cell? ⟨w.heap.size + 1, 0, none⟩ = some (.int .i64 (pa : Int)) := by rw [← hw1]; simp [go_sem]
  have p1 : w1.cell? ⟨w.heap.size + 1, 1, none⟩ = some (.int .i64 (pb : Int)) := by rw [← hw1]; simp [go_sem]
  have p2 : w1.cell? ⟨w.heap.size + 1, 2, none⟩ = some (.slice (some ⟨g0, o0, none⟩) n c0) := by rw [← hw1]; simp [go_sem]
  have HA1 : Hid (Q w w1 ∧ w1.cell? ⟨w.heap.size, 0, none⟩ = some (.int .i64 (r : Int)) ∧ w1.cell? ⟨w.heap.size, 1, none⟩ = some (.int .i64 (k : Int)) ∧ w1.cell? ⟨w.heap.size, 2, none⟩ = some (.func (.func fm) bs #[]) ∧ w1.cell? ⟨w.heap.size + 1, 0, none⟩ = some (.int .i64 (pa : Int)) ∧ w1.cell? ⟨w.heap.size + 1, 1, none⟩ = some (.int .i64 (pb : Int)) ∧ w1.cell? ⟨w.heap.size + 1, 2, none⟩ = some (.slice (some ⟨g0, o0, none⟩) n c0) ∧ w1.cell? ⟨w.heap.size + 2, 0, none⟩ = some (.int .i64 0) ∧ w1.cell? ⟨w.heap.size + 2, 1, none⟩ = some (.int .i64 0) ∧ w1.cell? ⟨w.heap.size + 2, 2, none⟩ = some (.slice none 0 0) ∧ (∀ j, w1.frozen? ⟨w.heap.size + 2, j, none⟩ = false) ∧ w1.heap.size = w.heap.size + 3) := by
    refine ⟨q1, ?_, ?_, ?_, p0, p1, p2, ?_, ?_, ?_, ?_, ?_⟩
    all_goals rw [← hw1]
    · simp [go_sem]
    · simp [go_sem]
    · simp [go_sem]
    · simp [go_sem]
    · simp [go_sem]
    · simp [go_sem]
    · intro j; simp [go_sem]
    · simp
  clear q1
  go_enter Try.func41, Try.ntmps41
  go_wp2_with fail
  refine regionAl (B := w1.heap.size) (pa := (pa : Int)) (pb := (pb : Int)) (b5 := w.heap.size + 1) (ad := some ⟨g0, o0, none⟩) (n := n) (c := c0) rfl rfl ⟨rfl, p0, p1, p2, by omega, rfl⟩ ?_
  intro w2 gt gb HT
  rw [normAl]
  have HT2 : Hid (AlP w1.heap.size (pa : Int) (pb : Int) n gt gb w1 w2) := HT
  have s0 := HT.q.cell HA1.out.2.1
  have s1 := HT.q.cell HA1.out.2.2.1
  have s2 := HT.q.cell HA1.out.2.2.2.1
  have v0 := HT.q.cell p0
  have v1 := HT.q.cell p1
  have v2 := HT.q.cell p2
  clear p0 p1 p2 hw1 HT
  have n0 := qw_some w2
  have f0 := qw_cell s0
  have f1 := qw_cell s1
  have f2 := qw_cell s2
  have f3 := qw_cell v0
  have f4 := qw_cell v1
  have f5 := qw_cell v2
  go_wp2_with fail
  refine wp_region_mk [0, 1, 2] [[3, 4, 5]] 3 _ (by kernel_rfl) (by kernel_rfl) rfl (by kernel_rfl) ?_
  simp only [List.filterMap_cons, List.filterMap_nil, List.getElem?_cons_zero, List.getElem?_cons_succ]
  repeat (first | go_big_quiet_step (fail) | quiet_step (fail))
  refine wpQuiet_nil ?_
  intro x3 hx3
  clear n0 f0 f1 f2 f3 f4 f5
  refine tree_call 3 rfl rfl (run_inv1 (v1 := .agg #[.int .i64 (pa : Int), .int .i64 (pb : Int), .slice (some ⟨g0, o0, none⟩) n c0]) (tt := 90) (vv := .agg #[]) (f := 87) (by simp [Act.eval, Act.put]) HM1.out HE.out.1 (by simp [Act.eval, Act.put])) (HLE2.out x3) ?_
  rintro u x4 ⟨rfl, hq4⟩
  refine ⟨hx3.trans hq4, ?_⟩
  refine tree_call 4 rfl rfl (run_fn 55 #[.tmp 23, .tmp 26] _ rfl HE.out.2.2.1 (vs := #[.agg #[.int .i64 (r : Int), .int .i64 (k : Int), .func (.func fm) bs #[]], .int .i64 (pb : Int)]) (by simp [Act.eval, Act.put])) (HPL.out x4) ?_
  rintro u x5 ⟨⟨gp, rfl, hpv, hpl, hpu⟩, hq5⟩
  refine ⟨(hx3.trans hq4).trans hq5, ?_⟩
  obtain ⟨P, hP⟩ : ∃ P, pb + 2 * r = P := ⟨_, rfl⟩
  rw [hP] at hpv ⊢
  refine tree_runF 5 rfl rfl rfl (v := .slice (some ⟨gp, 0, none⟩) P P) (x' := x5) (by simp [execOp, go_sem, Act.put]) ?_
  refine tree_nil ?_
  obtain ⟨Mn, hMn, hVn⟩ := make_vf P (by omega)
  have hMw := hMn x5
  have hVw := hVn x5
  have q26 : Q w2 x5 := (hx3.trans hq4).trans hq5
  have q56 : Q x5 (x5.alloc (.cells Mn 61)) := (Q.refl x5).cells _ _
  have hs56 : (x5.alloc (.cells Mn 61)).heap.size = x5.heap.size + 1 := by simp
  obtain ⟨w6, hw6⟩ : ∃ w6, x5.alloc (.cells Mn 61) = w6 := ⟨_, rfl⟩
  rw [hw6] at hMw hVw q56 hs56
  obtain ⟨gn, hgn⟩ : ∃ gn, x5.heap.size = gn := ⟨_, rfl⟩
  have HP : Hid (pb + 2 * r = P) := hP
  have HA6 : Hid (AlI w w6 (r : Int) (k : Int) (.func (.func fm) bs #[]) (pa : Int) (pb : Int) (.slice (some ⟨g0, o0, none⟩) n c0) n gt gb gp gn P (fun i : Nat => Value.int .i64 (borV k pb ((i : Int) - (r : Int)))) (fun _ => .float .f64 0) (todoc pa (alV k pb r (fun l i => (i * pa + l)) S mixV) 0 0)) := by
    have z := HA1.out
    have t := HT2.out
    have q16 : Q w1 w6 := (t.q.trans q26).trans q56
    have q2 : Q w2 w6 := q26.trans q56
    have hh1 := z.2.2.2.2.2.2.2.2.2.2.2
    have hg1 := t.l1
    have hg2 := t.l2
    have hg3 := t.row.lt hn1
    have hg4 : gb < w2.heap.size := World.block_lt_of_cell? _ _ t.t0
    have hx23 := hx3.1.size
    have hx34 := hq4.1.size
    have hx45 := hq5.1.size
    refine ⟨z.1.trans q16, q16.cell z.2.1, q16.cell z.2.2.1, q16.cell z.2.2.2.1, q16.cell z.2.2.2.2.1, q16.cell z.2.2.2.2.2.1, q16.cell z.2.2.2.2.2.2.1, q16.cell z.2.2.2.2.2.2.2.1, q16.cell z.2.2.2.2.2.2.2.2.1, q16.cell z.2.2.2.2.2.2.2.2.2.1, fun j => by rw [q16.2]; exact z.2.2.2.2.2.2.2.2.2.2.1 j, q2.cell t.t0, q2.cell t.t1, q2.cell t.t2, hpv.next q56, by rw [← hgn]; exact hVw, (t.row.next q2).congr (fun j hj => ?_), ?_⟩
    · unfold todoc
      rw [if_neg (by rintro (h | ⟨_, h⟩) <;> exact absurd h (Nat.not_lt_zero _))]
    · exact ⟨by omega, by omega, by omega, t.ne, by omega, by omega, by omega⟩
  rw [hgn] at hMw
  clear hMn hVn hVw q26 q56 hs56 hpv hpl hpu hq5 hq4 hx3 s0 s1 s2 v0 v1 v2 HT2 HA1 HPL hP hgn
  have hPz : (pb : Int) + 2 * (r : Int) = (P : Int) := by have := HP.out; omega
  have hP2 : P ≤ 2000 := by have := HP.out; omega
  have a0 := HA6.out.p0
  have a1 := HA6.out.p1
  have a2 := HA6.out.p2
  clear hw6
  go_wp2_with fail
  refine (HCO.out _).mono ?_
  rintro e w7 ⟨rfl, q7⟩
  have HA7 : Hid (AlI w w7 (r : Int) (k : Int) (.func (.func fm) bs #[]) (pa : Int) (pb : Int) (.slice (some ⟨g0, o0, none⟩) n c0) n gt gb gp gn P (fun i : Nat => Value.int .i64 (borV k pb ((i : Int) - (r : Int)))) (fun _ => .float .f64 0) (todoc pa (alV k pb r (fun l i => (i * pa + l)) S mixV) 0 0)) := HA6.out.next q7
  clear q7 HA6 a0 a1 a2 HCO m2
  go_wp2_with fail
  go_loopg [10, 11, 12, 13, 34] pa (fun m s10 s11 s12 s13 s34 wr => ∃ (l : Nat) (FN : Nat → Value), s34 = .int .i64 (l : Int) ∧ l + m = pa ∧ Hid (AlI w wr (r : Int) (k : Int) (.func (.func fm) bs #[]) (pa : Int) (pb : Int) (.slice (some ⟨g0, o0, none⟩) n c0) n gt gb gp gn P (fun i : Nat => Value.int .i64 (borV k pb ((i : Int) - (r : Int)))) FN (todoc pa (alV k pb r (fun l i => (i * pa + l)) S mixV) l 0)))
  case atStart => exact ⟨0, _, rfl, by omega, HA7⟩
  case round =>
    clear HA7
    obtain ⟨l, FN, rfl, hl, HX⟩ := hrel
    by_cases hlt : l < pa
    · have hlt' : (l : Int) < (pa : Int) := by omega
      go_wp2_with fail
      go_loopg [11, 12, 39] P (fun m s11 s12 s39 wx => ∃ (i : Nat) (FM : Nat → Value), s39 = .int .i64 (i : Int) ∧ i + m = P ∧ Hid ((AlI w wx (r : Int) (k : Int) (.func (.func fm) bs #[]) (pa : Int) (pb : Int) (.slice (some ⟨g0, o0, none⟩) n c0) n gt gb gp gn P (fun i : Nat => Value.int .i64 (borV k pb ((i : Int) - (r : Int)))) FM (todoc pa (alV k pb r (fun l i => (i * pa + l)) S mixV) l 0)) ∧ NumsV k pb r (fun l i => (i * pa + l)) S l FM i))
      case atStart => exact ⟨0, FN, rfl, by omega, ⟨HX.out, fun j hj => by omega⟩⟩
      case round =>
        obtain ⟨i, FM, rfl, hi, HY⟩ := hrel
        by_cases hlp : i < P
        · have hlp' : (i : Int) < (P : Int) := by omega
          have cp : wr.cell? ⟨gp, i, none⟩ = some (.int .i64 (borV k pb ((i : Int) - (r : Int)))) := HY.out.1.pv.cell i hlp
          obtain ⟨b, hb⟩ : ∃ b : Nat, borV k pb ((i : Int) - (r : Int)) = (b : Int) := ⟨(borV k pb ((i : Int) - (r : Int))).toNat, by have := (HBV.out ((i : Int) - (r : Int))).1; omega⟩
          have hbL : b < pb := by have := (HBV.out ((i : Int) - (r : Int))).2; omega
          have Hb : Hid (borV k pb ((i : Int) - (r : Int)) = (b : Int)) := hb
          rw [hb] at cp
          clear hb
          have v0 := HY.out.1.p0
          have v1 := HY.out.1.p1
          have v2 := HY.out.1.p2
          have n0 := qw_some wr
          have f1 := qw_cell v0
          have f2 := qw_cell v1
          have f3 := qw_cell v2
          go_wp2_with fail
          refine wp_region_mk [0, 1, 2, 3, 4, 5, 6, 7] [[8, 9, 10, 11, 12, 13]] 6 _ (by kernel_rfl) (by kernel_rfl) rfl (by kernel_rfl) ?_
          simp only [List.filterMap_cons, List.filterMap_nil, List.getElem?_cons_zero, List.getElem?_cons_succ]
          repeat (first | go_big_quiet_step (fail) | quiet_step (fail))
          refine wpQuiet_nil ?_
          intro x3 hx3
          clear n0 f1 f2 f3 v0 v1 v2 cp
          refine tree_call 8 rfl rfl (run_inv3 (v1 := .agg #[.int .i64 (pa : Int), .int .i64 (pb : Int), .slice (some ⟨g0, o0, none⟩) n c0]) (v2 := .int .i64 (l : Int)) (v3 := .int .i64 (b : Int)) (tt := 90) (vv := .agg #[]) (f := 85) (by simp [Act.eval, Act.put]) HM3.out HE.out.2.1 (by simp [Act.eval, Act.put])) (HAT.out l b x3 (by omega) (by omega)) ?_
          rintro u x4 ⟨rfl, hq4⟩
          refine ⟨hx3.trans hq4, ?_⟩
          have hin := HIN.out l b hlt hbL
          obtain ⟨A, hA⟩ : ∃ A, (b * pa + l) = A := ⟨_, rfl⟩
          rw [hA] at hin ⊢
          have HAA : Hid ((b * pa + l) = A) := hA
          clear hA
          have cs := HI.out x4 A ((HY.out.1.q.trans hx3).trans hq4) hin
          obtain ⟨s, hs⟩ : ∃ s, S.getD A 0 = s := ⟨_, rfl⟩
          have hs4 : s < 4294967296 := by rw [← hs]; exact HB.out A
          rw [hs] at cs
          have Hs : Hid (S.getD A 0 = s) := hs
          clear hs
          refine tree_run 9 rfl rfl (v := .pointer (some ⟨g0, o0 + A, none⟩)) (x' := x4) (by simp [execOp, go_sem, Act.put, hin]) (hx3.trans hq4) ?_
          refine tree_run 10 rfl rfl (v := .int .u32 (s : Int)) (x' := x4) (by simp [execOp, go_sem, Act.put, cs]) (hx3.trans hq4) ?_
          refine tree_call 11 rfl rfl (run_fn 56 #[.tmp 54] _ rfl HE.out.2.2.2 (vs := #[.int .u32 (s : Int)]) (by simp [Act.eval, Act.put])) (bnumber_any s hs4 x4) ?_
          rintro u x5 ⟨⟨X, rfl, hX⟩, hq5⟩
          have q35 : Q wr x5 := (hx3.trans hq4).trans hq5
          refine ⟨q35, ?_⟩
          refine tree_run 12 rfl rfl (v := .pointer (some ⟨gn, i, none⟩)) (x' := x5) (by simp [execOp, go_sem, Act.put, hlp]) q35 ?_
          have hY5 := HY.out.1.next q35
          have c5 := hY5.nv.cell i hlp
          have z5 := hY5.nv.free i
          have lf := store_f64
          refine tree_skipF 13 rfl rfl rfl (x' := x5.setCell ⟨gn, i, none⟩ (.float .f64 X)) (by simp [execOp, go_sem, Act.put, c5, z5, lf]) ?_
          refine tree_nil ?_
          have HZ : Hid ((AlI w (x5.setCell ⟨gn, i, none⟩ (.float .f64 X)) (r : Int) (k : Int) (.func (.func fm) bs #[]) (pa : Int) (pb : Int) (.slice (some ⟨g0, o0, none⟩) n c0) n gt gb gp gn P (fun i : Nat => Value.int .i64 (borV k pb ((i : Int) - (r : Int)))) (fun j => if j = i then .float .f64 X else FM j) (todoc pa (alV k pb r (fun l i => (i * pa + l)) S mixV) l 0)) ∧ NumsV k pb r (fun l i => (i * pa + l)) S l (fun j => if j = i then .float .f64 X else FM j) (i + 1)) := by
            refine ⟨hY5.putN hlp (by simp) (fun j _ hj => by rw [if_neg hj]), fun j hj => ?_⟩
            by_cases e : j = i
            · subst e
              refine ⟨X, by show (if j = j then _ else _) = _; rw [if_pos rfl], ?_⟩
              rw [Hb.out, Int.toNat_natCast]
              show NumX (S.getD (b * pa + l) 0) X
              rw [HAA.out, Hs.out]
              exact hX
            · obtain ⟨Y, h1, h2⟩ := HY.out.2 j (by omega)
              exact ⟨Y, by show (if j = i then _ else _) = _; rw [if_neg e]; exact h1, h2⟩
          generalize x5.setCell ⟨gn, i, none⟩ (.float .f64 X) = w8 at HZ ⊢
          clear lf c5 z5 hY5 q35 hq5 cs hq4 hx3 hX
          go_wp2_with fail
          go_roundg (P - (i + 1))
          case measure => go_light; omega
          case rel => go_light; exact ⟨i + 1, _, by go_num, by omega, HZ⟩
        · obtain rfl : i = P := by omega
          have hge : ¬ (i : Int) < (i : Int) := by omega
          have v0 := HY.out.1.p0
          have v1 := HY.out.1.p1
          have v2 := HY.out.1.p2
          have HNV : Hid (NumsV k pb r (fun l i => (i * pa + l)) S l FM i) := HY.out.2
          have m1' := HM1.out
          go_wp2_with fail
          refine (HLE.out _).mono ?_
          rintro e w9 ⟨rfl, q9⟩
          have HZ9 : Hid (AlI w w9 (r : Int) (k : Int) (.func (.func fm) bs #[]) (pa : Int) (pb : Int) (.slice (some ⟨g0, o0, none⟩) n c0) n gt gb gp gn i (fun i : Nat => Value.int .i64 (borV k pb ((i : Int) - (r : Int)))) FM (todoc pa (alV k pb r (fun l i => (i * pa + l)) S mixV) l 0)) := HY.out.1.next q9
          clear q9 HY v0 v1 v2 m1'
          go_wp2_with fail
          go_loopg [13, 61] pb (fun m s13 s61 wx => ∃ (t : Nat), s61 = .int .i64 (t : Int) ∧ t + m = pb ∧ Hid (AlI w wx (r : Int) (k : Int) (.func (.func fm) bs #[]) (pa : Int) (pb : Int) (.slice (some ⟨g0, o0, none⟩) n c0) n gt gb gp gn i (fun i : Nat => Value.int .i64 (borV k pb ((i : Int) - (r : Int)))) FM (todoc pa (alV k pb r (fun l i => (i * pa + l)) S mixV) l t)))
          case atStart => exact ⟨0, rfl, by omega, HZ9⟩
          case round =>
            clear HZ9
            obtain ⟨t, rfl, ht, HY⟩ := hrel
            by_cases hlL : t < pb
            · have hlL' : (t : Int) < (pb : Int) := by omega
              have hP3 := HP.out
              have v0 := HY.out.p0
              have v1 := HY.out.p1
              have v2 := HY.out.p2
              have n0 := qw_some wr
              have f1 := qw_cell v0
              have f2 := qw_cell v1
              have f3 := qw_cell v2
              have f4 := qw_cell HY.out.s0
              have f5 := qw_cell HY.out.s2
              have f6 := qw_cell HY.out.t2
              have hsl := slice_win gn i t r (by omega)
              have hww := wrap_win t r (by omega) hr
              go_wp2_with fail
              refine wp_region_mk [0, 1, 2, 3, 4, 5, 7, 8, 9, 10, 11, 12, 13, 14, 15, 16, 17] [[6, 18, 19, 20]] 4 _ (by kernel_rfl) (by kernel_rfl) rfl (by kernel_rfl) ?_
              simp only [List.filterMap_cons, List.filterMap_nil, List.getElem?_cons_zero, List.getElem?_cons_succ]
              repeat (first | go_big_quiet_step (fail) | quiet_step (fail))
              refine wpQuiet_nil ?_
              intro x3 hx3
              clear n0 f1 f2 f3 f4 f5 f6 v0 v1 v2
              refine tree_call 6 rfl rfl (run_inv3 (v1 := .agg #[.int .i64 (pa : Int), .int .i64 (pb : Int), .slice (some ⟨g0, o0, none⟩) n c0]) (v2 := .int .i64 (l : Int)) (v3 := .int .i64 (t : Int)) (tt := 90) (vv := .agg #[]) (f := 85) (by simp [Act.eval, Act.put]) HM3.out HE.out.2.1 (by simp [Act.eval, Act.put])) (HAT.out l t x3 (by omega) (by omega)) ?_
              rintro u x4 ⟨rfl, hq4⟩
              refine ⟨hx3.trans hq4, ?_⟩
              have hin := HIN.out l t hlt hlL
              have hY4 := (HY.out.next hx3).next hq4
              have HMX : Hid (∀ j, j < 2 * r + 1 → ∃ X, x4.cell? ⟨gn, t + j, none⟩ = some (.float .f64 X) ∧ NumX (S.getD ((borV k pb ((t : Int) + (j : Int) - (r : Int))).toNat * pa + l) 0) X) := fun j hj => by
                obtain ⟨X, h1, h2⟩ := HNV.out (t + j) (by omega)
                refine ⟨X, by rw [← h1]; exact hY4.nv.cell (t + j) (by omega), ?_⟩
                rw [Int.natCast_add] at h2
                exact h2
              have CM := HM.out x4 gn t (i - t) (fun j => if h : j < 2 * r + 1 then Classical.choose (HMX.out j h) else 0) (fun j => S.getD ((borV k pb ((t : Int) + (j : Int) - (r : Int))).toNat * pa + l) 0) hY4.q (by omega) (fun j hj => by show x4.cell? _ = some (.float .f64 (if h : j < 2 * r + 1 then Classical.choose (HMX.out j h) else 0)); rw [dif_pos hj]; exact (Classical.choose_spec (HMX.out j hj)).1) (fun j hj => by show NumX _ (if h : j < 2 * r + 1 then Classical.choose (HMX.out j h) else 0); rw [dif_pos hj]; exact (Classical.choose_spec (HMX.out j hj)).2)
              have CM2 : Calls Try.prog fm (bs ++ #[.slice (some ⟨gn, t, none⟩) (2 * r + 1) (i - t)]) x4 fun e w' => ∃ v, e = .returned v ∧ v = .int .u32 (((alV k pb r (fun l i => (i * pa + l)) S mixV) l t : Nat) : Int) ∧ Q x4 w' := CM.mono fun e w' ⟨h1, h2⟩ => ⟨_, h1, rfl, h2⟩
              clear CM
              obtain ⟨A, hA⟩ : ∃ A, (t * pa + l) = A := ⟨_, rfl⟩
              have HAA : Hid ((t * pa + l) = A) := hA
              rw [hA] at hin ⊢
              obtain ⟨Z, hZ⟩ : ∃ Z, (alV k pb r (fun l i => (i * pa + l)) S mixV) l t = Z := ⟨_, rfl⟩
              have HZ : Hid ((alV k pb r (fun l i => (i * pa + l)) S mixV) l t = Z) := hZ
              rw [hZ] at CM2
              clear hA hZ
              refine tree_call 18 rfl rfl (run_fnv (f := fm) (bs := bs) (vs := #[.slice (some ⟨gn, t, none⟩) (2 * r + 1) (i - t)]) (by simp [Act.eval, Act.put]) HEN.out (by simp [Act.eval, Act.put])) CM2 ?_
              rintro u x5 ⟨rfl, hq5⟩
              have q35 : Q wr x5 := (hx3.trans hq4).trans hq5
              refine ⟨q35, ?_⟩
              refine tree_run 19 rfl rfl (v := .pointer (some ⟨gt, A, none⟩)) (x' := x5) (by simp [execOp, go_sem, Act.put, hin]) q35 ?_
              have hY5 := hY4.next hq5
              have c5 := hY5.tv.cell A hin
              have z5 := hY5.tv.free A
              refine tree_skipF 20 rfl rfl rfl (x' := x5.setCell ⟨gt, A, none⟩ (.int .u32 (Z : Int))) (by simp [execOp, go_sem, Act.put, c5, z5]) ?_
              refine tree_nil ?_
              have HZ9 : Hid (AlI w (x5.setCell ⟨gt, A, none⟩ (.int .u32 (Z : Int))) (r : Int) (k : Int) (.func (.func fm) bs #[]) (pa : Int) (pb : Int) (.slice (some ⟨g0, o0, none⟩) n c0) n gt gb gp gn i (fun i : Nat => Value.int .i64 (borV k pb ((i : Int) - (r : Int)))) FM (todoc pa (alV k pb r (fun l i => (i * pa + l)) S mixV) l (t + 1))) := by
                have st := todoc_step (pa := pa) (V := (alV k pb r (fun l i => (i * pa + l)) S mixV)) (l := l) (i := t) (n := n) HN.out.2.1 (by omega)
                rw [HAA.out] at st
                exact hY5.putT hin (by rw [st.1, HZ.out]) st.2
              generalize x5.setCell ⟨gt, A, none⟩ (.int .u32 (Z : Int)) = w8 at HZ9 ⊢
              clear c5 z5 hY5 hY4 q35 hq5 hq4 hx3 CM2 hsl hww HMX
              go_wp2_with fail
              go_roundg (pb - (t + 1))
              case measure => go_light; omega
              case rel => go_light; exact ⟨t + 1, by go_num, by omega, HZ9⟩
            · have htL : t = pb := by omega
              have hge2 : ¬ (t : Int) < (pb : Int) := by omega
              have HtL : Hid (t = pb) := htL
              clear htL
              have HZ9 : Hid (AlI w wr (r : Int) (k : Int) (.func (.func fm) bs #[]) (pa : Int) (pb : Int) (.slice (some ⟨g0, o0, none⟩) n c0) n gt gb gp gn i (fun i : Nat => Value.int .i64 (borV k pb ((i : Int) - (r : Int)))) FM (todoc pa (alV k pb r (fun l i => (i * pa + l)) S mixV) (l + 1) 0)) := by
                have st := todoc_line (pa := pa) (V := (alV k pb r (fun l i => (i * pa + l)) S mixV)) (l := l) (n := n) HN.out.2.1 HN.out.1
                have h := HY.out
                rw [HtL.out] at h
                exact h.congr st
              go_wp2_with fail
              go_roundg (pa - (l + 1))
              case measure => go_light; omega
              case rel => go_light; exact ⟨l + 1, FM, by go_num, by omega, HZ9⟩
    · have hlN : l = pa := by omega
      have hge3 : ¬ (l : Int) < (pa : Int) := by omega
      have HlN : Hid (l = pa) := hlN
      clear hlN
      have d0 := HX.out.t0
      have d1 := HX.out.t1
      have d2 := HX.out.t2
      have g0' := HX.out.r0
      have g1' := HX.out.r1
      have g2' := HX.out.r2
      have z0 := HX.out.rf 0
      have z1 := HX.out.rf 1
      have z2 := HX.out.rf 2
      have HV : Hid (VR (((wr.setCell ⟨w.heap.size + 2, 0, none⟩ (.int .i64 (pa : Int))).setCell ⟨w.heap.size + 2, 1, none⟩ (.int .i64 (pb : Int))).setCell ⟨w.heap.size + 2, 2, none⟩ (.slice (some ⟨gt, 0, none⟩) n n)) gt n (fun j => .int .u32 (((alV k pb r (fun l i => (i * pa + l)) S mixV) (j % pa) (j / pa) : Nat) : Int)) ∧ w.heap.size ≤ gt ∧ gt < (((wr.setCell ⟨w.heap.size + 2, 0, none⟩ (.int .i64 (pa : Int))).setCell ⟨w.heap.size + 2, 1, none⟩ (.int .i64 (pb : Int))).setCell ⟨w.heap.size + 2, 2, none⟩ (.slice (some ⟨gt, 0, none⟩) n n)).heap.size ∧ Q w (((wr.setCell ⟨w.heap.size + 2, 0, none⟩ (.int .i64 (pa : Int))).setCell ⟨w.heap.size + 2, 1, none⟩ (.int .i64 (pb : Int))).setCell ⟨w.heap.size + 2, 2, none⟩ (.slice (some ⟨gt, 0, none⟩) n n))) := by
        have l1 := HX.out.lt.1
        have hv : VR (((wr.setCell ⟨w.heap.size + 2, 0, none⟩ (.int .i64 (pa : Int))).setCell ⟨w.heap.size + 2, 1, none⟩ (.int .i64 (pb : Int))).setCell ⟨w.heap.size + 2, 2, none⟩ (.slice (some ⟨gt, 0, none⟩) n n)) gt n (fun j => .int .u32 (((alV k pb r (fun l i => (i * pa + l)) S mixV) (j % pa) (j / pa) : Nat) : Int)) := by
          refine (((HX.out.tv.other (p := ⟨w.heap.size + 2, 0, none⟩) (by show w.heap.size + 2 ≠ gt; omega) _).other (p := ⟨w.heap.size + 2, 1, none⟩) (by show w.heap.size + 2 ≠ gt; omega) _).other (p := ⟨w.heap.size + 2, 2, none⟩) (by show w.heap.size + 2 ≠ gt; omega) _).congr (fun j hj => ?_)
          unfold todoc
          rw [if_pos (Or.inl ?_)]
          rw [HlN.out]
          exact Nat.mod_lt j HN.out.2.1
        exact ⟨hv, by omega, hv.lt hn1, ((HX.out.q.set (by show w.heap.size ≤ w.heap.size + 2; omega) _).set (by show w.heap.size ≤ w.heap.size + 2; omega) _).set (by show w.heap.size ≤ w.heap.size + 2; omega) _⟩
      have y0 : (((wr.setCell ⟨w.heap.size + 2, 0, none⟩ (.int .i64 (pa : Int))).setCell ⟨w.heap.size + 2, 1, none⟩ (.int .i64 (pb : Int))).setCell ⟨w.heap.size + 2, 2, none⟩ (.slice (some ⟨gt, 0, none⟩) n n)).cell? ⟨w.heap.size + 2, 0, none⟩ = some (.int .i64 (pa : Int)) := (World.cell?_setCell_other _ _ _ _ (fun e => by injection e with _ e; cases e)).trans ((World.cell?_setCell_other _ _ _ _ (fun e => by injection e with _ e; cases e)).trans (World.cell?_setCell_same _ _ _ g0'))
      have y1 : (((wr.setCell ⟨w.heap.size + 2, 0, none⟩ (.int .i64 (pa : Int))).setCell ⟨w.heap.size + 2, 1, none⟩ (.int .i64 (pb : Int))).setCell ⟨w.heap.size + 2, 2, none⟩ (.slice (some ⟨gt, 0, none⟩) n n)).cell? ⟨w.heap.size + 2, 1, none⟩ = some (.int .i64 (pb : Int)) := (World.cell?_setCell_other _ _ _ _ (fun e => by injection e with _ e; cases e)).trans (World.cell?_setCell_same _ _ _ ((World.cell?_setCell_other _ _ _ _ (fun e => by injection e with _ e; cases e)).trans g1'))
      have y2 : (((wr.setCell ⟨w.heap.size + 2, 0, none⟩ (.int .i64 (pa : Int))).setCell ⟨w.heap.size + 2, 1, none⟩ (.int .i64 (pb : Int))).setCell ⟨w.heap.size + 2, 2, none⟩ (.slice (some ⟨gt, 0, none⟩) n n)).cell? ⟨w.heap.size + 2, 2, none⟩ = some (.slice (some ⟨gt, 0, none⟩) n n) := World.cell?_setCell_same _ _ _ ((World.cell?_setCell_other _ _ _ _ (fun e => by injection e with _ e; cases e)).trans ((World.cell?_setCell_other _ _ _ _ (fun e => by injection e with _ e; cases e)).trans g2'))
      go_wp2_with fail
      generalize ((wr.setCell ⟨w.heap.size + 2, 0, none⟩ (.int .i64 (pa : Int))).setCell ⟨w.heap.size + 2, 1, none⟩ (.int .i64 (pb : Int))).setCell ⟨w.heap.size + 2, 2, none⟩ (.slice (some ⟨gt, 0, none⟩) n n) = w9 at HV y0 y1 y2 ⊢
      exact bodyPost_ret (v := .agg #[.int .i64 (pa : Int), .int .i64 (pb : Int), .slice (some ⟨gt, 0, none⟩) n n]) (by simp [results, Try.results41, go_sem, y0, y1, y2]) rfl ⟨_, rfl, ⟨gt, rfl, HV.out.1, HV.out.2.1, HV.out.2.2.1⟩, HV.out.2.2.2⟩
end Go.Proofs.Ytedaacddnahjkaa

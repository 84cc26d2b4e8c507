/- Mixing: One and Step. -/
import Derived.Test.YtkgojnjlfkijiaaGreatG6488b472
import Derived.Test.YtkgojnjlfkijiaaGreatG5727610f
import Derived.Test.YtkgojnjlfkijiaaGreatGa76e5349
import Derived.Test.YtkgojnjlfkijiaaGreatGa5cf00b6
import Derived.Test.YtkgojnjlfkijiaaGreatG42d4e526
import Derived.Test.YtkgojnjlfkijiaaGreatGa5861977
namespace Go.Proofs.YtkgojnjlfkijiaaGreat
open Go.RowKit
set_option linter.unusedVariables false
set_option linter.unusedSimpArgs false

theorem ret_u {a b : Nat} (h : a = b) : Ending.returned (.int .u32 (a : Nat)) = .returned (.int .u32 (b : Nat)) := by rw [h]
theorem calls_u {P : Program} {f : FuncId} {args : Array Value} {w : World} {v : Value} {R : World → Prop} (h : Calls P f args w fun e w' => e = .returned v ∧ R w') : Calls P f args w fun e w' => ∃ u, e = .returned u ∧ (u = v ∧ R w') :=
  h.mono fun e w' ⟨h1, h2⟩ => ⟨v, h1, rfl, h2⟩
set_option maxHeartbeats 2000000 in
set_option maxRecDepth 100000 in
theorem wayone_any (k : Nat) (h1 : 1 ≤ k) (h6 : k ≤ 6) (s sa d da : Nat) (hs : s < 4294967296) (ha : sa < 4294967296) (hd : d < 4294967296) (hb : da < 4294967296) (w : World) :
    Calls Tryz.prog 28 #[wayV k, .int .u32 (s : Int), .int .u32 (sa : Int), .int .u32 (d : Int), .int .u32 (da : Int)] w fun e w' => e = .returned (.int .u32 (mxV k s sa d da : Nat)) ∧ Q w w' := by
  have HW : Hid (WayF k (wayFn k)) := wayF_all k h1 h6
  have HE : Hid (∀ (args : Array Value) (x : World), (callFunc (wayFn k) args).run Tryz.prog x = .ok (.enter (wayFn k) args) x) := wayFn_en k
  have HS : Hid (s < 4294967296 ∧ sa < 4294967296 ∧ d < 4294967296 ∧ da < 4294967296) := ⟨hs, ha, hd, hb⟩
  have l1 := enters_of Tryz.func34 (by kernel_rfl) rfl
  have l2 := enters_of Tryz.func35 (by kernel_rfl) rfl
  obtain ⟨wf, hwf⟩ : ∃ wf, wayFn k = wf := ⟨_, rfl⟩
  unfold wayV
  rw [hwf] at HW HE ⊢
  clear h1 h6 hs ha hd hb hwf
  obtain ⟨w1, hw1⟩ : ∃ w1, w.alloc (.cells #[.int .i64 (k : Int), .func (.func wf) #[] #[]] 57) = w1 := ⟨_, rfl⟩
  have H1 : Hid (Q w w1) := by show Q w w1; rw [← hw1]; exact (Q.refl w).cells _ _
  have k1 : w1.cell? ⟨w.heap.size, 1, none⟩ = some (.func (.func wf) #[] #[]) := by rw [← hw1]; simp [go_sem]
  have n0 := qw_some w1
  have f1 := qw_cell k1
  go_enter Tryz.func28, Tryz.ntmps28
  go_wp2_with fail
  clear hw1 k1
  refine wp_region_mk [0, 1, 2, 4, 6, 8] [[3, 5, 7, 9, 10, 11, 12]] 7 _ (by kernel_rfl) (by kernel_rfl) rfl (by kernel_rfl) ?_
  simp only [List.filterMap_cons, List.filterMap_nil, List.getElem?_cons_zero, List.getElem?_cons_succ]
  repeat (first | go_big_quiet_step (fail) | quiet_step (fail))
  refine wpQuiet_nil ?_
  intro x0 q0
  clear f1 n0
  refine tree_call 3 rfl rfl (run_fn 34 #[.tmp 13] _ rfl l1 (vs := #[.int .u32 (s : Int)]) (by simp [Act.eval, Act.put])) (calls_u (mnum_any s HS.out.1 x0)) ?_
  rintro u x1 ⟨rfl, q1⟩
  replace q1 := q0.trans q1
  refine ⟨q1, ?_⟩
  refine tree_call 5 rfl rfl (run_fn 34 #[.tmp 15] _ rfl l1 (vs := #[.int .u32 (sa : Int)]) (by simp [Act.eval, Act.put])) (calls_u (mnum_any sa HS.out.2.1 x1)) ?_
  rintro u x2 ⟨rfl, q2⟩
  replace q2 := q1.trans q2
  refine ⟨q2, ?_⟩
  refine tree_call 7 rfl rfl (run_fn 34 #[.tmp 17] _ rfl l1 (vs := #[.int .u32 (d : Int)]) (by simp [Act.eval, Act.put])) (calls_u (mnum_any d HS.out.2.2.1 x2)) ?_
  rintro u x3 ⟨rfl, q3⟩
  replace q3 := q2.trans q3
  refine ⟨q3, ?_⟩
  refine tree_call 9 rfl rfl (run_fn 34 #[.tmp 19] _ rfl l1 (vs := #[.int .u32 (da : Int)]) (by simp [Act.eval, Act.put])) (calls_u (mnum_any da HS.out.2.2.2 x3)) ?_
  rintro u x4 ⟨rfl, q4⟩
  replace q4 := q3.trans q4
  refine ⟨q4, ?_⟩
  refine tree_call 10 rfl rfl (run_val 12 wf #[] #[.tmp 14, .tmp 16, .tmp 18, .tmp 20] _ rfl (by simp [Act.eval, Act.put]) HE.out (vs := #[.float .f64 (wideW s), .float .f64 (wideW sa), .float .f64 (wideW d), .float .f64 (wideW da)]) (by simp [Act.eval, Act.put])) (G := fun u x' => ∃ r, u = .float .f64 r ∧ canW r = mxT k (wideW s) (wideW sa) (wideW d) (wideW da) ∧ Q x4 x') ((HW.out _ _ _ _ _ _ _ _ x4 (can_wide s) (can_wide sa) (can_wide d) (can_wide da)).mono fun e w' ⟨r, e1, e2, e3⟩ => ⟨_, e1, r, rfl, e2, e3⟩) ?_
  rintro u x5 ⟨r, rfl, hr, q5⟩
  replace q5 := q4.trans q5
  refine ⟨q5, ?_⟩
  refine tree_call 11 rfl rfl (run_fn 35 #[.tmp 21] _ rfl l2 (vs := #[.float .f64 r]) (by simp [Act.eval, Act.put])) (calls_u (msam_any r x5)) ?_
  rintro u x6 ⟨rfl, q6⟩
  replace q6 := q5.trans q6
  refine ⟨q6, ?_⟩
  refine tree_runF 12 rfl rfl rfl (v := .int .u32 (narW r : Nat)) (x' := x6) (by simp [execOp, go_sem]) ?_
  refine tree_nil ?_
  have HR : Hid (narW r = mxV k s sa d da) := by
    show narW r = narW _
    rw [← hr, narW_can]
  have HQ : Hid (Q w x6) := H1.out.trans q6
  clear hr q0 q1 q2 q3 q4 q5 q6
  go_wp2_with fail
  go_ret
  exact ⟨ret_u HR.out, HQ.out⟩
/-- What One answers. -/
def oneR (K : Int) (s sa d da : Nat) : Value := if 1 ≤ K ∧ K ≤ 6 then .tuple #[.int .u32 (mxV K.toNat s sa d da : Nat), .int .i64 0] else .tuple #[.int .u32 0, .int .i64 150]
set_option maxHeartbeats 2000000 in
set_option maxRecDepth 100000 in
theorem mone_any (K : Int) (s sa d da : Nat) (hs : s < 4294967296) (ha : sa < 4294967296) (hd : d < 4294967296) (hb : da < 4294967296) (w : World) :
    Calls Tryz.prog 7 #[.int .i64 K, .int .u32 (s : Int), .int .u32 (sa : Int), .int .u32 (d : Int), .int .u32 (da : Int)] w fun e w' => e = .returned (oneR K s sa d da) ∧ Q w w' := by
  have HS : Hid (s < 4294967296 ∧ sa < 4294967296 ∧ d < 4294967296 ∧ da < 4294967296) := ⟨hs, ha, hd, hb⟩
  clear hs ha hd hb
  by_cases hk : 1 ≤ K ∧ K ≤ 6
  · have e1 : wayR K = .tuple #[.agg #[.int .i64 (K.toNat : Int), .func (.func (wayFn K.toNat)) #[] #[]], .int .i64 0] := by unfold wayR; rw [if_pos hk]; rfl
    have e2 : oneR K s sa d da = .tuple #[.int .u32 (mxV K.toNat s sa d da : Nat), .int .i64 0] := by unfold oneR; rw [if_pos hk]
    have C1 := wayof_any K
    rw [e1] at C1
    rw [e2]
    have C2 : ∀ x : World, Calls Tryz.prog 28 #[.agg #[.int .i64 (K.toNat : Int), .func (.func (wayFn K.toNat)) #[] #[]], .int .u32 (s : Int), .int .u32 (sa : Int), .int .u32 (d : Int), .int .u32 (da : Int)] x fun e w' => e = .returned (.int .u32 (mxV K.toNat s sa d da : Nat)) ∧ Q x w' := fun x => wayone_any K.toNat (by omega) (by omega) s sa d da HS.out.1 HS.out.2.1 HS.out.2.2.1 HS.out.2.2.2 x
    have HC1 : Hid (∀ w : World, Calls Tryz.prog 27 #[.int .i64 K] w fun e w' => e = .returned (.tuple #[.agg #[.int .i64 (K.toNat : Int), .func (.func (wayFn K.toNat)) #[] #[]], .int .i64 0]) ∧ Q w w') := C1
    have HC2 : Hid (∀ x : World, Calls Tryz.prog 28 #[.agg #[.int .i64 (K.toNat : Int), .func (.func (wayFn K.toNat)) #[] #[]], .int .u32 (s : Int), .int .u32 (sa : Int), .int .u32 (d : Int), .int .u32 (da : Int)] x fun e w' => e = .returned (.int .u32 (mxV K.toNat s sa d da : Nat)) ∧ Q x w') := C2
    clear C1 C2 e1 e2 hk
    generalize wayFn K.toNat = wf at *
    generalize mxV K.toNat s sa d da = V at *
    generalize (K.toNat : Int) = k at *
    go_enter Tryz.func7, Tryz.ntmps7
    go_wp2_with fail
    refine (HC1.out _).mono ?_
    rintro e w1 ⟨rfl, q1⟩
    go_wp2_with fail
    refine (HC2.out _).mono ?_
    rintro e w2 ⟨rfl, q2⟩
    go_wp2_with fail
    go_ret2
    exact ⟨rfl, (q1.cells _ _).trans q2⟩
  · have e1 : wayR K = .tuple #[.agg #[.int .i64 0, .nilFunc], .int .i64 150] := by unfold wayR; rw [if_neg hk]; rfl
    have e2 : oneR K s sa d da = .tuple #[.int .u32 0, .int .i64 150] := by unfold oneR; rw [if_neg hk]
    have C1 := wayof_any K
    rw [e1] at C1
    rw [e2]
    have HC1 : Hid (∀ w : World, Calls Tryz.prog 27 #[.int .i64 K] w fun e w' => e = .returned (.tuple #[.agg #[.int .i64 0, .nilFunc], .int .i64 150]) ∧ Q w w') := C1
    clear C1 e1 e2 hk
    go_enter Tryz.func7, Tryz.ntmps7
    go_wp2_with fail
    refine (HC1.out _).mono ?_
    rintro e w1 ⟨rfl, q1⟩
    go_wp2_with fail
    go_ret2
    exact ⟨rfl, q1.cells _ _⟩
set_option maxHeartbeats 2000000 in
set_option maxRecDepth 100000 in
theorem mstep_any (a b t : Nat) (ha : a < 4294967296) (hb : b < 4294967296) (ht : t < 4294967296) (w : World) :
    Calls Tryz.prog 9 #[.int .u32 (a : Int), .int .u32 (b : Int), .int .u32 (t : Int)] w fun e w' => e = .returned (.int .u32 (mstV a b t : Nat)) ∧ Q w w' := by
  have HS : Hid (a < 4294967296 ∧ b < 4294967296 ∧ t < 4294967296) := ⟨ha, hb, ht⟩
  clear ha hb ht
  go_enter Tryz.func9, Tryz.ntmps9
  go_wp2_with fail
  refine (mnum_any t HS.out.2.2 _).mono ?_
  rintro e w1 ⟨rfl, q1⟩
  go_wp2_with fail
  refine (mnum_any a HS.out.1 _).mono ?_
  rintro e w2 ⟨rfl, q2⟩
  go_wp2_with fail
  refine (mres_any _ _ (can_wide t) _).mono ?_
  rintro e w3 ⟨r3, rfl, h3, q3⟩
  have H3 : Hid (canW r3 = _) := h3
  clear h3
  go_wp2_with fail
  refine (mpro_any _ _ _ _ (can_wide a) H3.out _).mono ?_
  rintro e w4 ⟨r4, rfl, h4, q4⟩
  have H4 : Hid (canW r4 = _) := h4
  clear h4
  go_wp2_with fail
  refine (mnum_any b HS.out.2.1 _).mono ?_
  rintro e w5 ⟨rfl, q5⟩
  go_wp2_with fail
  refine (mpro_any _ _ _ _ (can_wide b) (can_wide t) _).mono ?_
  rintro e w6 ⟨r6, rfl, h6, q6⟩
  have H6 : Hid (canW r6 = _) := h6
  clear h6
  go_wp2_with fail
  refine (msum_any _ _ _ _ H4.out H6.out _).mono ?_
  rintro e w7 ⟨r7, rfl, h7, q7⟩
  have H7 : Hid (canW r7 = _) := h7
  clear h7
  go_wp2_with fail
  refine (msam_any r7 _).mono ?_
  rintro e w8 ⟨rfl, q8⟩
  have HR : Hid (narW r7 = mstV a b t) := by
    show narW r7 = narW _
    rw [← narW_can r7, H7.out]
    rfl
  go_wp2_with fail
  go_ret
  exact ⟨ret_u HR.out, (((((((q1.trans q2).trans q3).trans q4).trans q5).trans q6).trans q7).trans q8)⟩
end Go.Proofs.YtkgojnjlfkijiaaGreat
/- Pictures: planes in a row, in memory. -/
namespace Go.Proofs.YtkgojnjlfkijiaaGreat
open Go.RowKit
set_option linter.unusedVariables false
set_option linter.unusedSimpArgs false

theorem planeInfo : ∃ i, Tryz.prog.info? 52 = some i ∧ i.size = 3 ∧ i.bytes = 40 ∧ i.zero = some (.agg #[.int .i64 0, .int .i64 0, .slice none 0 0]) :=
  info_of (by kernel_rfl) (by kernel_rfl)
/-- Where a plane's samples lie, and which they are. -/
structure PL where
  g : Nat
  o : Nat
  cap : Nat
  S : List Nat
def PL.v (x : PL) : Value := .slice (some ⟨x.g, x.o, none⟩) x.S.length x.cap
/-- A plane as a value; a picture. -/
def plV (a b : Nat) (x : PL) : Value := .agg #[.int .i64 (a : Int), .int .i64 (b : Int), x.v]
def plL (a b : Nat) (x : PL) : List Value := [.int .i64 (a : Int), .int .i64 (b : Int), x.v]
def newsP (a b : Nat) (L : List PL) : List Value := L.flatMap (plL a b)
theorem newsP_cons (a b : Nat) (x : PL) (L : List PL) : newsP a b (x :: L) = plL a b x ++ newsP a b L := List.flatMap_cons ..
theorem newsP_append (a b : Nat) (L M : List PL) : newsP a b (L ++ M) = newsP a b L ++ newsP a b M := List.flatMap_append ..
theorem newsP_one (a b : Nat) (x : PL) : newsP a b [x] = plL a b x := by rw [newsP_cons]; simp [newsP]
theorem newsP_len (a b : Nat) : ∀ L : List PL, (newsP a b L).length = L.length * 3
  | [] => rfl
  | e :: t => by rw [newsP_cons, List.length_append, newsP_len a b t, List.length_cons]; show 3 + _ = _; omega
theorem newsP_cell1 (a b : Nat) (L : List PL) : ∀ u ∈ newsP a b L, u.oneCell' = true := fun u hu => by
  obtain ⟨e, _, h⟩ := List.mem_flatMap.1 hu
  simp only [plL, List.mem_cons, List.not_mem_nil, or_false] at h
  rcases h with rfl | rfl | rfl <;> rfl
theorem newsP_at (a b : Nat) : ∀ (L : List PL) (i r : Nat) (e : PL), L[i]? = some e → r < 3 → (newsP a b L)[i * 3 + r]? = (plL a b e)[r]?
  | [], i, r, e, h, _ => by simp at h
  | x :: t, 0, r, e, h, hr => by
    cases h
    rw [newsP_cons, List.getElem?_append_left (by show _ < 3; omega)]
    congr 1; omega
  | x :: t, i + 1, r, e, h, hr => by
    rw [newsP_cons, List.getElem?_append_right (by show 3 ≤ _; omega)]
    rw [← newsP_at a b t i r e (by simpa using h) hr]
    congr 1; show _ - 3 = _; omega
/-- Planes of one size in a row. -/
def PIs (w : World) (g o a b : Nat) (L : List PL) : Prop := ∀ i x, L[i]? = some x → w.cell? ⟨g, o + i * 3, none⟩ = some (.int .i64 (a : Int)) ∧ w.cell? ⟨g, o + i * 3 + 1, none⟩ = some (.int .i64 (b : Int)) ∧ w.cell? ⟨g, o + i * 3 + 2, none⟩ = some x.v
theorem PIs.next {w w' : World} {g o a b : Nat} {L : List PL} (h : PIs w g o a b L) (q : Q w w') : PIs w' g o a b L := fun i x hx => by
  obtain ⟨h1, h2, h3⟩ := h i x hx
  exact ⟨q.cell h1, q.cell h2, q.cell h3⟩
theorem Fr.pis {w w' : World} {R : Nat → Prop} (f : Fr w w' R) {g o a b : Nat} {L : List PL} (h : PIs w g o a b L) (hr : R g) : PIs w' g o a b L := fun i x hx => by
  obtain ⟨h1, h2, h3⟩ := h i x hx
  exact ⟨f.cell h1 hr, f.cell h2 hr, f.cell h3 hr⟩
/-- A plane's samples are there. -/
structure Gd (w : World) (n : Nat) (x : PL) : Prop where
  len : x.S.length = n
  room : x.S.length ≤ x.cap
  us : UIs w x.g x.o x.S
  lt : ∀ i, x.S.getD i 0 < 4294967296
theorem Gd.next {w w' : World} {n : Nat} {x : PL} (h : Gd w n x) (q : Q w w') : Gd w' n x := ⟨h.len, h.room, h.us.next q, h.lt⟩
theorem Gd.usl {w : World} {n : Nat} {x : PL} (h : Gd w n x) : USl w x.v x.S := h.us.usl h.room
/-- The planes of a picture that may be. -/
structure Pc (w : World) (g o a b : Nat) (L : List PL) : Prop where
  size : Size a b
  n1 : 1 ≤ L.length
  n4 : L.length ≤ 4
  row : PIs w g o a b L
  it : ∀ x ∈ L, Gd w (a * b) x
theorem Pc.next {w w' : World} {g o a b : Nat} {L : List PL} (h : Pc w g o a b L) (q : Q w w') : Pc w' g o a b L := ⟨h.size, h.n1, h.n4, h.row.next q, fun x hx => (h.it x hx).next q⟩
/-- A plane of the call's own. -/
structure Mine (base : Nat) (w : World) (n : Nat) (x : PL) : Prop where
  o : x.o = 0
  low : base ≤ x.g
  high : x.g < w.heap.size
  gd : Gd w n x
  free : ∀ j, w.frozen? ⟨x.g, j, none⟩ = false
  all : ∀ j, j < x.cap → ∃ u, w.cell? ⟨x.g, j, none⟩ = some u
  cm : x.cap ≤ maxLen
theorem Mine.keep {base : Nat} {w w' : World} {n : Nat} {x : PL} {R : Nat → Prop} (h : Mine base w n x) (f : Fr w w' R) (hr : R x.g) : Mine base w' n x :=
  ⟨h.o, h.low, Nat.lt_of_lt_of_le h.high f.size, ⟨h.gd.len, h.gd.room, f.uis h.gd.us hr, h.gd.lt⟩, fun j => (f.frz _).trans (h.free j), fun j hj => by obtain ⟨u, hu⟩ := h.all j hj; exact ⟨u, f.cell hu hr⟩, h.cm⟩
theorem Mine.next {base : Nat} {w w' : World} {n : Nat} {x : PL} (h : Mine base w n x) (q : Q w w') : Mine base w' n x := h.keep (q.fr fun _ => True) trivial
theorem Mine.mono {base base' : Nat} {w : World} {n : Nat} {x : PL} (h : Mine base w n x) (hb : base' ≤ base) : Mine base' w n x := ⟨h.o, Nat.le_trans hb h.low, h.high, h.gd, h.free, h.all, h.cm⟩
/-- Planes of the call's own in a row of the call's own. -/
structure Row (base : Nat) (w : World) (v : Value) (a b : Nat) (L : List PL) : Prop where
  own : w.ownsRow base 52 3 v L.length (newsP a b L)
  it : ∀ x ∈ L, Mine base w (a * b) x ∧ v.ownBlock ≠ some x.g
  ap : L.Pairwise (fun x y => x.g ≠ y.g)
theorem Row.nil (base : Nat) (w : World) (a b : Nat) : Row base w (.slice none 0 0) a b [] := ⟨World.ownsRow_nil _ _ _ _, fun x h => (by cases h), List.Pairwise.nil⟩
theorem Row.keep {base : Nat} {w w' : World} {v : Value} {a b : Nat} {L : List PL} {R : Nat → Prop} (h : Row base w v a b L) (f : Fr w w' R) (h1 : ∀ x, v.ownBlock = some x → R x) (h2 : ∀ x ∈ L, R x.g) : Row base w' v a b L :=
  ⟨f.row h.own h1, fun x hx => ⟨(h.it x hx).1.keep f (h2 x hx), (h.it x hx).2⟩, h.ap⟩
theorem Row.next {base : Nat} {w w' : World} {v : Value} {a b : Nat} {L : List PL} (h : Row base w v a b L) (q : Q w w') : Row base w' v a b L := h.keep (q.fr fun _ => True) (fun _ _ => trivial) (fun _ _ => trivial)
theorem Row.form {base : Nat} {w : World} {v : Value} {a b : Nat} {L : List PL} (h : Row base w v a b L) : ∃ ad c, v = .slice ad L.length c := by
  rcases h.own.2 with ⟨rfl, h2⟩ | ⟨g, cap, cur, h1, _⟩
  · exact ⟨none, 0, by rw [h2]⟩
  · exact ⟨_, cap, h1⟩
theorem Row.push {base : Nat} {w w' : World} {v : Value} {a b : Nat} {L : List PL} (h : Row base w v a b L) {g cap : Nat} {x : PL}
    (own : w'.ownsRow base 52 3 (.slice (some ⟨g, 0, none⟩) (L.length + 1) cap) (L.length + 1) (newsP a b L ++ plL a b x)) (gr : w.grownBy w' v.ownBlock) (hg : v.ownBlock = some g ∨ g = w.heap.size) (fz : ∀ p, w'.frozen? p = w.frozen? p)
    (hx : Mine base w (a * b) x) (hn : v.ownBlock ≠ some x.g) (hd : ∀ y ∈ L, y.g ≠ x.g) : Row base w' (.slice (some ⟨g, 0, none⟩) (L.length + 1) cap) a b (L ++ [x]) := by
  have F : Fr w w' (fun b => v.ownBlock ≠ some b) := ⟨gr.os, gr.tape, gr.output, gr.size, fun y hy hR => gr.block y hy (fun e => hR e.symm), fz⟩
  have key : ∀ y, y.g < w.heap.size → v.ownBlock ≠ some y.g → g ≠ PL.g y := fun y h1 h2 e => by
    rcases hg with o | o
    · exact h2 (by rw [o, e])
    · omega
  refine ⟨by rw [newsP_append, newsP_one, List.length_append]; exact own, fun y hy => ?_, ?_⟩
  · rw [List.mem_append, List.mem_singleton] at hy
    rcases hy with hy | rfl
    · obtain ⟨p1, p2⟩ := h.it y hy
      exact ⟨p1.keep F p2, fun e => key y p1.high p2 (by injection e)⟩
    · exact ⟨hx.keep F hn, fun e => key y hx.high hn (by injection e)⟩
  · rw [List.pairwise_append]
    refine ⟨h.ap, List.pairwise_singleton _ _, fun y hy z hz => ?_⟩
    rw [List.mem_singleton] at hz
    subst hz
    exact hd y hy
theorem Row.pis {base : Nat} {w : World} {g n cap a b : Nat} {L : List PL} (h : Row base w (.slice (some ⟨g, 0, none⟩) n cap) a b L) : n = L.length ∧ n ≤ cap ∧ base ≤ g ∧ PIs w g 0 a b L ∧ ∀ j, w.frozen? ⟨g, j, none⟩ = false := by
  obtain ⟨h1, ⟨h2, _⟩ | ⟨g', cap', cur, h2, hb, hg, hn, hm, hs, ht⟩⟩ := h.own
  · cases h2
  · cases h2
    refine ⟨rfl, hn, hb, fun i x hx => ?_, fun j => frozen_of_row _ _ _ _ _ hg⟩
    have hi : i < L.length := (List.getElem?_eq_some_iff.1 hx).1
    have key : ∀ r, r < 3 → w.cell? ⟨g, 0 + i * 3 + r, none⟩ = (plL a b x)[r]? := fun r hr => by
      rw [cell_of_row _ _ _ _ _ _ hg, ← newsP_at a b L i r x hx hr, ← ht, List.getElem?_take_of_lt (by omega), Nat.zero_add, Array.getElem?_toList]
    exact ⟨key 0 (by omega), key 1 (by omega), key 2 (by omega)⟩
/-- A picture that was made. -/
structure Nw (lo : Nat) (w : World) (g cap a b : Nat) (L : List PL) : Prop where
  pc : Pc w g 0 a b L
  low : lo ≤ g
  high : g < w.heap.size
  room : L.length ≤ cap
  free : ∀ j, w.frozen? ⟨g, j, none⟩ = false
  it : ∀ x ∈ L, Mine lo w (a * b) x ∧ x.g ≠ g
  ap : L.Pairwise (fun x y => x.g ≠ y.g)
theorem Nw.next {lo : Nat} {w w' : World} {g cap a b : Nat} {L : List PL} (h : Nw lo w g cap a b L) (q : Q w w') : Nw lo w' g cap a b L :=
  ⟨h.pc.next q, h.low, Nat.lt_of_lt_of_le h.high q.1.size, h.room, fun j => (q.2 _).trans (h.free j), fun x hx => ⟨(h.it x hx).1.next q, (h.it x hx).2⟩, h.ap⟩
theorem Nw.keep {lo : Nat} {w w' : World} {g cap a b : Nat} {L : List PL} {R : Nat → Prop} (h : Nw lo w g cap a b L) (f : Fr w w' R) (h1 : R g) (h2 : ∀ x ∈ L, R x.g) : Nw lo w' g cap a b L :=
  ⟨⟨h.pc.size, h.pc.n1, h.pc.n4, f.pis h.pc.row h1, fun x hx => ((h.it x hx).1.keep f (h2 x hx)).gd⟩, h.low, Nat.lt_of_lt_of_le h.high f.size, h.room, fun j => (f.frz _).trans (h.free j), fun x hx => ⟨(h.it x hx).1.keep f (h2 x hx), (h.it x hx).2⟩, h.ap⟩
theorem Nw.mono {lo lo' : Nat} {w : World} {g cap a b : Nat} {L : List PL} (h : Nw lo w g cap a b L) (hl : lo' ≤ lo) : Nw lo' w g cap a b L :=
  ⟨h.pc, Nat.le_trans hl h.low, h.high, h.room, h.free, fun x hx => ⟨(h.it x hx).1.mono hl, (h.it x hx).2⟩, h.ap⟩
theorem Row.nw {base : Nat} {w : World} {g n cap a b : Nat} {L : List PL} (h : Row base w (.slice (some ⟨g, 0, none⟩) n cap) a b L) (hs : Size a b) (h1 : 1 ≤ L.length) (h4 : L.length ≤ 4) : Nw base w g cap a b L := by
  obtain ⟨p1, p2, p3, p4, p5⟩ := h.pis
  obtain ⟨x, hx⟩ : ∃ x, L[0]? = some x := ⟨_, List.getElem?_eq_getElem (by omega)⟩
  refine ⟨⟨hs, h1, h4, p4, fun x hx => (h.it x hx).1.gd⟩, p3, cell_in (p4 0 x hx).1, by omega, p5, fun x hx => ⟨(h.it x hx).1, fun e => (h.it x hx).2 (by rw [e]; rfl)⟩, h.ap⟩
/-- A picture as a value. -/
def picV (sp : Int) (g o n cap : Nat) : Value := .agg #[.int .i64 sp, .slice (some ⟨g, o, none⟩) n cap]
end Go.Proofs.YtkgojnjlfkijiaaGreat
/- Appending to a list without room: what lies where, and that all the new room is there. -/
namespace Go.Proofs.YtkgojnjlfkijiaaGreat
open Go.RowKit

theorem run_app_room {P : Program} (w : World) (t ty e : TypeId) (i : TypeInfo) (z : Value) (ht : P.underlying t = some (.slice e)) (hi : P.info? e = some i) (hz : i.zero = some z) (hzs : z.cells.size = i.size)
    (v : Value) (hv : v = .slice none 0 0 ∨ ∃ b, v = .slice (some b) 0 0) (ad : Addr) (m c : Nat) (news : List Value) (hl : news.length = m * i.size) (hnews : ∀ j u, news[j]? = some u → w.cell? (ad.add j) = some u)
    (h0 : 0 < m) (h63 : m ≤ 1125899906842624) (hby : m * i.bytes ≤ 140737488355328) :
    ∃ cap w', (Builtin.append_ #[t, t] ty #[v, .slice (some ad) m c]).run P w = .ok (.slice (some ⟨w.heap.size, 0, none⟩) m cap) w' ∧ Q w w' ∧ m ≤ cap ∧ cap ≤ maxLen ∧ w'.heap.size = w.heap.size + 1 ∧
      (∀ j u, news[j]? = some u → w'.cell? ⟨w.heap.size, j, none⟩ = some u) ∧ (∀ j, j < cap * i.size → ∃ u, w'.cell? ⟨w.heap.size, j, none⟩ = some u) ∧ ∀ j, w'.frozen? ⟨w.heap.size, j, none⟩ = false := by
  have hmm : m ≤ maxLen := by unfold maxLen; omega
  have fin : ∀ (n : Nat) (cs : Array Value), (∀ (j : Nat) (u : Value), news[j]? = some u → cs[j]? = some u) → cs.size = n * i.size → Q w (w.drew.alloc (.cells cs e)) ∧ (w.drew.alloc (.cells cs e)).heap.size = w.heap.size + 1 ∧
      (∀ (j : Nat) (u : Value), news[j]? = some u → (w.drew.alloc (.cells cs e)).cell? ⟨w.heap.size, j, none⟩ = some u) ∧ (∀ j, j < n * i.size → ∃ u, (w.drew.alloc (.cells cs e)).cell? ⟨w.heap.size, j, none⟩ = some u) ∧ ∀ j, (w.drew.alloc (.cells cs e)).frozen? ⟨w.heap.size, j, none⟩ = false := by
    intro n cs hcs hs
    have hb : (w.drew.alloc (.cells cs e)).heap[w.heap.size]? = some (.cells cs e (0, 0)) := heap_alloc_new w.drew _
    refine ⟨(Q.refl w).drew.cells _ _, by simp, fun j u hu => ?_, fun j hj => ?_, fun j => frozen_of_row _ _ _ _ _ hb⟩
    · rw [cell_of_row _ _ j cs e (0, 0) hb]
      exact hcs j u hu
    · rw [cell_of_row _ _ j cs e (0, 0) hb]
      exact ⟨_, Array.getElem?_eq_getElem (by omega)⟩
  have key : ∀ (n : Nat) (j : Nat) (u : Value), news[j]? = some u → (news.toArray ++ Builtin.zeroCells z.cells n)[j]? = some u := by
    intro n j u hu
    have hj : j < news.length := (List.getElem?_eq_some_iff.1 hu).1
    rw [Array.getElem?_append_left (by simpa using hj)]
    simpa using hu
  have size : (news.toArray ++ Builtin.zeroCells z.cells (grownCap w m 0 e - m)).size = grownCap w m 0 e * i.size := by
    have := grownCap_ge w m 0 e
    rw [Array.size_append, size_zeroCells, hzs, List.size_toArray, hl, ← Nat.add_mul]
    congr 1; omega
  rcases hv with rfl | ⟨b, rfl⟩
  · have hr := run_append_nil (P := P) w t ty e i z ht hi hz ad m c news hl hnews h0 (by omega) (by omega)
    obtain ⟨q1, q2, q3, q4, q5⟩ := fin _ _ (key (grownCap w m 0 e - m)) size
    exact ⟨_, _, hr, q1, grownCap_ge w m 0 e, grownCap_le_maxLen w m 0 e hmm, q2, q3, q4, q5⟩
  · have hr := run_append_grow (P := P) w t ty e i z ht hi hz b 0 0 [] (by simp) (fun j v h => by simp at h) ad m c news hl hnews (by omega) (by omega) (growslice_fits (by omega) (by rw [Nat.zero_add]; exact hby))
    simp only [Nat.zero_add, Array.empty_append] at hr
    obtain ⟨q1, q2, q3, q4, q5⟩ := fin _ _ (key (grownCap w m 0 e - m)) size
    exact ⟨_, _, hr, q1, grownCap_ge w m 0 e, grownCap_le_maxLen w m 0 e hmm, q2, q3, q4, q5⟩
/-- In a list of operations. -/
theorem wpList_room {P : Program} (w : World) {ops : Array Oper} {rest : List Oper} {o : Oper} {a : Act} {R : Exit → Act → World → Prop} (hgd : o.guard = none) (s x : Operand) (t : TypeId)
    (ho : o.op = .call { callee := .builtin .append, args := #[s, x], argTypes := #[t, t] })
    (e : TypeId) (i : TypeInfo) (z : Value) (ht : P.underlying t = some (.slice e)) (hi : P.info? e = some i) (hz : i.zero = some z) (hzs : z.cells.size = i.size)
    (v : Value) (hv : v = .slice none 0 0 ∨ ∃ b, v = .slice (some b) 0 0) (hs : a.eval s = v) (ad : Addr) (m c : Nat) (news : List Value) (hx : a.eval x = .slice (some ad) m c) (hl : news.length = m * i.size) (hnews : ∀ j u, news[j]? = some u → w.cell? (ad.add j) = some u)
    (h0 : 0 < m) (h63 : m ≤ 1125899906842624) (hby : m * i.bytes ≤ 140737488355328)
    (h : ∀ cap w', Q w w' → m ≤ cap → cap ≤ maxLen → w'.heap.size = w.heap.size + 1 → (∀ j u, news[j]? = some u → w'.cell? ⟨w.heap.size, j, none⟩ = some u) → (∀ j, j < cap * i.size → ∃ u, w'.cell? ⟨w.heap.size, j, none⟩ = some u) → (∀ j, w'.frozen? ⟨w.heap.size, j, none⟩ = false) → wpList P ops R rest (a.put o.dst (.slice (some ⟨w.heap.size, 0, none⟩) m cap)) w') :
    wpList P ops R (o :: rest) a w := by
  obtain ⟨cap, w', hr, h1, h2, h3, h4, h5, h6, h7⟩ := run_app_room (P := P) w t o.type e i z ht hi hz hzs v hv ad m c news hl hnews h0 h63 hby
  refine wpList_plain hgd fun _ hK => ?_
  unfold Oper.wp execOp
  simp only [ho, resolve, invoke, builtin, Sem.run_bind, Sem.run_pure, Result.andThen_ok, List.map_toArray, List.map_cons, List.map_nil, hs, hx, hr]
  exact hK _ _ (h cap w' h1 h2 h3 h4 h5 h6 h7)
end Go.Proofs.YtkgojnjlfkijiaaGreat
/- Copies of samples and of planes. -/
namespace Go.Proofs.YtkgojnjlfkijiaaGreat
open Go.RowKit
set_option linter.unusedVariables false
set_option linter.unusedSimpArgs false

/-- A call at a step of a region that draws its order. -/
theorem step_call {P : Program} {w : World} {ops : Array Oper} {o : Oper} {a : Act} {K : Act → World → Prop} {R : Exit → Act → World → Prop} {E : Prop} (hgd : o.guard = none) (f : FuncId) (ars : Array Operand) (ts : Array TypeId)
    (ho : o.op = .call { callee := .value (.func f), args := ars, argTypes := ts }) (hen : ∀ (args : Array Value) (x : World), (callFunc f args).run P x = .ok (.enter f args) x) (vs : Array Value) (hv : ars.map a.eval = vs)
    {G : Value → World → Prop} (hc : Calls P f vs w fun e w' => ∃ u, e = .returned u ∧ G u w') (h : ∀ u w', G u w' → K (a.put o.dst u) w') :
    if Region.wanted o (yielded ops a.tmps) = true then Oper.wp P o a w K R else E := by
  have hw : Region.wanted o (yielded ops a.tmps) = true := by simp [Region.wanted, hgd]
  rw [if_pos hw]
  obtain ⟨dst, op, ty, ps, af, g⟩ := o
  have ho : op = _ := ho
  subst ho
  unfold Oper.wp
  show Oper.upon P _ a _ R ((callFunc f (#[] ++ (ars.map a.eval) ++ #[])).run P w)
  rw [hv, Array.append_empty, Array.empty_append, hen, Oper.upon_enter]
  refine hc.mono ?_
  rintro e x' ⟨u, rfl, hg⟩
  exact h u x' hg
theorem eql_nil (P : Program) (w : World) (t e : TypeId) (a : Addr) (n c : Nat) (h : P.underlying t = some (.slice e)) : (binOp .eql t (.slice (some a) n c) (.slice none 0 0)).run P w = .ok (.bool false) w := by
  simp only [binOp]
  simp [Op.equal, Op.maxDepth, Lib.run_equalIn_slice_nil w 9999 t e (some a) n c 0 0 h]
/-- The cells of samples. -/
def celU (S : List Nat) : List Value := S.map fun x => .int .u32 (x : Nat)
theorem celU_length (S : List Nat) : (celU S).length = S.length := by simp [celU]
theorem celU_get {S : List Nat} {j : Nat} (h : j < S.length) : (celU S)[j]? = some (.int .u32 (S.getD j 0 : Nat)) := by
  unfold celU
  rw [List.getElem?_map, List.getD_eq_getElem?_getD, List.getElem?_eq_getElem h]; rfl
theorem addrAdd (g o j : Nat) : (⟨g, o, none⟩ : Addr).add j = ⟨g, o + j, none⟩ := by unfold Addr.add; split <;> simp_all
theorem celU_cells {w : World} {g o : Nat} {S : List Nat} (h : UIs w g o S) : ∀ j u, (celU S)[j]? = some u → w.cell? ((⟨g, o, none⟩ : Addr).add j) = some u := by
  intro j u hj
  have hjl : j < S.length := by have := (List.getElem?_eq_some_iff.1 hj).1; rw [celU_length] at this; exact this
  rw [celU_get hjl] at hj
  injection hj with hj
  rw [← hj, addrAdd]
  exact h j hjl
set_option maxHeartbeats 1000000 in
set_option maxRecDepth 100000 in
theorem clone_us (w : World) (n : Nat) (x : PL) (h : Gd w n x) (h1 : 1 ≤ n) (h2 : n ≤ 65536) :
    Calls Tryz.prog 130 #[x.v] w fun e w' => ∃ y : PL, e = .returned y.v ∧ y.S = x.S ∧ Hid (Mine w.heap.size w' n y) ∧ Q w w' := by
  obtain ⟨g, o, cap, S⟩ := x
  have hl := h.len
  have hcap := h.room
  have hlt := h.lt
  have hus := h.us
  simp only at hl hcap hlt hus
  subst hl
  obtain ⟨i, i1, i2, i3, i4⟩ := u32Info
  have H1 : Hid (∀ j u, (celU S)[j]? = some u → w.cell? ((⟨g, o, none⟩ : Addr).add j) = some u) := celU_cells hus
  have H2 : Hid ((celU S).length = S.length * i.size) := by show _ = _; rw [i2, celU_length, Nat.mul_one]
  have H3 : Hid (S.length * i.bytes ≤ 140737488355328) := by show _ ≤ _; rw [i3]; omega
  have H4 : Hid (Tryz.prog.info? 22 = some i) := i1
  have H5 : Hid (i.zero = some (.int .u32 0)) := i4
  have H6 : Hid (i.size = 1) := i2
  have H7 : Hid ((Value.int .u32 0).cells.size = i.size) := by show _ = _; rw [i2]; rfl
  have HLT : Hid (∀ i, S.getD i 0 < 4294967296) := hlt
  clear h hus hlt i1 i2 i3 i4
  have l1 := fun w => eql_nil Tryz.prog w 50 22 ⟨g, o, none⟩ S.length cap Tryz.underlying50
  unfold PL.v
  go_enter Tryz.func130, Tryz.ntmps130
  go_wp2_with (at_builtin; go_must (refine wpList_room _ rfl (.tmp 5) (.tmp 6) 50 rfl 22 i _ Tryz.underlying50 H4.out H5.out H7.out _ (Or.inr ⟨_, rfl⟩) rfl _ S.length cap (celU S) rfl H2.out (fun j u h => Q.cell ((Q.refl w).cells _ _) (H1.out j u h)) (by omega) (by omega) H3.out ?_; intro cap' w' q1 q2 q3 q4 q5 q6 q7))
  have hz : (w.alloc (.cells #[] 22)).heap.size = w.heap.size + 1 := by simp
  rw [hz] at q4 q5 q6 q7
  rw [H6.out, Nat.mul_one] at q6
  go_ret
  refine ⟨⟨w.heap.size + 1, 0, cap', S⟩, rfl, rfl, ⟨rfl, Nat.le_succ _, by show w.heap.size + 1 < w'.heap.size; omega, ⟨rfl, q2, fun j hj => ?_, HLT.out⟩, q7, q6, q3⟩, ((Q.refl w).cells _ _).trans q1⟩
  rw [Nat.zero_add]
  exact q5 j _ (celU_get hj)
set_option maxHeartbeats 2000000 in
set_option maxRecDepth 100000 in
theorem copiedp_any (w : World) (a b : Nat) (x : PL) (h : Gd w (a * b) x) (hs : Size a b) :
    Calls Tryz.prog 113 #[plV a b x] w fun e w' => ∃ y : PL, e = .returned (plV a b y) ∧ y.S = x.S ∧ Hid (Mine w.heap.size w' (a * b) y) ∧ Q w w' := by
  have HG : Hid (Gd w (a * b) x) := h
  have p1 := hs.pos
  have p2 := hs.ab
  have l1 := enters_of Tryz.func130 (by kernel_rfl) rfl
  have HX : Hid (∀ w2, Q w w2 → Calls Tryz.prog 130 #[x.v] w2 fun e w' => ∃ u, e = .returned u ∧ ∃ y : PL, u = .slice (some ⟨y.g, y.o, none⟩) y.S.length y.cap ∧ y.S = x.S ∧ Hid (Mine w2.heap.size w' (a * b) y) ∧ Q w2 w') := fun w2 q2 => (clone_us w2 (a * b) x (h.next q2) p1 p2).mono fun e w' ⟨y, h1, h2, h3, h4⟩ => ⟨_, h1, y, rfl, h2, h3, h4⟩
  unfold plV
  have hvs : x.v.cells = #[x.v] := rfl
  generalize x.v = xv at hvs HX ⊢
  clear h HG
  go_enter Tryz.func113, Tryz.ntmps113
  go_wp2_with fail
  have HQ : Hid (Q w ((w.alloc (Obj.cells #[Value.int IntKind.i64 ↑a, Value.int IntKind.i64 ↑b, xv] 52)).alloc (Obj.cells #[Value.int IntKind.i64 0, Value.int IntKind.i64 0, Value.slice none 0 0] 52))) := ((Q.refl w).cells _ _).cells _ _
  have c0 : ((w.alloc (Obj.cells #[Value.int IntKind.i64 ↑a, Value.int IntKind.i64 ↑b, xv] 52)).alloc (Obj.cells #[Value.int IntKind.i64 0, Value.int IntKind.i64 0, Value.slice none 0 0] 52)).cell? ⟨w.heap.size, 0, none⟩ = some (.int .i64 (a : Int)) := by simp [go_sem]
  have c1 : ((w.alloc (Obj.cells #[Value.int IntKind.i64 ↑a, Value.int IntKind.i64 ↑b, xv] 52)).alloc (Obj.cells #[Value.int IntKind.i64 0, Value.int IntKind.i64 0, Value.slice none 0 0] 52)).cell? ⟨w.heap.size, 1, none⟩ = some (.int .i64 (b : Int)) := by simp [go_sem]
  have c2 : ((w.alloc (Obj.cells #[Value.int IntKind.i64 ↑a, Value.int IntKind.i64 ↑b, xv] 52)).alloc (Obj.cells #[Value.int IntKind.i64 0, Value.int IntKind.i64 0, Value.slice none 0 0] 52)).cell? ⟨w.heap.size, 2, none⟩ = some xv := by simp [go_sem]
  have d0 : ((w.alloc (Obj.cells #[Value.int IntKind.i64 ↑a, Value.int IntKind.i64 ↑b, xv] 52)).alloc (Obj.cells #[Value.int IntKind.i64 0, Value.int IntKind.i64 0, Value.slice none 0 0] 52)).cell? ⟨w.heap.size + 1, 0, none⟩ = some (.int .i64 0) := by simp [go_sem]
  have d1 : ((w.alloc (Obj.cells #[Value.int IntKind.i64 ↑a, Value.int IntKind.i64 ↑b, xv] 52)).alloc (Obj.cells #[Value.int IntKind.i64 0, Value.int IntKind.i64 0, Value.slice none 0 0] 52)).cell? ⟨w.heap.size + 1, 1, none⟩ = some (.int .i64 0) := by simp [go_sem]
  have d2 : ((w.alloc (Obj.cells #[Value.int IntKind.i64 ↑a, Value.int IntKind.i64 ↑b, xv] 52)).alloc (Obj.cells #[Value.int IntKind.i64 0, Value.int IntKind.i64 0, Value.slice none 0 0] 52)).cell? ⟨w.heap.size + 1, 2, none⟩ = some (.slice none 0 0) := by simp [go_sem]
  have fz : ∀ j, ((w.alloc (Obj.cells #[Value.int IntKind.i64 ↑a, Value.int IntKind.i64 ↑b, xv] 52)).alloc (Obj.cells #[Value.int IntKind.i64 0, Value.int IntKind.i64 0, Value.slice none 0 0] 52)).frozen? ⟨w.heap.size + 1, j, none⟩ = false := fun j => by simp [go_sem]
  generalize ((w.alloc (Obj.cells #[Value.int IntKind.i64 ↑a, Value.int IntKind.i64 ↑b, xv] 52)).alloc (Obj.cells #[Value.int IntKind.i64 0, Value.int IntKind.i64 0, Value.slice none 0 0] 52)) = wz at *
  have n0 := qw_some wz
  have f0 := qw_cell c0
  have f1 := qw_cell c1
  have f2 := qw_cell c2
  refine wp_region_mk [0, 1, 2, 3, 4, 5] [[6, 7, 8]] 3 _ (by kernel_rfl) (by kernel_rfl) rfl (by kernel_rfl) ?_
  simp only [List.filterMap_cons, List.filterMap_nil, List.getElem?_cons_zero, List.getElem?_cons_succ]
  repeat (first | go_big_quiet_step (fail) | quiet_step (fail))
  refine wpQuiet_nil ?_
  intro x hx
  refine tree_call 6 rfl rfl (run_fn 130 #[.tmp 8] _ rfl l1 (vs := #[xv]) (by simp [Act.eval])) (HX.out x (HQ.out.trans hx)) ?_
  rintro u w2 ⟨y, rfl, hy, hm, hq⟩
  have hq2 : Q wz w2 := hx.trans hq
  refine ⟨hq2, ?_⟩
  refine tree_run 7 rfl rfl (v := .agg #[.int .i64 (a : Int), .int .i64 (b : Int), .slice (some ⟨y.g, y.o, none⟩) y.S.length y.cap]) (x' := w2) (by simp [execOp, go_sem]) hq2 ?_
  have d02 := hq2.cell d0
  have d12 := hq2.cell d1
  have d22 := hq2.cell d2
  have fz2 : ∀ j, w2.frozen? ⟨w.heap.size + 1, j, none⟩ = false := fun j => (hq2.2 _).trans (fz j)
  refine tree_skipF 8 rfl rfl rfl (x' := (((w2.setCell ⟨w.heap.size + 1, 0, none⟩ (.int .i64 (a : Int))).setCell ⟨w.heap.size + 1, 1, none⟩ (.int .i64 (b : Int))).setCell ⟨w.heap.size + 1, 2, none⟩ (.slice (some ⟨y.g, y.o, none⟩) y.S.length y.cap))) (by simp [execOp, go_sem, d02, d12, d22, fz2]) ?_
  refine tree_nil ?_
  have kq : Hid (Mine w.heap.size (((w2.setCell ⟨w.heap.size + 1, 0, none⟩ (.int .i64 (a : Int))).setCell ⟨w.heap.size + 1, 1, none⟩ (.int .i64 (b : Int))).setCell ⟨w.heap.size + 1, 2, none⟩ (.slice (some ⟨y.g, y.o, none⟩) y.S.length y.cap)) (a * b) y) := by
    have hlo : w.heap.size + 1 < x.heap.size := Nat.lt_of_lt_of_le (cell_in d0) hx.1.size
    refine (hm.out.keep (((((Fr.refl w2 (fun b => b ≠ w.heap.size + 1)).set (fun h => h rfl) _).set (fun h => h rfl) _).set (fun h => h rfl) _)) ?_).mono ?_
    · have := hm.out.low; omega
    · have := hx.1.size; have := HQ.out.1.size; omega
  have qq : Hid (Q w (((w2.setCell ⟨w.heap.size + 1, 0, none⟩ (.int .i64 (a : Int))).setCell ⟨w.heap.size + 1, 1, none⟩ (.int .i64 (b : Int))).setCell ⟨w.heap.size + 1, 2, none⟩ (.slice (some ⟨y.g, y.o, none⟩) y.S.length y.cap))) := (((HQ.out.trans hq2).set (Nat.le_succ _) _).set (Nat.le_succ _) _).set (Nat.le_succ _) _
  have k0 : (((w2.setCell ⟨w.heap.size + 1, 0, none⟩ (.int .i64 (a : Int))).setCell ⟨w.heap.size + 1, 1, none⟩ (.int .i64 (b : Int))).setCell ⟨w.heap.size + 1, 2, none⟩ (.slice (some ⟨y.g, y.o, none⟩) y.S.length y.cap)).cell? ⟨w.heap.size + 1, 0, none⟩ = some (.int .i64 (a : Int)) := by simp [go_sem, d02, d12, d22]
  have k1 : (((w2.setCell ⟨w.heap.size + 1, 0, none⟩ (.int .i64 (a : Int))).setCell ⟨w.heap.size + 1, 1, none⟩ (.int .i64 (b : Int))).setCell ⟨w.heap.size + 1, 2, none⟩ (.slice (some ⟨y.g, y.o, none⟩) y.S.length y.cap)).cell? ⟨w.heap.size + 1, 1, none⟩ = some (.int .i64 (b : Int)) := by simp [go_sem, d02, d12, d22]
  have k2 : (((w2.setCell ⟨w.heap.size + 1, 0, none⟩ (.int .i64 (a : Int))).setCell ⟨w.heap.size + 1, 1, none⟩ (.int .i64 (b : Int))).setCell ⟨w.heap.size + 1, 2, none⟩ (.slice (some ⟨y.g, y.o, none⟩) y.S.length y.cap)).cell? ⟨w.heap.size + 1, 2, none⟩ = some (.slice (some ⟨y.g, y.o, none⟩) y.S.length y.cap) := by simp [go_sem, d02, d12, d22]
  generalize (((w2.setCell ⟨w.heap.size + 1, 0, none⟩ (.int .i64 (a : Int))).setCell ⟨w.heap.size + 1, 1, none⟩ (.int .i64 (b : Int))).setCell ⟨w.heap.size + 1, 2, none⟩ (.slice (some ⟨y.g, y.o, none⟩) y.S.length y.cap)) = w5 at *
  clear hm d02 d12 d22 fz2 hq hq2 hx c0 c1 c2 d0 d1 d2 fz
  go_wp2_with fail
  refine bodyPost_ret (v := .agg #[.int .i64 (a : Int), .int .i64 (b : Int), .slice (some ⟨y.g, y.o, none⟩) y.S.length y.cap]) (by simp [results, Tryz.results113, go_sem, k0, k1, k2]) rfl ⟨y, rfl, hy, kq, qq.out⟩
end Go.Proofs.YtkgojnjlfkijiaaGreat
/- A picture that is being built: a box with its space and its planes so far. -/
namespace Go.Proofs.YtkgojnjlfkijiaaGreat
open Go.RowKit
set_option linter.unusedVariables false
set_option linter.unusedSimpArgs false

theorem own_up {w : World} {base base' : Nat} {e : TypeId} {size n : Nat} {v : Value} {xs : List Value} (h : w.ownsRow base e size v n xs) (hg : ∀ g, v.ownBlock = some g → base' ≤ g) : w.ownsRow base' e size v n xs := by
  refine ⟨h.1, ?_⟩
  rcases h.2 with c | ⟨g, cap, cur, h1, h2, h3⟩
  · exact Or.inl c
  · exact Or.inr ⟨g, cap, cur, h1, hg g (by rw [h1]; rfl), h3⟩
structure Bld (base : Nat) (w : World) (tb : Nat) (sp : Int) (v : Value) (a b : Nat) (M : List PL) : Prop where
  c0 : w.cell? ⟨tb, 0, none⟩ = some (.int .i64 sp)
  c1 : w.cell? ⟨tb, 1, none⟩ = some v
  fz : ∀ j, w.frozen? ⟨tb, j, none⟩ = false
  row : Row base w v a b M
  tb : tb < base
theorem Bld.next {base : Nat} {w w' : World} {tb : Nat} {sp : Int} {v : Value} {a b : Nat} {M : List PL} (h : Bld base w tb sp v a b M) (q : Q w w') : Bld base w' tb sp v a b M :=
  ⟨q.cell h.c0, q.cell h.c1, fun j => (q.2 _).trans (h.fz j), h.row.next q, h.tb⟩
/-- One plane in a row of its own. -/
theorem one_pl {w : World} {t : TypeId} (a b : Nat) (y : PL) : ∀ j u, (plL a b y)[j]? = some u → (w.alloc (.cells #[.int .i64 (a : Int), .int .i64 (b : Int), y.v] t)).cell? ((⟨w.heap.size, 0, none⟩ : Addr).add j) = some u := by
  intro j u hu
  rw [addrAdd, Nat.zero_add, cell_of_row _ _ j #[.int .i64 (a : Int), .int .i64 (b : Int), y.v] t (0, 0) (heap_alloc_new w _)]
  simpa [plL] using hu
theorem plL_one (a b : Nat) (y : PL) : ∀ u ∈ plL a b y, u.oneCell' = true := fun u hu => by
  simp only [plL, List.mem_cons, List.not_mem_nil, or_false] at hu
  rcases hu with rfl | rfl | rfl <;> rfl
/-- A plane is appended. -/
theorem Bld.app {base : Nat} {w0 w : World} {tb : Nat} {sp : Int} {v : Value} {a b : Nat} {M : List PL} (h : Bld base w tb sp v a b M) (q0 : Q w0 w) (hb : w0.heap.size ≤ tb) (hw : base ≤ w.heap.size) {y : PL} (hy : Mine base w (a * b) y) (hn : v.ownBlock ≠ some y.g) (hd : ∀ z ∈ M, z.g ≠ y.g) (hM : M.length ≤ 1000) {ad : Addr} {c : Nat} (hc : ∀ j u, (plL a b y)[j]? = some u → w.cell? (ad.add j) = some u) :
    ∃ g cap w', (Builtin.append_ #[31, 31] 31 #[v, .slice (some ad) 1 c]).run Tryz.prog w = .ok (.slice (some ⟨g, 0, none⟩) (M.length + 1) cap) w' ∧ w'.cell? ⟨tb, 1, none⟩ = some v ∧ (∀ j, w'.frozen? ⟨tb, j, none⟩ = false) ∧
      Hid (Bld base (w'.setCell ⟨tb, 1, none⟩ (.slice (some ⟨g, 0, none⟩) (M.length + 1) cap)) tb sp (.slice (some ⟨g, 0, none⟩) (M.length + 1) cap) a b (M ++ [y])) ∧ Hid (Q w0 (w'.setCell ⟨tb, 1, none⟩ (.slice (some ⟨g, 0, none⟩) (M.length + 1) cap))) ∧
      Hid (Fr w (w'.setCell ⟨tb, 1, none⟩ (.slice (some ⟨g, 0, none⟩) (M.length + 1) cap)) (fun b => b ≠ tb ∧ v.ownBlock ≠ some b)) := by
  obtain ⟨i, i1, i2, i3, i4⟩ := planeInfo
  have hle : w0.heap.size ≤ base := Nat.le_trans hb (Nat.le_of_lt h.tb)
  obtain ⟨g, cap, w', hr, o1, o2, o3, o4⟩ := run_app_qg (P := Tryz.prog) w w0 q0 31 31 52 i _ 3 40 Tryz.underlying31 i1 i4 i2 i3 rfl (by decide) v M.length (newsP a b M) (own_up h.row.own (fun g e => Nat.le_trans hle (own_lt h.row.own e).1)) ad 1 c (plL a b y) rfl hc (plL_one a b y) (by decide) (by unfold maxLen; omega) (by omega)
  have hvt : v.ownBlock ≠ some tb := fun e => by have := (own_lt h.row.own e).1; have := h.tb; omega
  have fz : ∀ p, w'.frozen? p = w.frozen? p := fun p => (o2.2 p).trans (q0.2 p).symm
  have hg : base ≤ g := by
    rcases o4 with e | e
    · exact (own_lt h.row.own e).1
    · omega
  have hgt : g ≠ tb := by have := h.tb; omega
  have ct : w'.cell? ⟨tb, 1, none⟩ = some v := o3.cell h.c1 (fun e => hvt e.symm)
  have ct0 : w'.cell? ⟨tb, 0, none⟩ = some (.int .i64 sp) := o3.cell h.c0 (fun e => hvt e.symm)
  have R1 : Row base w' (.slice (some ⟨g, 0, none⟩) (M.length + 1) cap) a b (M ++ [y]) := h.row.push (own_up o1 (fun g' e => by injection e with e; rw [← e]; exact hg)) o3 o4 fz hy hn hd
  have F2 : Fr w' (w'.setCell ⟨tb, 1, none⟩ (.slice (some ⟨g, 0, none⟩) (M.length + 1) cap)) (fun b => b ≠ tb) := (Fr.refl w' _).set (fun h => h rfl) _
  refine ⟨g, cap, w', hr, ct, fun j => (fz _).trans (h.fz j), ⟨?_, World.cell?_setCell_same _ _ _ ct, fun j => by rw [World.frozen?_setCell]; exact (fz _).trans (h.fz j), R1.keep F2 (fun x hx => ?_) (fun x hx => ?_), h.tb⟩, o2.set hb _, ?_⟩
  · rw [World.cell?_setCell_other _ _ _ _ (by simp)]; exact ct0
  · injection hx with hx
    have hx : g = x := hx
    rw [← hx]; exact hgt
  · have := (R1.it x hx).1.low; have := h.tb; omega
  · exact (Fr.mk o3.os o3.tape o3.output o3.size (fun x hx hR => o3.block x hx (fun e => hR.2 e.symm)) fz : Fr w w' (fun b => b ≠ tb ∧ v.ownBlock ≠ some b)).trans (F2.mono (fun x hx _ => hx.1))
theorem Bld.start {base : Nat} {w : World} {tb : Nat} {sp : Int} (c0 : w.cell? ⟨tb, 0, none⟩ = some (.int .i64 sp)) (c1 : w.cell? ⟨tb, 1, none⟩ = some (.slice none 0 0)) (fz : ∀ j, w.frozen? ⟨tb, j, none⟩ = false) (ht : tb < base) (a b : Nat) : Bld base w tb sp (.slice none 0 0) a b [] :=
  ⟨c0, c1, fz, Row.nil _ _ _ _, ht⟩
theorem run_appop {P : Program} {A : Act} {o : Oper} {x x' : World} {s u : Operand} {t : TypeId} (ho : o.op = .call { callee := .builtin .append, args := #[s, u], argTypes := #[t, t] }) {v v' r : Value} (hs : A.eval s = v) (hu : A.eval u = v') (hr : (Builtin.append_ #[t, t] o.type #[v, v']).run P x = .ok r x') : (execOp A.eval o).run P x = .ok (.value r) x' := by
  unfold execOp
  simp only [ho, resolve, invoke, builtin, Sem.run_bind, Sem.run_pure, Result.andThen_ok, List.map_toArray, List.map_cons, List.map_nil, hs, hu, hr]
theorem map_len {M L : List PL} {i : Nat} (h : M.map PL.S = (L.take i).map PL.S) (hi : i ≤ L.length) : M.length = i := by
  have := congrArg List.length h
  rw [List.length_map, List.length_map, List.length_take] at this
  omega
theorem map_more {M L : List PL} {i : Nat} {x y : PL} (h : M.map PL.S = (L.take i).map PL.S) (hx : L[i]? = some x) (hy : y.S = x.S) : (M ++ [y]).map PL.S = (L.take (i + 1)).map PL.S := by
  rw [List.take_add_one, hx, List.map_append, List.map_append, h]
  simp [hy]
theorem copiedp_u (w : World) (a b : Nat) (x : PL) (h : Gd w (a * b) x) (hs : Size a b) :
    Calls Tryz.prog 113 #[plV a b x] w fun e w' => ∃ u, e = .returned u ∧ ∃ y : PL, u = .agg #[.int .i64 (a : Int), .int .i64 (b : Int), .slice (some ⟨y.g, y.o, none⟩) y.S.length y.cap] ∧ y.S = x.S ∧ Hid (Mine w.heap.size w' (a * b) y) ∧ Q w w' :=
  (copiedp_any w a b x h hs).mono fun e w' ⟨y, h1, h2, h3, h4⟩ => ⟨_, h1, y, rfl, h2, h3, h4⟩
end Go.Proofs.YtkgojnjlfkijiaaGreat
/- Copies of pictures. -/
namespace Go.Proofs.YtkgojnjlfkijiaaGreat
open Go.RowKit
end Go.Proofs.YtkgojnjlfkijiaaGreat
/- Lifting: keys that go round; what Lift and Drop return, the program's and the document's. -/
namespace Go.Proofs.YtkgojnjlfkijiaaGreat
open Go.RowKit
set_option linter.unusedVariables false

/-- A half, rounded down, of a number that goes round 2^32. -/
def hlfN (d : Nat) : Nat := if d < 2147483648 then d / 2 else d / 2 + 2147483648
theorem hlfN_lt {d : Nat} (h : d < 4294967296) : hlfN d < 4294967296 := by unfold hlfN; split <;> omega
def addN (a b : Nat) : Nat := (a + b) % 4294967296
def lesN (a b : Nat) : Nat := (a + 4294967296 - b) % 4294967296
theorem addN_lt (a b : Nat) : addN a b < 4294967296 := Nat.mod_lt _ (by decide)
theorem lesN_lt (a b : Nat) : lesN a b < 4294967296 := Nat.mod_lt _ (by decide)
theorem addN_comm (a b : Nat) : addN a b = addN b a := by unfold addN; rw [Nat.add_comm]
theorem add_e (a b : Nat) : ((a : Int) + (b : Int)) % 4294967296 = (addN a b : Nat) := by unfold addN; omega
theorem sub_e (a b : Nat) (hb : b < 4294967296) : ((a : Int) - (b : Int)) % 4294967296 = (lesN a b : Nat) := by unfold lesN; omega
theorem add_h (a : Nat) : ((a : Int) + 2147483648) % 4294967296 = (addN a 2147483648 : Nat) := by unfold addN; omega
theorem sub_h (a : Nat) : ((a : Int) - 2147483648) % 4294967296 = (lesN a 2147483648 : Nat) := by unfold lesN; omega
theorem sp_drewN {a b : World} (h : Q a b) (n : Nat) : Q a (b.drewN n) := h.trans ⟨⟨rfl, rfl, rfl, Nat.le_refl _, fun _ _ => rfl⟩, fun _ => rfl⟩
def lcoN (r b : Nat) : Nat := lesN (keyN r) (keyN b)
def ltN (r b : Nat) : Nat := addN (keyN b) (hlfN (lcoN r b))
def lcgN (r g b : Nat) : Nat := lesN (keyN g) (ltN r b)
def lyN (r g b : Nat) : Nat := addN (ltN r b) (hlfN (lcgN r g b))
def lift0 (r g b : Nat) : Nat := fkeyN (lyN r g b)
def lift1 (r g b : Nat) : Nat := fkeyN (addN (lcgN r g b) 2147483648)
def lift2 (r g b : Nat) : Nat := fkeyN (addN (lcoN r b) 2147483648)
def dfN (d : Nat) : Nat := lesN (keyN d) 2147483648
def dtN (y cg : Nat) : Nat := lesN (keyN y) (hlfN (dfN cg))
def dbN (y cg co : Nat) : Nat := lesN (dtN y cg) (hlfN (dfN co))
def drop0 (y cg co : Nat) : Nat := fkeyN (addN (dbN y cg co) (dfN co))
def drop1 (y cg co : Nat) : Nat := fkeyN (addN (dfN cg) (dtN y cg))
def drop2 (y cg co : Nat) : Nat := fkeyN (dbN y cg co)
def a3 (x y z : Nat) : Value := .agg #[.int .u32 (x : Nat), .int .u32 (y : Nat), .int .u32 (z : Nat)]
def t3 (x y z : Nat) : Value := .tuple #[.int .u32 (x : Nat), .int .u32 (y : Nat), .int .u32 (z : Nat)]
/-- A method's three samples in a box, and the box of its answer. -/
structure B3 (w wz : World) (r g b : Nat) : Prop where
  q : Q w wz
  d0 : wz.cell? ⟨w.heap.size + 1, 0, none⟩ = some (.int .u32 (r : Int))
  d1 : wz.cell? ⟨w.heap.size + 1, 1, none⟩ = some (.int .u32 (g : Int))
  d2 : wz.cell? ⟨w.heap.size + 1, 2, none⟩ = some (.int .u32 (b : Int))
  k0 : wz.cell? ⟨w.heap.size + 1 + 1, 0, none⟩ = some (.int .u32 0)
  k1 : wz.cell? ⟨w.heap.size + 1 + 1, 1, none⟩ = some (.int .u32 0)
  k2 : wz.cell? ⟨w.heap.size + 1 + 1, 2, none⟩ = some (.int .u32 0)
  f0 : wz.frozen? ⟨w.heap.size + 1 + 1, 0, none⟩ = false
  f1 : wz.frozen? ⟨w.heap.size + 1 + 1, 1, none⟩ = false
  f2 : wz.frozen? ⟨w.heap.size + 1 + 1, 2, none⟩ = false
theorem B3.next {w wz w4 : World} {r g b : Nat} (h : B3 w wz r g b) (q : Q wz w4) : B3 w w4 r g b :=
  ⟨h.q.trans q, q.cell h.d0, q.cell h.d1, q.cell h.d2, q.cell h.k0, q.cell h.k1, q.cell h.k2, (q.2 _).trans h.f0, (q.2 _).trans h.f1, (q.2 _).trans h.f2⟩
theorem and_low32 (n : Int) : bits .and .i64 n 4294967295 = n % 4294967296 := by
  show IntKind.i64.wrap ((BitVec.ofInt 64 n &&& BitVec.ofInt 64 4294967295).toNat : Int) = _
  rw [BitVec.toNat_and, BitVec.toNat_ofInt, BitVec.toNat_ofInt, show ((4294967295 : Int) % ((2 ^ 64 : Nat) : Int)).toNat = 2 ^ 32 - 1 from by decide, Nat.and_two_pow_sub_one_eq_mod, IntKind.wrap_i64]
  omega
theorem tm_even {n : Int} (h : n % 2 = 0) : n.tmod 2 = 0 := Int.tmod_eq_zero_of_dvd (by omega)
theorem tm_odd {n : Int} (h : n % 2 = 1) : n.tmod 2 ≠ 0 := fun e => by have := Int.dvd_of_tmod_eq_zero e; omega
theorem td_even {n : Int} (h : n % 2 = 0) : n.tdiv 2 = n / 2 := by
  obtain ⟨k, rfl⟩ : ∃ k, n = 2 * k := ⟨n / 2, by omega⟩
  rw [Int.mul_tdiv_cancel_left _ (by decide)]; omega
end Go.Proofs.YtkgojnjlfkijiaaGreat

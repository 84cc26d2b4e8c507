/- Copies of samples and of planes. -/
import Derived.Test.YtlelgifdnhnphabG689f8dff
import Derived.Test.YtlelgifdnhnphabGd0106ed4
import Derived.Test.YtlelgifdnhnphabGb505b1c7
namespace Go.Proofs.Ytlelgifdnhnphab
open Go.RowKit
set_option linter.unusedVariables false
set_option linter.unusedSimpArgs false

/-- A call at a step of a region that draws its order. -/
theorem step_call {P : Program} {w : World} {ops : Array Oper} {o : Oper} {a : Act} {K : Act → World → Prop} {R : Exit → Act → World → Prop} {E : Prop} (hgd : o.guard = none) (f : FuncId) (ars : Array Operand) (ts : Array TypeId)
    (ho : o.op = .call { callee := .value (.func f), args := ars, argTypes := ts }) (hen : ∀ (args : Array Value) (x : World), (callFunc f args).run P x = .ok (.enter f args) x) (vs : Array Value) (hv : ars.map a.eval = vs)
    {G : Value → World → Prop} (hc : Calls P f vs w fun e w' => ∃ u, e = .returned u ∧ G u w') (h : ∀ u w', G u w' → K (a.put o.dst u) w') :
    if Region.wanted o (yielded ops a.tmps) = true then Oper.wp P o a w K R else E := by
  have hw : Region.wanted o (yielded ops a.tmps) = true := by simp [Region.wanted, hgd]
  rw [if_pos hw]
  obtain ⟨dst, op, ty, ps, af, g⟩ := o
  have ho : op = _ := ho
  subst ho
  unfold Oper.wp
  show Oper.upon P _ a _ R ((callFunc f (#[] ++ (ars.map a.eval) ++ #[])).run P w)
  rw [hv, Array.append_empty, Array.empty_append, hen, Oper.upon_enter]
  refine hc.mono ?_
  rintro e x' ⟨u, rfl, hg⟩
  exact h u x' hg
theorem eql_nil (P : Program) (w : World) (t e : TypeId) (a : Addr) (n c : Nat) (h : P.underlying t = some (.slice e)) : (binOp .eql t (.slice (some a) n c) (.slice none 0 0)).run P w = .ok (.bool false) w := by
  simp only [binOp]
  simp [Op.equal, Op.maxDepth, Lib.run_equalIn_slice_nil w 9999 t e (some a) n c 0 0 h]
/-- The cells of samples. -/
def celU (S : List Nat) : List Value := S.map fun x => .int .u32 (x : Nat)
theorem celU_length (S : List Nat) : (celU S).length = S.length := by simp [celU]
theorem celU_get {S : List Nat} {j : Nat} (h : j < S.length) : (celU S)[j]? = some (.int .u32 (S.getD j 0 : Nat)) := by
  unfold celU
  rw [List.getElem?_map, List.getD_eq_getElem?_getD, List.getElem?_eq_getElem h]; rfl
theorem addrAdd (g o j : Nat) : (⟨g, o, none⟩ : Addr).add j = ⟨g, o + j, none⟩ := by unfold Addr.add; split <;> simp_all
theorem celU_cells {w : World} {g o : Nat} {S : List Nat} (h : UIs w g o S) : ∀ j u, (celU S)[j]? = some u → w.cell? ((⟨g, o, none⟩ : Addr).add j) = some u := by
  intro j u hj
  have hjl : j < S.length := by have := (List.getElem?_eq_some_iff.1 hj).1; rw [celU_length] at this; exact this
  rw [celU_get hjl] at hj
  injection hj with hj
  rw [← hj, addrAdd]
  exact h j hjl
set_option maxHeartbeats 1000000 in
set_option maxRecDepth 100000 in
theorem clone_us (w : World) (n : Nat) (x : PL) (h : Gd w n x) (h1 : 1 ≤ n) (h2 : n ≤ 65536) :
    Calls Try.prog 39 #[x.v] w fun e w' => ∃ y : PL, e = .returned y.v ∧ y.S = x.S ∧ Hid (Mine w.heap.size w' n y) ∧ Q w w' := by
  obtain ⟨g, o, cap, S⟩ := x
  have hl := h.len
  have hcap := h.room
  have hlt := h.lt
  have hus := h.us
  simp only at hl hcap hlt hus
  subst hl
  obtain ⟨i, i1, i2, i3, i4⟩ := u32Info
  have H1 : Hid (∀ j u, (celU S)[j]? = some u → w.cell? ((⟨g, o, none⟩ : Addr).add j) = some u) := celU_cells hus
  have H2 : Hid ((celU S).length = S.length * i.size) := by show _ = _; rw [i2, celU_length, Nat.mul_one]
  have H3 : Hid (S.length * i.bytes ≤ 140737488355328) := by show _ ≤ _; rw [i3]; omega
  have H4 : Hid (Try.prog.info? 25 = some i) := i1
  have H5 : Hid (i.zero = some (.int .u32 0)) := i4
  have H6 : Hid (i.size = 1) := i2
  have H7 : Hid ((Value.int .u32 0).cells.size = i.size) := by show _ = _; rw [i2]; rfl
  have HLT : Hid (∀ i, S.getD i 0 < 4294967296) := hlt
  clear h hus hlt i1 i2 i3 i4
  have l1 := fun w => eql_nil Try.prog w 32 25 ⟨g, o, none⟩ S.length cap Try.underlying32
  unfold PL.v
  go_enter Try.func39, Try.ntmps39
  go_wp2_with (at_builtin; go_must (refine wpList_room _ rfl (.tmp 5) (.tmp 6) 32 rfl 25 i _ Try.underlying32 H4.out H5.out H7.out _ (Or.inr ⟨_, rfl⟩) rfl _ S.length cap (celU S) rfl H2.out (fun j u h => Q.cell ((Q.refl w).cells _ _) (H1.out j u h)) (by omega) (by omega) H3.out ?_; intro cap' w' q1 q2 q3 q4 q5 q6 q7))
  have hz : (w.alloc (.cells #[] 25)).heap.size = w.heap.size + 1 := by simp
  rw [hz] at q4 q5 q6 q7
  rw [H6.out, Nat.mul_one] at q6
  go_ret
  refine ⟨⟨w.heap.size + 1, 0, cap', S⟩, rfl, rfl, ⟨rfl, Nat.le_succ _, by show w.heap.size + 1 < w'.heap.size; omega, ⟨rfl, q2, fun j hj => ?_, HLT.out⟩, q7, q6, q3⟩, ((Q.refl w).cells _ _).trans q1⟩
  rw [Nat.zero_add]
  exact q5 j _ (celU_get hj)
set_option maxHeartbeats 2000000 in
set_option maxRecDepth 100000 in
theorem copiedp_any (w : World) (a b : Nat) (x : PL) (h : Gd w (a * b) x) (hs : Size a b) :
    Calls Try.prog 25 #[plV a b x] w fun e w' => ∃ y : PL, e = .returned (plV a b y) ∧ y.S = x.S ∧ Hid (Mine w.heap.size w' (a * b) y) ∧ Q w w' := by
  have HG : Hid (Gd w (a * b) x) := h
  have p1 := hs.pos
  have p2 := hs.ab
  have l1 := enters_of Try.func39 (by kernel_rfl) rfl
  have HX : Hid (∀ w2, Q w w2 → Calls Try.prog 39 #[x.v] w2 fun e w' => ∃ u, e = .returned u ∧ ∃ y : PL, u = .slice (some ⟨y.g, y.o, none⟩) y.S.length y.cap ∧ y.S = x.S ∧ Hid (Mine w2.heap.size w' (a * b) y) ∧ Q w2 w') := fun w2 q2 => (clone_us w2 (a * b) x (h.next q2) p1 p2).mono fun e w' ⟨y, h1, h2, h3, h4⟩ => ⟨_, h1, y, rfl, h2, h3, h4⟩
  unfold plV
  have hvs : x.v.cells = #[x.v] := rfl
  generalize x.v = xv at hvs HX ⊢
  clear h HG
  go_enter Try.func25, Try.ntmps25
  go_wp2_with fail
  have HQ : Hid (Q w ((w.alloc (Obj.cells #[Value.int IntKind.i64 ↑a, Value.int IntKind.i64 ↑b, xv] 34)).alloc (Obj.cells #[Value.int IntKind.i64 0, Value.int IntKind.i64 0, Value.slice none 0 0] 34))) := ((Q.refl w).cells _ _).cells _ _
  have c0 : ((w.alloc (Obj.cells #[Value.int IntKind.i64 ↑a, Value.int IntKind.i64 ↑b, xv] 34)).alloc (Obj.cells #[Value.int IntKind.i64 0, Value.int IntKind.i64 0, Value.slice none 0 0] 34)).cell? ⟨w.heap.size, 0, none⟩ = some (.int .i64 (a : Int)) := by simp [go_sem]
  have c1 : ((w.alloc (Obj.cells #[Value.int IntKind.i64 ↑a, Value.int IntKind.i64 ↑b, xv] 34)).alloc (Obj.cells #[Value.int IntKind.i64 0, Value.int IntKind.i64 0, Value.slice none 0 0] 34)).cell? ⟨w.heap.size, 1, none⟩ = some (.int .i64 (b : Int)) := by simp [go_sem]
  have c2 : ((w.alloc (Obj.cells #[Value.int IntKind.i64 ↑a, Value.int IntKind.i64 ↑b, xv] 34)).alloc (Obj.cells #[Value.int IntKind.i64 0, Value.int IntKind.i64 0, Value.slice none 0 0] 34)).cell? ⟨w.heap.size, 2, none⟩ = some xv := by simp [go_sem]
  have d0 : ((w.alloc (Obj.cells #[Value.int IntKind.i64 ↑a, Value.int IntKind.i64 ↑b, xv] 34)).alloc (Obj.cells #[Value.int IntKind.i64 0, Value.int IntKind.i64 0, Value.slice none 0 0] 34)).cell? ⟨w.heap.size + 1, 0, none⟩ = some (.int .i64 0) := by simp [go_sem]
  have d1 : ((w.alloc (Obj.cells #[Value.int IntKind.i64 ↑a, Value.int IntKind.i64 ↑b, xv] 34)).alloc (Obj.cells #[Value.int IntKind.i64 0, Value.int IntKind.i64 0, Value.slice none 0 0] 34)).cell? ⟨w.heap.size + 1, 1, none⟩ = some (.int .i64 0) := by simp [go_sem]
  have d2 : ((w.alloc (Obj.cells #[Value.int IntKind.i64 ↑a, Value.int IntKind.i64 ↑b, xv] 34)).alloc (Obj.cells #[Value.int IntKind.i64 0, Value.int IntKind.i64 0, Value.slice none 0 0] 34)).cell? ⟨w.heap.size + 1, 2, none⟩ = some (.slice none 0 0) := by simp [go_sem]
  have fz : ∀ j, ((w.alloc (Obj.cells #[Value.int IntKind.i64 ↑a, Value.int IntKind.i64 ↑b, xv] 34)).alloc (Obj.cells #[Value.int IntKind.i64 0, Value.int IntKind.i64 0, Value.slice none 0 0] 34)).frozen? ⟨w.heap.size + 1, j, none⟩ = false := fun j => by simp [go_sem]
  generalize ((w.alloc (Obj.cells #[Value.int IntKind.i64 ↑a, Value.int IntKind.i64 ↑b, xv] 34)).alloc (Obj.cells #[Value.int IntKind.i64 0, Value.int IntKind.i64 0, Value.slice none 0 0] 34)) = wz at *
  have n0 := qw_some wz
  have f0 := qw_cell c0
  have f1 := qw_cell c1
  have f2 := qw_cell c2
  refine wp_region_mk [0, 1, 2, 3, 4, 5] [[6, 7, 8]] 3 _ (by kernel_rfl) (by kernel_rfl) rfl (by kernel_rfl) ?_
  simp only [List.filterMap_cons, List.filterMap_nil, List.getElem?_cons_zero, List.getElem?_cons_succ]
  repeat (first | go_big_quiet_step (fail) | quiet_step (fail))
  refine wpQuiet_nil ?_
  intro x hx
  refine tree_call 6 rfl rfl (run_fn 39 #[.tmp 8] _ rfl l1 (vs := #[xv]) (by simp [Act.eval])) (HX.out x (HQ.out.trans hx)) ?_
  rintro u w2 ⟨y, rfl, hy, hm, hq⟩
  have hq2 : Q wz w2 := hx.trans hq
  refine ⟨hq2, ?_⟩
  refine tree_run 7 rfl rfl (v := .agg #[.int .i64 (a : Int), .int .i64 (b : Int), .slice (some ⟨y.g, y.o, none⟩) y.S.length y.cap]) (x' := w2) (by simp [execOp, go_sem]) hq2 ?_
  have d02 := hq2.cell d0
  have d12 := hq2.cell d1
  have d22 := hq2.cell d2
  have fz2 : ∀ j, w2.frozen? ⟨w.heap.size + 1, j, none⟩ = false := fun j => (hq2.2 _).trans (fz j)
  refine tree_skipF 8 rfl rfl rfl (x' := (((w2.setCell ⟨w.heap.size + 1, 0, none⟩ (.int .i64 (a : Int))).setCell ⟨w.heap.size + 1, 1, none⟩ (.int .i64 (b : Int))).setCell ⟨w.heap.size + 1, 2, none⟩ (.slice (some ⟨y.g, y.o, none⟩) y.S.length y.cap))) (by simp [execOp, go_sem, d02, d12, d22, fz2]) ?_
  refine tree_nil ?_
  have kq : Hid (Mine w.heap.size (((w2.setCell ⟨w.heap.size + 1, 0, none⟩ (.int .i64 (a : Int))).setCell ⟨w.heap.size + 1, 1, none⟩ (.int .i64 (b : Int))).setCell ⟨w.heap.size + 1, 2, none⟩ (.slice (some ⟨y.g, y.o, none⟩) y.S.length y.cap)) (a * b) y) := by
    have hlo : w.heap.size + 1 < x.heap.size := Nat.lt_of_lt_of_le (cell_in d0) hx.1.size
    refine (hm.out.keep (((((Fr.refl w2 (fun b => b ≠ w.heap.size + 1)).set (fun h => h rfl) _).set (fun h => h rfl) _).set (fun h => h rfl) _)) ?_).mono ?_
    · have := hm.out.low; omega
    · have := hx.1.size; have := HQ.out.1.size; omega
  have qq : Hid (Q w (((w2.setCell ⟨w.heap.size + 1, 0, none⟩ (.int .i64 (a : Int))).setCell ⟨w.heap.size + 1, 1, none⟩ (.int .i64 (b : Int))).setCell ⟨w.heap.size + 1, 2, none⟩ (.slice (some ⟨y.g, y.o, none⟩) y.S.length y.cap))) := (((HQ.out.trans hq2).set (Nat.le_succ _) _).set (Nat.le_succ _) _).set (Nat.le_succ _) _
  have k0 : (((w2.setCell ⟨w.heap.size + 1, 0, none⟩ (.int .i64 (a : Int))).setCell ⟨w.heap.size + 1, 1, none⟩ (.int .i64 (b : Int))).setCell ⟨w.heap.size + 1, 2, none⟩ (.slice (some ⟨y.g, y.o, none⟩) y.S.length y.cap)).cell? ⟨w.heap.size + 1, 0, none⟩ = some (.int .i64 (a : Int)) := by simp [go_sem, d02, d12, d22]
  have k1 : (((w2.setCell ⟨w.heap.size + 1, 0, none⟩ (.int .i64 (a : Int))).setCell ⟨w.heap.size + 1, 1, none⟩ (.int .i64 (b : Int))).setCell ⟨w.heap.size + 1, 2, none⟩ (.slice (some ⟨y.g, y.o, none⟩) y.S.length y.cap)).cell? ⟨w.heap.size + 1, 1, none⟩ = some (.int .i64 (b : Int)) := by simp [go_sem, d02, d12, d22]
  have k2 : (((w2.setCell ⟨w.heap.size + 1, 0, none⟩ (.int .i64 (a : Int))).setCell ⟨w.heap.size + 1, 1, none⟩ (.int .i64 (b : Int))).setCell ⟨w.heap.size + 1, 2, none⟩ (.slice (some ⟨y.g, y.o, none⟩) y.S.length y.cap)).cell? ⟨w.heap.size + 1, 2, none⟩ = some (.slice (some ⟨y.g, y.o, none⟩) y.S.length y.cap) := by simp [go_sem, d02, d12, d22]
  generalize (((w2.setCell ⟨w.heap.size + 1, 0, none⟩ (.int .i64 (a : Int))).setCell ⟨w.heap.size + 1, 1, none⟩ (.int .i64 (b : Int))).setCell ⟨w.heap.size + 1, 2, none⟩ (.slice (some ⟨y.g, y.o, none⟩) y.S.length y.cap)) = w5 at *
  clear hm d02 d12 d22 fz2 hq hq2 hx c0 c1 c2 d0 d1 d2 fz
  go_wp2_with fail
  refine bodyPost_ret (v := .agg #[.int .i64 (a : Int), .int .i64 (b : Int), .slice (some ⟨y.g, y.o, none⟩) y.S.length y.cap]) (by simp [results, Try.results25, go_sem, k0, k1, k2]) rfl ⟨y, rfl, hy, kq, qq.out⟩
end Go.Proofs.Ytlelgifdnhnphab
/- A picture that is being built: a box with its space and its planes so far. -/
namespace Go.Proofs.Ytlelgifdnhnphab
open Go.RowKit
set_option linter.unusedVariables false
set_option linter.unusedSimpArgs false

theorem own_up {w : World} {base base' : Nat} {e : TypeId} {size n : Nat} {v : Value} {xs : List Value} (h : w.ownsRow base e size v n xs) (hg : ∀ g, v.ownBlock = some g → base' ≤ g) : w.ownsRow base' e size v n xs := by
  refine ⟨h.1, ?_⟩
  rcases h.2 with c | ⟨g, cap, cur, h1, h2, h3⟩
  · exact Or.inl c
  · exact Or.inr ⟨g, cap, cur, h1, hg g (by rw [h1]; rfl), h3⟩
structure Bld (base : Nat) (w : World) (tb : Nat) (sp : Int) (v : Value) (a b : Nat) (M : List PL) : Prop where
  c0 : w.cell? ⟨tb, 0, none⟩ = some (.int .i64 sp)
  c1 : w.cell? ⟨tb, 1, none⟩ = some v
  fz : ∀ j, w.frozen? ⟨tb, j, none⟩ = false
  row : Row base w v a b M
  tb : tb < base
theorem Bld.next {base : Nat} {w w' : World} {tb : Nat} {sp : Int} {v : Value} {a b : Nat} {M : List PL} (h : Bld base w tb sp v a b M) (q : Q w w') : Bld base w' tb sp v a b M :=
  ⟨q.cell h.c0, q.cell h.c1, fun j => (q.2 _).trans (h.fz j), h.row.next q, h.tb⟩
/-- One plane in a row of its own. -/
theorem one_pl {w : World} {t : TypeId} (a b : Nat) (y : PL) : ∀ j u, (plL a b y)[j]? = some u → (w.alloc (.cells #[.int .i64 (a : Int), .int .i64 (b : Int), y.v] t)).cell? ((⟨w.heap.size, 0, none⟩ : Addr).add j) = some u := by
  intro j u hu
  rw [addrAdd, Nat.zero_add, cell_of_row _ _ j #[.int .i64 (a : Int), .int .i64 (b : Int), y.v] t (0, 0) (heap_alloc_new w _)]
  simpa [plL] using hu
theorem plL_one (a b : Nat) (y : PL) : ∀ u ∈ plL a b y, u.oneCell' = true := fun u hu => by
  simp only [plL, List.mem_cons, List.not_mem_nil, or_false] at hu
  rcases hu with rfl | rfl | rfl <;> rfl
/-- A plane is appended. -/
theorem Bld.app {base : Nat} {w0 w : World} {tb : Nat} {sp : Int} {v : Value} {a b : Nat} {M : List PL} (h : Bld base w tb sp v a b M) (q0 : Q w0 w) (hb : w0.heap.size ≤ tb) (hw : base ≤ w.heap.size) {y : PL} (hy : Mine base w (a * b) y) (hn : v.ownBlock ≠ some y.g) (hd : ∀ z ∈ M, z.g ≠ y.g) (hM : M.length ≤ 1000) {ad : Addr} {c : Nat} (hc : ∀ j u, (plL a b y)[j]? = some u → w.cell? (ad.add j) = some u) :
    ∃ g cap w', (Builtin.append_ #[22, 22] 22 #[v, .slice (some ad) 1 c]).run Try.prog w = .ok (.slice (some ⟨g, 0, none⟩) (M.length + 1) cap) w' ∧ w'.cell? ⟨tb, 1, none⟩ = some v ∧ (∀ j, w'.frozen? ⟨tb, j, none⟩ = false) ∧
      Hid (Bld base (w'.setCell ⟨tb, 1, none⟩ (.slice (some ⟨g, 0, none⟩) (M.length + 1) cap)) tb sp (.slice (some ⟨g, 0, none⟩) (M.length + 1) cap) a b (M ++ [y])) ∧ Hid (Q w0 (w'.setCell ⟨tb, 1, none⟩ (.slice (some ⟨g, 0, none⟩) (M.length + 1) cap))) ∧
      Hid (Fr w (w'.setCell ⟨tb, 1, none⟩ (.slice (some ⟨g, 0, none⟩) (M.length + 1) cap)) (fun b => b ≠ tb ∧ v.ownBlock ≠ some b)) := by
  obtain ⟨i, i1, i2, i3, i4⟩ := planeInfo
  have hle : w0.heap.size ≤ base := Nat.le_trans hb (Nat.le_of_lt h.tb)
  obtain ⟨g, cap, w', hr, o1, o2, o3, o4⟩ := run_app_qg (P := Try.prog) w w0 q0 22 22 34 i _ 3 40 Try.underlying22 i1 i4 i2 i3 rfl (by decide) v M.length (newsP a b M) (own_up h.row.own (fun g e => Nat.le_trans hle (own_lt h.row.own e).1)) ad 1 c (plL a b y) rfl hc (plL_one a b y) (by decide) (by unfold maxLen; omega) (by omega)
  have hvt : v.ownBlock ≠ some tb := fun e => by have := (own_lt h.row.own e).1; have := h.tb; omega
  have fz : ∀ p, w'.frozen? p = w.frozen? p := fun p => (o2.2 p).trans (q0.2 p).symm
  have hg : base ≤ g := by
    rcases o4 with e | e
    · exact (own_lt h.row.own e).1
    · omega
  have hgt : g ≠ tb := by have := h.tb; omega
  have ct : w'.cell? ⟨tb, 1, none⟩ = some v := o3.cell h.c1 (fun e => hvt e.symm)
  have ct0 : w'.cell? ⟨tb, 0, none⟩ = some (.int .i64 sp) := o3.cell h.c0 (fun e => hvt e.symm)
  have R1 : Row base w' (.slice (some ⟨g, 0, none⟩) (M.length + 1) cap) a b (M ++ [y]) := h.row.push (own_up o1 (fun g' e => by injection e with e; rw [← e]; exact hg)) o3 o4 fz hy hn hd
  have F2 : Fr w' (w'.setCell ⟨tb, 1, none⟩ (.slice (some ⟨g, 0, none⟩) (M.length + 1) cap)) (fun b => b ≠ tb) := (Fr.refl w' _).set (fun h => h rfl) _
  refine ⟨g, cap, w', hr, ct, fun j => (fz _).trans (h.fz j), ⟨?_, World.cell?_setCell_same _ _ _ ct, fun j => by rw [World.frozen?_setCell]; exact (fz _).trans (h.fz j), R1.keep F2 (fun x hx => ?_) (fun x hx => ?_), h.tb⟩, o2.set hb _, ?_⟩
  · rw [World.cell?_setCell_other _ _ _ _ (by simp)]; exact ct0
  · injection hx with hx
    have hx : g = x := hx
    rw [← hx]; exact hgt
  · have := (R1.it x hx).1.low; have := h.tb; omega
  · exact (Fr.mk o3.os o3.tape o3.output o3.size (fun x hx hR => o3.block x hx (fun e => hR.2 e.symm)) fz : Fr w w' (fun b => b ≠ tb ∧ v.ownBlock ≠ some b)).trans (F2.mono (fun x hx _ => hx.1))
theorem Bld.start {base : Nat} {w : World} {tb : Nat} {sp : Int} (c0 : w.cell? ⟨tb, 0, none⟩ = some (.int .i64 sp)) (c1 : w.cell? ⟨tb, 1, none⟩ = some (.slice none 0 0)) (fz : ∀ j, w.frozen? ⟨tb, j, none⟩ = false) (ht : tb < base) (a b : Nat) : Bld base w tb sp (.slice none 0 0) a b [] :=
  ⟨c0, c1, fz, Row.nil _ _ _ _, ht⟩
theorem run_appop {P : Program} {A : Act} {o : Oper} {x x' : World} {s u : Operand} {t : TypeId} (ho : o.op = .call { callee := .builtin .append, args := #[s, u], argTypes := #[t, t] }) {v v' r : Value} (hs : A.eval s = v) (hu : A.eval u = v') (hr : (Builtin.append_ #[t, t] o.type #[v, v']).run P x = .ok r x') : (execOp A.eval o).run P x = .ok (.value r) x' := by
  unfold execOp
  simp only [ho, resolve, invoke, builtin, Sem.run_bind, Sem.run_pure, Result.andThen_ok, List.map_toArray, List.map_cons, List.map_nil, hs, hu, hr]
theorem map_len {M L : List PL} {i : Nat} (h : M.map PL.S = (L.take i).map PL.S) (hi : i ≤ L.length) : M.length = i := by
  have := congrArg List.length h
  rw [List.length_map, List.length_map, List.length_take] at this
  omega
theorem map_more {M L : List PL} {i : Nat} {x y : PL} (h : M.map PL.S = (L.take i).map PL.S) (hx : L[i]? = some x) (hy : y.S = x.S) : (M ++ [y]).map PL.S = (L.take (i + 1)).map PL.S := by
  rw [List.take_add_one, hx, List.map_append, List.map_append, h]
  simp [hy]
theorem copiedp_u (w : World) (a b : Nat) (x : PL) (h : Gd w (a * b) x) (hs : Size a b) :
    Calls Try.prog 25 #[plV a b x] w fun e w' => ∃ u, e = .returned u ∧ ∃ y : PL, u = .agg #[.int .i64 (a : Int), .int .i64 (b : Int), .slice (some ⟨y.g, y.o, none⟩) y.S.length y.cap] ∧ y.S = x.S ∧ Hid (Mine w.heap.size w' (a * b) y) ∧ Q w w' :=
  (copiedp_any w a b x h hs).mono fun e w' ⟨y, h1, h2, h3, h4⟩ => ⟨_, h1, y, rfl, h2, h3, h4⟩
end Go.Proofs.Ytlelgifdnhnphab
/- Copies of pictures. -/
namespace Go.Proofs.Ytlelgifdnhnphab
open Go.RowKit
set_option linter.unusedVariables false
set_option linter.unusedSimpArgs false

set_option maxHeartbeats 4000000 in
set_option maxRecDepth 100000 in
theorem copied_any (w : World) (sp : Int) (g o cap a b n : Nat) (L : List PL) (h : Pc w g o a b L) (hn : L.length = n) (hcap : n ≤ cap) :
    Calls Try.prog 28 #[picV sp g o n cap] w fun e w' => ∃ g' cap' M, e = .returned (picV sp g' 0 n cap') ∧ M.map PL.S = L.map PL.S ∧ Hid (Nw w.heap.size w' g' cap' a b M) ∧ Q w w' := by
  have HP : Hid (Pc w g o a b L) := h
  have HN : Hid (L.length = n) := hn
  have n4 : n ≤ 4 := by rw [← hn]; exact h.n4
  have n1 : 1 ≤ n := by rw [← hn]; exact h.n1
  have l1 := enters_of Try.func25 (by kernel_rfl) rfl
  clear h hn
  unfold picV
  go_enter Try.func28, Try.ntmps28
  go_wp2_with fail
  have HQ : Hid (Q w (((w.alloc (Obj.cells #[Value.int IntKind.i64 sp, Value.slice (some { block := g, off := o }) n cap] 24)).alloc (Obj.cells #[Value.int IntKind.i64 0, Value.slice none 0 0] 24)).alloc (Obj.cells #[Value.int IntKind.i64 sp, Value.slice none 0 0] 24))) := (((Q.refl w).cells _ _).cells _ _).cells _ _
  have hz : (((w.alloc (Obj.cells #[Value.int IntKind.i64 sp, Value.slice (some { block := g, off := o }) n cap] 24)).alloc (Obj.cells #[Value.int IntKind.i64 0, Value.slice none 0 0] 24)).alloc (Obj.cells #[Value.int IntKind.i64 sp, Value.slice none 0 0] 24)).heap.size = w.heap.size + 3 := by simp
  have e0 : (((w.alloc (Obj.cells #[Value.int IntKind.i64 sp, Value.slice (some { block := g, off := o }) n cap] 24)).alloc (Obj.cells #[Value.int IntKind.i64 0, Value.slice none 0 0] 24)).alloc (Obj.cells #[Value.int IntKind.i64 sp, Value.slice none 0 0] 24)).cell? ⟨w.heap.size + 1, 0, none⟩ = some (.int .i64 0) := by simp [go_sem]
  have e1 : (((w.alloc (Obj.cells #[Value.int IntKind.i64 sp, Value.slice (some { block := g, off := o }) n cap] 24)).alloc (Obj.cells #[Value.int IntKind.i64 0, Value.slice none 0 0] 24)).alloc (Obj.cells #[Value.int IntKind.i64 sp, Value.slice none 0 0] 24)).cell? ⟨w.heap.size + 1, 1, none⟩ = some (.slice none 0 0) := by simp [go_sem]
  have ef : ∀ j, (((w.alloc (Obj.cells #[Value.int IntKind.i64 sp, Value.slice (some { block := g, off := o }) n cap] 24)).alloc (Obj.cells #[Value.int IntKind.i64 0, Value.slice none 0 0] 24)).alloc (Obj.cells #[Value.int IntKind.i64 sp, Value.slice none 0 0] 24)).frozen? ⟨w.heap.size + 1, j, none⟩ = false := fun j => by simp [go_sem]
  have HB : Hid (Bld (w.heap.size + 3) (((w.alloc (Obj.cells #[Value.int IntKind.i64 sp, Value.slice (some { block := g, off := o }) n cap] 24)).alloc (Obj.cells #[Value.int IntKind.i64 0, Value.slice none 0 0] 24)).alloc (Obj.cells #[Value.int IntKind.i64 sp, Value.slice none 0 0] 24)) (w.heap.size + 1 + 1) sp (.slice none 0 0) a b []) := Bld.start (by simp [go_sem]) (by simp [go_sem]) (fun j => by simp [go_sem]) (by omega) a b
  generalize (((w.alloc (Obj.cells #[Value.int IntKind.i64 sp, Value.slice (some { block := g, off := o }) n cap] 24)).alloc (Obj.cells #[Value.int IntKind.i64 0, Value.slice none 0 0] 24)).alloc (Obj.cells #[Value.int IntKind.i64 sp, Value.slice none 0 0] 24)) = w1 at *
  go_loopg [12] n (fun m s12 wx => ∃ (i : Nat) (v : Value) (M : List PL), s12 = .int .i64 i ∧ i + m = n ∧ Hid (M.map PL.S = (L.take i).map PL.S) ∧ Hid (Bld (w.heap.size + 3) wx (w.heap.size + 1 + 1) sp v a b M) ∧ Hid (Q w wx) ∧ Hid (Fr w1 wx (fun b => b ≠ w.heap.size + 1 + 1 ∧ b < w.heap.size + 3)))
  case atStart => exact ⟨0, _, [], rfl, by omega, rfl, HB, HQ, Fr.refl _ _⟩
  case round =>
    obtain ⟨i, v, M, rfl, him, HS, HB, HQ, HF⟩ := hrel
    by_cases hi : i < n
    · have hi0 : (0 : Int) ≤ (i : Int) := by omega
      have hi1 : (i : Int) < (n : Int) := by omega
      obtain ⟨x, hx⟩ : ∃ x, L[i]? = some x := ⟨_, List.getElem?_eq_getElem (by rw [HN.out]; exact hi)⟩
      obtain ⟨c0, c1, c2⟩ := (HP.out.row.next HQ.out) i x hx
      unfold PL.v at c2
      have hgx : Hid (Gd w (a * b) x) := HP.out.it x (List.mem_of_getElem? hx)
      go_wp2_with fail
      have hq3 : Q wr (wr.alloc (Obj.cells #[Value.int IntKind.i64 ↑a, Value.int IntKind.i64 ↑b, Value.slice (some { block := x.g, off := x.o }) x.S.length x.cap] 34)) := (Q.refl wr).cells _ _
      have k0 : (wr.alloc (Obj.cells #[Value.int IntKind.i64 ↑a, Value.int IntKind.i64 ↑b, Value.slice (some { block := x.g, off := x.o }) x.S.length x.cap] 34)).cell? ⟨wr.heap.size, 0, none⟩ = some (.int .i64 (a : Int)) := by simp [go_sem]
      have k1 : (wr.alloc (Obj.cells #[Value.int IntKind.i64 ↑a, Value.int IntKind.i64 ↑b, Value.slice (some { block := x.g, off := x.o }) x.S.length x.cap] 34)).cell? ⟨wr.heap.size, 1, none⟩ = some (.int .i64 (b : Int)) := by simp [go_sem]
      have k2 : (wr.alloc (Obj.cells #[Value.int IntKind.i64 ↑a, Value.int IntKind.i64 ↑b, Value.slice (some { block := x.g, off := x.o }) x.S.length x.cap] 34)).cell? ⟨wr.heap.size, 2, none⟩ = some (.slice (some ⟨x.g, x.o, none⟩) x.S.length x.cap) := by simp [go_sem]
      generalize (wr.alloc (Obj.cells #[Value.int IntKind.i64 ↑a, Value.int IntKind.i64 ↑b, Value.slice (some { block := x.g, off := x.o }) x.S.length x.cap] 34)) = w3 at *
      have HB3 : Hid (Bld (w.heap.size + 3) w3 (w.heap.size + 1 + 1) sp v a b M) := HB.out.next hq3
      have HQ3 : Hid (Q w w3) := HQ.out.trans hq3
      have t1 := HB3.out.c1
      have f1 := qw_cell t1
      have f2 := qw_cell k0
      have f3 := qw_cell k1
      have f4 := qw_cell k2
      have n0 := qw_some w3
      have hml := map_len HS.out (by rw [HN.out]; omega)
      clear c0 c1 c2
      refine wp_region_mk [0, 1, 2] [[3, 4, 5, 6, 7]] 5 _ (by kernel_rfl) (by kernel_rfl) rfl (by kernel_rfl) ?_
      simp only [List.filterMap_cons, List.filterMap_nil, List.getElem?_cons_zero, List.getElem?_cons_succ]
      repeat (first | go_big_quiet_step (fail) | quiet_step (fail))
      refine wpQuiet_nil ?_
      intro x4 hx4
      clear f1 f2 f3 f4 n0
      refine tree_call 3 rfl rfl (run_fn 25 #[.tmp 18] _ rfl l1 (vs := #[plV a b x]) (by simp [Act.eval, plV, PL.v])) (copiedp_u x4 a b x (hgx.out.next (HQ3.out.trans hx4)) HP.out.size) ?_
      rintro u w5 ⟨y, rfl, hy, hm, hq5⟩
      have hq35 : Q w3 w5 := hx4.trans hq5
      refine ⟨hq35, ?_⟩
      have HB5 := HB3.out.next (hq35.cells #[.int .i64 (a : Int), .int .i64 (b : Int), .slice (some ⟨y.g, y.o, none⟩) y.S.length y.cap] 34)
      have hz3 : w.heap.size + 3 ≤ w3.heap.size := by have := HF.out.size; have := hq3.1.size; omega
      have hlow := hm.out.low
      have hs34 := hx4.1.size
      obtain ⟨g7, cap7, w7, hr7, ct7, cf7, HB7, HQ7, HF7⟩ := HB5.app (HQ3.out.trans (hq35.cells _ _)) (by omega) (by have := hq35.1.size; simp; omega) (y := y) ((hm.out.next ((Q.refl w5).cells _ _)).mono (by omega)) (fun e => by have := (own_lt HB3.out.row.own e).2; omega) (fun z hz' e => by have := (HB3.out.row.it z hz').1.high; omega) (by omega) (ad := ⟨w5.heap.size, 0, none⟩) (c := 1) (one_pl a b y)
      refine tree_run 4 rfl rfl (v := .slice (some ⟨w5.heap.size, 0, none⟩) 1 1) (x' := w5.alloc (.cells #[.int .i64 (a : Int), .int .i64 (b : Int), .slice (some ⟨y.g, y.o, none⟩) y.S.length y.cap] 34)) (by simp [execOp, go_sem]) (hq35.cells _ _) ?_
      refine tree_runF 5 rfl rfl rfl (x' := w7) (run_appop rfl (v := v) (v' := .slice (some ⟨w5.heap.size, 0, none⟩) 1 1) (by simp [Act.eval, Act.put]) (by simp [Act.eval, Act.put]) hr7) ?_
      refine tree_runF 6 rfl rfl rfl (v := .pointer (some ⟨w.heap.size + 1 + 1, 1, none⟩)) (x' := w7) (by simp [execOp, go_sem]) ?_
      refine tree_skipF 7 rfl rfl rfl (x' := w7.setCell ⟨w.heap.size + 1 + 1, 1, none⟩ (.slice (some ⟨g7, 0, none⟩) (M.length + 1) cap7)) (by simp [execOp, go_sem, ct7, cf7]) ?_
      refine tree_nil ?_
      have HM : Hid ((M ++ [y]).map PL.S = (L.take (i + 1)).map PL.S) := map_more HS.out hx hy
      have HF8 : Hid (Fr w1 (w7.setCell ⟨w.heap.size + 1 + 1, 1, none⟩ (.slice (some ⟨g7, 0, none⟩) (M.length + 1) cap7)) (fun b => b ≠ w.heap.size + 1 + 1 ∧ b < w.heap.size + 3)) := (HF.out.trans ((hq3.trans (hq35.cells _ _)).fr _)).trans (HF7.out.mono (fun z hz' _ => ⟨hz'.1, fun e => by have := (own_lt HB3.out.row.own e).1; omega⟩))
      generalize w7.setCell ⟨w.heap.size + 1 + 1, 1, none⟩ (.slice (some ⟨g7, 0, none⟩) (M.length + 1) cap7) = w8 at *
      clear hr7 ct7 cf7 HB5 hm hq5 hq35 hx4 t1 hq3 k0 k1 k2
      go_wp2_with fail
      go_roundg (n - (i + 1))
      case measure => go_light; omega
      case rel => go_light; exact ⟨i + 1, _, _, by go_num, by omega, HM, HB7, HQ7, HF8⟩
    · have hie : i = n := by omega
      have hml := map_len HS.out (by rw [HN.out]; omega)
      have HM : Hid (M.map PL.S = L.map PL.S) := by have := HS.out; rw [hie, List.take_of_length_le (by rw [HN.out]; exact Nat.le_refl _)] at this; exact this
      have t0 := HB.out.c0
      have t1 := HB.out.c1
      have r0 := HF.out.cell e0 ⟨by show w.heap.size + 1 ≠ _; omega, by show w.heap.size + 1 < _; omega⟩
      have r1 := HF.out.cell e1 ⟨by show w.heap.size + 1 ≠ _; omega, by show w.heap.size + 1 < _; omega⟩
      have rf : ∀ j, wr.frozen? ⟨w.heap.size + 1, j, none⟩ = false := fun j => (HF.out.frz _).trans (ef j)
      obtain ⟨hvo, ⟨hv1, hv2⟩ | ⟨gv, capv, cur, hv1, hv2⟩⟩ := HB.out.row.own
      · omega
      · subst hv1
        have HW : Hid (Nw (w.heap.size + 3) wr gv capv a b M) := HB.out.row.nw HP.out.size (by omega) (by omega)
        rw [hml, hie] at t1
        clear hv2 hvo
        go_wp2_with fail
        have F9 : Fr wr ((wr.setCell ⟨w.heap.size + 1, 0, none⟩ (.int .i64 sp)).setCell ⟨w.heap.size + 1, 1, none⟩ (.slice (some ⟨gv, 0, none⟩) n capv)) (fun b => b ≠ w.heap.size + 1) := ((Fr.refl wr _).set (fun h => h rfl) _).set (fun h => h rfl) _
        refine bodyPost_ret (v := .agg #[.int .i64 sp, .slice (some ⟨gv, 0, none⟩) n capv]) (by simp [results, Try.results28, go_sem, r0, r1]) rfl ⟨gv, capv, M, rfl, HM.out, (HW.out.keep F9 (by have := HW.out.low; omega) (fun x hx => by have := (HW.out.it x hx).1.low; omega)).mono (by omega), (HQ.out.set (by show _ ≤ w.heap.size + 1; omega) _).set (by show _ ≤ w.heap.size + 1; omega) _⟩
end Go.Proofs.Ytlelgifdnhnphab

/- Copies of samples and of planes. -/
import Derived.Test.YtdempklpmggdoaaGa571244e
import Derived.Test.YtdempklpmggdoaaGa6abe720
import Derived.Test.YtdempklpmggdoaaG66b92cc8
import Derived.Test.YtdempklpmggdoaaG03111852
import Derived.Test.YtdempklpmggdoaaG7ae59892
namespace Go.Proofs.Ytdempklpmggdoaa
open Go.RowKit
set_option linter.unusedVariables false
set_option linter.unusedSimpArgs false

/-- A call at a step of a region that draws its order. -/
theorem step_call {P : Program} {w : World} {ops : Array Oper} {o : Oper} {a : Act} {K : Act → World → Prop} {R : Exit → Act → World → Prop} {E : Prop} (hgd : o.guard = none) (f : FuncId) (ars : Array Operand) (ts : Array TypeId)
    (ho : o.op = .call { callee := .value (.func f), args := ars, argTypes := ts }) (hen : ∀ (args : Array Value) (x : World), (callFunc f args).run P x = .ok (.enter f args) x) (vs : Array Value) (hv : ars.map a.eval = vs)
    {G : Value → World → Prop} (hc : Calls P f vs w fun e w' => ∃ u, e = .returned u ∧ G u w') (h : ∀ u w', G u w' → K (a.put o.dst u) w') :
    if Region.wanted o (yielded ops a.tmps) = true then Oper.wp P o a w K R else E := by
  have hw : Region.wanted o (yielded ops a.tmps) = true := by simp [Region.wanted, hgd]
  rw [if_pos hw]
  obtain ⟨dst, op, ty, ps, af, g⟩ := o
  have ho : op = _ := ho
  subst ho
  unfold Oper.wp
  show Oper.upon P _ a _ R ((callFunc f (#[] ++ (ars.map a.eval) ++ #[])).run P w)
  rw [hv, Array.append_empty, Array.empty_append, hen, Oper.upon_enter]
  refine hc.mono ?_
  rintro e x' ⟨u, rfl, hg⟩
  exact h u x' hg
theorem eql_nil (P : Program) (w : World) (t e : TypeId) (a : Addr) (n c : Nat) (h : P.underlying t = some (.slice e)) : (binOp .eql t (.slice (some a) n c) (.slice none 0 0)).run P w = .ok (.bool false) w := by
  simp only [binOp]
  simp [Op.equal, Op.maxDepth, Lib.run_equalIn_slice_nil w 9999 t e (some a) n c 0 0 h]
/-- The cells of samples. -/
def celU (S : List Nat) : List Value := S.map fun x => .int .u32 (x : Nat)
theorem celU_length (S : List Nat) : (celU S).length = S.length := by simp [celU]
theorem celU_get {S : List Nat} {j : Nat} (h : j < S.length) : (celU S)[j]? = some (.int .u32 (S.getD j 0 : Nat)) := by
  unfold celU
  rw [List.getElem?_map, List.getD_eq_getElem?_getD, List.getElem?_eq_getElem h]; rfl
theorem addrAdd (g o j : Nat) : (⟨g, o, none⟩ : Addr).add j = ⟨g, o + j, none⟩ := by unfold Addr.add; split <;> simp_all
theorem celU_cells {w : World} {g o : Nat} {S : List Nat} (h : UIs w g o S) : ∀ j u, (celU S)[j]? = some u → w.cell? ((⟨g, o, none⟩ : Addr).add j) = some u := by
  intro j u hj
  have hjl : j < S.length := by have := (List.getElem?_eq_some_iff.1 hj).1; rw [celU_length] at this; exact this
  rw [celU_get hjl] at hj
  injection hj with hj
  rw [← hj, addrAdd]
  exact h j hjl
set_option maxHeartbeats 1000000 in
set_option maxRecDepth 100000 in
theorem clone_us (w : World) (n : Nat) (x : PL) (h : Gd w n x) (h1 : 1 ≤ n) (h2 : n ≤ 65536) :
    Calls Try.prog 57 #[x.v] w fun e w' => ∃ y : PL, e = .returned y.v ∧ y.S = x.S ∧ Hid (Mine w.heap.size w' n y) ∧ Q w w' := by
  obtain ⟨g, o, cap, S⟩ := x
  have hl := h.len
  have hcap := h.room
  have hlt := h.lt
  have hus := h.us
  simp only at hl hcap hlt hus
  subst hl
  obtain ⟨i, i1, i2, i3, i4⟩ := u32Info
  have H1 : Hid (∀ j u, (celU S)[j]? = some u → w.cell? ((⟨g, o, none⟩ : Addr).add j) = some u) := celU_cells hus
  have H2 : Hid ((celU S).length = S.length * i.size) := by show _ = _; rw [i2, celU_length, Nat.mul_one]
  have H3 : Hid (S.length * i.bytes ≤ 140737488355328) := by show _ ≤ _; rw [i3]; omega
  have H4 : Hid (Try.prog.info? 27 = some i) := i1
  have H5 : Hid (i.zero = some (.int .u32 0)) := i4
  have H6 : Hid (i.size = 1) := i2
  have H7 : Hid ((Value.int .u32 0).cells.size = i.size) := by show _ = _; rw [i2]; rfl
  have HLT : Hid (∀ i, S.getD i 0 < 4294967296) := hlt
  clear h hus hlt i1 i2 i3 i4
  have l1 := fun w => eql_nil Try.prog w 45 27 ⟨g, o, none⟩ S.length cap Try.underlying45
  unfold PL.v
  go_enter Try.func57, Try.ntmps57
  go_wp2_with (at_builtin; go_must (refine wpList_room _ rfl (.tmp 5) (.tmp 6) 45 rfl 27 i _ Try.underlying45 H4.out H5.out H7.out _ (Or.inr ⟨_, rfl⟩) rfl _ S.length cap (celU S) rfl H2.out (fun j u h => Q.cell ((Q.refl w).cells _ _) (H1.out j u h)) (by omega) (by omega) H3.out ?_; intro cap' w' q1 q2 q3 q4 q5 q6 q7))
  have hz : (w.alloc (.cells #[] 27)).heap.size = w.heap.size + 1 := by simp
  rw [hz] at q4 q5 q6 q7
  rw [H6.out, Nat.mul_one] at q6
  go_ret
  refine ⟨⟨w.heap.size + 1, 0, cap', S⟩, rfl, rfl, ⟨rfl, Nat.le_succ _, by show w.heap.size + 1 < w'.heap.size; omega, ⟨rfl, q2, fun j hj => ?_, HLT.out⟩, q7, q6, q3⟩, ((Q.refl w).cells _ _).trans q1⟩
  rw [Nat.zero_add]
  exact q5 j _ (celU_get hj)
set_option maxHeartbeats 2000000 in
set_option maxRecDepth 100000 in
theorem copiedp_any (w : World) (a b : Nat) (x : PL) (h : Gd w (a * b) x) (hs : Size a b) :
    Calls Try.prog 36 #[plV a b x] w fun e w' => ∃ y : PL, e = .returned (plV a b y) ∧ y.S = x.S ∧ Hid (Mine w.heap.size w' (a * b) y) ∧ Q w w' := by
  have HG : Hid (Gd w (a * b) x) := h
  have p1 := hs.pos
  have p2 := hs.ab
  have l1 := enters_of Try.func57 (by kernel_rfl) rfl
  have HX : Hid (∀ w2, Q w w2 → Calls Try.prog 57 #[x.v] w2 fun e w' => ∃ u, e = .returned u ∧ ∃ y : PL, u = .slice (some ⟨y.g, y.o, none⟩) y.S.length y.cap ∧ y.S = x.S ∧ Hid (Mine w2.heap.size w' (a * b) y) ∧ Q w2 w') := fun w2 q2 => (clone_us w2 (a * b) x (h.next q2) p1 p2).mono fun e w' ⟨y, h1, h2, h3, h4⟩ => ⟨_, h1, y, rfl, h2, h3, h4⟩
  unfold plV
  have hvs : x.v.cells = #[x.v] := rfl
  generalize x.v = xv at hvs HX ⊢
  clear h HG
  go_enter Try.func36, Try.ntmps36
  go_wp2_with fail
  have HQ : Hid (Q w ((w.alloc (Obj.cells #[Value.int IntKind.i64 ↑a, Value.int IntKind.i64 ↑b, xv] 47)).alloc (Obj.cells #[Value.int IntKind.i64 0, Value.int IntKind.i64 0, Value.slice none 0 0] 47))) := ((Q.refl w).cells _ _).cells _ _
  have c0 : ((w.alloc (Obj.cells #[Value.int IntKind.i64 ↑a, Value.int IntKind.i64 ↑b, xv] 47)).alloc (Obj.cells #[Value.int IntKind.i64 0, Value.int IntKind.i64 0, Value.slice none 0 0] 47)).cell? ⟨w.heap.size, 0, none⟩ = some (.int .i64 (a : Int)) := by simp [go_sem]
  have c1 : ((w.alloc (Obj.cells #[Value.int IntKind.i64 ↑a, Value.int IntKind.i64 ↑b, xv] 47)).alloc (Obj.cells #[Value.int IntKind.i64 0, Value.int IntKind.i64 0, Value.slice none 0 0] 47)).cell? ⟨w.heap.size, 1, none⟩ = some (.int .i64 (b : Int)) := by simp [go_sem]
  have c2 : ((w.alloc (Obj.cells #[Value.int IntKind.i64 ↑a, Value.int IntKind.i64 ↑b, xv] 47)).alloc (Obj.cells #[Value.int IntKind.i64 0, Value.int IntKind.i64 0, Value.slice none 0 0] 47)).cell? ⟨w.heap.size, 2, none⟩ = some xv := by simp [go_sem]
  have d0 : ((w.alloc (Obj.cells #[Value.int IntKind.i64 ↑a, Value.int IntKind.i64 ↑b, xv] 47)).alloc (Obj.cells #[Value.int IntKind.i64 0, Value.int IntKind.i64 0, Value.slice none 0 0] 47)).cell? ⟨w.heap.size + 1, 0, none⟩ = some (.int .i64 0) := by simp [go_sem]
  have d1 : ((w.alloc (Obj.cells #[Value.int IntKind.i64 ↑a, Value.int IntKind.i64 ↑b, xv] 47)).alloc (Obj.cells #[Value.int IntKind.i64 0, Value.int IntKind.i64 0, Value.slice none 0 0] 47)).cell? ⟨w.heap.size + 1, 1, none⟩ = some (.int .i64 0) := by simp [go_sem]
  have d2 : ((w.alloc (Obj.cells #[Value.int IntKind.i64 ↑a, Value.int IntKind.i64 ↑b, xv] 47)).alloc (Obj.cells #[Value.int IntKind.i64 0, Value.int IntKind.i64 0, Value.slice none 0 0] 47)).cell? ⟨w.heap.size + 1, 2, none⟩ = some (.slice none 0 0) := by simp [go_sem]
  have fz : ∀ j, ((w.alloc (Obj.cells #[Value.int IntKind.i64 ↑a, Value.int IntKind.i64 ↑b, xv] 47)).alloc (Obj.cells #[Value.int IntKind.i64 0, Value.int IntKind.i64 0, Value.slice none 0 0] 47)).frozen? ⟨w.heap.size + 1, j, none⟩ = false := fun j => by simp [go_sem]
  generalize ((w.alloc (Obj.cells #[Value.int IntKind.i64 ↑a, Value.int IntKind.i64 ↑b, xv] 47)).alloc (Obj.cells #[Value.int IntKind.i64 0, Value.int IntKind.i64 0, Value.slice none 0 0] 47)) = wz at *
  have n0 := qw_some wz
  have f0 := qw_cell c0
  have f1 := qw_cell c1
  have f2 := qw_cell c2
  refine wp_region_mk [0, 1, 2, 3, 4, 5] [[6, 7, 8]] 3 _ (by kernel_rfl) (by kernel_rfl) rfl (by kernel_rfl) ?_
  simp only [List.filterMap_cons, List.filterMap_nil, List.getElem?_cons_zero, List.getElem?_cons_succ]
  repeat (first | go_big_quiet_step (fail) | quiet_step (fail))
  refine wpQuiet_nil ?_
  intro x hx
  refine tree_call 6 rfl rfl (run_fn 57 #[.tmp 8] _ rfl l1 (vs := #[xv]) (by simp [Act.eval])) (HX.out x (HQ.out.trans hx)) ?_
  rintro u w2 ⟨y, rfl, hy, hm, hq⟩
  have hq2 : Q wz w2 := hx.trans hq
  refine ⟨hq2, ?_⟩
  refine tree_run 7 rfl rfl (v := .agg #[.int .i64 (a : Int), .int .i64 (b : Int), .slice (some ⟨y.g, y.o, none⟩) y.S.length y.cap]) (x' := w2) (by simp [execOp, go_sem]) hq2 ?_
  have d02 := hq2.cell d0
  have d12 := hq2.cell d1
  have d22 := hq2.cell d2
  have fz2 : ∀ j, w2.frozen? ⟨w.heap.size + 1, j, none⟩ = false := fun j => (hq2.2 _).trans (fz j)
  refine tree_skipF 8 rfl rfl rfl (x' := (((w2.setCell ⟨w.heap.size + 1, 0, none⟩ (.int .i64 (a : Int))).setCell ⟨w.heap.size + 1, 1, none⟩ (.int .i64 (b : Int))).setCell ⟨w.heap.size + 1, 2, none⟩ (.slice (some ⟨y.g, y.o, none⟩) y.S.length y.cap))) (by simp [execOp, go_sem, d02, d12, d22, fz2]) ?_
  refine tree_nil ?_
  have kq : Hid (Mine w.heap.size (((w2.setCell ⟨w.heap.size + 1, 0, none⟩ (.int .i64 (a : Int))).setCell ⟨w.heap.size + 1, 1, none⟩ (.int .i64 (b : Int))).setCell ⟨w.heap.size + 1, 2, none⟩ (.slice (some ⟨y.g, y.o, none⟩) y.S.length y.cap)) (a * b) y) := by
    have hlo : w.heap.size + 1 < x.heap.size := Nat.lt_of_lt_of_le (cell_in d0) hx.1.size
    refine (hm.out.keep (((((Fr.refl w2 (fun b => b ≠ w.heap.size + 1)).set (fun h => h rfl) _).set (fun h => h rfl) _).set (fun h => h rfl) _)) ?_).mono ?_
    · have := hm.out.low; omega
    · have := hx.1.size; have := HQ.out.1.size; omega
  have qq : Hid (Q w (((w2.setCell ⟨w.heap.size + 1, 0, none⟩ (.int .i64 (a : Int))).setCell ⟨w.heap.size + 1, 1, none⟩ (.int .i64 (b : Int))).setCell ⟨w.heap.size + 1, 2, none⟩ (.slice (some ⟨y.g, y.o, none⟩) y.S.length y.cap))) := (((HQ.out.trans hq2).set (Nat.le_succ _) _).set (Nat.le_succ _) _).set (Nat.le_succ _) _
  have k0 : (((w2.setCell ⟨w.heap.size + 1, 0, none⟩ (.int .i64 (a : Int))).setCell ⟨w.heap.size + 1, 1, none⟩ (.int .i64 (b : Int))).setCell ⟨w.heap.size + 1, 2, none⟩ (.slice (some ⟨y.g, y.o, none⟩) y.S.length y.cap)).cell? ⟨w.heap.size + 1, 0, none⟩ = some (.int .i64 (a : Int)) := by simp [go_sem, d02, d12, d22]
  have k1 : (((w2.setCell ⟨w.heap.size + 1, 0, none⟩ (.int .i64 (a : Int))).setCell ⟨w.heap.size + 1, 1, none⟩ (.int .i64 (b : Int))).setCell ⟨w.heap.size + 1, 2, none⟩ (.slice (some ⟨y.g, y.o, none⟩) y.S.length y.cap)).cell? ⟨w.heap.size + 1, 1, none⟩ = some (.int .i64 (b : Int)) := by simp [go_sem, d02, d12, d22]
  have k2 : (((w2.setCell ⟨w.heap.size + 1, 0, none⟩ (.int .i64 (a : Int))).setCell ⟨w.heap.size + 1, 1, none⟩ (.int .i64 (b : Int))).setCell ⟨w.heap.size + 1, 2, none⟩ (.slice (some ⟨y.g, y.o, none⟩) y.S.length y.cap)).cell? ⟨w.heap.size + 1, 2, none⟩ = some (.slice (some ⟨y.g, y.o, none⟩) y.S.length y.cap) := by simp [go_sem, d02, d12, d22]
  generalize (((w2.setCell ⟨w.heap.size + 1, 0, none⟩ (.int .i64 (a : Int))).setCell ⟨w.heap.size + 1, 1, none⟩ (.int .i64 (b : Int))).setCell ⟨w.heap.size + 1, 2, none⟩ (.slice (some ⟨y.g, y.o, none⟩) y.S.length y.cap)) = w5 at *
  clear hm d02 d12 d22 fz2 hq hq2 hx c0 c1 c2 d0 d1 d2 fz
  go_wp2_with fail
  refine bodyPost_ret (v := .agg #[.int .i64 (a : Int), .int .i64 (b : Int), .slice (some ⟨y.g, y.o, none⟩) y.S.length y.cap]) (by simp [results, Try.results36, go_sem, k0, k1, k2]) rfl ⟨y, rfl, hy, kq, qq.out⟩
end Go.Proofs.Ytdempklpmggdoaa
/- A picture that is being built: a box with its space and its planes so far. -/
namespace Go.Proofs.Ytdempklpmggdoaa
open Go.RowKit
set_option linter.unusedVariables false
set_option linter.unusedSimpArgs false

theorem own_up {w : World} {base base' : Nat} {e : TypeId} {size n : Nat} {v : Value} {xs : List Value} (h : w.ownsRow base e size v n xs) (hg : ∀ g, v.ownBlock = some g → base' ≤ g) : w.ownsRow base' e size v n xs := by
  refine ⟨h.1, ?_⟩
  rcases h.2 with c | ⟨g, cap, cur, h1, h2, h3⟩
  · exact Or.inl c
  · exact Or.inr ⟨g, cap, cur, h1, hg g (by rw [h1]; rfl), h3⟩
structure Bld (base : Nat) (w : World) (tb : Nat) (sp : Int) (v : Value) (a b : Nat) (M : List PL) : Prop where
  c0 : w.cell? ⟨tb, 0, none⟩ = some (.int .i64 sp)
  c1 : w.cell? ⟨tb, 1, none⟩ = some v
  fz : ∀ j, w.frozen? ⟨tb, j, none⟩ = false
  row : Row base w v a b M
  tb : tb < base
theorem Bld.next {base : Nat} {w w' : World} {tb : Nat} {sp : Int} {v : Value} {a b : Nat} {M : List PL} (h : Bld base w tb sp v a b M) (q : Q w w') : Bld base w' tb sp v a b M :=
  ⟨q.cell h.c0, q.cell h.c1, fun j => (q.2 _).trans (h.fz j), h.row.next q, h.tb⟩
/-- One plane in a row of its own. -/
theorem one_pl {w : World} {t : TypeId} (a b : Nat) (y : PL) : ∀ j u, (plL a b y)[j]? = some u → (w.alloc (.cells #[.int .i64 (a : Int), .int .i64 (b : Int), y.v] t)).cell? ((⟨w.heap.size, 0, none⟩ : Addr).add j) = some u := by
  intro j u hu
  rw [addrAdd, Nat.zero_add, cell_of_row _ _ j #[.int .i64 (a : Int), .int .i64 (b : Int), y.v] t (0, 0) (heap_alloc_new w _)]
  simpa [plL] using hu
theorem plL_one (a b : Nat) (y : PL) : ∀ u ∈ plL a b y, u.oneCell' = true := fun u hu => by
  simp only [plL, List.mem_cons, List.not_mem_nil, or_false] at hu
  rcases hu with rfl | rfl | rfl <;> rfl
/-- A plane is appended. -/
theorem Bld.app {base : Nat} {w0 w : World} {tb : Nat} {sp : Int} {v : Value} {a b : Nat} {M : List PL} (h : Bld base w tb sp v a b M) (q0 : Q w0 w) (hb : w0.heap.size ≤ tb) (hw : base ≤ w.heap.size) {y : PL} (hy : Mine base w (a * b) y) (hn : v.ownBlock ≠ some y.g) (hd : ∀ z ∈ M, z.g ≠ y.g) (hM : M.length ≤ 1000) {ad : Addr} {c : Nat} (hc : ∀ j u, (plL a b y)[j]? = some u → w.cell? (ad.add j) = some u) :
    ∃ g cap w', (Builtin.append_ #[22, 22] 22 #[v, .slice (some ad) 1 c]).run Try.prog w = .ok (.slice (some ⟨g, 0, none⟩) (M.length + 1) cap) w' ∧ w'.cell? ⟨tb, 1, none⟩ = some v ∧ (∀ j, w'.frozen? ⟨tb, j, none⟩ = false) ∧
      Hid (Bld base (w'.setCell ⟨tb, 1, none⟩ (.slice (some ⟨g, 0, none⟩) (M.length + 1) cap)) tb sp (.slice (some ⟨g, 0, none⟩) (M.length + 1) cap) a b (M ++ [y])) ∧ Hid (Q w0 (w'.setCell ⟨tb, 1, none⟩ (.slice (some ⟨g, 0, none⟩) (M.length + 1) cap))) ∧
      Hid (Fr w (w'.setCell ⟨tb, 1, none⟩ (.slice (some ⟨g, 0, none⟩) (M.length + 1) cap)) (fun b => b ≠ tb ∧ v.ownBlock ≠ some b)) := by
  obtain ⟨i, i1, i2, i3, i4⟩ := planeInfo
  have hle : w0.heap.size ≤ base := Nat.le_trans hb (Nat.le_of_lt h.tb)
  obtain ⟨g, cap, w', hr, o1, o2, o3, o4⟩ := run_app_qg (P := Try.prog) w w0 q0 22 22 47 i _ 3 40 Try.underlying22 i1 i4 i2 i3 rfl (by decide) v M.length (newsP a b M) (own_up h.row.own (fun g e => Nat.le_trans hle (own_lt h.row.own e).1)) ad 1 c (plL a b y) rfl hc (plL_one a b y) (by decide) (by unfold maxLen; omega) (by omega)
  have hvt : v.ownBlock ≠ some tb := fun e => by have := (own_lt h.row.own e).1; have := h.tb; omega
  have fz : ∀ p, w'.frozen? p = w.frozen? p := fun p => (o2.2 p).trans (q0.2 p).symm
  have hg : base ≤ g := by
    rcases o4 with e | e
    · exact (own_lt h.row.own e).1
    · omega
  have hgt : g ≠ tb := by have := h.tb; omega
  have ct : w'.cell? ⟨tb, 1, none⟩ = some v := o3.cell h.c1 (fun e => hvt e.symm)
  have ct0 : w'.cell? ⟨tb, 0, none⟩ = some (.int .i64 sp) := o3.cell h.c0 (fun e => hvt e.symm)
  have R1 : Row base w' (.slice (some ⟨g, 0, none⟩) (M.length + 1) cap) a b (M ++ [y]) := h.row.push (own_up o1 (fun g' e => by injection e with e; rw [← e]; exact hg)) o3 o4 fz hy hn hd
  have F2 : Fr w' (w'.setCell ⟨tb, 1, none⟩ (.slice (some ⟨g, 0, none⟩) (M.length + 1) cap)) (fun b => b ≠ tb) := (Fr.refl w' _).set (fun h => h rfl) _
  refine ⟨g, cap, w', hr, ct, fun j => (fz _).trans (h.fz j), ⟨?_, World.cell?_setCell_same _ _ _ ct, fun j => by rw [World.frozen?_setCell]; exact (fz _).trans (h.fz j), R1.keep F2 (fun x hx => ?_) (fun x hx => ?_), h.tb⟩, o2.set hb _, ?_⟩
  · rw [World.cell?_setCell_other _ _ _ _ (by simp)]; exact ct0
  · injection hx with hx
    have hx : g = x := hx
    rw [← hx]; exact hgt
  · have := (R1.it x hx).1.low; have := h.tb; omega
  · exact (Fr.mk o3.os o3.tape o3.output o3.size (fun x hx hR => o3.block x hx (fun e => hR.2 e.symm)) fz : Fr w w' (fun b => b ≠ tb ∧ v.ownBlock ≠ some b)).trans (F2.mono (fun x hx _ => hx.1))
theorem Bld.start {base : Nat} {w : World} {tb : Nat} {sp : Int} (c0 : w.cell? ⟨tb, 0, none⟩ = some (.int .i64 sp)) (c1 : w.cell? ⟨tb, 1, none⟩ = some (.slice none 0 0)) (fz : ∀ j, w.frozen? ⟨tb, j, none⟩ = false) (ht : tb < base) (a b : Nat) : Bld base w tb sp (.slice none 0 0) a b [] :=
  ⟨c0, c1, fz, Row.nil _ _ _ _, ht⟩
theorem run_appop {P : Program} {A : Act} {o : Oper} {x x' : World} {s u : Operand} {t : TypeId} (ho : o.op = .call { callee := .builtin .append, args := #[s, u], argTypes := #[t, t] }) {v v' r : Value} (hs : A.eval s = v) (hu : A.eval u = v') (hr : (Builtin.append_ #[t, t] o.type #[v, v']).run P x = .ok r x') : (execOp A.eval o).run P x = .ok (.value r) x' := by
  unfold execOp
  simp only [ho, resolve, invoke, builtin, Sem.run_bind, Sem.run_pure, Result.andThen_ok, List.map_toArray, List.map_cons, List.map_nil, hs, hu, hr]
theorem map_len {M L : List PL} {i : Nat} (h : M.map PL.S = (L.take i).map PL.S) (hi : i ≤ L.length) : M.length = i := by
  have := congrArg List.length h
  rw [List.length_map, List.length_map, List.length_take] at this
  omega
theorem map_more {M L : List PL} {i : Nat} {x y : PL} (h : M.map PL.S = (L.take i).map PL.S) (hx : L[i]? = some x) (hy : y.S = x.S) : (M ++ [y]).map PL.S = (L.take (i + 1)).map PL.S := by
  rw [List.take_add_one, hx, List.map_append, List.map_append, h]
  simp [hy]
theorem copiedp_u (w : World) (a b : Nat) (x : PL) (h : Gd w (a * b) x) (hs : Size a b) :
    Calls Try.prog 36 #[plV a b x] w fun e w' => ∃ u, e = .returned u ∧ ∃ y : PL, u = .agg #[.int .i64 (a : Int), .int .i64 (b : Int), .slice (some ⟨y.g, y.o, none⟩) y.S.length y.cap] ∧ y.S = x.S ∧ Hid (Mine w.heap.size w' (a * b) y) ∧ Q w w' :=
  (copiedp_any w a b x h hs).mono fun e w' ⟨y, h1, h2, h3, h4⟩ => ⟨_, h1, y, rfl, h2, h3, h4⟩
end Go.Proofs.Ytdempklpmggdoaa
/- Copies of pictures. -/
namespace Go.Proofs.Ytdempklpmggdoaa
open Go.RowKit
set_option linter.unusedVariables false
set_option linter.unusedSimpArgs false

set_option maxHeartbeats 4000000 in
set_option maxRecDepth 100000 in
theorem copied_any (w : World) (sp : Int) (g o cap a b n : Nat) (L : List PL) (h : Pc w g o a b L) (hn : L.length = n) (hcap : n ≤ cap) :
    Calls Try.prog 23 #[picV sp g o n cap] w fun e w' => ∃ g' cap' M, e = .returned (picV sp g' 0 n cap') ∧ M.map PL.S = L.map PL.S ∧ Hid (Nw w.heap.size w' g' cap' a b M) ∧ Q w w' := by
  have HP : Hid (Pc w g o a b L) := h
  have HN : Hid (L.length = n) := hn
  have n4 : n ≤ 4 := by rw [← hn]; exact h.n4
  have n1 : 1 ≤ n := by rw [← hn]; exact h.n1
  have l1 := enters_of Try.func36 (by kernel_rfl) rfl
  clear h hn
  unfold picV
  go_enter Try.func23, Try.ntmps23
  go_wp2_with fail
  have HQ : Hid (Q w (((w.alloc (Obj.cells #[Value.int IntKind.i64 sp, Value.slice (some { block := g, off := o }) n cap] 24)).alloc (Obj.cells #[Value.int IntKind.i64 0, Value.slice none 0 0] 24)).alloc (Obj.cells #[Value.int IntKind.i64 sp, Value.slice none 0 0] 24))) := (((Q.refl w).cells _ _).cells _ _).cells _ _
  have hz : (((w.alloc (Obj.cells #[Value.int IntKind.i64 sp, Value.slice (some { block := g, off := o }) n cap] 24)).alloc (Obj.cells #[Value.int IntKind.i64 0, Value.slice none 0 0] 24)).alloc (Obj.cells #[Value.int IntKind.i64 sp, Value.slice none 0 0] 24)).heap.size = w.heap.size + 3 := by simp
  have e0 : (((w.alloc (Obj.cells #[Value.int IntKind.i64 sp, Value.slice (some { block := g, off := o }) n cap] 24)).alloc (Obj.cells #[Value.int IntKind.i64 0, Value.slice none 0 0] 24)).alloc (Obj.cells #[Value.int IntKind.i64 sp, Value.slice none 0 0] 24)).cell? ⟨w.heap.size + 1, 0, none⟩ = some (.int .i64 0) := by simp [go_sem]
  have e1 : (((w.alloc (Obj.cells #[Value.int IntKind.i64 sp, Value.slice (some { block := g, off := o }) n cap] 24)).alloc (Obj.cells #[Value.int IntKind.i64 0, Value.slice none 0 0] 24)).alloc (Obj.cells #[Value.int IntKind.i64 sp, Value.slice none 0 0] 24)).cell? ⟨w.heap.size + 1, 1, none⟩ = some (.slice none 0 0) := by simp [go_sem]
  have ef : ∀ j, (((w.alloc (Obj.cells #[Value.int IntKind.i64 sp, Value.slice (some { block := g, off := o }) n cap] 24)).alloc (Obj.cells #[Value.int IntKind.i64 0, Value.slice none 0 0] 24)).alloc (Obj.cells #[Value.int IntKind.i64 sp, Value.slice none 0 0] 24)).frozen? ⟨w.heap.size + 1, j, none⟩ = false := fun j => by simp [go_sem]
  have HB : Hid (Bld (w.heap.size + 3) (((w.alloc (Obj.cells #[Value.int IntKind.i64 sp, Value.slice (some { block := g, off := o }) n cap] 24)).alloc (Obj.cells #[Value.int IntKind.i64 0, Value.slice none 0 0] 24)).alloc (Obj.cells #[Value.int IntKind.i64 sp, Value.slice none 0 0] 24)) (w.heap.size + 1 + 1) sp (.slice none 0 0) a b []) := Bld.start (by simp [go_sem]) (by simp [go_sem]) (fun j => by simp [go_sem]) (by omega) a b
  generalize (((w.alloc (Obj.cells #[Value.int IntKind.i64 sp, Value.slice (some { block := g, off := o }) n cap] 24)).alloc (Obj.cells #[Value.int IntKind.i64 0, Value.slice none 0 0] 24)).alloc (Obj.cells #[Value.int IntKind.i64 sp, Value.slice none 0 0] 24)) = w1 at *
  go_loopg [12] n (fun m s12 wx => ∃ (i : Nat) (v : Value) (M : List PL), s12 = .int .i64 i ∧ i + m = n ∧ Hid (M.map PL.S = (L.take i).map PL.S) ∧ Hid (Bld (w.heap.size + 3) wx (w.heap.size + 1 + 1) sp v a b M) ∧ Hid (Q w wx) ∧ Hid (Fr w1 wx (fun b => b ≠ w.heap.size + 1 + 1 ∧ b < w.heap.size + 3)))
  case atStart => exact ⟨0, _, [], rfl, by omega, rfl, HB, HQ, Fr.refl _ _⟩
  case round =>
    obtain ⟨i, v, M, rfl, him, HS, HB, HQ, HF⟩ := hrel
    by_cases hi : i < n
    · have hi0 : (0 : Int) ≤ (i : Int) := by omega
      have hi1 : (i : Int) < (n : Int) := by omega
      obtain ⟨x, hx⟩ : ∃ x, L[i]? = some x := ⟨_, List.getElem?_eq_getElem (by rw [HN.out]; exact hi)⟩
      obtain ⟨c0, c1, c2⟩ := (HP.out.row.next HQ.out) i x hx
      unfold PL.v at c2
      have hgx : Hid (Gd w (a * b) x) := HP.out.it x (List.mem_of_getElem? hx)
      go_wp2_with fail
      have hq3 : Q wr (wr.alloc (Obj.cells #[Value.int IntKind.i64 ↑a, Value.int IntKind.i64 ↑b, Value.slice (some { block := x.g, off := x.o }) x.S.length x.cap] 47)) := (Q.refl wr).cells _ _
      have k0 : (wr.alloc (Obj.cells #[Value.int IntKind.i64 ↑a, Value.int IntKind.i64 ↑b, Value.slice (some { block := x.g, off := x.o }) x.S.length x.cap] 47)).cell? ⟨wr.heap.size, 0, none⟩ = some (.int .i64 (a : Int)) := by simp [go_sem]
      have k1 : (wr.alloc (Obj.cells #[Value.int IntKind.i64 ↑a, Value.int IntKind.i64 ↑b, Value.slice (some { block := x.g, off := x.o }) x.S.length x.cap] 47)).cell? ⟨wr.heap.size, 1, none⟩ = some (.int .i64 (b : Int)) := by simp [go_sem]
      have k2 : (wr.alloc (Obj.cells #[Value.int IntKind.i64 ↑a, Value.int IntKind.i64 ↑b, Value.slice (some { block := x.g, off := x.o }) x.S.length x.cap] 47)).cell? ⟨wr.heap.size, 2, none⟩ = some (.slice (some ⟨x.g, x.o, none⟩) x.S.length x.cap) := by simp [go_sem]
      generalize (wr.alloc (Obj.cells #[Value.int IntKind.i64 ↑a, Value.int IntKind.i64 ↑b, Value.slice (some { block := x.g, off := x.o }) x.S.length x.cap] 47)) = w3 at *
      have HB3 : Hid (Bld (w.heap.size + 3) w3 (w.heap.size + 1 + 1) sp v a b M) := HB.out.next hq3
      have HQ3 : Hid (Q w w3) := HQ.out.trans hq3
      have t1 := HB3.out.c1
      have f1 := qw_cell t1
      have f2 := qw_cell k0
      have f3 := qw_cell k1
      have f4 := qw_cell k2
      have n0 := qw_some w3
      have hml := map_len HS.out (by rw [HN.out]; omega)
      clear c0 c1 c2
      refine wp_region_mk [0, 1, 2] [[3, 4, 5, 6, 7]] 5 _ (by kernel_rfl) (by kernel_rfl) rfl (by kernel_rfl) ?_
      simp only [List.filterMap_cons, List.filterMap_nil, List.getElem?_cons_zero, List.getElem?_cons_succ]
      repeat (first | go_big_quiet_step (fail) | quiet_step (fail))
      refine wpQuiet_nil ?_
      intro x4 hx4
      clear f1 f2 f3 f4 n0
      refine tree_call 3 rfl rfl (run_fn 36 #[.tmp 18] _ rfl l1 (vs := #[plV a b x]) (by simp [Act.eval, plV, PL.v])) (copiedp_u x4 a b x (hgx.out.next (HQ3.out.trans hx4)) HP.out.size) ?_
      rintro u w5 ⟨y, rfl, hy, hm, hq5⟩
      have hq35 : Q w3 w5 := hx4.trans hq5
      refine ⟨hq35, ?_⟩
      have HB5 := HB3.out.next (hq35.cells #[.int .i64 (a : Int), .int .i64 (b : Int), .slice (some ⟨y.g, y.o, none⟩) y.S.length y.cap] 47)
      have hz3 : w.heap.size + 3 ≤ w3.heap.size := by have := HF.out.size; have := hq3.1.size; omega
      have hlow := hm.out.low
      have hs34 := hx4.1.size
      obtain ⟨g7, cap7, w7, hr7, ct7, cf7, HB7, HQ7, HF7⟩ := HB5.app (HQ3.out.trans (hq35.cells _ _)) (by omega) (by have := hq35.1.size; simp; omega) (y := y) ((hm.out.next ((Q.refl w5).cells _ _)).mono (by omega)) (fun e => by have := (own_lt HB3.out.row.own e).2; omega) (fun z hz' e => by have := (HB3.out.row.it z hz').1.high; omega) (by omega) (ad := ⟨w5.heap.size, 0, none⟩) (c := 1) (one_pl a b y)
      refine tree_run 4 rfl rfl (v := .slice (some ⟨w5.heap.size, 0, none⟩) 1 1) (x' := w5.alloc (.cells #[.int .i64 (a : Int), .int .i64 (b : Int), .slice (some ⟨y.g, y.o, none⟩) y.S.length y.cap] 47)) (by simp [execOp, go_sem]) (hq35.cells _ _) ?_
      refine tree_runF 5 rfl rfl rfl (x' := w7) (run_appop rfl (v := v) (v' := .slice (some ⟨w5.heap.size, 0, none⟩) 1 1) (by simp [Act.eval, Act.put]) (by simp [Act.eval, Act.put]) hr7) ?_
      refine tree_runF 6 rfl rfl rfl (v := .pointer (some ⟨w.heap.size + 1 + 1, 1, none⟩)) (x' := w7) (by simp [execOp, go_sem]) ?_
      refine tree_skipF 7 rfl rfl rfl (x' := w7.setCell ⟨w.heap.size + 1 + 1, 1, none⟩ (.slice (some ⟨g7, 0, none⟩) (M.length + 1) cap7)) (by simp [execOp, go_sem, ct7, cf7]) ?_
      refine tree_nil ?_
      have HM : Hid ((M ++ [y]).map PL.S = (L.take (i + 1)).map PL.S) := map_more HS.out hx hy
      have HF8 : Hid (Fr w1 (w7.setCell ⟨w.heap.size + 1 + 1, 1, none⟩ (.slice (some ⟨g7, 0, none⟩) (M.length + 1) cap7)) (fun b => b ≠ w.heap.size + 1 + 1 ∧ b < w.heap.size + 3)) := (HF.out.trans ((hq3.trans (hq35.cells _ _)).fr _)).trans (HF7.out.mono (fun z hz' _ => ⟨hz'.1, fun e => by have := (own_lt HB3.out.row.own e).1; omega⟩))
      generalize w7.setCell ⟨w.heap.size + 1 + 1, 1, none⟩ (.slice (some ⟨g7, 0, none⟩) (M.length + 1) cap7) = w8 at *
      clear hr7 ct7 cf7 HB5 hm hq5 hq35 hx4 t1 hq3 k0 k1 k2
      go_wp2_with fail
      go_roundg (n - (i + 1))
      case measure => go_light; omega
      case rel => go_light; exact ⟨i + 1, _, _, by go_num, by omega, HM, HB7, HQ7, HF8⟩
    · have hie : i = n := by omega
      have hml := map_len HS.out (by rw [HN.out]; omega)
      have HM : Hid (M.map PL.S = L.map PL.S) := by have := HS.out; rw [hie, List.take_of_length_le (by rw [HN.out]; exact Nat.le_refl _)] at this; exact this
      have t0 := HB.out.c0
      have t1 := HB.out.c1
      have r0 := HF.out.cell e0 ⟨by show w.heap.size + 1 ≠ _; omega, by show w.heap.size + 1 < _; omega⟩
      have r1 := HF.out.cell e1 ⟨by show w.heap.size + 1 ≠ _; omega, by show w.heap.size + 1 < _; omega⟩
      have rf : ∀ j, wr.frozen? ⟨w.heap.size + 1, j, none⟩ = false := fun j => (HF.out.frz _).trans (ef j)
      obtain ⟨hvo, ⟨hv1, hv2⟩ | ⟨gv, capv, cur, hv1, hv2⟩⟩ := HB.out.row.own
      · omega
      · subst hv1
        have HW : Hid (Nw (w.heap.size + 3) wr gv capv a b M) := HB.out.row.nw HP.out.size (by omega) (by omega)
        rw [hml, hie] at t1
        clear hv2 hvo
        go_wp2_with fail
        have F9 : Fr wr ((wr.setCell ⟨w.heap.size + 1, 0, none⟩ (.int .i64 sp)).setCell ⟨w.heap.size + 1, 1, none⟩ (.slice (some ⟨gv, 0, none⟩) n capv)) (fun b => b ≠ w.heap.size + 1) := ((Fr.refl wr _).set (fun h => h rfl) _).set (fun h => h rfl) _
        refine bodyPost_ret (v := .agg #[.int .i64 sp, .slice (some ⟨gv, 0, none⟩) n capv]) (by simp [results, Try.results23, go_sem, r0, r1]) rfl ⟨gv, capv, M, rfl, HM.out, (HW.out.keep F9 (by have := HW.out.low; omega) (fun x hx => by have := (HW.out.it x hx).1.low; omega)).mono (by omega), (HQ.out.set (by show _ ≤ w.heap.size + 1; omega) _).set (by show _ ≤ w.heap.size + 1; omega) _⟩
end Go.Proofs.Ytdempklpmggdoaa
/- Keys of samples as plain numbers; what Key and FromKey return. -/
namespace Go.Proofs.Ytdempklpmggdoaa
open Go.RowKit

def keyN (s : Nat) : Nat := if s < 2147483648 then s + 2147483648 else 4294967295 - s
def fkeyN (k : Nat) : Nat := if 2147483648 ≤ k then k - 2147483648 else 4294967295 - k
theorem keyN_lt {s : Nat} (h : s < 4294967296) : keyN s < 4294967296 := by unfold keyN; split <;> omega
theorem fkeyN_lt {s : Nat} (h : s < 4294967296) : fkeyN s < 4294967296 := by unfold fkeyN; split <;> omega
theorem keyV_N {s : Nat} (h : s < 4294967296) : keyV (s : Int) = (keyN s : Int) := by
  unfold keyN
  by_cases g : s < 2147483648
  · rw [keyV_lo (by omega), if_pos g]; omega
  · rw [keyV_hi (by omega), if_neg g]; omega
theorem keyN_inj {a b : Nat} (ha : a < 4294967296) (hb : b < 4294967296) (h : keyN a = keyN b) : a = b := by
  unfold keyN at h; split at h <;> split at h <;> omega
theorem fkey_key {s : Nat} (h : s < 4294967296) : fkeyN (keyN s) = s := by
  unfold keyN fkeyN; split <;> split <;> omega
theorem key_fkey {k : Nat} (h : k < 4294967296) : keyN (fkeyN k) = k := by
  unfold keyN fkeyN; split <;> split <;> omega

theorem not_hi (k : Int) (h0 : 2147483648 ≤ k) (h1 : k ≤ 4294967295) : bits .andNot .u32 k 2147483648 = k - 2147483648 := by go_bits2
set_option maxHeartbeats 400000 in
theorem fromkey_any (k : Nat) (h1 : k < 4294967296) (w : World) :
    Calls Try.prog 111 #[.int .u32 k] w fun e w' => e = .returned (.int .u32 (fkeyN k : Nat)) ∧ w' = w := by
  by_cases h : k < 2147483648
  · have e1 := and_lo k (by omega) (by omega)
    go_enter Try.func111, Try.ntmps111
    go_wp2
    go_ret
    exact ⟨ret_int (by unfold fkeyN; rw [if_neg (by omega)]; omega), rfl⟩
  · have e1 := and_hi k (by omega) (by omega)
    have e2 := not_hi k (by omega) (by omega)
    go_enter Try.func111, Try.ntmps111
    go_wp2
    go_ret
    exact ⟨ret_int (by unfold fkeyN; rw [if_pos (by omega)]; omega), rfl⟩
set_option maxHeartbeats 400000 in
theorem keyn_any (s : Nat) (h1 : s < 4294967296) (w : World) :
    Calls Try.prog 76 #[.int .u32 s] w fun e w' => e = .returned (.int .u32 (keyN s : Nat)) ∧ w' = w := by
  have := key_any s (by omega) (by omega) w
  rw [keyV_N h1] at this
  exact this
end Go.Proofs.Ytdempklpmggdoaa
/- Lifting: keys that go round; what Lift and Drop return, the program's and the document's. -/
namespace Go.Proofs.Ytdempklpmggdoaa
open Go.RowKit
set_option linter.unusedVariables false

/-- A half, rounded down, of a number that goes round 2^32. -/
def hlfN (d : Nat) : Nat := if d < 2147483648 then d / 2 else d / 2 + 2147483648
theorem hlfN_lt {d : Nat} (h : d < 4294967296) : hlfN d < 4294967296 := by unfold hlfN; split <;> omega
def addN (a b : Nat) : Nat := (a + b) % 4294967296
def lesN (a b : Nat) : Nat := (a + 4294967296 - b) % 4294967296
theorem addN_lt (a b : Nat) : addN a b < 4294967296 := Nat.mod_lt _ (by decide)
theorem lesN_lt (a b : Nat) : lesN a b < 4294967296 := Nat.mod_lt _ (by decide)
theorem addN_comm (a b : Nat) : addN a b = addN b a := by unfold addN; rw [Nat.add_comm]
theorem add_e (a b : Nat) : ((a : Int) + (b : Int)) % 4294967296 = (addN a b : Nat) := by unfold addN; omega
theorem sub_e (a b : Nat) (hb : b < 4294967296) : ((a : Int) - (b : Int)) % 4294967296 = (lesN a b : Nat) := by unfold lesN; omega
theorem add_h (a : Nat) : ((a : Int) + 2147483648) % 4294967296 = (addN a 2147483648 : Nat) := by unfold addN; omega
theorem sub_h (a : Nat) : ((a : Int) - 2147483648) % 4294967296 = (lesN a 2147483648 : Nat) := by unfold lesN; omega
theorem sp_drewN {a b : World} (h : Q a b) (n : Nat) : Q a (b.drewN n) := h.trans ⟨⟨rfl, rfl, rfl, Nat.le_refl _, fun _ _ => rfl⟩, fun _ => rfl⟩
set_option maxHeartbeats 400000 in
theorem halved_any (d : Nat) (hd : d < 4294967296) (w : World) : Calls Try.prog 110 #[.int .u32 (d : Int)] w fun e w' => e = .returned (.int .u32 (hlfN d : Nat)) ∧ w' = w := by
  go_enter Try.func110, Try.ntmps110
  go_wp2_with fail
  go_ret
  exact ⟨ret_int (by unfold hlfN wrap32; split <;> omega), rfl⟩
set_option maxHeartbeats 400000 in
theorem fromdiff_any (d : Nat) (hd : d < 4294967296) (w : World) : Calls Try.prog 112 #[.int .u32 (d : Int)] w fun e w' => e = .returned (.int .u32 (fkeyN (addN d 2147483648) : Nat)) ∧ w' = w := by
  have e1 := add_h d
  go_enter Try.func112, Try.ntmps112
  go_wp2_with fail
  refine (fromkey_any _ (addN_lt d 2147483648) _).mono ?_
  rintro e w1 ⟨rfl, rfl⟩
  go_wp2_with fail
  go_ret
  exact ⟨rfl, rfl⟩
set_option maxHeartbeats 400000 in
theorem differ_any (d : Nat) (hd : d < 4294967296) (w : World) : Calls Try.prog 113 #[.int .u32 (d : Int)] w fun e w' => e = .returned (.int .u32 (lesN (keyN d) 2147483648 : Nat)) ∧ w' = w := by
  have e1 := sub_h (keyN d)
  go_enter Try.func113, Try.ntmps113
  go_wp2_with fail
  refine (keyn_any _ hd _).mono ?_
  rintro e w1 ⟨rfl, rfl⟩
  go_wp2_with fail
  go_ret
  exact ⟨ret_int e1, rfl⟩
def lcoN (r b : Nat) : Nat := lesN (keyN r) (keyN b)
def ltN (r b : Nat) : Nat := addN (keyN b) (hlfN (lcoN r b))
def lcgN (r g b : Nat) : Nat := lesN (keyN g) (ltN r b)
def lyN (r g b : Nat) : Nat := addN (ltN r b) (hlfN (lcgN r g b))
def lift0 (r g b : Nat) : Nat := fkeyN (lyN r g b)
def lift1 (r g b : Nat) : Nat := fkeyN (addN (lcgN r g b) 2147483648)
def lift2 (r g b : Nat) : Nat := fkeyN (addN (lcoN r b) 2147483648)
def dfN (d : Nat) : Nat := lesN (keyN d) 2147483648
def dtN (y cg : Nat) : Nat := lesN (keyN y) (hlfN (dfN cg))
def dbN (y cg co : Nat) : Nat := lesN (dtN y cg) (hlfN (dfN co))
def drop0 (y cg co : Nat) : Nat := fkeyN (addN (dbN y cg co) (dfN co))
def drop1 (y cg co : Nat) : Nat := fkeyN (addN (dfN cg) (dtN y cg))
def drop2 (y cg co : Nat) : Nat := fkeyN (dbN y cg co)
def a3 (x y z : Nat) : Value := .agg #[.int .u32 (x : Nat), .int .u32 (y : Nat), .int .u32 (z : Nat)]
def t3 (x y z : Nat) : Value := .tuple #[.int .u32 (x : Nat), .int .u32 (y : Nat), .int .u32 (z : Nat)]
/-- A method's three samples in a box, and the box of its answer. -/
structure B3 (w wz : World) (r g b : Nat) : Prop where
  q : Q w wz
  d0 : wz.cell? ⟨w.heap.size + 1, 0, none⟩ = some (.int .u32 (r : Int))
  d1 : wz.cell? ⟨w.heap.size + 1, 1, none⟩ = some (.int .u32 (g : Int))
  d2 : wz.cell? ⟨w.heap.size + 1, 2, none⟩ = some (.int .u32 (b : Int))
  k0 : wz.cell? ⟨w.heap.size + 1 + 1, 0, none⟩ = some (.int .u32 0)
  k1 : wz.cell? ⟨w.heap.size + 1 + 1, 1, none⟩ = some (.int .u32 0)
  k2 : wz.cell? ⟨w.heap.size + 1 + 1, 2, none⟩ = some (.int .u32 0)
  f0 : wz.frozen? ⟨w.heap.size + 1 + 1, 0, none⟩ = false
  f1 : wz.frozen? ⟨w.heap.size + 1 + 1, 1, none⟩ = false
  f2 : wz.frozen? ⟨w.heap.size + 1 + 1, 2, none⟩ = false
theorem b3_of (w : World) (t : TypeId) (r g b : Nat) : B3 w (((w.alloc (Obj.cells #[] t)).alloc (Obj.cells #[.int .u32 (r : Int), .int .u32 (g : Int), .int .u32 (b : Int)] 89)).alloc (Obj.cells #[.int .u32 0, .int .u32 0, .int .u32 0] 89)) r g b where
  q := (((Q.refl w).cells _ _).cells _ _).cells _ _
  d0 := by simp [go_sem]
  d1 := by simp [go_sem]
  d2 := by simp [go_sem]
  k0 := by simp [go_sem]
  k1 := by simp [go_sem]
  k2 := by simp [go_sem]
  f0 := by simp [go_sem]
  f1 := by simp [go_sem]
  f2 := by simp [go_sem]
theorem B3.next {w wz w4 : World} {r g b : Nat} (h : B3 w wz r g b) (q : Q wz w4) : B3 w w4 r g b :=
  ⟨h.q.trans q, q.cell h.d0, q.cell h.d1, q.cell h.d2, q.cell h.k0, q.cell h.k1, q.cell h.k2, (q.2 _).trans h.f0, (q.2 _).trans h.f1, (q.2 _).trans h.f2⟩
set_option maxHeartbeats 2000000 in
theorem lfrom_any (r g b : Nat) (hr : r < 4294967296) (hg : g < 4294967296) (hb : b < 4294967296) (w : World) : Calls Try.prog 108 #[.agg #[], .agg #[.int .u32 (r : Int), .int .u32 (g : Int), .int .u32 (b : Int)]] w fun e w' => e = .returned (a3 (lift0 r g b) (lift1 r g b) (lift2 r g b)) ∧ Q w w' := by
  have e1 := sub_e (keyN r) (keyN b) (keyN_lt hb)
  have e2 := add_e (keyN b) (hlfN (lesN (keyN r) (keyN b)))
  have e3 := sub_e (keyN g) (addN (keyN b) (hlfN (lesN (keyN r) (keyN b)))) (addN_lt _ _)
  have e4 := add_e (addN (keyN b) (hlfN (lesN (keyN r) (keyN b)))) (hlfN (lesN (keyN g) (addN (keyN b) (hlfN (lesN (keyN r) (keyN b))))))
  have KV : Hid (∀ (s : Nat) (h : s < 4294967296) (w : World), Calls Try.prog 76 #[.int .u32 s] w fun e w' => e = .returned (.int .u32 (keyN s : Nat)) ∧ w' = w) := keyn_any
  go_enter Try.func108, Try.ntmps108
  go_wp2_with fail
  have hB : Hid (B3 w _ r g b) := b3_of w 103 r g b
  generalize (((w.alloc (Obj.cells #[] 103)).alloc (Obj.cells #[.int .u32 (r : Int), .int .u32 (g : Int), .int .u32 (b : Int)] 89)).alloc (Obj.cells #[.int .u32 0, .int .u32 0, .int .u32 0] 89)) = wz at hB ⊢
  have d0 := qw_cell hB.out.d0
  have d1 := qw_cell hB.out.d1
  have d2 := qw_cell hB.out.d2
  have n0 := qw_some wz
  refine wp_region_quiet_Q (by kernel_rfl) (by kernel_rfl) ?_
  repeat (first | go_big_quiet_step (first | (go_at_call 76; exact calls_qs (KV.out _ (by assumption) _))) | quiet_step (first | (go_at_call 76; exact calls_qs (KV.out _ (by assumption) _))))
  refine wpQuiet_nil ?_
  intro w4 hw'
  have hq4 := qw_out hw'
  clear hw' d0 d1 d2 n0 KV
  replace hB : Hid (B3 w w4 r g b) := hB.out.next hq4
  clear hq4
  go_wp2_with fail
  refine (halved_any _ (lesN_lt _ _) _).mono ?_
  rintro e w1 ⟨rfl, rfl⟩
  go_wp2_with fail
  refine (halved_any _ (lesN_lt _ _) _).mono ?_
  rintro e w1 ⟨rfl, rfl⟩
  go_wp2_with fail
  refine (fromkey_any _ (addN_lt _ _) _).mono ?_
  rintro e w1 ⟨rfl, rfl⟩
  go_wp2_with fail
  refine (fromdiff_any _ (lesN_lt _ _) _).mono ?_
  rintro e w1 ⟨rfl, rfl⟩
  go_wp2_with fail
  refine (fromdiff_any _ (lesN_lt _ _) _).mono ?_
  rintro e w1 ⟨rfl, rfl⟩
  have hk0 := hB.out.k0
  have hk1 := hB.out.k1
  have hk2 := hB.out.k2
  have hf0 := hB.out.f0
  have hf1 := hB.out.f1
  have hf2 := hB.out.f2
  go_wp2_with fail
  refine bodyPost_ret (v := a3 (lift0 r g b) (lift1 r g b) (lift2 r g b)) (by simp [results, Try.results108, go_sem, hk0, hk1, hk2, a3, lift0, lift1, lift2, lyN, ltN, lcgN, lcoN]) rfl ⟨rfl, ?_⟩
  exact ((hB.out.q.set (by show _ ≤ w.heap.size + 1 + 1; omega) _).set (by show _ ≤ w.heap.size + 1 + 1; omega) _).set (by show _ ≤ w.heap.size + 1 + 1; omega) _
set_option maxHeartbeats 2000000 in
theorem lto_any (r g b : Nat) (hr : r < 4294967296) (hg : g < 4294967296) (hb : b < 4294967296) (w : World) : Calls Try.prog 109 #[.agg #[], .agg #[.int .u32 (r : Int), .int .u32 (g : Int), .int .u32 (b : Int)]] w fun e w' => e = .returned (a3 (drop0 r g b) (drop1 r g b) (drop2 r g b)) ∧ Q w w' := by
  have e1 := sub_e (keyN r) (hlfN (lesN (keyN g) 2147483648)) (hlfN_lt (lesN_lt _ _))
  have e2 := sub_e (lesN (keyN r) (hlfN (lesN (keyN g) 2147483648))) (hlfN (lesN (keyN b) 2147483648)) (hlfN_lt (lesN_lt _ _))
  have e3 := add_e (lesN (lesN (keyN r) (hlfN (lesN (keyN g) 2147483648))) (hlfN (lesN (keyN b) 2147483648))) (lesN (keyN b) 2147483648)
  have e4 := add_e (lesN (keyN g) 2147483648) (lesN (keyN r) (hlfN (lesN (keyN g) 2147483648)))
  have KV : Hid (∀ (s : Nat) (h : s < 4294967296) (w : World), Calls Try.prog 76 #[.int .u32 s] w fun e w' => e = .returned (.int .u32 (keyN s : Nat)) ∧ w' = w) := keyn_any
  have DV : Hid (∀ (s : Nat) (h : s < 4294967296) (w : World), Calls Try.prog 113 #[.int .u32 s] w fun e w' => e = .returned (.int .u32 (lesN (keyN s) 2147483648 : Nat)) ∧ w' = w) := differ_any
  go_enter Try.func109, Try.ntmps109
  go_wp2_with fail
  have hB : Hid (B3 w _ r g b) := b3_of w 103 r g b
  generalize (((w.alloc (Obj.cells #[] 103)).alloc (Obj.cells #[.int .u32 (r : Int), .int .u32 (g : Int), .int .u32 (b : Int)] 89)).alloc (Obj.cells #[.int .u32 0, .int .u32 0, .int .u32 0] 89)) = wz at hB ⊢
  have d0 := qw_cell hB.out.d0
  have d1 := qw_cell hB.out.d1
  have d2 := qw_cell hB.out.d2
  have n0 := qw_some wz
  refine wp_region_quiet_Q (by kernel_rfl) (by kernel_rfl) ?_
  repeat (first | go_big_quiet_step (first | (go_at_call 76; exact calls_qs (KV.out _ (by assumption) _)) | (go_at_call 113; exact calls_qs (DV.out _ (by assumption) _))) | quiet_step (first | (go_at_call 76; exact calls_qs (KV.out _ (by assumption) _)) | (go_at_call 113; exact calls_qs (DV.out _ (by assumption) _))))
  refine wpQuiet_nil ?_
  intro w4 hw'
  have hq4 := qw_out hw'
  clear hw' d0 d1 d2 n0 KV DV
  replace hB : Hid (B3 w w4 r g b) := hB.out.next hq4
  clear hq4
  go_wp2_with fail
  refine (halved_any _ (lesN_lt _ _) _).mono ?_
  rintro e w1 ⟨rfl, rfl⟩
  go_wp2_with fail
  refine (halved_any _ (lesN_lt _ _) _).mono ?_
  rintro e w1 ⟨rfl, rfl⟩
  go_wp2_with fail
  refine (fromkey_any _ (addN_lt _ _) _).mono ?_
  rintro e w1 ⟨rfl, rfl⟩
  go_wp2_with fail
  refine (fromkey_any _ (addN_lt _ _) _).mono ?_
  rintro e w1 ⟨rfl, rfl⟩
  go_wp2_with fail
  refine (fromkey_any _ (lesN_lt _ _) _).mono ?_
  rintro e w1 ⟨rfl, rfl⟩
  have hk0 := hB.out.k0
  have hk1 := hB.out.k1
  have hk2 := hB.out.k2
  have hf0 := hB.out.f0
  have hf1 := hB.out.f1
  have hf2 := hB.out.f2
  go_wp2_with fail
  refine bodyPost_ret (v := a3 (drop0 r g b) (drop1 r g b) (drop2 r g b)) (by simp [results, Try.results109, go_sem, hk0, hk1, hk2, a3, drop0, drop1, drop2, dbN, dtN, dfN]) rfl ⟨rfl, ?_⟩
  exact ((hB.out.q.set (by show _ ≤ w.heap.size + 1 + 1; omega) _).set (by show _ ≤ w.heap.size + 1 + 1; omega) _).set (by show _ ≤ w.heap.size + 1 + 1; omega) _
theorem and_low32 (n : Int) : bits .and .i64 n 4294967295 = n % 4294967296 := by
  show IntKind.i64.wrap ((BitVec.ofInt 64 n &&& BitVec.ofInt 64 4294967295).toNat : Int) = _
  rw [BitVec.toNat_and, BitVec.toNat_ofInt, BitVec.toNat_ofInt, show ((4294967295 : Int) % ((2 ^ 64 : Nat) : Int)).toNat = 2 ^ 32 - 1 from by decide, Nat.and_two_pow_sub_one_eq_mod, IntKind.wrap_i64]
  omega
theorem tm_even {n : Int} (h : n % 2 = 0) : n.tmod 2 = 0 := Int.tmod_eq_zero_of_dvd (by omega)
theorem tm_odd {n : Int} (h : n % 2 = 1) : n.tmod 2 ≠ 0 := fun e => by have := Int.dvd_of_tmod_eq_zero e; omega
theorem td_even {n : Int} (h : n % 2 = 0) : n.tdiv 2 = n / 2 := by
  obtain ⟨k, rfl⟩ : ∃ k, n = 2 * k := ⟨n / 2, by omega⟩
  rw [Int.mul_tdiv_cancel_left _ (by decide)]; omega
end Go.Proofs.Ytdempklpmggdoaa
/- Mixing: what is done to the first three samples of each place. -/
namespace Go.Proofs.Ytdempklpmggdoaa
open Go.RowKit
set_option linter.unusedVariables false
set_option linter.unusedSimpArgs false

/-- A function of three samples. -/
structure Fun3 (f : FuncId) (recv : Value) (F0 F1 F2 : Nat → Nat → Nat → Nat) : Prop where
  en : ∀ (args : Array Value) (x : World), (callFunc f args).run Try.prog x = .ok (.enter f args) x
  c : ∀ (r s t : Nat), r < 4294967296 → s < 4294967296 → t < 4294967296 → ∀ x : World, Calls Try.prog f #[recv, .agg #[.int .u32 (r : Int), .int .u32 (s : Int), .int .u32 (t : Int)]] x fun e x' => e = .returned (.agg #[.int .u32 ((F0 r s t : Nat) : Int), .int .u32 ((F1 r s t : Nat) : Int), .int .u32 ((F2 r s t : Nat) : Int)]) ∧ Q x x'
  lt : ∀ (r s t : Nat), r < 4294967296 → s < 4294967296 → t < 4294967296 → F0 r s t < 4294967296 ∧ F1 r s t < 4294967296 ∧ F2 r s t < 4294967296
theorem set_ex {w : World} {p : Addr} (q : Addr) (v : Value) (h : ∃ u, w.cell? p = some u) : ∃ u, (w.setCell q v).cell? p = some u := by
  obtain ⟨u, hu⟩ := h
  by_cases e : p = q
  · subst e; exact ⟨v, World.cell?_setCell_same _ _ _ hu⟩
  · exact ⟨u, (World.cell?_setCell_other _ _ _ _ (fun e' => e e'.symm)).trans hu⟩
/-- Three planes, the first i places mixed. -/
def mixT (F : Nat → Nat → Nat → Nat) (S0 S1 S2 S : List Nat) (i j : Nat) : Nat := if j < i then F (S0.getD j 0) (S1.getD j 0) (S2.getD j 0) else S.getD j 0
structure W3 (w1 wx : World) (y0 y1 y2 : PL) (N : Nat) (t0 t1 t2 : Nat → Nat) : Prop where
  u0 : ∀ j, j < N → wx.cell? ⟨y0.g, y0.o + j, none⟩ = some (.int .u32 ((t0 j : Nat) : Int))
  u1 : ∀ j, j < N → wx.cell? ⟨y1.g, y1.o + j, none⟩ = some (.int .u32 ((t1 j : Nat) : Int))
  u2 : ∀ j, j < N → wx.cell? ⟨y2.g, y2.o + j, none⟩ = some (.int .u32 ((t2 j : Nat) : Int))
  fr : Fr w1 wx (fun b => b ≠ y0.g ∧ b ≠ y1.g ∧ b ≠ y2.g)
  ex : ∀ (p : Addr) (v : Value), w1.cell? p = some v → ∃ u, wx.cell? p = some u
theorem W3.next {w1 wx wy : World} {y0 y1 y2 : PL} {N : Nat} {t0 t1 t2 : Nat → Nat} (h : W3 w1 wx y0 y1 y2 N t0 t1 t2) (q : Q wx wy) : W3 w1 wy y0 y1 y2 N t0 t1 t2 :=
  ⟨fun j hj => q.cell (h.u0 j hj), fun j hj => q.cell (h.u1 j hj), fun j hj => q.cell (h.u2 j hj), h.fr.trans (q.fr _), fun p v hp => by obtain ⟨u, hu⟩ := h.ex p v hp; exact ⟨u, q.cell hu⟩⟩
theorem W3.set {w1 wx : World} {y0 y1 y2 : PL} {N : Nat} {F0 F1 F2 : Nat → Nat → Nat → Nat} {S0 S1 S2 : List Nat} {i : Nat} (h : W3 w1 wx y0 y1 y2 N (mixT F0 S0 S1 S2 S0 i) (mixT F1 S0 S1 S2 S1 i) (mixT F2 S0 S1 S2 S2 i)) (hi : i < N) (n01 : y0.g ≠ y1.g) (n02 : y0.g ≠ y2.g) (n12 : y1.g ≠ y2.g)
    {U V Z : Nat} (hU : F0 (S0.getD i 0) (S1.getD i 0) (S2.getD i 0) = U) (hV : F1 (S0.getD i 0) (S1.getD i 0) (S2.getD i 0) = V) (hZ : F2 (S0.getD i 0) (S1.getD i 0) (S2.getD i 0) = Z) :
    W3 w1 (((wx.setCell ⟨y0.g, y0.o + i, none⟩ (.int .u32 (U : Int))).setCell ⟨y1.g, y1.o + i, none⟩ (.int .u32 (V : Int))).setCell ⟨y2.g, y2.o + i, none⟩ (.int .u32 (Z : Int))) y0 y1 y2 N (mixT F0 S0 S1 S2 S0 (i + 1)) (mixT F1 S0 S1 S2 S1 (i + 1)) (mixT F2 S0 S1 S2 S2 (i + 1)) := by
  have key : ∀ (F : Nat → Nat → Nat → Nat) (S : List Nat) (j : Nat), j ≠ i → mixT F S0 S1 S2 S (i + 1) j = mixT F S0 S1 S2 S i j := fun F S j hj => by
    unfold mixT
    by_cases h : j < i
    · rw [if_pos h, if_pos (by omega)]
    · rw [if_neg h, if_neg (by omega)]
  have key2 : ∀ (F : Nat → Nat → Nat → Nat) (S : List Nat), mixT F S0 S1 S2 S (i + 1) i = F (S0.getD i 0) (S1.getD i 0) (S2.getD i 0) := fun F S => by
    unfold mixT; rw [if_pos (by omega)]
  refine ⟨fun j hj => ?_, fun j hj => ?_, fun j hj => ?_, ?_, fun p v hp => set_ex _ _ (set_ex _ _ (set_ex _ _ (h.ex p v hp)))⟩
  · rw [World.cell?_setCell_other _ _ _ _ (by simp <;> omega), World.cell?_setCell_other _ _ _ _ (by simp <;> omega)]
    by_cases e : j = i
    · subst e; rw [key2, hU]; exact World.cell?_setCell_same _ _ _ (h.u0 j hj)
    · rw [World.cell?_setCell_other _ _ _ _ (by simp <;> omega), key _ _ _ e]; exact h.u0 j hj
  · rw [World.cell?_setCell_other _ _ _ _ (by simp <;> omega)]
    by_cases e : j = i
    · subst e; rw [key2, hV]
      exact World.cell?_setCell_same _ _ _ ((World.cell?_setCell_other _ _ _ _ (by simp <;> omega)).trans (h.u1 j hj))
    · rw [World.cell?_setCell_other _ _ _ _ (by simp <;> omega), World.cell?_setCell_other _ _ _ _ (by simp <;> omega), key _ _ _ e]; exact h.u1 j hj
  · by_cases e : j = i
    · subst e; rw [key2, hZ]
      exact World.cell?_setCell_same _ _ _ ((World.cell?_setCell_other _ _ _ _ (by simp <;> omega)).trans ((World.cell?_setCell_other _ _ _ _ (by simp <;> omega)).trans (h.u2 j hj)))
    · rw [World.cell?_setCell_other _ _ _ _ (by simp <;> omega), World.cell?_setCell_other _ _ _ _ (by simp <;> omega), World.cell?_setCell_other _ _ _ _ (by simp <;> omega), key _ _ _ e]; exact h.u2 j hj
  · exact ((h.fr.set (fun h => h.1 rfl) _).set (fun h => h.2.1 rfl) _).set (fun h => h.2.2 rfl) _
def mix3 (F : Nat → Nat → Nat → Nat) (S0 S1 S2 : List Nat) : List Nat := (List.range S0.length).map fun i => F (S0.getD i 0) (S1.getD i 0) (S2.getD i 0)
theorem mix3_len (F : Nat → Nat → Nat → Nat) (S0 S1 S2 : List Nat) : (mix3 F S0 S1 S2).length = S0.length := by simp [mix3]
theorem mix3_get {F : Nat → Nat → Nat → Nat} {S0 S1 S2 : List Nat} {i : Nat} (h : i < S0.length) : (mix3 F S0 S1 S2).getD i 0 = F (S0.getD i 0) (S1.getD i 0) (S2.getD i 0) := by
  unfold mix3
  rw [List.getD_eq_getElem?_getD, List.getElem?_map, List.getElem?_range h]; rfl
/-- The planes of a picture whose first three are mixed. -/
def mixL (F0 F1 F2 : Nat → Nat → Nat → Nat) : List (List Nat) → List (List Nat)
  | S0 :: S1 :: S2 :: r => mix3 F0 S0 S1 S2 :: mix3 F1 S0 S1 S2 :: mix3 F2 S0 S1 S2 :: r
  | l => l
theorem mixT_all (F : Nat → Nat → Nat → Nat) (S0 S1 S2 S : List Nat) {N j : Nat} (hN : S0.length = N) (hj : j < N) : mixT F S0 S1 S2 S N j = (mix3 F S0 S1 S2).getD j 0 := by
  unfold mixT; rw [if_pos hj, mix3_get (by omega)]
theorem Mine.mixed {lo N : Nat} {w4 wr : World} {y : PL} (h : Mine lo w4 N y) (hsz : w4.heap.size ≤ wr.heap.size) (fz : ∀ p, wr.frozen? p = w4.frozen? p) (ex : ∀ (p : Addr) (v : Value), w4.cell? p = some v → ∃ u, wr.cell? p = some u) {T : List Nat} (hT : T.length = N) (hu : ∀ j, j < N → wr.cell? ⟨y.g, y.o + j, none⟩ = some (.int .u32 ((T.getD j 0 : Nat) : Int))) (hlt : ∀ i, T.getD i 0 < 4294967296) : Mine lo wr N { y with S := T } :=
  ⟨h.o, h.low, Nat.lt_of_lt_of_le h.high hsz, ⟨hT, by have := h.gd.room; have := h.gd.len; show T.length ≤ y.cap; omega, fun j hj => hu j (by have : j < T.length := hj; omega), hlt⟩, fun j => (fz _).trans (h.free j), fun j hj => by obtain ⟨u, hu⟩ := h.all j hj; exact ex _ _ hu, h.cm⟩
theorem mix3_lt {F : Nat → Nat → Nat → Nat} {S0 S1 S2 : List Nat} (h : ∀ i, F (S0.getD i 0) (S1.getD i 0) (S2.getD i 0) < 4294967296) (i : Nat) : (mix3 F S0 S1 S2).getD i 0 < 4294967296 := by
  by_cases hi : i < S0.length
  · rw [mix3_get hi]; exact h i
  · rw [List.getD_eq_getElem?_getD, List.getElem?_eq_none (by rw [mix3_len]; omega)]; decide
theorem Nw.mixed {lo g1 cap1 a b : Nat} {w4 wr : World} {y0 y1 y2 : PL} {Mr : List PL} (h : Nw lo w4 g1 cap1 a b (y0 :: y1 :: y2 :: Mr)) {S0 S1 S2 : List Nat} {F0 F1 F2 : Nat → Nat → Nat → Nat} (hS : y0.S = S0 ∧ y1.S = S1 ∧ y2.S = S2)
    (W : W3 w4 wr y0 y1 y2 (a * b) (mixT F0 S0 S1 S2 S0 (a * b)) (mixT F1 S0 S1 S2 S1 (a * b)) (mixT F2 S0 S1 S2 S2 (a * b))) (hlt : ∀ r s t, r < 4294967296 → s < 4294967296 → t < 4294967296 → F0 r s t < 4294967296 ∧ F1 r s t < 4294967296 ∧ F2 r s t < 4294967296) :
    Nw lo wr g1 cap1 a b ({ y0 with S := mix3 F0 S0 S1 S2 } :: { y1 with S := mix3 F1 S0 S1 S2 } :: { y2 with S := mix3 F2 S0 S1 S2 } :: Mr) := by
  obtain ⟨k0, k0'⟩ := h.it y0 (by simp)
  obtain ⟨k1, k1'⟩ := h.it y1 (by simp)
  obtain ⟨k2, k2'⟩ := h.it y2 (by simp)
  have l0 : S0.length = a * b := by rw [← hS.1]; exact k0.gd.len
  have l1 : S1.length = a * b := by rw [← hS.2.1]; exact k1.gd.len
  have l2 : S2.length = a * b := by rw [← hS.2.2]; exact k2.gd.len
  have b0 : ∀ i, S0.getD i 0 < 4294967296 := by rw [← hS.1]; exact k0.gd.lt
  have b1 : ∀ i, S1.getD i 0 < 4294967296 := by rw [← hS.2.1]; exact k1.gd.lt
  have b2 : ∀ i, S2.getD i 0 < 4294967296 := by rw [← hS.2.2]; exact k2.gd.lt
  have M0 : Mine lo wr (a * b) { y0 with S := mix3 F0 S0 S1 S2 } := k0.mixed W.fr.size W.fr.frz W.ex (by rw [mix3_len]; exact l0) (fun j hj => by rw [← mixT_all F0 S0 S1 S2 S0 l0 hj]; exact W.u0 j hj) (mix3_lt (fun i => (hlt _ _ _ (b0 i) (b1 i) (b2 i)).1))
  have M1 : Mine lo wr (a * b) { y1 with S := mix3 F1 S0 S1 S2 } := k1.mixed W.fr.size W.fr.frz W.ex (by rw [mix3_len]; exact l0) (fun j hj => by rw [← mixT_all F1 S0 S1 S2 S1 l0 hj]; exact W.u1 j hj) (mix3_lt (fun i => (hlt _ _ _ (b0 i) (b1 i) (b2 i)).2.1))
  have M2 : Mine lo wr (a * b) { y2 with S := mix3 F2 S0 S1 S2 } := k2.mixed W.fr.size W.fr.frz W.ex (by rw [mix3_len]; exact l0) (fun j hj => by rw [← mixT_all F2 S0 S1 S2 S2 l0 hj]; exact W.u2 j hj) (mix3_lt (fun i => (hlt _ _ _ (b0 i) (b1 i) (b2 i)).2.2))
  have hap := h.ap
  simp only [List.pairwise_cons, List.mem_cons] at hap
  obtain ⟨p0, p1, p2, p3⟩ := hap
  have it : ∀ x ∈ ({ y0 with S := mix3 F0 S0 S1 S2 } :: { y1 with S := mix3 F1 S0 S1 S2 } :: { y2 with S := mix3 F2 S0 S1 S2 } :: Mr : List PL), Mine lo wr (a * b) x ∧ x.g ≠ g1 := fun x hx => by
    simp only [List.mem_cons] at hx
    rcases hx with rfl | rfl | rfl | hx
    · exact ⟨M0, k0'⟩
    · exact ⟨M1, k1'⟩
    · exact ⟨M2, k2'⟩
    · obtain ⟨q1, q2⟩ := h.it x (by simp [hx])
      exact ⟨q1.keep W.fr ⟨fun e => p0 x (Or.inr (Or.inr hx)) e.symm, fun e => p1 x (Or.inr hx) e.symm, fun e => p2 x hx e.symm⟩, q2⟩
  have row : PIs wr g1 0 a b (y0 :: y1 :: y2 :: Mr) := W.fr.pis h.pc.row ⟨fun e => k0' e.symm, fun e => k1' e.symm, fun e => k2' e.symm⟩
  have vv : ∀ (y : PL) (T : List Nat), T.length = y.S.length → PL.v { y with S := T } = y.v := fun y T hT => by show Value.slice _ T.length _ = _; rw [hT]; rfl
  refine ⟨⟨h.pc.size, by simp, by have := h.pc.n4; simpa using this, fun i x hx => ?_, fun x hx => (it x hx).1.gd⟩, h.low, Nat.lt_of_lt_of_le h.high W.fr.size, by have := h.room; simpa using this, fun j => (W.fr.frz _).trans (h.free j), it, ?_⟩
  · match i, hx with
    | 0, hx =>
      have hx := Option.some.inj hx
      rw [← hx, vv y0 _ (by rw [mix3_len, hS.1])]
      exact row 0 y0 rfl
    | 1, hx =>
      have hx := Option.some.inj hx
      rw [← hx, vv y1 _ (by rw [mix3_len, l0, hS.2.1, l1])]
      exact row 1 y1 rfl
    | 2, hx =>
      have hx := Option.some.inj hx
      rw [← hx, vv y2 _ (by rw [mix3_len, l0, hS.2.2, l2])]
      exact row 2 y2 rfl
    | i + 3, hx => exact row (i + 3) x (by simpa using hx)
  · simp only [List.pairwise_cons, List.mem_cons]
    refine ⟨fun x hx => ?_, fun x hx => ?_, p2, p3⟩
    · rcases hx with rfl | rfl | hx
      · exact p0 y1 (Or.inl rfl)
      · exact p0 y2 (Or.inr (Or.inl rfl))
      · exact p0 x (Or.inr (Or.inr hx))
    · rcases hx with rfl | hx
      · exact p1 y2 (Or.inl rfl)
      · exact p1 x (Or.inr hx)
theorem run_store1 {ρ : Operand → Value} {o : Oper} {s u : Operand} (ho : o.op = .store 27 s u) {x : World} {p : Addr} {v : Int} {c : Value} (hs : ρ s = .pointer (some p)) (hu : ρ u = .int .u32 v) (hc : x.cell? p = some c) (hf : x.frozen? p = false) : (execOp ρ o).run Try.prog x = .ok .skip (x.setCell p (.int .u32 v)) := by
  obtain ⟨dst, op, ty, ps, af, g⟩ := o
  have ho : op = _ := ho
  subst ho
  simp [execOp, hs, hu, go_sem, hc, hf]
end Go.Proofs.Ytdempklpmggdoaa

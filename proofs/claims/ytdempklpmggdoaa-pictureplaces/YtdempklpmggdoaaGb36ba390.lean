/- The helper's CropPicture. -/
import Derived.Test.YtdempklpmggdoaaG7b390fb8
import Derived.Test.YtdempklpmggdoaaGd6a80e7b
namespace Go.Proofs.Ytdempklpmggdoaa
open Go.RowKit
set_option linter.unusedVariables false
set_option linter.unusedSimpArgs false

set_option maxHeartbeats 4000000 in
set_option maxRecDepth 100000 in
theorem cropp_good {x0 y0 c d : Nat} (XX YY : Int) (hXX : XX = (x0 + c : Nat)) (hYY : YY = (y0 + d : Nat)) (w : World) (sp : Int) (g o cap a b n : Nat) (L : List PL) (hr : Rct a b x0 y0 c d) (h : Pc w g o a b L) (hn : L.length = n) (hcap : n ≤ cap) :
    Calls Try.prog 27 #[.agg #[.int .i64 sp, .slice (some ⟨g, o, none⟩) n cap], .agg #[.int .i64 (x0 : Int), .int .i64 (y0 : Int), .int .i64 XX, .int .i64 YY]] w fun e w' => ∃ g' cap' M, e = .returned (.agg #[.int .i64 sp, .slice (some ⟨g', 0, none⟩) n cap']) ∧ M.map PL.S = (L.map PL.S).map (cutL a x0 y0 c d) ∧ Hid (Nw w.heap.size w' g' cap' c d M) ∧ Q w w' := by
  have HP : Hid (Pc w g o a b L) := h
  have HN : Hid (L.length = n) := hn
  have HSZ : Hid (Size c d) := hr.size h.size
  have HRC : Hid (Rct a b x0 y0 c d ∧ XX = (x0 + c : Nat) ∧ YY = (y0 + d : Nat)) := ⟨hr, hXX, hYY⟩
  have n4 : n ≤ 4 := by rw [← hn]; exact h.n4
  have n1 : 1 ≤ n := by rw [← hn]; exact h.n1
  clear h hn hr hXX hYY
  have l1 := enters_of Try.func45 (by kernel_rfl) rfl
  have qa : Hid (∀ a b c d e f, Q w (((w.alloc (.cells a b)).alloc (.cells c d)).alloc (.cells e f))) := fun a b c d e f => (((Q.refl w).cells _ _).cells _ _).cells _ _
  obtain ⟨X0, hX0⟩ : ∃ X : Int, (x0 : Int) = X := ⟨_, rfl⟩
  obtain ⟨Y0, hY0⟩ : ∃ X : Int, (y0 : Int) = X := ⟨_, rfl⟩
  have HXY : Hid ((x0 : Int) = X0 ∧ (y0 : Int) = Y0) := ⟨hX0, hY0⟩
  rw [hX0, hY0]
  clear hX0 hY0
  go_enter Try.func27, Try.ntmps27
  go_wp2_with fail
  have HQ3 : Hid (Q w ((((w.alloc (Obj.cells #[Value.int IntKind.i64 sp, Value.slice (some { block := g, off := o }) n cap] 24)).alloc (Obj.cells #[Value.int IntKind.i64 X0, Value.int IntKind.i64 Y0, Value.int IntKind.i64 XX, Value.int IntKind.i64 YY] 26)).alloc (Obj.cells #[Value.int IntKind.i64 0, Value.slice none 0 0] 24)).alloc (Obj.cells #[Value.int IntKind.i64 sp, Value.slice none 0 0] 24))) := (qa.out _ _ _ _ _ _).cells _ _
  have hz1 : ((((w.alloc (Obj.cells #[Value.int IntKind.i64 sp, Value.slice (some { block := g, off := o }) n cap] 24)).alloc (Obj.cells #[Value.int IntKind.i64 X0, Value.int IntKind.i64 Y0, Value.int IntKind.i64 XX, Value.int IntKind.i64 YY] 26)).alloc (Obj.cells #[Value.int IntKind.i64 0, Value.slice none 0 0] 24)).alloc (Obj.cells #[Value.int IntKind.i64 sp, Value.slice none 0 0] 24)).heap.size = w.heap.size + 4 := by simp
  have p1 : ((((w.alloc (Obj.cells #[Value.int IntKind.i64 sp, Value.slice (some { block := g, off := o }) n cap] 24)).alloc (Obj.cells #[Value.int IntKind.i64 X0, Value.int IntKind.i64 Y0, Value.int IntKind.i64 XX, Value.int IntKind.i64 YY] 26)).alloc (Obj.cells #[Value.int IntKind.i64 0, Value.slice none 0 0] 24)).alloc (Obj.cells #[Value.int IntKind.i64 sp, Value.slice none 0 0] 24)).cell? ⟨w.heap.size, 1, none⟩ = some (.slice (some ⟨g, o, none⟩) n cap) := by simp [go_sem]
  have c0 : ((((w.alloc (Obj.cells #[Value.int IntKind.i64 sp, Value.slice (some { block := g, off := o }) n cap] 24)).alloc (Obj.cells #[Value.int IntKind.i64 X0, Value.int IntKind.i64 Y0, Value.int IntKind.i64 XX, Value.int IntKind.i64 YY] 26)).alloc (Obj.cells #[Value.int IntKind.i64 0, Value.slice none 0 0] 24)).alloc (Obj.cells #[Value.int IntKind.i64 sp, Value.slice none 0 0] 24)).cell? ⟨w.heap.size + 1, 0, none⟩ = some (.int .i64 X0) := by simp [go_sem]
  have c1 : ((((w.alloc (Obj.cells #[Value.int IntKind.i64 sp, Value.slice (some { block := g, off := o }) n cap] 24)).alloc (Obj.cells #[Value.int IntKind.i64 X0, Value.int IntKind.i64 Y0, Value.int IntKind.i64 XX, Value.int IntKind.i64 YY] 26)).alloc (Obj.cells #[Value.int IntKind.i64 0, Value.slice none 0 0] 24)).alloc (Obj.cells #[Value.int IntKind.i64 sp, Value.slice none 0 0] 24)).cell? ⟨w.heap.size + 1, 1, none⟩ = some (.int .i64 Y0) := by simp [go_sem]
  have c2 : ((((w.alloc (Obj.cells #[Value.int IntKind.i64 sp, Value.slice (some { block := g, off := o }) n cap] 24)).alloc (Obj.cells #[Value.int IntKind.i64 X0, Value.int IntKind.i64 Y0, Value.int IntKind.i64 XX, Value.int IntKind.i64 YY] 26)).alloc (Obj.cells #[Value.int IntKind.i64 0, Value.slice none 0 0] 24)).alloc (Obj.cells #[Value.int IntKind.i64 sp, Value.slice none 0 0] 24)).cell? ⟨w.heap.size + 1, 2, none⟩ = some (.int .i64 XX) := by simp [go_sem]
  have c3 : ((((w.alloc (Obj.cells #[Value.int IntKind.i64 sp, Value.slice (some { block := g, off := o }) n cap] 24)).alloc (Obj.cells #[Value.int IntKind.i64 X0, Value.int IntKind.i64 Y0, Value.int IntKind.i64 XX, Value.int IntKind.i64 YY] 26)).alloc (Obj.cells #[Value.int IntKind.i64 0, Value.slice none 0 0] 24)).alloc (Obj.cells #[Value.int IntKind.i64 sp, Value.slice none 0 0] 24)).cell? ⟨w.heap.size + 1, 3, none⟩ = some (.int .i64 YY) := by simp [go_sem]
  have r0 : ((((w.alloc (Obj.cells #[Value.int IntKind.i64 sp, Value.slice (some { block := g, off := o }) n cap] 24)).alloc (Obj.cells #[Value.int IntKind.i64 X0, Value.int IntKind.i64 Y0, Value.int IntKind.i64 XX, Value.int IntKind.i64 YY] 26)).alloc (Obj.cells #[Value.int IntKind.i64 0, Value.slice none 0 0] 24)).alloc (Obj.cells #[Value.int IntKind.i64 sp, Value.slice none 0 0] 24)).cell? ⟨w.heap.size + 1 + 1, 0, none⟩ = some (.int .i64 0) := by simp [go_sem]
  have r1 : ((((w.alloc (Obj.cells #[Value.int IntKind.i64 sp, Value.slice (some { block := g, off := o }) n cap] 24)).alloc (Obj.cells #[Value.int IntKind.i64 X0, Value.int IntKind.i64 Y0, Value.int IntKind.i64 XX, Value.int IntKind.i64 YY] 26)).alloc (Obj.cells #[Value.int IntKind.i64 0, Value.slice none 0 0] 24)).alloc (Obj.cells #[Value.int IntKind.i64 sp, Value.slice none 0 0] 24)).cell? ⟨w.heap.size + 1 + 1, 1, none⟩ = some (.slice none 0 0) := by simp [go_sem]
  have rf : ∀ j, ((((w.alloc (Obj.cells #[Value.int IntKind.i64 sp, Value.slice (some { block := g, off := o }) n cap] 24)).alloc (Obj.cells #[Value.int IntKind.i64 X0, Value.int IntKind.i64 Y0, Value.int IntKind.i64 XX, Value.int IntKind.i64 YY] 26)).alloc (Obj.cells #[Value.int IntKind.i64 0, Value.slice none 0 0] 24)).alloc (Obj.cells #[Value.int IntKind.i64 sp, Value.slice none 0 0] 24)).frozen? ⟨w.heap.size + 1 + 1, j, none⟩ = false := fun j => by simp [go_sem]
  have HB : Hid (Bld (w.heap.size + 4) ((((w.alloc (Obj.cells #[Value.int IntKind.i64 sp, Value.slice (some { block := g, off := o }) n cap] 24)).alloc (Obj.cells #[Value.int IntKind.i64 X0, Value.int IntKind.i64 Y0, Value.int IntKind.i64 XX, Value.int IntKind.i64 YY] 26)).alloc (Obj.cells #[Value.int IntKind.i64 0, Value.slice none 0 0] 24)).alloc (Obj.cells #[Value.int IntKind.i64 sp, Value.slice none 0 0] 24)) (w.heap.size + 1 + 1 + 1) sp (.slice none 0 0) c d []) := Bld.start (by simp [go_sem]) (by simp [go_sem]) (fun j => by simp [go_sem]) (by omega) c d
  generalize ((((w.alloc (Obj.cells #[Value.int IntKind.i64 sp, Value.slice (some { block := g, off := o }) n cap] 24)).alloc (Obj.cells #[Value.int IntKind.i64 X0, Value.int IntKind.i64 Y0, Value.int IntKind.i64 XX, Value.int IntKind.i64 YY] 26)).alloc (Obj.cells #[Value.int IntKind.i64 0, Value.slice none 0 0] 24)).alloc (Obj.cells #[Value.int IntKind.i64 sp, Value.slice none 0 0] 24)) = w3 at *
  go_loopg [6] n (fun m s6 wx => ∃ (i : Nat) (v : Value) (M : List PL), s6 = .int .i64 i ∧ i + m = n ∧ Hid (M.map PL.S = ((L.take i).map PL.S).map (cutL a x0 y0 c d)) ∧ Hid (Bld (w.heap.size + 4) wx (w.heap.size + 1 + 1 + 1) sp v c d M) ∧ Hid (Q w wx) ∧ Hid (Fr w3 wx (fun b => b ≠ w.heap.size + 1 + 1 + 1 ∧ b < w.heap.size + 4)))
  case atStart => exact ⟨0, _, [], rfl, by omega, rfl, HB, HQ3, Fr.refl _ _⟩
  case round =>
    obtain ⟨i, v, M, rfl, him, HS, HB, HQ, HF8⟩ := hrel
    have hml : M.length = i := by have := congrArg List.length HS.out; rw [List.length_map, List.length_map, List.length_map, List.length_take, HN.out] at this; omega
    have HML : Hid (M.length = i) := hml
    have p1r := HF8.out.cell p1 ⟨by show w.heap.size ≠ _; omega, by show w.heap.size < _; omega⟩
    by_cases hi : i < n
    · have hi0 : (0 : Int) ≤ (i : Int) := by omega
      have hi1 : (i : Int) < (n : Int) := by omega
      obtain ⟨x, hx⟩ : ∃ x, L[i]? = some x := ⟨_, List.getElem?_eq_getElem (by rw [HN.out]; exact hi)⟩
      obtain ⟨d0, d1, d2⟩ := (HP.out.row.next HQ.out) i x hx
      unfold PL.v at d2
      have hgx : Hid (Gd w (a * b) x) := HP.out.it x (List.mem_of_getElem? hx)
      have HX : Hid (L[i]? = some x) := hx
      have f0 := qw_cell (HF8.out.cell c0 ⟨by show w.heap.size + 1 ≠ _; omega, by show w.heap.size + 1 < _; omega⟩)
      have f1 := qw_cell (HF8.out.cell c1 ⟨by show w.heap.size + 1 ≠ _; omega, by show w.heap.size + 1 < _; omega⟩)
      have f2 := qw_cell (HF8.out.cell c2 ⟨by show w.heap.size + 1 ≠ _; omega, by show w.heap.size + 1 < _; omega⟩)
      have f3 := qw_cell (HF8.out.cell c3 ⟨by show w.heap.size + 1 ≠ _; omega, by show w.heap.size + 1 < _; omega⟩)
      have f4 := qw_cell p1r
      have t1 := HB.out.c1
      have f5 := qw_cell t1
      have f6 := qw_cell d0
      have f7 := qw_cell d1
      have f8 := qw_cell d2
      have n0 := qw_some wr
      clear hx hml
      go_wp2_with fail
      refine wp_region_mk [0, 1, 2, 3, 4, 5, 6, 7] [[8, 9, 10, 11, 12]] 5 _ (by kernel_rfl) (by kernel_rfl) rfl (by kernel_rfl) ?_
      simp only [List.filterMap_cons, List.filterMap_nil, List.getElem?_cons_zero, List.getElem?_cons_succ]
      repeat (first | go_big_quiet_step (fail) | quiet_step (fail))
      refine wpQuiet_nil ?_
      intro x4 hx4
      clear f0 f1 f2 f3 f4 f5 f6 f7 f8 n0
      have HC := hcrop_good XX YY HRC.out.2.1 HRC.out.2.2 x4 a b x HRC.out.1 HP.out.size (hgx.out.next (HQ.out.trans hx4))
      rw [HXY.out.1, HXY.out.2] at HC
      refine tree_call 8 rfl rfl (run_fn 45 #[.tmp 23, .tmp 24] _ rfl l1 (vs := #[plV a b x, .agg #[.int .i64 X0, .int .i64 Y0, .int .i64 XX, .int .i64 YY]]) (by simp [Act.eval, plV, PL.v])) HC ?_
      clear HC
      rintro u w5 ⟨y, rfl, hy, hm, hq5⟩
      have hq35 : Q wr w5 := hx4.trans hq5
      have HY : Hid (y.S = cutL a x0 y0 c d x.S) := hy
      clear hy
      refine ⟨hq35, ?_⟩
      have HB5 := HB.out.next (hq35.cells #[.int .i64 (c : Int), .int .i64 (d : Int), .slice (some ⟨y.g, y.o, none⟩) y.S.length y.cap] 47)
      have hz4 : w.heap.size + 4 ≤ wr.heap.size := by have := HF8.out.size; omega
      have hlow := hm.out.low
      have hs34 := hx4.1.size
      have hmi := HML.out
      obtain ⟨g7, cap7, w7, hr7, ct7, cf7, HB7, HQ7, HF7⟩ := HB5.app (HQ.out.trans (hq35.cells _ _)) (by omega) (by have := hq35.1.size; simp; omega) (y := y) ((hm.out.next ((Q.refl w5).cells _ _)).mono (by omega)) (fun e => by have := (own_lt HB.out.row.own e).2; omega) (fun z hz' e => by have := (HB.out.row.it z hz').1.high; omega) (by omega) (ad := ⟨w5.heap.size, 0, none⟩) (c := 1) (one_pl c d y)
      clear hmi
      refine tree_run 9 rfl rfl (v := .slice (some ⟨w5.heap.size, 0, none⟩) 1 1) (x' := w5.alloc (.cells #[.int .i64 (c : Int), .int .i64 (d : Int), .slice (some ⟨y.g, y.o, none⟩) y.S.length y.cap] 47)) (by simp [execOp, go_sem, plV, PL.v]) (hq35.cells _ _) ?_
      refine tree_runF 10 rfl rfl rfl (x' := w7) (run_appop rfl (v := v) (v' := .slice (some ⟨w5.heap.size, 0, none⟩) 1 1) (by simp [Act.eval, Act.put]) (by simp [Act.eval, Act.put]) hr7) ?_
      refine tree_runF 11 rfl rfl rfl (v := .pointer (some ⟨w.heap.size + 1 + 1 + 1, 1, none⟩)) (x' := w7) (by simp [execOp, go_sem]) ?_
      refine tree_skipF 12 rfl rfl rfl (x' := w7.setCell ⟨w.heap.size + 1 + 1 + 1, 1, none⟩ (.slice (some ⟨g7, 0, none⟩) (M.length + 1) cap7)) (by simp [execOp, go_sem, ct7, cf7]) ?_
      refine tree_nil ?_
      have HF9 : Hid (Fr w3 (w7.setCell ⟨w.heap.size + 1 + 1 + 1, 1, none⟩ (.slice (some ⟨g7, 0, none⟩) (M.length + 1) cap7)) (fun b => b ≠ w.heap.size + 1 + 1 + 1 ∧ b < w.heap.size + 4)) := (HF8.out.trans ((hq35.cells _ _).fr _)).trans (HF7.out.mono (fun z hz' _ => ⟨hz'.1, fun e => by have := (own_lt HB.out.row.own e).1; omega⟩))
      have HM : Hid ((M ++ [y]).map PL.S = ((L.take (i + 1)).map PL.S).map (cutL a x0 y0 c d)) := by
        show _ = _
        rw [List.take_add_one, HX.out, List.map_append, List.map_append, List.map_append, HS.out]
        show _ ++ [y.S] = _ ++ [cutL a x0 y0 c d x.S]
        rw [HY.out]
      generalize w7.setCell ⟨w.heap.size + 1 + 1 + 1, 1, none⟩ (.slice (some ⟨g7, 0, none⟩) (M.length + 1) cap7) = w8 at *
      clear hr7 ct7 cf7 HB5 hm hq5 hq35 hx4 t1 d0 d1 d2 p1r
      go_wp2_with fail
      go_roundg (n - (i + 1))
      case measure => go_light; omega
      case rel => go_light; exact ⟨i + 1, _, _, by go_num, by omega, HM, HB7, HQ7, HF9⟩
    · have hie : i = n := by omega
      have HM : Hid (M.map PL.S = (L.map PL.S).map (cutL a x0 y0 c d)) := by have := HS.out; rw [hie, List.take_of_length_le (by rw [HN.out]; exact Nat.le_refl _)] at this; exact this
      have t0 := HB.out.c0
      have t1 := HB.out.c1
      have r0r := HF8.out.cell r0 ⟨by show w.heap.size + 1 + 1 ≠ _; omega, by show w.heap.size + 1 + 1 < _; omega⟩
      have r1r := HF8.out.cell r1 ⟨by show w.heap.size + 1 + 1 ≠ _; omega, by show w.heap.size + 1 + 1 < _; omega⟩
      have rfr : ∀ j, wr.frozen? ⟨w.heap.size + 1 + 1, j, none⟩ = false := fun j => (HF8.out.frz _).trans (rf j)
      obtain ⟨hvo, ⟨hv1, hv2⟩ | ⟨gv, capv, cur, hv1, hv2⟩⟩ := HB.out.row.own
      · omega
      · subst hv1
        have HW : Hid (Nw (w.heap.size + 4) wr gv capv c d M) := HB.out.row.nw HSZ.out (by omega) (by omega)
        rw [hml, hie] at t1
        clear hv2 hvo
        go_wp2_with fail
        have F9 : Fr wr ((wr.setCell ⟨w.heap.size + 1 + 1, 0, none⟩ (.int .i64 sp)).setCell ⟨w.heap.size + 1 + 1, 1, none⟩ (.slice (some ⟨gv, 0, none⟩) n capv)) (fun b => b ≠ w.heap.size + 1 + 1) := ((Fr.refl wr _).set (fun h => h rfl) _).set (fun h => h rfl) _
        refine bodyPost_ret (v := .agg #[.int .i64 sp, .slice (some ⟨gv, 0, none⟩) n capv]) (by simp [results, Try.results27, go_sem, r0r, r1r]) rfl ⟨gv, capv, M, rfl, HM.out, (HW.out.keep F9 (by have := HW.out.low; omega) (fun x hx => by have := (HW.out.it x hx).1.low; omega)).mono (by omega), (HQ.out.set (by show _ ≤ w.heap.size + 1 + 1; omega) _).set (by show _ ≤ w.heap.size + 1 + 1; omega) _⟩
end Go.Proofs.Ytdempklpmggdoaa
/- Pieces, place by place: lists. -/
namespace Go.Proofs.Ytdempklpmggdoaa
open Go.RowKit
set_option linter.unusedVariables false
set_option linter.unusedSimpArgs false

theorem cut_in {a b x0 y0 c d i : Nat} (hr : Rct a b x0 y0 c d) (hi : i < c * d) : (y0 + i / c) * a + (x0 + i % c) < a * b := by
  have hc := hr.c1
  have h1 : i % c < c := Nat.mod_lt _ (by omega)
  have h2 : i / c < d := Nat.div_lt_of_lt_mul hi
  have h3 := hr.c2
  have h4 := hr.d2
  have h5 : (y0 + i / c) * a + a ≤ b * a := by rw [← Nat.succ_mul]; exact Nat.mul_le_mul_right a (by omega)
  rw [Nat.mul_comm b a] at h5
  omega
theorem cut_get {a x0 y0 c d i : Nat} {S : List Nat} (hi : i < c * d) : (cutL a x0 y0 c d S).getD i 0 = S.getD ((y0 + i / c) * a + (x0 + i % c)) 0 := by
  unfold cutL
  rw [tab_get hi]
  rfl
theorem cut_map {a b x0 y0 c d : Nat} (hr : Rct a b x0 y0 c d) {S : List Nat} (hS : S.length = a * b) (F : Nat → Nat) : cutL a x0 y0 c d (S.map F) = (cutL a x0 y0 c d S).map F := by
  apply list_ext (by rw [cutL_len, List.length_map, cutL_len])
  intro i hi
  rw [cutL_len] at hi
  have h := cut_in hr hi
  rw [cut_get hi]
  rw [List.getD_eq_getElem?_getD, List.getElem?_map, List.getElem?_eq_getElem (by omega), List.getD_eq_getElem?_getD, List.getElem?_map]
  have h2 := cut_get (a := a) (x0 := x0) (y0 := y0) (S := S) hi
  rw [List.getD_eq_getElem?_getD, List.getElem?_eq_getElem (by rw [cutL_len]; exact hi), List.getD_eq_getElem?_getD, List.getElem?_eq_getElem (by omega)] at h2
  rw [List.getElem?_eq_getElem (by rw [cutL_len]; exact hi)]
  have h2 : (cutL a x0 y0 c d S)[i]'(by rw [cutL_len]; exact hi) = S[(y0 + i / c) * a + (x0 + i % c)]'(by omega) := h2
  show F _ = F _
  rw [h2]
theorem cut_mix {a b x0 y0 c d : Nat} (hr : Rct a b x0 y0 c d) {S T U : List Nat} (hS : S.length = a * b) (F : Nat → Nat → Nat → Nat) : cutL a x0 y0 c d (mix3 F S T U) = mix3 F (cutL a x0 y0 c d S) (cutL a x0 y0 c d T) (cutL a x0 y0 c d U) := by
  apply list_ext (by rw [cutL_len, mix3_len, cutL_len])
  intro i hi
  rw [cutL_len] at hi
  rw [cut_get hi, mix3_get (by have := cut_in hr hi; omega), mix3_get (by rw [cutL_len]; exact hi), cut_get hi, cut_get hi, cut_get hi]
theorem cut_zip {a b x0 y0 c d : Nat} (hr : Rct a b x0 y0 c d) {S T : List Nat} (hS : S.length = a * b) (G : Nat → Nat → Nat) : cutL a x0 y0 c d (zip2 G S T) = zip2 G (cutL a x0 y0 c d S) (cutL a x0 y0 c d T) := by
  apply list_ext (by rw [cutL_len, zip2_len, cutL_len])
  intro i hi
  rw [cutL_len] at hi
  rw [cut_get hi, zip2_get (by have := cut_in hr hi; omega), zip2_get (by rw [cutL_len]; exact hi), cut_get hi, cut_get hi]
theorem cut_mixL {a b x0 y0 c d : Nat} (hr : Rct a b x0 y0 c d) {A : List (List Nat)} (hA : ∀ S ∈ A, S.length = a * b) (F0 F1 F2 : Nat → Nat → Nat → Nat) : mixL F0 F1 F2 (A.map (cutL a x0 y0 c d)) = (mixL F0 F1 F2 A).map (cutL a x0 y0 c d) := by
  match A, hA with
  | [], _ => rfl
  | [_], _ => rfl
  | [_, _], _ => rfl
  | S0 :: S1 :: S2 :: r, hA =>
    have h0 := hA S0 (by simp)
    show _ :: _ :: _ :: r.map _ = _ :: _ :: _ :: r.map _
    rw [cut_mix hr h0, cut_mix hr h0, cut_mix hr h0]
theorem cut_zTo {a b x0 y0 c d n : Nat} (hr : Rct a b x0 y0 c d) {A B : List (List Nat)} (hA : ∀ S ∈ A, S.length = a * b) (hn : A.length = n) (hB : B.length = n) (G : Nat → Nat → Nat) : zTo G (A.map (cutL a x0 y0 c d)) (B.map (cutL a x0 y0 c d)) n = (zTo G A B n).map (cutL a x0 y0 c d) := by
  apply List.ext_getElem?
  intro j
  rcases Nat.lt_or_ge j n with hj | hj
  · rw [zTo_get (by rw [List.length_map]; omega), if_pos hj, List.getElem?_map, zTo_get (by omega), if_pos hj]
    have ha : (A.map (cutL a x0 y0 c d)).getD j [] = cutL a x0 y0 c d (A.getD j []) := by
      rw [List.getD_eq_getElem?_getD, List.getD_eq_getElem?_getD, List.getElem?_map, List.getElem?_eq_getElem (by omega)]; rfl
    have hb : (B.map (cutL a x0 y0 c d)).getD j [] = cutL a x0 y0 c d (B.getD j []) := by
      rw [List.getD_eq_getElem?_getD, List.getD_eq_getElem?_getD, List.getElem?_map, List.getElem?_eq_getElem (by omega)]; rfl
    have hl : (A.getD j []).length = a * b := by
      apply hA
      rw [List.getD_eq_getElem?_getD, List.getElem?_eq_getElem (by omega)]
      exact List.getElem_mem _
    rw [ha, hb, ← cut_zip hr hl]
    rfl
  · rw [List.getElem?_eq_none (by rw [zTo_len, List.length_map]; omega), List.getElem?_eq_none (by rw [List.length_map, zTo_len]; omega)]
set_option maxHeartbeats 1000000 in
theorem within_yes (a b x0 y0 XX YY : Int) (h0 : 0 ≤ x0) (h1 : x0 < XX) (h2 : XX ≤ a) (h3 : 0 ≤ y0) (h4 : y0 < YY) (h5 : YY ≤ b) (w : World) :
    Calls Try.prog 26 #[.int .i64 a, .int .i64 b, .agg #[.int .i64 x0, .int .i64 y0, .int .i64 XX, .int .i64 YY]] w fun e w' => e = .returned (.bool true) ∧ Q w w' := by
  have qa : Hid (∀ c t, Q w (w.alloc (.cells c t))) := fun c t => (Q.refl w).cells c t
  go_enter Try.func26, Try.ntmps26
  go_wp2_with fail
  go_ret
  exact ⟨rfl, qa.out _ _⟩
end Go.Proofs.Ytdempklpmggdoaa

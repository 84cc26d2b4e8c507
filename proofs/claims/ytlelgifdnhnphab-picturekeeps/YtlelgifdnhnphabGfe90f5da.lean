/- New. -/
import Derived.Test.YtlelgifdnhnphabG89eefc08
import Derived.Test.YtlelgifdnhnphabG0cf083a8
import Derived.Test.YtlelgifdnhnphabGab648a0f
namespace Go.Proofs.Ytlelgifdnhnphab
open Go.RowKit
set_option linter.unusedVariables false
set_option linter.unusedSimpArgs false

def noPic : Value := .agg #[.int .i64 0, .slice none 0 0]
set_option maxHeartbeats 1000000 in
set_option maxRecDepth 100000 in
theorem new8_80 (sp n W H : Int) (s : Nat) (h : numB n = false) (w : World) :
    Calls Try.prog 10 #[.int .i64 sp, .int .i64 n, .int .i64 W, .int .i64 H, .int .u32 (s : Int)] w fun e w' => e = .returned (.tuple #[.agg #[.int .i64 0, .slice none 0 0], .int .i64 80]) ∧ Q w w' := by
  have A : ∀ w : World, Calls Try.prog 15 #[.int .i64 n] w fun e w' => e = .returned (.bool false) ∧ w' = w := fun w => h ▸ isnumber_any n w
  have qa : Hid (∀ c t, Q w (w.alloc (.cells c t))) := fun c t => (Q.refl w).cells c t
  clear h
  go_enter Try.func10, Try.ntmps10
  go_wp2_with fail
  refine (A _).mono ?_
  rintro e w1 ⟨rfl, rfl⟩
  go_wp2_with fail
  refine bodyPost_ret (v := .tuple #[.agg #[.int .i64 0, .slice none 0 0], .int .i64 80]) (by simp [results, Try.results10, go_sem]) rfl ⟨rfl, ?_⟩
  exact qa.out _ _
set_option maxHeartbeats 1000000 in
set_option maxRecDepth 100000 in
theorem new8_81 (sp n : Int) {a b : Nat} (hs : Size a b) (s : Nat) (h : numB n = true) (hsp : spcB sp n = false) (w : World) :
    Calls Try.prog 10 #[.int .i64 sp, .int .i64 n, .int .i64 (a : Int), .int .i64 (b : Int), .int .u32 (s : Int)] w fun e w' => e = .returned (.tuple #[.agg #[.int .i64 0, .slice none 0 0], .int .i64 81]) ∧ Q w w' := by
  have A : ∀ w : World, Calls Try.prog 15 #[.int .i64 n] w fun e w' => e = .returned (.bool true) ∧ w' = w := fun w => h ▸ isnumber_any n w
  have B : Hid (∀ w : World, Calls Try.prog 18 #[.int .i64 sp, .int .i64 n] w fun e w' => e = .returned (.bool false) ∧ w' = w) := fun w => hsp ▸ isspace8_any sp n w
  have HS : Hid (Size a b) := hs
  have qa : Hid (∀ c t, Q w (w.alloc (.cells c t))) := fun c t => (Q.refl w).cells c t
  clear h hsp hs
  go_enter Try.func10, Try.ntmps10
  go_wp2_with fail
  refine (A _).mono ?_
  rintro e w1 ⟨rfl, rfl⟩
  go_wp2_with fail
  refine (new_good HS.out s _).mono ?_
  rintro e w2 ⟨g, rfl, ho⟩
  have q2 := ho.q
  have HQ : Hid (Q w w2) := (qa.out _ _).trans q2
  have r0 : w2.cell? ⟨w.heap.size, 0, none⟩ = some (.int .i64 0) := q2.cell (by simp [go_sem])
  have r1 : w2.cell? ⟨w.heap.size, 1, none⟩ = some (.slice none 0 0) := q2.cell (by simp [go_sem])
  have rf : ∀ j, w2.frozen? ⟨w.heap.size, j, none⟩ = false := fun j => (q2.2 _).trans (by simp [go_sem])
  have r0' := fun c t => ((Q.refl w2).cells c t).cell r0
  have r1' := fun c t => ((Q.refl w2).cells c t).cell r1
  have rf' : ∀ c t j, (w2.alloc (.cells c t)).frozen? ⟨w.heap.size, j, none⟩ = false := fun c t j => (((Q.refl w2).cells c t).2 _).trans (rf j)
  clear ho q2
  go_wp2_with fail
  refine (B.out _).mono ?_
  rintro e w3 ⟨rfl, rfl⟩
  go_wp2_with fail
  refine bodyPost_ret (v := .tuple #[.agg #[.int .i64 0, .slice none 0 0], .int .i64 81]) (by simp [results, Try.results10, go_sem, r0', r1']) rfl ⟨rfl, ?_⟩
  exact ((HQ.out.cells _ _).set (Nat.le_refl _) _).set (Nat.le_refl _) _
def sameS (a b s : Nat) : List Nat := tab a b fun _ _ => s
theorem sameS_lt {a b s : Nat} (h : s < 4294967296) (i : Nat) : (sameS a b s).getD i 0 < 4294967296 := tab_lt (by decide) (fun _ _ => h) i
set_option maxHeartbeats 4000000 in
set_option maxRecDepth 100000 in
theorem new8_good (sp : Int) (n a b : Nat) (hs : Size a b) (s : Nat) (hsl : s < 4294967296) (n1 : 1 ≤ n) (n4 : n ≤ 4) (hsp : spcB sp n = true) (w : World) :
    Calls Try.prog 10 #[.int .i64 sp, .int .i64 (n : Int), .int .i64 (a : Int), .int .i64 (b : Int), .int .u32 (s : Int)] w fun e w' => ∃ g' cap' M, e = .returned (.tuple #[.agg #[.int .i64 sp, .slice (some ⟨g', 0, none⟩) n cap'], .int .i64 0]) ∧ M.map PL.S = List.replicate n (sameS a b s) ∧ Hid (Nw w.heap.size w' g' cap' a b M) ∧ Q w w' := by
  have h : numB n = true := by unfold numB; simp; omega
  have A : ∀ w : World, Calls Try.prog 15 #[.int .i64 (n : Int)] w fun e w' => e = .returned (.bool true) ∧ w' = w := fun w => h ▸ isnumber_any n w
  have B : Hid (∀ w : World, Calls Try.prog 18 #[.int .i64 sp, .int .i64 (n : Int)] w fun e w' => e = .returned (.bool true) ∧ w' = w) := fun w => hsp ▸ isspace8_any sp n w
  have HSZ : Hid (Size a b) := hs
  have qa : Hid (∀ c t, Q w (w.alloc (.cells c t))) := fun c t => (Q.refl w).cells c t
  have l1 := enters_of Try.func25 (by kernel_rfl) rfl
  clear h hsp hs
  go_enter Try.func10, Try.ntmps10
  go_wp2_with fail
  refine (A _).mono ?_
  rintro e w1 ⟨rfl, rfl⟩
  go_wp2_with fail
  refine (new_good HSZ.out s _).mono ?_
  rintro e w2 ⟨gq, rfl, ho⟩
  have q2 := ho.q
  have HQ2 : Hid (Q w w2) := (qa.out _ _).trans q2
  have hS : (sameS a b s).length = a * b := tab_length _ _ _
  have HX : Hid (Gd w2 (a * b) ⟨gq, 0, a * b, sameS a b s⟩) := ⟨hS, by show (sameS a b s).length ≤ a * b; omega, ho.cells, sameS_lt hsl⟩
  have r0 : w2.cell? ⟨w.heap.size, 0, none⟩ = some (.int .i64 0) := q2.cell (by simp [go_sem])
  have r1 : w2.cell? ⟨w.heap.size, 1, none⟩ = some (.slice none 0 0) := q2.cell (by simp [go_sem])
  have rf : ∀ j, w2.frozen? ⟨w.heap.size, j, none⟩ = false := fun j => (q2.2 _).trans (by simp [go_sem])
  obtain ⟨NN, hNN⟩ : ∃ NN, a * b = NN := ⟨_, rfl⟩
  have HNN : Hid (a * b = NN ∧ (sameS a b s).length = NN) := ⟨hNN, by rw [hS, hNN]⟩
  rw [hNN]
  clear ho q2 hS hNN
  go_wp2_with fail
  refine (B.out _).mono ?_
  rintro e w3 ⟨rfl, rfl⟩
  go_wp2_with fail
  have q23 : Q w2 ((w2.alloc (Obj.cells #[Value.int IntKind.i64 ↑a, Value.int IntKind.i64 ↑b, Value.slice (some { block := gq, off := 0 }) NN NN] 34)).alloc (Obj.cells #[Value.int IntKind.i64 sp, Value.slice none 0 0] 24)) := ((Q.refl w2).cells _ _).cells _ _
  have hz3 : ((w2.alloc (Obj.cells #[Value.int IntKind.i64 ↑a, Value.int IntKind.i64 ↑b, Value.slice (some { block := gq, off := 0 }) NN NN] 34)).alloc (Obj.cells #[Value.int IntKind.i64 sp, Value.slice none 0 0] 24)).heap.size = w2.heap.size + 2 := by simp
  have k0 : ((w2.alloc (Obj.cells #[Value.int IntKind.i64 ↑a, Value.int IntKind.i64 ↑b, Value.slice (some { block := gq, off := 0 }) NN NN] 34)).alloc (Obj.cells #[Value.int IntKind.i64 sp, Value.slice none 0 0] 24)).cell? ⟨w2.heap.size, 0, none⟩ = some (.int .i64 (a : Int)) := by simp [go_sem]
  have k1 : ((w2.alloc (Obj.cells #[Value.int IntKind.i64 ↑a, Value.int IntKind.i64 ↑b, Value.slice (some { block := gq, off := 0 }) NN NN] 34)).alloc (Obj.cells #[Value.int IntKind.i64 sp, Value.slice none 0 0] 24)).cell? ⟨w2.heap.size, 1, none⟩ = some (.int .i64 (b : Int)) := by simp [go_sem]
  have k2 : ((w2.alloc (Obj.cells #[Value.int IntKind.i64 ↑a, Value.int IntKind.i64 ↑b, Value.slice (some { block := gq, off := 0 }) NN NN] 34)).alloc (Obj.cells #[Value.int IntKind.i64 sp, Value.slice none 0 0] 24)).cell? ⟨w2.heap.size, 2, none⟩ = some (.slice (some ⟨gq, 0, none⟩) NN NN) := by simp [go_sem]
  have HB : Hid (Bld (w2.heap.size + 2) ((w2.alloc (Obj.cells #[Value.int IntKind.i64 ↑a, Value.int IntKind.i64 ↑b, Value.slice (some { block := gq, off := 0 }) NN NN] 34)).alloc (Obj.cells #[Value.int IntKind.i64 sp, Value.slice none 0 0] 24)) (w2.heap.size + 1) sp (.slice none 0 0) a b []) := Bld.start (by simp [go_sem]) (by simp [go_sem]) (fun j => by simp [go_sem]) (by omega) a b
  generalize ((w2.alloc (Obj.cells #[Value.int IntKind.i64 ↑a, Value.int IntKind.i64 ↑b, Value.slice (some { block := gq, off := 0 }) NN NN] 34)).alloc (Obj.cells #[Value.int IntKind.i64 sp, Value.slice none 0 0] 24)) = w4 at *
  have HQ4 : Hid (Q w w4) := HQ2.out.trans q23
  have hlt2 : w.heap.size < w2.heap.size := cell_in r0
  replace r0 := q23.cell r0
  replace r1 := q23.cell r1
  replace rf : ∀ j, w4.frozen? ⟨w.heap.size, j, none⟩ = false := fun j => (q23.2 _).trans (rf j)
  go_loopg [40] n (fun m s40 wx => ∃ (i : Nat) (v : Value) (M : List PL), s40 = .int .i64 i ∧ i + m = n ∧ Hid (M.map PL.S = List.replicate i (sameS a b s)) ∧ Hid (Bld (w2.heap.size + 2) wx (w2.heap.size + 1) sp v a b M) ∧ Hid (Q w wx) ∧ Hid (Q w2 wx) ∧ Hid (Fr w4 wx (fun b => b ≠ w2.heap.size + 1 ∧ b < w2.heap.size + 2)))
  case atStart => exact ⟨0, _, [], rfl, by omega, rfl, HB, HQ4, q23, Fr.refl _ _⟩
  case round =>
    obtain ⟨i, v, M, rfl, him, HS, HB, HQ, HQ2r, HF⟩ := hrel
    have hml : M.length = i := by have := congrArg List.length HS.out; rw [List.length_map, List.length_replicate] at this; exact this
    by_cases hi : i < n
    · have hi0 : (0 : Int) ≤ (i : Int) := by omega
      have hi1 : (i : Int) < (n : Int) := by omega
      have k0r := HF.out.cell k0 ⟨by show w2.heap.size ≠ _; omega, by show w2.heap.size < _; omega⟩
      have k1r := HF.out.cell k1 ⟨by show w2.heap.size ≠ _; omega, by show w2.heap.size < _; omega⟩
      have k2r := HF.out.cell k2 ⟨by show w2.heap.size ≠ _; omega, by show w2.heap.size < _; omega⟩
      have t1 := HB.out.c1
      have f1 := qw_cell t1
      have f2 := qw_cell k0r
      have f3 := qw_cell k1r
      have f4 := qw_cell k2r
      have n0 := qw_some wr
      go_wp2_with fail
      refine wp_region_mk [0, 1, 2] [[3, 4, 5, 6, 7]] 5 _ (by kernel_rfl) (by kernel_rfl) rfl (by kernel_rfl) ?_
      simp only [List.filterMap_cons, List.filterMap_nil, List.getElem?_cons_zero, List.getElem?_cons_succ]
      repeat (first | go_big_quiet_step (fail) | quiet_step (fail))
      refine wpQuiet_nil ?_
      intro x4 hx4
      clear f1 f2 f3 f4 n0 k0r k1r k2r
      refine tree_call 3 rfl rfl (run_fn 25 #[.tmp 44] _ rfl l1 (vs := #[plV a b ⟨gq, 0, a * b, sameS a b s⟩]) (by simp [Act.eval, plV, PL.v, HNN.out.1, HNN.out.2])) (copiedp_u x4 a b ⟨gq, 0, a * b, sameS a b s⟩ (HX.out.next (HQ2r.out.trans hx4)) HSZ.out) ?_
      rintro u w5 ⟨y, rfl, hy, hm, hq5⟩
      have hq35 : Q wr w5 := hx4.trans hq5
      have HY : Hid (y.S = sameS a b s) := hy
      clear hy
      refine ⟨hq35, ?_⟩
      have HB5 := HB.out.next (hq35.cells #[.int .i64 (a : Int), .int .i64 (b : Int), .slice (some ⟨y.g, y.o, none⟩) y.S.length y.cap] 34)
      have hz4 : w2.heap.size + 2 ≤ wr.heap.size := by have := HF.out.size; omega
      have hlow := hm.out.low
      have hs34 := hx4.1.size
      obtain ⟨g7, cap7, w7, hr7, ct7, cf7, HB7, HQ7, HF7⟩ := HB5.app (HQ.out.trans (hq35.cells _ _)) (by have := HQ2.out.1.size; omega) (by have := hq35.1.size; simp; omega) (y := y) ((hm.out.next ((Q.refl w5).cells _ _)).mono (by omega)) (fun e => by have := (own_lt HB.out.row.own e).2; omega) (fun z hz' e => by have := (HB.out.row.it z hz').1.high; omega) (by omega) (ad := ⟨w5.heap.size, 0, none⟩) (c := 1) (one_pl a b y)
      refine tree_run 4 rfl rfl (v := .slice (some ⟨w5.heap.size, 0, none⟩) 1 1) (x' := w5.alloc (.cells #[.int .i64 (a : Int), .int .i64 (b : Int), .slice (some ⟨y.g, y.o, none⟩) y.S.length y.cap] 34)) (by simp [execOp, go_sem]) (hq35.cells _ _) ?_
      refine tree_runF 5 rfl rfl rfl (x' := w7) (run_appop rfl (v := v) (v' := .slice (some ⟨w5.heap.size, 0, none⟩) 1 1) (by simp [Act.eval, Act.put]) (by simp [Act.eval, Act.put]) hr7) ?_
      refine tree_runF 6 rfl rfl rfl (v := .pointer (some ⟨w2.heap.size + 1, 1, none⟩)) (x' := w7) (by simp [execOp, go_sem]) ?_
      refine tree_skipF 7 rfl rfl rfl (x' := w7.setCell ⟨w2.heap.size + 1, 1, none⟩ (.slice (some ⟨g7, 0, none⟩) (M.length + 1) cap7)) (by simp [execOp, go_sem, ct7, cf7]) ?_
      refine tree_nil ?_
      have HM : Hid ((M ++ [y]).map PL.S = List.replicate (i + 1) (sameS a b s)) := by
        show _ = _
        rw [List.map_append, HS.out, List.replicate_succ', List.map_cons, List.map_nil, HY.out]
      have HF8 : Hid (Fr w4 (w7.setCell ⟨w2.heap.size + 1, 1, none⟩ (.slice (some ⟨g7, 0, none⟩) (M.length + 1) cap7)) (fun b => b ≠ w2.heap.size + 1 ∧ b < w2.heap.size + 2)) := (HF.out.trans ((hq35.cells _ _).fr _)).trans (HF7.out.mono (fun z hz' _ => ⟨hz'.1, fun e => by have := (own_lt HB.out.row.own e).1; omega⟩))
      have HQ28 : Hid (Q w2 (w7.setCell ⟨w2.heap.size + 1, 1, none⟩ (.slice (some ⟨g7, 0, none⟩) (M.length + 1) cap7))) := (HF7.out.mono (R' := fun b => b < w2.heap.size) (fun z hz' _ => ⟨by omega, fun e => by have := (own_lt HB.out.row.own e).1; omega⟩)).q (HQ2r.out.trans (hq35.cells _ _)) (fun b hb => hb)
      generalize w7.setCell ⟨w2.heap.size + 1, 1, none⟩ (.slice (some ⟨g7, 0, none⟩) (M.length + 1) cap7) = w8 at *
      clear hr7 ct7 cf7 HB5 hm hq5 hq35 hx4 t1
      go_wp2_with fail
      go_roundg (n - (i + 1))
      case measure => go_light; omega
      case rel => go_light; exact ⟨i + 1, _, _, by go_num, by omega, HM, HB7, HQ7, HQ28, HF8⟩
    · have hie : i = n := by omega
      have HM : Hid (M.map PL.S = List.replicate n (sameS a b s)) := by rw [hie] at HS; exact HS
      have t0 := HB.out.c0
      have t1 := HB.out.c1
      have r0r := HF.out.cell r0 ⟨by show w.heap.size ≠ _; omega, by show w.heap.size < _; omega⟩
      have r1r := HF.out.cell r1 ⟨by show w.heap.size ≠ _; omega, by show w.heap.size < _; omega⟩
      have rfr : ∀ j, wr.frozen? ⟨w.heap.size, j, none⟩ = false := fun j => (HF.out.frz _).trans (rf j)
      obtain ⟨hvo, ⟨hv1, hv2⟩ | ⟨gv, capv, cur, hv1, hv2⟩⟩ := HB.out.row.own
      · omega
      · subst hv1
        have HW : Hid (Nw (w2.heap.size + 2) wr gv capv a b M) := HB.out.row.nw HSZ.out (by omega) (by omega)
        rw [hml, hie] at t1
        clear hv2 hvo
        go_wp2_with fail
        have F9 : Fr wr ((wr.setCell ⟨w.heap.size, 0, none⟩ (.int .i64 sp)).setCell ⟨w.heap.size, 1, none⟩ (.slice (some ⟨gv, 0, none⟩) n capv)) (fun b => b ≠ w.heap.size) := ((Fr.refl wr _).set (fun h => h rfl) _).set (fun h => h rfl) _
        refine bodyPost_ret (v := .tuple #[.agg #[.int .i64 sp, .slice (some ⟨gv, 0, none⟩) n capv], .int .i64 0]) (by simp [results, Try.results10, go_sem, r0r, r1r]) rfl ⟨gv, capv, M, rfl, HM.out, (HW.out.keep F9 (by have := HW.out.low; omega) (fun x hx => by have := (HW.out.it x hx).1.low; omega)).mono (by omega), (HQ.out.set (Nat.le_refl _) _).set (Nat.le_refl _) _⟩
end Go.Proofs.Ytlelgifdnhnphab
/- Pictures that are the same. -/
namespace Go.Proofs.Ytlelgifdnhnphab
open Go.RowKit
set_option linter.unusedVariables false
set_option linter.unusedSimpArgs false

set_option maxHeartbeats 4000000 in
set_option maxRecDepth 100000 in
theorem words_yes (v v' : Value) (xs : List Nat) (w : World) (h : USl w v xs) (h' : USl w v' xs) (hn : xs.length ≤ 9223372036854775807) :
    Calls Try.prog 46 #[v, v'] w fun e w' => e = .returned (.bool true) ∧ Q w w' := by
  obtain ⟨a, cap, ev⟩ := h.form
  obtain ⟨a', cap', ev'⟩ := h'.form
  subst ev ev'
  have HS : Hid (USl w (.slice a xs.length cap) xs) := h
  have HT : Hid (USl w (.slice a' xs.length cap') xs) := h'
  obtain ⟨n, en⟩ : ∃ n, xs.length = n := ⟨_, rfl⟩
  have HN : Hid (xs.length = n) := en
  rw [en] at HS HT hn ⊢
  have hnn : ((n : Int) == (n : Int)) = true := by simp
  clear h h' en
  go_enter Try.func46, Try.ntmps46
  go_wp2_with fail
  go_loopg [5] n (fun m s5 wx => ∃ i : Nat, s5 = .int .i64 i ∧ i + m = n ∧ Hid (Q w wx))
  case atStart => exact ⟨0, rfl, by omega, Q.refl w⟩
  case round =>
    obtain ⟨i, rfl, him, HQ⟩ := hrel
    by_cases hi : i < n
    · have hi0 : (0 : Int) ≤ (i : Int) := by omega
      have hi1 : (i : Int) < (n : Int) := by omega
      obtain ⟨g, o, c, e1, e2, e3⟩ := HS.out.some (by rw [HN.out]; omega)
      obtain ⟨g', o', c', f1, f2, f3⟩ := HT.out.some (by rw [HN.out]; omega)
      injection e1 with e1 hh1 hh2
      clear hh1 hh2
      injection f1 with f1 hh1 hh2
      clear hh1 hh2
      subst e1 f1
      have c1 := HQ.out.cell (e3 i (by rw [HN.out]; exact hi))
      have c2 := HQ.out.cell (f3 i (by rw [HN.out]; exact hi))
      obtain ⟨z, hz⟩ : ∃ z, xs.getD i 0 = z := ⟨_, rfl⟩
      rw [hz] at c1 c2
      have hzz : ((z : Int) == (z : Int)) = true := by simp
      have n0 := qw_some wr
      have d1 := qw_cell c1
      have d2 := qw_cell c2
      clear hz e2 e3 f2 f3
      go_wp2_with fail
      refine wp_region_quiet_Q (by kernel_rfl) (by kernel_rfl) ?_
      repeat (first | go_big_quiet_step (fail) | quiet_step (fail))
      refine wpQuiet_nil ?_
      intro w4 hw'
      have hq4 := qw_out hw'
      have HQ4 : Hid (Q w w4) := HQ.out.trans hq4
      clear hw' n0 d1 d2
      go_wp2_with fail
      go_roundg (n - (i + 1))
      case measure => go_light; omega
      case rel => go_light; exact ⟨i + 1, by go_num, by omega, HQ4⟩
    · have hie : i = n := by omega
      go_wp2_with fail
      go_ret
      exact ⟨rfl, HQ.out⟩
set_option maxHeartbeats 2000000 in
set_option maxRecDepth 100000 in
theorem planes_yes (a b : Int) (p q : Option Addr) (n c d : Nat) (S : List Nat) (w : World) (h : USl w (.slice p n c) S) (h' : USl w (.slice q n d) S) (hn : S.length ≤ 9223372036854775807) :
    Calls Try.prog 31 #[.agg #[.int .i64 a, .int .i64 b, .slice p n c], .agg #[.int .i64 a, .int .i64 b, .slice q n d]] w fun e w' => e = .returned (.bool true) ∧ Q w w' := by
  have H1 : Hid (USl w (.slice p n c) S) := h
  have H2 : Hid (USl w (.slice q n d) S) := h'
  clear h h'
  have qa : Hid (∀ a b c d, Q w ((w.alloc (.cells a b)).alloc (.cells c d))) := fun a b c d => ((Q.refl w).cells _ _).cells _ _
  go_enter Try.func31, Try.ntmps31
  go_wp2_with fail
  refine (words_yes _ _ S _ (H1.out.next (qa.out _ _ _ _)) (H2.out.next (qa.out _ _ _ _)) hn).mono ?_
  rintro e w1 ⟨rfl, q1⟩
  go_wp2_with fail
  go_ret
  exact ⟨rfl, (qa.out _ _ _ _).trans q1⟩
def PD.same (x y : PD) : Prop := x.W = y.W ∧ x.H = y.H ∧ x.S = y.S
set_option maxHeartbeats 4000000 in
set_option maxRecDepth 100000 in
theorem pics_yes (sp : Int) (v v' : Value) (D D' : List PD) (w : World) (h : DSl w v D) (h' : DSl w v' D') (hl : D.length = D'.length) (hs : ∀ (i : Nat) (x y : PD), D[i]? = some x → D'[i]? = some y → x.same y) (hb : ∀ x ∈ D, x.S.length ≤ 9223372036854775807) (hD : D.length ≤ 9223372036854775807) :
    Calls Try.prog 13 #[.agg #[.int .i64 sp, v], .agg #[.int .i64 sp, v']] w fun e w' => e = .returned (.bool true) ∧ Q w w' := by
  obtain ⟨ad, cap, rfl⟩ := h.form
  obtain ⟨ad', cap', rfl⟩ := h'.form
  have H1 : Hid (DSl w (.slice ad D.length cap) D) := h
  have H2 : Hid (DSl w (.slice ad' D'.length cap') D') := h'
  have HS : Hid (∀ (i : Nat) (x y : PD), D[i]? = some x → D'[i]? = some y → x.same y) := hs
  have HB : Hid (∀ x ∈ D, x.S.length ≤ 9223372036854775807) := hb
  obtain ⟨n, hn⟩ : ∃ n, D.length = n := ⟨_, rfl⟩
  have hn' : D'.length = n := by omega
  have HN : Hid (D.length = n ∧ D'.length = n) := ⟨hn, hn'⟩
  rw [hn] at H1 hD ⊢
  rw [hn'] at H2 ⊢
  clear h h' hs hb hn hn' hl
  go_enter Try.func13, Try.ntmps13
  go_wp2_with fail
  have HQ1 : Hid (Q w ((w.alloc (Obj.cells #[Value.int IntKind.i64 sp, Value.slice ad n cap] 24)).alloc (Obj.cells #[Value.int IntKind.i64 sp, Value.slice ad' n cap'] 24))) := ((Q.refl w).cells _ _).cells _ _
  have b0 : ((w.alloc (Obj.cells #[Value.int IntKind.i64 sp, Value.slice ad n cap] 24)).alloc (Obj.cells #[Value.int IntKind.i64 sp, Value.slice ad' n cap'] 24)).cell? ⟨w.heap.size, 1, none⟩ = some (.slice ad n cap) := by simp [go_sem]
  have b1 : ((w.alloc (Obj.cells #[Value.int IntKind.i64 sp, Value.slice ad n cap] 24)).alloc (Obj.cells #[Value.int IntKind.i64 sp, Value.slice ad' n cap'] 24)).cell? ⟨w.heap.size + 1, 1, none⟩ = some (.slice ad' n cap') := by simp [go_sem]
  generalize ((w.alloc (Obj.cells #[Value.int IntKind.i64 sp, Value.slice ad n cap] 24)).alloc (Obj.cells #[Value.int IntKind.i64 sp, Value.slice ad' n cap'] 24)) = w1 at *
  go_loopg [5] n (fun m s5 wx => ∃ i : Nat, s5 = .int .i64 i ∧ i + m = n ∧ Hid (Q w1 wx))
  case atStart => exact ⟨0, rfl, by omega, Q.refl _⟩
  case round =>
    obtain ⟨i, rfl, him, HQ⟩ := hrel
    have p0 := HQ.out.cell b0
    have p1 := HQ.out.cell b1
    by_cases hi : i < n
    · have hi0 : (0 : Int) ≤ (i : Int) := by omega
      have hi1 : (i : Int) < (n : Int) := by omega
      obtain ⟨g, o, c, e1, e2, e3⟩ := H1.out.some (by rw [HN.out.1]; omega)
      obtain ⟨g', o', c', e1', e2', e3'⟩ := H2.out.some (by rw [HN.out.2]; omega)
      injection e1 with e1 e4 e5
      injection e1' with e1' e4' e5'
      subst e1 e5 e1' e5'
      clear e4 e4' e2 e2'
      obtain ⟨x, hx⟩ : ∃ x, D[i]? = some x := ⟨_, List.getElem?_eq_getElem (by rw [HN.out.1]; exact hi)⟩
      obtain ⟨y, hy⟩ : ∃ y, D'[i]? = some y := ⟨_, List.getElem?_eq_getElem (by rw [HN.out.2]; exact hi)⟩
      obtain ⟨s1, s2, s3⟩ := HS.out i x y hx hy
      obtain ⟨c0, c1, c2, cu⟩ := (e3.next (HQ1.out.trans HQ.out)) i x hx
      obtain ⟨d0, d1, d2, du⟩ := (e3'.next (HQ1.out.trans HQ.out)) i y hy
      unfold PD.sv at cu du
      rw [← s1] at d0
      rw [← s2] at d1
      rw [← s3] at d2 du
      have hb := HB.out x (List.mem_of_getElem? hx)
      have HO : Hid (∀ z : World, Q wr z → Calls Try.prog 31 #[.agg #[.int .i64 x.W, .int .i64 x.H, .slice x.ad x.S.length x.cap], .agg #[.int .i64 x.W, .int .i64 x.H, .slice y.ad x.S.length y.cap]] z fun e w' => e = .returned (.bool true) ∧ Q z w') := fun z hz => planes_yes x.W x.H x.ad y.ad x.S.length x.cap y.cap x.S z (cu.next hz) (du.next hz) hb
      have n0 := qw_some wr
      have f0 := qw_cell c0
      have f1 := qw_cell c1
      have f2 := qw_cell c2
      have f3 := qw_cell d0
      have f4 := qw_cell d1
      have f5 := qw_cell d2
      have f6 := qw_cell p0
      have f7 := qw_cell p1
      clear hx hy s1 s2 s3 e3 e3' cu du c0 c1 c2 d0 d1 d2
      go_wp2_with fail
      refine wp_region_quiet_Q (by kernel_rfl) (by kernel_rfl) ?_
      repeat (first | go_big_quiet_step (first | (go_at_call 31; exact calls_qw (HO.out _ (QW.q _)))) | quiet_step (first | (go_at_call 31; exact calls_qw (HO.out _ (QW.q _)))))
      refine wpQuiet_nil ?_
      intro w4 hw'
      have HQ4 : Hid (Q w1 w4) := HQ.out.trans (qw_out hw')
      clear hw' f0 f1 f2 f3 f4 f5 f6 f7 n0
      go_wp2_with fail
      go_roundg (n - (i + 1))
      case measure => go_light; omega
      case rel => go_light; exact ⟨i + 1, by go_num, by omega, HQ4⟩
    · go_wp2_with fail
      go_ret
      exact ⟨rfl, HQ1.out.trans HQ.out⟩
end Go.Proofs.Ytlelgifdnhnphab

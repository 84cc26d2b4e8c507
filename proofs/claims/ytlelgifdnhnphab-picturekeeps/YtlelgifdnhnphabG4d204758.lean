/- Pictures of one place. -/
import Derived.Test.YtlelgifdnhnphabG38032af5
import Derived.Test.YtlelgifdnhnphabG913991d9
import Derived.Test.YtlelgifdnhnphabG57822032
import Derived.Test.YtlelgifdnhnphabG57c5a38a
import Derived.Test.YtlelgifdnhnphabGfe90f5da
namespace Go.Proofs.Ytlelgifdnhnphab
open Go.RowKit
set_option linter.unusedVariables false
set_option linter.unusedSimpArgs false

theorem mine_one (x : World) {base v : Nat} (hb : base ≤ x.heap.size) (hv : v < 4294967296) : Mine base (x.alloc (.cells #[.int .u32 (v : Int)] 25)) (1 * 1) ⟨x.heap.size, 0, 1, [v]⟩ := by
  have hr : (x.alloc (.cells #[.int .u32 (v : Int)] 25)).heap[x.heap.size]? = some (.cells #[.int .u32 (v : Int)] 25 (0, 0)) := heap_alloc_new x _
  have c : (x.alloc (.cells #[.int .u32 (v : Int)] 25)).cell? ⟨x.heap.size, 0, none⟩ = some (.int .u32 (v : Int)) := by rw [cell_of_row _ _ 0 _ 25 (0, 0) hr]; rfl
  refine ⟨rfl, hb, by show x.heap.size < _; simp, ⟨rfl, Nat.le_refl _, fun i hi => ?_, fun i => ?_⟩, fun j => frozen_of_row _ _ _ _ _ hr, fun j hj => ?_, by show 1 ≤ maxLen; unfold maxLen; omega⟩
  · have hi : i < 1 := hi
    obtain rfl : i = 0 := by omega
    exact c
  · rcases i with _ | i
    · exact hv
    · show (0 : Nat) < _; decide
  · have hj : j < 1 := hj
    obtain rfl : j = 0 := by omega
    exact ⟨_, c⟩
set_option maxHeartbeats 4000000 in
set_option maxRecDepth 100000 in
theorem place_any (w : World) (sp : Int) (g o cap n : Nat) (xs : List Nat) (hx : UIs w g o xs) (hn : xs.length = n) (n1 : 1 ≤ n) (n4 : n ≤ 4) (hlt : ∀ i, xs.getD i 0 < 4294967296) :
    Calls Try.prog 14 #[.int .i64 sp, .slice (some ⟨g, o, none⟩) n cap] w fun e w' => ∃ g' cap' M, e = .returned (.agg #[.int .i64 sp, .slice (some ⟨g', 0, none⟩) n cap']) ∧ M.map PL.S = xs.map (fun x => [x]) ∧ Hid (Nw w.heap.size w' g' cap' 1 1 M) ∧ Q w w' := by
  have HX : Hid (UIs w g o xs) := hx
  have HN : Hid (xs.length = n) := hn
  have HL : Hid (∀ i, xs.getD i 0 < 4294967296) := hlt
  clear hx hn hlt
  go_enter Try.func14, Try.ntmps14
  go_wp2_with fail
  have HQ : Hid (Q w ((w.alloc (Obj.cells #[Value.int IntKind.i64 0, Value.slice none 0 0] 24)).alloc (Obj.cells #[Value.int IntKind.i64 sp, Value.slice none 0 0] 24))) := ((Q.refl w).cells _ _).cells _ _
  have hz : ((w.alloc (Obj.cells #[Value.int IntKind.i64 0, Value.slice none 0 0] 24)).alloc (Obj.cells #[Value.int IntKind.i64 sp, Value.slice none 0 0] 24)).heap.size = w.heap.size + 2 := by simp
  have e0 : ((w.alloc (Obj.cells #[Value.int IntKind.i64 0, Value.slice none 0 0] 24)).alloc (Obj.cells #[Value.int IntKind.i64 sp, Value.slice none 0 0] 24)).cell? ⟨w.heap.size, 0, none⟩ = some (.int .i64 0) := by simp [go_sem]
  have e1 : ((w.alloc (Obj.cells #[Value.int IntKind.i64 0, Value.slice none 0 0] 24)).alloc (Obj.cells #[Value.int IntKind.i64 sp, Value.slice none 0 0] 24)).cell? ⟨w.heap.size, 1, none⟩ = some (.slice none 0 0) := by simp [go_sem]
  have ef : ∀ j, ((w.alloc (Obj.cells #[Value.int IntKind.i64 0, Value.slice none 0 0] 24)).alloc (Obj.cells #[Value.int IntKind.i64 sp, Value.slice none 0 0] 24)).frozen? ⟨w.heap.size, j, none⟩ = false := fun j => by simp [go_sem]
  have HB : Hid (Bld (w.heap.size + 2) ((w.alloc (Obj.cells #[Value.int IntKind.i64 0, Value.slice none 0 0] 24)).alloc (Obj.cells #[Value.int IntKind.i64 sp, Value.slice none 0 0] 24)) (w.heap.size + 1) sp (.slice none 0 0) 1 1 []) := Bld.start (by simp [go_sem]) (by simp [go_sem]) (fun j => by simp [go_sem]) (by omega) 1 1
  generalize ((w.alloc (Obj.cells #[Value.int IntKind.i64 0, Value.slice none 0 0] 24)).alloc (Obj.cells #[Value.int IntKind.i64 sp, Value.slice none 0 0] 24)) = w1 at *
  go_loopg [6] n (fun m s6 wx => ∃ (i : Nat) (v : Value) (M : List PL), s6 = .int .i64 i ∧ i + m = n ∧ Hid (M.map PL.S = (xs.take i).map (fun x => [x])) ∧ Hid (Bld (w.heap.size + 2) wx (w.heap.size + 1) sp v 1 1 M) ∧ Hid (Q w wx) ∧ Hid (Fr w1 wx (fun b => b ≠ w.heap.size + 1 ∧ b < w.heap.size + 2)))
  case atStart => exact ⟨0, _, [], rfl, by omega, rfl, HB, HQ, Fr.refl _ _⟩
  case round =>
    obtain ⟨i, v, M, rfl, him, HS, HB, HQ, HF⟩ := hrel
    have hml : M.length = i := by have := congrArg List.length HS.out; rw [List.length_map, List.length_map, List.length_take, HN.out] at this; omega
    by_cases hi : i < n
    · have hi0 : (0 : Int) ≤ (i : Int) := by omega
      have hi1 : (i : Int) < (n : Int) := by omega
      obtain ⟨q, hq⟩ : ∃ q, xs.getD i 0 = q := ⟨_, rfl⟩
      have c0 := (HX.out.next HQ.out) i (by rw [HN.out]; exact hi)
      have hqx : xs[i]? = some q := by
        rw [List.getD_eq_getElem?_getD] at hq
        rw [List.getElem?_eq_getElem (by rw [HN.out]; exact hi)] at hq ⊢
        rw [← hq]; rfl
      have hql : q < 4294967296 := by rw [← hq]; exact HL.out i
      rw [hq] at c0
      have t1 := HB.out.c1
      have f1 := qw_cell t1
      have f2 := qw_cell c0
      have n0 := qw_some wr
      clear hq
      go_wp2_with fail
      refine wp_region_mk [0, 1, 2, 3, 4, 5] [[6, 7, 8, 9, 10, 11]] 6 _ (by kernel_rfl) (by kernel_rfl) rfl (by kernel_rfl) ?_
      simp only [List.filterMap_cons, List.filterMap_nil, List.getElem?_cons_zero, List.getElem?_cons_succ]
      repeat (first | go_big_quiet_step (fail) | quiet_step (fail))
      refine wpQuiet_nil ?_
      intro x4 hx4
      clear f1 f2 n0 c0
      have hz3 : w.heap.size + 2 ≤ wr.heap.size := by have := HF.out.size; omega
      have hs34 := hx4.1.size
      have hm : Hid (Mine (w.heap.size + 2) (x4.alloc (.cells #[.int .u32 (q : Int)] 25)) (1 * 1) ⟨x4.heap.size, 0, 1, [q]⟩) := mine_one x4 (by omega) hql
      have hq5 : Q wr (x4.alloc (.cells #[.int .u32 (q : Int)] 25)) := hx4.cells _ _
      have hz5 : (x4.alloc (.cells #[.int .u32 (q : Int)] 25)).heap.size = x4.heap.size + 1 := by simp
      refine tree_run 6 rfl rfl (v := .slice (some ⟨x4.heap.size, 0, none⟩) 1 1) (x' := x4.alloc (.cells #[.int .u32 (q : Int)] 25)) (by simp [execOp, go_sem]) hq5 ?_
      generalize x4.alloc (.cells #[.int .u32 (q : Int)] 25) = w5 at *
      have HB5 := HB.out.next (hq5.cells #[.int .i64 1, .int .i64 1, .slice (some ⟨x4.heap.size, 0, none⟩) 1 1] 34)
      obtain ⟨g7, cap7, w7, hr7, ct7, cf7, HB7, HQ7, HF7⟩ := HB5.app (HQ.out.trans (hq5.cells _ _)) (by omega) (by have := hq5.1.size; simp; omega) (y := ⟨x4.heap.size, 0, 1, [q]⟩) (hm.out.next ((Q.refl w5).cells _ _)) (fun e => by have := (own_lt HB.out.row.own (b := x4.heap.size) e).2; omega) (fun z hz' e => by have := (HB.out.row.it z hz').1.high; have e : z.g = x4.heap.size := e; omega) (by omega) (ad := ⟨w5.heap.size, 0, none⟩) (c := 1) (one_pl 1 1 ⟨x4.heap.size, 0, 1, [q]⟩)
      refine tree_run 7 rfl rfl (v := .agg #[.int .i64 1, .int .i64 1, .slice (some ⟨x4.heap.size, 0, none⟩) 1 1]) (x' := w5) (by simp [execOp, go_sem]) hq5 ?_
      refine tree_run 8 rfl rfl (v := .slice (some ⟨w5.heap.size, 0, none⟩) 1 1) (x' := w5.alloc (.cells #[.int .i64 1, .int .i64 1, .slice (some ⟨x4.heap.size, 0, none⟩) 1 1] 34)) (by simp [execOp, go_sem]) (hq5.cells _ _) ?_
      refine tree_runF 9 rfl rfl rfl (x' := w7) (run_appop rfl (v := v) (v' := .slice (some ⟨w5.heap.size, 0, none⟩) 1 1) (by simp [Act.eval, Act.put]) (by simp [Act.eval, Act.put]) hr7) ?_
      refine tree_runF 10 rfl rfl rfl (v := .pointer (some ⟨w.heap.size + 1, 1, none⟩)) (x' := w7) (by simp [execOp, go_sem]) ?_
      refine tree_skipF 11 rfl rfl rfl (x' := w7.setCell ⟨w.heap.size + 1, 1, none⟩ (.slice (some ⟨g7, 0, none⟩) (M.length + 1) cap7)) (by simp [execOp, go_sem, ct7, cf7]) ?_
      refine tree_nil ?_
      have HM : Hid ((M ++ [(⟨x4.heap.size, 0, 1, [q]⟩ : PL)]).map PL.S = (xs.take (i + 1)).map (fun x => [x])) := by
        show _ = _
        rw [List.take_add_one, hqx, List.map_append, List.map_append, HS.out]; rfl
      have HF8 : Hid (Fr w1 (w7.setCell ⟨w.heap.size + 1, 1, none⟩ (.slice (some ⟨g7, 0, none⟩) (M.length + 1) cap7)) (fun b => b ≠ w.heap.size + 1 ∧ b < w.heap.size + 2)) := (HF.out.trans ((hq5.cells _ _).fr _)).trans (HF7.out.mono (fun z hz' _ => ⟨hz'.1, fun e => by have := (own_lt HB.out.row.own e).1; omega⟩))
      generalize w7.setCell ⟨w.heap.size + 1, 1, none⟩ (.slice (some ⟨g7, 0, none⟩) (M.length + 1) cap7) = w8 at *
      clear hr7 ct7 cf7 HB5 hm hx4 t1 hqx
      go_wp2_with fail
      go_roundg (n - (i + 1))
      case measure => go_light; omega
      case rel => go_light; exact ⟨i + 1, _, _, by go_num, by omega, HM, HB7, HQ7, HF8⟩
    · have hie : i = n := by omega
      have HM : Hid (M.map PL.S = xs.map (fun x => [x])) := by have := HS.out; rw [hie, List.take_of_length_le (by rw [HN.out]; exact Nat.le_refl _)] at this; exact this
      have t0 := HB.out.c0
      have t1 := HB.out.c1
      have r0 := HF.out.cell e0 ⟨by show w.heap.size ≠ _; omega, by show w.heap.size < _; omega⟩
      have r1 := HF.out.cell e1 ⟨by show w.heap.size ≠ _; omega, by show w.heap.size < _; omega⟩
      have rf : ∀ j, wr.frozen? ⟨w.heap.size, j, none⟩ = false := fun j => (HF.out.frz _).trans (ef j)
      obtain ⟨hvo, ⟨hv1, hv2⟩ | ⟨gv, capv, cur, hv1, hv2⟩⟩ := HB.out.row.own
      · omega
      · subst hv1
        have HW : Hid (Nw (w.heap.size + 2) wr gv capv 1 1 M) := HB.out.row.nw ⟨by decide, by decide, by decide, by decide, by decide⟩ (by omega) (by omega)
        rw [hml, hie] at t1
        clear hv2 hvo
        go_wp2_with fail
        have F9 : Fr wr ((wr.setCell ⟨w.heap.size, 0, none⟩ (.int .i64 sp)).setCell ⟨w.heap.size, 1, none⟩ (.slice (some ⟨gv, 0, none⟩) n capv)) (fun b => b ≠ w.heap.size) := ((Fr.refl wr _).set (fun h => h rfl) _).set (fun h => h rfl) _
        refine bodyPost_ret (v := .agg #[.int .i64 sp, .slice (some ⟨gv, 0, none⟩) n capv]) (by simp [results, Try.results14, go_sem, r0, r1]) rfl ⟨gv, capv, M, rfl, HM.out, (HW.out.keep F9 (by have := HW.out.low; omega) (fun x hx => by have := (HW.out.it x hx).1.low; omega)).mono (by omega), (HQ.out.set (by show _ ≤ w.heap.size; omega) _).set (by show _ ≤ w.heap.size; omega) _⟩
end Go.Proofs.Ytlelgifdnhnphab
/- A region that draws its order and stores nothing: each operation with a fact that lasts; those that are guarded are known to be let through, or known to be left out. -/
namespace Go.Proofs.Ytlelgifdnhnphab
open Go.RowKit
set_option linter.unusedVariables false
set_option linter.unusedSimpArgs false

theorem dst_mem {l : List Oper} {s : List Nat} (hs : l.map (fun o : Oper => o.dst) = s.map some) {k j : Nat} (h : dstOf l k = some j) : s[k]? = some j := by
  unfold dstOf at h
  have h1 : (l.map (fun o : Oper => o.dst))[k]? = (s.map some)[k]? := by rw [hs]
  rw [List.getElem?_map, List.getElem?_map] at h1
  cases hl : l[k]? with
  | none => rw [hl] at h; cases h
  | some o =>
    rw [hl] at h h1
    cases hk : s[k]? with
    | none => rw [hk] at h1; cases h1
    | some t =>
      rw [hk] at h1
      have h2 : some o.dst = some (some t) := h1
      injection h2 with h2
      have h3 : o.dst = some j := h
      rw [h2] at h3
      injection h3 with h3
      rw [h3]
theorem dst_of {l : List Oper} {s : List Nat} (hs : l.map (fun o : Oper => o.dst) = s.map some) {k j : Nat} (h : s[k]? = some j) : dstOf l k = some j := by
  have h1 : (l.map (fun o : Oper => o.dst))[k]? = (s.map some)[k]? := by rw [hs]
  rw [List.getElem?_map, List.getElem?_map, h] at h1
  unfold dstOf
  cases hl : l[k]? with
  | none => rw [hl] at h1; cases h1
  | some o =>
    rw [hl] at h1
    have h2 : some o.dst = some (some j) := h1
    injection h2
set_option maxHeartbeats 1000000 in
theorem wp_region_factsS {P : Program} {id : Nat} {R : Exit → Act → World → Prop} {a0 : Act} {w : World} {l : List Oper} (s : List Nat) (F : Nat → Value → World → Prop) (skip : Nat → Bool)
    (hm : P.follows .mixedOrders = true) (hB : regS l = true) (hs : l.map (fun o : Oper => o.dst) = s.map some) (hmax : ∀ t ∈ s, t < a0.tmps.size)
    (hst : ∀ i v x x', F i v x → Q x x' → F i v x')
    (hgu : ∀ (i : Nat) (o : Oper) (g : Nat) (b : Bool), l[i]? = some o → o.guard = some (g, b) → ∀ v x, F g v x → (v = .bool b ↔ skip i = false))
    (hgn : ∀ (i : Nat) (o : Oper), l[i]? = some o → o.guard = none → skip i = false)
    (hsk : ∀ i x, skip i = true → F i undef x)
    (hop : ∀ i t o (a : Act) x, skip i = false → s[i]? = some t → l[i]? = some o → Q w x → (∀ j, j ∉ s → a.tmps[j]? = a0.tmps[j]?) → (∀ ed ∈ o.after, Region.binds .any ed = true → ∀ t', s[ed.on]? = some t' → ∃ v, a.tmps[t']? = some v ∧ F ed.on v x) → Yld P R o a x t (F i))
    (hend : ∀ (a : Act) x, Q w x → a.tmps.size = a0.tmps.size → a.defers = a0.defers → (∀ j, j ∉ s → a.tmps[j]? = a0.tmps[j]?) → (∀ i t, s[i]? = some t → ∃ v, a.tmps[t]? = some v ∧ F i v x) → Shut (R .normal a x)) :
    (Code.region id l.toArray true).wp P R a0 w := by
  have oth : ∀ {a : Act}, (∀ j, (∀ k, dstOf l k ≠ some j) → a.tmps[j]? = a0.tmps[j]?) → ∀ j, j ∉ s → a.tmps[j]? = a0.tmps[j]? := fun h j hj => h j (fun k hk => hj (List.mem_of_getElem? (dst_mem hs hk)))
  refine wp_region_slots (fun done val x => Q w x ∧ ∀ i, done i = true → F i (val i) x) hm hB (fun i t h => hmax t (List.mem_of_getElem? (dst_mem hs h))) ⟨(Q.refl w).drew, fun i h => by cases h⟩ ?_ ?_ ?_
  · intro i o a x done val ho hd hdep I hoth hvals hg
    have hil : i < l.length := (List.getElem?_eq_some_iff.1 ho).1
    have hlen : l.length = s.length := by have := congrArg List.length hs; simpa using this
    obtain ⟨t, ht⟩ : ∃ t, s[i]? = some t := ⟨_, List.getElem?_eq_getElem (by omega)⟩
    have hdst : o.dst = some t := by rw [← dstOf_at ho]; exact dst_of hs ht
    have hski : skip i = false := by
      cases hgd : o.guard with
      | none => exact hgn i o ho hgd
      | some gb =>
        obtain ⟨g, b⟩ := gb
        obtain ⟨⟨ed, he, hb, hon⟩, _⟩ := (regS_at hB ho).1 g b hgd
        have hdone := hdep ed he hb
        rw [hon] at hdone
        exact (hgu i o g b ho hgd (val g) x (I.2 g hdone)).1 (hg g b hgd)
    have hrun := hop i t o a x hski ht ho I.1 (oth hoth) (fun ed he hb t' ht' => ⟨val ed.on, hvals ed.on t' (hdep ed he hb) (dst_of hs ht'), I.2 ed.on (hdep ed he hb)⟩)
    refine ⟨Oper.wp_mono ?_ hrun.out⟩
    rintro a' x' ⟨v, rfl, q', hf⟩
    refine ⟨v, by rw [hdst], I.1.trans q', fun j hj => ?_⟩
    by_cases e : j = i
    · subst e; rw [upd_eq]; exact hf
    · rw [upd_ne _ _ e] at hj ⊢
      exact hst _ _ _ _ (I.2 j hj) q'
  · intro i o x done val g b ho hd hdep I hgd hne
    have hsk' : skip i = true := by
      cases h : skip i with
      | true => rfl
      | false =>
        obtain ⟨⟨ed, he, hb, hon⟩, _⟩ := (regS_at hB ho).1 g b hgd
        have hdone := hdep ed he hb
        rw [hon] at hdone
        exact absurd ((hgu i o g b ho hgd (val g) x (I.2 g hdone)).2 h) hne
    refine ⟨I.1, fun j hj => ?_⟩
    by_cases e : j = i
    · subst e; rw [upd_eq]; exact hsk _ _ hsk'
    · rw [upd_ne _ _ e] at hj ⊢
      exact I.2 j hj
  · intro a x val I size defers other vals
    refine hend a x I.1 size defers (oth other) (fun i t ht => ⟨val i, vals i t (dst_of hs ht), I.2 i ?_⟩)
    have hlen : l.length = s.length := by have := congrArg List.length hs; simpa using this
    have := (List.getElem?_eq_some_iff.1 ht).1
    exact decide_eq_true (by omega)
end Go.Proofs.Ytlelgifdnhnphab
/- The chapter's examples: what lies where. -/
namespace Go.Proofs.Ytlelgifdnhnphab
open Go.RowKit
set_option linter.unusedVariables false
set_option linter.unusedSimpArgs false

theorem Nw.pcn {lo : Nat} {w : World} {g cap a b : Nat} {L : List PL} (h : Nw lo w g cap a b L) : Pc w g 0 a b L := h.pc
/-- Two pictures with the same samples. -/
theorem pics_same {w : World} {sp : Int} {g o g' o' a b n cap cap' : Nat} {M M' : List PL} (h : Pc w g o a b M) (h' : Pc w g' o' a b M') (hn : M.length = n) (hS : M.map PL.S = M'.map PL.S) (hc : n ≤ cap) (hc' : n ≤ cap') :
    Calls Try.prog 13 #[.agg #[.int .i64 sp, .slice (some ⟨g, o, none⟩) n cap], .agg #[.int .i64 sp, .slice (some ⟨g', o', none⟩) n cap']] w fun e w' => e = .returned (.bool true) ∧ Q w w' := by
  have hl : M.length = M'.length := by have := congrArg List.length hS; rw [List.length_map, List.length_map] at this; exact this
  refine pics_yes sp _ _ _ _ w (h.dsl hn hc) (h'.dsl (by omega) hc') (by rw [List.length_map, List.length_map]; exact hl) (fun i x y hx hy => ?_) (fun x hx => ?_) (by rw [List.length_map]; have := h.n4; omega)
  · rw [List.getElem?_map] at hx hy
    cases hx' : M[i]? with
    | none => rw [hx'] at hx; cases hx
    | some x' =>
      cases hy' : M'[i]? with
      | none => rw [hy'] at hy; cases hy
      | some y' =>
        rw [hx'] at hx
        rw [hy'] at hy
        have hx : PL.pd a b x' = x := Option.some.inj hx
        have hy : PL.pd a b y' = y := Option.some.inj hy
        subst hx hy
        have h1 : (M.map PL.S)[i]? = some x'.S := by rw [List.getElem?_map, hx']; rfl
        rw [hS, List.getElem?_map, hy'] at h1
        exact ⟨rfl, rfl, (Option.some.inj h1).symm⟩
  · obtain ⟨y, hy, rfl⟩ := List.mem_map.1 hx
    have := (h.it y hy).len
    have := h.size.ab
    show y.S.length ≤ _
    omega
def SlS (l : List Nat) : Spec := ⟨fun v x => ∃ g, v = .slice (some ⟨g, 0, none⟩) l.length l.length ∧ UIs x g 0 l, fun ⟨g, h1, h2⟩ q => ⟨g, h1, h2.next q⟩⟩
/-- A picture of one place, in RGB. -/
def PcP (l : List Nat) (v : Value) (x : World) : Prop := ∃ g cap M, v = .agg #[.int .i64 1, .slice (some ⟨g, 0, none⟩) 3 cap] ∧ 3 ≤ cap ∧ Pc x g 0 1 1 M ∧ M.map PL.S = l.map (fun x => [x])
theorem PcP.next {l : List Nat} {v : Value} {x x' : World} (h : PcP l v x) (q : Q x x') : PcP l v x' := by
  obtain ⟨g, cap, M, h1, h2, h3, h4⟩ := h
  exact ⟨g, cap, M, h1, h2, h3.next q, h4⟩
def PcS (l : List Nat) : Spec := ⟨fun v x => PcP l v x, fun h q => h.next q⟩
/-- It lies in a box. -/
def PcB (l : List Nat) (V : Nat) (x : World) : Prop := ∃ g cap M, x.cell? ⟨V, 0, none⟩ = some (.int .i64 1) ∧ x.cell? ⟨V, 1, none⟩ = some (.slice (some ⟨g, 0, none⟩) 3 cap) ∧ 3 ≤ cap ∧ Pc x g 0 1 1 M ∧ M.map PL.S = l.map (fun x => [x])
theorem PcB.next {l : List Nat} {V : Nat} {x x' : World} (h : PcB l V x) (q : Q x x') : PcB l V x' := by
  obtain ⟨g, cap, M, h0, h1, h2, h3, h4⟩ := h
  exact ⟨g, cap, M, q.cell h0, q.cell h1, h2, h3.next q, h4⟩
theorem run_ldpic {ρ : Operand → Value} {x : World} {d : Option Tmp} {ty : TypeId} {ps : String} {af : Array Edge} {g : Option (Nat × Bool)} {j V : Nat} {c0 c1 : Value} (hj : ρ (.tmp j) = ptrV V) (h0 : x.cell? ⟨V, 0, none⟩ = some c0) (h1 : x.cell? ⟨V, 1, none⟩ = some c1) : (execOp ρ { dst := d, op := .load 24 (.tmp j), type := ty, pos := ps, after := af, guard := g }).run Try.prog x = .ok (.value (.agg #[c0, c1])) x := by
  unfold ptrV at hj
  simp [execOp, hj, go_sem, h0, h1]
theorem yld_ldpic {R : Exit → Act → World → Prop} {a : Act} {x : World} {t : Nat} {ty : TypeId} {ps : String} {af : Array Edge} {g : Option (Nat × Bool)} {j V : Nat} {l : List Nat} (hj : a.tmps[j]? = some (ptrV V)) (hb : PcB l V x) : Yld Try.prog R { dst := some t, op := .load 24 (.tmp j), type := ty, pos := ps, after := af, guard := g } a x t (fun v x' => PcP l v x') := by
  obtain ⟨gg, cap, M, h0, h1, h2, h3, h4⟩ := hb
  exact yld_run (x' := x) rfl (run_ldpic (tmp_eval hj) h0 h1) (Q.refl x) ⟨gg, cap, M, rfl, h2, h3, h4⟩
theorem run_bs3 {a : Act} {x : World} {d : Option Tmp} {ty : TypeId} {ps : String} {af : Array Edge} {g : Option (Nat × Bool)} (p q r : Int) : (execOp a.eval { dst := d, op := .buildSlice 32 3 #[(0, .const (.int .u32 p)), (1, .const (.int .u32 q)), (2, .const (.int .u32 r))], type := ty, pos := ps, after := af, guard := g }).run Try.prog x = .ok (.value (.slice (some ⟨x.heap.size, 0, none⟩) 3 3)) (x.alloc (.cells #[.int .u32 p, .int .u32 q, .int .u32 r] 25)) := by
  simp [execOp, go_sem]
theorem uis3 (x : World) (p q r : Nat) : UIs (x.alloc (.cells #[.int .u32 (p : Int), .int .u32 (q : Int), .int .u32 (r : Int)] 25)) x.heap.size 0 [p, q, r] := fun i hi => by
  have hr : (x.alloc (.cells #[.int .u32 (p : Int), .int .u32 (q : Int), .int .u32 (r : Int)] 25)).heap[x.heap.size]? = some (.cells #[.int .u32 (p : Int), .int .u32 (q : Int), .int .u32 (r : Int)] 25 (0, 0)) := heap_alloc_new x _
  rw [cell_of_row _ _ _ _ 25 (0, 0) hr, Nat.zero_add]
  have hi : i < 3 := hi
  obtain rfl | rfl | rfl : i = 0 ∨ i = 1 ∨ i = 2 := by omega
  all_goals rfl
theorem yld_bs3 {R : Exit → Act → World → Prop} {a : Act} {x : World} {t : Nat} {ty : TypeId} {ps : String} {af : Array Edge} {g : Option (Nat × Bool)} (p q r : Nat) : Yld Try.prog R { dst := some t, op := .buildSlice 32 3 #[(0, .const (.int .u32 (p : Int))), (1, .const (.int .u32 (q : Int))), (2, .const (.int .u32 (r : Int)))], type := ty, pos := ps, after := af, guard := g } a x t (fun v x' => (SlS [p, q, r]).p v x') :=
  yld_run (x' := x.alloc (.cells #[.int .u32 (p : Int), .int .u32 (q : Int), .int .u32 (r : Int)] 25)) rfl (run_bs3 p q r) ((Q.refl x).cells _ _) ⟨x.heap.size, rfl, uis3 x p q r⟩
theorem yld_place {R : Exit → Act → World → Prop} {a : Act} {x : World} {t j : Nat} {at' : Array TypeId} {ty : TypeId} {ps : String} {af : Array Edge} {g : Option (Nat × Bool)} {v : Value} {p q r : Nat} (hp : p < 4294967296) (hq : q < 4294967296) (hr : r < 4294967296) (hj : a.tmps[j]? = some v) (hs : (SlS [p, q, r]).p v x) : Yld Try.prog R { dst := some t, op := .call { callee := .value (.func 14), args := #[.const (.int .i64 1), .tmp j], argTypes := at' }, type := ty, pos := ps, after := af, guard := g } a x t (fun v x' => PcP [p, q, r] v x') := by
  obtain ⟨gg, rfl, hu⟩ := hs
  refine yld_call (enters_of Try.func14 (by kernel_rfl) rfl) (vs := #[.int .i64 1, .slice (some ⟨gg, 0, none⟩) 3 3]) ?_ ((place_any x 1 gg 0 3 3 [p, q, r] hu rfl (by decide) (by decide) (fun i => ?_)).mono ?_)
  · have h1 := tmp_eval hj
    have h2 : a.eval (.const (.int .i64 1)) = .int .i64 1 := rfl
    simp [h1, h2]
  · match i with
    | 0 => exact hp
    | 1 => exact hq
    | 2 => exact hr
    | i + 3 => show (0 : Nat) < _; decide
  · rintro u x' ⟨g', cap', M, rfl, hM, HW, hq'⟩
    exact ⟨_, rfl, hq', g', cap', M, rfl, by have := HW.out.room; have := congrArg List.length hM; rw [List.length_map] at this; simp at this; omega, HW.out.pc, hM⟩
theorem yld_pics {R : Exit → Act → World → Prop} {a : Act} {x : World} {t j k : Nat} {at' : Array TypeId} {ty : TypeId} {ps : String} {af : Array Edge} {g : Option (Nat × Bool)} {v u : Value} {l : List Nat} (hl : l.length = 3) (hj : a.tmps[j]? = some v) (hk : a.tmps[k]? = some u) (hv : PcP l v x) (hu : PcP l u x) : Yld Try.prog R { dst := some t, op := .call { callee := .value (.func 13), args := #[.tmp j, .tmp k], argTypes := at' }, type := ty, pos := ps, after := af, guard := g } a x t (fun v x' => v = .bool true) := by
  obtain ⟨g1, cap1, M1, rfl, c1, p1, s1⟩ := hv
  obtain ⟨g2, cap2, M2, rfl, c2, p2, s2⟩ := hu
  have hn : M1.length = 3 := by have := congrArg List.length s1; rw [List.length_map, List.length_map, hl] at this; exact this
  refine yld_call (enters_of Try.func13 (by kernel_rfl) rfl) (args2 hj hk) ((pics_same p1 p2 hn (by rw [s1, s2]) c1 c2).mono ?_)
  rintro u x' ⟨rfl, q'⟩
  exact ⟨_, rfl, q', rfl⟩
end Go.Proofs.Ytlelgifdnhnphab

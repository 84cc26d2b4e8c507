/- Pictures of one place. -/
import Derived.Test.YtdempklpmggdoaaG189defff
import Derived.Test.YtdempklpmggdoaaGdad0de17
import Derived.Test.YtdempklpmggdoaaGa461e7cf
import Derived.Test.YtdempklpmggdoaaGd6a80e7b
import Derived.Test.YtdempklpmggdoaaG135da86a
namespace Go.Proofs.Ytdempklpmggdoaa
open Go.RowKit
set_option linter.unusedVariables false
set_option linter.unusedSimpArgs false

theorem mine_one (x : World) {base v : Nat} (hb : base ≤ x.heap.size) (hv : v < 4294967296) : Mine base (x.alloc (.cells #[.int .u32 (v : Int)] 27)) (1 * 1) ⟨x.heap.size, 0, 1, [v]⟩ := by
  have hr : (x.alloc (.cells #[.int .u32 (v : Int)] 27)).heap[x.heap.size]? = some (.cells #[.int .u32 (v : Int)] 27 (0, 0)) := heap_alloc_new x _
  have c : (x.alloc (.cells #[.int .u32 (v : Int)] 27)).cell? ⟨x.heap.size, 0, none⟩ = some (.int .u32 (v : Int)) := by rw [cell_of_row _ _ 0 _ 27 (0, 0) hr]; rfl
  refine ⟨rfl, hb, by show x.heap.size < _; simp, ⟨rfl, Nat.le_refl _, fun i hi => ?_, fun i => ?_⟩, fun j => frozen_of_row _ _ _ _ _ hr, fun j hj => ?_, by show 1 ≤ maxLen; unfold maxLen; omega⟩
  · have hi : i < 1 := hi
    obtain rfl : i = 0 := by omega
    exact c
  · rcases i with _ | i
    · exact hv
    · show (0 : Nat) < _; decide
  · have hj : j < 1 := hj
    obtain rfl : j = 0 := by omega
    exact ⟨_, c⟩
set_option maxHeartbeats 4000000 in
set_option maxRecDepth 100000 in
theorem place_any (w : World) (sp : Int) (g o cap n : Nat) (xs : List Nat) (hx : UIs w g o xs) (hn : xs.length = n) (n1 : 1 ≤ n) (n4 : n ≤ 4) (hlt : ∀ i, xs.getD i 0 < 4294967296) :
    Calls Try.prog 13 #[.int .i64 sp, .slice (some ⟨g, o, none⟩) n cap] w fun e w' => ∃ g' cap' M, e = .returned (.agg #[.int .i64 sp, .slice (some ⟨g', 0, none⟩) n cap']) ∧ M.map PL.S = xs.map (fun x => [x]) ∧ Hid (Nw w.heap.size w' g' cap' 1 1 M) ∧ Q w w' := by
  have HX : Hid (UIs w g o xs) := hx
  have HN : Hid (xs.length = n) := hn
  have HL : Hid (∀ i, xs.getD i 0 < 4294967296) := hlt
  clear hx hn hlt
  go_enter Try.func13, Try.ntmps13
  go_wp2_with fail
  have HQ : Hid (Q w ((w.alloc (Obj.cells #[Value.int IntKind.i64 0, Value.slice none 0 0] 24)).alloc (Obj.cells #[Value.int IntKind.i64 sp, Value.slice none 0 0] 24))) := ((Q.refl w).cells _ _).cells _ _
  have hz : ((w.alloc (Obj.cells #[Value.int IntKind.i64 0, Value.slice none 0 0] 24)).alloc (Obj.cells #[Value.int IntKind.i64 sp, Value.slice none 0 0] 24)).heap.size = w.heap.size + 2 := by simp
  have e0 : ((w.alloc (Obj.cells #[Value.int IntKind.i64 0, Value.slice none 0 0] 24)).alloc (Obj.cells #[Value.int IntKind.i64 sp, Value.slice none 0 0] 24)).cell? ⟨w.heap.size, 0, none⟩ = some (.int .i64 0) := by simp [go_sem]
  have e1 : ((w.alloc (Obj.cells #[Value.int IntKind.i64 0, Value.slice none 0 0] 24)).alloc (Obj.cells #[Value.int IntKind.i64 sp, Value.slice none 0 0] 24)).cell? ⟨w.heap.size, 1, none⟩ = some (.slice none 0 0) := by simp [go_sem]
  have ef : ∀ j, ((w.alloc (Obj.cells #[Value.int IntKind.i64 0, Value.slice none 0 0] 24)).alloc (Obj.cells #[Value.int IntKind.i64 sp, Value.slice none 0 0] 24)).frozen? ⟨w.heap.size, j, none⟩ = false := fun j => by simp [go_sem]
  have HB : Hid (Bld (w.heap.size + 2) ((w.alloc (Obj.cells #[Value.int IntKind.i64 0, Value.slice none 0 0] 24)).alloc (Obj.cells #[Value.int IntKind.i64 sp, Value.slice none 0 0] 24)) (w.heap.size + 1) sp (.slice none 0 0) 1 1 []) := Bld.start (by simp [go_sem]) (by simp [go_sem]) (fun j => by simp [go_sem]) (by omega) 1 1
  generalize ((w.alloc (Obj.cells #[Value.int IntKind.i64 0, Value.slice none 0 0] 24)).alloc (Obj.cells #[Value.int IntKind.i64 sp, Value.slice none 0 0] 24)) = w1 at *
  go_loopg [6] n (fun m s6 wx => ∃ (i : Nat) (v : Value) (M : List PL), s6 = .int .i64 i ∧ i + m = n ∧ Hid (M.map PL.S = (xs.take i).map (fun x => [x])) ∧ Hid (Bld (w.heap.size + 2) wx (w.heap.size + 1) sp v 1 1 M) ∧ Hid (Q w wx) ∧ Hid (Fr w1 wx (fun b => b ≠ w.heap.size + 1 ∧ b < w.heap.size + 2)))
  case atStart => exact ⟨0, _, [], rfl, by omega, rfl, HB, HQ, Fr.refl _ _⟩
  case round =>
    obtain ⟨i, v, M, rfl, him, HS, HB, HQ, HF⟩ := hrel
    have hml : M.length = i := by have := congrArg List.length HS.out; rw [List.length_map, List.length_map, List.length_take, HN.out] at this; omega
    by_cases hi : i < n
    · have hi0 : (0 : Int) ≤ (i : Int) := by omega
      have hi1 : (i : Int) < (n : Int) := by omega
      obtain ⟨q, hq⟩ : ∃ q, xs.getD i 0 = q := ⟨_, rfl⟩
      have c0 := (HX.out.next HQ.out) i (by rw [HN.out]; exact hi)
      have hqx : xs[i]? = some q := by
        rw [List.getD_eq_getElem?_getD] at hq
        rw [List.getElem?_eq_getElem (by rw [HN.out]; exact hi)] at hq ⊢
        rw [← hq]; rfl
      have hql : q < 4294967296 := by rw [← hq]; exact HL.out i
      rw [hq] at c0
      have t1 := HB.out.c1
      have f1 := qw_cell t1
      have f2 := qw_cell c0
      have n0 := qw_some wr
      clear hq
      go_wp2_with fail
      refine wp_region_mk [0, 1, 2, 3, 4, 5] [[6, 7, 8, 9, 10, 11]] 6 _ (by kernel_rfl) (by kernel_rfl) rfl (by kernel_rfl) ?_
      simp only [List.filterMap_cons, List.filterMap_nil, List.getElem?_cons_zero, List.getElem?_cons_succ]
      repeat (first | go_big_quiet_step (fail) | quiet_step (fail))
      refine wpQuiet_nil ?_
      intro x4 hx4
      clear f1 f2 n0 c0
      have hz3 : w.heap.size + 2 ≤ wr.heap.size := by have := HF.out.size; omega
      have hs34 := hx4.1.size
      have hm : Hid (Mine (w.heap.size + 2) (x4.alloc (.cells #[.int .u32 (q : Int)] 27)) (1 * 1) ⟨x4.heap.size, 0, 1, [q]⟩) := mine_one x4 (by omega) hql
      have hq5 : Q wr (x4.alloc (.cells #[.int .u32 (q : Int)] 27)) := hx4.cells _ _
      have hz5 : (x4.alloc (.cells #[.int .u32 (q : Int)] 27)).heap.size = x4.heap.size + 1 := by simp
      refine tree_run 6 rfl rfl (v := .slice (some ⟨x4.heap.size, 0, none⟩) 1 1) (x' := x4.alloc (.cells #[.int .u32 (q : Int)] 27)) (by simp [execOp, go_sem]) hq5 ?_
      generalize x4.alloc (.cells #[.int .u32 (q : Int)] 27) = w5 at *
      have HB5 := HB.out.next (hq5.cells #[.int .i64 1, .int .i64 1, .slice (some ⟨x4.heap.size, 0, none⟩) 1 1] 47)
      obtain ⟨g7, cap7, w7, hr7, ct7, cf7, HB7, HQ7, HF7⟩ := HB5.app (HQ.out.trans (hq5.cells _ _)) (by omega) (by have := hq5.1.size; simp; omega) (y := ⟨x4.heap.size, 0, 1, [q]⟩) (hm.out.next ((Q.refl w5).cells _ _)) (fun e => by have := (own_lt HB.out.row.own (b := x4.heap.size) e).2; omega) (fun z hz' e => by have := (HB.out.row.it z hz').1.high; have e : z.g = x4.heap.size := e; omega) (by omega) (ad := ⟨w5.heap.size, 0, none⟩) (c := 1) (one_pl 1 1 ⟨x4.heap.size, 0, 1, [q]⟩)
      refine tree_run 7 rfl rfl (v := .agg #[.int .i64 1, .int .i64 1, .slice (some ⟨x4.heap.size, 0, none⟩) 1 1]) (x' := w5) (by simp [execOp, go_sem]) hq5 ?_
      refine tree_run 8 rfl rfl (v := .slice (some ⟨w5.heap.size, 0, none⟩) 1 1) (x' := w5.alloc (.cells #[.int .i64 1, .int .i64 1, .slice (some ⟨x4.heap.size, 0, none⟩) 1 1] 47)) (by simp [execOp, go_sem]) (hq5.cells _ _) ?_
      refine tree_runF 9 rfl rfl rfl (x' := w7) (run_appop rfl (v := v) (v' := .slice (some ⟨w5.heap.size, 0, none⟩) 1 1) (by simp [Act.eval, Act.put]) (by simp [Act.eval, Act.put]) hr7) ?_
      refine tree_runF 10 rfl rfl rfl (v := .pointer (some ⟨w.heap.size + 1, 1, none⟩)) (x' := w7) (by simp [execOp, go_sem]) ?_
      refine tree_skipF 11 rfl rfl rfl (x' := w7.setCell ⟨w.heap.size + 1, 1, none⟩ (.slice (some ⟨g7, 0, none⟩) (M.length + 1) cap7)) (by simp [execOp, go_sem, ct7, cf7]) ?_
      refine tree_nil ?_
      have HM : Hid ((M ++ [(⟨x4.heap.size, 0, 1, [q]⟩ : PL)]).map PL.S = (xs.take (i + 1)).map (fun x => [x])) := by
        show _ = _
        rw [List.take_add_one, hqx, List.map_append, List.map_append, HS.out]; rfl
      have HF8 : Hid (Fr w1 (w7.setCell ⟨w.heap.size + 1, 1, none⟩ (.slice (some ⟨g7, 0, none⟩) (M.length + 1) cap7)) (fun b => b ≠ w.heap.size + 1 ∧ b < w.heap.size + 2)) := (HF.out.trans ((hq5.cells _ _).fr _)).trans (HF7.out.mono (fun z hz' _ => ⟨hz'.1, fun e => by have := (own_lt HB.out.row.own e).1; omega⟩))
      generalize w7.setCell ⟨w.heap.size + 1, 1, none⟩ (.slice (some ⟨g7, 0, none⟩) (M.length + 1) cap7) = w8 at *
      clear hr7 ct7 cf7 HB5 hm hx4 t1 hqx
      go_wp2_with fail
      go_roundg (n - (i + 1))
      case measure => go_light; omega
      case rel => go_light; exact ⟨i + 1, _, _, by go_num, by omega, HM, HB7, HQ7, HF8⟩
    · have hie : i = n := by omega
      have HM : Hid (M.map PL.S = xs.map (fun x => [x])) := by have := HS.out; rw [hie, List.take_of_length_le (by rw [HN.out]; exact Nat.le_refl _)] at this; exact this
      have t0 := HB.out.c0
      have t1 := HB.out.c1
      have r0 := HF.out.cell e0 ⟨by show w.heap.size ≠ _; omega, by show w.heap.size < _; omega⟩
      have r1 := HF.out.cell e1 ⟨by show w.heap.size ≠ _; omega, by show w.heap.size < _; omega⟩
      have rf : ∀ j, wr.frozen? ⟨w.heap.size, j, none⟩ = false := fun j => (HF.out.frz _).trans (ef j)
      obtain ⟨hvo, ⟨hv1, hv2⟩ | ⟨gv, capv, cur, hv1, hv2⟩⟩ := HB.out.row.own
      · omega
      · subst hv1
        have HW : Hid (Nw (w.heap.size + 2) wr gv capv 1 1 M) := HB.out.row.nw ⟨by decide, by decide, by decide, by decide, by decide⟩ (by omega) (by omega)
        rw [hml, hie] at t1
        clear hv2 hvo
        go_wp2_with fail
        have F9 : Fr wr ((wr.setCell ⟨w.heap.size, 0, none⟩ (.int .i64 sp)).setCell ⟨w.heap.size, 1, none⟩ (.slice (some ⟨gv, 0, none⟩) n capv)) (fun b => b ≠ w.heap.size) := ((Fr.refl wr _).set (fun h => h rfl) _).set (fun h => h rfl) _
        refine bodyPost_ret (v := .agg #[.int .i64 sp, .slice (some ⟨gv, 0, none⟩) n capv]) (by simp [results, Try.results13, go_sem, r0, r1]) rfl ⟨gv, capv, M, rfl, HM.out, (HW.out.keep F9 (by have := HW.out.low; omega) (fun x hx => by have := (HW.out.it x hx).1.low; omega)).mono (by omega), (HQ.out.set (by show _ ≤ w.heap.size; omega) _).set (by show _ ≤ w.heap.size; omega) _⟩
end Go.Proofs.Ytdempklpmggdoaa
/- A region that draws its order and stores nothing: each operation with a fact that lasts; those that are guarded are known to be let through, or known to be left out. -/
namespace Go.Proofs.Ytdempklpmggdoaa
open Go.RowKit
set_option linter.unusedVariables false
set_option linter.unusedSimpArgs false

theorem dst_mem {l : List Oper} {s : List Nat} (hs : l.map (fun o : Oper => o.dst) = s.map some) {k j : Nat} (h : dstOf l k = some j) : s[k]? = some j := by
  unfold dstOf at h
  have h1 : (l.map (fun o : Oper => o.dst))[k]? = (s.map some)[k]? := by rw [hs]
  rw [List.getElem?_map, List.getElem?_map] at h1
  cases hl : l[k]? with
  | none => rw [hl] at h; cases h
  | some o =>
    rw [hl] at h h1
    cases hk : s[k]? with
    | none => rw [hk] at h1; cases h1
    | some t =>
      rw [hk] at h1
      have h2 : some o.dst = some (some t) := h1
      injection h2 with h2
      have h3 : o.dst = some j := h
      rw [h2] at h3
      injection h3 with h3
      rw [h3]
theorem dst_of {l : List Oper} {s : List Nat} (hs : l.map (fun o : Oper => o.dst) = s.map some) {k j : Nat} (h : s[k]? = some j) : dstOf l k = some j := by
  have h1 : (l.map (fun o : Oper => o.dst))[k]? = (s.map some)[k]? := by rw [hs]
  rw [List.getElem?_map, List.getElem?_map, h] at h1
  unfold dstOf
  cases hl : l[k]? with
  | none => rw [hl] at h1; cases h1
  | some o =>
    rw [hl] at h1
    have h2 : some o.dst = some (some j) := h1
    injection h2
set_option maxHeartbeats 1000000 in
theorem wp_region_factsS {P : Program} {id : Nat} {R : Exit → Act → World → Prop} {a0 : Act} {w : World} {l : List Oper} (s : List Nat) (F : Nat → Value → World → Prop) (skip : Nat → Bool)
    (hm : P.follows .mixedOrders = true) (hB : regS l = true) (hs : l.map (fun o : Oper => o.dst) = s.map some) (hmax : ∀ t ∈ s, t < a0.tmps.size)
    (hst : ∀ i v x x', F i v x → Q x x' → F i v x')
    (hgu : ∀ (i : Nat) (o : Oper) (g : Nat) (b : Bool), l[i]? = some o → o.guard = some (g, b) → ∀ v x, F g v x → (v = .bool b ↔ skip i = false))
    (hgn : ∀ (i : Nat) (o : Oper), l[i]? = some o → o.guard = none → skip i = false)
    (hsk : ∀ i x, skip i = true → F i undef x)
    (hop : ∀ i t o (a : Act) x, skip i = false → s[i]? = some t → l[i]? = some o → Q w x → (∀ j, j ∉ s → a.tmps[j]? = a0.tmps[j]?) → (∀ ed ∈ o.after, Region.binds .any ed = true → ∀ t', s[ed.on]? = some t' → ∃ v, a.tmps[t']? = some v ∧ F ed.on v x) → Yld P R o a x t (F i))
    (hend : ∀ (a : Act) x, Q w x → a.tmps.size = a0.tmps.size → a.defers = a0.defers → (∀ j, j ∉ s → a.tmps[j]? = a0.tmps[j]?) → (∀ i t, s[i]? = some t → ∃ v, a.tmps[t]? = some v ∧ F i v x) → Shut (R .normal a x)) :
    (Code.region id l.toArray true).wp P R a0 w := by
  have oth : ∀ {a : Act}, (∀ j, (∀ k, dstOf l k ≠ some j) → a.tmps[j]? = a0.tmps[j]?) → ∀ j, j ∉ s → a.tmps[j]? = a0.tmps[j]? := fun h j hj => h j (fun k hk => hj (List.mem_of_getElem? (dst_mem hs hk)))
  refine wp_region_slots (fun done val x => Q w x ∧ ∀ i, done i = true → F i (val i) x) hm hB (fun i t h => hmax t (List.mem_of_getElem? (dst_mem hs h))) ⟨(Q.refl w).drew, fun i h => by cases h⟩ ?_ ?_ ?_
  · intro i o a x done val ho hd hdep I hoth hvals hg
    have hil : i < l.length := (List.getElem?_eq_some_iff.1 ho).1
    have hlen : l.length = s.length := by have := congrArg List.length hs; simpa using this
    obtain ⟨t, ht⟩ : ∃ t, s[i]? = some t := ⟨_, List.getElem?_eq_getElem (by omega)⟩
    have hdst : o.dst = some t := by rw [← dstOf_at ho]; exact dst_of hs ht
    have hski : skip i = false := by
      cases hgd : o.guard with
      | none => exact hgn i o ho hgd
      | some gb =>
        obtain ⟨g, b⟩ := gb
        obtain ⟨⟨ed, he, hb, hon⟩, _⟩ := (regS_at hB ho).1 g b hgd
        have hdone := hdep ed he hb
        rw [hon] at hdone
        exact (hgu i o g b ho hgd (val g) x (I.2 g hdone)).1 (hg g b hgd)
    have hrun := hop i t o a x hski ht ho I.1 (oth hoth) (fun ed he hb t' ht' => ⟨val ed.on, hvals ed.on t' (hdep ed he hb) (dst_of hs ht'), I.2 ed.on (hdep ed he hb)⟩)
    refine ⟨Oper.wp_mono ?_ hrun.out⟩
    rintro a' x' ⟨v, rfl, q', hf⟩
    refine ⟨v, by rw [hdst], I.1.trans q', fun j hj => ?_⟩
    by_cases e : j = i
    · subst e; rw [upd_eq]; exact hf
    · rw [upd_ne _ _ e] at hj ⊢
      exact hst _ _ _ _ (I.2 j hj) q'
  · intro i o x done val g b ho hd hdep I hgd hne
    have hsk' : skip i = true := by
      cases h : skip i with
      | true => rfl
      | false =>
        obtain ⟨⟨ed, he, hb, hon⟩, _⟩ := (regS_at hB ho).1 g b hgd
        have hdone := hdep ed he hb
        rw [hon] at hdone
        exact absurd ((hgu i o g b ho hgd (val g) x (I.2 g hdone)).2 h) hne
    refine ⟨I.1, fun j hj => ?_⟩
    by_cases e : j = i
    · subst e; rw [upd_eq]; exact hsk _ _ hsk'
    · rw [upd_ne _ _ e] at hj ⊢
      exact I.2 j hj
  · intro a x val I size defers other vals
    refine hend a x I.1 size defers (oth other) (fun i t ht => ⟨val i, vals i t (dst_of hs ht), I.2 i ?_⟩)
    have hlen : l.length = s.length := by have := congrArg List.length hs; simpa using this
    have := (List.getElem?_eq_some_iff.1 ht).1
    exact decide_eq_true (by omega)
end Go.Proofs.Ytdempklpmggdoaa
/- The chapter's examples: what lies where. -/
namespace Go.Proofs.Ytdempklpmggdoaa
open Go.RowKit
set_option linter.unusedVariables false
set_option linter.unusedSimpArgs false

theorem Nw.pcn {lo : Nat} {w : World} {g cap a b : Nat} {L : List PL} (h : Nw lo w g cap a b L) : Pc w g 0 a b L := h.pc
/-- Two pictures with the same samples. -/
theorem pics_same {w : World} {sp : Int} {g o g' o' a b n cap cap' : Nat} {M M' : List PL} (h : Pc w g o a b M) (h' : Pc w g' o' a b M') (hn : M.length = n) (hS : M.map PL.S = M'.map PL.S) (hc : n ≤ cap) (hc' : n ≤ cap') :
    Calls Try.prog 16 #[.agg #[.int .i64 sp, .slice (some ⟨g, o, none⟩) n cap], .agg #[.int .i64 sp, .slice (some ⟨g', o', none⟩) n cap']] w fun e w' => e = .returned (.bool true) ∧ Q w w' := by
  have hl : M.length = M'.length := by have := congrArg List.length hS; rw [List.length_map, List.length_map] at this; exact this
  refine pics_yes sp _ _ _ _ w (h.dsl hn hc) (h'.dsl (by omega) hc') (by rw [List.length_map, List.length_map]; exact hl) (fun i x y hx hy => ?_) (fun x hx => ?_) (by rw [List.length_map]; have := h.n4; omega)
  · rw [List.getElem?_map] at hx hy
    cases hx' : M[i]? with
    | none => rw [hx'] at hx; cases hx
    | some x' =>
      cases hy' : M'[i]? with
      | none => rw [hy'] at hy; cases hy
      | some y' =>
        rw [hx'] at hx
        rw [hy'] at hy
        have hx : PL.pd a b x' = x := Option.some.inj hx
        have hy : PL.pd a b y' = y := Option.some.inj hy
        subst hx hy
        have h1 : (M.map PL.S)[i]? = some x'.S := by rw [List.getElem?_map, hx']; rfl
        rw [hS, List.getElem?_map, hy'] at h1
        exact ⟨rfl, rfl, (Option.some.inj h1).symm⟩
  · obtain ⟨y, hy, rfl⟩ := List.mem_map.1 hx
    have := (h.it y hy).len
    have := h.size.ab
    show y.S.length ≤ _
    omega
def SlS (l : List Nat) : Spec := ⟨fun v x => ∃ g, v = .slice (some ⟨g, 0, none⟩) l.length l.length ∧ UIs x g 0 l, fun ⟨g, h1, h2⟩ q => ⟨g, h1, h2.next q⟩⟩
/-- A picture of one place, in RGB. -/
def PcP (l : List Nat) (v : Value) (x : World) : Prop := ∃ g cap M, v = .agg #[.int .i64 1, .slice (some ⟨g, 0, none⟩) 3 cap] ∧ 3 ≤ cap ∧ Pc x g 0 1 1 M ∧ M.map PL.S = l.map (fun x => [x])
theorem PcP.next {l : List Nat} {v : Value} {x x' : World} (h : PcP l v x) (q : Q x x') : PcP l v x' := by
  obtain ⟨g, cap, M, h1, h2, h3, h4⟩ := h
  exact ⟨g, cap, M, h1, h2, h3.next q, h4⟩
def PcS (l : List Nat) : Spec := ⟨fun v x => PcP l v x, fun h q => h.next q⟩
/-- It lies in a box. -/
def PcB (l : List Nat) (V : Nat) (x : World) : Prop := ∃ g cap M, x.cell? ⟨V, 0, none⟩ = some (.int .i64 1) ∧ x.cell? ⟨V, 1, none⟩ = some (.slice (some ⟨g, 0, none⟩) 3 cap) ∧ 3 ≤ cap ∧ Pc x g 0 1 1 M ∧ M.map PL.S = l.map (fun x => [x])
theorem PcB.next {l : List Nat} {V : Nat} {x x' : World} (h : PcB l V x) (q : Q x x') : PcB l V x' := by
  obtain ⟨g, cap, M, h0, h1, h2, h3, h4⟩ := h
  exact ⟨g, cap, M, q.cell h0, q.cell h1, h2, h3.next q, h4⟩
theorem run_ldpic {ρ : Operand → Value} {x : World} {d : Option Tmp} {ty : TypeId} {ps : String} {af : Array Edge} {g : Option (Nat × Bool)} {j V : Nat} {c0 c1 : Value} (hj : ρ (.tmp j) = ptrV V) (h0 : x.cell? ⟨V, 0, none⟩ = some c0) (h1 : x.cell? ⟨V, 1, none⟩ = some c1) : (execOp ρ { dst := d, op := .load 24 (.tmp j), type := ty, pos := ps, after := af, guard := g }).run Try.prog x = .ok (.value (.agg #[c0, c1])) x := by
  unfold ptrV at hj
  simp [execOp, hj, go_sem, h0, h1]
theorem yld_ldpic {R : Exit → Act → World → Prop} {a : Act} {x : World} {t : Nat} {ty : TypeId} {ps : String} {af : Array Edge} {g : Option (Nat × Bool)} {j V : Nat} {l : List Nat} (hj : a.tmps[j]? = some (ptrV V)) (hb : PcB l V x) : Yld Try.prog R { dst := some t, op := .load 24 (.tmp j), type := ty, pos := ps, after := af, guard := g } a x t (fun v x' => PcP l v x') := by
  obtain ⟨gg, cap, M, h0, h1, h2, h3, h4⟩ := hb
  exact yld_run (x' := x) rfl (run_ldpic (tmp_eval hj) h0 h1) (Q.refl x) ⟨gg, cap, M, rfl, h2, h3, h4⟩
theorem run_bs3 {a : Act} {x : World} {d : Option Tmp} {ty : TypeId} {ps : String} {af : Array Edge} {g : Option (Nat × Bool)} (p q r : Int) : (execOp a.eval { dst := d, op := .buildSlice 45 3 #[(0, .const (.int .u32 p)), (1, .const (.int .u32 q)), (2, .const (.int .u32 r))], type := ty, pos := ps, after := af, guard := g }).run Try.prog x = .ok (.value (.slice (some ⟨x.heap.size, 0, none⟩) 3 3)) (x.alloc (.cells #[.int .u32 p, .int .u32 q, .int .u32 r] 27)) := by
  simp [execOp, go_sem]
theorem uis3 (x : World) (p q r : Nat) : UIs (x.alloc (.cells #[.int .u32 (p : Int), .int .u32 (q : Int), .int .u32 (r : Int)] 27)) x.heap.size 0 [p, q, r] := fun i hi => by
  have hr : (x.alloc (.cells #[.int .u32 (p : Int), .int .u32 (q : Int), .int .u32 (r : Int)] 27)).heap[x.heap.size]? = some (.cells #[.int .u32 (p : Int), .int .u32 (q : Int), .int .u32 (r : Int)] 27 (0, 0)) := heap_alloc_new x _
  rw [cell_of_row _ _ _ _ 27 (0, 0) hr, Nat.zero_add]
  have hi : i < 3 := hi
  obtain rfl | rfl | rfl : i = 0 ∨ i = 1 ∨ i = 2 := by omega
  all_goals rfl
theorem yld_bs3 {R : Exit → Act → World → Prop} {a : Act} {x : World} {t : Nat} {ty : TypeId} {ps : String} {af : Array Edge} {g : Option (Nat × Bool)} (p q r : Nat) : Yld Try.prog R { dst := some t, op := .buildSlice 45 3 #[(0, .const (.int .u32 (p : Int))), (1, .const (.int .u32 (q : Int))), (2, .const (.int .u32 (r : Int)))], type := ty, pos := ps, after := af, guard := g } a x t (fun v x' => (SlS [p, q, r]).p v x') :=
  yld_run (x' := x.alloc (.cells #[.int .u32 (p : Int), .int .u32 (q : Int), .int .u32 (r : Int)] 27)) rfl (run_bs3 p q r) ((Q.refl x).cells _ _) ⟨x.heap.size, rfl, uis3 x p q r⟩
theorem yld_place {R : Exit → Act → World → Prop} {a : Act} {x : World} {t j : Nat} {at' : Array TypeId} {ty : TypeId} {ps : String} {af : Array Edge} {g : Option (Nat × Bool)} {v : Value} {p q r : Nat} (hp : p < 4294967296) (hq : q < 4294967296) (hr : r < 4294967296) (hj : a.tmps[j]? = some v) (hs : (SlS [p, q, r]).p v x) : Yld Try.prog R { dst := some t, op := .call { callee := .value (.func 13), args := #[.const (.int .i64 1), .tmp j], argTypes := at' }, type := ty, pos := ps, after := af, guard := g } a x t (fun v x' => PcP [p, q, r] v x') := by
  obtain ⟨gg, rfl, hu⟩ := hs
  refine yld_call (enters_of Try.func13 (by kernel_rfl) rfl) (vs := #[.int .i64 1, .slice (some ⟨gg, 0, none⟩) 3 3]) ?_ ((place_any x 1 gg 0 3 3 [p, q, r] hu rfl (by decide) (by decide) (fun i => ?_)).mono ?_)
  · have h1 := tmp_eval hj
    have h2 : a.eval (.const (.int .i64 1)) = .int .i64 1 := rfl
    simp [h1, h2]
  · match i with
    | 0 => exact hp
    | 1 => exact hq
    | 2 => exact hr
    | i + 3 => show (0 : Nat) < _; decide
  · rintro u x' ⟨g', cap', M, rfl, hM, HW, hq'⟩
    exact ⟨_, rfl, hq', g', cap', M, rfl, by have := HW.out.room; have := congrArg List.length hM; rw [List.length_map] at this; simp at this; omega, HW.out.pc, hM⟩
theorem yld_pics {R : Exit → Act → World → Prop} {a : Act} {x : World} {t j k : Nat} {at' : Array TypeId} {ty : TypeId} {ps : String} {af : Array Edge} {g : Option (Nat × Bool)} {v u : Value} {l : List Nat} (hl : l.length = 3) (hj : a.tmps[j]? = some v) (hk : a.tmps[k]? = some u) (hv : PcP l v x) (hu : PcP l u x) : Yld Try.prog R { dst := some t, op := .call { callee := .value (.func 16), args := #[.tmp j, .tmp k], argTypes := at' }, type := ty, pos := ps, after := af, guard := g } a x t (fun v x' => v = .bool true) := by
  obtain ⟨g1, cap1, M1, rfl, c1, p1, s1⟩ := hv
  obtain ⟨g2, cap2, M2, rfl, c2, p2, s2⟩ := hu
  have hn : M1.length = 3 := by have := congrArg List.length s1; rw [List.length_map, List.length_map, hl] at this; exact this
  refine yld_call (enters_of Try.func16 (by kernel_rfl) rfl) (args2 hj hk) ((pics_same p1 p2 hn (by rw [s1, s2]) c1 c2).mono ?_)
  rintro u x' ⟨rfl, q'⟩
  exact ⟨_, rfl, q', rfl⟩
end Go.Proofs.Ytdempklpmggdoaa
/- The chapter's examples: the last region. -/
namespace Go.Proofs.Ytdempklpmggdoaa
open Go.RowKit
set_option linter.unusedVariables false
set_option linter.unusedSimpArgs false

theorem run_and {P : Program} {ρ : Operand → Value} {x : World} {d : Option Tmp} {ty : TypeId} {ps : String} {af : Array Edge} {g : Option (Nat × Bool)} {c j : Nat} {v u : Value} (hc : ρ (.tmp c) = .bool true) (h : ρ (.tmp j) = v) : (execOp ρ { dst := d, op := .pick (.tmp c) (.tmp j) (.const u), type := ty, pos := ps, after := af, guard := g }).run P x = .ok (.value v) x := by
  simp [execOp, hc, h, go_sem]
theorem run_asg {P : Program} {ρ : Operand → Value} {x : World} {d : Option Tmp} {ty : TypeId} {ps : String} {af : Array Edge} {g : Option (Nat × Bool)} {j : Nat} {v : Value} (h : ρ (.tmp j) = v) : (execOp ρ { dst := d, op := .assign (.tmp j), type := ty, pos := ps, after := af, guard := g }).run P x = .ok (.value v) x := by
  simp [execOp, h]
def oKn_0 : Oper := { dst := some 68, op := .load 24 (.tmp 2), type := 24, pos := "whatfor.go:34", after := #[], guard := none }
def oKn_1 : Oper := { dst := some 69, op := .buildSlice 45 3 #[(0, .const (.int .u32 1077936128)), (1, .const (.int .u32 1084227584)), (2, .const (.int .u32 1091567616))], type := 45, pos := "whatfor.go:34", after := #[], guard := none }
def oKn_2 : Oper := { dst := some 70, op := .call { callee := .value (.func 13), args := #[.const (.int .i64 1), .tmp 69], argTypes := #[3, 45] }, type := 24, pos := "whatfor.go:34", after := #[⟨1, .data⟩], guard := none }
def oKn_3 : Oper := { dst := some 71, op := .call { callee := .value (.func 16), args := #[.tmp 68, .tmp 70], argTypes := #[24, 24] }, type := 4, pos := "whatfor.go:34", after := #[⟨0, .data⟩, ⟨2, .data⟩, ⟨2, .chain⟩], guard := none }
def oKn_4 : Oper := { dst := some 72, op := .move (.tmp 71), type := 4, pos := "whatfor.go:34", after := #[⟨3, .data⟩, ⟨3, .chain⟩], guard := none }
def oKn_5 : Oper := { dst := some 73, op := .load 24 (.tmp 4), type := 24, pos := "whatfor.go:34", after := #[⟨4, .guard⟩], guard := some (4, true) }
def oKn_6 : Oper := { dst := some 74, op := .buildSlice 45 3 #[(0, .const (.int .u32 1082130432)), (1, .const (.int .u32 1073741824)), (2, .const (.int .u32 1065353216))], type := 45, pos := "whatfor.go:34", after := #[⟨4, .guard⟩], guard := some (4, true) }
def oKn_7 : Oper := { dst := some 75, op := .call { callee := .value (.func 13), args := #[.const (.int .i64 1), .tmp 74], argTypes := #[3, 45] }, type := 24, pos := "whatfor.go:34", after := #[⟨6, .data⟩, ⟨4, .chain⟩, ⟨4, .guard⟩], guard := some (4, true) }
def oKn_8 : Oper := { dst := some 76, op := .call { callee := .value (.func 16), args := #[.tmp 73, .tmp 75], argTypes := #[24, 24] }, type := 4, pos := "whatfor.go:34", after := #[⟨5, .data⟩, ⟨7, .data⟩, ⟨7, .chain⟩, ⟨4, .guard⟩], guard := some (4, true) }
def oKn_9 : Oper := { dst := some 77, op := .pick (.tmp 72) (.tmp 76) (.const (.bool false)), type := 4, pos := "whatfor.go:34", after := #[⟨4, .data⟩, ⟨8, .data⟩], guard := none }
def oKn_10 : Oper := { dst := some 78, op := .move (.tmp 77), type := 4, pos := "whatfor.go:34", after := #[⟨9, .data⟩, ⟨8, .chain⟩], guard := none }
def oKn_11 : Oper := { dst := some 79, op := .load 24 (.tmp 6), type := 24, pos := "whatfor.go:34", after := #[⟨10, .guard⟩], guard := some (10, true) }
def oKn_12 : Oper := { dst := some 80, op := .buildSlice 45 3 #[(0, .const (.int .u32 0)), (1, .const (.int .u32 0)), (2, .const (.int .u32 0))], type := 45, pos := "whatfor.go:34", after := #[⟨10, .guard⟩], guard := some (10, true) }
def oKn_13 : Oper := { dst := some 81, op := .call { callee := .value (.func 13), args := #[.const (.int .i64 1), .tmp 80], argTypes := #[3, 45] }, type := 24, pos := "whatfor.go:34", after := #[⟨12, .data⟩, ⟨10, .chain⟩, ⟨10, .guard⟩], guard := some (10, true) }
def oKn_14 : Oper := { dst := some 82, op := .call { callee := .value (.func 16), args := #[.tmp 79, .tmp 81], argTypes := #[24, 24] }, type := 4, pos := "whatfor.go:34", after := #[⟨11, .data⟩, ⟨13, .data⟩, ⟨13, .chain⟩, ⟨10, .guard⟩], guard := some (10, true) }
def oKn_15 : Oper := { dst := some 83, op := .pick (.tmp 78) (.tmp 82) (.const (.bool false)), type := 4, pos := "whatfor.go:34", after := #[⟨10, .data⟩, ⟨14, .data⟩], guard := none }
def oKn_16 : Oper := { dst := some 84, op := .move (.tmp 83), type := 4, pos := "whatfor.go:34", after := #[⟨15, .data⟩, ⟨14, .chain⟩], guard := none }
def oKn_17 : Oper := { dst := some 85, op := .load 24 (.tmp 8), type := 24, pos := "whatfor.go:34", after := #[⟨16, .guard⟩], guard := some (16, true) }
def oKn_18 : Oper := { dst := some 86, op := .buildSlice 45 3 #[(0, .const (.int .u32 1069547520)), (1, .const (.int .u32 1073741824)), (2, .const (.int .u32 1077936128))], type := 45, pos := "whatfor.go:34", after := #[⟨16, .guard⟩], guard := some (16, true) }
def oKn_19 : Oper := { dst := some 87, op := .call { callee := .value (.func 13), args := #[.const (.int .i64 1), .tmp 86], argTypes := #[3, 45] }, type := 24, pos := "whatfor.go:34", after := #[⟨18, .data⟩, ⟨16, .chain⟩, ⟨16, .guard⟩], guard := some (16, true) }
def oKn_20 : Oper := { dst := some 88, op := .call { callee := .value (.func 16), args := #[.tmp 85, .tmp 87], argTypes := #[24, 24] }, type := 4, pos := "whatfor.go:34", after := #[⟨17, .data⟩, ⟨19, .data⟩, ⟨19, .chain⟩, ⟨16, .guard⟩], guard := some (16, true) }
def oKn_21 : Oper := { dst := some 89, op := .pick (.tmp 84) (.tmp 88) (.const (.bool false)), type := 4, pos := "whatfor.go:34", after := #[⟨16, .data⟩, ⟨20, .data⟩], guard := none }
def oKn_22 : Oper := { dst := some 0, op := .assign (.tmp 89), type := 4, pos := "whatfor.go:34", after := #[⟨21, .data⟩, ⟨20, .chain⟩, ⟨0, .phase⟩, ⟨1, .phase⟩, ⟨2, .phase⟩, ⟨3, .phase⟩, ⟨4, .phase⟩, ⟨5, .phase⟩, ⟨6, .phase⟩, ⟨7, .phase⟩, ⟨8, .phase⟩, ⟨9, .phase⟩, ⟨10, .phase⟩, ⟨11, .phase⟩, ⟨12, .phase⟩, ⟨13, .phase⟩, ⟨14, .phase⟩, ⟨15, .phase⟩, ⟨16, .phase⟩, ⟨17, .phase⟩, ⟨18, .phase⟩, ⟨19, .phase⟩, ⟨20, .phase⟩, ⟨21, .phase⟩], guard := none }
def opsKn : List Oper := [oKn_0, oKn_1, oKn_2, oKn_3, oKn_4, oKn_5, oKn_6, oKn_7, oKn_8, oKn_9, oKn_10, oKn_11, oKn_12, oKn_13, oKn_14, oKn_15, oKn_16, oKn_17, oKn_18, oKn_19, oKn_20, oKn_21, oKn_22]
def sKn : List Nat := [68, 69, 70, 71, 72, 73, 74, 75, 76, 77, 78, 79, 80, 81, 82, 83, 84, 85, 86, 87, 88, 89, 0]
def spKn (V2 V4 V6 V8 : Nat) : List Spec := [PcS [1077936128, 1084227584, 1091567616], SlS [1077936128, 1084227584, 1091567616], PcS [1077936128, 1084227584, 1091567616], spV (.bool true), spV (.bool true), PcS [1082130432, 1073741824, 1065353216], SlS [1082130432, 1073741824, 1065353216], PcS [1082130432, 1073741824, 1065353216], spV (.bool true), spV (.bool true), spV (.bool true), PcS [0, 0, 0], SlS [0, 0, 0], PcS [0, 0, 0], spV (.bool true), spV (.bool true), spV (.bool true), PcS [1069547520, 1073741824, 1077936128], SlS [1069547520, 1073741824, 1077936128], PcS [1069547520, 1073741824, 1077936128], spV (.bool true), spV (.bool true), spV (.bool true)]
structure EnvKn (a0 : Act) (w : World) (V2 V4 V6 V8 : Nat) : Prop where
  h2 : a0.tmps[2]? = some (ptrV V2)
  h4 : a0.tmps[4]? = some (ptrV V4)
  h6 : a0.tmps[6]? = some (ptrV V6)
  h8 : a0.tmps[8]? = some (ptrV V8)
  b2 : PcB [1077936128, 1084227584, 1091567616] V2 w
  b4 : PcB [1082130432, 1073741824, 1065353216] V4 w
  b6 : PcB [0, 0, 0] V6 w
  b8 : PcB [1069547520, 1073741824, 1077936128] V8 w
def skKn (i : Nat) : Bool := [].contains i
theorem yKn_0 {a0 : Act} {w : World} {V2 V4 V6 V8 : Nat} (E : EnvKn a0 w V2 V4 V6 V8) {R : Exit → Act → World → Prop} {a : Act} {x : World} (q : Q w x) (oth : ∀ j, j ∉ sKn → a.tmps[j]? = a0.tmps[j]?) (dep : ∀ ed ∈ oKn_0.after, Region.binds .any ed = true → ∀ t', sKn[ed.on]? = some t' → ∃ v, a.tmps[t']? = some v ∧ specAt (spKn V2 V4 V6 V8) ed.on v x) : Yld Try.prog R oKn_0 a x 68 (specAt (spKn V2 V4 V6 V8) 0) := by
  exact yld_ldpic ((oth 2 (by decide)).trans E.h2) (E.b2.next q)
theorem yKn_1 {a0 : Act} {w : World} {V2 V4 V6 V8 : Nat} (E : EnvKn a0 w V2 V4 V6 V8) {R : Exit → Act → World → Prop} {a : Act} {x : World} (q : Q w x) (oth : ∀ j, j ∉ sKn → a.tmps[j]? = a0.tmps[j]?) (dep : ∀ ed ∈ oKn_1.after, Region.binds .any ed = true → ∀ t', sKn[ed.on]? = some t' → ∃ v, a.tmps[t']? = some v ∧ specAt (spKn V2 V4 V6 V8) ed.on v x) : Yld Try.prog R oKn_1 a x 69 (specAt (spKn V2 V4 V6 V8) 1) := by
  exact yld_bs3 1077936128 1084227584 1091567616
theorem yKn_2 {a0 : Act} {w : World} {V2 V4 V6 V8 : Nat} (E : EnvKn a0 w V2 V4 V6 V8) {R : Exit → Act → World → Prop} {a : Act} {x : World} (q : Q w x) (oth : ∀ j, j ∉ sKn → a.tmps[j]? = a0.tmps[j]?) (dep : ∀ ed ∈ oKn_2.after, Region.binds .any ed = true → ∀ t', sKn[ed.on]? = some t' → ∃ v, a.tmps[t']? = some v ∧ specAt (spKn V2 V4 V6 V8) ed.on v x) : Yld Try.prog R oKn_2 a x 70 (specAt (spKn V2 V4 V6 V8) 2) := by
  obtain ⟨v1, t1, f1⟩ := dep ⟨1, .data⟩ (by simp [oKn_2]) rfl 69 rfl
  have f1 : (SlS [1077936128, 1084227584, 1091567616]).p v1 x := f1
  exact yld_place (by decide) (by decide) (by decide) t1 f1
theorem yKn_3 {a0 : Act} {w : World} {V2 V4 V6 V8 : Nat} (E : EnvKn a0 w V2 V4 V6 V8) {R : Exit → Act → World → Prop} {a : Act} {x : World} (q : Q w x) (oth : ∀ j, j ∉ sKn → a.tmps[j]? = a0.tmps[j]?) (dep : ∀ ed ∈ oKn_3.after, Region.binds .any ed = true → ∀ t', sKn[ed.on]? = some t' → ∃ v, a.tmps[t']? = some v ∧ specAt (spKn V2 V4 V6 V8) ed.on v x) : Yld Try.prog R oKn_3 a x 71 (specAt (spKn V2 V4 V6 V8) 3) := by
  obtain ⟨v0, t0, f0⟩ := dep ⟨0, .data⟩ (by simp [oKn_3]) rfl 68 rfl
  have f0 : (PcS [1077936128, 1084227584, 1091567616]).p v0 x := f0
  obtain ⟨v2, t2, f2⟩ := dep ⟨2, .data⟩ (by simp [oKn_3]) rfl 70 rfl
  have f2 : (PcS [1077936128, 1084227584, 1091567616]).p v2 x := f2
  exact yld_pics (l := [1077936128, 1084227584, 1091567616]) rfl t0 t2 f0 f2
theorem yKn_4 {a0 : Act} {w : World} {V2 V4 V6 V8 : Nat} (E : EnvKn a0 w V2 V4 V6 V8) {R : Exit → Act → World → Prop} {a : Act} {x : World} (q : Q w x) (oth : ∀ j, j ∉ sKn → a.tmps[j]? = a0.tmps[j]?) (dep : ∀ ed ∈ oKn_4.after, Region.binds .any ed = true → ∀ t', sKn[ed.on]? = some t' → ∃ v, a.tmps[t']? = some v ∧ specAt (spKn V2 V4 V6 V8) ed.on v x) : Yld Try.prog R oKn_4 a x 72 (specAt (spKn V2 V4 V6 V8) 4) := by
  obtain ⟨v3, t3, f3⟩ := dep ⟨3, .data⟩ (by simp [oKn_4]) rfl 71 rfl
  have f3 : v3 = (.bool true) := f3
  subst f3
  exact yld_move t3 rfl
theorem yKn_5 {a0 : Act} {w : World} {V2 V4 V6 V8 : Nat} (E : EnvKn a0 w V2 V4 V6 V8) {R : Exit → Act → World → Prop} {a : Act} {x : World} (q : Q w x) (oth : ∀ j, j ∉ sKn → a.tmps[j]? = a0.tmps[j]?) (dep : ∀ ed ∈ oKn_5.after, Region.binds .any ed = true → ∀ t', sKn[ed.on]? = some t' → ∃ v, a.tmps[t']? = some v ∧ specAt (spKn V2 V4 V6 V8) ed.on v x) : Yld Try.prog R oKn_5 a x 73 (specAt (spKn V2 V4 V6 V8) 5) := by
  exact yld_ldpic ((oth 4 (by decide)).trans E.h4) (E.b4.next q)
theorem yKn_6 {a0 : Act} {w : World} {V2 V4 V6 V8 : Nat} (E : EnvKn a0 w V2 V4 V6 V8) {R : Exit → Act → World → Prop} {a : Act} {x : World} (q : Q w x) (oth : ∀ j, j ∉ sKn → a.tmps[j]? = a0.tmps[j]?) (dep : ∀ ed ∈ oKn_6.after, Region.binds .any ed = true → ∀ t', sKn[ed.on]? = some t' → ∃ v, a.tmps[t']? = some v ∧ specAt (spKn V2 V4 V6 V8) ed.on v x) : Yld Try.prog R oKn_6 a x 74 (specAt (spKn V2 V4 V6 V8) 6) := by
  exact yld_bs3 1082130432 1073741824 1065353216
theorem yKn_7 {a0 : Act} {w : World} {V2 V4 V6 V8 : Nat} (E : EnvKn a0 w V2 V4 V6 V8) {R : Exit → Act → World → Prop} {a : Act} {x : World} (q : Q w x) (oth : ∀ j, j ∉ sKn → a.tmps[j]? = a0.tmps[j]?) (dep : ∀ ed ∈ oKn_7.after, Region.binds .any ed = true → ∀ t', sKn[ed.on]? = some t' → ∃ v, a.tmps[t']? = some v ∧ specAt (spKn V2 V4 V6 V8) ed.on v x) : Yld Try.prog R oKn_7 a x 75 (specAt (spKn V2 V4 V6 V8) 7) := by
  obtain ⟨v6, t6, f6⟩ := dep ⟨6, .data⟩ (by simp [oKn_7]) rfl 74 rfl
  have f6 : (SlS [1082130432, 1073741824, 1065353216]).p v6 x := f6
  exact yld_place (by decide) (by decide) (by decide) t6 f6
theorem yKn_8 {a0 : Act} {w : World} {V2 V4 V6 V8 : Nat} (E : EnvKn a0 w V2 V4 V6 V8) {R : Exit → Act → World → Prop} {a : Act} {x : World} (q : Q w x) (oth : ∀ j, j ∉ sKn → a.tmps[j]? = a0.tmps[j]?) (dep : ∀ ed ∈ oKn_8.after, Region.binds .any ed = true → ∀ t', sKn[ed.on]? = some t' → ∃ v, a.tmps[t']? = some v ∧ specAt (spKn V2 V4 V6 V8) ed.on v x) : Yld Try.prog R oKn_8 a x 76 (specAt (spKn V2 V4 V6 V8) 8) := by
  obtain ⟨v5, t5, f5⟩ := dep ⟨5, .data⟩ (by simp [oKn_8]) rfl 73 rfl
  have f5 : (PcS [1082130432, 1073741824, 1065353216]).p v5 x := f5
  obtain ⟨v7, t7, f7⟩ := dep ⟨7, .data⟩ (by simp [oKn_8]) rfl 75 rfl
  have f7 : (PcS [1082130432, 1073741824, 1065353216]).p v7 x := f7
  exact yld_pics (l := [1082130432, 1073741824, 1065353216]) rfl t5 t7 f5 f7
theorem yKn_9 {a0 : Act} {w : World} {V2 V4 V6 V8 : Nat} (E : EnvKn a0 w V2 V4 V6 V8) {R : Exit → Act → World → Prop} {a : Act} {x : World} (q : Q w x) (oth : ∀ j, j ∉ sKn → a.tmps[j]? = a0.tmps[j]?) (dep : ∀ ed ∈ oKn_9.after, Region.binds .any ed = true → ∀ t', sKn[ed.on]? = some t' → ∃ v, a.tmps[t']? = some v ∧ specAt (spKn V2 V4 V6 V8) ed.on v x) : Yld Try.prog R oKn_9 a x 77 (specAt (spKn V2 V4 V6 V8) 9) := by
  obtain ⟨v4, t4, f4⟩ := dep ⟨4, .data⟩ (by simp [oKn_9]) rfl 72 rfl
  have f4 : v4 = (.bool true) := f4
  subst f4
  obtain ⟨v8, t8, f8⟩ := dep ⟨8, .data⟩ (by simp [oKn_9]) rfl 76 rfl
  have f8 : v8 = (.bool true) := f8
  subst f8
  exact yld_run (x' := x) rfl (run_and (tmp_eval t4) (tmp_eval t8)) (Q.refl x) rfl
theorem yKn_10 {a0 : Act} {w : World} {V2 V4 V6 V8 : Nat} (E : EnvKn a0 w V2 V4 V6 V8) {R : Exit → Act → World → Prop} {a : Act} {x : World} (q : Q w x) (oth : ∀ j, j ∉ sKn → a.tmps[j]? = a0.tmps[j]?) (dep : ∀ ed ∈ oKn_10.after, Region.binds .any ed = true → ∀ t', sKn[ed.on]? = some t' → ∃ v, a.tmps[t']? = some v ∧ specAt (spKn V2 V4 V6 V8) ed.on v x) : Yld Try.prog R oKn_10 a x 78 (specAt (spKn V2 V4 V6 V8) 10) := by
  obtain ⟨v9, t9, f9⟩ := dep ⟨9, .data⟩ (by simp [oKn_10]) rfl 77 rfl
  have f9 : v9 = (.bool true) := f9
  subst f9
  exact yld_move t9 rfl
theorem yKn_11 {a0 : Act} {w : World} {V2 V4 V6 V8 : Nat} (E : EnvKn a0 w V2 V4 V6 V8) {R : Exit → Act → World → Prop} {a : Act} {x : World} (q : Q w x) (oth : ∀ j, j ∉ sKn → a.tmps[j]? = a0.tmps[j]?) (dep : ∀ ed ∈ oKn_11.after, Region.binds .any ed = true → ∀ t', sKn[ed.on]? = some t' → ∃ v, a.tmps[t']? = some v ∧ specAt (spKn V2 V4 V6 V8) ed.on v x) : Yld Try.prog R oKn_11 a x 79 (specAt (spKn V2 V4 V6 V8) 11) := by
  exact yld_ldpic ((oth 6 (by decide)).trans E.h6) (E.b6.next q)
theorem yKn_12 {a0 : Act} {w : World} {V2 V4 V6 V8 : Nat} (E : EnvKn a0 w V2 V4 V6 V8) {R : Exit → Act → World → Prop} {a : Act} {x : World} (q : Q w x) (oth : ∀ j, j ∉ sKn → a.tmps[j]? = a0.tmps[j]?) (dep : ∀ ed ∈ oKn_12.after, Region.binds .any ed = true → ∀ t', sKn[ed.on]? = some t' → ∃ v, a.tmps[t']? = some v ∧ specAt (spKn V2 V4 V6 V8) ed.on v x) : Yld Try.prog R oKn_12 a x 80 (specAt (spKn V2 V4 V6 V8) 12) := by
  exact yld_bs3 0 0 0
theorem yKn_13 {a0 : Act} {w : World} {V2 V4 V6 V8 : Nat} (E : EnvKn a0 w V2 V4 V6 V8) {R : Exit → Act → World → Prop} {a : Act} {x : World} (q : Q w x) (oth : ∀ j, j ∉ sKn → a.tmps[j]? = a0.tmps[j]?) (dep : ∀ ed ∈ oKn_13.after, Region.binds .any ed = true → ∀ t', sKn[ed.on]? = some t' → ∃ v, a.tmps[t']? = some v ∧ specAt (spKn V2 V4 V6 V8) ed.on v x) : Yld Try.prog R oKn_13 a x 81 (specAt (spKn V2 V4 V6 V8) 13) := by
  obtain ⟨v12, t12, f12⟩ := dep ⟨12, .data⟩ (by simp [oKn_13]) rfl 80 rfl
  have f12 : (SlS [0, 0, 0]).p v12 x := f12
  exact yld_place (by decide) (by decide) (by decide) t12 f12
theorem yKn_14 {a0 : Act} {w : World} {V2 V4 V6 V8 : Nat} (E : EnvKn a0 w V2 V4 V6 V8) {R : Exit → Act → World → Prop} {a : Act} {x : World} (q : Q w x) (oth : ∀ j, j ∉ sKn → a.tmps[j]? = a0.tmps[j]?) (dep : ∀ ed ∈ oKn_14.after, Region.binds .any ed = true → ∀ t', sKn[ed.on]? = some t' → ∃ v, a.tmps[t']? = some v ∧ specAt (spKn V2 V4 V6 V8) ed.on v x) : Yld Try.prog R oKn_14 a x 82 (specAt (spKn V2 V4 V6 V8) 14) := by
  obtain ⟨v11, t11, f11⟩ := dep ⟨11, .data⟩ (by simp [oKn_14]) rfl 79 rfl
  have f11 : (PcS [0, 0, 0]).p v11 x := f11
  obtain ⟨v13, t13, f13⟩ := dep ⟨13, .data⟩ (by simp [oKn_14]) rfl 81 rfl
  have f13 : (PcS [0, 0, 0]).p v13 x := f13
  exact yld_pics (l := [0, 0, 0]) rfl t11 t13 f11 f13
theorem yKn_15 {a0 : Act} {w : World} {V2 V4 V6 V8 : Nat} (E : EnvKn a0 w V2 V4 V6 V8) {R : Exit → Act → World → Prop} {a : Act} {x : World} (q : Q w x) (oth : ∀ j, j ∉ sKn → a.tmps[j]? = a0.tmps[j]?) (dep : ∀ ed ∈ oKn_15.after, Region.binds .any ed = true → ∀ t', sKn[ed.on]? = some t' → ∃ v, a.tmps[t']? = some v ∧ specAt (spKn V2 V4 V6 V8) ed.on v x) : Yld Try.prog R oKn_15 a x 83 (specAt (spKn V2 V4 V6 V8) 15) := by
  obtain ⟨v10, t10, f10⟩ := dep ⟨10, .data⟩ (by simp [oKn_15]) rfl 78 rfl
  have f10 : v10 = (.bool true) := f10
  subst f10
  obtain ⟨v14, t14, f14⟩ := dep ⟨14, .data⟩ (by simp [oKn_15]) rfl 82 rfl
  have f14 : v14 = (.bool true) := f14
  subst f14
  exact yld_run (x' := x) rfl (run_and (tmp_eval t10) (tmp_eval t14)) (Q.refl x) rfl
theorem yKn_16 {a0 : Act} {w : World} {V2 V4 V6 V8 : Nat} (E : EnvKn a0 w V2 V4 V6 V8) {R : Exit → Act → World → Prop} {a : Act} {x : World} (q : Q w x) (oth : ∀ j, j ∉ sKn → a.tmps[j]? = a0.tmps[j]?) (dep : ∀ ed ∈ oKn_16.after, Region.binds .any ed = true → ∀ t', sKn[ed.on]? = some t' → ∃ v, a.tmps[t']? = some v ∧ specAt (spKn V2 V4 V6 V8) ed.on v x) : Yld Try.prog R oKn_16 a x 84 (specAt (spKn V2 V4 V6 V8) 16) := by
  obtain ⟨v15, t15, f15⟩ := dep ⟨15, .data⟩ (by simp [oKn_16]) rfl 83 rfl
  have f15 : v15 = (.bool true) := f15
  subst f15
  exact yld_move t15 rfl
theorem yKn_17 {a0 : Act} {w : World} {V2 V4 V6 V8 : Nat} (E : EnvKn a0 w V2 V4 V6 V8) {R : Exit → Act → World → Prop} {a : Act} {x : World} (q : Q w x) (oth : ∀ j, j ∉ sKn → a.tmps[j]? = a0.tmps[j]?) (dep : ∀ ed ∈ oKn_17.after, Region.binds .any ed = true → ∀ t', sKn[ed.on]? = some t' → ∃ v, a.tmps[t']? = some v ∧ specAt (spKn V2 V4 V6 V8) ed.on v x) : Yld Try.prog R oKn_17 a x 85 (specAt (spKn V2 V4 V6 V8) 17) := by
  exact yld_ldpic ((oth 8 (by decide)).trans E.h8) (E.b8.next q)
theorem yKn_18 {a0 : Act} {w : World} {V2 V4 V6 V8 : Nat} (E : EnvKn a0 w V2 V4 V6 V8) {R : Exit → Act → World → Prop} {a : Act} {x : World} (q : Q w x) (oth : ∀ j, j ∉ sKn → a.tmps[j]? = a0.tmps[j]?) (dep : ∀ ed ∈ oKn_18.after, Region.binds .any ed = true → ∀ t', sKn[ed.on]? = some t' → ∃ v, a.tmps[t']? = some v ∧ specAt (spKn V2 V4 V6 V8) ed.on v x) : Yld Try.prog R oKn_18 a x 86 (specAt (spKn V2 V4 V6 V8) 18) := by
  exact yld_bs3 1069547520 1073741824 1077936128
theorem yKn_19 {a0 : Act} {w : World} {V2 V4 V6 V8 : Nat} (E : EnvKn a0 w V2 V4 V6 V8) {R : Exit → Act → World → Prop} {a : Act} {x : World} (q : Q w x) (oth : ∀ j, j ∉ sKn → a.tmps[j]? = a0.tmps[j]?) (dep : ∀ ed ∈ oKn_19.after, Region.binds .any ed = true → ∀ t', sKn[ed.on]? = some t' → ∃ v, a.tmps[t']? = some v ∧ specAt (spKn V2 V4 V6 V8) ed.on v x) : Yld Try.prog R oKn_19 a x 87 (specAt (spKn V2 V4 V6 V8) 19) := by
  obtain ⟨v18, t18, f18⟩ := dep ⟨18, .data⟩ (by simp [oKn_19]) rfl 86 rfl
  have f18 : (SlS [1069547520, 1073741824, 1077936128]).p v18 x := f18
  exact yld_place (by decide) (by decide) (by decide) t18 f18
theorem yKn_20 {a0 : Act} {w : World} {V2 V4 V6 V8 : Nat} (E : EnvKn a0 w V2 V4 V6 V8) {R : Exit → Act → World → Prop} {a : Act} {x : World} (q : Q w x) (oth : ∀ j, j ∉ sKn → a.tmps[j]? = a0.tmps[j]?) (dep : ∀ ed ∈ oKn_20.after, Region.binds .any ed = true → ∀ t', sKn[ed.on]? = some t' → ∃ v, a.tmps[t']? = some v ∧ specAt (spKn V2 V4 V6 V8) ed.on v x) : Yld Try.prog R oKn_20 a x 88 (specAt (spKn V2 V4 V6 V8) 20) := by
  obtain ⟨v17, t17, f17⟩ := dep ⟨17, .data⟩ (by simp [oKn_20]) rfl 85 rfl
  have f17 : (PcS [1069547520, 1073741824, 1077936128]).p v17 x := f17
  obtain ⟨v19, t19, f19⟩ := dep ⟨19, .data⟩ (by simp [oKn_20]) rfl 87 rfl
  have f19 : (PcS [1069547520, 1073741824, 1077936128]).p v19 x := f19
  exact yld_pics (l := [1069547520, 1073741824, 1077936128]) rfl t17 t19 f17 f19
theorem yKn_21 {a0 : Act} {w : World} {V2 V4 V6 V8 : Nat} (E : EnvKn a0 w V2 V4 V6 V8) {R : Exit → Act → World → Prop} {a : Act} {x : World} (q : Q w x) (oth : ∀ j, j ∉ sKn → a.tmps[j]? = a0.tmps[j]?) (dep : ∀ ed ∈ oKn_21.after, Region.binds .any ed = true → ∀ t', sKn[ed.on]? = some t' → ∃ v, a.tmps[t']? = some v ∧ specAt (spKn V2 V4 V6 V8) ed.on v x) : Yld Try.prog R oKn_21 a x 89 (specAt (spKn V2 V4 V6 V8) 21) := by
  obtain ⟨v16, t16, f16⟩ := dep ⟨16, .data⟩ (by simp [oKn_21]) rfl 84 rfl
  have f16 : v16 = (.bool true) := f16
  subst f16
  obtain ⟨v20, t20, f20⟩ := dep ⟨20, .data⟩ (by simp [oKn_21]) rfl 88 rfl
  have f20 : v20 = (.bool true) := f20
  subst f20
  exact yld_run (x' := x) rfl (run_and (tmp_eval t16) (tmp_eval t20)) (Q.refl x) rfl
theorem yKn_22 {a0 : Act} {w : World} {V2 V4 V6 V8 : Nat} (E : EnvKn a0 w V2 V4 V6 V8) {R : Exit → Act → World → Prop} {a : Act} {x : World} (q : Q w x) (oth : ∀ j, j ∉ sKn → a.tmps[j]? = a0.tmps[j]?) (dep : ∀ ed ∈ oKn_22.after, Region.binds .any ed = true → ∀ t', sKn[ed.on]? = some t' → ∃ v, a.tmps[t']? = some v ∧ specAt (spKn V2 V4 V6 V8) ed.on v x) : Yld Try.prog R oKn_22 a x 0 (specAt (spKn V2 V4 V6 V8) 22) := by
  obtain ⟨v21, t21, f21⟩ := dep ⟨21, .data⟩ (by simp [oKn_22]) rfl 89 rfl
  have f21 : v21 = (.bool true) := f21
  subst f21
  exact yld_run (x' := x) rfl (run_asg (tmp_eval t21)) (Q.refl x) rfl
theorem hopKn {a0 : Act} {w : World} {V2 V4 V6 V8 : Nat} (E : EnvKn a0 w V2 V4 V6 V8) {R : Exit → Act → World → Prop} : ∀ (i t : Nat) (o : Oper) (a : Act) (x : World), skKn i = false → sKn[i]? = some t → opsKn[i]? = some o → Q w x → (∀ j, j ∉ sKn → a.tmps[j]? = a0.tmps[j]?) → (∀ ed ∈ o.after, Region.binds .any ed = true → ∀ t', sKn[ed.on]? = some t' → ∃ v, a.tmps[t']? = some v ∧ specAt (spKn V2 V4 V6 V8) ed.on v x) → Yld Try.prog R o a x t (specAt (spKn V2 V4 V6 V8) i)
  | 0, t, o, a, x, hi, ht, ho, q, oth, dep => by
    have e1 : oKn_0 = o := Option.some.inj ho
    have e2 : 68 = t := Option.some.inj ht
    subst e1 e2
    exact yKn_0 E q oth dep
  | 1, t, o, a, x, hi, ht, ho, q, oth, dep => by
    have e1 : oKn_1 = o := Option.some.inj ho
    have e2 : 69 = t := Option.some.inj ht
    subst e1 e2
    exact yKn_1 E q oth dep
  | 2, t, o, a, x, hi, ht, ho, q, oth, dep => by
    have e1 : oKn_2 = o := Option.some.inj ho
    have e2 : 70 = t := Option.some.inj ht
    subst e1 e2
    exact yKn_2 E q oth dep
  | 3, t, o, a, x, hi, ht, ho, q, oth, dep => by
    have e1 : oKn_3 = o := Option.some.inj ho
    have e2 : 71 = t := Option.some.inj ht
    subst e1 e2
    exact yKn_3 E q oth dep
  | 4, t, o, a, x, hi, ht, ho, q, oth, dep => by
    have e1 : oKn_4 = o := Option.some.inj ho
    have e2 : 72 = t := Option.some.inj ht
    subst e1 e2
    exact yKn_4 E q oth dep
  | 5, t, o, a, x, hi, ht, ho, q, oth, dep => by
    have e1 : oKn_5 = o := Option.some.inj ho
    have e2 : 73 = t := Option.some.inj ht
    subst e1 e2
    exact yKn_5 E q oth dep
  | 6, t, o, a, x, hi, ht, ho, q, oth, dep => by
    have e1 : oKn_6 = o := Option.some.inj ho
    have e2 : 74 = t := Option.some.inj ht
    subst e1 e2
    exact yKn_6 E q oth dep
  | 7, t, o, a, x, hi, ht, ho, q, oth, dep => by
    have e1 : oKn_7 = o := Option.some.inj ho
    have e2 : 75 = t := Option.some.inj ht
    subst e1 e2
    exact yKn_7 E q oth dep
  | 8, t, o, a, x, hi, ht, ho, q, oth, dep => by
    have e1 : oKn_8 = o := Option.some.inj ho
    have e2 : 76 = t := Option.some.inj ht
    subst e1 e2
    exact yKn_8 E q oth dep
  | 9, t, o, a, x, hi, ht, ho, q, oth, dep => by
    have e1 : oKn_9 = o := Option.some.inj ho
    have e2 : 77 = t := Option.some.inj ht
    subst e1 e2
    exact yKn_9 E q oth dep
  | 10, t, o, a, x, hi, ht, ho, q, oth, dep => by
    have e1 : oKn_10 = o := Option.some.inj ho
    have e2 : 78 = t := Option.some.inj ht
    subst e1 e2
    exact yKn_10 E q oth dep
  | 11, t, o, a, x, hi, ht, ho, q, oth, dep => by
    have e1 : oKn_11 = o := Option.some.inj ho
    have e2 : 79 = t := Option.some.inj ht
    subst e1 e2
    exact yKn_11 E q oth dep
  | 12, t, o, a, x, hi, ht, ho, q, oth, dep => by
    have e1 : oKn_12 = o := Option.some.inj ho
    have e2 : 80 = t := Option.some.inj ht
    subst e1 e2
    exact yKn_12 E q oth dep
  | 13, t, o, a, x, hi, ht, ho, q, oth, dep => by
    have e1 : oKn_13 = o := Option.some.inj ho
    have e2 : 81 = t := Option.some.inj ht
    subst e1 e2
    exact yKn_13 E q oth dep
  | 14, t, o, a, x, hi, ht, ho, q, oth, dep => by
    have e1 : oKn_14 = o := Option.some.inj ho
    have e2 : 82 = t := Option.some.inj ht
    subst e1 e2
    exact yKn_14 E q oth dep
  | 15, t, o, a, x, hi, ht, ho, q, oth, dep => by
    have e1 : oKn_15 = o := Option.some.inj ho
    have e2 : 83 = t := Option.some.inj ht
    subst e1 e2
    exact yKn_15 E q oth dep
  | 16, t, o, a, x, hi, ht, ho, q, oth, dep => by
    have e1 : oKn_16 = o := Option.some.inj ho
    have e2 : 84 = t := Option.some.inj ht
    subst e1 e2
    exact yKn_16 E q oth dep
  | 17, t, o, a, x, hi, ht, ho, q, oth, dep => by
    have e1 : oKn_17 = o := Option.some.inj ho
    have e2 : 85 = t := Option.some.inj ht
    subst e1 e2
    exact yKn_17 E q oth dep
  | 18, t, o, a, x, hi, ht, ho, q, oth, dep => by
    have e1 : oKn_18 = o := Option.some.inj ho
    have e2 : 86 = t := Option.some.inj ht
    subst e1 e2
    exact yKn_18 E q oth dep
  | 19, t, o, a, x, hi, ht, ho, q, oth, dep => by
    have e1 : oKn_19 = o := Option.some.inj ho
    have e2 : 87 = t := Option.some.inj ht
    subst e1 e2
    exact yKn_19 E q oth dep
  | 20, t, o, a, x, hi, ht, ho, q, oth, dep => by
    have e1 : oKn_20 = o := Option.some.inj ho
    have e2 : 88 = t := Option.some.inj ht
    subst e1 e2
    exact yKn_20 E q oth dep
  | 21, t, o, a, x, hi, ht, ho, q, oth, dep => by
    have e1 : oKn_21 = o := Option.some.inj ho
    have e2 : 89 = t := Option.some.inj ht
    subst e1 e2
    exact yKn_21 E q oth dep
  | 22, t, o, a, x, hi, ht, ho, q, oth, dep => by
    have e1 : oKn_22 = o := Option.some.inj ho
    have e2 : 0 = t := Option.some.inj ht
    subst e1 e2
    exact yKn_22 E q oth dep
  | i + 23, t, o, a, x, hi, ht, ho, q, oth, dep => by cases ho
theorem keyKn : ∀ i, i < 23 → ((opsKn[i]?).bind (fun o : Oper => o.guard) = none ∧ skKn i = false) ∨ ((opsKn[i]?).bind (fun o : Oper => o.guard) = some (4, true) ∧ skKn i = false) ∨ ((opsKn[i]?).bind (fun o : Oper => o.guard) = some (10, true) ∧ skKn i = false) ∨ ((opsKn[i]?).bind (fun o : Oper => o.guard) = some (16, true) ∧ skKn i = false) := by decide +kernel
theorem hguKn {V2 V4 V6 V8 : Nat} : ∀ (i : Nat) (o : Oper) (g : Nat) (b : Bool), opsKn[i]? = some o → o.guard = some (g, b) → ∀ v x, specAt (spKn V2 V4 V6 V8) g v x → (v = .bool b ↔ skKn i = false) := by
  intro i o g b ho hg v x hf
  have h := keyKn i (List.getElem?_eq_some_iff.1 ho).1
  rw [ho] at h
  simp only [Option.bind_some] at h
  rw [hg] at h
  rcases h with ⟨h, _⟩ | ⟨h, hs⟩ | ⟨h, hs⟩ | ⟨h, hs⟩
  · cases h
  · injection h with h
    injection h with h1 h2
    subst h1 h2
    have hv : v = .bool true := hf
    subst hv
    rw [hs]
    simp
  · injection h with h
    injection h with h1 h2
    subst h1 h2
    have hv : v = .bool true := hf
    subst hv
    rw [hs]
    simp
  · injection h with h
    injection h with h1 h2
    subst h1 h2
    have hv : v = .bool true := hf
    subst hv
    rw [hs]
    simp
theorem hgnKn : ∀ (i : Nat) (o : Oper), opsKn[i]? = some o → o.guard = none → skKn i = false := by
  intro i o ho hg
  have h := keyKn i (List.getElem?_eq_some_iff.1 ho).1
  rw [ho] at h
  simp only [Option.bind_some] at h
  rw [hg] at h
  rcases h with ⟨_, h⟩ | ⟨h, _⟩ | ⟨h, _⟩ | ⟨h, _⟩
  · exact h
  · cases h
  · cases h
  · cases h
theorem hskKn {V2 V4 V6 V8 : Nat} : ∀ (i : Nat) (x : World), skKn i = true → specAt (spKn V2 V4 V6 V8) i undef x := by
  intro i x h
  cases h
theorem regionKn {id : Nat} {l : List Oper} {R : Exit → Act → World → Prop} {a0 : Act} {w : World} {V2 V4 V6 V8 : Nat} (hl : l = opsKn) (hsz : a0.tmps.size = 90) (E : EnvKn a0 w V2 V4 V6 V8)
    (hR : ∀ x v0 v1 v2 v5 v6 v7 v11 v12 v13 v17 v18 v19, Q w x → R .normal (putAll a0 [(68, v0), (69, v1), (70, v2), (71, (.bool true)), (72, (.bool true)), (73, v5), (74, v6), (75, v7), (76, (.bool true)), (77, (.bool true)), (78, (.bool true)), (79, v11), (80, v12), (81, v13), (82, (.bool true)), (83, (.bool true)), (84, (.bool true)), (85, v17), (86, v18), (87, v19), (88, (.bool true)), (89, (.bool true)), (0, (.bool true))]) x) :
    (Code.region id l.toArray true).wp Try.prog R a0 w := by
  subst hl
  refine wp_region_factsS sKn (specAt (spKn V2 V4 V6 V8)) skKn (by kernel_rfl) (by decide +kernel) (by decide) (fun t ht => ?_) specAt.next hguKn hgnKn hskKn (hopKn E) (fun a x q size defers other facts => ?_)
  · rw [hsz]
    revert t
    decide
  · obtain ⟨v0, t0, f0⟩ := facts 0 68 rfl
    obtain ⟨v1, t1, f1⟩ := facts 1 69 rfl
    obtain ⟨v2, t2, f2⟩ := facts 2 70 rfl
    obtain ⟨v3, t3, f3⟩ := facts 3 71 rfl
    have f3 : v3 = (.bool true) := f3
    subst f3
    obtain ⟨v4, t4, f4⟩ := facts 4 72 rfl
    have f4 : v4 = (.bool true) := f4
    subst f4
    obtain ⟨v5, t5, f5⟩ := facts 5 73 rfl
    obtain ⟨v6, t6, f6⟩ := facts 6 74 rfl
    obtain ⟨v7, t7, f7⟩ := facts 7 75 rfl
    obtain ⟨v8, t8, f8⟩ := facts 8 76 rfl
    have f8 : v8 = (.bool true) := f8
    subst f8
    obtain ⟨v9, t9, f9⟩ := facts 9 77 rfl
    have f9 : v9 = (.bool true) := f9
    subst f9
    obtain ⟨v10, t10, f10⟩ := facts 10 78 rfl
    have f10 : v10 = (.bool true) := f10
    subst f10
    obtain ⟨v11, t11, f11⟩ := facts 11 79 rfl
    obtain ⟨v12, t12, f12⟩ := facts 12 80 rfl
    obtain ⟨v13, t13, f13⟩ := facts 13 81 rfl
    obtain ⟨v14, t14, f14⟩ := facts 14 82 rfl
    have f14 : v14 = (.bool true) := f14
    subst f14
    obtain ⟨v15, t15, f15⟩ := facts 15 83 rfl
    have f15 : v15 = (.bool true) := f15
    subst f15
    obtain ⟨v16, t16, f16⟩ := facts 16 84 rfl
    have f16 : v16 = (.bool true) := f16
    subst f16
    obtain ⟨v17, t17, f17⟩ := facts 17 85 rfl
    obtain ⟨v18, t18, f18⟩ := facts 18 86 rfl
    obtain ⟨v19, t19, f19⟩ := facts 19 87 rfl
    obtain ⟨v20, t20, f20⟩ := facts 20 88 rfl
    have f20 : v20 = (.bool true) := f20
    subst f20
    obtain ⟨v21, t21, f21⟩ := facts 21 89 rfl
    have f21 : v21 = (.bool true) := f21
    subst f21
    obtain ⟨v22, t22, f22⟩ := facts 22 0 rfl
    have f22 : v22 = (.bool true) := f22
    subst f22
    have hA := act_puts (a := a) (a0 := a0) [(68, v0), (69, v1), (70, v2), (71, (.bool true)), (72, (.bool true)), (73, v5), (74, v6), (75, v7), (76, (.bool true)), (77, (.bool true)), (78, (.bool true)), (79, v11), (80, v12), (81, v13), (82, (.bool true)), (83, (.bool true)), (84, (.bool true)), (85, v17), (86, v18), (87, v19), (88, (.bool true)), (89, (.bool true)), (0, (.bool true))] (by show [68, 69, 70, 71, 72, 73, 74, 75, 76, 77, 78, 79, 80, 81, 82, 83, 84, 85, 86, 87, 88, 89, 0].Nodup; decide) size defers (fun j hj => other j (fun hk => hj hk)) (fun r hr => by
      simp only [List.mem_cons, List.not_mem_nil, or_false] at hr
      rcases hr with rfl | rfl | rfl | rfl | rfl | rfl | rfl | rfl | rfl | rfl | rfl | rfl | rfl | rfl | rfl | rfl | rfl | rfl | rfl | rfl | rfl | rfl | rfl
      · exact t0
      · exact t1
      · exact t2
      · exact t3
      · exact t4
      · exact t5
      · exact t6
      · exact t7
      · exact t8
      · exact t9
      · exact t10
      · exact t11
      · exact t12
      · exact t13
      · exact t14
      · exact t15
      · exact t16
      · exact t17
      · exact t18
      · exact t19
      · exact t20
      · exact t21
      · exact t22)
    rw [hA]
    exact ⟨hR x v0 v1 v2 v5 v6 v7 v11 v12 v13 v17 v18 v19 q⟩
end Go.Proofs.Ytdempklpmggdoaa

/- Appending to a list of the call's own: what lies where, and that nothing else is touched. -/
import Derived.Test.YtieojgblamkgoaaGreatDoorG93041aaa
import Derived.Deep.AppendLies
import Derived.Deep.RegionLaw
import Derived.Test.YtieojgblamkgoaaGreatDoorGdcdbba51
namespace Go.Proofs.YtieojgblamkgoaaGreatDoor
open Go.RowKit

theorem frozen_all_row {w w' : World} {g : Nat} {cs cs' : Array Value} {e e' : TypeId} (h : w.heap[g]? = some (.cells cs e (0, 0))) (h' : w'.heap[g]? = some (.cells cs' e' (0, 0))) (ho : ∀ k, k ≠ g → w'.heap[k]? = w.heap[k]?) (a : Addr) : w'.frozen? a = w.frozen? a := by
  by_cases hb : a.block = g
  · unfold World.frozen?
    rw [hb, h, h']
  · exact World.frozen?_of_block (ho _ hb)

theorem run_app_q {P : Program} (w w0 : World) (q0 : Q w0 w) (t ty : TypeId) (e : TypeId) (i : TypeInfo) (z : Value) (size bytes : Nat) (ht : P.underlying t = some (.slice e)) (hi : P.info? e = some i) (hz : i.zero = some z)
    (hsize : i.size = size) (hby : i.bytes = bytes) (hzs : z.cells.size = size) (hsz : 0 < size)
    (v : Value) (n : Nat) (xs : List Value) (hown : w.ownsRow w0.heap.size e size v n xs)
    (ad : Addr) (m c : Nat) (news : List Value) (hl : news.length = m * size) (hnews : ∀ j u, news[j]? = some u → w.cell? (ad.add j) = some u) (h1 : ∀ u ∈ news, u.oneCell' = true)
    (hm : 0 < m) (h63 : n + m ≤ maxLen) (hbytes : (n + m) * bytes ≤ 140737488355328) :
    ∃ g cap w', (Builtin.append_ #[t, t] ty #[v, .slice (some ad) m c]).run P w = .ok (.slice (some ⟨g, 0, none⟩) (n + m) cap) w' ∧
      w'.ownsRow w0.heap.size e size (.slice (some ⟨g, 0, none⟩) (n + m) cap) (n + m) (xs ++ news) ∧ Q w0 w' := by
  obtain ⟨g, cap, w', hr, h2, h3, h4, h5⟩ := run_append_lies (P := P) w t ty w0.heap.size e i z size bytes ht hi hz hsize hby hzs hsz v n xs hown ad m c news hl hnews h1 hm h63 hbytes q0.1.size _ rfl
  refine ⟨g, cap, w', hr, h2, ⟨⟨h3.os.trans q0.1.os, h3.tape.trans q0.1.tape, h3.output.trans q0.1.output, Nat.le_trans q0.1.size h3.size, fun k hk => ?_⟩, fun a => ?_⟩⟩
  · have hk2 : k < w.heap.size := Nat.lt_of_lt_of_le hk q0.1.size
    refine (h3.block k hk2 ?_).trans (q0.1.block k hk)
    intro hh
    rcases hown.2 with ⟨rfl, _⟩ | ⟨g', cap', cur, rfl, hb, _⟩
    · exact absurd hh (by simp [Value.ownBlock])
    · simp [Value.ownBlock] at hh
      omega
  · refine Eq.trans ?_ (q0.2 a)
    subst hsize
    have hsmall : n + m ≤ 9223372036854775807 := by simp only [maxLen] at h63; omega
    have hlt : n + m ≤ 9223372036854775807 := hsmall
    rcases hown.2 with ⟨rfl, rfl⟩ | ⟨g', cap', cur, rfl, hb, hg, hnc, hcm, hcs, htake⟩
    · have hr2 := run_append_nil (P := P) w t ty e i z ht hi hz ad m c news hl hnews (by omega) (by omega) (by rw [hby]; have hb := hbytes; simp only [Nat.zero_add] at hb; omega)
      rw [hr2] at hr
      injection hr with _ hr
      rw [← hr]
      exact frozen?_alloc_cells _ _ _ a
    · by_cases hroom : n + m ≤ cap'
      · have hfit : n * i.size + news.length ≤ cur.size := by rw [hl, hcs, ← Nat.add_mul]; exact Nat.mul_le_mul_right _ hroom
        have hr2 := run_append_room (P := P) w t ty e i ht hi g' n cap' cur hg ad m c news hl hnews h1 hroom hfit
        rw [hr2] at hr
        injection hr with _ hr
        rw [← hr]
        exact frozen_all_row hg (setRow_heap w g' cur _ e _ hg) (fun k hk => setRow_other w g' k _ (fun e => hk e)) a
      · have holds : ∀ j u, xs[j]? = some u → w.cell? ((⟨g', 0, none⟩ : Addr).add j) = some u := by
          intro j u hu
          rw [show (⟨g', 0, none⟩ : Addr).add j = ⟨g', j, none⟩ by unfold Addr.add; split <;> simp_all, cell_of_row _ _ j cur e (0, 0) hg]
          rw [← htake] at hu
          have hj : j < n * i.size := by
            have := (List.getElem?_eq_some_iff.1 hu).1
            simp at this; omega
          rw [List.getElem?_take, if_pos hj] at hu
          simpa using hu
        have hr2 := run_append_grow (P := P) w t ty e i z ht hi hz ⟨g', 0, none⟩ n cap' xs hown.1 holds ad m c news hl hnews (by omega) (by omega) (growslice_fits (by omega) (by rw [hby]; exact hbytes))
        rw [hr2] at hr
        injection hr with _ hr
        rw [← hr]
        exact frozen?_alloc_cells _ _ _ a

/-- At a step of a region that draws its order. -/
theorem step_app_q {P : Program} (w w0 : World) (q0 : Q w0 w) {ops : Array Oper} {o : Oper} {a : Act} {K : Act → World → Prop} {R : Exit → Act → World → Prop} {E : Prop} (hgd : o.guard = none) (s x : Operand) (t : TypeId)
    (ho : o.op = .call { callee := .builtin .append, args := #[s, x], argTypes := #[t, t] })
    (e : TypeId) (i : TypeInfo) (z : Value) (size bytes : Nat) (ht : P.underlying t = some (.slice e)) (hi : P.info? e = some i) (hz : i.zero = some z)
    (hsize : i.size = size) (hby : i.bytes = bytes) (hzs : z.cells.size = size) (hsz : 0 < size)
    (v : Value) (n : Nat) (xs : List Value) (hs : a.eval s = v) (hown : w.ownsRow w0.heap.size e size v n xs)
    (ad : Addr) (m c : Nat) (news : List Value) (hx : a.eval x = .slice (some ad) m c) (hl : news.length = m * size) (hnews : ∀ j u, news[j]? = some u → w.cell? (ad.add j) = some u) (h1 : ∀ u ∈ news, u.oneCell' = true)
    (hm : 0 < m) (h63 : n + m ≤ maxLen) (hbytes : (n + m) * bytes ≤ 140737488355328)
    (h : ∀ g cap w', w'.ownsRow w0.heap.size e size (.slice (some ⟨g, 0, none⟩) (n + m) cap) (n + m) (xs ++ news) → Q w0 w' → K (a.put o.dst (.slice (some ⟨g, 0, none⟩) (n + m) cap)) w') :
    if Region.wanted o (yielded ops a.tmps) = true then Oper.wp P o a w K R else E := by
  have hw : Region.wanted o (yielded ops a.tmps) = true := by simp [Region.wanted, hgd]
  rw [if_pos hw]
  obtain ⟨g, cap, w', hr, h2, h3⟩ := run_app_q (P := P) w w0 q0 t o.type e i z size bytes ht hi hz hsize hby hzs hsz v n xs hown ad m c news hl hnews h1 hm h63 hbytes
  unfold Oper.wp execOp
  simp only [ho, resolve, invoke, builtin, Sem.run_bind, Sem.run_pure, Result.andThen_ok, List.map_toArray, List.map_cons, List.map_nil, hs, hx, hr]
  exact h g cap w' h2 h3
end Go.Proofs.YtieojgblamkgoaaGreatDoor
/- Lists that are lent, with room behind them that is marked. -/
namespace Go.Proofs.YtieojgblamkgoaaGreatDoor
open Go.RowKit
set_option linter.unusedVariables false
set_option linter.unusedSimpArgs false

structure Lent (w : World) (g : Nat) (S : List Nat) : Prop where
  s : ∀ i, i < S.length → w.cell? ⟨g, i, none⟩ = some (.int .u32 (S.getD i 0 : Nat))
  a : w.cell? ⟨g, S.length, none⟩ = some (.int .u32 2882338817)
  b : w.cell? ⟨g, S.length + 1, none⟩ = some (.int .u32 2882338818)
  l : g < w.heap.size
theorem Lent.next {w w' : World} {g : Nat} {S : List Nat} (h : Lent w g S) (q : Q w w') : Lent w' g S :=
  ⟨fun i hi => q.cell (h.s i hi), q.cell h.a, q.cell h.b, Nat.lt_of_lt_of_le h.l q.1.size⟩
def lentV (g : Nat) (S : List Nat) : Value := .slice (some ⟨g, 0, none⟩) S.length (S.length + 2)
theorem Lent.usl {w : World} {g : Nat} {S : List Nat} (h : Lent w g S) : USl w (lentV g S) S :=
  Or.inl ⟨g, 0, S.length + 2, rfl, by omega, fun i hi => by rw [Nat.zero_add]; exact h.s i hi⟩
theorem Lent.put {w x : World} {g n : Nat} {u v u' v' : Value} (ha : x.cell? ⟨g, n, none⟩ = some u) (hb : x.cell? ⟨g, n + 1, none⟩ = some v) : ((x.setCell ⟨g, n, none⟩ u').setCell ⟨g, n + 1, none⟩ v').cell? ⟨g, n, none⟩ = some u' ∧ ((x.setCell ⟨g, n, none⟩ u').setCell ⟨g, n + 1, none⟩ v').cell? ⟨g, n + 1, none⟩ = some v' ∧ ∀ i, i < n → ((x.setCell ⟨g, n, none⟩ u').setCell ⟨g, n + 1, none⟩ v').cell? ⟨g, i, none⟩ = x.cell? ⟨g, i, none⟩ := by
  have h1 : (x.setCell ⟨g, n, none⟩ u').cell? ⟨g, n + 1, none⟩ = some v := by rw [World.cell?_setCell_other _ _ _ _ (fun e => by injection e with _ e; omega)]; exact hb
  refine ⟨?_, World.cell?_setCell_same _ _ _ h1, fun i hi => ?_⟩
  · rw [World.cell?_setCell_other _ _ _ _ (fun e => by injection e with _ e; omega)]; exact World.cell?_setCell_same _ _ _ ha
  · rw [World.cell?_setCell_other _ _ _ _ (fun e => by injection e with _ e; omega), World.cell?_setCell_other _ _ _ _ (fun e => by injection e with _ e; omega)]
theorem run_app_none {P : Program} (w : World) (t ty e : TypeId) (i : TypeInfo) (ht : P.underlying t = some (.slice e)) (hi : P.info? e = some i) (g k : Nat) (a : Option Addr) (c : Nat) : (Builtin.append_ #[t, t] ty #[.slice (some ⟨g, 0, none⟩) 0 k, .slice a 0 c]).run P w = .ok (.slice (some ⟨g, 0, none⟩) 0 k) w := by
  cases a <;> simp [Builtin.append_, run_underlying ht, sizeOf, typeInfo, hi, Builtin.lenOf, Builtin.firstCells, loadCells, loadCellsFrom, storeCells]
theorem u32_info : ∃ i, Tryz.prog.info? 43 = some i ∧ i.size = 1 ∧ i.bytes = 4 ∧ i.zero = some (.int .u32 0) := info_of (by kernel_rfl) (by kernel_rfl)
theorem lent_make (n : Nat) (hn : n ≤ 1099511627776) (w : World) : (Instr.makeSlice 24 (.int .i64 0) (.int .i64 ((n + 2 : Nat) : Int))).run Tryz.prog w = .ok (.slice (some ⟨w.heap.size, 0, none⟩) 0 (n + 2)) (w.alloc (.cells (madeCells #[.int .u32 0] (n + 2)) 43)) := by
  obtain ⟨i, i1, i2, i3, i4⟩ := u32_info
  have := run_make (P := Tryz.prog) w 24 43 i _ Tryz.underlying24 i1 i4 .i64 .i64 0 ((n + 2 : Nat) : Int) (by omega) (by omega) (by rw [i3]; omega) (by omega)
  rw [i2] at this
  simp only [Int.toNat_natCast, Nat.mul_one] at this
  exact this
def newsU (S : List Nat) : List Value := S.map fun (x : Nat) => .int .u32 (x : Int)
theorem news_at {S : List Nat} {j : Nat} {u : Value} (h : (newsU S)[j]? = some u) : j < S.length ∧ u = .int .u32 ((S.getD j 0 : Nat) : Int) := by
  unfold newsU at h
  rw [List.getElem?_map] at h
  cases e : S[j]? with
  | none => rw [e] at h; cases h
  | some x =>
    rw [e] at h
    have hj : j < S.length := (List.getElem?_eq_some_iff.1 e).1
    refine ⟨hj, ?_⟩
    rw [List.getD_eq_getElem?_getD, e]
    exact (Option.some.inj h).symm
theorem made_at {n j : Nat} (h : j < n) : (madeCells #[Value.int .u32 0] n)[j]? = some (Value.int .u32 0) := by
  unfold madeCells
  simp [h, Nat.mod_one]
theorem made_size (n : Nat) : (madeCells #[Value.int .u32 0] n).size = n := by
  unfold madeCells
  simp
/-- Behind the append: the list, and room for two. -/
structure Rooms (w x : World) (S : List Nat) : Prop where
  q : Q w x
  s : ∀ i, i < S.length → x.cell? ⟨w.heap.size, i, none⟩ = some (.int .u32 (S.getD i 0 : Nat))
  a : x.cell? ⟨w.heap.size, S.length, none⟩ = some (.int .u32 0)
  b : x.cell? ⟨w.heap.size, S.length + 1, none⟩ = some (.int .u32 0)
  z : ∀ j, x.frozen? ⟨w.heap.size, j, none⟩ = false
  l : w.heap.size < x.heap.size
set_option maxRecDepth 100000 in
theorem lent_app (ty : TypeId) (S : List Nat) (w0 : World) (v : Value) (hv : USl w0 v S) :
    ∃ x : World, (Builtin.append_ #[24, 24] ty #[.slice (some ⟨w0.heap.size, 0, none⟩) 0 (S.length + 2), v]).run Tryz.prog (w0.alloc (.cells (madeCells #[.int .u32 0] (S.length + 2)) 43)) = .ok (.slice (some ⟨w0.heap.size, 0, none⟩) S.length (S.length + 2)) x ∧ Rooms w0 x S := by
  obtain ⟨i, i1, i2, i3, i4⟩ := u32_info
  have hb := heap_alloc_new w0 (.cells (madeCells #[.int .u32 0] (S.length + 2)) 43)
  have q0 : Q w0 (w0.alloc (.cells (madeCells #[.int .u32 0] (S.length + 2)) 43)) := (Q.refl w0).cells _ _
  have hsz : w0.heap.size < (w0.alloc (.cells (madeCells #[.int .u32 0] (S.length + 2)) 43)).heap.size := by simp [go_sem]
  generalize w0.alloc (.cells (madeCells #[.int .u32 0] (S.length + 2)) 43) = x0 at *
  by_cases h0 : S.length = 0
  · have hS : S = [] := List.eq_nil_of_length_eq_zero h0
    subst hS
    obtain ⟨a, c, rfl⟩ := hv.form
    refine ⟨_, run_app_none _ _ _ _ i Tryz.underlying24 i1 _ _ a c, q0, fun i hi => absurd hi (by simp), ?_, ?_, fun j => frozen_of_row _ _ _ _ _ hb, hsz⟩
    · rw [cell_of_row _ _ _ _ _ _ hb]; exact made_at (by simp)
    · rw [cell_of_row _ _ _ _ _ _ hb]; exact made_at (by simp)
  · obtain ⟨g, o, cap, rfl, hcap, hI⟩ := hv.some (by omega)
    have hl : (newsU S).length = S.length := by simp [newsU]
    have hr := run_append_room (P := Tryz.prog) x0 24 ty 43 i Tryz.underlying24 i1 w0.heap.size 0 (S.length + 2) _ hb ⟨g, o, none⟩ S.length cap (newsU S) (by rw [i2, hl, Nat.mul_one]) (fun j u hu => by
      obtain ⟨hj, rfl⟩ := news_at hu
      rw [show (⟨g, o, none⟩ : Addr).add j = ⟨g, o + j, none⟩ by unfold Addr.add; split <;> simp_all]
      exact q0.cell (hI j hj)) (fun u hu => by
      unfold newsU at hu
      obtain ⟨x, _, rfl⟩ := List.mem_map.1 hu
      rfl) (by omega) (by rw [made_size, hl]; omega)
    rw [Nat.zero_add] at hr
    refine ⟨_, hr, ?_⟩
    simp only [Nat.zero_mul, List.take_zero, List.nil_append, Nat.zero_add, hl]
    have hn := setRow_heap x0 w0.heap.size _ (newsU S ++ (madeCells #[Value.int .u32 0] (S.length + 2)).toList.drop S.length).toArray 43 (0, 0) hb
    refine ⟨⟨⟨q0.1.os, q0.1.tape, q0.1.output, ?_, fun k hk => ?_⟩, fun a => ?_⟩, fun j hj => ?_, ?_, ?_, fun j => frozen_of_row _ _ _ _ _ hn, ?_⟩
    · rw [setRow_size]; exact q0.1.size
    · rw [setRow_other _ _ _ _ (by omega)]; exact q0.1.block k hk
    · exact (frozen_all_row hb hn (fun k hk => setRow_other _ _ k _ hk) a).trans (q0.2 a)
    · rw [cell_of_row _ _ _ _ _ _ hn]
      have : (newsU S)[j]? = some (.int .u32 (S.getD j 0 : Nat)) := by
        unfold newsU
        rw [List.getElem?_map, List.getD_eq_getElem?_getD, List.getElem?_eq_getElem hj]
        rfl
      rw [List.getElem?_toArray, List.getElem?_append_left (by rw [hl]; exact hj), this]
    · rw [cell_of_row _ _ _ _ _ _ hn, List.getElem?_toArray, List.getElem?_append_right (by rw [hl]; omega), hl, List.getElem?_drop, Array.getElem?_toList]
      exact made_at (by omega)
    · rw [cell_of_row _ _ _ _ _ _ hn, List.getElem?_toArray, List.getElem?_append_right (by rw [hl]; omega), hl, List.getElem?_drop, Array.getElem?_toList]
      exact made_at (by omega)
    · rw [setRow_size]; exact hsz
theorem Rooms.marked {w x : World} {S : List Nat} (h : Rooms w x S) : Lent ((x.setCell ⟨w.heap.size, S.length, none⟩ (.int .u32 2882338817)).setCell ⟨w.heap.size, S.length + 1, none⟩ (.int .u32 2882338818)) w.heap.size S := by
  obtain ⟨h1, h2, h3⟩ := Lent.put (w := w) (u' := .int .u32 2882338817) (v' := .int .u32 2882338818) h.a h.b
  exact ⟨fun i hi => by rw [h3 i hi]; exact h.s i hi, h1, h2, by simpa [go_sem] using h.l⟩
theorem wpList_lent (w0 : World) {ops : Array Oper} {rest : List Oper} {o : Oper} {a : Act} {R : Exit → Act → World → Prop} (hgd : o.guard = none) (s x : Operand)
    (ho : o.op = .call { callee := .builtin .append, args := #[s, x], argTypes := #[24, 24] })
    (S : List Nat) (v : Value) (hs : a.eval s = .slice (some ⟨w0.heap.size, 0, none⟩) 0 (S.length + 2)) (hx : a.eval x = v) (hv : USl w0 v S)
    (h : ∀ x, Rooms w0 x S → wpList Tryz.prog ops R rest (a.put o.dst (.slice (some ⟨w0.heap.size, 0, none⟩) S.length (S.length + 2))) x) :
    wpList Tryz.prog ops R (o :: rest) a (w0.alloc (.cells (madeCells #[.int .u32 0] (S.length + 2)) 43)) := by
  obtain ⟨y, hr, hR⟩ := lent_app o.type S w0 v hv
  refine wpList_plain hgd fun _ hK => ?_
  unfold Oper.wp execOp
  simp only [ho, resolve, invoke, builtin, Sem.run_bind, Sem.run_pure, Result.andThen_ok, List.map_toArray, List.map_cons, List.map_nil, hs, hx, hr]
  exact hK _ _ (h y hR)
end Go.Proofs.YtieojgblamkgoaaGreatDoor

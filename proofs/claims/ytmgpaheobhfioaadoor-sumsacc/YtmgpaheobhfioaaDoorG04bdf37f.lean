/- Appending to a list of the call's own: what lies where, and that nothing else is touched. -/
import Derived.Test.YtmgpaheobhfioaaDoorG3bfe62d6
import Derived.Deep.AppendLies
import Derived.Deep.RegionLaw
import Derived.Test.YtmgpaheobhfioaaDoorG69c79473
namespace Go.Proofs.YtmgpaheobhfioaaDoor
open Go.RowKit

theorem frozen_all_row {w w' : World} {g : Nat} {cs cs' : Array Value} {e e' : TypeId} (h : w.heap[g]? = some (.cells cs e (0, 0))) (h' : w'.heap[g]? = some (.cells cs' e' (0, 0))) (ho : ∀ k, k ≠ g → w'.heap[k]? = w.heap[k]?) (a : Addr) : w'.frozen? a = w.frozen? a := by
  by_cases hb : a.block = g
  · unfold World.frozen?
    rw [hb, h, h']
  · exact World.frozen?_of_block (ho _ hb)

end Go.Proofs.YtmgpaheobhfioaaDoor
/- Lists that are lent, with room behind them that is marked. -/
namespace Go.Proofs.YtmgpaheobhfioaaDoor
open Go.RowKit
set_option linter.unusedVariables false
set_option linter.unusedSimpArgs false

structure Lent (w : World) (g : Nat) (S : List Nat) : Prop where
  s : ∀ i, i < S.length → w.cell? ⟨g, i, none⟩ = some (.int .u32 (S.getD i 0 : Nat))
  a : w.cell? ⟨g, S.length, none⟩ = some (.int .u32 2882338817)
  b : w.cell? ⟨g, S.length + 1, none⟩ = some (.int .u32 2882338818)
  l : g < w.heap.size
def lentV (g : Nat) (S : List Nat) : Value := .slice (some ⟨g, 0, none⟩) S.length (S.length + 2)
theorem Lent.usl {w : World} {g : Nat} {S : List Nat} (h : Lent w g S) : USl w (lentV g S) S :=
  Or.inl ⟨g, 0, S.length + 2, rfl, by omega, fun i hi => by rw [Nat.zero_add]; exact h.s i hi⟩
theorem Lent.put {w x : World} {g n : Nat} {u v u' v' : Value} (ha : x.cell? ⟨g, n, none⟩ = some u) (hb : x.cell? ⟨g, n + 1, none⟩ = some v) : ((x.setCell ⟨g, n, none⟩ u').setCell ⟨g, n + 1, none⟩ v').cell? ⟨g, n, none⟩ = some u' ∧ ((x.setCell ⟨g, n, none⟩ u').setCell ⟨g, n + 1, none⟩ v').cell? ⟨g, n + 1, none⟩ = some v' ∧ ∀ i, i < n → ((x.setCell ⟨g, n, none⟩ u').setCell ⟨g, n + 1, none⟩ v').cell? ⟨g, i, none⟩ = x.cell? ⟨g, i, none⟩ := by
  have h1 : (x.setCell ⟨g, n, none⟩ u').cell? ⟨g, n + 1, none⟩ = some v := by rw [World.cell?_setCell_other _ _ _ _ (fun e => by injection e with _ e; omega)]; exact hb
  refine ⟨?_, World.cell?_setCell_same _ _ _ h1, fun i hi => ?_⟩
  · rw [World.cell?_setCell_other _ _ _ _ (fun e => by injection e with _ e; omega)]; exact World.cell?_setCell_same _ _ _ ha
  · rw [World.cell?_setCell_other _ _ _ _ (fun e => by injection e with _ e; omega), World.cell?_setCell_other _ _ _ _ (fun e => by injection e with _ e; omega)]
theorem run_app_none {P : Program} (w : World) (t ty e : TypeId) (i : TypeInfo) (ht : P.underlying t = some (.slice e)) (hi : P.info? e = some i) (g k : Nat) (a : Option Addr) (c : Nat) : (Builtin.append_ #[t, t] ty #[.slice (some ⟨g, 0, none⟩) 0 k, .slice a 0 c]).run P w = .ok (.slice (some ⟨g, 0, none⟩) 0 k) w := by
  cases a <;> simp [Builtin.append_, run_underlying ht, sizeOf, typeInfo, hi, Builtin.lenOf, Builtin.firstCells, loadCells, loadCellsFrom, storeCells]
theorem u32_info : ∃ i, Tryd.prog.info? 36 = some i ∧ i.size = 1 ∧ i.bytes = 4 ∧ i.zero = some (.int .u32 0) := info_of (by kernel_rfl) (by kernel_rfl)
theorem lent_make (n : Nat) (hn : n ≤ 1099511627776) (w : World) : (Instr.makeSlice 29 (.int .i64 0) (.int .i64 ((n + 2 : Nat) : Int))).run Tryd.prog w = .ok (.slice (some ⟨w.heap.size, 0, none⟩) 0 (n + 2)) (w.alloc (.cells (madeCells #[.int .u32 0] (n + 2)) 36)) := by
  obtain ⟨i, i1, i2, i3, i4⟩ := u32_info
  have := run_make (P := Tryd.prog) w 29 36 i _ Tryd.underlying29 i1 i4 .i64 .i64 0 ((n + 2 : Nat) : Int) (by omega) (by omega) (by rw [i3]; omega) (by omega)
  rw [i2] at this
  simp only [Int.toNat_natCast, Nat.mul_one] at this
  exact this
def newsU (S : List Nat) : List Value := S.map fun (x : Nat) => .int .u32 (x : Int)
theorem news_at {S : List Nat} {j : Nat} {u : Value} (h : (newsU S)[j]? = some u) : j < S.length ∧ u = .int .u32 ((S.getD j 0 : Nat) : Int) := by
  unfold newsU at h
  rw [List.getElem?_map] at h
  cases e : S[j]? with
  | none => rw [e] at h; cases h
  | some x =>
    rw [e] at h
    have hj : j < S.length := (List.getElem?_eq_some_iff.1 e).1
    refine ⟨hj, ?_⟩
    rw [List.getD_eq_getElem?_getD, e]
    exact (Option.some.inj h).symm
theorem made_at {n j : Nat} (h : j < n) : (madeCells #[Value.int .u32 0] n)[j]? = some (Value.int .u32 0) := by
  unfold madeCells
  simp [h, Nat.mod_one]
theorem made_size (n : Nat) : (madeCells #[Value.int .u32 0] n).size = n := by
  unfold madeCells
  simp
/-- Behind the append: the list, and room for two. -/
structure Rooms (w x : World) (S : List Nat) : Prop where
  q : Q w x
  s : ∀ i, i < S.length → x.cell? ⟨w.heap.size, i, none⟩ = some (.int .u32 (S.getD i 0 : Nat))
  a : x.cell? ⟨w.heap.size, S.length, none⟩ = some (.int .u32 0)
  b : x.cell? ⟨w.heap.size, S.length + 1, none⟩ = some (.int .u32 0)
  z : ∀ j, x.frozen? ⟨w.heap.size, j, none⟩ = false
  l : w.heap.size < x.heap.size
set_option maxRecDepth 100000 in
theorem lent_app (ty : TypeId) (S : List Nat) (w0 : World) (v : Value) (hv : USl w0 v S) :
    ∃ x : World, (Builtin.append_ #[29, 29] ty #[.slice (some ⟨w0.heap.size, 0, none⟩) 0 (S.length + 2), v]).run Tryd.prog (w0.alloc (.cells (madeCells #[.int .u32 0] (S.length + 2)) 36)) = .ok (.slice (some ⟨w0.heap.size, 0, none⟩) S.length (S.length + 2)) x ∧ Rooms w0 x S := by
  obtain ⟨i, i1, i2, i3, i4⟩ := u32_info
  have hb := heap_alloc_new w0 (.cells (madeCells #[.int .u32 0] (S.length + 2)) 36)
  have q0 : Q w0 (w0.alloc (.cells (madeCells #[.int .u32 0] (S.length + 2)) 36)) := (Q.refl w0).cells _ _
  have hsz : w0.heap.size < (w0.alloc (.cells (madeCells #[.int .u32 0] (S.length + 2)) 36)).heap.size := by simp [go_sem]
  generalize w0.alloc (.cells (madeCells #[.int .u32 0] (S.length + 2)) 36) = x0 at *
  by_cases h0 : S.length = 0
  · have hS : S = [] := List.eq_nil_of_length_eq_zero h0
    subst hS
    obtain ⟨a, c, rfl⟩ := hv.form
    refine ⟨_, run_app_none _ _ _ _ i Tryd.underlying29 i1 _ _ a c, q0, fun i hi => absurd hi (by simp), ?_, ?_, fun j => frozen_of_row _ _ _ _ _ hb, hsz⟩
    · rw [cell_of_row _ _ _ _ _ _ hb]; exact made_at (by simp)
    · rw [cell_of_row _ _ _ _ _ _ hb]; exact made_at (by simp)
  · obtain ⟨g, o, cap, rfl, hcap, hI⟩ := hv.some (by omega)
    have hl : (newsU S).length = S.length := by simp [newsU]
    have hr := run_append_room (P := Tryd.prog) x0 29 ty 36 i Tryd.underlying29 i1 w0.heap.size 0 (S.length + 2) _ hb ⟨g, o, none⟩ S.length cap (newsU S) (by rw [i2, hl, Nat.mul_one]) (fun j u hu => by
      obtain ⟨hj, rfl⟩ := news_at hu
      rw [show (⟨g, o, none⟩ : Addr).add j = ⟨g, o + j, none⟩ by unfold Addr.add; split <;> simp_all]
      exact q0.cell (hI j hj)) (fun u hu => by
      unfold newsU at hu
      obtain ⟨x, _, rfl⟩ := List.mem_map.1 hu
      rfl) (by omega) (by rw [made_size, hl]; omega)
    rw [Nat.zero_add] at hr
    refine ⟨_, hr, ?_⟩
    simp only [Nat.zero_mul, List.take_zero, List.nil_append, Nat.zero_add, hl]
    have hn := setRow_heap x0 w0.heap.size _ (newsU S ++ (madeCells #[Value.int .u32 0] (S.length + 2)).toList.drop S.length).toArray 36 (0, 0) hb
    refine ⟨⟨⟨q0.1.os, q0.1.tape, q0.1.output, ?_, fun k hk => ?_⟩, fun a => ?_⟩, fun j hj => ?_, ?_, ?_, fun j => frozen_of_row _ _ _ _ _ hn, ?_⟩
    · rw [setRow_size]; exact q0.1.size
    · rw [setRow_other _ _ _ _ (by omega)]; exact q0.1.block k hk
    · exact (frozen_all_row hb hn (fun k hk => setRow_other _ _ k _ hk) a).trans (q0.2 a)
    · rw [cell_of_row _ _ _ _ _ _ hn]
      have : (newsU S)[j]? = some (.int .u32 (S.getD j 0 : Nat)) := by
        unfold newsU
        rw [List.getElem?_map, List.getD_eq_getElem?_getD, List.getElem?_eq_getElem hj]
        rfl
      rw [List.getElem?_toArray, List.getElem?_append_left (by rw [hl]; exact hj), this]
    · rw [cell_of_row _ _ _ _ _ _ hn, List.getElem?_toArray, List.getElem?_append_right (by rw [hl]; omega), hl, List.getElem?_drop, Array.getElem?_toList]
      exact made_at (by omega)
    · rw [cell_of_row _ _ _ _ _ _ hn, List.getElem?_toArray, List.getElem?_append_right (by rw [hl]; omega), hl, List.getElem?_drop, Array.getElem?_toList]
      exact made_at (by omega)
    · rw [setRow_size]; exact hsz
theorem Rooms.marked {w x : World} {S : List Nat} (h : Rooms w x S) : Lent ((x.setCell ⟨w.heap.size, S.length, none⟩ (.int .u32 2882338817)).setCell ⟨w.heap.size, S.length + 1, none⟩ (.int .u32 2882338818)) w.heap.size S := by
  obtain ⟨h1, h2, h3⟩ := Lent.put (w := w) (u' := .int .u32 2882338817) (v' := .int .u32 2882338818) h.a h.b
  exact ⟨fun i hi => by rw [h3 i hi]; exact h.s i hi, h1, h2, by simpa [go_sem] using h.l⟩
theorem wpList_lent (w0 : World) {ops : Array Oper} {rest : List Oper} {o : Oper} {a : Act} {R : Exit → Act → World → Prop} (hgd : o.guard = none) (s x : Operand)
    (ho : o.op = .call { callee := .builtin .append, args := #[s, x], argTypes := #[29, 29] })
    (S : List Nat) (v : Value) (hs : a.eval s = .slice (some ⟨w0.heap.size, 0, none⟩) 0 (S.length + 2)) (hx : a.eval x = v) (hv : USl w0 v S)
    (h : ∀ x, Rooms w0 x S → wpList Tryd.prog ops R rest (a.put o.dst (.slice (some ⟨w0.heap.size, 0, none⟩) S.length (S.length + 2))) x) :
    wpList Tryd.prog ops R (o :: rest) a (w0.alloc (.cells (madeCells #[.int .u32 0] (S.length + 2)) 36)) := by
  obtain ⟨y, hr, hR⟩ := lent_app o.type S w0 v hv
  refine wpList_plain hgd fun _ hK => ?_
  unfold Oper.wp execOp
  simp only [ho, resolve, invoke, builtin, Sem.run_bind, Sem.run_pure, Result.andThen_ok, List.map_toArray, List.map_cons, List.map_nil, hs, hx, hr]
  exact hK _ _ (h y hR)
set_option maxHeartbeats 2000000 in
set_option maxRecDepth 100000 in
theorem lent_any (v : Value) (S : List Nat) (w : World) (hv : USl w v S) (hn : S.length ≤ 1099511627776) : Calls Tryd.prog 9 #[v] w fun e w' => e = .returned (lentV w.heap.size S) ∧ Lent w' w.heap.size S ∧ Q w w' := by
  obtain ⟨a, c, rfl⟩ := hv.form
  have l1 : (Instr.makeSlice 29 (.int .i64 0) (.int .i64 ((S.length : Int) + 2))).run Tryd.prog w = .ok (.slice (some ⟨w.heap.size, 0, none⟩) 0 (S.length + 2)) (w.alloc (.cells (madeCells #[.int .u32 0] (S.length + 2)) 36)) := lent_make S.length hn w
  have HV : Hid (USl w (.slice a S.length c) S) := hv
  unfold lentV
  clear hv
  go_enter Tryd.func9, Tryd.ntmps9
  go_wp2_with (at_builtin; go_must (refine wpList_lent w rfl (.tmp 8) (.tmp 9) rfl S (.slice a S.length c) (by simp [Act.eval, Act.put]) (by simp [Act.eval, Act.put]) HV.out ?_; intro x hR; have a0 := hR.a; have b0 := hR.b; have z := hR.z; have HR : Hid (Rooms w x S) := hR; clear hR))
  go_ret
  exact ⟨rfl, HR.out.marked, (HR.out.q.set (Nat.le_refl _) _).set (Nat.le_refl _) _⟩
set_option maxHeartbeats 4000000 in
set_option maxRecDepth 100000 in
theorem stays_any (g : Nat) (v : Value) (S : List Nat) (w : World) (hL : Lent w g S) (hv : USl w v S) (hn : S.length ≤ 1099511627776) : Calls Tryd.prog 11 #[lentV g S, v] w fun e w' => e = .returned (.bool true) ∧ Q w w' := by
  obtain ⟨a, c, rfl⟩ := hv.form
  have HV : Hid (USl w (.slice a S.length c) S) := hv
  have HL : Hid (Lent w g S) := hL
  have ma := hL.a
  have mb := hL.b
  unfold lentV
  clear hv hL
  go_enter Tryd.func11, Tryd.ntmps11
  go_wp2_with fail
  go_loopg [5] (S.length) (fun gh s5 wr => ∃ i : Nat, s5 = .int .i64 (i : Int) ∧ i ≤ S.length ∧ gh = S.length - i ∧ Hid (Q w wr))
  case atStart => exact ⟨0, rfl, by omega, rfl, Q.refl _⟩
  case round =>
    obtain ⟨i, rfl, hi, rfl, HQ⟩ := hrel
    by_cases hlt : i < S.length
    · obtain ⟨g2, o, cap', hsl, hcap, hI⟩ := HV.out.some (by omega)
      injection hsl with hs1 hs2 hs3
      subst hs1 hs3
      clear hs2
      have c1 := HQ.out.cell (HL.out.s i hlt)
      have c2 := HQ.out.cell (hI i hlt)
      generalize S.getD i 0 = x at *
      have d1 := qw_cell c1
      have d2 := qw_cell c2
      have n0 := qw_some wr
      clear hI
      go_wp2_with fail
      refine wp_region_quiet_Q (by kernel_rfl) (by kernel_rfl) ?_
      repeat (first | go_big_quiet_step (fail) | quiet_step (fail))
      refine wpQuiet_nil ?_
      intro w4 hw'
      have HQ4 : Hid (Q w w4) := HQ.out.trans (qw_out hw')
      clear hw' n0 d1 d2
      go_wp2_with fail
      go_roundg (S.length - (i + 1))
      case measure => go_light; omega
      case rel => go_light; exact ⟨i + 1, by simp, by omega, rfl, HQ4⟩
    · obtain rfl : i = S.length := by omega
      have hge : ¬ (S.length : Int) < (S.length : Int) := by omega
      have ma' := HQ.out.cell ma
      have mb' := HQ.out.cell mb
      clear ma mb
      go_wp2_with fail
      go_ret
      exact ⟨rfl, HQ.out⟩
end Go.Proofs.YtmgpaheobhfioaaDoor

/- Appending to a list without room: what lies where. -/
import Derived.Test.YtieojgblamkgoaaGreatDoorG83dbb1e2
import Derived.Laws.Append
import Derived.Laws.AppendOwn
import Derived.OwnWalk
import Derived.Test.YtieojgblamkgoaaGreatDoorGb82cbb4e
import Derived.Test.YtieojgblamkgoaaGreatDoorG8514ac10
import Derived.Test.YtieojgblamkgoaaGreatDoorG829ae80f
import Derived.Test.YtieojgblamkgoaaGreatDoorG6bc7e889
import Derived.Test.YtieojgblamkgoaaGreatDoorGc72c0315
import Derived.Test.YtieojgblamkgoaaGreatDoorG5da8ac6f
import Derived.Test.YtieojgblamkgoaaGreatDoorG6b52728e
import Derived.Test.YtieojgblamkgoaaGreatDoorG48ed55a6
import Derived.Test.YtieojgblamkgoaaGreatDoorG678be151
import Derived.Test.YtieojgblamkgoaaGreatDoorGc1d968df
namespace Go.Proofs.YtieojgblamkgoaaGreatDoor
open Go.RowKit

end Go.Proofs.YtieojgblamkgoaaGreatDoor
/- Appending samples: a copy of a list; one more sample behind a list of the call's own. -/
namespace Go.Proofs.YtieojgblamkgoaaGreatDoor
open Go.RowKit
set_option linter.unusedVariables false
set_option linter.unusedSimpArgs false

def newsR (S : List Nat) : List Value := S.map fun (x : Nat) => .int .u32 (x : Int)
theorem newsR_at {S : List Nat} {j : Nat} {u : Value} (h : (newsR S)[j]? = some u) : j < S.length ∧ u = .int .u32 ((S.getD j 0 : Nat) : Int) := by
  unfold newsR at h
  rw [List.getElem?_map] at h
  cases hj : S[j]? with
  | none => rw [hj] at h; cases h
  | some x =>
    rw [hj] at h
    simp only [Option.map_some, Option.some.injEq] at h
    refine ⟨(List.getElem?_eq_some_iff.1 hj).1, ?_⟩
    rw [List.getD_eq_getElem?_getD, hj, ← h]; rfl
theorem run_app_zeroR {P : Program} (w : World) (t ty e : TypeId) (i : TypeInfo) (ht : P.underlying t = some (.slice e)) (hi : P.info? e = some i) (a : Option Addr) (c : Nat) : (Builtin.append_ #[t, t] ty #[.slice none 0 0, .slice a 0 c]).run P w = .ok (.slice none 0 0) w := by
  cases a <;> simp [Builtin.append_, run_underlying ht, sizeOf, typeInfo, hi, Builtin.lenOf, Builtin.firstCells, loadCells, loadCellsFrom, storeCells]
/-- A list of the call's own, to which samples are appended. -/
def OwnR (w0 w : World) (v : Value) (L : List Nat) : Prop := w.ownsRow w0.heap.size 43 1 v L.length (newsR L) ∧ Q w0 w
theorem OwnR.start (w0 w : World) (q : Q w0 w) : OwnR w0 w (.slice none 0 0) [] := ⟨⟨rfl, Or.inl ⟨rfl, rfl⟩⟩, q⟩
theorem OwnR.next {w0 w w' : World} {v : Value} {L : List Nat} (h : OwnR w0 w v L) (q : Q w w') : OwnR w0 w' v L := by
  obtain ⟨⟨h1, h2⟩, hq⟩ := h
  refine ⟨⟨h1, ?_⟩, hq.trans q⟩
  rcases h2 with h2 | ⟨g, cap, cur, rfl, hb, hg, rest⟩
  · exact Or.inl h2
  · exact Or.inr ⟨g, cap, cur, rfl, hb, (q.1.block g (Array.getElem?_eq_some_iff.1 hg).1).trans hg, rest⟩
theorem OwnR.usl {w0 w : World} {v : Value} {L : List Nat} (h : OwnR w0 w v L) : USl w v L := by
  obtain ⟨⟨_, ⟨rfl, h0⟩ | ⟨g, cap, cur, rfl, _, hh, hc, _, hsz, ht⟩⟩, _⟩ := h
  · exact Or.inr ⟨_, _, rfl, List.eq_nil_of_length_eq_zero h0⟩
  · refine Or.inl ⟨g, 0, cap, rfl, hc, fun i hi => ?_⟩
    have hg : cur.toList[i]? = some (.int .u32 ((L.getD i 0 : Nat) : Int)) := by
      have e : (cur.toList.take (L.length * 1))[i]? = (newsR L)[i]? := by rw [ht]
      rw [List.getElem?_take, if_pos (by omega)] at e
      rw [e]
      unfold newsR
      rw [List.getElem?_map, List.getElem?_eq_getElem hi, List.getD_eq_getElem?_getD, List.getElem?_eq_getElem hi]
      rfl
    unfold World.cell?
    simp only [hh, Nat.zero_add]
    rw [Array.getElem?_toList] at hg
    exact hg
theorem wpList_addR (w w0 : World) {ops : Array Oper} {rest : List Oper} {o : Oper} {a : Act} {R : Exit → Act → World → Prop} (hgd : o.guard = none) (s x : Operand)
    (ho : o.op = .call { callee := .builtin .append, args := #[s, x], argTypes := #[24, 24] })
    (v : Value) (L : List Nat) (hs : a.eval s = v) (hown : OwnR w0 w v L)
    (g0 : Nat) (u : Nat) (hx : a.eval x = .slice (some ⟨g0, 0, none⟩) 1 1) (hu : w.cell? ⟨g0, 0, none⟩ = some (.int .u32 (u : Int))) (h63 : L.length + 1 ≤ 100000)
    (h : ∀ v' w', OwnR w0 w' v' (L ++ [u]) → wpList Tryz.prog ops R rest (a.put o.dst v') w') :
    wpList Tryz.prog ops R (o :: rest) a w := by
  obtain ⟨iu, i1, i2, i3, i4⟩ := u32Info
  refine wpList_plain hgd fun _ hK => ?_
  unfold Oper.wp execOp
  have hap : newsR (L ++ [u]) = newsR L ++ [.int .u32 (u : Int)] := by simp [newsR]
  obtain ⟨g, cap, w', hr, ho2, hq, hgb, hgg⟩ := run_app_qg (P := Tryz.prog) w w0 hown.2 24 o.type 43 iu _ 1 4 Tryz.underlying24 i1 i4 i2 i3 rfl (by decide) v L.length (newsR L) hown.1 ⟨g0, 0, none⟩ 1 1 [.int .u32 (u : Int)] rfl (fun j z hz => by
    cases j with
    | zero => cases hz; exact hu
    | succ j => cases hz) (fun z hz => by rw [List.mem_singleton.1 hz]; rfl) (by decide) (by unfold maxLen; omega) (by omega)
  simp only [ho, resolve, invoke, builtin, Sem.run_bind, Sem.run_pure, Result.andThen_ok, List.map_toArray, List.map_cons, List.map_nil, hs, hx, hr]
  rw [← hap] at ho2
  refine hK _ _ (h _ w' ⟨?_, hq⟩)
  rw [List.length_append]; exact ho2
end Go.Proofs.YtieojgblamkgoaaGreatDoor
/- stat: lists without NaNs, spans of lists, tallies. -/
namespace Go.Proofs.YtieojgblamkgoaaGreatDoor
open Go.RowKit
set_option linter.unusedVariables false
set_option linter.unusedSimpArgs false

theorem take_snocS {S : List Nat} {i : Nat} (h : i < S.length) : S.take (i + 1) = S.take i ++ [S.getD i 0] := by
  rw [List.getD_eq_getElem?_getD, List.getElem?_eq_getElem h, List.take_add_one, List.getElem?_eq_getElem h]
  rfl
theorem make_u0 (n : Nat) (hn : n ≤ 1048576) (w : World) : ∃ M : Array Value, (Instr.makeSlice 24 (.int .i64 0) (.int .i64 (n : Int))).run Tryz.prog w = .ok (.slice (some ⟨w.heap.size, 0, none⟩) 0 n) (w.alloc (.cells M 43)) ∧ OwnR w (w.alloc (.cells M 43)) (.slice (some ⟨w.heap.size, 0, none⟩) 0 n) [] := by
  obtain ⟨i, i1, i2, i3, i4⟩ := u32InfoV
  refine ⟨madeCells (Value.int .u32 0).cells (n * 1), ?_, ⟨rfl, Or.inr ⟨w.heap.size, n, _, rfl, Nat.le_refl _, heap_alloc_new w _, Nat.zero_le _, by unfold maxLen; omega, by rw [size_madeCells], by simp [newsR]⟩⟩, (Q.refl w).cells _ _⟩
  have := run_make (P := Tryz.prog) w 24 43 i _ Tryz.underlying24 i1 i4 .i64 .i64 0 n (by omega) (by omega) (by rw [i3]; omega) (by omega)
  rw [i2] at this
  simp only [Int.toNat_natCast] at this
  exact this
theorem numL_snoc (L : List Nat) (s : Nat) : numL (L ++ [s]) = numL L ++ cond (nanN s) [] [s] := by
  rw [numL_append]
  congr 1
  unfold numL
  rw [List.filter_cons]
  cases nanN s <;> rfl
theorem numL_len (L : List Nat) : (numL L).length ≤ L.length := by unfold numL; exact List.length_filter_le _ _
set_option maxHeartbeats 4000000 in
set_option maxRecDepth 100000 in
theorem wnan_any (v : Value) (S : List Nat) (w : World) (hv : USl w v S) (hb : ∀ i, S.getD i 0 < 4294967296) (hn : S.length ≤ 65536) :
    Calls Tryz.prog 67 #[v] w fun e w' => ∃ u, e = .returned u ∧ USl w' u (numL S) ∧ (∀ g o c, u = .slice (some ⟨g, o, none⟩) (numL S).length c → w.heap.size ≤ g) ∧ Q w w' := by
  obtain ⟨ad, cap, rfl⟩ := hv.form
  obtain ⟨M, hM, hO⟩ := make_u0 S.length (by omega) w
  have HV : Hid (USl w (.slice ad S.length cap) S) := hv
  have HB : Hid (∀ i, S.getD i 0 < 4294967296) := hb
  have HO : Hid (OwnR w (w.alloc (.cells M 43)) (.slice (some ⟨w.heap.size, 0, none⟩) 0 S.length) []) := hO
  have HE : Hid (S.take S.length = S) := List.take_of_length_le (Nat.le_refl _)
  clear hv hb hO
  go_enter Tryz.func67, Tryz.ntmps67
  go_wp2_with fail
  generalize w.alloc (.cells M 43) = w1 at *
  go_loopg [3, 11] (S.length) (fun gh s3 s11 wr => ∃ (u : Value) (i : Nat), u = s3 ∧ s11 = .int .i64 (i : Int) ∧ i ≤ S.length ∧ gh = S.length - i ∧ Hid (OwnR w wr u (numL (S.take i))))
  case atStart => exact ⟨_, 0, rfl, rfl, by omega, rfl, HO⟩
  case round =>
    obtain ⟨u, i, rfl, rfl, hi, rfl, HR⟩ := hrel
    by_cases hlt : i < S.length
    · obtain ⟨g, o, cap', hsl, hcap, hI⟩ := HV.out.some (by omega)
      injection hsl with hs1 hs2 hs3
      subst hs1 hs3
      clear hs2
      have hx := HB.out i
      have hc := HR.out.2.cell (hI i hlt)
      have HT : Hid (numL (S.take (i + 1)) = numL (S.take i) ++ cond (nanN (S.getD i 0)) [] [S.getD i 0]) := by
        show numL (S.take (i + 1)) = _
        rw [take_snocS hlt, numL_snoc]
      have hl1 : (numL (S.take i)).length + 1 ≤ 100000 := by
        have h1 := numL_len (S.take i)
        rw [List.length_take] at h1
        omega
      generalize S.getD i 0 = x at *
      generalize numL (S.take i) = l1 at *
      clear hI hcap
      cases hk : nanN x
      · rw [hk] at HT
        go_wp2_with fail
        refine (isnan_any x hx _).mono ?_
        rintro e w3 ⟨rfl, q3⟩
        have HR3 : Hid (OwnR w w3 u l1) := HR.out.next q3
        rw [hk]
        obtain ⟨w6, hw6⟩ : ∃ w6, w3.alloc (.cells #[.int .u32 (x : Int)] 43) = w6 := ⟨_, rfl⟩
        have o6 := HR3.out.next (show Q w3 w6 by rw [← hw6]; exact (Q.refl w3).cells _ _)
        have c6 : w6.cell? ⟨w3.heap.size, 0, none⟩ = some (.int .u32 (x : Int)) := by rw [← hw6]; simp [go_sem]
        have HO6 : Hid _ := And.intro o6 c6
        clear o6 c6
        clear HR HR3
        go_wp2_with (at_builtin; go_must (refine wpList_addR _ w rfl _ _ rfl u l1 rfl HO6.out.1 w3.heap.size x rfl HO6.out.2 (by omega) ?_))
        intro v' w7 ho7
        have HO7 : Hid (OwnR w w7 v' (numL (S.take (i + 1)))) := by
          show OwnR w w7 v' (numL (S.take (i + 1)))
          rw [HT.out]; exact ho7
        clear ho7 hw6 HO6
        go_wp2_with fail
        go_roundg (S.length - (i + 1))
        case measure => go_light; omega
        case rel => go_light; exact ⟨v', i + 1, rfl, by simp, by omega, rfl, HO7⟩
      · rw [hk] at HT
        go_wp2_with fail
        refine (isnan_any x hx _).mono ?_
        rintro e w3 ⟨rfl, q3⟩
        have hr3 := HR.out.next q3
        rw [show l1 = numL (S.take (i + 1)) by rw [HT.out, cond_true, List.append_nil]] at hr3
        have HR3 : Hid _ := hr3
        clear hr3
        rw [hk]
        go_wp2_with fail
        go_roundg (S.length - (i + 1))
        case measure => go_light; omega
        case rel => go_light; exact ⟨u, i + 1, rfl, by simp, by omega, rfl, HR3⟩
    · obtain rfl : i = S.length := by omega
      have hge : ¬ (S.length : Int) < (S.length : Int) := by omega
      go_wp2_with fail
      go_ret
      refine ⟨_, rfl, ?_, ?_, HR.out.2⟩
      · have := HR.out.usl
        rw [HE.out] at this
        exact this
      · intro g o c e
        subst e
        rcases HR.out.1.2 with ⟨e, _⟩ | ⟨g', c', cur, e, hg, _⟩
        · cases e
        · injection e with e
          injection e with e
          injection e with e
          omega
/-- The least and the greatest key of a list. -/
def lowA (L : List Nat) : Nat := L.foldl (fun m s => min m (keyN s)) 4294967295
def topA (L : List Nat) : Nat := L.foldl (fun m s => max m (keyN s)) 0
theorem lowK_A (L : List Nat) : lowK L = lowA (numL L) := rfl
theorem topK_A (L : List Nat) : topK L = topA (numL L) := rfl
theorem lowA_snoc (L : List Nat) (s : Nat) : lowA (L ++ [s]) = min (lowA L) (keyN s) := by unfold lowA; rw [List.foldl_append]; rfl
theorem topA_snoc (L : List Nat) (s : Nat) : topA (L ++ [s]) = max (topA L) (keyN s) := by unfold topA; rw [List.foldl_append]; rfl
set_option maxHeartbeats 4000000 in
set_option maxRecDepth 100000 in
theorem spanof_any (v : Value) (S : List Nat) (w : World) (hv : USl w v S) (hb : ∀ i, S.getD i 0 < 4294967296) (hn : S.length ≤ 65536) :
    Calls Tryz.prog 70 #[v] w fun e w' => e = .returned (spnV (lowA S) (topA S)) ∧ Q w w' := by
  obtain ⟨ad, cap, rfl⟩ := hv.form
  have HE : Hid (S.take S.length = S) := List.take_of_length_le (Nat.le_refl _)
  obtain ⟨w1, hw1⟩ : ∃ w1, w.alloc (.cells #[.int .u32 0, .int .u32 0] 74) = w1 := ⟨_, rfl⟩
  have q1 : Q w w1 := by rw [← hw1]; exact (Q.refl w).cells _ _
  have z0 : w1.cell? ⟨w.heap.size, 0, none⟩ = some (.int .u32 0) := by rw [← hw1]; simp [go_sem]
  have z1 : w1.cell? ⟨w.heap.size, 1, none⟩ = some (.int .u32 0) := by rw [← hw1]; simp [go_sem]
  have zf : ∀ j, w1.frozen? ⟨w.heap.size, j, none⟩ = false := fun j => by rw [← hw1]; simp [go_sem]
  have hs1 : w1.heap.size = w.heap.size + 1 := by rw [← hw1]; simp [go_sem]
  have HV : Hid (USl w1 (.slice ad S.length cap) S) := hv.next q1
  have HW : Hid (USl w (.slice ad S.length cap) S) := hv
  have HB : Hid (∀ i, S.getD i 0 < 4294967296) := hb
  clear hv hb
  go_enter Tryz.func70, Tryz.ntmps70
  go_wp2_with fail
  clear hw1
  refine (nospan_any _).mono ?_
  rintro e w2 ⟨rfl, q2⟩
  unfold spnV
  obtain ⟨w3, hw3⟩ : ∃ w3, w2.alloc (.cells #[.int .u32 0, .int .u32 0] 74) = w3 := ⟨_, rfl⟩
  have q3 : Q w2 w3 := by rw [← hw3]; exact (Q.refl w2).cells _ _
  have y0 : w3.cell? ⟨w2.heap.size, 0, none⟩ = some (.int .u32 0) := by rw [← hw3]; simp [go_sem]
  have y1 : w3.cell? ⟨w2.heap.size, 1, none⟩ = some (.int .u32 0) := by rw [← hw3]; simp [go_sem]
  have yf : ∀ j, w3.frozen? ⟨w2.heap.size, j, none⟩ = false := fun j => by rw [← hw3]; simp [go_sem]
  go_wp2_with fail
  obtain ⟨B, hB⟩ : ∃ B, w2.heap.size = B := ⟨_, rfl⟩
  obtain ⟨A, hA⟩ : ∃ A, w.heap.size = A := ⟨_, rfl⟩
  have hq2 := q2.1.size
  rw [hB] at y0 y1 yf ⊢
  rw [hA] at z0 z1 zf hs1 ⊢
  have hAB : A < B := by omega
  have HX : Hid (∀ wr, Q w wr → wr.cell? ⟨A, 0, none⟩ = some (.int .u32 0) → wr.cell? ⟨A, 1, none⟩ = some (.int .u32 0) → ∀ a b c d : Nat, wr.cell? ⟨B, 0, none⟩ = some (.int .u32 (a : Int)) → wr.cell? ⟨B, 1, none⟩ = some (.int .u32 (b : Int)) →
      let z := (wr.setCell ⟨B, 0, none⟩ (.int .u32 (c : Int))).setCell ⟨B, 1, none⟩ (.int .u32 (d : Int))
      Q w z ∧ z.cell? ⟨A, 0, none⟩ = some (.int .u32 0) ∧ z.cell? ⟨A, 1, none⟩ = some (.int .u32 0) ∧ z.cell? ⟨B, 0, none⟩ = some (.int .u32 (c : Int)) ∧ z.cell? ⟨B, 1, none⟩ = some (.int .u32 (d : Int))) := by
    intro wr q a0 a1 a b c d b0 b1
    refine ⟨(q.set (by show w.heap.size ≤ B; omega) _).set (by show w.heap.size ≤ B; omega) _, ?_, ?_, by simp [go_sem, b0, b1], by simp [go_sem, b0, b1]⟩
    · rw [World.cell?_setCell_other _ _ _ _ (fun e => by injection e with e; omega), World.cell?_setCell_other _ _ _ _ (fun e => by injection e with e; omega)]; exact a0
    · rw [World.cell?_setCell_other _ _ _ _ (fun e => by injection e with e; omega), World.cell?_setCell_other _ _ _ _ (fun e => by injection e with e; omega)]; exact a1
  have HS0 := HX.out w3 ((q1.trans q2).trans q3) ((q2.trans q3).cell z0) ((q2.trans q3).cell z1) 0 0 4294967295 0 y0 y1
  have HF : Hid (∀ wr, Q w wr → ∀ j, wr.frozen? ⟨B, j, none⟩ = false) := fun wr q j => by rw [q.2, ← ((q1.trans q2).trans q3).2]; exact yf j
  have HFA : Hid (∀ wr, Q w wr → ∀ j, wr.frozen? ⟨A, j, none⟩ = false) := fun wr q j => by rw [q.2, ← q1.2]; exact zf j
  have HLA : Hid (w.heap.size ≤ A) := Nat.le_of_eq hA
  have HV0 : Hid (∀ wr, Q w wr → wr.cell? ⟨A, 0, none⟩ = some (.int .u32 0) → USl wr (.slice ad S.length cap) S) := fun wr q _ => HW.out.next q
  clear hw3 z0 z1 zf y0 y1 yf q1 q2 q3 hs1 hB hA HV hAB hq2
  generalize (w3.setCell ⟨B, 0, none⟩ (.int .u32 4294967295)).setCell ⟨B, 1, none⟩ (.int .u32 0) = w4 at *
  have HS0 : Hid _ := HS0
  go_loopg [10] (S.length) (fun gh s10 wr => ∃ i : Nat, s10 = .int .i64 (i : Int) ∧ i ≤ S.length ∧ gh = S.length - i ∧ Hid (Q w wr ∧ wr.cell? ⟨A, 0, none⟩ = some (.int .u32 0) ∧ wr.cell? ⟨A, 1, none⟩ = some (.int .u32 0) ∧ wr.cell? ⟨B, 0, none⟩ = some (.int .u32 (lowA (S.take i) : Nat)) ∧ wr.cell? ⟨B, 1, none⟩ = some (.int .u32 (topA (S.take i) : Nat))))
  case atStart => exact ⟨0, rfl, by omega, rfl, HS0.out⟩
  case round =>
    clear HS0
    obtain ⟨i, rfl, hi, rfl, HR⟩ := hrel
    by_cases hlt : i < S.length
    · obtain ⟨g, o, cap', hsl, hcap, hI⟩ := (HV0.out wr HR.out.1 HR.out.2.1).some (by omega)
      injection hsl with hs1 hs2 hs3
      subst hs1 hs3
      clear hs2
      have hx := HB.out i
      have hc := hI i hlt
      have HT1 : Hid (lowA (S.take (i + 1)) = min (lowA (S.take i)) (keyN (S.getD i 0))) := by
        show lowA (S.take (i + 1)) = _
        rw [take_snocS hlt, lowA_snoc]
      have HT2 : Hid (topA (S.take (i + 1)) = max (topA (S.take i)) (keyN (S.getD i 0))) := by
        show topA (S.take (i + 1)) = _
        rw [take_snocS hlt, topA_snoc]
      generalize S.getD i 0 = x at *
      have K := keyn_any x hx
      obtain ⟨a, ha⟩ : ∃ a, lowA (S.take i) = a := ⟨_, rfl⟩
      obtain ⟨b, hb⟩ : ∃ b, topA (S.take i) = b := ⟨_, rfl⟩
      rw [ha] at HR HT1
      rw [hb] at HR HT2
      generalize keyN x = k at *
      have HK : Hid (∀ w, Calls Tryz.prog 81 #[.int .u32 (x : Int)] w fun e w' => e = .returned (.int .u32 (k : Int)) ∧ w' = w) := K
      have b0 := HR.out.2.2.2.1
      have b1 := HR.out.2.2.2.2
      clear hI hcap K ha hb
      go_wp2_with fail
      refine (HK.out _).mono ?_
      rintro e w5 ⟨rfl, hw5⟩
      obtain rfl := hw5.symm
      clear hw5
      go_wp2_with fail
      refine (with_any a b k k _).mono ?_
      unfold spnV
      rintro e w6 ⟨rfl, q6⟩
      have b0 := q6.cell b0
      have b1 := q6.cell b1
      have hq := HR.out.1.trans q6
      have f6 := HF.out w6 hq
      have HN : Hid _ := HX.out w6 hq (q6.cell HR.out.2.1) (q6.cell HR.out.2.2.1) a b (min a k) (max b k) b0 b1
      rw [← HT1.out, ← HT2.out] at HN
      rw [← HT1.out, ← HT2.out]
      clear HR HT1 HT2 hq
      go_wp2_with fail
      go_roundg (S.length - (i + 1))
      case measure => go_light; omega
      case rel => go_light; exact ⟨i + 1, by simp, by omega, rfl, HN⟩
    · obtain rfl : i = S.length := by omega
      have hge : ¬ (S.length : Int) < (S.length : Int) := by omega
      rw [HE.out] at HR
      have b0 := HR.out.2.2.2.1
      have b1 := HR.out.2.2.2.2
      have a0 := HR.out.2.1
      have a1 := HR.out.2.2.1
      have fA := HFA.out wr HR.out.1
      go_wp2_with fail
      unfold spnV
      refine bodyPost_ret (v := .agg #[.int .u32 (lowA S : Nat), .int .u32 (topA S : Nat)]) (by simp [results, Tryz.results70, go_sem, a0, a1]) rfl ⟨rfl, ?_⟩
      exact (HR.out.1.set HLA.out _).set HLA.out _
end Go.Proofs.YtieojgblamkgoaaGreatDoor
/- stat: adding to a tally. -/
namespace Go.Proofs.YtieojgblamkgoaaGreatDoor
open Go.RowKit
set_option linter.unusedVariables false
set_option linter.unusedSimpArgs false

theorem clsC_take {b : Nat} {S : List Nat} {i : Nat} (h : i < S.length) (j : Nat) : clsC b (S.take (i + 1)) j = clsC b (S.take i) j + if clsN b (S.getD i 0) = j then 1 else 0 := by
  rw [take_snocS h, clsC_snoc]
set_option maxHeartbeats 4000000 in
set_option maxRecDepth 100000 in
theorem tadd_any (b H kc : Nat) (c : Nat → Nat) (v : Value) (S : List Nat) (w : World) (h1 : 1 ≤ b) (h2 : b ≤ 12) (hT : VR w H (2 ^ b) (fun j => .int .i64 (c j : Nat))) (hcap : 2 ^ b ≤ kc) (hcs : ∀ j, c j ≤ 35184372087808)
    (hv : USl w v S) (hg : ∀ g o cap, 0 < S.length → v = .slice (some ⟨g, o, none⟩) S.length cap → g ≠ H) (hb : ∀ i, S.getD i 0 < 4294967296) (hn : S.length ≤ 65536) :
    Calls Tryz.prog 69 #[talV b H kc, v] w fun e w' => e = .returned (.tuple #[]) ∧ VR w' H (2 ^ b) (fun j => .int .i64 ((c j + clsC b S j : Nat) : Int)) ∧ Fb H w w' := by
  obtain ⟨ad, cap, rfl⟩ := hv.form
  have HE : Hid (S.take S.length = S) := List.take_of_length_le (Nat.le_refl _)
  obtain ⟨w1, hw1⟩ : ∃ w1, w.alloc (.cells #[.int .i64 (b : Int), .slice (some ⟨H, 0, none⟩) (2 ^ b) kc] 72) = w1 := ⟨_, rfl⟩
  obtain ⟨A, hA⟩ : ∃ A, w.heap.size = A := ⟨_, rfl⟩
  have q1 : Q w w1 := by rw [← hw1]; exact (Q.refl w).cells _ _
  have z0 : w1.cell? ⟨A, 0, none⟩ = some (.int .i64 (b : Int)) := by rw [← hw1, ← hA]; simp [go_sem]
  have z1 : w1.cell? ⟨A, 1, none⟩ = some (.slice (some ⟨H, 0, none⟩) (2 ^ b) kc) := by rw [← hw1, ← hA]; simp [go_sem]
  have hp1 : 1 ≤ 2 ^ b := Nat.one_le_two_pow
  have hHA : H ≠ A := by have := hT.lt hp1; omega
  have HC : Hid (∀ s : Nat, s < 4294967296 → ∀ x : World, Calls Tryz.prog 85 #[.agg #[.int .i64 (b : Int), .slice (some ⟨H, 0, none⟩) (2 ^ b) kc], .int .u32 (s : Int)] x fun e w' => e = .returned (.int .i64 (clsN b s : Nat)) ∧ Q x w') := fun s hs x => scls_any b s h1 h2 hs H (2 ^ b) kc x
  have HL : Hid (∀ s : Nat, s < 4294967296 → clsN b s < 2 ^ b) := fun s hs => cls_lt h2 hs
  have HV : Hid (USl w (.slice ad S.length cap) S) := hv
  have HG : Hid _ := hg
  have HB : Hid (∀ i, S.getD i 0 < 4294967296) := hb
  have HN : Hid (∀ i j, c j + clsC b (S.take i) j ≤ 35184372087808 + 65536) := fun i j => by
    have e1 := clsC_le b (S.take i) j
    have e2 : (S.take i).length ≤ S.length := by rw [List.length_take]; omega
    have := hcs j
    omega
  have HS : Hid (∀ i, i < S.length → ∀ wr, VR wr H (2 ^ b) (fun j => .int .i64 ((c j + clsC b (S.take i) j : Nat) : Int)) → VR (wr.setCell ⟨H, clsN b (S.getD i 0), none⟩ (.int .i64 ((c (clsN b (S.getD i 0)) + clsC b (S.take i) (clsN b (S.getD i 0)) + 1 : Nat) : Int))) H (2 ^ b) (fun j => .int .i64 ((c j + clsC b (S.take (i + 1)) j : Nat) : Int))) := fun i hi wr hr => by
    refine hr.put (HL.out _ (HB.out i)) ?_ fun j hj hne => ?_
    · rw [clsC_take hi, if_pos rfl, Nat.add_assoc]
    · rw [clsC_take hi, if_neg (fun e => hne e.symm), Nat.add_zero]
  have H0 : Hid (VR w1 H (2 ^ b) (fun j => .int .i64 ((c j + clsC b (S.take 0) j : Nat) : Int)) ∧ Fb H w w1) := ⟨(hT.next q1).congr fun j _ => by rw [List.take_zero, clsC_nil]; rfl, q1.fb H⟩
  have HZ : Hid (∀ wr, Fb H w1 wr → wr.cell? ⟨A, 0, none⟩ = some (.int .i64 (b : Int)) ∧ wr.cell? ⟨A, 1, none⟩ = some (.slice (some ⟨H, 0, none⟩) (2 ^ b) kc)) := fun wr f => ⟨f.cell z0 (fun e => hHA e.symm), f.cell z1 (fun e => hHA e.symm)⟩
  have HQ1 : Hid (Q w w1) := q1
  clear hv hg hb hT hcs z0 z1 q1 h1 h2
  unfold talV
  generalize 2 ^ b = N at *
  go_enter Tryz.func69, Tryz.ntmps69
  go_wp2_with fail
  clear hw1
  go_loopg [8] (S.length) (fun gh s8 wr => ∃ i : Nat, s8 = .int .i64 (i : Int) ∧ i ≤ S.length ∧ gh = S.length - i ∧ Hid (VR wr H N (fun j => .int .i64 ((c j + clsC b (S.take i) j : Nat) : Int)) ∧ Fb H w1 wr))
  case atStart => exact ⟨0, rfl, by omega, rfl, H0.out.1, Fb.refl _ _⟩
  case round =>
    clear H0
    obtain ⟨i, rfl, hi, rfl, HR⟩ := hrel
    by_cases hlt : i < S.length
    · obtain ⟨g, o, cap', hsl, hcap', hI⟩ := HV.out.some (by omega)
      have HNe : Hid (g ≠ H) := HG.out g o cap' (by omega) hsl
      injection hsl with hs1 hs2 hs3
      subst hs1 hs3
      clear hs2
      have hx := HB.out i
      have hcl := HL.out _ hx
      have hc := HR.out.2.cell (HQ1.out.cell (hI i hlt)) HNe.out
      have hS := HS.out i hlt
      have hN := HN.out i (clsN b (S.getD i 0))
      have hK := HC.out _ hx
      have hcell := HR.out.1.cell _ hcl
      generalize S.getD i 0 = x at *
      obtain ⟨k, hk⟩ : ∃ k, clsN b x = k := ⟨_, rfl⟩
      rw [hk] at hS hN hK hcell hcl
      obtain ⟨m, hm⟩ : ∃ m, c k + clsC b (S.take i) k = m := ⟨_, rfl⟩
      rw [hm] at hS hN hcell
      have HSx : Hid _ := hS
      have HKx : Hid _ := hK
      clear hS hK hk hm hI hcap'
      have hz := HZ.out wr HR.out.2
      have d0 := qw_cell hz.1
      have d1 := qw_cell hz.2
      have dH := qw_cell hcell
      have n0 := qw_some wr
      have HKw : Hid (∀ n : QW wr, Calls Tryz.prog 85 #[.agg #[.int .i64 (b : Int), .slice (some ⟨H, 0, none⟩) N kc], .int .u32 (x : Int)] n.x fun e w' => e = .returned (.int .i64 (k : Int)) ∧ Q n.x w') := fun n => HKx.out n.x
      clear hz HKx
      go_wp2_with fail
      refine wp_lastR 9 rfl _ rfl (by kernel_rfl) (by kernel_rfl) (by kernel_rfl) ?_
      simp only [List.take_succ_cons, List.take_zero]
      repeat (first | go_big_quiet_step (first | (go_at_call 85; exact calls_qw (HKw.out _))) | quiet_step (first | (go_at_call 85; exact calls_qw (HKw.out _))))
      refine wpQuiet_nil ?_
      intro nn K hK
      have cN := nn.q.cell hcell
      have hrN := HR.out.1.next nn.q
      have HRN : Hid _ := HSx.out nn.x hrN
      have zN := hrN.free k
      have HFN : Hid (Fb H w1 (nn.x.setCell ⟨H, k, none⟩ (.int .i64 ((m + 1 : Nat) : Int)))) := (HR.out.2.trans (nn.q.fb H)).set rfl _
      clear d0 d1 dH n0 hrN HSx HKw
      go_wp2_with fail
      go_roundg (S.length - (i + 1))
      case measure => go_light; omega
      case rel => go_light; exact ⟨i + 1, by simp, by omega, rfl, HRN.out, HFN.out⟩
    · obtain rfl : i = S.length := by omega
      have hge : ¬ (S.length : Int) < (S.length : Int) := by omega
      rw [HE.out] at HR
      go_wp2_with fail
      refine bodyPost_end (results_none Tryz.results69 _ _ _) rfl ⟨rfl, HR.out.1, (HQ1.out.fb H).trans HR.out.2⟩
end Go.Proofs.YtieojgblamkgoaaGreatDoor
/- Lists of whole numbers in memory. -/
namespace Go.Proofs.YtieojgblamkgoaaGreatDoor
open Go.RowKit
set_option linter.unusedVariables false
set_option linter.unusedSimpArgs false

/-- A list of whole numbers in memory. -/
def ISl (w : World) (v : Value) (l : List Int) : Prop := (∃ g o cap, v = .slice (some ⟨g, o, none⟩) l.length cap ∧ ∀ i, i < l.length → w.cell? ⟨g, o + i, none⟩ = some (.int .i64 (l.getD i 0))) ∨ (∃ a c, v = .slice a 0 c ∧ l = [])
theorem ISl.form {w : World} {v : Value} {l : List Int} (h : ISl w v l) : ∃ a cap, v = .slice a l.length cap := by
  rcases h with ⟨g, o, cap, h1, h2⟩ | ⟨a, c, h1, h2⟩
  · exact ⟨_, _, h1⟩
  · subst h2; exact ⟨a, c, h1⟩
theorem ISl.some {w : World} {v : Value} {l : List Int} (h : ISl w v l) (h1 : 1 ≤ l.length) : ∃ g o cap, v = .slice (some ⟨g, o, none⟩) l.length cap ∧ ∀ i, i < l.length → w.cell? ⟨g, o + i, none⟩ = some (.int .i64 (l.getD i 0)) := by
  rcases h with h | ⟨_, _, _, h2⟩
  · exact h
  · subst h2; cases h1
end Go.Proofs.YtieojgblamkgoaaGreatDoor
/- Sums of products with weights, where each product is a number. -/
namespace Go.Proofs.YtieojgblamkgoaaGreatDoor
open Go.RowKit
set_option linter.unusedVariables false
set_option linter.unusedSimpArgs false

/-- The sum of products. -/
def dotF (l : List Nat) : Nat := if l = [] then 0 else l.foldl add64V 9223372036854775808
end Go.Proofs.YtieojgblamkgoaaGreatDoor
/- Sums of products with weights: the program's, whatever the products are. -/
namespace Go.Proofs.YtieojgblamkgoaaGreatDoor
open Go.RowKit
set_option linter.unusedVariables false
set_option linter.unusedSimpArgs false

section
variable {P : Program} {ρ : Operand → Value} {x : World} {d : Option Tmp} {ty : TypeId} {ps : String} {af : Array Edge} {g : Option (Nat × Bool)}
end
end Go.Proofs.YtieojgblamkgoaaGreatDoor
/- Sums of products with weights: the program's. -/
namespace Go.Proofs.YtieojgblamkgoaaGreatDoor
open Go.RowKit
set_option linter.unusedVariables false
set_option linter.unusedSimpArgs false

end Go.Proofs.YtieojgblamkgoaaGreatDoor
/- One sample with whole weights, summed in binary64 (as in SWhB, over the program's side alone). -/
namespace Go.Proofs.YtieojgblamkgoaaGreatDoor
open Go.RowKit
set_option linter.unusedVariables false
set_option linter.unusedSimpArgs false

end Go.Proofs.YtieojgblamkgoaaGreatDoor
/- What package arith's Floor, Nearest and Sqrt return, in the model's own words of floats; what was in memory stays as it was. -/
namespace Go.Proofs.YtieojgblamkgoaaGreatDoor
open Go.RowKit

end Go.Proofs.YtieojgblamkgoaaGreatDoor
/- Arithmetic of binary64 whatever comes of it; what space's number, sample, Log and Exp return. -/
namespace Go.Proofs.YtieojgblamkgoaaGreatDoor
open Go.RowKit
set_option linter.unusedVariables false

def opD : BinOp → Ieee.Datum → Ieee.Datum → Option Ieee.Datum
  | .add, a, b => a.sum b
  | .sub, a, b => a.sum b.opposite
  | .mul, a, b => a.product b
  | .quo, a, b => a.quotient 54 b
  | _, _, _ => none
end Go.Proofs.YtieojgblamkgoaaGreatDoor
/- Operations of binary64, of NaNs one: plain. -/
namespace Go.Proofs.YtieojgblamkgoaaGreatDoor
open Go.RowKit
set_option linter.unusedVariables false

abbrev isA (op : BinOp) : Prop := op = .add ∨ op = .sub ∨ op = .mul ∨ op = .quo
def opT (op : BinOp) (x y : Nat) : Nat := told64 (opD op (Ieee.double.read x) (Ieee.double.read y))
theorem hA3 : isA .mul := Or.inr (Or.inr (Or.inl rfl))
end Go.Proofs.YtieojgblamkgoaaGreatDoor
/- Plain facts: a number rounded to binary32, as a signed rung. -/
namespace Go.Proofs.YtieojgblamkgoaaGreatDoor
open Go.RowKit
set_option linter.unusedVariables false
set_option linter.unusedSimpArgs false

end Go.Proofs.YtieojgblamkgoaaGreatDoor
/- Quotients of words of binary64 by whole numbers, narrowed. Plain. (Out of BlJ.) -/
namespace Go.Proofs.YtieojgblamkgoaaGreatDoor
open Go.RowKit
set_option linter.unusedVariables false
set_option linter.unusedSimpArgs false

end Go.Proofs.YtieojgblamkgoaaGreatDoor
/- Plain facts: samples made whole by way of binary64; whole numbers as samples. -/
namespace Go.Proofs.YtieojgblamkgoaaGreatDoor
open Go.RowKit

end Go.Proofs.YtieojgblamkgoaaGreatDoor
/- stat, plain: shares of counts as samples. -/
namespace Go.Proofs.YtieojgblamkgoaaGreatDoor
open Go.RowKit
set_option linter.unusedVariables false
set_option linter.unusedSimpArgs false

end Go.Proofs.YtieojgblamkgoaaGreatDoor
/- stat: shares as samples, how many up to each class, planes levelled. -/
namespace Go.Proofs.YtieojgblamkgoaaGreatDoor
open Go.RowKit
set_option linter.unusedVariables false
set_option linter.unusedSimpArgs false

end Go.Proofs.YtieojgblamkgoaaGreatDoor
/- Sizes, borders: the program's and the document's. -/
namespace Go.Proofs.YtieojgblamkgoaaGreatDoor
open Go.RowKit
set_option linter.unusedVariables false
set_option linter.unusedSimpArgs false

def sizeB (W H : Int) : Bool := decide (1 ≤ W) && decide (W ≤ 1024) && decide (1 ≤ H) && decide (H ≤ 1024) && decide (W * H ≤ 65536)
theorem sizeB_true {W H : Int} : sizeB W H = true ↔ SizeB W H := by
  unfold sizeB SizeB
  simp only [Bool.and_eq_true, decide_eq_true_eq]
  constructor
  · rintro ⟨⟨⟨⟨a, b⟩, c⟩, d⟩, e⟩; exact ⟨a, b, c, d, e⟩
  · rintro ⟨a, b, c, d, e⟩; exact ⟨⟨⟨⟨a, b⟩, c⟩, d⟩, e⟩
def sideB (n : Int) : Bool := decide (1 ≤ n) && decide (n ≤ 1024)
theorem sizeB_eq (W H : Int) : sizeB W H = (sideB W && (sideB H && decide (W * H ≤ 65536))) := by
  unfold sizeB sideB
  cases decide (1 ≤ W) <;> cases decide (W ≤ 1024) <;> cases decide (1 ≤ H) <;> cases decide (H ≤ 1024) <;> rfl
theorem sideB_true {n : Int} : sideB n = true ↔ 1 ≤ n ∧ n ≤ 1024 := by
  unfold sideB; simp
theorem area_le {a b : Int} (ha : 1 ≤ a ∧ a ≤ 1024) (hb : 1 ≤ b ∧ b ≤ 1024) : 1 ≤ a * b ∧ a * b ≤ 1048576 := by
  have h1 : a * b ≤ 1024 * b := Int.mul_le_mul_of_nonneg_right ha.2 (by omega)
  have h2 : 1 * b ≤ a * b := Int.mul_le_mul_of_nonneg_right ha.1 (by omega)
  omega

theorem isSide_any (n : Int) (w : World) : Calls Tryz.prog 103 #[.int .i64 n] w fun e w' => e = .returned (.bool (sideB n)) ∧ w' = w := by
  by_cases h1 : 1 ≤ n
  · by_cases h2 : n ≤ 1024
    · have e : sideB n = true := sideB_true.2 ⟨h1, h2⟩
      rw [e]
      clear e
      go_enter Tryz.func103, Tryz.ntmps103
      go_wp2_with fail
      go_ret
      exact ⟨rfl, rfl⟩
    · have e : sideB n = false := by unfold sideB; simp [h2]
      rw [e]
      clear e
      go_enter Tryz.func103, Tryz.ntmps103
      go_wp2_with fail
      go_ret
      exact ⟨rfl, rfl⟩
  · have e : sideB n = false := by unfold sideB; simp [h1]
    rw [e]
    clear e
    go_enter Tryz.func103, Tryz.ntmps103
    go_wp2_with fail
    go_ret
    exact ⟨rfl, rfl⟩
theorem isSize_any (W H : Int) (w : World) : Calls Tryz.prog 77 #[.int .i64 W, .int .i64 H] w fun e w' => e = .returned (.bool (sizeB W H)) ∧ w' = w := by
  rw [sizeB_eq]
  cases hW : sideB W
  · have A : Calls Tryz.prog 103 #[.int .i64 W] w fun e w' => e = .returned (.bool false) ∧ w' = w := hW ▸ isSide_any W w
    go_enter Tryz.func77, Tryz.ntmps77
    go_wp2_with (go_at_call 103; refine A.mono ?_; rintro e w1 ⟨rfl, rfl⟩)
    go_ret
    exact ⟨rfl, rfl⟩
  · have A : Calls Tryz.prog 103 #[.int .i64 W] w fun e w' => e = .returned (.bool true) ∧ w' = w := hW ▸ isSide_any W w
    cases hH : sideB H
    · have B : Calls Tryz.prog 103 #[.int .i64 H] w fun e w' => e = .returned (.bool false) ∧ w' = w := hH ▸ isSide_any H w
      go_enter Tryz.func77, Tryz.ntmps77
      go_wp2_with fail
      refine A.mono ?_
      rintro e w1 ⟨rfl, rfl⟩
      go_wp2_with fail
      refine B.mono ?_
      rintro e w1 ⟨rfl, rfl⟩
      go_wp2_with fail
      go_ret
      exact ⟨rfl, rfl⟩
    · have B : Calls Tryz.prog 103 #[.int .i64 H] w fun e w' => e = .returned (.bool true) ∧ w' = w := hH ▸ isSide_any H w
      have h1 := sideB_true.1 hW
      have h2 := sideB_true.1 hH
      have h3 := area_le h1 h2
      clear hW hH
      by_cases h4 : W * H ≤ 65536
      · rw [decide_eq_true h4]
        generalize hA : W * H = A0 at h3 h4
        go_enter Tryz.func77, Tryz.ntmps77
        go_wp2_with fail
        refine A.mono ?_
        rintro e w1 ⟨rfl, rfl⟩
        go_wp2_with fail
        refine B.mono ?_
        rintro e w1 ⟨rfl, rfl⟩
        go_wp2_with fail
        go_ret
        exact ⟨rfl, rfl⟩
      · rw [decide_eq_false h4]
        generalize hA : W * H = A0 at h3 h4
        have h5 : decide (A0 ≤ 65536) = false := decide_eq_false h4
        go_enter Tryz.func77, Tryz.ntmps77
        go_wp2_with fail
        refine A.mono ?_
        rintro e w1 ⟨rfl, rfl⟩
        go_wp2_with fail
        refine B.mono ?_
        rintro e w1 ⟨rfl, rfl⟩
        go_wp2_with fail
        go_ret
        exact ⟨rfl, rfl⟩

/-- What is wrong with a plane. -/
def chk (W H : Int) (n : Nat) : Int := if sizeB W H = true then (if (n : Int) = W * H then 0 else 51) else 50
theorem chk_bad {W H : Int} {n : Nat} (h : sizeB W H = false) : chk W H n = 50 := by unfold chk; rw [h]; rfl
theorem chk_count {W H : Int} {n : Nat} (h : sizeB W H = true) (hn : (n : Int) ≠ W * H) : chk W H n = 51 := by unfold chk; rw [if_pos h, if_neg hn]
theorem chk_ok {W H : Int} {n : Nat} (h : sizeB W H = true) (hn : (n : Int) = W * H) : chk W H n = 0 := by unfold chk; rw [if_pos h, if_pos hn]
theorem chk_zero {W H : Int} {n : Nat} (h : chk W H n = 0) : ∃ a b : Nat, W = a ∧ H = b ∧ Size a b ∧ n = a * b := by
  unfold chk at h
  by_cases g : sizeB W H = true
  · rw [if_pos g] at h
    by_cases g2 : (n : Int) = W * H
    · obtain ⟨a, b, rfl, rfl, hs⟩ := (sizeB_true.1 g).nat
      refine ⟨a, b, rfl, rfl, hs, ?_⟩
      rw [← Int.natCast_mul] at g2
      omega
    · rw [if_neg g2] at h; exact absurd h (by decide)
  · rw [if_neg g] at h; exact absurd h (by decide)
theorem chk_size {a b : Nat} (h : Size a b) : chk a b (a * b) = 0 := chk_ok (sizeB_true.2 h.b) (by rw [Int.natCast_mul])
set_option maxHeartbeats 1000000 in
theorem check_any (W H : Int) (a : Option Addr) (n c : Nat) (hn : n ≤ 9223372036854775807) (w : World) :
    Calls Tryz.prog 55 #[.agg #[.int .i64 W, .int .i64 H, .slice a n c]] w fun e w' => e = .returned (.int .i64 (chk W H n)) ∧ Q w w' := by
  have q0 : ∀ c t, Q w (w.alloc (.cells c t)) := fun c t => (Q.refl w).cells c t
  have Q0 : Hid (∀ c t, Q w (w.alloc (.cells c t))) := q0
  clear q0
  cases hS : sizeB W H
  · have A : ∀ w : World, Calls Tryz.prog 77 #[.int .i64 W, .int .i64 H] w fun e w' => e = .returned (.bool false) ∧ w' = w := fun w => hS ▸ isSize_any W H w
    rw [chk_bad hS]
    clear hS
    go_enter Tryz.func55, Tryz.ntmps55
    go_wp2_with (go_at_call 77; refine (A _).mono ?_; rintro e w1 ⟨rfl, rfl⟩)
    go_ret
    exact ⟨rfl, Q0.out _ _⟩
  · have A : ∀ w : World, Calls Tryz.prog 77 #[.int .i64 W, .int .i64 H] w fun e w' => e = .returned (.bool true) ∧ w' = w := fun w => hS ▸ isSize_any W H w
    obtain ⟨h1, h2, h3, h4, h5⟩ := sizeB_true.1 hS
    have h6 := area_le ⟨h1, h2⟩ ⟨h3, h4⟩
    by_cases hc : (n : Int) = W * H
    · rw [chk_ok hS hc]
      have hw : IntKind.i64.wrap (W * H) = W * H := by rw [IntKind.wrap_i64]; omega
      have hb : ((n : Int) == W * H) = true := by rw [hc]; simp
      have hb2 : ((n : Int) != W * H) = false := by rw [hc]; simp
      clear hS hc h5 h6 h1 h2 h3 h4
      go_enter Tryz.func55, Tryz.ntmps55
      go_wp2_with (go_at_call 77; refine (A _).mono ?_; rintro e w1 ⟨rfl, rfl⟩)
      go_ret
      exact ⟨rfl, Q0.out _ _⟩
    · rw [chk_count hS hc]
      have hw : IntKind.i64.wrap (W * H) = W * H := by rw [IntKind.wrap_i64]; omega
      have hb : ((n : Int) == W * H) = false := by rw [beq_eq_false_iff_ne]; exact hc
      have hb2 : ((n : Int) != W * H) = true := by rw [bne_iff_ne]; exact hc
      clear hS hc h5 h6 h1 h2 h3 h4
      go_enter Tryz.func55, Tryz.ntmps55
      go_wp2_with (go_at_call 77; refine (A _).mono ?_; rintro e w1 ⟨rfl, rfl⟩)
      go_ret
      exact ⟨rfl, Q0.out _ _⟩

end Go.Proofs.YtieojgblamkgoaaGreatDoor

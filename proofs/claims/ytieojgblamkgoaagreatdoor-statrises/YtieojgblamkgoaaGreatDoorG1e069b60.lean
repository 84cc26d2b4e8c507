/- The document's Rank and Share (layer 16). -/
import Derived.Test.YtieojgblamkgoaaGreatDoorG5d60fafd
import Derived.Test.YtieojgblamkgoaaGreatDoorG9002ced8
import Derived.Test.YtieojgblamkgoaaGreatDoorG99d426f3
import Derived.Test.YtieojgblamkgoaaGreatDoorGbca46a39
import Derived.Test.YtieojgblamkgoaaGreatDoorG068178cf
import Derived.Test.YtieojgblamkgoaaGreatDoorG0ec06db2
import Derived.Test.YtieojgblamkgoaaGreatDoorG21dea03d
namespace Go.Proofs.YtieojgblamkgoaaGreatDoor
open Go.RowKit
set_option linter.unusedVariables false
set_option linter.unusedSimpArgs false

end Go.Proofs.YtieojgblamkgoaaGreatDoor
/- stat: Level; the document's Class. -/
namespace Go.Proofs.YtieojgblamkgoaaGreatDoor
open Go.RowKit
set_option linter.unusedVariables false
set_option linter.unusedSimpArgs false

/-- What Level tells. -/
def slvE (E : Int) (b : Int) : Int := if E ≠ 0 then E else if bitsB b = true then 0 else 160
structure LvA (w w' : World) (E0 pw ph : Int) (n : Nat) (V : Nat → Nat) (a b : Int) (ad : Option Addr) (m cc : Nat) (E : Int) : Prop where
  q : Q w w'
  e : E = E0
  bad : E0 ≠ 0 → a = 0 ∧ b = 0 ∧ ad = none ∧ m = 0 ∧ cc = 0
  good : E0 = 0 → ∃ g, ad = some ⟨g, 0, none⟩ ∧ a = pw ∧ b = ph ∧ m = n ∧ cc = n ∧ VR w' g n (fun i => .int .u32 (V i : Nat)) ∧ w.heap.size ≤ g ∧ g < w'.heap.size
set_option maxHeartbeats 4000000 in
set_option maxRecDepth 100000 in
theorem slevel_any (pw ph : Int) (ad : Option Addr) (n c : Nat) (S : List Nat) (b : Int) (w : World) (us : USl w (.slice ad n c) S) (hS : S.length = n) (hb : ∀ i, S.getD i 0 < 4294967296) (hn : n ≤ 16384) :
    Calls Tryz.prog 23 #[.agg #[.int .i64 pw, .int .i64 ph, .slice ad n c], .int .i64 b] w fun e w' => ∃ x y ad' m cc E, e = .returned (.tuple #[.agg #[.int .i64 x, .int .i64 y, .slice ad' m cc], .int .i64 E]) ∧ LvA w w' (slvE (chk pw ph n) b) pw ph n (fun i => lvlV b.toNat S (S.getD i 0)) x y ad' m cc E := by
  have K0 := fun w => check_any pw ph ad n c (by omega) w
  obtain ⟨E, hEq⟩ : ∃ E, chk pw ph n = E := ⟨_, rfl⟩
  simp only [hEq] at K0
  have K : Hid _ := K0
  clear K0
  obtain ⟨w1, hw1⟩ : ∃ w1, (w.alloc (.cells #[.int .i64 pw, .int .i64 ph, .slice ad n c] 26)).alloc (.cells #[.int .i64 0, .int .i64 0, .slice none 0 0] 26) = w1 := ⟨_, rfl⟩
  obtain ⟨A, hA⟩ : ∃ A, w.heap.size = A := ⟨_, rfl⟩
  have q1 : Q w w1 := by rw [← hw1]; exact ((Q.refl w).cells _ _).cells _ _
  have z0 : w1.cell? ⟨A, 0, none⟩ = some (.int .i64 pw) := by rw [← hw1, ← hA]; simp [go_sem]
  have z1 : w1.cell? ⟨A, 1, none⟩ = some (.int .i64 ph) := by rw [← hw1, ← hA]; simp [go_sem]
  have z2 : w1.cell? ⟨A, 2, none⟩ = some (.slice ad n c) := by rw [← hw1, ← hA]; simp [go_sem]
  have r0 : w1.cell? ⟨A + 1, 0, none⟩ = some (.int .i64 0) := by rw [← hw1, ← hA]; simp [go_sem]
  have r1 : w1.cell? ⟨A + 1, 1, none⟩ = some (.int .i64 0) := by rw [← hw1, ← hA]; simp [go_sem]
  have r2 : w1.cell? ⟨A + 1, 2, none⟩ = some (.slice none 0 0) := by rw [← hw1, ← hA]; simp [go_sem]
  have rf : ∀ j, w1.frozen? ⟨A + 1, j, none⟩ = false := fun j => by rw [← hw1, ← hA]; simp [go_sem]
  have hA1 : w1.heap.size = A + 2 := by rw [← hw1, ← hA]; simp [go_sem]
  have HQ1 : Hid (Q w w1) := q1
  have HU : Hid (USl w1 (.slice ad n c) S) := us.next q1
  have HB : Hid (∀ i, S.getD i 0 < 4294967296) := hb
  have HLA : Hid (w.heap.size ≤ A + 1) := by show _ ≤ _; omega
  have HZ : Hid (E = 0 → 1 ≤ n) := fun h => by
    obtain ⟨a, b, _, _, hs, he⟩ := chk_zero (hEq.trans h)
    have := hs.pos
    omega
  rw [hEq]
  clear q1 us hb hEq
  by_cases hE : E = 0
  · have hz := HZ.out hE
    subst hE
    have hEb : slvE 0 b = if bitsB b = true then 0 else 160 := by unfold slvE; rw [if_neg (fun h => h rfl)]
    rw [hEb]
    clear HZ hEb
    have KB := isbits_any b
    cases hbb : bitsB b
    · rw [hbb] at KB
      rw [if_neg (by decide)]
      go_enter Tryz.func23, Tryz.ntmps23
      go_wp2_with fail
      clear hw1
      refine Calls.mono (K.out _) ?_
      rintro e w2 ⟨rfl, q2⟩
      have r0 := q2.cell r0
      have r1 := q2.cell r1
      have r2 := q2.cell r2
      have rf : ∀ j, w2.frozen? ⟨A + 1, j, none⟩ = false := fun j => by rw [q2.2]; exact rf j
      go_wp2_with fail
      refine Calls.mono (KB _) ?_
      rintro e w3 ⟨rfl, hw3⟩
      obtain rfl := hw3.symm
      clear hw3
      go_wp2_with fail
      refine bodyPost_ret (v := .tuple #[.agg #[.int .i64 0, .int .i64 0, .slice none 0 0], .int .i64 160]) (by simp [results, Tryz.results23, go_sem, r0, r1, r2]) rfl ⟨_, _, _, _, _, _, rfl, ?_⟩
      exact ⟨(((HQ1.out.trans q2).set HLA.out _).set HLA.out _).set HLA.out _, rfl, fun _ => ⟨rfl, rfl, rfl, rfl, rfl⟩, fun h => by cases h⟩
    · rw [hbb] at KB
      have hbr : 1 ≤ b ∧ b ≤ 12 := by unfold bitsB at hbb; simpa using hbb
      rw [if_pos rfl]
      obtain ⟨B, rfl⟩ : ∃ B : Nat, b = (B : Int) := ⟨b.toNat, by omega⟩
      rw [Int.toNat_natCast]
      subst hS
      obtain ⟨g, o, cap, hv, hcap, hI⟩ := HU.out.some (by omega)
      injection hv with hv1 hv2 hv3
      subst hv1 hv3
      clear hv2
      have KL : Hid (∀ x, Q w1 x → Calls Tryz.prog 60 #[.agg #[.int .i64 pw, .int .i64 ph, .slice (some ⟨g, o, none⟩) S.length c], .int .i64 (B : Int)] x fun e w' => ∃ G, e = .returned (.agg #[.int .i64 pw, .int .i64 ph, .slice (some ⟨G, 0, none⟩) S.length S.length]) ∧ VR w' G S.length (fun i => .int .u32 ((lvlV B S (S.getD i 0) : Nat) : Int)) ∧ x.heap.size ≤ G ∧ Q x w') := fun x q => levelled_any B pw ph g o c S x (by omega) (by omega) (hI.next q) hcap HB.out hz hn
      clear HU HB hI
      go_enter Tryz.func23, Tryz.ntmps23
      go_wp2_with fail
      clear hw1
      refine Calls.mono (K.out _) ?_
      rintro e w2 ⟨rfl, q2⟩
      have z0 := q2.cell z0
      have z1 := q2.cell z1
      have z2 := q2.cell z2
      go_wp2_with fail
      refine Calls.mono (KB _) ?_
      rintro e w3 ⟨rfl, hw3⟩
      obtain rfl := hw3.symm
      clear hw3
      go_wp2_with fail
      refine Calls.mono (KL.out _ q2) ?_
      rintro e w4 ⟨G, rfl, hG, lG, q4⟩
      have q24 := q2.trans q4
      have r0 := q24.cell r0
      have r1 := q24.cell r1
      have r2 := q24.cell r2
      have rf : ∀ j, w4.frozen? ⟨A + 1, j, none⟩ = false := fun j => by rw [q24.2]; exact rf j
      have hsz := q2.1.size
      have HQ4 : Hid (Q w w4) := HQ1.out.trans q24
      clear q2 q4 q24
      go_wp2_with fail
      have hGA : A + 1 ≠ G := by omega
      refine bodyPost_ret (v := .tuple #[.agg #[.int .i64 pw, .int .i64 ph, .slice (some ⟨G, 0, none⟩) S.length S.length], .int .i64 0]) (by simp [results, Tryz.results23, go_sem, r0, r1, r2]) rfl ⟨_, _, _, _, _, _, rfl, ?_⟩
      have hG' := ((hG.other (p := ⟨A + 1, 0, none⟩) hGA (.int .i64 pw)).other (p := ⟨A + 1, 1, none⟩) hGA (.int .i64 ph)).other (p := ⟨A + 1, 2, none⟩) hGA (.slice (some ⟨G, 0, none⟩) S.length S.length)
      exact ⟨((HQ4.out.set HLA.out _).set HLA.out _).set HLA.out _, rfl, fun h => absurd rfl h, fun _ => ⟨G, rfl, rfl, rfl, rfl, rfl, hG', by omega, hG'.lt hz⟩⟩
  · have hEb : slvE E b = E := by unfold slvE; rw [if_pos hE]
    rw [hEb]
    have hne : (E != 0) = true := by simpa using hE
    have HE : Hid (E ≠ 0) := hE
    clear hE HZ hEb
    go_enter Tryz.func23, Tryz.ntmps23
    go_wp2_with fail
    clear hw1
    refine Calls.mono (K.out _) ?_
    rintro e w2 ⟨rfl, q2⟩
    have r0 := q2.cell r0
    have r1 := q2.cell r1
    have r2 := q2.cell r2
    have rf : ∀ j, w2.frozen? ⟨A + 1, j, none⟩ = false := fun j => by rw [q2.2]; exact rf j
    go_wp2_with fail
    refine bodyPost_ret (v := .tuple #[.agg #[.int .i64 0, .int .i64 0, .slice none 0 0], .int .i64 E]) (by simp [results, Tryz.results23, go_sem, r0, r1, r2]) rfl ⟨_, _, _, _, _, _, rfl, ?_⟩
    exact ⟨(((HQ1.out.trans q2).set HLA.out _).set HLA.out _).set HLA.out _, rfl, fun _ => ⟨rfl, rfl, rfl, rfl, rfl⟩, fun h => absurd h HE.out⟩
end Go.Proofs.YtieojgblamkgoaaGreatDoor
/- Copies of planes. -/
namespace Go.Proofs.YtieojgblamkgoaaGreatDoor
open Go.RowKit
set_option linter.unusedVariables false
set_option linter.unusedSimpArgs false

theorem uInfoq : ∃ i, Tryz.prog.info? 43 = some i ∧ i.size = 1 ∧ i.bytes = 4 ∧ i.zero = some (.int .u32 0) := info_of (by kernel_rfl) (by kernel_rfl)
theorem run_appopq {P : Program} {A : Act} {o : Oper} {x x' : World} {s u : Operand} {t : TypeId} (ho : o.op = .call { callee := .builtin .append, args := #[s, u], argTypes := #[t, t] }) {v v' r : Value} (hs : A.eval s = v) (hu : A.eval u = v') (hr : (Builtin.append_ #[t, t] o.type #[v, v']).run P x = .ok r x') : (execOp A.eval o).run P x = .ok (.value r) x' := by
  unfold execOp
  simp only [ho, resolve, invoke, builtin, Sem.run_bind, Sem.run_pure, Result.andThen_ok, List.map_toArray, List.map_cons, List.map_nil, hs, hu, hr]
set_option maxHeartbeats 2000000 in
set_option maxRecDepth 100000 in
theorem hcopy_some (w : World) (pw ph : Int) (g o n c : Nat) (S : List Nat) (hS : S.length = n) (hI : UIs w g o S) (h1 : 1 ≤ n) (h2 : n ≤ 1000000) :
    Calls Tryz.prog 16 #[.agg #[.int .i64 pw, .int .i64 ph, .slice (some ⟨g, o, none⟩) n c]] w fun e w' => ∃ v, e = .returned v ∧ ∃ b cap, v = .agg #[.int .i64 pw, .int .i64 ph, .slice (some ⟨b, 0, none⟩) n cap] ∧ n ≤ cap ∧ b < w'.heap.size ∧ Own w w' b S := by
  have HI : Hid (∀ x : World, Q w x → UIs x g o S) := fun x q => hI.next q
  have HN : Hid (S.length = n) := hS
  clear hI hS
  go_enter Tryz.func16, Tryz.ntmps16
  go_wp2_with fail
  have HQ : Hid (Q w ((w.alloc (Obj.cells #[Value.int IntKind.i64 pw, Value.int IntKind.i64 ph, .slice (some ⟨g, o, none⟩) n c] 26)).alloc (Obj.cells #[Value.int IntKind.i64 0, Value.int IntKind.i64 0, Value.slice none 0 0] 26))) := ((Q.refl w).cells _ _).cells _ _
  have c0 : ((w.alloc (Obj.cells #[Value.int IntKind.i64 pw, Value.int IntKind.i64 ph, .slice (some ⟨g, o, none⟩) n c] 26)).alloc (Obj.cells #[Value.int IntKind.i64 0, Value.int IntKind.i64 0, Value.slice none 0 0] 26)).cell? ⟨w.heap.size, 0, none⟩ = some (.int .i64 pw) := by simp [go_sem]
  have c1 : ((w.alloc (Obj.cells #[Value.int IntKind.i64 pw, Value.int IntKind.i64 ph, .slice (some ⟨g, o, none⟩) n c] 26)).alloc (Obj.cells #[Value.int IntKind.i64 0, Value.int IntKind.i64 0, Value.slice none 0 0] 26)).cell? ⟨w.heap.size, 1, none⟩ = some (.int .i64 ph) := by simp [go_sem]
  have c2 : ((w.alloc (Obj.cells #[Value.int IntKind.i64 pw, Value.int IntKind.i64 ph, .slice (some ⟨g, o, none⟩) n c] 26)).alloc (Obj.cells #[Value.int IntKind.i64 0, Value.int IntKind.i64 0, Value.slice none 0 0] 26)).cell? ⟨w.heap.size, 2, none⟩ = some (.slice (some ⟨g, o, none⟩) n c) := by simp [go_sem]
  have d0 : ((w.alloc (Obj.cells #[Value.int IntKind.i64 pw, Value.int IntKind.i64 ph, .slice (some ⟨g, o, none⟩) n c] 26)).alloc (Obj.cells #[Value.int IntKind.i64 0, Value.int IntKind.i64 0, Value.slice none 0 0] 26)).cell? ⟨w.heap.size + 1, 0, none⟩ = some (.int .i64 0) := by simp [go_sem]
  have d1 : ((w.alloc (Obj.cells #[Value.int IntKind.i64 pw, Value.int IntKind.i64 ph, .slice (some ⟨g, o, none⟩) n c] 26)).alloc (Obj.cells #[Value.int IntKind.i64 0, Value.int IntKind.i64 0, Value.slice none 0 0] 26)).cell? ⟨w.heap.size + 1, 1, none⟩ = some (.int .i64 0) := by simp [go_sem]
  have d2 : ((w.alloc (Obj.cells #[Value.int IntKind.i64 pw, Value.int IntKind.i64 ph, .slice (some ⟨g, o, none⟩) n c] 26)).alloc (Obj.cells #[Value.int IntKind.i64 0, Value.int IntKind.i64 0, Value.slice none 0 0] 26)).cell? ⟨w.heap.size + 1, 2, none⟩ = some (.slice none 0 0) := by simp [go_sem]
  have fz : ∀ j, ((w.alloc (Obj.cells #[Value.int IntKind.i64 pw, Value.int IntKind.i64 ph, .slice (some ⟨g, o, none⟩) n c] 26)).alloc (Obj.cells #[Value.int IntKind.i64 0, Value.int IntKind.i64 0, Value.slice none 0 0] 26)).frozen? ⟨w.heap.size + 1, j, none⟩ = false := fun j => by simp [go_sem]
  have hsz : ((w.alloc (Obj.cells #[Value.int IntKind.i64 pw, Value.int IntKind.i64 ph, .slice (some ⟨g, o, none⟩) n c] 26)).alloc (Obj.cells #[Value.int IntKind.i64 0, Value.int IntKind.i64 0, Value.slice none 0 0] 26)).heap.size = w.heap.size + 2 := by simp
  generalize ((w.alloc (Obj.cells #[Value.int IntKind.i64 pw, Value.int IntKind.i64 ph, .slice (some ⟨g, o, none⟩) n c] 26)).alloc (Obj.cells #[Value.int IntKind.i64 0, Value.int IntKind.i64 0, Value.slice none 0 0] 26)) = wz at *
  have n0 := qw_some wz
  have f0 := qw_cell c0
  have f1 := qw_cell c1
  have f2 := qw_cell c2
  refine wp_region_mk [0, 1, 2, 3, 4, 5] [[6, 7, 8]] 3 _ (by kernel_rfl) (by kernel_rfl) rfl (by kernel_rfl) ?_
  simp only [List.filterMap_cons, List.filterMap_nil, List.getElem?_cons_zero, List.getElem?_cons_succ]
  repeat (first | go_big_quiet_step (fail) | quiet_step (fail))
  refine wpQuiet_nil ?_
  intro x hx
  obtain ⟨iu, i1, i2, i3, i4⟩ := uInfoq
  obtain ⟨cap, w7, hr7, hq7, hc1, hc2, hz7, hn7, -, hf7⟩ := run_app_room (P := Tryz.prog) x 24 24 43 iu _ Tryz.underlying24 i1 i4 (by rw [i2]; rfl) (.slice none 0 0) (Or.inl rfl) ⟨g, o, none⟩ n c (S.map fun (s : Nat) => Value.int .u32 (s : Int)) (by rw [List.length_map, HN.out, i2]; omega) (fun j u hu => by
    rw [List.getElem?_map] at hu
    cases hj : S[j]? with
    | none => rw [hj] at hu; cases hu
    | some s =>
      rw [hj] at hu
      have hu := Option.some.inj hu
      have hjl : j < S.length := (List.getElem?_eq_some_iff.1 hj).1
      have := HI.out x (HQ.out.trans hx) j hjl
      rw [List.getD_eq_getElem?_getD, hj] at this
      rw [← hu, show (⟨g, o, none⟩ : Addr).add j = ⟨g, o + j, none⟩ by unfold Addr.add; split <;> simp_all]
      exact this) (by omega) (by omega) (by rw [i3]; omega)
  have hc7 : ∀ i, i < S.length → w7.cell? ⟨x.heap.size, i, none⟩ = some (.int .u32 ((S.getD i 0 : Nat) : Int)) := fun i hi => by
    refine hn7 i _ ?_
    rw [List.getElem?_map, List.getElem?_eq_getElem hi, List.getD_eq_getElem?_getD, List.getElem?_eq_getElem hi]
    rfl
  have hq2 : Q wz w7 := hx.trans hq7
  refine tree_run 6 rfl rfl (v := .slice (some ⟨x.heap.size, 0, none⟩) n cap) (x' := w7) (run_appopq rfl (v := .slice none 0 0) (v' := .slice (some ⟨g, o, none⟩) n c) (by simp [Act.eval, Act.put]) (by simp [Act.eval, Act.put]) hr7) hq2 ?_
  refine tree_run 7 rfl rfl (v := .agg #[.int .i64 pw, .int .i64 ph, .slice (some ⟨x.heap.size, 0, none⟩) n cap]) (x' := w7) (by simp [execOp, go_sem]) hq2 ?_
  have d02 := hq2.cell d0
  have d12 := hq2.cell d1
  have d22 := hq2.cell d2
  have fz2 : ∀ j, w7.frozen? ⟨w.heap.size + 1, j, none⟩ = false := fun j => (hq2.2 _).trans (fz j)
  refine tree_skipF 8 rfl rfl rfl (x' := (((w7.setCell ⟨w.heap.size + 1, 0, none⟩ (.int .i64 pw)).setCell ⟨w.heap.size + 1, 1, none⟩ (.int .i64 ph)).setCell ⟨w.heap.size + 1, 2, none⟩ (.slice (some ⟨x.heap.size, 0, none⟩) n cap))) (by simp [execOp, go_sem, d02, d12, d22, fz2]) ?_
  refine tree_nil ?_
  have HO : Hid (Own w (((w7.setCell ⟨w.heap.size + 1, 0, none⟩ (.int .i64 pw)).setCell ⟨w.heap.size + 1, 1, none⟩ (.int .i64 ph)).setCell ⟨w.heap.size + 1, 2, none⟩ (.slice (some ⟨x.heap.size, 0, none⟩) n cap)) x.heap.size S) := by
    have hlt : w.heap.size + 1 < x.heap.size := by have := hx.1.size; omega
    have hne : ∀ j, (⟨x.heap.size, j, none⟩ : Addr) ≠ ⟨w.heap.size + 1, 0, none⟩ := fun j e => by injection e with e; omega
    refine ⟨(((HQ.out.trans hq2).set (Nat.le_succ _) _).set (Nat.le_succ _) _).set (Nat.le_succ _) _, by omega, fun i hi => ?_, fun j => ?_⟩
    · rw [World.cell?_setCell_other _ _ _ _ (fun e => by injection e with e; omega), World.cell?_setCell_other _ _ _ _ (fun e => by injection e with e; omega), World.cell?_setCell_other _ _ _ _ (fun e => by injection e with e; omega), Nat.zero_add]
      exact hc7 i hi
    · rw [World.frozen?_setCell, World.frozen?_setCell, World.frozen?_setCell]
      exact hf7 j
  have k0 : (((w7.setCell ⟨w.heap.size + 1, 0, none⟩ (.int .i64 pw)).setCell ⟨w.heap.size + 1, 1, none⟩ (.int .i64 ph)).setCell ⟨w.heap.size + 1, 2, none⟩ (.slice (some ⟨x.heap.size, 0, none⟩) n cap)).cell? ⟨w.heap.size + 1, 0, none⟩ = some (.int .i64 pw) := by simp [go_sem, d02, d12, d22]
  have k1 : (((w7.setCell ⟨w.heap.size + 1, 0, none⟩ (.int .i64 pw)).setCell ⟨w.heap.size + 1, 1, none⟩ (.int .i64 ph)).setCell ⟨w.heap.size + 1, 2, none⟩ (.slice (some ⟨x.heap.size, 0, none⟩) n cap)).cell? ⟨w.heap.size + 1, 1, none⟩ = some (.int .i64 ph) := by simp [go_sem, d02, d12, d22]
  have k2 : (((w7.setCell ⟨w.heap.size + 1, 0, none⟩ (.int .i64 pw)).setCell ⟨w.heap.size + 1, 1, none⟩ (.int .i64 ph)).setCell ⟨w.heap.size + 1, 2, none⟩ (.slice (some ⟨x.heap.size, 0, none⟩) n cap)).cell? ⟨w.heap.size + 1, 2, none⟩ = some (.slice (some ⟨x.heap.size, 0, none⟩) n cap) := by simp [go_sem, d02, d12, d22]
  generalize (((w7.setCell ⟨w.heap.size + 1, 0, none⟩ (.int .i64 pw)).setCell ⟨w.heap.size + 1, 1, none⟩ (.int .i64 ph)).setCell ⟨w.heap.size + 1, 2, none⟩ (.slice (some ⟨x.heap.size, 0, none⟩) n cap)) = w5 at *
  clear d02 d12 d22 fz2 hq2 hx c0 c1 c2 d0 d1 d2 fz hr7 hq7
  go_wp2_with fail
  have hb5 : x.heap.size < w5.heap.size := World.block_lt_of_cell? _ _ (HO.out.cells 0 (by rw [HN.out]; omega))
  exact bodyPost_ret (v := .agg #[.int .i64 pw, .int .i64 ph, .slice (some ⟨x.heap.size, 0, none⟩) n cap]) (by simp [results, Tryz.results16, go_sem, k0, k1, k2]) rfl ⟨_, rfl, x.heap.size, cap, rfl, hc1, hb5, HO.out⟩
theorem run_app_noneH (x : World) (ad : Option Addr) (c : Nat) : ∃ w7, (Builtin.append_ #[24, 24] 24 #[.slice none 0 0, .slice ad 0 c]).run Tryz.prog x = .ok (.slice none 0 0) w7 ∧ Q x w7 := by
  refine ⟨x, ?_, Q.refl x⟩
  cases ad <;> simp [Builtin.append_, go_sem]
set_option maxHeartbeats 2000000 in
set_option maxRecDepth 100000 in
theorem hcopy_none (w : World) (pw ph : Int) (ad : Option Addr) (c : Nat) :
    Calls Tryz.prog 16 #[.agg #[.int .i64 pw, .int .i64 ph, .slice ad 0 c]] w fun e w' => ∃ v, e = .returned v ∧ v = .agg #[.int .i64 pw, .int .i64 ph, .slice none 0 0] ∧ Q w w' := by
  go_enter Tryz.func16, Tryz.ntmps16
  go_wp2_with fail
  have HQ : Hid (Q w ((w.alloc (Obj.cells #[Value.int IntKind.i64 pw, Value.int IntKind.i64 ph, .slice ad 0 c] 26)).alloc (Obj.cells #[Value.int IntKind.i64 0, Value.int IntKind.i64 0, Value.slice none 0 0] 26))) := ((Q.refl w).cells _ _).cells _ _
  have c0 : ((w.alloc (Obj.cells #[Value.int IntKind.i64 pw, Value.int IntKind.i64 ph, .slice ad 0 c] 26)).alloc (Obj.cells #[Value.int IntKind.i64 0, Value.int IntKind.i64 0, Value.slice none 0 0] 26)).cell? ⟨w.heap.size, 0, none⟩ = some (.int .i64 pw) := by simp [go_sem]
  have c1 : ((w.alloc (Obj.cells #[Value.int IntKind.i64 pw, Value.int IntKind.i64 ph, .slice ad 0 c] 26)).alloc (Obj.cells #[Value.int IntKind.i64 0, Value.int IntKind.i64 0, Value.slice none 0 0] 26)).cell? ⟨w.heap.size, 1, none⟩ = some (.int .i64 ph) := by simp [go_sem]
  have c2 : ((w.alloc (Obj.cells #[Value.int IntKind.i64 pw, Value.int IntKind.i64 ph, .slice ad 0 c] 26)).alloc (Obj.cells #[Value.int IntKind.i64 0, Value.int IntKind.i64 0, Value.slice none 0 0] 26)).cell? ⟨w.heap.size, 2, none⟩ = some (.slice ad 0 c) := by simp [go_sem]
  have d0 : ((w.alloc (Obj.cells #[Value.int IntKind.i64 pw, Value.int IntKind.i64 ph, .slice ad 0 c] 26)).alloc (Obj.cells #[Value.int IntKind.i64 0, Value.int IntKind.i64 0, Value.slice none 0 0] 26)).cell? ⟨w.heap.size + 1, 0, none⟩ = some (.int .i64 0) := by simp [go_sem]
  have d1 : ((w.alloc (Obj.cells #[Value.int IntKind.i64 pw, Value.int IntKind.i64 ph, .slice ad 0 c] 26)).alloc (Obj.cells #[Value.int IntKind.i64 0, Value.int IntKind.i64 0, Value.slice none 0 0] 26)).cell? ⟨w.heap.size + 1, 1, none⟩ = some (.int .i64 0) := by simp [go_sem]
  have d2 : ((w.alloc (Obj.cells #[Value.int IntKind.i64 pw, Value.int IntKind.i64 ph, .slice ad 0 c] 26)).alloc (Obj.cells #[Value.int IntKind.i64 0, Value.int IntKind.i64 0, Value.slice none 0 0] 26)).cell? ⟨w.heap.size + 1, 2, none⟩ = some (.slice none 0 0) := by simp [go_sem]
  have fz : ∀ j, ((w.alloc (Obj.cells #[Value.int IntKind.i64 pw, Value.int IntKind.i64 ph, .slice ad 0 c] 26)).alloc (Obj.cells #[Value.int IntKind.i64 0, Value.int IntKind.i64 0, Value.slice none 0 0] 26)).frozen? ⟨w.heap.size + 1, j, none⟩ = false := fun j => by simp [go_sem]
  have hsz : ((w.alloc (Obj.cells #[Value.int IntKind.i64 pw, Value.int IntKind.i64 ph, .slice ad 0 c] 26)).alloc (Obj.cells #[Value.int IntKind.i64 0, Value.int IntKind.i64 0, Value.slice none 0 0] 26)).heap.size = w.heap.size + 2 := by simp
  generalize ((w.alloc (Obj.cells #[Value.int IntKind.i64 pw, Value.int IntKind.i64 ph, .slice ad 0 c] 26)).alloc (Obj.cells #[Value.int IntKind.i64 0, Value.int IntKind.i64 0, Value.slice none 0 0] 26)) = wz at *
  have n0 := qw_some wz
  have f0 := qw_cell c0
  have f1 := qw_cell c1
  have f2 := qw_cell c2
  refine wp_region_mk [0, 1, 2, 3, 4, 5] [[6, 7, 8]] 3 _ (by kernel_rfl) (by kernel_rfl) rfl (by kernel_rfl) ?_
  simp only [List.filterMap_cons, List.filterMap_nil, List.getElem?_cons_zero, List.getElem?_cons_succ]
  repeat (first | go_big_quiet_step (fail) | quiet_step (fail))
  refine wpQuiet_nil ?_
  intro x hx
  obtain ⟨iu, i1, i2, i3, i4⟩ := uInfoq
  obtain ⟨w7, hr7, hq7⟩ : ∃ w7, (Builtin.append_ #[24, 24] 24 #[.slice none 0 0, .slice ad 0 c]).run Tryz.prog x = .ok (.slice none 0 0) w7 ∧ Q x w7 := run_app_noneH x ad c
  have hq2 : Q wz w7 := hx.trans hq7
  refine tree_run 6 rfl rfl (v := .slice none 0 0) (x' := w7) (run_appopq rfl (v := .slice none 0 0) (v' := .slice ad 0 c) (by simp [Act.eval, Act.put]) (by simp [Act.eval, Act.put]) hr7) hq2 ?_
  refine tree_run 7 rfl rfl (v := .agg #[.int .i64 pw, .int .i64 ph, .slice none 0 0]) (x' := w7) (by simp [execOp, go_sem]) hq2 ?_
  have d02 := hq2.cell d0
  have d12 := hq2.cell d1
  have d22 := hq2.cell d2
  have fz2 : ∀ j, w7.frozen? ⟨w.heap.size + 1, j, none⟩ = false := fun j => (hq2.2 _).trans (fz j)
  refine tree_skipF 8 rfl rfl rfl (x' := (((w7.setCell ⟨w.heap.size + 1, 0, none⟩ (.int .i64 pw)).setCell ⟨w.heap.size + 1, 1, none⟩ (.int .i64 ph)).setCell ⟨w.heap.size + 1, 2, none⟩ (.slice none 0 0))) (by simp [execOp, go_sem, d02, d12, d22, fz2]) ?_
  refine tree_nil ?_
  have HO : Hid (Q w (((w7.setCell ⟨w.heap.size + 1, 0, none⟩ (.int .i64 pw)).setCell ⟨w.heap.size + 1, 1, none⟩ (.int .i64 ph)).setCell ⟨w.heap.size + 1, 2, none⟩ (.slice none 0 0))) := by
    exact (((HQ.out.trans hq2).set (Nat.le_succ _) _).set (Nat.le_succ _) _).set (Nat.le_succ _) _
  have k0 : (((w7.setCell ⟨w.heap.size + 1, 0, none⟩ (.int .i64 pw)).setCell ⟨w.heap.size + 1, 1, none⟩ (.int .i64 ph)).setCell ⟨w.heap.size + 1, 2, none⟩ (.slice none 0 0)).cell? ⟨w.heap.size + 1, 0, none⟩ = some (.int .i64 pw) := by simp [go_sem, d02, d12, d22]
  have k1 : (((w7.setCell ⟨w.heap.size + 1, 0, none⟩ (.int .i64 pw)).setCell ⟨w.heap.size + 1, 1, none⟩ (.int .i64 ph)).setCell ⟨w.heap.size + 1, 2, none⟩ (.slice none 0 0)).cell? ⟨w.heap.size + 1, 1, none⟩ = some (.int .i64 ph) := by simp [go_sem, d02, d12, d22]
  have k2 : (((w7.setCell ⟨w.heap.size + 1, 0, none⟩ (.int .i64 pw)).setCell ⟨w.heap.size + 1, 1, none⟩ (.int .i64 ph)).setCell ⟨w.heap.size + 1, 2, none⟩ (.slice none 0 0)).cell? ⟨w.heap.size + 1, 2, none⟩ = some (.slice none 0 0) := by simp [go_sem, d02, d12, d22]
  generalize (((w7.setCell ⟨w.heap.size + 1, 0, none⟩ (.int .i64 pw)).setCell ⟨w.heap.size + 1, 1, none⟩ (.int .i64 ph)).setCell ⟨w.heap.size + 1, 2, none⟩ (.slice none 0 0)) = w5 at *
  clear d02 d12 d22 fz2 hq2 hx c0 c1 c2 d0 d1 d2 fz hr7 hq7
  go_wp2_with fail
  exact bodyPost_ret (v := .agg #[.int .i64 pw, .int .i64 ph, .slice none 0 0]) (by simp [results, Tryz.results16, go_sem, k0, k1, k2]) rfl ⟨_, rfl, rfl, HO.out⟩
end Go.Proofs.YtieojgblamkgoaaGreatDoor
/- Lists of samples that are the same. -/
namespace Go.Proofs.YtieojgblamkgoaaGreatDoor
open Go.RowKit
set_option linter.unusedVariables false
set_option linter.unusedSimpArgs false

end Go.Proofs.YtieojgblamkgoaaGreatDoor
/- Planes that are the same. -/
namespace Go.Proofs.YtieojgblamkgoaaGreatDoor
open Go.RowKit
set_option linter.unusedVariables false
set_option linter.unusedSimpArgs false

end Go.Proofs.YtieojgblamkgoaaGreatDoor
/- The statements' helpers: sizes, planes that may be. (Out of BlL.) -/
namespace Go.Proofs.YtieojgblamkgoaaGreatDoor
open Go.RowKit
set_option linter.unusedVariables false
set_option linter.unusedSimpArgs false

set_option maxHeartbeats 2000000 in
set_option maxRecDepth 100000 in
theorem hsize_b (W H : Int) (w : World) : Calls Tryz.prog 58 #[.int .i64 W, .int .i64 H] w fun e w' => e = .returned (.bool (sizeB W H)) ∧ w' = w := by
  have E : Hid (sizeB W H = true ↔ SizeB W H) := sizeB_true
  have EF : Hid (¬ SizeB W H → sizeB W H = false) := fun h => by
    cases g : sizeB W H
    · rfl
    · exact absurd (sizeB_true.1 g) h
  generalize sizeB W H = b at *
  rcases Int.lt_or_le W 1 with h0 | h0
  · obtain rfl : b = false := EF.out (fun c => by unfold SizeB at c; omega)
    clear E EF
    go_enter Tryz.func58, Tryz.ntmps58
    go_wp2_with fail
    exact bodyPost_ret (v := .bool false) (by simp [results, Tryz.results58, go_sem] <;> omega) rfl ⟨rfl, rfl⟩
  rcases Int.lt_or_le H 1 with h1 | h1
  · obtain rfl : b = false := EF.out (fun c => by unfold SizeB at c; omega)
    clear E EF
    go_enter Tryz.func58, Tryz.ntmps58
    go_wp2_with fail
    exact bodyPost_ret (v := .bool false) (by simp [results, Tryz.results58, go_sem] <;> omega) rfl ⟨rfl, rfl⟩
  rcases Int.lt_or_le 1024 W with h2 | h2
  · obtain rfl : b = false := EF.out (fun c => by unfold SizeB at c; omega)
    clear E EF
    go_enter Tryz.func58, Tryz.ntmps58
    go_wp2_with fail
    exact bodyPost_ret (v := .bool false) (by simp [results, Tryz.results58, go_sem] <;> omega) rfl ⟨rfl, rfl⟩
  rcases Int.lt_or_le 1024 H with h3 | h3
  · obtain rfl : b = false := EF.out (fun c => by unfold SizeB at c; omega)
    clear E EF
    go_enter Tryz.func58, Tryz.ntmps58
    go_wp2_with fail
    exact bodyPost_ret (v := .bool false) (by simp [results, Tryz.results58, go_sem] <;> omega) rfl ⟨rfl, rfl⟩
  have hb1 : 0 ≤ W * H := Int.mul_nonneg (by omega) (by omega)
  have hb2 : W * H ≤ 1048576 := Int.le_trans (Int.mul_le_mul h2 h3 (by omega) (by omega)) (by decide)
  rcases Int.lt_or_le 65536 (W * H) with h4 | h4
  · obtain rfl : b = false := EF.out (fun c => by unfold SizeB at c; omega)
    clear E EF
    go_enter Tryz.func58, Tryz.ntmps58
    go_wp2_with fail
    exact bodyPost_ret (v := .bool false) (by simp [results, Tryz.results58, go_sem] <;> omega) rfl ⟨rfl, rfl⟩
  · obtain rfl : b = true := E.out.2 (by unfold SizeB; omega)
    clear E EF
    go_enter Tryz.func58, Tryz.ntmps58
    go_wp2_with fail
    exact bodyPost_ret (v := .bool true) (by simp [results, Tryz.results58, go_sem] <;> omega) rfl ⟨rfl, rfl⟩
set_option maxHeartbeats 2000000 in
set_option maxRecDepth 100000 in
theorem may_any (W H : Int) (ad : Option Addr) (n c : Nat) (w : World) : Calls Tryz.prog 20 #[.agg #[.int .i64 W, .int .i64 H, .slice ad n c]] w fun e w' => e = .returned (.int .i64 (chk W H n)) ∧ Q w w' := by
  obtain ⟨w1, hw1⟩ : ∃ w1, w.alloc (.cells #[.int .i64 W, .int .i64 H, .slice ad n c] 26) = w1 := ⟨_, rfl⟩
  have HQ : Hid (Q w w1) := by show Q w w1; rw [← hw1]; exact (Q.refl w).cells _ _
  have k0 : w1.cell? ⟨w.heap.size, 0, none⟩ = some (.int .i64 W) := by rw [← hw1]; simp [go_sem]
  have k1 : w1.cell? ⟨w.heap.size, 1, none⟩ = some (.int .i64 H) := by rw [← hw1]; simp [go_sem]
  have k2 : w1.cell? ⟨w.heap.size, 2, none⟩ = some (.slice ad n c) := by rw [← hw1]; simp [go_sem]
  have C := hsize_b W H w1
  cases hs : sizeB W H
  · rw [hs] at C
    rw [chk_bad hs]
    go_enter Tryz.func20, Tryz.ntmps20
    go_wp2_with fail
    refine C.mono ?_
    rintro e w2 ⟨rfl, hw2⟩
    obtain rfl := hw2.symm
    clear hw2 C
    go_wp2_with fail
    go_ret
    exact ⟨rfl, HQ.out⟩
  · rw [hs] at C
    have hb := sizeB_true.1 hs
    have hb1 : 0 ≤ W * H := Int.mul_nonneg (by unfold SizeB at hb; omega) (by unfold SizeB at hb; omega)
    have hb2 : W * H ≤ 65536 := by unfold SizeB at hb; omega
    by_cases hn : (n : Int) = W * H
    · rw [chk_ok hs hn]
      have e1 : ((n : Int) != W * H) = false := by simpa using hn
      clear hn hb hs
      go_enter Tryz.func20, Tryz.ntmps20
      go_wp2_with fail
      refine C.mono ?_
      rintro e w2 ⟨rfl, hw2⟩
      obtain rfl := hw2.symm
      clear hw2 C
      go_wp2_with fail
      go_ret
      exact ⟨rfl, HQ.out⟩
    · rw [chk_count hs hn]
      have e1 : ((n : Int) != W * H) = true := by simpa using hn
      clear hn hb hs
      go_enter Tryz.func20, Tryz.ntmps20
      go_wp2_with fail
      refine C.mono ?_
      rintro e w2 ⟨rfl, hw2⟩
      obtain rfl := hw2.symm
      clear hw2 C
      go_wp2_with fail
      go_ret
      exact ⟨rfl, HQ.out⟩
end Go.Proofs.YtieojgblamkgoaaGreatDoor
/- The statement StatRanks: its walk. -/
namespace Go.Proofs.YtieojgblamkgoaaGreatDoor
open Go.RowKit
set_option linter.unusedVariables false
set_option linter.unusedSimpArgs false

/-- A copy, empty or not. -/
theorem hcopy_al2 (w : World) (pw ph : Int) (ad : Option Addr) (n c : Nat) (S : List Nat) (hS : S.length = n) (hU : USl w (.slice ad n c) S) (h2 : n ≤ 1000000) :
    Calls Tryz.prog 16 #[.agg #[.int .i64 pw, .int .i64 ph, .slice ad n c]] w fun e w' => ∃ ad' c', e = .returned (.agg #[.int .i64 pw, .int .i64 ph, .slice ad' n c']) ∧ USl w' (.slice ad' n c') S ∧ Q w w' := by
  rcases Nat.lt_or_ge 0 n with h1 | h1
  · obtain ⟨g, o, cap, hv, hc, hI⟩ := hU.some (by omega)
    injection hv with hv1 _ _
    subst hv1
    refine (hcopy_some w pw ph g o n c S hS hI h1 h2).mono ?_
    rintro e w' ⟨v, rfl, b, cap', rfl, hc', hb, hO⟩
    refine ⟨_, _, rfl, ?_, hO.q⟩
    have := hO.cells.usl (cap := cap') (by omega)
    rw [hS] at this
    exact this
  · obtain rfl : n = 0 := by omega
    obtain rfl : S = [] := List.length_eq_zero_iff.1 hS
    refine (hcopy_none w pw ph ad c).mono ?_
    rintro e w' ⟨v, rfl, rfl, q⟩
    exact ⟨_, _, rfl, Or.inr ⟨_, _, rfl, rfl⟩, q⟩
end Go.Proofs.YtieojgblamkgoaaGreatDoor
/- The statement StatRises: its walk. -/
namespace Go.Proofs.YtieojgblamkgoaaGreatDoor
open Go.RowKit
set_option linter.unusedVariables false
set_option linter.unusedSimpArgs false

theorem srk_at {S : List Nat} {k : Nat} {ki : Int} (h : ki = (k : Int)) (hk : k < S.length) : srkV 0 S ki = (rkV S k, 0) := by
  subst h
  unfold srkV
  rw [if_neg (fun h => h rfl), if_neg (by omega), Int.toNat_natCast]
/-- What is summed up so far. -/
def upN (c : Nat → Nat) (i : Nat) : Nat := if i = 0 then 0 else preN c (i - 1)
theorem upN_next (c : Nat → Nat) (i : Nat) : upN c (i + 1) = upN c i + c i ∧ upN c (i + 1) = preN c i := by
  unfold upN
  rw [if_neg (by omega), Nat.add_sub_cancel]
  refine ⟨?_, rfl⟩
  cases i with
  | zero => simp [preN]
  | succ i => simp [preN]
set_option maxHeartbeats 8000000 in
set_option maxRecDepth 100000 in
theorem srises_walk (W0 : World) (pw ph b i j : Int) (sv : Value) (S : List Nat) (us : USl W0 sv S) (hSb : ∀ i, S.getD i 0 < 4294967296) (hml : S.length ≤ 9223372036854775807) (hT : Tab W0) :
    Calls Tryz.prog 7 #[.agg #[.int .i64 pw, .int .i64 ph, sv], .int .i64 b, .int .i64 i, .int .i64 j] W0 fun e w' => e = .returned (.bool true) ∧ Qb W0 w' := by
  obtain ⟨ad, c, rfl⟩ := us.form
  obtain ⟨n, hn⟩ : ∃ n, S.length = n := ⟨_, rfl⟩
  rw [hn] at us hml ⊢
  obtain ⟨w1, hw1⟩ : ∃ w1, W0.alloc (.cells #[.int .i64 pw, .int .i64 ph, .slice ad n c] 26) = w1 := ⟨_, rfl⟩
  have q1 : Q W0 w1 := by rw [← hw1]; exact (Q.refl W0).cells _ _
  have p0 : w1.cell? ⟨W0.heap.size, 0, none⟩ = some (.int .i64 pw) := by rw [← hw1]; simp [go_sem]
  have p1 : w1.cell? ⟨W0.heap.size, 1, none⟩ = some (.int .i64 ph) := by rw [← hw1]; simp [go_sem]
  have p2 : w1.cell? ⟨W0.heap.size, 2, none⟩ = some (.slice ad n c) := by rw [← hw1]; simp [go_sem]
  have HK : Hid (Calls Tryz.prog 9 #[] w1 fun e w' => e = .returned (.bool true) ∧ Qb w1 w') := known16_any w1 (q1.tab hT)
  obtain ⟨E, hE⟩ : ∃ E, chk pw ph n = E := ⟨_, rfl⟩
  have HCk : Hid (chk pw ph n = E) := hE
  have mm0 := fun x => may_any pw ph ad n c x
  simp only [hE] at mm0
  have HMm : Hid _ := mm0
  clear mm0
  have HZ : Hid (E = 0 → ∃ pa pb : Nat, pw = pa ∧ ph = pb ∧ Size pa pb ∧ n = pa * pb) := fun h => by
    obtain ⟨a, b, h1, h2, hs, he⟩ := chk_zero (hE.trans h)
    exact ⟨a, b, h1, h2, hs, he⟩
  have HU : Hid (USl w1 (.slice ad n c) S) := us.next q1
  have HQ1 : Hid (Qb W0 w1) := q1.qb
  have HN : Hid (S.length = n) := hn
  have HB : Hid (∀ i, S.getD i 0 < 4294967296) := hSb
  have HT1 : Hid (Tab w1) := q1.tab hT
  clear us q1 hE hT hSb hml hn
  obtain ⟨bp, hbp⟩ : ∃ bp, W0.heap.size = bp := ⟨_, rfl⟩
  rw [hbp] at p0 p1 p2
  go_enter Tryz.func7, Tryz.ntmps7
  go_wp2_with fail
  clear hw1 hbp
  refine Calls.mono HK.out ?_
  rintro e w2 ⟨rfl, q2⟩
  have p0 := q2.cell p0
  have p1 := q2.cell p1
  have p2 := q2.cell p2
  have HQ2 : Hid (Qb W0 w2) := HQ1.out.trans q2
  have HU2 : Hid (USl w2 (.slice ad n c) S) := HU.out.nextB q2
  have HT2 : Hid (Tab w2) := fun j hj => q2.cell (HT1.out j hj)
  clear q2 HQ1 HU HK HT1
  go_wp2_with fail
  refine Calls.mono (HMm.out _) ?_
  rintro e w3 ⟨rfl, q3⟩
  have p0 := q3.cell p0
  have p1 := q3.cell p1
  have p2 := q3.cell p2
  have HQ3 : Hid (Qb W0 w3) := HQ2.out.trans q3.qb
  have HU3 : Hid (USl w3 (.slice ad n c) S) := HU2.out.next q3
  have HT3 : Hid (Tab w3) := q3.tab HT2.out
  clear q3 HQ2 HU2 HMm HT2
  by_cases hE : E = 0
  · subst hE
    obtain ⟨pa, pb, rfl, rfl, hsz, hnn⟩ := HZ.out rfl
    have hpos : 1 ≤ n := by rw [hnn]; exact hsz.pos
    have HNN : Hid (n = pa * pb) := hnn
    clear hnn HZ
    by_cases h6 : (600 : Int) < (n : Int)
    · go_wp2_with fail
      go_ret
      exact ⟨rfl, HQ3.out⟩
    by_cases h7 : b < 1
    · go_wp2_with fail
      go_ret
      exact ⟨rfl, HQ3.out⟩
    by_cases h8 : 12 < b
    · go_wp2_with fail
      go_ret
      exact ⟨rfl, HQ3.out⟩
    by_cases h9 : i < 0
    · go_wp2_with fail
      go_ret
      exact ⟨rfl, HQ3.out⟩
    by_cases h10 : j < i
    · go_wp2_with fail
      go_ret
      exact ⟨rfl, HQ3.out⟩
    by_cases h11 : (n : Int) ≤ j
    · go_wp2_with fail
      go_ret
      exact ⟨rfl, HQ3.out⟩
    obtain ⟨B, rfl⟩ : ∃ B : Nat, b = (B : Int) := ⟨b.toNat, by omega⟩
    obtain ⟨I, rfl⟩ : ∃ I : Nat, i = (I : Int) := ⟨i.toNat, by omega⟩
    obtain ⟨J, rfl⟩ : ∃ J : Nat, j = (J : Int) := ⟨j.toNat, by omega⟩
    have hn6 : n ≤ 600 := by omega
    have hIJ : I ≤ J := by omega
    have hJ : J < n := by omega
    have hNn := HN.out
    subst hNn
    have HM : Hid (∀ s ∈ S, s < 4294967296) := mem_of_getD HB.out
    have HCp : Hid _ := fun x u => hcopy_al2 x pa pb ad S.length c S rfl u (by omega)
    have KR : Hid (∀ (k : Nat) (ki : Int) (x : World), ki = (k : Int) → k < S.length → USl x (.slice ad S.length c) S → Calls Tryz.prog 17 #[.agg #[.int .i64 (pa : Int), .int .i64 (pb : Int), .slice ad S.length c], .int .i64 ki] x fun e w' => e = .returned (.tuple #[.int .u32 ((rkV S k : Nat) : Int), .int .i64 0]) ∧ Qb x w') := fun k ki x h hk u => by
      have := srank_any pa pb ad S.length c S ki x u rfl HB.out (by omega)
      rw [HCk.out, srk_at h hk] at this
      exact this
    have KL : Hid (∀ (ad' : Option Addr) (c' : Nat) (x : World), USl x (.slice ad' S.length c') S → Calls Tryz.prog 23 #[.agg #[.int .i64 (pa : Int), .int .i64 (pb : Int), .slice ad' S.length c'], .int .i64 (B : Int)] x fun e w' => ∃ G, e = .returned (.tuple #[.agg #[.int .i64 (pa : Int), .int .i64 (pb : Int), .slice (some ⟨G, 0, none⟩) S.length S.length], .int .i64 0]) ∧ VR w' G S.length (fun i => .int .u32 ((lvlV B S (S.getD i 0) : Nat) : Int)) ∧ Q x w') := fun ad' c' x u => by
      refine (slevel_any pa pb ad' S.length c' S B x u rfl HB.out (by omega)).mono ?_
      rintro e w' ⟨x1, y1, a1, m1, c1, E1, rfl, L⟩
      have hbb : bitsB (B : Int) = true := by unfold bitsB; exact decide_eq_true (by omega)
      have hs0 : slvE (chk pa pb S.length) B = 0 := by
        rw [HCk.out]
        unfold slvE
        rw [if_neg (fun h => h rfl), hbb, if_pos rfl]
      rw [hs0] at L
      obtain ⟨G, e1, e2, e3, e4, e5, hv, _⟩ := L.good rfl
      have e6 := L.e
      subst e1 e2 e3 e4 e5 e6
      rw [Int.toNat_natCast] at hv
      exact ⟨G, rfl, hv, L.q⟩
    -- a copy, and all of it
    have HAll : Hid (∀ (y : World) (ad' : Option Addr) (c' : Nat), USl y (.slice ad' S.length c') S → Calls Tryz.prog 27 #[.agg #[.int .i64 (pa : Int), .int .i64 (pb : Int), .slice ad' S.length c'], .int .i64 (B : Int), .slice none 0 0, .bool false] y fun e w' => ∃ P, e = .returned (.pointer (some ⟨P, 0, none⟩)) ∧ (∃ A H kc L, StAt w' P A H B kc L ∧ L.Perm S) ∧ Q y w') := fun y ad' c' u => by
      obtain ⟨g4, o4, cap4, hv4, hcap4, hI4⟩ := u.some (by omega)
      injection hv4 with hv1 hv2 hv3
      subst hv1 hv3
      refine (all_any pa pb g4 o4 c' B S (.slice none 0 0) [] false y (by omega) (by omega) ⟨hsz, HNN.out, rfl, hcap4, hI4⟩ (Or.inr ⟨_, _, rfl, rfl⟩) HB.out (by decide)).mono ?_
      rintro e w' ⟨P, A, H, kc, L, rfl, hS, hp, _, hq⟩
      exact ⟨P, rfl, ⟨A, H, kc, L, hS, hp⟩, hq⟩
    clear hsz HNN
    go_wp2_with fail
    clear h6 h7 h8 h9 h10 h11
    refine Calls.mono (HCp.out _ HU3.out) ?_
    rintro e w4 ⟨ad4, c4, rfl, u4, q4⟩
    have HKA : Hid _ := HAll.out w4 ad4 c4 u4
    clear u4
    go_wp2_with fail
    refine Calls.mono HKA.out ?_
    rintro e w5 ⟨P, rfl, hS, q5⟩
    have q35 := q4.trans q5
    have p0 := q35.cell p0
    have p1 := q35.cell p1
    have p2 := q35.cell p2
    have HQ5 : Hid (Qb W0 w5) := HQ3.out.trans q35.qb
    have HU5 : Hid (USl w5 (.slice ad S.length c) S) := HU3.out.next q35
    have HT5 : Hid (Tab w5) := q35.tab HT3.out
    have HS5 : Hid (∃ A H kc L, StAt w5 P A H B kc L ∧ L.Perm S) := hS
    clear q35 q4 q5 hS HKA HQ3 HU3 HT3 HAll
    go_wp2_with fail
    refine Calls.mono (HCp.out _ HU5.out) ?_
    rintro e w6 ⟨ad6, c6, rfl, u6, q6⟩
    have HKL : Hid _ := KL.out ad6 c6 w6 u6
    clear u6
    go_wp2_with fail
    refine Calls.mono HKL.out ?_
    rintro e w7 ⟨G, rfl, hG, q7⟩
    obtain ⟨w8, hw8⟩ : ∃ w8, w7.alloc (.cells #[.int .i64 (pa : Int), .int .i64 (pb : Int), .slice (some ⟨G, 0, none⟩) S.length S.length] 26) = w8 := ⟨_, rfl⟩
    have q78 : Q w7 w8 := by rw [← hw8]; exact (Q.refl w7).cells _ _
    have q58 : Q w5 w8 := (q6.trans q7).trans q78
    have j2 : w8.cell? ⟨w7.heap.size, 2, none⟩ = some (.slice (some ⟨G, 0, none⟩) S.length S.length) := by rw [← hw8]; simp [go_sem]
    obtain ⟨bq, hbq⟩ : ∃ bq, w7.heap.size = bq := ⟨_, rfl⟩
    rw [hbq] at j2
    have p0 := q58.cell p0
    have p1 := q58.cell p1
    have p2 := q58.cell p2
    have HQ8 : Hid (Qb W0 w8) := HQ5.out.trans q58.qb
    have HU8 : Hid (USl w8 (.slice ad S.length c) S) := HU5.out.next q58
    have HT8 : Hid (Tab w8) := q58.tab HT5.out
    have HS8 : Hid (∃ A H kc L, StAt w8 P A H B kc L ∧ L.Perm S) := by
      obtain ⟨A, H, kc, L, h, hp⟩ := HS5.out
      exact ⟨A, H, kc, L, h.next q58, hp⟩
    have HG8 : Hid (VR w8 G S.length (fun i => .int .u32 ((lvlV B S (S.getD i 0) : Nat) : Int))) := hG.next q78
    have lG := hG.lt (by omega)
    have lG8 : G < w8.heap.size := Nat.lt_of_lt_of_le lG q78.1.size
    clear q6 q7 q78 q58 hG lG HKL HQ5 HU5 HT5 HS5 HCp KL
    go_wp2_with fail
    clear hw8 hbq
    refine Calls.mono (KR.out I _ _ rfl (by omega) HU8.out) ?_
    rintro e w9 ⟨rfl, q9⟩
    have p0 := q9.cell p0
    have p1 := q9.cell p1
    have p2 := q9.cell p2
    have j2 := q9.cell j2
    have HQ9 : Hid (Qb W0 w9) := HQ8.out.trans q9
    have HU9 : Hid (USl w9 (.slice ad S.length c) S) := HU8.out.nextB q9
    go_wp2_with fail
    refine Calls.mono (KR.out J _ _ rfl (by omega) HU9.out) ?_
    rintro e w10 ⟨rfl, q10⟩
    have p0 := q10.cell p0
    have p1 := q10.cell p1
    have p2 := q10.cell p2
    have j2 := q10.cell j2
    have q810 := q9.trans q10
    have HQ10 : Hid (Qb W0 w10) := HQ9.out.trans q10
    have HU10 : Hid (USl w10 (.slice ad S.length c) S) := HU9.out.nextB q10
    have HT10 : Hid (Tab w10) := fun j hj => q810.cell (HT8.out j hj)
    have HS10 : Hid (∃ A H kc L, StAt w10 P A H B kc L ∧ L.Perm S) := by
      obtain ⟨A, H, kc, L, h, hp⟩ := HS8.out
      exact ⟨A, H, kc, L, h.nextB q810, hp⟩
    have HG10 : Hid (VR w10 G S.length (fun i => .int .u32 ((lvlV B S (S.getD i 0) : Nat) : Int))) := VR.nextB HG8.out lG8 q810
    clear q9 q10 q810 HQ8 HU8 HT8 HS8 HG8 HQ9 HU9 lG8
    have og : (FloatKind.f32.format.order (rkV S I) (rkV S J) == some Ordering.gt) = false := key_gt (rk_lt (by omega) HM.out) (rk_lt (by omega) HM.out) (rk_rises hIJ (by omega))
    have lf := f32from
    generalize rkV S I = ra at *
    generalize rkV S J = rb at *
    obtain ⟨A, H, kc, L, hS10, hperm⟩ := HS10.out
    have hm : ∀ s ∈ L, s < 4294967296 := fun s hs => HM.out s (hperm.mem_iff.1 hs)
    have hll : L.length = S.length := hperm.length_eq
    have HSt : Hid (StAt w10 P A H B kc L) := hS10
    have KH : Hid (∀ x, Q w10 x → Calls Tryz.prog 30 #[.pointer (some ⟨P, 0, none⟩)] x fun e w' => ∃ v, e = .returned v ∧ ISl w' v (hisL B S) ∧ Q x w') := fun x q => by rw [← hisL_perm hperm]; exact shist_any P A H B kc L x (HSt.out.next q)
    have KE : Hid (∀ x, Q w10 x → Calls Tryz.prog 31 #[.pointer (some ⟨P, 0, none⟩)] x fun e w' => e = .returned (.tuple #[.int .u32 ((endsV S).1 : Nat), .int .u32 ((endsV S).2.1 : Nat), .int .i64 (endsV S).2.2]) ∧ Q x w') := fun x q => by rw [← ends_perm hperm]; exact sends_any P A H B kc L x (HSt.out.next q) hm
    have KN : Hid (∀ x, Qb w10 x → Calls Tryz.prog 33 #[.pointer (some ⟨P, 0, none⟩)] x fun e w' => e = .returned (.int .i64 (nanC S : Nat)) ∧ w' = x) := fun x q => by rw [← nanC_perm hperm]; exact snans_any P A H B kc L x (HSt.out.nextB q)
    have KC : Hid (∀ x, Qb w10 x → Calls Tryz.prog 32 #[.pointer (some ⟨A, 0, none⟩)] x fun e w' => e = .returned (.int .i64 (S.length : Int)) ∧ w' = x) := fun x q => by
      obtain ⟨N, hA⟩ := (HSt.out.nextB q).acc
      rw [← hll]
      exact acount_any A _ x hA.c
    have s0 := hS10.p0
    have HF : Hid (nanC S = 0 → endsV S = (rkV S 0, rkV S (S.length - 1), 0)) := fun h => ends_ranks HM.out hpos h
    have HTot : Hid (preN (clsC B S) (2 ^ B - 1) = S.length) := his_total (by omega) HM.out
    have HSo : Hid (∀ k, preN (clsC B S) k ≤ S.length) := preN_le B S
    have HTop : Hid (nanC S = S.length ∨ ∃ j, j < S.length ∧ lvlV B S (S.getD j 0) = 1065353216) := by
      by_cases e : numL S = []
      · left
        have := num_nan S
        rw [e] at this
        simpa using this
      · right
        obtain ⟨s, hs, h⟩ := lvl_top (by omega) HM.out e (b := B)
        obtain ⟨j, hj, e⟩ := List.getElem_of_mem hs
        refine ⟨j, hj, ?_⟩
        have e2 : S.getD j 0 = s := by rw [List.getD_eq_getElem?_getD, List.getElem?_eq_getElem hj]; exact e
        rw [e2]; exact h
    have HUp : Hid (∀ j k, j < S.length → (FloatKind.f32.format.order (S.getD j 0) (S.getD k 0) == some Ordering.lt) = true → (FloatKind.f32.format.order (lvlV B S (S.getD j 0)) (lvlV B S (S.getD k 0)) == some Ordering.lt || FloatKind.f32.format.order (lvlV B S (S.getD j 0)) (lvlV B S (S.getD k 0)) == some Ordering.eq) = true) := fun j k hj h => by
      obtain ⟨n1, n2, hk⟩ := lt_key (HB.out j) (HB.out k) h
      exact lvl_rises (by omega) (getD_mem hj) n1 n2 hk
    have HL2 : Hid (1 ≤ 2 ^ B ∧ 2 ^ B ≤ 4096) := ⟨Nat.one_le_two_pow, Nat.le_trans (Nat.pow_le_pow_right (by decide) (show B ≤ 12 by omega)) (by decide)⟩
    clear HS10 hS10 hm hll hperm hIJ hJ
    go_wp2_with fail
    refine Calls.mono (KH.out _ (Q.refl _)) ?_
    rintro e w11 ⟨hv, rfl, hI, q11⟩
    obtain ⟨gh, oh, ch, rfl, hIc⟩ := hI.some (by rw [hisL_len]; exact HL2.out.1)
    rw [hisL_len] at hIc ⊢
    have p0 := q11.cell p0
    have p1 := q11.cell p1
    have p2 := q11.cell p2
    have j2 := q11.cell j2
    have s0 := q11.cell s0
    have HQ11 : Hid (Qb W0 w11) := HQ10.out.trans q11.qb
    have HU11 : Hid (USl w11 (.slice ad S.length c) S) := HU10.out.next q11
    have HG11 : Hid (VR w11 G S.length (fun i => .int .u32 ((lvlV B S (S.getD i 0) : Nat) : Int))) := HG10.out.next q11
    have HQA : Hid (Q w10 w11) := q11
    have HCe : Hid (∀ i, i < 2 ^ B → w11.cell? ⟨gh, oh + i, none⟩ = some (.int .i64 ((clsC B S i : Nat) : Int))) := fun i hi => by rw [hIc i hi, hisL_get hi]
    clear hI hIc q11 HQ10 HU10 HG10 KH HSt
    obtain ⟨cc, hcc⟩ : ∃ cc, clsC B S = cc := ⟨_, rfl⟩
    obtain ⟨N, hN⟩ : ∃ N, 2 ^ B = N := ⟨_, rfl⟩
    rw [hcc] at HTot HSo HCe
    rw [hN] at HTot HCe HL2 ⊢
    clear hcc hN
    go_wp2_with fail
    go_loopg [20, 21] N (fun m s20 s21 wr => ∃ i : Nat, s20 = .int .i64 ((upN cc i : Nat) : Int) ∧ s21 = .int .i64 (i : Int) ∧ i + m = N ∧ Hid (wr = w11))
    case atStart => exact ⟨0, rfl, rfl, by omega, rfl⟩
    case round =>
      obtain ⟨i, rfl, rfl, hi, HX⟩ := hrel
      have hx := HX.out
      subst hx
      have hN4 := HL2.out.2
      by_cases hlt : i < N
      · have hc := HCe.out i hlt
        obtain ⟨e1, e2⟩ := upN_next cc i
        have hbd : upN cc i + cc i ≤ 600 := by rw [← e1, e2]; exact Nat.le_trans (HSo.out i) hn6
        have HE : Hid (upN cc i + cc i = upN cc (i + 1)) := e1.symm
        generalize upN cc i = up at *
        generalize cc i = ci at *
        have ew : wrap64 ((up : Int) + (ci : Int)) = ((up + ci : Nat) : Int) := by unfold wrap64; omega
        have hki : (i : Int) < (N : Int) := by omega
        clear e1 e2
        go_wp2_with fail
        go_roundg (N - (i + 1))
        case measure => go_light; omega
        case rel => go_light; exact ⟨i + 1, by rw [← HE.out]; simp, by go_num, by omega, rfl⟩
      · obtain rfl : i = N := by omega
        have hge : ¬ (i : Int) < (i : Int) := by omega
        have hup : upN cc i = S.length := by
          unfold upN
          rw [if_neg (by have := HL2.out.1; omega)]
          exact HTot.out
        rw [hup]
        clear hup hi HX HCe HSo HTot HL2 hN4 hlt
        obtain ⟨d0, hd0⟩ : ∃ d, endsV S = d := ⟨_, rfl⟩
        rw [hd0] at HF
        simp only [hd0] at KE
        obtain ⟨x, y, d⟩ := d0
        clear hd0
        go_wp2_with fail
        refine Calls.mono (KE.out _ HQA.out) ?_
        rintro e w12 ⟨rfl, q12⟩
        have p0 := q12.cell p0
        have p1 := q12.cell p1
        have p2 := q12.cell p2
        have j2 := q12.cell j2
        have s0 := q12.cell s0
        have HQ12 : Hid (Qb W0 w12) := HQ11.out.trans q12.qb
        have HU12 : Hid (USl w12 (.slice ad S.length c) S) := HU11.out.next q12
        have HG12 : Hid (VR w12 G S.length (fun i => .int .u32 ((lvlV B S (S.getD i 0) : Nat) : Int))) := HG11.out.next q12
        have HA12 : Hid (Q w10 w12) := HQA.out.trans q12
        have lG12 := HG12.out.lt (by omega)
        clear HQ11 HU11 HG11 HQA q12 KE
        go_wp2_with fail
        refine Calls.mono (KR.out 0 _ _ rfl (by omega) HU12.out) ?_
        rintro e w13 ⟨rfl, q13⟩
        have p0 := q13.cell p0
        have p1 := q13.cell p1
        have p2 := q13.cell p2
        have j2 := q13.cell j2
        have s0 := q13.cell s0
        have HU13 : Hid (USl w13 (.slice ad S.length c) S) := HU12.out.nextB q13
        have HL13 : Hid (rkV S 0 = rkV S 0) := rfl
        go_wp2_with fail
        refine Calls.mono (KR.out (S.length - 1) _ _ (by omega) (by omega) HU13.out) ?_
        rintro e w14 ⟨rfl, q14⟩
        have q1214 := q13.trans q14
        have p0 := q14.cell p0
        have p1 := q14.cell p1
        have p2 := q14.cell p2
        have j2 := q14.cell j2
        have s0 := q14.cell s0
        have HQ14 : Hid (Qb W0 w14) := HQ12.out.trans q1214
        have HU14 : Hid (USl w14 (.slice ad S.length c) S) := HU13.out.nextB q14
        have HG14 : Hid (VR w14 G S.length (fun i => .int .u32 ((lvlV B S (S.getD i 0) : Nat) : Int))) := VR.nextB HG12.out lG12 q1214
        have KC14 : Hid _ := KC.out w14 (HA12.out.qb.trans q1214)
        have KN14 : Hid _ := KN.out w14 (HA12.out.qb.trans q1214)
        clear HQ12 HU12 HG12 HA12 lG12 HU13 HL13 q13 q14 q1214 KC KN KR
        generalize rkV S 0 = r0 at *
        generalize rkV S (S.length - 1) = r1 at *
        generalize nanC S = nc at *
        obtain ⟨g, o, cap, hv, hcap, hIs⟩ := HU14.out.some (by omega)
        injection hv with hv1 hv2 hv3
        subst hv1 hv3
        have HIs : Hid (∀ i, i < S.length → w14.cell? ⟨g, o + i, none⟩ = some (.int .u32 ((S.getD i 0 : Nat) : Int))) := hIs
        have HVs : Hid (∀ i, i < S.length → w14.cell? ⟨G, i, none⟩ = some (.int .u32 ((lvlV B S (S.getD i 0) : Nat) : Int))) := HG14.out.cell
        have HP2 : Hid _ := p2
        have HJ2 : Hid _ := j2
        have hsp : (x = r0 ∧ y = r1 ∧ d = 0 ∧ ((nc : Int) == 0) = true) ∨ (((nc : Int) == 0) = false) := by
          by_cases h : nc = 0
          · have := HF.out h
            injection this with e1 e2
            injection e2 with e2 e3
            exact Or.inl ⟨e1, e2, e3, by rw [h]; rfl⟩
          · right; rw [beq_eq_false_iff_ne]; omega
        have hcmp : ∃ ob : Bool, ((nc : Int) == (S.length : Int)) = ob ∧ (nc = S.length → ob = true) := ⟨_, rfl, fun h => by rw [h]; simp⟩
        obtain ⟨ob, hob, hob2⟩ := hcmp
        have HOb : Hid (nc = S.length → ob = true) := hob2
        clear hIs hcap hv2 HU14 HG14 HF hob2
        go_wp2_with fail
        refine Calls.mono KC14.out ?_
        rintro e w15 ⟨rfl, hw15⟩
        obtain rfl := hw15.symm
        clear hw15 KC14
        rcases hsp with ⟨rfl, rfl, rfl, hnz⟩ | hnz
        all_goals
          go_wp2_with fail
          refine Calls.mono KN14.out ?_
          rintro e w16 ⟨rfl, hw16⟩
          obtain rfl := hw16.symm
          clear hw16
          go_wp2_with fail
          refine Calls.mono KN14.out ?_
          rintro e w16 ⟨rfl, hw16⟩
          obtain rfl := hw16.symm
          clear hw16 KN14 hnz og
          go_wp2_with fail
          go_loopg [29, 30] S.length (fun m s29 s30 wx => ∃ (oo : Bool) (k : Nat), s29 = .bool oo ∧ s30 = .int .i64 (k : Int) ∧ k + m = S.length ∧ Hid (((nc = S.length ∨ ∃ j, j < k ∧ lvlV B S (S.getD j 0) = 1065353216) → oo = true) ∧ Q w14 wx))
          case atStart =>
            refine ⟨ob, 0, rfl, rfl, by omega, fun h => ?_, Q.refl _⟩
            rcases h with h | ⟨j, hj, _⟩
            · exact HOb.out h
            · exact absurd hj (Nat.not_lt_zero _)
          case round =>
            clear hob HOb
            obtain ⟨oo, k, rfl, rfl, hk, HX⟩ := hrel
            by_cases hlt : k < S.length
            · have sk := HX.out.2.cell (HIs.out k hlt)
              have p2 := HX.out.2.cell HP2.out
              have HLk := HX.out.1
              have HQk : Hid (Q w14 _) := HX.out.2
              have HUk : Hid _ := fun t => HUp.out k t hlt
              have HVk : Hid _ := HVs.out k hlt
              have hk0 : (k : Int) < (S.length : Int) := by omega
              have HNx : Hid ((nc = S.length ∨ ∃ j, j < k + 1 ∧ lvlV B S (S.getD j 0) = 1065353216) → oo = true ∨ lvlV B S (S.getD k 0) = 1065353216) := fun h => by
                rcases h with h | ⟨j, hj, h⟩
                · exact Or.inl (HLk (Or.inl h))
                · by_cases e : j = k
                  · exact Or.inr (by rw [← e]; exact h)
                  · exact Or.inl (HLk (Or.inr ⟨j, by omega, h⟩))
              generalize S.getD k 0 = s at *
              generalize lvlV B S s = u at *
              clear HX HLk
              go_wp2_with fail
              go_loopg [32] S.length (fun m s32 wy => ∃ (t : Nat), s32 = .int .i64 (t : Int) ∧ t + m = S.length ∧ Hid (Q w14 wy))
              case atStart => exact ⟨0, rfl, by omega, HQk.out⟩
              case round =>
                obtain ⟨t, rfl, ht, HY⟩ := hrel
                by_cases hlt2 : t < S.length
                · have st := HY.out.cell (HIs.out t hlt2)
                  have vt := HY.out.cell (HVs.out t hlt2)
                  have vk := HY.out.cell HVk.out
                  have p2 := HY.out.cell HP2.out
                  have j2 := HY.out.cell HJ2.out
                  have hup := HUk.out t
                  have ht0 : (t : Int) < (S.length : Int) := by omega
                  have HYk : Hid (Q w14 _) := HY.out
                  generalize S.getD t 0 = s2 at *
                  generalize lvlV B S s2 = u2 at *
                  clear HY
                  cases hol : (FloatKind.f32.format.order s s2 == some Ordering.lt)
                  · clear hup vt vk j2 HUk
                    have d1 := qw_cell st
                    have d2 := qw_cell p2
                    have n0 := qw_some wr
                    go_wp2_with fail
                    refine wp_region_quiet_Q (by kernel_rfl) (by kernel_rfl) ?_
                    repeat (first | go_big_quiet_step (fail) | quiet_step (fail))
                    refine wpQuiet_nil ?_
                    intro w17 hw'
                    have HYn : Hid (Q w14 w17) := HYk.out.trans (qw_out hw')
                    clear hw' d1 d2 n0 st p2 hol HYk
                    go_wp2_with fail
                    go_roundg (S.length - (t + 1))
                    case measure => go_light; omega
                    case rel => go_light; exact ⟨t + 1, by go_num, by omega, HYn⟩
                  · have hle := hup hol
                    clear hup HUk
                    have d1 := qw_cell st
                    have d2 := qw_cell p2
                    have d3 := qw_cell vt
                    have d4 := qw_cell vk
                    have d5 := qw_cell j2
                    have n0 := qw_some wr
                    go_wp2_with fail
                    refine wp_region_quiet_Q (by kernel_rfl) (by kernel_rfl) ?_
                    repeat (first | go_big_quiet_step (fail) | quiet_step (fail))
                    refine wpQuiet_nil ?_
                    intro w17 hw'
                    have HYn : Hid (Q w14 w17) := HYk.out.trans (qw_out hw')
                    clear hw' d1 d2 d3 d4 d5 n0 st p2 vt vk j2 hol hle HYk
                    go_wp2_with fail
                    go_roundg (S.length - (t + 1))
                    case measure => go_light; omega
                    case rel => go_light; exact ⟨t + 1, by go_num, by omega, HYn⟩
                · obtain rfl : t = S.length := by omega
                  have vk := HY.out.cell HVk.out
                  have j2 := HY.out.cell HJ2.out
                  have HYk : Hid (Q w14 _) := HY.out
                  have hge : ¬ (S.length : Int) < (S.length : Int) := by omega
                  clear HY HUk HVk
                  cases oo
                  · by_cases hu : u = 1065353216
                    · subst hu
                      go_wp2_with fail
                      go_roundg (S.length - (k + 1))
                      case measure => go_light; omega
                      case rel => go_light; exact ⟨true, k + 1, by simp, by go_num, by omega, fun _ => rfl, HYk.out⟩
                    · have hub : ((u : Int) == 1065353216) = false := by rw [beq_eq_false_iff_ne]; omega
                      have HNo : Hid (¬ (nc = S.length ∨ ∃ j, j < k + 1 ∧ lvlV B S (S.getD j 0) = 1065353216)) := fun h => by
                        rcases HNx.out h with e | e
                        · cases e
                        · exact hu e
                      clear hu HNx
                      go_wp2_with fail
                      go_roundg (S.length - (k + 1))
                      case measure => go_light; omega
                      case rel => go_light; exact ⟨false, k + 1, by simp, by go_num, by omega, fun h => absurd h HNo.out, HYk.out⟩
                  · go_wp2_with fail
                    go_roundg (S.length - (k + 1))
                    case measure => go_light; omega
                    case rel => go_light; exact ⟨true, k + 1, by simp, by go_num, by omega, fun _ => rfl, HYk.out⟩
            · obtain rfl : k = S.length := by omega
              have := HX.out.1 HTop.out
              subst this
              have HQE : Hid (Qb W0 _) := HQ14.out.trans HX.out.2.qb
              go_wp2_with fail
              go_ret
              exact ⟨rfl, HQE.out⟩
  · have hne : (E != 0) = true := by simpa using hE
    clear HZ hE
    go_wp2_with fail
    go_ret
    exact ⟨rfl, HQ3.out⟩
end Go.Proofs.YtieojgblamkgoaaGreatDoor

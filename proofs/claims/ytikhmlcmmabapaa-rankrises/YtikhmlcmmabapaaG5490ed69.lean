/- rank: a window, an array of samples. -/
import Derived.Test.YtikhmlcmmabapaaGa921ac76
import Derived.Deep.WholeRow
namespace Go.Proofs.Ytikhmlcmmabapaa
open Go.RowKit
set_option linter.unusedVariables false
set_option linter.unusedSimpArgs false

/-- The zero of a window. -/
def zWc : Array Value := Array.replicate 225 (.int .u32 0)
theorem winInfo : (∀ w : World, (zeroValue 73).run Try.prog w = .ok (.agg zWc) w) ∧ (Try.prog.info? 73).map (·.size) = some 225 := zero_of_info (by kernel_rfl)
theorem zWc_size : zWc.size = 225 := by unfold zWc; simp
/-- Samples, and noughts behind them. -/
def wnA (L : List Nat) : Array Value := ((List.range 225).map fun j => Value.int .u32 ((L.getD j 0 : Nat) : Int)).toArray
theorem wnA_size (L : List Nat) : (wnA L).size = 225 := by unfold wnA; simp
theorem wnA_at (L : List Nat) {j : Nat} (h : j < 225) : (wnA L)[j]? = some (.int .u32 ((L.getD j 0 : Nat) : Int)) := by
  unfold wnA
  simp [h]
theorem wnA_one (L : List Nat) : (wnA L).all (·.oneCell') = true := by
  rw [Array.all_eq_true_iff_forall_mem]
  intro v hv
  unfold wnA at hv
  simp only [List.mem_toArray, List.mem_map] at hv
  obtain ⟨j, _, rfl⟩ := hv
  rfl
/-- A window out of its box. -/
theorem load_win (x : World) (b : Nat) (L : List Nat) (h : ∀ i, i < 225 → x.cell? ⟨b, i, none⟩ = some (.int .u32 ((L.getD i 0 : Nat) : Int))) : (loadVar 73 ⟨b, 0, none⟩).run Try.prog x = .ok (.agg (wnA L)) x := by
  have hl : (loadCells ⟨b, 0, none⟩ (wnA L).toList.length).run Try.prog x = .ok (wnA L).toList.toArray x :=
    run_loadCells_list (P := Try.prog) x ⟨b, 0, none⟩ (wnA L).toList (fun j v hv => by
      have hadd : (⟨b, 0, none⟩ : Addr).add j = ⟨b, j, none⟩ := by unfold Addr.add; split <;> simp_all
      have hj : j < 225 := by
        have := (List.getElem?_eq_some_iff.1 hv).1
        rw [Array.length_toList, wnA_size] at this
        exact this
      rw [hadd, h j hj, ← wnA_at L hj, ← hv]
      simp)
  have hu : Try.prog.underlying 73 = some (.array 225 38) := by kernel_rfl
  have hi := winInfo.2
  rw [Array.length_toList, Array.toArray_toList] at hl
  cases hq : Try.prog.info? 73 with
  | none => rw [hq] at hi; simp at hi
  | some i =>
    rw [hq] at hi
    have hs : i.size = (wnA L).size := by rw [wnA_size]; simpa using hi
    have hagg : (isAgg 73).run Try.prog x = .ok true x := by
      unfold isAgg
      rw [Sem.run_bind, run_underlying hu x]; rfl
    simp [loadVar, Sem.run_bind, hagg, sizeOf, typeInfo, hq, hs, hl]
theorem load_winA (x : World) (b : Nat) (L : List Nat) (h : ∀ i, i < 225 → x.cell? ⟨b, i, none⟩ = some (.int .u32 ((L.getD i 0 : Nat) : Int))) : (Instr.loadAt 73 (.pointer (some ⟨b, 0, none⟩))).run Try.prog x = .ok (.agg (wnA L)) x := by
  simp only [Instr.loadAt, Instr.sureAddr, Sem.run_bind, Sem.run_pure, Result.andThen]
  exact load_win x b L h
/-- A window into a box of noughts. -/
theorem store_winA (x : World) (b : Nat) (L : List Nat) (h : x.heap[b]? = some (.cells zWc 73 (0, 0))) : (Instr.storeAt 73 (.pointer (some ⟨b, 0, none⟩)) (.agg (wnA L))).run Try.prog x = .ok () (x.setRow b (wnA L)) := by
  simp only [Instr.storeAt, Instr.sureAddr, Sem.run_bind, Sem.run_pure, Result.andThen]
  exact run_storeVar_row x b 73 73 zWc (wnA L) h (by rw [wnA_size]; exact winInfo.2) (by rw [zWc_size, wnA_size]) (wnA_one L)
theorem setrow_q {w x : World} {b : Nat} {c old : Array Value} {t : TypeId} (h : Q w x) (hb : w.heap.size ≤ b) (hx : x.heap[b]? = some (.cells old t (0, 0))) : Q w (x.setRow b c) := by
  refine ⟨⟨h.1.os, h.1.tape, h.1.output, by rw [setRow_size]; exact h.1.size, fun k hk => by rw [setRow_other _ _ _ _ (by omega)]; exact h.1.block k hk⟩, fun a => ?_⟩
  rw [← h.2 a]
  unfold World.frozen?
  by_cases hab : a.block = b
  · rw [hab, setRow_heap _ _ _ c _ _ hx, hx]
  · rw [setRow_other _ _ _ _ hab]
theorem wpList_load_win {ops : Array Oper} {rest : List Oper} {d : Option Tmp} {p : Nat} {ty : TypeId} {ps : String} {af : Array Edge} {a : Act} {w : World} {R : Exit → Act → World → Prop} (b : Nat) (L : List Nat) (hx : a.eval (.tmp p) = .pointer (some ⟨b, 0, none⟩)) (h : ∀ i, i < 225 → w.cell? ⟨b, i, none⟩ = some (.int .u32 ((L.getD i 0 : Nat) : Int))) (hk : wpList Try.prog ops R rest (a.put d (.agg (wnA L))) w) : wpList Try.prog ops R ({ dst := d, op := .load 73 (.tmp p), type := ty, pos := ps, after := af, guard := none } :: rest) a w := by
  refine wpList_plain rfl fun _ hK => ?_
  unfold Oper.wp execOp
  simp only [hx, Sem.run_bind, Sem.run_pure, Result.andThen_ok, load_winA w b L h]
  exact hK _ _ hk
theorem wpList_store_win {ops : Array Oper} {rest : List Oper} {d : Option Tmp} {p q : Nat} {ty : TypeId} {ps : String} {af : Array Edge} {a : Act} {w : World} {R : Exit → Act → World → Prop} (b : Nat) (L : List Nat) (hx : a.eval (.tmp p) = .pointer (some ⟨b, 0, none⟩)) (hy : a.eval (.tmp q) = .agg (wnA L)) (h : w.heap[b]? = some (.cells zWc 73 (0, 0))) (hk : wpList Try.prog ops R rest (a.put d undef) (w.setRow b (wnA L))) : wpList Try.prog ops R ({ dst := d, op := .store 73 (.tmp p) (.tmp q), type := ty, pos := ps, after := af, guard := none } :: rest) a w := by
  refine wpList_plain rfl fun _ hK => ?_
  unfold Oper.wp execOp
  simp only [hx, hy, Sem.run_bind, Sem.run_pure, Result.andThen_ok, store_winA w b L h]
  exact hK _ _ hk
set_option maxHeartbeats 8000000 in
set_option maxRecDepth 100000 in
theorem window_any (pa pb W H x y g1 n1 g2 n2 gs os sl cs : Nat) (S : List Nat) (X Y : Nat → Nat) (w : World) (hS : S.length = sl) (hI : UIs w gs os S) (hcs : sl ≤ cs) (hsl : sl ≤ 65536) (hsp : sl = pa * pb) (ha : 1 ≤ pa) (ha2 : pa ≤ 1024) (hb2 : pb ≤ 1024) (hW : 1 ≤ W) (hW2 : W ≤ 15) (hH : 1 ≤ H) (hH2 : H ≤ 15) (hx : x + W ≤ n1) (hy : y + H ≤ n2) (hn1 : n1 ≤ 5000) (hn2 : n2 ≤ 5000)
    (hV1 : VR w g1 n1 (fun i => .int .i64 ((X i : Nat) : Int))) (hV2 : VR w g2 n2 (fun i => .int .i64 ((Y i : Nat) : Int))) (hX : ∀ i, X i < pa) (hY : ∀ i, Y i < pb) :
    Calls Try.prog 38 #[vwV pa pb (.slice (some ⟨gs, os, none⟩) sl cs) g1 n1 g2 n2, .int .i64 (W : Int), .int .i64 (H : Int), .int .i64 (x : Int), .int .i64 (y : Int)] w fun e w' => e = .returned (.agg (wnA (tab W H fun i j => smp S pa (X (x + i)) (Y (y + j))))) ∧ Q w w' := by
  obtain ⟨hz, hi⟩ := winInfo
  have HI : Hid _ := hi
  unfold vwV
  obtain ⟨L, hL⟩ : ∃ L, (tab W H fun i j => smp S pa (X (x + i)) (Y (y + j))) = L := ⟨_, rfl⟩
  have HLa : Hid (∀ i j, i < W → j < H → L.getD (j * W + i) 0 = S.getD (Y (y + j) * pa + X (x + i)) 0) := fun i j hi hj => by
    rw [← hL, tab_get (place_lt hi hj), place_mod j hi, place_div j hi]; rfl
  have HLz : Hid (L.length = W * H) := by show L.length = _; rw [← hL]; exact tab_length _ _ _
  rw [hL]
  clear hL
  obtain ⟨w1, hw1⟩ : ∃ w1, w.alloc (.cells #[.int .i64 (pa : Int), .int .i64 (pb : Int), .slice (some ⟨gs, os, none⟩) sl cs, .slice (some ⟨g1, 0, none⟩) n1 n1, .slice (some ⟨g2, 0, none⟩) n2 n2] 70) = w1 := ⟨_, rfl⟩
  obtain ⟨w2, hw2⟩ : ∃ w2, w1.alloc (.cells zWc 73) = w2 := ⟨_, rfl⟩
  obtain ⟨w3, hw3⟩ : ∃ w3, w2.alloc (.cells zWc 73) = w3 := ⟨_, rfl⟩
  have q1 : Q w w1 := by rw [← hw1]; exact (Q.refl w).cells _ _
  have q2 : Q w1 w2 := by rw [← hw2]; exact (Q.refl w1).cells _ _
  have q3 : Q w2 w3 := by rw [← hw3]; exact (Q.refl w2).cells _ _
  have s1 : w1.heap.size = w.heap.size + 1 := by rw [← hw1]; simp
  have s2 : w2.heap.size = w1.heap.size + 1 := by rw [← hw2]; simp
  have s3 : w3.heap.size = w2.heap.size + 1 := by rw [← hw3]; simp
  have k0 : w1.cell? ⟨w.heap.size, 0, none⟩ = some (.int .i64 (pa : Int)) := by rw [← hw1]; simp [go_sem]
  have k2 : w1.cell? ⟨w.heap.size, 2, none⟩ = some (.slice (some ⟨gs, os, none⟩) sl cs) := by rw [← hw1]; simp [go_sem]
  have k3 : w1.cell? ⟨w.heap.size, 3, none⟩ = some (.slice (some ⟨g1, 0, none⟩) n1 n1) := by rw [← hw1]; simp [go_sem]
  have k4 : w1.cell? ⟨w.heap.size, 4, none⟩ = some (.slice (some ⟨g2, 0, none⟩) n2 n2) := by rw [← hw1]; simp [go_sem]
  have hb2 : w2.heap[w1.heap.size]? = some (.cells zWc 73 (0, 0)) := by rw [← hw2]; exact heap_alloc_last w1 _
  have hb3 : w3.heap[w2.heap.size]? = some (.cells zWc 73 (0, 0)) := by rw [← hw3]; exact heap_alloc_last w2 _
  have HB : Hid ((w2.cell? ⟨w.heap.size, 0, none⟩ = some (.int .i64 (pa : Int)) ∧ w2.cell? ⟨w.heap.size, 2, none⟩ = some (.slice (some ⟨gs, os, none⟩) sl cs) ∧ w2.cell? ⟨w.heap.size, 3, none⟩ = some (.slice (some ⟨g1, 0, none⟩) n1 n1) ∧ w2.cell? ⟨w.heap.size, 4, none⟩ = some (.slice (some ⟨g2, 0, none⟩) n2 n2)) ∧ Q w w2 ∧ w2.heap[w1.heap.size]? = some (.cells zWc 73 (0, 0)) ∧ w1.heap.size < w2.heap.size ∧ w.heap.size < w1.heap.size ∧ w2.heap.size < w3.heap.size) := ⟨⟨q2.cell k0, q2.cell k2, q2.cell k3, q2.cell k4⟩, q1.trans q2, hb2, by omega, by omega, by omega⟩
  have HV0 : Hid (VR w3 w2.heap.size 225 (sofar (fun t => .int .u32 ((L.getD t 0 : Nat) : Int)) (.int .u32 0) 0) ∧ Q w2 w3) := by
    refine ⟨⟨fun i hi => ?_, fun j => frozen_of_row _ _ _ _ _ hb3⟩, q3⟩
    rw [cell_of_row _ _ i _ _ (0, 0) hb3]
    unfold zWc sofar
    simp [hi]
  have HI1 : Hid (UIs w gs os S ∧ S.length = sl ∧ VR w g1 n1 (fun i => .int .i64 ((X i : Nat) : Int)) ∧ VR w g2 n2 (fun i => .int .i64 ((Y i : Nat) : Int)) ∧ (∀ i, X i < pa) ∧ (∀ i, Y i < pb) ∧ sl = pa * pb) := ⟨hI, hS, hV1, hV2, hX, hY, hsp⟩
  clear hI hS hV1 hV2 hX hY hsp q1 q2 q3 s1 s2 s3 k0 k2 k3 k4 hb2 hb3 hi
  go_enter Try.func38, Try.ntmps38
  go_wp2_with fail
  clear hw1 hw2 hw3 hz
  go_loopg [16] H (fun m s16 wr => ∃ j : Nat, s16 = .int .i64 (j : Int) ∧ j + m = H ∧ Hid (VR wr w2.heap.size 225 (sofar (fun t => .int .u32 ((L.getD t 0 : Nat) : Int)) (.int .u32 0) (j * W)) ∧ Q w2 wr))
  case atStart => exact ⟨0, rfl, by omega, by rw [Nat.zero_mul]; exact HV0⟩
  case round =>
    clear HV0
    obtain ⟨j, rfl, hj, HX⟩ := hrel
    by_cases hlt : j < H
    · have hlt' : (j : Int) < (H : Int) := by omega
      have q3r := HX.out.2
      have qr := HB.out.2.1.trans q3r
      have c0 := q3r.cell HB.out.1.1
      have c2 := q3r.cell HB.out.1.2.1
      have c4 := q3r.cell HB.out.1.2.2.2
      have cy := qr.cell (HI1.out.2.2.2.1.cell (y + j) (by omega))
      obtain ⟨Yv, hYv⟩ : ∃ Yv, Y (y + j) = Yv := ⟨_, rfl⟩
      have hYl : Yv < pb := by rw [← hYv]; exact HI1.out.2.2.2.2.2.1 _
      rw [hYv] at cy
      have HYv : Hid (Y (y + j) = Yv) := hYv
      obtain ⟨yj, hyj⟩ : ∃ yj, y + j = yj := ⟨_, rfl⟩
      have eyj : (y : Int) + (j : Int) = (yj : Int) := by omega
      rw [hyj] at cy
      have hyj2 : yj < n2 := by omega
      have hyj3 : (yj : Int) < (n2 : Int) := by omega
      obtain ⟨ya, hya⟩ : ∃ ya, Yv * pa = ya := ⟨_, rfl⟩
      have eya : (Yv : Int) * (pa : Int) = (ya : Int) := by rw [← Int.natCast_mul, hya]
      have hya2 : ya + pa ≤ sl := by
        rw [HI1.out.2.2.2.2.2.2, ← hya, ← Nat.succ_mul, Nat.mul_comm]
        exact Nat.mul_le_mul_left _ hYl
      have HYa : Hid (Yv * pa = ya) := hya
      have hwy : IntKind.i64.wrap (yj : Int) = (yj : Int) := by rw [IntKind.wrap_i64]; omega
      have hwa : IntKind.i64.wrap (ya : Int) = (ya : Int) := by rw [IntKind.wrap_i64]; omega
      have n0 := qw_some wr
      have f0 := qw_cell c0
      have f1 := qw_cell c2
      have f2 := qw_cell c4
      have f3 := qw_cell cy
      clear hYv hyj hya c0 c2 c4 cy q3r qr
      go_wp2_with fail
      refine wp_region_quiet_Q (by kernel_rfl) (by kernel_rfl) ?_
      repeat (first | go_big_quiet_step (fail) | quiet_step (fail))
      refine wpQuiet_nil ?_
      intro w4 hw'
      have hq4 := qw_out hw'
      have HX4 : Hid (VR w4 w2.heap.size 225 (sofar (fun t => .int .u32 ((L.getD t 0 : Nat) : Int)) (.int .u32 0) (j * W)) ∧ Q w2 w4) := ⟨HX.out.1.next hq4, HX.out.2.trans hq4⟩
      clear hw' n0 f0 f1 f2 f3 hq4 HX
      obtain ⟨jW, hjW⟩ : ∃ jW, j * W = jW := ⟨_, rfl⟩
      have ejW : (j : Int) * (W : Int) = (jW : Int) := by rw [← Int.natCast_mul, hjW]
      rw [hjW] at HX4
      have hjW2 : jW + W ≤ 225 := by
        have h1 : (j + 1) * W ≤ 15 * 15 := Nat.mul_le_mul (by omega) hW2
        rw [Nat.succ_mul, hjW] at h1; omega
      have HJW : Hid (j * W = jW) := hjW
      clear hjW
      go_wp2_with fail
      go_loopg [14, 35] W (fun m s14 s35 wx => ∃ i : Nat, s35 = .int .i64 (i : Int) ∧ i + m = W ∧ Hid (VR wx w2.heap.size 225 (sofar (fun t => .int .u32 ((L.getD t 0 : Nat) : Int)) (.int .u32 0) (jW + i)) ∧ Q w2 wx))
      case atStart => exact ⟨0, rfl, by omega, HX4⟩
      case round =>
        clear HX4
        obtain ⟨i, rfl, hi, HX⟩ := hrel
        by_cases hli : i < W
        · have hli' : (i : Int) < (W : Int) := by omega
          have q3r := HX.out.2
          have qr := HB.out.2.1.trans q3r
          have c3 := q3r.cell HB.out.1.2.2.1
          have cx := qr.cell (HI1.out.2.2.1.cell (x + i) (by omega))
          obtain ⟨Xv, hXv⟩ : ∃ Xv, X (x + i) = Xv := ⟨_, rfl⟩
          have hXl : Xv < pa := by rw [← hXv]; exact HI1.out.2.2.2.2.1 _
          rw [hXv] at cx
          obtain ⟨xi, hxi⟩ : ∃ xi, x + i = xi := ⟨_, rfl⟩
          have exi : (x : Int) + (i : Int) = (xi : Int) := by omega
          rw [hxi] at cx
          have hxi2 : xi < n1 := by omega
          have hxi3 : (xi : Int) < (n1 : Int) := by omega
          have cs0 := qr.cell (HI1.out.1 (ya + Xv) (by rw [HI1.out.2.1]; omega))
          have e0 : L.getD (jW + i) 0 = S.getD (ya + Xv) 0 := by
            rw [← HJW.out, HLa.out i j hli hlt, HYv.out, HYa.out, hXv]
          rw [← e0] at cs0
          have hoff : os + (ya + Xv) = os + ya + Xv := by omega
          rw [hoff] at cs0
          have hXl2 : Xv < sl - ya := by omega
          have hXl3 : (Xv : Int) < ((sl - ya : Nat) : Int) := by omega
          obtain ⟨t, ht⟩ : ∃ t, jW + i = t := ⟨_, rfl⟩
          have et : (jW : Int) + (i : Int) = (t : Int) := by omega
          have ht2 : t < 225 := by omega
          have ht3 : (t : Int) < 225 := by omega
          have HY2 : Hid (VR (wr.setCell ⟨w2.heap.size, t, none⟩ (.int .u32 ((L.getD t 0 : Nat) : Int))) w2.heap.size 225 (sofar (fun t => .int .u32 ((L.getD t 0 : Nat) : Int)) (.int .u32 0) (t + 1)) ∧ Q w2 (wr.setCell ⟨w2.heap.size, t, none⟩ (.int .u32 ((L.getD t 0 : Nat) : Int)))) := by
            have hv := HX.out.1
            rw [ht] at hv
            exact ⟨hv.fill ht2 rfl, HX.out.2.set (Nat.le_refl _) _⟩
          rw [ht] at cs0
          obtain ⟨u, hu⟩ : ∃ u, wr.cell? ⟨w2.heap.size, t, none⟩ = some u := ⟨_, HX.out.1.cell t ht2⟩
          have fu := HX.out.1.free t
          obtain ⟨z, hz⟩ : ∃ z, L.getD t 0 = z := ⟨_, rfl⟩
          rw [hz] at cs0 HY2
          have HT : Hid (jW + i = t) := ht
          clear hz hXv hxi e0 hoff ht q3r qr HX
          go_wp2_with fail
          generalize wr.setCell ⟨w2.heap.size, t, none⟩ (.int .u32 (z : Int)) = w8 at HY2 ⊢
          go_roundg (W - (i + 1))
          case measure => go_light; omega
          case rel => go_light; exact ⟨i + 1, by go_num, by omega, by rw [← Nat.add_assoc, HT.out]; exact HY2⟩
        · obtain rfl : i = W := by omega
          have hge : ¬ (i : Int) < (i : Int) := by omega
          have HZ : Hid (VR wr w2.heap.size 225 (sofar (fun t => .int .u32 ((L.getD t 0 : Nat) : Int)) (.int .u32 0) ((j + 1) * i)) ∧ Q w2 wr) := by
            have h := HX.out
            rw [← HJW.out, ← Nat.succ_mul] at h
            exact h
          clear HX
          go_wp2_with fail
          go_roundg (H - (j + 1))
          case measure => go_light; omega
          case rel => go_light; exact ⟨j + 1, by go_num, by omega, HZ⟩
    · obtain rfl : j = H := by omega
      have hge : ¬ (j : Int) < (j : Int) := by omega
      have hall : ∀ t, t < 225 → wr.cell? ⟨w2.heap.size, t, none⟩ = some (.int .u32 ((L.getD t 0 : Nat) : Int)) := fun t ht => by
        have := HX.out.1.cell t ht
        rw [this]
        unfold sofar
        split
        · rfl
        · rw [List.getD_eq_getElem?_getD, List.getElem?_eq_none (by rw [HLz.out, Nat.mul_comm]; omega)]; rfl
      have hbl : wr.heap[w1.heap.size]? = some (.cells zWc 73 (0, 0)) := by
        rw [HX.out.2.1.block _ HB.out.2.2.2.1]; exact HB.out.2.2.1
      have HQ9 : Hid (Q w (wr.setRow w1.heap.size (wnA L))) := setrow_q (HB.out.2.1.trans HX.out.2) (by have := HB.out.2.2.2.2.1; omega) hbl
      have HAL : Hid _ := hall
      have HBL : Hid (wr.heap[w1.heap.size]? = some (.cells zWc 73 (0, 0))) := hbl
      clear hall hbl
      go_wp2_with (refine wpList_load_win w2.heap.size L rfl HAL.out ?_; refine wpList_store_win w1.heap.size L rfl rfl HBL.out ?_)
      have hrw := results_cell_row (P := Try.prog) (fn := Try.f38) (p := 10) (ty := 73) (by kernel_rfl)
      refine bodyPost_ret (v := .agg (wnA L)) (hrw _ _ w1.heap.size 73 (wnA L) (0, 0) (.array 225 38) rfl (setRow_heap _ _ _ _ _ _ HBL.out) (by kernel_rfl) rfl (by rw [wnA_size]; exact HI.out)) rfl ⟨rfl, HQ9.out⟩
end Go.Proofs.Ytikhmlcmmabapaa

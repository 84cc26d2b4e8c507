/- Convert of pictures: to the own space, and where there is no way. -/
import Derived.Test.YtdempklpmggdoaaG878259ac
import Derived.Test.YtdempklpmggdoaaGd6a80e7b
import Derived.Test.YtdempklpmggdoaaGa461e7cf
namespace Go.Proofs.Ytdempklpmggdoaa
open Go.RowKit
set_option linter.unusedVariables false
set_option linter.unusedSimpArgs false

theorem spc_bd {k n : Int} (h : spcB k n = true) : 0 ≤ k ∧ k ≤ 4 := by
  unfold spcB at h
  simp at h
  omega
set_option maxHeartbeats 2000000 in
set_option maxRecDepth 100000 in
theorem conv8_same (k : Int) (w : World) (g o cap a b n : Nat) (L : List PL) (h : Pc w g o a b L) (hn : L.length = n) (hcap : n ≤ cap) (hsp : spcB k n = true) :
    Calls Try.prog 8 #[.agg #[.int .i64 k, .slice (some ⟨g, o, none⟩) n cap], .int .i64 k] w fun e w' => ∃ g' cap' M, e = .returned (.tuple #[.agg #[.int .i64 k, .slice (some ⟨g', 0, none⟩) n cap'], .int .i64 0]) ∧ M.map PL.S = L.map PL.S ∧ Hid (Nw w.heap.size w' g' cap' a b M) ∧ Q w w' := by
  have HP : Hid (Pc w g o a b L) := h
  have HC : Hid (∀ w : World, Calls Try.prog 22 #[.int .i64 k, .int .i64 k, .int .u32 0, .int .u32 0, .int .u32 0] w fun e w' => e = .returned (.tuple #[.int .u32 0, .int .u32 0, .int .u32 0, .int .i64 0]) ∧ Q w w') := fun w => conv_same k (spc_bd hsp).1 (spc_bd hsp).2 0 0 0 w
  have HN : Hid (L.length = n) := hn
  have HS : Hid (spcB k n = true) := hsp
  have e1 : (k == k) = true := by simp
  clear h hn hsp
  go_enter Try.func8, Try.ntmps8
  go_wp2_with fail
  refine (pcheck_good (HP.out.next (((Q.refl w).cells _ _).cells _ _)) HN.out hcap HS.out).mono ?_
  rintro e w1 ⟨rfl, q1⟩
  have HQ1 : Hid (Q w w1) := (((Q.refl w).cells _ _).cells _ _).trans q1
  have p0 : w1.cell? ⟨w.heap.size, 0, none⟩ = some (.int .i64 k) := q1.cell (by simp [go_sem])
  have p1 : w1.cell? ⟨w.heap.size, 1, none⟩ = some (.slice (some ⟨g, o, none⟩) n cap) := q1.cell (by simp [go_sem])
  have r0 : w1.cell? ⟨w.heap.size + 1, 0, none⟩ = some (.int .i64 0) := q1.cell (by simp [go_sem])
  have r1 : w1.cell? ⟨w.heap.size + 1, 1, none⟩ = some (.slice none 0 0) := q1.cell (by simp [go_sem])
  have rf : ∀ j, w1.frozen? ⟨w.heap.size + 1, j, none⟩ = false := fun j => (q1.2 _).trans (by simp [go_sem])
  clear q1
  go_wp2_with fail
  refine (HC.out w1).mono ?_
  rintro e w2 ⟨rfl, q2⟩
  have HQ2 : Hid (Q w w2) := HQ1.out.trans q2
  replace p0 := q2.cell p0
  replace p1 := q2.cell p1
  replace r0 := q2.cell r0
  replace r1 := q2.cell r1
  replace rf : ∀ j, w2.frozen? ⟨w.heap.size + 1, j, none⟩ = false := fun j => (q2.2 _).trans (rf j)
  clear q2
  go_wp2_with fail
  refine (copied_any w2 k g o cap a b n L (HP.out.next HQ2.out) HN.out hcap).mono ?_
  rintro e w3 ⟨g3, cap3, M, rfl, hM, HW, q3⟩
  unfold picV
  have hs2 := HQ2.out.1.size
  have hlt : w.heap.size + 1 < w2.heap.size := cell_in r0
  replace r0 := q3.cell r0
  replace r1 := q3.cell r1
  replace rf : ∀ j, w3.frozen? ⟨w.heap.size + 1, j, none⟩ = false := fun j => (q3.2 _).trans (rf j)
  have HQ3 : Hid (Q w w3) := HQ2.out.trans q3
  have HM : Hid (M.map PL.S = L.map PL.S) := hM
  have HW' : Hid (Nw (w.heap.size + 2) w3 g3 cap3 a b M) := HW.out.mono (by omega)
  clear q3 hM
  go_wp2_with fail
  have F9 : Fr w3 ((w3.setCell ⟨w.heap.size + 1, 0, none⟩ (.int .i64 k)).setCell ⟨w.heap.size + 1, 1, none⟩ (.slice (some ⟨g3, 0, none⟩) n cap3)) (fun b => b ≠ w.heap.size + 1) := ((Fr.refl w3 _).set (fun h => h rfl) _).set (fun h => h rfl) _
  refine bodyPost_ret (v := .tuple #[.agg #[.int .i64 k, .slice (some ⟨g3, 0, none⟩) n cap3], .int .i64 0]) (by simp [results, Try.results8, go_sem, r0, r1]) rfl ⟨g3, cap3, M, rfl, HM.out, (HW'.out.keep F9 (by have := HW'.out.low; omega) (fun x hx => by have := (HW'.out.it x hx).1.low; omega)).mono (by omega), (HQ3.out.set (by show _ ≤ w.heap.size + 1; omega) _).set (by show _ ≤ w.heap.size + 1; omega) _⟩
set_option maxHeartbeats 2000000 in
set_option maxRecDepth 100000 in
theorem conv8_bad {k l : Int} (hc : ∀ w : World, Calls Try.prog 22 #[.int .i64 k, .int .i64 l, .int .u32 ((0 : Nat) : Int), .int .u32 ((0 : Nat) : Int), .int .u32 ((0 : Nat) : Int)] w fun e w' => e = .returned (t4 0 0 0 70) ∧ Q w w') (w : World) (g o cap a b n : Nat) (L : List PL) (h : Pc w g o a b L) (hn : L.length = n) (hcap : n ≤ cap) (hsp : spcB k n = true) :
    Calls Try.prog 8 #[.agg #[.int .i64 k, .slice (some ⟨g, o, none⟩) n cap], .int .i64 l] w fun e w' => e = .returned (.tuple #[.agg #[.int .i64 0, .slice none 0 0], .int .i64 81]) ∧ Q w w' := by
  have HP : Hid (Pc w g o a b L) := h
  have HC : Hid (∀ w : World, Calls Try.prog 22 #[.int .i64 k, .int .i64 l, .int .u32 0, .int .u32 0, .int .u32 0] w fun e w' => e = .returned (.tuple #[.int .u32 0, .int .u32 0, .int .u32 0, .int .i64 70]) ∧ Q w w') := hc
  have HN : Hid (L.length = n) := hn
  have HS : Hid (spcB k n = true) := hsp
  clear h hn hsp hc
  go_enter Try.func8, Try.ntmps8
  go_wp2_with fail
  refine (pcheck_good (HP.out.next (((Q.refl w).cells _ _).cells _ _)) HN.out hcap HS.out).mono ?_
  rintro e w1 ⟨rfl, q1⟩
  have HQ1 : Hid (Q w w1) := (((Q.refl w).cells _ _).cells _ _).trans q1
  have p0 : w1.cell? ⟨w.heap.size, 0, none⟩ = some (.int .i64 k) := q1.cell (by simp [go_sem])
  have r0 : w1.cell? ⟨w.heap.size + 1, 0, none⟩ = some (.int .i64 0) := q1.cell (by simp [go_sem])
  have r1 : w1.cell? ⟨w.heap.size + 1, 1, none⟩ = some (.slice none 0 0) := q1.cell (by simp [go_sem])
  have rf : ∀ j, w1.frozen? ⟨w.heap.size + 1, j, none⟩ = false := fun j => (q1.2 _).trans (by simp [go_sem])
  clear q1
  go_wp2_with fail
  refine (HC.out w1).mono ?_
  rintro e w2 ⟨rfl, q2⟩
  have HQ2 : Hid (Q w w2) := HQ1.out.trans q2
  replace r0 := q2.cell r0
  replace r1 := q2.cell r1
  replace rf : ∀ j, w2.frozen? ⟨w.heap.size + 1, j, none⟩ = false := fun j => (q2.2 _).trans (rf j)
  clear q2
  go_wp2_with fail
  refine bodyPost_ret (v := .tuple #[.agg #[.int .i64 0, .slice none 0 0], .int .i64 81]) (by simp [results, Try.results8, go_sem, r0, r1]) rfl ⟨rfl, (HQ2.out.set (by show _ ≤ w.heap.size + 1; omega) _).set (by show _ ≤ w.heap.size + 1; omega) _⟩
set_option maxHeartbeats 2000000 in
set_option maxRecDepth 100000 in
theorem crop8_out (x0 y0 XX YY : Int) (w : World) (sp : Int) (g o cap a b n : Nat) (L : List PL) (hr : wiB x0 y0 XX YY a b = false) (h : Pc w g o a b L) (hn : L.length = n) (hcap : n ≤ cap) (hsp : spcB sp n = true) :
    Calls Try.prog 7 #[.agg #[.int .i64 sp, .slice (some ⟨g, o, none⟩) n cap], .agg #[.int .i64 x0, .int .i64 y0, .int .i64 XX, .int .i64 YY]] w fun e w' => e = .returned (.tuple #[.agg #[.int .i64 0, .slice none 0 0], .int .i64 52]) ∧ Q w w' := by
  obtain ⟨x, hx⟩ : ∃ x, L[0]? = some x := ⟨_, List.getElem?_eq_getElem (by have := h.n1; omega)⟩
  obtain ⟨d0, d1, d2⟩ := h.row 0 x hx
  rw [Nat.zero_mul, Nat.add_zero] at d0 d1 d2
  unfold PL.v at d2
  have hg := h.it x (List.mem_of_getElem? hx)
  have HCR : Hid (∀ w : World, Calls Try.prog 21 #[.agg #[.int .i64 (a : Int), .int .i64 (b : Int), .slice (some ⟨x.g, x.o, none⟩) x.S.length x.cap], .agg #[.int .i64 x0, .int .i64 y0, .int .i64 XX, .int .i64 YY]] w (Fails w 52)) := fun w => crop_out h.size hg.len x.g x.o x.cap x0 y0 XX YY hr w
  have HP : Hid (Pc w g o a b L) := h
  have HN : Hid (L.length = n) := hn
  have HSP : Hid (spcB sp n = true) := hsp
  have hn0 : 0 < n := by have := h.n1; omega
  have hn0' : (0 : Int) < (n : Int) := by omega
  have qa : Hid (∀ a b c d e f, Q w (((w.alloc (.cells a b)).alloc (.cells c d)).alloc (.cells e f))) := fun a b c d e f => (((Q.refl w).cells _ _).cells _ _).cells _ _
  clear h hn hsp hr hx hg
  go_enter Try.func7, Try.ntmps7
  go_wp2_with fail
  refine (pcheck_good (HP.out.next (qa.out _ _ _ _ _ _)) HN.out hcap HSP.out).mono ?_
  rintro e w1 ⟨rfl, q1⟩
  have HQ1 : Hid (Q w w1) := (qa.out _ _ _ _ _ _).trans q1
  have p0 : w1.cell? ⟨w.heap.size, 0, none⟩ = some (.int .i64 sp) := q1.cell (by simp [go_sem])
  have p1 : w1.cell? ⟨w.heap.size, 1, none⟩ = some (.slice (some ⟨g, o, none⟩) n cap) := q1.cell (by simp [go_sem])
  have c0 : w1.cell? ⟨w.heap.size + 1, 0, none⟩ = some (.int .i64 x0) := q1.cell (by simp [go_sem])
  have c1 : w1.cell? ⟨w.heap.size + 1, 1, none⟩ = some (.int .i64 y0) := q1.cell (by simp [go_sem])
  have c2 : w1.cell? ⟨w.heap.size + 1, 2, none⟩ = some (.int .i64 XX) := q1.cell (by simp [go_sem])
  have c3 : w1.cell? ⟨w.heap.size + 1, 3, none⟩ = some (.int .i64 YY) := q1.cell (by simp [go_sem])
  have r0 : w1.cell? ⟨w.heap.size + 1 + 1, 0, none⟩ = some (.int .i64 0) := q1.cell (by simp [go_sem])
  have r1 : w1.cell? ⟨w.heap.size + 1 + 1, 1, none⟩ = some (.slice none 0 0) := q1.cell (by simp [go_sem])
  have rf : ∀ j, w1.frozen? ⟨w.heap.size + 1 + 1, j, none⟩ = false := fun j => (q1.2 _).trans (by simp [go_sem])
  replace d0 := HQ1.out.cell d0
  replace d1 := HQ1.out.cell d1
  replace d2 := HQ1.out.cell d2
  clear q1 qa
  have kk : ∀ (c : Array Value) (t : TypeId), Q w1 (w1.alloc (.cells c t)) := fun c t => (Q.refl w1).cells c t
  have p0' := fun c t => (kk c t).cell p0
  have p1' := fun c t => (kk c t).cell p1
  go_wp2_with fail
  have q12 : Q w1 (w1.alloc (Obj.cells #[Value.int IntKind.i64 sp, Value.slice none 0 0] 24)) := (Q.refl w1).cells _ _
  clear p0' p1' kk
  generalize (w1.alloc (Obj.cells #[Value.int IntKind.i64 sp, Value.slice none 0 0] 24)) = w2 at *
  go_loopg [24] 0 (fun m s24 wx => s24 = .int .i64 0 ∧ Hid (Q w1 wx))
  case atStart => exact ⟨rfl, q12⟩
  case round =>
    obtain ⟨rfl, HQ⟩ := hrel
    have qr : Q w1 (wr.alloc (Obj.cells #[Value.int IntKind.i64 ↑a, Value.int IntKind.i64 ↑b, Value.slice (some { block := x.g, off := x.o }) x.S.length x.cap] 47)) := HQ.out.cells _ _
    have e0 := qr.cell c0
    have e1 := qr.cell c1
    have e2 := qr.cell c2
    have e3 := qr.cell c3
    have z0 := HQ.out.cell d0
    have z1 := HQ.out.cell d1
    have z2 := HQ.out.cell d2
    go_wp2_with fail
    have HQ3 : Hid (Q w (wr.alloc (Obj.cells #[Value.int IntKind.i64 ↑a, Value.int IntKind.i64 ↑b, Value.slice (some { block := x.g, off := x.o }) x.S.length x.cap] 47))) := HQ1.out.trans qr
    have s0 := qr.cell r0
    have s1 := qr.cell r1
    have sf : ∀ j, (wr.alloc (Obj.cells #[Value.int IntKind.i64 ↑a, Value.int IntKind.i64 ↑b, Value.slice (some { block := x.g, off := x.o }) x.S.length x.cap] 47)).frozen? ⟨w.heap.size + 1 + 1, j, none⟩ = false := fun j => (qr.2 _).trans (rf j)
    clear e0 e1 e2 e3 z0 z1 z2
    generalize (wr.alloc (Obj.cells #[Value.int IntKind.i64 ↑a, Value.int IntKind.i64 ↑b, Value.slice (some { block := x.g, off := x.o }) x.S.length x.cap] 47)) = w4 at *
    refine (HCR.out w4).mono ?_
    rintro e w5 ⟨rfl, q5⟩
    have HQ5 : Hid (Q w (w5.alloc (Obj.cells #[Value.int IntKind.i64 0, Value.int IntKind.i64 0, Value.slice none 0 0] 47))) := (HQ3.out.trans q5).cells _ _
    have q6 : Q w4 (w5.alloc (Obj.cells #[Value.int IntKind.i64 0, Value.int IntKind.i64 0, Value.slice none 0 0] 47)) := q5.cells _ _
    replace s0 := q6.cell s0
    replace s1 := q6.cell s1
    replace sf : ∀ j, (w5.alloc (Obj.cells #[Value.int IntKind.i64 0, Value.int IntKind.i64 0, Value.slice none 0 0] 47)).frozen? ⟨w.heap.size + 1 + 1, j, none⟩ = false := fun j => (q6.2 _).trans (sf j)
    unfold noPl
    clear q5 q6
    go_wp2_with fail
    refine bodyPost_ret (v := .tuple #[.agg #[.int .i64 0, .slice none 0 0], .int .i64 52]) (by simp [results, Try.results7, go_sem, s0, s1]) rfl ⟨rfl, (HQ5.out.set (by show _ ≤ w.heap.size + 1 + 1; omega) _).set (by show _ ≤ w.heap.size + 1 + 1; omega) _⟩
end Go.Proofs.Ytdempklpmggdoaa
/- Two: what is refused; Matrix of too few planes. -/
namespace Go.Proofs.Ytdempklpmggdoaa
open Go.RowKit
set_option linter.unusedVariables false
set_option linter.unusedSimpArgs false

set_option maxHeartbeats 4000000 in
set_option maxRecDepth 100000 in
theorem two_80a {k : Int} {f : FuncId} {G : Nat → Nat → Nat} (hk : Kind k f G) (w : World) (sp sp' : Int) (g o cap g' o' cap' a b n m a' b' : Nat) (L L' : List PL) (h : Pc w g o a b L) (hn : L.length = n) (hcap : n ≤ cap) (h' : Pc w g' o' a' b' L') (hn' : L'.length = m) (hcap' : m ≤ cap') (hsp : spcB sp n = true) (hsp' : spcB sp' m = true) (hne : n ≠ m) :
    Calls Try.prog 12 #[.int .i64 k, .agg #[.int .i64 sp, .slice (some ⟨g, o, none⟩) n cap], .agg #[.int .i64 sp', .slice (some ⟨g', o', none⟩) m cap']] w fun e w' => e = .returned (.tuple #[.agg #[.int .i64 0, .slice none 0 0], .int .i64 80]) ∧ Q w w' := by
  have HP : Hid (Pc w g o a b L) := h
  have HR : Hid (Pc w g' o' a' b' L') := h'
  have HN : Hid (L.length = n ∧ L'.length = m) := ⟨hn, hn'⟩
  have n4 : n ≤ 4 := by rw [← hn]; exact h.n4
  have n1 : 1 ≤ n := by rw [← hn]; exact h.n1
  have m4 : m ≤ 4 := by rw [← hn']; exact h'.n4
  have m1 : 1 ≤ m := by rw [← hn']; exact h'.n1
  have HSP : Hid (spcB sp n = true ∧ spcB sp' m = true) := ⟨hsp, hsp'⟩
  have HK : Hid (Kind k f G) := hk
  have l2 := pair_nil
  clear h h' hn hn' hsp hsp' hk
  have e1 : ((n : Int) != (m : Int)) = true := by rw [bne_iff_ne]; omega
  have e2 : ((n : Int) == (m : Int)) = false := by rw [beq_eq_false_iff_ne]; omega
  have e3 : ¬ (n : Int) = (m : Int) := by omega
  go_enter Try.func12, Try.ntmps12
  go_wp2_with fail
  have HQ0 : Hid (Q w (((w.alloc (Obj.cells #[Value.int IntKind.i64 sp, Value.slice (some { block := g, off := o }) n cap] 24)).alloc (Obj.cells #[Value.int IntKind.i64 sp', Value.slice (some { block := g', off := o' }) m cap'] 24)).alloc (Obj.cells #[Value.int IntKind.i64 0, Value.slice none 0 0] 24))) := (((Q.refl w).cells _ _).cells _ _).cells _ _
  refine (checkboth_good (HP.out.next HQ0.out) HN.out.1 hcap (HR.out.next HQ0.out) HN.out.2 hcap' HSP.out.1 HSP.out.2).mono ?_
  rintro e w1 ⟨rfl, q1⟩
  have HQ1 : Hid (Q w w1) := HQ0.out.trans q1
  have p0 : w1.cell? ⟨w.heap.size, 0, none⟩ = some (.int .i64 sp) := q1.cell (by simp [go_sem])
  have p1 : w1.cell? ⟨w.heap.size, 1, none⟩ = some (.slice (some ⟨g, o, none⟩) n cap) := q1.cell (by simp [go_sem])
  have b0 : w1.cell? ⟨w.heap.size + 1, 0, none⟩ = some (.int .i64 sp') := q1.cell (by simp [go_sem])
  have b1 : w1.cell? ⟨w.heap.size + 1, 1, none⟩ = some (.slice (some ⟨g', o', none⟩) m cap') := q1.cell (by simp [go_sem])
  have r0 : w1.cell? ⟨w.heap.size + 1 + 1, 0, none⟩ = some (.int .i64 0) := q1.cell (by simp [go_sem])
  have r1 : w1.cell? ⟨w.heap.size + 1 + 1, 1, none⟩ = some (.slice none 0 0) := q1.cell (by simp [go_sem])
  have rf : ∀ j, w1.frozen? ⟨w.heap.size + 1 + 1, j, none⟩ = false := fun j => (q1.2 _).trans (by simp [go_sem])
  clear q1 HQ0
  go_wp2_with fail
  refine (HK.out.of w1).mono ?_
  rintro e w1' ⟨rfl, rfl⟩
  go_wp2_with fail
  obtain ⟨x0, hx0⟩ : ∃ x, L[0]? = some x := ⟨_, List.getElem?_eq_getElem (by rw [HN.out.1]; omega)⟩
  obtain ⟨y0, hy0⟩ : ∃ x, L'[0]? = some x := ⟨_, List.getElem?_eq_getElem (by rw [HN.out.2]; omega)⟩
  obtain ⟨c0, c1, c2⟩ := (HP.out.row.next HQ1.out) 0 x0 hx0
  obtain ⟨d0, d1, d2⟩ := (HR.out.row.next HQ1.out) 0 y0 hy0
  unfold PL.v at c2 d2
  rw [Nat.zero_mul, Nat.add_zero] at c0 c1 c2 d0 d1 d2
  have hn0 : (0 : Int) < (n : Int) := by omega
  have hm0 : (0 : Int) < (m : Int) := by omega
  have n0 := qw_some w1'
  have f0 := qw_cell c0
  have f1 := qw_cell c1
  have f2 := qw_cell c2
  have f3 := qw_cell d0
  have f4 := qw_cell d1
  have f5 := qw_cell d2
  have f6 := qw_cell p1
  have f7 := qw_cell b1
  have HO : Hid (∀ z : World, Calls Try.prog 19 #[.agg #[.int .i64 (a : Int), .int .i64 (b : Int), .slice (some ⟨x0.g, x0.o, none⟩) x0.S.length x0.cap], .agg #[.int .i64 (a' : Int), .int .i64 (b' : Int), .slice (some ⟨y0.g, y0.o, none⟩) y0.S.length y0.cap]] z fun e w' => e = .returned (.bool ((a : Int) == (a' : Int) && (b : Int) == (b' : Int))) ∧ Q z w') := fun z => by
    have := onesize_any a b a' b' (some ⟨x0.g, x0.o, none⟩) (some ⟨y0.g, y0.o, none⟩) x0.S.length x0.cap y0.S.length y0.cap z
    exact this
  clear hx0 hy0 c0 c1 c2 d0 d1 d2
  refine wp_region_quiet_Q (by kernel_rfl) (by kernel_rfl) ?_
  repeat (first | go_big_quiet_step (first | (go_at_call 19; exact calls_qw (HO.out _))) | quiet_step (first | (go_at_call 19; exact calls_qw (HO.out _))))
  refine wpQuiet_nil ?_
  intro w2 hw'
  have q2 := qw_out hw'
  clear hw' f0 f1 f2 f3 f4 f5 f6 f7 n0 HO
  have HQ2 : Hid (Q w w2) := HQ1.out.trans q2
  replace p0 := q2.cell p0
  replace b0 := q2.cell b0
  replace r0 := q2.cell r0
  replace r1 := q2.cell r1
  replace rf : ∀ j, w2.frozen? ⟨w.heap.size + 1 + 1, j, none⟩ = false := fun j => (q2.2 _).trans (rf j)
  clear q2
  go_wp2_with fail
  refine bodyPost_ret (v := .tuple #[.agg #[.int .i64 0, .slice none 0 0], .int .i64 80]) (by simp [results, Try.results12, go_sem, r0, r1]) rfl ⟨rfl, ?_⟩
  exact (HQ2.out.set (by show _ ≤ w.heap.size + 1 + 1; omega) _).set (by show _ ≤ w.heap.size + 1 + 1; omega) _
set_option maxHeartbeats 4000000 in
set_option maxRecDepth 100000 in
theorem two_80b {k : Int} {f : FuncId} {G : Nat → Nat → Nat} (hk : Kind k f G) (w : World) (sp sp' : Int) (g o cap g' o' cap' a b n a' b' : Nat) (L L' : List PL) (h : Pc w g o a b L) (hn : L.length = n) (hcap : n ≤ cap) (h' : Pc w g' o' a' b' L') (hn' : L'.length = n) (hcap' : n ≤ cap') (hsp : spcB sp n = true) (hsp' : spcB sp' n = true) (hne : ¬ (a = a' ∧ b = b')) :
    Calls Try.prog 12 #[.int .i64 k, .agg #[.int .i64 sp, .slice (some ⟨g, o, none⟩) n cap], .agg #[.int .i64 sp', .slice (some ⟨g', o', none⟩) n cap']] w fun e w' => e = .returned (.tuple #[.agg #[.int .i64 0, .slice none 0 0], .int .i64 80]) ∧ Q w w' := by
  have HP : Hid (Pc w g o a b L) := h
  have HR : Hid (Pc w g' o' a' b' L') := h'
  have HN : Hid (L.length = n ∧ L'.length = n) := ⟨hn, hn'⟩
  have n4 : n ≤ 4 := by rw [← hn]; exact h.n4
  have n1 : 1 ≤ n := by rw [← hn]; exact h.n1
  have m4 : n ≤ 4 := by rw [← hn']; exact h'.n4
  have m1 : 1 ≤ n := by rw [← hn']; exact h'.n1
  have HSP : Hid (spcB sp n = true ∧ spcB sp' n = true) := ⟨hsp, hsp'⟩
  have HK : Hid (Kind k f G) := hk
  have l2 := pair_nil
  clear h h' hn hn' hsp hsp' hk
  go_enter Try.func12, Try.ntmps12
  go_wp2_with fail
  have HQ0 : Hid (Q w (((w.alloc (Obj.cells #[Value.int IntKind.i64 sp, Value.slice (some { block := g, off := o }) n cap] 24)).alloc (Obj.cells #[Value.int IntKind.i64 sp', Value.slice (some { block := g', off := o' }) n cap'] 24)).alloc (Obj.cells #[Value.int IntKind.i64 0, Value.slice none 0 0] 24))) := (((Q.refl w).cells _ _).cells _ _).cells _ _
  refine (checkboth_good (HP.out.next HQ0.out) HN.out.1 hcap (HR.out.next HQ0.out) HN.out.2 hcap' HSP.out.1 HSP.out.2).mono ?_
  rintro e w1 ⟨rfl, q1⟩
  have HQ1 : Hid (Q w w1) := HQ0.out.trans q1
  have p0 : w1.cell? ⟨w.heap.size, 0, none⟩ = some (.int .i64 sp) := q1.cell (by simp [go_sem])
  have p1 : w1.cell? ⟨w.heap.size, 1, none⟩ = some (.slice (some ⟨g, o, none⟩) n cap) := q1.cell (by simp [go_sem])
  have b0 : w1.cell? ⟨w.heap.size + 1, 0, none⟩ = some (.int .i64 sp') := q1.cell (by simp [go_sem])
  have b1 : w1.cell? ⟨w.heap.size + 1, 1, none⟩ = some (.slice (some ⟨g', o', none⟩) n cap') := q1.cell (by simp [go_sem])
  have r0 : w1.cell? ⟨w.heap.size + 1 + 1, 0, none⟩ = some (.int .i64 0) := q1.cell (by simp [go_sem])
  have r1 : w1.cell? ⟨w.heap.size + 1 + 1, 1, none⟩ = some (.slice none 0 0) := q1.cell (by simp [go_sem])
  have rf : ∀ j, w1.frozen? ⟨w.heap.size + 1 + 1, j, none⟩ = false := fun j => (q1.2 _).trans (by simp [go_sem])
  clear q1 HQ0
  go_wp2_with fail
  refine (HK.out.of w1).mono ?_
  rintro e w1' ⟨rfl, rfl⟩
  go_wp2_with fail
  obtain ⟨x0, hx0⟩ : ∃ x, L[0]? = some x := ⟨_, List.getElem?_eq_getElem (by rw [HN.out.1]; omega)⟩
  obtain ⟨y0, hy0⟩ : ∃ x, L'[0]? = some x := ⟨_, List.getElem?_eq_getElem (by rw [HN.out.2]; omega)⟩
  obtain ⟨c0, c1, c2⟩ := (HP.out.row.next HQ1.out) 0 x0 hx0
  obtain ⟨d0, d1, d2⟩ := (HR.out.row.next HQ1.out) 0 y0 hy0
  unfold PL.v at c2 d2
  rw [Nat.zero_mul, Nat.add_zero] at c0 c1 c2 d0 d1 d2
  have hn0 : (0 : Int) < (n : Int) := by omega
  have hm0 : (0 : Int) < (n : Int) := by omega
  have n0 := qw_some w1'
  have f0 := qw_cell c0
  have f1 := qw_cell c1
  have f2 := qw_cell c2
  have f3 := qw_cell d0
  have f4 := qw_cell d1
  have f5 := qw_cell d2
  have f6 := qw_cell p1
  have f7 := qw_cell b1
  have HO : Hid (∀ z : World, Calls Try.prog 19 #[.agg #[.int .i64 (a : Int), .int .i64 (b : Int), .slice (some ⟨x0.g, x0.o, none⟩) x0.S.length x0.cap], .agg #[.int .i64 (a' : Int), .int .i64 (b' : Int), .slice (some ⟨y0.g, y0.o, none⟩) y0.S.length y0.cap]] z fun e w' => e = .returned (.bool false) ∧ Q z w') := fun z => by
    have := onesize_any a b a' b' (some ⟨x0.g, x0.o, none⟩) (some ⟨y0.g, y0.o, none⟩) x0.S.length x0.cap y0.S.length y0.cap z
    rwa [show ((a : Int) == (a' : Int) && (b : Int) == (b' : Int)) = false by rw [Bool.and_eq_false_iff]; by_cases h : a = a'; exact Or.inr (by rw [beq_eq_false_iff_ne]; intro e; exact hne ⟨h, by omega⟩); exact Or.inl (by rw [beq_eq_false_iff_ne]; omega)] at this
  clear hx0 hy0 c0 c1 c2 d0 d1 d2
  refine wp_region_quiet_Q (by kernel_rfl) (by kernel_rfl) ?_
  repeat (first | go_big_quiet_step (first | (go_at_call 19; exact calls_qw (HO.out _))) | quiet_step (first | (go_at_call 19; exact calls_qw (HO.out _))))
  refine wpQuiet_nil ?_
  intro w2 hw'
  have q2 := qw_out hw'
  clear hw' f0 f1 f2 f3 f4 f5 f6 f7 n0 HO
  have HQ2 : Hid (Q w w2) := HQ1.out.trans q2
  replace p0 := q2.cell p0
  replace b0 := q2.cell b0
  replace r0 := q2.cell r0
  replace r1 := q2.cell r1
  replace rf : ∀ j, w2.frozen? ⟨w.heap.size + 1 + 1, j, none⟩ = false := fun j => (q2.2 _).trans (rf j)
  clear q2
  go_wp2_with fail
  refine bodyPost_ret (v := .tuple #[.agg #[.int .i64 0, .slice none 0 0], .int .i64 80]) (by simp [results, Try.results12, go_sem, r0, r1]) rfl ⟨rfl, ?_⟩
  exact (HQ2.out.set (by show _ ≤ w.heap.size + 1 + 1; omega) _).set (by show _ ≤ w.heap.size + 1 + 1; omega) _
set_option maxHeartbeats 4000000 in
set_option maxRecDepth 100000 in
theorem two_81 {k : Int} {f : FuncId} {G : Nat → Nat → Nat} (hk : Kind k f G) (w : World) (sp sp' : Int) (g o cap g' o' cap' a b n : Nat) (L L' : List PL) (h : Pc w g o a b L) (hn : L.length = n) (hcap : n ≤ cap) (h' : Pc w g' o' a b L') (hn' : L'.length = n) (hcap' : n ≤ cap') (hsp : spcB sp n = true) (hsp' : spcB sp' n = true) (hne : sp ≠ sp') :
    Calls Try.prog 12 #[.int .i64 k, .agg #[.int .i64 sp, .slice (some ⟨g, o, none⟩) n cap], .agg #[.int .i64 sp', .slice (some ⟨g', o', none⟩) n cap']] w fun e w' => e = .returned (.tuple #[.agg #[.int .i64 0, .slice none 0 0], .int .i64 81]) ∧ Q w w' := by
  have HP : Hid (Pc w g o a b L) := h
  have HR : Hid (Pc w g' o' a b L') := h'
  have HN : Hid (L.length = n ∧ L'.length = n) := ⟨hn, hn'⟩
  have n4 : n ≤ 4 := by rw [← hn]; exact h.n4
  have n1 : 1 ≤ n := by rw [← hn]; exact h.n1
  have m4 : n ≤ 4 := by rw [← hn']; exact h'.n4
  have m1 : 1 ≤ n := by rw [← hn']; exact h'.n1
  have HSP : Hid (spcB sp n = true ∧ spcB sp' n = true) := ⟨hsp, hsp'⟩
  have HK : Hid (Kind k f G) := hk
  have l2 := pair_nil
  clear h h' hn hn' hsp hsp' hk
  have e1 : (sp != sp') = true := by rw [bne_iff_ne]; exact hne
  have e2 : (sp == sp') = false := by rw [beq_eq_false_iff_ne]; exact hne
  go_enter Try.func12, Try.ntmps12
  go_wp2_with fail
  have HQ0 : Hid (Q w (((w.alloc (Obj.cells #[Value.int IntKind.i64 sp, Value.slice (some { block := g, off := o }) n cap] 24)).alloc (Obj.cells #[Value.int IntKind.i64 sp', Value.slice (some { block := g', off := o' }) n cap'] 24)).alloc (Obj.cells #[Value.int IntKind.i64 0, Value.slice none 0 0] 24))) := (((Q.refl w).cells _ _).cells _ _).cells _ _
  refine (checkboth_good (HP.out.next HQ0.out) HN.out.1 hcap (HR.out.next HQ0.out) HN.out.2 hcap' HSP.out.1 HSP.out.2).mono ?_
  rintro e w1 ⟨rfl, q1⟩
  have HQ1 : Hid (Q w w1) := HQ0.out.trans q1
  have p0 : w1.cell? ⟨w.heap.size, 0, none⟩ = some (.int .i64 sp) := q1.cell (by simp [go_sem])
  have p1 : w1.cell? ⟨w.heap.size, 1, none⟩ = some (.slice (some ⟨g, o, none⟩) n cap) := q1.cell (by simp [go_sem])
  have b0 : w1.cell? ⟨w.heap.size + 1, 0, none⟩ = some (.int .i64 sp') := q1.cell (by simp [go_sem])
  have b1 : w1.cell? ⟨w.heap.size + 1, 1, none⟩ = some (.slice (some ⟨g', o', none⟩) n cap') := q1.cell (by simp [go_sem])
  have r0 : w1.cell? ⟨w.heap.size + 1 + 1, 0, none⟩ = some (.int .i64 0) := q1.cell (by simp [go_sem])
  have r1 : w1.cell? ⟨w.heap.size + 1 + 1, 1, none⟩ = some (.slice none 0 0) := q1.cell (by simp [go_sem])
  have rf : ∀ j, w1.frozen? ⟨w.heap.size + 1 + 1, j, none⟩ = false := fun j => (q1.2 _).trans (by simp [go_sem])
  clear q1 HQ0
  go_wp2_with fail
  refine (HK.out.of w1).mono ?_
  rintro e w1' ⟨rfl, rfl⟩
  go_wp2_with fail
  obtain ⟨x0, hx0⟩ : ∃ x, L[0]? = some x := ⟨_, List.getElem?_eq_getElem (by rw [HN.out.1]; omega)⟩
  obtain ⟨y0, hy0⟩ : ∃ x, L'[0]? = some x := ⟨_, List.getElem?_eq_getElem (by rw [HN.out.2]; omega)⟩
  obtain ⟨c0, c1, c2⟩ := (HP.out.row.next HQ1.out) 0 x0 hx0
  obtain ⟨d0, d1, d2⟩ := (HR.out.row.next HQ1.out) 0 y0 hy0
  unfold PL.v at c2 d2
  rw [Nat.zero_mul, Nat.add_zero] at c0 c1 c2 d0 d1 d2
  have hn0 : (0 : Int) < (n : Int) := by omega
  have hm0 : (0 : Int) < (n : Int) := by omega
  have n0 := qw_some w1'
  have f0 := qw_cell c0
  have f1 := qw_cell c1
  have f2 := qw_cell c2
  have f3 := qw_cell d0
  have f4 := qw_cell d1
  have f5 := qw_cell d2
  have f6 := qw_cell p1
  have f7 := qw_cell b1
  have HO : Hid (∀ z : World, Calls Try.prog 19 #[.agg #[.int .i64 (a : Int), .int .i64 (b : Int), .slice (some ⟨x0.g, x0.o, none⟩) x0.S.length x0.cap], .agg #[.int .i64 (a : Int), .int .i64 (b : Int), .slice (some ⟨y0.g, y0.o, none⟩) y0.S.length y0.cap]] z fun e w' => e = .returned (.bool true) ∧ Q z w') := fun z => by
    have := onesize_any a b a b (some ⟨x0.g, x0.o, none⟩) (some ⟨y0.g, y0.o, none⟩) x0.S.length x0.cap y0.S.length y0.cap z
    simpa using this
  clear hx0 hy0 c0 c1 c2 d0 d1 d2
  refine wp_region_quiet_Q (by kernel_rfl) (by kernel_rfl) ?_
  repeat (first | go_big_quiet_step (first | (go_at_call 19; exact calls_qw (HO.out _))) | quiet_step (first | (go_at_call 19; exact calls_qw (HO.out _))))
  refine wpQuiet_nil ?_
  intro w2 hw'
  have q2 := qw_out hw'
  clear hw' f0 f1 f2 f3 f4 f5 f6 f7 n0 HO
  have HQ2 : Hid (Q w w2) := HQ1.out.trans q2
  replace p0 := q2.cell p0
  replace b0 := q2.cell b0
  replace r0 := q2.cell r0
  replace r1 := q2.cell r1
  replace rf : ∀ j, w2.frozen? ⟨w.heap.size + 1 + 1, j, none⟩ = false := fun j => (q2.2 _).trans (rf j)
  clear q2
  go_wp2_with fail
  refine bodyPost_ret (v := .tuple #[.agg #[.int .i64 0, .slice none 0 0], .int .i64 81]) (by simp [results, Try.results12, go_sem, r0, r1]) rfl ⟨rfl, ?_⟩
  exact (HQ2.out.set (by show _ ≤ w.heap.size + 1 + 1; omega) _).set (by show _ ≤ w.heap.size + 1 + 1; omega) _
set_option maxHeartbeats 2000000 in
set_option maxRecDepth 100000 in
theorem matrix_80 (m : Nat → Nat) (w : World) (sp : Int) (g o cap a b n : Nat) (L : List PL) (h : Pc w g o a b L) (hn : L.length = n) (hcap : n ≤ cap) (h3 : n < 3) (hsp : spcB sp n = true) :
    Calls Try.prog 11 #[.agg #[.int .i64 sp, .slice (some ⟨g, o, none⟩) n cap], .agg #[.int .u32 ((m 0 : Nat) : Int), .int .u32 ((m 1 : Nat) : Int), .int .u32 ((m 2 : Nat) : Int), .int .u32 ((m 3 : Nat) : Int), .int .u32 ((m 4 : Nat) : Int), .int .u32 ((m 5 : Nat) : Int), .int .u32 ((m 6 : Nat) : Int), .int .u32 ((m 7 : Nat) : Int), .int .u32 ((m 8 : Nat) : Int)]] w fun e w' => e = .returned (.tuple #[.agg #[.int .i64 0, .slice none 0 0], .int .i64 80]) ∧ Q w w' := by
  have HP : Hid (Pc w g o a b L) := h
  have HN : Hid (L.length = n) := hn
  have HS : Hid (spcB sp n = true) := hsp
  have hn3 : (n : Int) < 3 := by omega
  have qa : Hid (∀ a b c d e f, Q w (((w.alloc (.cells a b)).alloc (.cells c d)).alloc (.cells e f))) := fun a b c d e f => (((Q.refl w).cells _ _).cells _ _).cells _ _
  clear h hn hsp
  go_enter Try.func11, Try.ntmps11
  go_wp2_with fail
  refine (pcheck_good (HP.out.next (qa.out _ _ _ _ _ _)) HN.out hcap HS.out).mono ?_
  rintro e w1 ⟨rfl, q1⟩
  have HQ1 : Hid (Q w w1) := (qa.out _ _ _ _ _ _).trans q1
  have p0 : w1.cell? ⟨w.heap.size, 0, none⟩ = some (.int .i64 sp) := q1.cell (by simp [go_sem])
  have p1 : w1.cell? ⟨w.heap.size, 1, none⟩ = some (.slice (some ⟨g, o, none⟩) n cap) := q1.cell (by simp [go_sem])
  have r0 : w1.cell? ⟨w.heap.size + 1 + 1, 0, none⟩ = some (.int .i64 0) := q1.cell (by simp [go_sem])
  have r1 : w1.cell? ⟨w.heap.size + 1 + 1, 1, none⟩ = some (.slice none 0 0) := q1.cell (by simp [go_sem])
  have rf : ∀ j, w1.frozen? ⟨w.heap.size + 1 + 1, j, none⟩ = false := fun j => (q1.2 _).trans (by simp [go_sem])
  clear q1
  go_wp2_with fail
  refine bodyPost_ret (v := .tuple #[.agg #[.int .i64 0, .slice none 0 0], .int .i64 80]) (by simp [results, Try.results11, go_sem, r0, r1]) rfl ⟨rfl, ?_⟩
  exact (HQ1.out.set (by show _ ≤ w.heap.size + 1 + 1; omega) _).set (by show _ ≤ w.heap.size + 1 + 1; omega) _
end Go.Proofs.Ytdempklpmggdoaa
/- Two: of a number that is no kind; with no picture. -/
namespace Go.Proofs.Ytdempklpmggdoaa
open Go.RowKit
set_option linter.unusedVariables false
set_option linter.unusedSimpArgs false

set_option maxHeartbeats 1000000 in
theorem pair_no (k : Int) (h1 : k ≠ 1) (h2 : k ≠ 2) (h3 : k ≠ 3) (h4 : k ≠ 4) (h5 : k ≠ 5) (w : World) : Calls Try.prog 32 #[.int .i64 k] w fun e w' => e = .returned .nilFunc ∧ w' = w := by
  have e1 : (k == 1) = false := by rw [beq_eq_false_iff_ne]; exact h1
  have e2 : (k == 2) = false := by rw [beq_eq_false_iff_ne]; exact h2
  have e3 : (k == 3) = false := by rw [beq_eq_false_iff_ne]; exact h3
  have e4 : (k == 4) = false := by rw [beq_eq_false_iff_ne]; exact h4
  have e5 : (k == 5) = false := by rw [beq_eq_false_iff_ne]; exact h5
  go_enter Try.func32, Try.ntmps32
  go_wp2_with fail
  go_ret
  exact ⟨rfl, rfl⟩
theorem pnil_nil (w : World) : (binOp .eql 72 .nilFunc .nilFunc).run Try.prog w = .ok (.bool true) w := by kernel_rfl
theorem kinds (k : Int) : (∃ f G, Kind k f G) ∨ (∀ w : World, Calls Try.prog 32 #[.int .i64 k] w fun e w' => e = .returned .nilFunc ∧ w' = w) := by
  rcases Decidable.em (k = 1) with rfl | h1
  · exact Or.inl ⟨_, _, kind_add⟩
  rcases Decidable.em (k = 2) with rfl | h2
  · exact Or.inl ⟨_, _, kind_sub⟩
  rcases Decidable.em (k = 3) with rfl | h3
  · exact Or.inl ⟨_, _, kind_mul⟩
  rcases Decidable.em (k = 4) with rfl | h4
  · exact Or.inl ⟨_, _, kind_least⟩
  rcases Decidable.em (k = 5) with rfl | h5
  · exact Or.inl ⟨_, _, kind_great⟩
  exact Or.inr (fun w => pair_no k h1 h2 h3 h4 h5 w)
set_option maxHeartbeats 4000000 in
set_option maxRecDepth 100000 in
theorem two_kind {k : Int} (hk : ∀ w : World, Calls Try.prog 32 #[.int .i64 k] w fun e w' => e = .returned .nilFunc ∧ w' = w) (w : World) (sp sp' : Int) (g o cap g' o' cap' a b n m a' b' : Nat) (L L' : List PL) (h : Pc w g o a b L) (hn : L.length = n) (hcap : n ≤ cap) (h' : Pc w g' o' a' b' L') (hn' : L'.length = m) (hcap' : m ≤ cap') (hsp : spcB sp n = true) (hsp' : spcB sp' m = true) :
    Calls Try.prog 12 #[.int .i64 k, .agg #[.int .i64 sp, .slice (some ⟨g, o, none⟩) n cap], .agg #[.int .i64 sp', .slice (some ⟨g', o', none⟩) m cap']] w fun e w' => e = .returned (.tuple #[.agg #[.int .i64 0, .slice none 0 0], .int .i64 83]) ∧ Q w w' := by
  have HP : Hid (Pc w g o a b L) := h
  have HR : Hid (Pc w g' o' a' b' L') := h'
  have HN : Hid (L.length = n ∧ L'.length = m) := ⟨hn, hn'⟩
  have HSP : Hid (spcB sp n = true ∧ spcB sp' m = true) := ⟨hsp, hsp'⟩
  have HK : Hid (∀ w : World, Calls Try.prog 32 #[.int .i64 k] w fun e w' => e = .returned .nilFunc ∧ w' = w) := hk
  have l2 := pnil_nil
  clear h h' hn hn' hsp hsp' hk
  go_enter Try.func12, Try.ntmps12
  go_wp2_with fail
  have HQ0 : Hid (Q w (((w.alloc (Obj.cells #[Value.int IntKind.i64 sp, Value.slice (some { block := g, off := o }) n cap] 24)).alloc (Obj.cells #[Value.int IntKind.i64 sp', Value.slice (some { block := g', off := o' }) m cap'] 24)).alloc (Obj.cells #[Value.int IntKind.i64 0, Value.slice none 0 0] 24))) := (((Q.refl w).cells _ _).cells _ _).cells _ _
  refine (checkboth_good (HP.out.next HQ0.out) HN.out.1 hcap (HR.out.next HQ0.out) HN.out.2 hcap' HSP.out.1 HSP.out.2).mono ?_
  rintro e w1 ⟨rfl, q1⟩
  have HQ1 : Hid (Q w w1) := HQ0.out.trans q1
  have r0 : w1.cell? ⟨w.heap.size + 1 + 1, 0, none⟩ = some (.int .i64 0) := q1.cell (by simp [go_sem])
  have r1 : w1.cell? ⟨w.heap.size + 1 + 1, 1, none⟩ = some (.slice none 0 0) := q1.cell (by simp [go_sem])
  have rf : ∀ j, w1.frozen? ⟨w.heap.size + 1 + 1, j, none⟩ = false := fun j => (q1.2 _).trans (by simp [go_sem])
  clear q1 HQ0
  go_wp2_with fail
  refine (HK.out w1).mono ?_
  rintro e w1' ⟨rfl, rfl⟩
  go_wp2_with fail
  refine bodyPost_ret (v := .tuple #[.agg #[.int .i64 0, .slice none 0 0], .int .i64 83]) (by simp [results, Try.results12, go_sem, r0, r1]) rfl ⟨rfl, (HQ1.out.set (by show _ ≤ w.heap.size + 1 + 1; omega) _).set (by show _ ≤ w.heap.size + 1 + 1; omega) _⟩
theorem nil_dsl (w : World) : DSl w (.slice none 0 0) [] := Or.inl ⟨_, _, rfl, rfl⟩
theorem chk_nil : chkP 0 [] = 80 := by decide
set_option maxHeartbeats 4000000 in
set_option maxRecDepth 100000 in
theorem checkboth_nil {w : World} {g o a b n cap : Nat} {L : List PL} (h : Pc w g o a b L) (hn : L.length = n) (hcap : n ≤ cap) {sp : Int} (hsp : spcB sp n = true) :
    Calls Try.prog 31 #[.agg #[.int .i64 sp, .slice (some ⟨g, o, none⟩) n cap], .agg #[.int .i64 0, .slice none 0 0]] w fun e w' => e = .returned (.int .i64 80) ∧ Q w w' := by
  have qa : Hid (∀ a b c d, Q w ((w.alloc (.cells a b)).alloc (.cells c d))) := fun a b c d => ((Q.refl w).cells _ _).cells _ _
  have H1 : Hid (∀ x, Q w x → Calls Try.prog 6 #[.agg #[.int .i64 sp, .slice (some ⟨g, o, none⟩) n cap]] x fun e w' => e = .returned (.int .i64 0) ∧ Q x w') := fun x hx => pcheck_good (h.next hx) hn hcap hsp
  have H2 : Hid (∀ x : World, Calls Try.prog 6 #[.agg #[.int .i64 0, .slice none 0 0]] x fun e w' => e = .returned (.int .i64 80) ∧ Q x w') := fun x => by
    have := pcheck_any x 0 (.slice none 0 0) [] (nil_dsl x) (fun x hx => by cases hx) (by decide)
    rw [chk_nil] at this
    exact this
  clear h hn hsp
  go_enter Try.func31, Try.ntmps31
  go_wp2_with fail
  refine (H1.out _ (qa.out _ _ _ _)).mono ?_
  rintro e w1 ⟨rfl, q1⟩
  have p0 : w1.cell? ⟨w.heap.size + 1, 0, none⟩ = some (.int .i64 0) := q1.cell (by simp [go_sem])
  have p1 : w1.cell? ⟨w.heap.size + 1, 1, none⟩ = some (.slice none 0 0) := q1.cell (by simp [go_sem])
  have HQ : Hid (Q w w1) := (qa.out _ _ _ _).trans q1
  clear q1
  go_wp2_with fail
  refine (H2.out _).mono ?_
  rintro e w2 ⟨rfl, q2⟩
  go_wp2_with fail
  go_ret
  exact ⟨rfl, HQ.out.trans q2⟩
set_option maxHeartbeats 4000000 in
set_option maxRecDepth 100000 in
theorem two_nil (k : Int) (w : World) (sp : Int) (g o cap a b n : Nat) (L : List PL) (h : Pc w g o a b L) (hn : L.length = n) (hcap : n ≤ cap) (hsp : spcB sp n = true) :
    Calls Try.prog 12 #[.int .i64 k, .agg #[.int .i64 sp, .slice (some ⟨g, o, none⟩) n cap], .agg #[.int .i64 0, .slice none 0 0]] w fun e w' => e = .returned (.tuple #[.agg #[.int .i64 0, .slice none 0 0], .int .i64 80]) ∧ Q w w' := by
  have HP : Hid (Pc w g o a b L) := h
  have HN : Hid (L.length = n) := hn
  have HSP : Hid (spcB sp n = true) := hsp
  clear h hn hsp
  go_enter Try.func12, Try.ntmps12
  go_wp2_with fail
  have HQ0 : Hid (Q w (((w.alloc (Obj.cells #[Value.int IntKind.i64 sp, Value.slice (some { block := g, off := o }) n cap] 24)).alloc (Obj.cells #[Value.int IntKind.i64 0, Value.slice none 0 0] 24)).alloc (Obj.cells #[Value.int IntKind.i64 0, Value.slice none 0 0] 24))) := (((Q.refl w).cells _ _).cells _ _).cells _ _
  refine (checkboth_nil (HP.out.next HQ0.out) HN.out hcap HSP.out).mono ?_
  rintro e w1 ⟨rfl, q1⟩
  have HQ1 : Hid (Q w w1) := HQ0.out.trans q1
  have r0 : w1.cell? ⟨w.heap.size + 1 + 1, 0, none⟩ = some (.int .i64 0) := q1.cell (by simp [go_sem])
  have r1 : w1.cell? ⟨w.heap.size + 1 + 1, 1, none⟩ = some (.slice none 0 0) := q1.cell (by simp [go_sem])
  have rf : ∀ j, w1.frozen? ⟨w.heap.size + 1 + 1, j, none⟩ = false := fun j => (q1.2 _).trans (by simp [go_sem])
  clear q1 HQ0
  go_wp2_with fail
  refine bodyPost_ret (v := .tuple #[.agg #[.int .i64 0, .slice none 0 0], .int .i64 80]) (by simp [results, Try.results12, go_sem, r0, r1]) rfl ⟨rfl, (HQ1.out.set (by show _ ≤ w.heap.size + 1 + 1; omega) _).set (by show _ ≤ w.heap.size + 1 + 1; omega) _⟩
end Go.Proofs.Ytdempklpmggdoaa
/- Convert of whatever good pictures: no way for all of them, or one way that goes place by place. -/
namespace Go.Proofs.Ytdempklpmggdoaa
open Go.RowKit
set_option linter.unusedVariables false
set_option linter.unusedSimpArgs false

theorem ways {k : Int} (h1 : 1 ≤ k) (h4 : k ≤ 4) : ∃ t fa fb X0 X1 X2 U0 U1 U2, Way k t fa fb X0 X1 X2 U0 U1 U2 := by
  have : k = 1 ∨ k = 2 ∨ k = 3 ∨ k = 4 := by omega
  rcases this with rfl | rfl | rfl | rfl
  · exact ⟨_, _, _, _, _, _, _, _, _, way_1⟩
  · exact ⟨_, _, _, _, _, _, _, _, _, way_2⟩
  · exact ⟨_, _, _, _, _, _, _, _, _, way_3⟩
  · exact ⟨_, _, _, _, _, _, _, _, _, way_4⟩
theorem mixL_ln (F0 F1 F2 : Nat → Nat → Nat → Nat) (A : List (List Nat)) : (mixL F0 F1 F2 A).length = A.length := by
  match A with
  | [] => rfl
  | [_] => rfl
  | [_, _] => rfl
  | _ :: _ :: _ :: _ => rfl
/-- What goes place by place. -/
structure Placed (T : List (List Nat) → List (List Nat)) : Prop where
  len : ∀ A, (T A).length = A.length
  cut : ∀ {a b x0 y0 c d : Nat}, Rct a b x0 y0 c d → ∀ A : List (List Nat), (∀ S ∈ A, S.length = a * b) → T (A.map (cutL a x0 y0 c d)) = (T A).map (cutL a x0 y0 c d)
theorem placed_id : Placed id := ⟨fun _ => rfl, fun _ _ _ => rfl⟩
theorem placed_mix (F0 F1 F2 : Nat → Nat → Nat → Nat) : Placed (mixL F0 F1 F2) := ⟨mixL_ln F0 F1 F2, fun hr A hA => cut_mixL hr hA F0 F1 F2⟩
theorem chg_map (F : Nat → Nat) : ∀ (i : Nat) (A : List (List Nat)), chgL F (-1) i A = A.map (List.map F)
  | i, [] => rfl
  | i, S :: t => by
    show chgS F (-1) i S :: chgL F (-1) (i + 1) t = _
    rw [chg_map F (i + 1) t]
    unfold chgS
    rw [if_pos (by rfl : chgB (-1) i = true)]
    rfl
theorem placed_chg (F : Nat → Nat) : Placed (chgL F (-1) 0) := ⟨fun A => by rw [chg_map, List.length_map], fun hr A hA => by
  rw [chg_map, chg_map, List.map_map, List.map_map]
  apply List.map_congr_left
  intro S hS
  exact (cut_map hr (hA S hS) F).symm⟩
theorem conv_any (sp tt : Int) (n : Nat) (hsp : spcB sp n = true) :
    (∀ (w : World) (g o cap a b : Nat) (L : List PL), Pc w g o a b L → L.length = n → n ≤ cap → Calls Try.prog 8 #[.agg #[.int .i64 sp, .slice (some ⟨g, o, none⟩) n cap], .int .i64 tt] w fun e w' => e = .returned (.tuple #[.agg #[.int .i64 0, .slice none 0 0], .int .i64 81]) ∧ Q w w') ∨
    (∃ T, Placed T ∧ ∀ (w : World) (g o cap a b : Nat) (L : List PL), Pc w g o a b L → L.length = n → n ≤ cap → Calls Try.prog 8 #[.agg #[.int .i64 sp, .slice (some ⟨g, o, none⟩) n cap], .int .i64 tt] w fun e w' => ∃ g' cap' M, e = .returned (.tuple #[.agg #[.int .i64 tt, .slice (some ⟨g', 0, none⟩) n cap'], .int .i64 0]) ∧ M.map PL.S = T (L.map PL.S) ∧ Hid (Nw w.heap.size w' g' cap' a b M) ∧ Q w w') := by
  have hb := spc_bd hsp
  rcases Decidable.em (sp = tt) with rfl | hne
  · exact Or.inr ⟨id, placed_id, fun w g o cap a b L h hn hcap => conv8_same sp w g o cap a b n L h hn hcap hsp⟩
  rcases Decidable.em (1 ≤ tt ∧ tt ≤ 4) with ⟨t1, t4⟩ | ht
  · obtain ⟨tb, fb', fb, Z0, Z1, Z2, U0, U1, U2, hl⟩ := ways t1 t4
    rcases Decidable.em (sp = 0) with rfl | h0
    · exact Or.inl fun w g o cap a b L h hn hcap => conv8_bad (fun w => conv_bad1 (Or.inl hne) (by decide) (by decide) (by decide) (by decide) (Or.inl ⟨_, hl.sp⟩) 0 0 0 w) w g o cap a b n L h hn hcap hsp
    · obtain ⟨ta, fa, fa', X0, X1, X2, Y0, Y1, Y2, hk⟩ := ways (k := sp) (by omega) (by omega)
      have h3 : 3 ≤ n := by
        unfold spcB at hsp
        simp at hsp
        omega
      exact Or.inr ⟨_, placed_mix _ _ _, fun w g o cap a b L h hn hcap => conv8_good hne hk hl w g o cap a b n L h hn hcap h3 hsp⟩
  · have hno := spaceOf_no tt (by omega) (by omega) (by omega) (by omega)
    rcases Decidable.em (sp = 0) with rfl | h0
    · exact Or.inl fun w g o cap a b L h hn hcap => conv8_bad (fun w => conv_bad1 (Or.inl hne) (by decide) (by decide) (by decide) (by decide) (Or.inr hno) 0 0 0 w) w g o cap a b n L h hn hcap hsp
    · obtain ⟨ta, fa, fa', X0, X1, X2, Y0, Y1, Y2, hk⟩ := ways (k := sp) (by omega) (by omega)
      exact Or.inl fun w g o cap a b L h hn hcap => conv8_bad (fun w => conv_bad2 hne _ hk.sp hno 0 0 0 w) w g o cap a b n L h hn hcap hsp
/-- A good picture stays where other blocks are written. -/
theorem Pc.keep {w w' : World} {g o a b : Nat} {L : List PL} {R : Nat → Prop} (h : Pc w g o a b L) (f : Fr w w' R) (hg : R g) (hx : ∀ x ∈ L, R x.g) : Pc w' g o a b L :=
  ⟨h.size, h.n1, h.n4, f.pis h.row hg, fun x hm => ⟨(h.it x hm).len, (h.it x hm).room, f.uis (h.it x hm).us (hx x hm), (h.it x hm).lt⟩⟩
theorem Pc.lt {w : World} {g o a b : Nat} {L : List PL} (h : Pc w g o a b L) : g < w.heap.size ∧ ∀ x ∈ L, x.g < w.heap.size := by
  refine ⟨?_, fun x hx => ?_⟩
  · obtain ⟨x, hx⟩ : ∃ x, L[0]? = some x := ⟨_, List.getElem?_eq_getElem (by have := h.n1; omega)⟩
    exact cell_in (h.row 0 x hx).1
  · have h1 := (h.it x hx).us
    have h2 := (h.it x hx).len
    have h3 := h.size.pos
    exact cell_in (h1 0 (by omega))
end Go.Proofs.Ytdempklpmggdoaa
/- Crop of whatever rectangle; boxes that are stored to again. -/
namespace Go.Proofs.Ytdempklpmggdoaa
open Go.RowKit
set_option linter.unusedVariables false
set_option linter.unusedSimpArgs false

theorem wiB_rct {x0 y0 x1 y1 : Int} {a b : Nat} (h : wiB x0 y0 x1 y1 a b = true) : ∃ X Y c d : Nat, (X : Int) = x0 ∧ (Y : Int) = y0 ∧ x1 = (X + c : Nat) ∧ y1 = (Y + d : Nat) ∧ Rct a b X Y c d := by
  unfold wiB at h
  simp only [Bool.and_eq_true, decide_eq_true_eq] at h
  obtain ⟨h1, h2, h3, h4, h5, h6⟩ := h
  refine ⟨x0.toNat, y0.toNat, (x1 - x0).toNat, (y1 - y0).toNat, by omega, by omega, by omega, by omega, ⟨by omega, by omega, by omega, by omega⟩⟩
theorem rct_wiB {x0 y0 x1 y1 : Int} {a b X Y c d : Nat} (hx : (X : Int) = x0) (hy : (Y : Int) = y0) (hx1 : x1 = (X + c : Nat)) (hy1 : y1 = (Y + d : Nat)) (h : Rct a b X Y c d) : wiB x0 y0 x1 y1 a b = true := by
  unfold wiB
  simp only [Bool.and_eq_true, decide_eq_true_eq]
  have := h.c1; have := h.c2; have := h.d1; have := h.d2
  omega
/-- What Crop answers: nothing, or a piece. -/
def Cro (x0 y0 x1 y1 : Int) (sp : Int) (a b n : Nat) (L : List PL) (w' : World) (spY : Int) (py : Option Addr) (ny cy : Nat) (eY : Int) : Prop :=
  (wiB x0 y0 x1 y1 a b = false ∧ spY = 0 ∧ py = none ∧ ny = 0 ∧ cy = 0 ∧ eY = 52) ∨
  (∃ (X Y c d gY : Nat) (M : List PL), (X : Int) = x0 ∧ (Y : Int) = y0 ∧ x1 = (X + c : Nat) ∧ y1 = (Y + d : Nat) ∧ Rct a b X Y c d ∧ sp = spY ∧ some ⟨gY, 0, none⟩ = py ∧ n = ny ∧ n ≤ cy ∧ eY = 0 ∧ Pc w' gY 0 c d M ∧ M.length = n ∧ M.map PL.S = (L.map PL.S).map (cutL a X Y c d))
theorem Cro.next {x0 y0 x1 y1 : Int} {sp : Int} {a b n : Nat} {L : List PL} {w w' : World} {spY : Int} {py : Option Addr} {ny cy : Nat} {eY : Int} (h : Cro x0 y0 x1 y1 sp a b n L w spY py ny cy eY) (q : Q w w') : Cro x0 y0 x1 y1 sp a b n L w' spY py ny cy eY := by
  rcases h with h | ⟨X, Y, c, d, gY, M, h1, h2, h3, h4, h5, h6, h7, h8, h9, h10, h11, h12⟩
  · exact Or.inl h
  · exact Or.inr ⟨X, Y, c, d, gY, M, h1, h2, h3, h4, h5, h6, h7, h8, h9, h10, h11.next q, h12⟩
theorem crop_any (x0 y0 x1 y1 : Int) (w : World) (sp : Int) (g o cap a b n : Nat) (L : List PL) (h : Pc w g o a b L) (hn : L.length = n) (hcap : n ≤ cap) (hsp : spcB sp n = true) :
    Calls Try.prog 7 #[.agg #[.int .i64 sp, .slice (some ⟨g, o, none⟩) n cap], .agg #[.int .i64 x0, .int .i64 y0, .int .i64 x1, .int .i64 y1]] w fun e w' => ∃ spY py ny cy eY, e = .returned (.tuple #[.agg #[.int .i64 spY, .slice py ny cy], .int .i64 eY]) ∧ Hid (Cro x0 y0 x1 y1 sp a b n L w' spY py ny cy eY) ∧ Q w w' := by
  cases hw : wiB x0 y0 x1 y1 a b with
  | false => exact (crop8_out x0 y0 x1 y1 w sp g o cap a b n L hw h hn hcap hsp).mono fun e w' ⟨he, q⟩ => ⟨_, _, _, _, _, he, Or.inl ⟨hw, rfl, rfl, rfl, rfl, rfl⟩, q⟩
  | true =>
    obtain ⟨X, Y, c, d, hX, hY, h1, h2, hr⟩ := wiB_rct hw
    have hc := crop8_good x1 y1 h1 h2 w sp g o cap a b n L hr h hn hcap hsp
    rw [hX, hY] at hc
    refine hc.mono ?_
    rintro e w' ⟨g', cap', M, he, hM, HW, q⟩
    have hl : M.length = n := by have := congrArg List.length hM; rw [List.length_map, List.length_map, List.length_map, hn] at this; exact this
    exact ⟨_, _, _, _, _, he, Or.inr ⟨X, Y, c, d, g', M, hX, hY, h1, h2, hr, rfl, rfl, rfl, by have := HW.out.room; omega, rfl, HW.out.pc, hl, hM⟩, q⟩
theorem pieces_any {x0 y0 x1 y1 : Int} {X Y c d : Nat} (hX : (X : Int) = x0) (hY : (Y : Int) = y0) (h1 : x1 = (X + c : Nat)) (h2 : y1 = (Y + d : Nat)) (w : World) (sp : Int) {gC oC kC nn aa bb gD oD kD : Nat} {L LD : List PL} (hr : Rct aa bb X Y c d) (hp : Pc w gC oC aa bb L) (hn : L.length = nn) (hk : nn ≤ kC) (hd : Pc w gD oD c d LD) (hkd : nn ≤ kD) (hs : LD.map PL.S = (L.map PL.S).map (cutL aa X Y c d)) :
    Calls Try.prog 9 #[.agg #[.int .i64 sp, .slice (some ⟨gC, oC, none⟩) nn kC], .agg #[.int .i64 x0, .int .i64 y0, .int .i64 x1, .int .i64 y1], .agg #[.int .i64 sp, .slice (some ⟨gD, oD, none⟩) nn kD]] w fun e w' => e = .returned (.bool true) ∧ Q w w' := by
  have := pieces_yes x1 y1 h1 h2 w sp hr hp hn hk hd hkd hs
  rwa [hX, hY] at this
/-- A box with a picture in it. -/
structure Bx (w : World) (B : Nat) (v0 v1 : Value) : Prop where
  c0 : w.cell? ⟨B, 0, none⟩ = some v0
  c1 : w.cell? ⟨B, 1, none⟩ = some v1
  fz : ∀ j, w.frozen? ⟨B, j, none⟩ = false
theorem Bx.next {w w' : World} {B : Nat} {v0 v1 : Value} (h : Bx w B v0 v1) (q : Q w w') : Bx w' B v0 v1 := ⟨q.cell h.c0, q.cell h.c1, fun j => (q.2 _).trans (h.fz j)⟩
theorem Bx.set {w : World} {B : Nat} {v0 v1 : Value} (h : Bx w B v0 v1) (u0 u1 : Value) : Bx ((w.setCell ⟨B, 0, none⟩ u0).setCell ⟨B, 1, none⟩ u1) B u0 u1 := by
  refine ⟨?_, ?_, fun j => ?_⟩
  · rw [World.cell?_setCell_other _ _ _ _ (by simp)]; exact World.cell?_setCell_same _ _ _ h.c0
  · exact World.cell?_setCell_same _ _ _ (by rw [World.cell?_setCell_other _ _ _ _ (by simp)]; exact h.c1)
  · rw [World.frozen?_setCell, World.frozen?_setCell]; exact h.fz j
theorem fr_set (w : World) (B : Nat) (u0 u1 : Value) : Fr w ((w.setCell ⟨B, 0, none⟩ u0).setCell ⟨B, 1, none⟩ u1) (fun b => b ≠ B) := ((Fr.refl w _).set (fun h => h rfl) _).set (fun h => h rfl) _
theorem Bx.other {w : World} {B C : Nat} {v0 v1 : Value} (h : Bx w B v0 v1) (hne : B ≠ C) (u0 u1 : Value) : Bx ((w.setCell ⟨C, 0, none⟩ u0).setCell ⟨C, 1, none⟩ u1) B v0 v1 :=
  ⟨(fr_set w C u0 u1).cell h.c0 hne, (fr_set w C u0 u1).cell h.c1 hne, fun j => ((fr_set w C u0 u1).frz _).trans (h.fz j)⟩
theorem Pc.set {w : World} {g o a b : Nat} {L : List PL} (h : Pc w g o a b L) {B : Nat} (hg : g ≠ B) (hx : ∀ x ∈ L, x.g ≠ B) (u0 u1 : Value) : Pc ((w.setCell ⟨B, 0, none⟩ u0).setCell ⟨B, 1, none⟩ u1) g o a b L := h.keep (fr_set w B u0 u1) hg hx
theorem Nw.apart {lo : Nat} {w : World} {g cap a b : Nat} {L : List PL} (h : Nw lo w g cap a b L) {B : Nat} (hB : B < lo) : g ≠ B ∧ ∀ x ∈ L, x.g ≠ B := by
  refine ⟨by have := h.low; omega, fun x hx => by have := (h.it x hx).1.low; omega⟩
end Go.Proofs.Ytdempklpmggdoaa
/- PicturePlaces: each operation, of whatever good picture, in one form. -/
namespace Go.Proofs.Ytdempklpmggdoaa
open Go.RowKit
set_option linter.unusedVariables false
set_option linter.unusedSimpArgs false

/-- What an operation answers of every good picture of one space and number: one error, or a picture of one space and number, place by place. -/
def OpU (f : FuncId) (mk : Value → Array Value) (sp : Int) (n : Nat) (ok : Bool) (s : Int) (m : Nat) (er : Int) (T : List (List Nat) → List (List Nat)) : Prop :=
  ∀ (w : World) (g o cap a b : Nat) (L : List PL), Pc w g o a b L → L.length = n → n ≤ cap → Calls Try.prog f (mk (.agg #[.int .i64 sp, .slice (some ⟨g, o, none⟩) n cap])) w fun e w' => ∃ q k, e = .returned (.tuple #[.agg #[.int .i64 s, .slice q m k], .int .i64 er]) ∧ Q w w' ∧ (ok = true → ∃ gC C, q = some ⟨gC, 0, none⟩ ∧ m ≤ k ∧ C.length = m ∧ Nw w.heap.size w' gC k a b C ∧ C.map PL.S = T (L.map PL.S))
theorem placed_len {M L : List PL} {T : List (List Nat) → List (List Nat)} (hT : Placed T) (h : M.map PL.S = T (L.map PL.S)) {n : Nat} (hn : L.length = n) : M.length = n := by
  have := congrArg List.length h
  rw [List.length_map, hT.len, List.length_map, hn] at this
  exact this
theorem conv_u (sp tt : Int) (n : Nat) (hsp : spcB sp n = true) : ∃ ok s m er T, Placed T ∧ ((ok = true ∧ er = 0) ∨ (ok = false ∧ ¬ er = 0)) ∧ OpU 8 (fun v => #[v, .int .i64 tt]) sp n ok s m er T := by
  rcases conv_any sp tt n hsp with h | ⟨T, hT, h⟩
  · exact ⟨false, 0, 0, 81, id, placed_id, Or.inr ⟨rfl, by decide⟩, fun w g o cap a b L hp hn hc => (h w g o cap a b L hp hn hc).mono fun e w' ⟨h1, h2⟩ => ⟨none, 0, h1, h2, fun h => by cases h⟩⟩
  · exact ⟨true, tt, n, 0, T, hT, Or.inl ⟨rfl, rfl⟩, fun w g o cap a b L hp hn hc => (h w g o cap a b L hp hn hc).mono fun e w' ⟨g', k, M, h1, h2, h3, h4⟩ => ⟨some ⟨g', 0, none⟩, k, h1, h4, fun _ => ⟨g', M, rfl, by have := h3.out.room; rw [placed_len hT h2 hn] at this; exact this, placed_len hT h2 hn, h3.out, h2⟩⟩⟩
theorem affine_u (A B : Nat) (hA : A < 4294967296) (hB : B < 4294967296) (sp : Int) (n : Nat) (hsp : spcB sp n = true) : OpU 10 (fun v => #[v, .int .i64 (-1), .int .u32 (A : Int), .int .u32 (B : Int)]) sp n true sp n 0 (chgL (affineV A B) (-1) 0) :=
  fun w g o cap a b L hp hn hc => (affine_good A B hA hB w sp (-1) g o cap a b n L hp hn hc hsp (Or.inl rfl)).mono fun e w' ⟨g', k, M, h1, h2, h3, h4⟩ => ⟨some ⟨g', 0, none⟩, k, h1, h4, fun _ => ⟨g', M, rfl, by have := h3.out.room; rw [placed_len (placed_chg _) h2 hn] at this; exact this, placed_len (placed_chg _) h2 hn, h3.out, h2⟩⟩
theorem matrix_u (m : Nat → Nat) (hm : ∀ i, m i < 4294967296) (sp : Int) (n : Nat) (hsp : spcB sp n = true) : ∃ ok s k er T, Placed T ∧ ((ok = true ∧ er = 0) ∨ (ok = false ∧ ¬ er = 0)) ∧ OpU 11 (fun v => #[v, .agg #[.int .u32 ((m 0 : Nat) : Int), .int .u32 ((m 1 : Nat) : Int), .int .u32 ((m 2 : Nat) : Int), .int .u32 ((m 3 : Nat) : Int), .int .u32 ((m 4 : Nat) : Int), .int .u32 ((m 5 : Nat) : Int), .int .u32 ((m 6 : Nat) : Int), .int .u32 ((m 7 : Nat) : Int), .int .u32 ((m 8 : Nat) : Int)]]) sp n ok s k er T := by
  rcases Nat.lt_or_ge n 3 with h3 | h3
  · exact ⟨false, 0, 0, 80, id, placed_id, Or.inr ⟨rfl, by decide⟩, fun w g o cap a b L hp hn hc => (matrix_80 m w sp g o cap a b n L hp hn hc h3 hsp).mono fun e w' ⟨h1, h2⟩ => ⟨none, 0, h1, h2, fun h => by cases h⟩⟩
  · exact ⟨true, sp, n, 0, _, placed_mix (mixM m 0) (mixM m 1) (mixM m 2), Or.inl ⟨rfl, rfl⟩, fun w g o cap a b L hp hn hc => (matrix_good m hm w sp g o cap a b n L hp hn hc h3 hsp).mono fun e w' ⟨g', k, M, h1, h2, h3, h4⟩ => ⟨some ⟨g', 0, none⟩, k, h1, h4, fun _ => ⟨g', M, rfl, by have := h3.out.room; rw [placed_len (placed_mix _ _ _) h2 hn] at this; exact this, placed_len (placed_mix _ _ _) h2 hn, h3.out, h2⟩⟩⟩
end Go.Proofs.Ytdempklpmggdoaa

/- scale.Row. -/
import Derived.Test.YtdbbpmadkhedlaaG3da94f4b
import Derived.Test.YtdbbpmadkhedlaaGa9056aa6
import Derived.Test.YtdbbpmadkhedlaaG17fb7a69
namespace Go.Proofs.Ytdbbpmadkhedlaa
open Go.RowKit
set_option linter.unusedVariables false
set_option linter.unusedSimpArgs false

set_option maxHeartbeats 1000000 in
set_option maxRecDepth 100000 in
theorem sside_any (k : Int) (w : World) : Calls Try.prog 28 #[.int .i64 k] w fun e w' => e = .returned (.bool (decide (1 ≤ k ∧ k ≤ 1024))) ∧ w' = w := by
  by_cases h1 : 1 ≤ k
  · by_cases h2 : k ≤ 1024
    · rw [decide_eq_true ⟨h1, h2⟩]
      go_enter Try.func28, Try.ntmps28
      go_wp2_with fail
      go_ret
      exact ⟨by first | rfl | simp, rfl⟩
    · rw [decide_eq_false (fun h => h2 h.2)]
      go_enter Try.func28, Try.ntmps28
      go_wp2_with fail
      go_ret
      exact ⟨by first | rfl | (simp; omega), rfl⟩
  · rw [decide_eq_false (fun h => h1 h.1)]
    go_enter Try.func28, Try.ntmps28
    go_wp2_with fail
    go_ret
    exact ⟨by first | rfl | (simp; omega), rfl⟩
set_option maxHeartbeats 1000000 in
set_option maxRecDepth 100000 in
theorem refusal_any (kind F T : Int) (w : World) : Calls Try.prog 30 #[.int .i64 kind, .int .i64 F, .int .i64 T] w fun e w' => e = .returned (.int .i64 (tapE kind F T 0)) ∧ Q w w' := by
  have C := taps_all kind F T 0 w
  generalize tapE kind F T 0 = E at *
  generalize tpA kind F T 0 = L at *
  go_enter Try.func30, Try.ntmps30
  go_wp2_with fail
  refine C.mono ?_
  rintro e w1 ⟨v, n, rfl, h⟩
  have HQ : Hid (Q w w1) := h.q
  clear C h
  go_wp2_with fail
  go_ret
  exact ⟨rfl, HQ.out⟩
/-- What Row tells. -/
def rowE (n : Nat) (kind to : Int) : Int := if (1 ≤ n ∧ n ≤ 1024) ∧ (1 ≤ to ∧ to ≤ 1024) then tapE kind n to 0 else 100
def rowL (S : List Nat) (kind to : Int) : List Nat := (List.range to.toNat).map fun (k : Nat) => smpV (tpA kind S.length to (k : Int)) S
theorem tapE_at {kind F T : Int} (h : tapE kind F T 0 = 0) {k : Nat} (hk : (k : Int) < T) : tapE kind F T k = 0 := by
  unfold tapE at h ⊢
  split at h
  · rename_i h1
    rw [if_pos h1]
    split at h
    · rename_i h2
      rw [if_pos ⟨h2.1, h2.2.1, by omega, hk⟩]
      exact h
    · cases h
  · cases h
set_option maxHeartbeats 2000000 in
set_option maxRecDepth 100000 in
theorem row_bad (vl : Value) (S : List Nat) (kind to : Int) (w : World) (hl : USl w vl S) (hm : S.length ≤ 35184372087808) (hE : rowE S.length kind to ≠ 0) :
    Calls Try.prog 15 #[vl, .int .i64 kind, .int .i64 to] w fun e w' => e = .returned (.tuple #[.slice none 0 0, .int .i64 (rowE S.length kind to)]) ∧ Q w w' := by
  obtain ⟨al, cl, rfl⟩ := hl.form
  have HR : Hid (∀ (k : Int) (W : World) (B : Bool), decide (1 ≤ k ∧ k ≤ 1024) = B → Calls Try.prog 28 #[.int .i64 k] W fun e w' => e = .returned (.bool B) ∧ w' = W) := fun k W B h => by rw [← h]; exact sside_any k W
  have C := refusal_any kind S.length to w
  clear hl
  have HRo : Hid (rowE S.length kind to = if (1 ≤ S.length ∧ S.length ≤ 1024) ∧ (1 ≤ to ∧ to ≤ 1024) then tapE kind S.length to 0 else 100) := rfl
  rw [HRo.out] at hE ⊢
  clear HRo
  generalize S.length = n at *
  by_cases hn : 1 ≤ n ∧ n ≤ 1024
  · have d1 : decide ((1 : Int) ≤ (n : Int) ∧ (n : Int) ≤ 1024) = true := decide_eq_true ⟨by omega, by omega⟩
    by_cases ht : 1 ≤ to ∧ to ≤ 1024
    · rw [if_pos ⟨hn, ht⟩] at hE ⊢
      have HD : Hid _ := And.intro d1 (decide_eq_true ht)
      generalize tapE kind n to 0 = E at *
      have hEb : (E != 0) = true := by simpa using hE
      clear d1 hn ht
      go_enter Try.func15, Try.ntmps15
      go_wp2_with (go_at_call 28; first | (refine (HR.out n _ true HD.out.1).mono ?_; rintro e w' ⟨rfl, rfl⟩) | (refine (HR.out to _ true HD.out.2).mono ?_; rintro e w' ⟨rfl, rfl⟩))
      refine C.mono ?_
      rintro e w1 ⟨rfl, q1⟩
      clear C
      have HQ : Hid (Q _ w1) := q1
      clear q1
      go_wp2_with fail
      go_ret2
      exact ⟨rfl, HQ.out⟩
    · rw [if_neg (fun h => ht h.2)]
      have HD : Hid _ := And.intro d1 (decide_eq_false ht)
      clear d1 hn ht C hE
      go_enter Try.func15, Try.ntmps15
      go_wp2_with (go_at_call 28; first | (refine (HR.out n _ true HD.out.1).mono ?_; rintro e w' ⟨rfl, rfl⟩) | (refine (HR.out to _ false HD.out.2).mono ?_; rintro e w' ⟨rfl, rfl⟩))
      go_ret2
      exact ⟨rfl, Q.refl _⟩
  · rw [if_neg (fun h => hn h.1)]
    have HD : Hid _ := decide_eq_false (p := (1 : Int) ≤ (n : Int) ∧ (n : Int) ≤ 1024) (fun h => hn ⟨by omega, by omega⟩)
    clear hn C hE
    go_enter Try.func15, Try.ntmps15
    go_wp2_with (go_at_call 28; refine (HR.out n _ false HD.out).mono ?_; rintro e w' ⟨rfl, rfl⟩)
    go_ret2
    exact ⟨rfl, Q.refl _⟩
set_option maxHeartbeats 2000000 in
set_option maxRecDepth 100000 in
theorem row_good (vl : Value) (S : List Nat) (kind to : Int) (w : World) (hl : USl w vl S) (hb : ∀ i, S.getD i 0 < 4294967296) (hE : rowE S.length kind to = 0) :
    Calls Try.prog 15 #[vl, .int .i64 kind, .int .i64 to] w fun e w' => ∃ b, e = .returned (.tuple #[.slice (some ⟨b, 0, none⟩) to.toNat to.toNat, .int .i64 0]) ∧ Own w w' b (rowL S kind to) := by
  obtain ⟨al, cl, rfl⟩ := hl.form
  unfold rowE at hE
  split at hE
  · rename_i hh
    obtain ⟨⟨n1, n2⟩, t1, t2⟩ := hh
    have HR : Hid (∀ (k : Int) (W : World), 1 ≤ k → k ≤ 1024 → Calls Try.prog 28 #[.int .i64 k] W fun e w' => e = .returned (.bool true) ∧ w' = W) := fun k W h1 h2 => by have := sside_any k W; rw [decide_eq_true ⟨h1, h2⟩] at this; exact this
    have C := refusal_any kind S.length to w
    rw [hE] at C
    obtain ⟨N, hN⟩ : ∃ N : Nat, to = (N : Int) := ⟨to.toNat, by omega⟩
    have HC2 : Hid (∀ W : World, Calls Try.prog 31 #[.int .i64 kind, .int .i64 S.length, .int .i64 to, .int .i64 0, .int .i64 to] W fun e w' => ∃ v, e = .returned v ∧ LnX w' v ((List.range N).map fun (k : Nat) => tpA kind S.length to (k : Int)) ∧ Q W w') := fun W => by
      have := lineOf_any kind S.length to 0 N W (by omega) (by omega)
      simp only [Nat.zero_add] at this
      rw [hN]
      rw [hN] at this
      exact this.mono fun e w' ⟨v, h1, h2, h3⟩ => ⟨v, h1, h2.x, h3⟩
    have HC3 : Hid (∀ (v : Value) (W : World), LnX W v ((List.range N).map fun (k : Nat) => tpA kind S.length to (k : Int)) → Q w W → Calls Try.prog 34 #[v, .slice al S.length cl] W fun e w' => ∃ b, e = .returned (.slice (some ⟨b, 0, none⟩) N N) ∧ Own W w' b (rowL S kind to)) := fun v W hv q => by
      have := line_of v (.slice al S.length cl) _ S W hv (hl.next q) (by rw [List.length_map, List.length_range]; omega) (by omega) hb (fun L hL => by
        obtain ⟨k, hk, rfl⟩ := List.mem_map.1 hL
        have hkN := List.mem_range.1 hk
        have := tpA_tok (tapE_at hE (k := k) (by omega))
        rw [Int.toNat_natCast] at this
        exact this)
      rw [List.length_map, List.length_range, List.map_map] at this
      have e : (List.range N).map ((fun L => smpV L S) ∘ fun (k : Nat) => tpA kind S.length to (k : Int)) = rowL S kind to := by
        unfold rowL
        rw [show to.toNat = N by omega]
        rfl
      rw [e] at this
      exact this
    have HN : Hid (to.toNat = N) := by show _ = _; omega
    have n1z : (1 : Int) ≤ (S.length : Int) := by omega
    have n2z : (S.length : Int) ≤ 1024 := by omega
    rw [HN.out]
    generalize rowL S kind to = RL at *
    generalize (List.range N).map (fun (k : Nat) => tpA kind S.length to (k : Int)) = Ls at *
    clear hl hb hE hN n1 n2
    generalize S.length = n at *
    go_enter Try.func15, Try.ntmps15
    go_wp2_with (go_at_call 28; first | (refine (HR.out n _ n1z n2z).mono ?_; rintro e w' ⟨rfl, hw⟩; obtain rfl := hw.symm) | (refine (HR.out to _ t1 t2).mono ?_; rintro e w' ⟨rfl, hw⟩; obtain rfl := hw.symm))
    refine C.mono ?_
    rintro e w1 ⟨rfl, q1⟩
    clear C
    have HQ : Hid (Q w w1) := q1
    clear q1
    go_wp2_with fail
    refine (HC2.out w1).mono ?_
    rintro e w2 ⟨v2, rfl, l2, q2⟩
    have C3 := HC3.out v2 w2 l2 (HQ.out.trans q2)
    have HQ2 : Hid (Q w w2) := HQ.out.trans q2
    clear l2 q2
    go_wp2_with fail
    refine C3.mono ?_
    rintro e w3 ⟨b, rfl, o3⟩
    clear C3
    have HO : Hid (Own w w3 b RL) := ⟨HQ2.out.trans o3.q, Nat.le_trans HQ2.out.1.size o3.new, o3.cells, o3.free⟩
    clear o3
    go_wp2_with fail
    go_ret2
    exact ⟨b, rfl, HO.out⟩
  · cases hE
end Go.Proofs.Ytdbbpmadkhedlaa
/- piece: a piece of a plane of another size. -/
namespace Go.Proofs.Ytdbbpmadkhedlaa
open Go.RowKit
set_option linter.unusedVariables false
set_option linter.unusedSimpArgs false

set_option maxHeartbeats 8000000 in
set_option maxRecDepth 100000 in
theorem piece_any (kind W H x0 x1 y0 y1 : Int) (pa pb nx ny : Nat) (A D : LLs) (sv : Value) (S : List Nat) (w : World)
    (k1 : ∀ x : World, Calls Try.prog 31 #[.int .i64 kind, .int .i64 (pa : Int), .int .i64 W, .int .i64 x0, .int .i64 x1] x fun e x' => ∃ v, e = .returned v ∧ LnJ x.heap.size x'.heap.size x' v A ∧ Q x x')
    (k2 : ∀ x : World, Calls Try.prog 31 #[.int .i64 kind, .int .i64 (pb : Int), .int .i64 H, .int .i64 y0, .int .i64 y1] x fun e x' => ∃ v, e = .returned v ∧ LnJ x.heap.size x'.heap.size x' v D ∧ Q x x')
    (hsv : USl w sv S) (hsz : Size pa pb) (hS : S.length = pa * pb) (hb : ∀ i, S.getD i 0 < 4294967296) (hA : ∀ L ∈ A, TOk pa L) (hD : ∀ L ∈ D, TOk pb L ∧ L.Pairwise (fun x y => x.1 < y.1)) (hx : A.length = nx) (hy : D.length = ny) (hx1 : 1 ≤ nx) (hy1 : 1 ≤ ny) (hx2 : nx ≤ 1024) (hy2 : ny ≤ 1024) :
    Calls Try.prog 27 #[.agg #[.int .i64 (pa : Int), .int .i64 (pb : Int), sv], .int .i64 kind, .int .i64 W, .int .i64 H, .agg #[.int .i64 x0, .int .i64 y0, .int .i64 x1, .int .i64 y1]] w fun e w' => ∃ g, e = .returned (.agg #[.int .i64 (nx : Int), .int .i64 (ny : Int), .slice (some ⟨g, 0, none⟩) (nx * ny) (nx * ny)]) ∧ URow w' g (tabN (nx * ny) fun i => pieceV A D S pa pb (i % nx) (i / nx)) ∧ w.heap.size ≤ g ∧ Q w w' := by
  have hSp : 1 ≤ S.length := by rw [hS]; exact hsz.pos
  obtain ⟨gs, os, cs, rfl, hcs, hU⟩ := hsv.some hSp
  have HK1 : Hid _ := k1
  have HK2 : Hid _ := k2
  have HU : Hid (UIs w gs os S ∧ S.length ≤ cs ∧ S.length = pa * pb ∧ ∀ i, S.getD i 0 < 4294967296) := ⟨hU, hcs, hS, hb⟩
  have HSz : Hid (Size pa pb) := hsz
  have HA : Hid (∀ L ∈ A, TOk pa L) := hA
  have HD : Hid (∀ L ∈ D, TOk pb L ∧ L.Pairwise (fun x y => x.1 < y.1)) := hD
  have HX : Hid (A.length = nx ∧ D.length = ny) := ⟨hx, hy⟩
  obtain ⟨n, hn⟩ : ∃ n, nx * ny = n := ⟨_, rfl⟩
  have HN : Hid (nx * ny = n) := hn
  have hnb : n ≤ 1048576 := by rw [← hn]; exact Nat.le_trans (Nat.mul_le_mul hx2 hy2) (by decide)
  have pa1 := hsz.a1
  have pa2 := hsz.a2
  have pb1 := hsz.b1
  have pb2 := hsz.b2
  obtain ⟨sl, hsl⟩ : ∃ sl, S.length = sl := ⟨_, rfl⟩
  rw [hsl, hn]
  have HSl : Hid (S.length = sl) := hsl
  clear k1 k2 hsv hsz hS hb hA hD hx hy hU hcs hSp hn hsl
  go_enter Try.func27, Try.ntmps27
  go_wp2_with fail
  obtain ⟨w0, hw0⟩ : ∃ w0, ((w.alloc (.cells #[.int .i64 (pa : Int), .int .i64 (pb : Int), .slice (some ⟨gs, os, none⟩) sl cs] 33)).alloc (.cells #[.int .i64 x0, .int .i64 y0, .int .i64 x1, .int .i64 y1] 44)).alloc (.cells #[.int .i64 0, .int .i64 0, .slice none 0 0] 33) = w0 := ⟨_, rfl⟩
  have q0 : Q w w0 := by rw [← hw0]; exact (((Q.refl w).cells _ _).cells _ _).cells _ _
  have c50 : w0.cell? ⟨w.heap.size, 0, none⟩ = some (.int .i64 (pa : Int)) := by rw [← hw0]; simp [go_sem]
  have c51 : w0.cell? ⟨w.heap.size, 1, none⟩ = some (.int .i64 (pb : Int)) := by rw [← hw0]; simp [go_sem]
  have c52 : w0.cell? ⟨w.heap.size, 2, none⟩ = some (.slice (some ⟨gs, os, none⟩) sl cs) := by rw [← hw0]; simp [go_sem]
  have c90 : w0.cell? ⟨w.heap.size + 1, 0, none⟩ = some (.int .i64 x0) := by rw [← hw0]; simp [go_sem]
  have c91 : w0.cell? ⟨w.heap.size + 1, 1, none⟩ = some (.int .i64 y0) := by rw [← hw0]; simp [go_sem]
  have c92 : w0.cell? ⟨w.heap.size + 1, 2, none⟩ = some (.int .i64 x1) := by rw [← hw0]; simp [go_sem]
  have c93 : w0.cell? ⟨w.heap.size + 1, 3, none⟩ = some (.int .i64 y1) := by rw [← hw0]; simp [go_sem]
  have HR : Hid (w0.cell? ⟨w.heap.size + 1 + 1, 0, none⟩ = some (.int .i64 0) ∧ w0.cell? ⟨w.heap.size + 1 + 1, 1, none⟩ = some (.int .i64 0) ∧ w0.cell? ⟨w.heap.size + 1 + 1, 2, none⟩ = some (.slice none 0 0) ∧ (∀ j, w0.frozen? ⟨w.heap.size + 1 + 1, j, none⟩ = false) ∧ w0.heap.size = w.heap.size + 3) := by
    rw [← hw0]
    exact ⟨by simp [go_sem], by simp [go_sem], by simp [go_sem], fun j => by simp [go_sem], by simp⟩
  rw [hw0]
  have HQ0 : Hid (Q w w0) := q0
  have H5 : Hid (w0.cell? ⟨w.heap.size, 0, none⟩ = some (.int .i64 (pa : Int)) ∧ w0.cell? ⟨w.heap.size, 1, none⟩ = some (.int .i64 (pb : Int)) ∧ w0.cell? ⟨w.heap.size, 2, none⟩ = some (.slice (some ⟨gs, os, none⟩) sl cs)) := ⟨c50, c51, c52⟩
  clear hw0 q0
  refine regionPc (kind := kind) (pa := (pa : Int)) (pb := (pb : Int)) (W := W) (H := H) (x0 := x0) (x1 := x1) (y0 := y0) (y1 := y1) (b5 := w.heap.size) (b9 := w.heap.size + 1) (A := A) (D := D) rfl rfl ⟨rfl, rfl, rfl, rfl, rfl, c50, c51, c90, c91, c92, c93, HK1.out, HK2.out⟩ ?_
  intro w1 bA bD g1 g2 HL
  rw [normPc]
  clear c50 c51 c52 c90 c91 c92 c93 HK1 HK2
  have HB : Hid (LnX w1 (.agg #[.int .i64 (nx : Int), .func (.func 47) #[] #[.pointer (some ⟨bA, 0, none⟩)]]) A ∧ LnX w1 (.agg #[.int .i64 (ny : Int), .func (.func 47) #[] #[.pointer (some ⟨bD, 0, none⟩)]]) D) := by
    have a := HL.a
    have d := HL.d
    rw [HX.out.1] at a
    rw [HX.out.2] at d
    exact ⟨a, d⟩
  have b10 := HL.c10
  have b11 := HL.c11
  have b20 := HL.c20
  have b21 := HL.c21
  rw [HX.out.1] at b10
  rw [HX.out.2] at b20
  rw [HX.out.1, HX.out.2]
  have HB1 : Hid (w1.cell? ⟨g1, 0, none⟩ = some (.int .i64 (nx : Nat)) ∧ w1.cell? ⟨g1, 1, none⟩ = some (.func (.func 47) #[] #[.pointer (some ⟨bA, 0, none⟩)]) ∧ w1.cell? ⟨g2, 0, none⟩ = some (.int .i64 (ny : Nat)) ∧ w1.cell? ⟨g2, 1, none⟩ = some (.func (.func 47) #[] #[.pointer (some ⟨bD, 0, none⟩)]) ∧ Q w0 w1) := ⟨b10, b11, b20, b21, HL.q⟩
  clear HL
  have Cs := span_any _ D pb w1 HB.out.2 (by rw [HX.out.2]; omega) (by omega) (fun L hL => (HD.out L hL).1)
  rw [HX.out.2] at Cs
  have sb := span_bd (fun L hL => (HD.out L hL).1) pb2 ny (by rw [HX.out.2]; exact Nat.le_refl _)
  have si := span_in HD.out ny (by rw [HX.out.2]; exact Nat.le_refl _)
  obtain ⟨f, hf⟩ : ∃ f : Nat, fstS D ny = (f : Int) := ⟨(fstS D ny).toNat, by omega⟩
  obtain ⟨e, he⟩ : ∃ e : Nat, endS D ny = (e : Int) := ⟨(endS D ny).toNat, by omega⟩
  rw [hf, he] at Cs sb si
  have HI : Hid (∀ i L, i < ny → D[i]? = some L → ∀ e_1 ∈ L, (f : Int) ≤ e_1.1 ∧ e_1.1 < (e : Int)) := si
  have hepb : e ≤ pb := by omega
  have hfe : f ≤ e := by
    have hL0 : D[0]? = some (D[0]'(by rw [HX.out.2]; omega)) := List.getElem?_eq_getElem _
    have ok := (HD.out _ (List.mem_of_getElem? hL0)).1
    have hm : (D[0]'(by rw [HX.out.2]; omega))[0]'(by have := ok.one; omega) ∈ D[0]'(by rw [HX.out.2]; omega) := List.getElem_mem _
    have := si 0 _ (by omega) hL0 _ hm
    omega
  obtain ⟨d, hd⟩ : ∃ d, f + d = e := ⟨e - f, by omega⟩
  have ed : (e : Int) - (f : Int) = (d : Int) := by omega
  clear hf he sb si
  go_wp2_with fail
  refine Cs.mono ?_
  rintro e2 w2 ⟨rfl, q2⟩
  clear Cs
  obtain ⟨M, hmk, hF⟩ := make_u32 pb (by omega)
  have hu3 := urow_fill (hF w2)
  have d50 := (HB1.out.2.2.2.2.trans q2).cell H5.out.2.1
  have HB2 : Hid (Q w0 w2 ∧ Q w1 w2) := ⟨HB1.out.2.2.2.2.trans q2, q2⟩
  obtain ⟨w3, hw3⟩ : ∃ w3, w2.alloc (.cells M 34) = w3 := ⟨_, rfl⟩
  have q3 : Q w2 w3 := by rw [← hw3]; exact (Q.refl w2).cells _ _
  have hg3 : w2.heap.size < w3.heap.size := by rw [← hw3]; simp
  rw [hw3] at hu3
  have HU3 : Hid (URow w3 w2.heap.size (List.replicate pb 0) ∧ w2.heap.size < w3.heap.size) := ⟨hu3, hg3⟩
  clear hF q2 hg3 hu3
  go_wp2_with fail
  have x10 := (HB2.out.2.trans q3).cell HB1.out.1
  have x20 := (HB2.out.2.trans q3).cell HB1.out.2.2.1
  have hwn : IntKind.i64.wrap ((nx : Int) * (ny : Int)) = (n : Int) := by
    rw [← Int.natCast_mul, HN.out, IntKind.wrap_i64]; omega
  refine regionPd (nA := nx) (nD := ny) (n := n) (g1 := g1) (g2 := g2) rfl rfl ⟨rfl, rfl, x10, x20, by omega, hwn⟩ ?_
  intro w4 gt g16 HP
  rw [normPd]
  have HT : Hid (∀ (k : Nat) (L : List (Int × Int)), A[k]? = some L → ∃ r1 r2, (∀ W : World, Q w1 W → Calls Try.prog 47 #[.int .i64 (k : Int), .pointer (some ⟨bA, 0, none⟩)] W fun e w' => e = .returned (.agg #[.slice (some ⟨r1, 0, none⟩) L.length L.length, .slice (some ⟨r2, 0, none⟩) L.length L.length]) ∧ Q W w') ∧ BlV w1 (.agg #[.slice (some ⟨r1, 0, none⟩) L.length L.length, .slice (some ⟨r2, 0, none⟩) L.length L.length]) L) := fun k L hk => by
    obtain ⟨b', g', ⟨hv, hbx, hr⟩⟩ := HB.out.1
    have hbb : bA = b' := by
      injection hv with hv
      have := congrArg (fun z : Array Value => z[1]?) hv
      simp at this
      exact this
    subst hbb
    obtain ⟨r1, r2, a1, a2, a3, a4, _⟩ := hr k L hk
    have hkl : k < A.length := (List.getElem?_eq_some_iff.1 hk).1
    have i1 := a3.isl L.length
    have i2 := a4.isl L.length
    rw [List.length_map] at i1 i2
    exact ⟨r1, r2, fun W q => line_tapsE bA g' k A.length L.length L.length r1 r2 W (q.cell hbx) (q.cell a1) (q.cell a2) hkl, ⟨_, _, rfl, i1, i2⟩⟩
  have HP0 : Hid (Pcs w2 w4 w2.heap.size gt g16 nx ny n pb (btwV A S pa f e 0 0) (tolV A D S pa pb nx 0 0)) := by
    have hb := HU3.out.1.next HP.q
    have ht := HP.row
    rw [tabN_zero] at hb ht
    have := HU3.out.2
    have l1 := HP.l1
    have l2 := HP.l2
    have := q3.1.size
    refine Pcs.alike (fb := fun _ => 0) (ft := fun _ => 0) ⟨q3.trans HP.q, hb, ht, HP.c0, HP.c1, HP.c2, Nat.le_refl _, by omega, by omega, by omega, HP.ne⟩ (fun i _ => btw_start _ _ _ _ _ _) (fun i _ => tol_start _ _ _ _ _ _ _)
  have x11 := (HB2.out.2.trans (q3.trans HP.q)).cell HB1.out.2.1
  have y10 := (HB2.out.2.trans (q3.trans HP.q)).cell HB1.out.1
  clear x10 x20 hwn hmk hw3 HU3 d50 HP q3
  go_wp2_with fail
  go_loopg [62] nx (fun gh s62 wr => ∃ k : Nat, s62 = .int .i64 (k : Int) ∧ k ≤ nx ∧ gh = nx - k ∧ Hid (Pcs w2 wr w2.heap.size gt g16 nx ny n pb (btwV A S pa f e k 0) (tolV A D S pa pb nx k 0)))
  case atStart => exact ⟨0, rfl, Nat.zero_le _, rfl, HP0⟩
  case round =>
    clear HP0 x11 y10
    obtain ⟨k, rfl, hk, rfl, HPc⟩ := hrel
    by_cases hlt : k < nx
    · have hltz : (k : Int) < (nx : Int) := by omega
      obtain ⟨L, hLk⟩ : ∃ L, A[k]? = some L := ⟨_, List.getElem?_eq_getElem (by rw [HX.out.1]; exact hlt)⟩
      have HLk : Hid (A[k]? = some L) := hLk
      obtain ⟨r1, r2, hC, hBl⟩ := HT.out k L hLk
      have C := hC wr (HB2.out.2.trans HPc.out.q)
      have HBl : Hid (BlV w1 (.agg #[.slice (some ⟨r1, 0, none⟩) L.length L.length, .slice (some ⟨r2, 0, none⟩) L.length L.length]) L) := hBl
      have x11 := (HB2.out.2.trans HPc.out.q).cell HB1.out.2.1
      obtain ⟨ll, hll⟩ : ∃ ll, L.length = ll := ⟨_, rfl⟩
      rw [hll] at C HBl
      clear hLk hC hBl hll
      go_wp2_with fail
      refine C.mono ?_
      rintro e5 w5 ⟨rfl, q5⟩
      clear C x11
      obtain ⟨w6, hw6⟩ : ∃ w6, w5.alloc (.cells #[.slice (some ⟨r1, 0, none⟩) ll ll, .slice (some ⟨r2, 0, none⟩) ll ll] 89) = w6 := ⟨_, rfl⟩
      have q6 : Q w5 w6 := by rw [← hw6]; exact (Q.refl w5).cells _ _
      have z0 : w6.cell? ⟨w5.heap.size, 0, none⟩ = some (.slice (some ⟨r1, 0, none⟩) ll ll) := by rw [← hw6]; simp [go_sem]
      have z1 : w6.cell? ⟨w5.heap.size, 1, none⟩ = some (.slice (some ⟨r2, 0, none⟩) ll ll) := by rw [← hw6]; simp [go_sem]
      have HP6 : Hid (Pcs w2 w6 w2.heap.size gt g16 nx ny n pb (btwV A S pa f e k 0) (tolV A D S pa pb nx k 0) ∧ w6.cell? ⟨w5.heap.size, 0, none⟩ = some (.slice (some ⟨r1, 0, none⟩) ll ll) ∧ w6.cell? ⟨w5.heap.size, 1, none⟩ = some (.slice (some ⟨r2, 0, none⟩) ll ll)) := ⟨HPc.out.next (q5.trans q6), z0, z1⟩
      have hne5 : w2.heap.size < w5.heap.size := by
        have h1 : w2.heap.size < wr.heap.size := World.block_lt_of_cell? _ _ (HPc.out.bt.cell 0 _ (tabN_at (by omega)))
        have := q5.1.size
        omega
      clear HPc q5 q6 z0 z1
      go_wp2_with fail
      go_loopg [19, 20, 72] d (fun gh s19 s20 s72 wx => ∃ i : Nat, s72 = .int .i64 (i : Int) ∧ i ≤ d ∧ gh = d - i ∧ Hid (Pcs w2 wx w2.heap.size gt g16 nx ny n pb (btwV A S pa f e k i) (tolV A D S pa pb nx k 0) ∧ wx.cell? ⟨w5.heap.size, 0, none⟩ = some (.slice (some ⟨r1, 0, none⟩) ll ll) ∧ wx.cell? ⟨w5.heap.size, 1, none⟩ = some (.slice (some ⟨r2, 0, none⟩) ll ll)))
      case atStart => exact ⟨0, rfl, Nat.zero_le _, rfl, HP6⟩
      case round =>
        clear HP6 hw6
        obtain ⟨i, rfl, hi, rfl, HPi⟩ := hrel
        by_cases hid : i < d
        · have hidz : (i : Int) < (d : Int) := by omega
          obtain ⟨y, hy⟩ : ∃ y, f + i = y := ⟨_, rfl⟩
          have eyz : (f : Int) + (i : Int) = (y : Int) := by omega
          have hypb : y < pb := by omega
          have hyz : (y : Int) < (pb : Int) := by omega
          obtain ⟨ya, hya⟩ : ∃ ya, y * pa = ya := ⟨_, rfl⟩
          have eya : (y : Int) * (pa : Int) = (ya : Int) := by rw [← Int.natCast_mul, hya]
          have hyal : ya + pa ≤ sl := by
            have h1 : (y + 1) * pa ≤ pb * pa := Nat.mul_le_mul_right _ hypb
            rw [Nat.succ_mul, hya] at h1
            rw [← HSl.out, HU.out.2.2.1, Nat.mul_comm]
            exact h1
          have hslb : sl ≤ 65536 := by rw [← HSl.out, HU.out.2.2.1]; exact HSz.out.ab
          have hscs : sl ≤ cs := by rw [← HSl.out]; exact HU.out.2.1
          have wya : IntKind.i64.wrap (ya : Int) = (ya : Int) := by rw [IntKind.wrap_i64]; omega
          have qx := HPi.out.1.q
          have c50 := (HB2.out.1.trans qx).cell H5.out.1
          have c52 := (HB2.out.1.trans qx).cell H5.out.2.2
          have z0 := HPi.out.2.1
          have z1 := HPi.out.2.2
          have hLm := HA.out L (List.mem_of_getElem? HLk.out)
          have HCb : Hid (∀ W : World, Q wr W → Calls Try.prog 45 #[.agg #[.slice (some ⟨r1, 0, none⟩) ll ll, .slice (some ⟨r2, 0, none⟩) ll ll], .slice (some ⟨gs, os + ya, none⟩) (sl - ya) (cs - ya)] W fun e w' => e = .returned (.int .u32 (colV (A.getD k []) S pa y : Nat)) ∧ Q W w') := fun W qW => by
            have hlen : (S.drop ya).length = sl - ya := by rw [List.length_drop, HSl.out]
            have := blend_of (.agg #[.slice (some ⟨r1, 0, none⟩) ll ll, .slice (some ⟨r2, 0, none⟩) ll ll]) (.slice (some ⟨gs, os + ya, none⟩) (sl - ya) (cs - ya)) L (S.drop ya) W (HBl.out.next (HB2.out.2.trans (qx.trans qW))) ((usl_drop HU.out.1 HSl.out HU.out.2.1 (by omega)).next (HQ0.out.trans (HB2.out.1.trans (qx.trans qW)))) hLm.few (by rw [hlen]; omega) (drop_bd HU.out.2.2.2 ya) (fun e he => by have := hLm.pl e he; rw [hlen]; omega) hLm.wt
            have e1 : smpV L (S.drop ya) = colV (A.getD k []) S pa y := by
              unfold colV
              rw [hya, List.getD_eq_getElem?_getD, HLk.out]; rfl
            rw [e1] at this
            exact this
          obtain ⟨cv, hcv⟩ : ∃ cv, colV (A.getD k []) S pa y = cv := ⟨_, rfl⟩
          rw [hcv] at HCb
          have HCV : Hid (cv = btwV A S pa f e k (i + 1) y) := by
            show cv = _
            rw [← hcv, ← hy]; exact btw_new
          have HY : Hid (f + i = y) := hy
          have n0 := qw_some wr
          have f0 := qw_cell c50
          have f1 := qw_cell c52
          have f2 := qw_cell z0
          have f3 := qw_cell z1
          clear c50 c52 z0 z1 hLm hcv hya hy
          go_wp2_with fail
          refine wp_region_mk [0, 1, 2, 3, 4, 5, 6, 7, 8] [[9, 10, 11, 12]] 4 _ (by kernel_rfl) (by kernel_rfl) rfl (by kernel_rfl) ?_
          simp only [List.filterMap_cons, List.filterMap_nil, List.getElem?_cons_zero, List.getElem?_cons_succ]
          repeat (first | go_big_quiet_step (fail) | quiet_step (fail))
          refine wpQuiet_nil ?_
          intro x5 hx5
          clear f0 f1 f2 f3 n0
          refine treeA_run 9 (by kernel_rfl) rfl (v := .slice (some ⟨gs, os + ya, none⟩) (sl - ya) (cs - ya)) (x' := x5) (run_slice_from (nn := sl) (cc := cs) (by kernel_rfl) (by kernel_rfl) (by omega) hscs) (Or.inr hx5) ?_
          refine treeA_call 10 (by kernel_rfl) rfl (run_fn 45 #[.tmp 80, .tmp 87] _ rfl (fun _ _ => rfl) (vs := #[.agg #[.slice (some ⟨r1, 0, none⟩) ll ll, .slice (some ⟨r2, 0, none⟩) ll ll], .slice (some ⟨gs, os + ya, none⟩) (sl - ya) (cs - ya)]) (by kernel_rfl)) (G := fun v x' => v = .int .u32 (cv : Nat) ∧ Q x5 x') ((HCb.out x5 hx5).mono fun e x' h => ⟨_, h.1, rfl, h.2⟩) ?_
          rintro vq x6 ⟨rfl, q6⟩
          have q56 : Q wr x6 := hx5.trans q6
          have HP7 := HPi.out.1.next q56
          have u6 := HP7.bt.cell y _ (tabN_at hypb)
          have fu6 := HP7.bt.free y
          have HP8 : Hid (Pcs w2 (x6.setCell ⟨w2.heap.size, y, none⟩ (.int .u32 (cv : Nat))) w2.heap.size gt g16 nx ny n pb (btwV A S pa f e k (i + 1)) (tolV A D S pa pb nx k 0) ∧ (x6.setCell ⟨w2.heap.size, y, none⟩ (.int .u32 (cv : Nat))).cell? ⟨w5.heap.size, 0, none⟩ = some (.slice (some ⟨r1, 0, none⟩) ll ll) ∧ (x6.setCell ⟨w2.heap.size, y, none⟩ (.int .u32 (cv : Nat))).cell? ⟨w5.heap.size, 1, none⟩ = some (.slice (some ⟨r2, 0, none⟩) ll ll)) := by
            refine ⟨HP7.setb hypb HCV.out (fun j hj => btw_old (by rw [HY.out]; exact hj)), ?_, ?_⟩
            · rw [World.cell?_setCell_other _ _ _ _ (fun e => by injection e with e; omega)]; exact q56.cell HPi.out.2.1
            · rw [World.cell?_setCell_other _ _ _ _ (fun e => by injection e with e; omega)]; exact q56.cell HPi.out.2.2
          refine ⟨q56, ?_⟩
          refine treeA_run 11 (by kernel_rfl) rfl (v := .pointer (some ⟨w2.heap.size, y, none⟩)) (x' := x6) (run_ixu (Lw := pb) (cap := pb) (by kernel_rfl) (by kernel_rfl) hypb) (Or.inr q56) ?_
          refine treeA_skip 12 (by kernel_rfl) rfl (x' := x6.setCell ⟨w2.heap.size, y, none⟩ (.int .u32 (cv : Nat))) (run_stu (i := y) (by kernel_rfl) (by kernel_rfl) u6 fu6) (Or.inl (by kernel_rfl)) ?_
          refine tree_nil ?_
          clear HP7 u6 fu6 hx5 q6 q56 HPi HCb qx
          generalize x6.setCell ⟨w2.heap.size, y, none⟩ (.int .u32 (cv : Nat)) = w9 at HP8 ⊢
          go_wp2_with fail
          go_roundg (d - (i + 1))
          case measure => go_light; omega
          case rel => go_light; exact ⟨i + 1, by simp, by omega, rfl, HP8⟩
        · have hge : ¬ (i : Int) < (d : Int) := by omega
          obtain rfl : i = d := by omega
          have qx := HPi.out.1.q
          have HPj : Hid (Pcs w2 wr w2.heap.size gt g16 nx ny n pb (btwV A S pa f e k i) (tolV A D S pa pb nx k 0)) := HPi.out.1
          have lnD := HB.out.2.next (HB2.out.2.trans qx)
          have us : USl wr (.slice (some ⟨w2.heap.size, 0, none⟩) pb pb) (tabN pb (btwV A S pa f e k i)) := by
            have := HPi.out.1.bt.uis.usl (cap := pb) (by rw [tabN_len]; exact Nat.le_refl _)
            rw [tabN_len] at this
            exact this
          have Cl := line_of _ (.slice (some ⟨w2.heap.size, 0, none⟩) pb pb) D (tabN pb (btwV A S pa f e k i)) wr lnD us (by rw [HX.out.2]; omega) (by rw [tabN_len]; omega) (fun j => by
            by_cases hj : j < pb
            · rw [tabN_getD hj]
              exact btw_lt HU.out.2.2.2 j
            · rw [List.getD_eq_getElem?_getD, List.getElem?_eq_none (by rw [tabN_len]; omega)]; show 0 < 4294967296; decide) (fun L' hL' => by rw [tabN_len]; exact (HD.out L' hL').1)
          rw [HX.out.2] at Cl
          have x20 := (HB2.out.2.trans qx).cell HB1.out.2.2.1
          have x21 := (HB2.out.2.trans qx).cell HB1.out.2.2.2.1
          clear HPi lnD us
          go_wp2_with fail
          refine Cl.mono ?_
          rintro e7 w7 ⟨b7, rfl, o7⟩
          have HO7 : Hid (UIs w7 b7 0 (D.map fun L => smpV L (tabN pb (btwV A S pa f e k i))) ∧ wr.heap.size ≤ b7) := ⟨o7.cells, o7.new⟩
          have HP7 : Hid (Pcs w2 w7 w2.heap.size gt g16 nx ny n pb (btwV A S pa f e k i) (tolV A D S pa pb nx k 0)) := HPj.out.next o7.q
          have hgt7 : gt ≠ b7 := by
            have h1 : gt < wr.heap.size := World.block_lt_of_cell? _ _ (HPj.out.tl.cell 0 _ (tabN_at (by have := HN.out; rw [← this]; exact Nat.mul_pos hx1 hy1)))
            have := o7.new
            omega
          clear Cl o7 HPj x20 x21 qx
          go_wp2_with fail
          go_loopg [21, 22, 95] ny (fun gh s21 s22 s95 wx => ∃ j : Nat, s95 = .int .i64 (j : Int) ∧ j ≤ ny ∧ gh = ny - j ∧ Hid (Pcs w2 wx w2.heap.size gt g16 nx ny n pb (btwV A S pa f e k i) (tolV A D S pa pb nx k j) ∧ UIs wx b7 0 (D.map fun L => smpV L (tabN pb (btwV A S pa f e k i)))))
          case atStart => exact ⟨0, rfl, Nat.zero_le _, rfl, ⟨HP7.out, HO7.out.1⟩⟩
          case round =>
            clear HP7
            obtain ⟨j, rfl, hj, rfl, HPj⟩ := hrel
            by_cases hjy : j < ny
            · have hjyz : (j : Int) < (ny : Int) := by omega
              obtain ⟨L', hL'⟩ : ∃ L', D[j]? = some L' := ⟨_, List.getElem?_eq_getElem (by rw [HX.out.2]; exact hjy)⟩
              have c7a := HPj.out.2 j (by rw [List.length_map, HX.out.2]; exact hjy)
              rw [List.getD_eq_getElem?_getD, List.getElem?_map, hL', Nat.zero_add] at c7a
              have hpv : smpV L' (tabN pb (btwV A S pa f e k i)) = pieceV A D S pa pb k j := piece_at hd hepb hL' (HI.out j L' hjy hL')
              have c7 : wr.cell? ⟨b7, j, none⟩ = some (.int .u32 (pieceV A D S pa pb k j : Nat)) := by rw [← hpv]; exact c7a
              clear c7a
              obtain ⟨pv, hpve⟩ : ∃ pv, pieceV A D S pa pb k j = pv := ⟨_, rfl⟩
              rw [hpve] at c7
              obtain ⟨jx, hjx⟩ : ∃ jx, j * nx = jx := ⟨_, rfl⟩
              have ejx : (j : Int) * (nx : Int) = (jx : Int) := by rw [← Int.natCast_mul, hjx]
              have hin : jx + k < n := by rw [← HN.out, ← hjx]; exact place_lt hlt hjy
              obtain ⟨ix, hix⟩ : ∃ ix, jx + k = ix := ⟨_, rfl⟩
              have eix : (jx : Int) + (k : Int) = (ix : Int) := by omega
              have hixn : ix < n := by omega
              have hixz : (ix : Int) < (n : Int) := by omega
              have p0 := HPj.out.1.c0
              have p2 := HPj.out.1.c2
              have u9 := HPj.out.1.tl.cell ix _ (tabN_at hixn)
              have fu9 := HPj.out.1.tl.free ix
              have hjxb : jx ≤ 1048576 := by omega
              have HP9 : Hid (Pcs w2 (wr.setCell ⟨gt, ix, none⟩ (.int .u32 (pv : Nat))) w2.heap.size gt g16 nx ny n pb (btwV A S pa f e k i) (tolV A D S pa pb nx k (j + 1)) ∧ UIs (wr.setCell ⟨gt, ix, none⟩ (.int .u32 (pv : Nat))) b7 0 (D.map fun L => smpV L (tabN pb (btwV A S pa f e k i)))) := by
                refine ⟨HPj.out.1.sett hixn (by rw [← hpve, ← hix, ← hjx]; exact tol_new hlt) (fun m hm => tol_old hlt (by rw [hjx, hix]; exact hm)), fun m hm => ?_⟩
                rw [World.cell?_setCell_other _ _ _ _ (fun e => hgt7 (by injection e))]
                exact HPj.out.2 m hm
              obtain ⟨ov, hov⟩ : ∃ ov, tolV A D S pa pb nx k j ix = ov := ⟨_, rfl⟩
              rw [hov] at u9
              clear hL' hpv hpve hjx hix HPj hov
              go_wp2_with fail
              generalize wr.setCell ⟨gt, ix, none⟩ (.int .u32 (pv : Nat)) = w9 at HP9 ⊢
              go_roundg (ny - (j + 1))
              case measure => go_light; omega
              case rel => go_light; exact ⟨j + 1, by simp, by omega, rfl, HP9⟩
            · have hgej : ¬ (j : Int) < (ny : Int) := by omega
              obtain rfl : j = ny := by omega
              have HP9 : Hid (Pcs w2 wr w2.heap.size gt g16 nx j n pb (btwV A S pa f e (k + 1) 0) (tolV A D S pa pb nx (k + 1) 0)) := HPj.out.1.alike (fun m _ => (btw_end hd).symm) (fun m hm => (tol_end (by rw [HN.out]; exact hm)).symm)
              clear HPj
              go_wp2_with fail
              go_roundg (nx - (k + 1))
              case measure => go_light; omega
              case rel => go_light; exact ⟨k + 1, by simp, by omega, rfl, HP9⟩
    · have hgek : ¬ (k : Int) < (nx : Int) := by omega
      obtain rfl : k = nx := by omega
      have p0 := HPc.out.c0
      have p1 := HPc.out.c1
      have p2 := HPc.out.c2
      have qx := HPc.out.q
      have o0 := (HB2.out.1.trans qx).cell HR.out.1
      have o1 := (HB2.out.1.trans qx).cell HR.out.2.1
      have o2 := (HB2.out.1.trans qx).cell HR.out.2.2.1
      have fo : ∀ j, wr.frozen? ⟨w.heap.size + 1 + 1, j, none⟩ = false := fun j => by rw [(HB2.out.1.trans qx).2]; exact HR.out.2.2.2.1 j
      have fo0 := fo 0
      have fo1 := fo 1
      have fo2 := fo 2
      have hgt : w.heap.size + 1 + 1 ≠ gt := by
        have := HPc.out.l2
        have := HB2.out.1.1.size
        have := HR.out.2.2.2.2
        omega
      obtain ⟨w9, hw9⟩ : ∃ w9, ((wr.setCell ⟨w.heap.size + 1 + 1, 0, none⟩ (.int .i64 (k : Int))).setCell ⟨w.heap.size + 1 + 1, 1, none⟩ (.int .i64 (ny : Int))).setCell ⟨w.heap.size + 1 + 1, 2, none⟩ (.slice (some ⟨gt, 0, none⟩) n n) = w9 := ⟨_, rfl⟩
      have HW : Hid (URow w9 gt (tabN n fun i => pieceV A D S pa pb (i % k) (i / k)) ∧ Q w w9 ∧ w.heap.size ≤ gt) := by
        refine ⟨?_, ?_, ?_⟩
        · rw [← hw9]
          have := ((HPc.out.tl.other (p := ⟨w.heap.size + 1 + 1, 0, none⟩) hgt (.int .i64 (k : Int))).other (p := ⟨w.heap.size + 1 + 1, 1, none⟩) hgt (.int .i64 (ny : Int))).other (p := ⟨w.heap.size + 1 + 1, 2, none⟩) hgt (.slice (some ⟨gt, 0, none⟩) n n)
          rw [tabN_congr (g := fun i => pieceV A D S pa pb (i % k) (i / k)) (fun i hi => tol_all (ny := ny) (by rw [HN.out]; exact hi))] at this
          exact this
        · rw [← hw9]
          have hl : w.heap.size ≤ w.heap.size + 1 + 1 := by omega
          exact (((HQ0.out.trans (HB2.out.1.trans qx)).set hl _).set hl _).set hl _
        · have := HPc.out.l2
          have := (HQ0.out.trans HB2.out.1).1.size
          omega
      have v0 : w9.cell? ⟨w.heap.size + 1 + 1, 0, none⟩ = some (.int .i64 (k : Int)) := by
        rw [← hw9, World.cell?_setCell_other _ _ _ _ (fun e => by injection e with _ e; cases e), World.cell?_setCell_other _ _ _ _ (fun e => by injection e with _ e; cases e)]; exact World.cell?_setCell_same _ _ _ o0
      have v1 : w9.cell? ⟨w.heap.size + 1 + 1, 1, none⟩ = some (.int .i64 (ny : Int)) := by
        rw [← hw9, World.cell?_setCell_other _ _ _ _ (fun e => by injection e with _ e; cases e)]; exact World.cell?_setCell_same _ _ _ ((World.cell?_setCell_other _ _ _ _ (fun e => by injection e with _ e; cases e)).trans o1)
      have v2 : w9.cell? ⟨w.heap.size + 1 + 1, 2, none⟩ = some (.slice (some ⟨gt, 0, none⟩) n n) := by
        rw [← hw9]; exact World.cell?_setCell_same _ _ _ ((World.cell?_setCell_other _ _ _ _ (fun e => by injection e with _ e; cases e)).trans ((World.cell?_setCell_other _ _ _ _ (fun e => by injection e with _ e; cases e)).trans o2))
      have HW9 : Hid (((wr.setCell ⟨w.heap.size + 1 + 1, 0, none⟩ (.int .i64 (k : Int))).setCell ⟨w.heap.size + 1 + 1, 1, none⟩ (.int .i64 (ny : Int))).setCell ⟨w.heap.size + 1 + 1, 2, none⟩ (.slice (some ⟨gt, 0, none⟩) n n) = w9) := hw9
      clear fo HPc qx hw9
      go_wp2_with fail
      rw [HW9.out]
      exact bodyPost_ret (v := .agg #[.int .i64 (k : Int), .int .i64 (ny : Int), .slice (some ⟨gt, 0, none⟩) n n]) (by simp [results, Try.results27, go_sem, v0, v1, v2]) rfl ⟨gt, rfl, HW.out.1, HW.out.2.2, HW.out.2.1⟩
end Go.Proofs.Ytdbbpmadkhedlaa
/- Sizes, borders: the program's and the document's. -/
namespace Go.Proofs.Ytdbbpmadkhedlaa
open Go.RowKit
set_option linter.unusedVariables false
set_option linter.unusedSimpArgs false

def sizeB (W H : Int) : Bool := decide (1 ≤ W) && decide (W ≤ 1024) && decide (1 ≤ H) && decide (H ≤ 1024) && decide (W * H ≤ 65536)
theorem sizeB_true {W H : Int} : sizeB W H = true ↔ SizeB W H := by
  unfold sizeB SizeB
  simp only [Bool.and_eq_true, decide_eq_true_eq]
  constructor
  · rintro ⟨⟨⟨⟨a, b⟩, c⟩, d⟩, e⟩; exact ⟨a, b, c, d, e⟩
  · rintro ⟨a, b, c, d, e⟩; exact ⟨⟨⟨⟨a, b⟩, c⟩, d⟩, e⟩
theorem sizeB_false {W H : Int} (h : ¬ SizeB W H) : sizeB W H = false := by
  cases g : sizeB W H
  · rfl
  · exact absurd (sizeB_true.1 g) h
def sideB (n : Int) : Bool := decide (1 ≤ n) && decide (n ≤ 1024)
theorem sizeB_eq (W H : Int) : sizeB W H = (sideB W && (sideB H && decide (W * H ≤ 65536))) := by
  unfold sizeB sideB
  cases decide (1 ≤ W) <;> cases decide (W ≤ 1024) <;> cases decide (1 ≤ H) <;> cases decide (H ≤ 1024) <;> rfl
theorem sideB_true {n : Int} : sideB n = true ↔ 1 ≤ n ∧ n ≤ 1024 := by
  unfold sideB; simp
theorem area_le {a b : Int} (ha : 1 ≤ a ∧ a ≤ 1024) (hb : 1 ≤ b ∧ b ≤ 1024) : 1 ≤ a * b ∧ a * b ≤ 1048576 := by
  have h1 : a * b ≤ 1024 * b := Int.mul_le_mul_of_nonneg_right ha.2 (by omega)
  have h2 : 1 * b ≤ a * b := Int.mul_le_mul_of_nonneg_right ha.1 (by omega)
  omega

theorem isSide_any (n : Int) (w : World) : Calls Try.prog 62 #[.int .i64 n] w fun e w' => e = .returned (.bool (sideB n)) ∧ w' = w := by
  by_cases h1 : 1 ≤ n
  · by_cases h2 : n ≤ 1024
    · have e : sideB n = true := sideB_true.2 ⟨h1, h2⟩
      rw [e]
      clear e
      go_enter Try.func62, Try.ntmps62
      go_wp2_with fail
      go_ret
      exact ⟨rfl, rfl⟩
    · have e : sideB n = false := by unfold sideB; simp [h2]
      rw [e]
      clear e
      go_enter Try.func62, Try.ntmps62
      go_wp2_with fail
      go_ret
      exact ⟨rfl, rfl⟩
  · have e : sideB n = false := by unfold sideB; simp [h1]
    rw [e]
    clear e
    go_enter Try.func62, Try.ntmps62
    go_wp2_with fail
    go_ret
    exact ⟨rfl, rfl⟩
theorem isSize_any (W H : Int) (w : World) : Calls Try.prog 58 #[.int .i64 W, .int .i64 H] w fun e w' => e = .returned (.bool (sizeB W H)) ∧ w' = w := by
  rw [sizeB_eq]
  cases hW : sideB W
  · have A : Calls Try.prog 62 #[.int .i64 W] w fun e w' => e = .returned (.bool false) ∧ w' = w := hW ▸ isSide_any W w
    go_enter Try.func58, Try.ntmps58
    go_wp2_with (go_at_call 62; refine A.mono ?_; rintro e w1 ⟨rfl, rfl⟩)
    go_ret
    exact ⟨rfl, rfl⟩
  · have A : Calls Try.prog 62 #[.int .i64 W] w fun e w' => e = .returned (.bool true) ∧ w' = w := hW ▸ isSide_any W w
    cases hH : sideB H
    · have B : Calls Try.prog 62 #[.int .i64 H] w fun e w' => e = .returned (.bool false) ∧ w' = w := hH ▸ isSide_any H w
      go_enter Try.func58, Try.ntmps58
      go_wp2_with fail
      refine A.mono ?_
      rintro e w1 ⟨rfl, rfl⟩
      go_wp2_with fail
      refine B.mono ?_
      rintro e w1 ⟨rfl, rfl⟩
      go_wp2_with fail
      go_ret
      exact ⟨rfl, rfl⟩
    · have B : Calls Try.prog 62 #[.int .i64 H] w fun e w' => e = .returned (.bool true) ∧ w' = w := hH ▸ isSide_any H w
      have h1 := sideB_true.1 hW
      have h2 := sideB_true.1 hH
      have h3 := area_le h1 h2
      clear hW hH
      by_cases h4 : W * H ≤ 65536
      · rw [decide_eq_true h4]
        generalize hA : W * H = A0 at h3 h4
        go_enter Try.func58, Try.ntmps58
        go_wp2_with fail
        refine A.mono ?_
        rintro e w1 ⟨rfl, rfl⟩
        go_wp2_with fail
        refine B.mono ?_
        rintro e w1 ⟨rfl, rfl⟩
        go_wp2_with fail
        go_ret
        exact ⟨rfl, rfl⟩
      · rw [decide_eq_false h4]
        generalize hA : W * H = A0 at h3 h4
        have h5 : decide (A0 ≤ 65536) = false := decide_eq_false h4
        go_enter Try.func58, Try.ntmps58
        go_wp2_with fail
        refine A.mono ?_
        rintro e w1 ⟨rfl, rfl⟩
        go_wp2_with fail
        refine B.mono ?_
        rintro e w1 ⟨rfl, rfl⟩
        go_wp2_with fail
        go_ret
        exact ⟨rfl, rfl⟩

/-- What is wrong with a plane. -/
def chk (W H : Int) (n : Nat) : Int := if sizeB W H = true then (if (n : Int) = W * H then 0 else 51) else 50
theorem chk_bad {W H : Int} {n : Nat} (h : sizeB W H = false) : chk W H n = 50 := by unfold chk; rw [h]; rfl
theorem chk_count {W H : Int} {n : Nat} (h : sizeB W H = true) (hn : (n : Int) ≠ W * H) : chk W H n = 51 := by unfold chk; rw [if_pos h, if_neg hn]
theorem chk_ok {W H : Int} {n : Nat} (h : sizeB W H = true) (hn : (n : Int) = W * H) : chk W H n = 0 := by unfold chk; rw [if_pos h, if_pos hn]
theorem chk_zero {W H : Int} {n : Nat} (h : chk W H n = 0) : ∃ a b : Nat, W = a ∧ H = b ∧ Size a b ∧ n = a * b := by
  unfold chk at h
  by_cases g : sizeB W H = true
  · rw [if_pos g] at h
    by_cases g2 : (n : Int) = W * H
    · obtain ⟨a, b, rfl, rfl, hs⟩ := (sizeB_true.1 g).nat
      refine ⟨a, b, rfl, rfl, hs, ?_⟩
      rw [← Int.natCast_mul] at g2
      omega
    · rw [if_neg g2] at h; exact absurd h (by decide)
  · rw [if_neg g] at h; exact absurd h (by decide)
theorem chk_size {a b : Nat} (h : Size a b) : chk a b (a * b) = 0 := chk_ok (sizeB_true.2 h.b) (by rw [Int.natCast_mul])
theorem chk_cases (W H : Int) (n : Nat) : chk W H n = 50 ∨ chk W H n = 51 ∨ chk W H n = 0 := by
  unfold chk; split
  · split <;> simp
  · simp
set_option maxHeartbeats 1000000 in
theorem check_any (W H : Int) (a : Option Addr) (n c : Nat) (hn : n ≤ 9223372036854775807) (w : World) :
    Calls Try.prog 43 #[.agg #[.int .i64 W, .int .i64 H, .slice a n c]] w fun e w' => e = .returned (.int .i64 (chk W H n)) ∧ Q w w' := by
  have q0 : ∀ c t, Q w (w.alloc (.cells c t)) := fun c t => (Q.refl w).cells c t
  have Q0 : Hid (∀ c t, Q w (w.alloc (.cells c t))) := q0
  clear q0
  cases hS : sizeB W H
  · have A : ∀ w : World, Calls Try.prog 58 #[.int .i64 W, .int .i64 H] w fun e w' => e = .returned (.bool false) ∧ w' = w := fun w => hS ▸ isSize_any W H w
    rw [chk_bad hS]
    clear hS
    go_enter Try.func43, Try.ntmps43
    go_wp2_with (go_at_call 58; refine (A _).mono ?_; rintro e w1 ⟨rfl, rfl⟩)
    go_ret
    exact ⟨rfl, Q0.out _ _⟩
  · have A : ∀ w : World, Calls Try.prog 58 #[.int .i64 W, .int .i64 H] w fun e w' => e = .returned (.bool true) ∧ w' = w := fun w => hS ▸ isSize_any W H w
    obtain ⟨h1, h2, h3, h4, h5⟩ := sizeB_true.1 hS
    have h6 := area_le ⟨h1, h2⟩ ⟨h3, h4⟩
    by_cases hc : (n : Int) = W * H
    · rw [chk_ok hS hc]
      have hw : IntKind.i64.wrap (W * H) = W * H := by rw [IntKind.wrap_i64]; omega
      have hb : ((n : Int) == W * H) = true := by rw [hc]; simp
      have hb2 : ((n : Int) != W * H) = false := by rw [hc]; simp
      clear hS hc h5 h6 h1 h2 h3 h4
      go_enter Try.func43, Try.ntmps43
      go_wp2_with (go_at_call 58; refine (A _).mono ?_; rintro e w1 ⟨rfl, rfl⟩)
      go_ret
      exact ⟨rfl, Q0.out _ _⟩
    · rw [chk_count hS hc]
      have hw : IntKind.i64.wrap (W * H) = W * H := by rw [IntKind.wrap_i64]; omega
      have hb : ((n : Int) == W * H) = false := by rw [beq_eq_false_iff_ne]; exact hc
      have hb2 : ((n : Int) != W * H) = true := by rw [bne_iff_ne]; exact hc
      clear hS hc h5 h6 h1 h2 h3 h4
      go_enter Try.func43, Try.ntmps43
      go_wp2_with (go_at_call 58; refine (A _).mono ?_; rintro e w1 ⟨rfl, rfl⟩)
      go_ret
      exact ⟨rfl, Q0.out _ _⟩

theorem tmod_mod (i n : Int) (hn : 0 < n) : (0 ≤ Int.tmod i n → Int.tmod i n = i % n) ∧ (Int.tmod i n < 0 → Int.tmod i n + n = i % n) ∧ -n < Int.tmod i n ∧ Int.tmod i n < n := by
  have e : n * Int.tdiv i n + Int.tmod i n = i := Int.mul_tdiv_add_tmod i n
  have l1 := Int.tmod_lt_of_pos i hn
  have l2 : -n < Int.tmod i n := Int.lt_tmod_of_pos i hn
  have e2 : i % n = Int.tmod i n % n := by
    conv => lhs; rw [← e]
    rw [Int.add_comm, Int.add_mul_emod_self_left]
  refine ⟨fun h => ?_, fun h => ?_, l2, l1⟩
  · rw [e2, Int.emod_eq_of_lt h l1]
  · rw [e2, ← Int.add_emod_right, Int.emod_eq_of_lt (by omega) (by omega)]
end Go.Proofs.Ytdbbpmadkhedlaa
/- What Plane refuses; Plane. -/
namespace Go.Proofs.Ytdbbpmadkhedlaa
open Go.RowKit
set_option linter.unusedVariables false
set_option linter.unusedSimpArgs false

theorem chk_is50 (W H : Int) : (chk W H 0 != 50) = sizeB W H := by
  unfold chk
  cases sizeB W H
  · rfl
  · rw [if_pos rfl]; split <;> rfl
set_option maxHeartbeats 1000000 in
set_option maxRecDepth 100000 in
theorem issize_any (W H : Int) (w : World) : Calls Try.prog 44 #[.int .i64 W, .int .i64 H] w fun e w' => e = .returned (.bool (sizeB W H)) ∧ Q w w' := by
  have C := check_any W H none 0 0 (by decide) w
  have HS : Hid ((chk W H 0 != 50) = sizeB W H) := chk_is50 W H
  generalize chk W H 0 = E at *
  go_enter Try.func44, Try.ntmps44
  go_wp2_with fail
  refine C.mono ?_
  rintro e w1 ⟨rfl, q1⟩
  have HQ : Hid (Q w w1) := q1
  clear C q1
  go_wp2_with fail
  go_ret
  exact ⟨by rw [← HS.out]; rfl, HQ.out⟩
/-- Plane's errors. -/
def plnE (pw ph : Int) (n : Nat) (kind W H : Int) : Int := if chk pw ph n = 0 then (if sizeB W H = true then (if tapE kind pw W 0 = 0 then tapE kind ph H 0 else tapE kind pw W 0) else 100) else chk pw ph n
set_option maxHeartbeats 2000000 in
set_option maxRecDepth 100000 in
theorem refplane_any (pw ph : Int) (ad : Option Addr) (n c : Nat) (kind W H : Int) (hn : n ≤ 9223372036854775807) (w : World) :
    Calls Try.prog 26 #[.agg #[.int .i64 pw, .int .i64 ph, .slice ad n c], .int .i64 kind, .int .i64 W, .int .i64 H] w fun e w' => e = .returned (.int .i64 (plnE pw ph n kind W H)) ∧ Q w w' := by
  obtain ⟨w1, hw1⟩ : ∃ w1, w.alloc (.cells #[.int .i64 pw, .int .i64 ph, .slice ad n c] 33) = w1 := ⟨_, rfl⟩
  have q1 : Q w w1 := by rw [← hw1]; exact (Q.refl w).cells _ _
  have k0 : w1.cell? ⟨w.heap.size, 0, none⟩ = some (.int .i64 pw) := by rw [← hw1]; simp [go_sem]
  have k1 : w1.cell? ⟨w.heap.size, 1, none⟩ = some (.int .i64 ph) := by rw [← hw1]; simp [go_sem]
  have k2 : w1.cell? ⟨w.heap.size, 2, none⟩ = some (.slice ad n c) := by rw [← hw1]; simp [go_sem]
  have C1 := check_any pw ph ad n c hn w1
  have HC2 : Hid (∀ x : World, Calls Try.prog 44 #[.int .i64 W, .int .i64 H] x fun e w' => e = .returned (.bool (sizeB W H)) ∧ Q x w') := fun x => issize_any W H x
  have HC3 : Hid (∀ (F T : Int) (x : World), Calls Try.prog 30 #[.int .i64 kind, .int .i64 F, .int .i64 T] x fun e w' => e = .returned (.int .i64 (tapE kind F T 0)) ∧ Q x w') := fun F T x => refusal_any kind F T x
  have HP : Hid (plnE pw ph n kind W H = if chk pw ph n = 0 then (if sizeB W H = true then (if tapE kind pw W 0 = 0 then tapE kind ph H 0 else tapE kind pw W 0) else 100) else chk pw ph n) := rfl
  have HQ1 : Hid (Q w w1) := q1
  have HK : Hid (w1.cell? ⟨w.heap.size, 0, none⟩ = some (.int .i64 pw) ∧ w1.cell? ⟨w.heap.size, 1, none⟩ = some (.int .i64 ph)) := ⟨k0, k1⟩
  rw [HP.out]
  clear HP q1
  by_cases hc : chk pw ph n = 0
  · rw [if_pos hc]
    rw [hc] at C1
    cases hs : sizeB W H
    · rw [if_neg (by simp)]
      rw [hs] at HC2
      go_enter Try.func26, Try.ntmps26
      go_wp2_with fail
      refine C1.mono ?_
      rintro e w2 ⟨rfl, q2⟩
      clear C1
      have HQ2 : Hid (Q w w2) := HQ1.out.trans q2
      go_wp2_with fail
      refine (HC2.out w2).mono ?_
      rintro e w3 ⟨rfl, q3⟩
      have HQ3 : Hid (Q w w3) := HQ2.out.trans q3
      clear q2 q3
      go_wp2_with fail
      go_ret
      exact ⟨rfl, HQ3.out⟩
    · rw [if_pos rfl]
      rw [hs] at HC2
      have C3 := HC3.out pw W
      by_cases ht : tapE kind pw W 0 = 0
      · rw [if_pos ht]
        have HT : Hid (∀ x : World, Calls Try.prog 30 #[.int .i64 kind, .int .i64 pw, .int .i64 W] x fun e w' => e = .returned (.int .i64 0) ∧ Q x w') := by rw [ht] at C3; exact C3
        have HT2 : Hid (∀ x : World, Calls Try.prog 30 #[.int .i64 kind, .int .i64 ph, .int .i64 H] x fun e w' => e = .returned (.int .i64 (tapE kind ph H 0)) ∧ Q x w') := HC3.out ph H
        generalize tapE kind ph H 0 = E at *
        clear C3 HC3 ht hc hs
        go_enter Try.func26, Try.ntmps26
        go_wp2_with fail
        refine C1.mono ?_
        rintro e w2 ⟨rfl, q2⟩
        clear C1
        have HQ2 : Hid (Q w w2) := HQ1.out.trans q2
        have HQ2' : Hid (Q w1 w2) := q2
        go_wp2_with fail
        refine (HC2.out w2).mono ?_
        rintro e w3 ⟨rfl, q3⟩
        have HQ3 : Hid (Q w1 w3) := HQ2'.out.trans q3
        have m0 := HQ3.out.cell HK.out.1
        clear q2 q3
        go_wp2_with fail
        refine (HT.out w3).mono ?_
        rintro e w4 ⟨rfl, q4⟩
        have HQ4 : Hid (Q w1 w4) := HQ3.out.trans q4
        have m1 := HQ4.out.cell HK.out.2
        clear q4 m0
        go_wp2_with fail
        refine (HT2.out w4).mono ?_
        rintro e w5 ⟨rfl, q5⟩
        have HQ5 : Hid (Q w w5) := HQ1.out.trans (HQ4.out.trans q5)
        clear q5 m1
        go_wp2_with fail
        go_ret
        exact ⟨rfl, HQ5.out⟩
      · rw [if_neg ht]
        have HT : Hid (∀ x : World, Calls Try.prog 30 #[.int .i64 kind, .int .i64 pw, .int .i64 W] x fun e w' => e = .returned (.int .i64 (tapE kind pw W 0)) ∧ Q x w') := C3
        generalize tapE kind pw W 0 = E at *
        have hEb : (E != 0) = true := by simpa using ht
        clear C3 HC3 hc hs
        go_enter Try.func26, Try.ntmps26
        go_wp2_with fail
        refine C1.mono ?_
        rintro e w2 ⟨rfl, q2⟩
        clear C1
        have HQ2' : Hid (Q w1 w2) := q2
        go_wp2_with fail
        refine (HC2.out w2).mono ?_
        rintro e w3 ⟨rfl, q3⟩
        have HQ3 : Hid (Q w1 w3) := HQ2'.out.trans q3
        have m0 := HQ3.out.cell HK.out.1
        clear q2 q3
        go_wp2_with fail
        refine (HT.out w3).mono ?_
        rintro e w4 ⟨rfl, q4⟩
        have HQ4 : Hid (Q w w4) := HQ1.out.trans (HQ3.out.trans q4)
        clear q4 m0
        go_wp2_with fail
        go_ret
        exact ⟨rfl, HQ4.out⟩
  · rw [if_neg hc]
    generalize chk pw ph n = E at *
    have hEb : (E != 0) = true := by simpa using hc
    go_enter Try.func26, Try.ntmps26
    go_wp2_with fail
    refine C1.mono ?_
    rintro e w2 ⟨rfl, q2⟩
    clear C1
    have HQ2 : Hid (Q w w2) := HQ1.out.trans q2
    clear q2
    go_wp2_with fail
    go_ret
    exact ⟨rfl, HQ2.out⟩
end Go.Proofs.Ytdbbpmadkhedlaa

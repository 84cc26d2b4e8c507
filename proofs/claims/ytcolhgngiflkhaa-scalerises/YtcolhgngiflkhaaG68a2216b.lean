/- piece: a piece of a plane of another size. -/
import Derived.Test.YtcolhgngiflkhaaG1eee353a
namespace Go.Proofs.Ytcolhgngiflkhaa
open Go.RowKit
set_option linter.unusedVariables false
set_option linter.unusedSimpArgs false

set_option maxHeartbeats 8000000 in
set_option maxRecDepth 100000 in
theorem piece_any (kind W H x0 x1 y0 y1 : Int) (pa pb nx ny : Nat) (A D : LLs) (sv : Value) (S : List Nat) (w : World)
    (k1 : ∀ x : World, Calls Try.prog 21 #[.int .i64 kind, .int .i64 (pa : Int), .int .i64 W, .int .i64 x0, .int .i64 x1] x fun e x' => ∃ v, e = .returned v ∧ LnJ x.heap.size x'.heap.size x' v A ∧ Q x x')
    (k2 : ∀ x : World, Calls Try.prog 21 #[.int .i64 kind, .int .i64 (pb : Int), .int .i64 H, .int .i64 y0, .int .i64 y1] x fun e x' => ∃ v, e = .returned v ∧ LnJ x.heap.size x'.heap.size x' v D ∧ Q x x')
    (hsv : USl w sv S) (hsz : Size pa pb) (hS : S.length = pa * pb) (hb : ∀ i, S.getD i 0 < 4294967296) (hA : ∀ L ∈ A, TOk pa L) (hD : ∀ L ∈ D, TOk pb L ∧ L.Pairwise (fun x y => x.1 < y.1)) (hx : A.length = nx) (hy : D.length = ny) (hx1 : 1 ≤ nx) (hy1 : 1 ≤ ny) (hx2 : nx ≤ 1024) (hy2 : ny ≤ 1024) :
    Calls Try.prog 17 #[.agg #[.int .i64 (pa : Int), .int .i64 (pb : Int), sv], .int .i64 kind, .int .i64 W, .int .i64 H, .agg #[.int .i64 x0, .int .i64 y0, .int .i64 x1, .int .i64 y1]] w fun e w' => ∃ g, e = .returned (.agg #[.int .i64 (nx : Int), .int .i64 (ny : Int), .slice (some ⟨g, 0, none⟩) (nx * ny) (nx * ny)]) ∧ URow w' g (tabN (nx * ny) fun i => pieceV A D S pa pb (i % nx) (i / nx)) ∧ w.heap.size ≤ g ∧ Q w w' := by
  have hSp : 1 ≤ S.length := by rw [hS]; exact hsz.pos
  obtain ⟨gs, os, cs, rfl, hcs, hU⟩ := hsv.some hSp
  have HK1 : Hid _ := k1
  have HK2 : Hid _ := k2
  have HU : Hid (UIs w gs os S ∧ S.length ≤ cs ∧ S.length = pa * pb ∧ ∀ i, S.getD i 0 < 4294967296) := ⟨hU, hcs, hS, hb⟩
  have HSz : Hid (Size pa pb) := hsz
  have HA : Hid (∀ L ∈ A, TOk pa L) := hA
  have HD : Hid (∀ L ∈ D, TOk pb L ∧ L.Pairwise (fun x y => x.1 < y.1)) := hD
  have HX : Hid (A.length = nx ∧ D.length = ny) := ⟨hx, hy⟩
  obtain ⟨n, hn⟩ : ∃ n, nx * ny = n := ⟨_, rfl⟩
  have HN : Hid (nx * ny = n) := hn
  have hnb : n ≤ 1048576 := by rw [← hn]; exact Nat.le_trans (Nat.mul_le_mul hx2 hy2) (by decide)
  have pa1 := hsz.a1
  have pa2 := hsz.a2
  have pb1 := hsz.b1
  have pb2 := hsz.b2
  obtain ⟨sl, hsl⟩ : ∃ sl, S.length = sl := ⟨_, rfl⟩
  rw [hsl, hn]
  have HSl : Hid (S.length = sl) := hsl
  clear k1 k2 hsv hsz hS hb hA hD hx hy hU hcs hSp hn hsl
  go_enter Try.func17, Try.ntmps17
  go_wp2_with fail
  obtain ⟨w0, hw0⟩ : ∃ w0, ((w.alloc (.cells #[.int .i64 (pa : Int), .int .i64 (pb : Int), .slice (some ⟨gs, os, none⟩) sl cs] 24)).alloc (.cells #[.int .i64 x0, .int .i64 y0, .int .i64 x1, .int .i64 y1] 40)).alloc (.cells #[.int .i64 0, .int .i64 0, .slice none 0 0] 24) = w0 := ⟨_, rfl⟩
  have q0 : Q w w0 := by rw [← hw0]; exact (((Q.refl w).cells _ _).cells _ _).cells _ _
  have c50 : w0.cell? ⟨w.heap.size, 0, none⟩ = some (.int .i64 (pa : Int)) := by rw [← hw0]; simp [go_sem]
  have c51 : w0.cell? ⟨w.heap.size, 1, none⟩ = some (.int .i64 (pb : Int)) := by rw [← hw0]; simp [go_sem]
  have c52 : w0.cell? ⟨w.heap.size, 2, none⟩ = some (.slice (some ⟨gs, os, none⟩) sl cs) := by rw [← hw0]; simp [go_sem]
  have c90 : w0.cell? ⟨w.heap.size + 1, 0, none⟩ = some (.int .i64 x0) := by rw [← hw0]; simp [go_sem]
  have c91 : w0.cell? ⟨w.heap.size + 1, 1, none⟩ = some (.int .i64 y0) := by rw [← hw0]; simp [go_sem]
  have c92 : w0.cell? ⟨w.heap.size + 1, 2, none⟩ = some (.int .i64 x1) := by rw [← hw0]; simp [go_sem]
  have c93 : w0.cell? ⟨w.heap.size + 1, 3, none⟩ = some (.int .i64 y1) := by rw [← hw0]; simp [go_sem]
  have HR : Hid (w0.cell? ⟨w.heap.size + 1 + 1, 0, none⟩ = some (.int .i64 0) ∧ w0.cell? ⟨w.heap.size + 1 + 1, 1, none⟩ = some (.int .i64 0) ∧ w0.cell? ⟨w.heap.size + 1 + 1, 2, none⟩ = some (.slice none 0 0) ∧ (∀ j, w0.frozen? ⟨w.heap.size + 1 + 1, j, none⟩ = false) ∧ w0.heap.size = w.heap.size + 3) := by
    rw [← hw0]
    exact ⟨by simp [go_sem], by simp [go_sem], by simp [go_sem], fun j => by simp [go_sem], by simp⟩
  rw [hw0]
  have HQ0 : Hid (Q w w0) := q0
  have H5 : Hid (w0.cell? ⟨w.heap.size, 0, none⟩ = some (.int .i64 (pa : Int)) ∧ w0.cell? ⟨w.heap.size, 1, none⟩ = some (.int .i64 (pb : Int)) ∧ w0.cell? ⟨w.heap.size, 2, none⟩ = some (.slice (some ⟨gs, os, none⟩) sl cs)) := ⟨c50, c51, c52⟩
  clear hw0 q0
  refine regionPc (kind := kind) (pa := (pa : Int)) (pb := (pb : Int)) (W := W) (H := H) (x0 := x0) (x1 := x1) (y0 := y0) (y1 := y1) (b5 := w.heap.size) (b9 := w.heap.size + 1) (A := A) (D := D) rfl rfl ⟨rfl, rfl, rfl, rfl, rfl, c50, c51, c90, c91, c92, c93, HK1.out, HK2.out⟩ ?_
  intro w1 bA bD g1 g2 HL
  rw [normPc]
  clear c50 c51 c52 c90 c91 c92 c93 HK1 HK2
  have HB : Hid (LnX w1 (.agg #[.int .i64 (nx : Int), .func (.func 30) #[] #[.pointer (some ⟨bA, 0, none⟩)]]) A ∧ LnX w1 (.agg #[.int .i64 (ny : Int), .func (.func 30) #[] #[.pointer (some ⟨bD, 0, none⟩)]]) D) := by
    have a := HL.a
    have d := HL.d
    rw [HX.out.1] at a
    rw [HX.out.2] at d
    exact ⟨a, d⟩
  have b10 := HL.c10
  have b11 := HL.c11
  have b20 := HL.c20
  have b21 := HL.c21
  rw [HX.out.1] at b10
  rw [HX.out.2] at b20
  rw [HX.out.1, HX.out.2]
  have HB1 : Hid (w1.cell? ⟨g1, 0, none⟩ = some (.int .i64 (nx : Nat)) ∧ w1.cell? ⟨g1, 1, none⟩ = some (.func (.func 30) #[] #[.pointer (some ⟨bA, 0, none⟩)]) ∧ w1.cell? ⟨g2, 0, none⟩ = some (.int .i64 (ny : Nat)) ∧ w1.cell? ⟨g2, 1, none⟩ = some (.func (.func 30) #[] #[.pointer (some ⟨bD, 0, none⟩)]) ∧ Q w0 w1) := ⟨b10, b11, b20, b21, HL.q⟩
  clear HL
  have Cs := span_any _ D pb w1 HB.out.2 (by rw [HX.out.2]; omega) (by omega) (fun L hL => (HD.out L hL).1)
  rw [HX.out.2] at Cs
  have sb := span_bd (fun L hL => (HD.out L hL).1) pb2 ny (by rw [HX.out.2]; exact Nat.le_refl _)
  have si := span_in HD.out ny (by rw [HX.out.2]; exact Nat.le_refl _)
  obtain ⟨f, hf⟩ : ∃ f : Nat, fstS D ny = (f : Int) := ⟨(fstS D ny).toNat, by omega⟩
  obtain ⟨e, he⟩ : ∃ e : Nat, endS D ny = (e : Int) := ⟨(endS D ny).toNat, by omega⟩
  rw [hf, he] at Cs sb si
  have HI : Hid (∀ i L, i < ny → D[i]? = some L → ∀ e_1 ∈ L, (f : Int) ≤ e_1.1 ∧ e_1.1 < (e : Int)) := si
  have hepb : e ≤ pb := by omega
  have hfe : f ≤ e := by
    have hL0 : D[0]? = some (D[0]'(by rw [HX.out.2]; omega)) := List.getElem?_eq_getElem _
    have ok := (HD.out _ (List.mem_of_getElem? hL0)).1
    have hm : (D[0]'(by rw [HX.out.2]; omega))[0]'(by have := ok.one; omega) ∈ D[0]'(by rw [HX.out.2]; omega) := List.getElem_mem _
    have := si 0 _ (by omega) hL0 _ hm
    omega
  obtain ⟨d, hd⟩ : ∃ d, f + d = e := ⟨e - f, by omega⟩
  have ed : (e : Int) - (f : Int) = (d : Int) := by omega
  clear hf he sb si
  go_wp2_with fail
  refine Cs.mono ?_
  rintro e2 w2 ⟨rfl, q2⟩
  clear Cs
  obtain ⟨M, hmk, hF⟩ := make_u32 pb (by omega)
  have hu3 := urow_fill (hF w2)
  have d50 := (HB1.out.2.2.2.2.trans q2).cell H5.out.2.1
  have HB2 : Hid (Q w0 w2 ∧ Q w1 w2) := ⟨HB1.out.2.2.2.2.trans q2, q2⟩
  obtain ⟨w3, hw3⟩ : ∃ w3, w2.alloc (.cells M 31) = w3 := ⟨_, rfl⟩
  have q3 : Q w2 w3 := by rw [← hw3]; exact (Q.refl w2).cells _ _
  have hg3 : w2.heap.size < w3.heap.size := by rw [← hw3]; simp
  rw [hw3] at hu3
  have HU3 : Hid (URow w3 w2.heap.size (List.replicate pb 0) ∧ w2.heap.size < w3.heap.size) := ⟨hu3, hg3⟩
  clear hF q2 hg3 hu3
  go_wp2_with fail
  have x10 := (HB2.out.2.trans q3).cell HB1.out.1
  have x20 := (HB2.out.2.trans q3).cell HB1.out.2.2.1
  have hwn : IntKind.i64.wrap ((nx : Int) * (ny : Int)) = (n : Int) := by
    rw [← Int.natCast_mul, HN.out, IntKind.wrap_i64]; omega
  refine regionPd (nA := nx) (nD := ny) (n := n) (g1 := g1) (g2 := g2) rfl rfl ⟨rfl, rfl, x10, x20, by omega, hwn⟩ ?_
  intro w4 gt g16 HP
  rw [normPd]
  have HT : Hid (∀ (k : Nat) (L : List (Int × Int)), A[k]? = some L → ∃ r1 r2, (∀ W : World, Q w1 W → Calls Try.prog 30 #[.int .i64 (k : Int), .pointer (some ⟨bA, 0, none⟩)] W fun e w' => e = .returned (.agg #[.slice (some ⟨r1, 0, none⟩) L.length L.length, .slice (some ⟨r2, 0, none⟩) L.length L.length]) ∧ Q W w') ∧ BlV w1 (.agg #[.slice (some ⟨r1, 0, none⟩) L.length L.length, .slice (some ⟨r2, 0, none⟩) L.length L.length]) L) := fun k L hk => by
    obtain ⟨b', g', ⟨hv, hbx, hr⟩⟩ := HB.out.1
    have hbb : bA = b' := by
      injection hv with hv
      have := congrArg (fun z : Array Value => z[1]?) hv
      simp at this
      exact this
    subst hbb
    obtain ⟨r1, r2, a1, a2, a3, a4, _⟩ := hr k L hk
    have hkl : k < A.length := (List.getElem?_eq_some_iff.1 hk).1
    have i1 := a3.isl L.length
    have i2 := a4.isl L.length
    rw [List.length_map] at i1 i2
    exact ⟨r1, r2, fun W q => line_tapsE bA g' k A.length L.length L.length r1 r2 W (q.cell hbx) (q.cell a1) (q.cell a2) hkl, ⟨_, _, rfl, i1, i2⟩⟩
  have HP0 : Hid (Pcs w2 w4 w2.heap.size gt g16 nx ny n pb (btwV A S pa f e 0 0) (tolV A D S pa pb nx 0 0)) := by
    have hb := HU3.out.1.next HP.q
    have ht := HP.row
    rw [tabN_zero] at hb ht
    have := HU3.out.2
    have l1 := HP.l1
    have l2 := HP.l2
    have := q3.1.size
    refine Pcs.alike (fb := fun _ => 0) (ft := fun _ => 0) ⟨q3.trans HP.q, hb, ht, HP.c0, HP.c1, HP.c2, Nat.le_refl _, by omega, by omega, by omega, HP.ne⟩ (fun i _ => btw_start _ _ _ _ _ _) (fun i _ => tol_start _ _ _ _ _ _ _)
  have x11 := (HB2.out.2.trans (q3.trans HP.q)).cell HB1.out.2.1
  have y10 := (HB2.out.2.trans (q3.trans HP.q)).cell HB1.out.1
  clear x10 x20 hwn hmk hw3 HU3 d50 HP q3
  go_wp2_with fail
  go_loopg [62] nx (fun gh s62 wr => ∃ k : Nat, s62 = .int .i64 (k : Int) ∧ k ≤ nx ∧ gh = nx - k ∧ Hid (Pcs w2 wr w2.heap.size gt g16 nx ny n pb (btwV A S pa f e k 0) (tolV A D S pa pb nx k 0)))
  case atStart => exact ⟨0, rfl, Nat.zero_le _, rfl, HP0⟩
  case round =>
    clear HP0 x11 y10
    obtain ⟨k, rfl, hk, rfl, HPc⟩ := hrel
    by_cases hlt : k < nx
    · have hltz : (k : Int) < (nx : Int) := by omega
      obtain ⟨L, hLk⟩ : ∃ L, A[k]? = some L := ⟨_, List.getElem?_eq_getElem (by rw [HX.out.1]; exact hlt)⟩
      have HLk : Hid (A[k]? = some L) := hLk
      obtain ⟨r1, r2, hC, hBl⟩ := HT.out k L hLk
      have C := hC wr (HB2.out.2.trans HPc.out.q)
      have HBl : Hid (BlV w1 (.agg #[.slice (some ⟨r1, 0, none⟩) L.length L.length, .slice (some ⟨r2, 0, none⟩) L.length L.length]) L) := hBl
      have x11 := (HB2.out.2.trans HPc.out.q).cell HB1.out.2.1
      obtain ⟨ll, hll⟩ : ∃ ll, L.length = ll := ⟨_, rfl⟩
      rw [hll] at C HBl
      clear hLk hC hBl hll
      go_wp2_with fail
      refine C.mono ?_
      rintro e5 w5 ⟨rfl, q5⟩
      clear C x11
      obtain ⟨w6, hw6⟩ : ∃ w6, w5.alloc (.cells #[.slice (some ⟨r1, 0, none⟩) ll ll, .slice (some ⟨r2, 0, none⟩) ll ll] 64) = w6 := ⟨_, rfl⟩
      have q6 : Q w5 w6 := by rw [← hw6]; exact (Q.refl w5).cells _ _
      have z0 : w6.cell? ⟨w5.heap.size, 0, none⟩ = some (.slice (some ⟨r1, 0, none⟩) ll ll) := by rw [← hw6]; simp [go_sem]
      have z1 : w6.cell? ⟨w5.heap.size, 1, none⟩ = some (.slice (some ⟨r2, 0, none⟩) ll ll) := by rw [← hw6]; simp [go_sem]
      have HP6 : Hid (Pcs w2 w6 w2.heap.size gt g16 nx ny n pb (btwV A S pa f e k 0) (tolV A D S pa pb nx k 0) ∧ w6.cell? ⟨w5.heap.size, 0, none⟩ = some (.slice (some ⟨r1, 0, none⟩) ll ll) ∧ w6.cell? ⟨w5.heap.size, 1, none⟩ = some (.slice (some ⟨r2, 0, none⟩) ll ll)) := ⟨HPc.out.next (q5.trans q6), z0, z1⟩
      have hne5 : w2.heap.size < w5.heap.size := by
        have h1 : w2.heap.size < wr.heap.size := World.block_lt_of_cell? _ _ (HPc.out.bt.cell 0 _ (tabN_at (by omega)))
        have := q5.1.size
        omega
      clear HPc q5 q6 z0 z1
      go_wp2_with fail
      go_loopg [19, 20, 72] d (fun gh s19 s20 s72 wx => ∃ i : Nat, s72 = .int .i64 (i : Int) ∧ i ≤ d ∧ gh = d - i ∧ Hid (Pcs w2 wx w2.heap.size gt g16 nx ny n pb (btwV A S pa f e k i) (tolV A D S pa pb nx k 0) ∧ wx.cell? ⟨w5.heap.size, 0, none⟩ = some (.slice (some ⟨r1, 0, none⟩) ll ll) ∧ wx.cell? ⟨w5.heap.size, 1, none⟩ = some (.slice (some ⟨r2, 0, none⟩) ll ll)))
      case atStart => exact ⟨0, rfl, Nat.zero_le _, rfl, HP6⟩
      case round =>
        clear HP6 hw6
        obtain ⟨i, rfl, hi, rfl, HPi⟩ := hrel
        by_cases hid : i < d
        · have hidz : (i : Int) < (d : Int) := by omega
          obtain ⟨y, hy⟩ : ∃ y, f + i = y := ⟨_, rfl⟩
          have eyz : (f : Int) + (i : Int) = (y : Int) := by omega
          have hypb : y < pb := by omega
          have hyz : (y : Int) < (pb : Int) := by omega
          obtain ⟨ya, hya⟩ : ∃ ya, y * pa = ya := ⟨_, rfl⟩
          have eya : (y : Int) * (pa : Int) = (ya : Int) := by rw [← Int.natCast_mul, hya]
          have hyal : ya + pa ≤ sl := by
            have h1 : (y + 1) * pa ≤ pb * pa := Nat.mul_le_mul_right _ hypb
            rw [Nat.succ_mul, hya] at h1
            rw [← HSl.out, HU.out.2.2.1, Nat.mul_comm]
            exact h1
          have hslb : sl ≤ 65536 := by rw [← HSl.out, HU.out.2.2.1]; exact HSz.out.ab
          have hscs : sl ≤ cs := by rw [← HSl.out]; exact HU.out.2.1
          have wya : IntKind.i64.wrap (ya : Int) = (ya : Int) := by rw [IntKind.wrap_i64]; omega
          have qx := HPi.out.1.q
          have c50 := (HB2.out.1.trans qx).cell H5.out.1
          have c52 := (HB2.out.1.trans qx).cell H5.out.2.2
          have z0 := HPi.out.2.1
          have z1 := HPi.out.2.2
          have hLm := HA.out L (List.mem_of_getElem? HLk.out)
          have HCb : Hid (∀ W : World, Q wr W → Calls Try.prog 27 #[.agg #[.slice (some ⟨r1, 0, none⟩) ll ll, .slice (some ⟨r2, 0, none⟩) ll ll], .slice (some ⟨gs, os + ya, none⟩) (sl - ya) (cs - ya)] W fun e w' => e = .returned (.int .u32 (colV (A.getD k []) S pa y : Nat)) ∧ Q W w') := fun W qW => by
            have hlen : (S.drop ya).length = sl - ya := by rw [List.length_drop, HSl.out]
            have := blend_of (.agg #[.slice (some ⟨r1, 0, none⟩) ll ll, .slice (some ⟨r2, 0, none⟩) ll ll]) (.slice (some ⟨gs, os + ya, none⟩) (sl - ya) (cs - ya)) L (S.drop ya) W (HBl.out.next (HB2.out.2.trans (qx.trans qW))) ((usl_drop HU.out.1 HSl.out HU.out.2.1 (by omega)).next (HQ0.out.trans (HB2.out.1.trans (qx.trans qW)))) hLm.few (by rw [hlen]; omega) (drop_bd HU.out.2.2.2 ya) (fun e he => by have := hLm.pl e he; rw [hlen]; omega) hLm.wt
            have e1 : smpV L (S.drop ya) = colV (A.getD k []) S pa y := by
              unfold colV
              rw [hya, List.getD_eq_getElem?_getD, HLk.out]; rfl
            rw [e1] at this
            exact this
          obtain ⟨cv, hcv⟩ : ∃ cv, colV (A.getD k []) S pa y = cv := ⟨_, rfl⟩
          rw [hcv] at HCb
          have HCV : Hid (cv = btwV A S pa f e k (i + 1) y) := by
            show cv = _
            rw [← hcv, ← hy]; exact btw_new
          have HY : Hid (f + i = y) := hy
          have n0 := qw_some wr
          have f0 := qw_cell c50
          have f1 := qw_cell c52
          have f2 := qw_cell z0
          have f3 := qw_cell z1
          clear c50 c52 z0 z1 hLm hcv hya hy
          go_wp2_with fail
          refine wp_region_mk [0, 1, 2, 3, 4, 5, 6, 7, 8] [[9, 10, 11, 12]] 4 _ (by kernel_rfl) (by kernel_rfl) rfl (by kernel_rfl) ?_
          simp only [List.filterMap_cons, List.filterMap_nil, List.getElem?_cons_zero, List.getElem?_cons_succ]
          repeat (first | go_big_quiet_step (fail) | quiet_step (fail))
          refine wpQuiet_nil ?_
          intro x5 hx5
          clear f0 f1 f2 f3 n0
          refine treeA_run 9 (by kernel_rfl) rfl (v := .slice (some ⟨gs, os + ya, none⟩) (sl - ya) (cs - ya)) (x' := x5) (run_slice_from (nn := sl) (cc := cs) (by kernel_rfl) (by kernel_rfl) (by omega) hscs) (Or.inr hx5) ?_
          refine treeA_call 10 (by kernel_rfl) rfl (run_fn 27 #[.tmp 80, .tmp 87] _ rfl (fun _ _ => rfl) (vs := #[.agg #[.slice (some ⟨r1, 0, none⟩) ll ll, .slice (some ⟨r2, 0, none⟩) ll ll], .slice (some ⟨gs, os + ya, none⟩) (sl - ya) (cs - ya)]) (by kernel_rfl)) (G := fun v x' => v = .int .u32 (cv : Nat) ∧ Q x5 x') ((HCb.out x5 hx5).mono fun e x' h => ⟨_, h.1, rfl, h.2⟩) ?_
          rintro vq x6 ⟨rfl, q6⟩
          have q56 : Q wr x6 := hx5.trans q6
          have HP7 := HPi.out.1.next q56
          have u6 := HP7.bt.cell y _ (tabN_at hypb)
          have fu6 := HP7.bt.free y
          have HP8 : Hid (Pcs w2 (x6.setCell ⟨w2.heap.size, y, none⟩ (.int .u32 (cv : Nat))) w2.heap.size gt g16 nx ny n pb (btwV A S pa f e k (i + 1)) (tolV A D S pa pb nx k 0) ∧ (x6.setCell ⟨w2.heap.size, y, none⟩ (.int .u32 (cv : Nat))).cell? ⟨w5.heap.size, 0, none⟩ = some (.slice (some ⟨r1, 0, none⟩) ll ll) ∧ (x6.setCell ⟨w2.heap.size, y, none⟩ (.int .u32 (cv : Nat))).cell? ⟨w5.heap.size, 1, none⟩ = some (.slice (some ⟨r2, 0, none⟩) ll ll)) := by
            refine ⟨HP7.setb hypb HCV.out (fun j hj => btw_old (by rw [HY.out]; exact hj)), ?_, ?_⟩
            · rw [World.cell?_setCell_other _ _ _ _ (fun e => by injection e with e; omega)]; exact q56.cell HPi.out.2.1
            · rw [World.cell?_setCell_other _ _ _ _ (fun e => by injection e with e; omega)]; exact q56.cell HPi.out.2.2
          refine ⟨q56, ?_⟩
          refine treeA_run 11 (by kernel_rfl) rfl (v := .pointer (some ⟨w2.heap.size, y, none⟩)) (x' := x6) (run_ixu (Lw := pb) (cap := pb) (by kernel_rfl) (by kernel_rfl) hypb) (Or.inr q56) ?_
          refine treeA_skip 12 (by kernel_rfl) rfl (x' := x6.setCell ⟨w2.heap.size, y, none⟩ (.int .u32 (cv : Nat))) (run_stu (i := y) (by kernel_rfl) (by kernel_rfl) u6 fu6) (Or.inl (by kernel_rfl)) ?_
          refine tree_nil ?_
          clear HP7 u6 fu6 hx5 q6 q56 HPi HCb qx
          generalize x6.setCell ⟨w2.heap.size, y, none⟩ (.int .u32 (cv : Nat)) = w9 at HP8 ⊢
          go_wp2_with fail
          go_roundg (d - (i + 1))
          case measure => go_light; omega
          case rel => go_light; exact ⟨i + 1, by simp, by omega, rfl, HP8⟩
        · have hge : ¬ (i : Int) < (d : Int) := by omega
          obtain rfl : i = d := by omega
          have qx := HPi.out.1.q
          have HPj : Hid (Pcs w2 wr w2.heap.size gt g16 nx ny n pb (btwV A S pa f e k i) (tolV A D S pa pb nx k 0)) := HPi.out.1
          have lnD := HB.out.2.next (HB2.out.2.trans qx)
          have us : USl wr (.slice (some ⟨w2.heap.size, 0, none⟩) pb pb) (tabN pb (btwV A S pa f e k i)) := by
            have := HPi.out.1.bt.uis.usl (cap := pb) (by rw [tabN_len]; exact Nat.le_refl _)
            rw [tabN_len] at this
            exact this
          have Cl := line_of _ (.slice (some ⟨w2.heap.size, 0, none⟩) pb pb) D (tabN pb (btwV A S pa f e k i)) wr lnD us (by rw [HX.out.2]; omega) (by rw [tabN_len]; omega) (fun j => by
            by_cases hj : j < pb
            · rw [tabN_getD hj]
              exact btw_lt HU.out.2.2.2 j
            · rw [List.getD_eq_getElem?_getD, List.getElem?_eq_none (by rw [tabN_len]; omega)]; show 0 < 4294967296; decide) (fun L' hL' => by rw [tabN_len]; exact (HD.out L' hL').1)
          rw [HX.out.2] at Cl
          have x20 := (HB2.out.2.trans qx).cell HB1.out.2.2.1
          have x21 := (HB2.out.2.trans qx).cell HB1.out.2.2.2.1
          clear HPi lnD us
          go_wp2_with fail
          refine Cl.mono ?_
          rintro e7 w7 ⟨b7, rfl, o7⟩
          have HO7 : Hid (UIs w7 b7 0 (D.map fun L => smpV L (tabN pb (btwV A S pa f e k i))) ∧ wr.heap.size ≤ b7) := ⟨o7.cells, o7.new⟩
          have HP7 : Hid (Pcs w2 w7 w2.heap.size gt g16 nx ny n pb (btwV A S pa f e k i) (tolV A D S pa pb nx k 0)) := HPj.out.next o7.q
          have hgt7 : gt ≠ b7 := by
            have h1 : gt < wr.heap.size := World.block_lt_of_cell? _ _ (HPj.out.tl.cell 0 _ (tabN_at (by have := HN.out; rw [← this]; exact Nat.mul_pos hx1 hy1)))
            have := o7.new
            omega
          clear Cl o7 HPj x20 x21 qx
          go_wp2_with fail
          go_loopg [21, 22, 95] ny (fun gh s21 s22 s95 wx => ∃ j : Nat, s95 = .int .i64 (j : Int) ∧ j ≤ ny ∧ gh = ny - j ∧ Hid (Pcs w2 wx w2.heap.size gt g16 nx ny n pb (btwV A S pa f e k i) (tolV A D S pa pb nx k j) ∧ UIs wx b7 0 (D.map fun L => smpV L (tabN pb (btwV A S pa f e k i)))))
          case atStart => exact ⟨0, rfl, Nat.zero_le _, rfl, ⟨HP7.out, HO7.out.1⟩⟩
          case round =>
            clear HP7
            obtain ⟨j, rfl, hj, rfl, HPj⟩ := hrel
            by_cases hjy : j < ny
            · have hjyz : (j : Int) < (ny : Int) := by omega
              obtain ⟨L', hL'⟩ : ∃ L', D[j]? = some L' := ⟨_, List.getElem?_eq_getElem (by rw [HX.out.2]; exact hjy)⟩
              have c7a := HPj.out.2 j (by rw [List.length_map, HX.out.2]; exact hjy)
              rw [List.getD_eq_getElem?_getD, List.getElem?_map, hL', Nat.zero_add] at c7a
              have hpv : smpV L' (tabN pb (btwV A S pa f e k i)) = pieceV A D S pa pb k j := piece_at hd hepb hL' (HI.out j L' hjy hL')
              have c7 : wr.cell? ⟨b7, j, none⟩ = some (.int .u32 (pieceV A D S pa pb k j : Nat)) := by rw [← hpv]; exact c7a
              clear c7a
              obtain ⟨pv, hpve⟩ : ∃ pv, pieceV A D S pa pb k j = pv := ⟨_, rfl⟩
              rw [hpve] at c7
              obtain ⟨jx, hjx⟩ : ∃ jx, j * nx = jx := ⟨_, rfl⟩
              have ejx : (j : Int) * (nx : Int) = (jx : Int) := by rw [← Int.natCast_mul, hjx]
              have hin : jx + k < n := by rw [← HN.out, ← hjx]; exact place_lt hlt hjy
              obtain ⟨ix, hix⟩ : ∃ ix, jx + k = ix := ⟨_, rfl⟩
              have eix : (jx : Int) + (k : Int) = (ix : Int) := by omega
              have hixn : ix < n := by omega
              have hixz : (ix : Int) < (n : Int) := by omega
              have p0 := HPj.out.1.c0
              have p2 := HPj.out.1.c2
              have u9 := HPj.out.1.tl.cell ix _ (tabN_at hixn)
              have fu9 := HPj.out.1.tl.free ix
              have hjxb : jx ≤ 1048576 := by omega
              have HP9 : Hid (Pcs w2 (wr.setCell ⟨gt, ix, none⟩ (.int .u32 (pv : Nat))) w2.heap.size gt g16 nx ny n pb (btwV A S pa f e k i) (tolV A D S pa pb nx k (j + 1)) ∧ UIs (wr.setCell ⟨gt, ix, none⟩ (.int .u32 (pv : Nat))) b7 0 (D.map fun L => smpV L (tabN pb (btwV A S pa f e k i)))) := by
                refine ⟨HPj.out.1.sett hixn (by rw [← hpve, ← hix, ← hjx]; exact tol_new hlt) (fun m hm => tol_old hlt (by rw [hjx, hix]; exact hm)), fun m hm => ?_⟩
                rw [World.cell?_setCell_other _ _ _ _ (fun e => hgt7 (by injection e))]
                exact HPj.out.2 m hm
              obtain ⟨ov, hov⟩ : ∃ ov, tolV A D S pa pb nx k j ix = ov := ⟨_, rfl⟩
              rw [hov] at u9
              clear hL' hpv hpve hjx hix HPj hov
              go_wp2_with fail
              generalize wr.setCell ⟨gt, ix, none⟩ (.int .u32 (pv : Nat)) = w9 at HP9 ⊢
              go_roundg (ny - (j + 1))
              case measure => go_light; omega
              case rel => go_light; exact ⟨j + 1, by simp, by omega, rfl, HP9⟩
            · have hgej : ¬ (j : Int) < (ny : Int) := by omega
              obtain rfl : j = ny := by omega
              have HP9 : Hid (Pcs w2 wr w2.heap.size gt g16 nx j n pb (btwV A S pa f e (k + 1) 0) (tolV A D S pa pb nx (k + 1) 0)) := HPj.out.1.alike (fun m _ => (btw_end hd).symm) (fun m hm => (tol_end (by rw [HN.out]; exact hm)).symm)
              clear HPj
              go_wp2_with fail
              go_roundg (nx - (k + 1))
              case measure => go_light; omega
              case rel => go_light; exact ⟨k + 1, by simp, by omega, rfl, HP9⟩
    · have hgek : ¬ (k : Int) < (nx : Int) := by omega
      obtain rfl : k = nx := by omega
      have p0 := HPc.out.c0
      have p1 := HPc.out.c1
      have p2 := HPc.out.c2
      have qx := HPc.out.q
      have o0 := (HB2.out.1.trans qx).cell HR.out.1
      have o1 := (HB2.out.1.trans qx).cell HR.out.2.1
      have o2 := (HB2.out.1.trans qx).cell HR.out.2.2.1
      have fo : ∀ j, wr.frozen? ⟨w.heap.size + 1 + 1, j, none⟩ = false := fun j => by rw [(HB2.out.1.trans qx).2]; exact HR.out.2.2.2.1 j
      have fo0 := fo 0
      have fo1 := fo 1
      have fo2 := fo 2
      have hgt : w.heap.size + 1 + 1 ≠ gt := by
        have := HPc.out.l2
        have := HB2.out.1.1.size
        have := HR.out.2.2.2.2
        omega
      obtain ⟨w9, hw9⟩ : ∃ w9, ((wr.setCell ⟨w.heap.size + 1 + 1, 0, none⟩ (.int .i64 (k : Int))).setCell ⟨w.heap.size + 1 + 1, 1, none⟩ (.int .i64 (ny : Int))).setCell ⟨w.heap.size + 1 + 1, 2, none⟩ (.slice (some ⟨gt, 0, none⟩) n n) = w9 := ⟨_, rfl⟩
      have HW : Hid (URow w9 gt (tabN n fun i => pieceV A D S pa pb (i % k) (i / k)) ∧ Q w w9 ∧ w.heap.size ≤ gt) := by
        refine ⟨?_, ?_, ?_⟩
        · rw [← hw9]
          have := ((HPc.out.tl.other (p := ⟨w.heap.size + 1 + 1, 0, none⟩) hgt (.int .i64 (k : Int))).other (p := ⟨w.heap.size + 1 + 1, 1, none⟩) hgt (.int .i64 (ny : Int))).other (p := ⟨w.heap.size + 1 + 1, 2, none⟩) hgt (.slice (some ⟨gt, 0, none⟩) n n)
          rw [tabN_congr (g := fun i => pieceV A D S pa pb (i % k) (i / k)) (fun i hi => tol_all (ny := ny) (by rw [HN.out]; exact hi))] at this
          exact this
        · rw [← hw9]
          have hl : w.heap.size ≤ w.heap.size + 1 + 1 := by omega
          exact (((HQ0.out.trans (HB2.out.1.trans qx)).set hl _).set hl _).set hl _
        · have := HPc.out.l2
          have := (HQ0.out.trans HB2.out.1).1.size
          omega
      have v0 : w9.cell? ⟨w.heap.size + 1 + 1, 0, none⟩ = some (.int .i64 (k : Int)) := by
        rw [← hw9, World.cell?_setCell_other _ _ _ _ (fun e => by injection e with _ e; cases e), World.cell?_setCell_other _ _ _ _ (fun e => by injection e with _ e; cases e)]; exact World.cell?_setCell_same _ _ _ o0
      have v1 : w9.cell? ⟨w.heap.size + 1 + 1, 1, none⟩ = some (.int .i64 (ny : Int)) := by
        rw [← hw9, World.cell?_setCell_other _ _ _ _ (fun e => by injection e with _ e; cases e)]; exact World.cell?_setCell_same _ _ _ ((World.cell?_setCell_other _ _ _ _ (fun e => by injection e with _ e; cases e)).trans o1)
      have v2 : w9.cell? ⟨w.heap.size + 1 + 1, 2, none⟩ = some (.slice (some ⟨gt, 0, none⟩) n n) := by
        rw [← hw9]; exact World.cell?_setCell_same _ _ _ ((World.cell?_setCell_other _ _ _ _ (fun e => by injection e with _ e; cases e)).trans ((World.cell?_setCell_other _ _ _ _ (fun e => by injection e with _ e; cases e)).trans o2))
      have HW9 : Hid (((wr.setCell ⟨w.heap.size + 1 + 1, 0, none⟩ (.int .i64 (k : Int))).setCell ⟨w.heap.size + 1 + 1, 1, none⟩ (.int .i64 (ny : Int))).setCell ⟨w.heap.size + 1 + 1, 2, none⟩ (.slice (some ⟨gt, 0, none⟩) n n) = w9) := hw9
      clear fo HPc qx hw9
      go_wp2_with fail
      rw [HW9.out]
      exact bodyPost_ret (v := .agg #[.int .i64 (k : Int), .int .i64 (ny : Int), .slice (some ⟨gt, 0, none⟩) n n]) (by simp [results, Try.results17, go_sem, v0, v1, v2]) rfl ⟨gt, rfl, HW.out.1, HW.out.2.2, HW.out.2.1⟩
end Go.Proofs.Ytcolhgngiflkhaa

/- The document's Part of a rank. -/
import Derived.Test.YtdfdbamopeocjaaGccbbb088
import Derived.Test.YtdfdbamopeocjaaGe8d36a9f
import Derived.Test.YtdfdbamopeocjaaGa53b5f24
namespace Go.Proofs.Ytdfdbamopeocjaa
open Go.RowKit
set_option linter.unusedVariables false
set_option linter.unusedSimpArgs false

theorem put3_q {w x : World} {b : Nat} (h : Q w x) (hb : w.heap.size ≤ b) (v0 v1 v2 : Value) : Q w (put3 x b v0 v1 v2) := ((h.set (p := ⟨b, 0, none⟩) hb v0).set (p := ⟨b, 1, none⟩) hb v1).set (p := ⟨b, 2, none⟩) hb v2
theorem Gp.next {w0 wr wz : World} {B : Nat} {pa pb : Int} {v : Value} {L : List Nat} {n : Nat} (h : Gp w0 wr B pa pb v L n) (q : Q wr wz) : Gp w0 wz B pa pb v L n := by
  refine ⟨h.len, ⟨h.own.1, ?_⟩, h.ap, q.cell h.c0, q.cell h.c1, q.cell h.c2, fun j => (q.2 _).trans (h.fz j), h.q.trans q, h.lo⟩
  rcases h.own.2 with h2 | ⟨g, cap, cur, rfl, hb, hg, rest⟩
  · exact Or.inl h2
  · exact Or.inr ⟨g, cap, cur, rfl, hb, (q.1.block g (Array.getElem?_eq_some_iff.1 hg).1).trans hg, rest⟩
/-- What a cell of an older block is, though the box's third cell was written. -/
theorem Gp.old {w0 x2 : World} {B : Nat} {pa pb : Int} {v u : Value} {L : List Nat} {n : Nat} (h : Gp w0 (x2.setCell ⟨B, 2, none⟩ u) B pa pb v L n) {p : Addr} {c : Value} (hc : w0.cell? p = some c) : x2.cell? p = some c := by
  have h1 := h.q.cell hc
  have hl := World.block_lt_of_cell? _ _ hc
  rwa [World.cell?_setCell_other _ _ _ _ (fun e => by have := h.lo; rw [← e] at hl; exact absurd hl (by show ¬ B < _; omega))] at h1
def prtL (V : Nat → Nat) (n : Nat) : List Nat := (List.range n).map V
theorem prtL_len (V : Nat → Nat) (n : Nat) : (prtL V n).length = n := by simp [prtL]
theorem prtL_next (V : Nat → Nat) (n : Nat) : prtL V n ++ [V n] = prtL V (n + 1) := by simp [prtL, List.range_succ]
theorem run_bs1 {ρ : Operand → Value} {x : World} {d : Option Tmp} {ty : TypeId} {ps : String} {af : Array Edge} {g : Option (Nat × Bool)} {j : Nat} {u : Nat} (h : ρ (.tmp j) = .int .u32 (u : Int)) : (execOp ρ { dst := d, op := .buildSlice 23 1 #[(0, .tmp j)], type := ty, pos := ps, after := af, guard := g }).run Try.prog x = .ok (.value (.slice (some ⟨x.heap.size, 0, none⟩) 1 1)) (x.alloc (.cells #[.int .u32 (u : Int)] 41)) := by
  simp [execOp, go_sem, h]
theorem run_fa2 {ρ : Operand → Value} {x : World} {d : Option Tmp} {ty : TypeId} {ps : String} {af : Array Edge} {gd : Option (Nat × Bool)} {j B : Nat} (h : ρ (.tmp j) = .pointer (some ⟨B, 0, none⟩)) : (execOp ρ { dst := d, op := .fieldAddr 25 (.tmp j) 2, type := ty, pos := ps, after := af, guard := gd }).run Try.prog x = .ok (.value (.pointer (some ⟨B, 2, none⟩))) x := by
  simp [execOp, go_sem, h]
theorem run_stsl {ρ : Operand → Value} {x : World} {d : Option Tmp} {ty : TypeId} {ps : String} {af : Array Edge} {gd : Option (Nat × Bool)} {j k : Nat} {p : Addr} {ad : Option Addr} {n c : Nat} {u : Value} (h : ρ (.tmp j) = .pointer (some p)) (h' : ρ (.tmp k) = .slice ad n c) (hc : x.cell? p = some u) (hf : x.frozen? p = false) : (execOp ρ { dst := d, op := .store 23 (.tmp j) (.tmp k), type := ty, pos := ps, after := af, guard := gd }).run Try.prog x = .ok .skip (x.setCell p (.slice ad n c)) := by
  simp only [execOp, h, h']
  simp [go_sem, hc, hf]
/-- What the document's Part answers. -/
structure Dans (w w' : World) (E0 : Int) (c d : Nat) (V : Nat → Nat) (a b : Int) (ad : Option Addr) (m cc : Nat) (E : Int) : Prop where
  q : Q w w'
  e : E = E0
  bad : E0 ≠ 0 → a = 0 ∧ b = 0 ∧ ad = none ∧ m = 0 ∧ cc = 0
  good : E0 = 0 → a = (c : Int) ∧ b = (d : Int) ∧ m = c * d ∧ USl w' (.slice ad m cc) (prtL V (c * d))
set_option maxHeartbeats 8000000 in
set_option maxRecDepth 100000 in
theorem rpart12_any (pw ph : Int) (ad : Option Addr) (n c : Nat) (S : List Nat) (bd W H k x0 y0 x1 y1 : Int) (w : World) (hU : USl w (.slice ad n c) S) (hS : S.length = n) (hSb : ∀ i, S.getD i 0 < 4294967296) (hn : n ≤ 9223372036854775807) :
    Calls Try.prog 19 #[.agg #[.int .i64 pw, .int .i64 ph, .slice ad n c], .int .i64 bd, .int .i64 W, .int .i64 H, .int .i64 k, .agg #[.int .i64 x0, .int .i64 y0, .int .i64 x1, .int .i64 y1]] w fun e w' => ∃ a b ad' m cc E, e = .returned (.tuple #[.agg #[.int .i64 a, .int .i64 b, .slice ad' m cc], .int .i64 E]) ∧ Dans w w' (paE pw ph n bd W H k x0 y0 x1 y1) (x1 - x0).toNat (y1 - y0).toNat (fun i => rnkV S pw.toNat ph.toNat bd.toNat W.toNat H.toNat k.toNat (x0.toNat + i % (x1 - x0).toNat) (y0.toNat + i / (x1 - x0).toNat)) a b ad' m cc E := by
  obtain ⟨w1, hw1⟩ : ∃ w1, (w.alloc (.cells #[.int .i64 pw, .int .i64 ph, .slice ad n c] 25)).alloc (.cells #[.int .i64 x0, .int .i64 y0, .int .i64 x1, .int .i64 y1] 38) = w1 := ⟨_, rfl⟩
  obtain ⟨w2, hw2⟩ : ∃ w2, w1.alloc (.cells #[.int .i64 0, .int .i64 0, .slice none 0 0] 25) = w2 := ⟨_, rfl⟩
  have q1 : Q w w1 := by rw [← hw1]; exact ((Q.refl w).cells _ _).cells _ _
  have q2 : Q w1 w2 := by rw [← hw2]; exact (Q.refl w1).cells _ _
  have s1 : w1.heap.size = w.heap.size + 2 := by rw [← hw1]; simp
  have s2 : w2.heap.size = w1.heap.size + 1 := by rw [← hw2]; simp
  have p0 : w2.cell? ⟨w.heap.size, 0, none⟩ = some (.int .i64 pw) := q2.cell (by rw [← hw1]; simp [go_sem])
  have p1 : w2.cell? ⟨w.heap.size, 1, none⟩ = some (.int .i64 ph) := q2.cell (by rw [← hw1]; simp [go_sem])
  have p2 : w2.cell? ⟨w.heap.size, 2, none⟩ = some (.slice ad n c) := q2.cell (by rw [← hw1]; simp [go_sem])
  have r0 : w2.cell? ⟨w.heap.size + 1, 0, none⟩ = some (.int .i64 x0) := q2.cell (by rw [← hw1]; simp [go_sem])
  have r1 : w2.cell? ⟨w.heap.size + 1, 1, none⟩ = some (.int .i64 y0) := q2.cell (by rw [← hw1]; simp [go_sem])
  have r2 : w2.cell? ⟨w.heap.size + 1, 2, none⟩ = some (.int .i64 x1) := q2.cell (by rw [← hw1]; simp [go_sem])
  have r3 : w2.cell? ⟨w.heap.size + 1, 3, none⟩ = some (.int .i64 y1) := q2.cell (by rw [← hw1]; simp [go_sem])
  have HO : Hid ((w2.cell? ⟨w1.heap.size, 0, none⟩ = some (.int .i64 0) ∧ w2.cell? ⟨w1.heap.size, 1, none⟩ = some (.int .i64 0) ∧ w2.cell? ⟨w1.heap.size, 2, none⟩ = some (.slice none 0 0) ∧ ∀ j, w2.frozen? ⟨w1.heap.size, j, none⟩ = false) ∧ Q w w2 ∧ w.heap.size < w1.heap.size ∧ w1.heap.size < w2.heap.size) := by
    refine ⟨?_, q1.trans q2, by omega, by omega⟩
    rw [← hw2]
    exact ⟨by simp [go_sem], by simp [go_sem], by simp [go_sem], fun j => by simp [go_sem]⟩
  have HR : Hid _ := rcheck12_any pw ph ad n c bd W H k hn w2
  have HU : Hid (USl w (.slice ad n c) S ∧ S.length = n ∧ ∀ i, S.getD i 0 < 4294967296) := ⟨hU, hS, hSb⟩
  clear q1 q2 s1 s2 hU hS hSb
  by_cases hE : rkE pw ph n bd W H k = 0
  rotate_left
  · have hpe : paE pw ph n bd W H k x0 y0 x1 y1 = rkE pw ph n bd W H k := by unfold paE; rw [if_neg hE]
    rw [hpe]
    generalize (fun i => rnkV S pw.toNat ph.toNat bd.toNat W.toNat H.toNat k.toNat (x0.toNat + i % (x1 - x0).toNat) (y0.toNat + i / (x1 - x0).toNat)) = V
    obtain ⟨E, hEe⟩ : ∃ E, rkE pw ph n bd W H k = E := ⟨_, rfl⟩
    rw [hEe] at HR hE
    rw [hEe]
    have hEb : (E == 0) = false := by simp [hE]
    have hEn : (E != 0) = true := by simp [hE]
    have HE0 : Hid (E ≠ 0) := hE
    clear hpe hEe hE
    go_enter Try.func19, Try.ntmps19
    go_wp2_with fail
    refine Calls.mono HR.out ?_
    rintro e w3 ⟨rfl, q3⟩
    have q2x := q3
    have o0 := q2x.cell HO.out.1.1
    have o1 := q2x.cell HO.out.1.2.1
    have o2 := q2x.cell HO.out.1.2.2.1
    have fo : ∀ j, w3.frozen? ⟨w1.heap.size, j, none⟩ = false := fun j => (q2x.2 _).trans (HO.out.1.2.2.2 j)
    have fo0 := fo 0
    have fo1 := fo 1
    have fo2 := fo 2
    have v0 := put3_c0 (v0 := (.int .i64 0)) (v1 := (.int .i64 0)) (v2 := (.slice none 0 0)) o0
    have v1 := put3_c1 (v0 := (.int .i64 0)) (v1 := (.int .i64 0)) (v2 := (.slice none 0 0)) o1
    have v2 := put3_c2 (v0 := (.int .i64 0)) (v1 := (.int .i64 0)) (v2 := (.slice none 0 0)) o2
    have HW : Hid (Q w (put3 w3 w1.heap.size (.int .i64 0) (.int .i64 0) (.slice none 0 0))) := put3_q (HO.out.2.1.trans q2x) (by have := HO.out.2.2.1; omega) _ _ _
    obtain ⟨w9, hw9⟩ : ∃ w9, put3 w3 w1.heap.size (.int .i64 0) (.int .i64 0) (.slice none 0 0) = w9 := ⟨_, rfl⟩
    rw [hw9] at HW v0 v1 v2
    have HW9 : Hid (put3 w3 w1.heap.size (.int .i64 0) (.int .i64 0) (.slice none 0 0) = w9) := hw9
    clear q2x q3 fo hw9
    go_wp2_with fail
    have h9 : ((w3.setCell ⟨w1.heap.size, 0, none⟩ (.int .i64 0)).setCell ⟨w1.heap.size, 1, none⟩ (.int .i64 0)).setCell ⟨w1.heap.size, 2, none⟩ (.slice none 0 0) = w9 := HW9.out
    rw [h9]
    exact bodyPost_ret (v := .tuple #[.agg #[(.int .i64 0), (.int .i64 0), (.slice none 0 0)], (.int .i64 E)]) (by simp [results, Try.results19, go_sem, v0, v1, v2]) rfl ⟨_, _, _, _, _, _, rfl, ⟨HW.out, rfl, fun _ => ⟨rfl, rfl, rfl, rfl, rfl⟩, fun e => absurd e HE0.out⟩⟩
  by_cases hI : (spnB x0 x1 pw && spnB y0 y1 ph) = true
  rotate_left
  · have hpe : paE pw ph n bd W H k x0 y0 x1 y1 = 52 := by unfold paE; rw [if_pos hE, if_neg hI]
    rw [hpe]
    rw [hE] at HR
    have hout : x0 < 0 ∨ (0 ≤ x0 ∧ y0 < 0) ∨ (0 ≤ x0 ∧ 0 ≤ y0 ∧ x1 ≤ x0) ∨ (0 ≤ x0 ∧ 0 ≤ y0 ∧ x0 < x1 ∧ y1 ≤ y0) ∨ (0 ≤ x0 ∧ 0 ≤ y0 ∧ x0 < x1 ∧ y0 < y1 ∧ pw < x1) ∨ (0 ≤ x0 ∧ 0 ≤ y0 ∧ x0 < x1 ∧ y0 < y1 ∧ x1 ≤ pw ∧ ph < y1) := by
      unfold spnB at hI
      simp only [Bool.and_eq_true, decide_eq_true_eq] at hI
      omega
    have HE0 : Hid ((52 : Int) ≠ 0) := by show (52 : Int) ≠ 0; decide
    generalize (fun i => rnkV S pw.toNat ph.toNat bd.toNat W.toNat H.toNat k.toNat (x0.toNat + i % (x1 - x0).toNat) (y0.toNat + i / (x1 - x0).toNat)) = V
    clear hE hI hpe
    rcases hout with h1 | ⟨h0, h1⟩ | ⟨h0, h2, h1⟩ | ⟨h0, h2, h3, h1⟩ | ⟨h0, h2, h3, h4, h1⟩ | ⟨h0, h2, h3, h4, h5, h1⟩
    all_goals
      go_enter Try.func19, Try.ntmps19
      go_wp2_with fail
      refine Calls.mono HR.out ?_
      rintro e w3 ⟨rfl, q3⟩
      have p0 := q3.cell p0
      have p1 := q3.cell p1
      have r0 := q3.cell r0
      have r1 := q3.cell r1
      have r2 := q3.cell r2
      have r3 := q3.cell r3
      have q2x := q3
      have o0 := q2x.cell HO.out.1.1
      have o1 := q2x.cell HO.out.1.2.1
      have o2 := q2x.cell HO.out.1.2.2.1
      have fo : ∀ j, w3.frozen? ⟨w1.heap.size, j, none⟩ = false := fun j => (q2x.2 _).trans (HO.out.1.2.2.2 j)
      have fo0 := fo 0
      have fo1 := fo 1
      have fo2 := fo 2
      have v0 := put3_c0 (v0 := (.int .i64 0)) (v1 := (.int .i64 0)) (v2 := (.slice none 0 0)) o0
      have v1 := put3_c1 (v0 := (.int .i64 0)) (v1 := (.int .i64 0)) (v2 := (.slice none 0 0)) o1
      have v2 := put3_c2 (v0 := (.int .i64 0)) (v1 := (.int .i64 0)) (v2 := (.slice none 0 0)) o2
      have HW : Hid (Q w (put3 w3 w1.heap.size (.int .i64 0) (.int .i64 0) (.slice none 0 0))) := put3_q (HO.out.2.1.trans q2x) (by have := HO.out.2.2.1; omega) _ _ _
      obtain ⟨w9, hw9⟩ : ∃ w9, put3 w3 w1.heap.size (.int .i64 0) (.int .i64 0) (.slice none 0 0) = w9 := ⟨_, rfl⟩
      rw [hw9] at HW v0 v1 v2
      have HW9 : Hid (put3 w3 w1.heap.size (.int .i64 0) (.int .i64 0) (.slice none 0 0) = w9) := hw9
      clear q2x q3 fo hw9
      go_wp2_with fail
      have h9 : ((w3.setCell ⟨w1.heap.size, 0, none⟩ (.int .i64 0)).setCell ⟨w1.heap.size, 1, none⟩ (.int .i64 0)).setCell ⟨w1.heap.size, 2, none⟩ (.slice none 0 0) = w9 := HW9.out
      rw [h9]
      exact bodyPost_ret (v := .tuple #[.agg #[(.int .i64 0), (.int .i64 0), (.slice none 0 0)], (.int .i64 52)]) (by simp [results, Try.results19, go_sem, v0, v1, v2]) rfl ⟨_, _, _, _, _, _, rfl, ⟨HW.out, rfl, fun _ => ⟨rfl, rfl, rfl, rfl, rfl⟩, fun e => absurd e HE0.out⟩⟩
  have hpe : paE pw ph n bd W H k x0 y0 x1 y1 = 0 := by unfold paE; rw [if_pos hE, if_pos hI]
  rw [hpe]
  rw [hE] at HR
  obtain ⟨pa, pb, b, wa, ha, kk, rfl, rfl, rfl, rfl, rfl, rfl, hsz, hnn, hb, a1, a2, b1, b2, hkk⟩ := rkE_ok hE
  rw [Bool.and_eq_true] at hI
  obtain ⟨xa, xc, rfl, rfl, hx1, hx2⟩ := spn_ok hI.1
  obtain ⟨ya, yd, rfl, rfl, hy1, hy2⟩ := spn_ok hI.2
  obtain ⟨gs, os, cs, hv, hcs, hUI⟩ := HU.out.1.some (by rw [HU.out.2.1, hnn]; exact hsz.pos)
  rw [HU.out.2.1] at hv hcs
  injection hv with hv1 _ hv2
  subst hv1 hv2
  have ec : (((xa + xc : Nat) : Int) - (xa : Int)).toNat = xc := by omega
  have ed : (((ya + yd : Nat) : Int) - (ya : Int)).toNat = yd := by omega
  rw [ec, ed]
  simp only [Int.toNat_natCast]
  have HP : Hid (∀ z, Q w z → ∀ x y : Nat, x < pa → y < pb → Calls Try.prog 31 #[.agg #[.int .i64 (pa : Int), .int .i64 (pb : Int), .slice (some ⟨gs, os, none⟩) n c], .int .i64 (b : Int), .int .i64 (wa : Int), .int .i64 (ha : Int), .int .i64 (kk : Int), .int .i64 (x : Int), .int .i64 (y : Int)] z fun e w' => e = .returned (.int .u32 ((rnkV S pa pb b wa ha kk x y : Nat) : Int)) ∧ Q z w') := fun z (q : Q w z) x y hx hy => rat12_any b pa pb wa ha kk x y gs os n c S z hb hsz hnn HU.out.2.1 (hUI.next q) HU.out.2.2 a1 a2 b1 b2 hkk hx hy
  obtain ⟨V, hV⟩ : ∃ V : Nat → Nat, (fun i => rnkV S pa pb b wa ha kk (xa + i % xc) (ya + i / xc)) = V := ⟨_, rfl⟩
  rw [hV]
  have HV : Hid (∀ i j, i < xc → rnkV S pa pb b wa ha kk (xa + i) (ya + j) = V (j * xc + i)) := fun i j hi => by
    rw [← hV]
    show _ = rnkV S pa pb b wa ha kk _ _
    rw [Nat.mul_comm j xc, Nat.mul_add_mod, Nat.mod_eq_of_lt hi, Nat.mul_add_div (by omega), Nat.div_eq_of_lt hi, Nat.add_zero]
  obtain ⟨xe, hxe⟩ : ∃ xe, xa + xc = xe := ⟨_, rfl⟩
  obtain ⟨ye, hye⟩ : ∃ ye, ya + yd = ye := ⟨_, rfl⟩
  rw [hxe] at hw1 r2 hx2
  rw [hye] at hw1 r3 hy2
  have e1 : (xe : Int) - (xa : Int) = (xc : Int) := by omega
  have e2 : (ye : Int) - (ya : Int) = (yd : Int) := by omega
  have h3 : ¬ (xe : Int) ≤ (xa : Int) := by omega
  have h4 : ¬ (ye : Int) ≤ (ya : Int) := by omega
  have h3' : (xa : Int) < (xe : Int) := by omega
  have h4' : (ya : Int) < (ye : Int) := by omega
  have hn1 : ¬ xe ≤ xa := by omega
  have hn2 : ¬ ye ≤ ya := by omega
  have hn3 : ¬ pa < xe := by omega
  have hn4 : ¬ pb < ye := by omega
  have hn5 : ¬ (xa : Int) < 0 := by omega
  have hn6 : ¬ (ya : Int) < 0 := by omega
  have HB : Hid (xa + xc = xe ∧ ya + yd = ye ∧ xe ≤ pa ∧ ye ≤ pb ∧ xc * yd ≤ 65536 ∧ pa ≤ 1024 ∧ pb ≤ 1024) := ⟨hxe, hye, by omega, by omega, Nat.le_trans (Nat.mul_le_mul (by omega) (by omega)) hsz.ab, hsz.a2, hsz.b2⟩
  have b3 : pa ≤ 1024 := hsz.a2
  have b4 : pb ≤ 1024 := hsz.b2
  rw [hxe, hye]
  clear hE hI hpe hV hxe hye ec ed HU hUI hnn hsz hb hkk hcs hx1 hy1
  go_enter Try.func19, Try.ntmps19
  go_wp2_with fail
  refine Calls.mono HR.out ?_
  rintro e w3 ⟨rfl, q3⟩
  have p0 := q3.cell p0
  have p1 := q3.cell p1
  have p2 := q3.cell p2
  have r0 := q3.cell r0
  have r1 := q3.cell r1
  have r2 := q3.cell r2
  have r3 := q3.cell r3
  have HQ3 : Hid (Q w2 w3) := q3
  clear q3
  obtain ⟨w4, hw4⟩ : ∃ w4, w3.alloc (.cells #[.int .i64 (xc : Int), .int .i64 (yd : Int), .slice none 0 0] 25) = w4 := ⟨_, rfl⟩
  have HG : Hid (Gp w3 w4 w3.heap.size (xc : Int) (yd : Int) (.slice none 0 0) (prtL V 0) 0) := by
    show Gp _ _ _ _ _ _ _ _
    rw [← hw4]
    exact ⟨rfl, World.ownsRow_nil _ _ _ _, by simp [Value.ownBlock], by simp [go_sem], by simp [go_sem], by simp [go_sem], fun j => by simp [go_sem], (Q.refl w3).cells _ _, Nat.le_refl _⟩
  have HC : Hid ((w3.cell? ⟨w.heap.size, 0, none⟩ = some (.int .i64 (pa : Int)) ∧ w3.cell? ⟨w.heap.size, 1, none⟩ = some (.int .i64 (pb : Int)) ∧ w3.cell? ⟨w.heap.size, 2, none⟩ = some (.slice (some ⟨gs, os, none⟩) n c)) ∧ w3.cell? ⟨w.heap.size + 1, 0, none⟩ = some (.int .i64 (xa : Int)) ∧ w3.cell? ⟨w.heap.size + 1, 2, none⟩ = some (.int .i64 (xe : Int)) ∧ w3.cell? ⟨w.heap.size + 1, 3, none⟩ = some (.int .i64 (ye : Int))) := ⟨⟨p0, p1, p2⟩, r0, r2, r3⟩
  have r1' := HG.out.q.cell r1
  have d2 := HG.out.c2
  have d1 := HG.out.c1
  have d0 := HG.out.c0
  have z0 := HG.out.fz 0
  have z1 := HG.out.fz 1
  have z2 := HG.out.fz 2
  have m0 := setcell_id d0
  have m1 := setcell_id d1
  have m2 := setcell_id d2
  go_wp2_with fail
  clear m0 m1 m2 z0 z1 z2 d0 d1 d2 hw4 r0 r1 r2 r3 r1' p0 p1 p2 hw1 hw2
  go_loopg [16] yd (fun m s16 wr => ∃ (j : Nat) (v : Value), s16 = .int .i64 ((ya + j : Nat) : Int) ∧ j + m = yd ∧ Hid (Gp w3 wr w3.heap.size (xc : Int) (yd : Int) v (prtL V (j * xc)) (j * xc)))
  case atStart => exact ⟨0, _, rfl, by omega, by rw [Nat.zero_mul]; exact HG⟩
  case round =>
    clear HG
    obtain ⟨j, v, rfl, hjm, HG⟩ := hrel
    have r3 := HG.out.q.cell HC.out.2.2.2
    obtain ⟨yj, hyj⟩ : ∃ yj, ya + j = yj := ⟨_, rfl⟩
    rw [hyj]
    by_cases hj : j < yd
    · have hj' : (yj : Int) < (ye : Int) := by have := HB.out.2.1; omega
      have hjn : yj < ye := by omega
      have hyb : yj < pb := by have := HB.out.2.2.2.1; omega
      have r0 := HG.out.q.cell HC.out.2.1
      have HYJ : Hid (ya + j = yj) := hyj
      obtain ⟨jx, hjx⟩ : ∃ jx, j * xc = jx := ⟨_, rfl⟩
      rw [hjx] at HG
      have HJX : Hid (j * xc = jx) := hjx
      have hjb : jx + xc ≤ 65536 := by
        have h1 : (j + 1) * xc ≤ yd * xc := Nat.mul_le_mul_right _ (by omega)
        have h2 := HB.out.2.2.2.2.1
        rw [Nat.succ_mul, hjx, Nat.mul_comm yd xc] at h1; omega
      clear hyj hjx
      go_wp2_with fail
      clear r0 r3
      go_loopg [17] xc (fun m s17 wx => ∃ (i : Nat) (v : Value), s17 = .int .i64 ((xa + i : Nat) : Int) ∧ i + m = xc ∧ Hid (Gp w3 wx w3.heap.size (xc : Int) (yd : Int) v (prtL V (jx + i)) (jx + i)))
      case atStart => exact ⟨0, v, rfl, by omega, HG⟩
      case round =>
        clear HG
        obtain ⟨i, v, rfl, him, HG⟩ := hrel
        have r2 := HG.out.q.cell HC.out.2.2.1
        obtain ⟨xi, hxi⟩ : ∃ xi, xa + i = xi := ⟨_, rfl⟩
        rw [hxi]
        by_cases hi : i < xc
        · have hi' : (xi : Int) < (xe : Int) := by have := HB.out.1; omega
          have hin : xi < xe := by omega
          have hxb : xi < pa := by have := HB.out.2.2.1; omega
          have CA := HP.out wr.drew ((HO.out.2.1.trans (HQ3.out.trans HG.out.q)).drew) xi yj hxb hyb
          have hval : rnkV S pa pb b wa ha kk xi yj = V (jx + i) := by rw [← hxi, ← HYJ.out, ← HJX.out]; exact HV.out i j hi
          rw [hval] at CA
          obtain ⟨s, hs⟩ : ∃ s, V (jx + i) = s := ⟨_, rfl⟩
          rw [hs] at CA
          have HCA : Hid _ := CA
          have HS : Hid (V (jx + i) = s) := hs
          have HXI : Hid (xa + i = xi) := hxi
          clear CA hs hval hxi
          go_wp2_with fail
          obtain ⟨D, hD⟩ : ∃ D : World → Prop, (fun z : World => z.cell? ⟨w3.heap.size, 2, none⟩ = some v ∧ z.cell? ⟨w.heap.size, 0, none⟩ = some (.int .i64 (pa : Int)) ∧ z.cell? ⟨w.heap.size, 1, none⟩ = some (.int .i64 (pb : Int)) ∧ z.cell? ⟨w.heap.size, 2, none⟩ = some (.slice (some ⟨gs, os, none⟩) n c)) = D := ⟨_, rfl⟩
          have HDD : Hid (∀ z, (z.cell? ⟨w3.heap.size, 2, none⟩ = some v ∧ z.cell? ⟨w.heap.size, 0, none⟩ = some (.int .i64 (pa : Int)) ∧ z.cell? ⟨w.heap.size, 1, none⟩ = some (.int .i64 (pb : Int)) ∧ z.cell? ⟨w.heap.size, 2, none⟩ = some (.slice (some ⟨gs, os, none⟩) n c)) → D z) := fun z hz => by rw [← hD]; exact hz
          have hDz : ∀ z, D z → z.cell? ⟨w3.heap.size, 2, none⟩ = some v ∧ z.cell? ⟨w.heap.size, 0, none⟩ = some (.int .i64 (pa : Int)) ∧ z.cell? ⟨w.heap.size, 1, none⟩ = some (.int .i64 (pb : Int)) ∧ z.cell? ⟨w.heap.size, 2, none⟩ = some (.slice (some ⟨gs, os, none⟩) n c) := fun z hz => by rw [← hD] at hz; exact hz
          have G5 : Gp w3 wr.drew w3.heap.size (xc : Int) (yd : Int) v (prtL V (jx + i)) (jx + i) := HG.out.next (Q.refl wr).drew
          have HDG : Hid (∀ z, Gp w3 z w3.heap.size (xc : Int) (yd : Int) v (prtL V (jx + i)) (jx + i) → D z) := fun z g => HDD.out z ⟨g.c2, g.q.cell HC.out.1.1, g.q.cell HC.out.1.2.1, g.q.cell HC.out.1.2.2⟩
          have D0 : D wr.drew := HDG.out _ G5
          have n0 := cw_some (D := D) D0
          have f0 := fun n : CW D => (hDz _ n.h).1
          have f01 := fun n : CW D => (hDz _ n.h).2.1
          have f02 := fun n : CW D => (hDz _ n.h).2.2.1
          have f03 := fun n : CW D => (hDz _ n.h).2.2.2
          clear hD hDz
          refine wp_region_mkP [0, 1, 2, 3, 4, 5, 6, 7, 8] [[9, 10, 11, 12, 13]] 5 _ D (by kernel_rfl) (by kernel_rfl) rfl (by kernel_rfl) D0 ?_
          simp only [List.filterMap_cons, List.filterMap_nil, List.getElem?_cons_zero, List.getElem?_cons_succ]
          repeat (first | go_big_quiet_step (fail) | quiet_step (fail))
          refine wpQuiet_nil ?_
          clear f0 f01 f02 f03 n0
          refine tree_call 9 (by kernel_rfl) rfl (run_fn 31 #[.tmp 94, .tmp 95, .tmp 96, .tmp 97, .tmp 98, .tmp 99, .tmp 100] _ rfl (fun _ _ => rfl) (vs := #[.agg #[.int .i64 (pa : Int), .int .i64 (pb : Int), .slice (some ⟨gs, os, none⟩) n c], .int .i64 (b : Int), .int .i64 (wa : Int), .int .i64 (ha : Int), .int .i64 (kk : Int), .int .i64 (xi : Int), .int .i64 (yj : Int)]) (by kernel_rfl)) (G := fun v x' => v = .int .u32 (s : Int) ∧ Q wr.drew x') (Calls.mono HCA.out fun e x' h => ⟨_, h.1, rfl, h.2⟩) ?_
          rintro vq z6 ⟨rfl, hz6⟩
          have G6 := G5.next hz6
          refine ⟨HDG.out _ G6, ?_⟩
          have G7 := G6.next ((Q.refl z6).cells #[.int .u32 (s : Int)] 41)
          refine tree_run 10 (by kernel_rfl) rfl (v := .slice (some ⟨z6.heap.size, 0, none⟩) 1 1) (x' := z6.alloc (.cells #[.int .u32 (s : Int)] 41)) (run_bs1 (by kernel_rfl)) (HDG.out _ G7) ?_
          obtain ⟨g8, c8, x8, r8, cx8, fx8, G8⟩ := G6.app s (by omega)
          have D8 : D x8 := HDD.out _ ⟨cx8, G8.old HC.out.1.1, G8.old HC.out.1.2.1, G8.old HC.out.1.2.2⟩
          refine tree_run 11 (by kernel_rfl) rfl (v := .slice (some ⟨g8, 0, none⟩) (jx + i + 1) c8) (x' := x8) (run_appopq rfl (v := v) (v' := .slice (some ⟨z6.heap.size, 0, none⟩) 1 1) (by kernel_rfl) (by kernel_rfl) r8) D8 ?_
          refine tree_run 12 (by kernel_rfl) rfl (v := .pointer (some ⟨w3.heap.size, 2, none⟩)) (x' := x8) (run_fa2 (by kernel_rfl)) D8 ?_
          have HG9 : Hid (Gp w3 (x8.setCell ⟨w3.heap.size, 2, none⟩ (.slice (some ⟨g8, 0, none⟩) (jx + i + 1) c8)) w3.heap.size (xc : Int) (yd : Int) (.slice (some ⟨g8, 0, none⟩) (jx + i + 1) c8) (prtL V (jx + (i + 1))) (jx + (i + 1))) := by
            have h := G8
            rw [← HS.out, prtL_next] at h
            exact h
          refine tree_skipF 13 (by kernel_rfl) rfl (by kernel_rfl) (x' := x8.setCell ⟨w3.heap.size, 2, none⟩ (.slice (some ⟨g8, 0, none⟩) (jx + i + 1) c8)) (run_stsl (by kernel_rfl) (by kernel_rfl) cx8 (fx8 2)) ?_
          refine tree_nil ?_
          generalize x8.setCell ⟨w3.heap.size, 2, none⟩ (.slice (some ⟨g8, 0, none⟩) (jx + i + 1) c8) = z9 at HG9 ⊢
          clear G5 G6 G7 G8 D0 D8 HG r2 r8 cx8 fx8
          go_wp2_with fail
          go_roundg (xc - (i + 1))
          case measure => go_light; omega
          case rel => go_light; exact ⟨i + 1, _, by have := HXI.out; rw [← this]; go_num, by omega, HG9⟩
        · obtain rfl : i = xc := by omega
          obtain rfl : xi = xe := by have := HB.out.1; omega
          have hge : ¬ (xi : Int) < (xi : Int) := by omega
          have HN : Hid (Gp w3 wr w3.heap.size (i : Int) (yd : Int) v (prtL V ((j + 1) * i)) ((j + 1) * i)) := by
            have h := HG.out
            rw [← HJX.out, ← Nat.succ_mul] at h
            exact h
          clear HG
          go_wp2_with fail
          go_roundg (yd - (j + 1))
          case measure => go_light; omega
          case rel => go_light; exact ⟨j + 1, v, by have := HYJ.out; rw [← this]; go_num, by omega, HN⟩
    · obtain rfl : j = yd := by omega
      obtain rfl : yj = ye := by have := HB.out.2.1; omega
      have hge : ¬ (yj : Int) < (yj : Int) := by omega
      have hU := own_uslS HG.out.own HG.out.len
      obtain ⟨ad9, c9, hv⟩ := hU.form
      rw [prtL_len] at hv
      subst hv
      have HUU : Hid (USl wr (.slice ad9 (j * xc) c9) (prtL V (j * xc))) := hU
      have d0 := HG.out.c0
      have d1 := HG.out.c1
      have d2 := HG.out.c2
      have q2x : Q w2 wr := HQ3.out.trans HG.out.q
      obtain ⟨m9, hm9⟩ : ∃ m9, j * xc = m9 := ⟨_, rfl⟩
      rw [hm9] at HUU d2
      have HM : Hid (j * xc = m9) := hm9
      have HUU9 : Hid (USl (put3 wr w1.heap.size (.int .i64 (xc : Int)) (.int .i64 (j : Int)) (.slice ad9 m9 c9)) (.slice ad9 m9 c9) (prtL V m9)) := by
        have hh := HG.out.own
        rw [hm9] at hh
        have hs := HO.out.2.2.2
        have hl := HQ3.out.1.size
        have hne : (Value.slice ad9 m9 c9).ownBlock ≠ some w1.heap.size := by
          intro e
          rcases hh.2 with ⟨e1, _⟩ | ⟨g, cap, cur, e1, e2, _⟩
          · rw [e1] at e; cases e
          · rw [e1] at e
            have : g = w1.heap.size := by injection e
            omega
        exact own_uslS (own_setS (own_setS (own_setS hh (p := ⟨w1.heap.size, 0, none⟩) hne _) (p := ⟨w1.heap.size, 1, none⟩) hne _) (p := ⟨w1.heap.size, 2, none⟩) hne _) (prtL_len V m9).symm
      clear hm9 hU
      have o0 := q2x.cell HO.out.1.1
      have o1 := q2x.cell HO.out.1.2.1
      have o2 := q2x.cell HO.out.1.2.2.1
      have fo : ∀ j, wr.frozen? ⟨w1.heap.size, j, none⟩ = false := fun j => (q2x.2 _).trans (HO.out.1.2.2.2 j)
      have fo0 := fo 0
      have fo1 := fo 1
      have fo2 := fo 2
      have v0 := put3_c0 (v0 := (.int .i64 (xc : Int))) (v1 := (.int .i64 (j : Int))) (v2 := (.slice ad9 m9 c9)) o0
      have v1 := put3_c1 (v0 := (.int .i64 (xc : Int))) (v1 := (.int .i64 (j : Int))) (v2 := (.slice ad9 m9 c9)) o1
      have v2 := put3_c2 (v0 := (.int .i64 (xc : Int))) (v1 := (.int .i64 (j : Int))) (v2 := (.slice ad9 m9 c9)) o2
      have HW : Hid (Q w (put3 wr w1.heap.size (.int .i64 (xc : Int)) (.int .i64 (j : Int)) (.slice ad9 m9 c9))) := put3_q (HO.out.2.1.trans q2x) (by have := HO.out.2.2.1; omega) _ _ _
      obtain ⟨w9, hw9⟩ : ∃ w9, put3 wr w1.heap.size (.int .i64 (xc : Int)) (.int .i64 (j : Int)) (.slice ad9 m9 c9) = w9 := ⟨_, rfl⟩
      rw [hw9] at HW v0 v1 v2 HUU9
      have HW9 : Hid (put3 wr w1.heap.size (.int .i64 (xc : Int)) (.int .i64 (j : Int)) (.slice ad9 m9 c9) = w9) := hw9
      clear q2x fo hw9 HG HUU
      go_wp2_with fail
      have h9 : ((wr.setCell ⟨w1.heap.size, 0, none⟩ (.int .i64 (xc : Int))).setCell ⟨w1.heap.size, 1, none⟩ (.int .i64 (j : Int))).setCell ⟨w1.heap.size, 2, none⟩ (.slice ad9 m9 c9) = w9 := HW9.out
      rw [h9]
      exact bodyPost_ret (v := .tuple #[.agg #[(.int .i64 (xc : Int)), (.int .i64 (j : Int)), (.slice ad9 m9 c9)], (.int .i64 0)]) (by simp [results, Try.results19, go_sem, v0, v1, v2]) rfl ⟨_, _, _, _, _, _, rfl, ⟨HW.out, rfl, fun e => absurd rfl e, fun _ => ⟨rfl, rfl, by rw [← HM.out, Nat.mul_comm], by rw [Nat.mul_comm, HM.out]; exact HUU9.out⟩⟩⟩

end Go.Proofs.Ytdfdbamopeocjaa
/- The statement RankPart: its walk. -/
namespace Go.Proofs.Ytdfdbamopeocjaa
open Go.RowKit
set_option linter.unusedVariables false
set_option linter.unusedSimpArgs false

theorem pd_join {wx wy wz w' : World} {E0 : Int} {c d : Nat} {V : Nat → Nat} {a b a' b' : Int} {ad ad' : Option Addr} {m cc m' cc' : Nat} {E E' : Int} (D : Dans wx wy E0 c d V a b ad m cc E) (P : Pans wz w' E0 c d V a' b' ad' m' cc' E') (q : Qb wy w') (hB : E0 = 0 → c * d ≤ 65536) : ∃ S, a' = a ∧ b' = b ∧ m' = m ∧ USl w' (.slice ad' m' cc') S ∧ USl w' (.slice ad m cc) S ∧ S.length ≤ 65536 := by
  by_cases h : E0 = 0
  · obtain ⟨rfl, rfl, rfl, u⟩ := D.good h
    obtain ⟨g, rfl, rfl, rfl, rfl, rfl, v, _, _⟩ := P.good h
    refine ⟨prtL V (c * d), rfl, rfl, rfl, ?_, u.nextB q, by rw [prtL_len]; exact hB h⟩
    have hI : UIs w' g 0 (prtL V (c * d)) := fun i hi => by
      rw [prtL_len] at hi
      rw [Nat.zero_add, v.cell i hi]
      simp [prtL, List.getD_eq_getElem?_getD, hi]
    have := hI.usl (cap := c * d) (by rw [prtL_len]; exact Nat.le_refl _)
    rw [prtL_len] at this
    exact this
  · obtain ⟨rfl, rfl, rfl, rfl, rfl⟩ := D.bad h
    obtain ⟨rfl, rfl, rfl, rfl, rfl⟩ := P.bad h
    exact ⟨[], rfl, rfl, rfl, Or.inr ⟨_, _, rfl, rfl⟩, Or.inr ⟨_, _, rfl, rfl⟩, by decide⟩
set_option maxHeartbeats 8000000 in
set_option maxRecDepth 100000 in
theorem rpart_walk (W0 : World) (pw ph bd W H k x0 y0 x1 y1 : Int) (sv : Value) (S : List Nat) (us : USl W0 sv S) (hSb : ∀ i, S.getD i 0 < 4294967296) (hml : S.length ≤ 9223372036854775807) :
    Calls Try.prog 5 #[.agg #[.int .i64 pw, .int .i64 ph, sv], .int .i64 bd, .int .i64 W, .int .i64 H, .int .i64 k, .agg #[.int .i64 x0, .int .i64 y0, .int .i64 x1, .int .i64 y1]] W0 fun e w' => e = .returned (.bool true) ∧ Qb W0 w' := by
  obtain ⟨ad, c, rfl⟩ := us.form
  obtain ⟨n, hn⟩ : ∃ n, S.length = n := ⟨_, rfl⟩
  rw [hn] at us hml
  rw [hn]
  obtain ⟨w1, hw1⟩ : ∃ w1, (W0.alloc (.cells #[.int .i64 pw, .int .i64 ph, .slice ad n c] 25)).alloc (.cells #[.int .i64 x0, .int .i64 y0, .int .i64 x1, .int .i64 y1] 38) = w1 := ⟨_, rfl⟩
  have q1 : Q W0 w1 := by rw [← hw1]; exact ((Q.refl W0).cells _ _).cells _ _
  have HC : Hid (w1.cell? ⟨W0.heap.size, 0, none⟩ = some (.int .i64 pw) ∧ w1.cell? ⟨W0.heap.size, 1, none⟩ = some (.int .i64 ph) ∧ w1.cell? ⟨W0.heap.size, 2, none⟩ = some (.slice ad n c) ∧ w1.cell? ⟨W0.heap.size + 1, 0, none⟩ = some (.int .i64 x0) ∧ w1.cell? ⟨W0.heap.size + 1, 1, none⟩ = some (.int .i64 y0) ∧ w1.cell? ⟨W0.heap.size + 1, 2, none⟩ = some (.int .i64 x1) ∧ w1.cell? ⟨W0.heap.size + 1, 3, none⟩ = some (.int .i64 y1)) := by
    rw [← hw1]
    exact ⟨by simp [go_sem], by simp [go_sem], by simp [go_sem], by simp [go_sem], by simp [go_sem], by simp [go_sem], by simp [go_sem]⟩
  have HK : Hid _ := fun x => known12_any x
  have HM : Hid _ := fun x => small12_any pw ph ad n c x
  have HU : Hid (USl W0 (.slice ad n c) S ∧ S.length = n ∧ (∀ i, S.getD i 0 < 4294967296) ∧ n ≤ 9223372036854775807) := ⟨us, hn, hSb, hml⟩
  have HQ1 : Hid (Qb W0 w1) := q1.qb
  have HA : Hid _ := fun x (q : Qb W0 x) => rpart12_any pw ph ad n c S bd W H k x0 y0 x1 y1 x (HU.out.1.nextB q) HU.out.2.1 HU.out.2.2.1 HU.out.2.2.2
  have HB : Hid _ := fun x (q : Qb W0 x) => part_any pw ph ad n c S bd W H k x0 y0 x1 y1 x (HU.out.1.nextB q) HU.out.2.1 HU.out.2.2.1 HU.out.2.2.2
  have HD : Hid _ := fun x (q : Qb W0 x) => rAt12_any pw ph ad n c S bd W H k x0 y0 x (HU.out.1.nextB q) HU.out.2.1 HU.out.2.2.1 HU.out.2.2.2
  have HE : Hid _ := fun x (q : Qb W0 x) => at12_any pw ph ad n c S bd W H k x0 y0 x (HU.out.1.nextB q) HU.out.2.1 HU.out.2.2.1 HU.out.2.2.2
  have HN : Hid (paE pw ph n bd W H k x0 y0 x1 y1 = 0 → (x1 - x0).toNat * (y1 - y0).toNat ≤ 65536) := fun h => by
    unfold paE at h
    split at h
    · rename_i hE
      split at h
      · rename_i hI
        obtain ⟨pa, pb, b, wa, ha, kk, rfl, rfl, rfl, rfl, rfl, rfl, hsz, _⟩ := rkE_ok hE
        rw [Bool.and_eq_true] at hI
        obtain ⟨xa, xc, rfl, rfl, hx1, hx2⟩ := spn_ok hI.1
        obtain ⟨ya, yd, rfl, rfl, hy1, hy2⟩ := spn_ok hI.2
        exact Nat.le_trans (Nat.mul_le_mul (by omega) (by omega)) hsz.ab
      · omega
    · rename_i hE
      exact absurd h hE
  generalize paE pw ph n bd W H k x0 y0 x1 y1 = E0 at HA HB HN
  generalize atW S pw ph n bd W H k x0 y0 = aw at HD HE
  generalize atE pw ph n bd W H k x0 y0 = ae at HD HE
  generalize (fun i => rnkV S pw.toNat ph.toNat bd.toNat W.toNat H.toNat k.toNat (x0.toNat + i % (x1 - x0).toNat) (y0.toNat + i / (x1 - x0).toNat)) = V at HA HB
  generalize (x1 - x0).toNat = xc at HA HB HN
  generalize (y1 - y0).toNat = yd at HA HB HN
  generalize smlR pw ph n = sb at HM
  clear us hn hSb hml q1
  go_enter Try.func5, Try.ntmps5
  go_wp2_with fail
  clear hw1
  refine Calls.mono (HK.out _) ?_
  rintro e w2 ⟨rfl, q2⟩
  have HQ2 : Hid (Qb w1 w2) := q2
  have p0 := q2.cell HC.out.1
  have p1 := q2.cell HC.out.2.1
  have p2 := q2.cell HC.out.2.2.1
  clear q2
  go_wp2_with fail
  refine Calls.mono (HM.out _) ?_
  rintro e w3 ⟨rfl, q3⟩
  have HQ3 : Hid (Qb w1 w3) := HQ2.out.trans q3.qb
  clear q3 p0 p1 p2
  cases sb
  · go_wp2_with fail
    go_ret
    exact ⟨rfl, HQ1.out.trans HQ3.out⟩
  · have p0 := HQ3.out.cell HC.out.1
    have p1 := HQ3.out.cell HC.out.2.1
    have p2 := HQ3.out.cell HC.out.2.2.1
    have r0 := HQ3.out.cell HC.out.2.2.2.1
    have r1 := HQ3.out.cell HC.out.2.2.2.2.1
    have r2 := HQ3.out.cell HC.out.2.2.2.2.2.1
    have r3 := HQ3.out.cell HC.out.2.2.2.2.2.2
    go_wp2_with fail
    refine Calls.mono (HA.out _ (HQ1.out.trans HQ3.out)) ?_
    rintro e w4 ⟨a, b, ad4, m, cc, E, rfl, D4⟩
    obtain rfl := D4.e
    obtain ⟨w5, hw5⟩ : ∃ w5, w4.alloc (.cells #[.int .i64 a, .int .i64 b, .slice ad4 m cc] 25) = w5 := ⟨_, rfl⟩
    have q5 : Q w4 w5 := by rw [← hw5]; exact (Q.refl w4).cells _ _
    have HD4 : Hid _ := D4
    have HQ5 : Hid (Qb w1 w5) := HQ3.out.trans (D4.q.trans q5).qb
    have HW : Hid (w5.cell? ⟨w4.heap.size, 0, none⟩ = some (.int .i64 a) ∧ w5.cell? ⟨w4.heap.size, 1, none⟩ = some (.int .i64 b) ∧ w5.cell? ⟨w4.heap.size, 2, none⟩ = some (.slice ad4 m cc)) := by
      rw [← hw5]
      exact ⟨by simp [go_sem], by simp [go_sem], by simp [go_sem]⟩
    have HQ45 : Hid (Qb w4 w5) := q5.qb
    clear D4 q5 p0 p1 p2 r0 r1 r2 r3
    have p0 := HQ5.out.cell HC.out.1
    have p1 := HQ5.out.cell HC.out.2.1
    have p2 := HQ5.out.cell HC.out.2.2.1
    have r0 := HQ5.out.cell HC.out.2.2.2.1
    have r1 := HQ5.out.cell HC.out.2.2.2.2.1
    have r2 := HQ5.out.cell HC.out.2.2.2.2.2.1
    have r3 := HQ5.out.cell HC.out.2.2.2.2.2.2
    go_wp2_with fail
    clear hw5
    refine Calls.mono (HB.out _ (HQ1.out.trans HQ5.out)) ?_
    rintro e w6 ⟨a', b', ad6, m', cc', E', rfl, P6⟩
    obtain ⟨L, rfl, rfl, rfl, u1, u2, hL⟩ := pd_join HD4.out P6 (HQ45.out.trans P6.q) HN.out
    obtain rfl := P6.e
    obtain ⟨w7, hw7⟩ : ∃ w7, w6.alloc (.cells #[.int .i64 a', .int .i64 b', .slice ad6 m' cc'] 25) = w7 := ⟨_, rfl⟩
    have q7 : Q w6 w7 := by rw [← hw7]; exact (Q.refl w6).cells _ _
    have HX : Hid (w7.cell? ⟨w6.heap.size, 0, none⟩ = some (.int .i64 a') ∧ w7.cell? ⟨w6.heap.size, 1, none⟩ = some (.int .i64 b') ∧ w7.cell? ⟨w6.heap.size, 2, none⟩ = some (.slice ad6 m' cc')) := by
      rw [← hw7]
      exact ⟨by simp [go_sem], by simp [go_sem], by simp [go_sem]⟩
    have HQ57 : Hid (Qb w5 w7) := P6.q.trans q7.qb
    have HQ7 : Hid (Qb w1 w7) := HQ5.out.trans HQ57.out
    have HL : Hid (USl w7 (.slice ad6 m' cc') L ∧ USl w7 (.slice ad4 m' cc) L ∧ L.length ≤ 65536) := ⟨u1.next q7, u2.next q7, hL⟩
    clear P6 q7 u1 u2 hL p0 p1 p2 r0 r1 r2 r3
    have p0 := HQ7.out.cell HC.out.1
    have p1 := HQ7.out.cell HC.out.2.1
    have p2 := HQ7.out.cell HC.out.2.2.1
    have r0 := HQ7.out.cell HC.out.2.2.2.1
    have r1 := HQ7.out.cell HC.out.2.2.2.2.1
    go_wp2_with fail
    clear hw7
    refine Calls.mono (HD.out _ (HQ1.out.trans HQ7.out)) ?_
    rintro e w8 ⟨rfl, q8⟩
    have HQ78 : Hid (Qb w7 w8) := q8.qb
    clear q8 p0 p1 p2 r0 r1
    have p0 := (HQ7.out.trans HQ78.out).cell HC.out.1
    have p1 := (HQ7.out.trans HQ78.out).cell HC.out.2.1
    have p2 := (HQ7.out.trans HQ78.out).cell HC.out.2.2.1
    have r0 := (HQ7.out.trans HQ78.out).cell HC.out.2.2.2.1
    have r1 := (HQ7.out.trans HQ78.out).cell HC.out.2.2.2.2.1
    go_wp2_with fail
    refine Calls.mono (HE.out _ (HQ1.out.trans (HQ7.out.trans HQ78.out))) ?_
    rintro e w9 ⟨rfl, q9⟩
    have HQ79 : Hid (Qb w7 w9) := HQ78.out.trans q9
    clear q9 p0 p1 p2 r0 r1
    have k0 := HQ79.out.cell HX.out.1
    have k1 := HQ79.out.cell HX.out.2.1
    have k2 := HQ79.out.cell HX.out.2.2
    have t0 := (HQ57.out.trans HQ79.out).cell HW.out.1
    have t1 := (HQ57.out.trans HQ79.out).cell HW.out.2.1
    have t2 := (HQ57.out.trans HQ79.out).cell HW.out.2.2
    go_wp2_with fail
    refine Calls.mono (hplanes_yes a' b' ad6 ad4 m' cc' cc L w9 (HL.out.1.nextB HQ79.out) (HL.out.2.1.nextB HQ79.out) (by have := HL.out.2.2; omega)) ?_
    rintro e wa ⟨rfl, qa⟩
    have HQa : Hid (Qb W0 wa) := HQ1.out.trans (HQ7.out.trans (HQ79.out.trans qa.qb))
    clear qa
    go_wp2_with fail
    go_ret
    exact ⟨rfl, HQa.out⟩
end Go.Proofs.Ytdfdbamopeocjaa

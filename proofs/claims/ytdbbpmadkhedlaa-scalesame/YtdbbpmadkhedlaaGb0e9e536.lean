/- Pieces of planes of other sizes: Plane, Part. -/
import Derived.Test.YtdbbpmadkhedlaaGea54b96f
import Derived.Test.YtdbbpmadkhedlaaG2e05c6c0
import Derived.Test.YtdbbpmadkhedlaaGa9056aa6
namespace Go.Proofs.Ytdbbpmadkhedlaa
open Go.RowKit
set_option linter.unusedVariables false
set_option linter.unusedSimpArgs false

/-- The sample at a place of the plane of another size. -/
def whlV (kind : Int) (pa pb W H : Nat) (S : List Nat) (X Y : Nat) : Nat := smpV (tpA kind pb H Y) (tabN pb (colV (tpA kind pa W X) S pa))
theorem tpA_rise {kind F T i : Int} (h : tapE kind F T i = 0) : (tpA kind F T i).Pairwise (fun x y => x.1 < y.1) := by
  obtain ⟨hk, hz, e1, e2, e3⟩ := tapE_ok h
  have ok := taps_ok hk hz
  unfold tpA
  rw [if_pos h]
  exact ok.rise
theorem line_j (kind : Int) (F T lo n : Nat) (x1 : Int) (hx1 : x1 = ((lo + n : Nat) : Int)) (hE : tapE kind F T 0 = 0) (hn : 1 ≤ n) (hT : lo + n ≤ T) (hT2 : T ≤ 1024) (x : World) :
    Calls Try.prog 31 #[.int .i64 kind, .int .i64 (F : Int), .int .i64 (T : Int), .int .i64 (lo : Int), .int .i64 x1] x fun e x' => ∃ v, e = .returned v ∧ LnJ x.heap.size x'.heap.size x' v ((List.range n).map fun (k : Nat) => tpA kind F T ((lo + k : Nat) : Int)) ∧ Q x x' := by
  subst hx1
  refine (lineOf_any kind F T lo n x (by omega) (by omega)).mono ?_
  rintro e x' ⟨v, h1, h2, h3⟩
  refine ⟨v, h1, h2.j (by rw [List.length_map, List.length_range]; exact hn) (fun L hL => ?_), h3⟩
  obtain ⟨k, hk, rfl⟩ := List.mem_map.1 hL
  have := List.mem_range.1 hk
  exact (tpA_tok (tapE_at hE (k := lo + k) (by omega))).one
theorem range_getD {n : Nat} {f : Nat → List (Int × Int)} {k : Nat} (h : k < n) : ((List.range n).map f).getD k [] = f k := by
  rw [List.getD_eq_getElem?_getD, List.getElem?_map, List.getElem?_range h]; rfl
theorem piece_rect (kind : Int) (pa pb W H x0 y0 nx ny : Nat) (x1 y1 : Int) (sv : Value) (S : List Nat) (w : World) (hsv : USl w sv S) (hsz : Size pa pb) (hS : S.length = pa * pb) (hb : ∀ i, S.getD i 0 < 4294967296)
    (hE1 : tapE kind pa W 0 = 0) (hE2 : tapE kind pb H 0 = 0) (hx : x1 = ((x0 + nx : Nat) : Int)) (hy : y1 = ((y0 + ny : Nat) : Int)) (hx1 : 1 ≤ nx) (hy1 : 1 ≤ ny) (hxW : x0 + nx ≤ W) (hyH : y0 + ny ≤ H) (hW : W ≤ 1024) (hH : H ≤ 1024) :
    Calls Try.prog 27 #[.agg #[.int .i64 (pa : Int), .int .i64 (pb : Int), sv], .int .i64 kind, .int .i64 (W : Int), .int .i64 (H : Int), .agg #[.int .i64 (x0 : Int), .int .i64 (y0 : Int), .int .i64 x1, .int .i64 y1]] w fun e w' => ∃ g, e = .returned (.agg #[.int .i64 (nx : Int), .int .i64 (ny : Int), .slice (some ⟨g, 0, none⟩) (nx * ny) (nx * ny)]) ∧ URow w' g (tabN (nx * ny) fun i => whlV kind pa pb W H S (x0 + i % nx) (y0 + i / nx)) ∧ w.heap.size ≤ g ∧ Q w w' := by
  have C := piece_any kind W H x0 x1 y0 y1 pa pb nx ny _ _ sv S w (line_j kind pa W x0 nx x1 hx hE1 hx1 hxW hW) (line_j kind pb H y0 ny y1 hy hE2 hy1 hyH hH) hsv hsz hS hb (fun L hL => by
    obtain ⟨k, hk, rfl⟩ := List.mem_map.1 hL
    have := List.mem_range.1 hk
    have := tpA_tok (tapE_at hE1 (k := x0 + k) (by omega))
    rw [Int.toNat_natCast] at this
    exact this) (fun L hL => by
    obtain ⟨k, hk, rfl⟩ := List.mem_map.1 hL
    have := List.mem_range.1 hk
    have h1 := tpA_tok (tapE_at hE2 (k := y0 + k) (by omega))
    rw [Int.toNat_natCast] at h1
    exact ⟨h1, tpA_rise (tapE_at hE2 (k := y0 + k) (by omega))⟩) (by rw [List.length_map, List.length_range]) (by rw [List.length_map, List.length_range]) hx1 hy1 (by omega) (by omega)
  refine C.mono ?_
  rintro e w' ⟨g, h1, h2, h3, h4⟩
  refine ⟨g, h1, ?_, h3, h4⟩
  rw [tabN_congr (g := fun i => whlV kind pa pb W H S (x0 + i % nx) (y0 + i / nx)) (fun i hi => ?_)] at h2
  · exact h2
  · obtain ⟨_, a1, a2⟩ := row_lt hi
    unfold pieceV whlV
    rw [range_getD a1, range_getD a2]
set_option maxHeartbeats 2000000 in
set_option maxRecDepth 100000 in
theorem plane_good (kind : Int) (pa pb W H : Nat) (sv : Value) (S : List Nat) (w : World) (hsv : USl w sv S) (hS : S.length = pa * pb) (hb : ∀ i, S.getD i 0 < 4294967296) (hE : plnE pa pb S.length kind W H = 0) (hsz : Size pa pb) (hWH : Size W H) :
    Calls Try.prog 11 #[.agg #[.int .i64 (pa : Int), .int .i64 (pb : Int), sv], .int .i64 kind, .int .i64 (W : Int), .int .i64 (H : Int)] w fun e w' => ∃ g, e = .returned (.tuple #[.agg #[.int .i64 (W : Int), .int .i64 (H : Int), .slice (some ⟨g, 0, none⟩) (W * H) (W * H)], .int .i64 0]) ∧ URow w' g (tabN (W * H) fun i => whlV kind pa pb W H S (i % W) (i / W)) ∧ w.heap.size ≤ g ∧ Q w w' := by
  obtain ⟨ad, c, rfl⟩ := hsv.form
  have hE1 : tapE kind pa W 0 = 0 ∧ tapE kind pb H 0 = 0 := by
    unfold plnE at hE
    split at hE
    · split at hE
      · split at hE
        · rename_i h; exact ⟨h, hE⟩
        · rename_i h; exact absurd hE h
      · cases hE
    · rename_i h; exact absurd hE h
  have hSl : S.length ≤ 65536 := by rw [hS]; exact hsz.ab
  obtain ⟨w1, hw1⟩ : ∃ w1, (w.alloc (.cells #[.int .i64 (pa : Int), .int .i64 (pb : Int), .slice ad S.length c] 33)).alloc (.cells #[.int .i64 0, .int .i64 0, .slice none 0 0] 33) = w1 := ⟨_, rfl⟩
  have q1 : Q w w1 := by rw [← hw1]; exact ((Q.refl w).cells _ _).cells _ _
  have k0 : w1.cell? ⟨w.heap.size, 0, none⟩ = some (.int .i64 (pa : Int)) := by rw [← hw1]; simp [go_sem]
  have k1 : w1.cell? ⟨w.heap.size, 1, none⟩ = some (.int .i64 (pb : Int)) := by rw [← hw1]; simp [go_sem]
  have k2 : w1.cell? ⟨w.heap.size, 2, none⟩ = some (.slice ad S.length c) := by rw [← hw1]; simp [go_sem]
  have HR : Hid (w1.cell? ⟨w.heap.size + 1, 0, none⟩ = some (.int .i64 0) ∧ w1.cell? ⟨w.heap.size + 1, 1, none⟩ = some (.int .i64 0) ∧ w1.cell? ⟨w.heap.size + 1, 2, none⟩ = some (.slice none 0 0) ∧ (∀ j, w1.frozen? ⟨w.heap.size + 1, j, none⟩ = false) ∧ w1.heap.size = w.heap.size + 2) := by
    rw [← hw1]
    exact ⟨by simp [go_sem], by simp [go_sem], by simp [go_sem], fun j => by simp [go_sem], by simp⟩
  have C1 := refplane_any pa pb ad S.length c kind W H (by omega) w1
  rw [hE] at C1
  have HC2 : Hid (∀ x : World, Q w x → Calls Try.prog 27 #[.agg #[.int .i64 (pa : Int), .int .i64 (pb : Int), .slice ad S.length c], .int .i64 kind, .int .i64 (W : Int), .int .i64 (H : Int), .agg #[.int .i64 0, .int .i64 0, .int .i64 (W : Int), .int .i64 (H : Int)]] x fun e w' => ∃ g, e = .returned (.agg #[.int .i64 (W : Int), .int .i64 (H : Int), .slice (some ⟨g, 0, none⟩) (W * H) (W * H)]) ∧ URow w' g (tabN (W * H) fun i => whlV kind pa pb W H S (i % W) (i / W)) ∧ x.heap.size ≤ g ∧ Q x w') := fun x q => by
    have := piece_rect kind pa pb W H 0 0 W H W H (.slice ad S.length c) S x (hsv.next q) hsz hS hb hE1.1 hE1.2 (by omega) (by omega) hWH.a1 hWH.b1 (by omega) (by omega) hWH.a2 hWH.b2
    simp only [Nat.zero_add] at this
    exact this
  have HQ1 : Hid (Q w w1) := q1
  have HK : Hid (w1.cell? ⟨w.heap.size, 0, none⟩ = some (.int .i64 (pa : Int)) ∧ w1.cell? ⟨w.heap.size, 1, none⟩ = some (.int .i64 (pb : Int)) ∧ w1.cell? ⟨w.heap.size, 2, none⟩ = some (.slice ad S.length c)) := ⟨k0, k1, k2⟩
  obtain ⟨FL, hFL⟩ : ∃ FL, (tabN (W * H) fun i => whlV kind pa pb W H S (i % W) (i / W)) = FL := ⟨_, rfl⟩
  rw [hFL] at HC2 ⊢
  obtain ⟨n, hn⟩ : ∃ n, W * H = n := ⟨_, rfl⟩
  rw [hn] at HC2 ⊢
  generalize S.length = sl at *
  clear q1 hsv hS hb hE hE1 hsz hWH hFL hn hSl
  go_enter Try.func11, Try.ntmps11
  go_wp2_with fail
  refine C1.mono ?_
  rintro e w2 ⟨rfl, q2⟩
  clear C1 k0 k1 k2
  have k0 := q2.cell HK.out.1
  have k1 := q2.cell HK.out.2.1
  have k2 := q2.cell HK.out.2.2
  have HQ2 : Hid (Q w1 w2) := q2
  clear q2 hw1
  go_wp2_with fail
  refine (HC2.out w2 (HQ1.out.trans HQ2.out)).mono ?_
  rintro e w3 ⟨g, rfl, hu, hl, q3⟩
  have o0 := (HQ2.out.trans q3).cell HR.out.1
  have o1 := (HQ2.out.trans q3).cell HR.out.2.1
  have o2 := (HQ2.out.trans q3).cell HR.out.2.2.1
  have fo : ∀ j, w3.frozen? ⟨w.heap.size + 1, j, none⟩ = false := fun j => by rw [(HQ2.out.trans q3).2]; exact HR.out.2.2.2.1 j
  have fo0 := fo 0
  have fo1 := fo 1
  have fo2 := fo 2
  obtain ⟨w9, hw9⟩ : ∃ w9, ((w3.setCell ⟨w.heap.size + 1, 0, none⟩ (.int .i64 (W : Int))).setCell ⟨w.heap.size + 1, 1, none⟩ (.int .i64 (H : Int))).setCell ⟨w.heap.size + 1, 2, none⟩ (.slice (some ⟨g, 0, none⟩) n n) = w9 := ⟨_, rfl⟩
  have hgg : w.heap.size + 1 ≠ g := by
    have := HQ2.out.1.size
    have := HR.out.2.2.2.2
    omega
  have HW : Hid (URow w9 g FL ∧ w.heap.size ≤ g ∧ Q w w9) := by
    refine ⟨?_, ?_, ?_⟩
    · rw [← hw9]
      exact ((hu.other (p := ⟨w.heap.size + 1, 0, none⟩) hgg _).other (p := ⟨w.heap.size + 1, 1, none⟩) hgg _).other (p := ⟨w.heap.size + 1, 2, none⟩) hgg _
    · have := (HQ1.out.trans HQ2.out).1.size
      omega
    · rw [← hw9]
      have hl' : w.heap.size ≤ w.heap.size + 1 := by omega
      exact (((HQ1.out.trans (HQ2.out.trans q3)).set hl' _).set hl' _).set hl' _
  have v0 : w9.cell? ⟨w.heap.size + 1, 0, none⟩ = some (.int .i64 (W : Int)) := by
    rw [← hw9, World.cell?_setCell_other _ _ _ _ (fun e => by injection e with _ e; cases e), World.cell?_setCell_other _ _ _ _ (fun e => by injection e with _ e; cases e)]; exact World.cell?_setCell_same _ _ _ o0
  have v1 : w9.cell? ⟨w.heap.size + 1, 1, none⟩ = some (.int .i64 (H : Int)) := by
    rw [← hw9, World.cell?_setCell_other _ _ _ _ (fun e => by injection e with _ e; cases e)]; exact World.cell?_setCell_same _ _ _ ((World.cell?_setCell_other _ _ _ _ (fun e => by injection e with _ e; cases e)).trans o1)
  have v2 : w9.cell? ⟨w.heap.size + 1, 2, none⟩ = some (.slice (some ⟨g, 0, none⟩) n n) := by
    rw [← hw9]; exact World.cell?_setCell_same _ _ _ ((World.cell?_setCell_other _ _ _ _ (fun e => by injection e with _ e; cases e)).trans ((World.cell?_setCell_other _ _ _ _ (fun e => by injection e with _ e; cases e)).trans o2))
  have HW9 : Hid _ := hw9
  clear fo hu hl q3 hw9 k0 k1 k2
  go_wp2_with fail
  rw [HW9.out]
  exact bodyPost_ret (v := .tuple #[.agg #[.int .i64 (W : Int), .int .i64 (H : Int), .slice (some ⟨g, 0, none⟩) n n], .int .i64 0]) (by simp [results, Try.results11, go_sem, v0, v1, v2]) rfl ⟨g, rfl, HW.out.1, HW.out.2.1, HW.out.2.2⟩
end Go.Proofs.Ytdbbpmadkhedlaa
/- Part, Need. -/
namespace Go.Proofs.Ytdbbpmadkhedlaa
open Go.RowKit
set_option linter.unusedVariables false
set_option linter.unusedSimpArgs false

set_option maxHeartbeats 1000000 in
set_option maxRecDepth 100000 in
theorem isspan_any (lo hi n : Int) (w : World) (h1 : 0 ≤ lo) (h2 : lo < hi) (h3 : hi ≤ n) : Calls Try.prog 29 #[.int .i64 lo, .int .i64 hi, .int .i64 n] w fun e w' => e = .returned (.bool true) ∧ w' = w := by
  go_enter Try.func29, Try.ntmps29
  go_wp2_with fail
  go_ret
  exact ⟨by first | rfl | simp, rfl⟩
set_option maxHeartbeats 1000000 in
set_option maxRecDepth 100000 in
theorem within_any (x0 y0 x1 y1 W H : Int) (w : World) (h1 : 0 ≤ x0) (h2 : x0 < x1) (h3 : x1 ≤ W) (h4 : 0 ≤ y0) (h5 : y0 < y1) (h6 : y1 ≤ H) : Calls Try.prog 33 #[.agg #[.int .i64 x0, .int .i64 y0, .int .i64 x1, .int .i64 y1], .int .i64 W, .int .i64 H] w fun e w' => e = .returned (.bool true) ∧ Q w w' := by
  obtain ⟨w1, hw1⟩ : ∃ w1, w.alloc (.cells #[.int .i64 x0, .int .i64 y0, .int .i64 x1, .int .i64 y1] 44) = w1 := ⟨_, rfl⟩
  have q1 : Q w w1 := by rw [← hw1]; exact (Q.refl w).cells _ _
  have k0 : w1.cell? ⟨w.heap.size, 0, none⟩ = some (.int .i64 x0) := by rw [← hw1]; simp [go_sem]
  have k1 : w1.cell? ⟨w.heap.size, 1, none⟩ = some (.int .i64 y0) := by rw [← hw1]; simp [go_sem]
  have k2 : w1.cell? ⟨w.heap.size, 2, none⟩ = some (.int .i64 x1) := by rw [← hw1]; simp [go_sem]
  have k3 : w1.cell? ⟨w.heap.size, 3, none⟩ = some (.int .i64 y1) := by rw [← hw1]; simp [go_sem]
  have C1 := isspan_any x0 x1 W w1 h1 h2 h3
  have C2 := isspan_any y0 y1 H w1 h4 h5 h6
  have HQ : Hid (Q w w1) := q1
  clear q1 h1 h2 h3 h4 h5 h6
  go_enter Try.func33, Try.ntmps33
  go_wp2_with fail
  refine C1.mono ?_
  rintro e w2 ⟨rfl, hw2⟩
  obtain rfl := hw2.symm
  go_wp2_with fail
  refine C2.mono ?_
  rintro e w3 ⟨rfl, hw3⟩
  obtain rfl := hw3.symm
  go_wp2_with fail
  go_ret
  exact ⟨rfl, HQ.out⟩
set_option maxHeartbeats 2000000 in
set_option maxRecDepth 100000 in
theorem part_good (kind : Int) (pa pb W H x0 y0 nx ny : Nat) (x1 y1 : Int) (sv : Value) (S : List Nat) (w : World) (hsv : USl w sv S) (hS : S.length = pa * pb) (hb : ∀ i, S.getD i 0 < 4294967296) (hE : plnE pa pb S.length kind W H = 0) (hsz : Size pa pb) (hWH : Size W H)
    (hx : x1 = ((x0 + nx : Nat) : Int)) (hy : y1 = ((y0 + ny : Nat) : Int)) (hx1 : 1 ≤ nx) (hy1 : 1 ≤ ny) (hxW : x0 + nx ≤ W) (hyH : y0 + ny ≤ H) :
    Calls Try.prog 14 #[.agg #[.int .i64 (pa : Int), .int .i64 (pb : Int), sv], .int .i64 kind, .int .i64 (W : Int), .int .i64 (H : Int), .agg #[.int .i64 (x0 : Int), .int .i64 (y0 : Int), .int .i64 x1, .int .i64 y1]] w fun e w' => ∃ g, e = .returned (.tuple #[.agg #[.int .i64 (nx : Int), .int .i64 (ny : Int), .slice (some ⟨g, 0, none⟩) (nx * ny) (nx * ny)], .int .i64 0]) ∧ URow w' g (tabN (nx * ny) fun i => whlV kind pa pb W H S (x0 + i % nx) (y0 + i / nx)) ∧ w.heap.size ≤ g ∧ Q w w' := by
  obtain ⟨ad, c, rfl⟩ := hsv.form
  have hE1 : tapE kind pa W 0 = 0 ∧ tapE kind pb H 0 = 0 := by
    unfold plnE at hE
    split at hE
    · split at hE
      · split at hE
        · rename_i h; exact ⟨h, hE⟩
        · rename_i h; exact absurd hE h
      · cases hE
    · rename_i h; exact absurd hE h
  have hSl : S.length ≤ 65536 := by rw [hS]; exact hsz.ab
  obtain ⟨w1, hw1⟩ : ∃ w1, ((w.alloc (.cells #[.int .i64 (pa : Int), .int .i64 (pb : Int), .slice ad S.length c] 33)).alloc (.cells #[.int .i64 (x0 : Int), .int .i64 (y0 : Int), .int .i64 x1, .int .i64 y1] 44)).alloc (.cells #[.int .i64 0, .int .i64 0, .slice none 0 0] 33) = w1 := ⟨_, rfl⟩
  have q1 : Q w w1 := by rw [← hw1]; exact (((Q.refl w).cells _ _).cells _ _).cells _ _
  have k0 : w1.cell? ⟨w.heap.size, 0, none⟩ = some (.int .i64 (pa : Int)) := by rw [← hw1]; simp [go_sem]
  have k1 : w1.cell? ⟨w.heap.size, 1, none⟩ = some (.int .i64 (pb : Int)) := by rw [← hw1]; simp [go_sem]
  have k2 : w1.cell? ⟨w.heap.size, 2, none⟩ = some (.slice ad S.length c) := by rw [← hw1]; simp [go_sem]
  have r0 : w1.cell? ⟨w.heap.size + 1, 0, none⟩ = some (.int .i64 (x0 : Int)) := by rw [← hw1]; simp [go_sem]
  have r1 : w1.cell? ⟨w.heap.size + 1, 1, none⟩ = some (.int .i64 (y0 : Int)) := by rw [← hw1]; simp [go_sem]
  have r2 : w1.cell? ⟨w.heap.size + 1, 2, none⟩ = some (.int .i64 x1) := by rw [← hw1]; simp [go_sem]
  have r3 : w1.cell? ⟨w.heap.size + 1, 3, none⟩ = some (.int .i64 y1) := by rw [← hw1]; simp [go_sem]
  have HR : Hid (w1.cell? ⟨w.heap.size + 1 + 1, 0, none⟩ = some (.int .i64 0) ∧ w1.cell? ⟨w.heap.size + 1 + 1, 1, none⟩ = some (.int .i64 0) ∧ w1.cell? ⟨w.heap.size + 1 + 1, 2, none⟩ = some (.slice none 0 0) ∧ (∀ j, w1.frozen? ⟨w.heap.size + 1 + 1, j, none⟩ = false) ∧ w1.heap.size = w.heap.size + 3) := by
    rw [← hw1]
    exact ⟨by simp [go_sem], by simp [go_sem], by simp [go_sem], fun j => by simp [go_sem], by simp⟩
  have C1 := refplane_any pa pb ad S.length c kind W H (by omega) w1
  rw [hE] at C1
  have HCw : Hid (∀ x : World, Calls Try.prog 33 #[.agg #[.int .i64 (x0 : Int), .int .i64 (y0 : Int), .int .i64 x1, .int .i64 y1], .int .i64 (W : Int), .int .i64 (H : Int)] x fun e w' => e = .returned (.bool true) ∧ Q x w') := fun x => within_any x0 y0 x1 y1 W H x (by omega) (by omega) (by omega) (by omega) (by omega) (by omega)
  have HC2 : Hid (∀ x : World, Q w x → Calls Try.prog 27 #[.agg #[.int .i64 (pa : Int), .int .i64 (pb : Int), .slice ad S.length c], .int .i64 kind, .int .i64 (W : Int), .int .i64 (H : Int), .agg #[.int .i64 (x0 : Int), .int .i64 (y0 : Int), .int .i64 x1, .int .i64 y1]] x fun e w' => ∃ g, e = .returned (.agg #[.int .i64 (nx : Int), .int .i64 (ny : Int), .slice (some ⟨g, 0, none⟩) (nx * ny) (nx * ny)]) ∧ URow w' g (tabN (nx * ny) fun i => whlV kind pa pb W H S (x0 + i % nx) (y0 + i / nx)) ∧ x.heap.size ≤ g ∧ Q x w') := fun x q => piece_rect kind pa pb W H x0 y0 nx ny x1 y1 (.slice ad S.length c) S x (hsv.next q) hsz hS hb hE1.1 hE1.2 hx hy hx1 hy1 hxW hyH hWH.a2 hWH.b2
  have HQ1 : Hid (Q w w1) := q1
  have HK : Hid (w1.cell? ⟨w.heap.size, 0, none⟩ = some (.int .i64 (pa : Int)) ∧ w1.cell? ⟨w.heap.size, 1, none⟩ = some (.int .i64 (pb : Int)) ∧ w1.cell? ⟨w.heap.size, 2, none⟩ = some (.slice ad S.length c)) := ⟨k0, k1, k2⟩
  have HK2 : Hid (w1.cell? ⟨w.heap.size + 1, 0, none⟩ = some (.int .i64 (x0 : Int)) ∧ w1.cell? ⟨w.heap.size + 1, 1, none⟩ = some (.int .i64 (y0 : Int)) ∧ w1.cell? ⟨w.heap.size + 1, 2, none⟩ = some (.int .i64 x1) ∧ w1.cell? ⟨w.heap.size + 1, 3, none⟩ = some (.int .i64 y1)) := ⟨r0, r1, r2, r3⟩
  obtain ⟨FL, hFL⟩ : ∃ FL, (tabN (nx * ny) fun i => whlV kind pa pb W H S (x0 + i % nx) (y0 + i / nx)) = FL := ⟨_, rfl⟩
  rw [hFL] at HC2 ⊢
  obtain ⟨n, hn⟩ : ∃ n, nx * ny = n := ⟨_, rfl⟩
  rw [hn] at HC2 ⊢
  generalize S.length = sl at *
  clear q1 hsv hS hb hE hE1 hsz hWH hFL hn hSl hx hy hx1 hy1 hxW hyH
  go_enter Try.func14, Try.ntmps14
  go_wp2_with fail
  refine C1.mono ?_
  rintro e w2 ⟨rfl, q2⟩
  clear C1 k0 k1 k2 r0 r1 r2 r3
  have r0 := q2.cell HK2.out.1
  have r1 := q2.cell HK2.out.2.1
  have r2 := q2.cell HK2.out.2.2.1
  have r3 := q2.cell HK2.out.2.2.2
  have HQ2 : Hid (Q w1 w2) := q2
  clear q2 hw1
  go_wp2_with fail
  refine (HCw.out w2).mono ?_
  rintro e w2b ⟨rfl, q2b⟩
  clear r0 r1 r2 r3
  have HQ2b : Hid (Q w1 w2b) := HQ2.out.trans q2b
  clear q2b
  have k0 := HQ2b.out.cell HK.out.1
  have k1 := HQ2b.out.cell HK.out.2.1
  have k2 := HQ2b.out.cell HK.out.2.2
  have r0 := HQ2b.out.cell HK2.out.1
  have r1 := HQ2b.out.cell HK2.out.2.1
  have r2 := HQ2b.out.cell HK2.out.2.2.1
  have r3 := HQ2b.out.cell HK2.out.2.2.2
  go_wp2_with fail
  refine (HC2.out w2b (HQ1.out.trans HQ2b.out)).mono ?_
  rintro e w3 ⟨g, rfl, hu, hl, q3⟩
  have o0 := (HQ2b.out.trans q3).cell HR.out.1
  have o1 := (HQ2b.out.trans q3).cell HR.out.2.1
  have o2 := (HQ2b.out.trans q3).cell HR.out.2.2.1
  have fo : ∀ j, w3.frozen? ⟨w.heap.size + 1 + 1, j, none⟩ = false := fun j => by rw [(HQ2b.out.trans q3).2]; exact HR.out.2.2.2.1 j
  have fo0 := fo 0
  have fo1 := fo 1
  have fo2 := fo 2
  obtain ⟨w9, hw9⟩ : ∃ w9, ((w3.setCell ⟨w.heap.size + 1 + 1, 0, none⟩ (.int .i64 (nx : Int))).setCell ⟨w.heap.size + 1 + 1, 1, none⟩ (.int .i64 (ny : Int))).setCell ⟨w.heap.size + 1 + 1, 2, none⟩ (.slice (some ⟨g, 0, none⟩) n n) = w9 := ⟨_, rfl⟩
  have hgg : w.heap.size + 1 + 1 ≠ g := by
    have := HQ2b.out.1.size
    have := HR.out.2.2.2.2
    omega
  have HW : Hid (URow w9 g FL ∧ w.heap.size ≤ g ∧ Q w w9) := by
    refine ⟨?_, ?_, ?_⟩
    · rw [← hw9]
      exact ((hu.other (p := ⟨w.heap.size + 1 + 1, 0, none⟩) hgg _).other (p := ⟨w.heap.size + 1 + 1, 1, none⟩) hgg _).other (p := ⟨w.heap.size + 1 + 1, 2, none⟩) hgg _
    · have := (HQ1.out.trans HQ2b.out).1.size
      omega
    · rw [← hw9]
      have hl' : w.heap.size ≤ w.heap.size + 1 + 1 := by omega
      exact (((HQ1.out.trans (HQ2b.out.trans q3)).set hl' _).set hl' _).set hl' _
  have v0 : w9.cell? ⟨w.heap.size + 1 + 1, 0, none⟩ = some (.int .i64 (nx : Int)) := by
    rw [← hw9, World.cell?_setCell_other _ _ _ _ (fun e => by injection e with _ e; cases e), World.cell?_setCell_other _ _ _ _ (fun e => by injection e with _ e; cases e)]; exact World.cell?_setCell_same _ _ _ o0
  have v1 : w9.cell? ⟨w.heap.size + 1 + 1, 1, none⟩ = some (.int .i64 (ny : Int)) := by
    rw [← hw9, World.cell?_setCell_other _ _ _ _ (fun e => by injection e with _ e; cases e)]; exact World.cell?_setCell_same _ _ _ ((World.cell?_setCell_other _ _ _ _ (fun e => by injection e with _ e; cases e)).trans o1)
  have v2 : w9.cell? ⟨w.heap.size + 1 + 1, 2, none⟩ = some (.slice (some ⟨g, 0, none⟩) n n) := by
    rw [← hw9]; exact World.cell?_setCell_same _ _ _ ((World.cell?_setCell_other _ _ _ _ (fun e => by injection e with _ e; cases e)).trans ((World.cell?_setCell_other _ _ _ _ (fun e => by injection e with _ e; cases e)).trans o2))
  have HW9 : Hid _ := hw9
  clear fo hu hl q3 hw9 k0 k1 k2 r0 r1 r2 r3
  go_wp2_with fail
  rw [HW9.out]
  exact bodyPost_ret (v := .tuple #[.agg #[.int .i64 (nx : Int), .int .i64 (ny : Int), .slice (some ⟨g, 0, none⟩) n n], .int .i64 0]) (by simp [results, Try.results14, go_sem, v0, v1, v2]) rfl ⟨g, rfl, HW.out.1, HW.out.2.1, HW.out.2.2⟩
set_option maxHeartbeats 2000000 in
set_option maxRecDepth 100000 in
theorem need_good (kind : Int) (F T lo n : Nat) (hi : Int) (w : World) (hhi : hi = ((lo + n : Nat) : Int)) (hE : tapE kind F T 0 = 0) (hn : 1 ≤ n) (hT : lo + n ≤ T) (hF1 : 1 ≤ F) (hF2 : F ≤ 1024) (hT2 : T ≤ 1024) :
    Calls Try.prog 12 #[.int .i64 kind, .int .i64 (F : Int), .int .i64 (T : Int), .int .i64 (lo : Int), .int .i64 hi] w fun e w' => e = .returned (.tuple #[.int .i64 (fstS ((List.range n).map fun (k : Nat) => tpA kind F T ((lo + k : Nat) : Int)) n), .int .i64 (endS ((List.range n).map fun (k : Nat) => tpA kind F T ((lo + k : Nat) : Int)) n), .int .i64 0]) ∧ Q w w' := by
  have HR : Hid (∀ (k : Int) (W : World), 1 ≤ k → k ≤ 1024 → Calls Try.prog 28 #[.int .i64 k] W fun e w' => e = .returned (.bool true) ∧ w' = W) := fun k W h1 h2 => by have := sside_any k W; rw [decide_eq_true ⟨h1, h2⟩] at this; exact this
  have Csp := isspan_any lo hi T w (by omega) (by omega) (by omega)
  have C := refusal_any kind F T w
  rw [hE] at C
  have HC2 : Hid (∀ x : World, Calls Try.prog 31 #[.int .i64 kind, .int .i64 (F : Int), .int .i64 (T : Int), .int .i64 (lo : Int), .int .i64 hi] x fun e x' => ∃ v, e = .returned v ∧ LnJ x.heap.size x'.heap.size x' v ((List.range n).map fun (k : Nat) => tpA kind F T ((lo + k : Nat) : Int)) ∧ Q x x') := fun x => line_j kind F T lo n hi hhi hE hn hT hT2 x
  have HC3 : Hid (∀ (v : Value) (x : World), LnX x v ((List.range n).map fun (k : Nat) => tpA kind F T ((lo + k : Nat) : Int)) → Calls Try.prog 32 #[v] x fun e w' => e = .returned (.tuple #[.int .i64 (fstS ((List.range n).map fun (k : Nat) => tpA kind F T ((lo + k : Nat) : Int)) n), .int .i64 (endS ((List.range n).map fun (k : Nat) => tpA kind F T ((lo + k : Nat) : Int)) n)]) ∧ Q x w') := fun v x hv => by
    have := span_any v _ F x hv (by rw [List.length_map, List.length_range]; omega) hF2 (fun L hL => by
      obtain ⟨k, hk, rfl⟩ := List.mem_map.1 hL
      have := List.mem_range.1 hk
      have h1 := tpA_tok (tapE_at hE (k := lo + k) (by omega))
      rw [Int.toNat_natCast] at h1
      exact h1)
    rw [List.length_map, List.length_range] at this
    exact this
  generalize (List.range n).map (fun (k : Nat) => tpA kind F T ((lo + k : Nat) : Int)) = Ls at *
  generalize fstS Ls n = f1 at *
  generalize endS Ls n = e1 at *
  have a1 : (1 : Int) ≤ (F : Int) := by omega
  have a2 : (F : Int) ≤ 1024 := by omega
  have b1 : (1 : Int) ≤ (T : Int) := by omega
  have b2 : (T : Int) ≤ 1024 := by omega
  clear hE hhi hn hT hF1 hF2 hT2
  go_enter Try.func12, Try.ntmps12
  go_wp2_with (first | (go_at_call 28; first | (refine (HR.out F _ a1 a2).mono ?_; rintro e w' ⟨rfl, hw⟩; obtain rfl := hw.symm) | (refine (HR.out T _ b1 b2).mono ?_; rintro e w' ⟨rfl, hw⟩; obtain rfl := hw.symm)) | (go_at_call 29; refine Csp.mono ?_; rintro e w' ⟨rfl, hw⟩; obtain rfl := hw.symm))
  refine C.mono ?_
  rintro e w1 ⟨rfl, q1⟩
  clear C Csp
  have HQ : Hid (Q w w1) := q1
  clear q1
  go_wp2_with fail
  refine (HC2.out w1).mono ?_
  rintro e w2 ⟨v2, rfl, l2, q2⟩
  have C3 := HC3.out v2 w2 l2.x
  have HQ2 : Hid (Q w w2) := HQ.out.trans q2
  clear l2 q2
  go_wp2_with fail
  refine C3.mono ?_
  rintro e w3 ⟨rfl, q3⟩
  clear C3
  have HQ3 : Hid (Q w w3) := HQ2.out.trans q3
  clear q3
  go_wp2_with fail
  go_ret3
  exact ⟨rfl, HQ3.out⟩
end Go.Proofs.Ytdbbpmadkhedlaa
/- Plain facts: a number rounded to binary32, as a signed rung. -/
namespace Go.Proofs.Ytdbbpmadkhedlaa
open Go.RowKit
set_option linter.unusedVariables false
set_option linter.unusedSimpArgs false

/-- A number in units of 2^-1074, rounded to binary32: the signed rung. -/
def RS (Z : Int) : Int := if Z < 0 then -(rungOf Ieee.single Z.natAbs (-1074) : Int) else (rungOf Ieee.single Z.natAbs (-1074) : Int)
theorem RS_mono {Y Z : Int} (h : Y ≤ Z) : RS Y ≤ RS Z := by
  unfold RS
  by_cases hy : Y < 0
  · rw [if_pos hy]
    by_cases hz : Z < 0
    · rw [if_pos hz]
      have := rung_mono Ieee.single (-1074) (show Z.natAbs ≤ Y.natAbs by omega)
      omega
    · rw [if_neg hz]; omega
  · rw [if_neg hy, if_neg (by omega)]
    have := rung_mono Ieee.single (-1074) (show Y.natAbs ≤ Z.natAbs by omega)
    omega
theorem srung_told {σ : Bool} {Z : Int} {N : Nat} {b : Int} (hσ : Z ≠ 0 → σ = decide (Z < 0)) (hN : rungOf Ieee.single N b = rungOf Ieee.single Z.natAbs (-1074)) : srung32 (toldD (some (.number σ N b))) = RS Z ∧ nanN (toldD (some (.number σ N b))) = false := by
  rw [toldD_num, hN]
  have hle : rungOf Ieee.single Z.natAbs (-1074) ≤ 2139095040 := by have := rungOf_le Ieee.single Z.natAbs (-1074); rw [inf32] at this; exact this
  obtain ⟨a, b'⟩ := sgn_word32 σ (r := rungOf Ieee.single Z.natAbs (-1074)) (by omega)
  refine ⟨?_, nanN_word hle⟩
  unfold srung32 RS
  rw [a, b']
  by_cases h : Z = 0
  · subst h
    rw [show (0 : Int).natAbs = 0 from rfl, rungOf_zero]
    cases σ <;> rfl
  · rw [hσ h]
    by_cases k : Z < 0
    · rw [decide_eq_true k, if_pos rfl, if_pos k]
    · rw [decide_eq_false k, if_neg (by decide), if_neg k]
theorem samp_eq (a : Nat) {c : Nat} (hc : c = 925) : sampleZ a = sval32 a * 2 ^ c := by
  unfold sampleZ sval32 val32 Ieee.signed
  rw [← hc, Nat.shiftLeft_eq, Nat.pow_add, ← Nat.mul_assoc]
  split
  · rw [Int.neg_mul, Int.natCast_mul, Int.natCast_pow]; rfl
  · rw [Int.natCast_mul, Int.natCast_pow]; rfl
theorem sval_le {a b : Nat} (h : srung32 a ≤ srung32 b) : sval32 a ≤ sval32 b := by
  have e := sval_srung32 a b
  rcases Int.lt_or_le (sval32 b) (sval32 a) with g | g
  · rw [Int.compare_eq_gt.2 g] at e
    have := Int.compare_eq_gt.1 e.symm
    omega
  · exact g
theorem sval_eq {a b : Nat} (h : sval32 a = sval32 b) : srung32 a = srung32 b := by
  have e := sval_srung32 a b
  rw [Int.compare_eq_eq.2 h] at e
  exact Int.compare_eq_eq.1 e.symm
theorem samp_le {a b : Nat} (h : srung32 a ≤ srung32 b) : sampleZ a ≤ sampleZ b := by
  obtain ⟨c, hc⟩ : ∃ c : Nat, c = 925 := ⟨_, rfl⟩
  rw [samp_eq a hc, samp_eq b hc]
  exact Int.mul_le_mul_of_nonneg_right (sval_le h) (Int.le_of_lt (Int.pow_pos (by decide)))
theorem srung_bd {x : Nat} (h : nanN x = false) : -2139095040 ≤ srung32 x ∧ srung32 x ≤ 2139095040 := by
  rw [nanN_rung] at h
  have h := of_decide_eq_false h
  unfold srung32
  split <;> omega
theorem fin_srung {x : Nat} (h : rung32 x < 2139095040) : -2139095040 < srung32 x ∧ srung32 x < 2139095040 := by
  unfold srung32; split <;> omega
theorem RS_self {a : Nat} (h : rung32 a < 2139095040) : RS (sampleZ a) = srung32 a := by
  have habs : (sampleZ a).natAbs = mag32 (rung32 a) * 2 ^ (plc32 (rung32 a) + 925) := by unfold sampleZ; rw [signed_abs]
  have hr : rungOf Ieee.single (sampleZ a).natAbs (-1074) = rung32 a := by
    rw [habs, rung_scale, show (-1074 + ((plc32 (rung32 a) + 925 : Nat) : Int)) = -149 + (plc32 (rung32 a) : Int) by omega]
    exact self32 h
  unfold RS srung32
  rw [hr]
  by_cases z : sampleZ a = 0
  · have : rung32 a = 0 := by rw [← hr, z]; exact rungOf_zero _ _
    rw [this]; split <;> split <;> rfl
  · have hs : sgn32 a = decide (sampleZ a < 0) := signed_sign z
    rw [hs]
    by_cases k : sampleZ a < 0
    · rw [if_pos k, if_pos (decide_eq_true k)]
    · rw [if_neg k, if_neg (by simp; omega)]
end Go.Proofs.Ytdbbpmadkhedlaa
/- What taps make of samples, as a number: it rises where weights are not below 0. Plain. -/
namespace Go.Proofs.Ytdbbpmadkhedlaa
open Go.RowKit
set_option linter.unusedVariables false
set_option linter.unusedSimpArgs false

theorem RNq_mono {Y Z : Int} (h : Y ≤ Z) : RN Y ≤ RN Z := by
  unfold RN
  by_cases hy : Y < 0
  · rw [if_pos hy]
    by_cases hz : Z < 0
    · rw [if_pos hz]
      have := val_le64 (rung_mono Ieee.double (-1074) (show Z.natAbs ≤ Y.natAbs by omega))
      omega
    · rw [if_neg hz]; omega
  · rw [if_neg hy, if_neg (by omega)]
    have := val_le64 (rung_mono Ieee.double (-1074) (show Y.natAbs ≤ Z.natAbs by omega))
    omega
/-- A finite word of binary64 worth Z. -/
structure Wq (x : Nat) (Z : Int) : Prop where
  fin : rung64 x < 9218868437227405312
  val : sval64 x = Z
theorem Wq.prod {x : Nat} (hx : rung32 x < 2139095040) {y : Int} (h0 : y ≤ 268435456) (h1 : -268435456 ≤ y) : Wq (prodV y x) (y * sampleZ x) := by
  obtain ⟨m, g, a, b, c⟩ := X_formq hx
  obtain ⟨f, v⟩ := (IsDq.prod hx h0 h1).sval a b c (Nat.le_trans (show y.natAbs ≤ 268435456 by omega) (by decide))
  exact ⟨f, v⟩
theorem Wq.add {x y : Nat} {X Y : Int} (hx : Wq x X) (hy : Wq y Y) (hs : (X + Y).natAbs.log2 ≤ 2000) : Wq (add64V x y) (RN (X + Y)) := by
  unfold add64V
  rw [read_fin64 hx.fin, read_fin64 hy.fin]
  obtain ⟨N, c, e1, e2⟩ := sum_units (sgn64 x) (sgn64 y) (mag64 (rung64 x)) (mag64 (rung64 y)) (-1074 + (plc64 (rung64 x) : Int)) (-1074 + (plc64 (rung64 y) : Int)) (by omega) (by omega)
  rw [show (-1074 + (plc64 (rung64 x) : Int) + 1074).toNat = plc64 (rung64 x) by omega, show (-1074 + (plc64 (rung64 y) : Int) + 1074).toNat = plc64 (rung64 y) by omega, ← sval_signed64q, ← sval_signed64q, hx.val, hy.val] at e1 e2
  rw [e1, told64_numq, e2]
  obtain ⟨_, _, h1, h2⟩ := wordOf_facts (σ := sg (sgn64 x) (sgn64 y) (X + Y)) hs (fun h => sg_of h)
  exact ⟨h1, h2⟩
theorem Wq.nought : Wq 9223372036854775808 0 := ⟨by decide, by decide⟩
theorem log_pow {n e : Nat} (h : n ≤ 2 ^ e) (he : e ≤ 1990) : n.log2 ≤ 2000 := by
  by_cases h0 : n = 0
  · subst h0; decide
  · have h2 : n < 2 ^ (e + 1) := by rw [Nat.pow_add]; have := Nat.two_pow_pos e; omega
    have := (Nat.log2_lt h0).2 h2
    omega
/-- Numbers added one behind the other, each sum rounded. -/
def rsum (l : List Int) (z : Int) : Int := l.foldl (fun a b => RN (a + b)) z
theorem rsum_wq : ∀ (l : List (Int × Nat)) (z : Int) (A e : Nat), Wq A z → (∀ p ∈ l, Wq p.2 p.1 ∧ p.1.natAbs ≤ 2 ^ e) → z.natAbs ≤ 2 ^ e → e + 2 * l.length ≤ 1900 → Wq ((l.map Prod.snd).foldl add64V A) (rsum (l.map Prod.fst) z) ∧ (rsum (l.map Prod.fst) z).natAbs ≤ 2 ^ (e + 2 * l.length)
  | [], z, A, e, hA, _, hz, _ => ⟨hA, hz⟩
  | p :: t, z, A, e, hA, hl, hz, he => by
    have hp := hl p (List.mem_cons_self ..)
    have hs : (z + p.1).natAbs ≤ 2 ^ (e + 1) := by rw [Nat.pow_add]; have := hp.2; omega
    have hlog : (z + p.1).natAbs.log2 ≤ 2000 := log_pow hs (by omega)
    have hr : (RN (z + p.1)).natAbs ≤ 2 ^ (e + 2) := by
      have := RN_le hlog
      rw [Nat.pow_add] at hs ⊢
      omega
    have hm : (2 : Nat) ^ e ≤ 2 ^ (e + 2) := Nat.pow_le_pow_right (by decide) (by omega)
    have hlen : (p :: t).length = t.length + 1 := rfl
    have ih := rsum_wq t (RN (z + p.1)) (add64V A p.2) (e + 2) (hA.add hp.1 hlog) (fun q hq => ⟨(hl q (List.mem_cons_of_mem _ hq)).1, Nat.le_trans (hl q (List.mem_cons_of_mem _ hq)).2 hm⟩) hr (by omega)
    rw [hlen, show e + 2 * (t.length + 1) = e + 2 + 2 * t.length by omega]
    exact ih
theorem rsum_mono : ∀ (l : List (Int × Int)) (y z : Int), y ≤ z → (∀ p ∈ l, p.1 ≤ p.2) → rsum (l.map Prod.fst) y ≤ rsum (l.map Prod.snd) z
  | [], y, z, h, _ => h
  | p :: t, y, z, h, hl => rsum_mono t _ _ (RNq_mono (by have := hl p (List.mem_cons_self ..); omega)) (fun q hq => hl q (List.mem_cons_of_mem _ hq))
theorem rsum_dvd {g : Nat} : ∀ (l : List Int) (z : Int) (e : Nat), ((2 ^ g : Nat) : Int) ∣ z → (∀ p ∈ l, ((2 ^ g : Nat) : Int) ∣ p ∧ p.natAbs ≤ 2 ^ e) → z.natAbs ≤ 2 ^ e → e + 2 * l.length ≤ 1900 → ((2 ^ g : Nat) : Int) ∣ rsum l z
  | [], z, e, h, _, _, _ => h
  | p :: t, z, e, h, hl, hz, he => by
    have hp := hl p (List.mem_cons_self ..)
    have hs : (z + p).natAbs ≤ 2 ^ (e + 1) := by rw [Nat.pow_add]; have := hp.2; omega
    have hlog : (z + p).natAbs.log2 ≤ 2000 := log_pow hs (by omega)
    have hr : (RN (z + p)).natAbs ≤ 2 ^ (e + 2) := by
      have := RN_le hlog
      rw [Nat.pow_add] at hs ⊢
      omega
    have hm : (2 : Nat) ^ e ≤ 2 ^ (e + 2) := Nat.pow_le_pow_right (by decide) (by omega)
    have hlen : (p :: t).length = t.length + 1 := rfl
    exact rsum_dvd t (RN (z + p)) (e + 2) (RN_dvd hlog (Int.dvd_add h hp.1)) (fun q hq => ⟨(hl q (List.mem_cons_of_mem _ hq)).1, Nat.le_trans (hl q (List.mem_cons_of_mem _ hq)).2 hm⟩) hr (by omega)
/-- The exact products of taps and samples. -/
def tapZ (L : List (Int × Int)) (S : List Nat) : List Int := L.map fun e => e.2 * sampleZ (S.getD e.1.toNat 0)
def smZ (L : List (Int × Int)) (S : List Nat) : Int := rsum (tapZ L S) 0
theorem prods_taps (L : List (Int × Int)) (S : List Nat) : prods (L.map Prod.snd) (pickV L S) = L.map fun e => prodV e.2 (S.getD e.1.toNat 0) := by
  refine List.ext_getElem? fun i => ?_
  have hlen : (pickV L S).length = L.length := by unfold pickV; simp
  rcases Nat.lt_or_ge i L.length with h | h
  · have hp := prods_at (L.map Prod.snd) (pickV L S) (i := i) (by rw [hlen]; exact h)
    have hl : i < (prods (L.map Prod.snd) (pickV L S)).length := by rw [prods_length, hlen]; exact h
    have hg : L[i]? = some L[i] := List.getElem?_eq_getElem h
    rw [List.getD_eq_getElem?_getD, List.getElem?_eq_getElem hl] at hp
    rw [List.getElem?_eq_getElem hl, List.getElem?_map, hg]
    simp only [Option.getD_some, Option.map_some] at hp ⊢
    rw [hp, pickV_at hg, List.getD_eq_getElem?_getD, List.getElem?_map, hg]
    rfl
  · rw [List.getElem?_eq_none (by rw [prods_length, hlen]; exact h), List.getElem?_eq_none (by simp; exact h)]
theorem sampleZ_cap {a : Nat} (h : rung32 a < 2139095040) {j : Nat} (hj : j = 1202) : (sampleZ a).natAbs ≤ 2 ^ j := by
  unfold sampleZ
  rw [signed_abs]
  have hp := plc_le32 h
  have h1 : mag32 (rung32 a) * 2 ^ (plc32 (rung32 a) + 925) < 2 ^ 24 * 2 ^ (plc32 (rung32 a) + 925) := Nat.mul_lt_mul_of_pos_right (mag_lt32 _) (Nat.two_pow_pos _)
  rw [← Nat.pow_add] at h1
  exact Nat.le_trans (Nat.le_of_lt h1) (Nat.pow_le_pow_right (by decide) (by omega))
theorem tap_cap {a : Nat} (h : rung32 a < 2139095040) {y : Int} (h0 : y ≤ 268435456) (h1 : -268435456 ≤ y) {j : Nat} (hj : j = 1230) : (y * sampleZ a).natAbs ≤ 2 ^ j := by
  have := sampleZ_cap h (j := j - 28) (by omega)
  rw [Int.natAbs_mul]
  have e : 2 ^ j = 2 ^ 28 * 2 ^ (j - 28) := by rw [← Nat.pow_add]; congr 1; omega
  rw [e]
  refine Nat.mul_le_mul ?_ this
  have : (2 : Nat) ^ 28 = 268435456 := by decide
  omega
theorem sampleZ_dvd (a : Nat) {c : Nat} (hc : c = 925) : ((2 ^ c : Nat) : Int) ∣ sampleZ a := by
  unfold sampleZ
  exact signed_dvd _ _ (by omega)
/-- What is divided by 65536. -/
theorem over_wq {D : Nat} {Z Y : Int} (hD : Wq D Z) (hZ : Z = Y * 65536) (hk : 16 ≤ plc64 (rung64 D) ∨ Z = 0) (hp : plc64 (rung64 D) ≤ 1900) : srung32 (overW D) = RS Y ∧ nanN (overW D) = false := by
  have key : Wq (Ieee.double.word (sgn64 D) (rungOf Ieee.double (mag64 (rung64 D)) (-1074 + (plc64 (rung64 D) : Int) - 16))) Y ∧ (Y ≠ 0 → sgn64 D = decide (Y < 0)) := by
    by_cases h0 : Z = 0
    · have hY : Y = 0 := by omega
      have hr : rung64 D = 0 := by rw [← sval_zero, hD.val, h0]
      rw [hr, show mag64 0 = 0 from by decide, rungOf_zero, hY]
      obtain ⟨s1, s2⟩ := sgn_word64 (sgn64 D) (r := 0) (by decide)
      exact ⟨⟨by rw [s2]; decide, sval_zero.2 s2⟩, fun h => absurd rfl h⟩
    · have hk : 16 ≤ plc64 (rung64 D) := hk.resolve_right h0
      have e : Ieee.double.word (sgn64 D) (rungOf Ieee.double (mag64 (rung64 D)) (-1074 + (plc64 (rung64 D) : Int) - 16)) = wordOf (sgn64 D) (Ieee.signed (sgn64 D) (mag64 (rung64 D)) (plc64 (rung64 D) - 16)) := by
        unfold wordOf
        rw [signed_abs, rung_scale]
        congr 2; omega
      obtain ⟨a, b, c⟩ := units_word (s := sgn64 D) (m := mag64 (rung64 D)) (k := plc64 (rung64 D) - 16) (mag_lt64 _) (by omega)
      have h2 : Ieee.signed (sgn64 D) (mag64 (rung64 D)) (plc64 (rung64 D)) = Ieee.signed (sgn64 D) (mag64 (rung64 D)) (plc64 (rung64 D) - 16) * 65536 := by
        rw [signed_eqq, signed_eqq]
        have e2 : mag64 (rung64 D) * 2 ^ plc64 (rung64 D) = mag64 (rung64 D) * 2 ^ (plc64 (rung64 D) - 16) * 65536 := by
          rw [Nat.mul_assoc, show (65536 : Nat) = 2 ^ 16 by decide, ← Nat.pow_add, show plc64 (rung64 D) - 16 + 16 = plc64 (rung64 D) by omega]
        rw [e2]
        split <;> omega
      rw [← sval_signed64q, hD.val, hZ] at h2
      have hY : Ieee.signed (sgn64 D) (mag64 (rung64 D)) (plc64 (rung64 D) - 16) = Y := by omega
      rw [e]
      refine ⟨⟨a, by rw [c, hY]⟩, fun h => ?_⟩
      have := signed_sign (s := sgn64 D) (m := mag64 (rung64 D)) (k := plc64 (rung64 D) - 16)
      rw [hY] at this
      exact this h
  rw [over_fin hD.fin]
  obtain ⟨k1, k2⟩ := key
  obtain ⟨X, hX⟩ : ∃ X, Ieee.double.word (sgn64 D) (rungOf Ieee.double (mag64 (rung64 D)) (-1074 + (plc64 (rung64 D) : Int) - 16)) = X := ⟨_, rfl⟩
  rw [hX] at k1 ⊢
  rw [read_fin64 k1.fin]
  refine srung_told (fun h => ?_) ?_
  · have := signed_sign (s := sgn64 X) (m := mag64 (rung64 X)) (k := plc64 (rung64 X))
    rw [← sval_signed64q, k1.val] at this
    exact this h
  · rw [← k1.val, val_abs]
    unfold val64
    rw [rung_scale]
/-- The sample that taps make of finite samples, as a number. -/
theorem smp_key {m : Nat} {L : List (Int × Int)} {S : List Nat} (ok : TOk m L) (hS : ∀ e ∈ L, rung32 (S.getD e.1.toNat 0) < 2139095040) : ∃ Y : Int, smZ L S = Y * 65536 ∧ srung32 (smpV L S) = RS Y ∧ nanN (smpV L S) = false := by
  obtain ⟨j, hj⟩ : ∃ j : Nat, j = 1230 := ⟨_, rfl⟩
  obtain ⟨c, hc⟩ : ∃ c : Nat, c = 925 := ⟨_, rfl⟩
  have hne : L.map (fun e => prodV e.2 (S.getD e.1.toNat 0)) ≠ [] := fun e => by
    have := congrArg List.length e
    rw [List.length_map] at this
    have h1 := ok.one
    rw [this] at h1
    cases h1
  have h64 := ok.few
  have hcap : ∀ e ∈ L, (e.2 * sampleZ (S.getD e.1.toNat 0)).natAbs ≤ 2 ^ j := fun e he => tap_cap (hS e he) (ok.wt e he).2 (ok.wt e he).1 hj
  obtain ⟨w1, w2⟩ := rsum_wq (L.map fun e => (e.2 * sampleZ (S.getD e.1.toNat 0), prodV e.2 (S.getD e.1.toNat 0))) 0 9223372036854775808 j Wq.nought (fun p hp => by
    obtain ⟨e, he, rfl⟩ := List.mem_map.1 hp
    exact ⟨Wq.prod (hS e he) (ok.wt e he).2 (ok.wt e he).1, hcap e he⟩) (by exact Nat.zero_le _) (by rw [List.length_map]; omega)
  rw [List.map_map, List.map_map] at w1
  rw [List.map_map, List.length_map] at w2
  have hd : dotF (prods (L.map Prod.snd) (pickV L S)) = (L.map fun e => prodV e.2 (S.getD e.1.toNat 0)).foldl add64V 9223372036854775808 := by
    rw [prods_taps]; unfold dotF; rw [if_neg hne]
  have W : Wq (dotF (prods (L.map Prod.snd) (pickV L S))) (smZ L S) := by rw [hd]; exact w1
  have hb : (smZ L S).natAbs ≤ 2 ^ (j + 2 * L.length) := w2
  have hdv : ((2 ^ c : Nat) : Int) ∣ smZ L S := rsum_dvd _ _ j (Int.dvd_zero _) (fun p hp => by
    unfold tapZ at hp
    obtain ⟨e, he, rfl⟩ := List.mem_map.1 hp
    exact ⟨Int.dvd_trans (sampleZ_dvd _ hc) (Int.dvd_mul_left ..), hcap e he⟩) (Nat.zero_le _) (by unfold tapZ; rw [List.length_map]; omega)
  obtain ⟨D, hD⟩ : ∃ D, dotF (prods (L.map Prod.snd) (pickV L S)) = D := ⟨_, rfl⟩
  have hsm : smpV L S = overW D := by rw [← hD]; rfl
  rw [hD] at W
  rw [hsm]
  have hv : (smZ L S).natAbs = val64 (rung64 D) := by rw [← W.val]; exact val_abs D
  obtain ⟨Y, hY⟩ : (65536 : Int) ∣ smZ L S := Int.dvd_trans ⟨2 ^ (c - 16), by rw [show (65536 : Int) = 2 ^ 16 by decide, ← Int.pow_add, show 16 + (c - 16) = c by omega, Int.natCast_pow]; rfl⟩ hdv
  have hY : smZ L S = Y * 65536 := by rw [hY, Int.mul_comm]
  refine ⟨Y, hY, over_wq W hY ?_ ?_⟩
  · by_cases h0 : smZ L S = 0
    · exact Or.inr h0
    · left
      have h1 : 2 ^ c ≤ (smZ L S).natAbs := Nat.le_of_dvd (by omega) (Int.ofNat_dvd_left.1 hdv)
      rw [hv] at h1
      rcases Nat.lt_or_ge (plc64 (rung64 D)) 16 with g | g
      · exfalso
        have h2 := mag_lt64 (rung64 D)
        unfold val64 at h1
        have h3 : mag64 (rung64 D) * 2 ^ plc64 (rung64 D) < 2 ^ 53 * 2 ^ plc64 (rung64 D) := Nat.mul_lt_mul_of_pos_right h2 (Nat.two_pow_pos _)
        rw [← Nat.pow_add] at h3
        have h4 : 2 ^ (53 + plc64 (rung64 D)) ≤ 2 ^ c := Nat.pow_le_pow_right (by decide) (by omega)
        omega
      · exact g
  · rw [hv] at hb
    rcases Nat.lt_or_ge 1900 (plc64 (rung64 D)) with g | g
    · exfalso
      have h1 := mag_ge64 (r := rung64 D) (by omega)
      unfold val64 at hb
      have h2 : 2 ^ (j + 2 * L.length) ≤ 2 ^ plc64 (rung64 D) := Nat.pow_le_pow_right (by decide) (by omega)
      have h3 : 4503599627370496 * 2 ^ plc64 (rung64 D) ≤ mag64 (rung64 D) * 2 ^ plc64 (rung64 D) := Nat.mul_le_mul_right _ h1
      have := Nat.two_pow_pos (plc64 (rung64 D))
      omega
    · exact g
theorem smp_rises {m : Nat} {L : List (Int × Int)} {S T : List Nat} (ok : TOk m L) (hp : ∀ e ∈ L, 0 < e.2) (hS : ∀ e ∈ L, rung32 (S.getD e.1.toNat 0) < 2139095040) (hT : ∀ e ∈ L, rung32 (T.getD e.1.toNat 0) < 2139095040) (hle : ∀ e ∈ L, srung32 (S.getD e.1.toNat 0) ≤ srung32 (T.getD e.1.toNat 0)) : srung32 (smpV L S) ≤ srung32 (smpV L T) := by
  obtain ⟨Y, y1, y2, -⟩ := smp_key ok hS
  obtain ⟨Z, z1, z2, -⟩ := smp_key ok hT
  rw [y2, z2]
  refine RS_mono ?_
  have h := rsum_mono (L.map fun e => (e.2 * sampleZ (S.getD e.1.toNat 0), e.2 * sampleZ (T.getD e.1.toNat 0))) 0 0 (Int.le_refl 0) (fun p hp' => by
    obtain ⟨e, he, rfl⟩ := List.mem_map.1 hp'
    exact Int.mul_le_mul_of_nonneg_left (samp_le (hle e he)) (Int.le_of_lt (hp e he)))
  rw [List.map_map, List.map_map] at h
  have : smZ L S ≤ smZ L T := h
  omega
theorem fin_of_srung {x : Nat} (h : -2139095040 < srung32 x ∧ srung32 x < 2139095040) : rung32 x < 2139095040 := by
  unfold srung32 at h
  split at h <;> omega
/-- No new extremes. -/
theorem smp_between {m : Nat} {L : List (Int × Int)} {S : List Nat} {lo hi : Nat} (ok : TOk m L) (hp : ∀ e ∈ L, 0 < e.2) (hs : sndSum L = 65536) (ha : absL L ≤ 2 ^ 27) (hS : ∀ e ∈ L, rung32 (S.getD e.1.toNat 0) < 2139095040) (hlo : rung32 lo < 2139095040 ∧ lo < 4294967296) (hhi : rung32 hi < 2139095040 ∧ hi < 4294967296)
    (h1 : ∀ e ∈ L, srung32 lo ≤ srung32 (S.getD e.1.toNat 0)) (h2 : ∀ e ∈ L, srung32 (S.getD e.1.toNat 0) ≤ srung32 hi) : srung32 lo ≤ srung32 (smpV L S) ∧ srung32 (smpV L S) ≤ srung32 hi ∧ rung32 (smpV L S) < 2139095040 := by
  have rep : ∀ x, ∀ e ∈ L, (List.replicate m x).getD e.1.toNat 0 = x := fun x e he => by
    have := ok.pl e he
    rw [List.getD_eq_getElem?_getD, List.getElem?_replicate, if_pos (by omega)]
    rfl
  have cl := (smp_const (S := List.replicate m lo) ok hs ha hlo.1 hlo.2 (rep lo)).2 hp
  have ch := (smp_const (S := List.replicate m hi) ok hs ha hhi.1 hhi.2 (rep hi)).2 hp
  have r1 := smp_rises (S := List.replicate m lo) (T := S) ok hp (fun e he => by rw [rep lo e he]; exact hlo.1) hS (fun e he => by rw [rep lo e he]; exact h1 e he)
  have r2 := smp_rises (S := S) (T := List.replicate m hi) ok hp hS (fun e he => by rw [rep hi e he]; exact hhi.1) (fun e he => by rw [rep hi e he]; exact h2 e he)
  rw [cl] at r1
  rw [ch] at r2
  have f1 := fin_srung hlo.1
  have f2 := fin_srung hhi.1
  exact ⟨r1, r2, fin_of_srung ⟨by omega, by omega⟩⟩
end Go.Proofs.Ytdbbpmadkhedlaa
/- Plane refused; a plane of one sample. -/
namespace Go.Proofs.Ytdbbpmadkhedlaa
open Go.RowKit
set_option linter.unusedVariables false
set_option linter.unusedSimpArgs false

set_option maxHeartbeats 2000000 in
set_option maxRecDepth 100000 in
theorem plane_bad (pw ph : Int) (ad : Option Addr) (n c : Nat) (kind W H : Int) (hn : n ≤ 9223372036854775807) (hE : plnE pw ph n kind W H ≠ 0) (w : World) :
    Calls Try.prog 11 #[.agg #[.int .i64 pw, .int .i64 ph, .slice ad n c], .int .i64 kind, .int .i64 W, .int .i64 H] w fun e w' => e = .returned (.tuple #[.agg #[.int .i64 0, .int .i64 0, .slice none 0 0], .int .i64 (plnE pw ph n kind W H)]) ∧ Q w w' := by
  obtain ⟨w1, hw1⟩ : ∃ w1, (w.alloc (.cells #[.int .i64 pw, .int .i64 ph, .slice ad n c] 33)).alloc (.cells #[.int .i64 0, .int .i64 0, .slice none 0 0] 33) = w1 := ⟨_, rfl⟩
  have q1 : Q w w1 := by rw [← hw1]; exact ((Q.refl w).cells _ _).cells _ _
  have k0 : w1.cell? ⟨w.heap.size, 0, none⟩ = some (.int .i64 pw) := by rw [← hw1]; simp [go_sem]
  have k1 : w1.cell? ⟨w.heap.size, 1, none⟩ = some (.int .i64 ph) := by rw [← hw1]; simp [go_sem]
  have k2 : w1.cell? ⟨w.heap.size, 2, none⟩ = some (.slice ad n c) := by rw [← hw1]; simp [go_sem]
  have HR : Hid (w1.cell? ⟨w.heap.size + 1, 0, none⟩ = some (.int .i64 0) ∧ w1.cell? ⟨w.heap.size + 1, 1, none⟩ = some (.int .i64 0) ∧ w1.cell? ⟨w.heap.size + 1, 2, none⟩ = some (.slice none 0 0) ∧ (∀ j, w1.frozen? ⟨w.heap.size + 1, j, none⟩ = false)) := by
    rw [← hw1]
    exact ⟨by simp [go_sem], by simp [go_sem], by simp [go_sem], fun j => by simp [go_sem]⟩
  have C1 := refplane_any pw ph ad n c kind W H hn w1
  have HQ1 : Hid (Q w w1) := q1
  generalize plnE pw ph n kind W H = E at *
  have hE0 : (E == 0) = false := by simpa using hE
  clear q1 hE
  go_enter Try.func11, Try.ntmps11
  go_wp2_with fail
  refine C1.mono ?_
  rintro e w2 ⟨rfl, q2⟩
  clear C1 k0 k1 k2
  have o0 := q2.cell HR.out.1
  have o1 := q2.cell HR.out.2.1
  have o2 := q2.cell HR.out.2.2.1
  have fo : ∀ j, w2.frozen? ⟨w.heap.size + 1, j, none⟩ = false := fun j => by rw [q2.2]; exact HR.out.2.2.2 j
  have fo0 := fo 0
  have fo1 := fo 1
  have fo2 := fo 2
  have HQ2 : Hid (Q w1 w2) := q2
  clear q2 hw1 fo
  go_wp2_with fail
  have hl' : w.heap.size ≤ w.heap.size + 1 := by omega
  exact bodyPost_ret (v := .tuple #[.agg #[.int .i64 0, .int .i64 0, .slice none 0 0], .int .i64 E]) (by simp [results, Try.results11, go_sem, o0, o1, o2]) rfl ⟨rfl, (((HQ1.out.trans HQ2.out).set hl' _).set hl' _).set hl' _⟩
/-- A plane of one sample. -/
theorem whl_const {kind : Int} {pa pb W H X Y : Nat} {S : List Nat} {x : Nat} (hX : tapE kind pa W X = 0) (hY : tapE kind pb H Y = 0) (hS : ∀ i, i < pa * pb → S.getD i 0 = x) (hx : rung32 x < 2139095040) (hx4 : x < 4294967296) :
    (whlV kind pa pb W H S X Y = x ∨ (x = 2147483648 ∧ whlV kind pa pb W H S X Y = 0)) ∧ (kind ≠ 3 → whlV kind pa pb W H S X Y = x) := by
  obtain ⟨hk1, hz1, -, -, -⟩ := tapE_ok hX
  obtain ⟨hk2, hz2, -, -, -⟩ := tapE_ok hY
  have ok1 := taps_ok hk1 hz1
  have ok2 := taps_ok hk2 hz2
  have e1 : tpA kind pa W X = tapsL (wlsV kind pa W X) := by unfold tpA; rw [if_pos hX]; rfl
  have e2 : tpA kind pb H Y = tapsL (wlsV kind pb H Y) := by unfold tpA; rw [if_pos hY]; rfl
  have t1 : TOk pa (tpA kind pa W X) := tpA_tok hX
  have t2 : TOk pb (tpA kind pb H Y) := tpA_tok hY
  have s1 : sndSum (tpA kind pa W X) = 65536 := by rw [e1]; exact ok1.sum
  have s2 : sndSum (tpA kind pb H Y) = 65536 := by rw [e2]; exact ok2.sum
  have p1 : kind ≠ 3 → ∀ e ∈ tpA kind pa W X, 0 < e.2 := fun hk e he => by
    rw [e1] at he
    have := ok1.at_ e he
    have h1 := this.2.2.1
    have h2 := this.2.2.2.1 hk
    omega
  have p2 : kind ≠ 3 → ∀ e ∈ tpA kind pb H Y, 0 < e.2 := fun hk e he => by
    rw [e2] at he
    have := ok2.at_ e he
    have h1 := this.2.2.1
    have h2 := this.2.2.2.1 hk
    omega
  obtain ⟨c, hc⟩ : ∃ c, smpV (tpA kind pa W X) (List.replicate pa x) = c := ⟨_, rfl⟩
  have hcc := smp_const (S := List.replicate pa x) t1 s1 (tpA_abs hX) hx hx4 (fun e he => by
    have := t1.pl e he
    rw [List.getD_eq_getElem?_getD, List.getElem?_replicate, if_pos (by omega)]
    rfl)
  rw [hc] at hcc
  have hcol : ∀ y, y < pb → colV (tpA kind pa W X) S pa y = c := fun y hy => by
    rw [← hc]
    unfold colV
    refine smpV_congr fun e he => ?_
    have h := t1.pl e he
    have hi : e.1.toNat < pa := by omega
    have hin : y * pa + e.1.toNat < pa * pb := by
      have : (y + 1) * pa ≤ pb * pa := Nat.mul_le_mul_right _ hy
      rw [Nat.mul_comm pa pb]
      rw [Nat.add_mul, Nat.one_mul] at this
      omega
    rw [List.getD_eq_getElem?_getD, List.getElem?_drop, ← List.getD_eq_getElem?_getD, hS _ hin, List.getD_eq_getElem?_getD, List.getElem?_replicate, if_pos hi]
    rfl
  have hfin : rung32 c < 2139095040 ∧ c < 4294967296 := by
    rcases hcc.1 with h | ⟨-, h⟩
    · rw [h]; exact ⟨hx, hx4⟩
    · rw [h]; exact ⟨by decide, by decide⟩
  have hdd := smp_const (S := tabN pb (colV (tpA kind pa W X) S pa)) (x := c) t2 s2 (tpA_abs hY) hfin.1 hfin.2 (fun e he => by
    have h := t2.pl e he
    have hi : e.1.toNat < pb := by omega
    rw [tabN_getD hi, hcol _ hi])
  have ew : whlV kind pa pb W H S X Y = smpV (tpA kind pb H Y) (tabN pb (colV (tpA kind pa W X) S pa)) := rfl
  rw [ew]
  refine ⟨?_, fun hk => ?_⟩
  · rcases hcc.1 with h | ⟨h1, h⟩
    · rw [h] at hdd
      exact hdd.1
    · rw [h] at hdd
      rcases hdd.1 with g | ⟨g1, g⟩
      · exact Or.inr ⟨h1, g⟩
      · cases g1
  · rw [hdd.2 (p2 hk), hcc.2 (p1 hk)]
end Go.Proofs.Ytdbbpmadkhedlaa

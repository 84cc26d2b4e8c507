/- Part, Need. -/
import Derived.Test.YtnlphjekillciaaGb203f858
import Derived.Test.YtnlphjekillciaaG8b3de932
namespace Go.Proofs.Ytnlphjekillciaa
open Go.RowKit
set_option linter.unusedVariables false
set_option linter.unusedSimpArgs false

set_option maxHeartbeats 1000000 in
set_option maxRecDepth 100000 in
theorem isspan_any (lo hi n : Int) (w : World) (h1 : 0 ≤ lo) (h2 : lo < hi) (h3 : hi ≤ n) : Calls Try.prog 37 #[.int .i64 lo, .int .i64 hi, .int .i64 n] w fun e w' => e = .returned (.bool true) ∧ w' = w := by
  go_enter Try.func37, Try.ntmps37
  go_wp2_with fail
  go_ret
  exact ⟨by first | rfl | simp, rfl⟩
set_option maxHeartbeats 1000000 in
set_option maxRecDepth 100000 in
theorem within_any (x0 y0 x1 y1 W H : Int) (w : World) (h1 : 0 ≤ x0) (h2 : x0 < x1) (h3 : x1 ≤ W) (h4 : 0 ≤ y0) (h5 : y0 < y1) (h6 : y1 ≤ H) : Calls Try.prog 36 #[.agg #[.int .i64 x0, .int .i64 y0, .int .i64 x1, .int .i64 y1], .int .i64 W, .int .i64 H] w fun e w' => e = .returned (.bool true) ∧ Q w w' := by
  obtain ⟨w1, hw1⟩ : ∃ w1, w.alloc (.cells #[.int .i64 x0, .int .i64 y0, .int .i64 x1, .int .i64 y1] 44) = w1 := ⟨_, rfl⟩
  have q1 : Q w w1 := by rw [← hw1]; exact (Q.refl w).cells _ _
  have k0 : w1.cell? ⟨w.heap.size, 0, none⟩ = some (.int .i64 x0) := by rw [← hw1]; simp [go_sem]
  have k1 : w1.cell? ⟨w.heap.size, 1, none⟩ = some (.int .i64 y0) := by rw [← hw1]; simp [go_sem]
  have k2 : w1.cell? ⟨w.heap.size, 2, none⟩ = some (.int .i64 x1) := by rw [← hw1]; simp [go_sem]
  have k3 : w1.cell? ⟨w.heap.size, 3, none⟩ = some (.int .i64 y1) := by rw [← hw1]; simp [go_sem]
  have C1 := isspan_any x0 x1 W w1 h1 h2 h3
  have C2 := isspan_any y0 y1 H w1 h4 h5 h6
  have HQ : Hid (Q w w1) := q1
  clear q1 h1 h2 h3 h4 h5 h6
  go_enter Try.func36, Try.ntmps36
  go_wp2_with fail
  refine C1.mono ?_
  rintro e w2 ⟨rfl, hw2⟩
  obtain rfl := hw2.symm
  go_wp2_with fail
  refine C2.mono ?_
  rintro e w3 ⟨rfl, hw3⟩
  obtain rfl := hw3.symm
  go_wp2_with fail
  go_ret
  exact ⟨rfl, HQ.out⟩
set_option maxHeartbeats 2000000 in
set_option maxRecDepth 100000 in
theorem part_good (kind : Int) (pa pb W H x0 y0 nx ny : Nat) (x1 y1 : Int) (sv : Value) (S : List Nat) (w : World) (hsv : USl w sv S) (hS : S.length = pa * pb) (hb : ∀ i, S.getD i 0 < 4294967296) (hE : plnE pa pb S.length kind W H = 0) (hsz : Size pa pb) (hWH : Size W H)
    (hx : x1 = ((x0 + nx : Nat) : Int)) (hy : y1 = ((y0 + ny : Nat) : Int)) (hx1 : 1 ≤ nx) (hy1 : 1 ≤ ny) (hxW : x0 + nx ≤ W) (hyH : y0 + ny ≤ H) :
    Calls Try.prog 20 #[.agg #[.int .i64 (pa : Int), .int .i64 (pb : Int), sv], .int .i64 kind, .int .i64 (W : Int), .int .i64 (H : Int), .agg #[.int .i64 (x0 : Int), .int .i64 (y0 : Int), .int .i64 x1, .int .i64 y1]] w fun e w' => ∃ g, e = .returned (.tuple #[.agg #[.int .i64 (nx : Int), .int .i64 (ny : Int), .slice (some ⟨g, 0, none⟩) (nx * ny) (nx * ny)], .int .i64 0]) ∧ URow w' g (tabN (nx * ny) fun i => whlV kind pa pb W H S (x0 + i % nx) (y0 + i / nx)) ∧ w.heap.size ≤ g ∧ Q w w' := by
  obtain ⟨ad, c, rfl⟩ := hsv.form
  have hE1 : tapE kind pa W 0 = 0 ∧ tapE kind pb H 0 = 0 := by
    unfold plnE at hE
    split at hE
    · split at hE
      · split at hE
        · rename_i h; exact ⟨h, hE⟩
        · rename_i h; exact absurd hE h
      · cases hE
    · rename_i h; exact absurd hE h
  have hSl : S.length ≤ 65536 := by rw [hS]; exact hsz.ab
  obtain ⟨w1, hw1⟩ : ∃ w1, ((w.alloc (.cells #[.int .i64 (pa : Int), .int .i64 (pb : Int), .slice ad S.length c] 33)).alloc (.cells #[.int .i64 (x0 : Int), .int .i64 (y0 : Int), .int .i64 x1, .int .i64 y1] 44)).alloc (.cells #[.int .i64 0, .int .i64 0, .slice none 0 0] 33) = w1 := ⟨_, rfl⟩
  have q1 : Q w w1 := by rw [← hw1]; exact (((Q.refl w).cells _ _).cells _ _).cells _ _
  have k0 : w1.cell? ⟨w.heap.size, 0, none⟩ = some (.int .i64 (pa : Int)) := by rw [← hw1]; simp [go_sem]
  have k1 : w1.cell? ⟨w.heap.size, 1, none⟩ = some (.int .i64 (pb : Int)) := by rw [← hw1]; simp [go_sem]
  have k2 : w1.cell? ⟨w.heap.size, 2, none⟩ = some (.slice ad S.length c) := by rw [← hw1]; simp [go_sem]
  have r0 : w1.cell? ⟨w.heap.size + 1, 0, none⟩ = some (.int .i64 (x0 : Int)) := by rw [← hw1]; simp [go_sem]
  have r1 : w1.cell? ⟨w.heap.size + 1, 1, none⟩ = some (.int .i64 (y0 : Int)) := by rw [← hw1]; simp [go_sem]
  have r2 : w1.cell? ⟨w.heap.size + 1, 2, none⟩ = some (.int .i64 x1) := by rw [← hw1]; simp [go_sem]
  have r3 : w1.cell? ⟨w.heap.size + 1, 3, none⟩ = some (.int .i64 y1) := by rw [← hw1]; simp [go_sem]
  have HR : Hid (w1.cell? ⟨w.heap.size + 1 + 1, 0, none⟩ = some (.int .i64 0) ∧ w1.cell? ⟨w.heap.size + 1 + 1, 1, none⟩ = some (.int .i64 0) ∧ w1.cell? ⟨w.heap.size + 1 + 1, 2, none⟩ = some (.slice none 0 0) ∧ (∀ j, w1.frozen? ⟨w.heap.size + 1 + 1, j, none⟩ = false) ∧ w1.heap.size = w.heap.size + 3) := by
    rw [← hw1]
    exact ⟨by simp [go_sem], by simp [go_sem], by simp [go_sem], fun j => by simp [go_sem], by simp⟩
  have C1 := refplane_any pa pb ad S.length c kind W H (by omega) w1
  rw [hE] at C1
  have HCw : Hid (∀ x : World, Calls Try.prog 36 #[.agg #[.int .i64 (x0 : Int), .int .i64 (y0 : Int), .int .i64 x1, .int .i64 y1], .int .i64 (W : Int), .int .i64 (H : Int)] x fun e w' => e = .returned (.bool true) ∧ Q x w') := fun x => within_any x0 y0 x1 y1 W H x (by omega) (by omega) (by omega) (by omega) (by omega) (by omega)
  have HC2 : Hid (∀ x : World, Q w x → Calls Try.prog 34 #[.agg #[.int .i64 (pa : Int), .int .i64 (pb : Int), .slice ad S.length c], .int .i64 kind, .int .i64 (W : Int), .int .i64 (H : Int), .agg #[.int .i64 (x0 : Int), .int .i64 (y0 : Int), .int .i64 x1, .int .i64 y1]] x fun e w' => ∃ g, e = .returned (.agg #[.int .i64 (nx : Int), .int .i64 (ny : Int), .slice (some ⟨g, 0, none⟩) (nx * ny) (nx * ny)]) ∧ URow w' g (tabN (nx * ny) fun i => whlV kind pa pb W H S (x0 + i % nx) (y0 + i / nx)) ∧ x.heap.size ≤ g ∧ Q x w') := fun x q => piece_rect kind pa pb W H x0 y0 nx ny x1 y1 (.slice ad S.length c) S x (hsv.next q) hsz hS hb hE1.1 hE1.2 hx hy hx1 hy1 hxW hyH hWH.a2 hWH.b2
  have HQ1 : Hid (Q w w1) := q1
  have HK : Hid (w1.cell? ⟨w.heap.size, 0, none⟩ = some (.int .i64 (pa : Int)) ∧ w1.cell? ⟨w.heap.size, 1, none⟩ = some (.int .i64 (pb : Int)) ∧ w1.cell? ⟨w.heap.size, 2, none⟩ = some (.slice ad S.length c)) := ⟨k0, k1, k2⟩
  have HK2 : Hid (w1.cell? ⟨w.heap.size + 1, 0, none⟩ = some (.int .i64 (x0 : Int)) ∧ w1.cell? ⟨w.heap.size + 1, 1, none⟩ = some (.int .i64 (y0 : Int)) ∧ w1.cell? ⟨w.heap.size + 1, 2, none⟩ = some (.int .i64 x1) ∧ w1.cell? ⟨w.heap.size + 1, 3, none⟩ = some (.int .i64 y1)) := ⟨r0, r1, r2, r3⟩
  obtain ⟨FL, hFL⟩ : ∃ FL, (tabN (nx * ny) fun i => whlV kind pa pb W H S (x0 + i % nx) (y0 + i / nx)) = FL := ⟨_, rfl⟩
  rw [hFL] at HC2 ⊢
  obtain ⟨n, hn⟩ : ∃ n, nx * ny = n := ⟨_, rfl⟩
  rw [hn] at HC2 ⊢
  generalize S.length = sl at *
  clear q1 hsv hS hb hE hE1 hsz hWH hFL hn hSl hx hy hx1 hy1 hxW hyH
  go_enter Try.func20, Try.ntmps20
  go_wp2_with fail
  refine C1.mono ?_
  rintro e w2 ⟨rfl, q2⟩
  clear C1 k0 k1 k2 r0 r1 r2 r3
  have r0 := q2.cell HK2.out.1
  have r1 := q2.cell HK2.out.2.1
  have r2 := q2.cell HK2.out.2.2.1
  have r3 := q2.cell HK2.out.2.2.2
  have HQ2 : Hid (Q w1 w2) := q2
  clear q2 hw1
  go_wp2_with fail
  refine (HCw.out w2).mono ?_
  rintro e w2b ⟨rfl, q2b⟩
  clear r0 r1 r2 r3
  have HQ2b : Hid (Q w1 w2b) := HQ2.out.trans q2b
  clear q2b
  have k0 := HQ2b.out.cell HK.out.1
  have k1 := HQ2b.out.cell HK.out.2.1
  have k2 := HQ2b.out.cell HK.out.2.2
  have r0 := HQ2b.out.cell HK2.out.1
  have r1 := HQ2b.out.cell HK2.out.2.1
  have r2 := HQ2b.out.cell HK2.out.2.2.1
  have r3 := HQ2b.out.cell HK2.out.2.2.2
  go_wp2_with fail
  refine (HC2.out w2b (HQ1.out.trans HQ2b.out)).mono ?_
  rintro e w3 ⟨g, rfl, hu, hl, q3⟩
  have o0 := (HQ2b.out.trans q3).cell HR.out.1
  have o1 := (HQ2b.out.trans q3).cell HR.out.2.1
  have o2 := (HQ2b.out.trans q3).cell HR.out.2.2.1
  have fo : ∀ j, w3.frozen? ⟨w.heap.size + 1 + 1, j, none⟩ = false := fun j => by rw [(HQ2b.out.trans q3).2]; exact HR.out.2.2.2.1 j
  have fo0 := fo 0
  have fo1 := fo 1
  have fo2 := fo 2
  obtain ⟨w9, hw9⟩ : ∃ w9, ((w3.setCell ⟨w.heap.size + 1 + 1, 0, none⟩ (.int .i64 (nx : Int))).setCell ⟨w.heap.size + 1 + 1, 1, none⟩ (.int .i64 (ny : Int))).setCell ⟨w.heap.size + 1 + 1, 2, none⟩ (.slice (some ⟨g, 0, none⟩) n n) = w9 := ⟨_, rfl⟩
  have hgg : w.heap.size + 1 + 1 ≠ g := by
    have := HQ2b.out.1.size
    have := HR.out.2.2.2.2
    omega
  have HW : Hid (URow w9 g FL ∧ w.heap.size ≤ g ∧ Q w w9) := by
    refine ⟨?_, ?_, ?_⟩
    · rw [← hw9]
      exact ((hu.other (p := ⟨w.heap.size + 1 + 1, 0, none⟩) hgg _).other (p := ⟨w.heap.size + 1 + 1, 1, none⟩) hgg _).other (p := ⟨w.heap.size + 1 + 1, 2, none⟩) hgg _
    · have := (HQ1.out.trans HQ2b.out).1.size
      omega
    · rw [← hw9]
      have hl' : w.heap.size ≤ w.heap.size + 1 + 1 := by omega
      exact (((HQ1.out.trans (HQ2b.out.trans q3)).set hl' _).set hl' _).set hl' _
  have v0 : w9.cell? ⟨w.heap.size + 1 + 1, 0, none⟩ = some (.int .i64 (nx : Int)) := by
    rw [← hw9, World.cell?_setCell_other _ _ _ _ (fun e => by injection e with _ e; cases e), World.cell?_setCell_other _ _ _ _ (fun e => by injection e with _ e; cases e)]; exact World.cell?_setCell_same _ _ _ o0
  have v1 : w9.cell? ⟨w.heap.size + 1 + 1, 1, none⟩ = some (.int .i64 (ny : Int)) := by
    rw [← hw9, World.cell?_setCell_other _ _ _ _ (fun e => by injection e with _ e; cases e)]; exact World.cell?_setCell_same _ _ _ ((World.cell?_setCell_other _ _ _ _ (fun e => by injection e with _ e; cases e)).trans o1)
  have v2 : w9.cell? ⟨w.heap.size + 1 + 1, 2, none⟩ = some (.slice (some ⟨g, 0, none⟩) n n) := by
    rw [← hw9]; exact World.cell?_setCell_same _ _ _ ((World.cell?_setCell_other _ _ _ _ (fun e => by injection e with _ e; cases e)).trans ((World.cell?_setCell_other _ _ _ _ (fun e => by injection e with _ e; cases e)).trans o2))
  have HW9 : Hid _ := hw9
  clear fo hu hl q3 hw9 k0 k1 k2 r0 r1 r2 r3
  go_wp2_with fail
  rw [HW9.out]
  exact bodyPost_ret (v := .tuple #[.agg #[.int .i64 (nx : Int), .int .i64 (ny : Int), .slice (some ⟨g, 0, none⟩) n n], .int .i64 0]) (by simp [results, Try.results20, go_sem, v0, v1, v2]) rfl ⟨g, rfl, HW.out.1, HW.out.2.1, HW.out.2.2⟩
set_option maxHeartbeats 2000000 in
set_option maxRecDepth 100000 in
theorem need_good (kind : Int) (F T lo n : Nat) (hi : Int) (w : World) (hhi : hi = ((lo + n : Nat) : Int)) (hE : tapE kind F T 0 = 0) (hn : 1 ≤ n) (hT : lo + n ≤ T) (hF1 : 1 ≤ F) (hF2 : F ≤ 1024) (hT2 : T ≤ 1024) :
    Calls Try.prog 22 #[.int .i64 kind, .int .i64 (F : Int), .int .i64 (T : Int), .int .i64 (lo : Int), .int .i64 hi] w fun e w' => e = .returned (.tuple #[.int .i64 (fstS ((List.range n).map fun (k : Nat) => tpA kind F T ((lo + k : Nat) : Int)) n), .int .i64 (endS ((List.range n).map fun (k : Nat) => tpA kind F T ((lo + k : Nat) : Int)) n), .int .i64 0]) ∧ Q w w' := by
  have HR : Hid (∀ (k : Int) (W : World), 1 ≤ k → k ≤ 1024 → Calls Try.prog 28 #[.int .i64 k] W fun e w' => e = .returned (.bool true) ∧ w' = W) := fun k W h1 h2 => by have := sside_any k W; rw [decide_eq_true ⟨h1, h2⟩] at this; exact this
  have Csp := isspan_any lo hi T w (by omega) (by omega) (by omega)
  have C := refusal_any kind F T w
  rw [hE] at C
  have HC2 : Hid (∀ x : World, Calls Try.prog 30 #[.int .i64 kind, .int .i64 (F : Int), .int .i64 (T : Int), .int .i64 (lo : Int), .int .i64 hi] x fun e x' => ∃ v, e = .returned v ∧ LnJ x.heap.size x'.heap.size x' v ((List.range n).map fun (k : Nat) => tpA kind F T ((lo + k : Nat) : Int)) ∧ Q x x') := fun x => line_j kind F T lo n hi hhi hE hn hT hT2 x
  have HC3 : Hid (∀ (v : Value) (x : World), LnX x v ((List.range n).map fun (k : Nat) => tpA kind F T ((lo + k : Nat) : Int)) → Calls Try.prog 38 #[v] x fun e w' => e = .returned (.tuple #[.int .i64 (fstS ((List.range n).map fun (k : Nat) => tpA kind F T ((lo + k : Nat) : Int)) n), .int .i64 (endS ((List.range n).map fun (k : Nat) => tpA kind F T ((lo + k : Nat) : Int)) n)]) ∧ Q x w') := fun v x hv => by
    have := span_any v _ F x hv (by rw [List.length_map, List.length_range]; omega) hF2 (fun L hL => by
      obtain ⟨k, hk, rfl⟩ := List.mem_map.1 hL
      have := List.mem_range.1 hk
      have h1 := tpA_tok (tapE_at hE (k := lo + k) (by omega))
      rw [Int.toNat_natCast] at h1
      exact h1)
    rw [List.length_map, List.length_range] at this
    exact this
  generalize (List.range n).map (fun (k : Nat) => tpA kind F T ((lo + k : Nat) : Int)) = Ls at *
  generalize fstS Ls n = f1 at *
  generalize endS Ls n = e1 at *
  have a1 : (1 : Int) ≤ (F : Int) := by omega
  have a2 : (F : Int) ≤ 1024 := by omega
  have b1 : (1 : Int) ≤ (T : Int) := by omega
  have b2 : (T : Int) ≤ 1024 := by omega
  clear hE hhi hn hT hF1 hF2 hT2
  go_enter Try.func22, Try.ntmps22
  go_wp2_with (first | (go_at_call 28; first | (refine (HR.out F _ a1 a2).mono ?_; rintro e w' ⟨rfl, hw⟩; obtain rfl := hw.symm) | (refine (HR.out T _ b1 b2).mono ?_; rintro e w' ⟨rfl, hw⟩; obtain rfl := hw.symm)) | (go_at_call 37; refine Csp.mono ?_; rintro e w' ⟨rfl, hw⟩; obtain rfl := hw.symm))
  refine C.mono ?_
  rintro e w1 ⟨rfl, q1⟩
  clear C Csp
  have HQ : Hid (Q w w1) := q1
  clear q1
  go_wp2_with fail
  refine (HC2.out w1).mono ?_
  rintro e w2 ⟨v2, rfl, l2, q2⟩
  have C3 := HC3.out v2 w2 l2.x
  have HQ2 : Hid (Q w w2) := HQ.out.trans q2
  clear l2 q2
  go_wp2_with fail
  refine C3.mono ?_
  rintro e w3 ⟨rfl, q3⟩
  clear C3
  have HQ3 : Hid (Q w w3) := HQ2.out.trans q3
  clear q3
  go_wp2_with fail
  go_ret3
  exact ⟨rfl, HQ3.out⟩
end Go.Proofs.Ytnlphjekillciaa
/- Lists of samples that are the same. -/
namespace Go.Proofs.Ytnlphjekillciaa
open Go.RowKit
set_option linter.unusedVariables false
set_option linter.unusedSimpArgs false

set_option maxHeartbeats 4000000 in
set_option maxRecDepth 100000 in
theorem words_eq (v v' : Value) (xs : List Nat) (w : World) (h : USl w v xs) (h' : USl w v' xs) (hn : xs.length ≤ 9223372036854775807) :
    Calls Try.prog 12 #[v, v'] w fun e w' => e = .returned (.bool true) ∧ Q w w' := by
  obtain ⟨a, cap, ev⟩ := h.form
  obtain ⟨a', cap', ev'⟩ := h'.form
  subst ev ev'
  have HS : Hid (USl w (.slice a xs.length cap) xs) := h
  have HT : Hid (USl w (.slice a' xs.length cap') xs) := h'
  obtain ⟨n, en⟩ : ∃ n, xs.length = n := ⟨_, rfl⟩
  have HN : Hid (xs.length = n) := en
  rw [en] at HS HT hn ⊢
  have hnn : ((n : Int) == (n : Int)) = true := by simp
  clear h h' en
  go_enter Try.func12, Try.ntmps12
  go_wp2_with fail
  go_loopg [5] n (fun m s5 wx => ∃ i : Nat, s5 = .int .i64 i ∧ i + m = n ∧ Hid (Q w wx))
  case atStart => exact ⟨0, rfl, by omega, Q.refl w⟩
  case round =>
    obtain ⟨i, rfl, him, HQ⟩ := hrel
    by_cases hi : i < n
    · have hi0 : (0 : Int) ≤ (i : Int) := by omega
      have hi1 : (i : Int) < (n : Int) := by omega
      obtain ⟨g, o, c, e1, e2, e3⟩ := HS.out.some (by rw [HN.out]; omega)
      obtain ⟨g', o', c', f1, f2, f3⟩ := HT.out.some (by rw [HN.out]; omega)
      injection e1 with e1 hh1 hh2
      clear hh1 hh2
      injection f1 with f1 hh1 hh2
      clear hh1 hh2
      subst e1 f1
      have c1 := HQ.out.cell (e3 i (by rw [HN.out]; exact hi))
      have c2 := HQ.out.cell (f3 i (by rw [HN.out]; exact hi))
      obtain ⟨z, hz⟩ : ∃ z, xs.getD i 0 = z := ⟨_, rfl⟩
      rw [hz] at c1 c2
      have hzz : ((z : Int) == (z : Int)) = true := by simp
      have n0 := qw_some wr
      have d1 := qw_cell c1
      have d2 := qw_cell c2
      clear hz e2 e3 f2 f3
      go_wp2_with fail
      refine wp_region_quiet_Q (by kernel_rfl) (by kernel_rfl) ?_
      repeat (first | go_big_quiet_step (fail) | quiet_step (fail))
      refine wpQuiet_nil ?_
      intro w4 hw'
      have hq4 := qw_out hw'
      have HQ4 : Hid (Q w w4) := HQ.out.trans hq4
      clear hw' n0 d1 d2
      go_wp2_with fail
      go_roundg (n - (i + 1))
      case measure => go_light; omega
      case rel => go_light; exact ⟨i + 1, by go_num, by omega, HQ4⟩
    · have hie : i = n := by omega
      go_wp2_with fail
      go_ret
      exact ⟨rfl, HQ.out⟩
end Go.Proofs.Ytnlphjekillciaa
/- The chapter's examples: what they come to. -/
namespace Go.Proofs.Ytnlphjekillciaa
open Go.RowKit
set_option linter.unusedVariables false
set_option linter.unusedSimpArgs false

theorem tp_eq {kind F T i : Int} {L M : List (Int × Int)} {S : Int} (hE : tapE kind F T i = 0) (hw : wlsV kind F.toNat T.toNat i.toNat = L) (hs : sumF (zf (L.map Prod.snd)) L.length = S) (hm : missV (zf (L.map Prod.snd)) S L.length = 0) (hM : tpK L (flo (zf (L.map Prod.snd)) S) L.length = M) : tpA kind F T i = M := by
  unfold tpA
  rw [if_pos hE, hw]
  unfold tapsL
  have e : shrV (zf (L.map Prod.snd)) L.length = flo (zf (L.map Prod.snd)) S := by
    funext k
    unfold shrV; rw [hs, hm]; exact shrK_zero _ _ _ _
  rw [e, hM]
theorem t240 : tpA 2 2 4 0 = [(0, 65536)] := tp_eq (L := [(0, 8)]) (S := 8) (by decide) (by decide) (by decide) (by decide) (by decide)
theorem t241 : tpA 2 2 4 1 = [(0, 49152), (1, 16384)] := tp_eq (L := [(0, 6), (1, 2)]) (S := 8) (by decide) (by decide) (by decide) (by decide) (by decide)
theorem t242 : tpA 2 2 4 2 = [(0, 16384), (1, 49152)] := tp_eq (L := [(0, 2), (1, 6)]) (S := 8) (by decide) (by decide) (by decide) (by decide) (by decide)
theorem t243 : tpA 2 2 4 3 = [(1, 65536)] := tp_eq (L := [(1, 8)]) (S := 8) (by decide) (by decide) (by decide) (by decide) (by decide)
theorem b320 : tpA 1 3 2 0 = [(0, 65536)] := tp_eq (L := [(0, 1)]) (S := 1) (by decide) (by decide) (by decide) (by decide) (by decide)
theorem b321 : tpA 1 3 2 1 = [(1, 32768), (2, 32768)] := tp_eq (L := [(1, 1), (2, 1)]) (S := 2) (by decide) (by decide) (by decide) (by decide) (by decide)
theorem b210 : tpA 1 2 1 0 = [(0, 32768), (1, 32768)] := tp_eq (L := [(0, 1), (1, 1)]) (S := 2) (by decide) (by decide) (by decide) (by decide) (by decide)
theorem t110 : tpA 2 1 1 0 = [(0, 65536)] := tp_eq (L := [(0, 2)]) (S := 2) (by decide) (by decide) (by decide) (by decide) (by decide)
theorem row1 : rowL [0, 1065353216] 2 4 = [0, 1048576000, 1061158912, 1065353216] := by
  unfold rowL
  show [smpV (tpA 2 2 4 0) [0, 1065353216], smpV (tpA 2 2 4 1) [0, 1065353216], smpV (tpA 2 2 4 2) [0, 1065353216], smpV (tpA 2 2 4 3) [0, 1065353216]] = _
  rw [t240, t241, t242, t243]
  decide +kernel
theorem row2 : rowL [1065353216, 1073741824, 1082130432] 1 2 = [1065353216, 1077936128] := by
  unfold rowL
  show [smpV (tpA 1 3 2 0) [1065353216, 1073741824, 1082130432], smpV (tpA 1 3 2 1) [1065353216, 1073741824, 1082130432]] = _
  rw [b320, b321]
  decide +kernel
theorem pln1 : (tabN (1 * 1) fun i => whlV 1 2 2 1 1 [0, 1065353216, 1073741824, 1077936128] (i % 1) (i / 1)) = [1069547520] := by
  show [whlV 1 2 2 1 1 [0, 1065353216, 1073741824, 1077936128] 0 0] = _
  unfold whlV colV
  show [smpV (tpA 1 2 1 0) (tabN 2 fun y => smpV (tpA 1 2 1 0) (List.drop (y * 2) [0, 1065353216, 1073741824, 1077936128]))] = _
  rw [b210]
  decide +kernel
theorem prt1 : (tabN (2 * 1) fun i => whlV 2 2 1 4 1 [0, 1065353216] (1 + i % 2) (0 + i / 2)) = [1048576000, 1061158912] := by
  show [whlV 2 2 1 4 1 [0, 1065353216] 1 0, whlV 2 2 1 4 1 [0, 1065353216] 2 0] = _
  unfold whlV colV
  show [smpV (tpA 2 1 1 0) (tabN 1 fun y => smpV (tpA 2 2 4 1) (List.drop (y * 2) [0, 1065353216])), smpV (tpA 2 1 1 0) (tabN 1 fun y => smpV (tpA 2 2 4 2) (List.drop (y * 2) [0, 1065353216]))] = _
  rw [t110, t241, t242]
  decide +kernel
theorem ned1 : fstS ((List.range 2).map fun (k : Nat) => tpA 2 2 4 ((0 + k : Nat) : Int)) 2 = 0 ∧ endS ((List.range 2).map fun (k : Nat) => tpA 2 2 4 ((0 + k : Nat) : Int)) 2 = 2 := by
  have e : ((List.range 2).map fun (k : Nat) => tpA 2 2 4 ((0 + k : Nat) : Int)) = [[(0, 65536)], [(0, 49152), (1, 16384)]] := by
    show [tpA 2 2 4 0, tpA 2 2 4 1] = _
    rw [t240, t241]
  rw [e]
  decide
end Go.Proofs.Ytnlphjekillciaa

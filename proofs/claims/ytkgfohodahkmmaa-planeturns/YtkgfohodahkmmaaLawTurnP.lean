/- What is said of flips and turns: the walk. -/
import Derived.Test.YtkgfohodahkmmaaPlR
namespace Go.Proofs.Ytkgfohodahkmmaa
open Go.RowKit
set_option linter.unusedVariables false
set_option linter.unusedSimpArgs false

theorem tmod_bd (x : Int) : -1000 < Int.tmod x 1000 ∧ Int.tmod x 1000 < 1000 := ⟨Int.lt_tmod_of_pos x (by decide), Int.tmod_lt_of_pos x (by decide)⟩
theorem mod4 (k : Int) : ∃ q : Nat, k % 4 = q ∧ q < 4 := ⟨(k % 4).toNat, by omega, by omega⟩
set_option maxHeartbeats 8000000 in
set_option maxRecDepth 100000 in
theorem turnsP_good (a b : Nat) (g o cap : Nat) (S : List Nat) (A0 B0 : Int) (w : World) (hp : Pl w g o S.length cap a b S) :
    Calls Try.prog 8 #[.agg #[.int .i64 (a : Int), .int .i64 (b : Int), .slice (some ⟨g, o, none⟩) S.length cap], .int .i64 A0, .int .i64 B0] w fun e w' => e = .returned (.bool true) ∧ Q w w' := by
  obtain ⟨n, hn⟩ : ∃ n, S.length = n := ⟨_, rfl⟩
  rw [hn] at hp ⊢
  have hlen := hp.len
  have hsz := hp.size
  have hz : chk (a : Int) (b : Int) n = 0 := by rw [← hn, hlen]; exact chk_size hsz
  have hnb : n ≤ 65536 := by rw [← hn]; exact hp.bd
  have RC : ∀ w : World, Calls Try.prog 18 #[.agg #[.int .i64 (a : Int), .int .i64 (b : Int), .slice (some ⟨g, o, none⟩) n cap]] w fun e w' => e = .returned (.int .i64 0) ∧ Q w w' := fun w => hz ▸ rcheck_any (a : Int) (b : Int) (some ⟨g, o, none⟩) n cap (by omega) w
  obtain ⟨AA, hAA⟩ : ∃ AA, Int.tmod A0 1000 = AA := ⟨_, rfl⟩
  obtain ⟨BB, hBB⟩ : ∃ BB, Int.tmod B0 1000 = BB := ⟨_, rfl⟩
  have ba := tmod_bd A0
  have bb := tmod_bd B0
  rw [hAA] at ba
  rw [hBB] at bb
  have wa : IntKind.i64.wrap AA = AA := by rw [IntKind.wrap_i64]; omega
  have wb : IntKind.i64.wrap BB = BB := by rw [IntKind.wrap_i64]; omega
  have wab : IntKind.i64.wrap (AA + BB) = AA + BB := by rw [IntKind.wrap_i64]; omega
  have w4 : IntKind.i64.wrap (4 * AA) = 4 * AA := by rw [IntKind.wrap_i64]; omega
  obtain ⟨q1, hq1, q1l⟩ := mod4 AA
  obtain ⟨q2, hq2, q2l⟩ := mod4 BB
  obtain ⟨q3, hq3⟩ : ∃ q3, (q1 + q2) % 4 = q3 := ⟨_, rfl⟩
  have hq3' : (AA + BB) % 4 = q3 := by omega
  have hq4 : (4 * AA) % 4 = (0 : Nat) := by omega
  have HQ : Hid (AA % 4 = q1 ∧ BB % 4 = q2 ∧ (AA + BB) % 4 = q3 ∧ (4 * AA) % 4 = (0 : Nat) ∧ q1 < 4 ∧ q2 < 4 ∧ (q1 + q2) % 4 = q3) := ⟨hq1, hq2, hq3', hq4, q1l, q2l, hq3⟩
  have HLen : Hid (S.length = a * b) := hlen
  have HSz : Hid (Size a b) := hsz
  have z0 : ((0 : Int) != 0) = false := by decide
  obtain ⟨w1, hw1⟩ : ∃ w1, w.alloc (.cells #[.int .i64 (a : Int), .int .i64 (b : Int), .slice (some ⟨g, o, none⟩) n cap] 25) = w1 := ⟨_, rfl⟩
  have QT : Q w w1 := by rw [← hw1]; exact (Q.refl w).cells _ _
  have Bp : Hid (PBox w1 w.heap.size a b (.slice (some ⟨g, o, none⟩) n cap)) := by rw [← hw1]; exact ⟨by simp [go_sem], by simp [go_sem], by simp [go_sem]⟩
  have Pp : Hid (Pl w1 g o n cap a b S) := hp.next QT
  have K := known_any w1
  clear hp hlen hsz hz hq1 hq2 hq3' hq4 q1l q2l hq3 hn
  go_enter Try.func8, Try.ntmps8
  go_wp2_with fail
  clear hw1
  refine K.mono ?_
  rintro e w2 ⟨rfl, k2⟩
  replace Bp : Hid (PBox w2 w.heap.size a b (.slice (some ⟨g, o, none⟩) n cap)) := Bp.out.next k2
  replace Pp : Hid (Pl w2 g o n cap a b S) := Pp.out.next k2
  replace QT := QT.trans k2
  obtain ⟨tp0, tp1, tp2⟩ := id Bp.out
  clear K k2
  go_wp2_with fail
  refine (RC _).mono ?_
  rintro e w3 ⟨rfl, k3⟩
  replace Bp : Hid (PBox w3 w.heap.size a b (.slice (some ⟨g, o, none⟩) n cap)) := Bp.out.next k3
  replace Pp : Hid (Pl w3 g o n cap a b S) := Pp.out.next k3
  replace QT := QT.trans k3
  clear tp0 tp1 tp2 RC k3
  obtain ⟨L0, hL0⟩ : ∃ L, w.heap.size = L := ⟨_, rfl⟩
  rw [hL0] at Bp
  obtain ⟨tp0, tp1, tp2⟩ := id Bp.out
  go_wp2_with fail
  clear hL0
  refine (pl_flipx Pp.out).mono ?_
  rintro e v1 ⟨g1, n1, rfl, q1, _, _, Pf⟩
  clear tp0 tp1 tp2
  obtain ⟨u1, hu1⟩ : ∃ u1, v1.alloc (.cells #[.int .i64 ((a : Nat) : Int), .int .i64 ((b : Nat) : Int), .slice (some ⟨g1, 0, none⟩) n1 n1] 25) = u1 := ⟨_, rfl⟩
  have r1 : Q v1 u1 := by rw [← hu1]; exact (Q.refl _).cells _ _
  have Bf : Hid (PBox u1 v1.heap.size (a) (b) (.slice (some ⟨g1, 0, none⟩) n1 n1)) := by rw [← hu1]; exact ⟨by simp [go_sem], by simp [go_sem], by simp [go_sem]⟩
  have s1 : Q w3 u1 := q1.trans r1
  replace Bp : Hid (PBox u1 L0 a b (.slice (some ⟨g, o, none⟩) n cap)) := Bp.out.next s1
  replace Pp : Hid (Pl u1 g o n cap a b S) := Pp.out.next s1
  replace Pf : Hid (Pl u1 g1 0 n1 n1 (a) (b) (flX a b S)) := Pf.out.next r1
  replace QT : Q w u1 := QT.trans s1
  obtain ⟨L1, hL1⟩ : ∃ L, v1.heap.size = L := ⟨_, rfl⟩
  rw [hL1] at Bf
  clear q1 r1 s1
  obtain ⟨tf0, tf1, tf2⟩ := id Bf.out
  go_wp2_with fail
  clear hu1 hL1
  refine (pl_flipx Pf.out).mono ?_
  rintro e v2 ⟨g2, n2, rfl, q2, _, _, Pff⟩
  clear tf0 tf1 tf2
  obtain ⟨u2, hu2⟩ : ∃ u2, v2.alloc (.cells #[.int .i64 ((a : Nat) : Int), .int .i64 ((b : Nat) : Int), .slice (some ⟨g2, 0, none⟩) n2 n2] 25) = u2 := ⟨_, rfl⟩
  have r2 : Q v2 u2 := by rw [← hu2]; exact (Q.refl _).cells _ _
  have Bff : Hid (PBox u2 v2.heap.size (a) (b) (.slice (some ⟨g2, 0, none⟩) n2 n2)) := by rw [← hu2]; exact ⟨by simp [go_sem], by simp [go_sem], by simp [go_sem]⟩
  have s2 : Q u1 u2 := q2.trans r2
  replace Bp : Hid (PBox u2 L0 a b (.slice (some ⟨g, o, none⟩) n cap)) := Bp.out.next s2
  replace Pp : Hid (Pl u2 g o n cap a b S) := Pp.out.next s2
  replace Bf : Hid (PBox u2 L1 (a) (b) (.slice (some ⟨g1, 0, none⟩) n1 n1)) := Bf.out.next s2
  replace Pf : Hid (Pl u2 g1 0 n1 n1 (a) (b) (flX a b S)) := Pf.out.next s2
  replace Pff : Hid (Pl u2 g2 0 n2 n2 (a) (b) (flX a b (flX a b S))) := Pff.out.next r2
  replace QT : Q w u2 := QT.trans s2
  obtain ⟨L2, hL2⟩ : ∃ L, v2.heap.size = L := ⟨_, rfl⟩
  rw [hL2] at Bff
  clear q2 r2 s2
  obtain ⟨tp0, tp1, tp2⟩ := id Bp.out
  go_wp2_with fail
  clear hu2 hL2
  refine (pl_flipy Pp.out).mono ?_
  rintro e v3 ⟨g3, n3, rfl, q3, _, _, Pg⟩
  clear tp0 tp1 tp2
  obtain ⟨u3, hu3⟩ : ∃ u3, v3.alloc (.cells #[.int .i64 ((a : Nat) : Int), .int .i64 ((b : Nat) : Int), .slice (some ⟨g3, 0, none⟩) n3 n3] 25) = u3 := ⟨_, rfl⟩
  have r3 : Q v3 u3 := by rw [← hu3]; exact (Q.refl _).cells _ _
  have Bg : Hid (PBox u3 v3.heap.size (a) (b) (.slice (some ⟨g3, 0, none⟩) n3 n3)) := by rw [← hu3]; exact ⟨by simp [go_sem], by simp [go_sem], by simp [go_sem]⟩
  have s3 : Q u2 u3 := q3.trans r3
  replace Bp : Hid (PBox u3 L0 a b (.slice (some ⟨g, o, none⟩) n cap)) := Bp.out.next s3
  replace Pp : Hid (Pl u3 g o n cap a b S) := Pp.out.next s3
  replace Bf : Hid (PBox u3 L1 (a) (b) (.slice (some ⟨g1, 0, none⟩) n1 n1)) := Bf.out.next s3
  replace Pf : Hid (Pl u3 g1 0 n1 n1 (a) (b) (flX a b S)) := Pf.out.next s3
  replace Bff : Hid (PBox u3 L2 (a) (b) (.slice (some ⟨g2, 0, none⟩) n2 n2)) := Bff.out.next s3
  replace Pff : Hid (Pl u3 g2 0 n2 n2 (a) (b) (flX a b (flX a b S))) := Pff.out.next s3
  replace Pg : Hid (Pl u3 g3 0 n3 n3 (a) (b) (flY a b S)) := Pg.out.next r3
  replace QT : Q w u3 := QT.trans s3
  obtain ⟨L3, hL3⟩ : ∃ L, v3.heap.size = L := ⟨_, rfl⟩
  rw [hL3] at Bg
  clear q3 r3 s3
  obtain ⟨tg0, tg1, tg2⟩ := id Bg.out
  go_wp2_with fail
  clear hu3 hL3
  refine (pl_flipy Pg.out).mono ?_
  rintro e v4 ⟨g4, n4, rfl, q4, _, _, Pgg⟩
  clear tg0 tg1 tg2
  obtain ⟨u4, hu4⟩ : ∃ u4, v4.alloc (.cells #[.int .i64 ((a : Nat) : Int), .int .i64 ((b : Nat) : Int), .slice (some ⟨g4, 0, none⟩) n4 n4] 25) = u4 := ⟨_, rfl⟩
  have r4 : Q v4 u4 := by rw [← hu4]; exact (Q.refl _).cells _ _
  have Bgg : Hid (PBox u4 v4.heap.size (a) (b) (.slice (some ⟨g4, 0, none⟩) n4 n4)) := by rw [← hu4]; exact ⟨by simp [go_sem], by simp [go_sem], by simp [go_sem]⟩
  have s4 : Q u3 u4 := q4.trans r4
  replace Bp : Hid (PBox u4 L0 a b (.slice (some ⟨g, o, none⟩) n cap)) := Bp.out.next s4
  replace Pp : Hid (Pl u4 g o n cap a b S) := Pp.out.next s4
  replace Bf : Hid (PBox u4 L1 (a) (b) (.slice (some ⟨g1, 0, none⟩) n1 n1)) := Bf.out.next s4
  replace Pf : Hid (Pl u4 g1 0 n1 n1 (a) (b) (flX a b S)) := Pf.out.next s4
  replace Bff : Hid (PBox u4 L2 (a) (b) (.slice (some ⟨g2, 0, none⟩) n2 n2)) := Bff.out.next s4
  replace Pff : Hid (Pl u4 g2 0 n2 n2 (a) (b) (flX a b (flX a b S))) := Pff.out.next s4
  replace Bg : Hid (PBox u4 L3 (a) (b) (.slice (some ⟨g3, 0, none⟩) n3 n3)) := Bg.out.next s4
  replace Pg : Hid (Pl u4 g3 0 n3 n3 (a) (b) (flY a b S)) := Pg.out.next s4
  replace Pgg : Hid (Pl u4 g4 0 n4 n4 (a) (b) (flY a b (flY a b S))) := Pgg.out.next r4
  replace QT : Q w u4 := QT.trans s4
  obtain ⟨L4, hL4⟩ : ∃ L, v4.heap.size = L := ⟨_, rfl⟩
  rw [hL4] at Bgg
  clear q4 r4 s4
  obtain ⟨tp0, tp1, tp2⟩ := id Bp.out
  go_wp2_with fail
  clear hu4 hL4
  refine (pl_trans Pp.out).mono ?_
  rintro e v5 ⟨g5, n5, rfl, q5, _, _, Pt⟩
  clear tp0 tp1 tp2
  obtain ⟨u5, hu5⟩ : ∃ u5, v5.alloc (.cells #[.int .i64 ((b : Nat) : Int), .int .i64 ((a : Nat) : Int), .slice (some ⟨g5, 0, none⟩) n5 n5] 25) = u5 := ⟨_, rfl⟩
  have r5 : Q v5 u5 := by rw [← hu5]; exact (Q.refl _).cells _ _
  have Bt : Hid (PBox u5 v5.heap.size (b) (a) (.slice (some ⟨g5, 0, none⟩) n5 n5)) := by rw [← hu5]; exact ⟨by simp [go_sem], by simp [go_sem], by simp [go_sem]⟩
  have s5 : Q u4 u5 := q5.trans r5
  replace Bp : Hid (PBox u5 L0 a b (.slice (some ⟨g, o, none⟩) n cap)) := Bp.out.next s5
  replace Pp : Hid (Pl u5 g o n cap a b S) := Pp.out.next s5
  replace Bf : Hid (PBox u5 L1 (a) (b) (.slice (some ⟨g1, 0, none⟩) n1 n1)) := Bf.out.next s5
  replace Pf : Hid (Pl u5 g1 0 n1 n1 (a) (b) (flX a b S)) := Pf.out.next s5
  replace Bff : Hid (PBox u5 L2 (a) (b) (.slice (some ⟨g2, 0, none⟩) n2 n2)) := Bff.out.next s5
  replace Pff : Hid (Pl u5 g2 0 n2 n2 (a) (b) (flX a b (flX a b S))) := Pff.out.next s5
  replace Bg : Hid (PBox u5 L3 (a) (b) (.slice (some ⟨g3, 0, none⟩) n3 n3)) := Bg.out.next s5
  replace Pg : Hid (Pl u5 g3 0 n3 n3 (a) (b) (flY a b S)) := Pg.out.next s5
  replace Bgg : Hid (PBox u5 L4 (a) (b) (.slice (some ⟨g4, 0, none⟩) n4 n4)) := Bgg.out.next s5
  replace Pgg : Hid (Pl u5 g4 0 n4 n4 (a) (b) (flY a b (flY a b S))) := Pgg.out.next s5
  replace Pt : Hid (Pl u5 g5 0 n5 n5 (b) (a) (trL a b S)) := Pt.out.next r5
  replace QT : Q w u5 := QT.trans s5
  obtain ⟨L5, hL5⟩ : ∃ L, v5.heap.size = L := ⟨_, rfl⟩
  rw [hL5] at Bt
  clear q5 r5 s5
  obtain ⟨tt0, tt1, tt2⟩ := id Bt.out
  go_wp2_with fail
  clear hu5 hL5
  refine (pl_trans Pt.out).mono ?_
  rintro e v6 ⟨g6, n6, rfl, q6, _, _, Ptt⟩
  clear tt0 tt1 tt2
  obtain ⟨u6, hu6⟩ : ∃ u6, v6.alloc (.cells #[.int .i64 ((a : Nat) : Int), .int .i64 ((b : Nat) : Int), .slice (some ⟨g6, 0, none⟩) n6 n6] 25) = u6 := ⟨_, rfl⟩
  have r6 : Q v6 u6 := by rw [← hu6]; exact (Q.refl _).cells _ _
  have Btt : Hid (PBox u6 v6.heap.size (a) (b) (.slice (some ⟨g6, 0, none⟩) n6 n6)) := by rw [← hu6]; exact ⟨by simp [go_sem], by simp [go_sem], by simp [go_sem]⟩
  have s6 : Q u5 u6 := q6.trans r6
  replace Bp : Hid (PBox u6 L0 a b (.slice (some ⟨g, o, none⟩) n cap)) := Bp.out.next s6
  replace Pp : Hid (Pl u6 g o n cap a b S) := Pp.out.next s6
  replace Bf : Hid (PBox u6 L1 (a) (b) (.slice (some ⟨g1, 0, none⟩) n1 n1)) := Bf.out.next s6
  replace Pf : Hid (Pl u6 g1 0 n1 n1 (a) (b) (flX a b S)) := Pf.out.next s6
  replace Bff : Hid (PBox u6 L2 (a) (b) (.slice (some ⟨g2, 0, none⟩) n2 n2)) := Bff.out.next s6
  replace Pff : Hid (Pl u6 g2 0 n2 n2 (a) (b) (flX a b (flX a b S))) := Pff.out.next s6
  replace Bg : Hid (PBox u6 L3 (a) (b) (.slice (some ⟨g3, 0, none⟩) n3 n3)) := Bg.out.next s6
  replace Pg : Hid (Pl u6 g3 0 n3 n3 (a) (b) (flY a b S)) := Pg.out.next s6
  replace Bgg : Hid (PBox u6 L4 (a) (b) (.slice (some ⟨g4, 0, none⟩) n4 n4)) := Bgg.out.next s6
  replace Pgg : Hid (Pl u6 g4 0 n4 n4 (a) (b) (flY a b (flY a b S))) := Pgg.out.next s6
  replace Bt : Hid (PBox u6 L5 (b) (a) (.slice (some ⟨g5, 0, none⟩) n5 n5)) := Bt.out.next s6
  replace Pt : Hid (Pl u6 g5 0 n5 n5 (b) (a) (trL a b S)) := Pt.out.next s6
  replace Ptt : Hid (Pl u6 g6 0 n6 n6 (a) (b) (trL b a (trL a b S))) := Ptt.out.next r6
  replace QT : Q w u6 := QT.trans s6
  obtain ⟨L6, hL6⟩ : ∃ L, v6.heap.size = L := ⟨_, rfl⟩
  rw [hL6] at Btt
  clear q6 r6 s6
  obtain ⟨tp0, tp1, tp2⟩ := id Bp.out
  go_wp2_with fail
  clear hu6 hL6
  refine (pl_turn Pp.out 1 (q := 1) (by decide)).mono ?_
  rintro e v7 ⟨g7, n7, rfl, q7, _, _, Pq⟩
  clear tp0 tp1 tp2
  obtain ⟨u7, hu7⟩ : ∃ u7, v7.alloc (.cells #[.int .i64 ((tuA 1 a b : Nat) : Int), .int .i64 ((tuB 1 a b : Nat) : Int), .slice (some ⟨g7, 0, none⟩) n7 n7] 25) = u7 := ⟨_, rfl⟩
  have r7 : Q v7 u7 := by rw [← hu7]; exact (Q.refl _).cells _ _
  have Bq : Hid (PBox u7 v7.heap.size (tuA 1 a b) (tuB 1 a b) (.slice (some ⟨g7, 0, none⟩) n7 n7)) := by rw [← hu7]; exact ⟨by simp [go_sem], by simp [go_sem], by simp [go_sem]⟩
  have s7 : Q u6 u7 := q7.trans r7
  replace Bp : Hid (PBox u7 L0 a b (.slice (some ⟨g, o, none⟩) n cap)) := Bp.out.next s7
  replace Pp : Hid (Pl u7 g o n cap a b S) := Pp.out.next s7
  replace Bf : Hid (PBox u7 L1 (a) (b) (.slice (some ⟨g1, 0, none⟩) n1 n1)) := Bf.out.next s7
  replace Pf : Hid (Pl u7 g1 0 n1 n1 (a) (b) (flX a b S)) := Pf.out.next s7
  replace Bff : Hid (PBox u7 L2 (a) (b) (.slice (some ⟨g2, 0, none⟩) n2 n2)) := Bff.out.next s7
  replace Pff : Hid (Pl u7 g2 0 n2 n2 (a) (b) (flX a b (flX a b S))) := Pff.out.next s7
  replace Bg : Hid (PBox u7 L3 (a) (b) (.slice (some ⟨g3, 0, none⟩) n3 n3)) := Bg.out.next s7
  replace Pg : Hid (Pl u7 g3 0 n3 n3 (a) (b) (flY a b S)) := Pg.out.next s7
  replace Bgg : Hid (PBox u7 L4 (a) (b) (.slice (some ⟨g4, 0, none⟩) n4 n4)) := Bgg.out.next s7
  replace Pgg : Hid (Pl u7 g4 0 n4 n4 (a) (b) (flY a b (flY a b S))) := Pgg.out.next s7
  replace Bt : Hid (PBox u7 L5 (b) (a) (.slice (some ⟨g5, 0, none⟩) n5 n5)) := Bt.out.next s7
  replace Pt : Hid (Pl u7 g5 0 n5 n5 (b) (a) (trL a b S)) := Pt.out.next s7
  replace Btt : Hid (PBox u7 L6 (a) (b) (.slice (some ⟨g6, 0, none⟩) n6 n6)) := Btt.out.next s7
  replace Ptt : Hid (Pl u7 g6 0 n6 n6 (a) (b) (trL b a (trL a b S))) := Ptt.out.next s7
  replace Pq : Hid (Pl u7 g7 0 n7 n7 (tuA 1 a b) (tuB 1 a b) (tuL 1 a b S)) := Pq.out.next r7
  replace QT : Q w u7 := QT.trans s7
  obtain ⟨L7, hL7⟩ : ∃ L, v7.heap.size = L := ⟨_, rfl⟩
  rw [hL7] at Bq
  clear q7 r7 s7
  obtain ⟨tt0, tt1, tt2⟩ := id Bt.out
  go_wp2_with fail
  clear hu7 hL7
  refine (pl_flipx Pt.out).mono ?_
  rintro e v8 ⟨g8, n8, rfl, q8, _, _, Ptf⟩
  clear tt0 tt1 tt2
  obtain ⟨u8, hu8⟩ : ∃ u8, v8.alloc (.cells #[.int .i64 ((b : Nat) : Int), .int .i64 ((a : Nat) : Int), .slice (some ⟨g8, 0, none⟩) n8 n8] 25) = u8 := ⟨_, rfl⟩
  have r8 : Q v8 u8 := by rw [← hu8]; exact (Q.refl _).cells _ _
  have Btf : Hid (PBox u8 v8.heap.size (b) (a) (.slice (some ⟨g8, 0, none⟩) n8 n8)) := by rw [← hu8]; exact ⟨by simp [go_sem], by simp [go_sem], by simp [go_sem]⟩
  have s8 : Q u7 u8 := q8.trans r8
  replace Bp : Hid (PBox u8 L0 a b (.slice (some ⟨g, o, none⟩) n cap)) := Bp.out.next s8
  replace Pp : Hid (Pl u8 g o n cap a b S) := Pp.out.next s8
  replace Bf : Hid (PBox u8 L1 (a) (b) (.slice (some ⟨g1, 0, none⟩) n1 n1)) := Bf.out.next s8
  replace Pf : Hid (Pl u8 g1 0 n1 n1 (a) (b) (flX a b S)) := Pf.out.next s8
  replace Bff : Hid (PBox u8 L2 (a) (b) (.slice (some ⟨g2, 0, none⟩) n2 n2)) := Bff.out.next s8
  replace Pff : Hid (Pl u8 g2 0 n2 n2 (a) (b) (flX a b (flX a b S))) := Pff.out.next s8
  replace Bg : Hid (PBox u8 L3 (a) (b) (.slice (some ⟨g3, 0, none⟩) n3 n3)) := Bg.out.next s8
  replace Pg : Hid (Pl u8 g3 0 n3 n3 (a) (b) (flY a b S)) := Pg.out.next s8
  replace Bgg : Hid (PBox u8 L4 (a) (b) (.slice (some ⟨g4, 0, none⟩) n4 n4)) := Bgg.out.next s8
  replace Pgg : Hid (Pl u8 g4 0 n4 n4 (a) (b) (flY a b (flY a b S))) := Pgg.out.next s8
  replace Bt : Hid (PBox u8 L5 (b) (a) (.slice (some ⟨g5, 0, none⟩) n5 n5)) := Bt.out.next s8
  replace Pt : Hid (Pl u8 g5 0 n5 n5 (b) (a) (trL a b S)) := Pt.out.next s8
  replace Btt : Hid (PBox u8 L6 (a) (b) (.slice (some ⟨g6, 0, none⟩) n6 n6)) := Btt.out.next s8
  replace Ptt : Hid (Pl u8 g6 0 n6 n6 (a) (b) (trL b a (trL a b S))) := Ptt.out.next s8
  replace Bq : Hid (PBox u8 L7 (tuA 1 a b) (tuB 1 a b) (.slice (some ⟨g7, 0, none⟩) n7 n7)) := Bq.out.next s8
  replace Pq : Hid (Pl u8 g7 0 n7 n7 (tuA 1 a b) (tuB 1 a b) (tuL 1 a b S)) := Pq.out.next s8
  replace Ptf : Hid (Pl u8 g8 0 n8 n8 (b) (a) (flX b a (trL a b S))) := Ptf.out.next r8
  replace QT : Q w u8 := QT.trans s8
  obtain ⟨L8, hL8⟩ : ∃ L, v8.heap.size = L := ⟨_, rfl⟩
  rw [hL8] at Btf
  clear q8 r8 s8
  obtain ⟨tp0, tp1, tp2⟩ := id Bp.out
  go_wp2_with fail
  clear hu8 hL8
  refine (pl_turn Pp.out AA HQ.out.1).mono ?_
  rintro e v9 ⟨g9, n9, rfl, q9, _, _, Px⟩
  clear tp0 tp1 tp2
  obtain ⟨u9, hu9⟩ : ∃ u9, v9.alloc (.cells #[.int .i64 ((tuA q1 a b : Nat) : Int), .int .i64 ((tuB q1 a b : Nat) : Int), .slice (some ⟨g9, 0, none⟩) n9 n9] 25) = u9 := ⟨_, rfl⟩
  have r9 : Q v9 u9 := by rw [← hu9]; exact (Q.refl _).cells _ _
  have Bx : Hid (PBox u9 v9.heap.size (tuA q1 a b) (tuB q1 a b) (.slice (some ⟨g9, 0, none⟩) n9 n9)) := by rw [← hu9]; exact ⟨by simp [go_sem], by simp [go_sem], by simp [go_sem]⟩
  have s9 : Q u8 u9 := q9.trans r9
  replace Bp : Hid (PBox u9 L0 a b (.slice (some ⟨g, o, none⟩) n cap)) := Bp.out.next s9
  replace Pp : Hid (Pl u9 g o n cap a b S) := Pp.out.next s9
  replace Bf : Hid (PBox u9 L1 (a) (b) (.slice (some ⟨g1, 0, none⟩) n1 n1)) := Bf.out.next s9
  replace Pf : Hid (Pl u9 g1 0 n1 n1 (a) (b) (flX a b S)) := Pf.out.next s9
  replace Bff : Hid (PBox u9 L2 (a) (b) (.slice (some ⟨g2, 0, none⟩) n2 n2)) := Bff.out.next s9
  replace Pff : Hid (Pl u9 g2 0 n2 n2 (a) (b) (flX a b (flX a b S))) := Pff.out.next s9
  replace Bg : Hid (PBox u9 L3 (a) (b) (.slice (some ⟨g3, 0, none⟩) n3 n3)) := Bg.out.next s9
  replace Pg : Hid (Pl u9 g3 0 n3 n3 (a) (b) (flY a b S)) := Pg.out.next s9
  replace Bgg : Hid (PBox u9 L4 (a) (b) (.slice (some ⟨g4, 0, none⟩) n4 n4)) := Bgg.out.next s9
  replace Pgg : Hid (Pl u9 g4 0 n4 n4 (a) (b) (flY a b (flY a b S))) := Pgg.out.next s9
  replace Bt : Hid (PBox u9 L5 (b) (a) (.slice (some ⟨g5, 0, none⟩) n5 n5)) := Bt.out.next s9
  replace Pt : Hid (Pl u9 g5 0 n5 n5 (b) (a) (trL a b S)) := Pt.out.next s9
  replace Btt : Hid (PBox u9 L6 (a) (b) (.slice (some ⟨g6, 0, none⟩) n6 n6)) := Btt.out.next s9
  replace Ptt : Hid (Pl u9 g6 0 n6 n6 (a) (b) (trL b a (trL a b S))) := Ptt.out.next s9
  replace Bq : Hid (PBox u9 L7 (tuA 1 a b) (tuB 1 a b) (.slice (some ⟨g7, 0, none⟩) n7 n7)) := Bq.out.next s9
  replace Pq : Hid (Pl u9 g7 0 n7 n7 (tuA 1 a b) (tuB 1 a b) (tuL 1 a b S)) := Pq.out.next s9
  replace Btf : Hid (PBox u9 L8 (b) (a) (.slice (some ⟨g8, 0, none⟩) n8 n8)) := Btf.out.next s9
  replace Ptf : Hid (Pl u9 g8 0 n8 n8 (b) (a) (flX b a (trL a b S))) := Ptf.out.next s9
  replace Px : Hid (Pl u9 g9 0 n9 n9 (tuA q1 a b) (tuB q1 a b) (tuL q1 a b S)) := Px.out.next r9
  replace QT : Q w u9 := QT.trans s9
  obtain ⟨L9, hL9⟩ : ∃ L, v9.heap.size = L := ⟨_, rfl⟩
  rw [hL9] at Bx
  clear q9 r9 s9
  obtain ⟨tx0, tx1, tx2⟩ := id Bx.out
  go_wp2_with fail
  clear hu9 hL9
  refine (pl_turn Px.out BB HQ.out.2.1).mono ?_
  rintro e v10 ⟨g10, n10, rfl, q10, _, _, Py⟩
  clear tx0 tx1 tx2
  obtain ⟨u10, hu10⟩ : ∃ u10, v10.alloc (.cells #[.int .i64 ((tuA q2 (tuA q1 a b) (tuB q1 a b) : Nat) : Int), .int .i64 ((tuB q2 (tuA q1 a b) (tuB q1 a b) : Nat) : Int), .slice (some ⟨g10, 0, none⟩) n10 n10] 25) = u10 := ⟨_, rfl⟩
  have r10 : Q v10 u10 := by rw [← hu10]; exact (Q.refl _).cells _ _
  have By : Hid (PBox u10 v10.heap.size (tuA q2 (tuA q1 a b) (tuB q1 a b)) (tuB q2 (tuA q1 a b) (tuB q1 a b)) (.slice (some ⟨g10, 0, none⟩) n10 n10)) := by rw [← hu10]; exact ⟨by simp [go_sem], by simp [go_sem], by simp [go_sem]⟩
  have s10 : Q u9 u10 := q10.trans r10
  replace Bp : Hid (PBox u10 L0 a b (.slice (some ⟨g, o, none⟩) n cap)) := Bp.out.next s10
  replace Pp : Hid (Pl u10 g o n cap a b S) := Pp.out.next s10
  replace Bf : Hid (PBox u10 L1 (a) (b) (.slice (some ⟨g1, 0, none⟩) n1 n1)) := Bf.out.next s10
  replace Pf : Hid (Pl u10 g1 0 n1 n1 (a) (b) (flX a b S)) := Pf.out.next s10
  replace Bff : Hid (PBox u10 L2 (a) (b) (.slice (some ⟨g2, 0, none⟩) n2 n2)) := Bff.out.next s10
  replace Pff : Hid (Pl u10 g2 0 n2 n2 (a) (b) (flX a b (flX a b S))) := Pff.out.next s10
  replace Bg : Hid (PBox u10 L3 (a) (b) (.slice (some ⟨g3, 0, none⟩) n3 n3)) := Bg.out.next s10
  replace Pg : Hid (Pl u10 g3 0 n3 n3 (a) (b) (flY a b S)) := Pg.out.next s10
  replace Bgg : Hid (PBox u10 L4 (a) (b) (.slice (some ⟨g4, 0, none⟩) n4 n4)) := Bgg.out.next s10
  replace Pgg : Hid (Pl u10 g4 0 n4 n4 (a) (b) (flY a b (flY a b S))) := Pgg.out.next s10
  replace Bt : Hid (PBox u10 L5 (b) (a) (.slice (some ⟨g5, 0, none⟩) n5 n5)) := Bt.out.next s10
  replace Pt : Hid (Pl u10 g5 0 n5 n5 (b) (a) (trL a b S)) := Pt.out.next s10
  replace Btt : Hid (PBox u10 L6 (a) (b) (.slice (some ⟨g6, 0, none⟩) n6 n6)) := Btt.out.next s10
  replace Ptt : Hid (Pl u10 g6 0 n6 n6 (a) (b) (trL b a (trL a b S))) := Ptt.out.next s10
  replace Bq : Hid (PBox u10 L7 (tuA 1 a b) (tuB 1 a b) (.slice (some ⟨g7, 0, none⟩) n7 n7)) := Bq.out.next s10
  replace Pq : Hid (Pl u10 g7 0 n7 n7 (tuA 1 a b) (tuB 1 a b) (tuL 1 a b S)) := Pq.out.next s10
  replace Btf : Hid (PBox u10 L8 (b) (a) (.slice (some ⟨g8, 0, none⟩) n8 n8)) := Btf.out.next s10
  replace Ptf : Hid (Pl u10 g8 0 n8 n8 (b) (a) (flX b a (trL a b S))) := Ptf.out.next s10
  replace Bx : Hid (PBox u10 L9 (tuA q1 a b) (tuB q1 a b) (.slice (some ⟨g9, 0, none⟩) n9 n9)) := Bx.out.next s10
  replace Px : Hid (Pl u10 g9 0 n9 n9 (tuA q1 a b) (tuB q1 a b) (tuL q1 a b S)) := Px.out.next s10
  replace Py : Hid (Pl u10 g10 0 n10 n10 (tuA q2 (tuA q1 a b) (tuB q1 a b)) (tuB q2 (tuA q1 a b) (tuB q1 a b)) (tuL q2 (tuA q1 a b) (tuB q1 a b) (tuL q1 a b S))) := Py.out.next r10
  replace QT : Q w u10 := QT.trans s10
  obtain ⟨L10, hL10⟩ : ∃ L, v10.heap.size = L := ⟨_, rfl⟩
  rw [hL10] at By
  clear q10 r10 s10
  obtain ⟨tp0, tp1, tp2⟩ := id Bp.out
  go_wp2_with fail
  clear hu10 hL10
  refine (pl_turn Pp.out (AA + BB) HQ.out.2.2.1).mono ?_
  rintro e v11 ⟨g11, n11, rfl, q11, _, _, Pz⟩
  clear tp0 tp1 tp2
  obtain ⟨u11, hu11⟩ : ∃ u11, v11.alloc (.cells #[.int .i64 ((tuA q3 a b : Nat) : Int), .int .i64 ((tuB q3 a b : Nat) : Int), .slice (some ⟨g11, 0, none⟩) n11 n11] 25) = u11 := ⟨_, rfl⟩
  have r11 : Q v11 u11 := by rw [← hu11]; exact (Q.refl _).cells _ _
  have Bz : Hid (PBox u11 v11.heap.size (tuA q3 a b) (tuB q3 a b) (.slice (some ⟨g11, 0, none⟩) n11 n11)) := by rw [← hu11]; exact ⟨by simp [go_sem], by simp [go_sem], by simp [go_sem]⟩
  have s11 : Q u10 u11 := q11.trans r11
  replace Bp : Hid (PBox u11 L0 a b (.slice (some ⟨g, o, none⟩) n cap)) := Bp.out.next s11
  replace Pp : Hid (Pl u11 g o n cap a b S) := Pp.out.next s11
  replace Bf : Hid (PBox u11 L1 (a) (b) (.slice (some ⟨g1, 0, none⟩) n1 n1)) := Bf.out.next s11
  replace Pf : Hid (Pl u11 g1 0 n1 n1 (a) (b) (flX a b S)) := Pf.out.next s11
  replace Bff : Hid (PBox u11 L2 (a) (b) (.slice (some ⟨g2, 0, none⟩) n2 n2)) := Bff.out.next s11
  replace Pff : Hid (Pl u11 g2 0 n2 n2 (a) (b) (flX a b (flX a b S))) := Pff.out.next s11
  replace Bg : Hid (PBox u11 L3 (a) (b) (.slice (some ⟨g3, 0, none⟩) n3 n3)) := Bg.out.next s11
  replace Pg : Hid (Pl u11 g3 0 n3 n3 (a) (b) (flY a b S)) := Pg.out.next s11
  replace Bgg : Hid (PBox u11 L4 (a) (b) (.slice (some ⟨g4, 0, none⟩) n4 n4)) := Bgg.out.next s11
  replace Pgg : Hid (Pl u11 g4 0 n4 n4 (a) (b) (flY a b (flY a b S))) := Pgg.out.next s11
  replace Bt : Hid (PBox u11 L5 (b) (a) (.slice (some ⟨g5, 0, none⟩) n5 n5)) := Bt.out.next s11
  replace Pt : Hid (Pl u11 g5 0 n5 n5 (b) (a) (trL a b S)) := Pt.out.next s11
  replace Btt : Hid (PBox u11 L6 (a) (b) (.slice (some ⟨g6, 0, none⟩) n6 n6)) := Btt.out.next s11
  replace Ptt : Hid (Pl u11 g6 0 n6 n6 (a) (b) (trL b a (trL a b S))) := Ptt.out.next s11
  replace Bq : Hid (PBox u11 L7 (tuA 1 a b) (tuB 1 a b) (.slice (some ⟨g7, 0, none⟩) n7 n7)) := Bq.out.next s11
  replace Pq : Hid (Pl u11 g7 0 n7 n7 (tuA 1 a b) (tuB 1 a b) (tuL 1 a b S)) := Pq.out.next s11
  replace Btf : Hid (PBox u11 L8 (b) (a) (.slice (some ⟨g8, 0, none⟩) n8 n8)) := Btf.out.next s11
  replace Ptf : Hid (Pl u11 g8 0 n8 n8 (b) (a) (flX b a (trL a b S))) := Ptf.out.next s11
  replace Bx : Hid (PBox u11 L9 (tuA q1 a b) (tuB q1 a b) (.slice (some ⟨g9, 0, none⟩) n9 n9)) := Bx.out.next s11
  replace Px : Hid (Pl u11 g9 0 n9 n9 (tuA q1 a b) (tuB q1 a b) (tuL q1 a b S)) := Px.out.next s11
  replace By : Hid (PBox u11 L10 (tuA q2 (tuA q1 a b) (tuB q1 a b)) (tuB q2 (tuA q1 a b) (tuB q1 a b)) (.slice (some ⟨g10, 0, none⟩) n10 n10)) := By.out.next s11
  replace Py : Hid (Pl u11 g10 0 n10 n10 (tuA q2 (tuA q1 a b) (tuB q1 a b)) (tuB q2 (tuA q1 a b) (tuB q1 a b)) (tuL q2 (tuA q1 a b) (tuB q1 a b) (tuL q1 a b S))) := Py.out.next s11
  replace Pz : Hid (Pl u11 g11 0 n11 n11 (tuA q3 a b) (tuB q3 a b) (tuL q3 a b S)) := Pz.out.next r11
  replace QT : Q w u11 := QT.trans s11
  obtain ⟨L11, hL11⟩ : ∃ L, v11.heap.size = L := ⟨_, rfl⟩
  rw [hL11] at Bz
  clear q11 r11 s11
  obtain ⟨tp0, tp1, tp2⟩ := id Bp.out
  go_wp2_with fail
  clear hu11 hL11
  refine (pl_turn Pp.out (4 * AA) (q := 0) HQ.out.2.2.2.1).mono ?_
  rintro e v12 ⟨g12, n12, rfl, q12, _, _, Pall⟩
  clear tp0 tp1 tp2
  obtain ⟨u12, hu12⟩ : ∃ u12, v12.alloc (.cells #[.int .i64 ((tuA 0 a b : Nat) : Int), .int .i64 ((tuB 0 a b : Nat) : Int), .slice (some ⟨g12, 0, none⟩) n12 n12] 25) = u12 := ⟨_, rfl⟩
  have r12 : Q v12 u12 := by rw [← hu12]; exact (Q.refl _).cells _ _
  have Ball : Hid (PBox u12 v12.heap.size (tuA 0 a b) (tuB 0 a b) (.slice (some ⟨g12, 0, none⟩) n12 n12)) := by rw [← hu12]; exact ⟨by simp [go_sem], by simp [go_sem], by simp [go_sem]⟩
  have s12 : Q u11 u12 := q12.trans r12
  replace Bp : Hid (PBox u12 L0 a b (.slice (some ⟨g, o, none⟩) n cap)) := Bp.out.next s12
  replace Pp : Hid (Pl u12 g o n cap a b S) := Pp.out.next s12
  replace Bf : Hid (PBox u12 L1 (a) (b) (.slice (some ⟨g1, 0, none⟩) n1 n1)) := Bf.out.next s12
  replace Pf : Hid (Pl u12 g1 0 n1 n1 (a) (b) (flX a b S)) := Pf.out.next s12
  replace Bff : Hid (PBox u12 L2 (a) (b) (.slice (some ⟨g2, 0, none⟩) n2 n2)) := Bff.out.next s12
  replace Pff : Hid (Pl u12 g2 0 n2 n2 (a) (b) (flX a b (flX a b S))) := Pff.out.next s12
  replace Bg : Hid (PBox u12 L3 (a) (b) (.slice (some ⟨g3, 0, none⟩) n3 n3)) := Bg.out.next s12
  replace Pg : Hid (Pl u12 g3 0 n3 n3 (a) (b) (flY a b S)) := Pg.out.next s12
  replace Bgg : Hid (PBox u12 L4 (a) (b) (.slice (some ⟨g4, 0, none⟩) n4 n4)) := Bgg.out.next s12
  replace Pgg : Hid (Pl u12 g4 0 n4 n4 (a) (b) (flY a b (flY a b S))) := Pgg.out.next s12
  replace Bt : Hid (PBox u12 L5 (b) (a) (.slice (some ⟨g5, 0, none⟩) n5 n5)) := Bt.out.next s12
  replace Pt : Hid (Pl u12 g5 0 n5 n5 (b) (a) (trL a b S)) := Pt.out.next s12
  replace Btt : Hid (PBox u12 L6 (a) (b) (.slice (some ⟨g6, 0, none⟩) n6 n6)) := Btt.out.next s12
  replace Ptt : Hid (Pl u12 g6 0 n6 n6 (a) (b) (trL b a (trL a b S))) := Ptt.out.next s12
  replace Bq : Hid (PBox u12 L7 (tuA 1 a b) (tuB 1 a b) (.slice (some ⟨g7, 0, none⟩) n7 n7)) := Bq.out.next s12
  replace Pq : Hid (Pl u12 g7 0 n7 n7 (tuA 1 a b) (tuB 1 a b) (tuL 1 a b S)) := Pq.out.next s12
  replace Btf : Hid (PBox u12 L8 (b) (a) (.slice (some ⟨g8, 0, none⟩) n8 n8)) := Btf.out.next s12
  replace Ptf : Hid (Pl u12 g8 0 n8 n8 (b) (a) (flX b a (trL a b S))) := Ptf.out.next s12
  replace Bx : Hid (PBox u12 L9 (tuA q1 a b) (tuB q1 a b) (.slice (some ⟨g9, 0, none⟩) n9 n9)) := Bx.out.next s12
  replace Px : Hid (Pl u12 g9 0 n9 n9 (tuA q1 a b) (tuB q1 a b) (tuL q1 a b S)) := Px.out.next s12
  replace By : Hid (PBox u12 L10 (tuA q2 (tuA q1 a b) (tuB q1 a b)) (tuB q2 (tuA q1 a b) (tuB q1 a b)) (.slice (some ⟨g10, 0, none⟩) n10 n10)) := By.out.next s12
  replace Py : Hid (Pl u12 g10 0 n10 n10 (tuA q2 (tuA q1 a b) (tuB q1 a b)) (tuB q2 (tuA q1 a b) (tuB q1 a b)) (tuL q2 (tuA q1 a b) (tuB q1 a b) (tuL q1 a b S))) := Py.out.next s12
  replace Bz : Hid (PBox u12 L11 (tuA q3 a b) (tuB q3 a b) (.slice (some ⟨g11, 0, none⟩) n11 n11)) := Bz.out.next s12
  replace Pz : Hid (Pl u12 g11 0 n11 n11 (tuA q3 a b) (tuB q3 a b) (tuL q3 a b S)) := Pz.out.next s12
  replace Pall : Hid (Pl u12 g12 0 n12 n12 (tuA 0 a b) (tuB 0 a b) (tuL 0 a b S)) := Pall.out.next r12
  replace QT : Q w u12 := QT.trans s12
  obtain ⟨L12, hL12⟩ : ∃ L, v12.heap.size = L := ⟨_, rfl⟩
  rw [hL12] at Ball
  clear q12 r12 s12
  obtain ⟨tf0, tf1, tf2⟩ := id Bf.out
  go_wp2_with fail
  clear hu12 hL12
  refine (pl_flipy Pf.out).mono ?_
  rintro e v13 ⟨g13, n13, rfl, q13, _, _, Pfg⟩
  clear tf0 tf1 tf2
  obtain ⟨u13, hu13⟩ : ∃ u13, v13.alloc (.cells #[.int .i64 ((a : Nat) : Int), .int .i64 ((b : Nat) : Int), .slice (some ⟨g13, 0, none⟩) n13 n13] 25) = u13 := ⟨_, rfl⟩
  have r13 : Q v13 u13 := by rw [← hu13]; exact (Q.refl _).cells _ _
  have Bfg : Hid (PBox u13 v13.heap.size (a) (b) (.slice (some ⟨g13, 0, none⟩) n13 n13)) := by rw [← hu13]; exact ⟨by simp [go_sem], by simp [go_sem], by simp [go_sem]⟩
  have s13 : Q u12 u13 := q13.trans r13
  replace Bp : Hid (PBox u13 L0 a b (.slice (some ⟨g, o, none⟩) n cap)) := Bp.out.next s13
  replace Pp : Hid (Pl u13 g o n cap a b S) := Pp.out.next s13
  replace Bf : Hid (PBox u13 L1 (a) (b) (.slice (some ⟨g1, 0, none⟩) n1 n1)) := Bf.out.next s13
  replace Pf : Hid (Pl u13 g1 0 n1 n1 (a) (b) (flX a b S)) := Pf.out.next s13
  replace Bff : Hid (PBox u13 L2 (a) (b) (.slice (some ⟨g2, 0, none⟩) n2 n2)) := Bff.out.next s13
  replace Pff : Hid (Pl u13 g2 0 n2 n2 (a) (b) (flX a b (flX a b S))) := Pff.out.next s13
  replace Bg : Hid (PBox u13 L3 (a) (b) (.slice (some ⟨g3, 0, none⟩) n3 n3)) := Bg.out.next s13
  replace Pg : Hid (Pl u13 g3 0 n3 n3 (a) (b) (flY a b S)) := Pg.out.next s13
  replace Bgg : Hid (PBox u13 L4 (a) (b) (.slice (some ⟨g4, 0, none⟩) n4 n4)) := Bgg.out.next s13
  replace Pgg : Hid (Pl u13 g4 0 n4 n4 (a) (b) (flY a b (flY a b S))) := Pgg.out.next s13
  replace Bt : Hid (PBox u13 L5 (b) (a) (.slice (some ⟨g5, 0, none⟩) n5 n5)) := Bt.out.next s13
  replace Pt : Hid (Pl u13 g5 0 n5 n5 (b) (a) (trL a b S)) := Pt.out.next s13
  replace Btt : Hid (PBox u13 L6 (a) (b) (.slice (some ⟨g6, 0, none⟩) n6 n6)) := Btt.out.next s13
  replace Ptt : Hid (Pl u13 g6 0 n6 n6 (a) (b) (trL b a (trL a b S))) := Ptt.out.next s13
  replace Bq : Hid (PBox u13 L7 (tuA 1 a b) (tuB 1 a b) (.slice (some ⟨g7, 0, none⟩) n7 n7)) := Bq.out.next s13
  replace Pq : Hid (Pl u13 g7 0 n7 n7 (tuA 1 a b) (tuB 1 a b) (tuL 1 a b S)) := Pq.out.next s13
  replace Btf : Hid (PBox u13 L8 (b) (a) (.slice (some ⟨g8, 0, none⟩) n8 n8)) := Btf.out.next s13
  replace Ptf : Hid (Pl u13 g8 0 n8 n8 (b) (a) (flX b a (trL a b S))) := Ptf.out.next s13
  replace Bx : Hid (PBox u13 L9 (tuA q1 a b) (tuB q1 a b) (.slice (some ⟨g9, 0, none⟩) n9 n9)) := Bx.out.next s13
  replace Px : Hid (Pl u13 g9 0 n9 n9 (tuA q1 a b) (tuB q1 a b) (tuL q1 a b S)) := Px.out.next s13
  replace By : Hid (PBox u13 L10 (tuA q2 (tuA q1 a b) (tuB q1 a b)) (tuB q2 (tuA q1 a b) (tuB q1 a b)) (.slice (some ⟨g10, 0, none⟩) n10 n10)) := By.out.next s13
  replace Py : Hid (Pl u13 g10 0 n10 n10 (tuA q2 (tuA q1 a b) (tuB q1 a b)) (tuB q2 (tuA q1 a b) (tuB q1 a b)) (tuL q2 (tuA q1 a b) (tuB q1 a b) (tuL q1 a b S))) := Py.out.next s13
  replace Bz : Hid (PBox u13 L11 (tuA q3 a b) (tuB q3 a b) (.slice (some ⟨g11, 0, none⟩) n11 n11)) := Bz.out.next s13
  replace Pz : Hid (Pl u13 g11 0 n11 n11 (tuA q3 a b) (tuB q3 a b) (tuL q3 a b S)) := Pz.out.next s13
  replace Ball : Hid (PBox u13 L12 (tuA 0 a b) (tuB 0 a b) (.slice (some ⟨g12, 0, none⟩) n12 n12)) := Ball.out.next s13
  replace Pall : Hid (Pl u13 g12 0 n12 n12 (tuA 0 a b) (tuB 0 a b) (tuL 0 a b S)) := Pall.out.next s13
  replace Pfg : Hid (Pl u13 g13 0 n13 n13 (a) (b) (flY a b (flX a b S))) := Pfg.out.next r13
  replace QT : Q w u13 := QT.trans s13
  obtain ⟨L13, hL13⟩ : ∃ L, v13.heap.size = L := ⟨_, rfl⟩
  rw [hL13] at Bfg
  clear q13 r13 s13
  obtain ⟨tp0, tp1, tp2⟩ := id Bp.out
  go_wp2_with fail
  clear hu13 hL13
  refine (pl_turn Pp.out 2 (q := 2) (by decide)).mono ?_
  rintro e v14 ⟨g14, n14, rfl, q14, _, _, Phalf⟩
  clear tp0 tp1 tp2
  obtain ⟨u14, hu14⟩ : ∃ u14, v14.alloc (.cells #[.int .i64 ((tuA 2 a b : Nat) : Int), .int .i64 ((tuB 2 a b : Nat) : Int), .slice (some ⟨g14, 0, none⟩) n14 n14] 25) = u14 := ⟨_, rfl⟩
  have r14 : Q v14 u14 := by rw [← hu14]; exact (Q.refl _).cells _ _
  have Bhalf : Hid (PBox u14 v14.heap.size (tuA 2 a b) (tuB 2 a b) (.slice (some ⟨g14, 0, none⟩) n14 n14)) := by rw [← hu14]; exact ⟨by simp [go_sem], by simp [go_sem], by simp [go_sem]⟩
  have s14 : Q u13 u14 := q14.trans r14
  replace Bp : Hid (PBox u14 L0 a b (.slice (some ⟨g, o, none⟩) n cap)) := Bp.out.next s14
  replace Pp : Hid (Pl u14 g o n cap a b S) := Pp.out.next s14
  replace Bf : Hid (PBox u14 L1 (a) (b) (.slice (some ⟨g1, 0, none⟩) n1 n1)) := Bf.out.next s14
  replace Pf : Hid (Pl u14 g1 0 n1 n1 (a) (b) (flX a b S)) := Pf.out.next s14
  replace Bff : Hid (PBox u14 L2 (a) (b) (.slice (some ⟨g2, 0, none⟩) n2 n2)) := Bff.out.next s14
  replace Pff : Hid (Pl u14 g2 0 n2 n2 (a) (b) (flX a b (flX a b S))) := Pff.out.next s14
  replace Bg : Hid (PBox u14 L3 (a) (b) (.slice (some ⟨g3, 0, none⟩) n3 n3)) := Bg.out.next s14
  replace Pg : Hid (Pl u14 g3 0 n3 n3 (a) (b) (flY a b S)) := Pg.out.next s14
  replace Bgg : Hid (PBox u14 L4 (a) (b) (.slice (some ⟨g4, 0, none⟩) n4 n4)) := Bgg.out.next s14
  replace Pgg : Hid (Pl u14 g4 0 n4 n4 (a) (b) (flY a b (flY a b S))) := Pgg.out.next s14
  replace Bt : Hid (PBox u14 L5 (b) (a) (.slice (some ⟨g5, 0, none⟩) n5 n5)) := Bt.out.next s14
  replace Pt : Hid (Pl u14 g5 0 n5 n5 (b) (a) (trL a b S)) := Pt.out.next s14
  replace Btt : Hid (PBox u14 L6 (a) (b) (.slice (some ⟨g6, 0, none⟩) n6 n6)) := Btt.out.next s14
  replace Ptt : Hid (Pl u14 g6 0 n6 n6 (a) (b) (trL b a (trL a b S))) := Ptt.out.next s14
  replace Bq : Hid (PBox u14 L7 (tuA 1 a b) (tuB 1 a b) (.slice (some ⟨g7, 0, none⟩) n7 n7)) := Bq.out.next s14
  replace Pq : Hid (Pl u14 g7 0 n7 n7 (tuA 1 a b) (tuB 1 a b) (tuL 1 a b S)) := Pq.out.next s14
  replace Btf : Hid (PBox u14 L8 (b) (a) (.slice (some ⟨g8, 0, none⟩) n8 n8)) := Btf.out.next s14
  replace Ptf : Hid (Pl u14 g8 0 n8 n8 (b) (a) (flX b a (trL a b S))) := Ptf.out.next s14
  replace Bx : Hid (PBox u14 L9 (tuA q1 a b) (tuB q1 a b) (.slice (some ⟨g9, 0, none⟩) n9 n9)) := Bx.out.next s14
  replace Px : Hid (Pl u14 g9 0 n9 n9 (tuA q1 a b) (tuB q1 a b) (tuL q1 a b S)) := Px.out.next s14
  replace By : Hid (PBox u14 L10 (tuA q2 (tuA q1 a b) (tuB q1 a b)) (tuB q2 (tuA q1 a b) (tuB q1 a b)) (.slice (some ⟨g10, 0, none⟩) n10 n10)) := By.out.next s14
  replace Py : Hid (Pl u14 g10 0 n10 n10 (tuA q2 (tuA q1 a b) (tuB q1 a b)) (tuB q2 (tuA q1 a b) (tuB q1 a b)) (tuL q2 (tuA q1 a b) (tuB q1 a b) (tuL q1 a b S))) := Py.out.next s14
  replace Bz : Hid (PBox u14 L11 (tuA q3 a b) (tuB q3 a b) (.slice (some ⟨g11, 0, none⟩) n11 n11)) := Bz.out.next s14
  replace Pz : Hid (Pl u14 g11 0 n11 n11 (tuA q3 a b) (tuB q3 a b) (tuL q3 a b S)) := Pz.out.next s14
  replace Ball : Hid (PBox u14 L12 (tuA 0 a b) (tuB 0 a b) (.slice (some ⟨g12, 0, none⟩) n12 n12)) := Ball.out.next s14
  replace Pall : Hid (Pl u14 g12 0 n12 n12 (tuA 0 a b) (tuB 0 a b) (tuL 0 a b S)) := Pall.out.next s14
  replace Bfg : Hid (PBox u14 L13 (a) (b) (.slice (some ⟨g13, 0, none⟩) n13 n13)) := Bfg.out.next s14
  replace Pfg : Hid (Pl u14 g13 0 n13 n13 (a) (b) (flY a b (flX a b S))) := Pfg.out.next s14
  replace Phalf : Hid (Pl u14 g14 0 n14 n14 (tuA 2 a b) (tuB 2 a b) (tuL 2 a b S)) := Phalf.out.next r14
  replace QT : Q w u14 := QT.trans s14
  obtain ⟨L14, hL14⟩ : ∃ L, v14.heap.size = L := ⟨_, rfl⟩
  rw [hL14] at Bhalf
  clear q14 r14 s14
  obtain ⟨tff0, tff1, tff2⟩ := id Bff.out
  obtain ⟨tp0, tp1, tp2⟩ := id Bp.out
  go_wp2_with fail
  clear hu14 hL14
  refine (pl_same Pff.out Pp.out (rfl) (rfl) (flX_flX HLen.out)).mono ?_
  rintro e v15 ⟨rfl, q15⟩
  clear tff0 tff1 tff2
  clear tp0 tp1 tp2
  replace Bp : Hid (PBox v15 L0 a b (.slice (some ⟨g, o, none⟩) n cap)) := Bp.out.next q15
  replace Pp : Hid (Pl v15 g o n cap a b S) := Pp.out.next q15
  replace Bf : Hid (PBox v15 L1 (a) (b) (.slice (some ⟨g1, 0, none⟩) n1 n1)) := Bf.out.next q15
  replace Pf : Hid (Pl v15 g1 0 n1 n1 (a) (b) (flX a b S)) := Pf.out.next q15
  replace Bff : Hid (PBox v15 L2 (a) (b) (.slice (some ⟨g2, 0, none⟩) n2 n2)) := Bff.out.next q15
  replace Pff : Hid (Pl v15 g2 0 n2 n2 (a) (b) (flX a b (flX a b S))) := Pff.out.next q15
  replace Bg : Hid (PBox v15 L3 (a) (b) (.slice (some ⟨g3, 0, none⟩) n3 n3)) := Bg.out.next q15
  replace Pg : Hid (Pl v15 g3 0 n3 n3 (a) (b) (flY a b S)) := Pg.out.next q15
  replace Bgg : Hid (PBox v15 L4 (a) (b) (.slice (some ⟨g4, 0, none⟩) n4 n4)) := Bgg.out.next q15
  replace Pgg : Hid (Pl v15 g4 0 n4 n4 (a) (b) (flY a b (flY a b S))) := Pgg.out.next q15
  replace Bt : Hid (PBox v15 L5 (b) (a) (.slice (some ⟨g5, 0, none⟩) n5 n5)) := Bt.out.next q15
  replace Pt : Hid (Pl v15 g5 0 n5 n5 (b) (a) (trL a b S)) := Pt.out.next q15
  replace Btt : Hid (PBox v15 L6 (a) (b) (.slice (some ⟨g6, 0, none⟩) n6 n6)) := Btt.out.next q15
  replace Ptt : Hid (Pl v15 g6 0 n6 n6 (a) (b) (trL b a (trL a b S))) := Ptt.out.next q15
  replace Bq : Hid (PBox v15 L7 (tuA 1 a b) (tuB 1 a b) (.slice (some ⟨g7, 0, none⟩) n7 n7)) := Bq.out.next q15
  replace Pq : Hid (Pl v15 g7 0 n7 n7 (tuA 1 a b) (tuB 1 a b) (tuL 1 a b S)) := Pq.out.next q15
  replace Btf : Hid (PBox v15 L8 (b) (a) (.slice (some ⟨g8, 0, none⟩) n8 n8)) := Btf.out.next q15
  replace Ptf : Hid (Pl v15 g8 0 n8 n8 (b) (a) (flX b a (trL a b S))) := Ptf.out.next q15
  replace Bx : Hid (PBox v15 L9 (tuA q1 a b) (tuB q1 a b) (.slice (some ⟨g9, 0, none⟩) n9 n9)) := Bx.out.next q15
  replace Px : Hid (Pl v15 g9 0 n9 n9 (tuA q1 a b) (tuB q1 a b) (tuL q1 a b S)) := Px.out.next q15
  replace By : Hid (PBox v15 L10 (tuA q2 (tuA q1 a b) (tuB q1 a b)) (tuB q2 (tuA q1 a b) (tuB q1 a b)) (.slice (some ⟨g10, 0, none⟩) n10 n10)) := By.out.next q15
  replace Py : Hid (Pl v15 g10 0 n10 n10 (tuA q2 (tuA q1 a b) (tuB q1 a b)) (tuB q2 (tuA q1 a b) (tuB q1 a b)) (tuL q2 (tuA q1 a b) (tuB q1 a b) (tuL q1 a b S))) := Py.out.next q15
  replace Bz : Hid (PBox v15 L11 (tuA q3 a b) (tuB q3 a b) (.slice (some ⟨g11, 0, none⟩) n11 n11)) := Bz.out.next q15
  replace Pz : Hid (Pl v15 g11 0 n11 n11 (tuA q3 a b) (tuB q3 a b) (tuL q3 a b S)) := Pz.out.next q15
  replace Ball : Hid (PBox v15 L12 (tuA 0 a b) (tuB 0 a b) (.slice (some ⟨g12, 0, none⟩) n12 n12)) := Ball.out.next q15
  replace Pall : Hid (Pl v15 g12 0 n12 n12 (tuA 0 a b) (tuB 0 a b) (tuL 0 a b S)) := Pall.out.next q15
  replace Bfg : Hid (PBox v15 L13 (a) (b) (.slice (some ⟨g13, 0, none⟩) n13 n13)) := Bfg.out.next q15
  replace Pfg : Hid (Pl v15 g13 0 n13 n13 (a) (b) (flY a b (flX a b S))) := Pfg.out.next q15
  replace Bhalf : Hid (PBox v15 L14 (tuA 2 a b) (tuB 2 a b) (.slice (some ⟨g14, 0, none⟩) n14 n14)) := Bhalf.out.next q15
  replace Phalf : Hid (Pl v15 g14 0 n14 n14 (tuA 2 a b) (tuB 2 a b) (tuL 2 a b S)) := Phalf.out.next q15
  replace QT := QT.trans q15
  clear q15
  obtain ⟨tgg0, tgg1, tgg2⟩ := id Bgg.out
  obtain ⟨tp0, tp1, tp2⟩ := id Bp.out
  go_wp2_with fail
  refine (pl_same Pgg.out Pp.out (rfl) (rfl) (flY_flY HLen.out)).mono ?_
  rintro e v16 ⟨rfl, q16⟩
  clear tgg0 tgg1 tgg2
  clear tp0 tp1 tp2
  replace Bp : Hid (PBox v16 L0 a b (.slice (some ⟨g, o, none⟩) n cap)) := Bp.out.next q16
  replace Pp : Hid (Pl v16 g o n cap a b S) := Pp.out.next q16
  replace Bf : Hid (PBox v16 L1 (a) (b) (.slice (some ⟨g1, 0, none⟩) n1 n1)) := Bf.out.next q16
  replace Pf : Hid (Pl v16 g1 0 n1 n1 (a) (b) (flX a b S)) := Pf.out.next q16
  replace Bff : Hid (PBox v16 L2 (a) (b) (.slice (some ⟨g2, 0, none⟩) n2 n2)) := Bff.out.next q16
  replace Pff : Hid (Pl v16 g2 0 n2 n2 (a) (b) (flX a b (flX a b S))) := Pff.out.next q16
  replace Bg : Hid (PBox v16 L3 (a) (b) (.slice (some ⟨g3, 0, none⟩) n3 n3)) := Bg.out.next q16
  replace Pg : Hid (Pl v16 g3 0 n3 n3 (a) (b) (flY a b S)) := Pg.out.next q16
  replace Bgg : Hid (PBox v16 L4 (a) (b) (.slice (some ⟨g4, 0, none⟩) n4 n4)) := Bgg.out.next q16
  replace Pgg : Hid (Pl v16 g4 0 n4 n4 (a) (b) (flY a b (flY a b S))) := Pgg.out.next q16
  replace Bt : Hid (PBox v16 L5 (b) (a) (.slice (some ⟨g5, 0, none⟩) n5 n5)) := Bt.out.next q16
  replace Pt : Hid (Pl v16 g5 0 n5 n5 (b) (a) (trL a b S)) := Pt.out.next q16
  replace Btt : Hid (PBox v16 L6 (a) (b) (.slice (some ⟨g6, 0, none⟩) n6 n6)) := Btt.out.next q16
  replace Ptt : Hid (Pl v16 g6 0 n6 n6 (a) (b) (trL b a (trL a b S))) := Ptt.out.next q16
  replace Bq : Hid (PBox v16 L7 (tuA 1 a b) (tuB 1 a b) (.slice (some ⟨g7, 0, none⟩) n7 n7)) := Bq.out.next q16
  replace Pq : Hid (Pl v16 g7 0 n7 n7 (tuA 1 a b) (tuB 1 a b) (tuL 1 a b S)) := Pq.out.next q16
  replace Btf : Hid (PBox v16 L8 (b) (a) (.slice (some ⟨g8, 0, none⟩) n8 n8)) := Btf.out.next q16
  replace Ptf : Hid (Pl v16 g8 0 n8 n8 (b) (a) (flX b a (trL a b S))) := Ptf.out.next q16
  replace Bx : Hid (PBox v16 L9 (tuA q1 a b) (tuB q1 a b) (.slice (some ⟨g9, 0, none⟩) n9 n9)) := Bx.out.next q16
  replace Px : Hid (Pl v16 g9 0 n9 n9 (tuA q1 a b) (tuB q1 a b) (tuL q1 a b S)) := Px.out.next q16
  replace By : Hid (PBox v16 L10 (tuA q2 (tuA q1 a b) (tuB q1 a b)) (tuB q2 (tuA q1 a b) (tuB q1 a b)) (.slice (some ⟨g10, 0, none⟩) n10 n10)) := By.out.next q16
  replace Py : Hid (Pl v16 g10 0 n10 n10 (tuA q2 (tuA q1 a b) (tuB q1 a b)) (tuB q2 (tuA q1 a b) (tuB q1 a b)) (tuL q2 (tuA q1 a b) (tuB q1 a b) (tuL q1 a b S))) := Py.out.next q16
  replace Bz : Hid (PBox v16 L11 (tuA q3 a b) (tuB q3 a b) (.slice (some ⟨g11, 0, none⟩) n11 n11)) := Bz.out.next q16
  replace Pz : Hid (Pl v16 g11 0 n11 n11 (tuA q3 a b) (tuB q3 a b) (tuL q3 a b S)) := Pz.out.next q16
  replace Ball : Hid (PBox v16 L12 (tuA 0 a b) (tuB 0 a b) (.slice (some ⟨g12, 0, none⟩) n12 n12)) := Ball.out.next q16
  replace Pall : Hid (Pl v16 g12 0 n12 n12 (tuA 0 a b) (tuB 0 a b) (tuL 0 a b S)) := Pall.out.next q16
  replace Bfg : Hid (PBox v16 L13 (a) (b) (.slice (some ⟨g13, 0, none⟩) n13 n13)) := Bfg.out.next q16
  replace Pfg : Hid (Pl v16 g13 0 n13 n13 (a) (b) (flY a b (flX a b S))) := Pfg.out.next q16
  replace Bhalf : Hid (PBox v16 L14 (tuA 2 a b) (tuB 2 a b) (.slice (some ⟨g14, 0, none⟩) n14 n14)) := Bhalf.out.next q16
  replace Phalf : Hid (Pl v16 g14 0 n14 n14 (tuA 2 a b) (tuB 2 a b) (tuL 2 a b S)) := Phalf.out.next q16
  replace QT := QT.trans q16
  clear q16
  obtain ⟨ttt0, ttt1, ttt2⟩ := id Btt.out
  obtain ⟨tp0, tp1, tp2⟩ := id Bp.out
  go_wp2_with fail
  refine (pl_same Ptt.out Pp.out (rfl) (rfl) (trL_trL HLen.out)).mono ?_
  rintro e v17 ⟨rfl, q17⟩
  clear ttt0 ttt1 ttt2
  clear tp0 tp1 tp2
  replace Bp : Hid (PBox v17 L0 a b (.slice (some ⟨g, o, none⟩) n cap)) := Bp.out.next q17
  replace Pp : Hid (Pl v17 g o n cap a b S) := Pp.out.next q17
  replace Bf : Hid (PBox v17 L1 (a) (b) (.slice (some ⟨g1, 0, none⟩) n1 n1)) := Bf.out.next q17
  replace Pf : Hid (Pl v17 g1 0 n1 n1 (a) (b) (flX a b S)) := Pf.out.next q17
  replace Bff : Hid (PBox v17 L2 (a) (b) (.slice (some ⟨g2, 0, none⟩) n2 n2)) := Bff.out.next q17
  replace Pff : Hid (Pl v17 g2 0 n2 n2 (a) (b) (flX a b (flX a b S))) := Pff.out.next q17
  replace Bg : Hid (PBox v17 L3 (a) (b) (.slice (some ⟨g3, 0, none⟩) n3 n3)) := Bg.out.next q17
  replace Pg : Hid (Pl v17 g3 0 n3 n3 (a) (b) (flY a b S)) := Pg.out.next q17
  replace Bgg : Hid (PBox v17 L4 (a) (b) (.slice (some ⟨g4, 0, none⟩) n4 n4)) := Bgg.out.next q17
  replace Pgg : Hid (Pl v17 g4 0 n4 n4 (a) (b) (flY a b (flY a b S))) := Pgg.out.next q17
  replace Bt : Hid (PBox v17 L5 (b) (a) (.slice (some ⟨g5, 0, none⟩) n5 n5)) := Bt.out.next q17
  replace Pt : Hid (Pl v17 g5 0 n5 n5 (b) (a) (trL a b S)) := Pt.out.next q17
  replace Btt : Hid (PBox v17 L6 (a) (b) (.slice (some ⟨g6, 0, none⟩) n6 n6)) := Btt.out.next q17
  replace Ptt : Hid (Pl v17 g6 0 n6 n6 (a) (b) (trL b a (trL a b S))) := Ptt.out.next q17
  replace Bq : Hid (PBox v17 L7 (tuA 1 a b) (tuB 1 a b) (.slice (some ⟨g7, 0, none⟩) n7 n7)) := Bq.out.next q17
  replace Pq : Hid (Pl v17 g7 0 n7 n7 (tuA 1 a b) (tuB 1 a b) (tuL 1 a b S)) := Pq.out.next q17
  replace Btf : Hid (PBox v17 L8 (b) (a) (.slice (some ⟨g8, 0, none⟩) n8 n8)) := Btf.out.next q17
  replace Ptf : Hid (Pl v17 g8 0 n8 n8 (b) (a) (flX b a (trL a b S))) := Ptf.out.next q17
  replace Bx : Hid (PBox v17 L9 (tuA q1 a b) (tuB q1 a b) (.slice (some ⟨g9, 0, none⟩) n9 n9)) := Bx.out.next q17
  replace Px : Hid (Pl v17 g9 0 n9 n9 (tuA q1 a b) (tuB q1 a b) (tuL q1 a b S)) := Px.out.next q17
  replace By : Hid (PBox v17 L10 (tuA q2 (tuA q1 a b) (tuB q1 a b)) (tuB q2 (tuA q1 a b) (tuB q1 a b)) (.slice (some ⟨g10, 0, none⟩) n10 n10)) := By.out.next q17
  replace Py : Hid (Pl v17 g10 0 n10 n10 (tuA q2 (tuA q1 a b) (tuB q1 a b)) (tuB q2 (tuA q1 a b) (tuB q1 a b)) (tuL q2 (tuA q1 a b) (tuB q1 a b) (tuL q1 a b S))) := Py.out.next q17
  replace Bz : Hid (PBox v17 L11 (tuA q3 a b) (tuB q3 a b) (.slice (some ⟨g11, 0, none⟩) n11 n11)) := Bz.out.next q17
  replace Pz : Hid (Pl v17 g11 0 n11 n11 (tuA q3 a b) (tuB q3 a b) (tuL q3 a b S)) := Pz.out.next q17
  replace Ball : Hid (PBox v17 L12 (tuA 0 a b) (tuB 0 a b) (.slice (some ⟨g12, 0, none⟩) n12 n12)) := Ball.out.next q17
  replace Pall : Hid (Pl v17 g12 0 n12 n12 (tuA 0 a b) (tuB 0 a b) (tuL 0 a b S)) := Pall.out.next q17
  replace Bfg : Hid (PBox v17 L13 (a) (b) (.slice (some ⟨g13, 0, none⟩) n13 n13)) := Bfg.out.next q17
  replace Pfg : Hid (Pl v17 g13 0 n13 n13 (a) (b) (flY a b (flX a b S))) := Pfg.out.next q17
  replace Bhalf : Hid (PBox v17 L14 (tuA 2 a b) (tuB 2 a b) (.slice (some ⟨g14, 0, none⟩) n14 n14)) := Bhalf.out.next q17
  replace Phalf : Hid (Pl v17 g14 0 n14 n14 (tuA 2 a b) (tuB 2 a b) (tuL 2 a b S)) := Phalf.out.next q17
  replace QT := QT.trans q17
  clear q17
  obtain ⟨tq0, tq1, tq2⟩ := id Bq.out
  obtain ⟨ttf0, ttf1, ttf2⟩ := id Btf.out
  go_wp2_with fail
  refine (pl_same Pq.out Ptf.out (rfl) (rfl) (tuL_one)).mono ?_
  rintro e v18 ⟨rfl, q18⟩
  clear tq0 tq1 tq2
  clear ttf0 ttf1 ttf2
  replace Bp : Hid (PBox v18 L0 a b (.slice (some ⟨g, o, none⟩) n cap)) := Bp.out.next q18
  replace Pp : Hid (Pl v18 g o n cap a b S) := Pp.out.next q18
  replace Bf : Hid (PBox v18 L1 (a) (b) (.slice (some ⟨g1, 0, none⟩) n1 n1)) := Bf.out.next q18
  replace Pf : Hid (Pl v18 g1 0 n1 n1 (a) (b) (flX a b S)) := Pf.out.next q18
  replace Bff : Hid (PBox v18 L2 (a) (b) (.slice (some ⟨g2, 0, none⟩) n2 n2)) := Bff.out.next q18
  replace Pff : Hid (Pl v18 g2 0 n2 n2 (a) (b) (flX a b (flX a b S))) := Pff.out.next q18
  replace Bg : Hid (PBox v18 L3 (a) (b) (.slice (some ⟨g3, 0, none⟩) n3 n3)) := Bg.out.next q18
  replace Pg : Hid (Pl v18 g3 0 n3 n3 (a) (b) (flY a b S)) := Pg.out.next q18
  replace Bgg : Hid (PBox v18 L4 (a) (b) (.slice (some ⟨g4, 0, none⟩) n4 n4)) := Bgg.out.next q18
  replace Pgg : Hid (Pl v18 g4 0 n4 n4 (a) (b) (flY a b (flY a b S))) := Pgg.out.next q18
  replace Bt : Hid (PBox v18 L5 (b) (a) (.slice (some ⟨g5, 0, none⟩) n5 n5)) := Bt.out.next q18
  replace Pt : Hid (Pl v18 g5 0 n5 n5 (b) (a) (trL a b S)) := Pt.out.next q18
  replace Btt : Hid (PBox v18 L6 (a) (b) (.slice (some ⟨g6, 0, none⟩) n6 n6)) := Btt.out.next q18
  replace Ptt : Hid (Pl v18 g6 0 n6 n6 (a) (b) (trL b a (trL a b S))) := Ptt.out.next q18
  replace Bq : Hid (PBox v18 L7 (tuA 1 a b) (tuB 1 a b) (.slice (some ⟨g7, 0, none⟩) n7 n7)) := Bq.out.next q18
  replace Pq : Hid (Pl v18 g7 0 n7 n7 (tuA 1 a b) (tuB 1 a b) (tuL 1 a b S)) := Pq.out.next q18
  replace Btf : Hid (PBox v18 L8 (b) (a) (.slice (some ⟨g8, 0, none⟩) n8 n8)) := Btf.out.next q18
  replace Ptf : Hid (Pl v18 g8 0 n8 n8 (b) (a) (flX b a (trL a b S))) := Ptf.out.next q18
  replace Bx : Hid (PBox v18 L9 (tuA q1 a b) (tuB q1 a b) (.slice (some ⟨g9, 0, none⟩) n9 n9)) := Bx.out.next q18
  replace Px : Hid (Pl v18 g9 0 n9 n9 (tuA q1 a b) (tuB q1 a b) (tuL q1 a b S)) := Px.out.next q18
  replace By : Hid (PBox v18 L10 (tuA q2 (tuA q1 a b) (tuB q1 a b)) (tuB q2 (tuA q1 a b) (tuB q1 a b)) (.slice (some ⟨g10, 0, none⟩) n10 n10)) := By.out.next q18
  replace Py : Hid (Pl v18 g10 0 n10 n10 (tuA q2 (tuA q1 a b) (tuB q1 a b)) (tuB q2 (tuA q1 a b) (tuB q1 a b)) (tuL q2 (tuA q1 a b) (tuB q1 a b) (tuL q1 a b S))) := Py.out.next q18
  replace Bz : Hid (PBox v18 L11 (tuA q3 a b) (tuB q3 a b) (.slice (some ⟨g11, 0, none⟩) n11 n11)) := Bz.out.next q18
  replace Pz : Hid (Pl v18 g11 0 n11 n11 (tuA q3 a b) (tuB q3 a b) (tuL q3 a b S)) := Pz.out.next q18
  replace Ball : Hid (PBox v18 L12 (tuA 0 a b) (tuB 0 a b) (.slice (some ⟨g12, 0, none⟩) n12 n12)) := Ball.out.next q18
  replace Pall : Hid (Pl v18 g12 0 n12 n12 (tuA 0 a b) (tuB 0 a b) (tuL 0 a b S)) := Pall.out.next q18
  replace Bfg : Hid (PBox v18 L13 (a) (b) (.slice (some ⟨g13, 0, none⟩) n13 n13)) := Bfg.out.next q18
  replace Pfg : Hid (Pl v18 g13 0 n13 n13 (a) (b) (flY a b (flX a b S))) := Pfg.out.next q18
  replace Bhalf : Hid (PBox v18 L14 (tuA 2 a b) (tuB 2 a b) (.slice (some ⟨g14, 0, none⟩) n14 n14)) := Bhalf.out.next q18
  replace Phalf : Hid (Pl v18 g14 0 n14 n14 (tuA 2 a b) (tuB 2 a b) (tuL 2 a b S)) := Phalf.out.next q18
  replace QT := QT.trans q18
  clear q18
  obtain ⟨ty0, ty1, ty2⟩ := id By.out
  obtain ⟨tz0, tz1, tz2⟩ := id Bz.out
  go_wp2_with fail
  refine (pl_same Py.out Pz.out ((tuA_add HQ.out.2.2.2.2.1 HQ.out.2.2.2.2.2.1 HQ.out.2.2.2.2.2.2).1) ((tuA_add HQ.out.2.2.2.2.1 HQ.out.2.2.2.2.2.1 HQ.out.2.2.2.2.2.2).2) (tuL_add HQ.out.2.2.2.2.1 HQ.out.2.2.2.2.2.1 HQ.out.2.2.2.2.2.2 HSz.out)).mono ?_
  rintro e v19 ⟨rfl, q19⟩
  clear ty0 ty1 ty2
  clear tz0 tz1 tz2
  replace Bp : Hid (PBox v19 L0 a b (.slice (some ⟨g, o, none⟩) n cap)) := Bp.out.next q19
  replace Pp : Hid (Pl v19 g o n cap a b S) := Pp.out.next q19
  replace Bf : Hid (PBox v19 L1 (a) (b) (.slice (some ⟨g1, 0, none⟩) n1 n1)) := Bf.out.next q19
  replace Pf : Hid (Pl v19 g1 0 n1 n1 (a) (b) (flX a b S)) := Pf.out.next q19
  replace Bff : Hid (PBox v19 L2 (a) (b) (.slice (some ⟨g2, 0, none⟩) n2 n2)) := Bff.out.next q19
  replace Pff : Hid (Pl v19 g2 0 n2 n2 (a) (b) (flX a b (flX a b S))) := Pff.out.next q19
  replace Bg : Hid (PBox v19 L3 (a) (b) (.slice (some ⟨g3, 0, none⟩) n3 n3)) := Bg.out.next q19
  replace Pg : Hid (Pl v19 g3 0 n3 n3 (a) (b) (flY a b S)) := Pg.out.next q19
  replace Bgg : Hid (PBox v19 L4 (a) (b) (.slice (some ⟨g4, 0, none⟩) n4 n4)) := Bgg.out.next q19
  replace Pgg : Hid (Pl v19 g4 0 n4 n4 (a) (b) (flY a b (flY a b S))) := Pgg.out.next q19
  replace Bt : Hid (PBox v19 L5 (b) (a) (.slice (some ⟨g5, 0, none⟩) n5 n5)) := Bt.out.next q19
  replace Pt : Hid (Pl v19 g5 0 n5 n5 (b) (a) (trL a b S)) := Pt.out.next q19
  replace Btt : Hid (PBox v19 L6 (a) (b) (.slice (some ⟨g6, 0, none⟩) n6 n6)) := Btt.out.next q19
  replace Ptt : Hid (Pl v19 g6 0 n6 n6 (a) (b) (trL b a (trL a b S))) := Ptt.out.next q19
  replace Bq : Hid (PBox v19 L7 (tuA 1 a b) (tuB 1 a b) (.slice (some ⟨g7, 0, none⟩) n7 n7)) := Bq.out.next q19
  replace Pq : Hid (Pl v19 g7 0 n7 n7 (tuA 1 a b) (tuB 1 a b) (tuL 1 a b S)) := Pq.out.next q19
  replace Btf : Hid (PBox v19 L8 (b) (a) (.slice (some ⟨g8, 0, none⟩) n8 n8)) := Btf.out.next q19
  replace Ptf : Hid (Pl v19 g8 0 n8 n8 (b) (a) (flX b a (trL a b S))) := Ptf.out.next q19
  replace Bx : Hid (PBox v19 L9 (tuA q1 a b) (tuB q1 a b) (.slice (some ⟨g9, 0, none⟩) n9 n9)) := Bx.out.next q19
  replace Px : Hid (Pl v19 g9 0 n9 n9 (tuA q1 a b) (tuB q1 a b) (tuL q1 a b S)) := Px.out.next q19
  replace By : Hid (PBox v19 L10 (tuA q2 (tuA q1 a b) (tuB q1 a b)) (tuB q2 (tuA q1 a b) (tuB q1 a b)) (.slice (some ⟨g10, 0, none⟩) n10 n10)) := By.out.next q19
  replace Py : Hid (Pl v19 g10 0 n10 n10 (tuA q2 (tuA q1 a b) (tuB q1 a b)) (tuB q2 (tuA q1 a b) (tuB q1 a b)) (tuL q2 (tuA q1 a b) (tuB q1 a b) (tuL q1 a b S))) := Py.out.next q19
  replace Bz : Hid (PBox v19 L11 (tuA q3 a b) (tuB q3 a b) (.slice (some ⟨g11, 0, none⟩) n11 n11)) := Bz.out.next q19
  replace Pz : Hid (Pl v19 g11 0 n11 n11 (tuA q3 a b) (tuB q3 a b) (tuL q3 a b S)) := Pz.out.next q19
  replace Ball : Hid (PBox v19 L12 (tuA 0 a b) (tuB 0 a b) (.slice (some ⟨g12, 0, none⟩) n12 n12)) := Ball.out.next q19
  replace Pall : Hid (Pl v19 g12 0 n12 n12 (tuA 0 a b) (tuB 0 a b) (tuL 0 a b S)) := Pall.out.next q19
  replace Bfg : Hid (PBox v19 L13 (a) (b) (.slice (some ⟨g13, 0, none⟩) n13 n13)) := Bfg.out.next q19
  replace Pfg : Hid (Pl v19 g13 0 n13 n13 (a) (b) (flY a b (flX a b S))) := Pfg.out.next q19
  replace Bhalf : Hid (PBox v19 L14 (tuA 2 a b) (tuB 2 a b) (.slice (some ⟨g14, 0, none⟩) n14 n14)) := Bhalf.out.next q19
  replace Phalf : Hid (Pl v19 g14 0 n14 n14 (tuA 2 a b) (tuB 2 a b) (tuL 2 a b S)) := Phalf.out.next q19
  replace QT := QT.trans q19
  clear q19
  obtain ⟨tall0, tall1, tall2⟩ := id Ball.out
  obtain ⟨tp0, tp1, tp2⟩ := id Bp.out
  go_wp2_with fail
  refine (pl_same Pall.out Pp.out (rfl) (rfl) (tuL_zero HLen.out)).mono ?_
  rintro e v20 ⟨rfl, q20⟩
  clear tall0 tall1 tall2
  clear tp0 tp1 tp2
  replace Bp : Hid (PBox v20 L0 a b (.slice (some ⟨g, o, none⟩) n cap)) := Bp.out.next q20
  replace Pp : Hid (Pl v20 g o n cap a b S) := Pp.out.next q20
  replace Bf : Hid (PBox v20 L1 (a) (b) (.slice (some ⟨g1, 0, none⟩) n1 n1)) := Bf.out.next q20
  replace Pf : Hid (Pl v20 g1 0 n1 n1 (a) (b) (flX a b S)) := Pf.out.next q20
  replace Bff : Hid (PBox v20 L2 (a) (b) (.slice (some ⟨g2, 0, none⟩) n2 n2)) := Bff.out.next q20
  replace Pff : Hid (Pl v20 g2 0 n2 n2 (a) (b) (flX a b (flX a b S))) := Pff.out.next q20
  replace Bg : Hid (PBox v20 L3 (a) (b) (.slice (some ⟨g3, 0, none⟩) n3 n3)) := Bg.out.next q20
  replace Pg : Hid (Pl v20 g3 0 n3 n3 (a) (b) (flY a b S)) := Pg.out.next q20
  replace Bgg : Hid (PBox v20 L4 (a) (b) (.slice (some ⟨g4, 0, none⟩) n4 n4)) := Bgg.out.next q20
  replace Pgg : Hid (Pl v20 g4 0 n4 n4 (a) (b) (flY a b (flY a b S))) := Pgg.out.next q20
  replace Bt : Hid (PBox v20 L5 (b) (a) (.slice (some ⟨g5, 0, none⟩) n5 n5)) := Bt.out.next q20
  replace Pt : Hid (Pl v20 g5 0 n5 n5 (b) (a) (trL a b S)) := Pt.out.next q20
  replace Btt : Hid (PBox v20 L6 (a) (b) (.slice (some ⟨g6, 0, none⟩) n6 n6)) := Btt.out.next q20
  replace Ptt : Hid (Pl v20 g6 0 n6 n6 (a) (b) (trL b a (trL a b S))) := Ptt.out.next q20
  replace Bq : Hid (PBox v20 L7 (tuA 1 a b) (tuB 1 a b) (.slice (some ⟨g7, 0, none⟩) n7 n7)) := Bq.out.next q20
  replace Pq : Hid (Pl v20 g7 0 n7 n7 (tuA 1 a b) (tuB 1 a b) (tuL 1 a b S)) := Pq.out.next q20
  replace Btf : Hid (PBox v20 L8 (b) (a) (.slice (some ⟨g8, 0, none⟩) n8 n8)) := Btf.out.next q20
  replace Ptf : Hid (Pl v20 g8 0 n8 n8 (b) (a) (flX b a (trL a b S))) := Ptf.out.next q20
  replace Bx : Hid (PBox v20 L9 (tuA q1 a b) (tuB q1 a b) (.slice (some ⟨g9, 0, none⟩) n9 n9)) := Bx.out.next q20
  replace Px : Hid (Pl v20 g9 0 n9 n9 (tuA q1 a b) (tuB q1 a b) (tuL q1 a b S)) := Px.out.next q20
  replace By : Hid (PBox v20 L10 (tuA q2 (tuA q1 a b) (tuB q1 a b)) (tuB q2 (tuA q1 a b) (tuB q1 a b)) (.slice (some ⟨g10, 0, none⟩) n10 n10)) := By.out.next q20
  replace Py : Hid (Pl v20 g10 0 n10 n10 (tuA q2 (tuA q1 a b) (tuB q1 a b)) (tuB q2 (tuA q1 a b) (tuB q1 a b)) (tuL q2 (tuA q1 a b) (tuB q1 a b) (tuL q1 a b S))) := Py.out.next q20
  replace Bz : Hid (PBox v20 L11 (tuA q3 a b) (tuB q3 a b) (.slice (some ⟨g11, 0, none⟩) n11 n11)) := Bz.out.next q20
  replace Pz : Hid (Pl v20 g11 0 n11 n11 (tuA q3 a b) (tuB q3 a b) (tuL q3 a b S)) := Pz.out.next q20
  replace Ball : Hid (PBox v20 L12 (tuA 0 a b) (tuB 0 a b) (.slice (some ⟨g12, 0, none⟩) n12 n12)) := Ball.out.next q20
  replace Pall : Hid (Pl v20 g12 0 n12 n12 (tuA 0 a b) (tuB 0 a b) (tuL 0 a b S)) := Pall.out.next q20
  replace Bfg : Hid (PBox v20 L13 (a) (b) (.slice (some ⟨g13, 0, none⟩) n13 n13)) := Bfg.out.next q20
  replace Pfg : Hid (Pl v20 g13 0 n13 n13 (a) (b) (flY a b (flX a b S))) := Pfg.out.next q20
  replace Bhalf : Hid (PBox v20 L14 (tuA 2 a b) (tuB 2 a b) (.slice (some ⟨g14, 0, none⟩) n14 n14)) := Bhalf.out.next q20
  replace Phalf : Hid (Pl v20 g14 0 n14 n14 (tuA 2 a b) (tuB 2 a b) (tuL 2 a b S)) := Phalf.out.next q20
  replace QT := QT.trans q20
  clear q20
  obtain ⟨tfg0, tfg1, tfg2⟩ := id Bfg.out
  obtain ⟨thalf0, thalf1, thalf2⟩ := id Bhalf.out
  go_wp2_with fail
  refine (pl_same Pfg.out Phalf.out (rfl) (rfl) (tuL_two)).mono ?_
  rintro e v21 ⟨rfl, q21⟩
  clear tfg0 tfg1 tfg2
  clear thalf0 thalf1 thalf2
  replace Bp : Hid (PBox v21 L0 a b (.slice (some ⟨g, o, none⟩) n cap)) := Bp.out.next q21
  replace Pp : Hid (Pl v21 g o n cap a b S) := Pp.out.next q21
  replace Bf : Hid (PBox v21 L1 (a) (b) (.slice (some ⟨g1, 0, none⟩) n1 n1)) := Bf.out.next q21
  replace Pf : Hid (Pl v21 g1 0 n1 n1 (a) (b) (flX a b S)) := Pf.out.next q21
  replace Bff : Hid (PBox v21 L2 (a) (b) (.slice (some ⟨g2, 0, none⟩) n2 n2)) := Bff.out.next q21
  replace Pff : Hid (Pl v21 g2 0 n2 n2 (a) (b) (flX a b (flX a b S))) := Pff.out.next q21
  replace Bg : Hid (PBox v21 L3 (a) (b) (.slice (some ⟨g3, 0, none⟩) n3 n3)) := Bg.out.next q21
  replace Pg : Hid (Pl v21 g3 0 n3 n3 (a) (b) (flY a b S)) := Pg.out.next q21
  replace Bgg : Hid (PBox v21 L4 (a) (b) (.slice (some ⟨g4, 0, none⟩) n4 n4)) := Bgg.out.next q21
  replace Pgg : Hid (Pl v21 g4 0 n4 n4 (a) (b) (flY a b (flY a b S))) := Pgg.out.next q21
  replace Bt : Hid (PBox v21 L5 (b) (a) (.slice (some ⟨g5, 0, none⟩) n5 n5)) := Bt.out.next q21
  replace Pt : Hid (Pl v21 g5 0 n5 n5 (b) (a) (trL a b S)) := Pt.out.next q21
  replace Btt : Hid (PBox v21 L6 (a) (b) (.slice (some ⟨g6, 0, none⟩) n6 n6)) := Btt.out.next q21
  replace Ptt : Hid (Pl v21 g6 0 n6 n6 (a) (b) (trL b a (trL a b S))) := Ptt.out.next q21
  replace Bq : Hid (PBox v21 L7 (tuA 1 a b) (tuB 1 a b) (.slice (some ⟨g7, 0, none⟩) n7 n7)) := Bq.out.next q21
  replace Pq : Hid (Pl v21 g7 0 n7 n7 (tuA 1 a b) (tuB 1 a b) (tuL 1 a b S)) := Pq.out.next q21
  replace Btf : Hid (PBox v21 L8 (b) (a) (.slice (some ⟨g8, 0, none⟩) n8 n8)) := Btf.out.next q21
  replace Ptf : Hid (Pl v21 g8 0 n8 n8 (b) (a) (flX b a (trL a b S))) := Ptf.out.next q21
  replace Bx : Hid (PBox v21 L9 (tuA q1 a b) (tuB q1 a b) (.slice (some ⟨g9, 0, none⟩) n9 n9)) := Bx.out.next q21
  replace Px : Hid (Pl v21 g9 0 n9 n9 (tuA q1 a b) (tuB q1 a b) (tuL q1 a b S)) := Px.out.next q21
  replace By : Hid (PBox v21 L10 (tuA q2 (tuA q1 a b) (tuB q1 a b)) (tuB q2 (tuA q1 a b) (tuB q1 a b)) (.slice (some ⟨g10, 0, none⟩) n10 n10)) := By.out.next q21
  replace Py : Hid (Pl v21 g10 0 n10 n10 (tuA q2 (tuA q1 a b) (tuB q1 a b)) (tuB q2 (tuA q1 a b) (tuB q1 a b)) (tuL q2 (tuA q1 a b) (tuB q1 a b) (tuL q1 a b S))) := Py.out.next q21
  replace Bz : Hid (PBox v21 L11 (tuA q3 a b) (tuB q3 a b) (.slice (some ⟨g11, 0, none⟩) n11 n11)) := Bz.out.next q21
  replace Pz : Hid (Pl v21 g11 0 n11 n11 (tuA q3 a b) (tuB q3 a b) (tuL q3 a b S)) := Pz.out.next q21
  replace Ball : Hid (PBox v21 L12 (tuA 0 a b) (tuB 0 a b) (.slice (some ⟨g12, 0, none⟩) n12 n12)) := Ball.out.next q21
  replace Pall : Hid (Pl v21 g12 0 n12 n12 (tuA 0 a b) (tuB 0 a b) (tuL 0 a b S)) := Pall.out.next q21
  replace Bfg : Hid (PBox v21 L13 (a) (b) (.slice (some ⟨g13, 0, none⟩) n13 n13)) := Bfg.out.next q21
  replace Pfg : Hid (Pl v21 g13 0 n13 n13 (a) (b) (flY a b (flX a b S))) := Pfg.out.next q21
  replace Bhalf : Hid (PBox v21 L14 (tuA 2 a b) (tuB 2 a b) (.slice (some ⟨g14, 0, none⟩) n14 n14)) := Bhalf.out.next q21
  replace Phalf : Hid (Pl v21 g14 0 n14 n14 (tuA 2 a b) (tuB 2 a b) (tuL 2 a b S)) := Phalf.out.next q21
  replace QT := QT.trans q21
  clear q21
  go_wp2_with fail
  go_ret
  exact ⟨rfl, QT⟩
end Go.Proofs.Ytkgfohodahkmmaa

/- PyramidNeeds: the walk. (gen_pynf.py) -/
import Derived.Test.YtgaolakfgjmeiabG73ae6c52
import Derived.Test.YtgaolakfgjmeiabG08b34131
import Derived.Test.YtgaolakfgjmeiabGd1003c7a
namespace Go.Proofs.Ytgaolakfgjmeiab
open Go.RowKit
set_option linter.unusedVariables false
set_option linter.unusedSimpArgs false

structure Bxq (x : World) (V a b g n : Nat) (S : List Nat) : Prop where
  p : PBx x V a b (.slice (some ⟨g, 0, none⟩) n n)
  u : UIs x g 0 S
theorem Bxq.nextB {x y : World} {V a b g n : Nat} {S : List Nat} (h : Bxq x V a b g n S) (q : Qb x y) : Bxq y V a b g n S := ⟨⟨q.cell h.p.c0, q.cell h.p.c1, q.cell h.p.c2⟩, h.u.nextB q⟩
theorem bxq_new {x y : World} {a b g n : Nat} {S : List Nat} (hu : UIs x g 0 S) (hy : x.alloc (.cells #[.int .i64 (a : Int), .int .i64 (b : Int), .slice (some ⟨g, 0, none⟩) n n] 24) = y) : Bxq y x.heap.size a b g n S ∧ Qb x y := by
  have q : Q x y := by rw [← hy]; exact (Q.refl x).cells _ _
  exact ⟨⟨⟨by rw [← hy]; simp [go_sem], by rw [← hy]; simp [go_sem], by rw [← hy]; simp [go_sem]⟩, hu.next q⟩, q.qb⟩
theorem boxed {x y : World} {V a b g n : Nat} {L : List Nat} (z : ZBp x V) (u : UIs x g 0 L) (hy : ((x.setCell ⟨V, 0, none⟩ (.int .i64 (a : Int))).setCell ⟨V, 1, none⟩ (.int .i64 (b : Int))).setCell ⟨V, 2, none⟩ (.slice (some ⟨g, 0, none⟩) n n) = y) (hn : 1 ≤ L.length) : Bxq y V a b g n L := by
  refine ⟨z.put hy, fun i hi => ?_⟩
  have hne : V ≠ g := fun e => by
    have h0 := u 0 (by omega)
    rw [← e, Nat.zero_add, z.c0] at h0
    cases h0
  have ne : ∀ {j k : Nat}, (⟨V, j, none⟩ : Addr) ≠ ⟨g, k, none⟩ := fun e => hne (by injection e)
  rw [← hy, World.cell?_setCell_other _ _ _ _ ne, World.cell?_setCell_other _ _ _ _ ne, World.cell?_setCell_other _ _ _ _ ne]
  exact u i hi
set_option maxHeartbeats 40000000 in
set_option maxRecDepth 100000 in
theorem pneeds_good (pa pb nr nc q4 n np m k m2 k2 a2 b2 n2 X Y xh yh xh2 yh2 g0 o0 c s : Nat) (S : List Nat) (w : World) (hsz : Size pa pb) (hsz2 : Size a2 b2) (hnp : pa * pb = np) (hnr : (pa + 1) / 2 = nr) (hnc : (pb + 1) / 2 = nc) (hn : nr * nc = n) (hq4' : 4 * pa * pb = q4) (hS : S.length = np) (hbd : ∀ i, S.getD i 0 < 4294967296) (hI : UIs w g0 o0 S) (hcap : np ≤ c) (hs4 : s < 4294967296)
    (hX : X < nr) (hY : Y < nc) (ha2 : 2 * pa = a2) (hb2 : 2 * pb = b2) (hn2 : a2 * b2 = n2) (hq : q4 ≤ 65536) (hm : Y * nr = m) (hk : m + X = k) (hm2 : Y * a2 = m2) (hk2 : m2 + X = k2) (hxh : X / 2 = xh) (hyh : Y / 2 = yh) (hxh2 : (X + 1) / 2 = xh2) (hyh2 : (Y + 1) / 2 = yh2) :
    Calls Try.prog 4 #[.agg #[.int .i64 (pa : Int), .int .i64 (pb : Int), .slice (some ⟨g0, o0, none⟩) np c], .int .i64 (X : Int), .int .i64 (Y : Int), .int .u32 (s : Int)] w fun e w' => e = .returned (.bool true) ∧ Qb w w' := by
  have hc : chk pa pb np = 0 := by rw [← hnp]; exact chk_size hsz
  have CR : Hid (∀ (x : World) (g o cp : Nat) (T : List Nat), T.length = np → (∀ i, T.getD i 0 < 4294967296) → UIs x g o T → np ≤ cp → Calls Try.prog 9 #[.agg #[.int .i64 (pa : Int), .int .i64 (pb : Int), .slice (some ⟨g, o, none⟩) np cp]] x fun e w' => ∃ gt, e = .returned (.tuple #[.agg #[.int .i64 (nr : Int), .int .i64 (nc : Int), .slice (some ⟨gt, 0, none⟩) n n], .int .i64 0]) ∧ UIs w' gt 0 (tabB n (rdF pa pb T)) ∧ Qb x w') := fun x g o cp T h1 h2 h3 h4 => (reduce_good pa pb nr nc n g o np cp T x hsz hnp.symm hnr hnc hn h1 h2 h3 h4).mono fun e w' ⟨gt, e1, e2, _, _, e5⟩ => ⟨gt, e1, vr_uis e2, e5⟩
  have CX : Hid (∀ (x : World) (g o cp : Nat) (T : List Nat), T.length = np → (∀ i, T.getD i 0 < 4294967296) → UIs x g o T → np ≤ cp → Calls Try.prog 10 #[.agg #[.int .i64 (pa : Int), .int .i64 (pb : Int), .slice (some ⟨g, o, none⟩) np cp], .int .i64 (2 * (pa : Int)), .int .i64 (2 * (pb : Int))] x fun e w' => ∃ gt, e = .returned (.tuple #[.agg #[.int .i64 (a2 : Int), .int .i64 (b2 : Int), .slice (some ⟨gt, 0, none⟩) n2 n2], .int .i64 0]) ∧ UIs w' gt 0 (tabB n2 (exF pa pb a2 b2 T)) ∧ Qb x w') := fun x g o cp T h1 h2 h3 h4 => by
    rw [show 2 * (pa : Int) = (a2 : Int) by omega, show 2 * (pb : Int) = (b2 : Int) by omega]
    exact (expand_good pa pb a2 b2 n2 g o np cp T x hsz hnp.symm hsz2 (by omega) (by omega) hn2 h1 h2 h3 h4).mono fun e w' ⟨gt, e1, e2, _, _, e5⟩ => ⟨gt, e1, vr_uis e2, e5⟩
  have hpa2 := hsz.a2
  have hpb2 := hsz.b2
  have CN1 : Hid (∀ x : World, Qb w x → Calls Try.prog 13 #[.agg #[.int .i64 (pa : Int), .int .i64 (pb : Int), .slice (some ⟨g0, o0, none⟩) np c], .int .u32 (s : Int), .int .i64 (2 * (X : Int)), .int .i64 (2 * (Y : Int)), .int .i64 (2 * (X : Int)), .int .i64 (2 * (Y : Int)), .int .i64 2] x fun e w' => ∃ g, e = .returned (.agg #[.int .i64 (pa : Int), .int .i64 (pb : Int), .slice (some ⟨g, 0, none⟩) np np]) ∧ ∃ T : List Nat, T.length = np ∧ UIs w' g 0 T ∧ (∀ i, T.getD i 0 < 4294967296) ∧ rdF pa pb S k = rdF pa pb T k ∧ Qb x w') := fun x q => (near_any pa pb np g0 o0 c s (2 * (X : Int)) (2 * (Y : Int)) (2 * (X : Int)) (2 * (Y : Int)) 2 S x hsz hnp hS (hI.nextB q) hcap (by omega) (by omega) (by omega) (by omega) (by omega) (by omega) (by omega)).mono fun e w' ⟨g, e1, T, e2, e3, e4, e5, e6⟩ => ⟨g, e1, T, e2, e3, fun i => by rcases e4 i with h | h <;> rw [h]; exact hbd i; exact hs4, by
    have := rd_near (x := X) (y := Y) (S := S) (T := T) hsz (by omega) e5
    rw [hnr, hm, hk] at this
    exact this, e6⟩
  have CN2 : Hid (∀ x : World, Qb w x → Calls Try.prog 13 #[.agg #[.int .i64 (pa : Int), .int .i64 (pb : Int), .slice (some ⟨g0, o0, none⟩) np c], .int .u32 (s : Int), .int .i64 (xh : Int), .int .i64 (yh : Int), .int .i64 (xh2 : Int), .int .i64 (yh2 : Int), .int .i64 1] x fun e w' => ∃ v, e = .returned v ∧ ∃ g, v = .agg #[.int .i64 (pa : Int), .int .i64 (pb : Int), .slice (some ⟨g, 0, none⟩) np np] ∧ ∃ T : List Nat, T.length = np ∧ UIs w' g 0 T ∧ (∀ i, T.getD i 0 < 4294967296) ∧ exF pa pb a2 b2 S k2 = exF pa pb a2 b2 T k2 ∧ Qb x w') := fun x q => (near_any pa pb np g0 o0 c s (xh : Int) (yh : Int) (xh2 : Int) (yh2 : Int) 1 S x hsz hnp hS (hI.nextB q) hcap (by omega) (by omega) (by omega) (by omega) (by omega) (by omega) (by omega)).mono fun e w' ⟨g, e1, T, e2, e3, e4, e5, e6⟩ => ⟨_, e1, g, rfl, T, e2, e3, fun i => by rcases e4 i with h | h <;> rw [h]; exact hbd i; exact hs4, by
    have := ex_near (a := a2) (b := b2) (x := X) (y := Y) (S := S) (T := T) hsz (by omega) (by rw [hxh, hxh2, hyh, hyh2]; exact e5)
    rw [hm2, hk2] at this
    exact this, e6⟩
  have CN : Hid (∀ x : World, Calls Try.prog 11 #[.int .i64 0] x fun e w' => e = .returned (.int .i64 0) ∧ w' = x) := fun x => num14_any 0 x
  have hkn : k < n := by rw [← hk, ← hm, ← hn]; exact place_lt hX hY
  have hk2n : k2 < n2 := by rw [← hk2, ← hm2, ← hn2]; exact place_lt (by omega) (by omega)
  have HIN : Hid (S.length = np ∧ (∀ i, S.getD i 0 < 4294967296) ∧ UIs w g0 o0 S ∧ np ≤ c) := ⟨hS, hbd, hI, hcap⟩
  have hn65 : n ≤ 65536 := by rw [← hn, ← hnr, ← hnc]; exact hsz.half.ab
  have hn265 : n2 ≤ 65536 := by rw [← hn2]; exact hsz2.ab
  have hml : (Y : Int) * (nr : Int) = (m : Int) := by rw [← Int.natCast_mul, hm]
  have hml2 : (Y : Int) * 2 * (pa : Int) = (m2 : Int) := by rw [← hm2, ← ha2]; push_cast; rw [Int.mul_assoc]
  have hwm : IntKind.i64.wrap (m : Int) = (m : Int) := by rw [IntKind.wrap_i64]; omega
  have hwk : IntKind.i64.wrap ((m : Int) + (X : Int)) = (k : Int) := by rw [IntKind.wrap_i64]; omega
  have hknI : (k : Int) < (n : Int) := by omega
  have hn21 : ∀ F : Nat → Nat, 1 ≤ (tabB n2 F).length := fun F => by rw [tabB_len]; omega
  have hu1 : Int.tdiv (X : Int) 2 = (xh : Int) := by rw [Int.tdiv_eq_ediv_of_nonneg (by omega)]; omega
  have hu2 : Int.tdiv (Y : Int) 2 = (yh : Int) := by rw [Int.tdiv_eq_ediv_of_nonneg (by omega)]; omega
  have hu3 : Int.tdiv ((X : Int) + 1) 2 = (xh2 : Int) := by rw [Int.tdiv_eq_ediv_of_nonneg (by omega)]; omega
  have hu4 : Int.tdiv ((Y : Int) + 1) 2 = (yh2 : Int) := by rw [Int.tdiv_eq_ediv_of_nonneg (by omega)]; omega
  have hu5 : IntKind.i64.wrap (xh : Int) = (xh : Int) := by rw [IntKind.wrap_i64]; omega
  have hu6 : IntKind.i64.wrap (yh : Int) = (yh : Int) := by rw [IntKind.wrap_i64]; omega
  have hu7 : IntKind.i64.wrap (xh2 : Int) = (xh2 : Int) := by rw [IntKind.wrap_i64]; omega
  have hu8 : IntKind.i64.wrap (yh2 : Int) = (yh2 : Int) := by rw [IntKind.wrap_i64]; omega
  have hu9 : IntKind.i64.wrap ((X : Int) + 1) = (X : Int) + 1 := by rw [IntKind.wrap_i64]; omega
  have hua : IntKind.i64.wrap ((Y : Int) + 1) = (Y : Int) + 1 := by rw [IntKind.wrap_i64]; omega
  have hub : IntKind.i64.wrap (2 * (pa : Int)) = 2 * (pa : Int) := by rw [IntKind.wrap_i64]; omega
  have huc : IntKind.i64.wrap (2 * (pb : Int)) = 2 * (pb : Int) := by rw [IntKind.wrap_i64]; omega
  have hud : IntKind.i64.wrap ((Y : Int) * 2) = (Y : Int) * 2 := by rw [IntKind.wrap_i64]; omega
  have hue : IntKind.i64.wrap (m2 : Int) = (m2 : Int) := by rw [IntKind.wrap_i64]; omega
  have huf : IntKind.i64.wrap ((m2 : Int) + (X : Int)) = (k2 : Int) := by rw [IntKind.wrap_i64]; omega
  have hk2nI : (k2 : Int) < (n2 : Int) := by omega
  have hx : ¬ (X : Int) < 0 := by omega
  have hy : ¬ (Y : Int) < 0 := by omega
  have hxr : ¬ (nr : Int) ≤ (X : Int) := by omega
  have hyr : ¬ (nc : Int) ≤ (Y : Int) := by omega
  have hXb : X ≤ 1024 := by omega
  have hYb : Y ≤ 1024 := by omega
  have hXb' : (X : Int) ≤ 1024 := by omega
  have hYb' : (Y : Int) ≤ 1024 := by omega
  have hsa := hsz2.a2
  have hsb := hsz2.b2
  have ha : ¬ 1024 < 2 * (pa : Int) := by omega
  have hb : ¬ 1024 < 2 * (pb : Int) := by omega
  have hqq : ¬ 65536 < (q4 : Int) := by omega
  have CM : Hid (∀ x : World, Calls Try.prog 6 #[.agg #[.int .i64 (pa : Int), .int .i64 (pb : Int), .slice (some ⟨g0, o0, none⟩) np c]] x fun e w' => e = .returned (.int .i64 0) ∧ Q x w') := fun x => by have := may_any pa pb (some ⟨g0, o0, none⟩) np c x; rw [hc] at this; exact this
  have hdr : Int.tdiv ((pa : Int) + 1) 2 = (nr : Int) := by rw [Int.tdiv_eq_ediv_of_nonneg (by omega)]; omega
  have hdc : Int.tdiv ((pb : Int) + 1) 2 = (nc : Int) := by rw [Int.tdiv_eq_ediv_of_nonneg (by omega)]; omega
  have hw1' : IntKind.i64.wrap ((pa : Int) + 1) = (pa : Int) + 1 := by rw [IntKind.wrap_i64]; omega
  have hw2' : IntKind.i64.wrap ((pb : Int) + 1) = (pb : Int) + 1 := by rw [IntKind.wrap_i64]; omega
  have hw3' : IntKind.i64.wrap (nr : Int) = (nr : Int) := by rw [IntKind.wrap_i64]; omega
  have hw4' : IntKind.i64.wrap (nc : Int) = (nc : Int) := by rw [IntKind.wrap_i64]; omega
  have hq4 : 4 * (pa : Int) * (pb : Int) = (q4 : Int) := by rw [← hq4']; push_cast; rfl
  have hq5 : (q4 : Int) ≤ 262144 := by have := hsz.ab; rw [← hq4', Nat.mul_assoc]; omega
  clear hc hsz hsz2 hnr hnc hq4' hnp hn hS hbd hI hcap hs4 hm hk hm2 hk2 hn2 hxh hyh hxh2 hyh2 hq hX hY
  obtain ⟨w1, hw1⟩ : ∃ w1, w.alloc (.cells #[.int .i64 (pa : Int), .int .i64 (pb : Int), .slice (some ⟨g0, o0, none⟩) np c] 24) = w1 := ⟨_, rfl⟩
  have H1 : Hid (Qb w w1) := by show Qb w w1; rw [← hw1]; exact ((Q.refl w).cells _ _).qb
  have k0 : w1.cell? ⟨w.heap.size, 0, none⟩ = some (.int .i64 (pa : Int)) := by rw [← hw1]; simp [go_sem]
  have k1 : w1.cell? ⟨w.heap.size, 1, none⟩ = some (.int .i64 (pb : Int)) := by rw [← hw1]; simp [go_sem]
  have kS : w1.cell? ⟨w.heap.size, 2, none⟩ = some (.slice (some ⟨g0, o0, none⟩) np c) := by rw [← hw1]; simp [go_sem]
  go_enter Try.func4, Try.ntmps4
  go_wp2_with fail
  refine (known14_any w1).mono ?_
  rintro e w2 ⟨rfl, q2⟩
  have H2 : Hid (Qb w w2) := H1.out.trans q2
  have k0 := q2.cell k0
  have k1 := q2.cell k1
  have kS := q2.cell kS
  have n0 := qw_some w2
  have f0 := qw_cell k0
  have f1 := qw_cell k1
  clear q2 hw1
  go_wp2_with fail
  refine wp_region_quiet_Q (by kernel_rfl) (by kernel_rfl) ?_
  repeat (first | go_big_quiet_step (fail) | quiet_step (fail))
  refine wpQuiet_nil ?_
  intro w4 hw4
  have q4 := qw_out hw4
  have HQ4 : Hid (Qb w w4) := H2.out.trans q4.qb
  have k0 := q4.cell k0
  have k1 := q4.cell k1
  have kS := q4.cell kS
  clear q4 hw4 n0 f0 f1
  go_wp2_with fail
  refine (CM.out _).mono ?_
  rintro e w5 ⟨rfl, q5⟩
  have HE : Hid (Qb w w5) := HQ4.out.trans q5.qb
  have k0 := q5.cell k0
  have k1 := q5.cell k1
  have k2' := q5.cell kS
  clear q5
  go_wp2_with fail
  refine (CR.out w5 g0 o0 c S HIN.out.1 HIN.out.2.1 (HIN.out.2.2.1.nextB HE.out) HIN.out.2.2.2).mono ?_
  rintro e w6 ⟨ga, rfl, ua, qa⟩
  obtain ⟨w7, hw7⟩ : ∃ w7, w6.alloc (.cells #[.int .i64 (nr : Int), .int .i64 (nc : Int), .slice (some ⟨ga, 0, none⟩) n n] 24) = w7 := ⟨_, rfl⟩
  obtain ⟨ba, qb⟩ := bxq_new ua hw7
  have q57 := qa.trans qb
  have HBA : Hid (Bxq w7 w6.heap.size nr nc ga n (tabB n (rdF pa pb S))) := ba
  replace HE : Hid (Qb w w7) := HE.out.trans q57
  have k0 := q57.cell k0
  have k1 := q57.cell k1
  have k2' := q57.cell k2'
  clear ua qa ba qb q57
  go_wp2_with fail
  clear hw7
  refine (CN1.out w7 HE.out).mono ?_
  rintro e w8 ⟨gn, rfl, T, t1, t2, t3, t4, q8⟩
  have HT : Hid (T.length = np ∧ UIs w8 gn 0 T ∧ (∀ i, T.getD i 0 < 4294967296) ∧ rdF pa pb S k = rdF pa pb T k) := ⟨t1, t2, t3, t4⟩
  replace HBA : Hid (Bxq w8 w6.heap.size nr nc ga n (tabB n (rdF pa pb S))) := HBA.out.nextB q8
  replace HE : Hid (Qb w w8) := HE.out.trans q8
  have k0 := q8.cell k0
  have k1 := q8.cell k1
  have k2' := q8.cell k2'
  clear t1 t2 t3 t4 q8
  go_wp2_with fail
  refine (CR.out w8 gn 0 np T HT.out.1 HT.out.2.2.1 HT.out.2.1 (Nat.le_refl _)).mono ?_
  rintro e w9 ⟨gb, rfl, ub, qa⟩
  obtain ⟨w10, hw10⟩ : ∃ w10, w9.alloc (.cells #[.int .i64 (nr : Int), .int .i64 (nc : Int), .slice (some ⟨gb, 0, none⟩) n n] 24) = w10 := ⟨_, rfl⟩
  obtain ⟨bb, qb⟩ := bxq_new ub hw10
  have q810 := qa.trans qb
  have HBB : Hid (Bxq w10 w9.heap.size nr nc gb n (tabB n (rdF pa pb T))) := bb
  replace HBA : Hid (Bxq w10 w6.heap.size nr nc ga n (tabB n (rdF pa pb S))) := HBA.out.nextB q810
  replace HE : Hid (Qb w w10) := HE.out.trans q810
  have k0 := q810.cell k0
  have k1 := q810.cell k1
  have k2' := q810.cell k2'
  obtain ⟨v1, hv1⟩ : ∃ v1, rdF pa pb S k = v1 := ⟨_, rfl⟩
  have ca := HBA.out.u k (by rw [tabB_len]; exact hkn)
  have cb := HBB.out.u k (by rw [tabB_len]; exact hkn)
  rw [tabB_at hkn, Nat.zero_add] at ca cb
  rw [hv1] at ca
  rw [← HT.out.2.2.2, hv1] at cb
  have n0 := qw_some w10
  have f0 := qw_cell HBA.out.p.c2
  have f1 := qw_cell HBB.out.p.c2
  have f2 := qw_cell ca
  have f3 := qw_cell cb
  clear ub qa bb qb q810 hv1 ca cb
  go_wp2_with fail
  clear hw10
  refine wp_region_quiet_Q (by kernel_rfl) (by kernel_rfl) ?_
  repeat (first | go_big_quiet_step (first | (go_at_call 11; exact calls_qs (CN.out _))) | quiet_step (first | (go_at_call 11; exact calls_qs (CN.out _))))
  refine wpQuiet_nil ?_
  intro w11 hw11
  have q11 := qw_out hw11
  replace HE : Hid (Qb w w11) := HE.out.trans q11.qb
  have k0 := q11.cell k0
  have k1 := q11.cell k1
  have k2' := q11.cell k2'
  clear q11 hw11 n0 f0 f1 f2 f3 HBA HBB HT
  go_wp2_with fail
  refine (CX.out w11 g0 o0 c S HIN.out.1 HIN.out.2.1 (HIN.out.2.2.1.nextB HE.out) HIN.out.2.2.2).mono ?_
  rintro e w12 ⟨gc, rfl, uc, qa⟩
  obtain ⟨w13, hw13⟩ : ∃ w13, w12.alloc (.cells #[.int .i64 (a2 : Int), .int .i64 (b2 : Int), .slice (some ⟨gc, 0, none⟩) n2 n2] 24) = w13 := ⟨_, rfl⟩
  obtain ⟨bc, qb⟩ := bxq_new uc hw13
  have q113 := qa.trans qb
  have HBC : Hid (Bxq w13 w12.heap.size a2 b2 gc n2 (tabB n2 (exF pa pb a2 b2 S))) := bc
  replace HE : Hid (Qb w w13) := HE.out.trans q113
  have k0 := q113.cell k0
  have k1 := q113.cell k1
  have k2' := q113.cell k2'
  have HFE : Hid ((∀ (args : Array Value) (x : World), (callFunc 13 args).run Try.prog x = .ok (.enter 13 args) x) ∧ (∀ (args : Array Value) (x : World), (callFunc 10 args).run Try.prog x = .ok (.enter 10 args) x)) := ⟨fun args x => by kernel_rfl, fun args x => by kernel_rfl⟩
  have n0 := cw_some (D := fun x => Qb w13 x) (Qb.refl w13)
  have f0 : ∀ n : CW (fun x => Qb w13 x), n.x.cell? ⟨w.heap.size, 0, none⟩ = some (.int .i64 (pa : Int)) := fun n => n.h.cell k0
  have f1 : ∀ n : CW (fun x => Qb w13 x), n.x.cell? ⟨w.heap.size, 1, none⟩ = some (.int .i64 (pb : Int)) := fun n => n.h.cell k1
  have f2 : ∀ n : CW (fun x => Qb w13 x), n.x.cell? ⟨w.heap.size, 2, none⟩ = some (.slice (some ⟨g0, o0, none⟩) np c) := fun n => n.h.cell k2'
  clear uc qa bc qb q113
  go_wp2_with fail
  clear hw13
  refine wp_region_mkP [0, 1, 2, 3, 4, 5, 6, 7, 8, 9, 10, 11, 13, 14, 15, 16, 17, 18] [[12, 19, 20, 21, 22, 23, 24, 25], [12, 19, 20, 21, 23, 22, 24, 25], [12, 19, 20, 21, 23, 24, 22, 25], [12, 19, 20, 22, 21, 23, 24, 25], [12, 19, 20, 22, 23, 21, 24, 25], [12, 19, 20, 23, 21, 22, 24, 25], [12, 19, 20, 23, 21, 24, 22, 25], [12, 19, 20, 23, 22, 21, 24, 25], [12, 19, 23, 20, 21, 22, 24, 25], [12, 19, 23, 20, 21, 24, 22, 25], [12, 19, 23, 20, 22, 21, 24, 25], [12, 23, 19, 20, 21, 22, 24, 25], [12, 23, 19, 20, 21, 24, 22, 25], [12, 23, 19, 20, 22, 21, 24, 25], [23, 12, 19, 20, 21, 22, 24, 25], [23, 12, 19, 20, 21, 24, 22, 25], [23, 12, 19, 20, 22, 21, 24, 25]] 8 _ (fun x => Qb w13 x) (by kernel_rfl) (by kernel_rfl) rfl (by kernel_rfl) ((Qb.refl w13).drew) ?_
  simp only [List.filterMap_cons, List.filterMap_nil, List.getElem?_cons_zero, List.getElem?_cons_succ]
  repeat (first | go_big_quiet_step (fail) | quiet_step (fail))
  refine wpQuiet_nil ?_
  have q1x : Qb w13 w13.drew := (Qb.refl w13).drew
  generalize w13.drew = x1 at q1x ⊢
  clear n0 f0 f1 f2 k1 k2'
  refine treeB2 12 23 (by decide) rfl rfl ?_ ?_
  · skip
    refine doesB_call (run_fn 13 #[.tmp 130, .tmp 131, .tmp 133, .tmp 135, .tmp 138, .tmp 141, .const (.int .i64 1)] _ rfl HFE.out.1 (vs := #[.agg #[.int .i64 (pa : Int), .int .i64 (pb : Int), .slice (some ⟨g0, o0, none⟩) np c], .int .u32 (s : Int), .int .i64 (xh : Int), .int .i64 (yh : Int), .int .i64 (xh2 : Int), .int .i64 (yh2 : Int), .int .i64 1]) (by simp [Act.eval, Act.put])) ((CN2.out x1 (HE.out.trans q1x)).mono ?_)
    rintro e y1 ⟨v, rfl, gq, rfl, T2, t21, t22, t23, t24, qq1⟩
    have q1 := q1x.trans qq1
    refine ⟨_, rfl, fun _ => q1, ?_⟩
    refine treeB2 19 23 (by decide) rfl rfl ?_ ?_
    · skip
      refine doesB_call (run_fn 10 #[.tmp 142, .tmp 145, .tmp 148] _ rfl HFE.out.2 (vs := #[.agg #[.int .i64 (pa : Int), .int .i64 (pb : Int), .slice (some ⟨gq, 0, none⟩) np np], .int .i64 (2 * (pa : Int)), .int .i64 (2 * (pb : Int))]) (by simp [Act.eval, Act.put])) ((CX.out y1 gq 0 np T2 t21 t23 t22 (Nat.le_refl _)).mono ?_)
      rintro e y2 ⟨gd, rfl, ud, qq2⟩
      have q2 := q1.trans qq2
      refine ⟨_, rfl, fun _ => q2, ?_⟩
      refine treeB2 20 23 (by decide) rfl rfl ?_ ?_
      · skip
        refine doesB_value (v := .tuple #[.agg #[.int .i64 (a2 : Int), .int .i64 (b2 : Int), .slice (some ⟨gd, 0, none⟩) n2 n2], .int .i64 0]) (x' := y2) (by simp [execOp, go_sem, Act.eval, Act.put]) ⟨fun _ => q2, ?_⟩
        refine treeB3 21 22 23 (by decide) rfl rfl rfl ?_ ?_ ?_
        · skip
          refine doesB_value (v := .agg #[.int .i64 (a2 : Int), .int .i64 (b2 : Int), .slice (some ⟨gd, 0, none⟩) n2 n2]) (x' := y2) (by simp [execOp, go_sem, Act.eval, Act.put]) ⟨fun _ => q2, ?_⟩
          refine treeB2 22 23 (by decide) rfl rfl ?_ ?_
          · skip
            refine doesB_value (v := .int .i64 0) (x' := y2) (by simp [execOp, go_sem, Act.eval, Act.put]) ⟨fun _ => q2, ?_⟩
            refine treeB1 23 (by decide) rfl ?_
            refine doesB_value (v := .pointer (some ⟨y2.heap.size, 0, none⟩)) (x' := y2.alloc (.cells #[.int .i64 0, .int .i64 0, .slice none 0 0] 24)) (by simp [execOp, go_sem]) ⟨fun _ => q2.trans ((Q.refl _).cells _ _).qb, ?_⟩
            have z6 := zbp_new y2
            have qq6 : Qb y2 (y2.alloc (.cells #[.int .i64 0, .int .i64 0, .slice none 0 0] 24)) := ((Q.refl _).cells _ _).qb
            have q6 := q2.trans qq6
            have ud6 := ud.nextB qq6
            generalize hV6 : y2.heap.size = V at z6 ⊢
            generalize y2.alloc (.cells #[.int .i64 0, .int .i64 0, .slice none 0 0] 24) = y6 at z6 q6 ud6 ⊢
            have hVw6 : w13.heap.size ≤ V := by rw [← hV6]; exact q2.sz
            refine treeB1 24 (by decide) rfl ?_
            obtain ⟨y7, hy7⟩ : ∃ y, ((y6.setCell ⟨V, 0, none⟩ (.int .i64 (a2 : Int))).setCell ⟨V, 1, none⟩ (.int .i64 (b2 : Int))).setCell ⟨V, 2, none⟩ (.slice (some ⟨gd, 0, none⟩) n2 n2) = y := ⟨_, rfl⟩
            have z0 := z6.c0
            have z1 := z6.c1
            have z2 := z6.c2
            have e0 := z6.fr 0
            have e1 := z6.fr 1
            have e2 := z6.fr 2
            have bx7 : Bxq y7 V a2 b2 gd n2 (tabB n2 (exF pa pb a2 b2 T2)) := boxed z6 ud6 hy7 (hn21 _)
            have q7 : Qb w13 y7 := by rw [← hy7]; exact ((q6.set hVw6 _).set hVw6 _).set hVw6 _
            refine doesB_skip (x' := y7) (by simp [execOp, go_sem, Act.eval, Act.put, z0, z1, z2, e0, e1, e2, hy7]) ⟨fun _ => q7, ?_⟩
            refine treeB1 25 (by decide) rfl ?_
            refine doesB_value (v := .int .i64 0) (x' := y7) (by simp [execOp, go_sem, Act.eval, Act.put]) ⟨fun _ => q7, ?_⟩
            refine tree_nil ?_
            have HEL : Hid (Qb w13 y7 ∧ Bxq y7 V a2 b2 gd n2 (tabB n2 (exF pa pb a2 b2 T2))) := ⟨q7, bx7⟩
            have HT4 : Hid (exF pa pb a2 b2 S k2 = exF pa pb a2 b2 T2 k2) := t24
            have i0 := HEL.out.1.cell k0
            have i1 := (HBC.out.nextB HEL.out.1).p.c2
            have i2 := HEL.out.2.p.c2
            have i3 := (HBC.out.nextB HEL.out.1).u k2 (by rw [tabB_len]; exact hk2n)
            have i4 := HEL.out.2.u k2 (by rw [tabB_len]; exact hk2n)
            rw [tabB_at hk2n, Nat.zero_add] at i3 i4
            rw [← HT4.out] at i4
            obtain ⟨v2, hv2⟩ : ∃ v2, exF pa pb a2 b2 S k2 = v2 := ⟨_, rfl⟩
            rw [hv2] at i3 i4
            have n0 := qw_some y7
            have f0 := qw_cell i0
            have f1 := qw_cell i1
            have f2 := qw_cell i2
            have f3 := qw_cell i3
            have f4 := qw_cell i4
            replace HE : Hid (Qb w y7) := HE.out.trans HEL.out.1
            go_wp2_with fail
            refine wp_region_quiet_Q (by kernel_rfl) (by kernel_rfl) ?_
            repeat (first | go_big_quiet_step (first | (go_at_call 11; exact calls_qs (CN.out _))) | quiet_step (first | (go_at_call 11; exact calls_qs (CN.out _))))
            refine wpQuiet_nil ?_
            intro wz hwz
            have qz := qw_out hwz
            replace HE : Hid (Qb w wz) := HE.out.trans qz.qb
            clear qz hwz n0 f0 f1 f2 f3 f4
            go_wp2_with fail
            go_ret
            exact ⟨rfl, HE.out⟩
          · skip
            refine doesB_value (v := .pointer (some ⟨y2.heap.size, 0, none⟩)) (x' := y2.alloc (.cells #[.int .i64 0, .int .i64 0, .slice none 0 0] 24)) (by simp [execOp, go_sem]) ⟨fun _ => q2.trans ((Q.refl _).cells _ _).qb, ?_⟩
            have z9 := zbp_new y2
            have qq9 : Qb y2 (y2.alloc (.cells #[.int .i64 0, .int .i64 0, .slice none 0 0] 24)) := ((Q.refl _).cells _ _).qb
            have q9 := q2.trans qq9
            have ud9 := ud.nextB qq9
            generalize hV9 : y2.heap.size = V at z9 ⊢
            generalize y2.alloc (.cells #[.int .i64 0, .int .i64 0, .slice none 0 0] 24) = y9 at z9 q9 ud9 ⊢
            have hVw9 : w13.heap.size ≤ V := by rw [← hV9]; exact q2.sz
            refine treeB2 22 24 (by decide) rfl rfl ?_ ?_
            · skip
              refine doesB_value (v := .int .i64 0) (x' := y9) (by simp [execOp, go_sem, Act.eval, Act.put]) ⟨fun _ => q9, ?_⟩
              refine treeB1 24 (by decide) rfl ?_
              obtain ⟨y11, hy11⟩ : ∃ y, ((y9.setCell ⟨V, 0, none⟩ (.int .i64 (a2 : Int))).setCell ⟨V, 1, none⟩ (.int .i64 (b2 : Int))).setCell ⟨V, 2, none⟩ (.slice (some ⟨gd, 0, none⟩) n2 n2) = y := ⟨_, rfl⟩
              have z0 := z9.c0
              have z1 := z9.c1
              have z2 := z9.c2
              have e0 := z9.fr 0
              have e1 := z9.fr 1
              have e2 := z9.fr 2
              have bx11 : Bxq y11 V a2 b2 gd n2 (tabB n2 (exF pa pb a2 b2 T2)) := boxed z9 ud9 hy11 (hn21 _)
              have q11 : Qb w13 y11 := by rw [← hy11]; exact ((q9.set hVw9 _).set hVw9 _).set hVw9 _
              refine doesB_skip (x' := y11) (by simp [execOp, go_sem, Act.eval, Act.put, z0, z1, z2, e0, e1, e2, hy11]) ⟨fun _ => q11, ?_⟩
              refine treeB1 25 (by decide) rfl ?_
              refine doesB_value (v := .int .i64 0) (x' := y11) (by simp [execOp, go_sem, Act.eval, Act.put]) ⟨fun _ => q11, ?_⟩
              refine tree_nil ?_
              have HEL : Hid (Qb w13 y11 ∧ Bxq y11 V a2 b2 gd n2 (tabB n2 (exF pa pb a2 b2 T2))) := ⟨q11, bx11⟩
              have HT4 : Hid (exF pa pb a2 b2 S k2 = exF pa pb a2 b2 T2 k2) := t24
              have i0 := HEL.out.1.cell k0
              have i1 := (HBC.out.nextB HEL.out.1).p.c2
              have i2 := HEL.out.2.p.c2
              have i3 := (HBC.out.nextB HEL.out.1).u k2 (by rw [tabB_len]; exact hk2n)
              have i4 := HEL.out.2.u k2 (by rw [tabB_len]; exact hk2n)
              rw [tabB_at hk2n, Nat.zero_add] at i3 i4
              rw [← HT4.out] at i4
              obtain ⟨v2, hv2⟩ : ∃ v2, exF pa pb a2 b2 S k2 = v2 := ⟨_, rfl⟩
              rw [hv2] at i3 i4
              have n0 := qw_some y11
              have f0 := qw_cell i0
              have f1 := qw_cell i1
              have f2 := qw_cell i2
              have f3 := qw_cell i3
              have f4 := qw_cell i4
              replace HE : Hid (Qb w y11) := HE.out.trans HEL.out.1
              go_wp2_with fail
              refine wp_region_quiet_Q (by kernel_rfl) (by kernel_rfl) ?_
              repeat (first | go_big_quiet_step (first | (go_at_call 11; exact calls_qs (CN.out _))) | quiet_step (first | (go_at_call 11; exact calls_qs (CN.out _))))
              refine wpQuiet_nil ?_
              intro wz hwz
              have qz := qw_out hwz
              replace HE : Hid (Qb w wz) := HE.out.trans qz.qb
              clear qz hwz n0 f0 f1 f2 f3 f4
              go_wp2_with fail
              go_ret
              exact ⟨rfl, HE.out⟩
            · skip
              obtain ⟨y13, hy13⟩ : ∃ y, ((y9.setCell ⟨V, 0, none⟩ (.int .i64 (a2 : Int))).setCell ⟨V, 1, none⟩ (.int .i64 (b2 : Int))).setCell ⟨V, 2, none⟩ (.slice (some ⟨gd, 0, none⟩) n2 n2) = y := ⟨_, rfl⟩
              have z0 := z9.c0
              have z1 := z9.c1
              have z2 := z9.c2
              have e0 := z9.fr 0
              have e1 := z9.fr 1
              have e2 := z9.fr 2
              have bx13 : Bxq y13 V a2 b2 gd n2 (tabB n2 (exF pa pb a2 b2 T2)) := boxed z9 ud9 hy13 (hn21 _)
              have q13 : Qb w13 y13 := by rw [← hy13]; exact ((q9.set hVw9 _).set hVw9 _).set hVw9 _
              refine doesB_skip (x' := y13) (by simp [execOp, go_sem, Act.eval, Act.put, z0, z1, z2, e0, e1, e2, hy13]) ⟨fun _ => q13, ?_⟩
              refine treeB1 22 (by decide) rfl ?_
              refine doesB_value (v := .int .i64 0) (x' := y13) (by simp [execOp, go_sem, Act.eval, Act.put]) ⟨fun _ => q13, ?_⟩
              refine treeB1 25 (by decide) rfl ?_
              refine doesB_value (v := .int .i64 0) (x' := y13) (by simp [execOp, go_sem, Act.eval, Act.put]) ⟨fun _ => q13, ?_⟩
              refine tree_nil ?_
              have HEL : Hid (Qb w13 y13 ∧ Bxq y13 V a2 b2 gd n2 (tabB n2 (exF pa pb a2 b2 T2))) := ⟨q13, bx13⟩
              have HT4 : Hid (exF pa pb a2 b2 S k2 = exF pa pb a2 b2 T2 k2) := t24
              have i0 := HEL.out.1.cell k0
              have i1 := (HBC.out.nextB HEL.out.1).p.c2
              have i2 := HEL.out.2.p.c2
              have i3 := (HBC.out.nextB HEL.out.1).u k2 (by rw [tabB_len]; exact hk2n)
              have i4 := HEL.out.2.u k2 (by rw [tabB_len]; exact hk2n)
              rw [tabB_at hk2n, Nat.zero_add] at i3 i4
              rw [← HT4.out] at i4
              obtain ⟨v2, hv2⟩ : ∃ v2, exF pa pb a2 b2 S k2 = v2 := ⟨_, rfl⟩
              rw [hv2] at i3 i4
              have n0 := qw_some y13
              have f0 := qw_cell i0
              have f1 := qw_cell i1
              have f2 := qw_cell i2
              have f3 := qw_cell i3
              have f4 := qw_cell i4
              replace HE : Hid (Qb w y13) := HE.out.trans HEL.out.1
              go_wp2_with fail
              refine wp_region_quiet_Q (by kernel_rfl) (by kernel_rfl) ?_
              repeat (first | go_big_quiet_step (first | (go_at_call 11; exact calls_qs (CN.out _))) | quiet_step (first | (go_at_call 11; exact calls_qs (CN.out _))))
              refine wpQuiet_nil ?_
              intro wz hwz
              have qz := qw_out hwz
              replace HE : Hid (Qb w wz) := HE.out.trans qz.qb
              clear qz hwz n0 f0 f1 f2 f3 f4
              go_wp2_with fail
              go_ret
              exact ⟨rfl, HE.out⟩
        · skip
          refine doesB_value (v := .int .i64 0) (x' := y2) (by simp [execOp, go_sem, Act.eval, Act.put]) ⟨fun _ => q2, ?_⟩
          refine treeB2 21 23 (by decide) rfl rfl ?_ ?_
          · skip
            refine doesB_value (v := .agg #[.int .i64 (a2 : Int), .int .i64 (b2 : Int), .slice (some ⟨gd, 0, none⟩) n2 n2]) (x' := y2) (by simp [execOp, go_sem, Act.eval, Act.put]) ⟨fun _ => q2, ?_⟩
            refine treeB1 23 (by decide) rfl ?_
            refine doesB_value (v := .pointer (some ⟨y2.heap.size, 0, none⟩)) (x' := y2.alloc (.cells #[.int .i64 0, .int .i64 0, .slice none 0 0] 24)) (by simp [execOp, go_sem]) ⟨fun _ => q2.trans ((Q.refl _).cells _ _).qb, ?_⟩
            have z18 := zbp_new y2
            have qq18 : Qb y2 (y2.alloc (.cells #[.int .i64 0, .int .i64 0, .slice none 0 0] 24)) := ((Q.refl _).cells _ _).qb
            have q18 := q2.trans qq18
            have ud18 := ud.nextB qq18
            generalize hV18 : y2.heap.size = V at z18 ⊢
            generalize y2.alloc (.cells #[.int .i64 0, .int .i64 0, .slice none 0 0] 24) = y18 at z18 q18 ud18 ⊢
            have hVw18 : w13.heap.size ≤ V := by rw [← hV18]; exact q2.sz
            refine treeB1 24 (by decide) rfl ?_
            obtain ⟨y19, hy19⟩ : ∃ y, ((y18.setCell ⟨V, 0, none⟩ (.int .i64 (a2 : Int))).setCell ⟨V, 1, none⟩ (.int .i64 (b2 : Int))).setCell ⟨V, 2, none⟩ (.slice (some ⟨gd, 0, none⟩) n2 n2) = y := ⟨_, rfl⟩
            have z0 := z18.c0
            have z1 := z18.c1
            have z2 := z18.c2
            have e0 := z18.fr 0
            have e1 := z18.fr 1
            have e2 := z18.fr 2
            have bx19 : Bxq y19 V a2 b2 gd n2 (tabB n2 (exF pa pb a2 b2 T2)) := boxed z18 ud18 hy19 (hn21 _)
            have q19 : Qb w13 y19 := by rw [← hy19]; exact ((q18.set hVw18 _).set hVw18 _).set hVw18 _
            refine doesB_skip (x' := y19) (by simp [execOp, go_sem, Act.eval, Act.put, z0, z1, z2, e0, e1, e2, hy19]) ⟨fun _ => q19, ?_⟩
            refine treeB1 25 (by decide) rfl ?_
            refine doesB_value (v := .int .i64 0) (x' := y19) (by simp [execOp, go_sem, Act.eval, Act.put]) ⟨fun _ => q19, ?_⟩
            refine tree_nil ?_
            have HEL : Hid (Qb w13 y19 ∧ Bxq y19 V a2 b2 gd n2 (tabB n2 (exF pa pb a2 b2 T2))) := ⟨q19, bx19⟩
            have HT4 : Hid (exF pa pb a2 b2 S k2 = exF pa pb a2 b2 T2 k2) := t24
            have i0 := HEL.out.1.cell k0
            have i1 := (HBC.out.nextB HEL.out.1).p.c2
            have i2 := HEL.out.2.p.c2
            have i3 := (HBC.out.nextB HEL.out.1).u k2 (by rw [tabB_len]; exact hk2n)
            have i4 := HEL.out.2.u k2 (by rw [tabB_len]; exact hk2n)
            rw [tabB_at hk2n, Nat.zero_add] at i3 i4
            rw [← HT4.out] at i4
            obtain ⟨v2, hv2⟩ : ∃ v2, exF pa pb a2 b2 S k2 = v2 := ⟨_, rfl⟩
            rw [hv2] at i3 i4
            have n0 := qw_some y19
            have f0 := qw_cell i0
            have f1 := qw_cell i1
            have f2 := qw_cell i2
            have f3 := qw_cell i3
            have f4 := qw_cell i4
            replace HE : Hid (Qb w y19) := HE.out.trans HEL.out.1
            go_wp2_with fail
            refine wp_region_quiet_Q (by kernel_rfl) (by kernel_rfl) ?_
            repeat (first | go_big_quiet_step (first | (go_at_call 11; exact calls_qs (CN.out _))) | quiet_step (first | (go_at_call 11; exact calls_qs (CN.out _))))
            refine wpQuiet_nil ?_
            intro wz hwz
            have qz := qw_out hwz
            replace HE : Hid (Qb w wz) := HE.out.trans qz.qb
            clear qz hwz n0 f0 f1 f2 f3 f4
            go_wp2_with fail
            go_ret
            exact ⟨rfl, HE.out⟩
          · skip
            refine doesB_value (v := .pointer (some ⟨y2.heap.size, 0, none⟩)) (x' := y2.alloc (.cells #[.int .i64 0, .int .i64 0, .slice none 0 0] 24)) (by simp [execOp, go_sem]) ⟨fun _ => q2.trans ((Q.refl _).cells _ _).qb, ?_⟩
            have z21 := zbp_new y2
            have qq21 : Qb y2 (y2.alloc (.cells #[.int .i64 0, .int .i64 0, .slice none 0 0] 24)) := ((Q.refl _).cells _ _).qb
            have q21 := q2.trans qq21
            have ud21 := ud.nextB qq21
            generalize hV21 : y2.heap.size = V at z21 ⊢
            generalize y2.alloc (.cells #[.int .i64 0, .int .i64 0, .slice none 0 0] 24) = y21 at z21 q21 ud21 ⊢
            have hVw21 : w13.heap.size ≤ V := by rw [← hV21]; exact q2.sz
            refine treeB1 21 (by decide) rfl ?_
            refine doesB_value (v := .agg #[.int .i64 (a2 : Int), .int .i64 (b2 : Int), .slice (some ⟨gd, 0, none⟩) n2 n2]) (x' := y21) (by simp [execOp, go_sem, Act.eval, Act.put]) ⟨fun _ => q21, ?_⟩
            refine treeB1 24 (by decide) rfl ?_
            obtain ⟨y23, hy23⟩ : ∃ y, ((y21.setCell ⟨V, 0, none⟩ (.int .i64 (a2 : Int))).setCell ⟨V, 1, none⟩ (.int .i64 (b2 : Int))).setCell ⟨V, 2, none⟩ (.slice (some ⟨gd, 0, none⟩) n2 n2) = y := ⟨_, rfl⟩
            have z0 := z21.c0
            have z1 := z21.c1
            have z2 := z21.c2
            have e0 := z21.fr 0
            have e1 := z21.fr 1
            have e2 := z21.fr 2
            have bx23 : Bxq y23 V a2 b2 gd n2 (tabB n2 (exF pa pb a2 b2 T2)) := boxed z21 ud21 hy23 (hn21 _)
            have q23 : Qb w13 y23 := by rw [← hy23]; exact ((q21.set hVw21 _).set hVw21 _).set hVw21 _
            refine doesB_skip (x' := y23) (by simp [execOp, go_sem, Act.eval, Act.put, z0, z1, z2, e0, e1, e2, hy23]) ⟨fun _ => q23, ?_⟩
            refine treeB1 25 (by decide) rfl ?_
            refine doesB_value (v := .int .i64 0) (x' := y23) (by simp [execOp, go_sem, Act.eval, Act.put]) ⟨fun _ => q23, ?_⟩
            refine tree_nil ?_
            have HEL : Hid (Qb w13 y23 ∧ Bxq y23 V a2 b2 gd n2 (tabB n2 (exF pa pb a2 b2 T2))) := ⟨q23, bx23⟩
            have HT4 : Hid (exF pa pb a2 b2 S k2 = exF pa pb a2 b2 T2 k2) := t24
            have i0 := HEL.out.1.cell k0
            have i1 := (HBC.out.nextB HEL.out.1).p.c2
            have i2 := HEL.out.2.p.c2
            have i3 := (HBC.out.nextB HEL.out.1).u k2 (by rw [tabB_len]; exact hk2n)
            have i4 := HEL.out.2.u k2 (by rw [tabB_len]; exact hk2n)
            rw [tabB_at hk2n, Nat.zero_add] at i3 i4
            rw [← HT4.out] at i4
            obtain ⟨v2, hv2⟩ : ∃ v2, exF pa pb a2 b2 S k2 = v2 := ⟨_, rfl⟩
            rw [hv2] at i3 i4
            have n0 := qw_some y23
            have f0 := qw_cell i0
            have f1 := qw_cell i1
            have f2 := qw_cell i2
            have f3 := qw_cell i3
            have f4 := qw_cell i4
            replace HE : Hid (Qb w y23) := HE.out.trans HEL.out.1
            go_wp2_with fail
            refine wp_region_quiet_Q (by kernel_rfl) (by kernel_rfl) ?_
            repeat (first | go_big_quiet_step (first | (go_at_call 11; exact calls_qs (CN.out _))) | quiet_step (first | (go_at_call 11; exact calls_qs (CN.out _))))
            refine wpQuiet_nil ?_
            intro wz hwz
            have qz := qw_out hwz
            replace HE : Hid (Qb w wz) := HE.out.trans qz.qb
            clear qz hwz n0 f0 f1 f2 f3 f4
            go_wp2_with fail
            go_ret
            exact ⟨rfl, HE.out⟩
        · skip
          refine doesB_value (v := .pointer (some ⟨y2.heap.size, 0, none⟩)) (x' := y2.alloc (.cells #[.int .i64 0, .int .i64 0, .slice none 0 0] 24)) (by simp [execOp, go_sem]) ⟨fun _ => q2.trans ((Q.refl _).cells _ _).qb, ?_⟩
          have z25 := zbp_new y2
          have qq25 : Qb y2 (y2.alloc (.cells #[.int .i64 0, .int .i64 0, .slice none 0 0] 24)) := ((Q.refl _).cells _ _).qb
          have q25 := q2.trans qq25
          have ud25 := ud.nextB qq25
          generalize hV25 : y2.heap.size = V at z25 ⊢
          generalize y2.alloc (.cells #[.int .i64 0, .int .i64 0, .slice none 0 0] 24) = y25 at z25 q25 ud25 ⊢
          have hVw25 : w13.heap.size ≤ V := by rw [← hV25]; exact q2.sz
          refine treeB2 21 22 (by decide) rfl rfl ?_ ?_
          · skip
            refine doesB_value (v := .agg #[.int .i64 (a2 : Int), .int .i64 (b2 : Int), .slice (some ⟨gd, 0, none⟩) n2 n2]) (x' := y25) (by simp [execOp, go_sem, Act.eval, Act.put]) ⟨fun _ => q25, ?_⟩
            refine treeB2 22 24 (by decide) rfl rfl ?_ ?_
            · skip
              refine doesB_value (v := .int .i64 0) (x' := y25) (by simp [execOp, go_sem, Act.eval, Act.put]) ⟨fun _ => q25, ?_⟩
              refine treeB1 24 (by decide) rfl ?_
              obtain ⟨y28, hy28⟩ : ∃ y, ((y25.setCell ⟨V, 0, none⟩ (.int .i64 (a2 : Int))).setCell ⟨V, 1, none⟩ (.int .i64 (b2 : Int))).setCell ⟨V, 2, none⟩ (.slice (some ⟨gd, 0, none⟩) n2 n2) = y := ⟨_, rfl⟩
              have z0 := z25.c0
              have z1 := z25.c1
              have z2 := z25.c2
              have e0 := z25.fr 0
              have e1 := z25.fr 1
              have e2 := z25.fr 2
              have bx28 : Bxq y28 V a2 b2 gd n2 (tabB n2 (exF pa pb a2 b2 T2)) := boxed z25 ud25 hy28 (hn21 _)
              have q28 : Qb w13 y28 := by rw [← hy28]; exact ((q25.set hVw25 _).set hVw25 _).set hVw25 _
              refine doesB_skip (x' := y28) (by simp [execOp, go_sem, Act.eval, Act.put, z0, z1, z2, e0, e1, e2, hy28]) ⟨fun _ => q28, ?_⟩
              refine treeB1 25 (by decide) rfl ?_
              refine doesB_value (v := .int .i64 0) (x' := y28) (by simp [execOp, go_sem, Act.eval, Act.put]) ⟨fun _ => q28, ?_⟩
              refine tree_nil ?_
              have HEL : Hid (Qb w13 y28 ∧ Bxq y28 V a2 b2 gd n2 (tabB n2 (exF pa pb a2 b2 T2))) := ⟨q28, bx28⟩
              have HT4 : Hid (exF pa pb a2 b2 S k2 = exF pa pb a2 b2 T2 k2) := t24
              have i0 := HEL.out.1.cell k0
              have i1 := (HBC.out.nextB HEL.out.1).p.c2
              have i2 := HEL.out.2.p.c2
              have i3 := (HBC.out.nextB HEL.out.1).u k2 (by rw [tabB_len]; exact hk2n)
              have i4 := HEL.out.2.u k2 (by rw [tabB_len]; exact hk2n)
              rw [tabB_at hk2n, Nat.zero_add] at i3 i4
              rw [← HT4.out] at i4
              obtain ⟨v2, hv2⟩ : ∃ v2, exF pa pb a2 b2 S k2 = v2 := ⟨_, rfl⟩
              rw [hv2] at i3 i4
              have n0 := qw_some y28
              have f0 := qw_cell i0
              have f1 := qw_cell i1
              have f2 := qw_cell i2
              have f3 := qw_cell i3
              have f4 := qw_cell i4
              replace HE : Hid (Qb w y28) := HE.out.trans HEL.out.1
              go_wp2_with fail
              refine wp_region_quiet_Q (by kernel_rfl) (by kernel_rfl) ?_
              repeat (first | go_big_quiet_step (first | (go_at_call 11; exact calls_qs (CN.out _))) | quiet_step (first | (go_at_call 11; exact calls_qs (CN.out _))))
              refine wpQuiet_nil ?_
              intro wz hwz
              have qz := qw_out hwz
              replace HE : Hid (Qb w wz) := HE.out.trans qz.qb
              clear qz hwz n0 f0 f1 f2 f3 f4
              go_wp2_with fail
              go_ret
              exact ⟨rfl, HE.out⟩
            · skip
              obtain ⟨y30, hy30⟩ : ∃ y, ((y25.setCell ⟨V, 0, none⟩ (.int .i64 (a2 : Int))).setCell ⟨V, 1, none⟩ (.int .i64 (b2 : Int))).setCell ⟨V, 2, none⟩ (.slice (some ⟨gd, 0, none⟩) n2 n2) = y := ⟨_, rfl⟩
              have z0 := z25.c0
              have z1 := z25.c1
              have z2 := z25.c2
              have e0 := z25.fr 0
              have e1 := z25.fr 1
              have e2 := z25.fr 2
              have bx30 : Bxq y30 V a2 b2 gd n2 (tabB n2 (exF pa pb a2 b2 T2)) := boxed z25 ud25 hy30 (hn21 _)
              have q30 : Qb w13 y30 := by rw [← hy30]; exact ((q25.set hVw25 _).set hVw25 _).set hVw25 _
              refine doesB_skip (x' := y30) (by simp [execOp, go_sem, Act.eval, Act.put, z0, z1, z2, e0, e1, e2, hy30]) ⟨fun _ => q30, ?_⟩
              refine treeB1 22 (by decide) rfl ?_
              refine doesB_value (v := .int .i64 0) (x' := y30) (by simp [execOp, go_sem, Act.eval, Act.put]) ⟨fun _ => q30, ?_⟩
              refine treeB1 25 (by decide) rfl ?_
              refine doesB_value (v := .int .i64 0) (x' := y30) (by simp [execOp, go_sem, Act.eval, Act.put]) ⟨fun _ => q30, ?_⟩
              refine tree_nil ?_
              have HEL : Hid (Qb w13 y30 ∧ Bxq y30 V a2 b2 gd n2 (tabB n2 (exF pa pb a2 b2 T2))) := ⟨q30, bx30⟩
              have HT4 : Hid (exF pa pb a2 b2 S k2 = exF pa pb a2 b2 T2 k2) := t24
              have i0 := HEL.out.1.cell k0
              have i1 := (HBC.out.nextB HEL.out.1).p.c2
              have i2 := HEL.out.2.p.c2
              have i3 := (HBC.out.nextB HEL.out.1).u k2 (by rw [tabB_len]; exact hk2n)
              have i4 := HEL.out.2.u k2 (by rw [tabB_len]; exact hk2n)
              rw [tabB_at hk2n, Nat.zero_add] at i3 i4
              rw [← HT4.out] at i4
              obtain ⟨v2, hv2⟩ : ∃ v2, exF pa pb a2 b2 S k2 = v2 := ⟨_, rfl⟩
              rw [hv2] at i3 i4
              have n0 := qw_some y30
              have f0 := qw_cell i0
              have f1 := qw_cell i1
              have f2 := qw_cell i2
              have f3 := qw_cell i3
              have f4 := qw_cell i4
              replace HE : Hid (Qb w y30) := HE.out.trans HEL.out.1
              go_wp2_with fail
              refine wp_region_quiet_Q (by kernel_rfl) (by kernel_rfl) ?_
              repeat (first | go_big_quiet_step (first | (go_at_call 11; exact calls_qs (CN.out _))) | quiet_step (first | (go_at_call 11; exact calls_qs (CN.out _))))
              refine wpQuiet_nil ?_
              intro wz hwz
              have qz := qw_out hwz
              replace HE : Hid (Qb w wz) := HE.out.trans qz.qb
              clear qz hwz n0 f0 f1 f2 f3 f4
              go_wp2_with fail
              go_ret
              exact ⟨rfl, HE.out⟩
          · skip
            refine doesB_value (v := .int .i64 0) (x' := y25) (by simp [execOp, go_sem, Act.eval, Act.put]) ⟨fun _ => q25, ?_⟩
            refine treeB1 21 (by decide) rfl ?_
            refine doesB_value (v := .agg #[.int .i64 (a2 : Int), .int .i64 (b2 : Int), .slice (some ⟨gd, 0, none⟩) n2 n2]) (x' := y25) (by simp [execOp, go_sem, Act.eval, Act.put]) ⟨fun _ => q25, ?_⟩
            refine treeB1 24 (by decide) rfl ?_
            obtain ⟨y35, hy35⟩ : ∃ y, ((y25.setCell ⟨V, 0, none⟩ (.int .i64 (a2 : Int))).setCell ⟨V, 1, none⟩ (.int .i64 (b2 : Int))).setCell ⟨V, 2, none⟩ (.slice (some ⟨gd, 0, none⟩) n2 n2) = y := ⟨_, rfl⟩
            have z0 := z25.c0
            have z1 := z25.c1
            have z2 := z25.c2
            have e0 := z25.fr 0
            have e1 := z25.fr 1
            have e2 := z25.fr 2
            have bx35 : Bxq y35 V a2 b2 gd n2 (tabB n2 (exF pa pb a2 b2 T2)) := boxed z25 ud25 hy35 (hn21 _)
            have q35 : Qb w13 y35 := by rw [← hy35]; exact ((q25.set hVw25 _).set hVw25 _).set hVw25 _
            refine doesB_skip (x' := y35) (by simp [execOp, go_sem, Act.eval, Act.put, z0, z1, z2, e0, e1, e2, hy35]) ⟨fun _ => q35, ?_⟩
            refine treeB1 25 (by decide) rfl ?_
            refine doesB_value (v := .int .i64 0) (x' := y35) (by simp [execOp, go_sem, Act.eval, Act.put]) ⟨fun _ => q35, ?_⟩
            refine tree_nil ?_
            have HEL : Hid (Qb w13 y35 ∧ Bxq y35 V a2 b2 gd n2 (tabB n2 (exF pa pb a2 b2 T2))) := ⟨q35, bx35⟩
            have HT4 : Hid (exF pa pb a2 b2 S k2 = exF pa pb a2 b2 T2 k2) := t24
            have i0 := HEL.out.1.cell k0
            have i1 := (HBC.out.nextB HEL.out.1).p.c2
            have i2 := HEL.out.2.p.c2
            have i3 := (HBC.out.nextB HEL.out.1).u k2 (by rw [tabB_len]; exact hk2n)
            have i4 := HEL.out.2.u k2 (by rw [tabB_len]; exact hk2n)
            rw [tabB_at hk2n, Nat.zero_add] at i3 i4
            rw [← HT4.out] at i4
            obtain ⟨v2, hv2⟩ : ∃ v2, exF pa pb a2 b2 S k2 = v2 := ⟨_, rfl⟩
            rw [hv2] at i3 i4
            have n0 := qw_some y35
            have f0 := qw_cell i0
            have f1 := qw_cell i1
            have f2 := qw_cell i2
            have f3 := qw_cell i3
            have f4 := qw_cell i4
            replace HE : Hid (Qb w y35) := HE.out.trans HEL.out.1
            go_wp2_with fail
            refine wp_region_quiet_Q (by kernel_rfl) (by kernel_rfl) ?_
            repeat (first | go_big_quiet_step (first | (go_at_call 11; exact calls_qs (CN.out _))) | quiet_step (first | (go_at_call 11; exact calls_qs (CN.out _))))
            refine wpQuiet_nil ?_
            intro wz hwz
            have qz := qw_out hwz
            replace HE : Hid (Qb w wz) := HE.out.trans qz.qb
            clear qz hwz n0 f0 f1 f2 f3 f4
            go_wp2_with fail
            go_ret
            exact ⟨rfl, HE.out⟩
      · skip
        refine doesB_value (v := .pointer (some ⟨y2.heap.size, 0, none⟩)) (x' := y2.alloc (.cells #[.int .i64 0, .int .i64 0, .slice none 0 0] 24)) (by simp [execOp, go_sem]) ⟨fun _ => q2.trans ((Q.refl _).cells _ _).qb, ?_⟩
        have z37 := zbp_new y2
        have qq37 : Qb y2 (y2.alloc (.cells #[.int .i64 0, .int .i64 0, .slice none 0 0] 24)) := ((Q.refl _).cells _ _).qb
        have q37 := q2.trans qq37
        have ud37 := ud.nextB qq37
        generalize hV37 : y2.heap.size = V at z37 ⊢
        generalize y2.alloc (.cells #[.int .i64 0, .int .i64 0, .slice none 0 0] 24) = y37 at z37 q37 ud37 ⊢
        have hVw37 : w13.heap.size ≤ V := by rw [← hV37]; exact q2.sz
        refine treeB1 20 (by decide) rfl ?_
        refine doesB_value (v := .tuple #[.agg #[.int .i64 (a2 : Int), .int .i64 (b2 : Int), .slice (some ⟨gd, 0, none⟩) n2 n2], .int .i64 0]) (x' := y37) (by simp [execOp, go_sem, Act.eval, Act.put]) ⟨fun _ => q37, ?_⟩
        refine treeB2 21 22 (by decide) rfl rfl ?_ ?_
        · skip
          refine doesB_value (v := .agg #[.int .i64 (a2 : Int), .int .i64 (b2 : Int), .slice (some ⟨gd, 0, none⟩) n2 n2]) (x' := y37) (by simp [execOp, go_sem, Act.eval, Act.put]) ⟨fun _ => q37, ?_⟩
          refine treeB2 22 24 (by decide) rfl rfl ?_ ?_
          · skip
            refine doesB_value (v := .int .i64 0) (x' := y37) (by simp [execOp, go_sem, Act.eval, Act.put]) ⟨fun _ => q37, ?_⟩
            refine treeB1 24 (by decide) rfl ?_
            obtain ⟨y41, hy41⟩ : ∃ y, ((y37.setCell ⟨V, 0, none⟩ (.int .i64 (a2 : Int))).setCell ⟨V, 1, none⟩ (.int .i64 (b2 : Int))).setCell ⟨V, 2, none⟩ (.slice (some ⟨gd, 0, none⟩) n2 n2) = y := ⟨_, rfl⟩
            have z0 := z37.c0
            have z1 := z37.c1
            have z2 := z37.c2
            have e0 := z37.fr 0
            have e1 := z37.fr 1
            have e2 := z37.fr 2
            have bx41 : Bxq y41 V a2 b2 gd n2 (tabB n2 (exF pa pb a2 b2 T2)) := boxed z37 ud37 hy41 (hn21 _)
            have q41 : Qb w13 y41 := by rw [← hy41]; exact ((q37.set hVw37 _).set hVw37 _).set hVw37 _
            refine doesB_skip (x' := y41) (by simp [execOp, go_sem, Act.eval, Act.put, z0, z1, z2, e0, e1, e2, hy41]) ⟨fun _ => q41, ?_⟩
            refine treeB1 25 (by decide) rfl ?_
            refine doesB_value (v := .int .i64 0) (x' := y41) (by simp [execOp, go_sem, Act.eval, Act.put]) ⟨fun _ => q41, ?_⟩
            refine tree_nil ?_
            have HEL : Hid (Qb w13 y41 ∧ Bxq y41 V a2 b2 gd n2 (tabB n2 (exF pa pb a2 b2 T2))) := ⟨q41, bx41⟩
            have HT4 : Hid (exF pa pb a2 b2 S k2 = exF pa pb a2 b2 T2 k2) := t24
            have i0 := HEL.out.1.cell k0
            have i1 := (HBC.out.nextB HEL.out.1).p.c2
            have i2 := HEL.out.2.p.c2
            have i3 := (HBC.out.nextB HEL.out.1).u k2 (by rw [tabB_len]; exact hk2n)
            have i4 := HEL.out.2.u k2 (by rw [tabB_len]; exact hk2n)
            rw [tabB_at hk2n, Nat.zero_add] at i3 i4
            rw [← HT4.out] at i4
            obtain ⟨v2, hv2⟩ : ∃ v2, exF pa pb a2 b2 S k2 = v2 := ⟨_, rfl⟩
            rw [hv2] at i3 i4
            have n0 := qw_some y41
            have f0 := qw_cell i0
            have f1 := qw_cell i1
            have f2 := qw_cell i2
            have f3 := qw_cell i3
            have f4 := qw_cell i4
            replace HE : Hid (Qb w y41) := HE.out.trans HEL.out.1
            go_wp2_with fail
            refine wp_region_quiet_Q (by kernel_rfl) (by kernel_rfl) ?_
            repeat (first | go_big_quiet_step (first | (go_at_call 11; exact calls_qs (CN.out _))) | quiet_step (first | (go_at_call 11; exact calls_qs (CN.out _))))
            refine wpQuiet_nil ?_
            intro wz hwz
            have qz := qw_out hwz
            replace HE : Hid (Qb w wz) := HE.out.trans qz.qb
            clear qz hwz n0 f0 f1 f2 f3 f4
            go_wp2_with fail
            go_ret
            exact ⟨rfl, HE.out⟩
          · skip
            obtain ⟨y43, hy43⟩ : ∃ y, ((y37.setCell ⟨V, 0, none⟩ (.int .i64 (a2 : Int))).setCell ⟨V, 1, none⟩ (.int .i64 (b2 : Int))).setCell ⟨V, 2, none⟩ (.slice (some ⟨gd, 0, none⟩) n2 n2) = y := ⟨_, rfl⟩
            have z0 := z37.c0
            have z1 := z37.c1
            have z2 := z37.c2
            have e0 := z37.fr 0
            have e1 := z37.fr 1
            have e2 := z37.fr 2
            have bx43 : Bxq y43 V a2 b2 gd n2 (tabB n2 (exF pa pb a2 b2 T2)) := boxed z37 ud37 hy43 (hn21 _)
            have q43 : Qb w13 y43 := by rw [← hy43]; exact ((q37.set hVw37 _).set hVw37 _).set hVw37 _
            refine doesB_skip (x' := y43) (by simp [execOp, go_sem, Act.eval, Act.put, z0, z1, z2, e0, e1, e2, hy43]) ⟨fun _ => q43, ?_⟩
            refine treeB1 22 (by decide) rfl ?_
            refine doesB_value (v := .int .i64 0) (x' := y43) (by simp [execOp, go_sem, Act.eval, Act.put]) ⟨fun _ => q43, ?_⟩
            refine treeB1 25 (by decide) rfl ?_
            refine doesB_value (v := .int .i64 0) (x' := y43) (by simp [execOp, go_sem, Act.eval, Act.put]) ⟨fun _ => q43, ?_⟩
            refine tree_nil ?_
            have HEL : Hid (Qb w13 y43 ∧ Bxq y43 V a2 b2 gd n2 (tabB n2 (exF pa pb a2 b2 T2))) := ⟨q43, bx43⟩
            have HT4 : Hid (exF pa pb a2 b2 S k2 = exF pa pb a2 b2 T2 k2) := t24
            have i0 := HEL.out.1.cell k0
            have i1 := (HBC.out.nextB HEL.out.1).p.c2
            have i2 := HEL.out.2.p.c2
            have i3 := (HBC.out.nextB HEL.out.1).u k2 (by rw [tabB_len]; exact hk2n)
            have i4 := HEL.out.2.u k2 (by rw [tabB_len]; exact hk2n)
            rw [tabB_at hk2n, Nat.zero_add] at i3 i4
            rw [← HT4.out] at i4
            obtain ⟨v2, hv2⟩ : ∃ v2, exF pa pb a2 b2 S k2 = v2 := ⟨_, rfl⟩
            rw [hv2] at i3 i4
            have n0 := qw_some y43
            have f0 := qw_cell i0
            have f1 := qw_cell i1
            have f2 := qw_cell i2
            have f3 := qw_cell i3
            have f4 := qw_cell i4
            replace HE : Hid (Qb w y43) := HE.out.trans HEL.out.1
            go_wp2_with fail
            refine wp_region_quiet_Q (by kernel_rfl) (by kernel_rfl) ?_
            repeat (first | go_big_quiet_step (first | (go_at_call 11; exact calls_qs (CN.out _))) | quiet_step (first | (go_at_call 11; exact calls_qs (CN.out _))))
            refine wpQuiet_nil ?_
            intro wz hwz
            have qz := qw_out hwz
            replace HE : Hid (Qb w wz) := HE.out.trans qz.qb
            clear qz hwz n0 f0 f1 f2 f3 f4
            go_wp2_with fail
            go_ret
            exact ⟨rfl, HE.out⟩
        · skip
          refine doesB_value (v := .int .i64 0) (x' := y37) (by simp [execOp, go_sem, Act.eval, Act.put]) ⟨fun _ => q37, ?_⟩
          refine treeB1 21 (by decide) rfl ?_
          refine doesB_value (v := .agg #[.int .i64 (a2 : Int), .int .i64 (b2 : Int), .slice (some ⟨gd, 0, none⟩) n2 n2]) (x' := y37) (by simp [execOp, go_sem, Act.eval, Act.put]) ⟨fun _ => q37, ?_⟩
          refine treeB1 24 (by decide) rfl ?_
          obtain ⟨y48, hy48⟩ : ∃ y, ((y37.setCell ⟨V, 0, none⟩ (.int .i64 (a2 : Int))).setCell ⟨V, 1, none⟩ (.int .i64 (b2 : Int))).setCell ⟨V, 2, none⟩ (.slice (some ⟨gd, 0, none⟩) n2 n2) = y := ⟨_, rfl⟩
          have z0 := z37.c0
          have z1 := z37.c1
          have z2 := z37.c2
          have e0 := z37.fr 0
          have e1 := z37.fr 1
          have e2 := z37.fr 2
          have bx48 : Bxq y48 V a2 b2 gd n2 (tabB n2 (exF pa pb a2 b2 T2)) := boxed z37 ud37 hy48 (hn21 _)
          have q48 : Qb w13 y48 := by rw [← hy48]; exact ((q37.set hVw37 _).set hVw37 _).set hVw37 _
          refine doesB_skip (x' := y48) (by simp [execOp, go_sem, Act.eval, Act.put, z0, z1, z2, e0, e1, e2, hy48]) ⟨fun _ => q48, ?_⟩
          refine treeB1 25 (by decide) rfl ?_
          refine doesB_value (v := .int .i64 0) (x' := y48) (by simp [execOp, go_sem, Act.eval, Act.put]) ⟨fun _ => q48, ?_⟩
          refine tree_nil ?_
          have HEL : Hid (Qb w13 y48 ∧ Bxq y48 V a2 b2 gd n2 (tabB n2 (exF pa pb a2 b2 T2))) := ⟨q48, bx48⟩
          have HT4 : Hid (exF pa pb a2 b2 S k2 = exF pa pb a2 b2 T2 k2) := t24
          have i0 := HEL.out.1.cell k0
          have i1 := (HBC.out.nextB HEL.out.1).p.c2
          have i2 := HEL.out.2.p.c2
          have i3 := (HBC.out.nextB HEL.out.1).u k2 (by rw [tabB_len]; exact hk2n)
          have i4 := HEL.out.2.u k2 (by rw [tabB_len]; exact hk2n)
          rw [tabB_at hk2n, Nat.zero_add] at i3 i4
          rw [← HT4.out] at i4
          obtain ⟨v2, hv2⟩ : ∃ v2, exF pa pb a2 b2 S k2 = v2 := ⟨_, rfl⟩
          rw [hv2] at i3 i4
          have n0 := qw_some y48
          have f0 := qw_cell i0
          have f1 := qw_cell i1
          have f2 := qw_cell i2
          have f3 := qw_cell i3
          have f4 := qw_cell i4
          replace HE : Hid (Qb w y48) := HE.out.trans HEL.out.1
          go_wp2_with fail
          refine wp_region_quiet_Q (by kernel_rfl) (by kernel_rfl) ?_
          repeat (first | go_big_quiet_step (first | (go_at_call 11; exact calls_qs (CN.out _))) | quiet_step (first | (go_at_call 11; exact calls_qs (CN.out _))))
          refine wpQuiet_nil ?_
          intro wz hwz
          have qz := qw_out hwz
          replace HE : Hid (Qb w wz) := HE.out.trans qz.qb
          clear qz hwz n0 f0 f1 f2 f3 f4
          go_wp2_with fail
          go_ret
          exact ⟨rfl, HE.out⟩
    · skip
      refine doesB_value (v := .pointer (some ⟨y1.heap.size, 0, none⟩)) (x' := y1.alloc (.cells #[.int .i64 0, .int .i64 0, .slice none 0 0] 24)) (by simp [execOp, go_sem]) ⟨fun _ => q1.trans ((Q.refl _).cells _ _).qb, ?_⟩
      have z50 := zbp_new y1
      have qq50 : Qb y1 (y1.alloc (.cells #[.int .i64 0, .int .i64 0, .slice none 0 0] 24)) := ((Q.refl _).cells _ _).qb
      have q50 := q1.trans qq50
      have t2250 := t22.nextB qq50
      generalize hV50 : y1.heap.size = V at z50 ⊢
      generalize y1.alloc (.cells #[.int .i64 0, .int .i64 0, .slice none 0 0] 24) = y50 at z50 q50 t2250 ⊢
      have hVw50 : w13.heap.size ≤ V := by rw [← hV50]; exact q1.sz
      refine treeB1 19 (by decide) rfl ?_
      refine doesB_call (run_fn 10 #[.tmp 142, .tmp 145, .tmp 148] _ rfl HFE.out.2 (vs := #[.agg #[.int .i64 (pa : Int), .int .i64 (pb : Int), .slice (some ⟨gq, 0, none⟩) np np], .int .i64 (2 * (pa : Int)), .int .i64 (2 * (pb : Int))]) (by simp [Act.eval, Act.put])) ((CX.out y50 gq 0 np T2 t21 t23 t2250 (Nat.le_refl _)).mono ?_)
      rintro e y51 ⟨gd, rfl, ud, qq51⟩
      have q51 := q50.trans qq51
      refine ⟨_, rfl, fun _ => q51, ?_⟩
      have z51 := z50.nextB qq51
      refine treeB1 20 (by decide) rfl ?_
      refine doesB_value (v := .tuple #[.agg #[.int .i64 (a2 : Int), .int .i64 (b2 : Int), .slice (some ⟨gd, 0, none⟩) n2 n2], .int .i64 0]) (x' := y51) (by simp [execOp, go_sem, Act.eval, Act.put]) ⟨fun _ => q51, ?_⟩
      refine treeB2 21 22 (by decide) rfl rfl ?_ ?_
      · skip
        refine doesB_value (v := .agg #[.int .i64 (a2 : Int), .int .i64 (b2 : Int), .slice (some ⟨gd, 0, none⟩) n2 n2]) (x' := y51) (by simp [execOp, go_sem, Act.eval, Act.put]) ⟨fun _ => q51, ?_⟩
        refine treeB2 22 24 (by decide) rfl rfl ?_ ?_
        · skip
          refine doesB_value (v := .int .i64 0) (x' := y51) (by simp [execOp, go_sem, Act.eval, Act.put]) ⟨fun _ => q51, ?_⟩
          refine treeB1 24 (by decide) rfl ?_
          obtain ⟨y55, hy55⟩ : ∃ y, ((y51.setCell ⟨V, 0, none⟩ (.int .i64 (a2 : Int))).setCell ⟨V, 1, none⟩ (.int .i64 (b2 : Int))).setCell ⟨V, 2, none⟩ (.slice (some ⟨gd, 0, none⟩) n2 n2) = y := ⟨_, rfl⟩
          have z0 := z51.c0
          have z1 := z51.c1
          have z2 := z51.c2
          have e0 := z51.fr 0
          have e1 := z51.fr 1
          have e2 := z51.fr 2
          have bx55 : Bxq y55 V a2 b2 gd n2 (tabB n2 (exF pa pb a2 b2 T2)) := boxed z51 ud hy55 (hn21 _)
          have q55 : Qb w13 y55 := by rw [← hy55]; exact ((q51.set hVw50 _).set hVw50 _).set hVw50 _
          refine doesB_skip (x' := y55) (by simp [execOp, go_sem, Act.eval, Act.put, z0, z1, z2, e0, e1, e2, hy55]) ⟨fun _ => q55, ?_⟩
          refine treeB1 25 (by decide) rfl ?_
          refine doesB_value (v := .int .i64 0) (x' := y55) (by simp [execOp, go_sem, Act.eval, Act.put]) ⟨fun _ => q55, ?_⟩
          refine tree_nil ?_
          have HEL : Hid (Qb w13 y55 ∧ Bxq y55 V a2 b2 gd n2 (tabB n2 (exF pa pb a2 b2 T2))) := ⟨q55, bx55⟩
          have HT4 : Hid (exF pa pb a2 b2 S k2 = exF pa pb a2 b2 T2 k2) := t24
          have i0 := HEL.out.1.cell k0
          have i1 := (HBC.out.nextB HEL.out.1).p.c2
          have i2 := HEL.out.2.p.c2
          have i3 := (HBC.out.nextB HEL.out.1).u k2 (by rw [tabB_len]; exact hk2n)
          have i4 := HEL.out.2.u k2 (by rw [tabB_len]; exact hk2n)
          rw [tabB_at hk2n, Nat.zero_add] at i3 i4
          rw [← HT4.out] at i4
          obtain ⟨v2, hv2⟩ : ∃ v2, exF pa pb a2 b2 S k2 = v2 := ⟨_, rfl⟩
          rw [hv2] at i3 i4
          have n0 := qw_some y55
          have f0 := qw_cell i0
          have f1 := qw_cell i1
          have f2 := qw_cell i2
          have f3 := qw_cell i3
          have f4 := qw_cell i4
          replace HE : Hid (Qb w y55) := HE.out.trans HEL.out.1
          go_wp2_with fail
          refine wp_region_quiet_Q (by kernel_rfl) (by kernel_rfl) ?_
          repeat (first | go_big_quiet_step (first | (go_at_call 11; exact calls_qs (CN.out _))) | quiet_step (first | (go_at_call 11; exact calls_qs (CN.out _))))
          refine wpQuiet_nil ?_
          intro wz hwz
          have qz := qw_out hwz
          replace HE : Hid (Qb w wz) := HE.out.trans qz.qb
          clear qz hwz n0 f0 f1 f2 f3 f4
          go_wp2_with fail
          go_ret
          exact ⟨rfl, HE.out⟩
        · skip
          obtain ⟨y57, hy57⟩ : ∃ y, ((y51.setCell ⟨V, 0, none⟩ (.int .i64 (a2 : Int))).setCell ⟨V, 1, none⟩ (.int .i64 (b2 : Int))).setCell ⟨V, 2, none⟩ (.slice (some ⟨gd, 0, none⟩) n2 n2) = y := ⟨_, rfl⟩
          have z0 := z51.c0
          have z1 := z51.c1
          have z2 := z51.c2
          have e0 := z51.fr 0
          have e1 := z51.fr 1
          have e2 := z51.fr 2
          have bx57 : Bxq y57 V a2 b2 gd n2 (tabB n2 (exF pa pb a2 b2 T2)) := boxed z51 ud hy57 (hn21 _)
          have q57 : Qb w13 y57 := by rw [← hy57]; exact ((q51.set hVw50 _).set hVw50 _).set hVw50 _
          refine doesB_skip (x' := y57) (by simp [execOp, go_sem, Act.eval, Act.put, z0, z1, z2, e0, e1, e2, hy57]) ⟨fun _ => q57, ?_⟩
          refine treeB1 22 (by decide) rfl ?_
          refine doesB_value (v := .int .i64 0) (x' := y57) (by simp [execOp, go_sem, Act.eval, Act.put]) ⟨fun _ => q57, ?_⟩
          refine treeB1 25 (by decide) rfl ?_
          refine doesB_value (v := .int .i64 0) (x' := y57) (by simp [execOp, go_sem, Act.eval, Act.put]) ⟨fun _ => q57, ?_⟩
          refine tree_nil ?_
          have HEL : Hid (Qb w13 y57 ∧ Bxq y57 V a2 b2 gd n2 (tabB n2 (exF pa pb a2 b2 T2))) := ⟨q57, bx57⟩
          have HT4 : Hid (exF pa pb a2 b2 S k2 = exF pa pb a2 b2 T2 k2) := t24
          have i0 := HEL.out.1.cell k0
          have i1 := (HBC.out.nextB HEL.out.1).p.c2
          have i2 := HEL.out.2.p.c2
          have i3 := (HBC.out.nextB HEL.out.1).u k2 (by rw [tabB_len]; exact hk2n)
          have i4 := HEL.out.2.u k2 (by rw [tabB_len]; exact hk2n)
          rw [tabB_at hk2n, Nat.zero_add] at i3 i4
          rw [← HT4.out] at i4
          obtain ⟨v2, hv2⟩ : ∃ v2, exF pa pb a2 b2 S k2 = v2 := ⟨_, rfl⟩
          rw [hv2] at i3 i4
          have n0 := qw_some y57
          have f0 := qw_cell i0
          have f1 := qw_cell i1
          have f2 := qw_cell i2
          have f3 := qw_cell i3
          have f4 := qw_cell i4
          replace HE : Hid (Qb w y57) := HE.out.trans HEL.out.1
          go_wp2_with fail
          refine wp_region_quiet_Q (by kernel_rfl) (by kernel_rfl) ?_
          repeat (first | go_big_quiet_step (first | (go_at_call 11; exact calls_qs (CN.out _))) | quiet_step (first | (go_at_call 11; exact calls_qs (CN.out _))))
          refine wpQuiet_nil ?_
          intro wz hwz
          have qz := qw_out hwz
          replace HE : Hid (Qb w wz) := HE.out.trans qz.qb
          clear qz hwz n0 f0 f1 f2 f3 f4
          go_wp2_with fail
          go_ret
          exact ⟨rfl, HE.out⟩
      · skip
        refine doesB_value (v := .int .i64 0) (x' := y51) (by simp [execOp, go_sem, Act.eval, Act.put]) ⟨fun _ => q51, ?_⟩
        refine treeB1 21 (by decide) rfl ?_
        refine doesB_value (v := .agg #[.int .i64 (a2 : Int), .int .i64 (b2 : Int), .slice (some ⟨gd, 0, none⟩) n2 n2]) (x' := y51) (by simp [execOp, go_sem, Act.eval, Act.put]) ⟨fun _ => q51, ?_⟩
        refine treeB1 24 (by decide) rfl ?_
        obtain ⟨y62, hy62⟩ : ∃ y, ((y51.setCell ⟨V, 0, none⟩ (.int .i64 (a2 : Int))).setCell ⟨V, 1, none⟩ (.int .i64 (b2 : Int))).setCell ⟨V, 2, none⟩ (.slice (some ⟨gd, 0, none⟩) n2 n2) = y := ⟨_, rfl⟩
        have z0 := z51.c0
        have z1 := z51.c1
        have z2 := z51.c2
        have e0 := z51.fr 0
        have e1 := z51.fr 1
        have e2 := z51.fr 2
        have bx62 : Bxq y62 V a2 b2 gd n2 (tabB n2 (exF pa pb a2 b2 T2)) := boxed z51 ud hy62 (hn21 _)
        have q62 : Qb w13 y62 := by rw [← hy62]; exact ((q51.set hVw50 _).set hVw50 _).set hVw50 _
        refine doesB_skip (x' := y62) (by simp [execOp, go_sem, Act.eval, Act.put, z0, z1, z2, e0, e1, e2, hy62]) ⟨fun _ => q62, ?_⟩
        refine treeB1 25 (by decide) rfl ?_
        refine doesB_value (v := .int .i64 0) (x' := y62) (by simp [execOp, go_sem, Act.eval, Act.put]) ⟨fun _ => q62, ?_⟩
        refine tree_nil ?_
        have HEL : Hid (Qb w13 y62 ∧ Bxq y62 V a2 b2 gd n2 (tabB n2 (exF pa pb a2 b2 T2))) := ⟨q62, bx62⟩
        have HT4 : Hid (exF pa pb a2 b2 S k2 = exF pa pb a2 b2 T2 k2) := t24
        have i0 := HEL.out.1.cell k0
        have i1 := (HBC.out.nextB HEL.out.1).p.c2
        have i2 := HEL.out.2.p.c2
        have i3 := (HBC.out.nextB HEL.out.1).u k2 (by rw [tabB_len]; exact hk2n)
        have i4 := HEL.out.2.u k2 (by rw [tabB_len]; exact hk2n)
        rw [tabB_at hk2n, Nat.zero_add] at i3 i4
        rw [← HT4.out] at i4
        obtain ⟨v2, hv2⟩ : ∃ v2, exF pa pb a2 b2 S k2 = v2 := ⟨_, rfl⟩
        rw [hv2] at i3 i4
        have n0 := qw_some y62
        have f0 := qw_cell i0
        have f1 := qw_cell i1
        have f2 := qw_cell i2
        have f3 := qw_cell i3
        have f4 := qw_cell i4
        replace HE : Hid (Qb w y62) := HE.out.trans HEL.out.1
        go_wp2_with fail
        refine wp_region_quiet_Q (by kernel_rfl) (by kernel_rfl) ?_
        repeat (first | go_big_quiet_step (first | (go_at_call 11; exact calls_qs (CN.out _))) | quiet_step (first | (go_at_call 11; exact calls_qs (CN.out _))))
        refine wpQuiet_nil ?_
        intro wz hwz
        have qz := qw_out hwz
        replace HE : Hid (Qb w wz) := HE.out.trans qz.qb
        clear qz hwz n0 f0 f1 f2 f3 f4
        go_wp2_with fail
        go_ret
        exact ⟨rfl, HE.out⟩
  · skip
    refine doesB_value (v := .pointer (some ⟨x1.heap.size, 0, none⟩)) (x' := x1.alloc (.cells #[.int .i64 0, .int .i64 0, .slice none 0 0] 24)) (by simp [execOp, go_sem]) ⟨fun _ => q1x.trans ((Q.refl _).cells _ _).qb, ?_⟩
    have z64 := zbp_new x1
    have qq64 : Qb x1 (x1.alloc (.cells #[.int .i64 0, .int .i64 0, .slice none 0 0] 24)) := ((Q.refl _).cells _ _).qb
    have q64 := q1x.trans qq64
    generalize hV64 : x1.heap.size = V at z64 ⊢
    generalize x1.alloc (.cells #[.int .i64 0, .int .i64 0, .slice none 0 0] 24) = y64 at z64 q64  ⊢
    have hVw64 : w13.heap.size ≤ V := by rw [← hV64]; exact q1x.sz
    refine treeB1 12 (by decide) rfl ?_
    refine doesB_call (run_fn 13 #[.tmp 130, .tmp 131, .tmp 133, .tmp 135, .tmp 138, .tmp 141, .const (.int .i64 1)] _ rfl HFE.out.1 (vs := #[.agg #[.int .i64 (pa : Int), .int .i64 (pb : Int), .slice (some ⟨g0, o0, none⟩) np c], .int .u32 (s : Int), .int .i64 (xh : Int), .int .i64 (yh : Int), .int .i64 (xh2 : Int), .int .i64 (yh2 : Int), .int .i64 1]) (by simp [Act.eval, Act.put])) ((CN2.out y64 (HE.out.trans q64)).mono ?_)
    rintro e y65 ⟨v, rfl, gq, rfl, T2, t21, t22, t23, t24, qq65⟩
    have q65 := q64.trans qq65
    refine ⟨_, rfl, fun _ => q65, ?_⟩
    have z65 := z64.nextB qq65
    refine treeB1 19 (by decide) rfl ?_
    refine doesB_call (run_fn 10 #[.tmp 142, .tmp 145, .tmp 148] _ rfl HFE.out.2 (vs := #[.agg #[.int .i64 (pa : Int), .int .i64 (pb : Int), .slice (some ⟨gq, 0, none⟩) np np], .int .i64 (2 * (pa : Int)), .int .i64 (2 * (pb : Int))]) (by simp [Act.eval, Act.put])) ((CX.out y65 gq 0 np T2 t21 t23 t22 (Nat.le_refl _)).mono ?_)
    rintro e y66 ⟨gd, rfl, ud, qq66⟩
    have q66 := q65.trans qq66
    refine ⟨_, rfl, fun _ => q66, ?_⟩
    have z66 := z65.nextB qq66
    refine treeB1 20 (by decide) rfl ?_
    refine doesB_value (v := .tuple #[.agg #[.int .i64 (a2 : Int), .int .i64 (b2 : Int), .slice (some ⟨gd, 0, none⟩) n2 n2], .int .i64 0]) (x' := y66) (by simp [execOp, go_sem, Act.eval, Act.put]) ⟨fun _ => q66, ?_⟩
    refine treeB2 21 22 (by decide) rfl rfl ?_ ?_
    · skip
      refine doesB_value (v := .agg #[.int .i64 (a2 : Int), .int .i64 (b2 : Int), .slice (some ⟨gd, 0, none⟩) n2 n2]) (x' := y66) (by simp [execOp, go_sem, Act.eval, Act.put]) ⟨fun _ => q66, ?_⟩
      refine treeB2 22 24 (by decide) rfl rfl ?_ ?_
      · skip
        refine doesB_value (v := .int .i64 0) (x' := y66) (by simp [execOp, go_sem, Act.eval, Act.put]) ⟨fun _ => q66, ?_⟩
        refine treeB1 24 (by decide) rfl ?_
        obtain ⟨y70, hy70⟩ : ∃ y, ((y66.setCell ⟨V, 0, none⟩ (.int .i64 (a2 : Int))).setCell ⟨V, 1, none⟩ (.int .i64 (b2 : Int))).setCell ⟨V, 2, none⟩ (.slice (some ⟨gd, 0, none⟩) n2 n2) = y := ⟨_, rfl⟩
        have z0 := z66.c0
        have z1 := z66.c1
        have z2 := z66.c2
        have e0 := z66.fr 0
        have e1 := z66.fr 1
        have e2 := z66.fr 2
        have bx70 : Bxq y70 V a2 b2 gd n2 (tabB n2 (exF pa pb a2 b2 T2)) := boxed z66 ud hy70 (hn21 _)
        have q70 : Qb w13 y70 := by rw [← hy70]; exact ((q66.set hVw64 _).set hVw64 _).set hVw64 _
        refine doesB_skip (x' := y70) (by simp [execOp, go_sem, Act.eval, Act.put, z0, z1, z2, e0, e1, e2, hy70]) ⟨fun _ => q70, ?_⟩
        refine treeB1 25 (by decide) rfl ?_
        refine doesB_value (v := .int .i64 0) (x' := y70) (by simp [execOp, go_sem, Act.eval, Act.put]) ⟨fun _ => q70, ?_⟩
        refine tree_nil ?_
        have HEL : Hid (Qb w13 y70 ∧ Bxq y70 V a2 b2 gd n2 (tabB n2 (exF pa pb a2 b2 T2))) := ⟨q70, bx70⟩
        have HT4 : Hid (exF pa pb a2 b2 S k2 = exF pa pb a2 b2 T2 k2) := t24
        have i0 := HEL.out.1.cell k0
        have i1 := (HBC.out.nextB HEL.out.1).p.c2
        have i2 := HEL.out.2.p.c2
        have i3 := (HBC.out.nextB HEL.out.1).u k2 (by rw [tabB_len]; exact hk2n)
        have i4 := HEL.out.2.u k2 (by rw [tabB_len]; exact hk2n)
        rw [tabB_at hk2n, Nat.zero_add] at i3 i4
        rw [← HT4.out] at i4
        obtain ⟨v2, hv2⟩ : ∃ v2, exF pa pb a2 b2 S k2 = v2 := ⟨_, rfl⟩
        rw [hv2] at i3 i4
        have n0 := qw_some y70
        have f0 := qw_cell i0
        have f1 := qw_cell i1
        have f2 := qw_cell i2
        have f3 := qw_cell i3
        have f4 := qw_cell i4
        replace HE : Hid (Qb w y70) := HE.out.trans HEL.out.1
        go_wp2_with fail
        refine wp_region_quiet_Q (by kernel_rfl) (by kernel_rfl) ?_
        repeat (first | go_big_quiet_step (first | (go_at_call 11; exact calls_qs (CN.out _))) | quiet_step (first | (go_at_call 11; exact calls_qs (CN.out _))))
        refine wpQuiet_nil ?_
        intro wz hwz
        have qz := qw_out hwz
        replace HE : Hid (Qb w wz) := HE.out.trans qz.qb
        clear qz hwz n0 f0 f1 f2 f3 f4
        go_wp2_with fail
        go_ret
        exact ⟨rfl, HE.out⟩
      · skip
        obtain ⟨y72, hy72⟩ : ∃ y, ((y66.setCell ⟨V, 0, none⟩ (.int .i64 (a2 : Int))).setCell ⟨V, 1, none⟩ (.int .i64 (b2 : Int))).setCell ⟨V, 2, none⟩ (.slice (some ⟨gd, 0, none⟩) n2 n2) = y := ⟨_, rfl⟩
        have z0 := z66.c0
        have z1 := z66.c1
        have z2 := z66.c2
        have e0 := z66.fr 0
        have e1 := z66.fr 1
        have e2 := z66.fr 2
        have bx72 : Bxq y72 V a2 b2 gd n2 (tabB n2 (exF pa pb a2 b2 T2)) := boxed z66 ud hy72 (hn21 _)
        have q72 : Qb w13 y72 := by rw [← hy72]; exact ((q66.set hVw64 _).set hVw64 _).set hVw64 _
        refine doesB_skip (x' := y72) (by simp [execOp, go_sem, Act.eval, Act.put, z0, z1, z2, e0, e1, e2, hy72]) ⟨fun _ => q72, ?_⟩
        refine treeB1 22 (by decide) rfl ?_
        refine doesB_value (v := .int .i64 0) (x' := y72) (by simp [execOp, go_sem, Act.eval, Act.put]) ⟨fun _ => q72, ?_⟩
        refine treeB1 25 (by decide) rfl ?_
        refine doesB_value (v := .int .i64 0) (x' := y72) (by simp [execOp, go_sem, Act.eval, Act.put]) ⟨fun _ => q72, ?_⟩
        refine tree_nil ?_
        have HEL : Hid (Qb w13 y72 ∧ Bxq y72 V a2 b2 gd n2 (tabB n2 (exF pa pb a2 b2 T2))) := ⟨q72, bx72⟩
        have HT4 : Hid (exF pa pb a2 b2 S k2 = exF pa pb a2 b2 T2 k2) := t24
        have i0 := HEL.out.1.cell k0
        have i1 := (HBC.out.nextB HEL.out.1).p.c2
        have i2 := HEL.out.2.p.c2
        have i3 := (HBC.out.nextB HEL.out.1).u k2 (by rw [tabB_len]; exact hk2n)
        have i4 := HEL.out.2.u k2 (by rw [tabB_len]; exact hk2n)
        rw [tabB_at hk2n, Nat.zero_add] at i3 i4
        rw [← HT4.out] at i4
        obtain ⟨v2, hv2⟩ : ∃ v2, exF pa pb a2 b2 S k2 = v2 := ⟨_, rfl⟩
        rw [hv2] at i3 i4
        have n0 := qw_some y72
        have f0 := qw_cell i0
        have f1 := qw_cell i1
        have f2 := qw_cell i2
        have f3 := qw_cell i3
        have f4 := qw_cell i4
        replace HE : Hid (Qb w y72) := HE.out.trans HEL.out.1
        go_wp2_with fail
        refine wp_region_quiet_Q (by kernel_rfl) (by kernel_rfl) ?_
        repeat (first | go_big_quiet_step (first | (go_at_call 11; exact calls_qs (CN.out _))) | quiet_step (first | (go_at_call 11; exact calls_qs (CN.out _))))
        refine wpQuiet_nil ?_
        intro wz hwz
        have qz := qw_out hwz
        replace HE : Hid (Qb w wz) := HE.out.trans qz.qb
        clear qz hwz n0 f0 f1 f2 f3 f4
        go_wp2_with fail
        go_ret
        exact ⟨rfl, HE.out⟩
    · skip
      refine doesB_value (v := .int .i64 0) (x' := y66) (by simp [execOp, go_sem, Act.eval, Act.put]) ⟨fun _ => q66, ?_⟩
      refine treeB1 21 (by decide) rfl ?_
      refine doesB_value (v := .agg #[.int .i64 (a2 : Int), .int .i64 (b2 : Int), .slice (some ⟨gd, 0, none⟩) n2 n2]) (x' := y66) (by simp [execOp, go_sem, Act.eval, Act.put]) ⟨fun _ => q66, ?_⟩
      refine treeB1 24 (by decide) rfl ?_
      obtain ⟨y77, hy77⟩ : ∃ y, ((y66.setCell ⟨V, 0, none⟩ (.int .i64 (a2 : Int))).setCell ⟨V, 1, none⟩ (.int .i64 (b2 : Int))).setCell ⟨V, 2, none⟩ (.slice (some ⟨gd, 0, none⟩) n2 n2) = y := ⟨_, rfl⟩
      have z0 := z66.c0
      have z1 := z66.c1
      have z2 := z66.c2
      have e0 := z66.fr 0
      have e1 := z66.fr 1
      have e2 := z66.fr 2
      have bx77 : Bxq y77 V a2 b2 gd n2 (tabB n2 (exF pa pb a2 b2 T2)) := boxed z66 ud hy77 (hn21 _)
      have q77 : Qb w13 y77 := by rw [← hy77]; exact ((q66.set hVw64 _).set hVw64 _).set hVw64 _
      refine doesB_skip (x' := y77) (by simp [execOp, go_sem, Act.eval, Act.put, z0, z1, z2, e0, e1, e2, hy77]) ⟨fun _ => q77, ?_⟩
      refine treeB1 25 (by decide) rfl ?_
      refine doesB_value (v := .int .i64 0) (x' := y77) (by simp [execOp, go_sem, Act.eval, Act.put]) ⟨fun _ => q77, ?_⟩
      refine tree_nil ?_
      have HEL : Hid (Qb w13 y77 ∧ Bxq y77 V a2 b2 gd n2 (tabB n2 (exF pa pb a2 b2 T2))) := ⟨q77, bx77⟩
      have HT4 : Hid (exF pa pb a2 b2 S k2 = exF pa pb a2 b2 T2 k2) := t24
      have i0 := HEL.out.1.cell k0
      have i1 := (HBC.out.nextB HEL.out.1).p.c2
      have i2 := HEL.out.2.p.c2
      have i3 := (HBC.out.nextB HEL.out.1).u k2 (by rw [tabB_len]; exact hk2n)
      have i4 := HEL.out.2.u k2 (by rw [tabB_len]; exact hk2n)
      rw [tabB_at hk2n, Nat.zero_add] at i3 i4
      rw [← HT4.out] at i4
      obtain ⟨v2, hv2⟩ : ∃ v2, exF pa pb a2 b2 S k2 = v2 := ⟨_, rfl⟩
      rw [hv2] at i3 i4
      have n0 := qw_some y77
      have f0 := qw_cell i0
      have f1 := qw_cell i1
      have f2 := qw_cell i2
      have f3 := qw_cell i3
      have f4 := qw_cell i4
      replace HE : Hid (Qb w y77) := HE.out.trans HEL.out.1
      go_wp2_with fail
      refine wp_region_quiet_Q (by kernel_rfl) (by kernel_rfl) ?_
      repeat (first | go_big_quiet_step (first | (go_at_call 11; exact calls_qs (CN.out _))) | quiet_step (first | (go_at_call 11; exact calls_qs (CN.out _))))
      refine wpQuiet_nil ?_
      intro wz hwz
      have qz := qw_out hwz
      replace HE : Hid (Qb w wz) := HE.out.trans qz.qb
      clear qz hwz n0 f0 f1 f2 f3 f4
      go_wp2_with fail
      go_ret
      exact ⟨rfl, HE.out⟩
end Go.Proofs.Ytgaolakfgjmeiab

/- pyramid: Split. (gen_pyp.py) -/
import Derived.Test.YtgaolakfgjmeiabG08b34131
import Derived.Test.YtgaolakfgjmeiabG9d92eca5
import Derived.Test.YtgaolakfgjmeiabGec6c67fb
import Derived.Test.YtgaolakfgjmeiabGdd0b4393
namespace Go.Proofs.Ytgaolakfgjmeiab
open Go.RowKit Go.Shelf
set_option linter.unusedVariables false
set_option linter.unusedSimpArgs false

set_option maxHeartbeats 2000000 in
set_option maxRecDepth 100000 in
theorem Split_bad (W H : Int) (ad : Option Addr) (n c : Nat) (hn : n ≤ 9223372036854775807) (he : chk W H n ≠ 0) (w : World) :
    Calls Try.prog 15 #[.agg #[.int .i64 W, .int .i64 H, .slice ad n c]] w fun e w' => e = .returned (.tuple #[.agg #[.int .i64 0, .int .i64 0, .slice none 0 0], .agg #[.int .i64 0, .int .i64 0, .slice none 0 0], .int .i64 (chk W H n)]) ∧ Qb w w' := by
  have CK : Hid (∀ w : World, Calls Try.prog 19 #[.agg #[.int .i64 W, .int .i64 H, .slice ad n c]] w fun e w' => e = .returned (.int .i64 (chk W H n)) ∧ Q w w') := fun w => check_any W H ad n c hn w
  obtain ⟨w1, hw1⟩ : ∃ w1, ((w.alloc (.cells #[.int .i64 W, .int .i64 H, .slice ad n c] 24)).alloc (.cells #[.int .i64 0, .int .i64 0, .slice none 0 0] 24)).alloc (.cells #[.int .i64 0, .int .i64 0, .slice none 0 0] 24) = w1 := ⟨_, rfl⟩
  have p0 : w1.cell? ⟨w.heap.size, 0, none⟩ = some (.int .i64 W) := by rw [← hw1]; simp [go_sem]
  have p1 : w1.cell? ⟨w.heap.size, 1, none⟩ = some (.int .i64 H) := by rw [← hw1]; simp [go_sem]
  have p2 : w1.cell? ⟨w.heap.size, 2, none⟩ = some (.slice ad n c) := by rw [← hw1]; simp [go_sem]
  have HR : Hid (ZBp w1 (w.heap.size + 1) ∧ ZBp w1 (w.heap.size + 2) ∧ Qb w w1) := by
    refine ⟨⟨by rw [← hw1]; simp [go_sem], by rw [← hw1]; simp [go_sem], by rw [← hw1]; simp [go_sem], fun j => by rw [← hw1]; simp [go_sem]⟩, ⟨by rw [← hw1]; simp [go_sem], by rw [← hw1]; simp [go_sem], by rw [← hw1]; simp [go_sem], fun j => by rw [← hw1]; simp [go_sem]⟩, by rw [← hw1]; exact ((((Q.refl w).cells _ _).cells _ _).cells _ _).qb⟩
  obtain ⟨E, hE⟩ : ∃ E, chk W H n = E := ⟨_, rfl⟩
  rw [hE] at CK he ⊢
  have hbe : (E != 0) = true := by simpa using he
  have hbe2 : (E == 0) = false := by simpa using he
  go_enter Try.func15, Try.ntmps15
  go_wp2_with fail
  refine (CK.out _).mono ?_
  rintro e w2 ⟨rfl, q2⟩
  have z2 := HR.out.1.nextB q2.qb
  have y2 := HR.out.2.1.nextB q2.qb
  have r0 := z2.c0
  have r1 := z2.c1
  have r2 := z2.c2
  have f0 := z2.fr 0
  have f1 := z2.fr 1
  have f2 := z2.fr 2
  have i0 := setcell_id r0
  have i1 := setcell_id r1
  have i2 := setcell_id r2
  have s0 := y2.c0
  have s1 := y2.c1
  have s2 := y2.c2
  have h0 := y2.fr 0
  have h1 := y2.fr 1
  have h2 := y2.fr 2
  have j0 := setcell_id s0
  have j1 := setcell_id s1
  have j2 := setcell_id s2
  have HE : Hid (Qb w w2) := HR.out.2.2.trans q2.qb
  clear z2 y2 q2 p0 p1 p2
  go_wp2_with fail
  exact bodyPost_ret (v := .tuple #[.agg #[.int .i64 0, .int .i64 0, .slice none 0 0], .agg #[.int .i64 0, .int .i64 0, .slice none 0 0], .int .i64 E]) (by simp [results, Try.results15, go_sem, r0, r1, r2, s0, s1, s2]) rfl ⟨rfl, HE.out⟩
/-- What Split tells of a plane. -/
def SplA (pa pb nr nc n np : Nat) (S : List Nat) (w : World) (e : Ending) (w' : World) : Prop :=
  ∃ gc gl, e = .returned (.tuple #[.agg #[.int .i64 (nr : Int), .int .i64 (nc : Int), .slice (some ⟨gc, 0, none⟩) n n], .agg #[.int .i64 (pa : Int), .int .i64 (pb : Int), .slice (some ⟨gl, 0, none⟩) np np], .int .i64 0]) ∧ VR w' gc n (fun j => .int .u32 ((rdF pa pb S j : Nat) : Int)) ∧ VR w' gl np (fun j => .int .u32 ((lkF pa pb S j : Nat) : Int)) ∧ gc ≠ gl ∧ w.heap.size ≤ gc ∧ gc < w'.heap.size ∧ w.heap.size ≤ gl ∧ gl < w'.heap.size ∧ Qb w w'
set_option maxHeartbeats 4000000 in
set_option maxRecDepth 100000 in
theorem Split_good (pa pb nr nc n g0 o0 np c : Nat) (S : List Nat) (w : World) (hsz : Size pa pb) (hnp : np = pa * pb) (hnr : (pa + 1) / 2 = nr) (hnc : (pb + 1) / 2 = nc) (hn : nr * nc = n) (hS : S.length = np) (hb : ∀ i, S.getD i 0 < 4294967296) (hI : UIs w g0 o0 S) (hc : np ≤ c) :
    Calls Try.prog 15 #[.agg #[.int .i64 (pa : Int), .int .i64 (pb : Int), .slice (some ⟨g0, o0, none⟩) np c]] w (SplA pa pb nr nc n np S w) := by
  have hck : chk pa pb np = 0 := by rw [hnp]; exact chk_size hsz
  have hnn : np ≤ 9223372036854775807 := by rw [hnp]; have := hsz.ab; omega
  have hn1 : 1 ≤ n := by rw [← hn, ← hnr, ← hnc]; exact hsz.half.pos
  have hnp1 : 1 ≤ np := by rw [hnp]; exact hsz.pos
  have hg0 : g0 < w.heap.size := World.block_lt_of_cell? _ _ (hI 0 (by omega))
  have CK : Hid (∀ w : World, Calls Try.prog 19 #[.agg #[.int .i64 (pa : Int), .int .i64 (pb : Int), .slice (some ⟨g0, o0, none⟩) np c]] w fun e w' => e = .returned (.int .i64 0) ∧ Q w w') := fun w => by have := check_any pa pb (some ⟨g0, o0, none⟩) np c hnn w; rw [hck] at this; exact this
  have CZ : Hid (∀ w : World, Calls Try.prog 25 #[.int .i64 (pa : Int), .int .i64 (pb : Int)] w fun e w' => ∃ g, e = .returned (.agg #[.int .i64 (pa : Int), .int .i64 (pb : Int), .slice (some ⟨g, 0, none⟩) np np]) ∧ VR w' g np (fun _ => .int .u32 0) ∧ w.heap.size ≤ g ∧ Q w w') := fun w => sized_any pa pb np (by rw [hnp]; have := hsz.ab; omega) hnp.symm w
  have CS : Hid (∀ (x : World) (gl : Nat), Qb w x → w.heap.size ≤ gl → VR x gl np (fun _ => .int .u32 0) → Calls Try.prog 26 #[.agg #[.int .i64 (pa : Int), .int .i64 (pb : Int), .slice (some ⟨g0, o0, none⟩) np c], .slice (some ⟨gl, 0, none⟩) np np] x fun e w' => ∃ v, e = .returned v ∧ ∃ gc, v = .agg #[.int .i64 (nr : Int), .int .i64 (nc : Int), .slice (some ⟨gc, 0, none⟩) n n] ∧ VR w' gc n (fun j => .int .u32 ((rdF pa pb S j : Nat) : Int)) ∧ x.heap.size ≤ gc ∧ gc < w'.heap.size ∧ VR w' gl np (fun j => .int .u32 ((lkF pa pb S j : Nat) : Int)) ∧ Same (fun b => b = gl) x w') := fun x gl q hl hv => (split_any pa pb nr nc n g0 o0 np c gl 0 S (fun _ => .int .u32 0) x hsz hnp hnr hnc hn hS hb (hI.nextB q) hc (by omega) hv.seg).mono fun e w' ⟨gc, h1, h2, h3, h4, h5, h6, h7⟩ => ⟨_, h1, gc, rfl, h2, h3, h4, h5.vr, h7⟩
  obtain ⟨w1, hw1⟩ : ∃ w1, ((w.alloc (.cells #[.int .i64 (pa : Int), .int .i64 (pb : Int), .slice (some ⟨g0, o0, none⟩) np c] 24)).alloc (.cells #[.int .i64 0, .int .i64 0, .slice none 0 0] 24)).alloc (.cells #[.int .i64 0, .int .i64 0, .slice none 0 0] 24) = w1 := ⟨_, rfl⟩
  have hp : PBx w1 w.heap.size pa pb (.slice (some ⟨g0, o0, none⟩) np c) := ⟨by rw [← hw1]; simp [go_sem], by rw [← hw1]; simp [go_sem], by rw [← hw1]; simp [go_sem]⟩
  have HR : Hid (ZBp w1 (w.heap.size + 1) ∧ ZBp w1 (w.heap.size + 2) ∧ Q w w1 ∧ PBx w1 w.heap.size pa pb (.slice (some ⟨g0, o0, none⟩) np c)) := by
    refine ⟨⟨by rw [← hw1]; simp [go_sem], by rw [← hw1]; simp [go_sem], by rw [← hw1]; simp [go_sem], fun j => by rw [← hw1]; simp [go_sem]⟩, ⟨by rw [← hw1]; simp [go_sem], by rw [← hw1]; simp [go_sem], by rw [← hw1]; simp [go_sem], fun j => by rw [← hw1]; simp [go_sem]⟩, by rw [← hw1]; exact (((Q.refl w).cells _ _).cells _ _).cells _ _, hp⟩
  have p0 := hp.c0
  have p1 := hp.c1
  have p2 := hp.c2
  have HG0 : Hid (g0 < w.heap.size) := hg0
  clear hck hnn hnp hnr hnc hn hS hb hI hc hp hg0
  go_enter Try.func15, Try.ntmps15
  go_wp2_with fail
  refine (CK.out _).mono ?_
  rintro e w2 ⟨rfl, q2⟩
  have H2 : Hid (Q w1 w2) := q2
  have p0 := q2.cell p0
  have p1 := q2.cell p1
  have p2 := q2.cell p2
  clear q2
  go_wp2_with fail
  refine (CZ.out w2).mono ?_
  rintro e w3 ⟨gl, rfl, v3, l3, q3⟩
  obtain ⟨w5, hw5⟩ : ∃ w5, w3.alloc (.cells #[.int .i64 (pa : Int), .int .i64 (pb : Int), .slice (some ⟨gl, 0, none⟩) np np] 24) = w5 := ⟨_, rfl⟩
  have q5 : Q w3 w5 := by rw [← hw5]; exact (Q.refl w3).cells _ _
  have c5 : PBx w5 w3.heap.size pa pb (.slice (some ⟨gl, 0, none⟩) np np) := ⟨by rw [← hw5]; simp [go_sem], by rw [← hw5]; simp [go_sem], by rw [← hw5]; simp [go_sem]⟩
  have q15 : Q w1 w5 := (H2.out.trans q3).trans q5
  have sw : w.heap.size + 2 < w1.heap.size := HR.out.2.1.lt
  have l3' : w1.heap.size ≤ gl := Nat.le_trans H2.out.1.size l3
  have H5 : Hid (Q w1 w5 ∧ VR w5 gl np (fun _ => .int .u32 0) ∧ w1.heap.size ≤ gl ∧ gl < w3.heap.size ∧ w3.heap.size < w5.heap.size ∧ w.heap.size + 2 < w1.heap.size ∧ w1.heap.size ≤ w3.heap.size) := ⟨q15, v3.next q5, l3', v3.lt hnp1, World.block_lt_of_cell? _ _ c5.c0, sw, Nat.le_trans H2.out.1.size q3.1.size⟩
  have hD : ∀ {x : World}, KeptIn (fun b => b < w5.heap.size ∧ b ≠ gl ∧ b ≠ w.heap.size + 1) w5 x → ∀ {b j : Nat} {v : Value}, b < w5.heap.size → b ≠ gl ∧ b ≠ w.heap.size + 1 → w5.cell? ⟨b, j, none⟩ = some v → x.cell? ⟨b, j, none⟩ = some v := fun h b j v h1 h2 h3 => h.one ⟨h1, h2⟩ h3
  have n0 := cw_some (D := fun x => KeptIn (fun b => b < w5.heap.size ∧ b ≠ gl ∧ b ≠ w.heap.size + 1) w5 x) (KeptIn.reflP _ w5)
  have hw5s : w.heap.size < w5.heap.size := by have := H5.out; omega
  have hwgl : w.heap.size ≠ gl ∧ w.heap.size ≠ w.heap.size + 1 := ⟨by omega, by omega⟩
  have h3s : w3.heap.size < w5.heap.size := H5.out.2.2.2.2.1
  have h3gl : w3.heap.size ≠ gl ∧ w3.heap.size ≠ w.heap.size + 1 := ⟨by have := H5.out; omega, by have := H5.out; omega⟩
  have f0 : ∀ n : CW (fun x => KeptIn (fun b => b < w5.heap.size ∧ b ≠ gl ∧ b ≠ w.heap.size + 1) w5 x), n.x.cell? ⟨w.heap.size, 0, none⟩ = some (.int .i64 (pa : Int)) := fun n => hD n.h hw5s hwgl (q15.cell HR.out.2.2.2.c0)
  have f1 : ∀ n : CW (fun x => KeptIn (fun b => b < w5.heap.size ∧ b ≠ gl ∧ b ≠ w.heap.size + 1) w5 x), n.x.cell? ⟨w.heap.size, 1, none⟩ = some (.int .i64 (pb : Int)) := fun n => hD n.h hw5s hwgl (q15.cell HR.out.2.2.2.c1)
  have f2 : ∀ n : CW (fun x => KeptIn (fun b => b < w5.heap.size ∧ b ≠ gl ∧ b ≠ w.heap.size + 1) w5 x), n.x.cell? ⟨w.heap.size, 2, none⟩ = some (.slice (some ⟨g0, o0, none⟩) np c) := fun n => hD n.h hw5s hwgl (q15.cell HR.out.2.2.2.c2)
  have f3 : ∀ n : CW (fun x => KeptIn (fun b => b < w5.heap.size ∧ b ≠ gl ∧ b ≠ w.heap.size + 1) w5 x), n.x.cell? ⟨w3.heap.size, 0, none⟩ = some (.int .i64 (pa : Int)) := fun n => hD n.h h3s h3gl c5.c0
  have f4 : ∀ n : CW (fun x => KeptIn (fun b => b < w5.heap.size ∧ b ≠ gl ∧ b ≠ w.heap.size + 1) w5 x), n.x.cell? ⟨w3.heap.size, 1, none⟩ = some (.int .i64 (pb : Int)) := fun n => hD n.h h3s h3gl c5.c1
  have f5 : ∀ n : CW (fun x => KeptIn (fun b => b < w5.heap.size ∧ b ≠ gl ∧ b ≠ w.heap.size + 1) w5 x), n.x.cell? ⟨w3.heap.size, 2, none⟩ = some (.slice (some ⟨gl, 0, none⟩) np np) := fun n => hD n.h h3s h3gl c5.c2
  have HFE : Hid (∀ (args : Array Value) (x : World), (callFunc 26 args).run Try.prog x = .ok (.enter 26 args) x) := fun args x => by kernel_rfl
  clear hD hw5s hwgl h3s h3gl v3 l3 q3 q5 c5 q15 sw l3' p0 p1 p2
  go_wp2_with fail
  clear hw5 hw1
  refine wp_region_mkP [0, 1, 2, 4] [[3, 5, 6, 7]] 4 _ (fun x => KeptIn (fun b => b < w5.heap.size ∧ b ≠ gl ∧ b ≠ w.heap.size + 1) w5 x) (by kernel_rfl) (by kernel_rfl) rfl (by kernel_rfl) ?hDr ?_
  case hDr => exact KeptIn.of_qP (Q.refl w5).drew (fun b hb => hb.1)
  simp only [List.filterMap_cons, List.filterMap_nil, List.getElem?_cons_zero, List.getElem?_cons_succ]
  repeat (first | go_big_quiet_step (fail) | quiet_step (fail))
  refine wpQuiet_nil ?_
  have qd : Q w5 w5.drew := (Q.refl w5).drew
  generalize w5.drew = x1 at qd ⊢
  have q11 : Q w1 x1 := H5.out.1.trans qd
  refine tree_call 3 rfl rfl (run_fn 26 #[.tmp 19, .tmp 21] _ rfl HFE.out (vs := #[.agg #[.int .i64 (pa : Int), .int .i64 (pb : Int), .slice (some ⟨g0, o0, none⟩) np c], .slice (some ⟨gl, 0, none⟩) np np]) (by simp [Act.eval, Act.put])) (CS.out x1 gl (HR.out.2.2.1.trans q11).qb (by have := H5.out; omega) (H5.out.2.1.next qd)) ?_
  rintro v x2 ⟨gc, rfl, v2, l2, m2, vl, s2⟩
  have hlt5 : w5.heap.size ≤ x1.heap.size := qd.1.size
  have hk12 : KeptIn (fun b => b < w5.heap.size ∧ b ≠ gl) w5 x2 := (KeptIn.of_qP qd (fun b hb => hb.1)).trans (s2.kept (fun b hb => ⟨Nat.lt_of_lt_of_le hb.1 hlt5, hb.2⟩))
  refine ⟨hk12.mono (fun b hb => ⟨hb.1, hb.2.1⟩), ?_⟩
  have hzk : ∀ R, R < w1.heap.size → ZBp w1 R → ZBp x2 R := fun R hR hz => by
    have hz5 := hz.nextB H5.out.1.qb
    have hC : R < w5.heap.size ∧ R ≠ gl := ⟨by have := H5.out; omega, by have := H5.out; omega⟩
    refine ⟨hk12.one hC hz5.c0, hk12.one hC hz5.c1, hk12.one hC hz5.c2, fun j => ?_⟩
    have := hz5.fr j
    unfold World.frozen? at this ⊢
    rw [hk12.block _ hC]
    exact this
  have za := hzk _ HR.out.1.lt HR.out.1
  have zb := hzk _ HR.out.2.1.lt HR.out.2.1
  have r0 := za.c0
  have r1 := za.c1
  have r2 := za.c2
  have g0' := za.fr 0
  have g1' := za.fr 1
  have g2' := za.fr 2
  obtain ⟨x6, hx6⟩ : ∃ x6, ((x2.setCell ⟨w.heap.size + 1, 0, none⟩ (.int .i64 (nr : Int))).setCell ⟨w.heap.size + 1, 1, none⟩ (.int .i64 (nc : Int))).setCell ⟨w.heap.size + 1, 2, none⟩ (.slice (some ⟨gc, 0, none⟩) n n) = x6 := ⟨_, rfl⟩
  have ua := za.put hx6
  have hq : Qb w x2 := (HR.out.2.2.1.trans q11).qb.trans' s2 (fun b hb => by have := H5.out; omega)
  have hH := H5.out
  obtain ⟨a1, a2, a3⟩ := put3_keep (w := w) (by omega) (by omega) hn1 hx6 v2 hq
  obtain ⟨b1, b2, _⟩ := put3_keep (w := w) (by omega) (by omega) hnp1 hx6 vl hq
  have zb6 : ZBp x6 (w.heap.size + 2) := by
    have ne : ∀ {j k : Nat}, (⟨w.heap.size + 1, j, none⟩ : Addr) ≠ ⟨w.heap.size + 2, k, none⟩ := fun e => by injection e with e; omega
    rw [← hx6]
    refine ⟨?_, ?_, ?_, fun j => ?_⟩
    · rw [World.cell?_setCell_other _ _ _ _ ne, World.cell?_setCell_other _ _ _ _ ne, World.cell?_setCell_other _ _ _ _ ne]; exact zb.c0
    · rw [World.cell?_setCell_other _ _ _ _ ne, World.cell?_setCell_other _ _ _ _ ne, World.cell?_setCell_other _ _ _ _ ne]; exact zb.c1
    · rw [World.cell?_setCell_other _ _ _ _ ne, World.cell?_setCell_other _ _ _ _ ne, World.cell?_setCell_other _ _ _ _ ne]; exact zb.c2
    · rw [World.frozen?_setCell, World.frozen?_setCell, World.frozen?_setCell]; exact zb.fr j
  have e0 := zb6.c0
  have e1 := zb6.c1
  have e2 := zb6.c2
  have k0 := zb6.fr 0
  have k1 := zb6.fr 1
  have k2 := zb6.fr 2
  obtain ⟨x7, hx7⟩ : ∃ x7, ((x6.setCell ⟨w.heap.size + 2, 0, none⟩ (.int .i64 (pa : Int))).setCell ⟨w.heap.size + 2, 1, none⟩ (.int .i64 (pb : Int))).setCell ⟨w.heap.size + 2, 2, none⟩ (.slice (some ⟨gl, 0, none⟩) np np) = x7 := ⟨_, rfl⟩
  have ub := zb6.put hx7
  have ua7 : PBx x7 (w.heap.size + 1) nr nc (.slice (some ⟨gc, 0, none⟩) n n) := by
    have ne : ∀ {j k : Nat}, (⟨w.heap.size + 2, j, none⟩ : Addr) ≠ ⟨w.heap.size + 1, k, none⟩ := fun e => by injection e with e; omega
    rw [← hx7]
    refine ⟨?_, ?_, ?_⟩
    · rw [World.cell?_setCell_other _ _ _ _ ne, World.cell?_setCell_other _ _ _ _ ne, World.cell?_setCell_other _ _ _ _ ne]; exact ua.c0
    · rw [World.cell?_setCell_other _ _ _ _ ne, World.cell?_setCell_other _ _ _ _ ne, World.cell?_setCell_other _ _ _ _ ne]; exact ua.c1
    · rw [World.cell?_setCell_other _ _ _ _ ne, World.cell?_setCell_other _ _ _ _ ne, World.cell?_setCell_other _ _ _ _ ne]; exact ua.c2
  obtain ⟨c1, c2, c3⟩ := put3_keep (w := w) (by omega) (by omega) hn1 hx7 a1 a3
  obtain ⟨d1, d2, _⟩ := put3_keep (w := w) (by omega) (by omega) hnp1 hx7 b1 a3
  have HEND : Hid (VR x7 gc n (fun j => .int .u32 ((rdF pa pb S j : Nat) : Int)) ∧ VR x7 gl np (fun j => .int .u32 ((lkF pa pb S j : Nat) : Int)) ∧ gc ≠ gl ∧ w.heap.size ≤ gc ∧ gc < x7.heap.size ∧ w.heap.size ≤ gl ∧ gl < x7.heap.size ∧ Qb w x7) := ⟨c1, d1, by omega, by omega, c2, by omega, d2, c3⟩
  have HU : Hid (PBx x7 (w.heap.size + 1) nr nc (.slice (some ⟨gc, 0, none⟩) n n) ∧ PBx x7 (w.heap.size + 2) pa pb (.slice (some ⟨gl, 0, none⟩) np np)) := ⟨ua7, ub⟩
  have hk6 : KeptIn (fun b => b < w5.heap.size ∧ b ≠ gl ∧ b ≠ w.heap.size + 1) w5 x6 := by
    have hn : ∀ b, b < w5.heap.size ∧ b ≠ gl ∧ b ≠ w.heap.size + 1 → True := fun _ _ => trivial
    rw [← hx6]
    exact (((hk12.mono (fun b hb => ⟨hb.1, hb.2.1⟩)).trans (keptP_set _ _ _ _ (fun h => h.2.2 rfl))).trans (keptP_set _ _ _ _ (fun h => h.2.2 rfl))).trans (keptP_set _ _ _ _ (fun h => h.2.2 rfl))
  refine tree_skip 5 rfl rfl (x' := x6) (by simp [execOp, go_sem, Act.eval, Act.put, r0, r1, r2, g0', g1', g2', hx6]) hk6 ?_
  refine tree_skipF 6 rfl rfl rfl (x' := x7) (by simp [execOp, go_sem, Act.eval, Act.put, e0, e1, e2, k0, k1, k2, hx7]) ?_
  refine tree_runF 7 rfl rfl rfl (v := .int .i64 0) (x' := x7) (by simp [execOp, go_sem]) ?_
  refine tree_nil ?_
  clear e0 e1 e2 k0 k1 k2 r0 r1 r2 g0' g1' g2' hx6 hx7 c1 c2 c3 d1 d2 a1 a2 a3 b1 b2 ua ub ua7 zb6 za zb hzk hk12 hk6 v2 l2 m2 vl s2 hlt5 q11 qd f0 f1 f2 f3 f4 f5 n0 hH hq
  have u0 := HU.out.1.c0
  have u1 := HU.out.1.c1
  have u2 := HU.out.1.c2
  have u3 := HU.out.2.c0
  have u4 := HU.out.2.c1
  have u5 := HU.out.2.c2
  go_wp2_with fail
  exact bodyPost_ret (v := .tuple #[.agg #[.int .i64 (nr : Int), .int .i64 (nc : Int), .slice (some ⟨gc, 0, none⟩) n n], .agg #[.int .i64 (pa : Int), .int .i64 (pb : Int), .slice (some ⟨gl, 0, none⟩) np np], .int .i64 0]) (by simp [results, Try.results15, go_sem, u0, u1, u2, u3, u4, u5]) rfl ⟨gc, gl, rfl, HEND.out⟩
end Go.Proofs.Ytgaolakfgjmeiab
/- The chapter's examples: known. -/
namespace Go.Proofs.Ytgaolakfgjmeiab
open Go.RowKit
set_option linter.unusedVariables false
set_option linter.unusedSimpArgs false

theorem ex_red : tabB 2 (rdF 4 1 [1065353216, 1073741824, 1082130432, 1090519040]) = [1069023232, 1083310080] := by decide +kernel
theorem ex_exp : tabB 4 (exF 2 1 4 1 [1065353216, 1077936128]) = [1067450368, 1073741824, 1076887552, 1077936128] := by decide +kernel
theorem ex_spc : tabB 1 (rdF 1 1 [4294967295]) = [2143289344] := by decide +kernel
theorem ex_spf : tabB 1 (lkF 1 1 [4294967295]) = [4194304] := by decide +kernel
theorem lit_bdp {xs : List Nat} (h : ∀ x ∈ xs, x < 4294967296) (i : Nat) : xs.getD i 0 < 4294967296 := by
  rw [List.getD_eq_getElem?_getD]
  cases g : xs[i]? with
  | none => show 0 < 4294967296; decide
  | some x => exact h x (List.mem_of_getElem? g)
structure Kb (x : World) (V g n : Nat) (xs : List Nat) : Prop where
  a : x.cell? ⟨V, 0, none⟩ = some (.int .i64 (n : Int))
  b : x.cell? ⟨V, 1, none⟩ = some (.int .i64 1)
  c : x.cell? ⟨V, 2, none⟩ = some (.slice (some ⟨g, 0, none⟩) n n)
  u : UIs x g 0 xs
theorem Kb.nextB {x y : World} {V g n : Nat} {xs : List Nat} (h : Kb x V g n xs) (q : Qb x y) : Kb y V g n xs := ⟨q.cell h.a, q.cell h.b, q.cell h.c, h.u.nextB q⟩
set_option maxHeartbeats 8000000 in
set_option maxRecDepth 100000 in
theorem known14_any (w : World) : Calls Try.prog 5 #[] w fun e w' => e = .returned (.bool true) ∧ Qb w w' := by
  have sz41 : Size 4 1 := ⟨by decide, by decide, by decide, by decide, by decide⟩
  have sz21 : Size 2 1 := ⟨by decide, by decide, by decide, by decide, by decide⟩
  have sz11 : Size 1 1 := ⟨by decide, by decide, by decide, by decide, by decide⟩
  have HC1 : Hid (∀ (W : World) (g : Nat), UIs W g 0 [1065353216, 1073741824, 1082130432, 1090519040] → Calls Try.prog 9 #[.agg #[.int .i64 4, .int .i64 1, .slice (some ⟨g, 0, none⟩) 4 4]] W fun e w' => ∃ g, e = .returned (.tuple #[.agg #[.int .i64 2, .int .i64 1, .slice (some ⟨g, 0, none⟩) 2 2], .int .i64 0]) ∧ UIs w' g 0 [1069023232, 1083310080] ∧ Qb W w') := fun W g hu => (reduce_good 4 1 2 1 2 g 0 4 4 [1065353216, 1073741824, 1082130432, 1090519040] W sz41 rfl rfl rfl rfl rfl (lit_bdp (by decide)) hu (by decide)).mono fun e w' ⟨gt, h1, h2, h3, h4, h5⟩ => ⟨gt, h1, by rw [← ex_red]; exact vr_uis h2, h5⟩
  have HC2 : Hid (∀ (W : World) (g : Nat), UIs W g 0 [1065353216, 1077936128] → Calls Try.prog 10 #[.agg #[.int .i64 2, .int .i64 1, .slice (some ⟨g, 0, none⟩) 2 2], .int .i64 4, .int .i64 1] W fun e w' => ∃ g, e = .returned (.tuple #[.agg #[.int .i64 4, .int .i64 1, .slice (some ⟨g, 0, none⟩) 4 4], .int .i64 0]) ∧ UIs w' g 0 [1067450368, 1073741824, 1076887552, 1077936128] ∧ Qb W w') := fun W g hu => (expand_good 2 1 4 1 4 g 0 2 2 [1065353216, 1077936128] W sz21 rfl sz41 rfl rfl rfl rfl (lit_bdp (by decide)) hu (by decide)).mono fun e w' ⟨gt, h1, h2, h3, h4, h5⟩ => ⟨gt, h1, by rw [← ex_exp]; exact vr_uis h2, h5⟩
  have HC3 : Hid (∀ (W : World) (g : Nat), UIs W g 0 [4294967295] → Calls Try.prog 15 #[.agg #[.int .i64 1, .int .i64 1, .slice (some ⟨g, 0, none⟩) 1 1]] W fun e w' => ∃ gc gl, e = .returned (.tuple #[.agg #[.int .i64 1, .int .i64 1, .slice (some ⟨gc, 0, none⟩) 1 1], .agg #[.int .i64 1, .int .i64 1, .slice (some ⟨gl, 0, none⟩) 1 1], .int .i64 0]) ∧ UIs w' gc 0 [2143289344] ∧ UIs w' gl 0 [4194304] ∧ Qb W w') := fun W g hu => (Split_good 1 1 1 1 1 g 0 1 1 [4294967295] W sz11 rfl rfl rfl rfl rfl (lit_bdp (by decide)) hu (by decide)).mono fun e w' ⟨gc, gl, h1, h2, h3, _, _, _, _, _, h5⟩ => ⟨gc, gl, h1, by rw [← ex_spc]; exact vr_uis h2, by rw [← ex_spf]; exact vr_uis h3, h5⟩
  have HLR : Hid (∀ (W : World) (g n : Nat), Calls Try.prog 14 #[.slice (some ⟨g, 0, none⟩) n n] W fun e w' => e = .returned (.agg #[.int .i64 (n : Int), .int .i64 1, .slice (some ⟨g, 0, none⟩) n n]) ∧ Q W w') := fun W g n => prow_any _ n n W
  clear sz41 sz21 sz11
  go_enter Try.func5, Try.ntmps5
  go_wp2_with fail
  refine (HLR.out _ _ 4).mono ?_
  rintro e w1 ⟨rfl, q1⟩
  have H1 : Hid (UIs w1 w.heap.size 0 [1065353216, 1073741824, 1082130432, 1090519040] ∧ Qb w w1) := ⟨(lit_uis (xs := [1065353216, 1073741824, 1082130432, 1090519040]) rfl).next q1, (((Q.refl w).cells _ _).trans q1).qb⟩
  clear q1
  go_wp2_with fail
  refine (HC1.out w1 _ H1.out.1).mono ?_
  rintro e w2 ⟨g1, rfl, u1, q2⟩
  obtain ⟨w3, hw3⟩ : ∃ w3, w2.alloc (.cells #[.int .i64 2, .int .i64 1, .slice (some ⟨g1, 0, none⟩) 2 2] 24) = w3 := ⟨_, rfl⟩
  have H3 : Hid (Qb w w3 ∧ Kb w3 w2.heap.size g1 2 [1069023232, 1083310080]) := by
    have q23 : Q w2 w3 := by rw [← hw3]; exact (Q.refl w2).cells _ _
    exact ⟨(H1.out.2.trans q2).trans q23.qb, by rw [← hw3]; simp [go_sem], by rw [← hw3]; simp [go_sem], by rw [← hw3]; simp [go_sem], u1.next q23⟩
  clear u1 q2 H1
  go_wp2_with fail
  refine (HLR.out _ _ 2).mono ?_
  rintro e w4 ⟨rfl, q4⟩
  have H4 : Hid (UIs w4 w3.heap.size 0 [1065353216, 1077936128] ∧ Qb w3 w4) := ⟨(lit_uis (xs := [1065353216, 1077936128]) rfl).next q4, (((Q.refl w3).cells _ _).trans q4).qb⟩
  clear q4 hw3
  go_wp2_with fail
  refine (HC2.out w4 _ H4.out.1).mono ?_
  rintro e w5 ⟨g3, rfl, u3, q5⟩
  obtain ⟨w6, hw6⟩ : ∃ w6, w5.alloc (.cells #[.int .i64 4, .int .i64 1, .slice (some ⟨g3, 0, none⟩) 4 4] 24) = w6 := ⟨_, rfl⟩
  have H6 : Hid (Qb w w6 ∧ Kb w6 w2.heap.size g1 2 [1069023232, 1083310080] ∧ Kb w6 w5.heap.size g3 4 [1067450368, 1073741824, 1076887552, 1077936128]) := by
    have q56 : Q w5 w6 := by rw [← hw6]; exact (Q.refl w5).cells _ _
    have q36 := (H4.out.2.trans q5).trans q56.qb
    exact ⟨H3.out.1.trans q36, H3.out.2.nextB q36, by rw [← hw6]; simp [go_sem], by rw [← hw6]; simp [go_sem], by rw [← hw6]; simp [go_sem], u3.next q56⟩
  clear u3 q5 H4 H3
  go_wp2_with fail
  refine (HLR.out _ _ 1).mono ?_
  rintro e w7 ⟨rfl, q7⟩
  have H7 : Hid (UIs w7 w6.heap.size 0 [4294967295] ∧ Qb w6 w7) := ⟨(lit_uis (xs := [4294967295]) rfl).next q7, (((Q.refl w6).cells _ _).trans q7).qb⟩
  clear q7 hw6
  go_wp2_with fail
  refine (HC3.out w7 _ H7.out.1).mono ?_
  rintro e w8 ⟨g5, g6, rfl, u5, u6, q8⟩
  obtain ⟨w9, hw9⟩ : ∃ w9, (w8.alloc (.cells #[.int .i64 1, .int .i64 1, .slice (some ⟨g5, 0, none⟩) 1 1] 24)).alloc (.cells #[.int .i64 1, .int .i64 1, .slice (some ⟨g6, 0, none⟩) 1 1] 24) = w9 := ⟨_, rfl⟩
  have H9 : Hid (Qb w w9 ∧ Kb w9 w2.heap.size g1 2 [1069023232, 1083310080] ∧ Kb w9 w5.heap.size g3 4 [1067450368, 1073741824, 1076887552, 1077936128] ∧ Kb w9 w8.heap.size g5 1 [2143289344] ∧ Kb w9 (w8.heap.size + 1) g6 1 [4194304]) := by
    have q89 : Q w8 w9 := by rw [← hw9]; exact ((Q.refl w8).cells _ _).cells _ _
    have q69 := (H7.out.2.trans q8).trans q89.qb
    exact ⟨H6.out.1.trans q69, H6.out.2.1.nextB q69, H6.out.2.2.nextB q69, ⟨by rw [← hw9]; simp [go_sem], by rw [← hw9]; simp [go_sem], by rw [← hw9]; simp [go_sem], u5.next q89⟩, by rw [← hw9]; simp [go_sem], by rw [← hw9]; simp [go_sem], by rw [← hw9]; simp [go_sem], u6.next q89⟩
  clear u5 u6 q8 H7 H6
  go_wp2_with fail
  have z := H9.out
  refine regionKq rfl rfl (V1 := w2.heap.size) (V3 := w5.heap.size) (V5 := w8.heap.size) (V6 := w8.heap.size + 1) (g1 := g1) (g3 := g3) (g5 := g5) (g6 := g6) ⟨rfl, rfl, rfl, rfl, z.2.1.a, z.2.1.b, z.2.1.c, z.2.1.u, rfl, z.2.2.1.a, z.2.2.1.b, z.2.2.1.c, z.2.2.1.u, rfl, z.2.2.2.1.a, z.2.2.2.1.b, z.2.2.2.1.c, z.2.2.2.1.u, rfl, z.2.2.2.2.a, z.2.2.2.2.b, z.2.2.2.2.c, z.2.2.2.2.u⟩ ?_
  clear z
  intro x v11 v12 v17 v18 v23 v24 v29 v30 qx
  have HX : Hid (Qb w x) := H9.out.1.trans qx.qb
  clear qx hw9
  simp only [putAll]
  go_wp2_with fail
  refine bodyPost_ret (v := .bool true) (by simp [results, Try.results5, go_sem]) rfl ⟨rfl, HX.out⟩
end Go.Proofs.Ytgaolakfgjmeiab
/- The statements' helpers: sizes, planes that may be. (Out of BlL.) -/
namespace Go.Proofs.Ytgaolakfgjmeiab
open Go.RowKit
set_option linter.unusedVariables false
set_option linter.unusedSimpArgs false

set_option maxHeartbeats 2000000 in
set_option maxRecDepth 100000 in
theorem hsize_b (W H : Int) (w : World) : Calls Try.prog 17 #[.int .i64 W, .int .i64 H] w fun e w' => e = .returned (.bool (sizeB W H)) ∧ w' = w := by
  have E : Hid (sizeB W H = true ↔ SizeB W H) := sizeB_true
  have EF : Hid (¬ SizeB W H → sizeB W H = false) := fun h => by
    cases g : sizeB W H
    · rfl
    · exact absurd (sizeB_true.1 g) h
  generalize sizeB W H = b at *
  rcases Int.lt_or_le W 1 with h0 | h0
  · obtain rfl : b = false := EF.out (fun c => by unfold SizeB at c; omega)
    clear E EF
    go_enter Try.func17, Try.ntmps17
    go_wp2_with fail
    exact bodyPost_ret (v := .bool false) (by simp [results, Try.results17, go_sem] <;> omega) rfl ⟨rfl, rfl⟩
  rcases Int.lt_or_le H 1 with h1 | h1
  · obtain rfl : b = false := EF.out (fun c => by unfold SizeB at c; omega)
    clear E EF
    go_enter Try.func17, Try.ntmps17
    go_wp2_with fail
    exact bodyPost_ret (v := .bool false) (by simp [results, Try.results17, go_sem] <;> omega) rfl ⟨rfl, rfl⟩
  rcases Int.lt_or_le 1024 W with h2 | h2
  · obtain rfl : b = false := EF.out (fun c => by unfold SizeB at c; omega)
    clear E EF
    go_enter Try.func17, Try.ntmps17
    go_wp2_with fail
    exact bodyPost_ret (v := .bool false) (by simp [results, Try.results17, go_sem] <;> omega) rfl ⟨rfl, rfl⟩
  rcases Int.lt_or_le 1024 H with h3 | h3
  · obtain rfl : b = false := EF.out (fun c => by unfold SizeB at c; omega)
    clear E EF
    go_enter Try.func17, Try.ntmps17
    go_wp2_with fail
    exact bodyPost_ret (v := .bool false) (by simp [results, Try.results17, go_sem] <;> omega) rfl ⟨rfl, rfl⟩
  have hb1 : 0 ≤ W * H := Int.mul_nonneg (by omega) (by omega)
  have hb2 : W * H ≤ 1048576 := Int.le_trans (Int.mul_le_mul h2 h3 (by omega) (by omega)) (by decide)
  rcases Int.lt_or_le 65536 (W * H) with h4 | h4
  · obtain rfl : b = false := EF.out (fun c => by unfold SizeB at c; omega)
    clear E EF
    go_enter Try.func17, Try.ntmps17
    go_wp2_with fail
    exact bodyPost_ret (v := .bool false) (by simp [results, Try.results17, go_sem] <;> omega) rfl ⟨rfl, rfl⟩
  · obtain rfl : b = true := E.out.2 (by unfold SizeB; omega)
    clear E EF
    go_enter Try.func17, Try.ntmps17
    go_wp2_with fail
    exact bodyPost_ret (v := .bool true) (by simp [results, Try.results17, go_sem] <;> omega) rfl ⟨rfl, rfl⟩
set_option maxHeartbeats 2000000 in
set_option maxRecDepth 100000 in
theorem may_any (W H : Int) (ad : Option Addr) (n c : Nat) (w : World) : Calls Try.prog 6 #[.agg #[.int .i64 W, .int .i64 H, .slice ad n c]] w fun e w' => e = .returned (.int .i64 (chk W H n)) ∧ Q w w' := by
  obtain ⟨w1, hw1⟩ : ∃ w1, w.alloc (.cells #[.int .i64 W, .int .i64 H, .slice ad n c] 24) = w1 := ⟨_, rfl⟩
  have HQ : Hid (Q w w1) := by show Q w w1; rw [← hw1]; exact (Q.refl w).cells _ _
  have k0 : w1.cell? ⟨w.heap.size, 0, none⟩ = some (.int .i64 W) := by rw [← hw1]; simp [go_sem]
  have k1 : w1.cell? ⟨w.heap.size, 1, none⟩ = some (.int .i64 H) := by rw [← hw1]; simp [go_sem]
  have k2 : w1.cell? ⟨w.heap.size, 2, none⟩ = some (.slice ad n c) := by rw [← hw1]; simp [go_sem]
  have C := hsize_b W H w1
  cases hs : sizeB W H
  · rw [hs] at C
    rw [chk_bad hs]
    go_enter Try.func6, Try.ntmps6
    go_wp2_with fail
    refine C.mono ?_
    rintro e w2 ⟨rfl, hw2⟩
    obtain rfl := hw2.symm
    clear hw2 C
    go_wp2_with fail
    go_ret
    exact ⟨rfl, HQ.out⟩
  · rw [hs] at C
    have hb := sizeB_true.1 hs
    have hb1 : 0 ≤ W * H := Int.mul_nonneg (by unfold SizeB at hb; omega) (by unfold SizeB at hb; omega)
    have hb2 : W * H ≤ 65536 := by unfold SizeB at hb; omega
    by_cases hn : (n : Int) = W * H
    · rw [chk_ok hs hn]
      have e1 : ((n : Int) != W * H) = false := by simpa using hn
      clear hn hb hs
      go_enter Try.func6, Try.ntmps6
      go_wp2_with fail
      refine C.mono ?_
      rintro e w2 ⟨rfl, hw2⟩
      obtain rfl := hw2.symm
      clear hw2 C
      go_wp2_with fail
      go_ret
      exact ⟨rfl, HQ.out⟩
    · rw [chk_count hs hn]
      have e1 : ((n : Int) != W * H) = true := by simpa using hn
      clear hn hb hs
      go_enter Try.func6, Try.ntmps6
      go_wp2_with fail
      refine C.mono ?_
      rintro e w2 ⟨rfl, hw2⟩
      obtain rfl := hw2.symm
      clear hw2 C
      go_wp2_with fail
      go_ret
      exact ⟨rfl, HQ.out⟩
end Go.Proofs.Ytgaolakfgjmeiab
/- PyramidNeeds: what the statement leaves out. (gen_pyne.py) -/
namespace Go.Proofs.Ytgaolakfgjmeiab
open Go.RowKit
set_option linter.unusedVariables false
set_option linter.unusedSimpArgs false

set_option maxHeartbeats 4000000 in
set_option maxRecDepth 100000 in
theorem pneeds_bad (W H : Int) (ad : Option Addr) (n c : Nat) (x y : Int) (s : Nat) (w : World) (he : chk W H n ≠ 0) :
    Calls Try.prog 4 #[.agg #[.int .i64 W, .int .i64 H, .slice ad n c], .int .i64 x, .int .i64 y, .int .u32 (s : Int)] w fun e w' => e = .returned (.bool true) ∧ Qb w w' := by
  have CM : Hid (∀ x : World, Calls Try.prog 6 #[.agg #[.int .i64 W, .int .i64 H, .slice ad n c]] x fun e w' => e = .returned (.int .i64 (chk W H n)) ∧ Q x w') := fun x => may_any W H ad n c x
  obtain ⟨E, hE⟩ : ∃ E, chk W H n = E := ⟨_, rfl⟩
  rw [hE] at CM he
  have hbe : (E != 0) = true := by simpa using he
  have hbe2 : (E == 0) = false := by simpa using he
  clear he hE
  obtain ⟨w1, hw1⟩ : ∃ w1, w.alloc (.cells #[.int .i64 W, .int .i64 H, .slice ad n c] 24) = w1 := ⟨_, rfl⟩
  have H1 : Hid (Qb w w1) := by show Qb w w1; rw [← hw1]; exact ((Q.refl w).cells _ _).qb
  have k0 : w1.cell? ⟨w.heap.size, 0, none⟩ = some (.int .i64 W) := by rw [← hw1]; simp [go_sem]
  have k1 : w1.cell? ⟨w.heap.size, 1, none⟩ = some (.int .i64 H) := by rw [← hw1]; simp [go_sem]
  have k2 : w1.cell? ⟨w.heap.size, 2, none⟩ = some (.slice ad n c) := by rw [← hw1]; simp [go_sem]
  go_enter Try.func4, Try.ntmps4
  go_wp2_with fail
  refine (known14_any w1).mono ?_
  rintro e w2 ⟨rfl, q2⟩
  have H2 : Hid (Qb w w2) := H1.out.trans q2
  have k0 := q2.cell k0
  have k1 := q2.cell k1
  have k2 := q2.cell k2
  have n0 := qw_some w2
  have f0 := qw_cell k0
  have f1 := qw_cell k1
  clear q2 hw1
  go_wp2_with fail
  refine wp_region_quiet_Q (by kernel_rfl) (by kernel_rfl) ?_
  repeat (first | go_big_quiet_step (fail) | quiet_step (fail))
  refine wpQuiet_nil ?_
  intro w4 hw4
  have q4 := qw_out hw4
  have HQ4 : Hid (Qb w w4) := H2.out.trans q4.qb
  have k0 := q4.cell k0
  have k1 := q4.cell k1
  have k2 := q4.cell k2
  clear q4 hw4 n0 f0 f1
  go_wp2_with fail
  refine (CM.out _).mono ?_
  rintro e w5 ⟨rfl, q5⟩
  have HE : Hid (Qb w w5) := HQ4.out.trans q5.qb
  clear q5 k0 k1 k2
  go_wp2_with fail
  go_ret
  exact ⟨rfl, HE.out⟩
set_option maxHeartbeats 4000000 in
set_option maxRecDepth 100000 in
theorem pneeds_skip0 (pa pb nr nc q4 : Nat) (ad : Option Addr) (n c : Nat) (x y : Int) (s : Nat) (w : World) (hsz : Size pa pb) (hc : chk pa pb n = 0) (hnr : (pa + 1) / 2 = nr) (hnc : (pb + 1) / 2 = nc) (hq4' : 4 * pa * pb = q4)  (hx : x < 0) :
    Calls Try.prog 4 #[.agg #[.int .i64 (pa : Int), .int .i64 (pb : Int), .slice ad n c], .int .i64 x, .int .i64 y, .int .u32 (s : Int)] w fun e w' => e = .returned (.bool true) ∧ Qb w w' := by
  have CM : Hid (∀ x : World, Calls Try.prog 6 #[.agg #[.int .i64 (pa : Int), .int .i64 (pb : Int), .slice ad n c]] x fun e w' => e = .returned (.int .i64 0) ∧ Q x w') := fun x => by have := may_any pa pb ad n c x; rw [hc] at this; exact this
  have ha1 := hsz.a2
  have hb1 := hsz.b2
  have hdr : Int.tdiv ((pa : Int) + 1) 2 = (nr : Int) := by rw [Int.tdiv_eq_ediv_of_nonneg (by omega)]; omega
  have hdc : Int.tdiv ((pb : Int) + 1) 2 = (nc : Int) := by rw [Int.tdiv_eq_ediv_of_nonneg (by omega)]; omega
  have hw1' : IntKind.i64.wrap ((pa : Int) + 1) = (pa : Int) + 1 := by rw [IntKind.wrap_i64]; omega
  have hw2' : IntKind.i64.wrap ((pb : Int) + 1) = (pb : Int) + 1 := by rw [IntKind.wrap_i64]; omega
  have hw3' : IntKind.i64.wrap (nr : Int) = (nr : Int) := by rw [IntKind.wrap_i64]; omega
  have hw4' : IntKind.i64.wrap (nc : Int) = (nc : Int) := by rw [IntKind.wrap_i64]; omega
  have hq4 : 4 * (pa : Int) * (pb : Int) = (q4 : Int) := by rw [← hq4']; push_cast; rfl
  have hq5 : (q4 : Int) ≤ 262144 := by have := hsz.ab; rw [← hq4', Nat.mul_assoc]; omega
  clear hc hsz hnr hnc hq4'
  obtain ⟨w1, hw1⟩ : ∃ w1, w.alloc (.cells #[.int .i64 (pa : Int), .int .i64 (pb : Int), .slice ad n c] 24) = w1 := ⟨_, rfl⟩
  have H1 : Hid (Qb w w1) := by show Qb w w1; rw [← hw1]; exact ((Q.refl w).cells _ _).qb
  have k0 : w1.cell? ⟨w.heap.size, 0, none⟩ = some (.int .i64 (pa : Int)) := by rw [← hw1]; simp [go_sem]
  have k1 : w1.cell? ⟨w.heap.size, 1, none⟩ = some (.int .i64 (pb : Int)) := by rw [← hw1]; simp [go_sem]
  have k2 : w1.cell? ⟨w.heap.size, 2, none⟩ = some (.slice ad n c) := by rw [← hw1]; simp [go_sem]
  go_enter Try.func4, Try.ntmps4
  go_wp2_with fail
  refine (known14_any w1).mono ?_
  rintro e w2 ⟨rfl, q2⟩
  have H2 : Hid (Qb w w2) := H1.out.trans q2
  have k0 := q2.cell k0
  have k1 := q2.cell k1
  have k2 := q2.cell k2
  have n0 := qw_some w2
  have f0 := qw_cell k0
  have f1 := qw_cell k1
  clear q2 hw1
  go_wp2_with fail
  refine wp_region_quiet_Q (by kernel_rfl) (by kernel_rfl) ?_
  repeat (first | go_big_quiet_step (fail) | quiet_step (fail))
  refine wpQuiet_nil ?_
  intro w4 hw4
  have q4 := qw_out hw4
  have HQ4 : Hid (Qb w w4) := H2.out.trans q4.qb
  have k0 := q4.cell k0
  have k1 := q4.cell k1
  have k2 := q4.cell k2
  clear q4 hw4 n0 f0 f1
  go_wp2_with fail
  refine (CM.out _).mono ?_
  rintro e w5 ⟨rfl, q5⟩
  have HE : Hid (Qb w w5) := HQ4.out.trans q5.qb
  have k0 := q5.cell k0
  have k1 := q5.cell k1
  clear q5
  go_wp2_with fail
  go_ret
  exact ⟨rfl, HE.out⟩
set_option maxHeartbeats 4000000 in
set_option maxRecDepth 100000 in
theorem pneeds_skip1 (pa pb nr nc q4 : Nat) (ad : Option Addr) (n c : Nat) (x y : Int) (s : Nat) (w : World) (hsz : Size pa pb) (hc : chk pa pb n = 0) (hnr : (pa + 1) / 2 = nr) (hnc : (pb + 1) / 2 = nc) (hq4' : 4 * pa * pb = q4) (hx : ¬ x < 0) (hy : y < 0) :
    Calls Try.prog 4 #[.agg #[.int .i64 (pa : Int), .int .i64 (pb : Int), .slice ad n c], .int .i64 x, .int .i64 y, .int .u32 (s : Int)] w fun e w' => e = .returned (.bool true) ∧ Qb w w' := by
  have CM : Hid (∀ x : World, Calls Try.prog 6 #[.agg #[.int .i64 (pa : Int), .int .i64 (pb : Int), .slice ad n c]] x fun e w' => e = .returned (.int .i64 0) ∧ Q x w') := fun x => by have := may_any pa pb ad n c x; rw [hc] at this; exact this
  have ha1 := hsz.a2
  have hb1 := hsz.b2
  have hdr : Int.tdiv ((pa : Int) + 1) 2 = (nr : Int) := by rw [Int.tdiv_eq_ediv_of_nonneg (by omega)]; omega
  have hdc : Int.tdiv ((pb : Int) + 1) 2 = (nc : Int) := by rw [Int.tdiv_eq_ediv_of_nonneg (by omega)]; omega
  have hw1' : IntKind.i64.wrap ((pa : Int) + 1) = (pa : Int) + 1 := by rw [IntKind.wrap_i64]; omega
  have hw2' : IntKind.i64.wrap ((pb : Int) + 1) = (pb : Int) + 1 := by rw [IntKind.wrap_i64]; omega
  have hw3' : IntKind.i64.wrap (nr : Int) = (nr : Int) := by rw [IntKind.wrap_i64]; omega
  have hw4' : IntKind.i64.wrap (nc : Int) = (nc : Int) := by rw [IntKind.wrap_i64]; omega
  have hq4 : 4 * (pa : Int) * (pb : Int) = (q4 : Int) := by rw [← hq4']; push_cast; rfl
  have hq5 : (q4 : Int) ≤ 262144 := by have := hsz.ab; rw [← hq4', Nat.mul_assoc]; omega
  clear hc hsz hnr hnc hq4'
  obtain ⟨w1, hw1⟩ : ∃ w1, w.alloc (.cells #[.int .i64 (pa : Int), .int .i64 (pb : Int), .slice ad n c] 24) = w1 := ⟨_, rfl⟩
  have H1 : Hid (Qb w w1) := by show Qb w w1; rw [← hw1]; exact ((Q.refl w).cells _ _).qb
  have k0 : w1.cell? ⟨w.heap.size, 0, none⟩ = some (.int .i64 (pa : Int)) := by rw [← hw1]; simp [go_sem]
  have k1 : w1.cell? ⟨w.heap.size, 1, none⟩ = some (.int .i64 (pb : Int)) := by rw [← hw1]; simp [go_sem]
  have k2 : w1.cell? ⟨w.heap.size, 2, none⟩ = some (.slice ad n c) := by rw [← hw1]; simp [go_sem]
  go_enter Try.func4, Try.ntmps4
  go_wp2_with fail
  refine (known14_any w1).mono ?_
  rintro e w2 ⟨rfl, q2⟩
  have H2 : Hid (Qb w w2) := H1.out.trans q2
  have k0 := q2.cell k0
  have k1 := q2.cell k1
  have k2 := q2.cell k2
  have n0 := qw_some w2
  have f0 := qw_cell k0
  have f1 := qw_cell k1
  clear q2 hw1
  go_wp2_with fail
  refine wp_region_quiet_Q (by kernel_rfl) (by kernel_rfl) ?_
  repeat (first | go_big_quiet_step (fail) | quiet_step (fail))
  refine wpQuiet_nil ?_
  intro w4 hw4
  have q4 := qw_out hw4
  have HQ4 : Hid (Qb w w4) := H2.out.trans q4.qb
  have k0 := q4.cell k0
  have k1 := q4.cell k1
  have k2 := q4.cell k2
  clear q4 hw4 n0 f0 f1
  go_wp2_with fail
  refine (CM.out _).mono ?_
  rintro e w5 ⟨rfl, q5⟩
  have HE : Hid (Qb w w5) := HQ4.out.trans q5.qb
  have k0 := q5.cell k0
  have k1 := q5.cell k1
  clear q5
  go_wp2_with fail
  go_ret
  exact ⟨rfl, HE.out⟩
set_option maxHeartbeats 4000000 in
set_option maxRecDepth 100000 in
theorem pneeds_skip2 (pa pb nr nc q4 : Nat) (ad : Option Addr) (n c : Nat) (x y : Int) (s : Nat) (w : World) (hsz : Size pa pb) (hc : chk pa pb n = 0) (hnr : (pa + 1) / 2 = nr) (hnc : (pb + 1) / 2 = nc) (hq4' : 4 * pa * pb = q4) (hx : ¬ x < 0) (hy : ¬ y < 0) (hxr : (nr : Int) ≤ x) :
    Calls Try.prog 4 #[.agg #[.int .i64 (pa : Int), .int .i64 (pb : Int), .slice ad n c], .int .i64 x, .int .i64 y, .int .u32 (s : Int)] w fun e w' => e = .returned (.bool true) ∧ Qb w w' := by
  have CM : Hid (∀ x : World, Calls Try.prog 6 #[.agg #[.int .i64 (pa : Int), .int .i64 (pb : Int), .slice ad n c]] x fun e w' => e = .returned (.int .i64 0) ∧ Q x w') := fun x => by have := may_any pa pb ad n c x; rw [hc] at this; exact this
  have ha1 := hsz.a2
  have hb1 := hsz.b2
  have hdr : Int.tdiv ((pa : Int) + 1) 2 = (nr : Int) := by rw [Int.tdiv_eq_ediv_of_nonneg (by omega)]; omega
  have hdc : Int.tdiv ((pb : Int) + 1) 2 = (nc : Int) := by rw [Int.tdiv_eq_ediv_of_nonneg (by omega)]; omega
  have hw1' : IntKind.i64.wrap ((pa : Int) + 1) = (pa : Int) + 1 := by rw [IntKind.wrap_i64]; omega
  have hw2' : IntKind.i64.wrap ((pb : Int) + 1) = (pb : Int) + 1 := by rw [IntKind.wrap_i64]; omega
  have hw3' : IntKind.i64.wrap (nr : Int) = (nr : Int) := by rw [IntKind.wrap_i64]; omega
  have hw4' : IntKind.i64.wrap (nc : Int) = (nc : Int) := by rw [IntKind.wrap_i64]; omega
  have hq4 : 4 * (pa : Int) * (pb : Int) = (q4 : Int) := by rw [← hq4']; push_cast; rfl
  have hq5 : (q4 : Int) ≤ 262144 := by have := hsz.ab; rw [← hq4', Nat.mul_assoc]; omega
  clear hc hsz hnr hnc hq4'
  obtain ⟨w1, hw1⟩ : ∃ w1, w.alloc (.cells #[.int .i64 (pa : Int), .int .i64 (pb : Int), .slice ad n c] 24) = w1 := ⟨_, rfl⟩
  have H1 : Hid (Qb w w1) := by show Qb w w1; rw [← hw1]; exact ((Q.refl w).cells _ _).qb
  have k0 : w1.cell? ⟨w.heap.size, 0, none⟩ = some (.int .i64 (pa : Int)) := by rw [← hw1]; simp [go_sem]
  have k1 : w1.cell? ⟨w.heap.size, 1, none⟩ = some (.int .i64 (pb : Int)) := by rw [← hw1]; simp [go_sem]
  have k2 : w1.cell? ⟨w.heap.size, 2, none⟩ = some (.slice ad n c) := by rw [← hw1]; simp [go_sem]
  go_enter Try.func4, Try.ntmps4
  go_wp2_with fail
  refine (known14_any w1).mono ?_
  rintro e w2 ⟨rfl, q2⟩
  have H2 : Hid (Qb w w2) := H1.out.trans q2
  have k0 := q2.cell k0
  have k1 := q2.cell k1
  have k2 := q2.cell k2
  have n0 := qw_some w2
  have f0 := qw_cell k0
  have f1 := qw_cell k1
  clear q2 hw1
  go_wp2_with fail
  refine wp_region_quiet_Q (by kernel_rfl) (by kernel_rfl) ?_
  repeat (first | go_big_quiet_step (fail) | quiet_step (fail))
  refine wpQuiet_nil ?_
  intro w4 hw4
  have q4 := qw_out hw4
  have HQ4 : Hid (Qb w w4) := H2.out.trans q4.qb
  have k0 := q4.cell k0
  have k1 := q4.cell k1
  have k2 := q4.cell k2
  clear q4 hw4 n0 f0 f1
  go_wp2_with fail
  refine (CM.out _).mono ?_
  rintro e w5 ⟨rfl, q5⟩
  have HE : Hid (Qb w w5) := HQ4.out.trans q5.qb
  have k0 := q5.cell k0
  have k1 := q5.cell k1
  clear q5
  go_wp2_with fail
  go_ret
  exact ⟨rfl, HE.out⟩
set_option maxHeartbeats 4000000 in
set_option maxRecDepth 100000 in
theorem pneeds_skip3 (pa pb nr nc q4 : Nat) (ad : Option Addr) (n c : Nat) (x y : Int) (s : Nat) (w : World) (hsz : Size pa pb) (hc : chk pa pb n = 0) (hnr : (pa + 1) / 2 = nr) (hnc : (pb + 1) / 2 = nc) (hq4' : 4 * pa * pb = q4) (hx : ¬ x < 0) (hy : ¬ y < 0) (hxr : ¬ (nr : Int) ≤ x) (hyr : (nc : Int) ≤ y) :
    Calls Try.prog 4 #[.agg #[.int .i64 (pa : Int), .int .i64 (pb : Int), .slice ad n c], .int .i64 x, .int .i64 y, .int .u32 (s : Int)] w fun e w' => e = .returned (.bool true) ∧ Qb w w' := by
  have CM : Hid (∀ x : World, Calls Try.prog 6 #[.agg #[.int .i64 (pa : Int), .int .i64 (pb : Int), .slice ad n c]] x fun e w' => e = .returned (.int .i64 0) ∧ Q x w') := fun x => by have := may_any pa pb ad n c x; rw [hc] at this; exact this
  have ha1 := hsz.a2
  have hb1 := hsz.b2
  have hdr : Int.tdiv ((pa : Int) + 1) 2 = (nr : Int) := by rw [Int.tdiv_eq_ediv_of_nonneg (by omega)]; omega
  have hdc : Int.tdiv ((pb : Int) + 1) 2 = (nc : Int) := by rw [Int.tdiv_eq_ediv_of_nonneg (by omega)]; omega
  have hw1' : IntKind.i64.wrap ((pa : Int) + 1) = (pa : Int) + 1 := by rw [IntKind.wrap_i64]; omega
  have hw2' : IntKind.i64.wrap ((pb : Int) + 1) = (pb : Int) + 1 := by rw [IntKind.wrap_i64]; omega
  have hw3' : IntKind.i64.wrap (nr : Int) = (nr : Int) := by rw [IntKind.wrap_i64]; omega
  have hw4' : IntKind.i64.wrap (nc : Int) = (nc : Int) := by rw [IntKind.wrap_i64]; omega
  have hq4 : 4 * (pa : Int) * (pb : Int) = (q4 : Int) := by rw [← hq4']; push_cast; rfl
  have hq5 : (q4 : Int) ≤ 262144 := by have := hsz.ab; rw [← hq4', Nat.mul_assoc]; omega
  clear hc hsz hnr hnc hq4'
  obtain ⟨w1, hw1⟩ : ∃ w1, w.alloc (.cells #[.int .i64 (pa : Int), .int .i64 (pb : Int), .slice ad n c] 24) = w1 := ⟨_, rfl⟩
  have H1 : Hid (Qb w w1) := by show Qb w w1; rw [← hw1]; exact ((Q.refl w).cells _ _).qb
  have k0 : w1.cell? ⟨w.heap.size, 0, none⟩ = some (.int .i64 (pa : Int)) := by rw [← hw1]; simp [go_sem]
  have k1 : w1.cell? ⟨w.heap.size, 1, none⟩ = some (.int .i64 (pb : Int)) := by rw [← hw1]; simp [go_sem]
  have k2 : w1.cell? ⟨w.heap.size, 2, none⟩ = some (.slice ad n c) := by rw [← hw1]; simp [go_sem]
  go_enter Try.func4, Try.ntmps4
  go_wp2_with fail
  refine (known14_any w1).mono ?_
  rintro e w2 ⟨rfl, q2⟩
  have H2 : Hid (Qb w w2) := H1.out.trans q2
  have k0 := q2.cell k0
  have k1 := q2.cell k1
  have k2 := q2.cell k2
  have n0 := qw_some w2
  have f0 := qw_cell k0
  have f1 := qw_cell k1
  clear q2 hw1
  go_wp2_with fail
  refine wp_region_quiet_Q (by kernel_rfl) (by kernel_rfl) ?_
  repeat (first | go_big_quiet_step (fail) | quiet_step (fail))
  refine wpQuiet_nil ?_
  intro w4 hw4
  have q4 := qw_out hw4
  have HQ4 : Hid (Qb w w4) := H2.out.trans q4.qb
  have k0 := q4.cell k0
  have k1 := q4.cell k1
  have k2 := q4.cell k2
  clear q4 hw4 n0 f0 f1
  go_wp2_with fail
  refine (CM.out _).mono ?_
  rintro e w5 ⟨rfl, q5⟩
  have HE : Hid (Qb w w5) := HQ4.out.trans q5.qb
  have k0 := q5.cell k0
  have k1 := q5.cell k1
  clear q5
  go_wp2_with fail
  go_ret
  exact ⟨rfl, HE.out⟩
set_option maxHeartbeats 4000000 in
set_option maxRecDepth 100000 in
theorem pneeds_skip4 (pa pb nr nc q4 : Nat) (ad : Option Addr) (n c : Nat) (x y : Int) (s : Nat) (w : World) (hsz : Size pa pb) (hc : chk pa pb n = 0) (hnr : (pa + 1) / 2 = nr) (hnc : (pb + 1) / 2 = nc) (hq4' : 4 * pa * pb = q4) (hx : ¬ x < 0) (hy : ¬ y < 0) (hxr : ¬ (nr : Int) ≤ x) (hyr : ¬ (nc : Int) ≤ y) (ha : 1024 < 2 * (pa : Int)) :
    Calls Try.prog 4 #[.agg #[.int .i64 (pa : Int), .int .i64 (pb : Int), .slice ad n c], .int .i64 x, .int .i64 y, .int .u32 (s : Int)] w fun e w' => e = .returned (.bool true) ∧ Qb w w' := by
  have CM : Hid (∀ x : World, Calls Try.prog 6 #[.agg #[.int .i64 (pa : Int), .int .i64 (pb : Int), .slice ad n c]] x fun e w' => e = .returned (.int .i64 0) ∧ Q x w') := fun x => by have := may_any pa pb ad n c x; rw [hc] at this; exact this
  have ha1 := hsz.a2
  have hb1 := hsz.b2
  have hdr : Int.tdiv ((pa : Int) + 1) 2 = (nr : Int) := by rw [Int.tdiv_eq_ediv_of_nonneg (by omega)]; omega
  have hdc : Int.tdiv ((pb : Int) + 1) 2 = (nc : Int) := by rw [Int.tdiv_eq_ediv_of_nonneg (by omega)]; omega
  have hw1' : IntKind.i64.wrap ((pa : Int) + 1) = (pa : Int) + 1 := by rw [IntKind.wrap_i64]; omega
  have hw2' : IntKind.i64.wrap ((pb : Int) + 1) = (pb : Int) + 1 := by rw [IntKind.wrap_i64]; omega
  have hw3' : IntKind.i64.wrap (nr : Int) = (nr : Int) := by rw [IntKind.wrap_i64]; omega
  have hw4' : IntKind.i64.wrap (nc : Int) = (nc : Int) := by rw [IntKind.wrap_i64]; omega
  have hq4 : 4 * (pa : Int) * (pb : Int) = (q4 : Int) := by rw [← hq4']; push_cast; rfl
  have hq5 : (q4 : Int) ≤ 262144 := by have := hsz.ab; rw [← hq4', Nat.mul_assoc]; omega
  clear hc hsz hnr hnc hq4'
  obtain ⟨w1, hw1⟩ : ∃ w1, w.alloc (.cells #[.int .i64 (pa : Int), .int .i64 (pb : Int), .slice ad n c] 24) = w1 := ⟨_, rfl⟩
  have H1 : Hid (Qb w w1) := by show Qb w w1; rw [← hw1]; exact ((Q.refl w).cells _ _).qb
  have k0 : w1.cell? ⟨w.heap.size, 0, none⟩ = some (.int .i64 (pa : Int)) := by rw [← hw1]; simp [go_sem]
  have k1 : w1.cell? ⟨w.heap.size, 1, none⟩ = some (.int .i64 (pb : Int)) := by rw [← hw1]; simp [go_sem]
  have k2 : w1.cell? ⟨w.heap.size, 2, none⟩ = some (.slice ad n c) := by rw [← hw1]; simp [go_sem]
  go_enter Try.func4, Try.ntmps4
  go_wp2_with fail
  refine (known14_any w1).mono ?_
  rintro e w2 ⟨rfl, q2⟩
  have H2 : Hid (Qb w w2) := H1.out.trans q2
  have k0 := q2.cell k0
  have k1 := q2.cell k1
  have k2 := q2.cell k2
  have n0 := qw_some w2
  have f0 := qw_cell k0
  have f1 := qw_cell k1
  clear q2 hw1
  go_wp2_with fail
  refine wp_region_quiet_Q (by kernel_rfl) (by kernel_rfl) ?_
  repeat (first | go_big_quiet_step (fail) | quiet_step (fail))
  refine wpQuiet_nil ?_
  intro w4 hw4
  have q4 := qw_out hw4
  have HQ4 : Hid (Qb w w4) := H2.out.trans q4.qb
  have k0 := q4.cell k0
  have k1 := q4.cell k1
  have k2 := q4.cell k2
  clear q4 hw4 n0 f0 f1
  go_wp2_with fail
  refine (CM.out _).mono ?_
  rintro e w5 ⟨rfl, q5⟩
  have HE : Hid (Qb w w5) := HQ4.out.trans q5.qb
  have k0 := q5.cell k0
  have k1 := q5.cell k1
  clear q5
  go_wp2_with fail
  go_ret
  exact ⟨rfl, HE.out⟩
set_option maxHeartbeats 4000000 in
set_option maxRecDepth 100000 in
theorem pneeds_skip5 (pa pb nr nc q4 : Nat) (ad : Option Addr) (n c : Nat) (x y : Int) (s : Nat) (w : World) (hsz : Size pa pb) (hc : chk pa pb n = 0) (hnr : (pa + 1) / 2 = nr) (hnc : (pb + 1) / 2 = nc) (hq4' : 4 * pa * pb = q4) (hx : ¬ x < 0) (hy : ¬ y < 0) (hxr : ¬ (nr : Int) ≤ x) (hyr : ¬ (nc : Int) ≤ y) (ha : ¬ 1024 < 2 * (pa : Int)) (hb : 1024 < 2 * (pb : Int)) :
    Calls Try.prog 4 #[.agg #[.int .i64 (pa : Int), .int .i64 (pb : Int), .slice ad n c], .int .i64 x, .int .i64 y, .int .u32 (s : Int)] w fun e w' => e = .returned (.bool true) ∧ Qb w w' := by
  have CM : Hid (∀ x : World, Calls Try.prog 6 #[.agg #[.int .i64 (pa : Int), .int .i64 (pb : Int), .slice ad n c]] x fun e w' => e = .returned (.int .i64 0) ∧ Q x w') := fun x => by have := may_any pa pb ad n c x; rw [hc] at this; exact this
  have ha1 := hsz.a2
  have hb1 := hsz.b2
  have hdr : Int.tdiv ((pa : Int) + 1) 2 = (nr : Int) := by rw [Int.tdiv_eq_ediv_of_nonneg (by omega)]; omega
  have hdc : Int.tdiv ((pb : Int) + 1) 2 = (nc : Int) := by rw [Int.tdiv_eq_ediv_of_nonneg (by omega)]; omega
  have hw1' : IntKind.i64.wrap ((pa : Int) + 1) = (pa : Int) + 1 := by rw [IntKind.wrap_i64]; omega
  have hw2' : IntKind.i64.wrap ((pb : Int) + 1) = (pb : Int) + 1 := by rw [IntKind.wrap_i64]; omega
  have hw3' : IntKind.i64.wrap (nr : Int) = (nr : Int) := by rw [IntKind.wrap_i64]; omega
  have hw4' : IntKind.i64.wrap (nc : Int) = (nc : Int) := by rw [IntKind.wrap_i64]; omega
  have hq4 : 4 * (pa : Int) * (pb : Int) = (q4 : Int) := by rw [← hq4']; push_cast; rfl
  have hq5 : (q4 : Int) ≤ 262144 := by have := hsz.ab; rw [← hq4', Nat.mul_assoc]; omega
  clear hc hsz hnr hnc hq4'
  obtain ⟨w1, hw1⟩ : ∃ w1, w.alloc (.cells #[.int .i64 (pa : Int), .int .i64 (pb : Int), .slice ad n c] 24) = w1 := ⟨_, rfl⟩
  have H1 : Hid (Qb w w1) := by show Qb w w1; rw [← hw1]; exact ((Q.refl w).cells _ _).qb
  have k0 : w1.cell? ⟨w.heap.size, 0, none⟩ = some (.int .i64 (pa : Int)) := by rw [← hw1]; simp [go_sem]
  have k1 : w1.cell? ⟨w.heap.size, 1, none⟩ = some (.int .i64 (pb : Int)) := by rw [← hw1]; simp [go_sem]
  have k2 : w1.cell? ⟨w.heap.size, 2, none⟩ = some (.slice ad n c) := by rw [← hw1]; simp [go_sem]
  go_enter Try.func4, Try.ntmps4
  go_wp2_with fail
  refine (known14_any w1).mono ?_
  rintro e w2 ⟨rfl, q2⟩
  have H2 : Hid (Qb w w2) := H1.out.trans q2
  have k0 := q2.cell k0
  have k1 := q2.cell k1
  have k2 := q2.cell k2
  have n0 := qw_some w2
  have f0 := qw_cell k0
  have f1 := qw_cell k1
  clear q2 hw1
  go_wp2_with fail
  refine wp_region_quiet_Q (by kernel_rfl) (by kernel_rfl) ?_
  repeat (first | go_big_quiet_step (fail) | quiet_step (fail))
  refine wpQuiet_nil ?_
  intro w4 hw4
  have q4 := qw_out hw4
  have HQ4 : Hid (Qb w w4) := H2.out.trans q4.qb
  have k0 := q4.cell k0
  have k1 := q4.cell k1
  have k2 := q4.cell k2
  clear q4 hw4 n0 f0 f1
  go_wp2_with fail
  refine (CM.out _).mono ?_
  rintro e w5 ⟨rfl, q5⟩
  have HE : Hid (Qb w w5) := HQ4.out.trans q5.qb
  have k0 := q5.cell k0
  have k1 := q5.cell k1
  clear q5
  go_wp2_with fail
  go_ret
  exact ⟨rfl, HE.out⟩
set_option maxHeartbeats 4000000 in
set_option maxRecDepth 100000 in
theorem pneeds_skip6 (pa pb nr nc q4 : Nat) (ad : Option Addr) (n c : Nat) (x y : Int) (s : Nat) (w : World) (hsz : Size pa pb) (hc : chk pa pb n = 0) (hnr : (pa + 1) / 2 = nr) (hnc : (pb + 1) / 2 = nc) (hq4' : 4 * pa * pb = q4) (hx : ¬ x < 0) (hy : ¬ y < 0) (hxr : ¬ (nr : Int) ≤ x) (hyr : ¬ (nc : Int) ≤ y) (ha : ¬ 1024 < 2 * (pa : Int)) (hb : ¬ 1024 < 2 * (pb : Int)) (hq : 65536 < (q4 : Int)) :
    Calls Try.prog 4 #[.agg #[.int .i64 (pa : Int), .int .i64 (pb : Int), .slice ad n c], .int .i64 x, .int .i64 y, .int .u32 (s : Int)] w fun e w' => e = .returned (.bool true) ∧ Qb w w' := by
  have CM : Hid (∀ x : World, Calls Try.prog 6 #[.agg #[.int .i64 (pa : Int), .int .i64 (pb : Int), .slice ad n c]] x fun e w' => e = .returned (.int .i64 0) ∧ Q x w') := fun x => by have := may_any pa pb ad n c x; rw [hc] at this; exact this
  have ha1 := hsz.a2
  have hb1 := hsz.b2
  have hdr : Int.tdiv ((pa : Int) + 1) 2 = (nr : Int) := by rw [Int.tdiv_eq_ediv_of_nonneg (by omega)]; omega
  have hdc : Int.tdiv ((pb : Int) + 1) 2 = (nc : Int) := by rw [Int.tdiv_eq_ediv_of_nonneg (by omega)]; omega
  have hw1' : IntKind.i64.wrap ((pa : Int) + 1) = (pa : Int) + 1 := by rw [IntKind.wrap_i64]; omega
  have hw2' : IntKind.i64.wrap ((pb : Int) + 1) = (pb : Int) + 1 := by rw [IntKind.wrap_i64]; omega
  have hw3' : IntKind.i64.wrap (nr : Int) = (nr : Int) := by rw [IntKind.wrap_i64]; omega
  have hw4' : IntKind.i64.wrap (nc : Int) = (nc : Int) := by rw [IntKind.wrap_i64]; omega
  have hq4 : 4 * (pa : Int) * (pb : Int) = (q4 : Int) := by rw [← hq4']; push_cast; rfl
  have hq5 : (q4 : Int) ≤ 262144 := by have := hsz.ab; rw [← hq4', Nat.mul_assoc]; omega
  clear hc hsz hnr hnc hq4'
  obtain ⟨w1, hw1⟩ : ∃ w1, w.alloc (.cells #[.int .i64 (pa : Int), .int .i64 (pb : Int), .slice ad n c] 24) = w1 := ⟨_, rfl⟩
  have H1 : Hid (Qb w w1) := by show Qb w w1; rw [← hw1]; exact ((Q.refl w).cells _ _).qb
  have k0 : w1.cell? ⟨w.heap.size, 0, none⟩ = some (.int .i64 (pa : Int)) := by rw [← hw1]; simp [go_sem]
  have k1 : w1.cell? ⟨w.heap.size, 1, none⟩ = some (.int .i64 (pb : Int)) := by rw [← hw1]; simp [go_sem]
  have k2 : w1.cell? ⟨w.heap.size, 2, none⟩ = some (.slice ad n c) := by rw [← hw1]; simp [go_sem]
  go_enter Try.func4, Try.ntmps4
  go_wp2_with fail
  refine (known14_any w1).mono ?_
  rintro e w2 ⟨rfl, q2⟩
  have H2 : Hid (Qb w w2) := H1.out.trans q2
  have k0 := q2.cell k0
  have k1 := q2.cell k1
  have k2 := q2.cell k2
  have n0 := qw_some w2
  have f0 := qw_cell k0
  have f1 := qw_cell k1
  clear q2 hw1
  go_wp2_with fail
  refine wp_region_quiet_Q (by kernel_rfl) (by kernel_rfl) ?_
  repeat (first | go_big_quiet_step (fail) | quiet_step (fail))
  refine wpQuiet_nil ?_
  intro w4 hw4
  have q4 := qw_out hw4
  have HQ4 : Hid (Qb w w4) := H2.out.trans q4.qb
  have k0 := q4.cell k0
  have k1 := q4.cell k1
  have k2 := q4.cell k2
  clear q4 hw4 n0 f0 f1
  go_wp2_with fail
  refine (CM.out _).mono ?_
  rintro e w5 ⟨rfl, q5⟩
  have HE : Hid (Qb w w5) := HQ4.out.trans q5.qb
  have k0 := q5.cell k0
  have k1 := q5.cell k1
  clear q5
  go_wp2_with fail
  go_ret
  exact ⟨rfl, HE.out⟩
end Go.Proofs.Ytgaolakfgjmeiab

/- pyramid: Expand. (gen_pyn.py, out of PyL) -/
import Derived.Test.YtgaolakfgjmeiabG9c3b8f81
import Derived.Test.YtgaolakfgjmeiabG272737b4
namespace Go.Proofs.Ytgaolakfgjmeiab
open Go.RowKit Go.Shelf
set_option linter.unusedVariables false
set_option linter.unusedSimpArgs false

set_option maxHeartbeats 2000000 in
set_option maxRecDepth 100000 in
theorem expand_bad (W H : Int) (ad : Option Addr) (n c : Nat) (hn : n ≤ 9223372036854775807) (he : chk W H n ≠ 0) (W2 H2 : Int) (w : World) :
    Calls Try.prog 10 #[.agg #[.int .i64 W, .int .i64 H, .slice ad n c], .int .i64 W2, .int .i64 H2] w fun e w' => e = .returned (.tuple #[.agg #[.int .i64 0, .int .i64 0, .slice none 0 0], .int .i64 (chk W H n)]) ∧ Qb w w' := by
  have CK : Hid (∀ w : World, Calls Try.prog 19 #[.agg #[.int .i64 W, .int .i64 H, .slice ad n c]] w fun e w' => e = .returned (.int .i64 (chk W H n)) ∧ Q w w') := fun w => check_any W H ad n c hn w
  obtain ⟨w1, hw1⟩ : ∃ w1, (w.alloc (.cells #[.int .i64 W, .int .i64 H, .slice ad n c] 24)).alloc (.cells #[.int .i64 0, .int .i64 0, .slice none 0 0] 24) = w1 := ⟨_, rfl⟩
  have p0 : w1.cell? ⟨w.heap.size, 0, none⟩ = some (.int .i64 W) := by rw [← hw1]; simp [go_sem]
  have p1 : w1.cell? ⟨w.heap.size, 1, none⟩ = some (.int .i64 H) := by rw [← hw1]; simp [go_sem]
  have p2 : w1.cell? ⟨w.heap.size, 2, none⟩ = some (.slice ad n c) := by rw [← hw1]; simp [go_sem]
  have HR : Hid (ZBp w1 (w.heap.size + 1) ∧ Qb w w1) := by
    refine ⟨?_, by rw [← hw1]; exact (((Q.refl w).cells _ _).cells _ _).qb⟩
    have := zbp_new (w.alloc (.cells #[.int .i64 W, .int .i64 H, .slice ad n c] 24))
    rw [World.size_alloc, hw1] at this
    exact this
  obtain ⟨E, hE⟩ : ∃ E, chk W H n = E := ⟨_, rfl⟩
  rw [hE] at CK he ⊢
  have hbe : (E != 0) = true := by simpa using he
  have hbe2 : (E == 0) = false := by simpa using he
  go_enter Try.func10, Try.ntmps10
  go_wp2_with fail
  refine (CK.out _).mono ?_
  rintro e w2 ⟨rfl, q2⟩
  have z2 := HR.out.1.nextB q2.qb
  have r0 := z2.c0
  have r1 := z2.c1
  have r2 := z2.c2
  have f0 := z2.fr 0
  have f1 := z2.fr 1
  have f2 := z2.fr 2
  have i0 := setcell_id r0
  have i1 := setcell_id r1
  have i2 := setcell_id r2
  have HE : Hid (Qb w w2) := HR.out.2.trans q2.qb
  clear z2 q2 p0 p1 p2
  go_wp2_with fail
  exact bodyPost_ret (v := .tuple #[.agg #[.int .i64 0, .int .i64 0, .slice none 0 0], .int .i64 E]) (by simp [results, Try.results10, go_sem, r0, r1, r2]) rfl ⟨rfl, HE.out⟩
set_option maxHeartbeats 2000000 in
set_option maxRecDepth 100000 in
theorem expand_141 (pa pb : Nat) (ad : Option Addr) (n c : Nat) (hn : n ≤ 9223372036854775807) (he : chk pa pb n = 0) (W2 H2 : Int) (hbd : sizeB W2 H2 = true → ¬ (((W2.toNat + 1) / 2 = pa) ∧ ((H2.toNat + 1) / 2 = pb))) (w : World) :
    Calls Try.prog 10 #[.agg #[.int .i64 (pa : Int), .int .i64 (pb : Int), .slice ad n c], .int .i64 W2, .int .i64 H2] w fun e w' => e = .returned (.tuple #[.agg #[.int .i64 0, .int .i64 0, .slice none 0 0], .int .i64 141]) ∧ Qb w w' := by
  have CK : Hid (∀ w : World, Calls Try.prog 19 #[.agg #[.int .i64 (pa : Int), .int .i64 (pb : Int), .slice ad n c]] w fun e w' => e = .returned (.int .i64 0) ∧ Q w w') := fun w => by have := check_any pa pb ad n c hn w; rw [he] at this; exact this
  obtain ⟨w1, hw1⟩ : ∃ w1, (w.alloc (.cells #[.int .i64 (pa : Int), .int .i64 (pb : Int), .slice ad n c] 24)).alloc (.cells #[.int .i64 0, .int .i64 0, .slice none 0 0] 24) = w1 := ⟨_, rfl⟩
  have hp : PBx w1 w.heap.size pa pb (.slice ad n c) := ⟨by rw [← hw1]; simp [go_sem], by rw [← hw1]; simp [go_sem], by rw [← hw1]; simp [go_sem]⟩
  have HR : Hid (ZBp w1 (w.heap.size + 1) ∧ Qb w w1 ∧ PBx w1 w.heap.size pa pb (.slice ad n c)) := by
    refine ⟨?_, by rw [← hw1]; exact (((Q.refl w).cells _ _).cells _ _).qb, hp⟩
    have := zbp_new (w.alloc (.cells #[.int .i64 (pa : Int), .int .i64 (pb : Int), .slice ad n c] 24))
    rw [World.size_alloc, hw1] at this
    exact this
  have p0 := hp.c0
  have p1 := hp.c1
  have p2 := hp.c2
  have HB : Hid (sizeB W2 H2 = true → ¬ (((W2.toNat + 1) / 2 = pa) ∧ ((H2.toNat + 1) / 2 = pb))) := hbd
  clear he hp hbd hn
  go_enter Try.func10, Try.ntmps10
  go_wp2_with fail
  refine (CK.out _).mono ?_
  rintro e w2 ⟨rfl, q2⟩
  have H2' : Hid (Q w1 w2) := q2
  have p0 := q2.cell p0
  have p1 := q2.cell p1
  have p2 := q2.cell p2
  clear q2
  go_wp2_with fail
  refine (pisize_any W2 H2 w2).mono ?_
  rintro e w3 ⟨rfl, q3⟩
  have H3 : Hid (Q w1 w3) := H2'.out.trans q3
  have fin : ∀ w4 : World, Q w1 w4 → ZBp w4 (w.heap.size + 1) ∧ Qb w w4 := fun w4 q4 => ⟨HR.out.1.nextB q4.qb, HR.out.2.1.trans q4.qb⟩
  have HF : Hid (∀ w4 : World, Q w1 w4 → ZBp w4 (w.heap.size + 1) ∧ Qb w w4) := fin
  have p0 := q3.cell p0
  have p1 := q3.cell p1
  have p2 := q3.cell p2
  clear fin q3
  cases hb : sizeB W2 H2
  · obtain ⟨z, hz⟩ := HF.out w3 H3.out
    have r0 := z.c0
    have r1 := z.c1
    have r2 := z.c2
    have f0 := z.fr 0
    have f1 := z.fr 1
    have f2 := z.fr 2
    have i0 := setcell_id r0
    have i1 := setcell_id r1
    have i2 := setcell_id r2
    have HE : Hid (Qb w w3) := hz
    clear z hz
    go_wp2_with fail
    exact bodyPost_ret (v := .tuple #[.agg #[.int .i64 0, .int .i64 0, .slice none 0 0], .int .i64 141]) (by simp [results, Try.results10, go_sem, r0, r1, r2]) rfl ⟨rfl, HE.out⟩
  · obtain ⟨a, b, rfl, rfl, hsz⟩ := (sizeB_true.1 hb).nat
    have hnh := HB.out hb
    rw [Int.toNat_natCast, Int.toNat_natCast] at hnh
    have CH := ishalf_any pa pb a b (.slice ad n c) ⟨_, _, _, rfl⟩ hsz.a2 hsz.b2 w3
    rw [show (decide ((a + 1) / 2 = pa) && decide ((b + 1) / 2 = pb)) = false by
      rw [Bool.and_eq_false_iff]
      by_cases h : (a + 1) / 2 = pa
      · exact Or.inr (decide_eq_false (fun h2 => hnh ⟨h, h2⟩))
      · exact Or.inl (decide_eq_false h)] at CH
    clear hnh hb hsz
    go_wp2_with fail
    refine CH.mono ?_
    rintro e w4 ⟨rfl, q4⟩
    obtain ⟨z, hz⟩ := HF.out w4 (H3.out.trans q4)
    have r0 := z.c0
    have r1 := z.c1
    have r2 := z.c2
    have f0 := z.fr 0
    have f1 := z.fr 1
    have f2 := z.fr 2
    have i0 := setcell_id r0
    have i1 := setcell_id r1
    have i2 := setcell_id r2
    have HE : Hid (Qb w w4) := hz
    clear z hz q4 CH
    go_wp2_with fail
    exact bodyPost_ret (v := .tuple #[.agg #[.int .i64 0, .int .i64 0, .slice none 0 0], .int .i64 141]) (by simp [results, Try.results10, go_sem, r0, r1, r2]) rfl ⟨rfl, HE.out⟩
set_option maxHeartbeats 2000000 in
set_option maxRecDepth 100000 in
theorem expand_good (pa pb nr nc n g0 o0 np c : Nat) (S : List Nat) (w : World) (hsz : Size pa pb) (hnp : np = pa * pb) (hsn : Size nr nc) (hnr : (nr + 1) / 2 = pa) (hnc : (nc + 1) / 2 = pb) (hn : nr * nc = n) (hS : S.length = np) (hb : ∀ i, S.getD i 0 < 4294967296) (hI : UIs w g0 o0 S) (hc : np ≤ c) :
    Calls Try.prog 10 #[.agg #[.int .i64 (pa : Int), .int .i64 (pb : Int), .slice (some ⟨g0, o0, none⟩) np c], .int .i64 (nr : Int), .int .i64 (nc : Int)] w fun e w' => ∃ gt, e = .returned (.tuple #[.agg #[.int .i64 (nr : Int), .int .i64 (nc : Int), .slice (some ⟨gt, 0, none⟩) n n], .int .i64 0]) ∧ VR w' gt n (fun j => .int .u32 ((exF pa pb nr nc S j : Nat) : Int)) ∧ w.heap.size ≤ gt ∧ gt < w'.heap.size ∧ Qb w w' := by
  have hck : chk pa pb np = 0 := by rw [hnp]; exact chk_size hsz
  have hnn : np ≤ 9223372036854775807 := by rw [hnp]; have := hsz.ab; omega
  have CK : Hid (∀ w : World, Calls Try.prog 19 #[.agg #[.int .i64 (pa : Int), .int .i64 (pb : Int), .slice (some ⟨g0, o0, none⟩) np c]] w fun e w' => e = .returned (.int .i64 0) ∧ Q w w') := fun w => by have := check_any pa pb (some ⟨g0, o0, none⟩) np c hnn w; rw [hck] at this; exact this
  have CR : Hid (∀ x : World, Qb w x → Calls Try.prog 23 #[.agg #[.int .i64 (pa : Int), .int .i64 (pb : Int), .slice (some ⟨g0, o0, none⟩) np c], .int .i64 (nr : Int), .int .i64 (nc : Int)] x fun e w' => ∃ gt, e = .returned (.agg #[.int .i64 (nr : Int), .int .i64 (nc : Int), .slice (some ⟨gt, 0, none⟩) n n]) ∧ VR w' gt n (fun j => .int .u32 ((exF pa pb nr nc S j : Nat) : Int)) ∧ x.heap.size ≤ gt ∧ gt < w'.heap.size ∧ Qb x w') := fun x q => expanded_any pa pb nr nc (nr * pb) n g0 o0 np c S x hsz hnp hsn (by have := hsn.b1; omega) rfl hn hS hb (hI.nextB q) hc
  have hn1 : 1 ≤ n := by rw [← hn]; exact hsn.pos
  obtain ⟨w1, hw1⟩ : ∃ w1, (w.alloc (.cells #[.int .i64 (pa : Int), .int .i64 (pb : Int), .slice (some ⟨g0, o0, none⟩) np c] 24)).alloc (.cells #[.int .i64 0, .int .i64 0, .slice none 0 0] 24) = w1 := ⟨_, rfl⟩
  have hp : PBx w1 w.heap.size pa pb (.slice (some ⟨g0, o0, none⟩) np c) := ⟨by rw [← hw1]; simp [go_sem], by rw [← hw1]; simp [go_sem], by rw [← hw1]; simp [go_sem]⟩
  have HR : Hid (ZBp w1 (w.heap.size + 1) ∧ Qb w w1 ∧ PBx w1 w.heap.size pa pb (.slice (some ⟨g0, o0, none⟩) np c)) := by
    refine ⟨?_, by rw [← hw1]; exact (((Q.refl w).cells _ _).cells _ _).qb, hp⟩
    have := zbp_new (w.alloc (.cells #[.int .i64 (pa : Int), .int .i64 (pb : Int), .slice (some ⟨g0, o0, none⟩) np c] 24))
    rw [World.size_alloc, hw1] at this
    exact this
  have p0 := hp.c0
  have p1 := hp.c1
  have p2 := hp.c2
  have CH : Hid (∀ x : World, Calls Try.prog 22 #[.agg #[.int .i64 (pa : Int), .int .i64 (pb : Int), .slice (some ⟨g0, o0, none⟩) np c], .int .i64 (nr : Int), .int .i64 (nc : Int)] x fun e w' => e = .returned (.bool true) ∧ Q x w') := fun x => by
    have := ishalf_any pa pb nr nc (.slice (some ⟨g0, o0, none⟩) np c) ⟨_, _, _, rfl⟩ hsn.a2 hsn.b2 x
    rw [decide_eq_true hnr, decide_eq_true hnc] at this
    exact this
  have CS : Hid (∀ x : World, Calls Try.prog 21 #[.int .i64 (nr : Int), .int .i64 (nc : Int)] x fun e w' => e = .returned (.bool true) ∧ Q x w') := fun x => by
    have := pisize_any nr nc x
    rw [sizeB_true.2 hsn.b] at this
    exact this
  clear hck hnn hnp hnr hnc hn hS hb hI hc hp hsn
  go_enter Try.func10, Try.ntmps10
  go_wp2_with fail
  refine (CK.out _).mono ?_
  rintro e w2 ⟨rfl, q2⟩
  have H2 : Hid (Q w1 w2) := q2
  have p0 := q2.cell p0
  have p1 := q2.cell p1
  have p2 := q2.cell p2
  clear q2
  go_wp2_with fail
  refine (CS.out _).mono ?_
  rintro e w2a ⟨rfl, q2⟩
  replace H2 : Hid (Q w1 w2a) := H2.out.trans q2
  have p0 := q2.cell p0
  have p1 := q2.cell p1
  have p2 := q2.cell p2
  clear q2
  go_wp2_with fail
  refine (CH.out _).mono ?_
  rintro e w2b ⟨rfl, q2⟩
  replace H2 : Hid (Q w1 w2b) := H2.out.trans q2
  have p0 := q2.cell p0
  have p1 := q2.cell p1
  have p2 := q2.cell p2
  clear q2
  go_wp2_with fail
  refine (CR.out w2b (HR.out.2.1.trans H2.out.qb)).mono ?_
  rintro e w3 ⟨gt, rfl, v3, l3, m3, q3⟩
  have q13 : Qb w1 w3 := H2.out.qb.trans q3
  have z3 := HR.out.1.nextB q13
  have r0 := z3.c0
  have r1 := z3.c1
  have r2 := z3.c2
  have f0 := z3.fr 0
  have f1 := z3.fr 1
  have f2 := z3.fr 2
  obtain ⟨x6, hx6⟩ : ∃ x6, ((w3.setCell ⟨w.heap.size + 1, 0, none⟩ (.int .i64 (nr : Int))).setCell ⟨w.heap.size + 1, 1, none⟩ (.int .i64 (nc : Int))).setCell ⟨w.heap.size + 1, 2, none⟩ (.slice (some ⟨gt, 0, none⟩) n n) = x6 := ⟨_, rfl⟩
  have u := z3.put hx6
  have u0 := u.c0
  have u1 := u.c1
  have u2 := u.c2
  have HE : Hid (VR x6 gt n (fun j => .int .u32 ((exF pa pb nr nc S j : Nat) : Int)) ∧ w.heap.size ≤ gt ∧ gt < x6.heap.size ∧ Qb w x6) := by
    have hl : w.heap.size + 1 < w2b.heap.size := Nat.lt_of_lt_of_le HR.out.1.lt H2.out.qb.sz
    obtain ⟨a1, a2, a3⟩ := put3_keep (w := w) (by omega) (by omega) hn1 hx6 v3 (HR.out.2.1.trans q13)
    exact ⟨a1, by omega, a2, a3⟩
  clear u z3 q13 v3 l3 m3 q3 p0 p1 p2
  go_wp2_with fail
  exact bodyPost_ret (v := .tuple #[.agg #[.int .i64 (nr : Int), .int .i64 (nc : Int), .slice (some ⟨gt, 0, none⟩) n n], .int .i64 0]) (by simp [results, Try.results10, go_sem, u0, u1, u2]) rfl ⟨gt, rfl, HE.out⟩
end Go.Proofs.Ytgaolakfgjmeiab
/- pyramid: split: the coarse plane, and what lacks. (gen_pyo.py) -/
namespace Go.Proofs.Ytgaolakfgjmeiab
open Go.RowKit Go.Shelf
set_option linter.unusedVariables false
set_option linter.unusedSimpArgs false
attribute [local go_sem] Oper.semAt_some

def subN (a b : Nat) : Nat := (a + 4294967296 - b) % 4294967296
def adN (a b : Nat) : Nat := (a + b) % 4294967296
theorem subN_lt (a b : Nat) : subN a b < 4294967296 := Nat.mod_lt _ (by decide)
theorem adN_lt (a b : Nat) : adN a b < 4294967296 := Nat.mod_lt _ (by decide)
theorem sub_wrap {a b : Nat} (ha : a < 4294967296) (hb : b < 4294967296) : ((a : Int) - (b : Int)) % 4294967296 = (subN a b : Nat) := by unfold subN; omega
theorem add_wrap {a b : Nat} (ha : a < 4294967296) (hb : b < 4294967296) : ((a : Int) + (b : Int)) % 4294967296 = (adN a b : Nat) := by unfold adN; omega
/-- What Expand of Reduce tells. -/
def gsF (pa pb : Nat) (S : List Nat) (j : Nat) : Nat := exF ((pa + 1) / 2) ((pb + 1) / 2) pa pb (tabB ((pa + 1) / 2 * ((pb + 1) / 2)) (rdF pa pb S)) j
/-- What lacks. -/
def lkF (pa pb : Nat) (S : List Nat) (j : Nat) : Nat := subN (keyN (S.getD j 0)) (keyN (gsF pa pb S j))
/-- A stretch of a block that may be written. -/
structure Seg (x : World) (g o n : Nat) (F : Nat → Value) : Prop where
  cell : ∀ i, i < n → x.cell? ⟨g, o + i, none⟩ = some (F i)
  free : ∀ j, x.frozen? ⟨g, j, none⟩ = false
theorem Seg.vr {x : World} {g n : Nat} {F : Nat → Value} (h : Seg x g 0 n F) : VR x g n F := ⟨fun i hi => by have := h.cell i hi; rwa [Nat.zero_add] at this, h.free⟩
theorem VR.seg {x : World} {g n : Nat} {F : Nat → Value} (h : VR x g n F) : Seg x g 0 n F := ⟨fun i hi => by rw [Nat.zero_add]; exact h.cell i hi, h.free⟩
theorem Seg.next {x y : World} {g o n : Nat} {F : Nat → Value} (h : Seg x g o n F) (q : Q x y) : Seg y g o n F := ⟨fun i hi => q.cell (h.cell i hi), fun j => by rw [q.2]; exact h.free j⟩
theorem Seg.nextB {x y : World} {g o n : Nat} {F : Nat → Value} (h : Seg x g o n F) (hg : g < x.heap.size) (q : Qb x y) : Seg y g o n F := ⟨fun i hi => q.cell (h.cell i hi), fun j => by rw [q.frozen (by exact hg)]; exact h.free j⟩
theorem Seg.kept {C : Nat → Prop} {x y : World} {g o n : Nat} {F : Nat → Value} (h : Seg x g o n F) (k : KeptIn C x y) (hg : C g) : Seg y g o n F := ⟨fun i hi => k.one hg (h.cell i hi), fun j => by
  have := h.free j
  unfold World.frozen? at this ⊢
  rw [k.block _ hg]
  exact this⟩
theorem Seg.congr {x : World} {g o n : Nat} {F G : Nat → Value} (h : Seg x g o n F) (hG : ∀ j, j < n → G j = F j) : Seg x g o n G := ⟨fun i hi => by rw [hG i hi]; exact h.cell i hi, h.free⟩
theorem Seg.other {x : World} {g o n b j : Nat} {F : Nat → Value} (h : Seg x g o n F) (hb : b ≠ g) (v : Value) : Seg (x.setCell ⟨b, j, none⟩ v) g o n F := ⟨fun i hi => (World.cell?_setCell_other _ _ _ _ (fun e => hb (by injection e))).trans (h.cell i hi), fun j => by rw [World.frozen?_setCell]; exact h.free j⟩
theorem Seg.putO {x : World} {E g o n : Nat} {F : Nat → Value} (h : Seg x g o n F) (hg : g ≠ E) (ob : Obj) : Seg (x.putObj E ob) g o n F := ⟨fun i hi => (put_cell hg).trans (h.cell i hi), fun j => (put_frozen hg).trans (h.free j)⟩
/-- So far. -/
def sfr (L F : Nat → Value) (k j : Nat) : Value := if j < k then L j else F j
theorem sfr_zero (L F : Nat → Value) : sfr L F 0 = F := by funext j; unfold sfr; rw [if_neg (by omega)]
theorem Seg.fill {x : World} {g o n k : Nat} {L F : Nat → Value} {v : Value} (h : Seg x g o n (sfr L F k)) (hk : k < n) (hv : v = L k) : Seg (x.setCell ⟨g, o + k, none⟩ v) g o n (sfr L F (k + 1)) := by
  refine ⟨fun i hi => ?_, fun j => by rw [World.frozen?_setCell]; exact h.free j⟩
  by_cases e : i = k
  · subst e
    rw [show sfr L F (i + 1) i = v by unfold sfr; rw [if_pos (by omega)]; exact hv.symm]
    exact World.cell?_setCell_same _ _ _ (h.cell i hi)
  · rw [show sfr L F (k + 1) i = sfr L F k i by unfold sfr; by_cases g : i < k; rw [if_pos g, if_pos (by omega)]; rw [if_neg g, if_neg (by omega)]]
    exact (World.cell?_setCell_other _ _ _ _ (fun q => e (by injection q with _ q; omega))).trans (h.cell i hi)
theorem Seg.full {x : World} {g o n : Nat} {L F : Nat → Value} (h : Seg x g o n (sfr L F n)) : Seg x g o n L := h.congr fun j hj => by unfold sfr; rw [if_pos hj]
/-- Of a block, all but a stretch stays. -/
def Rest (x y : World) (g o n : Nat) : Prop := ∀ j, (j < o ∨ o + n ≤ j) → y.cell? ⟨g, j, none⟩ = x.cell? ⟨g, j, none⟩
theorem Rest.set {x y : World} {g o n k : Nat} (h : Rest x y g o n) (hk : k < n) (v : Value) : Rest x (y.setCell ⟨g, o + k, none⟩ v) g o n := fun j hj => (World.cell?_setCell_other _ _ _ _ (fun e => by injection e with _ e; omega)).trans (h j hj)
theorem tabB_usl {x : World} {g n : Nat} {F : Nat → Nat} (h : VR x g n (fun j => .int .u32 ((F j : Nat) : Int))) : UIs x g 0 (tabB n F) := vr_uis h
set_option maxHeartbeats 8000000 in
set_option maxRecDepth 100000 in
theorem split_any (pa pb nr nc n g0 o0 np c gl ol : Nat) (S : List Nat) (F0 : Nat → Value) (w : World) (hsz : Size pa pb) (hnp : np = pa * pb) (hnr : (pa + 1) / 2 = nr) (hnc : (pb + 1) / 2 = nc) (hn : nr * nc = n) (hS : S.length = np) (hb : ∀ i, S.getD i 0 < 4294967296) (hI : UIs w g0 o0 S) (hc : np ≤ c) (hgl : gl ≠ g0) (hF : Seg w gl ol np F0) :
    Calls Try.prog 26 #[.agg #[.int .i64 (pa : Int), .int .i64 (pb : Int), .slice (some ⟨g0, o0, none⟩) np c], .slice (some ⟨gl, ol, none⟩) np np] w fun e w' => ∃ gc, e = .returned (.agg #[.int .i64 (nr : Int), .int .i64 (nc : Int), .slice (some ⟨gc, 0, none⟩) n n]) ∧ VR w' gc n (fun j => .int .u32 ((rdF pa pb S j : Nat) : Int)) ∧ w.heap.size ≤ gc ∧ gc < w'.heap.size ∧ Seg w' gl ol np (fun j => .int .u32 ((lkF pa pb S j : Nat) : Int)) ∧ Rest w w' gl ol np ∧ Same (fun b => b = gl) w w' := by
  have hszc : Size nr nc := by rw [← hnr, ← hnc]; exact hsz.half
  have hn1 : 1 ≤ n := by rw [← hn]; exact hszc.pos
  have hnp1 : 1 ≤ np := by rw [hnp]; exact hsz.pos
  have hnp2 : np ≤ 65536 := by rw [hnp]; exact hsz.ab
  have hglw : gl < w.heap.size := World.block_lt_of_cell? _ _ (hF.cell 0 hnp1)
  have hg0w : g0 < w.heap.size := World.block_lt_of_cell? _ _ (hI 0 (by omega))
  have CR : Hid (∀ x : World, Qb w x → Calls Try.prog 20 #[.agg #[.int .i64 (pa : Int), .int .i64 (pb : Int), .slice (some ⟨g0, o0, none⟩) np c]] x fun e w' => ∃ gt, e = .returned (.agg #[.int .i64 (nr : Int), .int .i64 (nc : Int), .slice (some ⟨gt, 0, none⟩) n n]) ∧ VR w' gt n (fun j => .int .u32 ((rdF pa pb S j : Nat) : Int)) ∧ x.heap.size ≤ gt ∧ gt < w'.heap.size ∧ Qb x w') := fun x q => reduced_any pa pb nr nc (nr * pb) n g0 o0 np c S x hsz hnp hnr hnc rfl hn hS hb (hI.nextB q) hc
  have CX : Hid (∀ (x : World) (gc : Nat), VR x gc n (fun j => .int .u32 ((rdF pa pb S j : Nat) : Int)) → Calls Try.prog 23 #[.agg #[.int .i64 (nr : Int), .int .i64 (nc : Int), .slice (some ⟨gc, 0, none⟩) n n], .int .i64 (pa : Int), .int .i64 (pb : Int)] x fun e w' => ∃ gt, e = .returned (.agg #[.int .i64 (pa : Int), .int .i64 (pb : Int), .slice (some ⟨gt, 0, none⟩) np np]) ∧ VR w' gt np (fun j => .int .u32 ((gsF pa pb S j : Nat) : Int)) ∧ x.heap.size ≤ gt ∧ gt < w'.heap.size ∧ Qb x w') := fun x gc hv => by
    have := expanded_any nr nc pa pb (pa * nc) np gc 0 n n (tabB n (rdF pa pb S)) x hszc hn.symm hsz (by have := hsz.b1; omega) rfl hnp.symm (tabB_len _ _) (tabB_lt fun j => dwnF_lt _ _ _ _) (vr_uis hv) (Nat.le_refl _)
    refine this.mono ?_
    rintro e w' ⟨gt, h1, h2, h3⟩
    exact ⟨gt, h1, h2.congr fun j _ => by unfold gsF; rw [hnr, hnc, hn], h3⟩
  obtain ⟨w1, hw1⟩ : ∃ w1, ((w.alloc (.cells #[.int .i64 (pa : Int), .int .i64 (pb : Int), .slice (some ⟨g0, o0, none⟩) np c] 24)).alloc (.cells #[.slice (some ⟨gl, ol, none⟩) np np] 22)).alloc (.cells #[.int .i64 0, .int .i64 0, .slice none 0 0] 24) = w1 := ⟨_, rfl⟩
  have q1 : Q w w1 := by rw [← hw1]; exact (((Q.refl w).cells _ _).cells _ _).cells _ _
  have s1 : w1.heap.size = w.heap.size + 3 := by rw [← hw1]; simp
  have p1 : PBx w1 w.heap.size pa pb (.slice (some ⟨g0, o0, none⟩) np c) := ⟨by rw [← hw1]; simp [go_sem], by rw [← hw1]; simp [go_sem], by rw [← hw1]; simp [go_sem]⟩
  have m1 : w1.cell? ⟨w.heap.size + 1, 0, none⟩ = some (.slice (some ⟨gl, ol, none⟩) np np) := by rw [← hw1]; simp [go_sem]
  have z1 : ZBp w1 (w.heap.size + 2) := ⟨by rw [← hw1]; simp [go_sem], by rw [← hw1]; simp [go_sem], by rw [← hw1]; simp [go_sem], fun j => by rw [← hw1]; simp [go_sem]⟩
  have H1 : Hid (Q w w1 ∧ w1.heap.size = w.heap.size + 3 ∧ PBx w1 w.heap.size pa pb (.slice (some ⟨g0, o0, none⟩) np c) ∧ w1.cell? ⟨w.heap.size + 1, 0, none⟩ = some (.slice (some ⟨gl, ol, none⟩) np np) ∧ ZBp w1 (w.heap.size + 2)) := ⟨q1, s1, p1, m1, z1⟩
  have HN : Hid (np = pa * pb ∧ S.length = np ∧ (∀ i, S.getD i 0 < 4294967296)) := ⟨hnp, hS, hb⟩
  have HS : Hid (UIs w g0 o0 S ∧ Seg w gl ol np F0) := ⟨hI, hF⟩
  have HGL : Hid (gl < w.heap.size ∧ g0 < w.heap.size ∧ gl ≠ g0) := ⟨hglw, hg0w, hgl⟩
  have k0 := p1.c0
  have k1 := p1.c1
  have k2 := p1.c2
  clear hnp hnr hnc hn hS hb hI hF hgl hglw hg0w q1 s1 p1 m1 z1
  refine (callsIn_wide (n := 0)).1 (callsIn_of_wp_marks Try.func26 rfl trivial ?_ rfl)
  simp only [Try.ntmps26, List.size_toArray, List.length_cons, List.length_nil, Nat.reduceAdd, Nat.reduceSub, Array.replicate_succ, Array.replicate_zero, List.push_toArray, List.append_toArray, List.nil_append, List.cons_append]
  gi_wp2
  refine ⟨trivial, rfl, (callsIn_wide.2 (CR.out w1 H1.out.1.qb)).mono ?_⟩
  rintro e w2 ⟨gc, rfl, v2, l2, m2, q2⟩
  obtain ⟨w3, hw3⟩ : ∃ w3, w2.alloc (.cells #[.int .i64 (nr : Int), .int .i64 (nc : Int), .slice (some ⟨gc, 0, none⟩) n n] 24) = w3 := ⟨_, rfl⟩
  have q3 : Q w2 w3 := by rw [← hw3]; exact (Q.refl w2).cells _ _
  have c3 : PBx w3 w2.heap.size nr nc (.slice (some ⟨gc, 0, none⟩) n n) := ⟨by rw [← hw3]; simp [go_sem], by rw [← hw3]; simp [go_sem], by rw [← hw3]; simp [go_sem]⟩
  have q13 : Qb w1 w3 := q2.trans q3.qb
  have k0 := q13.cell k0
  have k1 := q13.cell k1
  have d0 := c3.c0
  have d1 := c3.c1
  have d2 := c3.c2
  have H3 : Hid (Qb w1 w3 ∧ VR w3 gc n (fun j => .int .u32 ((rdF pa pb S j : Nat) : Int)) ∧ w1.heap.size ≤ gc ∧ gc < w2.heap.size ∧ w2.heap.size < w3.heap.size ∧ PBx w3 w2.heap.size nr nc (.slice (some ⟨gc, 0, none⟩) n n)) := ⟨q13, v2.next q3, l2, m2, World.block_lt_of_cell? _ _ d0, c3⟩
  clear v2 l2 m2 q2 q3 c3 q13
  gi_wp2
  refine ⟨trivial, rfl, (callsIn_wide.2 (CX.out w3 gc H3.out.2.1)).mono ?_⟩
  rintro e w4 ⟨gg, rfl, v4, l4, m4, q4⟩
  clear hw3 d0 d1 d2
  obtain ⟨w5, hw5⟩ : ∃ w5, w4.alloc (.cells #[.int .i64 (pa : Int), .int .i64 (pb : Int), .slice (some ⟨gg, 0, none⟩) np np] 24) = w5 := ⟨_, rfl⟩
  have q5 : Q w4 w5 := by rw [← hw5]; exact (Q.refl w4).cells _ _
  have c5 : PBx w5 w4.heap.size pa pb (.slice (some ⟨gg, 0, none⟩) np np) := ⟨by rw [← hw5]; simp [go_sem], by rw [← hw5]; simp [go_sem], by rw [← hw5]; simp [go_sem]⟩
  have q35 : Qb w3 w5 := q4.trans q5.qb
  have k0 := q35.cell k0
  have k1 := q35.cell k1
  have H5 : Hid (Qb w3 w5 ∧ VR w5 gg np (fun j => .int .u32 ((gsF pa pb S j : Nat) : Int)) ∧ w3.heap.size ≤ gg ∧ gg < w4.heap.size ∧ w4.heap.size < w5.heap.size ∧ PBx w5 w4.heap.size pa pb (.slice (some ⟨gg, 0, none⟩) np np)) := ⟨q35, v4.next q5, l4, m4, World.block_lt_of_cell? _ _ c5.c0, c5⟩
  clear v4 l4 m4 q4 q5 c5 q35
  gi_wp2
  refine ⟨trivial, rfl, (callsIn_wide.2 (places_any pa pb w5)).mono ?_⟩
  rintro e w6 ⟨rfl, q6, s6, d0, d1⟩
  obtain ⟨Bc, hBc⟩ : ∃ Bc, w2.heap.size = Bc := ⟨_, rfl⟩
  obtain ⟨Bg, hBg⟩ : ∃ Bg, w4.heap.size = Bg := ⟨_, rfl⟩
  have HLT : Hid (w5.heap.size + 2 = w6.heap.size ∧ w.heap.size + 3 ≤ gc ∧ gc < Bc ∧ Bc < gg ∧ gg < Bg ∧ Bg < w5.heap.size ∧ gl < w.heap.size ∧ g0 < w.heap.size ∧ gl ≠ g0) := by
    have a1 := H1.out.2.1
    have a2 := H3.out
    have a3 := H5.out
    have a4 := HGL.out
    rw [← hBc, ← hBg]
    refine ⟨by omega, by omega, by omega, by omega, by omega, by omega, a4.1, a4.2.1, a4.2.2⟩
  have q16 : Qb w1 w6 := (H3.out.1.trans H5.out.1).trans q6.qb
  have q36 : Qb w3 w6 := H5.out.1.trans q6.qb
  have HQ6 : Hid (Qb w w6) := H1.out.1.qb.trans q16
  have HF : Hid (UIs w6 g0 o0 S ∧ Seg w6 gl ol np F0 ∧ PBx w6 w.heap.size pa pb (.slice (some ⟨g0, o0, none⟩) np c) ∧ w6.cell? ⟨w.heap.size + 1, 0, none⟩ = some (.slice (some ⟨gl, ol, none⟩) np np) ∧ ZBp w6 (w.heap.size + 2) ∧ VR w6 gc n (fun j => .int .u32 ((rdF pa pb S j : Nat) : Int)) ∧ PBx w6 Bc nr nc (.slice (some ⟨gc, 0, none⟩) n n) ∧ VR w6 gg np (fun j => .int .u32 ((gsF pa pb S j : Nat) : Int)) ∧ PBx w6 Bg pa pb (.slice (some ⟨gg, 0, none⟩) np np)) := by
    have hP : ∀ {x y : World} {B a b : Nat} {v : Value}, PBx x B a b v → Qb x y → PBx y B a b v := fun h q => ⟨q.cell h.c0, q.cell h.c1, q.cell h.c2⟩
    rw [← hBc, ← hBg]
    refine ⟨HS.out.1.nextB HQ6.out, HS.out.2.nextB HGL.out.1 HQ6.out, hP H1.out.2.2.1 q16, q16.cell H1.out.2.2.2.1, H1.out.2.2.2.2.nextB q16, H3.out.2.1.nextB (by have := H3.out; omega) q36, hP H3.out.2.2.2.2.2 q36, H5.out.2.1.next q6, H5.out.2.2.2.2.2.next q6⟩
  rw [hBc, hBg]
  clear hBc hBg H1 H3 H5 CR CX q16 q36 q6 hw5 hw1 k0 k1 k2
  gi_wp2
  refine range_fix (P := Try.prog) (gf := 42) (lb := #[.pointer (some ⟨w5.heap.size + 1, 0, none⟩), .pointer (some ⟨w5.heap.size, 0, none⟩)]) rfl (fun args w => by kernel_rfl) (places_it (w5.heap.size + 1) w5.heap.size pa pb hsz) ?pre ?rd ?ps
    (fun pre Wr => Seg Wr gl ol np (sfr (fun j => .int .u32 ((lkF pa pb S j : Nat) : Int)) F0 pre.length) ∧ Rest w6 Wr gl ol np ∧ KeptIn (fun b => b < w6.heap.size ∧ b ≠ gl) w6 Wr) (fun b => b = gl) ?hD ?hDR ?st ?start ?round ?done
  case pre =>
    intro Wr hk
    exact ⟨hk.one (show w5.heap.size + 1 < w6.heap.size by omega) d1, hk.one (show w5.heap.size < w6.heap.size by omega) d0⟩
  case rd => rintro b (rfl | rfl) <;> omega
  case ps => rintro x args B W ⟨rfl, _⟩; rfl
  case hD => rintro b rfl; have := HLT.out; omega
  case hDR => rintro b (rfl | rfl) h <;> (have := HLT.out; omega)
  case st =>
    rintro pre W W' ⟨h1, h2, h3⟩ hk
    have hg : gl < w6.heap.size := by have := HLT.out; omega
    exact ⟨h1.kept hk hg, fun j hj => (hk.cell (a := ⟨gl, j, none⟩) hg).trans (h2 j hj), h3.trans (hk.mono fun b hb => hb.1)⟩
  case start => exact ⟨by rw [List.length_nil, sfr_zero]; exact HF.out.2.1, fun j _ => rfl, KeptIn.reflP _ _⟩
  case round =>
    rintro l pre x rest W args B hl hlw hx ⟨hV, hR, hK⟩ hs ⟨rfl, hB0⟩
    obtain ⟨x1, x2⟩ := range_at hx
    have HX : Hid (pre.length = x ∧ x < np) := ⟨x1, by rw [HN.out.1]; exact x2⟩
    have HRV : Hid (Seg W gl ol np (sfr (fun j => .int .u32 ((lkF pa pb S j : Nat) : Int)) F0 pre.length) ∧ Rest w6 W gl ol np ∧ KeptIn (fun b => b < w6.heap.size ∧ b ≠ gl) w6 W) := ⟨hV, hR, hK⟩
    clear hV hR hK hB0 x1 x2 hx
    gi_wp2
    refine ⟨Q.refl _, ?_⟩
    intro W2 hk2 hf2
    have HLTv := HLT.out
    have HKK : Hid (KeptIn (fun b => b < w6.heap.size ∧ b ≠ gl) w6 W2 ∧ Seg W2 gl ol np (sfr (fun j => .int .u32 ((lkF pa pb S j : Nat) : Int)) F0 pre.length) ∧ Rest w6 W2 gl ol np) := by
      have kl : KeptIn (fun b => b < w6.heap.size ∧ b ≠ gl) W W2 := hk2.mono (fun b hb e => by subst e; have := hb.1; omega)
      have hgll : gl ≠ l := by omega
      exact ⟨HRV.out.2.2.trans kl, HRV.out.1.kept hk2 hgll, fun j hj => (hk2.cell (a := ⟨gl, j, none⟩) hgll).trans (HRV.out.2.1 j hj)⟩
    have k6 := HKK.out.1
    have hxn := HX.out.2
    have hxn' : (x : Int) < (np : Int) := by omega
    have n0 := qw_some W2
    have f0 := qw_cell (k6.one (b := w.heap.size + 1) ⟨by omega, by omega⟩ HF.out.2.2.2.1)
    have f1 := qw_cell (k6.one (b := w.heap.size) ⟨by omega, by omega⟩ HF.out.2.2.1.c2)
    have f2 := qw_cell (k6.one (b := Bg) ⟨by omega, by omega⟩ HF.out.2.2.2.2.2.2.2.2.c2)
    have f3 := qw_cell (k6.one (b := g0) ⟨by omega, fun e => HLTv.2.2.2.2.2.2.2.2 e.symm⟩ (HF.out.1 x (by have := HN.out.2.1; omega)))
    have f4 := qw_cell (k6.one (b := gg) ⟨by omega, by omega⟩ (HF.out.2.2.2.2.2.2.2.1.cell x hxn))
    obtain ⟨sv, hsv⟩ : ∃ sv, S.getD x 0 = sv := ⟨_, rfl⟩
    obtain ⟨gv, hgv⟩ : ∃ gv, gsF pa pb S x = gv := ⟨_, rfl⟩
    rw [hsv] at f3
    simp only [hgv] at f4
    have hs4 : sv < 4294967296 := by rw [← hsv]; exact HN.out.2.2 x
    have hg4 : gv < 4294967296 := by rw [← hgv]; unfold gsF; exact dwnF_lt _ _ _ _
    have HSV : Hid (lkF pa pb S x = subN (keyN sv) (keyN gv)) := by show lkF pa pb S x = _; unfold lkF; rw [hsv, hgv]
    have HFE : Hid (∀ (args : Array Value) (x : World), (callFunc 37 args).run Try.prog x = .ok (.enter 37 args) x) := fun args x => by kernel_rfl
    have CK : Hid (∀ (s : Nat) (x : World), s < 4294967296 → Calls Try.prog 37 #[.int .u32 (s : Int)] x fun e w' => ∃ v, e = .returned v ∧ v = .int .u32 ((keyN s : Nat) : Int) ∧ w' = x) := fun s x h => (keyn_any s h x).mono fun e w' ⟨h1, h2⟩ => ⟨_, h1, rfl, h2⟩
    have hwr : IntKind.u32.wrap (((keyN sv : Nat) : Int) - ((keyN gv : Nat) : Int)) = ((subN (keyN sv) (keyN gv) : Nat) : Int) := by rw [IntKind.wrap_u32]; exact sub_wrap (keyN_lt hs4) (keyN_lt hg4)
    clear k6 hk2 hf2 HLTv hsv hgv
    refine wpIn_block ?_
    refine wpIn_region_mk [0, 1, 2, 3, 4, 5, 6, 8, 9, 10, 11, 12] [[7, 13, 14, 15, 16]] 5 _ (by kernel_rfl) (by kernel_rfl) rfl (by kernel_rfl) ?_
    simp only [List.filterMap_cons, List.filterMap_nil, List.getElem?_cons_zero, List.getElem?_cons_succ]
    repeat (first | go_big_quiet_step (fail) | quiet_step (fail))
    refine wpQuiet_nil ?_
    intro x2 hx2
    refine itree_callG (open_round l) 7 rfl rfl (fun c h => by cases h) (run_fn 37 #[.tmp 29] _ rfl HFE.out (vs := #[.int .u32 (sv : Int)]) (by simp [Act.eval, Act.put])) (G := fun v w' => v = .int .u32 ((keyN sv : Nat) : Int) ∧ w' = x2) (CallsIn.inRound l (callsIn_wide.2 (CK.out sv x2 hs4))) ?_
    rintro v x3 ⟨rfl, hx3⟩
    obtain rfl := hx3.symm
    refine ⟨fun _ => hx2, ?_⟩
    refine itree_callG (open_round l) 13 rfl rfl (fun c h => by cases h) (run_fn 37 #[.tmp 35] _ rfl HFE.out (vs := #[.int .u32 (gv : Int)]) (by simp [Act.eval, Act.put])) (G := fun v w' => v = .int .u32 ((keyN gv : Nat) : Int) ∧ w' = x2) (CallsIn.inRound l (callsIn_wide.2 (CK.out gv x2 hg4))) ?_
    rintro v x3 ⟨rfl, hx3⟩
    obtain rfl := hx3.symm
    refine ⟨fun _ => hx2, ?_⟩
    have V3 := HKK.out.2.1.next hx2
    obtain ⟨u, hu⟩ : ∃ u, x2.cell? ⟨gl, ol + x, none⟩ = some u := ⟨_, V3.cell x hxn⟩
    have fu := V3.free (ol + x)
    refine itree_run 14 rfl rfl rfl (v := .int .u32 ((subN (keyN sv) (keyN gv) : Nat) : Int)) (x' := x2) (by simp [execOp, go_sem, Act.eval, Act.put, hwr]) hx2 ?_
    refine itree_runF 15 rfl rfl rfl rfl (v := .pointer (some ⟨gl, ol + x, none⟩)) (x' := x2) (by simp [execOp, go_sem, Act.eval, Act.put, hxn, hxn']) ?_
    refine itree_skipF 16 rfl rfl rfl rfl (x' := x2.setCell ⟨gl, ol + x, none⟩ (.int .u32 ((subN (keyN sv) (keyN gv) : Nat) : Int))) (by simp [execOp, go_sem, Act.eval, Act.put, hu, fu]) ?_
    refine itree_nil ?_
    refine ⟨rfl, ?_, ?_, ?_, ?_⟩
    · exact (Same.of_q hx2 _).trans (same_setP x2 gl (ol + x) _ (D := fun b => b = gl) rfl) (fun b hb => Or.inl hb)
    · rw [List.length_append, List.length_cons, List.length_nil, HX.out.1]
      rw [HX.out.1] at V3
      exact V3.fill hxn (by rw [HSV.out])
    · have hr : Rest w6 x2 gl ol np := fun j hj => by
        have h1 := HKK.out.2.2 j hj
        rw [← h1]
        unfold World.cell?
        have hb : gl < W2.heap.size := World.block_lt_of_cell? _ _ (HKK.out.2.1.cell x hxn)
        rw [hx2.1.block gl hb]
      exact hr.set hxn _
    · exact (HKK.out.1.trans (KeptIn.of_qP hx2 (fun b hb => Nat.lt_of_lt_of_le hb.1 HKK.out.1.size))).trans (keptP_set x2 gl (ol + x) _ (fun h => h.2 rfl))
  case done =>
    rintro E W hE hd hSm ⟨hV, hR, hK⟩
    have HLTv := HLT.out
    have hVf : Seg W gl ol np (fun j => .int .u32 ((lkF pa pb S j : Nat) : Int)) := by
      rw [List.length_range, ← HN.out.1] at hV
      exact hV.full
    have t0 := hK.one (b := Bc) ⟨by omega, by omega⟩ HF.out.2.2.2.2.2.2.1.c0
    have t1 := hK.one (b := Bc) ⟨by omega, by omega⟩ HF.out.2.2.2.2.2.2.1.c1
    have t2 := hK.one (b := Bc) ⟨by omega, by omega⟩ HF.out.2.2.2.2.2.2.1.c2
    have hZ : ZBp W (w.heap.size + 2) := by
      have hz := HF.out.2.2.2.2.1
      have hC : w.heap.size + 2 < w6.heap.size ∧ w.heap.size + 2 ≠ gl := ⟨by omega, by omega⟩
      refine ⟨hK.one hC hz.c0, hK.one hC hz.c1, hK.one hC hz.c2, fun j => ?_⟩
      have := hz.fr j
      unfold World.frozen? at this ⊢
      rw [hK.block _ hC]
      exact this
    have hVc : VR W gc n (fun j => .int .u32 ((rdF pa pb S j : Nat) : Int)) := HF.out.2.2.2.2.2.1.kept hK ⟨by omega, by omega⟩
    have r0 := hZ.c0
    have r1 := hZ.c1
    have r2 := hZ.c2
    have f0 := hZ.fr 0
    have f1 := hZ.fr 1
    have f2 := hZ.fr 2
    obtain ⟨W5, hW5⟩ : ∃ W5, ((W.setCell ⟨w.heap.size + 2, 0, none⟩ (.int .i64 (nr : Int))).setCell ⟨w.heap.size + 2, 1, none⟩ (.int .i64 (nc : Int))).setCell ⟨w.heap.size + 2, 2, none⟩ (.slice (some ⟨gc, 0, none⟩) n n) = W5 := ⟨_, rfl⟩
    have hneE : w.heap.size + 2 ≠ E := by omega
    have hu := hZ.put hW5
    have v0 : (W5.putObj E (.deferred none)).cell? ⟨w.heap.size + 2, 0, none⟩ = some (.int .i64 (nr : Int)) := by rw [put_cell hneE]; exact hu.c0
    have v1 : (W5.putObj E (.deferred none)).cell? ⟨w.heap.size + 2, 1, none⟩ = some (.int .i64 (nc : Int)) := by rw [put_cell hneE]; exact hu.c1
    have v2 : (W5.putObj E (.deferred none)).cell? ⟨w.heap.size + 2, 2, none⟩ = some (.slice (some ⟨gc, 0, none⟩) n n) := by rw [put_cell hneE]; exact hu.c2
    have hdef : W5.heap[E]? = some (.deferred (some [])) := by
      rw [← hW5, Below.heap_setCell _ _ _ _ (by exact hneE.symm), Below.heap_setCell _ _ _ _ (by exact hneE.symm), Below.heap_setCell _ _ _ _ (by exact hneE.symm)]
      exact hd
    have HEND : Hid (VR (W5.putObj E (.deferred none)) gc n (fun j => .int .u32 ((rdF pa pb S j : Nat) : Int)) ∧ w.heap.size ≤ gc ∧ gc < (W5.putObj E (.deferred none)).heap.size ∧ Seg (W5.putObj E (.deferred none)) gl ol np (fun j => .int .u32 ((lkF pa pb S j : Nat) : Int)) ∧ Rest w (W5.putObj E (.deferred none)) gl ol np ∧ Same (fun b => b = gl) w (W5.putObj E (.deferred none))) := by
      have nB : w.heap.size + 2 ≠ gc := by omega
      have nL : w.heap.size + 2 ≠ gl := by omega
      have hv5 : VR W5 gc n (fun j => .int .u32 ((rdF pa pb S j : Nat) : Int)) := by rw [← hW5]; exact ((hVc.other nB _).other nB _).other nB _
      have hs5 : Seg W5 gl ol np (fun j => .int .u32 ((lkF pa pb S j : Nat) : Int)) := by rw [← hW5]; exact ((hVf.other nL _).other nL _).other nL _
      have hend := hv5.putO (E := E) (by omega) (.deferred none)
      have hE6 : w6.heap.size ≤ E := hE
      have glE : gl ≠ E := by omega
      refine ⟨hend, by omega, hend.lt hn1, hs5.putO glE _, fun j hj => ?_, ?_⟩
      · rw [put_cell glE, ← hW5, World.cell?_setCell_other _ _ _ _ (fun e => nL (by injection e)), World.cell?_setCell_other _ _ _ _ (fun e => nL (by injection e)), World.cell?_setCell_other _ _ _ _ (fun e => nL (by injection e)), hR j hj]
        have h' : Below w.heap.size w w6 := HQ6.out.1
        exact h'.cell (p := ⟨gl, j, none⟩) (by show gl < _; omega)
      · have s1 : Same (fun b => b = gl) w W := (Same.of_q HQ6.out (fun b => b = gl)).trans hSm (fun b hb => Or.inl hb)
        have s2 : Same (fun b => b = w.heap.size + 2) W W5 := by
          rw [← hW5]
          exact ((same_setP _ _ _ _ (D := fun b => b = w.heap.size + 2) rfl).trans (same_setP _ _ _ _ (D := fun b => b = w.heap.size + 2) rfl) (fun b hb => Or.inl hb)).trans (same_setP _ _ _ _ (D := fun b => b = w.heap.size + 2) rfl) (fun b hb => Or.inl hb)
        have s3 : Same (fun b => b = E) W5 (W5.putObj E (.deferred none)) := Same.put _ hdef rfl rfl rfl
        exact (s1.trans s2 (fun b hb => Or.inr (by omega))).trans s3 (fun b hb => Or.inr (by omega))
    clear hV hK hSm hVf hR HLTv hd hE hVc hZ hu
    gi_wp2
    refine ⟨by simp, .inl ⟨_, _, rfl, run_takeDeferred hdef, ?_⟩⟩
    exact ⟨.agg #[.int .i64 (nr : Int), .int .i64 (nc : Int), .slice (some ⟨gc, 0, none⟩) n n], by simp [results, Try.results26, go_sem, v0, v1, v2], gc, rfl, HEND.out⟩
end Go.Proofs.Ytgaolakfgjmeiab
/- pyramid: Split. (gen_pyp.py) -/
namespace Go.Proofs.Ytgaolakfgjmeiab
open Go.RowKit Go.Shelf
set_option linter.unusedVariables false
set_option linter.unusedSimpArgs false

set_option maxHeartbeats 2000000 in
set_option maxRecDepth 100000 in
theorem Split_bad (W H : Int) (ad : Option Addr) (n c : Nat) (hn : n ≤ 9223372036854775807) (he : chk W H n ≠ 0) (w : World) :
    Calls Try.prog 15 #[.agg #[.int .i64 W, .int .i64 H, .slice ad n c]] w fun e w' => e = .returned (.tuple #[.agg #[.int .i64 0, .int .i64 0, .slice none 0 0], .agg #[.int .i64 0, .int .i64 0, .slice none 0 0], .int .i64 (chk W H n)]) ∧ Qb w w' := by
  have CK : Hid (∀ w : World, Calls Try.prog 19 #[.agg #[.int .i64 W, .int .i64 H, .slice ad n c]] w fun e w' => e = .returned (.int .i64 (chk W H n)) ∧ Q w w') := fun w => check_any W H ad n c hn w
  obtain ⟨w1, hw1⟩ : ∃ w1, ((w.alloc (.cells #[.int .i64 W, .int .i64 H, .slice ad n c] 24)).alloc (.cells #[.int .i64 0, .int .i64 0, .slice none 0 0] 24)).alloc (.cells #[.int .i64 0, .int .i64 0, .slice none 0 0] 24) = w1 := ⟨_, rfl⟩
  have p0 : w1.cell? ⟨w.heap.size, 0, none⟩ = some (.int .i64 W) := by rw [← hw1]; simp [go_sem]
  have p1 : w1.cell? ⟨w.heap.size, 1, none⟩ = some (.int .i64 H) := by rw [← hw1]; simp [go_sem]
  have p2 : w1.cell? ⟨w.heap.size, 2, none⟩ = some (.slice ad n c) := by rw [← hw1]; simp [go_sem]
  have HR : Hid (ZBp w1 (w.heap.size + 1) ∧ ZBp w1 (w.heap.size + 2) ∧ Qb w w1) := by
    refine ⟨⟨by rw [← hw1]; simp [go_sem], by rw [← hw1]; simp [go_sem], by rw [← hw1]; simp [go_sem], fun j => by rw [← hw1]; simp [go_sem]⟩, ⟨by rw [← hw1]; simp [go_sem], by rw [← hw1]; simp [go_sem], by rw [← hw1]; simp [go_sem], fun j => by rw [← hw1]; simp [go_sem]⟩, by rw [← hw1]; exact ((((Q.refl w).cells _ _).cells _ _).cells _ _).qb⟩
  obtain ⟨E, hE⟩ : ∃ E, chk W H n = E := ⟨_, rfl⟩
  rw [hE] at CK he ⊢
  have hbe : (E != 0) = true := by simpa using he
  have hbe2 : (E == 0) = false := by simpa using he
  go_enter Try.func15, Try.ntmps15
  go_wp2_with fail
  refine (CK.out _).mono ?_
  rintro e w2 ⟨rfl, q2⟩
  have z2 := HR.out.1.nextB q2.qb
  have y2 := HR.out.2.1.nextB q2.qb
  have r0 := z2.c0
  have r1 := z2.c1
  have r2 := z2.c2
  have f0 := z2.fr 0
  have f1 := z2.fr 1
  have f2 := z2.fr 2
  have i0 := setcell_id r0
  have i1 := setcell_id r1
  have i2 := setcell_id r2
  have s0 := y2.c0
  have s1 := y2.c1
  have s2 := y2.c2
  have h0 := y2.fr 0
  have h1 := y2.fr 1
  have h2 := y2.fr 2
  have j0 := setcell_id s0
  have j1 := setcell_id s1
  have j2 := setcell_id s2
  have HE : Hid (Qb w w2) := HR.out.2.2.trans q2.qb
  clear z2 y2 q2 p0 p1 p2
  go_wp2_with fail
  exact bodyPost_ret (v := .tuple #[.agg #[.int .i64 0, .int .i64 0, .slice none 0 0], .agg #[.int .i64 0, .int .i64 0, .slice none 0 0], .int .i64 E]) (by simp [results, Try.results15, go_sem, r0, r1, r2, s0, s1, s2]) rfl ⟨rfl, HE.out⟩
/-- What Split tells of a plane. -/
def SplA (pa pb nr nc n np : Nat) (S : List Nat) (w : World) (e : Ending) (w' : World) : Prop :=
  ∃ gc gl, e = .returned (.tuple #[.agg #[.int .i64 (nr : Int), .int .i64 (nc : Int), .slice (some ⟨gc, 0, none⟩) n n], .agg #[.int .i64 (pa : Int), .int .i64 (pb : Int), .slice (some ⟨gl, 0, none⟩) np np], .int .i64 0]) ∧ VR w' gc n (fun j => .int .u32 ((rdF pa pb S j : Nat) : Int)) ∧ VR w' gl np (fun j => .int .u32 ((lkF pa pb S j : Nat) : Int)) ∧ gc ≠ gl ∧ w.heap.size ≤ gc ∧ gc < w'.heap.size ∧ w.heap.size ≤ gl ∧ gl < w'.heap.size ∧ Qb w w'
set_option maxHeartbeats 4000000 in
set_option maxRecDepth 100000 in
theorem Split_good (pa pb nr nc n g0 o0 np c : Nat) (S : List Nat) (w : World) (hsz : Size pa pb) (hnp : np = pa * pb) (hnr : (pa + 1) / 2 = nr) (hnc : (pb + 1) / 2 = nc) (hn : nr * nc = n) (hS : S.length = np) (hb : ∀ i, S.getD i 0 < 4294967296) (hI : UIs w g0 o0 S) (hc : np ≤ c) :
    Calls Try.prog 15 #[.agg #[.int .i64 (pa : Int), .int .i64 (pb : Int), .slice (some ⟨g0, o0, none⟩) np c]] w (SplA pa pb nr nc n np S w) := by
  have hck : chk pa pb np = 0 := by rw [hnp]; exact chk_size hsz
  have hnn : np ≤ 9223372036854775807 := by rw [hnp]; have := hsz.ab; omega
  have hn1 : 1 ≤ n := by rw [← hn, ← hnr, ← hnc]; exact hsz.half.pos
  have hnp1 : 1 ≤ np := by rw [hnp]; exact hsz.pos
  have hg0 : g0 < w.heap.size := World.block_lt_of_cell? _ _ (hI 0 (by omega))
  have CK : Hid (∀ w : World, Calls Try.prog 19 #[.agg #[.int .i64 (pa : Int), .int .i64 (pb : Int), .slice (some ⟨g0, o0, none⟩) np c]] w fun e w' => e = .returned (.int .i64 0) ∧ Q w w') := fun w => by have := check_any pa pb (some ⟨g0, o0, none⟩) np c hnn w; rw [hck] at this; exact this
  have CZ : Hid (∀ w : World, Calls Try.prog 25 #[.int .i64 (pa : Int), .int .i64 (pb : Int)] w fun e w' => ∃ g, e = .returned (.agg #[.int .i64 (pa : Int), .int .i64 (pb : Int), .slice (some ⟨g, 0, none⟩) np np]) ∧ VR w' g np (fun _ => .int .u32 0) ∧ w.heap.size ≤ g ∧ Q w w') := fun w => sized_any pa pb np (by rw [hnp]; have := hsz.ab; omega) hnp.symm w
  have CS : Hid (∀ (x : World) (gl : Nat), Qb w x → w.heap.size ≤ gl → VR x gl np (fun _ => .int .u32 0) → Calls Try.prog 26 #[.agg #[.int .i64 (pa : Int), .int .i64 (pb : Int), .slice (some ⟨g0, o0, none⟩) np c], .slice (some ⟨gl, 0, none⟩) np np] x fun e w' => ∃ v, e = .returned v ∧ ∃ gc, v = .agg #[.int .i64 (nr : Int), .int .i64 (nc : Int), .slice (some ⟨gc, 0, none⟩) n n] ∧ VR w' gc n (fun j => .int .u32 ((rdF pa pb S j : Nat) : Int)) ∧ x.heap.size ≤ gc ∧ gc < w'.heap.size ∧ VR w' gl np (fun j => .int .u32 ((lkF pa pb S j : Nat) : Int)) ∧ Same (fun b => b = gl) x w') := fun x gl q hl hv => (split_any pa pb nr nc n g0 o0 np c gl 0 S (fun _ => .int .u32 0) x hsz hnp hnr hnc hn hS hb (hI.nextB q) hc (by omega) hv.seg).mono fun e w' ⟨gc, h1, h2, h3, h4, h5, h6, h7⟩ => ⟨_, h1, gc, rfl, h2, h3, h4, h5.vr, h7⟩
  obtain ⟨w1, hw1⟩ : ∃ w1, ((w.alloc (.cells #[.int .i64 (pa : Int), .int .i64 (pb : Int), .slice (some ⟨g0, o0, none⟩) np c] 24)).alloc (.cells #[.int .i64 0, .int .i64 0, .slice none 0 0] 24)).alloc (.cells #[.int .i64 0, .int .i64 0, .slice none 0 0] 24) = w1 := ⟨_, rfl⟩
  have hp : PBx w1 w.heap.size pa pb (.slice (some ⟨g0, o0, none⟩) np c) := ⟨by rw [← hw1]; simp [go_sem], by rw [← hw1]; simp [go_sem], by rw [← hw1]; simp [go_sem]⟩
  have HR : Hid (ZBp w1 (w.heap.size + 1) ∧ ZBp w1 (w.heap.size + 2) ∧ Q w w1 ∧ PBx w1 w.heap.size pa pb (.slice (some ⟨g0, o0, none⟩) np c)) := by
    refine ⟨⟨by rw [← hw1]; simp [go_sem], by rw [← hw1]; simp [go_sem], by rw [← hw1]; simp [go_sem], fun j => by rw [← hw1]; simp [go_sem]⟩, ⟨by rw [← hw1]; simp [go_sem], by rw [← hw1]; simp [go_sem], by rw [← hw1]; simp [go_sem], fun j => by rw [← hw1]; simp [go_sem]⟩, by rw [← hw1]; exact (((Q.refl w).cells _ _).cells _ _).cells _ _, hp⟩
  have p0 := hp.c0
  have p1 := hp.c1
  have p2 := hp.c2
  have HG0 : Hid (g0 < w.heap.size) := hg0
  clear hck hnn hnp hnr hnc hn hS hb hI hc hp hg0
  go_enter Try.func15, Try.ntmps15
  go_wp2_with fail
  refine (CK.out _).mono ?_
  rintro e w2 ⟨rfl, q2⟩
  have H2 : Hid (Q w1 w2) := q2
  have p0 := q2.cell p0
  have p1 := q2.cell p1
  have p2 := q2.cell p2
  clear q2
  go_wp2_with fail
  refine (CZ.out w2).mono ?_
  rintro e w3 ⟨gl, rfl, v3, l3, q3⟩
  obtain ⟨w5, hw5⟩ : ∃ w5, w3.alloc (.cells #[.int .i64 (pa : Int), .int .i64 (pb : Int), .slice (some ⟨gl, 0, none⟩) np np] 24) = w5 := ⟨_, rfl⟩
  have q5 : Q w3 w5 := by rw [← hw5]; exact (Q.refl w3).cells _ _
  have c5 : PBx w5 w3.heap.size pa pb (.slice (some ⟨gl, 0, none⟩) np np) := ⟨by rw [← hw5]; simp [go_sem], by rw [← hw5]; simp [go_sem], by rw [← hw5]; simp [go_sem]⟩
  have q15 : Q w1 w5 := (H2.out.trans q3).trans q5
  have sw : w.heap.size + 2 < w1.heap.size := HR.out.2.1.lt
  have l3' : w1.heap.size ≤ gl := Nat.le_trans H2.out.1.size l3
  have H5 : Hid (Q w1 w5 ∧ VR w5 gl np (fun _ => .int .u32 0) ∧ w1.heap.size ≤ gl ∧ gl < w3.heap.size ∧ w3.heap.size < w5.heap.size ∧ w.heap.size + 2 < w1.heap.size ∧ w1.heap.size ≤ w3.heap.size) := ⟨q15, v3.next q5, l3', v3.lt hnp1, World.block_lt_of_cell? _ _ c5.c0, sw, Nat.le_trans H2.out.1.size q3.1.size⟩
  have hD : ∀ {x : World}, KeptIn (fun b => b < w5.heap.size ∧ b ≠ gl ∧ b ≠ w.heap.size + 1) w5 x → ∀ {b j : Nat} {v : Value}, b < w5.heap.size → b ≠ gl ∧ b ≠ w.heap.size + 1 → w5.cell? ⟨b, j, none⟩ = some v → x.cell? ⟨b, j, none⟩ = some v := fun h b j v h1 h2 h3 => h.one ⟨h1, h2⟩ h3
  have n0 := cw_some (D := fun x => KeptIn (fun b => b < w5.heap.size ∧ b ≠ gl ∧ b ≠ w.heap.size + 1) w5 x) (KeptIn.reflP _ w5)
  have hw5s : w.heap.size < w5.heap.size := by have := H5.out; omega
  have hwgl : w.heap.size ≠ gl ∧ w.heap.size ≠ w.heap.size + 1 := ⟨by omega, by omega⟩
  have h3s : w3.heap.size < w5.heap.size := H5.out.2.2.2.2.1
  have h3gl : w3.heap.size ≠ gl ∧ w3.heap.size ≠ w.heap.size + 1 := ⟨by have := H5.out; omega, by have := H5.out; omega⟩
  have f0 : ∀ n : CW (fun x => KeptIn (fun b => b < w5.heap.size ∧ b ≠ gl ∧ b ≠ w.heap.size + 1) w5 x), n.x.cell? ⟨w.heap.size, 0, none⟩ = some (.int .i64 (pa : Int)) := fun n => hD n.h hw5s hwgl (q15.cell HR.out.2.2.2.c0)
  have f1 : ∀ n : CW (fun x => KeptIn (fun b => b < w5.heap.size ∧ b ≠ gl ∧ b ≠ w.heap.size + 1) w5 x), n.x.cell? ⟨w.heap.size, 1, none⟩ = some (.int .i64 (pb : Int)) := fun n => hD n.h hw5s hwgl (q15.cell HR.out.2.2.2.c1)
  have f2 : ∀ n : CW (fun x => KeptIn (fun b => b < w5.heap.size ∧ b ≠ gl ∧ b ≠ w.heap.size + 1) w5 x), n.x.cell? ⟨w.heap.size, 2, none⟩ = some (.slice (some ⟨g0, o0, none⟩) np c) := fun n => hD n.h hw5s hwgl (q15.cell HR.out.2.2.2.c2)
  have f3 : ∀ n : CW (fun x => KeptIn (fun b => b < w5.heap.size ∧ b ≠ gl ∧ b ≠ w.heap.size + 1) w5 x), n.x.cell? ⟨w3.heap.size, 0, none⟩ = some (.int .i64 (pa : Int)) := fun n => hD n.h h3s h3gl c5.c0
  have f4 : ∀ n : CW (fun x => KeptIn (fun b => b < w5.heap.size ∧ b ≠ gl ∧ b ≠ w.heap.size + 1) w5 x), n.x.cell? ⟨w3.heap.size, 1, none⟩ = some (.int .i64 (pb : Int)) := fun n => hD n.h h3s h3gl c5.c1
  have f5 : ∀ n : CW (fun x => KeptIn (fun b => b < w5.heap.size ∧ b ≠ gl ∧ b ≠ w.heap.size + 1) w5 x), n.x.cell? ⟨w3.heap.size, 2, none⟩ = some (.slice (some ⟨gl, 0, none⟩) np np) := fun n => hD n.h h3s h3gl c5.c2
  have HFE : Hid (∀ (args : Array Value) (x : World), (callFunc 26 args).run Try.prog x = .ok (.enter 26 args) x) := fun args x => by kernel_rfl
  clear hD hw5s hwgl h3s h3gl v3 l3 q3 q5 c5 q15 sw l3' p0 p1 p2
  go_wp2_with fail
  clear hw5 hw1
  refine wp_region_mkP [0, 1, 2, 4] [[3, 5, 6, 7]] 4 _ (fun x => KeptIn (fun b => b < w5.heap.size ∧ b ≠ gl ∧ b ≠ w.heap.size + 1) w5 x) (by kernel_rfl) (by kernel_rfl) rfl (by kernel_rfl) ?hDr ?_
  case hDr => exact KeptIn.of_qP (Q.refl w5).drew (fun b hb => hb.1)
  simp only [List.filterMap_cons, List.filterMap_nil, List.getElem?_cons_zero, List.getElem?_cons_succ]
  repeat (first | go_big_quiet_step (fail) | quiet_step (fail))
  refine wpQuiet_nil ?_
  have qd : Q w5 w5.drew := (Q.refl w5).drew
  generalize w5.drew = x1 at qd ⊢
  have q11 : Q w1 x1 := H5.out.1.trans qd
  refine tree_call 3 rfl rfl (run_fn 26 #[.tmp 19, .tmp 21] _ rfl HFE.out (vs := #[.agg #[.int .i64 (pa : Int), .int .i64 (pb : Int), .slice (some ⟨g0, o0, none⟩) np c], .slice (some ⟨gl, 0, none⟩) np np]) (by simp [Act.eval, Act.put])) (CS.out x1 gl (HR.out.2.2.1.trans q11).qb (by have := H5.out; omega) (H5.out.2.1.next qd)) ?_
  rintro v x2 ⟨gc, rfl, v2, l2, m2, vl, s2⟩
  have hlt5 : w5.heap.size ≤ x1.heap.size := qd.1.size
  have hk12 : KeptIn (fun b => b < w5.heap.size ∧ b ≠ gl) w5 x2 := (KeptIn.of_qP qd (fun b hb => hb.1)).trans (s2.kept (fun b hb => ⟨Nat.lt_of_lt_of_le hb.1 hlt5, hb.2⟩))
  refine ⟨hk12.mono (fun b hb => ⟨hb.1, hb.2.1⟩), ?_⟩
  have hzk : ∀ R, R < w1.heap.size → ZBp w1 R → ZBp x2 R := fun R hR hz => by
    have hz5 := hz.nextB H5.out.1.qb
    have hC : R < w5.heap.size ∧ R ≠ gl := ⟨by have := H5.out; omega, by have := H5.out; omega⟩
    refine ⟨hk12.one hC hz5.c0, hk12.one hC hz5.c1, hk12.one hC hz5.c2, fun j => ?_⟩
    have := hz5.fr j
    unfold World.frozen? at this ⊢
    rw [hk12.block _ hC]
    exact this
  have za := hzk _ HR.out.1.lt HR.out.1
  have zb := hzk _ HR.out.2.1.lt HR.out.2.1
  have r0 := za.c0
  have r1 := za.c1
  have r2 := za.c2
  have g0' := za.fr 0
  have g1' := za.fr 1
  have g2' := za.fr 2
  obtain ⟨x6, hx6⟩ : ∃ x6, ((x2.setCell ⟨w.heap.size + 1, 0, none⟩ (.int .i64 (nr : Int))).setCell ⟨w.heap.size + 1, 1, none⟩ (.int .i64 (nc : Int))).setCell ⟨w.heap.size + 1, 2, none⟩ (.slice (some ⟨gc, 0, none⟩) n n) = x6 := ⟨_, rfl⟩
  have ua := za.put hx6
  have hq : Qb w x2 := (HR.out.2.2.1.trans q11).qb.trans' s2 (fun b hb => by have := H5.out; omega)
  have hH := H5.out
  obtain ⟨a1, a2, a3⟩ := put3_keep (w := w) (by omega) (by omega) hn1 hx6 v2 hq
  obtain ⟨b1, b2, _⟩ := put3_keep (w := w) (by omega) (by omega) hnp1 hx6 vl hq
  have zb6 : ZBp x6 (w.heap.size + 2) := by
    have ne : ∀ {j k : Nat}, (⟨w.heap.size + 1, j, none⟩ : Addr) ≠ ⟨w.heap.size + 2, k, none⟩ := fun e => by injection e with e; omega
    rw [← hx6]
    refine ⟨?_, ?_, ?_, fun j => ?_⟩
    · rw [World.cell?_setCell_other _ _ _ _ ne, World.cell?_setCell_other _ _ _ _ ne, World.cell?_setCell_other _ _ _ _ ne]; exact zb.c0
    · rw [World.cell?_setCell_other _ _ _ _ ne, World.cell?_setCell_other _ _ _ _ ne, World.cell?_setCell_other _ _ _ _ ne]; exact zb.c1
    · rw [World.cell?_setCell_other _ _ _ _ ne, World.cell?_setCell_other _ _ _ _ ne, World.cell?_setCell_other _ _ _ _ ne]; exact zb.c2
    · rw [World.frozen?_setCell, World.frozen?_setCell, World.frozen?_setCell]; exact zb.fr j
  have e0 := zb6.c0
  have e1 := zb6.c1
  have e2 := zb6.c2
  have k0 := zb6.fr 0
  have k1 := zb6.fr 1
  have k2 := zb6.fr 2
  obtain ⟨x7, hx7⟩ : ∃ x7, ((x6.setCell ⟨w.heap.size + 2, 0, none⟩ (.int .i64 (pa : Int))).setCell ⟨w.heap.size + 2, 1, none⟩ (.int .i64 (pb : Int))).setCell ⟨w.heap.size + 2, 2, none⟩ (.slice (some ⟨gl, 0, none⟩) np np) = x7 := ⟨_, rfl⟩
  have ub := zb6.put hx7
  have ua7 : PBx x7 (w.heap.size + 1) nr nc (.slice (some ⟨gc, 0, none⟩) n n) := by
    have ne : ∀ {j k : Nat}, (⟨w.heap.size + 2, j, none⟩ : Addr) ≠ ⟨w.heap.size + 1, k, none⟩ := fun e => by injection e with e; omega
    rw [← hx7]
    refine ⟨?_, ?_, ?_⟩
    · rw [World.cell?_setCell_other _ _ _ _ ne, World.cell?_setCell_other _ _ _ _ ne, World.cell?_setCell_other _ _ _ _ ne]; exact ua.c0
    · rw [World.cell?_setCell_other _ _ _ _ ne, World.cell?_setCell_other _ _ _ _ ne, World.cell?_setCell_other _ _ _ _ ne]; exact ua.c1
    · rw [World.cell?_setCell_other _ _ _ _ ne, World.cell?_setCell_other _ _ _ _ ne, World.cell?_setCell_other _ _ _ _ ne]; exact ua.c2
  obtain ⟨c1, c2, c3⟩ := put3_keep (w := w) (by omega) (by omega) hn1 hx7 a1 a3
  obtain ⟨d1, d2, _⟩ := put3_keep (w := w) (by omega) (by omega) hnp1 hx7 b1 a3
  have HEND : Hid (VR x7 gc n (fun j => .int .u32 ((rdF pa pb S j : Nat) : Int)) ∧ VR x7 gl np (fun j => .int .u32 ((lkF pa pb S j : Nat) : Int)) ∧ gc ≠ gl ∧ w.heap.size ≤ gc ∧ gc < x7.heap.size ∧ w.heap.size ≤ gl ∧ gl < x7.heap.size ∧ Qb w x7) := ⟨c1, d1, by omega, by omega, c2, by omega, d2, c3⟩
  have HU : Hid (PBx x7 (w.heap.size + 1) nr nc (.slice (some ⟨gc, 0, none⟩) n n) ∧ PBx x7 (w.heap.size + 2) pa pb (.slice (some ⟨gl, 0, none⟩) np np)) := ⟨ua7, ub⟩
  have hk6 : KeptIn (fun b => b < w5.heap.size ∧ b ≠ gl ∧ b ≠ w.heap.size + 1) w5 x6 := by
    have hn : ∀ b, b < w5.heap.size ∧ b ≠ gl ∧ b ≠ w.heap.size + 1 → True := fun _ _ => trivial
    rw [← hx6]
    exact (((hk12.mono (fun b hb => ⟨hb.1, hb.2.1⟩)).trans (keptP_set _ _ _ _ (fun h => h.2.2 rfl))).trans (keptP_set _ _ _ _ (fun h => h.2.2 rfl))).trans (keptP_set _ _ _ _ (fun h => h.2.2 rfl))
  refine tree_skip 5 rfl rfl (x' := x6) (by simp [execOp, go_sem, Act.eval, Act.put, r0, r1, r2, g0', g1', g2', hx6]) hk6 ?_
  refine tree_skipF 6 rfl rfl rfl (x' := x7) (by simp [execOp, go_sem, Act.eval, Act.put, e0, e1, e2, k0, k1, k2, hx7]) ?_
  refine tree_runF 7 rfl rfl rfl (v := .int .i64 0) (x' := x7) (by simp [execOp, go_sem]) ?_
  refine tree_nil ?_
  clear e0 e1 e2 k0 k1 k2 r0 r1 r2 g0' g1' g2' hx6 hx7 c1 c2 c3 d1 d2 a1 a2 a3 b1 b2 ua ub ua7 zb6 za zb hzk hk12 hk6 v2 l2 m2 vl s2 hlt5 q11 qd f0 f1 f2 f3 f4 f5 n0 hH hq
  have u0 := HU.out.1.c0
  have u1 := HU.out.1.c1
  have u2 := HU.out.1.c2
  have u3 := HU.out.2.c0
  have u4 := HU.out.2.c1
  have u5 := HU.out.2.c2
  go_wp2_with fail
  exact bodyPost_ret (v := .tuple #[.agg #[.int .i64 (nr : Int), .int .i64 (nc : Int), .slice (some ⟨gc, 0, none⟩) n n], .agg #[.int .i64 (pa : Int), .int .i64 (pb : Int), .slice (some ⟨gl, 0, none⟩) np np], .int .i64 0]) (by simp [results, Try.results15, go_sem, u0, u1, u2, u3, u4, u5]) rfl ⟨gc, gl, rfl, HEND.out⟩
end Go.Proofs.Ytgaolakfgjmeiab

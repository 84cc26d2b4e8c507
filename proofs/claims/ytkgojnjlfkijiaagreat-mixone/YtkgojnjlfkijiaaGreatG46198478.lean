/- mix: Mix, Between, Multiply, Divide, Fade of pictures that fit. (gen_mxh.py) -/
import Derived.Test.YtkgojnjlfkijiaaGreatG7193579c
import Derived.Test.YtkgojnjlfkijiaaGreatG4cc1f849
namespace Go.Proofs.YtkgojnjlfkijiaaGreat
open Go.RowKit
set_option linter.unusedVariables false
set_option linter.unusedSimpArgs false

def quoV (s a : Nat) : Nat := if (Ieee.single.order a 0 == some Ordering.eq) = true then 0 else toldD ((Ieee.single.read s).quotient 25 (Ieee.single.read a))
theorem quoV_lt (s a : Nat) : quoV s a < 4294967296 := by
  unfold quoV
  split
  · decide
  · exact toldD_lt _
set_option maxHeartbeats 1000000 in
theorem quotient_any (s a : Nat) (hs : s < 4294967296) (ha : a < 4294967296) (w : World) : Calls Tryz.prog 54 #[.int .u32 (s : Int), .int .u32 (a : Int)] w fun e w' => e = .returned (.int .u32 (quoV s a : Nat)) ∧ Q w w' := by
  have HS : Hid (s < 4294967296 ∧ a < 4294967296) := ⟨hs, ha⟩
  clear hs ha
  have C0 : ∀ x : World, Calls Tryz.prog 78 #[.int .u32 (a : Int), .int .u32 0] x fun e w' => e = .returned (.bool (Ieee.single.order a 0 == some Ordering.eq)) ∧ w' = x := fun x => cequal_any a 0 x
  obtain ⟨bq, hb⟩ : ∃ b, (Ieee.single.order a 0 == some Ordering.eq) = b := ⟨_, rfl⟩
  have HR : Hid (quoV s a = if bq = true then 0 else toldD ((Ieee.single.read s).quotient 25 (Ieee.single.read a))) := by show _ = _; unfold quoV; rw [hb]
  rw [hb] at C0
  have HC : Hid (∀ x : World, Calls Tryz.prog 78 #[.int .u32 (a : Int), .int .u32 0] x fun e w' => e = .returned (.bool bq) ∧ w' = x) := C0
  obtain ⟨R, hR⟩ : ∃ R, quoV s a = R := ⟨_, rfl⟩
  rw [hR] at HR ⊢
  clear C0 hb hR
  cases bq
  · have HR2 : Hid (R = toldD ((Ieee.single.read s).quotient 25 (Ieee.single.read a))) := by have := HR.out; rw [if_neg (by decide)] at this; exact this
    go_enter Tryz.func54, Tryz.ntmps54
    go_wp2_with fail
    refine (HC.out _).mono ?_
    rintro e w1 ⟨rfl, rfl⟩
    go_wp2_with fail
    refine (cdiv_any s a HS.out.1 HS.out.2 _).mono ?_
    rintro e w2 ⟨rfl, q2⟩
    go_wp2_with fail
    go_ret
    exact ⟨ret_u HR2.out.symm, q2⟩
  · have HR2 : Hid (R = 0) := by have := HR.out; rw [if_pos rfl] at this; exact this
    go_enter Tryz.func54, Tryz.ntmps54
    go_wp2_with fail
    refine (HC.out _).mono ?_
    rintro e w1 ⟨rfl, rfl⟩
    go_wp2_with fail
    go_ret
    exact ⟨ret_u HR2.out.symm, Q.refl _⟩
theorem quo_fun : Fun2m 54 quoV where
  en := enters_of Tryz.func54 (by kernel_rfl) rfl
  lt := fun s t _ _ => quoV_lt s t
  c := fun s t hs ht x => quotient_any s t hs ht x
theorem unl_same (sp : Int) (n a b : Nat) : unlE sp sp n n a a b b = 0 := by unfold unlE; rw [if_pos rfl, if_pos rfl, if_pos rfl, if_pos rfl]
theorem dec4 : decide (3 < 4) = true := rfl
def mixP (k : Nat) (l l' : List (List Nat)) (p j : Nat) : Nat := mxV k (pix l p j) (pix l 3 j) (pix l' p j) (pix l' 3 j)
def btwP (t : Nat) (l l' : List (List Nat)) (p j : Nat) : Nat := mstV (pix l p j) (pix l' p j) t
set_option maxHeartbeats 4000000 in
set_option maxRecDepth 100000 in
theorem mix_good (k : Nat) (h1 : 1 ≤ k) (h6 : k ≤ 6) (w : World) (sp : Int) (g o a b cap g' o' cap' m : Nat) (L L' : List PL) (h : Pc w g o a b L) (hn : L.length = 4) (hcap : 4 ≤ cap) (h' : Pc w g' o' a b L') (hn' : L'.length = 4) (hcap' : 4 ≤ cap') (hsp : spcB sp 4 = true) (hm : a * b = m) :
    Calls Tryz.prog 14 #[.int .i64 (k : Int), .agg #[.int .i64 sp, .slice (some ⟨g, o, none⟩) 4 cap], .agg #[.int .i64 sp, .slice (some ⟨g', o', none⟩) 4 cap']] w fun e w' => ∃ g' cap' M, e = .returned (.tuple #[.agg #[.int .i64 sp, .slice (some ⟨g', 0, none⟩) 4 cap'], .int .i64 0]) ∧ M.map PL.S = fl (mixP k (L.map PL.S) (L'.map PL.S)) 4 m ∧ Hid (Nw w.heap.size w' g' cap' a b M) ∧ Q w w' := by
  have HB : Hid (∀ x, Q w x → Calls Tryz.prog 42 #[.agg #[.int .i64 sp, .slice (some ⟨g, o, none⟩) 4 cap], .agg #[.int .i64 sp, .slice (some ⟨g', o', none⟩) 4 cap']] x fun e w' => e = .returned (.int .i64 0) ∧ Q x w') := fun x hx => mboth_good (h.next hx) hn hcap (h'.next hx) hn' hcap' hsp hsp
  have HA : Hid (∀ x, Calls Tryz.prog 43 #[.agg #[.int .i64 sp, .slice (some ⟨g, o, none⟩) 4 cap]] x fun e w' => e = .returned (.bool true) ∧ Q x w') := fun x => hasalpha_any sp _ 4 cap x
  have HA2 : Hid (∀ x, Calls Tryz.prog 43 #[.agg #[.int .i64 sp, .slice (some ⟨g', o', none⟩) 4 cap']] x fun e w' => e = .returned (.bool true) ∧ Q x w') := fun x => hasalpha_any sp _ 4 cap' x
  have HU : Hid (∀ x, Q w x → Calls Tryz.prog 44 #[.agg #[.int .i64 sp, .slice (some ⟨g, o, none⟩) 4 cap], .agg #[.int .i64 sp, .slice (some ⟨g', o', none⟩) 4 cap']] x fun e w' => e = .returned (.int .i64 0) ∧ Q x w') := fun x hx => by have := unlike_good (cap := cap) (cap' := cap') (h.next hx) hn (h'.next hx) hn' sp sp; rw [unl_same] at this; exact this
  have HW : Hid (∀ x, Calls Tryz.prog 27 #[.int .i64 (k : Int)] x fun e w' => e = .returned (.tuple #[.agg #[.int .i64 (k : Int), .func (.func (wayFn k)) #[] #[]], .int .i64 0]) ∧ Q x w') := fun x => by
    have := wayof_any (k : Int) x
    unfold wayR at this
    rw [if_pos (by omega)] at this
    exact this
  have HD : Hid (∀ (x y : World) (W P1 P2 : Nat), Q w x → Q x y → x.cell? ⟨W, 0, none⟩ = some (.int .i64 (k : Int)) → x.cell? ⟨W, 1, none⟩ = some (.func (.func (wayFn k)) #[] #[]) → x.cell? ⟨P1, 1, none⟩ = some (.slice (some ⟨g, o, none⟩) 4 cap) → x.cell? ⟨P2, 1, none⟩ = some (.slice (some ⟨g', o', none⟩) 4 cap') →
      Calls Tryz.prog 45 #[.agg #[.int .i64 sp, .slice (some ⟨g, o, none⟩) 4 cap], .func (.func 46) #[] #[.pointer (some ⟨W, 0, none⟩), .pointer (some ⟨P1, 0, none⟩), .pointer (some ⟨P2, 0, none⟩)]] x fun e w' => ∃ g' cap' M, e = .returned (.agg #[.int .i64 sp, .slice (some ⟨g', 0, none⟩) 4 cap']) ∧ M.map PL.S = fl (mixP k (L.map PL.S) (L'.map PL.S)) 4 m ∧ Hid (Nw x.heap.size w' g' cap' a b M) ∧ Q x w') := fun x _ W P1 P2 hx _ c0 c1 c2 c3 =>
    drawn_good x sp g o cap a b 4 m L (h.next hx) hn hcap hsp hm 46 _ (mixP k (L.map PL.S) (L'.map PL.S)) (fun p j _ _ => mxV_lt _ _ _ _ _) (enters_of Tryz.func46 (by kernel_rfl) rfl) (fun y p j hy hp hj => mix1_any k h1 h6 c0 c1 c2 c3 (h.next hx) hn (h'.next hx) hn' hm y p j hy hp hj)
  clear h hn hcap h' hn' hcap' hsp hm h1 h6
  generalize wayFn k = wf at *
  generalize fl (mixP k (L.map PL.S) (L'.map PL.S)) 4 m = RES at *
  obtain ⟨w1, hw1⟩ : ∃ w1, ((w.alloc (.cells #[.int .i64 sp, .slice (some ⟨g, o, none⟩) 4 cap] 33)).alloc (.cells #[.int .i64 sp, .slice (some ⟨g', o', none⟩) 4 cap'] 33)).alloc (.cells #[.int .i64 0, .slice none 0 0] 33) = w1 := ⟨_, rfl⟩
  have H1 : Hid (Q w w1) := by show Q w w1; rw [← hw1]; exact (((Q.refl w).cells _ _).cells _ _).cells _ _
  have p0 : w1.cell? ⟨w.heap.size, 0, none⟩ = some (.int .i64 sp) := by rw [← hw1]; simp [go_sem]
  have p1 : w1.cell? ⟨w.heap.size, 1, none⟩ = some (.slice (some ⟨g, o, none⟩) 4 cap) := by rw [← hw1]; simp [go_sem]
  have q0 : w1.cell? ⟨w.heap.size + 1, 0, none⟩ = some (.int .i64 sp) := by rw [← hw1]; simp [go_sem]
  have q1 : w1.cell? ⟨w.heap.size + 1, 1, none⟩ = some (.slice (some ⟨g', o', none⟩) 4 cap') := by rw [← hw1]; simp [go_sem]
  have r0 : w1.cell? ⟨w.heap.size + 1 + 1, 0, none⟩ = some (.int .i64 0) := by rw [← hw1]; simp [go_sem]
  have r1 : w1.cell? ⟨w.heap.size + 1 + 1, 1, none⟩ = some (.slice none 0 0) := by rw [← hw1]; simp [go_sem]
  have rf : ∀ j, w1.frozen? ⟨w.heap.size + 1 + 1, j, none⟩ = false := fun j => by rw [← hw1]; simp [go_sem]
  have en := enters_of Tryz.func45 (by kernel_rfl) rfl
  go_enter Tryz.func14, Tryz.ntmps14
  go_wp2_with fail
  refine (HB.out _ H1.out).mono ?_
  rintro e w2 ⟨rfl, k2⟩
  have HQ : Hid (Q w w2) := H1.out.trans k2
  have p0 := k2.cell p0
  have p1 := k2.cell p1
  have q0 := k2.cell q0
  have q1 := k2.cell q1
  have r0 := k2.cell r0
  have r1 := k2.cell r1
  have rf : ∀ j, w2.frozen? ⟨w.heap.size + 1 + 1, j, none⟩ = false := fun j => (k2.2 _).trans (rf j)
  clear k2
  go_wp2_with fail
  refine (HW.out _).mono ?_
  rintro e w3 ⟨rfl, k3⟩
  have HQ : Hid (Q w w3) := HQ.out.trans k3
  have p0 := k3.cell p0
  have p1 := k3.cell p1
  have q0 := k3.cell q0
  have q1 := k3.cell q1
  have r0 := k3.cell r0
  have r1 := k3.cell r1
  have rf : ∀ j, w3.frozen? ⟨w.heap.size + 1 + 1, j, none⟩ = false := fun j => (k3.2 _).trans (rf j)
  clear k3
  have p0a := fun c t => ((Q.refl w3).cells c t).cell p0
  have p1a := fun c t => ((Q.refl w3).cells c t).cell p1
  have q0a := fun c t => ((Q.refl w3).cells c t).cell q0
  have q1a := fun c t => ((Q.refl w3).cells c t).cell q1
  have r0a := fun c t => ((Q.refl w3).cells c t).cell r0
  have r1a := fun c t => ((Q.refl w3).cells c t).cell r1
  go_wp2_with fail
  obtain ⟨w4, hw4⟩ : ∃ w4, w3.alloc (.cells #[.int .i64 (k : Int), .func (.func wf) #[] #[]] 57) = w4 := ⟨_, rfl⟩
  have k4 : Q w3 w4 := by rw [← hw4]; exact (Q.refl w3).cells _ _
  have HQ : Hid (Q w w4) := HQ.out.trans k4
  have p0 := k4.cell p0
  have p1 := k4.cell p1
  have q0 := k4.cell q0
  have q1 := k4.cell q1
  have r0 := k4.cell r0
  have r1 := k4.cell r1
  have y0 : w4.cell? ⟨w3.heap.size, 0, none⟩ = some (.int .i64 (k : Int)) := by rw [← hw4]; simp [go_sem]
  have y1 : w4.cell? ⟨w3.heap.size, 1, none⟩ = some (.func (.func wf) #[] #[]) := by rw [← hw4]; simp [go_sem]
  have rf : ∀ j, w4.frozen? ⟨w.heap.size + 1 + 1, j, none⟩ = false := fun j => (k4.2 _).trans (rf j)
  rw [hw4]
  clear k4 p0a p1a q0a q1a r0a r1a hw4
  refine (HA.out _).mono ?_
  rintro e w5 ⟨rfl, k5⟩
  have HQ : Hid (Q w w5) := HQ.out.trans k5
  have p0 := k5.cell p0
  have p1 := k5.cell p1
  have q0 := k5.cell q0
  have q1 := k5.cell q1
  have r0 := k5.cell r0
  have r1 := k5.cell r1
  have y0 := k5.cell y0
  have y1 := k5.cell y1
  have rf : ∀ j, w5.frozen? ⟨w.heap.size + 1 + 1, j, none⟩ = false := fun j => (k5.2 _).trans (rf j)
  clear k5
  go_wp2_with fail
  refine (HA2.out _).mono ?_
  rintro e w6 ⟨rfl, k6⟩
  have HQ : Hid (Q w w6) := HQ.out.trans k6
  have p0 := k6.cell p0
  have p1 := k6.cell p1
  have q0 := k6.cell q0
  have q1 := k6.cell q1
  have r0 := k6.cell r0
  have r1 := k6.cell r1
  have y0 := k6.cell y0
  have y1 := k6.cell y1
  have rf : ∀ j, w6.frozen? ⟨w.heap.size + 1 + 1, j, none⟩ = false := fun j => (k6.2 _).trans (rf j)
  clear k6
  go_wp2_with fail
  refine (HU.out _ HQ.out).mono ?_
  rintro e w7 ⟨rfl, k7⟩
  have HQ : Hid (Q w w7) := HQ.out.trans k7
  have p0 := k7.cell p0
  have p1 := k7.cell p1
  have q0 := k7.cell q0
  have q1 := k7.cell q1
  have r0 := k7.cell r0
  have r1 := k7.cell r1
  have y0 := k7.cell y0
  have y1 := k7.cell y1
  have rf : ∀ j, w7.frozen? ⟨w.heap.size + 1 + 1, j, none⟩ = false := fun j => (k7.2 _).trans (rf j)
  clear k7
  go_wp2_with fail
  have hlt := cell_in r0
  refine (HD.out _ _ _ _ _ HQ.out (Q.refl _) y0 y1 p1 q1).mono ?_
  rintro e w9 ⟨g9, cap9, M9, rfl, hM9, hW9, q9⟩
  have HM : Hid (M9.map PL.S = _) := hM9
  have r0 := q9.cell r0
  have r1 := q9.cell r1
  have rf : ∀ j, w9.frozen? ⟨w.heap.size + 1 + 1, j, none⟩ = false := fun j => (q9.2 _).trans (rf j)
  have HQ9 : Hid (Q w w9) := HQ.out.trans q9
  clear hM9 q9
  go_wp2_with fail
  have F9 : Fr w9 ((w9.setCell ⟨w.heap.size + 1 + 1, 0, none⟩ (.int .i64 sp)).setCell ⟨w.heap.size + 1 + 1, 1, none⟩ (.slice (some ⟨g9, 0, none⟩) 4 cap9)) (fun b => b ≠ w.heap.size + 1 + 1) := ((Fr.refl w9 _).set (fun h => h rfl) _).set (fun h => h rfl) _
  refine bodyPost_ret (v := .tuple #[.agg #[.int .i64 sp, .slice (some ⟨g9, 0, none⟩) 4 cap9], .int .i64 0]) (by simp [results, Tryz.results14, go_sem, r0, r1]) rfl ⟨g9, cap9, M9, rfl, HM.out, (hW9.out.keep F9 (by have := hW9.out.low; omega) (fun x hx => by have := (hW9.out.it x hx).1.low; omega)).mono (by omega), (HQ9.out.set (by show w.heap.size ≤ w.heap.size + 1 + 1; omega) _).set (by show w.heap.size ≤ w.heap.size + 1 + 1; omega) _⟩
set_option maxHeartbeats 4000000 in
set_option maxRecDepth 100000 in
theorem btw_good (t : Nat) (ht : t < 4294967296) (w : World) (sp : Int) (g o a b cap g' o' cap' m n : Nat) (L L' : List PL) (h : Pc w g o a b L) (hn : L.length = n) (hcap : n ≤ cap) (h' : Pc w g' o' a b L') (hn' : L'.length = n) (hcap' : n ≤ cap') (hsp : spcB sp n = true) (hm : a * b = m) :
    Calls Tryz.prog 18 #[.agg #[.int .i64 sp, .slice (some ⟨g, o, none⟩) n cap], .agg #[.int .i64 sp, .slice (some ⟨g', o', none⟩) n cap'], .int .u32 (t : Int)] w fun e w' => ∃ g' cap' M, e = .returned (.tuple #[.agg #[.int .i64 sp, .slice (some ⟨g', 0, none⟩) n cap'], .int .i64 0]) ∧ M.map PL.S = fl (btwP t (L.map PL.S) (L'.map PL.S)) n m ∧ Hid (Nw w.heap.size w' g' cap' a b M) ∧ Q w w' := by
  have HB : Hid (∀ x, Q w x → Calls Tryz.prog 42 #[.agg #[.int .i64 sp, .slice (some ⟨g, o, none⟩) n cap], .agg #[.int .i64 sp, .slice (some ⟨g', o', none⟩) n cap']] x fun e w' => e = .returned (.int .i64 0) ∧ Q x w') := fun x hx => mboth_good (h.next hx) hn hcap (h'.next hx) hn' hcap' hsp hsp
  have HU : Hid (∀ x, Q w x → Calls Tryz.prog 44 #[.agg #[.int .i64 sp, .slice (some ⟨g, o, none⟩) n cap], .agg #[.int .i64 sp, .slice (some ⟨g', o', none⟩) n cap']] x fun e w' => e = .returned (.int .i64 0) ∧ Q x w') := fun x hx => by have := unlike_good (cap := cap) (cap' := cap') (h.next hx) hn (h'.next hx) hn' sp sp; rw [unl_same] at this; exact this
  have HD : Hid (∀ (x y : World) (W P1 P2 : Nat), Q w x → Q x y → x.cell? ⟨W, 0, none⟩ = some (.int .u32 (t : Int)) → x.cell? ⟨P1, 1, none⟩ = some (.slice (some ⟨g, o, none⟩) n cap) → x.cell? ⟨P2, 1, none⟩ = some (.slice (some ⟨g', o', none⟩) n cap') →
      Calls Tryz.prog 45 #[.agg #[.int .i64 sp, .slice (some ⟨g, o, none⟩) n cap], .func (.func 52) #[] #[.pointer (some ⟨P1, 0, none⟩), .pointer (some ⟨P2, 0, none⟩), .pointer (some ⟨W, 0, none⟩)]] x fun e w' => ∃ g' cap' M, e = .returned (.agg #[.int .i64 sp, .slice (some ⟨g', 0, none⟩) n cap']) ∧ M.map PL.S = fl (btwP t (L.map PL.S) (L'.map PL.S)) n m ∧ Hid (Nw x.heap.size w' g' cap' a b M) ∧ Q x w') := fun x _ W P1 P2 hx _ c0 c2 c3 =>
    drawn_good x sp g o cap a b n m L (h.next hx) hn hcap hsp hm 52 _ (btwP t (L.map PL.S) (L'.map PL.S)) (fun p j _ _ => mstV_lt _ _ _) (enters_of Tryz.func52 (by kernel_rfl) rfl) (fun y p j hy hp hj => between1_any t ht c0 c2 c3 (h.next hx) hn (h'.next hx) hn' hm y p j hy hp hj)
  clear h hn hcap h' hn' hcap' hsp hm ht
  generalize fl (btwP t (L.map PL.S) (L'.map PL.S)) n m = RES at *
  obtain ⟨w1, hw1⟩ : ∃ w1, (((w.alloc (.cells #[.int .i64 sp, .slice (some ⟨g, o, none⟩) n cap] 33)).alloc (.cells #[.int .i64 sp, .slice (some ⟨g', o', none⟩) n cap'] 33)).alloc (.cells #[.int .u32 (t : Int)] 22)).alloc (.cells #[.int .i64 0, .slice none 0 0] 33) = w1 := ⟨_, rfl⟩
  have H1 : Hid (Q w w1) := by show Q w w1; rw [← hw1]; exact ((((Q.refl w).cells _ _).cells _ _).cells _ _).cells _ _
  have p0 : w1.cell? ⟨w.heap.size, 0, none⟩ = some (.int .i64 sp) := by rw [← hw1]; simp [go_sem]
  have p1 : w1.cell? ⟨w.heap.size, 1, none⟩ = some (.slice (some ⟨g, o, none⟩) n cap) := by rw [← hw1]; simp [go_sem]
  have q0 : w1.cell? ⟨w.heap.size + 1, 0, none⟩ = some (.int .i64 sp) := by rw [← hw1]; simp [go_sem]
  have q1 : w1.cell? ⟨w.heap.size + 1, 1, none⟩ = some (.slice (some ⟨g', o', none⟩) n cap') := by rw [← hw1]; simp [go_sem]
  have y0 : w1.cell? ⟨w.heap.size + 1 + 1, 0, none⟩ = some (.int .u32 (t : Int)) := by rw [← hw1]; simp [go_sem]
  have r0 : w1.cell? ⟨w.heap.size + 1 + 1 + 1, 0, none⟩ = some (.int .i64 0) := by rw [← hw1]; simp [go_sem]
  have r1 : w1.cell? ⟨w.heap.size + 1 + 1 + 1, 1, none⟩ = some (.slice none 0 0) := by rw [← hw1]; simp [go_sem]
  have rf : ∀ j, w1.frozen? ⟨w.heap.size + 1 + 1 + 1, j, none⟩ = false := fun j => by rw [← hw1]; simp [go_sem]
  have en := enters_of Tryz.func45 (by kernel_rfl) rfl
  go_enter Tryz.func18, Tryz.ntmps18
  go_wp2_with fail
  refine (HB.out _ H1.out).mono ?_
  rintro e w2 ⟨rfl, k2⟩
  have HQ : Hid (Q w w2) := H1.out.trans k2
  have p0 := k2.cell p0
  have p1 := k2.cell p1
  have q0 := k2.cell q0
  have q1 := k2.cell q1
  have r0 := k2.cell r0
  have r1 := k2.cell r1
  have y0 := k2.cell y0
  have rf : ∀ j, w2.frozen? ⟨w.heap.size + 1 + 1 + 1, j, none⟩ = false := fun j => (k2.2 _).trans (rf j)
  clear k2
  go_wp2_with fail
  refine (HU.out _ HQ.out).mono ?_
  rintro e w3 ⟨rfl, k3⟩
  have HQ : Hid (Q w w3) := HQ.out.trans k3
  have p0 := k3.cell p0
  have p1 := k3.cell p1
  have q0 := k3.cell q0
  have q1 := k3.cell q1
  have r0 := k3.cell r0
  have r1 := k3.cell r1
  have y0 := k3.cell y0
  have rf : ∀ j, w3.frozen? ⟨w.heap.size + 1 + 1 + 1, j, none⟩ = false := fun j => (k3.2 _).trans (rf j)
  clear k3
  go_wp2_with fail
  have hlt := cell_in r0
  refine (HD.out _ _ _ _ _ HQ.out (Q.refl _) y0 p1 q1).mono ?_
  rintro e w9 ⟨g9, cap9, M9, rfl, hM9, hW9, q9⟩
  have HM : Hid (M9.map PL.S = _) := hM9
  have r0 := q9.cell r0
  have r1 := q9.cell r1
  have rf : ∀ j, w9.frozen? ⟨w.heap.size + 1 + 1 + 1, j, none⟩ = false := fun j => (q9.2 _).trans (rf j)
  have HQ9 : Hid (Q w w9) := HQ.out.trans q9
  clear hM9 q9
  go_wp2_with fail
  have F9 : Fr w9 ((w9.setCell ⟨w.heap.size + 1 + 1 + 1, 0, none⟩ (.int .i64 sp)).setCell ⟨w.heap.size + 1 + 1 + 1, 1, none⟩ (.slice (some ⟨g9, 0, none⟩) n cap9)) (fun b => b ≠ w.heap.size + 1 + 1 + 1) := ((Fr.refl w9 _).set (fun h => h rfl) _).set (fun h => h rfl) _
  refine bodyPost_ret (v := .tuple #[.agg #[.int .i64 sp, .slice (some ⟨g9, 0, none⟩) n cap9], .int .i64 0]) (by simp [results, Tryz.results18, go_sem, r0, r1]) rfl ⟨g9, cap9, M9, rfl, HM.out, (hW9.out.keep F9 (by have := hW9.out.low; omega) (fun x hx => by have := (hW9.out.it x hx).1.low; omega)).mono (by omega), (HQ9.out.set (by show w.heap.size ≤ w.heap.size + 1 + 1 + 1; omega) _).set (by show w.heap.size ≤ w.heap.size + 1 + 1 + 1; omega) _⟩
set_option maxHeartbeats 4000000 in
set_option maxRecDepth 100000 in
theorem bya_good {f : FuncId} {G : Nat → Nat → Nat} (hF : Fun2m f G) (w : World) (sp : Int) (g o a b cap m : Nat) (L : List PL) (h : Pc w g o a b L) (hn : L.length = 4) (hcap : 4 ≤ cap) (hsp : spcB sp 4 = true) (hm : a * b = m) :
    Calls Tryz.prog 53 #[.agg #[.int .i64 sp, .slice (some ⟨g, o, none⟩) 4 cap], .func (.func f) #[] #[]] w fun e w' => ∃ g' cap' M, e = .returned (.tuple #[.agg #[.int .i64 sp, .slice (some ⟨g', 0, none⟩) 4 cap'], .int .i64 0]) ∧ M.map PL.S = fl (byaV G (L.map PL.S)) 4 m ∧ Hid (Nw w.heap.size w' g' cap' a b M) ∧ Q w w' := by
  have HB : Hid (∀ x, Q w x → Calls Tryz.prog 71 #[.agg #[.int .i64 sp, .slice (some ⟨g, o, none⟩) 4 cap]] x fun e w' => e = .returned (.int .i64 0) ∧ Q x w') := fun x hx => pcheck_good (h.next hx) hn hcap hsp
  have HA : Hid (∀ x, Calls Tryz.prog 43 #[.agg #[.int .i64 sp, .slice (some ⟨g, o, none⟩) 4 cap]] x fun e w' => e = .returned (.bool true) ∧ Q x w') := fun x => hasalpha_any sp _ 4 cap x
  have hlt2 : ∀ p j, byaV G (L.map PL.S) p j < 4294967296 := fun p j => by
    unfold byaV
    split
    · exact pix_lt h _ _
    · exact hF.lt _ _ (pix_lt h _ _) (pix_lt h _ _)
  have HD : Hid (∀ (x y : World) (W P1 : Nat), Q w x → Q x y → x.cell? ⟨W, 0, none⟩ = some (.func (.func f) #[] #[]) → x.cell? ⟨P1, 1, none⟩ = some (.slice (some ⟨g, o, none⟩) 4 cap) →
      Calls Tryz.prog 45 #[.agg #[.int .i64 sp, .slice (some ⟨g, o, none⟩) 4 cap], .func (.func 77) #[] #[.pointer (some ⟨P1, 0, none⟩), .pointer (some ⟨W, 0, none⟩)]] x fun e w' => ∃ g' cap' M, e = .returned (.agg #[.int .i64 sp, .slice (some ⟨g', 0, none⟩) 4 cap']) ∧ M.map PL.S = fl (byaV G (L.map PL.S)) 4 m ∧ Hid (Nw x.heap.size w' g' cap' a b M) ∧ Q x w') := fun x _ W P1 hx _ c0 c2 =>
    drawn_good x sp g o cap a b 4 m L (h.next hx) hn hcap hsp hm 77 _ (byaV G (L.map PL.S)) (fun p j _ _ => hlt2 p j) (enters_of Tryz.func77 (by kernel_rfl) rfl) (fun y p j hy hp hj => byalpha1_any hF c0 c2 (h.next hx) hn hm y p j hy hp hj)
  clear h hn hcap hsp hm hF hlt2
  generalize fl (byaV G (L.map PL.S)) 4 m = RES at *
  obtain ⟨w1, hw1⟩ : ∃ w1, ((w.alloc (.cells #[.int .i64 sp, .slice (some ⟨g, o, none⟩) 4 cap] 33)).alloc (.cells #[.func (.func f) #[] #[]] 81)).alloc (.cells #[.int .i64 0, .slice none 0 0] 33) = w1 := ⟨_, rfl⟩
  have H1 : Hid (Q w w1) := by show Q w w1; rw [← hw1]; exact (((Q.refl w).cells _ _).cells _ _).cells _ _
  have p0 : w1.cell? ⟨w.heap.size, 0, none⟩ = some (.int .i64 sp) := by rw [← hw1]; simp [go_sem]
  have p1 : w1.cell? ⟨w.heap.size, 1, none⟩ = some (.slice (some ⟨g, o, none⟩) 4 cap) := by rw [← hw1]; simp [go_sem]
  have y0 : w1.cell? ⟨w.heap.size + 1, 0, none⟩ = some (.func (.func f) #[] #[]) := by rw [← hw1]; simp [go_sem]
  have r0 : w1.cell? ⟨w.heap.size + 1 + 1, 0, none⟩ = some (.int .i64 0) := by rw [← hw1]; simp [go_sem]
  have r1 : w1.cell? ⟨w.heap.size + 1 + 1, 1, none⟩ = some (.slice none 0 0) := by rw [← hw1]; simp [go_sem]
  have rf : ∀ j, w1.frozen? ⟨w.heap.size + 1 + 1, j, none⟩ = false := fun j => by rw [← hw1]; simp [go_sem]
  have en := enters_of Tryz.func45 (by kernel_rfl) rfl
  go_enter Tryz.func53, Tryz.ntmps53
  go_wp2_with fail
  refine (HB.out _ H1.out).mono ?_
  rintro e w2 ⟨rfl, k2⟩
  have HQ : Hid (Q w w2) := H1.out.trans k2
  have p0 := k2.cell p0
  have p1 := k2.cell p1
  have r0 := k2.cell r0
  have r1 := k2.cell r1
  have y0 := k2.cell y0
  have rf : ∀ j, w2.frozen? ⟨w.heap.size + 1 + 1, j, none⟩ = false := fun j => (k2.2 _).trans (rf j)
  clear k2
  go_wp2_with fail
  refine (HA.out _).mono ?_
  rintro e w3 ⟨rfl, k3⟩
  have HQ : Hid (Q w w3) := HQ.out.trans k3
  have p0 := k3.cell p0
  have p1 := k3.cell p1
  have r0 := k3.cell r0
  have r1 := k3.cell r1
  have y0 := k3.cell y0
  have rf : ∀ j, w3.frozen? ⟨w.heap.size + 1 + 1, j, none⟩ = false := fun j => (k3.2 _).trans (rf j)
  clear k3
  go_wp2_with fail
  have hlt := cell_in r0
  refine (HD.out _ _ _ _ HQ.out (Q.refl _) y0 p1).mono ?_
  rintro e w9 ⟨g9, cap9, M9, rfl, hM9, hW9, q9⟩
  have HM : Hid (M9.map PL.S = _) := hM9
  have r0 := q9.cell r0
  have r1 := q9.cell r1
  have rf : ∀ j, w9.frozen? ⟨w.heap.size + 1 + 1, j, none⟩ = false := fun j => (q9.2 _).trans (rf j)
  have HQ9 : Hid (Q w w9) := HQ.out.trans q9
  clear hM9 q9
  go_wp2_with fail
  have F9 : Fr w9 ((w9.setCell ⟨w.heap.size + 1 + 1, 0, none⟩ (.int .i64 sp)).setCell ⟨w.heap.size + 1 + 1, 1, none⟩ (.slice (some ⟨g9, 0, none⟩) 4 cap9)) (fun b => b ≠ w.heap.size + 1 + 1) := ((Fr.refl w9 _).set (fun h => h rfl) _).set (fun h => h rfl) _
  refine bodyPost_ret (v := .tuple #[.agg #[.int .i64 sp, .slice (some ⟨g9, 0, none⟩) 4 cap9], .int .i64 0]) (by simp [results, Tryz.results53, go_sem, r0, r1]) rfl ⟨g9, cap9, M9, rfl, HM.out, (hW9.out.keep F9 (by have := hW9.out.low; omega) (fun x hx => by have := (hW9.out.it x hx).1.low; omega)).mono (by omega), (HQ9.out.set (by show w.heap.size ≤ w.heap.size + 1 + 1; omega) _).set (by show w.heap.size ≤ w.heap.size + 1 + 1; omega) _⟩
set_option maxHeartbeats 4000000 in
set_option maxRecDepth 100000 in
theorem multiply_good (w : World) (sp : Int) (g o a b cap m : Nat) (L : List PL) (h : Pc w g o a b L) (hn : L.length = 4) (hcap : 4 ≤ cap) (hsp : spcB sp 4 = true) (hm : a * b = m) :
    Calls Tryz.prog 19 #[.agg #[.int .i64 sp, .slice (some ⟨g, o, none⟩) 4 cap]] w fun e w' => ∃ g' cap' M, e = .returned (.tuple #[.agg #[.int .i64 sp, .slice (some ⟨g', 0, none⟩) 4 cap'], .int .i64 0]) ∧ M.map PL.S = fl (byaV (fun s t => toldD ((Ieee.single.read s).product (Ieee.single.read t))) (L.map PL.S)) 4 m ∧ Hid (Nw w.heap.size w' g' cap' a b M) ∧ Q w w' := by
  have HD : Hid (∀ x, Q w x → Calls Tryz.prog 53 #[.agg #[.int .i64 sp, .slice (some ⟨g, o, none⟩) 4 cap], .func (.func 51) #[] #[]] x fun e w' => ∃ g' cap' M, e = .returned (.tuple #[.agg #[.int .i64 sp, .slice (some ⟨g', 0, none⟩) 4 cap'], .int .i64 0]) ∧ M.map PL.S = fl (byaV (fun s t => toldD ((Ieee.single.read s).product (Ieee.single.read t))) (L.map PL.S)) 4 m ∧ Hid (Nw x.heap.size w' g' cap' a b M) ∧ Q x w') := fun x hx => bya_good mul_fun x sp g o a b cap m L (h.next hx) hn hcap hsp hm
  clear h hn hcap hsp hm
  generalize fl (byaV (fun s t => toldD ((Ieee.single.read s).product (Ieee.single.read t))) (L.map PL.S)) 4 m = RES at *
  obtain ⟨w1, hw1⟩ : ∃ w1, (w.alloc (.cells #[.int .i64 sp, .slice (some ⟨g, o, none⟩) 4 cap] 33)).alloc (.cells #[.int .i64 0, .slice none 0 0] 33) = w1 := ⟨_, rfl⟩
  have HQ : Hid (Q w w1) := by show Q w w1; rw [← hw1]; exact ((Q.refl w).cells _ _).cells _ _
  have p0 : w1.cell? ⟨w.heap.size, 0, none⟩ = some (.int .i64 sp) := by rw [← hw1]; simp [go_sem]
  have p1 : w1.cell? ⟨w.heap.size, 1, none⟩ = some (.slice (some ⟨g, o, none⟩) 4 cap) := by rw [← hw1]; simp [go_sem]
  have r0 : w1.cell? ⟨w.heap.size + 1, 0, none⟩ = some (.int .i64 0) := by rw [← hw1]; simp [go_sem]
  have r1 : w1.cell? ⟨w.heap.size + 1, 1, none⟩ = some (.slice none 0 0) := by rw [← hw1]; simp [go_sem]
  have rf : ∀ j, w1.frozen? ⟨w.heap.size + 1, j, none⟩ = false := fun j => by rw [← hw1]; simp [go_sem]
  have hlt := cell_in r0
  go_enter Tryz.func19, Tryz.ntmps19
  go_wp2_with fail
  refine (HD.out _ HQ.out).mono ?_
  rintro e w9 ⟨g9, cap9, M9, rfl, hM9, hW9, q9⟩
  have HM : Hid (M9.map PL.S = _) := hM9
  have r0 := q9.cell r0
  have r1 := q9.cell r1
  have rf : ∀ j, w9.frozen? ⟨w.heap.size + 1, j, none⟩ = false := fun j => (q9.2 _).trans (rf j)
  have HQ9 : Hid (Q w w9) := HQ.out.trans q9
  clear hM9 q9
  go_wp2_with fail
  have F9 : Fr w9 ((w9.setCell ⟨w.heap.size + 1, 0, none⟩ (.int .i64 sp)).setCell ⟨w.heap.size + 1, 1, none⟩ (.slice (some ⟨g9, 0, none⟩) 4 cap9)) (fun b => b ≠ w.heap.size + 1) := ((Fr.refl w9 _).set (fun h => h rfl) _).set (fun h => h rfl) _
  refine bodyPost_ret (v := .tuple #[.agg #[.int .i64 sp, .slice (some ⟨g9, 0, none⟩) 4 cap9], .int .i64 0]) (by simp [results, Tryz.results19, go_sem, r0, r1]) rfl ⟨g9, cap9, M9, rfl, HM.out, (hW9.out.keep F9 (by have := hW9.out.low; omega) (fun x hx => by have := (hW9.out.it x hx).1.low; omega)).mono (by omega), (HQ9.out.set (by show w.heap.size ≤ w.heap.size + 1; omega) _).set (by show w.heap.size ≤ w.heap.size + 1; omega) _⟩
set_option maxHeartbeats 4000000 in
set_option maxRecDepth 100000 in
theorem divide_good (w : World) (sp : Int) (g o a b cap m : Nat) (L : List PL) (h : Pc w g o a b L) (hn : L.length = 4) (hcap : 4 ≤ cap) (hsp : spcB sp 4 = true) (hm : a * b = m) :
    Calls Tryz.prog 20 #[.agg #[.int .i64 sp, .slice (some ⟨g, o, none⟩) 4 cap]] w fun e w' => ∃ g' cap' M, e = .returned (.tuple #[.agg #[.int .i64 sp, .slice (some ⟨g', 0, none⟩) 4 cap'], .int .i64 0]) ∧ M.map PL.S = fl (byaV quoV (L.map PL.S)) 4 m ∧ Hid (Nw w.heap.size w' g' cap' a b M) ∧ Q w w' := by
  have HD : Hid (∀ x, Q w x → Calls Tryz.prog 53 #[.agg #[.int .i64 sp, .slice (some ⟨g, o, none⟩) 4 cap], .func (.func 54) #[] #[]] x fun e w' => ∃ g' cap' M, e = .returned (.tuple #[.agg #[.int .i64 sp, .slice (some ⟨g', 0, none⟩) 4 cap'], .int .i64 0]) ∧ M.map PL.S = fl (byaV quoV (L.map PL.S)) 4 m ∧ Hid (Nw x.heap.size w' g' cap' a b M) ∧ Q x w') := fun x hx => bya_good quo_fun x sp g o a b cap m L (h.next hx) hn hcap hsp hm
  clear h hn hcap hsp hm
  generalize fl (byaV quoV (L.map PL.S)) 4 m = RES at *
  obtain ⟨w1, hw1⟩ : ∃ w1, (w.alloc (.cells #[.int .i64 sp, .slice (some ⟨g, o, none⟩) 4 cap] 33)).alloc (.cells #[.int .i64 0, .slice none 0 0] 33) = w1 := ⟨_, rfl⟩
  have HQ : Hid (Q w w1) := by show Q w w1; rw [← hw1]; exact ((Q.refl w).cells _ _).cells _ _
  have p0 : w1.cell? ⟨w.heap.size, 0, none⟩ = some (.int .i64 sp) := by rw [← hw1]; simp [go_sem]
  have p1 : w1.cell? ⟨w.heap.size, 1, none⟩ = some (.slice (some ⟨g, o, none⟩) 4 cap) := by rw [← hw1]; simp [go_sem]
  have r0 : w1.cell? ⟨w.heap.size + 1, 0, none⟩ = some (.int .i64 0) := by rw [← hw1]; simp [go_sem]
  have r1 : w1.cell? ⟨w.heap.size + 1, 1, none⟩ = some (.slice none 0 0) := by rw [← hw1]; simp [go_sem]
  have rf : ∀ j, w1.frozen? ⟨w.heap.size + 1, j, none⟩ = false := fun j => by rw [← hw1]; simp [go_sem]
  have hlt := cell_in r0
  go_enter Tryz.func20, Tryz.ntmps20
  go_wp2_with fail
  refine (HD.out _ HQ.out).mono ?_
  rintro e w9 ⟨g9, cap9, M9, rfl, hM9, hW9, q9⟩
  have HM : Hid (M9.map PL.S = _) := hM9
  have r0 := q9.cell r0
  have r1 := q9.cell r1
  have rf : ∀ j, w9.frozen? ⟨w.heap.size + 1, j, none⟩ = false := fun j => (q9.2 _).trans (rf j)
  have HQ9 : Hid (Q w w9) := HQ.out.trans q9
  clear hM9 q9
  go_wp2_with fail
  have F9 : Fr w9 ((w9.setCell ⟨w.heap.size + 1, 0, none⟩ (.int .i64 sp)).setCell ⟨w.heap.size + 1, 1, none⟩ (.slice (some ⟨g9, 0, none⟩) 4 cap9)) (fun b => b ≠ w.heap.size + 1) := ((Fr.refl w9 _).set (fun h => h rfl) _).set (fun h => h rfl) _
  refine bodyPost_ret (v := .tuple #[.agg #[.int .i64 sp, .slice (some ⟨g9, 0, none⟩) 4 cap9], .int .i64 0]) (by simp [results, Tryz.results20, go_sem, r0, r1]) rfl ⟨g9, cap9, M9, rfl, HM.out, (hW9.out.keep F9 (by have := hW9.out.low; omega) (fun x hx => by have := (hW9.out.it x hx).1.low; omega)).mono (by omega), (HQ9.out.set (by show w.heap.size ≤ w.heap.size + 1; omega) _).set (by show w.heap.size ≤ w.heap.size + 1; omega) _⟩
set_option maxHeartbeats 400000 in
theorem fade1_fun (t : Nat) (w : World) (W : Nat) (hw : w.cell? ⟨W, 0, none⟩ = some (.int .u32 (t : Int))) : FunC 50 (.pointer (some ⟨W, 0, none⟩)) (fun s => toldD ((Ieee.single.read s).product (Ieee.single.read t))) w where
  en := enters_of Tryz.func50 (by kernel_rfl) rfl
  lt := fun s _ => toldD_lt _
  c := fun s hs x hx => by
    have c0 := hx.cell hw
    clear hw hx hs
    go_enter Tryz.func50, Tryz.ntmps50
    go_wp2_with fail
    refine (cmul_any s t _).mono ?_
    rintro e w2 ⟨rfl, q2⟩
    go_wp2_with fail
    go_ret
    exact ⟨rfl, q2⟩
def fadV (t : Nat) (l : List (List Nat)) : List (List Nat) := chgL (fun s => toldD ((Ieee.single.read s).product (Ieee.single.read t))) (-1) 0 l
set_option maxHeartbeats 4000000 in
set_option maxRecDepth 100000 in
theorem map_good {f : FuncId} {cv : Value} {F : Nat → Nat} (w : World) (hF : FunC f cv F w) (sp : Int) (g o a b cap n : Nat) (L : List PL) (h : Pc w g o a b L) (hn : L.length = n) (hcap : n ≤ cap) (hsp : spcB sp n = true) :
    Calls Tryz.prog 49 #[.agg #[.int .i64 sp, .slice (some ⟨g, o, none⟩) n cap], .int .i64 (-1), .func (.func f) #[] #[cv]] w fun e w' => ∃ g' cap' M, e = .returned (.tuple #[.agg #[.int .i64 sp, .slice (some ⟨g', 0, none⟩) n cap'], .int .i64 0]) ∧ M.map PL.S = chgL F (-1) 0 (L.map PL.S) ∧ Hid (Nw w.heap.size w' g' cap' a b M) ∧ Q w w' := by
  have HD : Hid (∀ x, Q w x → Calls Tryz.prog 74 #[.agg #[.int .i64 (-1), .func (.func f) #[] #[cv]], .agg #[.int .i64 sp, .slice (some ⟨g, o, none⟩) n cap]] x fun e w' => ∃ g' cap' M, e = .returned (.tuple #[.agg #[.int .i64 sp, .slice (some ⟨g', 0, none⟩) n cap'], .int .i64 0]) ∧ M.map PL.S = chgL F (-1) 0 (L.map PL.S) ∧ Hid (Nw x.heap.size w' g' cap' a b M) ∧ Q x w') := fun x hx => changef_good f cv F x (hF.next hx) sp (-1) g o cap a b n L (h.next hx) hn hcap hsp (Or.inl rfl)
  clear h hn hcap hsp hF
  obtain ⟨w1, hw1⟩ : ∃ w1, (w.alloc (.cells #[.int .i64 sp, .slice (some ⟨g, o, none⟩) n cap] 33)).alloc (.cells #[.int .i64 0, .slice none 0 0] 33) = w1 := ⟨_, rfl⟩
  have HQ : Hid (Q w w1) := by show Q w w1; rw [← hw1]; exact ((Q.refl w).cells _ _).cells _ _
  have p0 : w1.cell? ⟨w.heap.size, 0, none⟩ = some (.int .i64 sp) := by rw [← hw1]; simp [go_sem]
  have p1 : w1.cell? ⟨w.heap.size, 1, none⟩ = some (.slice (some ⟨g, o, none⟩) n cap) := by rw [← hw1]; simp [go_sem]
  have r0 : w1.cell? ⟨w.heap.size + 1, 0, none⟩ = some (.int .i64 0) := by rw [← hw1]; simp [go_sem]
  have r1 : w1.cell? ⟨w.heap.size + 1, 1, none⟩ = some (.slice none 0 0) := by rw [← hw1]; simp [go_sem]
  have rf : ∀ j, w1.frozen? ⟨w.heap.size + 1, j, none⟩ = false := fun j => by rw [← hw1]; simp [go_sem]
  have hlt := cell_in r0
  go_enter Tryz.func49, Tryz.ntmps49
  go_wp2_with fail
  refine (HD.out _ HQ.out).mono ?_
  rintro e w9 ⟨g9, cap9, M9, rfl, hM9, hW9, q9⟩
  have HM : Hid (M9.map PL.S = _) := hM9
  have r0 := q9.cell r0
  have r1 := q9.cell r1
  have rf : ∀ j, w9.frozen? ⟨w.heap.size + 1, j, none⟩ = false := fun j => (q9.2 _).trans (rf j)
  have HQ9 : Hid (Q w w9) := HQ.out.trans q9
  clear hM9 q9
  go_wp2_with fail
  have F9 : Fr w9 ((w9.setCell ⟨w.heap.size + 1, 0, none⟩ (.int .i64 sp)).setCell ⟨w.heap.size + 1, 1, none⟩ (.slice (some ⟨g9, 0, none⟩) n cap9)) (fun b => b ≠ w.heap.size + 1) := ((Fr.refl w9 _).set (fun h => h rfl) _).set (fun h => h rfl) _
  refine bodyPost_ret (v := .tuple #[.agg #[.int .i64 sp, .slice (some ⟨g9, 0, none⟩) n cap9], .int .i64 0]) (by simp [results, Tryz.results49, go_sem, r0, r1]) rfl ⟨g9, cap9, M9, rfl, HM.out, (hW9.out.keep F9 (by have := hW9.out.low; omega) (fun x hx => by have := (hW9.out.it x hx).1.low; omega)).mono (by omega), (HQ9.out.set (by show w.heap.size ≤ w.heap.size + 1; omega) _).set (by show w.heap.size ≤ w.heap.size + 1; omega) _⟩
set_option maxHeartbeats 4000000 in
set_option maxRecDepth 100000 in
theorem fade_good (t : Nat) (w : World) (sp : Int) (g o a b cap n : Nat) (L : List PL) (h : Pc w g o a b L) (hn : L.length = n) (hcap : n ≤ cap) (hsp : spcB sp n = true) :
    Calls Tryz.prog 17 #[.agg #[.int .i64 sp, .slice (some ⟨g, o, none⟩) n cap], .int .u32 (t : Int)] w fun e w' => ∃ g' cap' M, e = .returned (.tuple #[.agg #[.int .i64 sp, .slice (some ⟨g', 0, none⟩) n cap'], .int .i64 0]) ∧ M.map PL.S = fadV t (L.map PL.S) ∧ Hid (Nw w.heap.size w' g' cap' a b M) ∧ Q w w' := by
  have HD : Hid (∀ (x : World) (W : Nat), Q w x → x.cell? ⟨W, 0, none⟩ = some (.int .u32 (t : Int)) → Calls Tryz.prog 49 #[.agg #[.int .i64 sp, .slice (some ⟨g, o, none⟩) n cap], .int .i64 (-1), .func (.func 50) #[] #[.pointer (some ⟨W, 0, none⟩)]] x fun e w' => ∃ g' cap' M, e = .returned (.tuple #[.agg #[.int .i64 sp, .slice (some ⟨g', 0, none⟩) n cap'], .int .i64 0]) ∧ M.map PL.S = fadV t (L.map PL.S) ∧ Hid (Nw x.heap.size w' g' cap' a b M) ∧ Q x w') := fun x W hx hc => map_good x (fade1_fun t x W hc) sp g o a b cap n L (h.next hx) hn hcap hsp
  clear h hn hcap hsp
  generalize fadV t (L.map PL.S) = RES at *
  obtain ⟨w1, hw1⟩ : ∃ w1, ((w.alloc (.cells #[.int .i64 sp, .slice (some ⟨g, o, none⟩) n cap] 33)).alloc (.cells #[.int .u32 (t : Int)] 22)).alloc (.cells #[.int .i64 0, .slice none 0 0] 33) = w1 := ⟨_, rfl⟩
  have HQ : Hid (Q w w1) := by show Q w w1; rw [← hw1]; exact (((Q.refl w).cells _ _).cells _ _).cells _ _
  have p0 : w1.cell? ⟨w.heap.size, 0, none⟩ = some (.int .i64 sp) := by rw [← hw1]; simp [go_sem]
  have p1 : w1.cell? ⟨w.heap.size, 1, none⟩ = some (.slice (some ⟨g, o, none⟩) n cap) := by rw [← hw1]; simp [go_sem]
  have y0 : w1.cell? ⟨w.heap.size + 1, 0, none⟩ = some (.int .u32 (t : Int)) := by rw [← hw1]; simp [go_sem]
  have r0 : w1.cell? ⟨w.heap.size + 1 + 1, 0, none⟩ = some (.int .i64 0) := by rw [← hw1]; simp [go_sem]
  have r1 : w1.cell? ⟨w.heap.size + 1 + 1, 1, none⟩ = some (.slice none 0 0) := by rw [← hw1]; simp [go_sem]
  have rf : ∀ j, w1.frozen? ⟨w.heap.size + 1 + 1, j, none⟩ = false := fun j => by rw [← hw1]; simp [go_sem]
  have hlt := cell_in r0
  have en := enters_of Tryz.func49 (by kernel_rfl) rfl
  go_enter Tryz.func17, Tryz.ntmps17
  go_wp2_with fail
  refine (HD.out _ _ HQ.out y0).mono ?_
  rintro e w9 ⟨g9, cap9, M9, rfl, hM9, hW9, q9⟩
  have HM : Hid (M9.map PL.S = _) := hM9
  have r0 := q9.cell r0
  have r1 := q9.cell r1
  have rf : ∀ j, w9.frozen? ⟨w.heap.size + 1 + 1, j, none⟩ = false := fun j => (q9.2 _).trans (rf j)
  have HQ9 : Hid (Q w w9) := HQ.out.trans q9
  clear hM9 q9
  go_wp2_with fail
  have F9 : Fr w9 ((w9.setCell ⟨w.heap.size + 1 + 1, 0, none⟩ (.int .i64 sp)).setCell ⟨w.heap.size + 1 + 1, 1, none⟩ (.slice (some ⟨g9, 0, none⟩) n cap9)) (fun b => b ≠ w.heap.size + 1 + 1) := ((Fr.refl w9 _).set (fun h => h rfl) _).set (fun h => h rfl) _
  refine bodyPost_ret (v := .tuple #[.agg #[.int .i64 sp, .slice (some ⟨g9, 0, none⟩) n cap9], .int .i64 0]) (by simp [results, Tryz.results17, go_sem, r0, r1]) rfl ⟨g9, cap9, M9, rfl, HM.out, (hW9.out.keep F9 (by have := hW9.out.low; omega) (fun x hx => by have := (hW9.out.it x hx).1.low; omega)).mono (by omega), (HQ9.out.set (by show w.heap.size ≤ w.heap.size + 1 + 1; omega) _).set (by show w.heap.size ≤ w.heap.size + 1 + 1; omega) _⟩
end Go.Proofs.YtkgojnjlfkijiaaGreat

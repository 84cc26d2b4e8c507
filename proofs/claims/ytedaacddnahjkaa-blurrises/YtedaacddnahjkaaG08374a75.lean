/- blur: Blur. -/
import Derived.Test.YtedaacddnahjkaaG3eb0220f
import Derived.Laws.EntriesVeiled
import Derived.Test.YtedaacddnahjkaaG69dc85f7
import Derived.Test.YtedaacddnahjkaaG066526eb
namespace Go.Proofs.Ytedaacddnahjkaa
open Go.RowKit
set_option linter.unusedVariables false
set_option linter.unusedSimpArgs false

set_option maxHeartbeats 1000000 in
theorem refusal_b (bd : Int) (w : World) : Calls Try.prog 38 #[.int .i64 bd] w fun e w' => e = .returned (.int .i64 (borE bd 1)) ∧ w' = w := by
  have C := border_any bd 1 0 w
  generalize borA bd 1 0 = A at C
  generalize borE bd 1 = E at C ⊢
  go_enter Try.func38, Try.ntmps38
  go_wp2_with fail
  refine C.mono ?_
  rintro e w1 ⟨rfl, hw⟩
  obtain rfl := hw.symm
  clear hw C
  go_wp2_with fail
  go_ret
  exact ⟨rfl, rfl⟩
theorem borE_one (bd : Int) : borE bd 1 = if bd = 1 ∨ bd = 2 ∨ bd = 3 then 0 else 53 := by
  unfold borE
  rw [if_pos (show sideB 1 = true by decide)]
def blE (pw ph : Int) (n : Nat) (kind r bd : Int) : Int := if chk pw ph n = 0 then (if bwE kind r = 0 then borE bd 1 else 110) else chk pw ph n
theorem blE_ok {pw ph : Int} {n : Nat} {kind r bd : Int} (h : blE pw ph n kind r bd = 0) : ∃ pa pb rr k : Nat, pw = (pa : Int) ∧ ph = (pb : Int) ∧ Size pa pb ∧ n = pa * pb ∧ r = (rr : Int) ∧ rr ≤ 7 ∧ bwE kind rr = 0 ∧ bd = (k : Int) ∧ (k = 1 ∨ k = 2 ∨ k = 3) := by
  unfold blE at h
  split at h
  · rename_i hc
    split at h
    · rename_i hb
      obtain ⟨a, b, rfl, rfl, h1, h2⟩ := chk_zero hc
      have hr : 0 ≤ r ∧ r ≤ 7 := by
        unfold bwE at hb
        split at hb
        · rename_i g; exact ⟨g.1, g.2.1⟩
        · cases hb
      rw [borE_one] at h
      have hk : bd = 1 ∨ bd = 2 ∨ bd = 3 := by
        split at h
        · assumption
        · cases h
      obtain ⟨rr, rfl⟩ : ∃ m : Nat, r = (m : Int) := ⟨r.toNat, by omega⟩
      obtain ⟨k, rfl⟩ : ∃ m : Nat, bd = (m : Int) := ⟨bd.toNat, by omega⟩
      exact ⟨a, b, rr, k, rfl, rfl, h1, h2, rfl, by omega, hb, rfl, by omega⟩
    · cases h
  · rename_i g; exact absurd h g
set_option maxHeartbeats 4000000 in
set_option maxRecDepth 100000 in
theorem blur_bad (pw ph : Int) (ad : Option Addr) (n c : Nat) (kind r bd : Int) (hn : n ≤ 9223372036854775807) (hE : blE pw ph n kind r bd ≠ 0) (w : World) :
    Calls Try.prog 16 #[.agg #[.int .i64 pw, .int .i64 ph, .slice ad n c], .int .i64 kind, .int .i64 r, .int .i64 bd] w fun e w' => e = .returned (.tuple #[.agg #[.int .i64 0, .int .i64 0, .slice none 0 0], .int .i64 (blE pw ph n kind r bd)]) ∧ Q w w' := by
  obtain ⟨w1, hw1⟩ : ∃ w1, (w.alloc (.cells #[.int .i64 pw, .int .i64 ph, .slice ad n c] 43)).alloc (.cells #[.int .i64 0, .int .i64 0, .slice none 0 0] 43) = w1 := ⟨_, rfl⟩
  have q1 : Q w w1 := by rw [← hw1]; exact ((Q.refl w).cells _ _).cells _ _
  have k0 : w1.cell? ⟨w.heap.size, 0, none⟩ = some (.int .i64 pw) := by rw [← hw1]; simp [go_sem]
  have k1 : w1.cell? ⟨w.heap.size, 1, none⟩ = some (.int .i64 ph) := by rw [← hw1]; simp [go_sem]
  have k2 : w1.cell? ⟨w.heap.size, 2, none⟩ = some (.slice ad n c) := by rw [← hw1]; simp [go_sem]
  have HR : Hid (w1.cell? ⟨w.heap.size + 1, 0, none⟩ = some (.int .i64 0) ∧ w1.cell? ⟨w.heap.size + 1, 1, none⟩ = some (.int .i64 0) ∧ w1.cell? ⟨w.heap.size + 1, 2, none⟩ = some (.slice none 0 0) ∧ (∀ j, w1.frozen? ⟨w.heap.size + 1, j, none⟩ = false) ∧ w1.heap.size = w.heap.size + 2) := by
    rw [← hw1]
    exact ⟨by simp [go_sem], by simp [go_sem], by simp [go_sem], fun j => by simp [go_sem], by simp⟩
  have HQ1 : Hid (Q w w1) := q1
  have C1 := check_any pw ph ad n c hn w1
  by_cases hc : chk pw ph n = 0
  rotate_left
  · have hb : blE pw ph n kind r bd = chk pw ph n := by unfold blE; rw [if_neg hc]
    rw [hb]
    generalize chk pw ph n = E at *
    have hE0 : (E != 0) = true := by simpa using hc
    clear hE hb q1
    go_enter Try.func16, Try.ntmps16
    go_wp2_with fail
    refine C1.mono ?_
    rintro e w2 ⟨rfl, q2⟩
    clear C1 k0 k1 k2 hw1
    have o0 := q2.cell HR.out.1
    have o1 := q2.cell HR.out.2.1
    have o2 := q2.cell HR.out.2.2.1
    have fo0 : w2.frozen? ⟨w.heap.size + 1, 0, none⟩ = false := by rw [q2.2]; exact HR.out.2.2.2.1 0
    have fo1 : w2.frozen? ⟨w.heap.size + 1, 1, none⟩ = false := by rw [q2.2]; exact HR.out.2.2.2.1 1
    have fo2 : w2.frozen? ⟨w.heap.size + 1, 2, none⟩ = false := by rw [q2.2]; exact HR.out.2.2.2.1 2
    have HZ9X : Hid (Q w1 w2) := q2
    go_wp2_with fail
    have hl' : w.heap.size ≤ w.heap.size + 1 := by omega
    exact bodyPost_ret (v := .tuple #[.agg #[.int .i64 0, .int .i64 0, .slice none 0 0], .int .i64 E]) (by simp [results, Try.results16, go_sem, o0, o1, o2]) rfl ⟨rfl, (((HQ1.out.trans HZ9X.out).set hl' _).set hl' _).set hl' _⟩
  rw [hc] at C1
  by_cases hw : bwE kind r = 0
  rotate_left
  · have hb : blE pw ph n kind r bd = 110 := by unfold blE; rw [if_pos hc, if_neg hw]
    rw [hb]
    have HW : Hid (∀ x : World, Calls Try.prog 9 #[.int .i64 kind, .int .i64 r] x fun e w' => e = .returned (.tuple #[.slice none 0 0, .int .i64 110]) ∧ w' = x) := fun x => weights_bad kind r hw x
    clear hE hb q1 hc hw
    go_enter Try.func16, Try.ntmps16
    go_wp2_with fail
    refine C1.mono ?_
    rintro e w2 ⟨rfl, q2⟩
    clear C1 k0 k1 k2 hw1
    go_wp2_with fail
    refine (HW.out w2).mono ?_
    rintro e w3 ⟨rfl, hw3⟩
    obtain rfl := hw3.symm
    clear hw3
    have o0 := q2.cell HR.out.1
    have o1 := q2.cell HR.out.2.1
    have o2 := q2.cell HR.out.2.2.1
    have fo0 : w2.frozen? ⟨w.heap.size + 1, 0, none⟩ = false := by rw [q2.2]; exact HR.out.2.2.2.1 0
    have fo1 : w2.frozen? ⟨w.heap.size + 1, 1, none⟩ = false := by rw [q2.2]; exact HR.out.2.2.2.1 1
    have fo2 : w2.frozen? ⟨w.heap.size + 1, 2, none⟩ = false := by rw [q2.2]; exact HR.out.2.2.2.1 2
    have HZ9X : Hid (Q w1 w2) := q2
    go_wp2_with fail
    have hl' : w.heap.size ≤ w.heap.size + 1 := by omega
    exact bodyPost_ret (v := .tuple #[.agg #[.int .i64 0, .int .i64 0, .slice none 0 0], .int .i64 110]) (by simp [results, Try.results16, go_sem, o0, o1, o2]) rfl ⟨rfl, (((HQ1.out.trans HZ9X.out).set hl' _).set hl' _).set hl' _⟩
  have hb : blE pw ph n kind r bd = borE bd 1 := by unfold blE; rw [if_pos hc, if_pos hw]
  rw [hb] at hE ⊢
  have hr7 : 0 ≤ r ∧ r ≤ 7 := by
    unfold bwE at hw
    split at hw
    · rename_i g; exact ⟨g.1, g.2.1⟩
    · cases hw
  obtain ⟨rr, rfl⟩ : ∃ m : Nat, r = (m : Int) := ⟨r.toNat, by omega⟩
  have HW : Hid (∀ x : World, Calls Try.prog 9 #[.int .i64 kind, .int .i64 (rr : Int)] x fun e w' => ∃ g, e = .returned (.tuple #[.slice (some ⟨g, 0, none⟩) (2 * rr + 1) (2 * rr + 1), .int .i64 0]) ∧ VR w' g (2 * rr + 1) (fun i => .int .i64 (bwV kind rr i)) ∧ x.heap.size ≤ g ∧ Q x w') := fun x => weights_good kind rr hw x
  have HF : Hid (∀ x : World, Calls Try.prog 38 #[.int .i64 bd] x fun e w' => e = .returned (.int .i64 (borE bd 1)) ∧ w' = x) := fun x => refusal_b bd x
  generalize borE bd 1 = E at *
  have hE0 : (E != 0) = true := by simpa using hE
  clear hE hb q1 hc hw hr7
  go_enter Try.func16, Try.ntmps16
  go_wp2_with fail
  refine C1.mono ?_
  rintro e w2 ⟨rfl, q2⟩
  clear C1 k0 k1 k2 hw1
  go_wp2_with fail
  refine (HW.out w2).mono ?_
  rintro e w3 ⟨g, rfl, h4, h5, q3⟩
  have q23 : Q w1 w3 := q2.trans q3
  clear h4 h5 q3 q2
  go_wp2_with fail
  refine (HF.out w3).mono ?_
  rintro e w4 ⟨rfl, hw4⟩
  obtain rfl := hw4.symm
  clear hw4
  have o0 := q23.cell HR.out.1
  have o1 := q23.cell HR.out.2.1
  have o2 := q23.cell HR.out.2.2.1
  have fo0 : w3.frozen? ⟨w.heap.size + 1, 0, none⟩ = false := by rw [q23.2]; exact HR.out.2.2.2.1 0
  have fo1 : w3.frozen? ⟨w.heap.size + 1, 1, none⟩ = false := by rw [q23.2]; exact HR.out.2.2.2.1 1
  have fo2 : w3.frozen? ⟨w.heap.size + 1, 2, none⟩ = false := by rw [q23.2]; exact HR.out.2.2.2.1 2
  have HZ9X : Hid (Q w1 w3) := q23
  go_wp2_with fail
  have hl' : w.heap.size ≤ w.heap.size + 1 := by omega
  exact bodyPost_ret (v := .tuple #[.agg #[.int .i64 0, .int .i64 0, .slice none 0 0], .int .i64 E]) (by simp [results, Try.results16, go_sem, o0, o1, o2]) rfl ⟨rfl, (((HQ1.out.trans HZ9X.out).set hl' _).set hl' _).set hl' _⟩
theorem bw_bd {kind : Int} {r : Nat} (hr : r ≤ 7) (i : Nat) (hi : i < 2 * r + 1) : 0 ≤ bwV kind r i ∧ bwV kind r i ≤ 3432 := by
  unfold bwV
  split
  · exact bnV_bd (2 * r) (by omega) i (by omega)
  · omega
theorem bw_sum1 {r : Nat} (hr : r ≤ 7) : smW (bwV 1 r) (2 * r + 1) = 4 ^ r := by
  have : ∀ r : Fin 8, smW (bwV 1 r.val) (2 * r.val + 1) = 4 ^ r.val := by decide +kernel
  exact this ⟨r, by omega⟩
theorem bw_sum2 {r : Nat} (hr : r ≤ 7) : smW (bwV 2 r) (2 * r + 1) = 2 * (r : Int) + 1 := by
  have : ∀ r : Fin 8, smW (bwV 2 r.val) (2 * r.val + 1) = 2 * (r.val : Int) + 1 := by decide +kernel
  exact this ⟨r, by omega⟩
theorem bw_kind {kind : Int} {r : Nat} (h : bwE kind r = 0) : kind = 1 ∨ kind = 2 := by
  unfold bwE at h
  split at h
  · rename_i g; exact g.2.2
  · cases h
theorem bw_sum {kind : Int} {r : Nat} (h : bwE kind r = 0) (hr : r ≤ 7) : 1 ≤ smW (bwV kind r) (2 * r + 1) ∧ smW (bwV kind r) (2 * r + 1) ≤ 16384 := by
  rcases bw_kind h with rfl | rfl
  · rw [bw_sum1 hr]
    have : ∀ r : Fin 8, 1 ≤ (4 : Int) ^ r.val ∧ (4 : Int) ^ r.val ≤ 16384 := by decide +kernel
    exact this ⟨r, by omega⟩
  · rw [bw_sum2 hr]; omega
/-- A list told by its places. -/
def tabB (n : Nat) (F : Nat → Nat) : List Nat := (List.range n).map F
theorem tabB_len (n : Nat) (F : Nat → Nat) : (tabB n F).length = n := by unfold tabB; simp
theorem tabB_at {n j : Nat} {F : Nat → Nat} (h : j < n) : (tabB n F).getD j 0 = F j := by unfold tabB; rw [List.getD_eq_getElem?_getD, List.getElem?_map, List.getElem?_range h]; rfl
theorem narW_lt (x : Nat) : narW x < 4294967296 := toldD_lt _
/-- What the weights of a kernel make of samples. -/
def mixB (kind : Int) (r : Nat) (S : Nat → Nat) : Nat := wghV (2 * r) (bwV kind r) (smW (bwV kind r) (2 * r + 1)) S
theorem mixB_lt (kind : Int) (r : Nat) (S : Nat → Nat) : mixB kind r S < 4294967296 := narW_lt _
def rowB (mixV : (Nat → Nat) → Nat) (r k pa : Nat) (S : List Nat) (j : Nat) : Nat := alV k pa r (fun l i => l * pa + i) S mixV (j / pa) (j % pa)
def colB (mixV : (Nat → Nat) → Nat) (r k pa pb : Nat) (S : List Nat) (j : Nat) : Nat := alV k pb r (fun l i => i * pa + l) S mixV (j % pa) (j / pa)
def bluV (kind : Int) (r k pa pb : Nat) (S : List Nat) (j : Nat) : Nat := colB (mixB kind r) r k pa pb (tabB (pa * pb) (rowB (mixB kind r) r k pa S)) j
set_option maxHeartbeats 8000000 in
set_option maxRecDepth 100000 in
theorem blur_good (kind : Int) (r k pa pb g0 o0 c n : Nat) (S : List Nat) (w : World) (hsz : Size pa pb) (hnn : n = pa * pb) (hS : S.length = n) (hb : ∀ i, S.getD i 0 < 4294967296) (hI : UIs w g0 o0 S) (hr : r ≤ 7) (hk : k = 1 ∨ k = 2 ∨ k = 3) (hw : bwE kind r = 0) :
    Calls Try.prog 16 #[.agg #[.int .i64 (pa : Int), .int .i64 (pb : Int), .slice (some ⟨g0, o0, none⟩) n c], .int .i64 kind, .int .i64 (r : Int), .int .i64 (k : Int)] w fun e w' => ∃ gt, e = .returned (.tuple #[.agg #[.int .i64 (pa : Int), .int .i64 (pb : Int), .slice (some ⟨gt, 0, none⟩) n n], .int .i64 0]) ∧ VR w' gt n (fun j => .int .u32 ((bluV kind r k pa pb S j : Nat) : Int)) ∧ w.heap.size ≤ gt ∧ Q w w' := by
  have hn : n ≤ 9223372036854775807 := by have := hsz.ab; omega
  obtain ⟨w1, hw1⟩ : ∃ w1, (w.alloc (.cells #[.int .i64 (pa : Int), .int .i64 (pb : Int), .slice (some ⟨g0, o0, none⟩) n c] 43)).alloc (.cells #[.int .i64 0, .int .i64 0, .slice none 0 0] 43) = w1 := ⟨_, rfl⟩
  have q1 : Q w w1 := by rw [← hw1]; exact ((Q.refl w).cells _ _).cells _ _
  have k0 : w1.cell? ⟨w.heap.size, 0, none⟩ = some (.int .i64 (pa : Int)) := by rw [← hw1]; simp [go_sem]
  have k1 : w1.cell? ⟨w.heap.size, 1, none⟩ = some (.int .i64 (pb : Int)) := by rw [← hw1]; simp [go_sem]
  have k2 : w1.cell? ⟨w.heap.size, 2, none⟩ = some (.slice (some ⟨g0, o0, none⟩) n c) := by rw [← hw1]; simp [go_sem]
  have HR : Hid (w1.cell? ⟨w.heap.size + 1, 0, none⟩ = some (.int .i64 0) ∧ w1.cell? ⟨w.heap.size + 1, 1, none⟩ = some (.int .i64 0) ∧ w1.cell? ⟨w.heap.size + 1, 2, none⟩ = some (.slice none 0 0) ∧ (∀ j, w1.frozen? ⟨w.heap.size + 1, j, none⟩ = false) ∧ w1.heap.size = w.heap.size + 2) := by
    rw [← hw1]
    exact ⟨by simp [go_sem], by simp [go_sem], by simp [go_sem], fun j => by simp [go_sem], by simp⟩
  have HQ1 : Hid (Q w w1) := q1
  have C1 := check_any pa pb (some ⟨g0, o0, none⟩) n c hn w1
  rw [show chk (pa : Int) (pb : Int) n = 0 by rw [hnn]; exact chk_size hsz] at C1
  have HW : Hid (∀ x : World, Calls Try.prog 9 #[.int .i64 kind, .int .i64 (r : Int)] x fun e w' => ∃ g, e = .returned (.tuple #[.slice (some ⟨g, 0, none⟩) (2 * r + 1) (2 * r + 1), .int .i64 0]) ∧ VR w' g (2 * r + 1) (fun i => .int .i64 (bwV kind r i)) ∧ x.heap.size ≤ g ∧ Q x w') := fun x => weights_good kind r hw x
  have HF : Hid (∀ x : World, Calls Try.prog 38 #[.int .i64 (k : Int)] x fun e w' => e = .returned (.int .i64 0) ∧ w' = x) := fun x => by
    have := refusal_b k x
    rw [borE_one, if_pos (by omega)] at this
    exact this
  have HBA : Hid (∀ (g : Nat) (x : World), VR x g (2 * r + 1) (fun i => .int .i64 (bwV kind r i)) → Calls Try.prog 39 #[.slice (some ⟨g, 0, none⟩) (2 * r + 1) (2 * r + 1)] x fun e w' => ∃ gb, e = .returned (.agg #[.slice (some ⟨gb, 0, none⟩) (2 * r + 1) (2 * r + 1), .float .f64 (floatOfInt .f64 (smW (bwV kind r) (2 * r + 1)))]) ∧ VR w' gb (2 * r + 1) (fun i => .float .f64 (floatOfInt .f64 (bwV kind r i))) ∧ x.heap.size ≤ gb ∧ Q x w') := fun g x hv => balance_any (2 * r + 1) (bwV kind r) g 0 (2 * r + 1) x (fun i hi => by rw [Nat.zero_add]; exact hv.cell i hi) (by omega) (by omega) (fun i hi => bw_bd hr i hi)
  have HMX : Hid (∀ (gb : Nat) (w5 : World), VR w5 gb (2 * r + 1) (fun i => .float .f64 (floatOfInt .f64 (bwV kind r i))) → ∀ (x : World) (h o c : Nat) (X Sx : Nat → Nat), Q w5 x → 2 * r + 1 ≤ c → (∀ i, i < 2 * r + 1 → x.cell? ⟨h, o + i, none⟩ = some (.float .f64 (X i))) → (∀ i, i < 2 * r + 1 → NumX (Sx i) (X i)) → Calls Try.prog 40 (#[.agg #[.slice (some ⟨gb, 0, none⟩) (2 * r + 1) (2 * r + 1), .float .f64 (floatOfInt .f64 (smW (bwV kind r) (2 * r + 1)))]] ++ #[.slice (some ⟨h, o, none⟩) (2 * r + 1) c]) x fun e w' => e = .returned (.int .u32 (mixB kind r Sx : Nat)) ∧ Q x w') := fun gb w5 hv x h o c X Sx q hc hX hN => by
    have := weigh_any (2 * r) gb h o c (bwV kind r) (smW (bwV kind r) (2 * r + 1)) X Sx x (by omega) hc (fun i hi => q.cell (hv.cell i hi)) hX hN (fun i hi => bw_bd hr i hi) (by have := bw_sum hw hr; omega)
    exact this
  have HSZ : Hid (Size pa pb ∧ n = pa * pb ∧ S.length = n ∧ (∀ i, S.getD i 0 < 4294967296) ∧ (∀ x, Q w x → UIs x g0 o0 S) ∧ r ≤ 7 ∧ (k = 1 ∨ k = 2 ∨ k = 3)) := ⟨hsz, hnn, hS, hb, fun x q => hI.next q, hr, hk⟩
  have HK : Hid (w1.cell? ⟨w.heap.size, 0, none⟩ = some (.int .i64 (pa : Int)) ∧ w1.cell? ⟨w.heap.size, 1, none⟩ = some (.int .i64 (pb : Int)) ∧ w1.cell? ⟨w.heap.size, 2, none⟩ = some (.slice (some ⟨g0, o0, none⟩) n c)) := ⟨k0, k1, k2⟩
  have HEN : Hid ((∀ (args : Array Value) (x : World), (callFunc 40 args).run Try.prog x = .ok (.enter 40 args) x) ∧ (∀ (args : Array Value) (x : World), (callFunc 41 args).run Try.prog x = .ok (.enter 41 args) x)) := ⟨enters_of Try.func40 (by kernel_rfl) rfl, enters_of Try.func41 (by kernel_rfl) rfl⟩
  obtain ⟨N, hN⟩ : ∃ N, 2 * r + 1 = N := ⟨_, rfl⟩
  obtain ⟨fs, hfs⟩ : ∃ fs, floatOfInt .f64 (smW (bwV kind r) (2 * r + 1)) = fs := ⟨_, rfl⟩
  rw [hfs] at HBA HMX
  have HN : Hid (2 * r + 1 = N) := hN
  rw [hN] at HW HBA
  clear hsz hnn hS hb hI hk hw hn q1 hN hfs
  go_enter Try.func16, Try.ntmps16
  go_wp2_with fail
  refine C1.mono ?_
  rintro e w2 ⟨rfl, q2⟩
  clear C1 k0 k1 k2 hw1
  go_wp2_with fail
  refine (HW.out w2).mono ?_
  rintro e w3 ⟨g, rfl, h4, h5, q3⟩
  have q23 : Q w1 w3 := q2.trans q3
  have HV3 : Hid (VR w3 g N (fun i => .int .i64 (bwV kind r i))) := h4
  clear h4 h5 q3 q2
  go_wp2_with fail
  refine (HF.out w3).mono ?_
  rintro e w4 ⟨rfl, hw4⟩
  obtain rfl := hw4.symm
  clear hw4
  go_wp2_with fail
  refine (HBA.out g w3 HV3.out).mono ?_
  rintro e w5 ⟨gb, rfl, h6, h7, q5⟩
  obtain ⟨w6, hw6⟩ : ∃ w6, w5.alloc (.cells #[.int .i64 (r : Int), .int .i64 (k : Int), .func (.func 40) #[.agg #[.slice (some ⟨gb, 0, none⟩) N N, .float .f64 fs]] #[]] 87) = w6 := ⟨_, rfl⟩
  have q56 : Q w5 w6 := by rw [← hw6]; exact (Q.refl w5).cells _ _
  have q16 : Q w1 w6 := (q23.trans q5).trans q56
  have s0 : w6.cell? ⟨w5.heap.size, 0, none⟩ = some (.int .i64 (r : Int)) := by rw [← hw6]; simp [go_sem]
  have s1 : w6.cell? ⟨w5.heap.size, 1, none⟩ = some (.int .i64 (k : Int)) := by rw [← hw6]; simp [go_sem]
  have s2 : w6.cell? ⟨w5.heap.size, 2, none⟩ = some (.func (.func 40) #[.agg #[.slice (some ⟨gb, 0, none⟩) N N, .float .f64 fs]] #[]) := by rw [← hw6]; simp [go_sem]
  have p0 := q16.cell HK.out.1
  have p1 := q16.cell HK.out.2.1
  have p2 := q16.cell HK.out.2.2
  have HV6 : Hid (VR w6 gb (2 * r + 1) (fun i => .float .f64 (floatOfInt .f64 (bwV kind r i))) ∧ Q w1 w6) := ⟨by rw [HN.out]; exact h6.next q56, q16⟩
  clear h6 h7 q5 q56 q16 q23
  go_wp2_with fail
  have n0 := qw_some w6
  have f0 := qw_cell s0
  have f1 := qw_cell s1
  have f2 := qw_cell s2
  have f3 := qw_cell p0
  have f4 := qw_cell p1
  have f5 := qw_cell p2
  clear hw6
  refine wp_region_mk [0, 1, 2, 3, 4, 5, 6] [[7, 8, 9, 10]] 4 _ (by kernel_rfl) (by kernel_rfl) rfl (by kernel_rfl) ?_
  simp only [List.filterMap_cons, List.filterMap_nil, List.getElem?_cons_zero, List.getElem?_cons_succ]
  repeat (first | go_big_quiet_step (fail) | quiet_step (fail))
  refine wpQuiet_nil ?_
  intro x7 hx7
  clear n0 f0 f1 f2 f3 f4 f5 s0 s1 s2 p0 p1 p2
  have z := HSZ.out
  have q17 : Q w x7 := (HQ1.out.trans HV6.out.2).trans hx7
  have CR := along_rows r k 40 pa pb g0 o0 c n #[.agg #[.slice (some ⟨gb, 0, none⟩) N N, .float .f64 fs]] (mixB kind r) S x7 z.1 z.2.1 z.2.2.1 z.2.2.2.1 (z.2.2.2.2.1 x7 q17) z.2.2.2.2.2.1 z.2.2.2.2.2.2 HEN.out.1 (by have := HMX.out gb x7 (HV6.out.1.next hx7); rw [HN.out] at this; rw [HN.out]; exact this)
  refine tree_call 7 rfl rfl (run_fn 41 #[.tmp 46, .tmp 48, .tmp 49] _ rfl HEN.out.2 (vs := #[.agg #[.int .i64 (r : Int), .int .i64 (k : Int), .func (.func 40) #[.agg #[.slice (some ⟨gb, 0, none⟩) N N, .float .f64 fs]] #[]], .iface 91 (.agg #[]), .agg #[.int .i64 (pa : Int), .int .i64 (pb : Int), .slice (some ⟨g0, o0, none⟩) n c]]) (by simp [Act.eval, Act.put])) CR ?_
  rintro u x8 ⟨⟨gt, rfl, hv8, hl8, hu8⟩, hq8⟩
  refine ⟨hx7.trans hq8, ?_⟩
  have hI8 : UIs x8 gt 0 (tabB n (rowB (mixB kind r) r k pa S)) := fun j hj => by
    rw [tabB_len] at hj
    rw [Nat.zero_add, tabB_at hj]
    exact hv8.cell j hj
  have CC := along_columns r k 40 pa pb gt 0 n n #[.agg #[.slice (some ⟨gb, 0, none⟩) N N, .float .f64 fs]] (mixB kind r) (tabB n (rowB (mixB kind r) r k pa S)) x8 z.1 z.2.1 (tabB_len _ _) (fun i => by
    rcases Nat.lt_or_ge i n with h | h
    · rw [tabB_at h]; exact mixB_lt _ _ _
    · rw [List.getD_eq_getElem?_getD, List.getElem?_eq_none (by rw [tabB_len]; exact h)]; decide) hI8 z.2.2.2.2.2.1 z.2.2.2.2.2.2 HEN.out.1 (by have := HMX.out gb x8 ((HV6.out.1.next hx7).next hq8); rw [HN.out] at this; rw [HN.out]; exact this)
  refine tree_call 8 rfl rfl (run_fn 41 #[.tmp 43, .tmp 45, .tmp 50] _ rfl HEN.out.2 (vs := #[.agg #[.int .i64 (r : Int), .int .i64 (k : Int), .func (.func 40) #[.agg #[.slice (some ⟨gb, 0, none⟩) N N, .float .f64 fs]] #[]], .iface 90 (.agg #[]), .agg #[.int .i64 (pa : Int), .int .i64 (pb : Int), .slice (some ⟨gt, 0, none⟩) n n]]) (by simp [Act.eval, Act.put])) CC ?_
  rintro u x9 ⟨⟨gu, rfl, hv9, hl9, hu9⟩, hq9⟩
  have q69 : Q w6 x9 := (hx7.trans hq8).trans hq9
  refine ⟨q69, ?_⟩
  have q19 : Q w1 x9 := HV6.out.2.trans q69
  have o0' := q19.cell HR.out.1
  have o1' := q19.cell HR.out.2.1
  have o2' := q19.cell HR.out.2.2.1
  have fo : ∀ j, x9.frozen? ⟨w.heap.size + 1, j, none⟩ = false := fun j => by rw [q19.2]; exact HR.out.2.2.2.1 j
  refine tree_skipF 9 rfl rfl rfl (x' := ((x9.setCell ⟨w.heap.size + 1, 0, none⟩ (.int .i64 (pa : Int))).setCell ⟨w.heap.size + 1, 1, none⟩ (.int .i64 (pb : Int))).setCell ⟨w.heap.size + 1, 2, none⟩ (.slice (some ⟨gu, 0, none⟩) n n)) (by simp [execOp, go_sem, Act.put, o0', o1', o2', fo]) ?_
  refine tree_runF 10 rfl rfl rfl (v := .int .i64 0) (x' := ((x9.setCell ⟨w.heap.size + 1, 0, none⟩ (.int .i64 (pa : Int))).setCell ⟨w.heap.size + 1, 1, none⟩ (.int .i64 (pb : Int))).setCell ⟨w.heap.size + 1, 2, none⟩ (.slice (some ⟨gu, 0, none⟩) n n)) (by simp [execOp, go_sem, Act.put]) ?_
  refine tree_nil ?_
  have hgu : w.heap.size + 2 ≤ gu := by
    have := HR.out.2.2.2.2
    have := HV6.out.2.1.size
    have := hx7.1.size
    have := hq8.1.size
    omega
  have HV : Hid (VR (((x9.setCell ⟨w.heap.size + 1, 0, none⟩ (.int .i64 (pa : Int))).setCell ⟨w.heap.size + 1, 1, none⟩ (.int .i64 (pb : Int))).setCell ⟨w.heap.size + 1, 2, none⟩ (.slice (some ⟨gu, 0, none⟩) n n)) gu n (fun j => .int .u32 ((bluV kind r k pa pb S j : Nat) : Int)) ∧ w.heap.size ≤ gu ∧ Q w (((x9.setCell ⟨w.heap.size + 1, 0, none⟩ (.int .i64 (pa : Int))).setCell ⟨w.heap.size + 1, 1, none⟩ (.int .i64 (pb : Int))).setCell ⟨w.heap.size + 1, 2, none⟩ (.slice (some ⟨gu, 0, none⟩) n n))) := by
    have hl' : w.heap.size ≤ w.heap.size + 1 := by omega
    refine ⟨(((hv9.other (p := ⟨w.heap.size + 1, 0, none⟩) (by show w.heap.size + 1 ≠ gu; omega) _).other (p := ⟨w.heap.size + 1, 1, none⟩) (by show w.heap.size + 1 ≠ gu; omega) _).other (p := ⟨w.heap.size + 1, 2, none⟩) (by show w.heap.size + 1 ≠ gu; omega) _).congr (fun j hj => ?_), by omega, (((HQ1.out.trans q19).set hl' _).set hl' _).set hl' _⟩
    unfold bluV colB
    rw [← z.2.1]
  have y0 : (((x9.setCell ⟨w.heap.size + 1, 0, none⟩ (.int .i64 (pa : Int))).setCell ⟨w.heap.size + 1, 1, none⟩ (.int .i64 (pb : Int))).setCell ⟨w.heap.size + 1, 2, none⟩ (.slice (some ⟨gu, 0, none⟩) n n)).cell? ⟨w.heap.size + 1, 0, none⟩ = some (.int .i64 (pa : Int)) := (World.cell?_setCell_other _ _ _ _ (fun e => by injection e with _ e; cases e)).trans ((World.cell?_setCell_other _ _ _ _ (fun e => by injection e with _ e; cases e)).trans (World.cell?_setCell_same _ _ _ o0'))
  have y1 : (((x9.setCell ⟨w.heap.size + 1, 0, none⟩ (.int .i64 (pa : Int))).setCell ⟨w.heap.size + 1, 1, none⟩ (.int .i64 (pb : Int))).setCell ⟨w.heap.size + 1, 2, none⟩ (.slice (some ⟨gu, 0, none⟩) n n)).cell? ⟨w.heap.size + 1, 1, none⟩ = some (.int .i64 (pb : Int)) := (World.cell?_setCell_other _ _ _ _ (fun e => by injection e with _ e; cases e)).trans (World.cell?_setCell_same _ _ _ ((World.cell?_setCell_other _ _ _ _ (fun e => by injection e with _ e; cases e)).trans o1'))
  have y2 : (((x9.setCell ⟨w.heap.size + 1, 0, none⟩ (.int .i64 (pa : Int))).setCell ⟨w.heap.size + 1, 1, none⟩ (.int .i64 (pb : Int))).setCell ⟨w.heap.size + 1, 2, none⟩ (.slice (some ⟨gu, 0, none⟩) n n)).cell? ⟨w.heap.size + 1, 2, none⟩ = some (.slice (some ⟨gu, 0, none⟩) n n) := World.cell?_setCell_same _ _ _ ((World.cell?_setCell_other _ _ _ _ (fun e => by injection e with _ e; cases e)).trans ((World.cell?_setCell_other _ _ _ _ (fun e => by injection e with _ e; cases e)).trans o2'))
  generalize ((x9.setCell ⟨w.heap.size + 1, 0, none⟩ (.int .i64 (pa : Int))).setCell ⟨w.heap.size + 1, 1, none⟩ (.int .i64 (pb : Int))).setCell ⟨w.heap.size + 1, 2, none⟩ (.slice (some ⟨gu, 0, none⟩) n n) = w9 at HV y0 y1 y2 ⊢
  clear CR CC hv8 hv9 hI8 z fo
  go_wp2_with fail
  exact bodyPost_ret (v := .tuple #[.agg #[.int .i64 (pa : Int), .int .i64 (pb : Int), .slice (some ⟨gu, 0, none⟩) n n], .int .i64 0]) (by simp [results, Try.results16, go_sem, y0, y1, y2, Act.put]) rfl ⟨gu, rfl, HV.out.1, HV.out.2.1, HV.out.2.2⟩
end Go.Proofs.Ytedaacddnahjkaa
/- Plain facts: a quotient with its rest told by one bit. -/
namespace Go.Proofs.Ytedaacddnahjkaa
open Go.RowKit

/-- A quotient's digits, and one more that tells of a rest. -/
def sqV (m n A : Nat) : Nat := 2 * (m * 2 ^ A / n) + if m * 2 ^ A % n = 0 then 0 else 1
theorem sq_stick {m n B k : Nat} (hn : 0 < n) : stick (sqV m n (B + k)) (k + 1) = sqV m n B := by
  have hk := Nat.two_pow_pos k
  have e0 : m * 2 ^ (B + k) = m * 2 ^ B * 2 ^ k := by rw [Nat.pow_add, Nat.mul_assoc]
  -- the great quotient, cut, is the small one
  have e1 : m * 2 ^ (B + k) / n / 2 ^ k = m * 2 ^ B / n := by
    rw [Nat.div_div_eq_div_mul, e0, Nat.mul_div_mul_right _ _ hk]
  have d1 := Nat.div_add_mod (m * 2 ^ (B + k)) n
  have d2 := Nat.div_add_mod (m * 2 ^ B) n
  have d3 := Nat.div_add_mod (m * 2 ^ (B + k) / n) (2 ^ k)
  have r1 := Nat.mod_lt (m * 2 ^ (B + k)) hn
  have r2 := Nat.mod_lt (m * 2 ^ B) hn
  rw [e1] at d3
  obtain ⟨q, hq⟩ : ∃ q, q = m * 2 ^ B / n := ⟨_, rfl⟩
  obtain ⟨Q', hQ⟩ : ∃ Q', Q' = m * 2 ^ (B + k) / n := ⟨_, rfl⟩
  obtain ⟨r, hr⟩ : ∃ r, r = m * 2 ^ B % n := ⟨_, rfl⟩
  obtain ⟨R, hR⟩ : ∃ R, R = m * 2 ^ (B + k) % n := ⟨_, rfl⟩
  obtain ⟨t, ht⟩ : ∃ t, t = Q' % 2 ^ k := ⟨_, rfl⟩
  unfold stick sqV
  rw [← hQ, ← hR, ← hq, ← hr]
  rw [← hQ, ← hq, ← ht] at d3
  rw [← hQ, ← hR] at d1
  rw [← hq, ← hr] at d2
  have htk : t < 2 ^ k := by rw [ht]; exact Nat.mod_lt _ hk
  -- r * 2^k = n * t + R
  have key : r * 2 ^ k = n * t + R := by
    have a1 : n * Q' + R = (n * q + r) * 2 ^ k := by rw [d1, d2, e0]
    rw [← d3] at a1
    rw [Nat.mul_add, Nat.add_mul] at a1
    have a2 : n * (2 ^ k * q) = n * q * 2 ^ k := by rw [Nat.mul_comm (2 ^ k) q, Nat.mul_assoc]
    omega
  have hzero : r = 0 ↔ t = 0 ∧ R = 0 := by
    constructor
    · intro h
      rw [h, Nat.zero_mul] at key
      have k1 : n * t = 0 := by omega
      rcases Nat.mul_eq_zero.1 k1 with h' | h'
      · omega
      · exact ⟨h', by omega⟩
    · rintro ⟨h1, h2⟩
      rw [h1, h2, Nat.mul_zero] at key
      rcases Nat.mul_eq_zero.1 key with h' | h'
      · exact h'
      · omega
  have ep : 2 ^ (k + 1) = 2 * 2 ^ k := by rw [Nat.pow_succ]; omega
  obtain ⟨b, hb⟩ : ∃ b, b = if R = 0 then 0 else 1 := ⟨_, rfl⟩
  have hb2 : b < 2 := by rw [hb]; split <;> omega
  rw [← hb]
  have f1 : (2 * Q' + b) / 2 ^ (k + 1) = q := by
    rw [ep, ← Nat.div_div_eq_div_mul, show (2 * Q' + b) / 2 = Q' by omega, hQ, e1, hq]
  have f2 : (2 * Q' + b) % 2 ^ (k + 1) = 2 * t + b := by
    have g := Nat.div_add_mod (2 * Q' + b) (2 ^ (k + 1))
    rw [f1, ep] at g
    rw [ep]
    have g2 : 2 * 2 ^ k * q = 2 * (2 ^ k * q) := Nat.mul_assoc _ _ _
    omega
  rw [f1, f2]
  have hbR : b = 0 ↔ R = 0 := by rw [hb]; split <;> omega
  by_cases h : r = 0
  · obtain ⟨h1, h2⟩ := hzero.1 h
    rw [if_pos h, if_pos (by have := hbR.2 h2; omega)]
  · rw [if_neg h, if_neg]
    intro h'
    exact h (hzero.2 ⟨by omega, hbR.1 (by omega)⟩)
theorem sq_link (f : Ieee.Format) {m n A B : Nat} (x : Int) (hn : 0 < n) (hA : B ≤ A) (hq : 2 ^ (f.fractionBits + 1) ≤ m * 2 ^ B / n) :
    rungOf f (sqV m n A) (x - A - 1) = rungOf f (sqV m n B) (x - B - 1) := by
  obtain ⟨k, rfl⟩ : ∃ k, A = B + k := ⟨A - B, by omega⟩
  have e1 : m * 2 ^ (B + k) / n / 2 ^ k = m * 2 ^ B / n := by
    rw [Nat.div_div_eq_div_mul, Nat.pow_add, ← Nat.mul_assoc, Nat.mul_div_mul_right _ _ (Nat.two_pow_pos k)]
  have h1 : 2 ^ (f.fractionBits + 1 + k) ≤ m * 2 ^ (B + k) / n := by
    rw [Nat.pow_add]
    rw [← e1] at hq
    exact (Nat.le_div_iff_mul_le (Nat.two_pow_pos k)).1 hq
  have h2 : 2 ^ (f.fractionBits + 2 + k) ≤ sqV m n (B + k) := by
    unfold sqV
    rw [show f.fractionBits + 2 + k = f.fractionBits + 1 + k + 1 by omega, Nat.pow_succ]
    omega
  have hM : sqV m n (B + k) ≠ 0 := by have := Nat.two_pow_pos (f.fractionBits + 2 + k); omega
  have hlog : f.fractionBits + 2 + k ≤ (sqV m n (B + k)).log2 := (Nat.le_log2 hM).2 h2
  have := rung_stick f (M := sqV m n (B + k)) (k := k + 1) (x - (B + k : Nat) - 1) (by omega) hM (by unfold lastOf; omega)
  rw [sq_stick hn] at this
  rw [← this]
  congr 1; omega
theorem quo_digits {m n : Nat} (hm : m ≠ 0) (hn : n ≠ 0) {d : Nat} (h0 : 0 < d) : 2 ^ (d - 1) ≤ m * 2 ^ (d + n.log2 - m.log2) / n := by
  rw [Nat.le_div_iff_mul_le (by omega)]
  have h1 := Nat.log2_self_le hm
  have h2 : n < 2 ^ (n.log2 + 1) := Nat.lt_log2_self
  have a1 : 2 ^ (d - 1) * n < 2 ^ (d - 1) * 2 ^ (n.log2 + 1) := Nat.mul_lt_mul_of_pos_left h2 (Nat.two_pow_pos _)
  rw [← Nat.pow_add, show d - 1 + (n.log2 + 1) = d + n.log2 by omega] at a1
  have a2 : 2 ^ m.log2 * 2 ^ (d + n.log2 - m.log2) ≤ m * 2 ^ (d + n.log2 - m.log2) := Nat.mul_le_mul_right _ h1
  rw [← Nat.pow_add] at a2
  have a3 : 2 ^ (d + n.log2) ≤ 2 ^ (m.log2 + (d + n.log2 - m.log2)) := Nat.pow_le_pow_right (by decide) (by omega)
  omega
theorem sq_not (m n A : Nat) : 2 * (m * 2 ^ A / n) + (!decide (m * 2 ^ A % n = 0)).toNat = sqV m n A := by
  unfold sqV
  by_cases h : m * 2 ^ A % n = 0
  · rw [decide_eq_true h, if_pos h]; rfl
  · rw [decide_eq_false h, if_neg h]; rfl
theorem sq_model (m n A : Nat) : 2 * ((m <<< A) / n) + ((m <<< A) % n != 0).toNat = sqV m n A := by
  unfold sqV
  rw [Nat.shiftLeft_eq]
  by_cases h : m * 2 ^ A % n = 0
  · rw [if_pos h, h]; rfl
  · rw [if_neg h, bne_iff_ne.2 h]; rfl
end Go.Proofs.Ytedaacddnahjkaa
/- What weights make of finite samples: it rises, and of one sample it is that sample. Plain. -/
namespace Go.Proofs.Ytedaacddnahjkaa
open Go.RowKit
set_option linter.unusedVariables false
set_option linter.unusedSimpArgs false

theorem RNb_mono {Y Z : Int} (h : Y ≤ Z) : RN Y ≤ RN Z := by
  unfold RN
  by_cases hy : Y < 0
  · rw [if_pos hy]
    by_cases hz : Z < 0
    · rw [if_pos hz]
      have := val_le64 (rung_mono Ieee.double (-1074) (show Z.natAbs ≤ Y.natAbs by omega))
      omega
    · rw [if_neg hz]; omega
  · rw [if_neg hy, if_neg (by omega)]
    have := val_le64 (rung_mono Ieee.double (-1074) (show Y.natAbs ≤ Z.natAbs by omega))
    omega
/-- A finite word of binary64 worth Z. -/
structure Wb (x : Nat) (Z : Int) : Prop where
  fin : rung64 x < 9218868437227405312
  val : sval64 x = Z
theorem Wb.prod {x : Nat} (hx : rung32 x < 2139095040) {y : Int} (h0 : y ≤ 268435456) (h1 : -268435456 ≤ y) : Wb (opT .mul (floatOfInt .f64 y) (wideW x)) (y * sampleZ x) := by
  obtain ⟨m, g, a, b, c⟩ := X_formq hx
  obtain ⟨f, v⟩ := (IsDq.prod hx h0 h1).sval a b c (Nat.le_trans (show y.natAbs ≤ 268435456 by omega) (by decide))
  exact ⟨f, v⟩
theorem Wb.add {x y : Nat} {X Y : Int} (hx : Wb x X) (hy : Wb y Y) (hs : (X + Y).natAbs.log2 ≤ 2000) : Wb (opT .add x y) (RN (X + Y)) := by
  show Wb (add64V x y) _
  unfold add64V
  rw [read_fin64 hx.fin, read_fin64 hy.fin]
  obtain ⟨N, c, e1, e2⟩ := sum_units (sgn64 x) (sgn64 y) (mag64 (rung64 x)) (mag64 (rung64 y)) (-1074 + (plc64 (rung64 x) : Int)) (-1074 + (plc64 (rung64 y) : Int)) (by omega) (by omega)
  rw [show (-1074 + (plc64 (rung64 x) : Int) + 1074).toNat = plc64 (rung64 x) by omega, show (-1074 + (plc64 (rung64 y) : Int) + 1074).toNat = plc64 (rung64 y) by omega, ← sval_signed64q, ← sval_signed64q, hx.val, hy.val] at e1 e2
  rw [e1, told64_numq, e2]
  obtain ⟨_, _, h1, h2⟩ := wordOf_facts (σ := sg (sgn64 x) (sgn64 y) (X + Y)) hs (fun h => sg_of h)
  exact ⟨h1, h2⟩
theorem log_powb {n e : Nat} (h : n ≤ 2 ^ e) (he : e ≤ 1990) : n.log2 ≤ 2000 := by
  by_cases h0 : n = 0
  · subst h0; decide
  · have h2 : n < 2 ^ (e + 1) := by rw [Nat.pow_add]; have := Nat.two_pow_pos e; omega
    have := (Nat.log2_lt h0).2 h2
    omega
/-- Sums of products, each rounded. -/
def racc (W : Nat → Int) (S : Nat → Nat) : Nat → Int
  | 0 => W 0 * sampleZ (S 0)
  | k + 1 => RN (racc W S k + W (k + 1) * sampleZ (S (k + 1)))
theorem samp_capb {a : Nat} (h : rung32 a < 2139095040) {y : Int} (h0 : y ≤ 268435456) (h1 : -268435456 ≤ y) {j : Nat} (hj : j = 1230) : (y * sampleZ a).natAbs ≤ 2 ^ j := by
  have hs : (sampleZ a).natAbs ≤ 2 ^ (j - 28) := by
    unfold sampleZ
    rw [signed_abs]
    have hp := plc_le32 h
    have h1 : mag32 (rung32 a) * 2 ^ (plc32 (rung32 a) + 925) < 2 ^ 24 * 2 ^ (plc32 (rung32 a) + 925) := Nat.mul_lt_mul_of_pos_right (mag_lt32 _) (Nat.two_pow_pos _)
    rw [← Nat.pow_add] at h1
    exact Nat.le_trans (Nat.le_of_lt h1) (Nat.pow_le_pow_right (by decide) (by omega))
  rw [Int.natAbs_mul]
  have e : 2 ^ j = 2 ^ 28 * 2 ^ (j - 28) := by rw [← Nat.pow_add]; congr 1; omega
  rw [e]
  refine Nat.mul_le_mul ?_ hs
  have : (2 : Nat) ^ 28 = 268435456 := by decide
  omega
theorem wac_wb {W : Nat → Int} {S : Nat → Nat} {j : Nat} (hj : j = 1230) : ∀ k : Nat, k ≤ 14 → (∀ i, i ≤ k → rung32 (S i) < 2139095040 ∧ 0 ≤ W i ∧ W i ≤ 3432) → Wb (wac W S k) (racc W S k) ∧ (racc W S k).natAbs ≤ 2 ^ (j + 2 * k)
  | 0, _, h => by
    obtain ⟨h1, h2, h3⟩ := h 0 (by omega)
    exact ⟨Wb.prod h1 (by omega) (by omega), samp_capb h1 (by omega) (by omega) (by omega)⟩
  | k + 1, hk, h => by
    obtain ⟨i1, i2⟩ := wac_wb hj k (by omega) (fun i hi => h i (by omega))
    obtain ⟨h1, h2, h3⟩ := h (k + 1) (by omega)
    have hc := samp_capb h1 (y := W (k + 1)) (by omega) (by omega) hj
    have hm : (2 : Nat) ^ j ≤ 2 ^ (j + 2 * k) := Nat.pow_le_pow_right (by decide) (by omega)
    have hs : (racc W S k + W (k + 1) * sampleZ (S (k + 1))).natAbs ≤ 2 ^ (j + 2 * k + 1) := by rw [Nat.pow_succ]; omega
    have hl := log_powb hs (by omega)
    refine ⟨i1.add (Wb.prod h1 (by omega) (by omega)) hl, ?_⟩
    have := RN_le hl
    show (RN _).natAbs ≤ _
    rw [show j + 2 * (k + 1) = j + 2 * k + 1 + 1 by omega, Nat.pow_succ]
    omega
theorem racc_mono {W : Nat → Int} {S T : Nat → Nat} : ∀ k : Nat, (∀ i, i ≤ k → 0 ≤ W i ∧ srung32 (S i) ≤ srung32 (T i)) → racc W S k ≤ racc W T k
  | 0, h => Int.mul_le_mul_of_nonneg_left (samp_le (h 0 (by omega)).2) (h 0 (by omega)).1
  | k + 1, h => by
    have i1 := racc_mono k (fun i hi => h i (by omega))
    have i2 := Int.mul_le_mul_of_nonneg_left (samp_le (h (k + 1) (by omega)).2) (h (k + 1) (by omega)).1
    exact RNb_mono (by omega)
/-- A number divided by a whole number, as a rung. -/
def qrg (k z : Nat) : Nat := rungOf Ieee.double (sqV z k 100) (-1074 - (100 : Nat) - 1)
theorem sqV_mono {k A z y : Nat} (hk : 0 < k) (h : z ≤ y) : sqV z k A ≤ sqV y k A := by
  unfold sqV
  have h1 : z * 2 ^ A ≤ y * 2 ^ A := Nat.mul_le_mul_right _ h
  generalize z * 2 ^ A = a at *
  generalize y * 2 ^ A = b at *
  have d1 := Nat.div_add_mod a k
  have d2 := Nat.div_add_mod b k
  have m1 := Nat.mod_lt a hk
  have m2 := Nat.mod_lt b hk
  have hd : a / k ≤ b / k := Nat.div_le_div_right h1
  rcases Nat.lt_or_ge (a / k) (b / k) with c | c
  · split <;> split <;> omega
  · have e : a / k = b / k := by omega
    rw [e] at d1 ⊢
    split <;> split <;> omega
theorem qrg_mono {k z y : Nat} (hk : 0 < k) (h : z ≤ y) : qrg k z ≤ qrg k y := rung_mono _ _ (sqV_mono hk h)
theorem qrg_exact {k X : Nat} (hk : 0 < k) : qrg k (k * X) = rungOf Ieee.double X (-1074) := by
  have e : sqV (k * X) k 100 = X * 2 ^ 101 := by
    unfold sqV
    have h1 : k * X * 2 ^ 100 = X * 2 ^ 100 * k := by rw [Nat.mul_comm k X, Nat.mul_assoc, Nat.mul_comm k, ← Nat.mul_assoc]
    rw [h1, Nat.mul_div_cancel _ hk, Nat.mul_mod_left, if_pos rfl, Nat.add_zero, show (2 : Nat) ^ 101 = 2 ^ 100 * 2 by decide, Nat.mul_comm 2 (X * 2 ^ 100), Nat.mul_assoc]
  unfold qrg
  rw [e, rung_scale]
  congr 1
theorem sqV_shift (m n A j : Nat) : sqV m (n * 2 ^ j) (A + j) = sqV m n A := by
  unfold sqV
  have hp := Nat.two_pow_pos j
  have e1 : m * 2 ^ (A + j) = m * 2 ^ A * 2 ^ j := by rw [Nat.pow_add, Nat.mul_assoc]
  rw [e1, Nat.mul_div_mul_right _ _ hp, Nat.mul_mod_mul_right]
  have : m * 2 ^ A % n * 2 ^ j = 0 ↔ m * 2 ^ A % n = 0 := by
    constructor
    · intro h
      rcases Nat.mul_eq_zero.1 h with c | c
      · exact c
      · omega
    · intro h; rw [h, Nat.zero_mul]
  by_cases h : m * 2 ^ A % n = 0
  · rw [if_pos h, if_pos (this.2 h)]
  · rw [if_neg h, if_neg (fun c => h (this.1 c))]
theorem quo_word {D k : Nat} {Z : Int} (hD : Wb D Z) (hk : 1 ≤ k) (hk2 : k ≤ 16384) : opT .quo D (floatOfInt .f64 (k : Int)) = Ieee.double.word (sgn64 D) (qrg k Z.natAbs) := by
  obtain ⟨j, p, hr, hp⟩ := read_weightq (y := (k : Int)) (by omega) (by omega)
  rw [decide_eq_false (by omega), hp (by omega), Int.natAbs_natCast] at hr
  have hv : Z.natAbs = mag64 (rung64 D) * 2 ^ plc64 (rung64 D) := by rw [← hD.val]; exact val_abs D
  unfold opT
  rw [read_fin64 hD.fin, hr]
  show told64 ((Ieee.Datum.number (sgn64 D) (mag64 (rung64 D)) (-1074 + (plc64 (rung64 D) : Int))).quotient 54 (.number false (k * 2 ^ j) (-(j : Int)))) = _
  have hn0 : k * 2 ^ j ≠ 0 := by have := Nat.mul_pos hk (Nat.two_pow_pos j); omega
  have em : (Ieee.Datum.number (sgn64 D) (mag64 (rung64 D)) (-1074 + (plc64 (rung64 D) : Int))).quotient 54 (.number false (k * 2 ^ j) (-(j : Int))) = some (.number (sgn64 D ^^ false) (sqV (mag64 (rung64 D)) (k * 2 ^ j) (54 + (k * 2 ^ j).log2 - (mag64 (rung64 D)).log2)) (-1074 + (plc64 (rung64 D) : Int) - (-(j : Int)) - ((54 + (k * 2 ^ j).log2 - (mag64 (rung64 D)).log2 : Nat) : Int) - 1)) := by
    rw [← sq_model]
    simp [Ieee.Datum.quotient, hn0]
  rw [em, told64_numq, Bool.xor_false]
  refine congrArg (Ieee.double.word (sgn64 D)) ?_
  by_cases hm : mag64 (rung64 D) = 0
  · rw [hm] at hv ⊢
    rw [hv, Nat.zero_mul]
    unfold qrg sqV
    simp [rungOf_zero]
  · have hd := quo_digits (m := mag64 (rung64 D)) (n := k * 2 ^ j) hm hn0 (d := 54) (by decide)
    have hlog : (k * 2 ^ j).log2 ≤ j + 14 := by
      have : k * 2 ^ j < 2 ^ (j + 15) := by
        rw [Nat.pow_add, Nat.mul_comm (2 ^ j)]
        exact Nat.mul_lt_mul_of_pos_right (by omega) (Nat.two_pow_pos j)
      have := (Nat.log2_lt hn0).2 this
      omega
    have hl := sq_link Ieee.double (m := mag64 (rung64 D)) (n := k * 2 ^ j) (A := plc64 (rung64 D) + 100 + j) (B := 54 + (k * 2 ^ j).log2 - (mag64 (rung64 D)).log2) (-1074 + (plc64 (rung64 D) : Int) - (-(j : Int))) (by omega) (by omega) hd
    rw [← hl, sqV_shift, show sqV (mag64 (rung64 D)) k (plc64 (rung64 D) + 100) = sqV Z.natAbs k 100 by unfold sqV; rw [hv, Nat.pow_add, Nat.mul_assoc]]
    unfold qrg
    congr 1
    omega
theorem qrg_fin {k z e : Nat} (hk : 1 ≤ k) (hz : z ≤ 2 ^ e) (he : e ≤ 1900) : qrg k z < 9218868437227405312 := by
  have h1 : qrg k z ≤ qrg k (k * 2 ^ e) := qrg_mono hk (Nat.le_trans hz (Nat.le_mul_of_pos_left _ hk))
  rw [qrg_exact hk] at h1
  have h2 : val64 (rungOf Ieee.double (2 ^ e) (-1074)) = 2 ^ e := vN_exact (g := e) (log_powb (Nat.le_refl _) (by omega)) ⟨1, by omega⟩ (by rw [Nat.pow_add]; have := Nat.two_pow_pos e; omega)
  have h3 : rungOf Ieee.double (2 ^ e) (-1074) < 9218868437227405312 := by
    refine val_inj_lt64.1 ?_
    rw [h2]
    show 2 ^ e < mag64 9218868437227405312 * 2 ^ plc64 9218868437227405312
    obtain ⟨P, hP, hP2⟩ : ∃ P, plc64 9218868437227405312 = P ∧ 2046 ≤ P := ⟨_, rfl, by decide⟩
    rw [show mag64 9218868437227405312 = 2 ^ 52 by decide, hP, ← Nat.pow_add]
    exact Nat.pow_lt_pow_right (by decide) (by omega)
  omega
/-- The signed value of a quotient. -/
def qsv (k : Nat) (Z : Int) : Int := if Z < 0 then -(val64 (qrg k Z.natAbs) : Int) else (val64 (qrg k Z.natAbs) : Int)
theorem qsv_mono {k : Nat} (hk : 1 ≤ k) {Y Z : Int} (h : Y ≤ Z) : qsv k Y ≤ qsv k Z := by
  unfold qsv
  by_cases hy : Y < 0
  · rw [if_pos hy]
    by_cases hz : Z < 0
    · rw [if_pos hz]
      have := val_le64 (qrg_mono (k := k) hk (show Z.natAbs ≤ Y.natAbs by omega))
      omega
    · rw [if_neg hz]; omega
  · rw [if_neg hy, if_neg (by omega)]
    have := val_le64 (qrg_mono (k := k) hk (show Y.natAbs ≤ Z.natAbs by omega))
    omega
theorem nar_quo {D k e : Nat} {Z : Int} (hD : Wb D Z) (hk : 1 ≤ k) (hk2 : k ≤ 16384) (hz : Z.natAbs ≤ 2 ^ e) (he : e ≤ 1900) : srung32 (narW (opT .quo D (floatOfInt .f64 (k : Int)))) = RS (qsv k Z) ∧ nanN (narW (opT .quo D (floatOfInt .f64 (k : Int)))) = false := by
  rw [quo_word hD hk hk2]
  have hf := qrg_fin hk hz he
  obtain ⟨k1, k2⟩ := sgn_word64 (sgn64 D) (r := qrg k Z.natAbs) (by omega)
  unfold narW
  rw [read_fin64 (by rw [k2]; exact hf), k1, k2]
  have hsz : Z ≠ 0 → sgn64 D = decide (Z < 0) := fun h => by
    have := signed_sign (s := sgn64 D) (m := mag64 (rung64 D)) (k := plc64 (rung64 D))
    rw [← sval_signed64q, hD.val] at this
    exact this h
  have habs : (qsv k Z).natAbs = val64 (qrg k Z.natAbs) := by unfold qsv; split <;> omega
  refine srung_told (fun h => ?_) ?_
  · have hZ : Z ≠ 0 := fun e => h (by
      rw [e]; unfold qsv qrg sqV
      simp [rungOf_zero]
      decide)
    rw [hsz hZ]
    refine decide_eq_decide.2 ⟨fun g => ?_, fun g => ?_⟩
    · have : qsv k Z = -(val64 (qrg k Z.natAbs) : Int) := by unfold qsv; rw [if_pos g]
      omega
    · rcases Int.lt_or_le Z 0 with c | c
      · exact c
      · have : qsv k Z = (val64 (qrg k Z.natAbs) : Int) := by unfold qsv; rw [if_neg (by omega)]
        omega
  · rw [habs]
    unfold val64
    rw [rung_scale]
theorem qsv_exact {k x : Nat} (hx : rung32 x < 2139095040) (hk : 1 ≤ k) : qsv k ((k : Int) * sampleZ x) = sampleZ x := by
  obtain ⟨m, g, a, b, c⟩ := X_formq hx
  have hv := (kX_valq (X := sampleZ x) (k := 1) a b c (by decide)).1
  rw [Int.one_mul] at hv
  have ha : ((k : Int) * sampleZ x).natAbs = k * (sampleZ x).natAbs := by rw [Int.natAbs_mul, Int.natAbs_natCast]
  unfold qsv
  rw [ha, qrg_exact hk, hv]
  rcases Int.lt_or_le (sampleZ x) 0 with h | h
  · rw [if_pos (Int.mul_neg_of_pos_of_neg (by omega) h)]; omega
  · rw [if_neg (by have := Int.mul_nonneg (show (0 : Int) ≤ (k : Int) by omega) h; omega)]; omega
/-- A kernel's weights, of finite samples. -/
theorem mix_key {kind : Int} {r : Nat} (hr : r ≤ 7) (hw : bwE kind r = 0) {S : Nat → Nat} (hS : ∀ i, i < 2 * r + 1 → rung32 (S i) < 2139095040) : ∃ k : Nat, 1 ≤ k ∧ srung32 (mixB kind r S) = RS (qsv k (racc (bwV kind r) S (2 * r))) ∧ nanN (mixB kind r S) = false ∧ (k : Int) = smW (bwV kind r) (2 * r + 1) := by
  obtain ⟨j, hj⟩ : ∃ j : Nat, j = 1230 := ⟨_, rfl⟩
  have hs := bw_sum hw hr
  obtain ⟨w1, w2⟩ := wac_wb (W := bwV kind r) (S := S) hj (2 * r) (by omega) (fun i hi => ⟨hS i (by omega), bw_bd hr i (by omega)⟩)
  obtain ⟨k, hk⟩ : ∃ k : Nat, smW (bwV kind r) (2 * r + 1) = (k : Int) := ⟨(smW (bwV kind r) (2 * r + 1)).toNat, by omega⟩
  rw [hk] at hs
  have := nar_quo w1 (k := k) (by omega) (by omega) w2 (by omega)
  refine ⟨k, by omega, ?_, ?_, hk.symm⟩
  · unfold mixB wghV
    rw [hk]
    exact this.1
  · unfold mixB wghV
    rw [hk]
    exact this.2
theorem mix_rises {kind : Int} {r : Nat} (hr : r ≤ 7) (hw : bwE kind r = 0) {S T : Nat → Nat} (hS : ∀ i, i < 2 * r + 1 → rung32 (S i) < 2139095040) (hT : ∀ i, i < 2 * r + 1 → rung32 (T i) < 2139095040) (hle : ∀ i, i < 2 * r + 1 → srung32 (S i) ≤ srung32 (T i)) : srung32 (mixB kind r S) ≤ srung32 (mixB kind r T) := by
  obtain ⟨k, k1, k2, _, k4⟩ := mix_key hr hw hS
  obtain ⟨l, l1, l2, _, l4⟩ := mix_key hr hw hT
  have e : l = k := by omega
  subst e
  rw [k2, l2]
  exact RS_mono (qsv_mono k1 (racc_mono _ (fun i hi => ⟨(bw_bd hr i (by omega)).1, hle i (by omega)⟩)))
end Go.Proofs.Ytedaacddnahjkaa
/- Blurs of planes: one sample stays; they rise. Plain. -/
namespace Go.Proofs.Ytedaacddnahjkaa
open Go.RowKit
set_option linter.unusedVariables false
set_option linter.unusedSimpArgs false

theorem wac_congr {W : Nat → Int} {S T : Nat → Nat} : ∀ k : Nat, (∀ i, i ≤ k → S i = T i) → wac W S k = wac W T k
  | 0, h => by unfold wac wpr; rw [h 0 (by omega)]
  | k + 1, h => by unfold wac wpr; rw [wac_congr k (fun i hi => h i (by omega)), h (k + 1) (by omega)]
theorem mixB_congr {kind : Int} {r : Nat} {S T : Nat → Nat} (h : ∀ i, i < 2 * r + 1 → S i = T i) : mixB kind r S = mixB kind r T := by
  unfold mixB wghV
  rw [wac_congr (2 * r) (fun i hi => h i (by omega))]
theorem racc_const {W : Nat → Int} {x : Nat} (hx : rung32 x < 2139095040) : ∀ k : Nat, k ≤ 14 → (∀ i, i ≤ k → 0 ≤ W i ∧ W i ≤ 3432) → racc W (fun _ => x) k = smW W (k + 1) * sampleZ x
  | 0, _, _ => by show W 0 * sampleZ x = (0 + W 0) * sampleZ x; rw [Int.zero_add]
  | k + 1, hk, h => by
    have ih := racc_const hx k (by omega) (fun i hi => h i (by omega))
    have hb := smW_bd (W := W) (B := 3432) (by decide) (k + 2) (fun i hi => h i (by omega))
    have e : smW W (k + 1) * sampleZ x + W (k + 1) * sampleZ x = smW W (k + 2) * sampleZ x := by
      show _ = (smW W (k + 1) + W (k + 1)) * sampleZ x
      rw [Int.add_mul]
    unfold racc
    rw [ih, e]
    obtain ⟨m, g, a, b, c⟩ := X_formq hx
    have hn : (smW W (k + 2)).natAbs ≤ 2 ^ 28 := by
      have : (2 : Nat) ^ 28 = 268435456 := by decide
      have : ((k + 2 : Nat) : Int) * 3432 ≤ 16 * 3432 := Int.mul_le_mul_of_nonneg_right (by omega) (by decide)
      omega
    have := (kX_valq (X := sampleZ x) (k := smW W (k + 2)) a b c hn).1
    clear ih e hb hn
    generalize smW W (k + 2) * sampleZ x = Z at *
    unfold RN
    split <;> omega
theorem word_of_srung {a b : Nat} (ha : a < 4294967296) (hb : b < 4294967296) (h : srung32 a = srung32 b) (h0 : srung32 b ≠ 0) : a = b := by
  unfold srung32 sgn32 rung32 at h h0
  have a1 : a / 2147483648 = 0 ∨ a / 2147483648 = 1 := by omega
  have b1 : b / 2147483648 = 0 ∨ b / 2147483648 = 1 := by omega
  rcases a1 with a1 | a1 <;> rcases b1 with b1 | b1 <;> rw [a1, b1] at h <;> rw [b1] at h0 <;> simp at h h0 <;> omega
theorem mix_four : ∀ (r : Fin 8) (k : Fin 2), ∀ x ∈ [0, 2147483648, 2139095040, 4286578688], mixB ((k.val : Int) + 1) r.val (fun _ => x) = x := by decide +kernel
theorem mix_const {kind : Int} {r : Nat} (hr : r ≤ 7) (hw : bwE kind r = 0) {S : Nat → Nat} {x : Nat} (hx : rung32 x ≤ 2139095040) (hx4 : x < 4294967296) (hS : ∀ i, i < 2 * r + 1 → S i = x) : mixB kind r S = x := by
  rw [mixB_congr (T := fun _ => x) hS]
  by_cases hz : srung32 x = 0 ∨ rung32 x = 2139095040
  · have hm : x ∈ [0, 2147483648, 2139095040, 4286578688] := by
      simp only [List.mem_cons, List.not_mem_nil, or_false]
      unfold srung32 rung32 at hz
      unfold rung32 at hx
      rcases hz with h | h
      · split at h <;> omega
      · omega
    rcases bw_kind hw with rfl | rfl
    · exact mix_four ⟨r, by omega⟩ 0 x hm
    · exact mix_four ⟨r, by omega⟩ 1 x hm
  · have hf : rung32 x < 2139095040 := by omega
    obtain ⟨k, k1, k2, _, k4⟩ := mix_key hr hw (S := fun _ => x) (fun _ _ => hf)
    rw [racc_const hf (2 * r) (by omega) (fun i hi => bw_bd hr i (by omega)), ← k4, qsv_exact hf k1, RS_self hf] at k2
    exact word_of_srung (mixB_lt _ _ _) hx4 k2 (by omega)
theorem fin_of_srungb {x : Nat} (h : -2139095040 < srung32 x ∧ srung32 x < 2139095040) : rung32 x < 2139095040 := by
  unfold srung32 at h
  split at h <;> omega
theorem mix_between {kind : Int} {r : Nat} (hr : r ≤ 7) (hw : bwE kind r = 0) {S : Nat → Nat} {lo hi : Nat} (hlo : rung32 lo < 2139095040 ∧ lo < 4294967296) (hhi : rung32 hi < 2139095040 ∧ hi < 4294967296) (hS : ∀ i, i < 2 * r + 1 → rung32 (S i) < 2139095040 ∧ srung32 lo ≤ srung32 (S i) ∧ srung32 (S i) ≤ srung32 hi) : srung32 lo ≤ srung32 (mixB kind r S) ∧ srung32 (mixB kind r S) ≤ srung32 hi ∧ rung32 (mixB kind r S) < 2139095040 := by
  have cl := mix_const hr hw (S := fun _ => lo) (x := lo) (by omega) hlo.2 (fun _ _ => rfl)
  have ch := mix_const hr hw (S := fun _ => hi) (x := hi) (by omega) hhi.2 (fun _ _ => rfl)
  have r1 := mix_rises hr hw (S := fun _ => lo) (T := S) (fun _ _ => hlo.1) (fun i h => (hS i h).1) (fun i h => (hS i h).2.1)
  have r2 := mix_rises hr hw (S := S) (T := fun _ => hi) (fun i h => (hS i h).1) (fun _ _ => hhi.1) (fun i h => (hS i h).2.2)
  rw [cl] at r1
  rw [ch] at r2
  have f1 := fin_srung hlo.1
  have f2 := fin_srung hhi.1
  exact ⟨r1, r2, fin_of_srungb ⟨by omega, by omega⟩⟩
theorem lohi_b {y : Nat} (h : rung32 y < 2139095040) : rung32 y < 2139095040 ∧ srung32 4286578687 ≤ srung32 y ∧ srung32 y ≤ srung32 2139095039 := by
  have := fin_srung h
  have e1 : srung32 4286578687 = -2139095039 := by decide
  have e2 : srung32 2139095039 = 2139095039 := by decide
  rw [e1, e2]
  exact ⟨h, by omega, by omega⟩
/-- Where a window of a line lies. -/
theorem row_in {k pa pb j t r : Nat} (hpa : 0 < pa) (hj : j < pa * pb) : (j / pa) * pa + (borV k pa (((j % pa : Nat) : Int) + (t : Int) - (r : Int))).toNat < pa * pb := by
  have hb := borV_lt (k := k) (n := (pa : Int)) (((j % pa : Nat) : Int) + (t : Int) - (r : Int)) (by omega)
  have hd : j / pa < pb := Nat.div_lt_of_lt_mul hj
  have : (j / pa + 1) * pa ≤ pb * pa := Nat.mul_le_mul_right _ hd
  rw [Nat.add_mul, Nat.one_mul, Nat.mul_comm pb pa] at this
  omega
theorem col_in {k pa pb j t r : Nat} (hpa : 0 < pa) (hpb : 0 < pb) : (borV k pb (((j / pa : Nat) : Int) + (t : Int) - (r : Int))).toNat * pa + j % pa < pa * pb := by
  have hb := borV_lt (k := k) (n := (pb : Int)) (((j / pa : Nat) : Int) + (t : Int) - (r : Int)) (by omega)
  have hm := Nat.mod_lt j hpa
  have hbl : (borV k pb (((j / pa : Nat) : Int) + (t : Int) - (r : Int))).toNat + 1 ≤ pb := by omega
  generalize (borV k pb (((j / pa : Nat) : Int) + (t : Int) - (r : Int))).toNat = b at hbl ⊢
  have : (b + 1) * pa ≤ pb * pa := Nat.mul_le_mul_right _ hbl
  rw [Nat.add_mul, Nat.one_mul, Nat.mul_comm pb pa] at this
  omega
theorem blu_const {kind : Int} {r k pa pb x : Nat} {S : List Nat} (hr : r ≤ 7) (hw : bwE kind r = 0) (hpa : 0 < pa) (hpb : 0 < pb) (hx : rung32 x ≤ 2139095040) (hx4 : x < 4294967296) (hS : ∀ i, i < pa * pb → S.getD i 0 = x) {j : Nat} (hj : j < pa * pb) : bluV kind r k pa pb S j = x := by
  unfold bluV colB alV
  refine mix_const hr hw hx hx4 (fun t ht => ?_)
  have h1 := col_in (k := k) (j := j) (t := t) (r := r) hpa hpb
  show (tabB (pa * pb) _).getD ((borV k pb (((j / pa : Nat) : Int) + (t : Int) - (r : Int))).toNat * pa + j % pa) 0 = x
  rw [tabB_at h1]
  unfold rowB alV
  refine mix_const hr hw hx hx4 (fun u hu => ?_)
  exact hS _ (row_in hpa h1)
theorem blu_rises {kind : Int} {r k pa pb : Nat} {S T : List Nat} (hr : r ≤ 7) (hw : bwE kind r = 0) (hpa : 0 < pa) (hpb : 0 < pb) (hS : ∀ i, i < pa * pb → rung32 (S.getD i 0) < 2139095040) (hT : ∀ i, i < pa * pb → rung32 (T.getD i 0) < 2139095040) (hle : ∀ i, i < pa * pb → srung32 (S.getD i 0) ≤ srung32 (T.getD i 0)) {j : Nat} (hj : j < pa * pb) : srung32 (bluV kind r k pa pb S j) ≤ srung32 (bluV kind r k pa pb T j) := by
  have fl : ∀ V : List Nat, (∀ i, i < pa * pb → rung32 (V.getD i 0) < 2139095040) → ∀ i, i < pa * pb → rung32 (rowB (mixB kind r) r k pa V i) < 2139095040 := fun V hV i hi => by
    unfold rowB alV
    refine (mix_between hr hw (lo := 4286578687) (hi := 2139095039) ⟨by decide, by decide⟩ ⟨by decide, by decide⟩ (fun t ht => ?_)).2.2
    exact lohi_b (hV _ (row_in (k := k) (t := t) (r := r) hpa hi))
  unfold bluV colB alV
  refine mix_rises hr hw (fun t ht => ?_) (fun t ht => ?_) (fun t ht => ?_)
  · have h1 := col_in (k := k) (j := j) (t := t) (r := r) hpa hpb
    show rung32 ((tabB (pa * pb) _).getD ((borV k pb (((j / pa : Nat) : Int) + (t : Int) - (r : Int))).toNat * pa + j % pa) 0) < _
    rw [tabB_at h1]; exact fl S hS _ h1
  · have h1 := col_in (k := k) (j := j) (t := t) (r := r) hpa hpb
    show rung32 ((tabB (pa * pb) _).getD ((borV k pb (((j / pa : Nat) : Int) + (t : Int) - (r : Int))).toNat * pa + j % pa) 0) < _
    rw [tabB_at h1]; exact fl T hT _ h1
  · have h1 := col_in (k := k) (j := j) (t := t) (r := r) hpa hpb
    show srung32 ((tabB (pa * pb) _).getD ((borV k pb (((j / pa : Nat) : Int) + (t : Int) - (r : Int))).toNat * pa + j % pa) 0) ≤ srung32 ((tabB (pa * pb) _).getD ((borV k pb (((j / pa : Nat) : Int) + (t : Int) - (r : Int))).toNat * pa + j % pa) 0)
    rw [tabB_at h1, tabB_at h1]
    unfold rowB alV
    exact mix_rises hr hw (fun u _ => hS _ (row_in hpa h1)) (fun u _ => hT _ (row_in hpa h1)) (fun u _ => hle _ (row_in hpa h1))
theorem blu_between {kind : Int} {r k pa pb lo hi : Nat} {S : List Nat} (hr : r ≤ 7) (hw : bwE kind r = 0) (hpa : 0 < pa) (hpb : 0 < pb) (hlo : rung32 lo < 2139095040 ∧ lo < 4294967296) (hhi : rung32 hi < 2139095040 ∧ hi < 4294967296) (hS : ∀ i, i < pa * pb → rung32 (S.getD i 0) < 2139095040 ∧ srung32 lo ≤ srung32 (S.getD i 0) ∧ srung32 (S.getD i 0) ≤ srung32 hi) {j : Nat} (hj : j < pa * pb) : srung32 lo ≤ srung32 (bluV kind r k pa pb S j) ∧ srung32 (bluV kind r k pa pb S j) ≤ srung32 hi ∧ rung32 (bluV kind r k pa pb S j) < 2139095040 := by
  unfold bluV colB alV
  refine mix_between hr hw hlo hhi (fun t ht => ?_)
  have h1 := col_in (k := k) (j := j) (t := t) (r := r) hpa hpb
  show rung32 ((tabB (pa * pb) _).getD ((borV k pb (((j / pa : Nat) : Int) + (t : Int) - (r : Int))).toNat * pa + j % pa) 0) < _ ∧ _ ≤ srung32 ((tabB (pa * pb) _).getD ((borV k pb (((j / pa : Nat) : Int) + (t : Int) - (r : Int))).toNat * pa + j % pa) 0) ∧ srung32 ((tabB (pa * pb) _).getD ((borV k pb (((j / pa : Nat) : Int) + (t : Int) - (r : Int))).toNat * pa + j % pa) 0) ≤ _
  rw [tabB_at h1]
  unfold rowB alV
  have := mix_between (S := fun u => S.getD ((((borV k pb (((j / pa : Nat) : Int) + (t : Int) - (r : Int))).toNat * pa + j % pa) / pa) * pa + (borV k pa ((((((borV k pb (((j / pa : Nat) : Int) + (t : Int) - (r : Int))).toNat * pa + j % pa) % pa : Nat)) : Int) + (u : Int) - (r : Int))).toNat) 0) hr hw hlo hhi (fun u _ => hS _ (row_in hpa h1))
  exact ⟨this.2.2, this.1, this.2.1⟩
end Go.Proofs.Ytedaacddnahjkaa
/- Values of finite samples: their order, the lesser and the greater of two. -/
namespace Go.Proofs.Ytedaacddnahjkaa
open Go.RowKit
set_option linter.unusedVariables false
set_option linter.unusedSimpArgs false

theorem ord_fin {a b : Nat} (ha : rung32 a < 2139095040) (hb : rung32 b < 2139095040) : Ieee.double.order (wideN a) (wideN b) = some (compare (srung32 a) (srung32 b)) := by
  rw [order_fin64 (wide_fin ha).1 (wide_fin hb).1, ← sval_srung64, (wide_fin ha).2.2, (wide_fin hb).2.2, samp_eq a rfl, samp_eq b rfl, cmp_scale (by exact Int.pow_pos (by decide)), sval_srung32]
theorem run_minw {a b : Nat} (ha : rung32 a < 2139095040) (hb : rung32 b < 2139095040) : ∃ c, (c = a ∨ c = b) ∧ srung32 c ≤ srung32 a ∧ srung32 c ≤ srung32 b ∧ ∀ (at' : Array TypeId) (ty : TypeId) (w : World), (Builtin.min_ at' ty #[.float .f64 (wideN a), .float .f64 (wideN b)]).run Try.prog w = .ok (.float .f64 (wideN c)) w := by
  have h := ord_fin ha hb
  have h' : FloatKind.f64.format.order (wideN a) (wideN b) = some (compare (srung32 a) (srung32 b)) := h
  cases hc : compare (srung32 a) (srung32 b) with
  | lt =>
    have := Int.compare_eq_lt.1 hc
    refine ⟨a, Or.inl rfl, by omega, by omega, fun at' ty w => ?_⟩
    simp [Builtin.min_, Builtin.min2, h', hc, go_sem]
  | gt =>
    have := Int.compare_eq_gt.1 hc
    refine ⟨b, Or.inr rfl, by omega, by omega, fun at' ty w => ?_⟩
    simp [Builtin.min_, Builtin.min2, h', hc, go_sem]
  | eq =>
    have := Int.compare_eq_eq.1 hc
    by_cases hn : (FloatKind.f64.decode (wideN a)).neg = true
    · refine ⟨a, Or.inl rfl, by omega, by omega, fun at' ty w => ?_⟩
      simp [Builtin.min_, Builtin.min2, h', hc, hn, go_sem]
    · refine ⟨b, Or.inr rfl, by omega, by omega, fun at' ty w => ?_⟩
      simp [Builtin.min_, Builtin.min2, h', hc, hn, go_sem]
theorem run_maxw {a b : Nat} (ha : rung32 a < 2139095040) (hb : rung32 b < 2139095040) : ∃ c, (c = a ∨ c = b) ∧ srung32 a ≤ srung32 c ∧ srung32 b ≤ srung32 c ∧ ∀ (at' : Array TypeId) (ty : TypeId) (w : World), (Builtin.max_ at' ty #[.float .f64 (wideN a), .float .f64 (wideN b)]).run Try.prog w = .ok (.float .f64 (wideN c)) w := by
  have h := ord_fin ha hb
  have h' : FloatKind.f64.format.order (wideN a) (wideN b) = some (compare (srung32 a) (srung32 b)) := h
  cases hc : compare (srung32 a) (srung32 b) with
  | lt =>
    have := Int.compare_eq_lt.1 hc
    refine ⟨b, Or.inr rfl, by omega, by omega, fun at' ty w => ?_⟩
    simp [Builtin.max_, Builtin.max2, h', hc, go_sem]
  | gt =>
    have := Int.compare_eq_gt.1 hc
    refine ⟨a, Or.inl rfl, by omega, by omega, fun at' ty w => ?_⟩
    simp [Builtin.max_, Builtin.max2, h', hc, go_sem]
  | eq =>
    have := Int.compare_eq_eq.1 hc
    by_cases hn : (FloatKind.f64.decode (wideN a)).neg = true
    · refine ⟨b, Or.inr rfl, by omega, by omega, fun at' ty w => ?_⟩
      simp [Builtin.max_, Builtin.max2, h', hc, hn, go_sem]
    · refine ⟨a, Or.inl rfl, by omega, by omega, fun at' ty w => ?_⟩
      simp [Builtin.max_, Builtin.max2, h', hc, hn, go_sem]
end Go.Proofs.Ytedaacddnahjkaa
/- Lists of samples that are the same. -/
namespace Go.Proofs.Ytedaacddnahjkaa
open Go.RowKit
set_option linter.unusedVariables false
set_option linter.unusedSimpArgs false

set_option maxHeartbeats 4000000 in
set_option maxRecDepth 100000 in
theorem words_eq (v v' : Value) (xs : List Nat) (w : World) (h : USl w v xs) (h' : USl w v' xs) (hn : xs.length ≤ 9223372036854775807) :
    Calls Try.prog 42 #[v, v'] w fun e w' => e = .returned (.bool true) ∧ Q w w' := by
  obtain ⟨a, cap, ev⟩ := h.form
  obtain ⟨a', cap', ev'⟩ := h'.form
  subst ev ev'
  have HS : Hid (USl w (.slice a xs.length cap) xs) := h
  have HT : Hid (USl w (.slice a' xs.length cap') xs) := h'
  obtain ⟨n, en⟩ : ∃ n, xs.length = n := ⟨_, rfl⟩
  have HN : Hid (xs.length = n) := en
  rw [en] at HS HT hn ⊢
  have hnn : ((n : Int) == (n : Int)) = true := by simp
  clear h h' en
  go_enter Try.func42, Try.ntmps42
  go_wp2_with fail
  go_loopg [5] n (fun m s5 wx => ∃ i : Nat, s5 = .int .i64 i ∧ i + m = n ∧ Hid (Q w wx))
  case atStart => exact ⟨0, rfl, by omega, Q.refl w⟩
  case round =>
    obtain ⟨i, rfl, him, HQ⟩ := hrel
    by_cases hi : i < n
    · have hi0 : (0 : Int) ≤ (i : Int) := by omega
      have hi1 : (i : Int) < (n : Int) := by omega
      obtain ⟨g, o, c, e1, e2, e3⟩ := HS.out.some (by rw [HN.out]; omega)
      obtain ⟨g', o', c', f1, f2, f3⟩ := HT.out.some (by rw [HN.out]; omega)
      injection e1 with e1 hh1 hh2
      clear hh1 hh2
      injection f1 with f1 hh1 hh2
      clear hh1 hh2
      subst e1 f1
      have c1 := HQ.out.cell (e3 i (by rw [HN.out]; exact hi))
      have c2 := HQ.out.cell (f3 i (by rw [HN.out]; exact hi))
      obtain ⟨z, hz⟩ : ∃ z, xs.getD i 0 = z := ⟨_, rfl⟩
      rw [hz] at c1 c2
      have hzz : ((z : Int) == (z : Int)) = true := by simp
      have n0 := qw_some wr
      have d1 := qw_cell c1
      have d2 := qw_cell c2
      clear hz e2 e3 f2 f3
      go_wp2_with fail
      refine wp_region_quiet_Q (by kernel_rfl) (by kernel_rfl) ?_
      repeat (first | go_big_quiet_step (fail) | quiet_step (fail))
      refine wpQuiet_nil ?_
      intro w4 hw'
      have hq4 := qw_out hw'
      have HQ4 : Hid (Q w w4) := HQ.out.trans hq4
      clear hw' n0 d1 d2
      go_wp2_with fail
      go_roundg (n - (i + 1))
      case measure => go_light; omega
      case rel => go_light; exact ⟨i + 1, by go_num, by omega, HQ4⟩
    · have hie : i = n := by omega
      go_wp2_with fail
      go_ret
      exact ⟨rfl, HQ.out⟩
end Go.Proofs.Ytedaacddnahjkaa

/- blur: Blur. -/
import Derived.Test.YtpobgkcobgecoabGe6b772ff
import Derived.Laws.EntriesVeiled
namespace Go.Proofs.Ytpobgkcobgecoab
open Go.RowKit
set_option linter.unusedVariables false
set_option linter.unusedSimpArgs false

set_option maxHeartbeats 1000000 in
theorem refusal_b (bd : Int) (w : World) : Calls Try.prog 24 #[.int .i64 bd] w fun e w' => e = .returned (.int .i64 (borE bd 1)) ∧ w' = w := by
  have C := border_any bd 1 0 w
  generalize borA bd 1 0 = A at C
  generalize borE bd 1 = E at C ⊢
  go_enter Try.func24, Try.ntmps24
  go_wp2_with fail
  refine C.mono ?_
  rintro e w1 ⟨rfl, hw⟩
  obtain rfl := hw.symm
  clear hw C
  go_wp2_with fail
  go_ret
  exact ⟨rfl, rfl⟩
theorem borE_one (bd : Int) : borE bd 1 = if bd = 1 ∨ bd = 2 ∨ bd = 3 then 0 else 53 := by
  unfold borE
  rw [if_pos (show sideB 1 = true by decide)]
def blE (pw ph : Int) (n : Nat) (kind r bd : Int) : Int := if chk pw ph n = 0 then (if bwE kind r = 0 then borE bd 1 else 110) else chk pw ph n
theorem blE_ok {pw ph : Int} {n : Nat} {kind r bd : Int} (h : blE pw ph n kind r bd = 0) : ∃ pa pb rr k : Nat, pw = (pa : Int) ∧ ph = (pb : Int) ∧ Size pa pb ∧ n = pa * pb ∧ r = (rr : Int) ∧ rr ≤ 7 ∧ bwE kind rr = 0 ∧ bd = (k : Int) ∧ (k = 1 ∨ k = 2 ∨ k = 3) := by
  unfold blE at h
  split at h
  · rename_i hc
    split at h
    · rename_i hb
      obtain ⟨a, b, rfl, rfl, h1, h2⟩ := chk_zero hc
      have hr : 0 ≤ r ∧ r ≤ 7 := by
        unfold bwE at hb
        split at hb
        · rename_i g; exact ⟨g.1, g.2.1⟩
        · cases hb
      rw [borE_one] at h
      have hk : bd = 1 ∨ bd = 2 ∨ bd = 3 := by
        split at h
        · assumption
        · cases h
      obtain ⟨rr, rfl⟩ : ∃ m : Nat, r = (m : Int) := ⟨r.toNat, by omega⟩
      obtain ⟨k, rfl⟩ : ∃ m : Nat, bd = (m : Int) := ⟨bd.toNat, by omega⟩
      exact ⟨a, b, rr, k, rfl, rfl, h1, h2, rfl, by omega, hb, rfl, by omega⟩
    · cases h
  · rename_i g; exact absurd h g
set_option maxHeartbeats 4000000 in
set_option maxRecDepth 100000 in
theorem blur_bad (pw ph : Int) (ad : Option Addr) (n c : Nat) (kind r bd : Int) (hn : n ≤ 9223372036854775807) (hE : blE pw ph n kind r bd ≠ 0) (w : World) :
    Calls Try.prog 9 #[.agg #[.int .i64 pw, .int .i64 ph, .slice ad n c], .int .i64 kind, .int .i64 r, .int .i64 bd] w fun e w' => e = .returned (.tuple #[.agg #[.int .i64 0, .int .i64 0, .slice none 0 0], .int .i64 (blE pw ph n kind r bd)]) ∧ Q w w' := by
  obtain ⟨w1, hw1⟩ : ∃ w1, (w.alloc (.cells #[.int .i64 pw, .int .i64 ph, .slice ad n c] 24)).alloc (.cells #[.int .i64 0, .int .i64 0, .slice none 0 0] 24) = w1 := ⟨_, rfl⟩
  have q1 : Q w w1 := by rw [← hw1]; exact ((Q.refl w).cells _ _).cells _ _
  have k0 : w1.cell? ⟨w.heap.size, 0, none⟩ = some (.int .i64 pw) := by rw [← hw1]; simp [go_sem]
  have k1 : w1.cell? ⟨w.heap.size, 1, none⟩ = some (.int .i64 ph) := by rw [← hw1]; simp [go_sem]
  have k2 : w1.cell? ⟨w.heap.size, 2, none⟩ = some (.slice ad n c) := by rw [← hw1]; simp [go_sem]
  have HR : Hid (w1.cell? ⟨w.heap.size + 1, 0, none⟩ = some (.int .i64 0) ∧ w1.cell? ⟨w.heap.size + 1, 1, none⟩ = some (.int .i64 0) ∧ w1.cell? ⟨w.heap.size + 1, 2, none⟩ = some (.slice none 0 0) ∧ (∀ j, w1.frozen? ⟨w.heap.size + 1, j, none⟩ = false) ∧ w1.heap.size = w.heap.size + 2) := by
    rw [← hw1]
    exact ⟨by simp [go_sem], by simp [go_sem], by simp [go_sem], fun j => by simp [go_sem], by simp⟩
  have HQ1 : Hid (Q w w1) := q1
  have C1 := check_any pw ph ad n c hn w1
  by_cases hc : chk pw ph n = 0
  rotate_left
  · have hb : blE pw ph n kind r bd = chk pw ph n := by unfold blE; rw [if_neg hc]
    rw [hb]
    generalize chk pw ph n = E at *
    have hE0 : (E != 0) = true := by simpa using hc
    clear hE hb q1
    go_enter Try.func9, Try.ntmps9
    go_wp2_with fail
    refine C1.mono ?_
    rintro e w2 ⟨rfl, q2⟩
    clear C1 k0 k1 k2 hw1
    have o0 := q2.cell HR.out.1
    have o1 := q2.cell HR.out.2.1
    have o2 := q2.cell HR.out.2.2.1
    have fo0 : w2.frozen? ⟨w.heap.size + 1, 0, none⟩ = false := by rw [q2.2]; exact HR.out.2.2.2.1 0
    have fo1 : w2.frozen? ⟨w.heap.size + 1, 1, none⟩ = false := by rw [q2.2]; exact HR.out.2.2.2.1 1
    have fo2 : w2.frozen? ⟨w.heap.size + 1, 2, none⟩ = false := by rw [q2.2]; exact HR.out.2.2.2.1 2
    have HZ9X : Hid (Q w1 w2) := q2
    go_wp2_with fail
    have hl' : w.heap.size ≤ w.heap.size + 1 := by omega
    exact bodyPost_ret (v := .tuple #[.agg #[.int .i64 0, .int .i64 0, .slice none 0 0], .int .i64 E]) (by simp [results, Try.results9, go_sem, o0, o1, o2]) rfl ⟨rfl, (((HQ1.out.trans HZ9X.out).set hl' _).set hl' _).set hl' _⟩
  rw [hc] at C1
  by_cases hw : bwE kind r = 0
  rotate_left
  · have hb : blE pw ph n kind r bd = 110 := by unfold blE; rw [if_pos hc, if_neg hw]
    rw [hb]
    have HW : Hid (∀ x : World, Calls Try.prog 14 #[.int .i64 kind, .int .i64 r] x fun e w' => e = .returned (.tuple #[.slice none 0 0, .int .i64 110]) ∧ w' = x) := fun x => weights_bad kind r hw x
    clear hE hb q1 hc hw
    go_enter Try.func9, Try.ntmps9
    go_wp2_with fail
    refine C1.mono ?_
    rintro e w2 ⟨rfl, q2⟩
    clear C1 k0 k1 k2 hw1
    go_wp2_with fail
    refine (HW.out w2).mono ?_
    rintro e w3 ⟨rfl, hw3⟩
    obtain rfl := hw3.symm
    clear hw3
    have o0 := q2.cell HR.out.1
    have o1 := q2.cell HR.out.2.1
    have o2 := q2.cell HR.out.2.2.1
    have fo0 : w2.frozen? ⟨w.heap.size + 1, 0, none⟩ = false := by rw [q2.2]; exact HR.out.2.2.2.1 0
    have fo1 : w2.frozen? ⟨w.heap.size + 1, 1, none⟩ = false := by rw [q2.2]; exact HR.out.2.2.2.1 1
    have fo2 : w2.frozen? ⟨w.heap.size + 1, 2, none⟩ = false := by rw [q2.2]; exact HR.out.2.2.2.1 2
    have HZ9X : Hid (Q w1 w2) := q2
    go_wp2_with fail
    have hl' : w.heap.size ≤ w.heap.size + 1 := by omega
    exact bodyPost_ret (v := .tuple #[.agg #[.int .i64 0, .int .i64 0, .slice none 0 0], .int .i64 110]) (by simp [results, Try.results9, go_sem, o0, o1, o2]) rfl ⟨rfl, (((HQ1.out.trans HZ9X.out).set hl' _).set hl' _).set hl' _⟩
  have hb : blE pw ph n kind r bd = borE bd 1 := by unfold blE; rw [if_pos hc, if_pos hw]
  rw [hb] at hE ⊢
  have hr7 : 0 ≤ r ∧ r ≤ 7 := by
    unfold bwE at hw
    split at hw
    · rename_i g; exact ⟨g.1, g.2.1⟩
    · cases hw
  obtain ⟨rr, rfl⟩ : ∃ m : Nat, r = (m : Int) := ⟨r.toNat, by omega⟩
  have HW : Hid (∀ x : World, Calls Try.prog 14 #[.int .i64 kind, .int .i64 (rr : Int)] x fun e w' => ∃ g, e = .returned (.tuple #[.slice (some ⟨g, 0, none⟩) (2 * rr + 1) (2 * rr + 1), .int .i64 0]) ∧ VR w' g (2 * rr + 1) (fun i => .int .i64 (bwV kind rr i)) ∧ x.heap.size ≤ g ∧ Q x w') := fun x => weights_good kind rr hw x
  have HF : Hid (∀ x : World, Calls Try.prog 24 #[.int .i64 bd] x fun e w' => e = .returned (.int .i64 (borE bd 1)) ∧ w' = x) := fun x => refusal_b bd x
  generalize borE bd 1 = E at *
  have hE0 : (E != 0) = true := by simpa using hE
  clear hE hb q1 hc hw hr7
  go_enter Try.func9, Try.ntmps9
  go_wp2_with fail
  refine C1.mono ?_
  rintro e w2 ⟨rfl, q2⟩
  clear C1 k0 k1 k2 hw1
  go_wp2_with fail
  refine (HW.out w2).mono ?_
  rintro e w3 ⟨g, rfl, h4, h5, q3⟩
  have q23 : Q w1 w3 := q2.trans q3
  clear h4 h5 q3 q2
  go_wp2_with fail
  refine (HF.out w3).mono ?_
  rintro e w4 ⟨rfl, hw4⟩
  obtain rfl := hw4.symm
  clear hw4
  have o0 := q23.cell HR.out.1
  have o1 := q23.cell HR.out.2.1
  have o2 := q23.cell HR.out.2.2.1
  have fo0 : w3.frozen? ⟨w.heap.size + 1, 0, none⟩ = false := by rw [q23.2]; exact HR.out.2.2.2.1 0
  have fo1 : w3.frozen? ⟨w.heap.size + 1, 1, none⟩ = false := by rw [q23.2]; exact HR.out.2.2.2.1 1
  have fo2 : w3.frozen? ⟨w.heap.size + 1, 2, none⟩ = false := by rw [q23.2]; exact HR.out.2.2.2.1 2
  have HZ9X : Hid (Q w1 w3) := q23
  go_wp2_with fail
  have hl' : w.heap.size ≤ w.heap.size + 1 := by omega
  exact bodyPost_ret (v := .tuple #[.agg #[.int .i64 0, .int .i64 0, .slice none 0 0], .int .i64 E]) (by simp [results, Try.results9, go_sem, o0, o1, o2]) rfl ⟨rfl, (((HQ1.out.trans HZ9X.out).set hl' _).set hl' _).set hl' _⟩
theorem bw_bd {kind : Int} {r : Nat} (hr : r ≤ 7) (i : Nat) (hi : i < 2 * r + 1) : 0 ≤ bwV kind r i ∧ bwV kind r i ≤ 3432 := by
  unfold bwV
  split
  · exact bnV_bd (2 * r) (by omega) i (by omega)
  · omega
theorem bw_sum1 {r : Nat} (hr : r ≤ 7) : smW (bwV 1 r) (2 * r + 1) = 4 ^ r := by
  have : ∀ r : Fin 8, smW (bwV 1 r.val) (2 * r.val + 1) = 4 ^ r.val := by decide +kernel
  exact this ⟨r, by omega⟩
theorem bw_sum2 {r : Nat} (hr : r ≤ 7) : smW (bwV 2 r) (2 * r + 1) = 2 * (r : Int) + 1 := by
  have : ∀ r : Fin 8, smW (bwV 2 r.val) (2 * r.val + 1) = 2 * (r.val : Int) + 1 := by decide +kernel
  exact this ⟨r, by omega⟩
theorem bw_kind {kind : Int} {r : Nat} (h : bwE kind r = 0) : kind = 1 ∨ kind = 2 := by
  unfold bwE at h
  split at h
  · rename_i g; exact g.2.2
  · cases h
theorem bw_sum {kind : Int} {r : Nat} (h : bwE kind r = 0) (hr : r ≤ 7) : 1 ≤ smW (bwV kind r) (2 * r + 1) ∧ smW (bwV kind r) (2 * r + 1) ≤ 16384 := by
  rcases bw_kind h with rfl | rfl
  · rw [bw_sum1 hr]
    have : ∀ r : Fin 8, 1 ≤ (4 : Int) ^ r.val ∧ (4 : Int) ^ r.val ≤ 16384 := by decide +kernel
    exact this ⟨r, by omega⟩
  · rw [bw_sum2 hr]; omega
/-- A list told by its places. -/
def tabB (n : Nat) (F : Nat → Nat) : List Nat := (List.range n).map F
theorem tabB_len (n : Nat) (F : Nat → Nat) : (tabB n F).length = n := by unfold tabB; simp
theorem tabB_at {n j : Nat} {F : Nat → Nat} (h : j < n) : (tabB n F).getD j 0 = F j := by unfold tabB; rw [List.getD_eq_getElem?_getD, List.getElem?_map, List.getElem?_range h]; rfl
theorem narW_lt (x : Nat) : narW x < 4294967296 := toldD_lt _
/-- What the weights of a kernel make of samples. -/
def mixB (kind : Int) (r : Nat) (S : Nat → Nat) : Nat := wghV (2 * r) (bwV kind r) (smW (bwV kind r) (2 * r + 1)) S
theorem mixB_lt (kind : Int) (r : Nat) (S : Nat → Nat) : mixB kind r S < 4294967296 := narW_lt _
def rowB (mixV : (Nat → Nat) → Nat) (r k pa : Nat) (S : List Nat) (j : Nat) : Nat := alV k pa r (fun l i => l * pa + i) S mixV (j / pa) (j % pa)
def colB (mixV : (Nat → Nat) → Nat) (r k pa pb : Nat) (S : List Nat) (j : Nat) : Nat := alV k pb r (fun l i => i * pa + l) S mixV (j % pa) (j / pa)
def bluV (kind : Int) (r k pa pb : Nat) (S : List Nat) (j : Nat) : Nat := colB (mixB kind r) r k pa pb (tabB (pa * pb) (rowB (mixB kind r) r k pa S)) j
set_option maxHeartbeats 8000000 in
set_option maxRecDepth 100000 in
theorem blur_good (kind : Int) (r k pa pb g0 o0 c n : Nat) (S : List Nat) (w : World) (hsz : Size pa pb) (hnn : n = pa * pb) (hS : S.length = n) (hb : ∀ i, S.getD i 0 < 4294967296) (hI : UIs w g0 o0 S) (hr : r ≤ 7) (hk : k = 1 ∨ k = 2 ∨ k = 3) (hw : bwE kind r = 0) :
    Calls Try.prog 9 #[.agg #[.int .i64 (pa : Int), .int .i64 (pb : Int), .slice (some ⟨g0, o0, none⟩) n c], .int .i64 kind, .int .i64 (r : Int), .int .i64 (k : Int)] w fun e w' => ∃ gt, e = .returned (.tuple #[.agg #[.int .i64 (pa : Int), .int .i64 (pb : Int), .slice (some ⟨gt, 0, none⟩) n n], .int .i64 0]) ∧ VR w' gt n (fun j => .int .u32 ((bluV kind r k pa pb S j : Nat) : Int)) ∧ w.heap.size ≤ gt ∧ Q w w' := by
  have hn : n ≤ 9223372036854775807 := by have := hsz.ab; omega
  obtain ⟨w1, hw1⟩ : ∃ w1, (w.alloc (.cells #[.int .i64 (pa : Int), .int .i64 (pb : Int), .slice (some ⟨g0, o0, none⟩) n c] 24)).alloc (.cells #[.int .i64 0, .int .i64 0, .slice none 0 0] 24) = w1 := ⟨_, rfl⟩
  have q1 : Q w w1 := by rw [← hw1]; exact ((Q.refl w).cells _ _).cells _ _
  have k0 : w1.cell? ⟨w.heap.size, 0, none⟩ = some (.int .i64 (pa : Int)) := by rw [← hw1]; simp [go_sem]
  have k1 : w1.cell? ⟨w.heap.size, 1, none⟩ = some (.int .i64 (pb : Int)) := by rw [← hw1]; simp [go_sem]
  have k2 : w1.cell? ⟨w.heap.size, 2, none⟩ = some (.slice (some ⟨g0, o0, none⟩) n c) := by rw [← hw1]; simp [go_sem]
  have HR : Hid (w1.cell? ⟨w.heap.size + 1, 0, none⟩ = some (.int .i64 0) ∧ w1.cell? ⟨w.heap.size + 1, 1, none⟩ = some (.int .i64 0) ∧ w1.cell? ⟨w.heap.size + 1, 2, none⟩ = some (.slice none 0 0) ∧ (∀ j, w1.frozen? ⟨w.heap.size + 1, j, none⟩ = false) ∧ w1.heap.size = w.heap.size + 2) := by
    rw [← hw1]
    exact ⟨by simp [go_sem], by simp [go_sem], by simp [go_sem], fun j => by simp [go_sem], by simp⟩
  have HQ1 : Hid (Q w w1) := q1
  have C1 := check_any pa pb (some ⟨g0, o0, none⟩) n c hn w1
  rw [show chk (pa : Int) (pb : Int) n = 0 by rw [hnn]; exact chk_size hsz] at C1
  have HW : Hid (∀ x : World, Calls Try.prog 14 #[.int .i64 kind, .int .i64 (r : Int)] x fun e w' => ∃ g, e = .returned (.tuple #[.slice (some ⟨g, 0, none⟩) (2 * r + 1) (2 * r + 1), .int .i64 0]) ∧ VR w' g (2 * r + 1) (fun i => .int .i64 (bwV kind r i)) ∧ x.heap.size ≤ g ∧ Q x w') := fun x => weights_good kind r hw x
  have HF : Hid (∀ x : World, Calls Try.prog 24 #[.int .i64 (k : Int)] x fun e w' => e = .returned (.int .i64 0) ∧ w' = x) := fun x => by
    have := refusal_b k x
    rw [borE_one, if_pos (by omega)] at this
    exact this
  have HBA : Hid (∀ (g : Nat) (x : World), VR x g (2 * r + 1) (fun i => .int .i64 (bwV kind r i)) → Calls Try.prog 25 #[.slice (some ⟨g, 0, none⟩) (2 * r + 1) (2 * r + 1)] x fun e w' => ∃ gb, e = .returned (.agg #[.slice (some ⟨gb, 0, none⟩) (2 * r + 1) (2 * r + 1), .float .f64 (floatOfInt .f64 (smW (bwV kind r) (2 * r + 1)))]) ∧ VR w' gb (2 * r + 1) (fun i => .float .f64 (floatOfInt .f64 (bwV kind r i))) ∧ x.heap.size ≤ gb ∧ Q x w') := fun g x hv => balance_any (2 * r + 1) (bwV kind r) g 0 (2 * r + 1) x (fun i hi => by rw [Nat.zero_add]; exact hv.cell i hi) (by omega) (by omega) (fun i hi => bw_bd hr i hi)
  have HMX : Hid (∀ (gb : Nat) (w5 : World), VR w5 gb (2 * r + 1) (fun i => .float .f64 (floatOfInt .f64 (bwV kind r i))) → ∀ (x : World) (h o c : Nat) (X Sx : Nat → Nat), Q w5 x → 2 * r + 1 ≤ c → (∀ i, i < 2 * r + 1 → x.cell? ⟨h, o + i, none⟩ = some (.float .f64 (X i))) → (∀ i, i < 2 * r + 1 → NumX (Sx i) (X i)) → Calls Try.prog 26 (#[.agg #[.slice (some ⟨gb, 0, none⟩) (2 * r + 1) (2 * r + 1), .float .f64 (floatOfInt .f64 (smW (bwV kind r) (2 * r + 1)))]] ++ #[.slice (some ⟨h, o, none⟩) (2 * r + 1) c]) x fun e w' => e = .returned (.int .u32 (mixB kind r Sx : Nat)) ∧ Q x w') := fun gb w5 hv x h o c X Sx q hc hX hN => by
    have := weigh_any (2 * r) gb h o c (bwV kind r) (smW (bwV kind r) (2 * r + 1)) X Sx x (by omega) hc (fun i hi => q.cell (hv.cell i hi)) hX hN (fun i hi => bw_bd hr i hi) (by have := bw_sum hw hr; omega)
    exact this
  have HSZ : Hid (Size pa pb ∧ n = pa * pb ∧ S.length = n ∧ (∀ i, S.getD i 0 < 4294967296) ∧ (∀ x, Q w x → UIs x g0 o0 S) ∧ r ≤ 7 ∧ (k = 1 ∨ k = 2 ∨ k = 3)) := ⟨hsz, hnn, hS, hb, fun x q => hI.next q, hr, hk⟩
  have HK : Hid (w1.cell? ⟨w.heap.size, 0, none⟩ = some (.int .i64 (pa : Int)) ∧ w1.cell? ⟨w.heap.size, 1, none⟩ = some (.int .i64 (pb : Int)) ∧ w1.cell? ⟨w.heap.size, 2, none⟩ = some (.slice (some ⟨g0, o0, none⟩) n c)) := ⟨k0, k1, k2⟩
  have HEN : Hid ((∀ (args : Array Value) (x : World), (callFunc 26 args).run Try.prog x = .ok (.enter 26 args) x) ∧ (∀ (args : Array Value) (x : World), (callFunc 27 args).run Try.prog x = .ok (.enter 27 args) x)) := ⟨enters_of Try.func26 (by kernel_rfl) rfl, enters_of Try.func27 (by kernel_rfl) rfl⟩
  obtain ⟨N, hN⟩ : ∃ N, 2 * r + 1 = N := ⟨_, rfl⟩
  obtain ⟨fs, hfs⟩ : ∃ fs, floatOfInt .f64 (smW (bwV kind r) (2 * r + 1)) = fs := ⟨_, rfl⟩
  rw [hfs] at HBA HMX
  have HN : Hid (2 * r + 1 = N) := hN
  rw [hN] at HW HBA
  clear hsz hnn hS hb hI hk hw hn q1 hN hfs
  go_enter Try.func9, Try.ntmps9
  go_wp2_with fail
  refine C1.mono ?_
  rintro e w2 ⟨rfl, q2⟩
  clear C1 k0 k1 k2 hw1
  go_wp2_with fail
  refine (HW.out w2).mono ?_
  rintro e w3 ⟨g, rfl, h4, h5, q3⟩
  have q23 : Q w1 w3 := q2.trans q3
  have HV3 : Hid (VR w3 g N (fun i => .int .i64 (bwV kind r i))) := h4
  clear h4 h5 q3 q2
  go_wp2_with fail
  refine (HF.out w3).mono ?_
  rintro e w4 ⟨rfl, hw4⟩
  obtain rfl := hw4.symm
  clear hw4
  go_wp2_with fail
  refine (HBA.out g w3 HV3.out).mono ?_
  rintro e w5 ⟨gb, rfl, h6, h7, q5⟩
  obtain ⟨w6, hw6⟩ : ∃ w6, w5.alloc (.cells #[.int .i64 (r : Int), .int .i64 (k : Int), .func (.func 26) #[.agg #[.slice (some ⟨gb, 0, none⟩) N N, .float .f64 fs]] #[]] 65) = w6 := ⟨_, rfl⟩
  have q56 : Q w5 w6 := by rw [← hw6]; exact (Q.refl w5).cells _ _
  have q16 : Q w1 w6 := (q23.trans q5).trans q56
  have s0 : w6.cell? ⟨w5.heap.size, 0, none⟩ = some (.int .i64 (r : Int)) := by rw [← hw6]; simp [go_sem]
  have s1 : w6.cell? ⟨w5.heap.size, 1, none⟩ = some (.int .i64 (k : Int)) := by rw [← hw6]; simp [go_sem]
  have s2 : w6.cell? ⟨w5.heap.size, 2, none⟩ = some (.func (.func 26) #[.agg #[.slice (some ⟨gb, 0, none⟩) N N, .float .f64 fs]] #[]) := by rw [← hw6]; simp [go_sem]
  have p0 := q16.cell HK.out.1
  have p1 := q16.cell HK.out.2.1
  have p2 := q16.cell HK.out.2.2
  have HV6 : Hid (VR w6 gb (2 * r + 1) (fun i => .float .f64 (floatOfInt .f64 (bwV kind r i))) ∧ Q w1 w6) := ⟨by rw [HN.out]; exact h6.next q56, q16⟩
  clear h6 h7 q5 q56 q16 q23
  go_wp2_with fail
  have n0 := qw_some w6
  have f0 := qw_cell s0
  have f1 := qw_cell s1
  have f2 := qw_cell s2
  have f3 := qw_cell p0
  have f4 := qw_cell p1
  have f5 := qw_cell p2
  clear hw6
  refine wp_region_mk [0, 1, 2, 3, 4, 5, 6] [[7, 8, 9, 10]] 4 _ (by kernel_rfl) (by kernel_rfl) rfl (by kernel_rfl) ?_
  simp only [List.filterMap_cons, List.filterMap_nil, List.getElem?_cons_zero, List.getElem?_cons_succ]
  repeat (first | go_big_quiet_step (fail) | quiet_step (fail))
  refine wpQuiet_nil ?_
  intro x7 hx7
  clear n0 f0 f1 f2 f3 f4 f5 s0 s1 s2 p0 p1 p2
  have z := HSZ.out
  have q17 : Q w x7 := (HQ1.out.trans HV6.out.2).trans hx7
  have CR := along_rows r k 26 pa pb g0 o0 c n #[.agg #[.slice (some ⟨gb, 0, none⟩) N N, .float .f64 fs]] (mixB kind r) S x7 z.1 z.2.1 z.2.2.1 z.2.2.2.1 (z.2.2.2.2.1 x7 q17) z.2.2.2.2.2.1 z.2.2.2.2.2.2 HEN.out.1 (by have := HMX.out gb x7 (HV6.out.1.next hx7); rw [HN.out] at this; rw [HN.out]; exact this)
  refine tree_call 7 rfl rfl (run_fn 27 #[.tmp 46, .tmp 48, .tmp 49] _ rfl HEN.out.2 (vs := #[.agg #[.int .i64 (r : Int), .int .i64 (k : Int), .func (.func 26) #[.agg #[.slice (some ⟨gb, 0, none⟩) N N, .float .f64 fs]] #[]], .iface 69 (.agg #[]), .agg #[.int .i64 (pa : Int), .int .i64 (pb : Int), .slice (some ⟨g0, o0, none⟩) n c]]) (by simp [Act.eval, Act.put])) CR ?_
  rintro u x8 ⟨⟨gt, rfl, hv8, hl8, hu8⟩, hq8⟩
  refine ⟨hx7.trans hq8, ?_⟩
  have hI8 : UIs x8 gt 0 (tabB n (rowB (mixB kind r) r k pa S)) := fun j hj => by
    rw [tabB_len] at hj
    rw [Nat.zero_add, tabB_at hj]
    exact hv8.cell j hj
  have CC := along_columns r k 26 pa pb gt 0 n n #[.agg #[.slice (some ⟨gb, 0, none⟩) N N, .float .f64 fs]] (mixB kind r) (tabB n (rowB (mixB kind r) r k pa S)) x8 z.1 z.2.1 (tabB_len _ _) (fun i => by
    rcases Nat.lt_or_ge i n with h | h
    · rw [tabB_at h]; exact mixB_lt _ _ _
    · rw [List.getD_eq_getElem?_getD, List.getElem?_eq_none (by rw [tabB_len]; exact h)]; decide) hI8 z.2.2.2.2.2.1 z.2.2.2.2.2.2 HEN.out.1 (by have := HMX.out gb x8 ((HV6.out.1.next hx7).next hq8); rw [HN.out] at this; rw [HN.out]; exact this)
  refine tree_call 8 rfl rfl (run_fn 27 #[.tmp 43, .tmp 45, .tmp 50] _ rfl HEN.out.2 (vs := #[.agg #[.int .i64 (r : Int), .int .i64 (k : Int), .func (.func 26) #[.agg #[.slice (some ⟨gb, 0, none⟩) N N, .float .f64 fs]] #[]], .iface 68 (.agg #[]), .agg #[.int .i64 (pa : Int), .int .i64 (pb : Int), .slice (some ⟨gt, 0, none⟩) n n]]) (by simp [Act.eval, Act.put])) CC ?_
  rintro u x9 ⟨⟨gu, rfl, hv9, hl9, hu9⟩, hq9⟩
  have q69 : Q w6 x9 := (hx7.trans hq8).trans hq9
  refine ⟨q69, ?_⟩
  have q19 : Q w1 x9 := HV6.out.2.trans q69
  have o0' := q19.cell HR.out.1
  have o1' := q19.cell HR.out.2.1
  have o2' := q19.cell HR.out.2.2.1
  have fo : ∀ j, x9.frozen? ⟨w.heap.size + 1, j, none⟩ = false := fun j => by rw [q19.2]; exact HR.out.2.2.2.1 j
  refine tree_skipF 9 rfl rfl rfl (x' := ((x9.setCell ⟨w.heap.size + 1, 0, none⟩ (.int .i64 (pa : Int))).setCell ⟨w.heap.size + 1, 1, none⟩ (.int .i64 (pb : Int))).setCell ⟨w.heap.size + 1, 2, none⟩ (.slice (some ⟨gu, 0, none⟩) n n)) (by simp [execOp, go_sem, Act.put, o0', o1', o2', fo]) ?_
  refine tree_runF 10 rfl rfl rfl (v := .int .i64 0) (x' := ((x9.setCell ⟨w.heap.size + 1, 0, none⟩ (.int .i64 (pa : Int))).setCell ⟨w.heap.size + 1, 1, none⟩ (.int .i64 (pb : Int))).setCell ⟨w.heap.size + 1, 2, none⟩ (.slice (some ⟨gu, 0, none⟩) n n)) (by simp [execOp, go_sem, Act.put]) ?_
  refine tree_nil ?_
  have hgu : w.heap.size + 2 ≤ gu := by
    have := HR.out.2.2.2.2
    have := HV6.out.2.1.size
    have := hx7.1.size
    have := hq8.1.size
    omega
  have HV : Hid (VR (((x9.setCell ⟨w.heap.size + 1, 0, none⟩ (.int .i64 (pa : Int))).setCell ⟨w.heap.size + 1, 1, none⟩ (.int .i64 (pb : Int))).setCell ⟨w.heap.size + 1, 2, none⟩ (.slice (some ⟨gu, 0, none⟩) n n)) gu n (fun j => .int .u32 ((bluV kind r k pa pb S j : Nat) : Int)) ∧ w.heap.size ≤ gu ∧ Q w (((x9.setCell ⟨w.heap.size + 1, 0, none⟩ (.int .i64 (pa : Int))).setCell ⟨w.heap.size + 1, 1, none⟩ (.int .i64 (pb : Int))).setCell ⟨w.heap.size + 1, 2, none⟩ (.slice (some ⟨gu, 0, none⟩) n n))) := by
    have hl' : w.heap.size ≤ w.heap.size + 1 := by omega
    refine ⟨(((hv9.other (p := ⟨w.heap.size + 1, 0, none⟩) (by show w.heap.size + 1 ≠ gu; omega) _).other (p := ⟨w.heap.size + 1, 1, none⟩) (by show w.heap.size + 1 ≠ gu; omega) _).other (p := ⟨w.heap.size + 1, 2, none⟩) (by show w.heap.size + 1 ≠ gu; omega) _).congr (fun j hj => ?_), by omega, (((HQ1.out.trans q19).set hl' _).set hl' _).set hl' _⟩
    unfold bluV colB
    rw [← z.2.1]
  have y0 : (((x9.setCell ⟨w.heap.size + 1, 0, none⟩ (.int .i64 (pa : Int))).setCell ⟨w.heap.size + 1, 1, none⟩ (.int .i64 (pb : Int))).setCell ⟨w.heap.size + 1, 2, none⟩ (.slice (some ⟨gu, 0, none⟩) n n)).cell? ⟨w.heap.size + 1, 0, none⟩ = some (.int .i64 (pa : Int)) := (World.cell?_setCell_other _ _ _ _ (fun e => by injection e with _ e; cases e)).trans ((World.cell?_setCell_other _ _ _ _ (fun e => by injection e with _ e; cases e)).trans (World.cell?_setCell_same _ _ _ o0'))
  have y1 : (((x9.setCell ⟨w.heap.size + 1, 0, none⟩ (.int .i64 (pa : Int))).setCell ⟨w.heap.size + 1, 1, none⟩ (.int .i64 (pb : Int))).setCell ⟨w.heap.size + 1, 2, none⟩ (.slice (some ⟨gu, 0, none⟩) n n)).cell? ⟨w.heap.size + 1, 1, none⟩ = some (.int .i64 (pb : Int)) := (World.cell?_setCell_other _ _ _ _ (fun e => by injection e with _ e; cases e)).trans (World.cell?_setCell_same _ _ _ ((World.cell?_setCell_other _ _ _ _ (fun e => by injection e with _ e; cases e)).trans o1'))
  have y2 : (((x9.setCell ⟨w.heap.size + 1, 0, none⟩ (.int .i64 (pa : Int))).setCell ⟨w.heap.size + 1, 1, none⟩ (.int .i64 (pb : Int))).setCell ⟨w.heap.size + 1, 2, none⟩ (.slice (some ⟨gu, 0, none⟩) n n)).cell? ⟨w.heap.size + 1, 2, none⟩ = some (.slice (some ⟨gu, 0, none⟩) n n) := World.cell?_setCell_same _ _ _ ((World.cell?_setCell_other _ _ _ _ (fun e => by injection e with _ e; cases e)).trans ((World.cell?_setCell_other _ _ _ _ (fun e => by injection e with _ e; cases e)).trans o2'))
  generalize ((x9.setCell ⟨w.heap.size + 1, 0, none⟩ (.int .i64 (pa : Int))).setCell ⟨w.heap.size + 1, 1, none⟩ (.int .i64 (pb : Int))).setCell ⟨w.heap.size + 1, 2, none⟩ (.slice (some ⟨gu, 0, none⟩) n n) = w9 at HV y0 y1 y2 ⊢
  clear CR CC hv8 hv9 hI8 z fo
  go_wp2_with fail
  exact bodyPost_ret (v := .tuple #[.agg #[.int .i64 (pa : Int), .int .i64 (pb : Int), .slice (some ⟨gu, 0, none⟩) n n], .int .i64 0]) (by simp [results, Try.results9, go_sem, y0, y1, y2, Act.put]) rfl ⟨gu, rfl, HV.out.1, HV.out.2.1, HV.out.2.2⟩
end Go.Proofs.Ytpobgkcobgecoab
/- blur: Gradient. -/
namespace Go.Proofs.Ytpobgkcobgecoab
open Go.RowKit
set_option linter.unusedVariables false
set_option linter.unusedSimpArgs false

def grE (pw ph : Int) (n : Nat) (bd : Int) : Int := if chk pw ph n = 0 then borE bd 1 else chk pw ph n
set_option maxHeartbeats 4000000 in
set_option maxRecDepth 100000 in
theorem grad_bad (pw ph : Int) (ad : Option Addr) (n c : Nat) (bd : Int) (hn : n ≤ 9223372036854775807) (hE : grE pw ph n bd ≠ 0) (w : World) :
    Calls Try.prog 11 #[.agg #[.int .i64 pw, .int .i64 ph, .slice ad n c], .int .i64 bd] w fun e w' => e = .returned (.tuple #[.agg #[.int .i64 0, .int .i64 0, .slice none 0 0], .agg #[.int .i64 0, .int .i64 0, .slice none 0 0], .int .i64 (grE pw ph n bd)]) ∧ Q w w' := by
  obtain ⟨w1, hw1⟩ : ∃ w1, ((w.alloc (.cells #[.int .i64 pw, .int .i64 ph, .slice ad n c] 24)).alloc (.cells #[.int .i64 0, .int .i64 0, .slice none 0 0] 24)).alloc (.cells #[.int .i64 0, .int .i64 0, .slice none 0 0] 24) = w1 := ⟨_, rfl⟩
  have q1 : Q w w1 := by rw [← hw1]; exact (((Q.refl w).cells _ _).cells _ _).cells _ _
  have k0 : w1.cell? ⟨w.heap.size, 0, none⟩ = some (.int .i64 pw) := by rw [← hw1]; simp [go_sem]
  have k1 : w1.cell? ⟨w.heap.size, 1, none⟩ = some (.int .i64 ph) := by rw [← hw1]; simp [go_sem]
  have k2 : w1.cell? ⟨w.heap.size, 2, none⟩ = some (.slice ad n c) := by rw [← hw1]; simp [go_sem]
  have HR : Hid (w1.cell? ⟨w.heap.size + 1, 0, none⟩ = some (.int .i64 0) ∧ w1.cell? ⟨w.heap.size + 1, 1, none⟩ = some (.int .i64 0) ∧ w1.cell? ⟨w.heap.size + 1, 2, none⟩ = some (.slice none 0 0) ∧ (∀ j, w1.frozen? ⟨w.heap.size + 1, j, none⟩ = false) ∧ w1.cell? ⟨w.heap.size + 2, 0, none⟩ = some (.int .i64 0) ∧ w1.cell? ⟨w.heap.size + 2, 1, none⟩ = some (.int .i64 0) ∧ w1.cell? ⟨w.heap.size + 2, 2, none⟩ = some (.slice none 0 0) ∧ (∀ j, w1.frozen? ⟨w.heap.size + 2, j, none⟩ = false) ∧ w1.heap.size = w.heap.size + 3) := by
    rw [← hw1]
    exact ⟨by simp [go_sem], by simp [go_sem], by simp [go_sem], fun j => by simp [go_sem], by simp [go_sem], by simp [go_sem], by simp [go_sem], fun j => by simp [go_sem], by simp⟩
  have HQ1 : Hid (Q w w1) := q1
  have C1 := check_any pw ph ad n c hn w1
  by_cases hc : chk pw ph n = 0
  rotate_left
  · have hb : grE pw ph n bd = chk pw ph n := by unfold grE; rw [if_neg hc]
    rw [hb]
    generalize chk pw ph n = E at *
    have hE0 : (E != 0) = true := by simpa using hc
    clear hE hb q1
    go_enter Try.func11, Try.ntmps11
    go_wp2_with fail
    refine C1.mono ?_
    rintro e w2 ⟨rfl, q2⟩
    clear C1 k0 k1 k2 hw1
    have o0 := q2.cell HR.out.1
    have o1 := q2.cell HR.out.2.1
    have o2 := q2.cell HR.out.2.2.1
    have p0 := q2.cell HR.out.2.2.2.2.1
    have p1 := q2.cell HR.out.2.2.2.2.2.1
    have p2 := q2.cell HR.out.2.2.2.2.2.2.1
    have fo : ∀ j, w2.frozen? ⟨w.heap.size + 1, j, none⟩ = false := fun j => by rw [q2.2]; exact HR.out.2.2.2.1 j
    have fp : ∀ j, w2.frozen? ⟨w.heap.size + 2, j, none⟩ = false := fun j => by rw [q2.2]; exact HR.out.2.2.2.2.2.2.2.1 j
    have fo0 := fo 0
    have fo1 := fo 1
    have fo2 := fo 2
    have fp0 := fp 0
    have fp1 := fp 1
    have fp2 := fp 2
    have HZ : Hid (Q w (((((((w2).setCell ⟨w.heap.size + 1, 0, none⟩ (.int .i64 0)).setCell ⟨w.heap.size + 1, 1, none⟩ (.int .i64 0)).setCell ⟨w.heap.size + 1, 2, none⟩ (.slice none 0 0)).setCell ⟨w.heap.size + 2, 0, none⟩ (.int .i64 0)).setCell ⟨w.heap.size + 2, 1, none⟩ (.int .i64 0)).setCell ⟨w.heap.size + 2, 2, none⟩ (.slice none 0 0))) := by
      have h1 : w.heap.size ≤ w.heap.size + 1 := by omega
      have h2 : w.heap.size ≤ w.heap.size + 2 := by omega
      exact ((((((HQ1.out.trans q2).set h1 _).set h1 _).set h1 _).set h2 _).set h2 _).set h2 _
    clear fo fp
    go_wp2_with fail
    exact bodyPost_ret (v := .tuple #[.agg #[.int .i64 0, .int .i64 0, .slice none 0 0], .agg #[.int .i64 0, .int .i64 0, .slice none 0 0], .int .i64 E]) (by simp [results, Try.results11, go_sem, o0, o1, o2, p0, p1, p2]) rfl ⟨rfl, HZ.out⟩
  rw [hc] at C1
  have hb : grE pw ph n bd = borE bd 1 := by unfold grE; rw [if_pos hc]
  rw [hb] at hE ⊢
  have HF : Hid (∀ x : World, Calls Try.prog 24 #[.int .i64 bd] x fun e w' => e = .returned (.int .i64 (borE bd 1)) ∧ w' = x) := fun x => refusal_b bd x
  generalize borE bd 1 = E at *
  have hE0 : (E != 0) = true := by simpa using hE
  clear hE hb q1 hc
  go_enter Try.func11, Try.ntmps11
  go_wp2_with fail
  refine C1.mono ?_
  rintro e w2 ⟨rfl, q2⟩
  clear C1 k0 k1 k2 hw1
  go_wp2_with fail
  refine (HF.out w2).mono ?_
  rintro e w4 ⟨rfl, hw4⟩
  obtain rfl := hw4.symm
  clear hw4
  have o0 := q2.cell HR.out.1
  have o1 := q2.cell HR.out.2.1
  have o2 := q2.cell HR.out.2.2.1
  have p0 := q2.cell HR.out.2.2.2.2.1
  have p1 := q2.cell HR.out.2.2.2.2.2.1
  have p2 := q2.cell HR.out.2.2.2.2.2.2.1
  have fo : ∀ j, w2.frozen? ⟨w.heap.size + 1, j, none⟩ = false := fun j => by rw [q2.2]; exact HR.out.2.2.2.1 j
  have fp : ∀ j, w2.frozen? ⟨w.heap.size + 2, j, none⟩ = false := fun j => by rw [q2.2]; exact HR.out.2.2.2.2.2.2.2.1 j
  have fo0 := fo 0
  have fo1 := fo 1
  have fo2 := fo 2
  have fp0 := fp 0
  have fp1 := fp 1
  have fp2 := fp 2
  have HZ : Hid (Q w (((((((w2).setCell ⟨w.heap.size + 1, 0, none⟩ (.int .i64 0)).setCell ⟨w.heap.size + 1, 1, none⟩ (.int .i64 0)).setCell ⟨w.heap.size + 1, 2, none⟩ (.slice none 0 0)).setCell ⟨w.heap.size + 2, 0, none⟩ (.int .i64 0)).setCell ⟨w.heap.size + 2, 1, none⟩ (.int .i64 0)).setCell ⟨w.heap.size + 2, 2, none⟩ (.slice none 0 0))) := by
    have h1 : w.heap.size ≤ w.heap.size + 1 := by omega
    have h2 : w.heap.size ≤ w.heap.size + 2 := by omega
    exact ((((((HQ1.out.trans q2).set h1 _).set h1 _).set h1 _).set h2 _).set h2 _).set h2 _
  clear fo fp
  go_wp2_with fail
  exact bodyPost_ret (v := .tuple #[.agg #[.int .i64 0, .int .i64 0, .slice none 0 0], .agg #[.int .i64 0, .int .i64 0, .slice none 0 0], .int .i64 E]) (by simp [results, Try.results11, go_sem, o0, o1, o2, p0, p1, p2]) rfl ⟨rfl, HZ.out⟩
set_option maxHeartbeats 8000000 in
set_option maxRecDepth 100000 in
theorem grad_good (k pa pb g0 o0 c n : Nat) (S : List Nat) (w : World) (hsz : Size pa pb) (hnn : n = pa * pb) (hS : S.length = n) (hb : ∀ i, S.getD i 0 < 4294967296) (hI : UIs w g0 o0 S) (hk : k = 1 ∨ k = 2 ∨ k = 3) :
    Calls Try.prog 11 #[.agg #[.int .i64 (pa : Int), .int .i64 (pb : Int), .slice (some ⟨g0, o0, none⟩) n c], .int .i64 (k : Int)] w fun e w' => ∃ gt gu, e = .returned (.tuple #[.agg #[.int .i64 (pa : Int), .int .i64 (pb : Int), .slice (some ⟨gt, 0, none⟩) n n], .agg #[.int .i64 (pa : Int), .int .i64 (pb : Int), .slice (some ⟨gu, 0, none⟩) n n], .int .i64 0]) ∧ VR w' gt n (fun j => .int .u32 ((rowB slpV 1 k pa S j : Nat) : Int)) ∧ VR w' gu n (fun j => .int .u32 ((colB slpV 1 k pa pb S j : Nat) : Int)) ∧ gt ≠ gu ∧ w.heap.size ≤ gt ∧ w.heap.size ≤ gu ∧ Q w w' := by
  have hn : n ≤ 9223372036854775807 := by have := hsz.ab; omega
  obtain ⟨w1, hw1⟩ : ∃ w1, ((w.alloc (.cells #[.int .i64 (pa : Int), .int .i64 (pb : Int), .slice (some ⟨g0, o0, none⟩) n c] 24)).alloc (.cells #[.int .i64 0, .int .i64 0, .slice none 0 0] 24)).alloc (.cells #[.int .i64 0, .int .i64 0, .slice none 0 0] 24) = w1 := ⟨_, rfl⟩
  have q1 : Q w w1 := by rw [← hw1]; exact (((Q.refl w).cells _ _).cells _ _).cells _ _
  have k0 : w1.cell? ⟨w.heap.size, 0, none⟩ = some (.int .i64 (pa : Int)) := by rw [← hw1]; simp [go_sem]
  have k1 : w1.cell? ⟨w.heap.size, 1, none⟩ = some (.int .i64 (pb : Int)) := by rw [← hw1]; simp [go_sem]
  have k2 : w1.cell? ⟨w.heap.size, 2, none⟩ = some (.slice (some ⟨g0, o0, none⟩) n c) := by rw [← hw1]; simp [go_sem]
  have HR : Hid (w1.cell? ⟨w.heap.size + 1, 0, none⟩ = some (.int .i64 0) ∧ w1.cell? ⟨w.heap.size + 1, 1, none⟩ = some (.int .i64 0) ∧ w1.cell? ⟨w.heap.size + 1, 2, none⟩ = some (.slice none 0 0) ∧ (∀ j, w1.frozen? ⟨w.heap.size + 1, j, none⟩ = false) ∧ w1.cell? ⟨w.heap.size + 2, 0, none⟩ = some (.int .i64 0) ∧ w1.cell? ⟨w.heap.size + 2, 1, none⟩ = some (.int .i64 0) ∧ w1.cell? ⟨w.heap.size + 2, 2, none⟩ = some (.slice none 0 0) ∧ (∀ j, w1.frozen? ⟨w.heap.size + 2, j, none⟩ = false) ∧ w1.heap.size = w.heap.size + 3) := by
    rw [← hw1]
    exact ⟨by simp [go_sem], by simp [go_sem], by simp [go_sem], fun j => by simp [go_sem], by simp [go_sem], by simp [go_sem], by simp [go_sem], fun j => by simp [go_sem], by simp⟩
  have HQ1 : Hid (Q w w1) := q1
  have C1 := check_any pa pb (some ⟨g0, o0, none⟩) n c hn w1
  rw [show chk (pa : Int) (pb : Int) n = 0 by rw [hnn]; exact chk_size hsz] at C1
  have HF : Hid (∀ x : World, Calls Try.prog 24 #[.int .i64 (k : Int)] x fun e w' => e = .returned (.int .i64 0) ∧ w' = x) := fun x => by
    have := refusal_b k x
    rw [borE_one, if_pos (by omega)] at this
    exact this
  have HMX : Hid (∀ w5 : World, ∀ (x : World) (h o c : Nat) (X Sx : Nat → Nat), Q w5 x → 2 * 1 + 1 ≤ c → (∀ i, i < 2 * 1 + 1 → x.cell? ⟨h, o + i, none⟩ = some (.float .f64 (X i))) → (∀ i, i < 2 * 1 + 1 → NumX (Sx i) (X i)) → Calls Try.prog 28 (#[] ++ #[.slice (some ⟨h, o, none⟩) (2 * 1 + 1) c]) x fun e w' => e = .returned (.int .u32 (slpV Sx : Nat)) ∧ Q x w') := fun w5 x h o c X Sx q hc hX hN => slope_any h o c X Sx x hc hX hN
  have HSZ : Hid (Size pa pb ∧ n = pa * pb ∧ S.length = n ∧ (∀ i, S.getD i 0 < 4294967296) ∧ (∀ x, Q w x → UIs x g0 o0 S) ∧ (k = 1 ∨ k = 2 ∨ k = 3)) := ⟨hsz, hnn, hS, hb, fun x q => hI.next q, hk⟩
  have HK : Hid (w1.cell? ⟨w.heap.size, 0, none⟩ = some (.int .i64 (pa : Int)) ∧ w1.cell? ⟨w.heap.size, 1, none⟩ = some (.int .i64 (pb : Int)) ∧ w1.cell? ⟨w.heap.size, 2, none⟩ = some (.slice (some ⟨g0, o0, none⟩) n c)) := ⟨k0, k1, k2⟩
  have HEN : Hid ((∀ (args : Array Value) (x : World), (callFunc 28 args).run Try.prog x = .ok (.enter 28 args) x) ∧ (∀ (args : Array Value) (x : World), (callFunc 27 args).run Try.prog x = .ok (.enter 27 args) x)) := ⟨enters_of Try.func28 (by kernel_rfl) rfl, enters_of Try.func27 (by kernel_rfl) rfl⟩
  clear hsz hnn hS hb hI hk hn q1
  go_enter Try.func11, Try.ntmps11
  go_wp2_with fail
  refine C1.mono ?_
  rintro e w2 ⟨rfl, q2⟩
  clear C1 k0 k1 k2 hw1
  go_wp2_with fail
  refine (HF.out w2).mono ?_
  rintro e w4 ⟨rfl, hw4⟩
  obtain rfl := hw4.symm
  clear hw4
  obtain ⟨w6, hw6⟩ : ∃ w6, w2.alloc (.cells #[.int .i64 1, .int .i64 (k : Int), .func (.func 28) #[] #[]] 65) = w6 := ⟨_, rfl⟩
  have q26 : Q w2 w6 := by rw [← hw6]; exact (Q.refl w2).cells _ _
  have q16 : Q w1 w6 := q2.trans q26
  have s0 : w6.cell? ⟨w2.heap.size, 0, none⟩ = some (.int .i64 1) := by rw [← hw6]; simp [go_sem]
  have s1 : w6.cell? ⟨w2.heap.size, 1, none⟩ = some (.int .i64 (k : Int)) := by rw [← hw6]; simp [go_sem]
  have s2 : w6.cell? ⟨w2.heap.size, 2, none⟩ = some (.func (.func 28) #[] #[]) := by rw [← hw6]; simp [go_sem]
  have p0 := q16.cell HK.out.1
  have p1 := q16.cell HK.out.2.1
  have p2 := q16.cell HK.out.2.2
  have HV6 : Hid (Q w1 w6) := q16
  clear q26 q16 q2
  go_wp2_with fail
  have n0 := qw_some w6
  have f0 := qw_cell s0
  have f1 := qw_cell s1
  have f2 := qw_cell s2
  have f3 := qw_cell p0
  have f4 := qw_cell p1
  have f5 := qw_cell p2
  clear hw6
  refine wp_region_mk [0, 1, 2, 3, 5, 6, 7, 8] [[4, 9, 10, 11, 12]] 5 _ (by kernel_rfl) (by kernel_rfl) rfl (by kernel_rfl) ?_
  simp only [List.filterMap_cons, List.filterMap_nil, List.getElem?_cons_zero, List.getElem?_cons_succ]
  repeat (first | go_big_quiet_step (fail) | quiet_step (fail))
  refine wpQuiet_nil ?_
  intro x7 hx7
  clear n0 f0 f1 f2 f3 f4 f5 s0 s1 s2 p0 p1 p2
  have z := HSZ.out
  have q17 : Q w x7 := (HQ1.out.trans HV6.out).trans hx7
  have CR := along_rows 1 k 28 pa pb g0 o0 c n #[] slpV S x7 z.1 z.2.1 z.2.2.1 z.2.2.2.1 (z.2.2.2.2.1 x7 q17) (by decide) z.2.2.2.2.2 HEN.out.1 (HMX.out x7)
  refine tree_call 4 rfl rfl (run_fn 27 #[.tmp 26, .tmp 28, .tmp 29] _ rfl HEN.out.2 (vs := #[.agg #[.int .i64 1, .int .i64 (k : Int), .func (.func 28) #[] #[]], .iface 69 (.agg #[]), .agg #[.int .i64 (pa : Int), .int .i64 (pb : Int), .slice (some ⟨g0, o0, none⟩) n c]]) (by simp [Act.eval, Act.put])) CR ?_
  rintro u x8 ⟨⟨gt, rfl, hv8, hl8, hu8⟩, hq8⟩
  refine ⟨hx7.trans hq8, ?_⟩
  have CC := along_columns 1 k 28 pa pb g0 o0 c n #[] slpV S x8 z.1 z.2.1 z.2.2.1 z.2.2.2.1 (z.2.2.2.2.1 x8 (q17.trans hq8)) (by decide) z.2.2.2.2.2 HEN.out.1 (HMX.out x8)
  refine tree_call 9 rfl rfl (run_fn 27 #[.tmp 31, .tmp 33, .tmp 34] _ rfl HEN.out.2 (vs := #[.agg #[.int .i64 1, .int .i64 (k : Int), .func (.func 28) #[] #[]], .iface 68 (.agg #[]), .agg #[.int .i64 (pa : Int), .int .i64 (pb : Int), .slice (some ⟨g0, o0, none⟩) n c]]) (by simp [Act.eval, Act.put])) CC ?_
  rintro u x9 ⟨⟨gu, rfl, hv9, hl9, hu9⟩, hq9⟩
  have q69 : Q w6 x9 := (hx7.trans hq8).trans hq9
  refine ⟨q69, ?_⟩
  have q19 : Q w1 x9 := HV6.out.trans q69
  have HX : Hid (VR x9 gt n (fun j => .int .u32 ((rowB slpV 1 k pa S j : Nat) : Int)) ∧ VR x9 gu n (fun j => .int .u32 ((colB slpV 1 k pa pb S j : Nat) : Int)) ∧ gt < gu ∧ w.heap.size + 3 ≤ gt ∧ Q w1 x9) := by
    have h1 := HR.out.2.2.2.2.2.2.2.2
    have h2 := HV6.out.1.size
    have h3 := hx7.1.size
    exact ⟨hv8.next hq9, hv9, by omega, by omega, q19⟩
  have a0 := q19.cell HR.out.1
  have a1 := q19.cell HR.out.2.1
  have a2 := q19.cell HR.out.2.2.1
  have b0 := q19.cell HR.out.2.2.2.2.1
  have b1 := q19.cell HR.out.2.2.2.2.2.1
  have b2 := q19.cell HR.out.2.2.2.2.2.2.1
  have fa : ∀ j, x9.frozen? ⟨w.heap.size + 1, j, none⟩ = false := fun j => by rw [q19.2]; exact HR.out.2.2.2.1 j
  have fb : ∀ j, x9.frozen? ⟨w.heap.size + 2, j, none⟩ = false := fun j => by rw [q19.2]; exact HR.out.2.2.2.2.2.2.2.1 j
  have c0 : ((((x9).setCell ⟨w.heap.size + 1, 0, none⟩ (.int .i64 (pa : Int))).setCell ⟨w.heap.size + 1, 1, none⟩ (.int .i64 (pb : Int))).setCell ⟨w.heap.size + 1, 2, none⟩ (.slice (some ⟨gt, 0, none⟩) n n)).cell? ⟨w.heap.size + 2, 0, none⟩ = some (.int .i64 0) := (World.cell?_setCell_other _ _ _ _ (fun e => by injection e with e; omega)).trans ((World.cell?_setCell_other _ _ _ _ (fun e => by injection e with e; omega)).trans ((World.cell?_setCell_other _ _ _ _ (fun e => by injection e with e; omega)).trans b0))
  have c1 : ((((x9).setCell ⟨w.heap.size + 1, 0, none⟩ (.int .i64 (pa : Int))).setCell ⟨w.heap.size + 1, 1, none⟩ (.int .i64 (pb : Int))).setCell ⟨w.heap.size + 1, 2, none⟩ (.slice (some ⟨gt, 0, none⟩) n n)).cell? ⟨w.heap.size + 2, 1, none⟩ = some (.int .i64 0) := (World.cell?_setCell_other _ _ _ _ (fun e => by injection e with e; omega)).trans ((World.cell?_setCell_other _ _ _ _ (fun e => by injection e with e; omega)).trans ((World.cell?_setCell_other _ _ _ _ (fun e => by injection e with e; omega)).trans b1))
  have c2 : ((((x9).setCell ⟨w.heap.size + 1, 0, none⟩ (.int .i64 (pa : Int))).setCell ⟨w.heap.size + 1, 1, none⟩ (.int .i64 (pb : Int))).setCell ⟨w.heap.size + 1, 2, none⟩ (.slice (some ⟨gt, 0, none⟩) n n)).cell? ⟨w.heap.size + 2, 2, none⟩ = some (.slice none 0 0) := (World.cell?_setCell_other _ _ _ _ (fun e => by injection e with e; omega)).trans ((World.cell?_setCell_other _ _ _ _ (fun e => by injection e with e; omega)).trans ((World.cell?_setCell_other _ _ _ _ (fun e => by injection e with e; omega)).trans b2))
  have fc : ∀ j, ((((x9).setCell ⟨w.heap.size + 1, 0, none⟩ (.int .i64 (pa : Int))).setCell ⟨w.heap.size + 1, 1, none⟩ (.int .i64 (pb : Int))).setCell ⟨w.heap.size + 1, 2, none⟩ (.slice (some ⟨gt, 0, none⟩) n n)).frozen? ⟨w.heap.size + 2, j, none⟩ = false := fun j => by rw [World.frozen?_setCell, World.frozen?_setCell, World.frozen?_setCell]; exact fb j
  refine tree_skipF 10 rfl rfl rfl (x' := (((x9).setCell ⟨w.heap.size + 1, 0, none⟩ (.int .i64 (pa : Int))).setCell ⟨w.heap.size + 1, 1, none⟩ (.int .i64 (pb : Int))).setCell ⟨w.heap.size + 1, 2, none⟩ (.slice (some ⟨gt, 0, none⟩) n n)) (by simp [execOp, go_sem, Act.put, a0, a1, a2, fa]) ?_
  have d0 : ((((x9).setCell ⟨w.heap.size + 1, 0, none⟩ (.int .i64 (pa : Int))).setCell ⟨w.heap.size + 1, 1, none⟩ (.int .i64 (pb : Int))).setCell ⟨w.heap.size + 1, 2, none⟩ (.slice (some ⟨gt, 0, none⟩) n n)).cell? ⟨w.heap.size + 1, 0, none⟩ = some (.int .i64 (pa : Int)) := (World.cell?_setCell_other _ _ _ _ (fun e => by injection e with _ e; cases e)).trans ((World.cell?_setCell_other _ _ _ _ (fun e => by injection e with _ e; cases e)).trans (World.cell?_setCell_same _ _ _ a0))
  have d1 : ((((x9).setCell ⟨w.heap.size + 1, 0, none⟩ (.int .i64 (pa : Int))).setCell ⟨w.heap.size + 1, 1, none⟩ (.int .i64 (pb : Int))).setCell ⟨w.heap.size + 1, 2, none⟩ (.slice (some ⟨gt, 0, none⟩) n n)).cell? ⟨w.heap.size + 1, 1, none⟩ = some (.int .i64 (pb : Int)) := (World.cell?_setCell_other _ _ _ _ (fun e => by injection e with _ e; cases e)).trans (World.cell?_setCell_same _ _ _ ((World.cell?_setCell_other _ _ _ _ (fun e => by injection e with _ e; cases e)).trans a1))
  have d2 : ((((x9).setCell ⟨w.heap.size + 1, 0, none⟩ (.int .i64 (pa : Int))).setCell ⟨w.heap.size + 1, 1, none⟩ (.int .i64 (pb : Int))).setCell ⟨w.heap.size + 1, 2, none⟩ (.slice (some ⟨gt, 0, none⟩) n n)).cell? ⟨w.heap.size + 1, 2, none⟩ = some (.slice (some ⟨gt, 0, none⟩) n n) := World.cell?_setCell_same _ _ _ ((World.cell?_setCell_other _ _ _ _ (fun e => by injection e with _ e; cases e)).trans ((World.cell?_setCell_other _ _ _ _ (fun e => by injection e with _ e; cases e)).trans a2))
  have HX1 : Hid (VR ((((x9).setCell ⟨w.heap.size + 1, 0, none⟩ (.int .i64 (pa : Int))).setCell ⟨w.heap.size + 1, 1, none⟩ (.int .i64 (pb : Int))).setCell ⟨w.heap.size + 1, 2, none⟩ (.slice (some ⟨gt, 0, none⟩) n n)) gt n (fun j => .int .u32 ((rowB slpV 1 k pa S j : Nat) : Int)) ∧ VR ((((x9).setCell ⟨w.heap.size + 1, 0, none⟩ (.int .i64 (pa : Int))).setCell ⟨w.heap.size + 1, 1, none⟩ (.int .i64 (pb : Int))).setCell ⟨w.heap.size + 1, 2, none⟩ (.slice (some ⟨gt, 0, none⟩) n n)) gu n (fun j => .int .u32 ((colB slpV 1 k pa pb S j : Nat) : Int)) ∧ Q w ((((x9).setCell ⟨w.heap.size + 1, 0, none⟩ (.int .i64 (pa : Int))).setCell ⟨w.heap.size + 1, 1, none⟩ (.int .i64 (pb : Int))).setCell ⟨w.heap.size + 1, 2, none⟩ (.slice (some ⟨gt, 0, none⟩) n n))) := by
    have hl' : w.heap.size ≤ w.heap.size + 1 := by omega
    have e1 : w.heap.size + 1 ≠ gt := by have := HX.out.2.2.2.1; omega
    have e2 : w.heap.size + 1 ≠ gu := by have := HX.out.2.2; omega
    exact ⟨((HX.out.1.other (p := ⟨w.heap.size + 1, 0, none⟩) e1 _).other (p := ⟨w.heap.size + 1, 1, none⟩) e1 _).other (p := ⟨w.heap.size + 1, 2, none⟩) e1 _, ((HX.out.2.1.other (p := ⟨w.heap.size + 1, 0, none⟩) e2 _).other (p := ⟨w.heap.size + 1, 1, none⟩) e2 _).other (p := ⟨w.heap.size + 1, 2, none⟩) e2 _, (((HQ1.out.trans q19).set hl' _).set hl' _).set hl' _⟩
  have HG : Hid (gt < gu ∧ w.heap.size + 3 ≤ gt) := ⟨HX.out.2.2.1, HX.out.2.2.2.1⟩
  generalize (((x9).setCell ⟨w.heap.size + 1, 0, none⟩ (.int .i64 (pa : Int))).setCell ⟨w.heap.size + 1, 1, none⟩ (.int .i64 (pb : Int))).setCell ⟨w.heap.size + 1, 2, none⟩ (.slice (some ⟨gt, 0, none⟩) n n) = y9 at c0 c1 c2 fc d0 d1 d2 HX1 ⊢
  refine tree_skipF 11 rfl rfl rfl (x' := (((y9).setCell ⟨w.heap.size + 2, 0, none⟩ (.int .i64 (pa : Int))).setCell ⟨w.heap.size + 2, 1, none⟩ (.int .i64 (pb : Int))).setCell ⟨w.heap.size + 2, 2, none⟩ (.slice (some ⟨gu, 0, none⟩) n n)) (by simp [execOp, go_sem, Act.put, c0, c1, c2, fc]) ?_
  refine tree_runF 12 rfl rfl rfl (v := .int .i64 0) (x' := (((y9).setCell ⟨w.heap.size + 2, 0, none⟩ (.int .i64 (pa : Int))).setCell ⟨w.heap.size + 2, 1, none⟩ (.int .i64 (pb : Int))).setCell ⟨w.heap.size + 2, 2, none⟩ (.slice (some ⟨gu, 0, none⟩) n n)) (by simp [execOp, go_sem, Act.put]) ?_
  refine tree_nil ?_
  have e0 : ((((y9).setCell ⟨w.heap.size + 2, 0, none⟩ (.int .i64 (pa : Int))).setCell ⟨w.heap.size + 2, 1, none⟩ (.int .i64 (pb : Int))).setCell ⟨w.heap.size + 2, 2, none⟩ (.slice (some ⟨gu, 0, none⟩) n n)).cell? ⟨w.heap.size + 2, 0, none⟩ = some (.int .i64 (pa : Int)) := (World.cell?_setCell_other _ _ _ _ (fun e => by injection e with _ e; cases e)).trans ((World.cell?_setCell_other _ _ _ _ (fun e => by injection e with _ e; cases e)).trans (World.cell?_setCell_same _ _ _ c0))
  have e1 : ((((y9).setCell ⟨w.heap.size + 2, 0, none⟩ (.int .i64 (pa : Int))).setCell ⟨w.heap.size + 2, 1, none⟩ (.int .i64 (pb : Int))).setCell ⟨w.heap.size + 2, 2, none⟩ (.slice (some ⟨gu, 0, none⟩) n n)).cell? ⟨w.heap.size + 2, 1, none⟩ = some (.int .i64 (pb : Int)) := (World.cell?_setCell_other _ _ _ _ (fun e => by injection e with _ e; cases e)).trans (World.cell?_setCell_same _ _ _ ((World.cell?_setCell_other _ _ _ _ (fun e => by injection e with _ e; cases e)).trans c1))
  have e2 : ((((y9).setCell ⟨w.heap.size + 2, 0, none⟩ (.int .i64 (pa : Int))).setCell ⟨w.heap.size + 2, 1, none⟩ (.int .i64 (pb : Int))).setCell ⟨w.heap.size + 2, 2, none⟩ (.slice (some ⟨gu, 0, none⟩) n n)).cell? ⟨w.heap.size + 2, 2, none⟩ = some (.slice (some ⟨gu, 0, none⟩) n n) := World.cell?_setCell_same _ _ _ ((World.cell?_setCell_other _ _ _ _ (fun e => by injection e with _ e; cases e)).trans ((World.cell?_setCell_other _ _ _ _ (fun e => by injection e with _ e; cases e)).trans c2))
  have g0' : ((((y9).setCell ⟨w.heap.size + 2, 0, none⟩ (.int .i64 (pa : Int))).setCell ⟨w.heap.size + 2, 1, none⟩ (.int .i64 (pb : Int))).setCell ⟨w.heap.size + 2, 2, none⟩ (.slice (some ⟨gu, 0, none⟩) n n)).cell? ⟨w.heap.size + 1, 0, none⟩ = some (.int .i64 (pa : Int)) := (World.cell?_setCell_other _ _ _ _ (fun e => by injection e with e; omega)).trans ((World.cell?_setCell_other _ _ _ _ (fun e => by injection e with e; omega)).trans ((World.cell?_setCell_other _ _ _ _ (fun e => by injection e with e; omega)).trans d0))
  have g1' : ((((y9).setCell ⟨w.heap.size + 2, 0, none⟩ (.int .i64 (pa : Int))).setCell ⟨w.heap.size + 2, 1, none⟩ (.int .i64 (pb : Int))).setCell ⟨w.heap.size + 2, 2, none⟩ (.slice (some ⟨gu, 0, none⟩) n n)).cell? ⟨w.heap.size + 1, 1, none⟩ = some (.int .i64 (pb : Int)) := (World.cell?_setCell_other _ _ _ _ (fun e => by injection e with e; omega)).trans ((World.cell?_setCell_other _ _ _ _ (fun e => by injection e with e; omega)).trans ((World.cell?_setCell_other _ _ _ _ (fun e => by injection e with e; omega)).trans d1))
  have g2' : ((((y9).setCell ⟨w.heap.size + 2, 0, none⟩ (.int .i64 (pa : Int))).setCell ⟨w.heap.size + 2, 1, none⟩ (.int .i64 (pb : Int))).setCell ⟨w.heap.size + 2, 2, none⟩ (.slice (some ⟨gu, 0, none⟩) n n)).cell? ⟨w.heap.size + 1, 2, none⟩ = some (.slice (some ⟨gt, 0, none⟩) n n) := (World.cell?_setCell_other _ _ _ _ (fun e => by injection e with e; omega)).trans ((World.cell?_setCell_other _ _ _ _ (fun e => by injection e with e; omega)).trans ((World.cell?_setCell_other _ _ _ _ (fun e => by injection e with e; omega)).trans d2))
  have HV : Hid (VR ((((y9).setCell ⟨w.heap.size + 2, 0, none⟩ (.int .i64 (pa : Int))).setCell ⟨w.heap.size + 2, 1, none⟩ (.int .i64 (pb : Int))).setCell ⟨w.heap.size + 2, 2, none⟩ (.slice (some ⟨gu, 0, none⟩) n n)) gt n (fun j => .int .u32 ((rowB slpV 1 k pa S j : Nat) : Int)) ∧ VR ((((y9).setCell ⟨w.heap.size + 2, 0, none⟩ (.int .i64 (pa : Int))).setCell ⟨w.heap.size + 2, 1, none⟩ (.int .i64 (pb : Int))).setCell ⟨w.heap.size + 2, 2, none⟩ (.slice (some ⟨gu, 0, none⟩) n n)) gu n (fun j => .int .u32 ((colB slpV 1 k pa pb S j : Nat) : Int)) ∧ Q w ((((y9).setCell ⟨w.heap.size + 2, 0, none⟩ (.int .i64 (pa : Int))).setCell ⟨w.heap.size + 2, 1, none⟩ (.int .i64 (pb : Int))).setCell ⟨w.heap.size + 2, 2, none⟩ (.slice (some ⟨gu, 0, none⟩) n n))) := by
    have hl' : w.heap.size ≤ w.heap.size + 2 := by omega
    have h1 : w.heap.size + 2 ≠ gt := by have := HG.out; omega
    have h2 : w.heap.size + 2 ≠ gu := by have := HG.out; omega
    exact ⟨((HX1.out.1.other (p := ⟨w.heap.size + 2, 0, none⟩) h1 _).other (p := ⟨w.heap.size + 2, 1, none⟩) h1 _).other (p := ⟨w.heap.size + 2, 2, none⟩) h1 _, ((HX1.out.2.1.other (p := ⟨w.heap.size + 2, 0, none⟩) h2 _).other (p := ⟨w.heap.size + 2, 1, none⟩) h2 _).other (p := ⟨w.heap.size + 2, 2, none⟩) h2 _, ((HX1.out.2.2.set hl' _).set hl' _).set hl' _⟩
  generalize (((y9).setCell ⟨w.heap.size + 2, 0, none⟩ (.int .i64 (pa : Int))).setCell ⟨w.heap.size + 2, 1, none⟩ (.int .i64 (pb : Int))).setCell ⟨w.heap.size + 2, 2, none⟩ (.slice (some ⟨gu, 0, none⟩) n n) = w9 at HV e0 e1 e2 g0' g1' g2' ⊢
  clear CR CC hv8 hv9 z fa fb fc HX1
  go_wp2_with fail
  have hg := HG.out
  exact bodyPost_ret (v := .tuple #[.agg #[.int .i64 (pa : Int), .int .i64 (pb : Int), .slice (some ⟨gt, 0, none⟩) n n], .agg #[.int .i64 (pa : Int), .int .i64 (pb : Int), .slice (some ⟨gu, 0, none⟩) n n], .int .i64 0]) (by simp [results, Try.results11, go_sem, e0, e1, e2, g0', g1', g2', Act.put]) rfl ⟨gt, gu, rfl, HV.out.1, HV.out.2.1, by omega, by omega, by omega, HV.out.2.2⟩
end Go.Proofs.Ytpobgkcobgecoab

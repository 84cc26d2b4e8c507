/- A Room lends a plane. -/
import Derived.Test.YtkgfohodahkmmaaRmC
namespace Go.Proofs.Ytkgfohodahkmmaa
open Go.RowKit
set_option linter.unusedVariables false
set_option linter.unusedSimpArgs false

set_option maxHeartbeats 8000000 in
set_option maxRecDepth 100000 in
theorem room_plane (w0 w : World) (q0 : Q w0 w) (r : Nat) {sv wv : Value} {L : List Lend} (h : Rm w0.heap.size w r sv wv L) (hL : L.length ≤ 1000) (W H : Int) (v : Value) (S : List Nat) (hS : USl w v S) (hn : S.length ≤ 35184372087808) :
    Calls Try.prog 10 #[.pointer (some ⟨r, 0, none⟩), .agg #[.int .i64 W, .int .i64 H, v]] w fun e w' => ∃ g n hh cap sv' wv', e = .returned (.agg #[.int .i64 W, .int .i64 H, .slice (some ⟨g, 0, none⟩) n (n + 5)]) ∧ n = S.length ∧ Q w0 w' ∧ w.heap.size ≤ g ∧ Hid (Rm w0.heap.size w' r sv' wv' (L ++ [⟨g, hh, cap, lentL S⟩])) ∧
      Hid (Fr w w' (fun b => b ≠ r ∧ sv.ownBlock ≠ some b ∧ wv.ownBlock ≠ some b)) ∧ Hid (∀ b, b < w.heap.size → Blk r sv' wv' (L ++ [⟨g, hh, cap, lentL S⟩]) b → Blk r sv wv L b) := by
  obtain ⟨a, cap, ev⟩ := hS.form
  subst ev
  obtain ⟨w1, hw1⟩ : ∃ w1, (w.alloc (.cells #[.int .i64 W, .int .i64 H, .slice a S.length cap] 25)).alloc (.cells #[.int .i64 0, .int .i64 0, .slice none 0 0] 25) = w1 := ⟨_, rfl⟩
  have Q1 : Hid (Q w w1) := by rw [← hw1]; exact (((Q.refl w).cells _ _).cells _ _)
  have S1 : w1.heap.size = w.heap.size + 1 + 1 := by rw [← hw1]; simp
  have z00 : w1.cell? ⟨w.heap.size, 0, none⟩ = some (.int .i64 W) := by rw [← hw1]; simp [go_sem]
  have z01 : w1.cell? ⟨w.heap.size, 1, none⟩ = some (.int .i64 H) := by rw [← hw1]; simp [go_sem]
  have z02 : w1.cell? ⟨w.heap.size, 2, none⟩ = some (.slice a S.length cap) := by rw [← hw1]; simp [go_sem]
  have z10 : w1.cell? ⟨w.heap.size + 1, 0, none⟩ = some (.int .i64 0) := by rw [← hw1]; simp [go_sem]
  have z11 : w1.cell? ⟨w.heap.size + 1, 1, none⟩ = some (.int .i64 0) := by rw [← hw1]; simp [go_sem]
  have z12 : w1.cell? ⟨w.heap.size + 1, 2, none⟩ = some (.slice none 0 0) := by rw [← hw1]; simp [go_sem]
  have yf : ∀ b j, w.heap.size ≤ b → b < w.heap.size + 1 + 1 → w1.frozen? ⟨b, j, none⟩ = false := fun b j h1 h2 => by
    obtain rfl | rfl : b = w.heap.size ∨ b = w.heap.size + 1 := by omega
    · rw [← hw1]; simp [go_sem]
    · rw [← hw1]; simp [go_sem]
  have A := room_samples w0 w1 (q0.trans Q1.out) r (h.next Q1.out) hL (.slice a S.length cap) S (hS.next Q1.out) hn
  have hr : r < w.heap.size := cell_in h.c0
  have hs : ∀ b, sv.ownBlock = some b → b < w.heap.size := fun b hb => (own_lt h.own hb).2
  have hv : ∀ b, wv.ownBlock = some b → b < w.heap.size := fun b hb => (own_lt h.were hb).2
  have HR : Hid (r < w.heap.size ∧ (∀ b, sv.ownBlock = some b → b < w.heap.size) ∧ ∀ b, wv.ownBlock = some b → b < w.heap.size) := ⟨hr, hs, hv⟩
  have HLT : Hid (∀ b, Blk r sv wv L b → b < w.heap.size) := fun b hb => (h.lt hb).2
  have HLo : Hid (w0.heap.size ≤ w.heap.size) := q0.1.size
  clear h hS hs hv hr q0
  go_enter Try.func10, Try.ntmps10
  go_wp2_with fail
  clear hw1
  refine A.mono ?_
  rintro e w2 ⟨g, n, hh, cap', sv', wv', rfl, hn', q2, hg, RM, FR, BL⟩
  have HNE : Hid (n = S.length) := hn'
  clear hn' A
  have key : ∀ b, w.heap.size ≤ b → b ≠ r ∧ sv.ownBlock ≠ some b ∧ wv.ownBlock ≠ some b := fun b hb => ⟨by have := HR.out.1; omega, fun e => by have := HR.out.2.1 b e; omega, fun e => by have := HR.out.2.2 b e; omega⟩
  have KEY : Hid (∀ b, w.heap.size ≤ b → b ≠ r ∧ sv.ownBlock ≠ some b ∧ wv.ownBlock ≠ some b) := key
  replace z00 := FR.out.cell z00 (key _ (by show w.heap.size ≤ w.heap.size; omega))
  replace z01 := FR.out.cell z01 (key _ (by show w.heap.size ≤ w.heap.size; omega))
  replace z02 := FR.out.cell z02 (key _ (by show w.heap.size ≤ w.heap.size; omega))
  replace z10 := FR.out.cell z10 (key _ (by show w.heap.size ≤ w.heap.size + 1; omega))
  replace z11 := FR.out.cell z11 (key _ (by show w.heap.size ≤ w.heap.size + 1; omega))
  replace z12 := FR.out.cell z12 (key _ (by show w.heap.size ≤ w.heap.size + 1; omega))
  have yf0 : ∀ j, w2.frozen? ⟨w.heap.size, j, none⟩ = false := fun j => (FR.out.frz _).trans (yf _ j (by omega) (by omega))
  have yf1 : ∀ j, w2.frozen? ⟨w.heap.size + 1, j, none⟩ = false := fun j => (FR.out.frz _).trans (yf _ j (by omega) (by omega))
  have hlo := HLo.out
  have hgr : w.heap.size + 1 < g := by omega
  clear yf key
  go_wp2_with fail
  refine bodyPost_ret (v := .agg #[.int .i64 W, .int .i64 H, .slice (some ⟨g, 0, none⟩) n (n + 5)]) (by simp [results, Try.results10, go_sem, z00, z01, z02, z10, z11, z12]) rfl ⟨g, n, hh, cap', sv', wv', rfl, HNE.out, (((q2.put (by omega)).put (by omega)).put (by omega)).put (by omega), by omega, ?_, ?_, fun b hb => BL.out b (by omega)⟩
  · have f := ((((Fr.refl w2 (fun b => b ≠ w.heap.size ∧ b ≠ w.heap.size + 1)).set (p := ⟨w.heap.size, 2, none⟩) (fun hR => hR.1 rfl) (.slice (some ⟨g, 0, none⟩) n (n + 5))).set (p := ⟨w.heap.size + 1, 0, none⟩) (fun hR => hR.2 rfl) (.int .i64 W)).set (p := ⟨w.heap.size + 1, 1, none⟩) (fun hR => hR.2 rfl) (.int .i64 H)).set (p := ⟨w.heap.size + 1, 2, none⟩) (fun hR => hR.2 rfl) (.slice (some ⟨g, 0, none⟩) n (n + 5))
    refine RM.out.keep f (fun b hb => ?_)
    rcases Nat.lt_or_ge b w1.heap.size with hlt | hge
    · have := HLT.out b (BL.out b hlt hb); omega
    · omega
  · have f0 : Fr w w2 (fun b => (b ≠ r ∧ sv.ownBlock ≠ some b ∧ wv.ownBlock ≠ some b) ∧ b < w.heap.size) := (Q1.out.fr _).trans (FR.out.mono (fun x hx _ => hx.1))
    have nlt : ∀ b, w.heap.size ≤ b → ¬ ((b ≠ r ∧ sv.ownBlock ≠ some b ∧ wv.ownBlock ≠ some b) ∧ b < w.heap.size) := fun b hb h => by omega
    have f := ((((f0).set (p := ⟨w.heap.size, 2, none⟩) (nlt _ (Nat.le_refl _)) (.slice (some ⟨g, 0, none⟩) n (n + 5))).set (p := ⟨w.heap.size + 1, 0, none⟩) (nlt _ (Nat.le_succ _)) (.int .i64 W)).set (p := ⟨w.heap.size + 1, 1, none⟩) (nlt _ (Nat.le_succ _)) (.int .i64 H)).set (p := ⟨w.heap.size + 1, 2, none⟩) (nlt _ (Nat.le_succ _)) (.slice (some ⟨g, 0, none⟩) n (n + 5))
    exact f.mono (fun x hx hlt => ⟨hx, hlt⟩)
end Go.Proofs.Ytkgfohodahkmmaa

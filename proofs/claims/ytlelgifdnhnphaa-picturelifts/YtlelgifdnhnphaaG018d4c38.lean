/- What is done to each sample: Map's loop, and a picture's planes one by one. -/
import Derived.Test.YtlelgifdnhnphaaG0750e2c1
namespace Go.Proofs.Ytlelgifdnhnphaa
open Go.RowKit
set_option linter.unusedVariables false
set_option linter.unusedSimpArgs false

/-- A function of a sample. -/
structure Fun1 (f : FuncId) (recv : Value) (F : Nat → Nat) : Prop where
  en : ∀ (args : Array Value) (x : World), (callFunc f args).run Try.prog x = .ok (.enter f args) x
  c : ∀ (s : Nat), s < 4294967296 → ∀ x : World, Calls Try.prog f #[recv, .int .u32 (s : Int)] x fun e x' => e = .returned (.int .u32 ((F s : Nat) : Int)) ∧ Q x x'
  lt : ∀ (s : Nat), s < 4294967296 → F s < 4294967296
theorem getD_map (F : Nat → Nat) (S : List Nat) {i : Nat} (h : i < S.length) : (S.map F).getD i 0 = F (S.getD i 0) := by
  rw [List.getD_eq_getElem?_getD, List.getElem?_map, List.getD_eq_getElem?_getD, List.getElem?_eq_getElem h]; rfl
set_option maxHeartbeats 4000000 in
set_option maxRecDepth 100000 in
theorem cmap_any (f : FuncId) (recv : Value) (F : Nat → Nat) (hF : Fun1 f recv F) (w : World) (n : Nat) (x : PL) (h : Gd w n x) (h1 : 1 ≤ n) (h2 : n ≤ 65536) :
    Calls Try.prog 89 #[.func (.func f) #[recv] #[], .slice (some ⟨x.g, x.o, none⟩) x.S.length x.cap] w fun e w' => ∃ y : PL, e = .returned (.slice (some ⟨y.g, y.o, none⟩) y.S.length y.cap) ∧ y.S = x.S.map F ∧ Hid (Mine w.heap.size w' n y) ∧ Q w w' := by
  have HG : Hid (Gd w n x) := h
  have HF : Hid (Fun1 f recv F) := hF
  have HL : Hid (x.S.length = n) := h.len
  rw [HL.out]
  obtain ⟨M, hmk, hfill⟩ := make_u32 n (by omega)
  have F0 : Hid (Fill w (w.alloc (.cells M 28)) w.heap.size n (fun i => F (x.S.getD i 0)) 0) := by
    obtain ⟨p1, p2, p3, p4, p5⟩ := hfill w
    exact ⟨p1, p2, fun i hi => absurd hi (Nat.not_lt_zero _), p4, p5⟩
  have en := hF.en
  clear h hF hfill
  go_enter Try.func89, Try.ntmps89
  go_wp2_with fail
  go_loopg [13] n (fun m s13 wx => ∃ i : Nat, s13 = .int .i64 i ∧ i + m = n ∧ Hid (Fill w wx w.heap.size n (fun i => F (x.S.getD i 0)) i))
  case atStart => exact ⟨0, rfl, by omega, F0⟩
  case round =>
    obtain ⟨i, rfl, him, FI⟩ := hrel
    by_cases hi : i < n
    · have hi0 : (0 : Int) ≤ (i : Int) := by omega
      have hi1 : (i : Int) < (n : Int) := by omega
      have c1 := FI.out.q.cell (HG.out.us i (by rw [HL.out]; exact hi))
      have hxi := HG.out.lt i
      obtain ⟨q, hxe⟩ : ∃ q, x.S.getD i 0 = q := ⟨_, rfl⟩
      have HV : Hid (F q = (fun i => F (x.S.getD i 0)) i) := by show _ = F (x.S.getD i 0); rw [hxe]
      rw [hxe] at c1 hxi
      have A := HF.out.c q hxi wr
      obtain ⟨z, hz⟩ : ∃ z, F q = z := ⟨_, rfl⟩
      rw [hz] at A HV
      clear hxe hz
      go_wp2_with fail
      refine A.mono ?_
      rintro e w2 ⟨rfl, q2⟩
      have F2 := FI.out.next q2
      obtain ⟨u, hu⟩ := F2.room i hi
      have fz := F2.free i
      have FN : Hid (Fill w (w2.setCell ⟨w.heap.size, i, none⟩ (.int .u32 (z : Nat))) w.heap.size n (fun i => F (x.S.getD i 0)) (i + 1)) := F2.step hi HV.out
      clear A F2
      go_wp2_with fail
      go_roundg (n - (i + 1))
      case measure => go_light; omega
      case rel => go_light; exact ⟨i + 1, by go_num, by omega, FN⟩
    · have hie : i = n := by omega
      have FE : Hid (Fill w wr w.heap.size n (fun i => F (x.S.getD i 0)) n) := by rw [hie] at FI; exact FI
      go_wp2_with fail
      have hlen : (x.S.map F).length = n := by rw [List.length_map]; exact HL.out
      refine bodyPost_ret (v := .slice (some ⟨w.heap.size, 0, none⟩) n n) (by simp [results, Try.results89, go_sem]) rfl ⟨⟨w.heap.size, 0, n, x.S.map F⟩, by show _ = Ending.returned (.slice _ (x.S.map F).length _); rw [hlen], rfl, ⟨rfl, Nat.le_refl _, ?_, ⟨hlen, by show (x.S.map F).length ≤ n; omega, fun j hj => ?_, fun j => ?_⟩, FE.out.free, FE.out.room, by show n ≤ maxLen; unfold maxLen; omega⟩, FE.out.q⟩
      · obtain ⟨u, hu⟩ := FE.out.room 0 (by omega)
        exact cell_in hu
      · have hj : j < (x.S.map F).length := hj
        rw [hlen] at hj
        show wr.cell? ⟨w.heap.size, 0 + j, none⟩ = some (.int .u32 (((x.S.map F).getD j 0 : Nat) : Int))
        rw [Nat.zero_add, getD_map F x.S (by rw [HL.out]; exact hj)]
        exact FE.out.done j hj
      · show (x.S.map F).getD j 0 < _
        by_cases hj : j < n
        · rw [getD_map F x.S (by rw [HL.out]; exact hj)]; exact HF.out.lt _ (HG.out.lt j)
        · rw [List.getD_eq_getElem?_getD, List.getElem?_eq_none (by omega)]; decide
/-- The planes of a picture that are changed. -/
def chgB (n : Int) (i : Nat) : Bool := n == -1 || n == (i : Int)
set_option maxHeartbeats 2000000 in
set_option maxRecDepth 100000 in
theorem samples_any (f : FuncId) (recv : Value) (F : Nat → Nat) (hF : Fun1 f recv F) (k : Int) (i : Nat) (w : World) (n : Nat) (x : PL) (h : Gd w n x) (h1 : 1 ≤ n) (h2 : n ≤ 65536) :
    Calls Try.prog 77 #[.agg #[.int .i64 k, .func (.func f) #[recv] #[]], .int .i64 (i : Int), .slice (some ⟨x.g, x.o, none⟩) x.S.length x.cap] w fun e w' => ∃ u, e = .returned u ∧ ∃ y : PL, u = .slice (some ⟨y.g, y.o, none⟩) y.S.length y.cap ∧ y.S = (if chgB k i = true then x.S.map F else x.S) ∧ Hid (Mine w.heap.size w' n y) ∧ Q w w' := by
  have HG : Hid (Gd w n x) := h
  have HF : Hid (Fun1 f recv F) := hF
  have qa : Hid (∀ c t, Q w (w.alloc (.cells c t))) := fun c t => (Q.refl w).cells c t
  have hv : ∀ y : PL, y.v = .slice (some ⟨y.g, y.o, none⟩) y.S.length y.cap := fun y => rfl
  clear h hF
  have yes : chgB k i = true → (k = -1 ∨ (k ≠ -1 ∧ k = i)) := fun hc => by
    unfold chgB at hc
    simp only [Bool.or_eq_true, beq_iff_eq] at hc
    omega
  cases hc : chgB k i
  · have k1 : k ≠ -1 ∧ k ≠ (i : Int) := by
      unfold chgB at hc
      simp only [Bool.or_eq_false_iff, beq_eq_false_iff_ne] at hc
      exact hc
    have b1 : (k != -1) = true := by rw [bne_iff_ne]; exact k1.1
    have b2 : (k != (i : Int)) = true := by rw [bne_iff_ne]; exact k1.2
    have b3 : (k == -1) = false := by rw [beq_eq_false_iff_ne]; exact k1.1
    have b4 : (k == (i : Int)) = false := by rw [beq_eq_false_iff_ne]; exact k1.2
    clear hc k1 yes
    go_enter Try.func77, Try.ntmps77
    go_wp2_with fail
    refine (clone_us _ n x (HG.out.next (qa.out _ _)) h1 h2).mono ?_
    rintro e w1 ⟨y, rfl, hy, hm, hq⟩
    have HY : Hid (y.S = _) := hy
    clear hy
    have hs := hq.1.size
    rw [hv]
    go_wp2_with fail
    refine bodyPost_ret (v := .slice (some ⟨y.g, y.o, none⟩) y.S.length y.cap) (by simp [results, Try.results77, go_sem]) rfl ⟨_, rfl, y, rfl, HY.out, hm.out.mono (by simp), (qa.out _ _).trans hq⟩
  · rcases yes hc with rfl | ⟨k1, rfl⟩
    · clear hc yes
      go_enter Try.func77, Try.ntmps77
      go_wp2_with fail
      refine (cmap_any f recv F HF.out _ n x (HG.out.next (qa.out _ _)) h1 h2).mono ?_
      rintro e w1 ⟨y, rfl, hy, hm, hq⟩
      have HY : Hid (y.S = _) := hy
      clear hy
      go_wp2_with fail
      refine bodyPost_ret (v := .slice (some ⟨y.g, y.o, none⟩) y.S.length y.cap) (by simp [results, Try.results77, go_sem]) rfl ⟨_, rfl, y, rfl, HY.out, hm.out.mono (by simp), (qa.out _ _).trans hq⟩
    · have b1 : ((i : Int) != -1) = true := by rw [bne_iff_ne]; exact k1
      have b3 : ((i : Int) == -1) = false := by rw [beq_eq_false_iff_ne]; exact k1
      clear hc yes
      go_enter Try.func77, Try.ntmps77
      go_wp2_with fail
      refine (cmap_any f recv F HF.out _ n x (HG.out.next (qa.out _ _)) h1 h2).mono ?_
      rintro e w1 ⟨y, rfl, hy, hm, hq⟩
      have HY : Hid (y.S = _) := hy
      clear hy
      go_wp2_with fail
      refine bodyPost_ret (v := .slice (some ⟨y.g, y.o, none⟩) y.S.length y.cap) (by simp [results, Try.results77, go_sem]) rfl ⟨_, rfl, y, rfl, HY.out, hm.out.mono (by simp), (qa.out _ _).trans hq⟩
end Go.Proofs.Ytlelgifdnhnphaa

/- Curves one behind the other: At. -/
import Derived.Test.YtmfniimelibhfaaCurveMeetsM12
import Derived.Test.YtmfniimelibhfaaCurveMeetsM10
namespace Go.Proofs.Ytmfniimelibhfaa
open Go.RowKit
set_option linter.unusedVariables false
set_option linter.unusedSimpArgs false

/-- A chain in memory. -/
structure ChIs (w : World) (b : Nat) (ll : List (List (Nat × Nat))) : Prop where
  it : ∃ g cap, w.cell? ⟨b, 0, none⟩ = some (.slice (some ⟨g, 0, none⟩) ll.length cap) ∧ ll.length ≤ cap ∧ LLs w g 0 ll
theorem ChIs.next {w w' : World} {b : Nat} {ll : List (List (Nat × Nat))} (h : ChIs w b ll) (q : Q w w') : ChIs w' b ll := by
  obtain ⟨g, cap, h1, h2, h3⟩ := h.it
  exact ⟨g, cap, q.cell h1, h2, h3.next q⟩
theorem LLs.curve {w : World} {g o : Nat} {ll : List (List (Nat × Nat))} (h : LLs w g o ll) {i : Nat} (hi : i < ll.length) : CIs w g (o + i) (ll.getD i []) := by
  obtain ⟨g', o', cap, h1, h2, h3⟩ := h i hi
  exact ⟨g', o', cap, h1, h2, h3⟩

set_option maxHeartbeats 4000000 in
theorem chat_any (b : Nat) (ll : List (List (Nat × Nat))) (hll : ∀ l ∈ ll, COk l) (hlen : ll.length ≤ 64) (x : Nat) (hx : x < 4294967296) (w : World) (hc : ChIs w b ll) :
    Calls Try.prog 26 #[.pointer (some ⟨b, 0, none⟩), .int .u32 x] w fun e w' => e = .returned (.int .u32 (chainV ll x : Nat)) ∧ Q w w' := by
  obtain ⟨g, cap, c1, c2, c3⟩ := hc.it
  have HK : Hid (LLs w g 0 ll) := c3
  have HL : Hid (∀ l ∈ ll, COk l) := hll
  obtain ⟨N, hN⟩ : ∃ N, ll.length = N := ⟨_, rfl⟩
  rw [hN] at c1 c2 hlen
  clear hc c3 hll
  go_enter Try.func26, Try.ntmps26
  go_wp2_with fail
  go_loopg [1, 11] N (fun m s1 s11 wr => ∃ k X : Nat, s1 = .int .u32 X ∧ s11 = .int .i64 k ∧ k + m = N ∧ X < 4294967296 ∧ Hid (X = chainV (ll.take k) x) ∧ Q w wr)
  case atStart => exact ⟨0, x, rfl, rfl, by omega, hx, (rfl : x = chainV (ll.take 0) x), Q.refl _⟩
  case round =>
    obtain ⟨k, X, rfl, rfl, hm, hX, HX, hq⟩ := hrel
    by_cases hkn : k < N
    · have hkl : k < ll.length := by omega
      have K3 : Hid (CIs wr g k (ll.getD k [])) := by
        have := (HK.out.next hq).curve hkl
        rw [Nat.zero_add] at this
        exact this
      have ok : Hid (COk (ll.getD k [])) := HL.out _ (getD_mem hkl)
      have N1 : Hid (atV (ll.getD k []) X = chainV (ll.take (k + 1)) x) := by
        show atV (ll.getD k []) X = chainV (ll.take (k + 1)) x
        rw [chain_take hkl, ← HX.out]
      have N2 := atV_lt ok.out hX
      obtain ⟨lk, hlk⟩ : ∃ lk, ll.getD k [] = lk := ⟨_, rfl⟩
      rw [hlk] at K3 ok N1 N2
      clear hlk hkl
      have cc := hq.cell c1
      have hi0 : (0 : Int) ≤ (k : Int) := by omega
      have hi1 : (k : Int) < (N : Int) := by omega
      go_wp2_with fail
      refine (at_any g k lk ok.out X hX _ K3.out).mono ?_
      rintro e w1 ⟨rfl, q1⟩
      go_wp2_with fail
      go_roundg (N - (k + 1))
      case measure => go_light; omega
      case rel => go_light; exact ⟨k + 1, _, rfl, by go_num, by omega, N2, N1, hq.trans q1⟩
    · have e1 : chainV ll x = X := by
        rw [HX.out, List.take_of_length_le (by omega)]
      have E1 : Hid (X = chainV ll x) := e1.symm
      clear e1 HX
      go_wp2_with fail
      go_ret
      exact ⟨ret_int (by rw [← E1.out]), hq⟩
end Go.Proofs.Ytmfniimelibhfaa
/- Curves one behind the other: Join. -/
namespace Go.Proofs.Ytmfniimelibhfaa
open Go.RowKit
set_option linter.unusedVariables false
set_option linter.unusedSimpArgs false

/-- Curves handed in, each by its pointer. -/
def PLs (w : World) (g o : Nat) (ll : List (List (Nat × Nat))) : Prop := ∀ i, i < ll.length → ∃ b, w.cell? ⟨g, o + i, none⟩ = some (.pointer (some ⟨b, 0, none⟩)) ∧ CIs w b 0 (ll.getD i [])
theorem PLs.next {w w' : World} {g o : Nat} {ll : List (List (Nat × Nat))} (h : PLs w g o ll) (q : Q w w') : PLs w' g o ll := fun i hi => by
  obtain ⟨b, h1, h2⟩ := h i hi
  exact ⟨b, q.cell h1, h2.next q⟩
theorem curveInfo : ∃ i, Try.prog.info? 72 = some i ∧ i.size = 1 ∧ i.bytes = 24 ∧ i.zero = some (.agg #[.slice none 0 0]) :=
  info_of (by kernel_rfl) (by kernel_rfl)
/-- How far Join has come. -/
structure Joins (ll : List (List (Nat × Nat))) (w wr : World) (g k : Nat) : Prop where
  q : Q w wr
  new : w.heap.size ≤ g
  done : ∀ i, i < k → ∃ g' o' cap, wr.cell? ⟨g, i, none⟩ = some (.slice (some ⟨g', o', none⟩) (ll.getD i []).length cap) ∧ (ll.getD i []).length ≤ cap ∧ KIs w g' o' (ll.getD i [])
  room : ∀ j, j < ll.length → ∃ v, wr.cell? ⟨g, j, none⟩ = some v
  free : ∀ j, wr.frozen? ⟨g, j, none⟩ = false
theorem Joins.next {ll : List (List (Nat × Nat))} {w wr wx : World} {g k : Nat} (h : Joins ll w wr g k) (q : Q wr wx) : Joins ll w wx g k where
  q := h.q.trans q
  new := h.new
  done := fun i hi => by obtain ⟨g', o', cap, h1, h2⟩ := h.done i hi; exact ⟨g', o', cap, q.cell h1, h2⟩
  room := fun j hj => by obtain ⟨v, hv⟩ := h.room j hj; exact ⟨v, q.cell hv⟩
  free := fun j => by rw [q.2]; exact h.free j
theorem Joins.step {ll : List (List (Nat × Nat))} {w wr : World} {g k : Nat} (h : Joins ll w wr g k) (hk : k < ll.length) {g' o' cap : Nat} (h2 : (ll.getD k []).length ≤ cap) (h4 : KIs w g' o' (ll.getD k [])) :
    Joins ll w (wr.setCell ⟨g, k, none⟩ (.slice (some ⟨g', o', none⟩) (ll.getD k []).length cap)) g (k + 1) := by
  obtain ⟨u, hu⟩ := h.room k hk
  refine ⟨h.q.set h.new _, h.new, fun i hi => ?_, fun j hj => ?_, fun j => ?_⟩
  · by_cases e : i = k
    · subst e
      exact ⟨g', o', cap, World.cell?_setCell_same _ _ _ hu, h2, h4⟩
    · rw [World.cell?_setCell_other _ _ _ _ (by simp <;> omega)]
      exact h.done i (by omega)
  · by_cases e : j = k
    · subst e; exact ⟨_, World.cell?_setCell_same _ _ _ hu⟩
    · rw [World.cell?_setCell_other _ _ _ _ (by simp <;> omega)]; exact h.room j hj
  · rw [World.frozen?_setCell]; exact h.free j

set_option maxHeartbeats 4000000 in
set_option maxRecDepth 100000 in
theorem join_any (g o cap : Nat) (ll : List (List (Nat × Nat))) (h1 : 1 ≤ ll.length) (h8 : ll.length ≤ 8) (w : World) (hk : PLs w g o ll) :
    Calls Try.prog 24 #[.slice (some ⟨g, o, none⟩) ll.length cap] w fun e w' => Q w w' ∧ ∃ b, e = .returned (.tuple #[.pointer (some ⟨b, 0, none⟩), .int .i64 0]) ∧ ChIs w' b ll := by
  have HK : Hid (PLs w g o ll) := hk
  obtain ⟨i, i1, i2, i3, i4⟩ := curveInfo
  obtain ⟨N, hN⟩ : ∃ N, ll.length = N := ⟨_, rfl⟩
  obtain ⟨M, hM⟩ : ∃ M, M = madeCells (Value.agg #[.slice none 0 0]).cells (N * 1) := ⟨_, rfl⟩
  have hms : M.size = N := by rw [hM]; simpa using size_madeCells _ (N * 1)
  rw [hN] at h1 h8 ⊢
  have hmk : ∀ w : World, (Instr.makeSlice 81 (.int .i64 (N : Int)) (.int .i64 (N : Int))).run Try.prog w = .ok (.slice (some ⟨w.heap.size, 0, none⟩) N N) (w.alloc (.cells M 72)) := fun w => by
    have := run_make (P := Try.prog) w 81 72 i _ Try.underlying81 i1 i4 .i64 .i64 N N (by omega) (by omega) (by rw [i3]; omega) (by omega)
    rw [i2] at this
    simp only [Int.toNat_natCast] at this
    rw [hM]
    exact this
  have j1 : ¬ (N : Int) < 1 := by omega
  have j2 : ¬ (8 : Int) < (N : Int) := by omega
  have j3 : decide ((N : Int) < 1) = false := decide_eq_false j1
  have j4 : decide ((8 : Int) < (N : Int)) = false := decide_eq_false j2
  clear hk i1 i2 i3 i4 hM
  go_enter Try.func24, Try.ntmps24
  go_wp2_with fail
  have hb : (w.alloc (.cells M 72)).heap[w.heap.size]? = some (.cells M 72 (0, 0)) := heap_alloc_new w _
  have J0 : Hid (Joins ll w ((w.alloc (.cells M 72)).alloc (.cells #[.slice (some ⟨w.heap.size, 0, none⟩) N N] 83)) w.heap.size 0) := by
    refine ⟨((Q.refl w).cells _ _).cells _ _, Nat.le_refl _, fun i hi => absurd hi (Nat.not_lt_zero _), fun j hj => ?_, fun j => ?_⟩
    · have : (w.alloc (.cells M 72)).cell? ⟨w.heap.size, j, none⟩ = some (M[j]'(by omega)) := by
        rw [cell_of_row _ _ j M 72 (0, 0) hb]
        exact Array.getElem?_eq_getElem (by omega)
      exact ⟨_, cell_1 this _ _⟩
    · rw [((Q.refl _).cells _ _).2]
      exact frozen_of_row _ _ _ _ _ hb
  have C0 : ((w.alloc (.cells M 72)).alloc (.cells #[.slice (some ⟨w.heap.size, 0, none⟩) N N] 83)).cell? ⟨w.heap.size + 1, 0, none⟩ = some (.slice (some ⟨w.heap.size, 0, none⟩) N N) := by simp [go_sem]
  clear hb hmk hms
  generalize World.alloc (w.alloc _) _ = w0 at J0 C0 ⊢
  go_loopg [22] N (fun m s22 wr => ∃ k : Nat, s22 = .int .i64 k ∧ k + m = N ∧ Hid (Joins ll w wr w.heap.size k) ∧ wr.cell? ⟨w.heap.size + 1, 0, none⟩ = some (.slice (some ⟨w.heap.size, 0, none⟩) N N))
  case atStart => exact ⟨0, rfl, by omega, J0, C0⟩
  case round =>
    obtain ⟨k, rfl, hm, JK, CK⟩ := hrel
    by_cases hkn : k < N
    · have hkl : k < ll.length := by omega
      obtain ⟨bk, p1, p2⟩ := HK.out k hkl
      obtain ⟨g', o', c', p3, p4, p5⟩ := p2.it
      obtain ⟨u, hu⟩ := JK.out.room k hkl
      have z1 := JK.out.free k
      have J1 : Hid (Joins ll w (wr.drew.setCell ⟨w.heap.size, k, none⟩ (.slice (some ⟨g', o', none⟩) (ll.getD k []).length c')) w.heap.size (k + 1)) := (JK.out.next (Q.refl wr).drew).step hkl p4 p5
      replace p1 := JK.out.q.cell p1
      replace p3 := JK.out.q.cell p3
      obtain ⟨L, hL⟩ : ∃ L, (ll.getD k []).length = L := ⟨_, rfl⟩
      rw [hL] at p3 p4 J1
      have hi0 : (0 : Int) ≤ (k : Int) := by omega
      have hi1 : (k : Int) < (N : Int) := by omega
      have CK' : (wr.drew.setCell ⟨w.heap.size, k, none⟩ (.slice (some ⟨g', o', none⟩) L c')).cell? ⟨w.heap.size + 1, 0, none⟩ = some (.slice (some ⟨w.heap.size, 0, none⟩) N N) := by
        rw [World.cell?_setCell_other _ _ _ _ (by simp <;> omega)]
        exact (Q.refl wr).drew.cell CK
      clear hL p5 p2
      go_wp2_with fail
      go_region
      all_goals
        go_wp2_with fail
        go_roundg (N - (k + 1))
        case measure => go_light; omega
        case rel => go_light; exact ⟨k + 1, by go_num, by omega, J1, CK'⟩
    · have hk : k = N := by omega
      subst hk
      go_wp2_with fail
      refine bodyPost_ret (v := .tuple #[.pointer (some ⟨w.heap.size + 1, 0, none⟩), .int .i64 0]) (by simp [results, Try.results24, go_sem]) rfl ⟨JK.out.q, _, rfl, ?_⟩
      refine ⟨w.heap.size, k, by rw [hN]; exact CK, by rw [hN]; exact Nat.le_refl _, fun i hi => ?_⟩
      obtain ⟨g', o', c', a1, a2, a3⟩ := JK.out.done i (by omega)
      exact ⟨g', o', c', by rw [Nat.zero_add]; exact a1, a2, a3.next JK.out.q⟩
end Go.Proofs.Ytmfniimelibhfaa
/- Lists of curves that came in: may. -/
namespace Go.Proofs.Ytmfniimelibhfaa
open Go.RowKit
set_option linter.unusedVariables false
set_option linter.unusedSimpArgs false

/-- Lists of knots, or none. -/
def VLs (w : World) (v : Value) (ll : List (List (Nat × Nat))) : Prop := (∃ g o cap, v = .slice (some ⟨g, o, none⟩) ll.length cap ∧ ll.length ≤ cap ∧ ∀ i, i < ll.length → ∃ u, w.cell? ⟨g, o + i, none⟩ = some u ∧ KSl w u (ll.getD i [])) ∨ (∃ a c, v = .slice a 0 c ∧ ll = [])
theorem VLs.next {w w' : World} {v : Value} {ll : List (List (Nat × Nat))} (h : VLs w v ll) (q : Q w w') : VLs w' v ll := by
  rcases h with ⟨g, o, cap, h1, h2, h3⟩ | h
  · exact Or.inl ⟨g, o, cap, h1, h2, fun i hi => by obtain ⟨u, a, b⟩ := h3 i hi; exact ⟨u, q.cell a, b.next q⟩⟩
  · exact Or.inr h
theorem VLs.form {w : World} {v : Value} {l : List (List (Nat × Nat))} (h : VLs w v l) : ∃ a cap, v = .slice a l.length cap := by
  rcases h with ⟨g, o, cap, h1, _⟩ | ⟨_, _, h1, h2⟩
  · exact ⟨_, _, h1⟩
  · subst h2; exact ⟨_, _, h1⟩
def Fits (ll : List (List (Nat × Nat))) : Prop := ∀ l ∈ ll, l.length ≤ 9223372036854775807 ∧ ∀ i, kx l i < 4294967296 ∧ ky l i < 4294967296

/-- What may tells. -/
def MayPost (ll : List (List (Nat × Nat))) (w : World) (e : Ending) (w' : World) : Prop := Q w w' ∧ ∃ B, e = .returned (.bool B) ∧ (B = true → 1 ≤ ll.length ∧ ll.length ≤ 8 ∧ ∀ i, i < ll.length → Good (ll.getD i []))

set_option maxHeartbeats 4000000 in
set_option maxRecDepth 100000 in
theorem may_any (sv : Value) (ll : List (List (Nat × Nat))) (hf : Fits ll) (bl : ll.length ≤ 9223372036854775807) (w : World) (hk : VLs w sv ll) :
    Calls Try.prog 31 #[sv] w (MayPost ll w) := by
  obtain ⟨a, cap, ev⟩ := hk.form
  have HK : Hid (VLs w sv ll) := hk
  have HF : Hid (Fits ll) := hf
  rw [ev]
  rw [ev] at HK
  obtain ⟨N, hN⟩ : ∃ N, ll.length = N := ⟨_, rfl⟩
  have HN : Hid (ll.length = N) := hN
  rw [hN] at bl HK ⊢
  clear hk hf ev hN
  go_enter Try.func31, Try.ntmps31
  go_wp2_with fail
  go_loopg [3] N (fun m s3 wr => ∃ k : Nat, s3 = .int .i64 k ∧ k + m = N ∧ Q w wr ∧ Hid (∀ i, i < k → Good (ll.getD i [])))
  case atStart => exact ⟨0, rfl, by omega, Q.refl _, (fun i hi => absurd hi (Nat.not_lt_zero _) : ∀ i, i < 0 → Good (ll.getD i []))⟩
  case round =>
    obtain ⟨k, rfl, hm, hqx, GK⟩ := hrel
    by_cases hkn : k < N
    · have hkl : k < ll.length := by rw [HN.out]; exact hkn
      obtain ⟨gx, ox, hae⟩ : ∃ gx ox, a = some ⟨gx, ox, none⟩ := by
        rcases HK.out with ⟨g, o, c, e, _⟩ | ⟨_, _, _, e⟩
        · injection e with e; exact ⟨g, o, e⟩
        · exfalso; rw [e] at hkl; exact Nat.not_lt_zero _ hkl
      subst hae
      obtain ⟨u, cx, ku⟩ : ∃ u, wr.cell? ⟨gx, ox + k, none⟩ = some u ∧ KSl wr u (ll.getD k []) := by
        rcases HK.out with ⟨g, o, c, e, _, h⟩ | ⟨_, _, _, e⟩
        · injection e with e; injection e with e; injection e with e1 e2; subst e1; subst e2
          obtain ⟨u, h1, h2⟩ := h k hkl
          exact ⟨u, hqx.cell h1, h2.next hqx⟩
        · exfalso; rw [e] at hkl; exact Nat.not_lt_zero _ hkl
      obtain ⟨f1, f2⟩ := HF.out _ (getD_mem hkl)
      obtain ⟨L, hL⟩ : ∃ L, ll.getD k [] = L := ⟨_, rfl⟩
      have HLk : Hid (ll.getD k [] = L) := hL
      rw [hL] at ku f1 f2
      obtain ⟨au, cu, rfl⟩ := ku.form
      have KU : Hid (KSl wr (.slice au L.length cu) L) := ku
      have FT : Hid (∀ i, kx L i < 4294967296 ∧ ky L i < 4294967296) := f2
      have hi0 : (0 : Int) ≤ (k : Int) := by omega
      have hi1 : (k : Int) < (N : Int) := by omega
      clear hL hkl ku f2
      by_cases h64 : 64 < L.length
      · have g1 : (64 : Int) < (L.length : Int) := by omega
        go_wp2_with fail
        go_ret
        exact ⟨hqx, false, rfl, fun h => absurd h (by decide)⟩
      · have g1 : ¬ (64 : Int) < (L.length : Int) := by omega
        have g2 : decide ((64 : Int) < (L.length : Int)) = false := decide_eq_false g1
        go_wp2_with fail
        refine (rcheck_all _ L (by omega) FT.out _ KU.out).mono ?_
        rintro e w1 ⟨q1, r, rfl, hb | ⟨hg, rfl⟩⟩
        · have hr : (r != 0) = true := by
            rcases hb with ⟨_, e⟩ | ⟨_, _, _, e⟩ | ⟨_, _, _, _, e⟩ <;> rw [e] <;> decide
          clear hb
          go_wp2_with fail
          go_ret
          exact ⟨hqx.trans q1, false, rfl, fun h => absurd h (by decide)⟩
        · have G2 : Hid (∀ i, i < k + 1 → Good (ll.getD i [])) := by
            intro i hi
            by_cases e : i = k
            · subst e; rw [HLk.out]; exact hg
            · exact GK.out i (by omega)
          clear hg
          go_wp2_with fail
          go_roundg (N - (k + 1))
          case measure => go_light; omega
          case rel => go_light; exact ⟨k + 1, by go_num, by omega, hqx.trans q1, G2⟩
    · have hk : k = N := by omega
      subst hk
      by_cases h1 : k < 1
      · have g1 : (k : Int) < 1 := by omega
        have g2 : decide ((1 : Int) ≤ (k : Int)) = false := decide_eq_false (by omega)
        have g3 : ¬ ((1 : Int) ≤ (k : Int)) := by omega
        go_wp2_with fail
        go_ret
        exact ⟨hqx, false, rfl, fun h => absurd h (by decide)⟩
      · have g3 : (1 : Int) ≤ (k : Int) := by omega
        have g2 : decide ((1 : Int) ≤ (k : Int)) = true := decide_eq_true g3
        by_cases h8 : 8 < k
        · have g4 : ¬ ((k : Int) ≤ 8) := by omega
          have g5 : decide ((k : Int) ≤ 8) = false := decide_eq_false g4
          go_wp2_with fail
          go_ret
          exact ⟨hqx, false, rfl, fun h => absurd h (by decide)⟩
        · have g4 : (k : Int) ≤ 8 := by omega
          have g5 : decide ((k : Int) ≤ 8) = true := decide_eq_true g4
          go_wp2_with fail
          go_ret
          exact ⟨hqx, true, rfl, fun _ => ⟨by rw [HN.out]; omega, by rw [HN.out]; omega, fun i hi => GK.out i (by rw [← HN.out]; exact hi)⟩⟩
end Go.Proofs.Ytmfniimelibhfaa
/- Lists of knots that came in, in a list. -/
namespace Go.Proofs.Ytmfniimelibhfaa
open Go.ChangeShapes Go.WideShapes Go.ChangeAt Go.RowKit Go.Deep
set_option linter.unusedVariables false

theorem read_ls {H : Type} {enc : TypeId × Value → H} {W : World} {base : Nat} {sp : Nat → Bool} {held : Bool} {a : Option Addr} {len cap : Nat} {d : DataW H} {p : List MemPlace}
    (h : DataW.Trod enc Try.prog W base sp held 37 (.slice a len cap) d p) :
    ∃ ll : List (List (Nat × Nat)), VLs W (.slice a len cap) ll ∧ len = ll.length ∧ ll.length ≤ maxLen ∧ Fits ll := by
  obtain ⟨fuel, hf⟩ := h
  rcases open_slice1 Try.underlying37 (by kernel_rfl) hf with ⟨hcs, _⟩ | ⟨x, l, c, m, n, V, D, Pl, hcs, _, hl, hm, hmm, _, hx⟩
  · simp [Value.cells] at hcs
    obtain ⟨rfl, rfl, rfl⟩ := hcs
    exact ⟨[], Or.inr ⟨_, _, rfl, rfl⟩, rfl, Nat.zero_le _, fun l hl => by cases hl⟩
  · simp [Value.cells] at hcs
    obtain ⟨rfl, rfl, rfl⟩ := hcs
    have hml : len ≤ m := by rw [hmm]; split <;> omega
    have key : ∀ i, ∃ q : List (Nat × Nat), q.length ≤ 9223372036854775807 ∧ (∀ j, kx q j < 4294967296 ∧ ky q j < 4294967296) ∧ (i < len → ∃ u, W.cell? (x.add i) = some u ∧ KSl W u q) := by
      intro i
      by_cases hi : i < len
      · obtain ⟨h1, h2⟩ := hx i (by omega)
        have hu : ∃ a' l' c', V i = .slice a' l' c' := by
          rcases open_slice Try.underlying22 h2 with ⟨hcs, _⟩ | ⟨x', l', c', _, _, _, _, hcs, _⟩
          · injection hcs with hcs; exact ⟨_, _, _, hcs⟩
          · injection hcs with hcs; exact ⟨_, _, _, hcs⟩
        obtain ⟨a', l', c', e⟩ := hu
        rw [e] at h1 h2
        obtain ⟨q, r1, _, r2, r3⟩ := read_ks (enc := enc) (W := W) (base := base) (sp := sp) (held := held) (a := a') (len := l') (cap := c') ⟨n, by simpa [Value.cells] using h2⟩
        exact ⟨q, by unfold maxLen at r2; omega, r3, fun _ => ⟨_, h1, r1⟩⟩
      · exact ⟨[], by decide, fun j => ⟨by show 0 < _; decide, by show 0 < _; decide⟩, fun h => absurd h hi⟩
    obtain ⟨f, hf'⟩ : ∃ f : Nat → List (Nat × Nat), ∀ i, (f i).length ≤ 9223372036854775807 ∧ (∀ j, kx (f i) j < 4294967296 ∧ ky (f i) j < 4294967296) ∧ (i < len → ∃ u, W.cell? (x.add i) = some u ∧ KSl W u (f i)) := ⟨fun i => Classical.choose (key i), fun i => Classical.choose_spec (key i)⟩
    have hlen : ((List.range len).map f).length = len := by simp
    have hk : ∀ i, i < len → ((List.range len).map f).getD i [] = f i := by
      intro i hi
      rw [List.getD_eq_getElem?_getD, List.getElem?_map, List.getElem?_range hi]; rfl
    refine ⟨(List.range len).map f, ?_, hlen.symm, by rw [hlen]; omega, fun l hl => ?_⟩
    · by_cases h0 : len = 0
      · subst h0; exact Or.inr ⟨_, _, rfl, by simp⟩
      · obtain ⟨b, off, spot⟩ := x
        obtain ⟨u0, hc, _⟩ := (hf' 0).2.2 (by omega)
        have hspot : spot = none := by simpa [Addr.add] using World.cell?_spot hc
        subst hspot
        refine Or.inl ⟨b, off, cap, by rw [hlen], by rw [hlen]; exact hl, fun i hi => ?_⟩
        rw [hlen] at hi
        obtain ⟨u, c0, c1⟩ := (hf' i).2.2 hi
        have hadd : ∀ j, (⟨b, off, none⟩ : Addr).add j = ⟨b, off + j, none⟩ := by intro j; unfold Addr.add; split <;> simp_all
        rw [hadd] at c0
        rw [hk i hi]
        exact ⟨u, c0, c1⟩
    · obtain ⟨i, _, rfl⟩ := List.mem_map.1 hl
      exact ⟨(hf' i).1, (hf' i).2.1⟩
end Go.Proofs.Ytmfniimelibhfaa

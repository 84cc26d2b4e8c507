/- A curve of knots, as the statements make it. -/
import Derived.Test.YtmfniimelibhfaaCurveMeetsM08
namespace Go.Proofs.Ytmfniimelibhfaa
open Go.RowKit
set_option linter.unusedVariables false

theorem new_all (v : Value) (l : List (Nat × Nat)) (hl : l.length ≤ 200) (hlt : ∀ i, kx l i < 4294967296 ∧ ky l i < 4294967296) (w : World) (hk : KSl w v l) :
    Calls Try.prog 23 #[v] w fun e w' => Q w w' ∧
      ((∃ r, e = .returned (.tuple #[.pointer none, .int .i64 r]) ∧ Bad l r) ∨ (∃ b, e = .returned (.tuple #[.pointer (some ⟨b, 0, none⟩), .int .i64 0]) ∧ CNew w' w.heap.size b l ∧ Good l)) := by
  by_cases h : l.length < 2 ∨ 64 < l.length
  · have : ∃ a cap, v = .slice a l.length cap := by
      rcases hk with ⟨g, o, cap, rfl, _⟩ | ⟨_, _, rfl, rfl⟩
      · exact ⟨_, _, rfl⟩
      · exact ⟨_, _, rfl⟩
    obtain ⟨a, cap, hv⟩ := this
    refine (new_many v l.length cap a hv h (by omega) w).mono ?_
    rintro e w' ⟨rfl, rfl⟩
    exact ⟨Q.refl _, Or.inl ⟨40, rfl, Or.inl ⟨h, rfl⟩⟩⟩
  · rcases hk with ⟨g, o, cap, rfl, h2, h3⟩ | ⟨_, _, rfl, rfl⟩
    · exact newB_any g o cap l (by omega) (by omega) h2 hlt w h3
    · exact absurd (Or.inl (by decide)) h
theorem rcheck_all (v : Value) (l : List (Nat × Nat)) (hl : l.length ≤ 200) (hlt : ∀ i, kx l i < 4294967296 ∧ ky l i < 4294967296) (w : World) (hk : KSl w v l) :
    Calls Try.prog 22 #[v] w fun e w' => Q w w' ∧ ∃ r, e = .returned (.int .i64 r) ∧ (Bad l r ∨ (Good l ∧ r = 0)) := by
  by_cases h : l.length < 2 ∨ 64 < l.length
  · have : ∃ a cap, v = .slice a l.length cap := by
      rcases hk with ⟨g, o, cap, rfl, _⟩ | ⟨_, _, rfl, rfl⟩
      · exact ⟨_, _, rfl⟩
      · exact ⟨_, _, rfl⟩
    obtain ⟨a, cap, hv⟩ := this
    refine (rcheck_many v l.length cap a hv h (by omega) w).mono ?_
    rintro e w' ⟨rfl, rfl⟩
    exact ⟨Q.refl _, 40, rfl, Or.inl (Or.inl ⟨h, rfl⟩)⟩
  · rcases hk with ⟨g, o, cap, rfl, h2, h3⟩ | ⟨_, _, rfl, rfl⟩
    · exact rcheck_any g o cap l (by omega) (by omega) hlt w h3
    · exact absurd (Or.inl (by decide)) h
theorem bad_one {l : List (Nat × Nat)} {r r' : Int} (h : Bad l r) (h' : Bad l r') : r = r' := by
  rcases h with ⟨a, rfl⟩ | ⟨a, b, c, rfl⟩ | ⟨a, b, c, d, rfl⟩ <;> rcases h' with ⟨a', rfl⟩ | ⟨a', b', c', rfl⟩ | ⟨a', b', c', d', rfl⟩
  · rfl
  · omega
  · omega
  · omega
  · rfl
  · exact absurd c' c
  · omega
  · exact absurd c c'
  · rfl
theorem good_bad {l : List (Nat × Nat)} {r : Int} (h : Good l) (h' : Bad l r) : False := by
  obtain ⟨h1, h2, h3, h4⟩ := h
  rcases h' with ⟨a, _⟩ | ⟨a, b, c, _⟩ | ⟨a, b, c, d, _⟩
  · omega
  · exact c h3
  · exact d h4
/-- The document's answer, given the program's. -/
theorem rcheck_bad (v : Value) (l : List (Nat × Nat)) (hl : l.length ≤ 200) (hlt : ∀ i, kx l i < 4294967296 ∧ ky l i < 4294967296) {r : Int} (hb : Bad l r) (w : World) (hk : KSl w v l) :
    Calls Try.prog 22 #[v] w fun e w' => e = .returned (.int .i64 r) ∧ Q w w' := by
  refine (rcheck_all v l hl hlt w hk).mono ?_
  rintro e w' ⟨q, r', rfl, h | ⟨h, _⟩⟩
  · exact ⟨ret_int (bad_one h hb), q⟩
  · exact absurd hb (fun hb => good_bad h hb)
theorem rcheck_good (v : Value) (l : List (Nat × Nat)) (hl : l.length ≤ 200) (hlt : ∀ i, kx l i < 4294967296 ∧ ky l i < 4294967296) (hg : Good l) (w : World) (hk : KSl w v l) :
    Calls Try.prog 22 #[v] w fun e w' => e = .returned (.int .i64 0) ∧ Q w w' := by
  refine (rcheck_all v l hl hlt w hk).mono ?_
  rintro e w' ⟨q, r', rfl, h | ⟨h, rfl⟩⟩
  · exact absurd h (fun hb => good_bad hg hb)
  · exact ⟨rfl, q⟩

/-- What makes answers. -/
def MPost (l : List (Nat × Nat)) (w : World) (e : Ending) (w' : World) : Prop := Q w w' ∧ ((∃ b, e = .returned (.tuple #[.pointer (some ⟨b, 0, none⟩), .bool true, .bool true]) ∧ CIs w' b 0 l ∧ Good l) ∨ (e = .returned (.tuple #[.pointer none, .bool false, .bool true]) ∧ ¬ Good l))
set_option maxHeartbeats 2000000 in
set_option maxRecDepth 100000 in
theorem makes_nil (a : Option Addr) (c : Nat) (w : World) : Calls Try.prog 10 #[.slice a 0 c] w (MPost [] w) := by
  obtain ⟨i, i1, _, _, _⟩ := knotInfo
  have H4 : Hid (Try.prog.info? 32 = some i) := i1
  clear i1
  have nk : ∀ W : World, KSl W (.slice none 0 0) [] := fun W => Or.inr ⟨none, 0, rfl, rfl⟩
  have NK : Hid (∀ W : World, KSl W (.slice none 0 0) []) := nk
  clear nk
  go_enter Try.func10, Try.ntmps10
  go_wp2_with (at_builtin; go_must (refine wpList_app0 _ rfl (.const (.slice none 0 0)) (.tmp 9) 22 rfl 32 i Try.underlying22 H4.out rfl a c rfl ?_))
  refine (new_many (.slice none 0 0) 0 0 none rfl (Or.inl (by decide)) (by decide) _).mono ?_
  rintro e w1 ⟨rfl, rfl⟩
  go_wp2_with fail
  refine (same_none _ _ _ _ _).mono ?_
  rintro e w2 ⟨rfl, q2⟩
  go_wp2_with fail
  refine (rcheck_many (.slice a 0 c) 0 c a rfl (Or.inl (by decide)) (by decide) _).mono ?_
  rintro e w3 ⟨rfl, rfl⟩
  go_wp2_with fail
  go_loopg [8] 0 (fun m s8 wr => s8 = .int .i64 0 ∧ wr = w3)
  case atStart => exact ⟨rfl, rfl⟩
  case round =>
    obtain ⟨rfl, rfl⟩ := hrel
    go_wp2_with fail
    go_ret3
    exact ⟨q2, Or.inr ⟨rfl, fun h => absurd h.1 (by decide)⟩⟩

/-- Room that may be written over: all else stays. -/
structure Lent (w wr : World) (gl n : Nat) : Prop where
  cells : ∀ j, j < n → ∃ v, wr.cell? ⟨gl, j, none⟩ = some v
  free : ∀ j, wr.frozen? ⟨gl, j, none⟩ = false
  rest : ∀ a : Addr, a.block ≠ gl → wr.cell? a = w.cell? a
theorem Lent.set {w wr : World} {gl n : Nat} (h : Lent w wr gl n) {j : Nat} (hj : j < n) (v : Value) : Lent w (wr.setCell ⟨gl, j, none⟩ v) gl n := by
  refine ⟨fun i hi => ?_, fun i => ?_, fun a ha => ?_⟩
  · by_cases e : i = j
    · subst e
      obtain ⟨u, hu⟩ := h.cells i hi
      exact ⟨v, by simp [go_sem, hu]⟩
    · obtain ⟨u, hu⟩ := h.cells i hi
      exact ⟨u, by rw [World.cell?_setCell_other _ _ _ _ (fun c => e (by injection c with _ c; exact c.symm))]; exact hu⟩
  · have := h.free i; simpa [go_sem] using this
  · rw [set_other _ ha]; exact h.rest a ha
set_option maxHeartbeats 4000000 in
set_option maxRecDepth 100000 in
theorem makes_some (g o cap : Nat) (l : List (Nat × Nat)) (h1 : 1 ≤ l.length) (hl : l.length ≤ 200) (hcap : l.length ≤ cap) (hlt : ∀ i, kx l i < 4294967296 ∧ ky l i < 4294967296) (w : World) (hk : KIs w g o l) :
    Calls Try.prog 10 #[.slice (some ⟨g, o, none⟩) l.length cap] w (MPost l w) := by
  obtain ⟨i, i1, i2, i3, i4⟩ := knotInfo
  have hfl := hk.flat_cells
  have hlen : (flat l).length = l.length * i.size := by rw [i2, flat_len]
  have hby : l.length * i.bytes ≤ 140737488355328 := by rw [i3]; omega
  have H1 : Hid (∀ j u, (flat l)[j]? = some u → w.cell? ((⟨g, o, none⟩ : Addr).add j) = some u) := hfl
  have H2 : Hid ((flat l).length = l.length * i.size) := hlen
  have H3 : Hid (l.length * i.bytes ≤ 140737488355328) := hby
  have H4 : Hid (Try.prog.info? 32 = some i) := i1
  have H5 : Hid (i.zero = some (.agg #[.int .u32 0, .int .u32 0])) := i4
  have HK : Hid (KSl w (.slice (some ⟨g, o, none⟩) l.length cap) l) := Or.inl ⟨g, o, cap, rfl, hcap, hk⟩
  have HT : Hid (∀ i, kx l i < 4294967296 ∧ ky l i < 4294967296) := hlt
  clear hfl hlen hby hk i1 i2 i3 i4 hlt
  go_enter Try.func10, Try.ntmps10
  go_wp2_with (at_builtin; go_must (refine wpList_app _ rfl (.const (.slice none 0 0)) (.tmp 9) 22 rfl 32 i _ Try.underlying22 H4.out H5.out _ (Or.inl rfl) rfl _ l.length cap (flat l) rfl H2.out (fun j u h => H1.out j u h) (by omega) (by omega) H3.out ?_; intro cap' w1 q1 q2 q3 q4 q5))
  have K1 : Hid (KIs w1 w.heap.size 0 l) := KIs.of_flat q4
  have LE : Hid (Lent w1 w1 w.heap.size (l.length * 2)) := ⟨fun j hj => ⟨_, q4 j _ (flat_get hj)⟩, q5, fun _ _ => rfl⟩
  have S1 : w1.heap.size = w.heap.size + 1 := q3
  have HS : Hid (w1.heap.size = w.heap.size + 1) := S1
  clear q3 q4 q5 H1 H2 H3 H4 H5 S1
  refine (new_all _ l hl HT.out _ (Or.inl ⟨_, _, _, rfl, q2, K1.out⟩)).mono ?_
  rintro e w2 ⟨p2, ⟨r, rfl, hb⟩ | ⟨b, rfl, hc, hg⟩⟩
  · have HB : Hid (Bad l r) := hb
    have hr : r = 40 ∨ r = 41 ∨ r = 42 := by
      rcases hb with ⟨_, e⟩ | ⟨_, _, _, e⟩ | ⟨_, _, _, _, e⟩ <;> omega
    have hr0 : (r == 0) = false := by rw [beq_eq_false_iff_ne]; omega
    have hrr : (r != r) = false := by simp
    clear hb hr
    go_wp2_with fail
    refine (same_any _ _ l hl _ (Or.inl ⟨_, _, _, rfl, q2, K1.out.next p2⟩) (HK.out.next (q1.trans p2))).mono ?_
    rintro e w3 ⟨rfl, p3⟩
    go_wp2_with fail
    refine (rcheck_bad _ l hl HT.out HB.out _ (HK.out.next ((q1.trans p2).trans p3))).mono ?_
    rintro e w4 ⟨rfl, p4⟩
    have hq : Q w1 w4 := (p2.trans p3).trans p4
    have L4 : Hid (Lent w4 w4 w.heap.size (l.length * 2)) := ⟨fun j hj => by obtain ⟨v, hv⟩ := LE.out.cells j hj; exact ⟨v, hq.cell hv⟩, fun j => by rw [hq.2]; exact LE.out.free j, fun _ _ => rfl⟩
    replace hq := q1.trans hq
    clear q1 p2 p3 p4 LE K1
    go_wp2_with fail
    go_loopg [8] l.length (fun m s8 wr => ∃ k : Nat, s8 = .int .i64 k ∧ k + m = l.length ∧ Q w wr ∧ Hid (Lent w4 wr w.heap.size (l.length * 2)))
    case atStart => exact ⟨0, rfl, by omega, hq, L4⟩
    case round =>
      obtain ⟨k, rfl, hm, hq', LR⟩ := hrel
      by_cases hkn : k < l.length
      · obtain ⟨u, hu⟩ := LR.out.cells (k * 2) (by omega)
        obtain ⟨v, hv⟩ := LR.out.cells (k * 2 + 1) (by omega)
        have z1 := LR.out.free (k * 2)
        have z2 := LR.out.free (k * 2 + 1)
        have hi0 : (0 : Int) ≤ (k : Int) := by omega
        have hi1 : (k : Int) < (l.length : Int) := by omega
        have N1 : Hid (Lent w4 ((wr.setCell ⟨w.heap.size, k * 2, none⟩ (.int .u32 1)).setCell ⟨w.heap.size, k * 2 + 1, none⟩ (.int .u32 1)) w.heap.size (l.length * 2)) := (LR.out.set (by omega) _).set (by omega) _
        go_wp2_with fail
        go_roundg (l.length - (k + 1))
        case measure => go_light; omega
        case rel => go_light; exact ⟨k + 1, by go_num, by omega, (hq'.set (Nat.le_refl _) _).set (Nat.le_refl _) _, N1⟩
      · go_wp2_with fail
        go_ret3
        exact ⟨hq', Or.inr ⟨rfl, fun h => good_bad h HB.out⟩⟩
  · have HG : Hid (Good l) := hg
    have HC : Hid (CNew w2 w1.heap.size b l) := hc
    clear hg hc
    go_wp2_with fail
    refine (same_any _ _ l hl _ (Or.inl ⟨_, _, _, rfl, q2, K1.out.next p2⟩) (HK.out.next (q1.trans p2))).mono ?_
    rintro e w3 ⟨rfl, p3⟩
    go_wp2_with fail
    refine (rcheck_good _ l hl HT.out HG.out _ (HK.out.next ((q1.trans p2).trans p3))).mono ?_
    rintro e w4 ⟨rfl, p4⟩
    have hq : Q w1 w4 := (p2.trans p3).trans p4
    have C4 : Hid (CNew w4 w1.heap.size b l) := HC.out.next (p3.trans p4)
    have L4 : Hid (Lent w4 w4 w.heap.size (l.length * 2)) := ⟨fun j hj => by obtain ⟨v, hv⟩ := LE.out.cells j hj; exact ⟨v, hq.cell hv⟩, fun j => by rw [hq.2]; exact LE.out.free j, fun _ _ => rfl⟩
    replace hq := q1.trans hq
    clear q1 p2 p3 p4 LE K1 HC
    go_wp2_with fail
    go_loopg [8] l.length (fun m s8 wr => ∃ k : Nat, s8 = .int .i64 k ∧ k + m = l.length ∧ Q w wr ∧ Hid (Lent w4 wr w.heap.size (l.length * 2)))
    case atStart => exact ⟨0, rfl, by omega, hq, L4⟩
    case round =>
      obtain ⟨k, rfl, hm, hq', LR⟩ := hrel
      by_cases hkn : k < l.length
      · obtain ⟨u, hu⟩ := LR.out.cells (k * 2) (by omega)
        obtain ⟨v, hv⟩ := LR.out.cells (k * 2 + 1) (by omega)
        have z1 := LR.out.free (k * 2)
        have z2 := LR.out.free (k * 2 + 1)
        have hi0 : (0 : Int) ≤ (k : Int) := by omega
        have hi1 : (k : Int) < (l.length : Int) := by omega
        have N1 : Hid (Lent w4 ((wr.setCell ⟨w.heap.size, k * 2, none⟩ (.int .u32 1)).setCell ⟨w.heap.size, k * 2 + 1, none⟩ (.int .u32 1)) w.heap.size (l.length * 2)) := (LR.out.set (by omega) _).set (by omega) _
        go_wp2_with fail
        go_roundg (l.length - (k + 1))
        case measure => go_light; omega
        case rel => go_light; exact ⟨k + 1, by go_num, by omega, (hq'.set (Nat.le_refl _) _).set (Nat.le_refl _) _, N1⟩
      · go_wp2_with fail
        go_ret3
        refine ⟨hq', Or.inl ⟨b, rfl, (C4.out.keep (fun a ha => LR.out.rest a ?_)).cis, HG.out⟩⟩
        have := HS.out
        omega
theorem makes_any (v : Value) (l : List (Nat × Nat)) (hl : l.length ≤ 200) (hlt : ∀ i, kx l i < 4294967296 ∧ ky l i < 4294967296) (w : World) (hk : KSl w v l) :
    Calls Try.prog 10 #[v] w (MPost l w) := by
  rcases hk with ⟨g, o, cap, rfl, h2, h3⟩ | ⟨_, _, rfl, rfl⟩
  · by_cases h : 1 ≤ l.length
    · exact makes_some g o cap l h hl h2 hlt w h3
    · have : l = [] := List.eq_nil_of_length_eq_zero (by omega)
      subst this
      exact makes_nil _ _ w
  · exact makes_nil _ _ w
end Go.Proofs.Ytmfniimelibhfaa
/- The first statement about curves: its walk. -/
namespace Go.Proofs.Ytmfniimelibhfaa
open Go.RowKit
set_option linter.unusedVariables false

/-- A list of samples, or none. -/
def USl (w : World) (v : Value) (xs : List Nat) : Prop := (∃ g o cap, v = .slice (some ⟨g, o, none⟩) xs.length cap ∧ xs.length ≤ cap ∧ ∀ i, i < xs.length → w.cell? ⟨g, o + i, none⟩ = some (.int .u32 (xs.getD i 0 : Nat))) ∨ (∃ a c, v = .slice a 0 c ∧ xs = [])
theorem USl.next {w w' : World} {v : Value} {l : List Nat} (h : USl w v l) (q : Q w w') : USl w' v l := by
  rcases h with ⟨g, o, cap, h1, h2, h3⟩ | h
  · exact Or.inl ⟨g, o, cap, h1, h2, fun i hi => q.cell (h3 i hi)⟩
  · exact Or.inr h
theorem KSl.form {w : World} {v : Value} {l : List (Nat × Nat)} (h : KSl w v l) : ∃ a cap, v = .slice a l.length cap := by
  rcases h with ⟨g, o, cap, h1, _⟩ | ⟨_, _, h1, h2⟩
  · exact ⟨_, _, h1⟩
  · subst h2; exact ⟨_, _, h1⟩
theorem USl.form {w : World} {v : Value} {l : List Nat} (h : USl w v l) : ∃ a cap, v = .slice a l.length cap := by
  rcases h with ⟨g, o, cap, h1, _⟩ | ⟨_, _, h1, h2⟩
  · exact ⟨_, _, h1⟩
  · subst h2; exact ⟨_, _, h1⟩

set_option maxHeartbeats 4000000 in
set_option maxRecDepth 100000 in
theorem ats_walk (sv xv : Value) (l : List (Nat × Nat)) (xs : List Nat) (hlt : ∀ i, kx l i < 4294967296 ∧ ky l i < 4294967296) (hxt : ∀ i, xs.getD i 0 < 4294967296) (bl : l.length ≤ 9223372036854775807) (bx : xs.length ≤ 9223372036854775807) (w : World) (hk : KSl w sv l) (hx : USl w xv xs) :
    Calls Try.prog 3 #[sv, xv] w fun e w' => e = .returned (.bool true) ∧ Q w w' := by
  obtain ⟨a, cap, ev⟩ := hk.form
  obtain ⟨a', cap', ex⟩ := hx.form
  have HK : Hid (KSl w sv l) := hk
  have HX : Hid (USl w xv xs) := hx
  have HT : Hid (∀ i, kx l i < 4294967296 ∧ ky l i < 4294967296) := hlt
  have HU : Hid (∀ i, xs.getD i 0 < 4294967296) := hxt
  rw [ev, ex]
  rw [ev] at HK
  rw [ex] at HX
  clear hk hx ev ex hlt hxt
  go_enter Try.func3, Try.ntmps3
  go_wp2_with fail
  refine (known_any _).mono ?_
  rintro e w1 ⟨rfl, q1⟩
  by_cases h1 : 200 < l.length
  · have g1 : (200 : Int) < (l.length : Int) := by omega
    go_wp2_with fail
    go_ret
    exact ⟨rfl, q1⟩
  · have g1 : ¬ (200 : Int) < (l.length : Int) := by omega
    have g2 : decide ((200 : Int) < (l.length : Int)) = false := decide_eq_false g1
    by_cases h2 : 500 < xs.length
    · have g3 : (500 : Int) < (xs.length : Int) := by omega
      go_wp2_with fail
      go_ret
      exact ⟨rfl, q1⟩
    · have g3 : ¬ (500 : Int) < (xs.length : Int) := by omega
      have g4 : decide ((500 : Int) < (xs.length : Int)) = false := decide_eq_false g3
      go_wp2_with fail
      refine (makes_any _ l (by omega) HT.out _ (HK.out.next q1)).mono ?_
      rintro e w2 ⟨q2, ⟨b, rfl, hc, hg⟩ | ⟨rfl, hg⟩⟩
      · have HC : Hid (CIs w2 b 0 l) := hc
        have HG : Hid (COk l) := good_ok hg HT.out
        have l2 : 2 ≤ l.length := hg.1
        have l64 : l.length ≤ 64 := hg.2.1
        replace q1 := q1.trans q2
        clear hc hg q2
        go_wp2_with fail
        refine (knots_any b 0 l (by omega) l64 _ HC.out).mono ?_
        rintro e w3 ⟨g, c3, rfl, k1, k2, k3, k4, q3⟩
        have K3 : Hid (KIs w3 g 0 l) := k3
        have L3 : Hid (Lent w3 w3 g (l.length * 2)) := ⟨fun j hj => ⟨_, (by have := k3.flat_cells j _ (flat_get hj); have hadd : (⟨g, 0, none⟩ : Addr).add j = ⟨g, j, none⟩ := (by unfold Addr.add; split <;> simp_all); rw [hadd] at this; exact this)⟩, k4, fun _ _ => rfl⟩
        clear k3 k4
        go_wp2_with fail
        refine (same_any _ _ l (by omega) _ (Or.inl ⟨g, 0, c3, rfl, k1, K3.out⟩) (HK.out.next (q1.trans q3))).mono ?_
        rintro e w4 ⟨rfl, q4⟩
        have L4 : Hid (Lent w4 w4 g (l.length * 2)) := ⟨fun j hj => by obtain ⟨v, hv⟩ := L3.out.cells j hj; exact ⟨v, q4.cell hv⟩, fun j => by rw [q4.2]; exact L3.out.free j, fun _ _ => rfl⟩
        replace q3 := q3.trans q4
        clear q4 K3 L3
        go_wp2_with fail
        go_loopg [9] l.length (fun m s9 wr => ∃ k : Nat, s9 = .int .i64 k ∧ k + m = l.length ∧ Q w2 wr ∧ Hid (Lent w4 wr g (l.length * 2)))
        case atStart => exact ⟨0, rfl, by omega, q3, L4⟩
        case round =>
          obtain ⟨k, rfl, hm, hq', LR⟩ := hrel
          by_cases hkn : k < l.length
          · obtain ⟨u, hu⟩ := LR.out.cells (k * 2) (by omega)
            obtain ⟨v, hv⟩ := LR.out.cells (k * 2 + 1) (by omega)
            have z1 := LR.out.free (k * 2)
            have z2 := LR.out.free (k * 2 + 1)
            have hi0 : (0 : Int) ≤ (k : Int) := by omega
            have hi1 : (k : Int) < (l.length : Int) := by omega
            have N1 : Hid (Lent w4 ((wr.setCell ⟨g, k * 2, none⟩ (.int .u32 5)).setCell ⟨g, k * 2 + 1, none⟩ (.int .u32 5)) g (l.length * 2)) := (LR.out.set (by omega) _).set (by omega) _
            go_wp2_with fail
            go_roundg (l.length - (k + 1))
            case measure => go_light; omega
            case rel => go_light; exact ⟨k + 1, by go_num, by omega, (hq'.set k2 _).set k2 _, N1⟩
          · go_wp2_with fail
            clear LR hkn hm
            obtain ⟨wo, rfl⟩ : ∃ wo, wo = wr := ⟨_, rfl⟩
            have HKr : Hid (KSl wo (.slice a l.length cap) l) := HK.out.next (q1.trans hq')
            have HXr : Hid (USl wo (.slice a' xs.length cap') xs) := HX.out.next (q1.trans hq')
            have HCr : Hid (CIs wo b 0 l) := HC.out.next hq'
            replace q1 := q1.trans hq'
            clear hq' q3 L4 HK HX HC
            obtain ⟨gl, ol, hae⟩ : ∃ gl ol, a = some ⟨gl, ol, none⟩ := by
              rcases HKr.out with ⟨g, o, c, e, _⟩ | ⟨_, _, _, e⟩
              · injection e with e; exact ⟨g, o, e⟩
              · exfalso; rw [e] at l2; exact absurd l2 (by decide)
            subst hae
            have HKl : Hid (KIs wo gl ol l) := by
              rcases HKr.out with ⟨g, o, c, e, _, h⟩ | ⟨_, _, _, e⟩
              · injection e with e; injection e with e; injection e with e1 e2; subst e1; subst e2; exact h
              · exfalso; rw [e] at l2; exact absurd l2 (by decide)
            go_loopg [10] xs.length (fun m s10 wx => ∃ k : Nat, s10 = .int .i64 k ∧ k + m = xs.length ∧ Q wo wx)
            case atStart => exact ⟨0, rfl, by omega, Q.refl _⟩
            case round =>
              obtain ⟨k, rfl, hm, hqx⟩ := hrel
              by_cases hkn : k < xs.length
              · obtain ⟨gx, ox, hae⟩ : ∃ gx ox, a' = some ⟨gx, ox, none⟩ := by
                  rcases HXr.out with ⟨g, o, c, e, _⟩ | ⟨_, _, _, e⟩
                  · injection e with e; exact ⟨g, o, e⟩
                  · exfalso; rw [e] at hkn; exact Nat.not_lt_zero _ hkn
                subst hae
                have cx : wr.cell? ⟨gx, ox + k, none⟩ = some (.int .u32 (xs.getD k 0 : Nat)) := by
                  rcases HXr.out with ⟨g, o, c, e, _, h⟩ | ⟨_, _, _, e⟩
                  · injection e with e; injection e with e; injection e with e1 e2; subst e1; subst e2; exact hqx.cell (h k hkn)
                  · exfalso; rw [e] at hkn; exact Nat.not_lt_zero _ hkn
                have hi0 : (0 : Int) ≤ (k : Int) := by omega
                have hi1 : (k : Int) < (xs.length : Int) := by omega
                have hxk := HU.out k
                obtain ⟨X, hX⟩ : ∃ X, xs.getD k 0 = X := ⟨_, rfl⟩
                rw [hX] at cx hxk
                clear hX
                have HW1 : Hid (∀ n : QW wr, Calls Try.prog 13 #[.pointer (some ⟨b, 0, none⟩), .int .u32 (X : Int)] n.x fun e w' => e = .returned (.int .u32 (atV l X : Nat)) ∧ Q n.x w') := fun n => at_any b 0 l HG.out X hxk _ (HCr.out.next (hqx.trans n.q))
                have HW2 : Hid (∀ n : QW wr, Calls Try.prog 14 #[.slice (some ⟨gl, ol, none⟩) l.length cap, .int .u32 (X : Int)] n.x fun e w' => e = .returned (.int .u32 (atV l X : Nat)) ∧ Q n.x w') := fun n => rat_any gl ol cap l HG.out X hxk _ (HKl.out.next (hqx.trans n.q))
                have n0 := qw_some wr
                have d1 := qw_cell cx
                have hb : ((atV l X : Int) != (atV l X : Int)) = false := by simp
                go_wp2_with fail
                refine wp_region_quiet_Q (by kernel_rfl) (by kernel_rfl) ?_
                repeat (first | go_big_quiet_step (first | (go_at_call 13; exact calls_qw (HW1.out _)) | (go_at_call 14; exact calls_qw (HW2.out _))) | quiet_step (first | (go_at_call 13; exact calls_qw (HW1.out _)) | (go_at_call 14; exact calls_qw (HW2.out _))))
                refine wpQuiet_nil ?_
                intro w5 hw'
                have hq5 := qw_out hw'
                clear hw' d1 n0 cx
                go_wp2_with fail
                go_roundg (xs.length - (k + 1))
                case measure => go_light; omega
                case rel => go_light; exact ⟨k + 1, by go_num, by omega, hqx.trans hq5⟩
              · go_wp2_with fail
                refine (knots_any b 0 l (by omega) l64 _ (HCr.out.next hqx)).mono ?_
                rintro e w6 ⟨g6, c6, rfl, k1', k2', k3', k4', q6⟩
                have K6 : Hid (KIs w6 g6 0 l) := k3'
                clear k3' k4'
                go_wp2_with fail
                refine (same_any _ _ l (by omega) _ (Or.inl ⟨g6, 0, c6, rfl, k1', K6.out⟩) (HKr.out.next (hqx.trans q6))).mono ?_
                rintro e w7 ⟨rfl, q7⟩
                go_wp2_with fail
                go_ret
                exact ⟨rfl, ((q1.trans hqx).trans q6).trans q7⟩
      · go_wp2_with fail
        go_ret
        exact ⟨rfl, q1.trans q2⟩
end Go.Proofs.Ytmfniimelibhfaa

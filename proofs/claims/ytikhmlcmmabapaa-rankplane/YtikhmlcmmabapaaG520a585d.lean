/- The statement RankPlane: its walk. -/
import Derived.Test.YtikhmlcmmabapaaGebe50fd4
import Derived.Test.YtikhmlcmmabapaaG57fae988
import Derived.Test.YtikhmlcmmabapaaG0b701d3b
namespace Go.Proofs.Ytikhmlcmmabapaa
open Go.RowKit
set_option linter.unusedVariables false
set_option linter.unusedSimpArgs false

/-- A copy, empty or not. -/
theorem hcopy_all (w : World) (pw ph : Int) (ad : Option Addr) (n c : Nat) (S : List Nat) (hS : S.length = n) (hU : USl w (.slice ad n c) S) (h2 : n ≤ 1000000) :
    Calls Try.prog 7 #[.agg #[.int .i64 pw, .int .i64 ph, .slice ad n c]] w fun e w' => ∃ ad' c', e = .returned (.agg #[.int .i64 pw, .int .i64 ph, .slice ad' n c']) ∧ USl w' (.slice ad' n c') S ∧ Q w w' := by
  rcases Nat.lt_or_ge 0 n with h1 | h1
  · obtain ⟨g, o, cap, hv, hc, hI⟩ := hU.some (by omega)
    injection hv with hv1 _ _
    subst hv1
    refine (hcopy_some w pw ph g o n c S hS hI h1 h2).mono ?_
    rintro e w' ⟨v, rfl, b, cap', rfl, hc', hb, hO⟩
    refine ⟨_, _, rfl, ?_, hO.q⟩
    have := hO.cells.usl (cap := cap') (by omega)
    rw [hS] at this
    exact this
  · obtain rfl : n = 0 := by omega
    obtain rfl : S = [] := List.length_eq_zero_iff.1 hS
    refine (hcopy_none w pw ph ad c).mono ?_
    rintro e w' ⟨v, rfl, rfl, q⟩
    exact ⟨_, _, rfl, Or.inr ⟨_, _, rfl, rfl⟩, q⟩
/-- What is told of a plane, by the program and by the document. -/
def RPE (E0 : Int) (c d : Nat) (V : Nat → Nat) (w : World) (e : Ending) (w' : World) : Prop := ∃ a b ad' m cc E, e = .returned (.tuple #[.agg #[.int .i64 a, .int .i64 b, .slice ad' m cc], .int .i64 E]) ∧ Pans w w' E0 c d V a b ad' m cc E
def RDE (E0 : Int) (c d : Nat) (V : Nat → Nat) (w : World) (e : Ending) (w' : World) : Prop := ∃ a b ad' m cc E, e = .returned (.tuple #[.agg #[.int .i64 a, .int .i64 b, .slice ad' m cc], .int .i64 E]) ∧ Dans w w' E0 c d V a b ad' m cc E
theorem Dans.swap {w w' : World} {E0 : Int} {c d : Nat} {V V' : Nat → Nat} {a b : Int} {ad : Option Addr} {m cc : Nat} {E : Int} (h : Dans w w' E0 c d V a b ad m cc E) (hV : E0 = 0 → V = V') : Dans w w' E0 c d V' a b ad m cc E :=
  ⟨h.q, h.e, h.bad, fun e => by rw [← hV e]; exact h.good e⟩
theorem rkE_swap {pw ph : Int} {n : Nat} {bd W H K K' : Int} (h : cntV W H ≠ 0 → K = K') : rkE pw ph n bd W H K = rkE pw ph n bd W H K' ∧ (rkE pw ph n bd W H K = 0 → K = K') := by
  by_cases hc : cntV W H = 0
  · unfold rkE
    simp only [hc, if_true]
    refine ⟨trivial, fun h0 => ?_⟩
    split at h0
    · cases h0
    · rename_i h1; exact absurd h0 h1
  · rw [h hc]
    exact ⟨rfl, fun _ => rfl⟩
theorem cntV_wrap {W H : Int} (h : cntV W H ≠ 0) : wrap64 (W * H) = cntV W H ∧ 1 ≤ cntV W H ∧ cntV W H ≤ 225 := by
  obtain ⟨a, b, rfl, rfl, a1, a2, b1, b2, hc⟩ := cntV_pos h
  have h1 := win_area (a := (a : Int)) (b := (b : Int)) (by omega) (by omega)
  have h2 : ((a * b : Nat) : Int) = (a : Int) * (b : Int) := Int.natCast_mul a b
  rw [hc, h2]
  exact ⟨Go.IntWalk.wrap64_in _ (by omega), h1.1, h1.2⟩
theorem rk_room (pw ph bd W H : Int) (n : Nat) {K : Int} : rkE pw ph n bd W H K = 0 → pw.toNat * ph.toNat ≤ 65536 := by
  intro h
  obtain ⟨pa, pb, b, wa, ha, kk, rfl, rfl, rfl, rfl, rfl, rfl, hsz, _⟩ := rkE_ok h
  exact hsz.ab
theorem rk_pair0 (pw ph bd W H : Int) (S : List Nat) (n : Nat) (hS : S.length = n) (hSb : ∀ i, S.getD i 0 < 4294967296) (hn : n ≤ 9223372036854775807) (K : Int) : ∃ E0 c d V, (E0 = 0 → c * d ≤ 65536) ∧ (∀ ad cc x, USl x (.slice ad n cc) S → Calls Try.prog 9 #[.agg #[.int .i64 pw, .int .i64 ph, .slice ad n cc], .int .i64 bd, .int .i64 W, .int .i64 H, .int .i64 K] x (RPE E0 c d V x)) ∧
    (∀ ad cc x, USl x (.slice ad n cc) S → Calls Try.prog 8 #[.agg #[.int .i64 pw, .int .i64 ph, .slice ad n cc], .int .i64 bd, .int .i64 W, .int .i64 H, .int .i64 K] x (RDE E0 c d V x)) :=
  ⟨_, _, _, _, rk_room pw ph bd W H n, fun ad cc x u => rplane_any pw ph ad n cc S bd W H K x u hS hSb hn, fun ad cc x u => rdplane12_any pw ph ad n cc S bd W H K x u hS hSb hn⟩
theorem rk_med (pw ph bd W H : Int) (S : List Nat) (n : Nat) (hS : S.length = n) (hSb : ∀ i, S.getD i 0 < 4294967296) (hn : n ≤ 9223372036854775807) (K : Int) (hK : cntV W H ≠ 0 → cntV W H / 2 = K) : ∃ E0 c d V, (E0 = 0 → c * d ≤ 65536) ∧ (∀ ad cc x, USl x (.slice ad n cc) S → Calls Try.prog 12 #[.agg #[.int .i64 pw, .int .i64 ph, .slice ad n cc], .int .i64 bd, .int .i64 W, .int .i64 H] x (RPE E0 c d V x)) ∧
    (∀ ad cc x, USl x (.slice ad n cc) S → Calls Try.prog 8 #[.agg #[.int .i64 pw, .int .i64 ph, .slice ad n cc], .int .i64 bd, .int .i64 W, .int .i64 H, .int .i64 K] x (RDE E0 c d V x)) := by
  have hs := rkE_swap (pw := pw) (ph := ph) (n := n) (bd := bd) hK
  refine ⟨_, _, _, _, rk_room pw ph bd W H n, fun ad cc x u => median_any pw ph ad n cc S bd W H x u hS hSb hn, fun ad cc x u => (rdplane12_any pw ph ad n cc S bd W H K x u hS hSb hn).mono ?_⟩
  rintro e w' ⟨a, b, ad', m, cc', E, rfl, D⟩
  rw [← hs.1] at D
  exact ⟨a, b, ad', m, cc', E, rfl, D.swap fun h0 => by rw [← hs.2 h0]⟩
theorem rk_ero (pw ph bd W H : Int) (S : List Nat) (n : Nat) (hS : S.length = n) (hSb : ∀ i, S.getD i 0 < 4294967296) (hn : n ≤ 9223372036854775807) (K : Int) (hK : cntV W H ≠ 0 → 0 = K) : ∃ E0 c d V, (E0 = 0 → c * d ≤ 65536) ∧ (∀ ad cc x, USl x (.slice ad n cc) S → Calls Try.prog 13 #[.agg #[.int .i64 pw, .int .i64 ph, .slice ad n cc], .int .i64 bd, .int .i64 W, .int .i64 H] x (RPE E0 c d V x)) ∧
    (∀ ad cc x, USl x (.slice ad n cc) S → Calls Try.prog 8 #[.agg #[.int .i64 pw, .int .i64 ph, .slice ad n cc], .int .i64 bd, .int .i64 W, .int .i64 H, .int .i64 K] x (RDE E0 c d V x)) := by
  have hs := rkE_swap (pw := pw) (ph := ph) (n := n) (bd := bd) hK
  refine ⟨_, _, _, _, rk_room pw ph bd W H n, fun ad cc x u => erode_any pw ph ad n cc S bd W H x u hS hSb hn, fun ad cc x u => (rdplane12_any pw ph ad n cc S bd W H K x u hS hSb hn).mono ?_⟩
  rintro e w' ⟨a, b, ad', m, cc', E, rfl, D⟩
  rw [← hs.1] at D
  exact ⟨a, b, ad', m, cc', E, rfl, D.swap fun h0 => by rw [← hs.2 h0]; rfl⟩
theorem rk_dil (pw ph bd W H : Int) (S : List Nat) (n : Nat) (hS : S.length = n) (hSb : ∀ i, S.getD i 0 < 4294967296) (hn : n ≤ 9223372036854775807) (K : Int) (hK : cntV W H ≠ 0 → cntV W H - 1 = K) : ∃ E0 c d V, (E0 = 0 → c * d ≤ 65536) ∧ (∀ ad cc x, USl x (.slice ad n cc) S → Calls Try.prog 14 #[.agg #[.int .i64 pw, .int .i64 ph, .slice ad n cc], .int .i64 bd, .int .i64 W, .int .i64 H] x (RPE E0 c d V x)) ∧
    (∀ ad cc x, USl x (.slice ad n cc) S → Calls Try.prog 8 #[.agg #[.int .i64 pw, .int .i64 ph, .slice ad n cc], .int .i64 bd, .int .i64 W, .int .i64 H, .int .i64 K] x (RDE E0 c d V x)) := by
  have hs := rkE_swap (pw := pw) (ph := ph) (n := n) (bd := bd) hK
  refine ⟨_, _, _, _, rk_room pw ph bd W H n, fun ad cc x u => dilate_any pw ph ad n cc S bd W H x u hS hSb hn, fun ad cc x u => (rdplane12_any pw ph ad n cc S bd W H K x u hS hSb hn).mono ?_⟩
  rintro e w' ⟨a, b, ad', m, cc', E, rfl, D⟩
  rw [← hs.1] at D
  exact ⟨a, b, ad', m, cc', E, rfl, D.swap fun h0 => by rw [← hs.2 h0]⟩
theorem usl_len {w : World} {ad : Option Addr} {m c : Nat} {L : List Nat} (h : USl w (.slice ad m c) L) : m = L.length := by
  obtain ⟨a, cap, e⟩ := h.form
  injection e
theorem pd_joinx {wx wy wz w' x : World} {E0 : Int} {c d : Nat} {V : Nat → Nat} {a b a' b' : Int} {ad ad' : Option Addr} {m cc m' cc' : Nat} {E E' : Int} (D : Dans wx wy E0 c d V a b ad m cc E) (P : Pans wz w' E0 c d V a' b' ad' m' cc' E') (q : Qb wy x) (q' : Qb w' x) (hB : E0 = 0 → c * d ≤ 65536) : ∃ S, a' = a ∧ b' = b ∧ m' = m ∧ USl x (.slice ad' m' cc') S ∧ USl x (.slice ad m cc) S ∧ S.length ≤ 65536 := by
  by_cases h : E0 = 0
  · obtain ⟨rfl, rfl, rfl, u⟩ := D.good h
    obtain ⟨g, rfl, rfl, rfl, rfl, rfl, v, _, _⟩ := P.good h
    refine ⟨prtL V (c * d), rfl, rfl, rfl, ?_, u.nextB q, by rw [prtL_len]; exact hB h⟩
    have hI : UIs x g 0 (prtL V (c * d)) := fun i hi => by
      rw [prtL_len] at hi
      rw [Nat.zero_add, q'.cell (v.cell i hi)]
      simp [prtL, List.getD_eq_getElem?_getD, hi]
    have := hI.usl (cap := c * d) (by rw [prtL_len]; exact Nat.le_refl _)
    rw [prtL_len] at this
    exact this
  · obtain ⟨rfl, rfl, rfl, rfl, rfl⟩ := D.bad h
    obtain ⟨rfl, rfl, rfl, rfl, rfl⟩ := P.bad h
    exact ⟨[], rfl, rfl, rfl, Or.inr ⟨_, _, rfl, rfl⟩, Or.inr ⟨_, _, rfl, rfl⟩, by decide⟩
theorem Pans.spo {u x w : World} {E0 : Int} {c d : Nat} {V : Nat → Nat} {a b : Int} {ad : Option Addr} {m cc : Nat} {E : Int} (P : Pans u x E0 c d V a b ad m cc E) (q : Qb x w) : SpoA u w ad m := by
  refine ⟨P.q.trans q, fun hm => ?_⟩
  by_cases h : E0 = 0
  · obtain ⟨g, _, _, rfl, rfl, _, v, h1, h2⟩ := P.good h
    exact ⟨g, rfl, Nat.lt_of_lt_of_le h2 q.sz, fun i hi => ⟨_, q.cell (v.cell i hi)⟩, fun j => by rw [q.frozen (p := ⟨g, j, none⟩) h2]; exact v.free j, h1, P.q.trans q⟩
  · obtain ⟨_, _, _, rfl, _⟩ := P.bad h
    omega
set_option maxHeartbeats 8000000 in
set_option maxRecDepth 100000 in
theorem rplane_walk (W0 : World) (pw ph bd W H k : Int) (sv : Value) (S : List Nat) (us : USl W0 sv S) (hSb : ∀ i, S.getD i 0 < 4294967296) (hml : S.length ≤ 9223372036854775807) :
    Calls Try.prog 3 #[.agg #[.int .i64 pw, .int .i64 ph, sv], .int .i64 bd, .int .i64 W, .int .i64 H, .int .i64 k] W0 fun e w' => e = .returned (.bool true) ∧ Qb W0 w' := by
  obtain ⟨ad, c, rfl⟩ := us.form
  obtain ⟨n, hn⟩ : ∃ n, S.length = n := ⟨_, rfl⟩
  rw [hn] at us hml
  rw [hn]
  obtain ⟨w1, hw1⟩ : ∃ w1, W0.alloc (.cells #[.int .i64 pw, .int .i64 ph, .slice ad n c] 24) = w1 := ⟨_, rfl⟩
  have q1 : Q W0 w1 := by rw [← hw1]; exact (Q.refl W0).cells _ _
  have p0 : w1.cell? ⟨W0.heap.size, 0, none⟩ = some (.int .i64 pw) := by rw [← hw1]; simp [go_sem]
  have p1 : w1.cell? ⟨W0.heap.size, 1, none⟩ = some (.int .i64 ph) := by rw [← hw1]; simp [go_sem]
  have p2 : w1.cell? ⟨W0.heap.size, 2, none⟩ = some (.slice ad n c) := by rw [← hw1]; simp [go_sem]
  obtain ⟨bp, hbp⟩ : ∃ bp, W0.heap.size = bp := ⟨_, rfl⟩
  rw [hbp] at p0 p1 p2
  have HK : Hid _ := fun x => known12_any x
  have HM : Hid _ := fun x => small12_any pw ph ad n c x
  have HCy : Hid _ := fun x u h2 => hcopy_all x pw ph ad n c S hn u h2
  have HPl : Hid _ := fun ad' c' x u u' => hplanes_yes pw ph ad' ad n c' c S x u u' (by omega)
  obtain ⟨E1, c1, d1, V1, r1, f1, g1⟩ := rk_pair0 pw ph bd W H S n hn hSb hml k
  obtain ⟨E2, c2, d2, V2, r2, f2, g2⟩ := rk_med pw ph bd W H S n hn hSb hml (wrap64 (Int.tdiv (wrap64 (W * H)) 2)) (fun h => by have := cntV_wrap h; rw [this.1, Int.tdiv_eq_ediv_of_nonneg (by omega), Go.IntWalk.wrap64_in _ (by omega)])
  obtain ⟨E3, c3, d3, V3, r3, f3, g3⟩ := rk_ero pw ph bd W H S n hn hSb hml 0 (fun _ => rfl)
  obtain ⟨E4, c4, d4, V4, r4, f4, g4⟩ := rk_dil pw ph bd W H S n hn hSb hml (wrap64 (wrap64 (W * H) - 1)) (fun h => by have := cntV_wrap h; rw [this.1, Go.IntWalk.wrap64_in _ (by omega)])
  have HF1 : Hid _ := f1
  have HG1 : Hid _ := g1
  have HR1 : Hid (E1 = 0 → c1 * d1 ≤ 65536) := r1
  clear f1 g1 r1
  have HF2 : Hid _ := f2
  have HG2 : Hid _ := g2
  have HR2 : Hid (E2 = 0 → c2 * d2 ≤ 65536) := r2
  clear f2 g2 r2
  have HF3 : Hid _ := f3
  have HG3 : Hid _ := g3
  have HR3 : Hid (E3 = 0 → c3 * d3 ≤ 65536) := r3
  clear f3 g3 r3
  have HF4 : Hid _ := f4
  have HG4 : Hid _ := g4
  have HR4 : Hid (E4 = 0 → c4 * d4 ≤ 65536) := r4
  clear f4 g4 r4
  have HU : Hid (USl W0 (.slice ad n c) S) := us
  have HN : Hid (n ≤ 9223372036854775807) := hml
  have HS2 : Hid (smlR pw ph n = true → n ≤ 2000) := fun h => by unfold smlR at h; simp only [Bool.and_eq_true, decide_eq_true_eq] at h; omega
  obtain ⟨sb, hsb⟩ : ∃ sb, smlR pw ph n = sb := ⟨_, rfl⟩
  rw [hsb] at HM HS2
  have HQ1 : Hid (Qb W0 w1) := q1.qb
  clear us hn hSb hml q1 hsb
  go_enter Try.func3, Try.ntmps3
  go_wp2_with fail
  clear hw1 hbp
  refine Calls.mono (HK.out _) ?_
  rintro e w2 ⟨rfl, q2⟩
  have p0 := q2.cell p0
  have p1 := q2.cell p1
  have p2 := q2.cell p2
  have HQ2 : Hid (Qb W0 w2) := HQ1.out.trans q2
  clear q2
  go_wp2_with fail
  refine Calls.mono (HM.out _) ?_
  rintro e w3 ⟨rfl, q3⟩
  have p0 := q3.cell p0
  have p1 := q3.cell p1
  have p2 := q3.cell p2
  have HQ3 : Hid (Qb W0 w3) := HQ2.out.trans q3.qb
  clear q3 HQ1 HQ2
  cases sb
  · go_wp2_with fail
    go_ret
    exact ⟨rfl, HQ3.out⟩
  go_wp2_with fail
  refine Calls.mono (HCy.out _ (HU.out.nextB HQ3.out) (by have := HS2.out (by first | rfl | trivial); omega)) ?_
  rintro e w4 ⟨ad5, c5, rfl, u4, q4⟩
  obtain ⟨w5, hw5⟩ : ∃ w5, w4.alloc (.cells #[.int .i64 pw, .int .i64 ph, .slice ad5 n c5] 24) = w5 := ⟨_, rfl⟩
  have q45 : Q w4 w5 := by rw [← hw5]; exact (Q.refl w4).cells _ _
  have q35 : Q w3 w5 := q4.trans q45
  have HI : Hid (USl w5 (.slice ad5 n c5) S) := u4.next q45
  have HQ5 : Hid (Qb W0 w5) := HQ3.out.trans q35.qb
  have i0 : w5.cell? ⟨w4.heap.size, 0, none⟩ = some (.int .i64 pw) := by rw [← hw5]; simp [go_sem]
  have i1 : w5.cell? ⟨w4.heap.size, 1, none⟩ = some (.int .i64 ph) := by rw [← hw5]; simp [go_sem]
  have i2 : w5.cell? ⟨w4.heap.size, 2, none⟩ = some (.slice ad5 n c5) := by rw [← hw5]; simp [go_sem]
  have p0 := q35.cell p0
  have p1 := q35.cell p1
  have p2 := q35.cell p2
  clear q4 q45 q35 u4
  go_wp2_with fail
  clear hw5
  generalize w4.heap.size = bi at *
  refine Calls.mono (HG1.out _ _ _ (HU.out.nextB HQ5.out)) ?_
  rintro e w6 ⟨a, b, ad6, m, cc, E, rfl, D6⟩
  obtain ⟨w7, hw7⟩ : ∃ w7, w6.alloc (.cells #[.int .i64 a, .int .i64 b, .slice ad6 m cc] 24) = w7 := ⟨_, rfl⟩
  have q67 : Q w6 w7 := by rw [← hw7]; exact (Q.refl w6).cells _ _
  have q57 : Q w5 w7 := D6.q.trans q67
  obtain ⟨b7, hb7⟩ : ∃ b7, w6.heap.size = b7 := ⟨_, rfl⟩
  have t0 : w7.cell? ⟨w6.heap.size, 0, none⟩ = some (.int .i64 a) := by rw [← hw7]; simp [go_sem]
  have t1 : w7.cell? ⟨w6.heap.size, 1, none⟩ = some (.int .i64 b) := by rw [← hw7]; simp [go_sem]
  have t2 : w7.cell? ⟨w6.heap.size, 2, none⟩ = some (.slice ad6 m cc) := by rw [← hw7]; simp [go_sem]
  rw [hb7] at t0 t1 t2
  have p0 := q57.cell p0
  have p1 := q57.cell p1
  have p2 := q57.cell p2
  have i0 := q57.cell i0
  have i1 := q57.cell i1
  have i2 := q57.cell i2
  have HC7 : Hid ((w7.cell? ⟨bp, 0, none⟩ = some (.int .i64 pw) ∧ w7.cell? ⟨bp, 1, none⟩ = some (.int .i64 ph) ∧ w7.cell? ⟨bp, 2, none⟩ = some (.slice ad n c)) ∧ (w7.cell? ⟨bi, 0, none⟩ = some (.int .i64 pw) ∧ w7.cell? ⟨bi, 1, none⟩ = some (.int .i64 ph) ∧ w7.cell? ⟨bi, 2, none⟩ = some (.slice ad5 n c5)) ∧ (w7.cell? ⟨b7, 0, none⟩ = some (.int .i64 a) ∧ w7.cell? ⟨b7, 1, none⟩ = some (.int .i64 b) ∧ w7.cell? ⟨b7, 2, none⟩ = some (.slice ad6 m cc))) := ⟨⟨p0, p1, p2⟩, ⟨i0, i1, i2⟩, ⟨t0, t1, t2⟩⟩
  have HQ7 : Hid (Qb W0 w7) := HQ5.out.trans q57.qb
  have HU7 : Hid (USl w7 (.slice ad n c) S) := HU.out.nextB HQ7.out
  have HI7 : Hid (USl w7 (.slice ad5 n c5) S) := HI.out.next q57
  have HD : Hid (Dans w5 w6 E1 c1 d1 V1 a b ad6 m cc E ∧ Qb w6 w7) := ⟨D6, q67.qb⟩
  obtain rfl := D6.e
  clear q67 q57 D6 HI HU HQ5 HQ3 HG1
  go_wp2_with fail
  clear hw7 hb7
  go_loopg [14] 2 (fun mm s14 wr => ∃ i : Nat, s14 = .int .i64 (i : Int) ∧ i + mm = 2 ∧ Hid (Qb w7 wr))
  case atStart => exact ⟨0, rfl, by omega, Qb.refl _⟩
  case round =>
    obtain ⟨i, rfl, hi, HQ⟩ := hrel
    clear p0 p1 p2 i0 i1 i2 t0 t1 t2
    by_cases hlt : i < 2
    · have hlt' : (i : Int) < 2 := by omega
      have i0 := HQ.out.cell HC7.out.2.1.1
      have i1 := HQ.out.cell HC7.out.2.1.2.1
      have i2 := HQ.out.cell HC7.out.2.1.2.2
      go_wp2_with fail
      refine Calls.mono (HF1.out _ _ _ (HI7.out.nextB HQ.out)) ?_
      rintro e x1 ⟨a', b', ad8, m', cc', E', rfl, P8⟩
      obtain ⟨L, rfl, rfl, rfl, u1, u2, hL⟩ := pd_join HD.out.1 P8 (HD.out.2.trans (HQ.out.trans P8.q)) HR1.out
      obtain ⟨x2, hx2⟩ : ∃ x2, x1.alloc (.cells #[.int .i64 a', .int .i64 b', .slice ad8 m' cc'] 24) = x2 := ⟨_, rfl⟩
      have q2 : Q x1 x2 := by rw [← hx2]; exact (Q.refl x1).cells _ _
      have HQ2 : Hid (Qb w7 x2) := HQ.out.trans (P8.q.trans q2.qb)
      have HP8 : Hid (Pans wr x1 E c1 d1 V1 a' b' ad8 m' cc' E' ∧ Q x1 x2) := ⟨P8, q2⟩
      obtain ⟨b8, hb8⟩ : ∃ b8, x1.heap.size = b8 := ⟨_, rfl⟩
      have y0 : x2.cell? ⟨x1.heap.size, 0, none⟩ = some (.int .i64 a') := by rw [← hx2]; simp [go_sem]
      have y1 : x2.cell? ⟨x1.heap.size, 1, none⟩ = some (.int .i64 b') := by rw [← hx2]; simp [go_sem]
      have y2 : x2.cell? ⟨x1.heap.size, 2, none⟩ = some (.slice ad8 m' cc') := by rw [← hx2]; simp [go_sem]
      rw [hb8] at y0 y1 y2
      have HL : Hid (USl x2 (.slice ad8 m' cc') L ∧ USl x2 (.slice ad6 m' cc) L ∧ L.length ≤ 65536) := ⟨u1.next q2, u2.next q2, hL⟩
      have HE : Hid (E' = E) := P8.e
      clear u1 u2 hL q2 i0 i1 i2 P8
      have t0 := HQ2.out.cell HC7.out.2.2.1
      have t1 := HQ2.out.cell HC7.out.2.2.2.1
      have t2 := HQ2.out.cell HC7.out.2.2.2.2
      go_wp2_with fail
      clear hx2 hb8
      refine Calls.mono (hplanes_yes a' b' ad8 ad6 m' cc' cc L x2 HL.out.1 HL.out.2.1 (by have := HL.out.2.2; omega)) ?_
      rintro e x3 ⟨rfl, q3⟩
      have HQ3 : Hid (Qb w7 x3) := HQ2.out.trans q3.qb
      have y0 := q3.cell y0
      have y1 := q3.cell y1
      have y2 := q3.cell y2
      have HQ23 : Hid (Q x2 x3) := q3
      clear q3 t0 t1 t2
      have ne : (E' != E) = false := by rw [HE.out]; simp
      have ne2 : (E' == E) = true := by rw [HE.out]; simp
      have p0 := HQ3.out.cell HC7.out.1.1
      have p1 := HQ3.out.cell HC7.out.1.2.1
      have p2 := HQ3.out.cell HC7.out.1.2.2
      have i0 := HQ3.out.cell HC7.out.2.1.1
      have i1 := HQ3.out.cell HC7.out.2.1.2.1
      have i2 := HQ3.out.cell HC7.out.2.1.2.2
      go_wp2_with fail
      refine Calls.mono (HPl.out _ _ _ (HI7.out.nextB HQ3.out) (HU7.out.nextB HQ3.out)) ?_
      rintro e x4 ⟨rfl, q4⟩
      have y0 := q4.cell y0
      have y1 := q4.cell y1
      have y2 := q4.cell y2
      have HQ4 : Hid (Qb x1 x4) := HP8.out.2.qb.trans (HQ23.out.trans q4).qb
      clear q4 p0 p1 p2 i0 i1 i2
      go_wp2_with fail
      refine Calls.mono (spoil_any wr x4 a' b' ad8 m' cc' (HP8.out.1.spo HQ4.out) (by have := usl_len HL.out.1; have := HL.out.2.2; omega)) ?_
      rintro e x5 ⟨rfl, q5⟩
      have HQ5 : Hid (Qb w7 x5) := HQ.out.trans q5
      clear q5 y0 y1 y2 ne ne2 HP8 HL HQ2 HQ3 HQ4 HQ23
      go_wp2_with fail
      go_roundg (2 - (i + 1))
      case measure => go_light; omega
      case rel => go_light; exact ⟨i + 1, by go_num, by omega, HQ5⟩
    · obtain rfl : i = 2 := by omega
      have hge : ¬ ((2 : Nat) : Int) < 2 := by omega
      have i0 := HQ.out.cell HC7.out.2.1.1
      have i1 := HQ.out.cell HC7.out.2.1.2.1
      have i2 := HQ.out.cell HC7.out.2.1.2.2
      go_wp2_with fail
      refine Calls.mono (HF2.out _ _ _ (HI7.out.nextB HQ.out)) ?_
      rintro e x1 ⟨a1, b1, ad1, m1, cc1, F1, rfl, PD1⟩
      obtain ⟨y1, hy1⟩ : ∃ y1, x1.alloc (.cells #[.int .i64 a1, .int .i64 b1, .slice ad1 m1 cc1] 24) = y1 := ⟨_, rfl⟩
      have q1 : Q x1 y1 := by rw [← hy1]; exact (Q.refl x1).cells _ _
      obtain ⟨B1, hB1⟩ : ∃ B1, x1.heap.size = B1 := ⟨_, rfl⟩
      have HB1 : Hid (y1.cell? ⟨B1, 0, none⟩ = some (.int .i64 a1) ∧ y1.cell? ⟨B1, 1, none⟩ = some (.int .i64 b1) ∧ y1.cell? ⟨B1, 2, none⟩ = some (.slice ad1 m1 cc1)) := by
        rw [← hB1, ← hy1]
        exact ⟨by simp [go_sem], by simp [go_sem], by simp [go_sem]⟩
      have HQ1 : Hid (Qb w7 y1) := HQ.out.trans (PD1.q.trans q1.qb)
      have HX1 : Hid (Qb x1 y1) := q1.qb
      have HY1 : Hid (Qb wr y1) := PD1.q.trans q1.qb
      have HPD1 : Hid _ := PD1
      clear PD1 q1 i0 i1 i2
      have i0 := HQ1.out.cell HC7.out.2.1.1
      have i1 := HQ1.out.cell HC7.out.2.1.2.1
      have i2 := HQ1.out.cell HC7.out.2.1.2.2
      go_wp2_with fail
      clear hy1 hB1
      refine Calls.mono (HF3.out _ _ _ (HI7.out.nextB HQ1.out)) ?_
      rintro e x2 ⟨a2, b2, ad2, m2, cc2, F2, rfl, PD2⟩
      obtain ⟨y2, hy2⟩ : ∃ y2, x2.alloc (.cells #[.int .i64 a2, .int .i64 b2, .slice ad2 m2 cc2] 24) = y2 := ⟨_, rfl⟩
      have q2 : Q x2 y2 := by rw [← hy2]; exact (Q.refl x2).cells _ _
      obtain ⟨B2, hB2⟩ : ∃ B2, x2.heap.size = B2 := ⟨_, rfl⟩
      have HB2 : Hid (y2.cell? ⟨B2, 0, none⟩ = some (.int .i64 a2) ∧ y2.cell? ⟨B2, 1, none⟩ = some (.int .i64 b2) ∧ y2.cell? ⟨B2, 2, none⟩ = some (.slice ad2 m2 cc2)) := by
        rw [← hB2, ← hy2]
        exact ⟨by simp [go_sem], by simp [go_sem], by simp [go_sem]⟩
      have HQ2 : Hid (Qb w7 y2) := HQ1.out.trans (PD2.q.trans q2.qb)
      have HX2 : Hid (Qb x2 y2) := q2.qb
      have HY2 : Hid (Qb y1 y2) := PD2.q.trans q2.qb
      have HPD2 : Hid _ := PD2
      clear PD2 q2 i0 i1 i2
      have i0 := HQ2.out.cell HC7.out.2.1.1
      have i1 := HQ2.out.cell HC7.out.2.1.2.1
      have i2 := HQ2.out.cell HC7.out.2.1.2.2
      go_wp2_with fail
      clear hy2 hB2
      refine Calls.mono (HF4.out _ _ _ (HI7.out.nextB HQ2.out)) ?_
      rintro e x3 ⟨a3, b3, ad3, m3, cc3, F3, rfl, PD3⟩
      obtain ⟨y3, hy3⟩ : ∃ y3, x3.alloc (.cells #[.int .i64 a3, .int .i64 b3, .slice ad3 m3 cc3] 24) = y3 := ⟨_, rfl⟩
      have q3 : Q x3 y3 := by rw [← hy3]; exact (Q.refl x3).cells _ _
      obtain ⟨B3, hB3⟩ : ∃ B3, x3.heap.size = B3 := ⟨_, rfl⟩
      have HB3 : Hid (y3.cell? ⟨B3, 0, none⟩ = some (.int .i64 a3) ∧ y3.cell? ⟨B3, 1, none⟩ = some (.int .i64 b3) ∧ y3.cell? ⟨B3, 2, none⟩ = some (.slice ad3 m3 cc3)) := by
        rw [← hB3, ← hy3]
        exact ⟨by simp [go_sem], by simp [go_sem], by simp [go_sem]⟩
      have HQ3 : Hid (Qb w7 y3) := HQ2.out.trans (PD3.q.trans q3.qb)
      have HX3 : Hid (Qb x3 y3) := q3.qb
      have HY3 : Hid (Qb y2 y3) := PD3.q.trans q3.qb
      have HPD3 : Hid _ := PD3
      clear PD3 q3 i0 i1 i2
      have p0 := HQ3.out.cell HC7.out.1.1
      have p1 := HQ3.out.cell HC7.out.1.2.1
      have p2 := HQ3.out.cell HC7.out.1.2.2
      go_wp2_with fail
      clear hy3 hB3
      refine Calls.mono (HG2.out _ _ _ (HU7.out.nextB HQ3.out)) ?_
      rintro e x4 ⟨a4, b4, ad4, m4, cc4, F4, rfl, PD4⟩
      obtain ⟨y4, hy4⟩ : ∃ y4, x4.alloc (.cells #[.int .i64 a4, .int .i64 b4, .slice ad4 m4 cc4] 24) = y4 := ⟨_, rfl⟩
      have q4 : Q x4 y4 := by rw [← hy4]; exact (Q.refl x4).cells _ _
      obtain ⟨B4, hB4⟩ : ∃ B4, x4.heap.size = B4 := ⟨_, rfl⟩
      have HB4 : Hid (y4.cell? ⟨B4, 0, none⟩ = some (.int .i64 a4) ∧ y4.cell? ⟨B4, 1, none⟩ = some (.int .i64 b4) ∧ y4.cell? ⟨B4, 2, none⟩ = some (.slice ad4 m4 cc4)) := by
        rw [← hB4, ← hy4]
        exact ⟨by simp [go_sem], by simp [go_sem], by simp [go_sem]⟩
      have HQ4 : Hid (Qb w7 y4) := HQ3.out.trans (PD4.q.qb.trans q4.qb)
      have HX4 : Hid (Qb x4 y4) := q4.qb
      have HY4 : Hid (Qb y3 y4) := PD4.q.qb.trans q4.qb
      have HPD4 : Hid _ := PD4
      clear PD4 q4 p0 p1 p2
      have p0 := HQ4.out.cell HC7.out.1.1
      have p1 := HQ4.out.cell HC7.out.1.2.1
      have p2 := HQ4.out.cell HC7.out.1.2.2
      go_wp2_with fail
      clear hy4 hB4
      refine Calls.mono (HG3.out _ _ _ (HU7.out.nextB HQ4.out)) ?_
      rintro e x5 ⟨a5, b5, ad5, m5, cc5, F5, rfl, PD5⟩
      obtain ⟨y5, hy5⟩ : ∃ y5, x5.alloc (.cells #[.int .i64 a5, .int .i64 b5, .slice ad5 m5 cc5] 24) = y5 := ⟨_, rfl⟩
      have q5 : Q x5 y5 := by rw [← hy5]; exact (Q.refl x5).cells _ _
      obtain ⟨B5, hB5⟩ : ∃ B5, x5.heap.size = B5 := ⟨_, rfl⟩
      have HB5 : Hid (y5.cell? ⟨B5, 0, none⟩ = some (.int .i64 a5) ∧ y5.cell? ⟨B5, 1, none⟩ = some (.int .i64 b5) ∧ y5.cell? ⟨B5, 2, none⟩ = some (.slice ad5 m5 cc5)) := by
        rw [← hB5, ← hy5]
        exact ⟨by simp [go_sem], by simp [go_sem], by simp [go_sem]⟩
      have HQ5 : Hid (Qb w7 y5) := HQ4.out.trans (PD5.q.qb.trans q5.qb)
      have HX5 : Hid (Qb x5 y5) := q5.qb
      have HY5 : Hid (Qb y4 y5) := PD5.q.qb.trans q5.qb
      have HPD5 : Hid _ := PD5
      clear PD5 q5 p0 p1 p2
      have p0 := HQ5.out.cell HC7.out.1.1
      have p1 := HQ5.out.cell HC7.out.1.2.1
      have p2 := HQ5.out.cell HC7.out.1.2.2
      go_wp2_with fail
      clear hy5 hB5
      refine Calls.mono (HG4.out _ _ _ (HU7.out.nextB HQ5.out)) ?_
      rintro e x6 ⟨a6, b6, ad6, m6, cc6, F6, rfl, PD6⟩
      obtain ⟨y6, hy6⟩ : ∃ y6, x6.alloc (.cells #[.int .i64 a6, .int .i64 b6, .slice ad6 m6 cc6] 24) = y6 := ⟨_, rfl⟩
      have q6 : Q x6 y6 := by rw [← hy6]; exact (Q.refl x6).cells _ _
      obtain ⟨B6, hB6⟩ : ∃ B6, x6.heap.size = B6 := ⟨_, rfl⟩
      have HB6 : Hid (y6.cell? ⟨B6, 0, none⟩ = some (.int .i64 a6) ∧ y6.cell? ⟨B6, 1, none⟩ = some (.int .i64 b6) ∧ y6.cell? ⟨B6, 2, none⟩ = some (.slice ad6 m6 cc6)) := by
        rw [← hB6, ← hy6]
        exact ⟨by simp [go_sem], by simp [go_sem], by simp [go_sem]⟩
      have HQ6 : Hid (Qb w7 y6) := HQ5.out.trans (PD6.q.qb.trans q6.qb)
      have HX6 : Hid (Qb x6 y6) := q6.qb
      have HY6 : Hid (Qb y5 y6) := PD6.q.qb.trans q6.qb
      have HPD6 : Hid _ := PD6
      clear PD6 q6 p0 p1 p2
      obtain ⟨L1, ea1, eb1, em1, u1, v1, l1⟩ := pd_joinx HPD4.out HPD1.out ((HX4.out.trans HY5.out).trans HY6.out) (((((HX1.out.trans HY2.out).trans HY3.out).trans HY4.out).trans HY5.out).trans HY6.out) HR2.out
      have HL1 : Hid (USl y6 (.slice ad1 m1 cc1) L1 ∧ USl y6 (.slice ad4 m4 cc4) L1 ∧ L1.length ≤ 65536) := ⟨u1, v1, l1⟩
      have ne1 : (F1 == F4) = true := by rw [HPD1.out.e, HPD4.out.e]; simp
      subst ea1 eb1 em1
      clear u1 v1 l1
      obtain ⟨L2, ea2, eb2, em2, u2, v2, l2⟩ := pd_joinx HPD5.out HPD2.out (HX5.out.trans HY6.out) ((((HX2.out.trans HY3.out).trans HY4.out).trans HY5.out).trans HY6.out) HR3.out
      have HL2 : Hid (USl y6 (.slice ad2 m2 cc2) L2 ∧ USl y6 (.slice ad5 m5 cc5) L2 ∧ L2.length ≤ 65536) := ⟨u2, v2, l2⟩
      have ne2 : (F2 == F5) = true := by rw [HPD2.out.e, HPD5.out.e]; simp
      subst ea2 eb2 em2
      clear u2 v2 l2
      obtain ⟨L3, ea3, eb3, em3, u3, v3, l3⟩ := pd_joinx HPD6.out HPD3.out HX6.out (((HX3.out.trans HY4.out).trans HY5.out).trans HY6.out) HR4.out
      have HL3 : Hid (USl y6 (.slice ad3 m3 cc3) L3 ∧ USl y6 (.slice ad6 m6 cc6) L3 ∧ L3.length ≤ 65536) := ⟨u3, v3, l3⟩
      have ne3 : (F3 == F6) = true := by rw [HPD3.out.e, HPD6.out.e]; simp
      subst ea3 eb3 em3
      clear u3 v3 l3
      clear HPD1 HPD2 HPD3 HPD4 HPD5 HPD6
      have k10 := (((((HY2.out.trans HY3.out).trans HY4.out).trans HY5.out).trans HY6.out)).cell HB1.out.1
      have k11 := (((((HY2.out.trans HY3.out).trans HY4.out).trans HY5.out).trans HY6.out)).cell HB1.out.2.1
      have k12 := (((((HY2.out.trans HY3.out).trans HY4.out).trans HY5.out).trans HY6.out)).cell HB1.out.2.2
      have k20 := ((((HY3.out.trans HY4.out).trans HY5.out).trans HY6.out)).cell HB2.out.1
      have k21 := ((((HY3.out.trans HY4.out).trans HY5.out).trans HY6.out)).cell HB2.out.2.1
      have k22 := ((((HY3.out.trans HY4.out).trans HY5.out).trans HY6.out)).cell HB2.out.2.2
      have k30 := (((HY4.out.trans HY5.out).trans HY6.out)).cell HB3.out.1
      have k31 := (((HY4.out.trans HY5.out).trans HY6.out)).cell HB3.out.2.1
      have k32 := (((HY4.out.trans HY5.out).trans HY6.out)).cell HB3.out.2.2
      have k40 := ((HY5.out.trans HY6.out)).cell HB4.out.1
      have k41 := ((HY5.out.trans HY6.out)).cell HB4.out.2.1
      have k42 := ((HY5.out.trans HY6.out)).cell HB4.out.2.2
      have k50 := (HY6.out).cell HB5.out.1
      have k51 := (HY6.out).cell HB5.out.2.1
      have k52 := (HY6.out).cell HB5.out.2.2
      have k60 := (Qb.refl _).cell HB6.out.1
      have k61 := (Qb.refl _).cell HB6.out.2.1
      have k62 := (Qb.refl _).cell HB6.out.2.2
      have i0 := HQ6.out.cell HC7.out.2.1.1
      have i1 := HQ6.out.cell HC7.out.2.1.2.1
      have i2 := HQ6.out.cell HC7.out.2.1.2.2
      have p0 := HQ6.out.cell HC7.out.1.1
      have p1 := HQ6.out.cell HC7.out.1.2.1
      have p2 := HQ6.out.cell HC7.out.1.2.2
      have HZ0 : Hid (Qb y6 y6) := Qb.refl _
      go_wp2_with fail
      clear hy6 hB6
      refine Calls.mono (hplanes_yes a1 b1 ad1 ad4 m1 cc1 cc4 L1 _ (HL1.out.1.nextB HZ0.out) (HL1.out.2.1.nextB HZ0.out) (by have := HL1.out.2.2; omega)) ?_
      rintro e z1 ⟨rfl, q1⟩
      have HZ1 : Hid (Qb y6 z1) := HZ0.out.trans q1.qb
      have k10 := q1.cell k10
      have k11 := q1.cell k11
      have k12 := q1.cell k12
      have k20 := q1.cell k20
      have k21 := q1.cell k21
      have k22 := q1.cell k22
      have k30 := q1.cell k30
      have k31 := q1.cell k31
      have k32 := q1.cell k32
      have k40 := q1.cell k40
      have k41 := q1.cell k41
      have k42 := q1.cell k42
      have k50 := q1.cell k50
      have k51 := q1.cell k51
      have k52 := q1.cell k52
      have k60 := q1.cell k60
      have k61 := q1.cell k61
      have k62 := q1.cell k62
      have i0 := q1.cell i0
      have i1 := q1.cell i1
      have i2 := q1.cell i2
      have p0 := q1.cell p0
      have p1 := q1.cell p1
      have p2 := q1.cell p2
      clear q1
      go_wp2_with fail
      refine Calls.mono (hplanes_yes a2 b2 ad2 ad5 m2 cc2 cc5 L2 _ (HL2.out.1.nextB HZ1.out) (HL2.out.2.1.nextB HZ1.out) (by have := HL2.out.2.2; omega)) ?_
      rintro e z2 ⟨rfl, q2⟩
      have HZ2 : Hid (Qb y6 z2) := HZ1.out.trans q2.qb
      have k10 := q2.cell k10
      have k11 := q2.cell k11
      have k12 := q2.cell k12
      have k20 := q2.cell k20
      have k21 := q2.cell k21
      have k22 := q2.cell k22
      have k30 := q2.cell k30
      have k31 := q2.cell k31
      have k32 := q2.cell k32
      have k40 := q2.cell k40
      have k41 := q2.cell k41
      have k42 := q2.cell k42
      have k50 := q2.cell k50
      have k51 := q2.cell k51
      have k52 := q2.cell k52
      have k60 := q2.cell k60
      have k61 := q2.cell k61
      have k62 := q2.cell k62
      have i0 := q2.cell i0
      have i1 := q2.cell i1
      have i2 := q2.cell i2
      have p0 := q2.cell p0
      have p1 := q2.cell p1
      have p2 := q2.cell p2
      clear q2
      go_wp2_with fail
      refine Calls.mono (hplanes_yes a3 b3 ad3 ad6 m3 cc3 cc6 L3 _ (HL3.out.1.nextB HZ2.out) (HL3.out.2.1.nextB HZ2.out) (by have := HL3.out.2.2; omega)) ?_
      rintro e z3 ⟨rfl, q3⟩
      have HZ3 : Hid (Qb y6 z3) := HZ2.out.trans q3.qb
      have k10 := q3.cell k10
      have k11 := q3.cell k11
      have k12 := q3.cell k12
      have k20 := q3.cell k20
      have k21 := q3.cell k21
      have k22 := q3.cell k22
      have k30 := q3.cell k30
      have k31 := q3.cell k31
      have k32 := q3.cell k32
      have k40 := q3.cell k40
      have k41 := q3.cell k41
      have k42 := q3.cell k42
      have k50 := q3.cell k50
      have k51 := q3.cell k51
      have k52 := q3.cell k52
      have k60 := q3.cell k60
      have k61 := q3.cell k61
      have k62 := q3.cell k62
      have i0 := q3.cell i0
      have i1 := q3.cell i1
      have i2 := q3.cell i2
      have p0 := q3.cell p0
      have p1 := q3.cell p1
      have p2 := q3.cell p2
      clear q3
      go_wp2_with fail
      refine Calls.mono (HPl.out _ _ _ (HI7.out.nextB (HQ6.out.trans HZ3.out)) (HU7.out.nextB (HQ6.out.trans HZ3.out))) ?_
      rintro e z4 ⟨rfl, q4⟩
      have HZ4 : Hid (Qb W0 z4) := HQ7.out.trans ((HQ6.out.trans HZ3.out).trans q4.qb)
      clear q4
      go_wp2_with fail
      go_ret
      exact ⟨rfl, HZ4.out⟩
end Go.Proofs.Ytikhmlcmmabapaa

/- blendOf: the taps of a place as two lists. -/
import Derived.Test.YtcolhgngiflkhaaGc6f80246
namespace Go.Proofs.Ytcolhgngiflkhaa
open Go.RowKit
set_option linter.unusedVariables false
set_option linter.unusedSimpArgs false

/-- What blendOf holds while it goes through the taps. -/
structure Bl3 (w1 wr : World) (L : List (Int × Int)) (n g gr gb i : Nat) : Prop where
  q : Q w1 wr
  r1 : IRow wr g (tabI n (partF (fun k => (L.getD k (0, 0)).1) i))
  r2 : IRow wr gr (tabI n (partF (fun k => (L.getD k (0, 0)).2) i))
  b0 : wr.cell? ⟨gb, 0, none⟩ = some (.slice (some ⟨g, 0, none⟩) n n)
  b1 : wr.cell? ⟨gb, 1, none⟩ = some (.slice (some ⟨gr, 0, none⟩) n n)
theorem tabI_map {L : List (Int × Int)} {n : Nat} (hn : n = L.length) (f : Int × Int → Int) (h0 : f (0, 0) = 0) : tabI n (partF (fun k => f (L.getD k (0, 0))) n) = L.map f := by
  apply List.ext_getElem?
  intro i
  by_cases hi : i < n
  · rw [tabI_at hi, List.getElem?_map]
    unfold partF
    rw [if_pos hi]
    show some (f (L.getD i (0, 0))) = _
    rw [List.getD_eq_getElem?_getD, List.getElem?_eq_getElem (by omega)]
    rfl
  · rw [List.getElem?_eq_none (by rw [tabI_len]; omega), List.getElem?_eq_none (by rw [List.length_map]; omega)]
/-- What is read while two numbers are stored. -/
structure Dcl (gb g gr n tb : Nat) (p q : Int) (y : World) : Prop where
  a : y.cell? ⟨gb, 0, none⟩ = some (.slice (some ⟨g, 0, none⟩) n n)
  b : y.cell? ⟨gb, 1, none⟩ = some (.slice (some ⟨gr, 0, none⟩) n n)
  c : y.cell? ⟨tb, 0, none⟩ = some (.int .i64 p)
  d : y.cell? ⟨tb, 1, none⟩ = some (.int .i64 q)
theorem Dcl.set {gb g gr n tb : Nat} {p q : Int} {y : World} (h : Dcl gb g gr n tb p q y) {ad : Addr} (h1 : ad.block ≠ gb) (h2 : ad.block ≠ tb) (v : Value) : Dcl gb g gr n tb p q (y.setCell ad v) :=
  ⟨(World.cell?_setCell_other _ _ _ _ (fun e => h1 (by rw [e]))).trans h.a, (World.cell?_setCell_other _ _ _ _ (fun e => h1 (by rw [e]))).trans h.b, (World.cell?_setCell_other _ _ _ _ (fun e => h2 (by rw [e]))).trans h.c, (World.cell?_setCell_other _ _ _ _ (fun e => h2 (by rw [e]))).trans h.d⟩
theorem Bl3.step {w1 wr wa : World} {L : List (Int × Int)} {n g gr gb i : Nat} {p x : Int} (h : Bl3 w1 wr L n g gr gb i) (qa : Q wr wa) (hi : i < n) (hg : L.getD i (0, 0) = (p, x)) (l1 : w1.heap.size ≤ g) (l2 : w1.heap.size ≤ gr) (n12 : g ≠ gr) (n13 : g ≠ gb) (n23 : gr ≠ gb) :
    Bl3 w1 ((wa.setCell ⟨g, i, none⟩ (.int .i64 p)).setCell ⟨gr, i, none⟩ (.int .i64 x)) L n g gr gb (i + 1) := by
  refine ⟨((h.q.trans qa).set l1 _).set l2 _, ?_, ?_, ?_, ?_⟩
  · have := ((h.r1.next qa).set (i := i) (by rw [tabI_len]; exact hi) p).other (p := ⟨gr, i, none⟩) (fun e => n12 e.symm) (.int .i64 x)
    rw [tabI_set (g := partF (fun k => (L.getD k (0, 0)).1) (i + 1)) (by rw [← partF_new]; simp only [hg]) (partF_old _ _)] at this
    exact this
  · have := ((h.r2.next qa).other (p := ⟨g, i, none⟩) n12 (.int .i64 p)).set (i := i) (by rw [tabI_len]; exact hi) x
    rw [tabI_set (g := partF (fun k => (L.getD k (0, 0)).2) (i + 1)) (by rw [← partF_new]; simp only [hg]) (partF_old _ _)] at this
    exact this
  · rw [World.cell?_setCell_other _ _ _ _ (fun e => n23 (by injection e)), World.cell?_setCell_other _ _ _ _ (fun e => n13 (by injection e))]; exact qa.cell h.b0
  · rw [World.cell?_setCell_other _ _ _ _ (fun e => n23 (by injection e)), World.cell?_setCell_other _ _ _ _ (fun e => n13 (by injection e))]; exact qa.cell h.b1
/-- Taps as two rows that the call has made. -/
def BlW (w x : World) (v : Value) (L : List (Int × Int)) : Prop := ∃ g1 g2, v = .agg #[.slice (some ⟨g1, 0, none⟩) L.length L.length, .slice (some ⟨g2, 0, none⟩) L.length L.length] ∧ w.heap.size ≤ g1 ∧ w.heap.size ≤ g2 ∧ IRow x g1 (L.map Prod.fst) ∧ IRow x g2 (L.map Prod.snd)
set_option maxHeartbeats 4000000 in
set_option maxRecDepth 100000 in
theorem blendOf_any (kind F T i : Int) (w : World) :
    Calls Try.prog 29 #[.int .i64 kind, .int .i64 F, .int .i64 T, .int .i64 i] w fun e w' => ∃ v, e = .returned v ∧ BlW w w' v (tpA kind F T i) ∧ Q w w' := by
  have HT : Hid (∀ W : World, Calls Try.prog 28 #[.int .i64 kind, .int .i64 F, .int .i64 T, .int .i64 i] W fun e w' => ∃ v n, e = .returned (.tuple #[v, .int .i64 (tapE kind F T i)]) ∧ Tl W w' v (tpA kind F T i) n) := fun W => taps_all kind F T i W
  have hlen := tpA_len kind F T i
  generalize tpA kind F T i = L at *
  generalize tapE kind F T i = E at *
  go_enter Try.func29, Try.ntmps29
  go_wp2_with fail
  refine (HT.out _).mono ?_
  rintro e w1 ⟨v, n, rfl, hTl⟩
  obtain ⟨ad, c, rfl⟩ := hTl.form
  have HQ1 : Hid (Q w w1) := ((Q.refl w).cells _ _).trans hTl.q
  have HR0 : Hid (w1.cell? ⟨w.heap.size, 0, none⟩ = some (.slice none 0 0) ∧ w1.cell? ⟨w.heap.size, 1, none⟩ = some (.slice none 0 0) ∧ (∀ j, w1.frozen? ⟨w.heap.size, j, none⟩ = false) ∧ w.heap.size < w1.heap.size) := by
    refine ⟨hTl.q.cell (by simp [go_sem]), hTl.q.cell (by simp [go_sem]), fun j => by rw [hTl.q.2]; simp [go_sem], ?_⟩
    have := hTl.q.1.size
    simp at this
    omega
  have HS : Hid (TSl w1 (.slice ad n c) L ∧ n = L.length) := ⟨hTl.tsl, hTl.len⟩
  have hn62 : n ≤ 62 := by rw [hTl.len]; exact hlen
  clear hTl HT
  go_wp2_with fail
  refine regionBo (B := w1.heap.size) (ad := ad) (n := n) (c := c) rfl rfl ⟨rfl, by omega, rfl⟩ ?_
  intro w2 g gr gb HB2
  rw [normBo]
  have HA : Hid (w1.heap.size ≤ g ∧ w1.heap.size ≤ gr ∧ w1.heap.size ≤ gb ∧ g ≠ gr ∧ g ≠ gb ∧ gr ≠ gb) := ⟨HB2.l1, HB2.l2, HB2.l3, HB2.n12, HB2.n13, HB2.n23⟩
  have HD : Hid (Bl3 w1 w2 L n g gr gb 0) := by
    have e : ∀ f : Nat → Int, List.replicate n (0 : Int) = tabI n (partF f 0) := fun f => by rw [tabI_zero]; exact tabI_congr (fun i _ => by simp [partF])
    exact ⟨HB2.q, by rw [← e]; exact HB2.r1, by rw [← e]; exact HB2.r2, HB2.b0, HB2.b1⟩
  clear HB2
  go_wp2_with fail
  go_loopg [12, 13, 31] n (fun gh s12 s13 s31 wr => ∃ j : Nat, s31 = .int .i64 (j : Int) ∧ j ≤ n ∧ gh = n - j ∧ Hid (Bl3 w1 wr L n g gr gb j))
  case atStart => exact ⟨0, rfl, Nat.zero_le _, rfl, HD⟩
  case round =>
    clear HD
    obtain ⟨j, rfl, hj, rfl, HD⟩ := hrel
    by_cases hlt : j < n
    · have hltz : (j : Int) < (n : Int) := by omega
      obtain ⟨e, he⟩ : ∃ e, L[j]? = some e := ⟨_, List.getElem?_eq_getElem (by rw [← HS.out.2]; exact hlt)⟩
      obtain ⟨p, x⟩ := e
      have hg : L.getD j (0, 0) = (p, x) := by rw [List.getD_eq_getElem?_getD, he]; rfl
      obtain ⟨g1, o1, d1, hs1, hI1⟩ := HS.out.1.some (by have := HS.out.2; omega)
      rw [← HS.out.2] at hs1
      injection hs1 with e1 e2 e3
      subst e1 e3
      obtain ⟨c1, c2⟩ := hI1 j _ he
      have c1 := HD.out.q.cell c1
      have c2 := HD.out.q.cell c2
      simp only at c1 c2
      have y0 := HD.out.b0
      have y1 := HD.out.b1
      have z1 := HD.out.r1.cell j _ (tabI_at hlt)
      have fz1 := HD.out.r1.free j
      have z2 := HD.out.r2.cell j _ (tabI_at hlt)
      have fz2 := HD.out.r2.free j
      obtain ⟨u1, hu1⟩ : ∃ u, partF (fun k => (L.getD k (0, 0)).1) j j = u := ⟨_, rfl⟩
      obtain ⟨u2, hu2⟩ : ∃ u, partF (fun k => (L.getD k (0, 0)).2) j j = u := ⟨_, rfl⟩
      rw [hu1] at z1
      rw [hu2] at z2
      have HG : Hid (L.getD j (0, 0) = (p, x)) := hg
      clear he hg hI1 e2 hu1 hu2
      obtain ⟨wa, hwa⟩ : ∃ wa, wr.alloc (.cells #[.int .i64 p, .int .i64 x] 82) = wa := ⟨_, rfl⟩
      go_wp2_with fail
      have qa : Q wr wa := by rw [← hwa]; exact (Q.refl wr).cells _ _
      have t0 : wa.cell? ⟨wr.heap.size, 0, none⟩ = some (.int .i64 p) := by rw [← hwa]; simp [go_sem]
      have t1 : wa.cell? ⟨wr.heap.size, 1, none⟩ = some (.int .i64 x) := by rw [← hwa]; simp [go_sem]
      have D0 : Dcl gb g gr n wr.heap.size p x wa.drew := ⟨qa.cell y0, qa.cell y1, t0, t1⟩
      have n0 := cw_some D0
      have f0 := fun m : CW (Dcl gb g gr n wr.heap.size p x) => m.h.a
      have f1 := fun m : CW (Dcl gb g gr n wr.heap.size p x) => m.h.b
      have f2 := fun m : CW (Dcl gb g gr n wr.heap.size p x) => m.h.c
      have f3 := fun m : CW (Dcl gb g gr n wr.heap.size p x) => m.h.d
      have hsz : wr.heap.size = wr.heap.size := rfl
      have gl : g < wr.heap.size := World.block_lt_of_cell? _ _ z1
      have grl : gr < wr.heap.size := World.block_lt_of_cell? _ _ z2
      have HS9 : Hid _ := HD.out.step (wa := wa.drew) (qa.trans (Q.refl wa).drew) hlt HG.out HA.out.1 HA.out.2.1 HA.out.2.2.2.1 HA.out.2.2.2.2.1 HA.out.2.2.2.2.2
      have z1a : wa.drew.cell? ⟨g, j, none⟩ = some (.int .i64 u1) := (qa.trans (Q.refl wa).drew).cell z1
      have z2a : wa.drew.cell? ⟨gr, j, none⟩ = some (.int .i64 u2) := (qa.trans (Q.refl wa).drew).cell z2
      have fz1a : wa.drew.frozen? ⟨g, j, none⟩ = false := by rw [(qa.trans (Q.refl wa).drew).2]; exact fz1
      have fz2a : wa.drew.frozen? ⟨gr, j, none⟩ = false := by rw [(qa.trans (Q.refl wa).drew).2]; exact fz2
      have D1 : Dcl gb g gr n wr.heap.size p x (wa.drew.setCell ⟨g, j, none⟩ (.int .i64 p)) := D0.set (ad := ⟨g, j, none⟩) HA.out.2.2.2.2.1 (by show g ≠ wr.heap.size; omega) _
      have z2b : (wa.drew.setCell ⟨g, j, none⟩ (.int .i64 p)).cell? ⟨gr, j, none⟩ = some (.int .i64 u2) := (World.cell?_setCell_other _ _ _ _ (fun e => HA.out.2.2.2.1 (by injection e))).trans z2a
      have fz2b : (wa.drew.setCell ⟨g, j, none⟩ (.int .i64 p)).frozen? ⟨gr, j, none⟩ = false := by rw [World.frozen?_setCell]; exact fz2a
      refine wp_region_mkP [0, 1, 2, 3, 4, 5, 6, 7, 8, 9] [[10, 11, 12, 13]] 4 _ (Dcl gb g gr n wr.heap.size p x) (by kernel_rfl) (by kernel_rfl) rfl (by kernel_rfl) D0 ?_
      simp only [List.filterMap_cons, List.filterMap_nil, List.getElem?_cons_zero, List.getElem?_cons_succ]
      repeat (first | go_big_quiet_step (fail) | quiet_step (fail))
      refine wpQuiet_nil ?_
      clear f0 f1 f2 f3 n0
      refine treeA_run 10 (by kernel_rfl) rfl (v := .pointer (some ⟨g, j, none⟩)) (x' := wa.drew) (run_ixk (Lw := n) (cap := n) (by kernel_rfl) (by kernel_rfl) hlt) (Or.inr D0) ?_
      refine treeA_skip 11 (by kernel_rfl) rfl (x' := wa.drew.setCell ⟨g, j, none⟩ (.int .i64 p)) (run_sti (i := j) (by kernel_rfl) (by kernel_rfl) z1a fz1a) (Or.inr D1) ?_
      refine treeA_run 12 (by kernel_rfl) rfl (v := .pointer (some ⟨gr, j, none⟩)) (x' := wa.drew.setCell ⟨g, j, none⟩ (.int .i64 p)) (run_ixk (Lw := n) (cap := n) (by kernel_rfl) (by kernel_rfl) hlt) (Or.inr D1) ?_
      refine treeA_skip 13 (by kernel_rfl) rfl (x' := (wa.drew.setCell ⟨g, j, none⟩ (.int .i64 p)).setCell ⟨gr, j, none⟩ (.int .i64 x)) (run_sti (i := j) (by kernel_rfl) (by kernel_rfl) z2b fz2b) (Or.inl (by kernel_rfl)) ?_
      refine tree_nil ?_
      clear D0 D1 z1 z2 z1a z2a fz1 fz2 fz1a fz2a z2b fz2b t0 t1 qa y0 y1 c1 c2 hwa HD
      generalize (wa.drew.setCell ⟨g, j, none⟩ (.int .i64 p)).setCell ⟨gr, j, none⟩ (.int .i64 x) = w9 at HS9 ⊢
      go_wp2_with fail
      go_roundg (n - (j + 1))
      case measure => go_light; omega
      case rel => go_light; exact ⟨j + 1, by simp, by omega, rfl, HS9⟩
    · have hge : ¬ (j : Int) < (n : Int) := by omega
      obtain rfl : j = n := by omega
      have y0 := HD.out.b0
      have y1 := HD.out.b1
      have o0 := HD.out.q.cell HR0.out.1
      have o1 := HD.out.q.cell HR0.out.2.1
      have fo : ∀ k, wr.frozen? ⟨w.heap.size, k, none⟩ = false := fun k => by rw [HD.out.q.2]; exact HR0.out.2.2.1 k
      have fo0 := fo 0
      have fo1 := fo 1
      have HW : Hid (BlW w ((wr.setCell ⟨w.heap.size, 0, none⟩ (.slice (some ⟨g, 0, none⟩) j j)).setCell ⟨w.heap.size, 1, none⟩ (.slice (some ⟨gr, 0, none⟩) j j)) (.agg #[.slice (some ⟨g, 0, none⟩) j j, .slice (some ⟨gr, 0, none⟩) j j]) L) := by
        have hgw : w.heap.size ≠ g := by have := HA.out.1; have := HR0.out.2.2.2; omega
        have hgrw : w.heap.size ≠ gr := by have := HA.out.2.1; have := HR0.out.2.2.2; omega
        have r1 := (HD.out.r1.other (p := ⟨w.heap.size, 0, none⟩) hgw (.slice (some ⟨g, 0, none⟩) j j)).other (p := ⟨w.heap.size, 1, none⟩) hgw (.slice (some ⟨gr, 0, none⟩) j j)
        have r2 := (HD.out.r2.other (p := ⟨w.heap.size, 0, none⟩) hgrw (.slice (some ⟨g, 0, none⟩) j j)).other (p := ⟨w.heap.size, 1, none⟩) hgrw (.slice (some ⟨gr, 0, none⟩) j j)
        rw [tabI_map HS.out.2 Prod.fst rfl] at r1
        rw [tabI_map HS.out.2 Prod.snd rfl] at r2
        refine ⟨g, gr, ?_, ?_, ?_, r1, r2⟩
        · rw [← HS.out.2]
        · have := HA.out.1; have := HR0.out.2.2.2; omega
        · have := HA.out.2.1; have := HR0.out.2.2.2; omega
      have HQ : Hid (Q w ((wr.setCell ⟨w.heap.size, 0, none⟩ (.slice (some ⟨g, 0, none⟩) j j)).setCell ⟨w.heap.size, 1, none⟩ (.slice (some ⟨gr, 0, none⟩) j j))) := ((HQ1.out.trans HD.out.q).set (Nat.le_refl _) _).set (Nat.le_refl _) _
      clear fo HD
      have v0 : ((wr.setCell ⟨w.heap.size, 0, none⟩ (.slice (some ⟨g, 0, none⟩) j j)).setCell ⟨w.heap.size, 1, none⟩ (.slice (some ⟨gr, 0, none⟩) j j)).cell? ⟨w.heap.size, 0, none⟩ = some (.slice (some ⟨g, 0, none⟩) j j) := (World.cell?_setCell_other _ _ _ _ (fun e => by injection e with _ e; cases e)).trans (World.cell?_setCell_same _ _ _ o0)
      have v1 : ((wr.setCell ⟨w.heap.size, 0, none⟩ (.slice (some ⟨g, 0, none⟩) j j)).setCell ⟨w.heap.size, 1, none⟩ (.slice (some ⟨gr, 0, none⟩) j j)).cell? ⟨w.heap.size, 1, none⟩ = some (.slice (some ⟨gr, 0, none⟩) j j) := World.cell?_setCell_same _ _ _ ((World.cell?_setCell_other _ _ _ _ (fun e => by injection e with _ e; cases e)).trans o1)
      go_wp2_with fail
      generalize (wr.setCell ⟨w.heap.size, 0, none⟩ (.slice (some ⟨g, 0, none⟩) j j)).setCell ⟨w.heap.size, 1, none⟩ (.slice (some ⟨gr, 0, none⟩) j j) = w9 at HW HQ v0 v1 ⊢
      exact bodyPost_ret (v := .agg #[.slice (some ⟨g, 0, none⟩) j j, .slice (some ⟨gr, 0, none⟩) j j]) (by simp [results, Try.results29, go_sem, v0, v1]) rfl ⟨_, rfl, HW.out, HQ.out⟩
end Go.Proofs.Ytcolhgngiflkhaa
/- lineOf: a line of taps. -/
namespace Go.Proofs.Ytcolhgngiflkhaa
open Go.RowKit
set_option linter.unusedVariables false
set_option linter.unusedSimpArgs false

/-- Taps of places, as they lie in memory from a block's head on. -/
def RowsV (B : Nat) (w : World) (g : Nat) (Ls : List (List (Int × Int))) : Prop := ∀ i L, Ls[i]? = some L → ∃ g1 g2, w.cell? ⟨g, i * 2, none⟩ = some (.slice (some ⟨g1, 0, none⟩) L.length L.length) ∧ w.cell? ⟨g, i * 2 + 1, none⟩ = some (.slice (some ⟨g2, 0, none⟩) L.length L.length) ∧ IRow w g1 (L.map Prod.fst) ∧ IRow w g2 (L.map Prod.snd) ∧ g1 ≠ g ∧ g2 ≠ g ∧ B ≤ g1 ∧ B ≤ g2
theorem RowsV.next {B : Nat} {w w' : World} {g : Nat} {Ls : List (List (Int × Int))} (h : RowsV B w g Ls) (q : Q w w') : RowsV B w' g Ls := fun i L hi => by
  obtain ⟨g1, g2, h1, h2, h3, h4, h5, h6, h7⟩ := h i L hi
  exact ⟨g1, g2, q.cell h1, q.cell h2, h3.next q, h4.next q, h5, h6, h7⟩
theorem RowsV.other {B : Nat} {w : World} {g : Nat} {Ls : List (List (Int × Int))} (h : RowsV B w g Ls) {p : Addr} (hp : p.block < B) (hg : p.block ≠ g) (v : Value) : RowsV B (w.setCell p v) g Ls := fun i L hi => by
  obtain ⟨g1, g2, h1, h2, h3, h4, h5, h6, h7, h8⟩ := h i L hi
  exact ⟨g1, g2, (World.cell?_setCell_other _ _ _ _ (fun e => hg (by rw [e]))).trans h1, (World.cell?_setCell_other _ _ _ _ (fun e => hg (by rw [e]))).trans h2, h3.other (by omega) v, h4.other (by omega) v, h5, h6, h7, h8⟩
/-- A line: as many places as there are lists of taps, and what tells them. -/
structure LnV (w : World) (v : Value) (Ls : List (List (Int × Int))) (b g : Nat) : Prop where
  v : v = .agg #[.int .i64 (Ls.length : Nat), .func (.func 30) #[] #[.pointer (some ⟨b, 0, none⟩)]]
  box : w.cell? ⟨b, 0, none⟩ = some (.slice (some ⟨g, 0, none⟩) Ls.length Ls.length)
  rows : RowsV 0 w g Ls
theorem LnV.next {w w' : World} {v : Value} {Ls : List (List (Int × Int))} {b g : Nat} (h : LnV w v Ls b g) (q : Q w w') : LnV w' v Ls b g := ⟨h.v, q.cell h.box, h.rows.next q⟩
def LnX (w : World) (v : Value) (Ls : List (List (Int × Int))) : Prop := ∃ b g, LnV w v Ls b g
theorem LnX.next {w w' : World} {v : Value} {Ls : List (List (Int × Int))} (h : LnX w v Ls) (q : Q w w') : LnX w' v Ls := by
  obtain ⟨b, g, h⟩ := h
  exact ⟨b, g, h.next q⟩
/-- A line whose blocks lie from lo on. -/
def LnI (lo : Nat) (w : World) (v : Value) (Ls : List (List (Int × Int))) : Prop := ∃ b g, LnV w v Ls b g ∧ lo ≤ b ∧ lo ≤ g ∧ RowsV lo w g Ls
theorem LnI.x {lo : Nat} {w : World} {v : Value} {Ls : List (List (Int × Int))} (h : LnI lo w v Ls) : LnX w v Ls := by
  obtain ⟨b, g, h, _⟩ := h
  exact ⟨b, g, h⟩
theorem LnI.next {lo : Nat} {w w' : World} {v : Value} {Ls : List (List (Int × Int))} (h : LnI lo w v Ls) (q : Q w w') : LnI lo w' v Ls := by
  obtain ⟨b, g, h, h1, h2, h3⟩ := h
  exact ⟨b, g, h.next q, h1, h2, h3.next q⟩
/-- A line whose blocks lie from lo to hi. -/
def LnJ (lo hi : Nat) (w : World) (v : Value) (Ls : List (List (Int × Int))) : Prop := ∃ b g, LnV w v Ls b g ∧ (lo ≤ b ∧ b < hi) ∧ (lo ≤ g ∧ g < hi) ∧ ∀ i L, Ls[i]? = some L → ∃ g1 g2, w.cell? ⟨g, i * 2, none⟩ = some (.slice (some ⟨g1, 0, none⟩) L.length L.length) ∧ w.cell? ⟨g, i * 2 + 1, none⟩ = some (.slice (some ⟨g2, 0, none⟩) L.length L.length) ∧ IRow w g1 (L.map Prod.fst) ∧ IRow w g2 (L.map Prod.snd) ∧ g1 ≠ g ∧ g2 ≠ g ∧ (lo ≤ g1 ∧ g1 < hi) ∧ (lo ≤ g2 ∧ g2 < hi)
theorem LnJ.next {lo hi : Nat} {w w' : World} {v : Value} {Ls : List (List (Int × Int))} (h : LnJ lo hi w v Ls) (q : Q w w') : LnJ lo hi w' v Ls := by
  obtain ⟨b, g, h, h1, h2, h3⟩ := h
  refine ⟨b, g, h.next q, h1, h2, fun i L hi => ?_⟩
  obtain ⟨g1, g2, a1, a2, a3, a4, a5⟩ := h3 i L hi
  exact ⟨g1, g2, q.cell a1, q.cell a2, a3.next q, a4.next q, a5⟩
theorem LnJ.x {lo hi : Nat} {w : World} {v : Value} {Ls : List (List (Int × Int))} (h : LnJ lo hi w v Ls) : LnX w v Ls := by
  obtain ⟨b, g, h, _⟩ := h
  exact ⟨b, g, h⟩
/-- Blocks that lie apart from a line's may be written. -/
theorem LnJ.other {lo hi : Nat} {w : World} {v : Value} {Ls : List (List (Int × Int))} (h : LnJ lo hi w v Ls) {p : Addr} (hp : p.block < lo ∨ hi ≤ p.block) (u : Value) : LnJ lo hi (w.setCell p u) v Ls := by
  obtain ⟨b, g, h, h1, h2, h3⟩ := h
  have keep : ∀ i L, Ls[i]? = some L → ∃ g1 g2, (w.setCell p u).cell? ⟨g, i * 2, none⟩ = some (.slice (some ⟨g1, 0, none⟩) L.length L.length) ∧ (w.setCell p u).cell? ⟨g, i * 2 + 1, none⟩ = some (.slice (some ⟨g2, 0, none⟩) L.length L.length) ∧ IRow (w.setCell p u) g1 (L.map Prod.fst) ∧ IRow (w.setCell p u) g2 (L.map Prod.snd) ∧ g1 ≠ g ∧ g2 ≠ g ∧ (lo ≤ g1 ∧ g1 < hi) ∧ (lo ≤ g2 ∧ g2 < hi) := fun i L hi => by
    obtain ⟨g1, g2, a1, a2, a3, a4, a5, a6, a7, a8⟩ := h3 i L hi
    exact ⟨g1, g2, (World.cell?_setCell_other _ _ _ _ (fun e => by rw [e] at hp; simp only at hp; omega)).trans a1, (World.cell?_setCell_other _ _ _ _ (fun e => by rw [e] at hp; simp only at hp; omega)).trans a2, a3.other (by omega) u, a4.other (by omega) u, a5, a6, a7, a8⟩
  refine ⟨b, g, ⟨h.v, (World.cell?_setCell_other _ _ _ _ (fun e => by rw [e] at hp; simp only at hp; omega)).trans h.box, fun i L hi => ?_⟩, h1, h2, keep⟩
  obtain ⟨g1, g2, a1, a2, a3, a4, a5, a6, _⟩ := keep i L hi
  exact ⟨g1, g2, a1, a2, a3, a4, a5, a6, Nat.zero_le _, Nat.zero_le _⟩
theorem LnI.j {lo : Nat} {w : World} {v : Value} {Ls : List (List (Int × Int))} (h : LnI lo w v Ls) (h1 : 1 ≤ Ls.length) (hL : ∀ L ∈ Ls, 1 ≤ L.length) : LnJ lo w.heap.size w v Ls := by
  obtain ⟨b, g, h, l1, l2, r⟩ := h
  have hg : g < w.heap.size := by
    obtain ⟨g1, g2, a1, _⟩ := r 0 _ (List.getElem?_eq_getElem (by omega))
    exact World.block_lt_of_cell? _ _ a1
  refine ⟨b, g, h, ⟨l1, World.block_lt_of_cell? _ _ h.box⟩, ⟨l2, hg⟩, fun i L hi => ?_⟩
  obtain ⟨g1, g2, a1, a2, a3, a4, a5, a6, a7, a8⟩ := r i L hi
  have h1 := hL L (List.mem_of_getElem? hi)
  refine ⟨g1, g2, a1, a2, a3, a4, a5, a6, ⟨a7, ?_⟩, ⟨a8, ?_⟩⟩
  · exact World.block_lt_of_cell? _ _ (a3.cell 0 _ (List.getElem?_eq_getElem (by rw [List.length_map]; omega)))
  · exact World.block_lt_of_cell? _ _ (a4.cell 0 _ (List.getElem?_eq_getElem (by rw [List.length_map]; omega)))
theorem blInfo : ∃ i, Try.prog.info? 64 = some i ∧ i.size = 2 ∧ i.bytes = 48 ∧ i.zero = some (.agg #[.slice none 0 0, .slice none 0 0]) := kinfo_of (by kernel_rfl)
theorem make_bl (n : Nat) (hn : n ≤ 1048576) : ∃ M : Array Value, (∀ w : World, (Instr.makeSlice 69 (.int .i64 (n : Int)) (.int .i64 (n : Int))).run Try.prog w = .ok (.slice (some ⟨w.heap.size, 0, none⟩) n n) (w.alloc (.cells M 64))) ∧ M.size = n * 2 := by
  obtain ⟨i, i1, i2, i3, i4⟩ := blInfo
  refine ⟨madeCells (Value.agg #[.slice none 0 0, .slice none 0 0]).cells (n * 2), fun w => ?_, by unfold madeCells; simp⟩
  have := run_make (P := Try.prog) w 69 64 i _ Try.underlying69 i1 i4 .i64 .i64 n n (by omega) (by omega) (by rw [i3]; omega) (by omega)
  rw [i2] at this
  simp only [Int.toNat_natCast] at this
  exact this
/-- What lineOf holds behind i places. -/
structure Ln3 (w wr : World) (Ls : List (List (Int × Int))) (n g b i : Nat) : Prop where
  q : Q w wr
  rows : RowsV w.heap.size wr g (Ls.take i)
  box : wr.cell? ⟨b, 0, none⟩ = some (.slice (some ⟨g, 0, none⟩) n n)
  room : ∀ j, j < n * 2 → ∃ v, wr.cell? ⟨g, j, none⟩ = some v
  free : ∀ j, wr.frozen? ⟨g, j, none⟩ = false
section
variable {ρ : Operand → Value} {x : World} {d : Option Tmp} {ty : TypeId} {ps : String} {af : Array Edge} {gd : Option (Nat × Bool)}
theorem run_ixb {j k gg Lw cap i : Nat} (h : ρ (.tmp j) = .slice (some ⟨gg, 0, none⟩) Lw cap) (h' : ρ (.tmp k) = .int .i64 (i : Nat)) (hi : i < Lw) : (execOp ρ { dst := d, op := .indexAddr 69 (.tmp j) (.tmp k), type := ty, pos := ps, after := af, guard := gd }).run Try.prog x = .ok (.value (.pointer (some ⟨gg, i * 2, none⟩))) x := by
  simp [execOp, h, h', go_sem, hi]
theorem run_stb {j k : Nat} {B i l1 l2 k1 k2 : Nat} {a1 a2 : Option Addr} {a b : Value} (h : ρ (.tmp j) = .pointer (some ⟨B, i, none⟩)) (h' : ρ (.tmp k) = .agg #[.slice a1 l1 k1, .slice a2 l2 k2]) (c : x.cell? ⟨B, i, none⟩ = some a) (c' : x.cell? ⟨B, i + 1, none⟩ = some b) (f : ∀ j, x.frozen? ⟨B, j, none⟩ = false) : (execOp ρ { dst := none, op := .store 64 (.tmp j) (.tmp k), type := ty, pos := ps, after := af, guard := gd }).run Try.prog x = .ok .skip ((x.setCell ⟨B, i, none⟩ (.slice a1 l1 k1)).setCell ⟨B, i + 1, none⟩ (.slice a2 l2 k2)) := by
  simp [execOp, h, h', go_sem, c, c', f]
end
theorem Ln3.step {w wr x : World} {Ls : List (List (Int × Int))} {n g b j g1 g2 : Nat} {L : List (Int × Int)} (h : Ln3 w wr Ls n g b j) (q : Q wr x) (hg : w.heap.size ≤ g) (hgb : g ≠ b) (hj : j < n) (hL : Ls[j]? = some L) (h1 : IRow x g1 (L.map Prod.fst)) (h2 : IRow x g2 (L.map Prod.snd)) (n1 : g1 ≠ g) (n2 : g2 ≠ g) (m1 : w.heap.size ≤ g1) (m2 : w.heap.size ≤ g2) :
    Ln3 w ((x.setCell ⟨g, j * 2, none⟩ (.slice (some ⟨g1, 0, none⟩) L.length L.length)).setCell ⟨g, j * 2 + 1, none⟩ (.slice (some ⟨g2, 0, none⟩) L.length L.length)) Ls n g b (j + 1) := by
  have keep : ∀ (gg : Nat) (zs : List Int), gg ≠ g → IRow x gg zs → IRow ((x.setCell ⟨g, j * 2, none⟩ (.slice (some ⟨g1, 0, none⟩) L.length L.length)).setCell ⟨g, j * 2 + 1, none⟩ (.slice (some ⟨g2, 0, none⟩) L.length L.length)) gg zs := fun gg zs hne hr => (hr.other (p := ⟨g, j * 2, none⟩) (fun e => hne e.symm) _).other (p := ⟨g, j * 2 + 1, none⟩) (fun e => hne e.symm) _
  obtain ⟨u0, c0⟩ := h.room (j * 2) (by omega)
  obtain ⟨u1, c1⟩ := h.room (j * 2 + 1) (by omega)
  have c0 := q.cell c0
  have c1 := q.cell c1
  have a0 := World.cell?_setCell_same x ⟨g, j * 2, none⟩ (.slice (some ⟨g1, 0, none⟩) L.length L.length) c0
  have c1' : (x.setCell ⟨g, j * 2, none⟩ (.slice (some ⟨g1, 0, none⟩) L.length L.length)).cell? ⟨g, j * 2 + 1, none⟩ = some u1 := (World.cell?_setCell_other _ _ _ _ (fun e => by injection e with _ e; omega)).trans c1
  have a1 := World.cell?_setCell_same _ ⟨g, j * 2 + 1, none⟩ (.slice (some ⟨g2, 0, none⟩) L.length L.length) c1'
  have a0' := (World.cell?_setCell_other (x.setCell ⟨g, j * 2, none⟩ (.slice (some ⟨g1, 0, none⟩) L.length L.length)) ⟨g, j * 2 + 1, none⟩ ⟨g, j * 2, none⟩ (.slice (some ⟨g2, 0, none⟩) L.length L.length) (fun e => by injection e with _ e; omega)).trans a0
  refine ⟨((h.q.trans q).set hg _).set hg _, fun i L' hi => ?_, ?_, fun k hk => ?_, fun k => by rw [World.frozen?_setCell, World.frozen?_setCell, q.2]; exact h.free k⟩
  · rw [List.take_add_one, List.getElem?_append] at hi
    split at hi
    · rename_i hlt
      obtain ⟨k1, k2, e1, e2, e3, e4, e5, e6, e7⟩ := h.rows i L' hi
      have hij : i < j := by rw [List.length_take] at hlt; omega
      refine ⟨k1, k2, ?_, ?_, keep k1 _ e5 (e3.next q), keep k2 _ e6 (e4.next q), e5, e6, e7⟩
      · rw [World.cell?_setCell_other _ _ _ _ (fun e => by injection e with _ e; omega), World.cell?_setCell_other _ _ _ _ (fun e => by injection e with _ e; omega)]; exact q.cell e1
      · rw [World.cell?_setCell_other _ _ _ _ (fun e => by injection e with _ e; omega), World.cell?_setCell_other _ _ _ _ (fun e => by injection e with _ e; omega)]; exact q.cell e2
    · rename_i hge
      have hjl : j < Ls.length := (List.getElem?_eq_some_iff.1 hL).1
      have hlen : (Ls.take j).length = j := by rw [List.length_take]; omega
      rw [hlen, hL] at hi
      simp only [Option.toList_some] at hi
      have hi0 : i - j = 0 := by
        rcases Nat.eq_zero_or_pos (i - j) with c | c
        · exact c
        · rw [List.getElem?_eq_none (by simp; omega)] at hi; cases hi
      rw [hi0] at hi
      simp at hi
      subst hi
      have hij : i = j := by rw [hlen] at hge; omega
      subst hij
      exact ⟨g1, g2, a0', a1, keep g1 _ n1 h1, keep g2 _ n2 h2, n1, n2, m1, m2⟩
  · rw [World.cell?_setCell_other _ _ _ _ (fun e => hgb (by injection e)), World.cell?_setCell_other _ _ _ _ (fun e => hgb (by injection e))]; exact q.cell h.box
  · by_cases e1 : k = j * 2 + 1
    · subst e1; exact ⟨_, a1⟩
    · by_cases e2 : k = j * 2
      · subst e2; exact ⟨_, a0'⟩
      · obtain ⟨u, hu⟩ := h.room k hk
        exact ⟨u, by rw [World.cell?_setCell_other _ _ _ _ (fun e => by injection e with _ e; omega), World.cell?_setCell_other _ _ _ _ (fun e => by injection e with _ e; omega)]; exact q.cell hu⟩
set_option maxHeartbeats 4000000 in
set_option maxRecDepth 100000 in
theorem lineOf_any (kind F T : Int) (lo n : Nat) (w : World) (hn : n ≤ 100000) (hlo : lo ≤ 100000) :
    Calls Try.prog 21 #[.int .i64 kind, .int .i64 F, .int .i64 T, .int .i64 (lo : Int), .int .i64 ((lo + n : Nat) : Int)] w fun e w' => ∃ v, e = .returned v ∧ LnI w.heap.size w' v ((List.range n).map fun (k : Nat) => tpA kind F T ((lo + k : Nat) : Int)) ∧ Q w w' := by
  obtain ⟨M, hmk, hM⟩ := make_bl n (by omega)
  obtain ⟨Ls, hLs⟩ : ∃ Ls, (List.range n).map (fun (k : Nat) => tpA kind F T ((lo + k : Nat) : Int)) = Ls := ⟨_, rfl⟩
  have HL : Hid (Ls.length = n ∧ ∀ k, k < n → Ls[k]? = some (tpA kind F T ((lo + k : Nat) : Int))) := by
    rw [← hLs]
    exact ⟨by simp, fun k hk => by rw [List.getElem?_map, List.getElem?_range hk]; rfl⟩
  rw [hLs]
  have HC : Hid (∀ (i : Int) (W : World), Calls Try.prog 29 #[.int .i64 kind, .int .i64 F, .int .i64 T, .int .i64 i] W fun e w' => ∃ v, e = .returned v ∧ BlW W w' v (tpA kind F T i) ∧ Q W w') := fun i W => blendOf_any kind F T i W
  obtain ⟨hi, ehi⟩ : ∃ hi : Int, ((lo + n : Nat) : Int) = hi := ⟨_, rfl⟩
  have e1 : hi - (lo : Int) = (n : Int) := by omega
  have b1 : hi ≤ 200000 := by omega
  have b0 : 0 ≤ hi := by omega
  rw [ehi]
  clear hLs ehi
  go_enter Try.func21, Try.ntmps21
  go_wp2_with fail
  obtain ⟨w0, hw0⟩ : ∃ w0, w.alloc (.cells #[.int .i64 0, .nilFunc] 55) = w0 := ⟨_, rfl⟩
  have HQ0 : Hid (Q w w0) := by rw [← hw0]; exact (Q.refl w).cells _ _
  have HS0 : Hid (w0.heap.size = w.heap.size + 1) := by show w0.heap.size = _; rw [← hw0]; simp
  have HR0 : Hid (w0.cell? ⟨w.heap.size, 0, none⟩ = some (.int .i64 0) ∧ w0.cell? ⟨w.heap.size, 1, none⟩ = some .nilFunc ∧ ∀ j, w0.frozen? ⟨w.heap.size, j, none⟩ = false) := by
    rw [← hw0]
    exact ⟨by simp [go_sem], by simp [go_sem], fun j => by simp [go_sem]⟩
  have H0 : Hid (Ln3 w0 ((w0.alloc (.cells M 64)).alloc (.cells #[.slice (some ⟨w.heap.size + 1, 0, none⟩) n n] 69)) Ls n (w.heap.size + 1) (w.heap.size + 1 + 1) 0) := by
    have hb : (w0.alloc (.cells M 64)).heap[w0.heap.size]? = some (.cells M 64 (0, 0)) := heap_alloc_new w0 _
    have q1 : Q (w0.alloc (.cells M 64)) ((w0.alloc (.cells M 64)).alloc (.cells #[.slice (some ⟨w.heap.size + 1, 0, none⟩) n n] 69)) := (Q.refl _).cells _ _
    rw [HS0.out] at hb
    refine ⟨((Q.refl w0).cells _ _).trans q1, fun i L hi => by simp at hi, ?_, fun j hj => ⟨M[j]'(by omega), ?_⟩, fun j => ?_⟩
    · have e : (w0.alloc (.cells M 64)).heap.size = w.heap.size + 1 + 1 := by simp [HS0.out]
      rw [← e]
      simp [go_sem]
    · refine q1.cell ?_
      rw [cell_of_row _ _ j _ 64 (0, 0) hb, Array.getElem?_eq_getElem (by omega)]
    · rw [q1.2]
      unfold World.frozen?; rw [hb]; simp
  rw [hw0]
  clear hw0 hmk hM
  generalize (w0.alloc (.cells M 64)).alloc (.cells #[.slice (some ⟨w.heap.size + 1, 0, none⟩) n n] 69) = w3 at H0 ⊢
  go_loopg [13, 20] n (fun gh s13 s20 wr => ∃ j : Nat, s20 = .int .i64 (j : Int) ∧ j ≤ n ∧ gh = n - j ∧ Hid (Ln3 w0 wr Ls n (w.heap.size + 1) (w.heap.size + 1 + 1) j))
  case atStart => exact ⟨0, rfl, Nat.zero_le _, rfl, H0⟩
  case round =>
    clear H0
    obtain ⟨j, rfl, hj, rfl, HI⟩ := hrel
    by_cases hlt : j < n
    · have hltz : (j : Int) < (n : Int) := by omega
      obtain ⟨k, hk⟩ : ∃ k : Int, (lo : Int) + (j : Int) = k := ⟨_, rfl⟩
      have wk : IntKind.i64.wrap k = k := by rw [IntKind.wrap_i64]; omega
      have HCj : Hid (∀ W : World, Calls Try.prog 29 #[.int .i64 kind, .int .i64 F, .int .i64 T, .int .i64 k] W fun e w' => ∃ v, e = .returned v ∧ BlW W w' v (tpA kind F T k) ∧ Q W w') := fun W => HC.out k W
      have hLj : Ls[j]? = some (tpA kind F T k) := by rw [HL.out.2 j hlt, ← hk]; congr 2
      obtain ⟨L, hLe⟩ : ∃ L, tpA kind F T k = L := ⟨_, rfl⟩
      rw [hLe] at HCj hLj
      have HLj : Hid (Ls[j]? = some L) := hLj
      have bx := HI.out.box
      have n0 := qw_some wr
      have f0 := qw_cell bx
      clear hLj hLe
      go_wp2_with fail
      refine wp_region_mk [0, 1, 2, 3, 4, 5, 6, 7] [[8, 9, 10]] 3 _ (by kernel_rfl) (by kernel_rfl) rfl (by kernel_rfl) ?_
      simp only [List.filterMap_cons, List.filterMap_nil, List.getElem?_cons_zero, List.getElem?_cons_succ]
      repeat (first | go_big_quiet_step (fail) | quiet_step (fail))
      refine wpQuiet_nil ?_
      intro x5 hx5
      clear f0 n0
      refine treeA_call 8 (by kernel_rfl) rfl (run_fn 29 #[.tmp 25, .tmp 26, .tmp 27, .tmp 30] _ rfl (fun _ _ => rfl) (vs := #[.int .i64 kind, .int .i64 F, .int .i64 T, .int .i64 k]) (by kernel_rfl)) (G := fun v x' => BlW x5 x' v L ∧ Q x5 x') ((HCj.out _).mono fun e x' ⟨v, h1, h2, h3⟩ => ⟨v, h1, h2, h3⟩) ?_
      rintro v x6 ⟨⟨g1, g2, rfl, l1, l2, r1, r2⟩, q6⟩
      have q56 : Q wr x6 := hx5.trans q6
      have hgl : w.heap.size + 1 < wr.heap.size := by
        obtain ⟨u, hu⟩ := HI.out.room (j * 2) (by omega)
        exact World.block_lt_of_cell? _ _ hu
      have hsz5 := hx5.1.size
      obtain ⟨u0, c0⟩ := HI.out.room (j * 2) (by omega)
      obtain ⟨u1, c1⟩ := HI.out.room (j * 2 + 1) (by omega)
      have c0 := q56.cell c0
      have c1 := q56.cell c1
      have fr : ∀ j, x6.frozen? ⟨w.heap.size + 1, j, none⟩ = false := fun j => by rw [q56.2]; exact HI.out.free j
      have HI2 : Hid _ := HI.out.step q56 (by have := HS0.out; omega) (by omega) hlt HLj.out r1 r2 (by omega) (by omega) (by have := HI.out.q.1.size; omega) (by have := HI.out.q.1.size; omega)
      refine ⟨q56, ?_⟩
      refine treeA_run 9 (by kernel_rfl) rfl (v := .pointer (some ⟨w.heap.size + 1, j * 2, none⟩)) (x' := x6) (run_ixb (Lw := n) (cap := n) (by kernel_rfl) (by kernel_rfl) hlt) (Or.inr q56) ?_
      refine treeA_skip 10 (by kernel_rfl) rfl (x' := (x6.setCell ⟨w.heap.size + 1, j * 2, none⟩ (.slice (some ⟨g1, 0, none⟩) L.length L.length)).setCell ⟨w.heap.size + 1, j * 2 + 1, none⟩ (.slice (some ⟨g2, 0, none⟩) L.length L.length)) (run_stb (i := j * 2) (by kernel_rfl) (by kernel_rfl) c0 c1 fr) (Or.inl (by kernel_rfl)) ?_
      refine tree_nil ?_
      clear r1 r2 l1 l2 c0 c1 fr q6 hx5 HI q56 bx
      generalize (x6.setCell ⟨w.heap.size + 1, j * 2, none⟩ (.slice (some ⟨g1, 0, none⟩) L.length L.length)).setCell ⟨w.heap.size + 1, j * 2 + 1, none⟩ (.slice (some ⟨g2, 0, none⟩) L.length L.length) = w9 at HI2 ⊢
      go_wp2_with fail
      go_roundg (n - (j + 1))
      case measure => go_light; omega
      case rel => go_light; exact ⟨j + 1, by simp, by omega, rfl, HI2⟩
    · have hge : ¬ (j : Int) < (n : Int) := by omega
      obtain rfl : j = n := by omega
      have o0 := HI.out.q.cell HR0.out.1
      have o1 := HI.out.q.cell HR0.out.2.1
      have fo : ∀ k, wr.frozen? ⟨w.heap.size, k, none⟩ = false := fun k => by rw [HI.out.q.2]; exact HR0.out.2.2 k
      have fo0 := fo 0
      have fo1 := fo 1
      obtain ⟨fv, hfv⟩ : ∃ fv : Value, Value.func (.func 30) #[] #[.pointer (some ⟨w.heap.size + 1 + 1, 0, none⟩)] = fv := ⟨_, rfl⟩
      have HW : Hid (LnI w.heap.size ((wr.setCell ⟨w.heap.size, 0, none⟩ (.int .i64 (j : Int))).setCell ⟨w.heap.size, 1, none⟩ (.func (.func 30) #[] #[.pointer (some ⟨w.heap.size + 1 + 1, 0, none⟩)])) (.agg #[.int .i64 (j : Int), .func (.func 30) #[] #[.pointer (some ⟨w.heap.size + 1 + 1, 0, none⟩)]]) Ls) := by
        have hl := HL.out.1
        have hs := HS0.out
        have r := (HI.out.rows.other (p := ⟨w.heap.size, 0, none⟩) (by show w.heap.size < _; omega) (by show w.heap.size ≠ _; omega) (.int .i64 (j : Int))).other (p := ⟨w.heap.size, 1, none⟩) (by show w.heap.size < _; omega) (by show w.heap.size ≠ _; omega) (.func (.func 30) #[] #[.pointer (some ⟨w.heap.size + 1 + 1, 0, none⟩)])
        rw [List.take_of_length_le (by omega)] at r
        refine ⟨w.heap.size + 1 + 1, w.heap.size + 1, ⟨by rw [hl], ?_, fun i L hi => ?_⟩, by omega, by omega, fun i L hi => ?_⟩
        · rw [hl, World.cell?_setCell_other _ _ _ _ (fun e => by injection e with e; omega), World.cell?_setCell_other _ _ _ _ (fun e => by injection e with e; omega)]; exact HI.out.box
        · obtain ⟨g1, g2, h1, h2, h3, h4, h5, h6, _⟩ := r i L hi
          exact ⟨g1, g2, h1, h2, h3, h4, h5, h6, Nat.zero_le _, Nat.zero_le _⟩
        · obtain ⟨g1, g2, h1, h2, h3, h4, h5, h6, h7, h8⟩ := r i L hi
          exact ⟨g1, g2, h1, h2, h3, h4, h5, h6, by omega, by omega⟩
      have HQ : Hid (Q w ((wr.setCell ⟨w.heap.size, 0, none⟩ (.int .i64 (j : Int))).setCell ⟨w.heap.size, 1, none⟩ (.func (.func 30) #[] #[.pointer (some ⟨w.heap.size + 1 + 1, 0, none⟩)]))) := ((HQ0.out.trans HI.out.q).set (Nat.le_refl _) _).set (Nat.le_refl _) _
      have v0 : ((wr.setCell ⟨w.heap.size, 0, none⟩ (.int .i64 (j : Int))).setCell ⟨w.heap.size, 1, none⟩ (.func (.func 30) #[] #[.pointer (some ⟨w.heap.size + 1 + 1, 0, none⟩)])).cell? ⟨w.heap.size, 0, none⟩ = some (.int .i64 (j : Int)) := (World.cell?_setCell_other _ _ _ _ (fun e => by injection e with _ e; cases e)).trans (World.cell?_setCell_same _ _ _ o0)
      have v1 : ((wr.setCell ⟨w.heap.size, 0, none⟩ (.int .i64 (j : Int))).setCell ⟨w.heap.size, 1, none⟩ (.func (.func 30) #[] #[.pointer (some ⟨w.heap.size + 1 + 1, 0, none⟩)])).cell? ⟨w.heap.size, 1, none⟩ = some (.func (.func 30) #[] #[.pointer (some ⟨w.heap.size + 1 + 1, 0, none⟩)]) := World.cell?_setCell_same _ _ _ ((World.cell?_setCell_other _ _ _ _ (fun e => by injection e with _ e; cases e)).trans o1)
      clear hfv fo HI
      go_wp2_with fail
      generalize (wr.setCell ⟨w.heap.size, 0, none⟩ (.int .i64 (j : Int))).setCell ⟨w.heap.size, 1, none⟩ (.func (.func 30) #[] #[.pointer (some ⟨w.heap.size + 1 + 1, 0, none⟩)]) = w9 at HW HQ v0 v1 ⊢
      exact bodyPost_ret (v := .agg #[.int .i64 (j : Int), .func (.func 30) #[] #[.pointer (some ⟨w.heap.size + 1 + 1, 0, none⟩)]]) (by simp [results, Try.results21, go_sem, v0, v1]) rfl ⟨_, rfl, HW.out, HQ.out⟩
end Go.Proofs.Ytcolhgngiflkhaa
/- A line's taps, and what it makes of samples. -/
namespace Go.Proofs.Ytcolhgngiflkhaa
open Go.RowKit
set_option linter.unusedVariables false
set_option linter.unusedSimpArgs false

/-- Taps over m samples. -/
structure TOk (m : Nat) (L : List (Int × Int)) : Prop where
  one : 1 ≤ L.length
  few : L.length ≤ 64
  pl : ∀ e ∈ L, 0 ≤ e.1 ∧ e.1 < (m : Int)
  wt : ∀ e ∈ L, -268435456 ≤ e.2 ∧ e.2 ≤ 268435456
set_option maxHeartbeats 2000000 in
set_option maxRecDepth 100000 in
theorem line_tapsE (b g i N n n2 : Nat) (g1 g2 : Nat) (w : World) (hb : w.cell? ⟨b, 0, none⟩ = some (.slice (some ⟨g, 0, none⟩) N N)) (h1 : w.cell? ⟨g, i * 2, none⟩ = some (.slice (some ⟨g1, 0, none⟩) n n)) (h2 : w.cell? ⟨g, i * 2 + 1, none⟩ = some (.slice (some ⟨g2, 0, none⟩) n2 n2)) (hil : i < N) :
    Calls Try.prog 30 #[.int .i64 (i : Int), .pointer (some ⟨b, 0, none⟩)] w fun e w' => e = .returned (.agg #[.slice (some ⟨g1, 0, none⟩) n n, .slice (some ⟨g2, 0, none⟩) n2 n2]) ∧ Q w w' := by
  have hilz : (i : Int) < (N : Int) := by omega
  obtain ⟨w1, hw1⟩ : ∃ w1, w.alloc (.cells #[.slice none 0 0, .slice none 0 0] 64) = w1 := ⟨_, rfl⟩
  have q1 : Q w w1 := by rw [← hw1]; exact (Q.refl w).cells _ _
  have k0 : w1.cell? ⟨w.heap.size, 0, none⟩ = some (.slice none 0 0) := by rw [← hw1]; simp [go_sem]
  have k1 : w1.cell? ⟨w.heap.size, 1, none⟩ = some (.slice none 0 0) := by rw [← hw1]; simp [go_sem]
  have kf : ∀ j, w1.frozen? ⟨w.heap.size, j, none⟩ = false := fun j => by rw [← hw1]; simp [go_sem]
  have kf0 := kf 0
  have kf1 := kf 1
  have hb1 := q1.cell hb
  have h11 := q1.cell h1
  have h21 := q1.cell h2
  have v0 : ((w1.setCell ⟨w.heap.size, 0, none⟩ (.slice (some ⟨g1, 0, none⟩) n n)).setCell ⟨w.heap.size, 1, none⟩ (.slice (some ⟨g2, 0, none⟩) n2 n2)).cell? ⟨w.heap.size, 0, none⟩ = some (.slice (some ⟨g1, 0, none⟩) n n) := (World.cell?_setCell_other _ _ _ _ (fun e => by injection e with _ e; cases e)).trans (World.cell?_setCell_same _ _ _ k0)
  have v1 : ((w1.setCell ⟨w.heap.size, 0, none⟩ (.slice (some ⟨g1, 0, none⟩) n n)).setCell ⟨w.heap.size, 1, none⟩ (.slice (some ⟨g2, 0, none⟩) n2 n2)).cell? ⟨w.heap.size, 1, none⟩ = some (.slice (some ⟨g2, 0, none⟩) n2 n2) := World.cell?_setCell_same _ _ _ ((World.cell?_setCell_other _ _ _ _ (fun e => by injection e with _ e; cases e)).trans k1)
  have HQ : Hid (Q w ((w1.setCell ⟨w.heap.size, 0, none⟩ (.slice (some ⟨g1, 0, none⟩) n n)).setCell ⟨w.heap.size, 1, none⟩ (.slice (some ⟨g2, 0, none⟩) n2 n2))) := (q1.set (Nat.le_refl _) _).set (Nat.le_refl _) _
  clear kf q1 hb h1 h2
  go_enter Try.func30, Try.ntmps30
  go_wp2_with fail
  generalize (w1.setCell ⟨w.heap.size, 0, none⟩ (.slice (some ⟨g1, 0, none⟩) n n)).setCell ⟨w.heap.size, 1, none⟩ (.slice (some ⟨g2, 0, none⟩) n2 n2) = w9 at HQ v0 v1 ⊢
  exact bodyPost_ret (v := .agg #[.slice (some ⟨g1, 0, none⟩) n n, .slice (some ⟨g2, 0, none⟩) n2 n2]) (by simp [results, Try.results30, go_sem, v0, v1]) rfl ⟨rfl, HQ.out⟩
theorem line_taps (Ls : List (List (Int × Int))) (b g i : Nat) (L : List (Int × Int)) (w : World) (hb : w.cell? ⟨b, 0, none⟩ = some (.slice (some ⟨g, 0, none⟩) Ls.length Ls.length)) (hr : RowsV 0 w g Ls) (hi : Ls[i]? = some L) :
    Calls Try.prog 30 #[.int .i64 (i : Int), .pointer (some ⟨b, 0, none⟩)] w fun e w' => ∃ v, e = .returned v ∧ BlV w' v L ∧ Q w w' := by
  obtain ⟨g1, g2, h1, h2, h3, h4, _⟩ := hr i L hi
  have hil : i < Ls.length := (List.getElem?_eq_some_iff.1 hi).1
  refine (line_tapsE b g i Ls.length L.length L.length g1 g2 w hb h1 h2 hil).mono ?_
  rintro e w' ⟨rfl, q⟩
  have a := h3.isl L.length
  have b := h4.isl L.length
  rw [List.length_map] at a b
  exact ⟨_, rfl, ⟨_, _, rfl, a.next q, b.next q⟩, q⟩
set_option maxHeartbeats 4000000 in
set_option maxRecDepth 100000 in
theorem line_of (v vl : Value) (Ls : List (List (Int × Int))) (S : List Nat) (w : World) (hv : LnX w v Ls) (hl : USl w vl S) (hn : Ls.length ≤ 100000) (hm : S.length ≤ 35184372087808) (hb : ∀ i, S.getD i 0 < 4294967296) (hL : ∀ L ∈ Ls, TOk S.length L) :
    Calls Try.prog 24 #[v, vl] w fun e w' => ∃ b, e = .returned (.slice (some ⟨b, 0, none⟩) Ls.length Ls.length) ∧ Own w w' b (Ls.map fun L => smpV L S) := by
  obtain ⟨b, g, ⟨rfl, hbx, hr⟩⟩ := hv
  have HT : Hid (∀ (i : Nat) (L : List (Int × Int)) (W : World), Q w W → Ls[i]? = some L → Calls Try.prog 30 #[.int .i64 (i : Int), .pointer (some ⟨b, 0, none⟩)] W fun e w' => ∃ v, e = .returned v ∧ BlV w' v L ∧ Q W w') := fun i L W q hi => line_taps Ls b g i L W (q.cell hbx) (hr.next q) hi
  have HB : Hid (∀ (v : Value) (L : List (Int × Int)) (W : World), Q w W → BlV W v L → L ∈ Ls → Calls Try.prog 27 #[v, vl] W fun e w' => e = .returned (.int .u32 (smpV L S : Nat)) ∧ Q W w') := fun v L W q hv hm' => blend_of v vl L S W hv (hl.next q) (hL L hm').few hm hb (hL L hm').pl (hL L hm').wt
  obtain ⟨N, hN⟩ : ∃ N, Ls.length = N := ⟨_, rfl⟩
  have HL : Hid (Ls.length = N) := hN
  rw [hN] at hn ⊢
  obtain ⟨M, hmk, hF⟩ := make_u32 N (by omega)
  obtain ⟨w1, hw1⟩ : ∃ w1, w.alloc (.cells #[.int .i64 (N : Int), .func (.func 30) #[] #[.pointer (some ⟨b, 0, none⟩)]] 55) = w1 := ⟨_, rfl⟩
  have q1 : Q w w1 := by rw [← hw1]; exact (Q.refl w).cells _ _
  have HQ1 : Hid (Q w w1) := q1
  have k0 : w1.cell? ⟨w.heap.size, 0, none⟩ = some (.int .i64 (N : Int)) := by rw [← hw1]; simp [go_sem]
  have k1 : w1.cell? ⟨w.heap.size, 1, none⟩ = some (.func (.func 30) #[] #[.pointer (some ⟨b, 0, none⟩)]) := by rw [← hw1]; simp [go_sem]
  have HK1 : Hid _ := k1
  have HF0 : Hid (Fill w1 (w1.alloc (.cells M 31)) w1.heap.size N (fun i => smpV (Ls.getD i []) S) 0) := by
    have := hF w1
    exact ⟨this.q, this.new, fun i hi => by omega, this.room, this.free⟩
  have k0' : (w1.alloc (.cells M 31)).cell? ⟨w.heap.size, 0, none⟩ = some (.int .i64 (N : Int)) := ((Q.refl w1).cells _ _).cell k0
  clear hbx hr hl hm hb hL hN q1
  go_enter Try.func24, Try.ntmps24
  go_wp2_with fail
  generalize w1.alloc (.cells M 31) = w2 at HF0 ⊢
  go_loopg [6, 12] N (fun gh s6 s12 wr => ∃ k : Nat, s12 = .int .i64 (k : Int) ∧ k ≤ N ∧ gh = N - k ∧ Hid (Fill w1 wr w1.heap.size N (fun i => smpV (Ls.getD i []) S) k))
  case atStart => exact ⟨0, rfl, Nat.zero_le _, rfl, HF0⟩
  case round =>
    clear HF0
    obtain ⟨k, rfl, hk, rfl, HFl⟩ := hrel
    by_cases hlt : k < N
    · have hltz : (k : Int) < (N : Int) := by omega
      obtain ⟨L, hLk⟩ : ∃ L, Ls[k]? = some L := ⟨_, List.getElem?_eq_getElem (by rw [HL.out]; exact hlt)⟩
      have C1 := HT.out k L wr (HQ1.out.trans HFl.out.q) hLk
      have kk := HFl.out.q.cell HK1.out
      have HLk : Hid (Ls[k]? = some L) := hLk
      clear hLk
      go_wp2_with fail
      refine C1.mono ?_
      rintro e w5 ⟨v5, rfl, hv5, q5⟩
      have C2 := HB.out v5 L w5 ((HQ1.out.trans HFl.out.q).trans q5) hv5 (List.mem_of_getElem? HLk.out)
      obtain ⟨x, hx⟩ : ∃ x, smpV L S = x := ⟨_, rfl⟩
      rw [hx] at C2
      have HF5 : Hid (Fill w1 w5 w1.heap.size N (fun i => smpV (Ls.getD i []) S) k ∧ x = smpV (Ls.getD k []) S) := ⟨HFl.out.next q5, by rw [List.getD_eq_getElem?_getD, HLk.out]; exact hx.symm⟩
      clear C1 hv5 q5 HFl hx kk
      go_wp2_with fail
      refine C2.mono ?_
      rintro e w6 ⟨rfl, q6⟩
      have HF6 := HF5.out.1.next q6
      obtain ⟨u, cu⟩ := HF6.room k hlt
      have fu := HF6.free k
      have HF7 : Hid _ := HF6.step hlt (v := x) HF5.out.2
      clear C2 HF6 q6 HF5
      go_wp2_with fail
      generalize w6.setCell ⟨w1.heap.size, k, none⟩ (.int .u32 (x : Nat)) = w9 at HF7 ⊢
      go_roundg (N - (k + 1))
      case measure => go_light; omega
      case rel => go_light; exact ⟨k + 1, by simp, by omega, rfl, HF7⟩
    · have hge : ¬ (k : Int) < (N : Int) := by omega
      obtain rfl : k = N := by omega
      have HO : Hid (Own w wr w1.heap.size (Ls.map fun L => smpV L S)) := by
        have := HFl.out.own (S := Ls.map fun L => smpV L S) (by rw [List.length_map, HL.out]) (fun i hi => by
          rw [List.getD_eq_getElem?_getD, List.getElem?_map, List.getD_eq_getElem?_getD, List.getElem?_eq_getElem (by rw [HL.out]; exact hi)]; rfl)
        exact ⟨HQ1.out.trans this.q, Nat.le_trans HQ1.out.1.size this.new, this.cells, this.free⟩
      clear HFl
      go_wp2_with fail
      go_ret
      exact ⟨_, rfl, HO.out⟩
end Go.Proofs.Ytcolhgngiflkhaa
/- Taps are not great. Plain. -/
namespace Go.Proofs.Ytcolhgngiflkhaa
open Go.RowKit
set_option linter.unusedVariables false
set_option linter.unusedSimpArgs false

theorem low_cubic {F T i : Nat} (h : Sz F T i) : ((max F T : Nat) : Int) * ((max F T : Nat) : Int) * ((max F T : Nat) : Int) ≤ sndSum (wlsV 3 F T i) := by
  rw [wls_sum]
  obtain ⟨w1, w2, w3, w4⟩ := win_eq (kind := 3) h
  have hm0 : 0 < ((max F T : Nat) : Int) := by have := h.f1; omega
  have hmT : (T : Int) ≤ ((max F T : Nat) : Int) := by omega
  have hst : 0 < 2 * (T : Int) := by have := h.t1; omega
  obtain ⟨st, hs⟩ : ∃ st, 2 * (T : Int) = st := ⟨_, rfl⟩
  have hww : winV 3 F T i = (lstV 3 F T i - fstV 3 F T i + 1).toNat := rfl
  have hre : rea 3 ((max F T : Nat) : Int) = 4 * ((max F T : Nat) : Int) := rfl
  have hwf : ∀ k, wfV 3 F T i k = cubV (absI (st * k - midV F T i)) (2 * ((max F T : Nat) : Int)) := fun k => by rw [← hs]; rfl
  rw [hre] at w1 w2 w3 w4
  rw [hs] at w1 w2 w3 w4 hst
  generalize ((max F T : Nat) : Int) = m at *
  generalize midV F T i = mid at *
  generalize fstV 3 F T i = fs at *
  generalize lstV 3 F T i = ls at *
  generalize winV 3 F T i = N at *
  have hst2 : st ≤ 2 * m := by omega
  -- how many steps fit into 2 m
  obtain ⟨q, hq1, hq2, hq0⟩ : ∃ q, st * q ≤ 2 * m ∧ 2 * m < st * (q + 1) ∧ 1 ≤ q := by
    have a1 := Int.mul_ediv_add_emod (2 * m) st
    have a2 := Int.emod_nonneg (2 * m) (by omega : st ≠ 0)
    have a3 := Int.emod_lt_of_pos (2 * m) hst
    refine ⟨2 * m / st, by omega, by rw [Int.mul_add]; omega, ?_⟩
    exact (Int.le_ediv_iff_mul_le hst).2 (by omega)
  have le_of : ∀ a b : Int, st * a < st * b + st → a ≤ b := fun a b hh => by
    rcases Int.lt_or_le b a with c | c
    · have h2 : st * (b + 1) ≤ st * a := Int.mul_le_mul_of_nonneg_left (by omega) (by omega)
      rw [Int.mul_add] at h2
      omega
    · exact c
  have pa := kx_prop (st := st) (mid := mid) (x := -(2 * m) + 1) hst
  have pc := kx_prop (st := st) (mid := mid) (x := -m) hst
  have pd := kx_prop (st := st) (mid := mid) (x := m) hst
  have pb := kx_prop (st := st) (mid := mid) (x := 2 * m) hst
  have ga : ∀ k, kx st mid (-(2 * m) + 1) ≤ k → mid + (-(2 * m) + 1) ≤ st * k := fun k hk => kx_ge hst hk
  have gc : ∀ k, kx st mid (-m) ≤ k → mid + -m ≤ st * k := fun k hk => kx_ge hst hk
  have gd : ∀ k, k < kx st mid m → st * k < mid + m := fun k hk => kx_lt hst hk
  have gb : ∀ k, k < kx st mid (2 * m) → st * k < mid + 2 * m := fun k hk => kx_lt hst hk
  obtain ⟨a, ha⟩ : ∃ a, kx st mid (-(2 * m) + 1) = a := ⟨_, rfl⟩
  obtain ⟨c, hc⟩ : ∃ c, kx st mid (-m) = c := ⟨_, rfl⟩
  obtain ⟨e, he⟩ : ∃ e, kx st mid m = e := ⟨_, rfl⟩
  obtain ⟨b, hb⟩ : ∃ b, kx st mid (2 * m) = b := ⟨_, rfl⟩
  rw [ha] at pa ga
  rw [hc] at pc gc
  rw [he] at pd gd
  rw [hb] at pb gb
  have o1 : fs + 1 ≤ a := by
    have := le_of (fs + 1) a (by rw [Int.mul_add]; omega)
    exact this
  have o2 : a ≤ c := le_of a c (by omega)
  have o3 : c ≤ e := le_of c e (by omega)
  have o4 : e ≤ b := le_of e b (by omega)
  have o5 : b ≤ ls + 1 := le_of b (ls + 1) (by rw [Int.mul_add]; omega)
  -- how many there are
  have n1 : a - fs - 1 ≤ q + 1 := le_of _ _ (by rw [Int.mul_sub, Int.mul_sub]; simp only [Int.mul_add, Int.mul_one] at hq2 ⊢; omega)
  have n2 : q ≤ e - c := le_of _ _ (by rw [Int.mul_sub]; omega)
  have n3 : ls - b ≤ q := le_of _ _ (by rw [Int.mul_sub]; simp only [Int.mul_add, Int.mul_one] at hq2; omega)
  have hm3 : 0 < m * m * m := Int.mul_pos (Int.mul_pos hm0 hm0) hm0
  have abs0 : ∀ d, 0 ≤ absI d := fun d => by unfold absI; omega
  have key := six (f := fun j => 27 * wfV 3 F T i (fs + j)) (A := (a - fs).toNat) (C1 := (c - fs).toNat) (C2 := (e - fs).toNat) (B := (b - fs).toNat) (N := N) (L := -(32 * (m * m * m))) (H := 243 * (m * m * m)) (by omega) (by omega) (by omega) (by omega) (by omega)
    (by
      show 0 ≤ 27 * wfV 3 F T i (fs + 0)
      rw [hwf, Int.add_zero]
      have hout : 2 * (2 * m) ≤ absI (st * fs - mid) := by unfold absI; omega
      unfold cubV
      rw [if_neg (by omega), if_neg (by omega)]
      decide)
    (fun j _ _ => by rw [hwf]; exact cub_low (abs0 _) hm0)
    (fun j j1 j2 => by
      rw [hwf]
      have g1 := ga (fs + j) (by omega)
      have g2 := gb (fs + j) (by omega)
      have := (cub_near (abs0 _) (show absI (st * (fs + j) - mid) < 2 * m by unfold absI; omega)).1
      omega)
    (fun j j1 j2 => by
      rw [hwf]
      have g1 := gc (fs + j) (by omega)
      have g2 := gd (fs + j) (by omega)
      have := cub_mid (abs0 _) (show absI (st * (fs + j) - mid) ≤ m by unfold absI; omega) hm0
      omega)
    (fun j j1 j2 => by
      rw [hwf]
      have g1 := ga (fs + j) (by omega)
      have g2 := gb (fs + j) (by omega)
      have := (cub_near (abs0 _) (show absI (st * (fs + j) - mid) < 2 * m by unfold absI; omega)).1
      omega)
    (fun j _ _ => by rw [hwf]; exact cub_low (abs0 _) hm0)
  rw [sumF_mul] at key
  generalize m * m * m = M at *
  have b1 : (((a - fs).toNat - 1 : Nat) : Int) * (32 * M) ≤ (q + 1) * (32 * M) := Int.mul_le_mul_of_nonneg_right (by omega) (by omega)
  have b2 : q * (243 * M) ≤ (((e - fs).toNat - (c - fs).toNat : Nat) : Int) * (243 * M) := Int.mul_le_mul_of_nonneg_right (by omega) (by omega)
  have b3 : ((N - (b - fs).toNat : Nat) : Int) * (32 * M) ≤ (q + 1) * (32 * M) := Int.mul_le_mul_of_nonneg_right (by omega) (by omega)
  have b4 : 1 * M ≤ q * M := Int.mul_le_mul_of_nonneg_right hq0 (by omega)
  simp only [Int.mul_neg] at key
  have e1 : q * (243 * M) = 243 * (q * M) := by grind
  have e2 : (q + 1) * (32 * M) = 32 * (q * M) + 32 * M := by grind
  rw [e1] at b2
  rw [e2] at b1 b3
  omega

theorem flo_few {z : Nat → Int} {S : Int} {i : Nat} (hS : 0 < S) (h1 : -(992 * S) ≤ z i) (h2 : z i ≤ 992 * S) : -65011712 ≤ flo z S i ∧ flo z S i ≤ 65011712 := by
  unfold flo
  refine ⟨Int.le_ediv_of_mul_le hS (by omega), ?_⟩
  have := Int.ediv_le_ediv hS (show 65536 * z i ≤ 65011712 * S by omega)
  rw [Int.mul_ediv_cancel _ (by omega)] at this
  exact this
theorem mem_sum {L : List (Int × Int)} (hp : ∀ e ∈ L, 0 < e.2) : ∀ e ∈ L, e.2 ≤ sndSum L := by
  unfold sndSum
  induction L with
  | nil => intro e he; cases he
  | cons a L ih =>
    intro e he
    have h0 : 0 ≤ (L.map Prod.snd).sum := by
      clear ih he
      induction L with
      | nil => simp
      | cons b L ih2 =>
        have := ih2 (fun e he => hp e (by rcases List.mem_cons.1 he with h | h <;> simp [h]))
        have := hp b (by simp)
        simp only [List.map_cons, List.sum_cons]
        omega
    rw [List.map_cons, List.sum_cons]
    rcases List.mem_cons.1 he with rfl | he
    · omega
    · have := ih (fun e he => hp e (by simp [he])) e he
      have := hp a (by simp)
      omega
theorem cub_rel {c m : Int} (hc : 0 ≤ c) (hm : 0 < m) : -(16 * (m * m * m)) ≤ cubV c (2 * m) ∧ cubV c (2 * m) ≤ 16 * (m * m * m) := by
  have hM : 0 < m * m * m := Int.mul_pos (Int.mul_pos hm hm) hm
  have e : 2 * m * (2 * m) * (2 * m) = 8 * (m * m * m) := by grind
  by_cases h1 : c < 2 * m
  · have := cub_near hc h1
    rw [e] at this
    omega
  · by_cases h2 : c < 2 * (2 * m)
    · have := cub_far (by omega : 0 ≤ 2 * m) (by omega) h2
      rw [e] at this
      omega
    · unfold cubV; rw [if_neg h1, if_neg h2]; omega
theorem wls_few {kind : Int} {F T i : Nat} (hk : kind = 1 ∨ kind = 2 ∨ kind = 3) (h : Sz F T i) : ∀ e ∈ wlsV kind F T i, -(992 * sndSum (wlsV kind F T i)) ≤ e.2 ∧ e.2 ≤ 992 * sndSum (wlsV kind F T i) := by
  intro e he
  have hS := wls_pos hk h
  have hm0 : 0 < ((max F T : Nat) : Int) := by have := h.f1; omega
  by_cases h3 : kind = 3
  · subst h3
    have hl := low_cubic h
    have hw := (win_facts (kind := 3) h).2.1
    have hn : winV 3 F T i ≤ 62 := by unfold winV; omega
    have hM : 0 < ((max F T : Nat) : Int) * ((max F T : Nat) : Int) * ((max F T : Nat) : Int) := Int.mul_pos (Int.mul_pos hm0 hm0) hm0
    have := wrun_bound (f := wfV 3 F T i) (pl := plV F) (a := fstV 3 F T i) (B := 16 * (((max F T : Nat) : Int) * ((max F T : Nat) : Int) * ((max F T : Nat) : Int))) (by omega) (fun k => cub_rel (by unfold absI; omega) hm0) (winV 3 F T i) e he
    generalize ((max F T : Nat) : Int) * ((max F T : Nat) : Int) * ((max F T : Nat) : Int) = M at *
    have h62 : (winV 3 F T i : Int) * (16 * M) ≤ 62 * (16 * M) := Int.mul_le_mul_of_nonneg_right (by omega) (by omega)
    omega
  · have hp : ∀ e ∈ wlsV kind F T i, 0 < e.2 := wrun_pos (fun k => by
      show 0 ≤ wgt kind _ _
      rcases hk with rfl | rfl | rfl
      · show 0 ≤ if _ then (1 : Int) else 0; split <;> omega
      · show 0 ≤ max (2 * ((max F T : Nat) : Int) - absI _) 0; omega
      · exact absurd rfl h3) _
    have h1 := hp e he
    have h2 := mem_sum hp e he
    omega
theorem tpA_tok {kind F T i : Int} (h : tapE kind F T i = 0) : TOk F.toNat (tpA kind F T i) := by
  obtain ⟨hk, hz, e1, e2, e3⟩ := tapE_ok h
  have ok := taps_ok hk hz
  have hf := wls_few hk hz
  have hS := wls_pos hk hz
  have etp : tpA kind F T i = tapsL (wlsV kind F.toNat T.toNat i.toNat) := by unfold tpA; rw [if_pos h]
  rw [etp]
  refine ⟨?_, ok.len, fun e he => ⟨(ok.at_ e he).1, (ok.at_ e he).2.1⟩, fun e he => ?_⟩
  · rcases Nat.eq_zero_or_pos (tapsL (wlsV kind F.toNat T.toNat i.toNat)).length with c | c
    · have := ok.sum
      rw [List.length_eq_zero_iff.1 c] at this
      cases this
    · exact c
  · obtain ⟨k, hkl, he2, _⟩ := tpK_mem he
    rw [he2]
    show -268435456 ≤ shrV _ _ k ∧ shrV _ _ k ≤ 268435456
    unfold shrV shrK
    have hz' : -(992 * sumF (zf ((wlsV kind F.toNat T.toNat i.toNat).map Prod.snd)) (wlsV kind F.toNat T.toNat i.toNat).length) ≤ zf ((wlsV kind F.toNat T.toNat i.toNat).map Prod.snd) k ∧ zf ((wlsV kind F.toNat T.toNat i.toNat).map Prod.snd) k ≤ 992 * sumF (zf ((wlsV kind F.toNat T.toNat i.toNat).map Prod.snd)) (wlsV kind F.toNat T.toNat i.toNat).length := by
      rw [← sndSum_zf]
      have hm : (wlsV kind F.toNat T.toNat i.toNat)[k] ∈ wlsV kind F.toNat T.toNat i.toNat := List.getElem_mem hkl
      have := hf _ hm
      unfold zf
      rw [List.getD_eq_getElem?_getD, List.getElem?_map, List.getElem?_eq_getElem hkl]
      exact this
    have := flo_few (z := zf ((wlsV kind F.toNat T.toNat i.toNat).map Prod.snd)) (i := k) (by rw [← sndSum_zf]; exact hS) hz'.1 hz'.2
    split <;> omega
end Go.Proofs.Ytcolhgngiflkhaa

/- blendOf: the taps of a place as two lists. -/
import Derived.Test.YtcolhgngiflkhaaGc792bb7b
import Derived.Test.YtcolhgngiflkhaaG38a8d75f
namespace Go.Proofs.Ytcolhgngiflkhaa
open Go.RowKit
set_option linter.unusedVariables false
set_option linter.unusedSimpArgs false

/-- What blendOf holds while it goes through the taps. -/
structure Bl3 (w1 wr : World) (L : List (Int × Int)) (n g gr gb i : Nat) : Prop where
  q : Q w1 wr
  r1 : IRow wr g (tabI n (partF (fun k => (L.getD k (0, 0)).1) i))
  r2 : IRow wr gr (tabI n (partF (fun k => (L.getD k (0, 0)).2) i))
  b0 : wr.cell? ⟨gb, 0, none⟩ = some (.slice (some ⟨g, 0, none⟩) n n)
  b1 : wr.cell? ⟨gb, 1, none⟩ = some (.slice (some ⟨gr, 0, none⟩) n n)
theorem tabI_map {L : List (Int × Int)} {n : Nat} (hn : n = L.length) (f : Int × Int → Int) (h0 : f (0, 0) = 0) : tabI n (partF (fun k => f (L.getD k (0, 0))) n) = L.map f := by
  apply List.ext_getElem?
  intro i
  by_cases hi : i < n
  · rw [tabI_at hi, List.getElem?_map]
    unfold partF
    rw [if_pos hi]
    show some (f (L.getD i (0, 0))) = _
    rw [List.getD_eq_getElem?_getD, List.getElem?_eq_getElem (by omega)]
    rfl
  · rw [List.getElem?_eq_none (by rw [tabI_len]; omega), List.getElem?_eq_none (by rw [List.length_map]; omega)]
/-- What is read while two numbers are stored. -/
structure Dcl (gb g gr n tb : Nat) (p q : Int) (y : World) : Prop where
  a : y.cell? ⟨gb, 0, none⟩ = some (.slice (some ⟨g, 0, none⟩) n n)
  b : y.cell? ⟨gb, 1, none⟩ = some (.slice (some ⟨gr, 0, none⟩) n n)
  c : y.cell? ⟨tb, 0, none⟩ = some (.int .i64 p)
  d : y.cell? ⟨tb, 1, none⟩ = some (.int .i64 q)
theorem Dcl.set {gb g gr n tb : Nat} {p q : Int} {y : World} (h : Dcl gb g gr n tb p q y) {ad : Addr} (h1 : ad.block ≠ gb) (h2 : ad.block ≠ tb) (v : Value) : Dcl gb g gr n tb p q (y.setCell ad v) :=
  ⟨(World.cell?_setCell_other _ _ _ _ (fun e => h1 (by rw [e]))).trans h.a, (World.cell?_setCell_other _ _ _ _ (fun e => h1 (by rw [e]))).trans h.b, (World.cell?_setCell_other _ _ _ _ (fun e => h2 (by rw [e]))).trans h.c, (World.cell?_setCell_other _ _ _ _ (fun e => h2 (by rw [e]))).trans h.d⟩
theorem Bl3.step {w1 wr wa : World} {L : List (Int × Int)} {n g gr gb i : Nat} {p x : Int} (h : Bl3 w1 wr L n g gr gb i) (qa : Q wr wa) (hi : i < n) (hg : L.getD i (0, 0) = (p, x)) (l1 : w1.heap.size ≤ g) (l2 : w1.heap.size ≤ gr) (n12 : g ≠ gr) (n13 : g ≠ gb) (n23 : gr ≠ gb) :
    Bl3 w1 ((wa.setCell ⟨g, i, none⟩ (.int .i64 p)).setCell ⟨gr, i, none⟩ (.int .i64 x)) L n g gr gb (i + 1) := by
  refine ⟨((h.q.trans qa).set l1 _).set l2 _, ?_, ?_, ?_, ?_⟩
  · have := ((h.r1.next qa).set (i := i) (by rw [tabI_len]; exact hi) p).other (p := ⟨gr, i, none⟩) (fun e => n12 e.symm) (.int .i64 x)
    rw [tabI_set (g := partF (fun k => (L.getD k (0, 0)).1) (i + 1)) (by rw [← partF_new]; simp only [hg]) (partF_old _ _)] at this
    exact this
  · have := ((h.r2.next qa).other (p := ⟨g, i, none⟩) n12 (.int .i64 p)).set (i := i) (by rw [tabI_len]; exact hi) x
    rw [tabI_set (g := partF (fun k => (L.getD k (0, 0)).2) (i + 1)) (by rw [← partF_new]; simp only [hg]) (partF_old _ _)] at this
    exact this
  · rw [World.cell?_setCell_other _ _ _ _ (fun e => n23 (by injection e)), World.cell?_setCell_other _ _ _ _ (fun e => n13 (by injection e))]; exact qa.cell h.b0
  · rw [World.cell?_setCell_other _ _ _ _ (fun e => n23 (by injection e)), World.cell?_setCell_other _ _ _ _ (fun e => n13 (by injection e))]; exact qa.cell h.b1
/-- Taps as two rows that the call has made. -/
def BlW (w x : World) (v : Value) (L : List (Int × Int)) : Prop := ∃ g1 g2, v = .agg #[.slice (some ⟨g1, 0, none⟩) L.length L.length, .slice (some ⟨g2, 0, none⟩) L.length L.length] ∧ w.heap.size ≤ g1 ∧ w.heap.size ≤ g2 ∧ IRow x g1 (L.map Prod.fst) ∧ IRow x g2 (L.map Prod.snd)
set_option maxHeartbeats 4000000 in
set_option maxRecDepth 100000 in
theorem blendOf_any (kind F T i : Int) (w : World) :
    Calls Try.prog 29 #[.int .i64 kind, .int .i64 F, .int .i64 T, .int .i64 i] w fun e w' => ∃ v, e = .returned v ∧ BlW w w' v (tpA kind F T i) ∧ Q w w' := by
  have HT : Hid (∀ W : World, Calls Try.prog 28 #[.int .i64 kind, .int .i64 F, .int .i64 T, .int .i64 i] W fun e w' => ∃ v n, e = .returned (.tuple #[v, .int .i64 (tapE kind F T i)]) ∧ Tl W w' v (tpA kind F T i) n) := fun W => taps_all kind F T i W
  have hlen := tpA_len kind F T i
  generalize tpA kind F T i = L at *
  generalize tapE kind F T i = E at *
  go_enter Try.func29, Try.ntmps29
  go_wp2_with fail
  refine (HT.out _).mono ?_
  rintro e w1 ⟨v, n, rfl, hTl⟩
  obtain ⟨ad, c, rfl⟩ := hTl.form
  have HQ1 : Hid (Q w w1) := ((Q.refl w).cells _ _).trans hTl.q
  have HR0 : Hid (w1.cell? ⟨w.heap.size, 0, none⟩ = some (.slice none 0 0) ∧ w1.cell? ⟨w.heap.size, 1, none⟩ = some (.slice none 0 0) ∧ (∀ j, w1.frozen? ⟨w.heap.size, j, none⟩ = false) ∧ w.heap.size < w1.heap.size) := by
    refine ⟨hTl.q.cell (by simp [go_sem]), hTl.q.cell (by simp [go_sem]), fun j => by rw [hTl.q.2]; simp [go_sem], ?_⟩
    have := hTl.q.1.size
    simp at this
    omega
  have HS : Hid (TSl w1 (.slice ad n c) L ∧ n = L.length) := ⟨hTl.tsl, hTl.len⟩
  have hn62 : n ≤ 62 := by rw [hTl.len]; exact hlen
  clear hTl HT
  go_wp2_with fail
  refine regionBo (B := w1.heap.size) (ad := ad) (n := n) (c := c) rfl rfl ⟨rfl, by omega, rfl⟩ ?_
  intro w2 g gr gb HB2
  rw [normBo]
  have HA : Hid (w1.heap.size ≤ g ∧ w1.heap.size ≤ gr ∧ w1.heap.size ≤ gb ∧ g ≠ gr ∧ g ≠ gb ∧ gr ≠ gb) := ⟨HB2.l1, HB2.l2, HB2.l3, HB2.n12, HB2.n13, HB2.n23⟩
  have HD : Hid (Bl3 w1 w2 L n g gr gb 0) := by
    have e : ∀ f : Nat → Int, List.replicate n (0 : Int) = tabI n (partF f 0) := fun f => by rw [tabI_zero]; exact tabI_congr (fun i _ => by simp [partF])
    exact ⟨HB2.q, by rw [← e]; exact HB2.r1, by rw [← e]; exact HB2.r2, HB2.b0, HB2.b1⟩
  clear HB2
  go_wp2_with fail
  go_loopg [12, 13, 31] n (fun gh s12 s13 s31 wr => ∃ j : Nat, s31 = .int .i64 (j : Int) ∧ j ≤ n ∧ gh = n - j ∧ Hid (Bl3 w1 wr L n g gr gb j))
  case atStart => exact ⟨0, rfl, Nat.zero_le _, rfl, HD⟩
  case round =>
    clear HD
    obtain ⟨j, rfl, hj, rfl, HD⟩ := hrel
    by_cases hlt : j < n
    · have hltz : (j : Int) < (n : Int) := by omega
      obtain ⟨e, he⟩ : ∃ e, L[j]? = some e := ⟨_, List.getElem?_eq_getElem (by rw [← HS.out.2]; exact hlt)⟩
      obtain ⟨p, x⟩ := e
      have hg : L.getD j (0, 0) = (p, x) := by rw [List.getD_eq_getElem?_getD, he]; rfl
      obtain ⟨g1, o1, d1, hs1, hI1⟩ := HS.out.1.some (by have := HS.out.2; omega)
      rw [← HS.out.2] at hs1
      injection hs1 with e1 e2 e3
      subst e1 e3
      obtain ⟨c1, c2⟩ := hI1 j _ he
      have c1 := HD.out.q.cell c1
      have c2 := HD.out.q.cell c2
      simp only at c1 c2
      have y0 := HD.out.b0
      have y1 := HD.out.b1
      have z1 := HD.out.r1.cell j _ (tabI_at hlt)
      have fz1 := HD.out.r1.free j
      have z2 := HD.out.r2.cell j _ (tabI_at hlt)
      have fz2 := HD.out.r2.free j
      obtain ⟨u1, hu1⟩ : ∃ u, partF (fun k => (L.getD k (0, 0)).1) j j = u := ⟨_, rfl⟩
      obtain ⟨u2, hu2⟩ : ∃ u, partF (fun k => (L.getD k (0, 0)).2) j j = u := ⟨_, rfl⟩
      rw [hu1] at z1
      rw [hu2] at z2
      have HG : Hid (L.getD j (0, 0) = (p, x)) := hg
      clear he hg hI1 e2 hu1 hu2
      obtain ⟨wa, hwa⟩ : ∃ wa, wr.alloc (.cells #[.int .i64 p, .int .i64 x] 82) = wa := ⟨_, rfl⟩
      go_wp2_with fail
      have qa : Q wr wa := by rw [← hwa]; exact (Q.refl wr).cells _ _
      have t0 : wa.cell? ⟨wr.heap.size, 0, none⟩ = some (.int .i64 p) := by rw [← hwa]; simp [go_sem]
      have t1 : wa.cell? ⟨wr.heap.size, 1, none⟩ = some (.int .i64 x) := by rw [← hwa]; simp [go_sem]
      have D0 : Dcl gb g gr n wr.heap.size p x wa.drew := ⟨qa.cell y0, qa.cell y1, t0, t1⟩
      have n0 := cw_some D0
      have f0 := fun m : CW (Dcl gb g gr n wr.heap.size p x) => m.h.a
      have f1 := fun m : CW (Dcl gb g gr n wr.heap.size p x) => m.h.b
      have f2 := fun m : CW (Dcl gb g gr n wr.heap.size p x) => m.h.c
      have f3 := fun m : CW (Dcl gb g gr n wr.heap.size p x) => m.h.d
      have hsz : wr.heap.size = wr.heap.size := rfl
      have gl : g < wr.heap.size := World.block_lt_of_cell? _ _ z1
      have grl : gr < wr.heap.size := World.block_lt_of_cell? _ _ z2
      have HS9 : Hid _ := HD.out.step (wa := wa.drew) (qa.trans (Q.refl wa).drew) hlt HG.out HA.out.1 HA.out.2.1 HA.out.2.2.2.1 HA.out.2.2.2.2.1 HA.out.2.2.2.2.2
      have z1a : wa.drew.cell? ⟨g, j, none⟩ = some (.int .i64 u1) := (qa.trans (Q.refl wa).drew).cell z1
      have z2a : wa.drew.cell? ⟨gr, j, none⟩ = some (.int .i64 u2) := (qa.trans (Q.refl wa).drew).cell z2
      have fz1a : wa.drew.frozen? ⟨g, j, none⟩ = false := by rw [(qa.trans (Q.refl wa).drew).2]; exact fz1
      have fz2a : wa.drew.frozen? ⟨gr, j, none⟩ = false := by rw [(qa.trans (Q.refl wa).drew).2]; exact fz2
      have D1 : Dcl gb g gr n wr.heap.size p x (wa.drew.setCell ⟨g, j, none⟩ (.int .i64 p)) := D0.set (ad := ⟨g, j, none⟩) HA.out.2.2.2.2.1 (by show g ≠ wr.heap.size; omega) _
      have z2b : (wa.drew.setCell ⟨g, j, none⟩ (.int .i64 p)).cell? ⟨gr, j, none⟩ = some (.int .i64 u2) := (World.cell?_setCell_other _ _ _ _ (fun e => HA.out.2.2.2.1 (by injection e))).trans z2a
      have fz2b : (wa.drew.setCell ⟨g, j, none⟩ (.int .i64 p)).frozen? ⟨gr, j, none⟩ = false := by rw [World.frozen?_setCell]; exact fz2a
      refine wp_region_mkP [0, 1, 2, 3, 4, 5, 6, 7, 8, 9] [[10, 11, 12, 13]] 4 _ (Dcl gb g gr n wr.heap.size p x) (by kernel_rfl) (by kernel_rfl) rfl (by kernel_rfl) D0 ?_
      simp only [List.filterMap_cons, List.filterMap_nil, List.getElem?_cons_zero, List.getElem?_cons_succ]
      repeat (first | go_big_quiet_step (fail) | quiet_step (fail))
      refine wpQuiet_nil ?_
      clear f0 f1 f2 f3 n0
      refine treeA_run 10 (by kernel_rfl) rfl (v := .pointer (some ⟨g, j, none⟩)) (x' := wa.drew) (run_ixk (Lw := n) (cap := n) (by kernel_rfl) (by kernel_rfl) hlt) (Or.inr D0) ?_
      refine treeA_skip 11 (by kernel_rfl) rfl (x' := wa.drew.setCell ⟨g, j, none⟩ (.int .i64 p)) (run_sti (i := j) (by kernel_rfl) (by kernel_rfl) z1a fz1a) (Or.inr D1) ?_
      refine treeA_run 12 (by kernel_rfl) rfl (v := .pointer (some ⟨gr, j, none⟩)) (x' := wa.drew.setCell ⟨g, j, none⟩ (.int .i64 p)) (run_ixk (Lw := n) (cap := n) (by kernel_rfl) (by kernel_rfl) hlt) (Or.inr D1) ?_
      refine treeA_skip 13 (by kernel_rfl) rfl (x' := (wa.drew.setCell ⟨g, j, none⟩ (.int .i64 p)).setCell ⟨gr, j, none⟩ (.int .i64 x)) (run_sti (i := j) (by kernel_rfl) (by kernel_rfl) z2b fz2b) (Or.inl (by kernel_rfl)) ?_
      refine tree_nil ?_
      clear D0 D1 z1 z2 z1a z2a fz1 fz2 fz1a fz2a z2b fz2b t0 t1 qa y0 y1 c1 c2 hwa HD
      generalize (wa.drew.setCell ⟨g, j, none⟩ (.int .i64 p)).setCell ⟨gr, j, none⟩ (.int .i64 x) = w9 at HS9 ⊢
      go_wp2_with fail
      go_roundg (n - (j + 1))
      case measure => go_light; omega
      case rel => go_light; exact ⟨j + 1, by simp, by omega, rfl, HS9⟩
    · have hge : ¬ (j : Int) < (n : Int) := by omega
      obtain rfl : j = n := by omega
      have y0 := HD.out.b0
      have y1 := HD.out.b1
      have o0 := HD.out.q.cell HR0.out.1
      have o1 := HD.out.q.cell HR0.out.2.1
      have fo : ∀ k, wr.frozen? ⟨w.heap.size, k, none⟩ = false := fun k => by rw [HD.out.q.2]; exact HR0.out.2.2.1 k
      have fo0 := fo 0
      have fo1 := fo 1
      have HW : Hid (BlW w ((wr.setCell ⟨w.heap.size, 0, none⟩ (.slice (some ⟨g, 0, none⟩) j j)).setCell ⟨w.heap.size, 1, none⟩ (.slice (some ⟨gr, 0, none⟩) j j)) (.agg #[.slice (some ⟨g, 0, none⟩) j j, .slice (some ⟨gr, 0, none⟩) j j]) L) := by
        have hgw : w.heap.size ≠ g := by have := HA.out.1; have := HR0.out.2.2.2; omega
        have hgrw : w.heap.size ≠ gr := by have := HA.out.2.1; have := HR0.out.2.2.2; omega
        have r1 := (HD.out.r1.other (p := ⟨w.heap.size, 0, none⟩) hgw (.slice (some ⟨g, 0, none⟩) j j)).other (p := ⟨w.heap.size, 1, none⟩) hgw (.slice (some ⟨gr, 0, none⟩) j j)
        have r2 := (HD.out.r2.other (p := ⟨w.heap.size, 0, none⟩) hgrw (.slice (some ⟨g, 0, none⟩) j j)).other (p := ⟨w.heap.size, 1, none⟩) hgrw (.slice (some ⟨gr, 0, none⟩) j j)
        rw [tabI_map HS.out.2 Prod.fst rfl] at r1
        rw [tabI_map HS.out.2 Prod.snd rfl] at r2
        refine ⟨g, gr, ?_, ?_, ?_, r1, r2⟩
        · rw [← HS.out.2]
        · have := HA.out.1; have := HR0.out.2.2.2; omega
        · have := HA.out.2.1; have := HR0.out.2.2.2; omega
      have HQ : Hid (Q w ((wr.setCell ⟨w.heap.size, 0, none⟩ (.slice (some ⟨g, 0, none⟩) j j)).setCell ⟨w.heap.size, 1, none⟩ (.slice (some ⟨gr, 0, none⟩) j j))) := ((HQ1.out.trans HD.out.q).set (Nat.le_refl _) _).set (Nat.le_refl _) _
      clear fo HD
      have v0 : ((wr.setCell ⟨w.heap.size, 0, none⟩ (.slice (some ⟨g, 0, none⟩) j j)).setCell ⟨w.heap.size, 1, none⟩ (.slice (some ⟨gr, 0, none⟩) j j)).cell? ⟨w.heap.size, 0, none⟩ = some (.slice (some ⟨g, 0, none⟩) j j) := (World.cell?_setCell_other _ _ _ _ (fun e => by injection e with _ e; cases e)).trans (World.cell?_setCell_same _ _ _ o0)
      have v1 : ((wr.setCell ⟨w.heap.size, 0, none⟩ (.slice (some ⟨g, 0, none⟩) j j)).setCell ⟨w.heap.size, 1, none⟩ (.slice (some ⟨gr, 0, none⟩) j j)).cell? ⟨w.heap.size, 1, none⟩ = some (.slice (some ⟨gr, 0, none⟩) j j) := World.cell?_setCell_same _ _ _ ((World.cell?_setCell_other _ _ _ _ (fun e => by injection e with _ e; cases e)).trans o1)
      go_wp2_with fail
      generalize (wr.setCell ⟨w.heap.size, 0, none⟩ (.slice (some ⟨g, 0, none⟩) j j)).setCell ⟨w.heap.size, 1, none⟩ (.slice (some ⟨gr, 0, none⟩) j j) = w9 at HW HQ v0 v1 ⊢
      exact bodyPost_ret (v := .agg #[.slice (some ⟨g, 0, none⟩) j j, .slice (some ⟨gr, 0, none⟩) j j]) (by simp [results, Try.results29, go_sem, v0, v1]) rfl ⟨_, rfl, HW.out, HQ.out⟩
end Go.Proofs.Ytcolhgngiflkhaa

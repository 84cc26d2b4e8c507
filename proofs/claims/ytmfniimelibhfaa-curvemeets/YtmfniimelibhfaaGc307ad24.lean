/- The second statement about curves: its walk. -/
import Derived.Test.YtmfniimelibhfaaGf77df34b
import Derived.Test.YtmfniimelibhfaaG8d451fe7
namespace Go.Proofs.Ytmfniimelibhfaa
open Go.RowKit
set_option linter.unusedVariables false
set_option linter.unusedSimpArgs false

/-- Proofs handed in, or none. -/
def px (ps : List (Nat × Nat × Bool)) (i : Nat) : Nat := (ps.getD i (0, 0, false)).1
def pb (ps : List (Nat × Nat × Bool)) (i : Nat) : Nat := (ps.getD i (0, 0, false)).2.1
def ph (ps : List (Nat × Nat × Bool)) (i : Nat) : Bool := (ps.getD i (0, 0, false)).2.2
def PSl (w : World) (v : Value) (ps : List (Nat × Nat × Bool)) : Prop := (∃ g o cap, v = .slice (some ⟨g, o, none⟩) ps.length cap ∧ ps.length ≤ cap ∧ ∀ i, i < ps.length → w.cell? ⟨g, o + i * 3, none⟩ = some (.int .u32 (px ps i : Nat)) ∧ w.cell? ⟨g, o + i * 3 + 1, none⟩ = some (.int .u32 (pb ps i : Nat)) ∧ w.cell? ⟨g, o + i * 3 + 2, none⟩ = some (.bool (ph ps i))) ∨ (∃ a c, v = .slice a 0 c ∧ ps = [])
theorem PSl.next {w w' : World} {v : Value} {l : List (Nat × Nat × Bool)} (h : PSl w v l) (q : Q w w') : PSl w' v l := by
  rcases h with ⟨g, o, cap, h1, h2, h3⟩ | h
  · exact Or.inl ⟨g, o, cap, h1, h2, fun i hi => ⟨q.cell (h3 i hi).1, q.cell (h3 i hi).2.1, q.cell (h3 i hi).2.2⟩⟩
  · exact Or.inr h
theorem PSl.form {w : World} {v : Value} {l : List (Nat × Nat × Bool)} (h : PSl w v l) : ∃ a cap, v = .slice a l.length cap := by
  rcases h with ⟨g, o, cap, h1, _⟩ | ⟨_, _, h1, h2⟩
  · exact ⟨_, _, h1⟩
  · subst h2; exact ⟨_, _, h1⟩

/-- A proof that proves nothing. -/
def Off (D : Nat → Nat → Bool → Bool) (x b : Nat) (h : Bool) : Prop := D x b h = false ∧ x < 4294967296 ∧ b < 4294967296
theorem chain_one (l : List (Nat × Nat)) : chainV [l] = atV l := rfl
theorem rleast_one (g : Nat) (l : List (Nat × Nat)) (hl : COk l) (y : Nat) (hy : y < 4294967296) (w : World) (hk : LLs w g 0 [l]) :
    Calls Try.prog 15 #[.slice (some ⟨g, 0, none⟩) 1 1, .int .u32 y] w fun e w' => e = .returned (.tuple #[prV (lpX (atV l) (kx l 0) (kx l (l.length - 1)) y) (lpB (atV l) (kx l 0) (kx l (l.length - 1)) y) (lpH (atV l) (kx l 0) (kx l (l.length - 1)) y), .int .i64 (lpE (atV l) (kx l (l.length - 1)) y)]) ∧ Q w w' := by
  have := rleast_any g 0 1 [l] (fun l' h => by simp at h; rw [h]; exact hl) (by simp) (by simp) y hy w hk (kx l 0) (kx l (l.length - 1)) rfl rfl
  rw [chain_one] at this
  exact this
set_option maxHeartbeats 4000000 in
set_option maxRecDepth 100000 in
theorem leasts_walk (sv yv pv : Value) (l : List (Nat × Nat)) (ys : List Nat) (ps : List (Nat × Nat × Bool)) (hlt : ∀ i, kx l i < 4294967296 ∧ ky l i < 4294967296) (hyt : ∀ i, ys.getD i 0 < 4294967296) (hpt : ∀ i, px ps i < 4294967296 ∧ pb ps i < 4294967296) (bl : l.length ≤ 9223372036854775807) (by' : ys.length ≤ 9223372036854775807) (bp : ps.length ≤ 9223372036854775807) (w : World) (hk : KSl w sv l) (hy : USl w yv ys) (hp : PSl w pv ps) :
    Calls Try.prog 4 #[sv, yv, pv] w fun e w' => e = .returned (.bool true) ∧ Q w w' := by
  obtain ⟨a, cap, ev⟩ := hk.form
  obtain ⟨a', cap', ey⟩ := hy.form
  obtain ⟨a'', cap'', ep⟩ := hp.form
  have HK : Hid (KSl w sv l) := hk
  have HY : Hid (USl w yv ys) := hy
  have HP : Hid (PSl w pv ps) := hp
  have HT : Hid (∀ i, kx l i < 4294967296 ∧ ky l i < 4294967296) := hlt
  have HU : Hid (∀ i, ys.getD i 0 < 4294967296) := hyt
  have HV : Hid (∀ i, px ps i < 4294967296 ∧ pb ps i < 4294967296) := hpt
  rw [ev, ey, ep]
  rw [ev] at HK
  rw [ey] at HY
  rw [ep] at HP
  clear hk hy hp ev ey ep hlt hyt hpt
  go_enter Try.func4, Try.ntmps4
  go_wp2_with fail
  refine (known_any _).mono ?_
  rintro e w1 ⟨rfl, q1⟩
  by_cases h1 : 200 < l.length
  · have g1 : (200 : Int) < (l.length : Int) := by omega
    go_wp2_with fail
    go_ret
    exact ⟨rfl, q1⟩
  · have g1 : ¬ (200 : Int) < (l.length : Int) := by omega
    have g2 : decide ((200 : Int) < (l.length : Int)) = false := decide_eq_false g1
    by_cases h2 : 100 < ys.length
    · have g3 : (100 : Int) < (ys.length : Int) := by omega
      go_wp2_with fail
      go_ret
      exact ⟨rfl, q1⟩
    · have g3 : ¬ (100 : Int) < (ys.length : Int) := by omega
      have g4 : decide ((100 : Int) < (ys.length : Int)) = false := decide_eq_false g3
      by_cases h3 : 100 < ps.length
      · have g5 : (100 : Int) < (ps.length : Int) := by omega
        go_wp2_with fail
        go_ret
        exact ⟨rfl, q1⟩
      · have g5 : ¬ (100 : Int) < (ps.length : Int) := by omega
        have g6 : decide ((100 : Int) < (ps.length : Int)) = false := decide_eq_false g5
        go_wp2_with fail
        refine (makes_any _ l (by omega) HT.out _ (HK.out.next q1)).mono ?_
        rintro e w2 ⟨q2, ⟨b, rfl, hc, hg⟩ | ⟨rfl, hg⟩⟩
        · have HC : Hid (CIs w2 b 0 l) := hc
          have HG : Hid (COk l) := good_ok hg HT.out
          have l2 : 2 ≤ l.length := hg.1
          have l64 : l.length ≤ 64 := hg.2.1
          replace q1 := q1.trans q2
          clear hc hg q2
          obtain ⟨gl, ol, hae⟩ : ∃ gl ol, a = some ⟨gl, ol, none⟩ := by
            rcases HK.out with ⟨g, o, c, e, _⟩ | ⟨_, _, _, e⟩
            · injection e with e; exact ⟨g, o, e⟩
            · exfalso; rw [e] at l2; exact absurd l2 (by decide)
          subst hae
          have HKl : Hid (KIs w gl ol l ∧ l.length ≤ cap) := by
            rcases HK.out with ⟨g, o, c, e, hcp, h⟩ | ⟨_, _, _, e⟩
            · injection e with e _ e3; injection e with e; injection e with e1 e2; subst e1; subst e2; subst e3; exact ⟨h, hcp⟩
            · exfalso; rw [e] at l2; exact absurd l2 (by decide)
          clear HK g1 g2 g3 g4 g5 g6
          go_wp2_with fail
          generalize hwo : w2.alloc _ = wo
          have HLL : Hid (LLs wo w2.heap.size 0 [l]) := by
            intro i hi
            have i0 : i = 0 := by simp at hi; exact hi
            subst i0
            refine ⟨gl, ol, cap, by rw [← hwo]; simp [go_sem], HKl.out.2, ?_⟩
            exact HKl.out.1.next (q1.trans (by rw [← hwo]; exact (Q.refl w2).cells _ _))
          have qo : Q w2 wo := by rw [← hwo]; exact (Q.refl w2).cells _ _
          have HCr : Hid (CIs wo b 0 l) := HC.out.next qo
          have HYr : Hid (USl wo (.slice a' ys.length cap') ys) := HY.out.next (q1.trans qo)
          have HPr : Hid (PSl wo (.slice a'' ps.length cap'') ps) := HP.out.next (q1.trans qo)
          replace q1 := q1.trans qo
          clear hwo qo HC HY HP
          obtain ⟨gk', hgk'⟩ : ∃ gk', w2.heap.size = gk' := ⟨_, rfl⟩
          rw [hgk'] at HLL ⊢
          clear hgk' HKl
          have l0 : COk l := HG.out
          have hFl : kx l 0 < 4294967296 := (l0.lt 0).1
          have hLl : kx l (l.length - 1) < 4294967296 := (l0.lt _).1
          have hkk := ends_keys l0
          have HS : Hid (∀ (y X B : Nat) (H : Bool), X < 4294967296 → B < 4294967296 → checkB (atV l) (kx l 0) (kx l (l.length - 1)) y X B H = (decide (lpE (atV l) (kx l (l.length - 1)) y = 0) && (decide (X = lpX (atV l) (kx l 0) (kx l (l.length - 1)) y) && (decide (B = lpB (atV l) (kx l 0) (kx l (l.length - 1)) y) && decide (H = lpH (atV l) (kx l 0) (kx l (l.length - 1)) y))))) := fun y X B H hX hB => check_same hFl hLl hkk (climbs_at l0) y X B H hX hB
          have HLT : Hid (∀ y, lpX (atV l) (kx l 0) (kx l (l.length - 1)) y < 4294967296 ∧ lpB (atV l) (kx l 0) (kx l (l.length - 1)) y < 4294967296) := fun y => lp_lt hLl hkk y
          have HR1 : Hid (∀ (y : Nat) (W : World), y < 4294967296 → Q wo W → Calls Try.prog 15 #[.slice (some ⟨gk', 0, none⟩) 1 1, .int .u32 (y : Int)] W fun e w' => e = .returned (.tuple #[prV (lpX (atV l) (kx l 0) (kx l (l.length - 1)) y) (lpB (atV l) (kx l 0) (kx l (l.length - 1)) y) (lpH (atV l) (kx l 0) (kx l (l.length - 1)) y), .int .i64 (lpE (atV l) (kx l (l.length - 1)) y)]) ∧ Q W w') := fun y W hy hW => rleast_one gk' l l0 y hy W (HLL.out.next hW)
          clear HLL l0 hFl hLl hkk
          go_loopg [11] ys.length (fun m s11 wr => ∃ k : Nat, s11 = .int .i64 k ∧ k + m = ys.length ∧ Q wo wr)
          case atStart => exact ⟨0, rfl, by omega, Q.refl _⟩
          case round =>
            obtain ⟨k, rfl, hm, hqx⟩ := hrel
            by_cases hkn : k < ys.length
            · obtain ⟨gx, ox, hae⟩ : ∃ gx ox, a' = some ⟨gx, ox, none⟩ := by
                rcases HYr.out with ⟨g, o, c, e, _⟩ | ⟨_, _, _, e⟩
                · injection e with e; exact ⟨g, o, e⟩
                · exfalso; rw [e] at hkn; exact Nat.not_lt_zero _ hkn
              subst hae
              have cx : wr.cell? ⟨gx, ox + k, none⟩ = some (.int .u32 (ys.getD k 0 : Nat)) := by
                rcases HYr.out with ⟨g, o, c, e, _, h⟩ | ⟨_, _, _, e⟩
                · injection e with e; injection e with e; injection e with e1 e2; subst e1; subst e2; exact hqx.cell (h k hkn)
                · exfalso; rw [e] at hkn; exact Nat.not_lt_zero _ hkn
              have hi0 : (0 : Int) ≤ (k : Int) := by omega
              have hi1 : (k : Int) < (ys.length : Int) := by omega
              have hyk := HU.out k
              obtain ⟨Y, hY⟩ : ∃ Y, ys.getD k 0 = Y := ⟨_, rfl⟩
              rw [hY] at cx hyk
              clear hY
              have R1 := HR1.out Y
              have R2 : ∀ W, Q wo W → Calls Try.prog 16 #[.pointer (some ⟨b, 0, none⟩), .int .u32 (Y : Int)] W fun e w' => e = .returned (.tuple #[prV (lpX (atV l) (kx l 0) (kx l (l.length - 1)) Y) (lpB (atV l) (kx l 0) (kx l (l.length - 1)) Y) (lpH (atV l) (kx l 0) (kx l (l.length - 1)) Y), .int .i64 (lpE (atV l) (kx l (l.length - 1)) Y)]) ∧ Q W w' := fun W hW => cleastm_any b 0 l HG.out Y W (HCr.out.next hW)
              have R3 : ∀ (X B : Nat) (H : Bool) (W : World), X < 4294967296 → B < 4294967296 → Q wo W → Calls Try.prog 17 #[.pointer (some ⟨b, 0, none⟩), .int .u32 (Y : Int), prV X B H] W fun e w' => e = .returned (.bool (checkB (atV l) (kx l 0) (kx l (l.length - 1)) Y X B H)) ∧ Q W w' := fun X B H W hX hB hW => ccheckm_any b 0 l HG.out Y X B H hX hB W (HCr.out.next hW)
              have S1 := HS.out Y
              obtain ⟨x1, x2⟩ := HLT.out Y
              have x3 : lpE (atV l) (kx l (l.length - 1)) Y = 0 ∨ lpE (atV l) (kx l (l.length - 1)) Y = 43 := by unfold lpE; split; exact Or.inl rfl; exact Or.inr rfl
              generalize lpX (atV l) (kx l 0) (kx l (l.length - 1)) Y = X at *
              generalize lpB (atV l) (kx l 0) (kx l (l.length - 1)) Y = B at *
              generalize lpH (atV l) (kx l 0) (kx l (l.length - 1)) Y = H at *
              generalize lpE (atV l) (kx l (l.length - 1)) Y = E at *
              generalize checkB (atV l) (kx l 0) (kx l (l.length - 1)) Y = D at *
              have HR1' : Hid (∀ W : World, Q wo W → Calls Try.prog 15 #[.slice (some ⟨gk', 0, none⟩) 1 1, .int .u32 (Y : Int)] W fun e w' => e = .returned (.tuple #[.agg #[.int .u32 X, .int .u32 B, .bool H], .int .i64 E]) ∧ Q W w') := fun W => R1 W hyk
              have HR2 : Hid (∀ W : World, Q wo W → Calls Try.prog 16 #[.pointer (some ⟨b, 0, none⟩), .int .u32 (Y : Int)] W fun e w' => e = .returned (.tuple #[.agg #[.int .u32 X, .int .u32 B, .bool H], .int .i64 E]) ∧ Q W w') := R2
              have HR3 : Hid (∀ (X B : Nat) (H : Bool) (W : World), X < 4294967296 → B < 4294967296 → Q wo W → Calls Try.prog 17 #[.pointer (some ⟨b, 0, none⟩), .int .u32 (Y : Int), .agg #[.int .u32 X, .int .u32 B, .bool H]] W fun e w' => e = .returned (.bool (D X B H)) ∧ Q W w') := R3
              have S2 : Hid (∀ (X_1 B_1 : Nat) (H_1 : Bool), X_1 < 4294967296 → B_1 < 4294967296 → D X_1 B_1 H_1 = (decide (E = 0) && (decide (X_1 = X) && (decide (B_1 = B) && decide (H_1 = H))))) := S1
              clear R1 R2 R3 S1
              go_wp2_with fail
              refine (HR1'.out _ hqx).mono ?_
              rintro e w3 ⟨rfl, q3⟩
              replace cx := q3.cell cx
              replace hqx := hqx.trans q3
              clear q3
              have cx' := fun c t => cell_1 cx c t
              go_wp2_with fail
              refine (HR2.out _ (hqx.cells _ _)).mono ?_
              rintro e w4 ⟨rfl, q4⟩
              have c0 : w4.cell? ⟨w3.heap.size, 0, none⟩ = some (.int .u32 X) := q4.cell (by simp [go_sem])
              have c1 : w4.cell? ⟨w3.heap.size, 1, none⟩ = some (.int .u32 B) := q4.cell (by simp [go_sem])
              have c2 : w4.cell? ⟨w3.heap.size, 2, none⟩ = some (.bool H) := q4.cell (by simp [go_sem])
              replace cx := q4.cell (cx' _ _)
              have sz : w3.heap.size < w4.heap.size := cell_in c0
              replace hqx := (hqx.cells _ _).trans q4
              clear q4 cx'
              obtain ⟨bw, hbw⟩ : ∃ bw, w3.heap.size = bw := ⟨_, rfl⟩
              rw [hbw] at c0 c1 c2 sz ⊢
              clear hbw
              have c0' := fun c t => cell_1 c0 c t
              have c1' := fun c t => cell_1 c1 c t
              have c2' := fun c t => cell_1 c2 c t
              have cx' := fun c t => cell_1 cx c t
              go_wp2_with fail
              generalize hw5 : w4.alloc _ = w5
              have d0 : w5.cell? ⟨w4.heap.size, 0, none⟩ = some (.int .u32 X) := by rw [← hw5]; simp [go_sem]
              have d1 : w5.cell? ⟨w4.heap.size, 1, none⟩ = some (.int .u32 B) := by rw [← hw5]; simp [go_sem]
              have d2 : w5.cell? ⟨w4.heap.size, 2, none⟩ = some (.bool H) := by rw [← hw5]; simp [go_sem]
              have e0 : w5.cell? ⟨bw, 0, none⟩ = some (.int .u32 X) := by rw [← hw5]; exact c0' _ _
              have e1 : w5.cell? ⟨bw, 1, none⟩ = some (.int .u32 B) := by rw [← hw5]; exact c1' _ _
              have e2 : w5.cell? ⟨bw, 2, none⟩ = some (.bool H) := by rw [← hw5]; exact c2' _ _
              replace cx : w5.cell? ⟨gx, ox + k, none⟩ = some (.int .u32 Y) := by rw [← hw5]; exact cx' _ _
              replace hqx : Q wo w5 := by rw [← hw5]; exact hqx.cells _ _
              obtain ⟨bq, hbq⟩ : ∃ bq, w4.heap.size = bq := ⟨_, rfl⟩
              rw [hbq] at d0 d1 d2 ⊢
              clear hw5 hbq c0 c1 c2 c0' c1' c2' cx' sz
              have n0 := qw_some w5
              have d0' := qw_cell d0
              have d1' := qw_cell d1
              have d2' := qw_cell d2
              have e0' := qw_cell e0
              have e1' := qw_cell e1
              have e2' := qw_cell e2
              have cx' := qw_cell cx
              have hb1 : ((X : Int) != (X : Int)) = false := by simp
              have hb2 : ((X : Int) == (X : Int)) = true := by simp
              have hb3 : ((B : Int) == (B : Int)) = true := by simp
              have hb4 : (H == H) = true := by simp
              obtain ⟨T, hT⟩ : ∃ T, decide (E = 0) = T := ⟨_, rfl⟩
              rw [hT] at S2
              have HW : Hid (∀ n : QW w5, Calls Try.prog 17 #[.pointer (some ⟨b, 0, none⟩), .int .u32 (Y : Int), .agg #[.int .u32 X, .int .u32 B, .bool H]] n.x fun e w' => e = .returned (.bool T) ∧ Q n.x w') := fun n => by
                have := HR3.out X B H n.x x1 x2 (hqx.trans n.q)
                rw [S2.out X B H x1 x2] at this
                simpa using this
              have x4 : (E = 0 ∧ T = true) ∨ (E = 43 ∧ T = false) := by
                rcases x3 with h | h
                · rw [h] at hT; exact Or.inl ⟨h, hT.symm⟩
                · rw [h] at hT; exact Or.inr ⟨h, hT.symm⟩
              clear x3 hT
              rcases x4 with ⟨rfl, rfl⟩ | ⟨rfl, rfl⟩
              all_goals
                refine wp_region_quiet_Q (by kernel_rfl) (by kernel_rfl) ?_
                repeat (first | go_big_quiet_step (first | (go_at_call 17; exact calls_qw (HW.out _))) | quiet_step (first | (go_at_call 17; exact calls_qw (HW.out _))))
                refine wpQuiet_nil ?_
                intro w6 hw'
                have hq6 := qw_out hw'
                clear hw' HW d0' d1' d2' e0' e1' e2' cx' n0 d0 d1 d2
                replace e0 := hq6.cell e0
                replace e1 := hq6.cell e1
                replace e2 := hq6.cell e2
                replace cx := hq6.cell cx
                replace hqx := hqx.trans hq6
                clear hq6
                go_wp2_with fail
                go_loopg [16] ps.length (fun m s16 wx => ∃ j : Nat, s16 = .int .i64 j ∧ j + m = ps.length ∧ Q w6 wx)
                case atStart => exact ⟨0, rfl, by omega, Q.refl _⟩
                case round =>
                  obtain ⟨j, rfl, hmj, hqj⟩ := hrel
                  by_cases hjn : j < ps.length
                  · obtain ⟨gp, op, hae⟩ : ∃ gp op, a'' = some ⟨gp, op, none⟩ := by
                      rcases HPr.out with ⟨g, o, c, e, _⟩ | ⟨_, _, _, e⟩
                      · injection e with e; exact ⟨g, o, e⟩
                      · exfalso; rw [e] at hjn; exact Nat.not_lt_zero _ hjn
                    subst hae
                    obtain ⟨p0, p1, p2⟩ : wr.cell? ⟨gp, op + j * 3, none⟩ = some (.int .u32 (px ps j : Nat)) ∧ wr.cell? ⟨gp, op + j * 3 + 1, none⟩ = some (.int .u32 (pb ps j : Nat)) ∧ wr.cell? ⟨gp, op + j * 3 + 2, none⟩ = some (.bool (ph ps j)) := by
                      rcases HPr.out with ⟨g, o, c, e, _, h⟩ | ⟨_, _, _, e⟩
                      · injection e with e; injection e with e; injection e with e1 e2; subst e1; subst e2
                        obtain ⟨h1, h2, h3⟩ := h j hjn
                        exact ⟨(hqx.trans hqj).cell h1, (hqx.trans hqj).cell h2, (hqx.trans hqj).cell h3⟩
                      · exfalso; rw [e] at hjn; exact Nat.not_lt_zero _ hjn
                    obtain ⟨t1, t2⟩ := HV.out j
                    generalize px ps j = PX at *
                    generalize pb ps j = PB at *
                    generalize ph ps j = PH at *
                    have hj0 : (0 : Int) ≤ (j : Int) := by omega
                    have hj1 : (j : Int) < (ps.length : Int) := by omega
                    have n0 := qw_some wr
                    have d0 := qw_cell (hqj.cell cx)
                    have d1 := qw_cell (hqj.cell e0)
                    have d2 := qw_cell (hqj.cell e1)
                    have d3 := qw_cell (hqj.cell e2)
                    have d4 := qw_cell p0
                    have d5 := qw_cell p1
                    have d6 := qw_cell p2
                    have DV := S2.out PX PB PH t1 t2
                    have k1 : ((PX : Int) == (X : Int)) = decide (PX = X) := by
                      by_cases h : PX = X
                      · rw [h, decide_eq_true rfl]; simp
                      · rw [decide_eq_false h]; simp; omega
                    have k2 : ((PB : Int) == (B : Int)) = decide (PB = B) := by
                      by_cases h : PB = B
                      · rw [h, decide_eq_true rfl]; simp
                      · rw [decide_eq_false h]; simp; omega
                    have k3 : (PH == H) = decide (PH = H) := by cases PH <;> cases H <;> rfl
                    obtain ⟨V, hV⟩ : ∃ V, D PX PB PH = V := ⟨_, rfl⟩
                    have HW : Hid (∀ n : QW wr, Calls Try.prog 17 #[.pointer (some ⟨b, 0, none⟩), .int .u32 (Y : Int), .agg #[.int .u32 PX, .int .u32 PB, .bool PH]] n.x fun e w' => e = .returned (.bool V) ∧ Q n.x w') := fun n => by
                      rw [← hV]
                      exact HR3.out PX PB PH n.x t1 t2 ((hqx.trans hqj).trans n.q)
                    rw [DV] at hV
                    clear DV
                    generalize decide (PX = X) = v1 at k1 hV
                    generalize decide (PB = B) = v2 at k2 hV
                    generalize decide (PH = H) = v3 at k3 hV
                    go_wp2_with fail
                    cases v1 <;> cases v2 <;> cases v3
                    all_goals
                      replace hV := hV.symm
                      simp only [Bool.and_true, Bool.and_false, Bool.true_and, Bool.false_and] at hV
                      subst hV
                      refine wp_region_quiet_Q (by kernel_rfl) (by kernel_rfl) ?_
                      repeat (first | go_big_quiet_step (first | (go_at_call 17; exact calls_qw (HW.out _))) | quiet_step (first | (go_at_call 17; exact calls_qw (HW.out _))))
                      refine wpQuiet_nil ?_
                      intro w7 hw'
                      have hq7 := qw_out hw'
                      clear hw' HW d0 d1 d2 d3 d4 d5 d6 n0 k1 k2 k3
                      go_wp2_with fail
                      go_roundg (ps.length - (j + 1))
                      case measure => go_light; omega
                      case rel => go_light; exact ⟨j + 1, by go_num, by omega, hqj.trans hq7⟩
                  · have f0 := hqj.cell e0
                    have f1 := hqj.cell e1
                    have f2 := hqj.cell e2
                    have fx := hqj.cell cx
                    have f0' := fun c t => cell_1 f0 c t
                    have f1' := fun c t => cell_1 f1 c t
                    have f2' := fun c t => cell_1 f2 c t
                    have f0'' := fun c t c' t' => cell_1 (f0' c t) c' t'
                    have f1'' := fun c t c' t' => cell_1 (f1' c t) c' t'
                    have f2'' := fun c t c' t' => cell_1 (f2' c t) c' t'
                    obtain ⟨X', hX'⟩ : ∃ X', X' = (X + 1) % 4294967296 := ⟨_, rfl⟩
                    obtain ⟨B', hB'⟩ : ∃ B', B' = (B + 1) % 4294967296 := ⟨_, rfl⟩
                    have m1 : IntKind.u32.wrap ((X : Int) + 1) = (X' : Int) := by rw [IntKind.wrap_u32]; omega
                    have m2 : IntKind.u32.wrap ((B : Int) + 1) = (B' : Int) := by rw [IntKind.wrap_u32]; omega
                    have y1 : X' < 4294967296 := by omega
                    have y2 : B' < 4294967296 := by omega
                    have y3 : X' ≠ X := by omega
                    have y4 : B' ≠ B := by omega
                    clear hX' hB'
                    go_wp2_with fail
                    generalize hw9 : World.alloc (World.alloc (wr.alloc _) _) _ = w9
                    have a0 : w9.cell? ⟨wr.heap.size, 0, none⟩ = some (.int .u32 X') := by rw [← hw9]; simp [go_sem]
                    have a1 : w9.cell? ⟨wr.heap.size, 1, none⟩ = some (.int .u32 B) := by rw [← hw9]; simp [go_sem]
                    have a2 : w9.cell? ⟨wr.heap.size, 2, none⟩ = some (.bool H) := by rw [← hw9]; simp [go_sem]
                    have b0 : w9.cell? ⟨wr.heap.size + 1, 0, none⟩ = some (.int .u32 X) := by rw [← hw9]; simp [go_sem]
                    have b1 : w9.cell? ⟨wr.heap.size + 1, 1, none⟩ = some (.int .u32 B') := by rw [← hw9]; simp [go_sem]
                    have b2 : w9.cell? ⟨wr.heap.size + 1, 2, none⟩ = some (.bool H) := by rw [← hw9]; simp [go_sem]
                    have c0 : w9.cell? ⟨wr.heap.size + 1 + 1, 0, none⟩ = some (.int .u32 X) := by rw [← hw9]; simp [go_sem]
                    have c1 : w9.cell? ⟨wr.heap.size + 1 + 1, 1, none⟩ = some (.int .u32 B) := by rw [← hw9]; simp [go_sem]
                    have c2 : w9.cell? ⟨wr.heap.size + 1 + 1, 2, none⟩ = some (.bool (!H)) := by rw [← hw9]; simp [go_sem]
                    have q9 : Q wr w9 := by rw [← hw9]; exact (((Q.refl wr).cells _ _).cells _ _).cells _ _
                    replace fx := q9.cell fx
                    have D1 := S2.out X' B H y1 x2
                    have D2 := S2.out X B' H x1 y2
                    have D3 := S2.out X B (!H) x1 x2
                    rw [decide_eq_false y3] at D1
                    rw [decide_eq_false y4] at D2
                    rw [decide_eq_false (show ¬ (!H) = H by cases H <;> decide)] at D3
                    simp only [Bool.and_true, Bool.and_false, Bool.true_and, Bool.false_and] at D1 D2 D3
                    generalize (!H) = G at *
                    have o1 : Off D X' B H := ⟨D1, y1, x2⟩
                    have o2 : Off D X B' H := ⟨D2, x1, y2⟩
                    have o3 : Off D X B G := ⟨D3, x1, x2⟩
                    have VV : Hid (∀ (x' b' : Nat) (h' : Bool), Off D x' b' h' → ∀ n : QW w9, Calls Try.prog 17 #[.pointer (some ⟨b, 0, none⟩), .int .u32 (Y : Int), .agg #[.int .u32 x', .int .u32 b', .bool h']] n.x fun e w' => e = .returned (.bool false) ∧ Q n.x w') := fun x' b' h' o n => by
                      rw [← o.1]
                      exact HR3.out x' b' h' n.x o.2.1 o.2.2 (((hqx.trans hqj).trans q9).trans n.q)
                    clear D1 D2 D3 hw9 f0 f1 f2 f0' f1' f2' f0'' f1'' f2'' m1 m2 hb1 hb2 hb3 hb4
                    have n0 := qw_some w9
                    have d0 := qw_cell fx
                    have d1 := qw_cell a0
                    have d2 := qw_cell a1
                    have d3 := qw_cell a2
                    have d4 := qw_cell b0
                    have d5 := qw_cell b1
                    have d6 := qw_cell b2
                    have d7 := qw_cell c0
                    have d8 := qw_cell c1
                    have d9 := qw_cell c2
                    refine wp_region_quiet_Q (by kernel_rfl) (by kernel_rfl) ?_
                    repeat (first | go_big_quiet_step (first | (go_at_call 17; exact calls_qw (VV.out _ _ _ (by assumption) _))) | quiet_step (first | (go_at_call 17; exact calls_qw (VV.out _ _ _ (by assumption) _))))
                    refine wpQuiet_nil ?_
                    intro w10 hw'
                    have hq10 := qw_out hw'
                    clear hw' VV d0 d1 d2 d3 d4 d5 d6 d7 d8 d9 n0
                    go_wp2_with fail
                    go_roundg (ys.length - (k + 1))
                    case measure => go_light; omega
                    case rel => go_light; exact ⟨k + 1, by go_num, by omega, ((hqx.trans hqj).trans q9).trans hq10⟩
            · go_wp2_with fail
              go_ret
              exact ⟨rfl, q1.trans hqx⟩
        · go_wp2_with fail
          go_ret
          exact ⟨rfl, q1.trans q2⟩
end Go.Proofs.Ytmfniimelibhfaa

/- The document's curves: where they come to something first. -/
import Derived.Test.YtmfniimelibhfaaGfb744f4b
namespace Go.Proofs.Ytmfniimelibhfaa
open Go.RowKit
set_option linter.unusedVariables false

theorem comes_iff {f : Nat → Nat} {x y : Nat} (h : nanN (f x) = false) : comesB f x y = (!nanN y && !lessB (f x) y) := by
  unfold comesB
  cases hy : nanN y
  · rw [lessB_num hy h, equalB_num hy h, lessB_num h hy]
    by_cases a : srung32 y < srung32 (f x)
    · rw [decide_eq_true a, decide_eq_false (show ¬ srung32 (f x) < srung32 y by omega)]; rfl
    · rw [decide_eq_false a]
      by_cases b : srung32 y = srung32 (f x)
      · rw [decide_eq_true b, decide_eq_false (show ¬ srung32 (f x) < srung32 y by omega)]; rfl
      · rw [decide_eq_false b, decide_eq_true (show srung32 (f x) < srung32 y by omega)]; rfl
  · rw [lessB_nan1 hy, equalB_nan1 hy]; rfl
theorem key_num {k : Nat} (h0 : 8388608 ≤ k) (h1 : k ≤ 4286578688) : nanN (fkeyN k) = false := by
  unfold nanN fkeyN
  by_cases g : 2147483648 ≤ k
  · rw [if_pos g]; exact decide_eq_false (by omega)
  · rw [if_neg g]; exact decide_eq_false (by omega)
theorem key_fin {a : Nat} (ha : a < 4294967296) (h : rung32 a < 2139095040) : 8388608 ≤ keyN a ∧ keyN a ≤ 4286578687 := by
  unfold rung32 at h
  unfold keyN
  split <;> omega
theorem place_num {F L i : Nat} (hF : F < 4294967296) (hL : L < 4294967296) (fF : rung32 F < 2139095040) (fL : rung32 L < 2139095040) (h : keyN F + i ≤ keyN L) : nanN (placeN F i) = false := by
  have h1 := key_fin hF fF
  have h2 := key_fin hL fL
  exact key_num (by omega) (by omega)

theorem cell_in {w : World} {b i : Nat} {v : Value} (h : w.cell? ⟨b, i, none⟩ = some v) : b < w.heap.size := by
  by_cases g : b < w.heap.size
  · exact g
  · exfalso
    have : w.heap[b]? = none := by simp; omega
    simp [World.cell?, this] at h
theorem res3 {W : World} {r : Nat} {x0 x1 x2 : Value} (r0 : W.cell? ⟨r, 0, none⟩ = some x0) (r1 : W.cell? ⟨r, 1, none⟩ = some x1) (r2 : W.cell? ⟨r, 2, none⟩ = some x2) (v0 v1 v2 : Value) (c : Array Value) (t : TypeId) :
    ((((W.setCell ⟨r, 0, none⟩ v0).setCell ⟨r, 1, none⟩ v1).setCell ⟨r, 2, none⟩ v2).alloc (.cells c t)).cell? ⟨r, 0, none⟩ = some v0 ∧ ((((W.setCell ⟨r, 0, none⟩ v0).setCell ⟨r, 1, none⟩ v1).setCell ⟨r, 2, none⟩ v2).alloc (.cells c t)).cell? ⟨r, 1, none⟩ = some v1 ∧ ((((W.setCell ⟨r, 0, none⟩ v0).setCell ⟨r, 1, none⟩ v1).setCell ⟨r, 2, none⟩ v2).alloc (.cells c t)).cell? ⟨r, 2, none⟩ = some v2 := by
  refine ⟨cell_1 ?_ _ _, cell_1 ?_ _ _, cell_1 ?_ _ _⟩ <;> simp [go_sem, r0, r1, r2]
theorem place_ne {F a : Nat} (hF : F < 4294967296) (h : keyN F + a < 4294967296) (h0 : a ≠ 0) : placeN F a ≠ F := fun e => by
  have := key_fkey h
  unfold placeN at e
  rw [e] at this
  omega

set_option maxHeartbeats 4000000 in
theorem rleast_any (g o cap : Nat) (ll : List (List (Nat × Nat))) (hll : ∀ l ∈ ll, COk l) (h1 : 1 ≤ ll.length) (hlen : ll.length ≤ 64) (y : Nat) (hy : y < 4294967296) (w : World) (hk : LLs w g o ll) (F L : Nat) (hF : F = kx (ll.getD 0 []) 0) (hL : L = kx (ll.getD 0 []) ((ll.getD 0 []).length - 1)) :
    Calls Try.prog 15 #[.slice (some ⟨g, o, none⟩) ll.length cap, .int .u32 y] w fun e w' => e = .returned (.tuple #[prV (lpX (chainV ll) F L y) (lpB (chainV ll) F L y) (lpH (chainV ll) F L y), .int .i64 (lpE (chainV ll) L y)]) ∧ Q w w' := by
  obtain ⟨g', o', c', k1, k2, k3⟩ := hk 0 (by omega)
  have ok := hll _ (getD_mem (show 0 < ll.length by omega))
  obtain ⟨l0, hl0⟩ : ∃ l0, ll.getD 0 [] = l0 := ⟨_, rfl⟩
  rw [hl0] at k1 k2 k3 ok hF hL
  clear hl0
  have t2 := ok.two
  have t64 := ok.many
  obtain ⟨n, hn⟩ : ∃ n, l0.length = n + 1 := ⟨l0.length - 1, by omega⟩
  have c1 := (k3 0 (by omega)).1
  have c2 := (k3 n (by omega)).1
  rw [Nat.zero_mul, Nat.add_zero, ← hF] at c1
  rw [show l0.length - 1 = n by omega] at hL
  rw [← hL] at c2
  rw [hn] at k1 k2
  rw [Nat.add_zero] at k1
  have hFl : F < 4294967296 := by rw [hF]; exact (ok.lt 0).1
  have hLl : L < 4294967296 := by rw [hL]; exact (ok.lt _).1
  have fF : rung32 F < 2139095040 := by rw [hF]; exact (ok.fin 0 (by omega)).1
  have fL : rung32 L < 2139095040 := by rw [hL]; exact (ok.fin n (by omega)).1
  have hkk : keyN F < keyN L := by rw [hF, hL]; exact key_of_srung (ok.lt _).1 (ok.lt _).1 (kx_mono ok (by omega) (by omega))
  have hkL := keyN_lt hLl
  have FN : Hid (∀ i, keyN F + i ≤ keyN L → nanN (chainV ll (placeN F i)) = false ∧ placeN F i < 4294967296 ∧ chainV ll (placeN F i) < 4294967296) := fun i hi => by
    have a := place_num hFl hLl fF fL hi
    have b : placeN F i < 4294967296 := fkeyN_lt (by omega)
    obtain ⟨c, d⟩ := chain_num hll a b
    exact ⟨c, b, d⟩
  have LN : Hid (nanN (chainV ll L) = false ∧ chainV ll L < 4294967296) := chain_num hll (fin_nan fL) hLl
  have HK : Hid (LLs w g o ll) := hk
  have HA : Hid (∀ l ∈ ll, COk l) := hll
  have i1 : (0 : Int) < (ll.length : Int) := by omega
  have i2 : (0 : Int) < ((n + 1 : Nat) : Int) := by omega
  have i3 : ((n + 1 : Nat) : Int) - 1 = (n : Int) := by omega
  have i4 : (n : Int) < ((n + 1 : Nat) : Int) := by omega
  have i5 : (0 : Int) ≤ (n : Int) := by omega
  have d1 := fun c t => cell_1 k1 c t
  have d2 := fun c t => cell_1 c1 c t
  have d3 := fun c t => cell_1 c2 c t
  obtain ⟨m, hm⟩ : ∃ m, ll.length = m + 1 := ⟨ll.length - 1, by omega⟩
  have RA : Hid (∀ (x : Nat) (W : World), x < 4294967296 → LLs W g o ll → Calls Try.prog 28 #[.slice (some ⟨g, o, none⟩) (m + 1) cap, .int .u32 (x : Int)] W fun e w' => e = .returned (.int .u32 (chainV ll x : Nat)) ∧ Q W w') := fun x W hx h => by
    have := ratall_any g o cap ll hll hlen x hx W h
    rw [hm] at this
    exact this
  rw [hm]
  have i6 : (0 : Int) < ((m + 1 : Nat) : Int) := by omega
  have i7 : m + 1 ≤ 64 := by omega
  have i8 : n + 1 ≤ 64 := by omega
  clear hk hll hF hL ok k3 hn fF fL t2 t64 c1 c2 k1 i1 hm h1 hlen
  go_enter Try.func15, Try.ntmps15
  go_wp2_with fail
  generalize hW : w.alloc _ = W
  have hq : Q w W := by rw [← hW]; exact (Q.refl w).cells _ _
  have r0 : W.cell? ⟨w.heap.size, 0, none⟩ = some (.int .u32 0) := by rw [← hW]; simp [go_sem]
  have r1 : W.cell? ⟨w.heap.size, 1, none⟩ = some (.int .u32 0) := by rw [← hW]; simp [go_sem]
  have r2 : W.cell? ⟨w.heap.size, 2, none⟩ = some (.bool false) := by rw [← hW]; simp [go_sem]
  have zz : ∀ i, W.frozen? ⟨w.heap.size, i, none⟩ = false := fun i => by rw [← hW]; simp [go_sem]
  have e1 : W.cell? ⟨g, o, none⟩ = some (.slice (some ⟨g', o', none⟩) (n + 1) c') := by rw [← hW]; exact d1 _ _
  have e3 : W.cell? ⟨g', o' + n * 2, none⟩ = some (.int .u32 L) := by rw [← hW]; exact d3 _ _
  clear hW d1 d2 d3
  go_quiet (fail)
  replace hq := hq.drewN nq
  replace r0 : (W.drewN nq).cell? ⟨w.heap.size, 0, none⟩ = some (.int .u32 0) := ((Q.refl W).drewN nq).cell r0
  replace r1 : (W.drewN nq).cell? ⟨w.heap.size, 1, none⟩ = some (.int .u32 0) := ((Q.refl W).drewN nq).cell r1
  replace r2 : (W.drewN nq).cell? ⟨w.heap.size, 2, none⟩ = some (.bool false) := ((Q.refl W).drewN nq).cell r2
  replace zz : ∀ i, (W.drewN nq).frozen? ⟨w.heap.size, i, none⟩ = false := fun i => by rw [((Q.refl W).drewN nq).2]; exact zz i
  clear e1 e3
  generalize W.drewN nq = W2 at *
  go_wp2_with fail
  refine (rnan_any y hy _).mono ?_
  rintro e W' ⟨rfl, rfl⟩
  cases hyn : nanN y
  · have HY : Hid (nanN y = false) := hyn
    go_wp2_with fail
    refine (RA.out L _ hLl (HK.out.next hq)).mono ?_
    rintro e w2 ⟨rfl, q2⟩
    replace hq := hq.trans q2
    replace r0 := q2.cell r0
    replace r1 := q2.cell r1
    replace r2 := q2.cell r2
    replace zz : ∀ i, w2.frozen? ⟨w.heap.size, i, none⟩ = false := fun i => by rw [q2.2]; exact zz i
    clear q2
    go_wp2_with fail
    refine (rbelow_any (chainV ll L) y LN.out.2 hy _).mono ?_
    rintro e w2' ⟨rfl, rfl⟩
    have HC : Hid (comesB (chainV ll) L y = !lessB (chainV ll L) y) := by
      show comesB (chainV ll) L y = !lessB (chainV ll L) y
      rw [comes_iff LN.out.1, HY.out]; rfl
    cases hb : lessB (chainV ll L) y
    · have HM : Hid (comesB (chainV ll) L y = true) := by
        show comesB (chainV ll) L y = true
        rw [HC.out, hb]; rfl
      clear HC
      go_wp2_with fail
      refine (rkey_any F hFl _).mono ?_
      rintro e w3 ⟨rfl, rfl⟩
      go_wp2_with fail
      refine (rkey_any L hLl _).mono ?_
      rintro e w3 ⟨rfl, rfl⟩
      go_wp2_with fail
      clear hb hyn
      obtain ⟨R, hR⟩ : ∃ R, lN (chainV ll) F L y = R := ⟨_, rfl⟩
      have HR : Hid (lN (chainV ll) F L y = R) := hR
      have B0 : Hid (bis (fun i => comesB (chainV ll) (placeN F i) y) (keyN L - keyN F - 0) 0 (keyN L - keyN F) = R) := hR
      clear hR
      obtain ⟨W0, hW0⟩ : ∃ W0, W0 = w3 := ⟨_, rfl⟩
      rw [← hW0] at hq r0 r1 r2 zz
      have qW : Q W0 w3 := by rw [hW0]; exact Q.refl _
      clear hW0
      go_loopg [8, 9] (keyN L - keyN F) (fun d s8 s9 wr => ∃ a b : Nat, s8 = .int .i64 ((keyN F + a : Nat) : Int) ∧ s9 = .int .i64 ((keyN F + b : Nat) : Int) ∧ a ≤ b ∧ b ≤ keyN L - keyN F ∧ b - a ≤ d ∧ Q W0 wr ∧ Hid (bis (fun i => comesB (chainV ll) (placeN F i) y) (b - a) a b = R))
      case atStart => exact ⟨0, keyN L - keyN F, by rw [Nat.add_zero], by rw [show keyN F + (keyN L - keyN F) = keyN L by omega], Nat.zero_le _, Nat.le_refl _, by omega, qW, B0⟩
      case round =>
        obtain ⟨a, b, rfl, rfl, hab, hbn, hgk, hq3, I⟩ := hrel
        by_cases hlt : a < b
        · obtain ⟨f1, f2, f3⟩ := FN.out ((a + b) / 2) (by omega)
          have HM2 : Hid (comesB (chainV ll) (placeN F ((a + b) / 2)) y = !lessB (chainV ll (placeN F ((a + b) / 2))) y) := by
            show comesB (chainV ll) (placeN F ((a + b) / 2)) y = _
            rw [comes_iff f1, HY.out]; rfl
          obtain ⟨M, hM⟩ : ∃ M, M = keyN F + (a + b) / 2 := ⟨_, rfl⟩
          obtain ⟨P, hP⟩ : ∃ P, P = placeN F ((a + b) / 2) := ⟨_, rfl⟩
          have hPM : fkeyN M = P := by rw [hM, hP]; rfl
          obtain ⟨A, hA⟩ : ∃ A, A = keyN F + a := ⟨_, rfl⟩
          obtain ⟨B, hB⟩ : ∃ B, B = keyN F + b := ⟨_, rfl⟩
          have hmid : (A : Int) + ((B : Int) - (A : Int)) / 2 = (M : Int) := by omega
          rw [← hP] at f1 f2 f3 HM2
          rw [← hA, ← hB]
          have HE : Hid ((A : Int) + ((B : Int) - (A : Int)) / 2 = (M : Int) ∧ fkeyN M = P ∧ M = keyN F + (a + b) / 2 ∧ P = placeN F ((a + b) / 2) ∧ A = keyN F + a ∧ B = keyN F + b) := ⟨hmid, hPM, hM, hP, hA, hB⟩
          have t1 : A < B := by omega
          have t2 : B < 4294967296 := by omega
          have t3 : M < 4294967296 := by omega
          clear hmid hPM hM hP hA hB
          go_wp2_with fail
          rw [HE.out.1]
          refine (rfromkey_any M t3 _).mono ?_
          rintro e w4 ⟨rfl, rfl⟩
          rw [HE.out.2.1]
          go_wp2_with fail
          refine (RA.out P _ f2 (HK.out.next (hq.trans hq3))).mono ?_
          rintro e w5 ⟨rfl, q5⟩
          go_wp2_with fail
          refine (rbelow_any (chainV ll P) y f3 hy _).mono ?_
          rintro e w6 ⟨rfl, rfl⟩
          cases hb2 : lessB (chainV ll P) y
          · have cy : comesB (chainV ll) (placeN F ((a + b) / 2)) y = true := by
              rw [← HE.out.2.2.2.1, HM2.out, hb2]; rfl
            have I2 : Hid (bis (fun i => comesB (chainV ll) (placeN F i) y) ((a + b) / 2 - a) a ((a + b) / 2) = R) := (bis_yes (p := fun i => comesB (chainV ll) (placeN F i) y) hlt cy).symm.trans I.out
            clear cy
            go_wp2_with fail
            clear hb2
            go_roundg ((a + b) / 2 - a)
            case measure => go_light; omega
            case rel => go_light; exact ⟨a, (a + b) / 2, by rw [HE.out.2.2.2.2.1], by rw [HE.out.2.2.1], by omega, by omega, Nat.le_refl _, hq3.trans q5, I2⟩
          · have cn : comesB (chainV ll) (placeN F ((a + b) / 2)) y = false := by
              rw [← HE.out.2.2.2.1, HM2.out, hb2]; rfl
            have I2 : Hid (bis (fun i => comesB (chainV ll) (placeN F i) y) (b - ((a + b) / 2 + 1)) ((a + b) / 2 + 1) b = R) := (bis_no (p := fun i => comesB (chainV ll) (placeN F i) y) hlt cn).symm.trans I.out
            clear cn
            go_wp2_with fail
            clear hb2
            go_roundg (b - ((a + b) / 2 + 1))
            case measure => go_light; omega
            case rel => go_light; exact ⟨(a + b) / 2 + 1, b, by rw [HE.out.2.2.1]; exact congrArg (Value.int .i64) (by omega), by rw [HE.out.2.2.2.2.2], by omega, hbn, Nat.le_refl _, hq3.trans q5, I2⟩
        · have e : a = b := by omega
          subst e
          have hRa : a = R := by
            have := I.out
            rw [Nat.sub_self] at this
            exact this
          subst hRa
          have t3 : keyN F + a < 4294967296 := by omega
          replace r0 := hq3.cell r0
          replace r1 := hq3.cell r1
          replace r2 := hq3.cell r2
          replace zz := fun i => (hq3.2 ⟨w.heap.size, i, none⟩).trans (zz i)
          replace hq := hq.trans hq3
          clear hq3 qW B0 I hgk
          go_wp2_with fail
          refine (rfromkey_any (keyN F + a) t3 _).mono ?_
          rintro e w4 ⟨rfl, rfl⟩
          obtain ⟨X, hX⟩ : ∃ X, placeN F a = X := ⟨_, rfl⟩
          rw [show fkeyN (keyN F + a) = X from hX]
          have f0 : ∀ c t, (w4.alloc (.cells c t)).frozen? ⟨w.heap.size, 0, none⟩ = false := fun c t => by rw [((Q.refl w4).cells c t).2]; exact zz 0
          have f1 : ∀ c t, (w4.alloc (.cells c t)).frozen? ⟨w.heap.size, 1, none⟩ = false := fun c t => by rw [((Q.refl w4).cells c t).2]; exact zz 1
          have f2 : ∀ c t, (w4.alloc (.cells c t)).frozen? ⟨w.heap.size, 2, none⟩ = false := fun c t => by rw [((Q.refl w4).cells c t).2]; exact zz 2
          have g0 := fun c t => cell_1 r0 c t
          have g1 := fun c t => cell_1 r1 c t
          have g2 := fun c t => cell_1 r2 c t
          have s1 : w.heap.size < w4.heap.size := cell_in r0
          have n1 : w4.heap.size ≠ w.heap.size := by omega
          have n2 : w.heap.size ≠ w4.heap.size := by omega
          by_cases h0 : a = 0
          · have hXF : X = F := by rw [← hX, h0, place_0 hFl]
            subst hXF
            go_wp2_with fail
            refine bodyPost_ret (v := .tuple #[prV (lpX (chainV ll) X L y) (lpB (chainV ll) X L y) (lpH (chainV ll) X L y), .int .i64 (lpE (chainV ll) L y)]) ?_ rfl ⟨rfl, ?_⟩
            · unfold lpX lpB lpH lpE prV
              rw [HM.out, HR.out, hX, decide_eq_false (not_not_intro h0), if_pos h0]
              obtain ⟨y0, y1, y2⟩ := res3 r0 r1 r2 (.int .u32 X) (.int .u32 0) (.bool false) #[.int .u32 X, .int .u32 0, .bool false] 39
              simp [results, Try.results15, go_sem, y0, y1, y2]
            · exact (((hq.set (by simp) _).set (by simp) _).set (by simp) _).cells _ _
          · have hne : ((X : Int) != (F : Int)) = true := by
              have := place_ne hFl t3 h0
              rw [hX] at this
              simp; omega
            have t4 : keyN F + a - 1 < 4294967296 := by omega
            have t5 : ((keyN F : Int) + (a : Int) - 1) = ((keyN F + a - 1 : Nat) : Int) := by omega
            go_wp2_with fail
            refine (rfromkey_any (keyN F + a - 1) t4 _).mono ?_
            rintro e w5 ⟨rfl, rfl⟩
            obtain ⟨Y, hY⟩ : ∃ Y, placeN F (a - 1) = Y := ⟨_, rfl⟩
            rw [show fkeyN (keyN F + a - 1) = Y by rw [← hY]; unfold placeN; congr 1; omega]
            go_wp2_with fail
            refine bodyPost_ret (v := .tuple #[prV (lpX (chainV ll) F L y) (lpB (chainV ll) F L y) (lpH (chainV ll) F L y), .int .i64 (lpE (chainV ll) L y)]) ?_ rfl ⟨rfl, ?_⟩
            · unfold lpX lpB lpH lpE prV
              rw [HM.out, HR.out, hX, decide_eq_true h0, if_neg h0, hY]
              obtain ⟨y0, y1, y2⟩ := res3 r0 r1 r2 (.int .u32 X) (.int .u32 Y) (.bool true) #[.int .u32 X, .int .u32 Y, .bool true] 39
              simp [results, Try.results15, go_sem, y0, y1, y2]
            · exact (((hq.set (by simp) _).set (by simp) _).set (by simp) _).cells _ _
    · have HM : Hid (comesB (chainV ll) L y = false) := by
        show comesB (chainV ll) L y = false
        rw [HC.out, hb]; rfl
      have z0 := zz 0
      have z1 := zz 1
      have z2 := zz 2
      go_wp2_with fail
      refine bodyPost_ret (v := .tuple #[prV (lpX (chainV ll) F L y) (lpB (chainV ll) F L y) (lpH (chainV ll) F L y), .int .i64 (lpE (chainV ll) L y)]) ?_ rfl ⟨rfl, ?_⟩
      · unfold lpX lpB lpH lpE prV
        rw [HM.out]
        simp [results, Try.results15, go_sem, r0, r1, r2]
      · exact ((hq.set (by simp) _).set (by simp) _).set (by simp) _
  · have HM : Hid (comesB (chainV ll) L y = false) := by
      show comesB (chainV ll) L y = false
      rw [comes_iff LN.out.1, hyn]; rfl
    have z0 := zz 0
    have z1 := zz 1
    have z2 := zz 2
    go_wp2_with fail
    refine bodyPost_ret (v := .tuple #[prV (lpX (chainV ll) F L y) (lpB (chainV ll) F L y) (lpH (chainV ll) F L y), .int .i64 (lpE (chainV ll) L y)]) ?_ rfl ⟨rfl, ?_⟩
    · unfold lpX lpB lpH lpE prV
      rw [HM.out]
      simp [results, Try.results15, go_sem, r0, r1, r2]
    · exact ((hq.set (by simp) _).set (by simp) _).set (by simp) _
end Go.Proofs.Ytmfniimelibhfaa
/- A proof proves it exactly when it is what Least answers: nothing but numbers. -/
namespace Go.Proofs.Ytmfniimelibhfaa
open Go.RowKit
set_option linter.unusedVariables false

theorem key_srung {a b : Nat} (ha : a < 4294967296) (hb : b < 4294967296) (h : keyN a ≤ keyN b) : srung32 a ≤ srung32 b := by
  by_cases g : srung32 b < srung32 a
  · have := key_of_srung hb ha g
    omega
  · omega
/-- What the search needs of a way from samples to samples. -/
structure Climbs (f : Nat → Nat) (F L : Nat) : Prop where
  num : ∀ i, keyN F + i ≤ keyN L → nanN (f (placeN F i)) = false
  mono : ∀ i j, i ≤ j → keyN F + j ≤ keyN L → srung32 (f (placeN F i)) ≤ srung32 (f (placeN F j))
theorem Climbs.up {f : Nat → Nat} {F L : Nat} (h : Climbs f F L) {y i j : Nat} (hij : i ≤ j) (hj : keyN F + j ≤ keyN L) (c : comesB f (placeN F i) y = true) : comesB f (placeN F j) y = true := by
  have n1 := h.num i (by omega)
  have n2 := h.num j hj
  rw [comes_iff n1] at c
  rw [comes_iff n2]
  have hm := h.mono i j hij hj
  cases hy : nanN y
  · rw [hy, lessB_num n1 hy] at c
    rw [lessB_num n2 hy]
    have c' : ¬ srung32 (f (placeN F i)) < srung32 y := by simpa using c
    rw [decide_eq_false (show ¬ srung32 (f (placeN F j)) < srung32 y by omega)]
    rfl
  · rw [hy] at c; exact absurd c (by simp)
theorem place_key {F X : Nat} (hX : X < 4294967296) (h : keyN F ≤ keyN X) : X = placeN F (keyN X - keyN F) := by
  unfold placeN
  rw [show keyN F + (keyN X - keyN F) = keyN X by omega, fkey_key hX]
theorem key_place {F i : Nat} (h : keyN F + i < 4294967296) : keyN (placeN F i) = keyN F + i := by
  unfold placeN
  exact key_fkey h

theorem check_least {f : Nat → Nat} {F L : Nat} (hF : F < 4294967296) (hL : L < 4294967296) (hk : keyN F < keyN L) (h : Climbs f F L) (y X B : Nat) (H : Bool) (hX : X < 4294967296) (hB : B < 4294967296) :
    checkB f F L y X B H = true ↔ (lpE f L y = 0 ∧ X = lpX f F L y ∧ B = lpB f F L y ∧ H = lpH f F L y) := by
  have kL := keyN_lt hL
  have kX := keyN_lt hX
  have kB := keyN_lt hB
  have pL : placeN F (keyN L - keyN F) = L := (place_key hL (by omega)).symm
  obtain ⟨b1, b2, b3, b4⟩ := bis_facts (fun i => comesB f (placeN F i) y) (keyN L - keyN F) 0 (keyN L - keyN F) rfl (Nat.zero_le _)
  obtain ⟨R, hR⟩ : ∃ R, lN f F L y = R := ⟨_, rfl⟩
  have hR' : bis (fun i => comesB f (placeN F i) y) (keyN L - keyN F - 0) 0 (keyN L - keyN F) = R := hR
  rw [hR'] at b1 b2 b3 b4
  cases hc : comesB f L y
  · have e1 : lpE f L y = 43 := by unfold lpE; rw [hc]; rfl
    rw [e1]
    constructor
    · intro hh
      exfalso
      by_cases g : keyN X < keyN F ∨ keyN L < keyN X
      · rw [check_no (by rcases g with g | g; exact Or.inl g; exact Or.inr (Or.inl g))] at hh
        exact absurd hh (by decide)
      · have eX := place_key (F := F) hX (by omega)
        by_cases g2 : comesB f X y = true
        · have := h.up (y := y) (i := keyN X - keyN F) (j := keyN L - keyN F) (by omega) (by omega) (by rw [← eX]; exact g2)
          rw [pL, hc] at this
          exact absurd this (by decide)
        · rw [check_no (Or.inr (Or.inr (Or.inl (by simpa using g2))))] at hh
          exact absurd hh (by decide)
    · rintro ⟨a, _⟩
      exact absurd a (by decide)
  · have e1 : lpE f L y = 0 := by unfold lpE; rw [hc]; rfl
    have e2 : lpX f F L y = placeN F R := by unfold lpX; rw [hc, hR]; rfl
    have e3 : lpB f F L y = if R = 0 then 0 else placeN F (R - 1) := by unfold lpB; rw [hc, hR]; rfl
    have e4 : lpH f F L y = decide (R ≠ 0) := by unfold lpH; rw [hc, hR]; rfl
    rw [e1, e2, e3, e4]
    have pR : comesB f (placeN F R) y = true := by
      rcases b3 with b3 | b3
      · rw [b3, pL]; exact hc
      · exact b3
    have low : ∀ i, i < R → comesB f (placeN F i) y = false := by
      intro i hi
      rcases b4 with b4 | b4
      · omega
      · cases g : comesB f (placeN F i) y
        · rfl
        · have := h.up (y := y) (i := i) (j := R - 1) (by omega) (by omega) g
          rw [this] at b4
          exact absurd b4 (by decide)
    have kR : keyN (placeN F R) = keyN F + R := key_place (by omega)
    have xF : ∀ Z, Z < 4294967296 → ((Z != F) = decide (keyN Z - keyN F ≠ 0 ∨ keyN Z < keyN F)) := by
      intro Z hZ
      by_cases g : Z = F
      · subst g; simp
      · have : keyN Z ≠ keyN F := fun e => g (keyN_inj hZ hF e)
        rw [decide_eq_true (by omega)]
        simpa using g
    constructor
    · intro hh
      by_cases g : keyN X < keyN F ∨ keyN L < keyN X ∨ comesB f X y = false ∨ H ≠ (X != F)
      · rw [check_no g] at hh; exact absurd hh (by decide)
      · have g1 : keyN F ≤ keyN X := by apply Nat.le_of_not_lt; intro q; exact g (Or.inl q)
        have g2 : keyN X ≤ keyN L := by apply Nat.le_of_not_lt; intro q; exact g (Or.inr (Or.inl q))
        have g3 : comesB f X y = true := by cases q : comesB f X y; exact absurd (Or.inr (Or.inr (Or.inl q))) g; rfl
        have g4 : H = (X != F) := by
          apply Decidable.byContradiction; intro q; exact g (Or.inr (Or.inr (Or.inr q)))
        have eX := place_key (F := F) hX g1
        have hge : R ≤ keyN X - keyN F := by
          apply Nat.le_of_not_lt
          intro q
          have := low _ q
          rw [← eX, g3] at this
          exact absurd this (by decide)
        rw [xF X hX] at g4
        by_cases i0 : keyN X - keyN F = 0
        · have hf : H = false := by rw [g4, decide_eq_false (by omega)]
          rw [check_0 g hf] at hh
          have r0 : R = 0 := by omega
          refine ⟨rfl, by rw [eX, i0, r0], ?_, ?_⟩
          · rw [if_pos r0]; simpa using hh
          · rw [hf, decide_eq_false (by omega)]
        · have ht : H = true := by rw [g4, decide_eq_true (by omega)]
          rw [check_1 g ht] at hh
          simp only [Bool.and_eq_true, decide_eq_true_eq, Bool.not_eq_true'] at hh
          obtain ⟨h1, h2⟩ := hh
          have eB := place_key (F := F) hB (by omega)
          have hi : keyN B - keyN F = keyN X - keyN F - 1 := by omega
          have hle : keyN X - keyN F ≤ R := by
            apply Nat.le_of_not_lt
            intro q
            have := h.up (y := y) (i := R) (j := keyN B - keyN F) (by omega) (by omega) pR
            rw [← eB, h2] at this
            exact absurd this (by decide)
          have r0 : R ≠ 0 := by omega
          refine ⟨rfl, by rw [eX]; congr 1; omega, ?_, ?_⟩
          · rw [if_neg r0, eB]; congr 1; omega
          · rw [ht, decide_eq_true r0]
    · rintro ⟨_, rfl, rfl, rfl⟩
      have g4 : decide (R ≠ 0) = (placeN F R != F) := by
        rw [xF _ hX, kR]
        by_cases r0 : R = 0
        · rw [decide_eq_false (by omega), decide_eq_false (by omega)]
        · rw [decide_eq_true r0, decide_eq_true (by omega)]
      have g : ¬ (keyN (placeN F R) < keyN F ∨ keyN L < keyN (placeN F R) ∨ comesB f (placeN F R) y = false ∨ decide (R ≠ 0) ≠ (placeN F R != F)) := by
        rintro (q | q | q | q)
        · omega
        · omega
        · rw [pR] at q; exact absurd q (by decide)
        · exact q g4
      by_cases r0 : R = 0
      · rw [check_0 g (decide_eq_false (by omega)), if_pos r0]; rfl
      · rw [check_1 g (decide_eq_true r0), if_neg r0, kR, key_place (by omega), low _ (by omega), decide_eq_true (by omega)]
        rfl
theorem check_same {f : Nat → Nat} {F L : Nat} (hF : F < 4294967296) (hL : L < 4294967296) (hk : keyN F < keyN L) (h : Climbs f F L) (y X B : Nat) (H : Bool) (hX : X < 4294967296) (hB : B < 4294967296) :
    checkB f F L y X B H = (decide (lpE f L y = 0) && (decide (X = lpX f F L y) && (decide (B = lpB f F L y) && decide (H = lpH f F L y)))) := by
  have := check_least hF hL hk h y X B H hX hB
  rw [Bool.eq_iff_iff, this]
  simp
theorem lp_lt {f : Nat → Nat} {F L : Nat} (hL : L < 4294967296) (hk : keyN F < keyN L) (y : Nat) : lpX f F L y < 4294967296 ∧ lpB f F L y < 4294967296 := by
  have kL := keyN_lt hL
  have hR := lN_le f F L y
  unfold lpX lpB
  constructor
  · split
    · exact fkeyN_lt (by omega)
    · decide
  · split
    · split
      · decide
      · exact fkeyN_lt (by omega)
    · decide
theorem climbs_at {l : List (Nat × Nat)} (hl : COk l) : Climbs (atV l) (kx l 0) (kx l (l.length - 1)) := by
  have t := hl.two
  have a := (hl.lt 0).1
  have b := (hl.lt (l.length - 1)).1
  have c := (hl.fin 0 (by omega)).1
  have d := (hl.fin (l.length - 1) (by omega)).1
  have e := keyN_lt b
  constructor
  · intro i hi
    have n := place_num a b c d hi
    exact (chain_num (ll := [l]) (fun l' h => by simp at h; rw [h]; exact hl) n (fkeyN_lt (by omega))).1
  · intro i j hij hj
    have n1 := place_num a b c d (show keyN (kx l 0) + i ≤ keyN (kx l (l.length - 1)) by omega)
    have n2 := place_num a b c d hj
    refine at_mono hl n1 n2 (key_srung (fkeyN_lt (by omega)) (fkeyN_lt (by omega)) ?_)
    rw [key_place (by omega), key_place (by omega)]
    omega
end Go.Proofs.Ytmfniimelibhfaa

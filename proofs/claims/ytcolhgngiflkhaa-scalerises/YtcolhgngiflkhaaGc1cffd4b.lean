/- Weights sum to more than 0, whatever the sizes and the place: plain. -/
import Derived.Test.YtcolhgngiflkhaaG57b62488
namespace Go.Proofs.Ytcolhgngiflkhaa
set_option linter.unusedVariables false
set_option linter.unusedSimpArgs false

theorem sumF_pos {f : Nat → Int} : ∀ {n j : Nat}, (∀ i, i < n → 0 ≤ f i) → j < n → 0 < f j → 0 < sumF f n
  | 0, j, _, hj, _ => by omega
  | n + 1, j, h, hj, hp => by
    have h0 := sumF_nonneg (f := f) n (fun i hi => h i (by omega))
    have h1 := h n (by omega)
    unfold sumF
    by_cases e : j = n
    · subst e; omega
    · have := sumF_pos (n := n) (j := j) (fun i hi => h i (by omega)) (by omega) hp
      omega
/-- Where the window lies. -/
theorem win_eq {kind : Int} {F T i : Nat} (h : Sz F T i) : 2 * (T : Int) * fstV kind F T i ≤ midV F T i - rea kind (max F T : Nat) ∧ midV F T i - rea kind (max F T : Nat) < 2 * (T : Int) * fstV kind F T i + 2 * (T : Int) ∧ 2 * (T : Int) * lstV kind F T i ≤ midV F T i + rea kind (max F T : Nat) ∧ midV F T i + rea kind (max F T : Nat) < 2 * (T : Int) * lstV kind F T i + 2 * (T : Int) := by
  have hT : 0 < 2 * (T : Int) := by have := h.t1; omega
  have a1 := Int.mul_ediv_add_emod (midV F T i - rea kind (max F T : Nat)) (2 * (T : Int))
  have a2 := Int.emod_nonneg (midV F T i - rea kind (max F T : Nat)) (by omega : 2 * (T : Int) ≠ 0)
  have a3 := Int.emod_lt_of_pos (midV F T i - rea kind (max F T : Nat)) hT
  have b1 := Int.mul_ediv_add_emod (midV F T i + rea kind (max F T : Nat)) (2 * (T : Int))
  have b2 := Int.emod_nonneg (midV F T i + rea kind (max F T : Nat)) (by omega : 2 * (T : Int) ≠ 0)
  have b3 := Int.emod_lt_of_pos (midV F T i + rea kind (max F T : Nat)) hT
  change 2 * (T : Int) * fstV kind F T i + _ = _ at a1
  change 2 * (T : Int) * lstV kind F T i + _ = _ at b1
  omega
theorem wls_sum {kind : Int} {F T i : Nat} : sndSum (wlsV kind F T i) = sumF (fun j => wfV kind F T i (fstV kind F T i + j)) (winV kind F T i) := wrun_sum _ _ _ _
/-- Box and Tent. -/
theorem pos_plain {kind : Int} {F T i : Nat} (h : Sz F T i) (hn : ∀ d, 0 ≤ wgt kind (max F T : Nat) d) (hp : ∀ d, -((max F T : Nat) : Int) ≤ d → d < ((max F T : Nat) : Int) → 0 < wgt kind (max F T : Nat) d) : 0 < sndSum (wlsV kind F T i) := by
  rw [wls_sum]
  obtain ⟨w1, w2, w3, w4⟩ := win_eq (kind := kind) h
  have hr := rea_size (kind := kind) (m := (max F T : Nat)) (by have := h.f1; omega)
  have hmT : (T : Int) ≤ ((max F T : Nat) : Int) := by omega
  have hst : 0 < 2 * (T : Int) := by have := h.t1; omega
  obtain ⟨st, hs⟩ : ∃ st, 2 * (T : Int) = st := ⟨_, rfl⟩
  have hww : winV kind F T i = (lstV kind F T i - fstV kind F T i + 1).toNat := rfl
  have hwf : ∀ k, wfV kind F T i k = wgt kind (max F T : Nat) (st * k - midV F T i) := fun k => by rw [← hs]; rfl
  rw [hs] at w1 w2 w3 w4 hst
  generalize ((max F T : Nat) : Int) = m at *
  generalize rea kind m = R at *
  generalize midV F T i = mid at *
  generalize fstV kind F T i = fs at *
  generalize lstV kind F T i = ls at *
  generalize winV kind F T i = N at *
  have p1 := kx_prop (st := st) (mid := mid) (x := -m) hst
  obtain ⟨k, hk⟩ : ∃ k, kx st mid (-m) = k := ⟨_, rfl⟩
  rw [hk] at p1
  have k1 : fs ≤ k := by
    rcases Int.lt_or_le k fs with c | c
    · have h2 : st * (k + 1) ≤ st * fs := Int.mul_le_mul_of_nonneg_left (by omega) (by omega)
      rw [Int.mul_add] at h2
      omega
    · exact c
  have k2 : k ≤ ls := by
    rcases Int.lt_or_le ls k with c | c
    · have h2 : st * (ls + 1) ≤ st * k := Int.mul_le_mul_of_nonneg_left (by omega) (by omega)
      rw [Int.mul_add] at h2
      omega
    · exact c
  refine sumF_pos (j := (k - fs).toNat) (fun j _ => by rw [hwf]; exact hn _) (by omega) ?_
  rw [hwf, show fs + ((k - fs).toNat : Int) = k by omega]
  exact hp _ (by omega) (by omega)
theorem pos_cubic {F T i : Nat} (h : Sz F T i) : 0 < sndSum (wlsV 3 F T i) := by
  rw [wls_sum]
  obtain ⟨w1, w2, w3, w4⟩ := win_eq (kind := 3) h
  have hm0 : 0 < ((max F T : Nat) : Int) := by have := h.f1; omega
  have hmT : (T : Int) ≤ ((max F T : Nat) : Int) := by omega
  have hst : 0 < 2 * (T : Int) := by have := h.t1; omega
  obtain ⟨st, hs⟩ : ∃ st, 2 * (T : Int) = st := ⟨_, rfl⟩
  have hww : winV 3 F T i = (lstV 3 F T i - fstV 3 F T i + 1).toNat := rfl
  have hre : rea 3 ((max F T : Nat) : Int) = 4 * ((max F T : Nat) : Int) := rfl
  have hwf : ∀ k, wfV 3 F T i k = cubV (absI (st * k - midV F T i)) (2 * ((max F T : Nat) : Int)) := fun k => by rw [← hs]; rfl
  rw [hre] at w1 w2 w3 w4
  rw [hs] at w1 w2 w3 w4 hst
  generalize ((max F T : Nat) : Int) = m at *
  generalize midV F T i = mid at *
  generalize fstV 3 F T i = fs at *
  generalize lstV 3 F T i = ls at *
  generalize winV 3 F T i = N at *
  have hst2 : st ≤ 2 * m := by omega
  -- how many steps fit into 2 m
  obtain ⟨q, hq1, hq2, hq0⟩ : ∃ q, st * q ≤ 2 * m ∧ 2 * m < st * (q + 1) ∧ 1 ≤ q := by
    have a1 := Int.mul_ediv_add_emod (2 * m) st
    have a2 := Int.emod_nonneg (2 * m) (by omega : st ≠ 0)
    have a3 := Int.emod_lt_of_pos (2 * m) hst
    refine ⟨2 * m / st, by omega, by rw [Int.mul_add]; omega, ?_⟩
    exact (Int.le_ediv_iff_mul_le hst).2 (by omega)
  have le_of : ∀ a b : Int, st * a < st * b + st → a ≤ b := fun a b hh => by
    rcases Int.lt_or_le b a with c | c
    · have h2 : st * (b + 1) ≤ st * a := Int.mul_le_mul_of_nonneg_left (by omega) (by omega)
      rw [Int.mul_add] at h2
      omega
    · exact c
  have pa := kx_prop (st := st) (mid := mid) (x := -(2 * m) + 1) hst
  have pc := kx_prop (st := st) (mid := mid) (x := -m) hst
  have pd := kx_prop (st := st) (mid := mid) (x := m) hst
  have pb := kx_prop (st := st) (mid := mid) (x := 2 * m) hst
  have ga : ∀ k, kx st mid (-(2 * m) + 1) ≤ k → mid + (-(2 * m) + 1) ≤ st * k := fun k hk => kx_ge hst hk
  have gc : ∀ k, kx st mid (-m) ≤ k → mid + -m ≤ st * k := fun k hk => kx_ge hst hk
  have gd : ∀ k, k < kx st mid m → st * k < mid + m := fun k hk => kx_lt hst hk
  have gb : ∀ k, k < kx st mid (2 * m) → st * k < mid + 2 * m := fun k hk => kx_lt hst hk
  obtain ⟨a, ha⟩ : ∃ a, kx st mid (-(2 * m) + 1) = a := ⟨_, rfl⟩
  obtain ⟨c, hc⟩ : ∃ c, kx st mid (-m) = c := ⟨_, rfl⟩
  obtain ⟨e, he⟩ : ∃ e, kx st mid m = e := ⟨_, rfl⟩
  obtain ⟨b, hb⟩ : ∃ b, kx st mid (2 * m) = b := ⟨_, rfl⟩
  rw [ha] at pa ga
  rw [hc] at pc gc
  rw [he] at pd gd
  rw [hb] at pb gb
  have o1 : fs + 1 ≤ a := by
    have := le_of (fs + 1) a (by rw [Int.mul_add]; omega)
    exact this
  have o2 : a ≤ c := le_of a c (by omega)
  have o3 : c ≤ e := le_of c e (by omega)
  have o4 : e ≤ b := le_of e b (by omega)
  have o5 : b ≤ ls + 1 := le_of b (ls + 1) (by rw [Int.mul_add]; omega)
  -- how many there are
  have n1 : a - fs - 1 ≤ q + 1 := le_of _ _ (by rw [Int.mul_sub, Int.mul_sub]; simp only [Int.mul_add, Int.mul_one] at hq2 ⊢; omega)
  have n2 : q ≤ e - c := le_of _ _ (by rw [Int.mul_sub]; omega)
  have n3 : ls - b ≤ q := le_of _ _ (by rw [Int.mul_sub]; simp only [Int.mul_add, Int.mul_one] at hq2; omega)
  have hm3 : 0 < m * m * m := Int.mul_pos (Int.mul_pos hm0 hm0) hm0
  have abs0 : ∀ d, 0 ≤ absI d := fun d => by unfold absI; omega
  have key := six (f := fun j => 27 * wfV 3 F T i (fs + j)) (A := (a - fs).toNat) (C1 := (c - fs).toNat) (C2 := (e - fs).toNat) (B := (b - fs).toNat) (N := N) (L := -(32 * (m * m * m))) (H := 243 * (m * m * m)) (by omega) (by omega) (by omega) (by omega) (by omega)
    (by
      show 0 ≤ 27 * wfV 3 F T i (fs + 0)
      rw [hwf, Int.add_zero]
      have hout : 2 * (2 * m) ≤ absI (st * fs - mid) := by unfold absI; omega
      unfold cubV
      rw [if_neg (by omega), if_neg (by omega)]
      decide)
    (fun j _ _ => by rw [hwf]; exact cub_low (abs0 _) hm0)
    (fun j j1 j2 => by
      rw [hwf]
      have g1 := ga (fs + j) (by omega)
      have g2 := gb (fs + j) (by omega)
      have := (cub_near (abs0 _) (show absI (st * (fs + j) - mid) < 2 * m by unfold absI; omega)).1
      omega)
    (fun j j1 j2 => by
      rw [hwf]
      have g1 := gc (fs + j) (by omega)
      have g2 := gd (fs + j) (by omega)
      have := cub_mid (abs0 _) (show absI (st * (fs + j) - mid) ≤ m by unfold absI; omega) hm0
      omega)
    (fun j j1 j2 => by
      rw [hwf]
      have g1 := ga (fs + j) (by omega)
      have g2 := gb (fs + j) (by omega)
      have := (cub_near (abs0 _) (show absI (st * (fs + j) - mid) < 2 * m by unfold absI; omega)).1
      omega)
    (fun j _ _ => by rw [hwf]; exact cub_low (abs0 _) hm0)
  rw [sumF_mul] at key
  generalize m * m * m = M at *
  have b1 : (((a - fs).toNat - 1 : Nat) : Int) * (32 * M) ≤ (q + 1) * (32 * M) := Int.mul_le_mul_of_nonneg_right (by omega) (by omega)
  have b2 : q * (243 * M) ≤ (((e - fs).toNat - (c - fs).toNat : Nat) : Int) * (243 * M) := Int.mul_le_mul_of_nonneg_right (by omega) (by omega)
  have b3 : ((N - (b - fs).toNat : Nat) : Int) * (32 * M) ≤ (q + 1) * (32 * M) := Int.mul_le_mul_of_nonneg_right (by omega) (by omega)
  have b4 : 1 * M ≤ q * M := Int.mul_le_mul_of_nonneg_right hq0 (by omega)
  simp only [Int.mul_neg] at key
  have e1 : q * (243 * M) = 243 * (q * M) := by grind
  have e2 : (q + 1) * (32 * M) = 32 * (q * M) + 32 * M := by grind
  rw [e1] at b2
  rw [e2] at b1 b3
  omega
theorem wls_pos {kind : Int} {F T i : Nat} (hk : kind = 1 ∨ kind = 2 ∨ kind = 3) (h : Sz F T i) : 0 < sndSum (wlsV kind F T i) := by
  have hm0 : 0 < ((max F T : Nat) : Int) := by have := h.f1; omega
  rcases hk with rfl | rfl | rfl
  · refine pos_plain h (fun d => ?_) (fun d h1 h2 => ?_)
    · show 0 ≤ if _ then (1 : Int) else 0; split <;> omega
    · show 0 < if _ then (1 : Int) else 0; rw [if_pos ⟨h1, h2⟩]; decide
  · refine pos_plain h (fun d => ?_) (fun d h1 h2 => ?_)
    · show 0 ≤ max (2 * ((max F T : Nat) : Int) - absI d) 0; omega
    · show 0 < max (2 * ((max F T : Nat) : Int) - absI d) 0; unfold absI; omega
  · exact pos_cubic h
end Go.Proofs.Ytcolhgngiflkhaa
/- kernel.weighed, walked. -/
namespace Go.Proofs.Ytcolhgngiflkhaa
open Go.RowKit
set_option linter.unusedVariables false
set_option linter.unusedSimpArgs false

theorem lo_of {s x B : Int} (hs : 1 ≤ s) (hB : 0 ≤ B) (h : -B ≤ s * x) : -B ≤ x := by
  rcases Int.lt_or_le x (-B) with c | c
  · have : s * x ≤ 1 * x := Int.mul_le_mul_of_nonpos_right hs (by omega)
    omega
  · exact c
theorem hi_of {s x B : Int} (hs : 1 ≤ s) (hB : 0 ≤ B) (h : s * x ≤ B) : x ≤ B := by
  rcases Int.lt_or_le B x with c | c
  · have : 1 * x ≤ s * x := Int.mul_le_mul_of_nonneg_right hs (by omega)
    omega
  · exact c
theorem own_low {w : World} {base base' : Nat} {e : TypeId} {size n : Nat} {v : Value} {xs : List Value} (h : w.ownsRow base e size v n xs) (hb : base' ≤ base) : w.ownsRow base' e size v n xs := by
  refine ⟨h.1, ?_⟩
  rcases h.2 with c | ⟨g, cap, cur, h1, h2, h3⟩
  · exact Or.inl c
  · exact Or.inr ⟨g, cap, cur, h1, Nat.le_trans hb h2, h3⟩
theorem Wl.base {w w0 wr : World} {vP vW : Value} {L : List (Int × Int)} {n : Nat} (h : Wl w0 wr vP vW L n) (q : Q w w0) : Wl w wr vP vW L n := ⟨h.len, own_low h.p q.1.size, own_low h.w q.1.size, h.ap, q.trans h.q⟩
set_option maxHeartbeats 8000000 in
set_option maxRecDepth 1000000 in
theorem weighed_any (kind : Int) (F T i b : Nat) (w : World) (hk : kind = 1 ∨ kind = 2 ∨ kind = 3) (h : Sz F T i) (hb : w.cell? ⟨b, 0, none⟩ = some (.int .i64 (kbx kind (max F T : Nat)))) :
    Calls Try.prog 35 #[.agg #[.int .i64 (rea kind (max F T : Nat)), .func (.func (kfn kind)) #[] #[.pointer (some ⟨b, 0, none⟩)]], .int .i64 (F : Int), .int .i64 (T : Int), .int .i64 (i : Int)] w fun e w' => ∃ vP vW n, e = .returned (.tuple #[vP, vW]) ∧ Wl w w' vP vW (wlsV kind F T i) n := by
  have eg := kfn_enters kind
  obtain ⟨fl, win, hd⟩ := win_facts (kind := kind) h
  obtain ⟨M1, M2⟩ := mid_size h
  have hr := rea_size (kind := kind) (m := (max F T : Nat)) (by have := h.f1; omega)
  obtain ⟨mx, hmx⟩ : ∃ mx : Nat, mx = max F T := ⟨_, rfl⟩
  have hmx1 : 1 ≤ mx := by have := h.f1; omega
  have hmx2 : mx ≤ 1024 := by have := h.f2; have := h.t2; omega
  have HCd : Hid (∀ (x y : Int) (W : World), 0 < y → -4611686018427387904 ≤ x → x ≤ 4611686018427387904 → y ≤ 4611686018427387904 → Calls Try.prog 41 #[.int .i64 x, .int .i64 y] W fun e w' => e = .returned (.tuple #[.int .i64 (x / y), .int .i64 (x % y)]) ∧ Q W w') := fun x y W h1 h2 h3 h4 => div_any x y W h1 h2 h3 h4
  have HCk : Hid (∀ (d : Int) (W : World), W.cell? ⟨b, 0, none⟩ = some (.int .i64 (kbx kind (max F T : Nat))) → -8192 ≤ d → d ≤ 8192 → Calls Try.prog (kfn kind) #[.int .i64 d, .pointer (some ⟨b, 0, none⟩)] W fun e w' => e = .returned (.int .i64 (wgt kind (max F T : Nat) d)) ∧ Q W w') := fun d W h1 h2 h3 => kfn_any kind _ d b W hk h1 (by omega) (by omega) h2 h3
  have HB : Hid (w.cell? ⟨b, 0, none⟩ = some (.int .i64 (kbx kind (max F T : Nat)))) := hb
  have HD : Hid (∀ k, fstV kind F T i ≤ k → k ≤ lstV kind F T i → -8192 ≤ 2 * (T : Int) * k - midV F T i ∧ 2 * (T : Int) * k - midV F T i ≤ 4096) := hd
  have HW : Hid (wlsV kind F T i = wrun (wfV kind F T i) (plV F) (fstV kind F T i) (winV kind F T i)) := rfl
  have HFk : Hid (∀ k, wfV kind F T i k = wgt kind (max F T : Nat) (2 * (T : Int) * k - midV F T i)) := fun k => rfl
  have HBd : Hid (∀ j, j ≤ 100 → ∀ e ∈ wrun (wfV kind F T i) (plV F) (fstV kind F T i) j, -1717986918400 ≤ e.2 ∧ e.2 ≤ 1717986918400) := fun j hj e he => by
    have := wrun_bound (f := wfV kind F T i) (pl := plV F) (a := fstV kind F T i) (B := 17179869184) (by decide) (fun k => wgt_size (by omega) (by omega)) j e he
    omega
  have HWs : Hid (∀ k, -17179869184 ≤ wfV kind F T i k ∧ wfV kind F T i k ≤ 17179869184) := fun k => wgt_size (by omega) (by omega)
  rw [← hmx] at hr ⊢
  obtain ⟨R, hR⟩ : ∃ R, R = rea kind mx := ⟨_, rfl⟩
  rw [← hR] at hr ⊢
  have HR : Hid (R = rea kind (max F T : Nat)) := by rw [← hmx]; exact hR
  obtain ⟨N, hN⟩ : ∃ N : Nat, lstV kind F T i - fstV kind F T i + 1 = (N : Int) := ⟨winV kind F T i, by unfold winV; omega⟩
  have hN2 : N ≤ 62 := by omega
  have HN : Hid (winV kind F T i = N) := by show _ = N; unfold winV; omega
  obtain ⟨mi, hmi⟩ : ∃ mi, midV F T i = mi := ⟨_, rfl⟩
  obtain ⟨fs, hfs⟩ : ∃ fs, fstV kind F T i = fs := ⟨_, rfl⟩
  obtain ⟨ls, hls⟩ : ∃ ls, lstV kind F T i = ls := ⟨_, rfl⟩
  have HQ1 : Hid ((mi - R) / (2 * (T : Int)) = fs ∧ (mi + R) / (2 * (T : Int)) = ls) := by rw [← hfs, ← hls, ← hmi, HR.out]; exact ⟨rfl, rfl⟩
  have hmi' : (2 * (i : Int) + 1) * (F : Int) - (T : Int) = mi := hmi
  obtain ⟨pr, hpr⟩ : ∃ pr, (2 * (i : Int) + 1) * (F : Int) = pr := ⟨_, rfl⟩
  rw [hpr] at hmi'
  obtain ⟨st, hst⟩ : ∃ st : Int, 2 * (T : Int) = st := ⟨_, rfl⟩
  obtain ⟨f1, f2, t1, t2, hi, ft⟩ := h
  obtain ⟨F1, hF1⟩ : ∃ F1 : Nat, F = F1 + 1 := ⟨F - 1, by omega⟩
  have eF1 : (F : Int) - 1 = (F1 : Int) := by omega
  have hst1 : 0 < st := by omega
  have hst2 : st ≤ 2048 := by omega
  rw [hmi] at M1 M2 HD
  rw [hfs] at HD hN fl
  rw [hls] at HD hN fl
  rw [hst] at HQ1 HD
  have HFk2 : Hid (∀ k, wfV kind F T i k = wgt kind (max F T : Nat) (st * k - mi)) := fun k => by rw [HFk.out k, hmi, hst]
  have hfs1 : -9216 ≤ fs := lo_of (B := 9216) (s := st) (by omega) (by decide) (by have := (HD.out fs (Int.le_refl _) fl).1; omega)
  have hls1 : ls ≤ 2101248 := hi_of (B := 2101248) (s := st) (by omega) (by decide) (by have := (HD.out ls fl (Int.le_refl _)).2; omega)
  have hR1 : 1 ≤ R := by omega
  have hR2 : R ≤ 4096 := by omega
  have hpr1 : -2048 ≤ pr := by omega
  have hpr2 : pr ≤ 4194304 := by omega
  have HP : Hid (∀ k, plV F k = min (max k 0) (F1 : Int)) := fun k => by unfold plV; rw [eF1]
  generalize hkf : kfn kind = fg at HCk eg ⊢
  have HE : Hid (wlsV kind F T i = wrun (wfV kind F T i) (plV F) fs N) := by
    show wlsV kind F T i = _
    rw [HW.out, HN.out, hfs]
  rw [hfs] at HBd
  rw [HE.out]
  generalize hwf : wfV kind F T i = wf at HFk2 HBd HWs ⊢
  have HCk2 : Hid (∀ (k d : Int) (W : World), d = st * k - mi → Q w W → -8192 ≤ d → d ≤ 8192 → Calls Try.prog fg #[.int .i64 d, .pointer (some ⟨b, 0, none⟩)] W fun e w' => e = .returned (.int .i64 (wf k)) ∧ Q W w') := fun k d W hd hq h1 h2 => by
    rw [HFk2.out k, ← hd]
    exact HCk.out d W (hq.cell HB.out) h1 h2
  clear HFk HFk2 HCk HB hb hk HW HE HN HR hR hr hmx hkf hwf hd M1 win hfs hls hmi hF1
  go_enter Try.func35, Try.ntmps35
  go_wp2_with fail
  refine (HCd.out (mi - R) st _ hst1 (by omega) (by omega) (by omega)).mono ?_
  rintro e w2 ⟨rfl, q2⟩
  rw [HQ1.out.1]
  have c0 : w2.cell? ⟨w.heap.size, 0, none⟩ = some (.int .i64 R) := q2.cell (by simp [go_sem])
  have c1 : w2.cell? ⟨w.heap.size, 1, none⟩ = some (.func (.func fg) #[] #[.pointer (some ⟨b, 0, none⟩)]) := q2.cell (by simp [go_sem])
  have HQ2 : Hid (Q w w2) := ((Q.refl w).cells _ _).trans q2
  clear q2
  go_wp2_with fail
  refine (HCd.out (mi + R) st _ hst1 (by omega) (by omega) (by omega)).mono ?_
  rintro e w3 ⟨rfl, q3⟩
  rw [HQ1.out.2]
  have c1 : w3.cell? ⟨w.heap.size, 1, none⟩ = some (.func (.func fg) #[] #[.pointer (some ⟨b, 0, none⟩)]) := q3.cell c1
  have HC1 : Hid (w3.cell? ⟨w.heap.size, 1, none⟩ = some (.func (.func fg) #[] #[.pointer (some ⟨b, 0, none⟩)])) := c1
  have HQ3 : Hid (Q w w3) := HQ2.out.trans q3
  clear q3 HQ2 c0 c1
  go_wp2_with fail
  go_loopg [8, 9, 52] N (fun gh s8 s9 s52 wr => ∃ (j n : Nat) (aP aW : Option Addr) (cP cW : Nat), s8 = .slice aP n cP ∧ s9 = .slice aW n cW ∧ s52 = .int .i64 (j : Int) ∧ j ≤ N ∧ gh = N - j ∧ n ≤ j ∧ Hid (Wl w3 wr (.slice aP n cP) (.slice aW n cW) (wrun wf (plV F) fs j) n))
  case atStart => exact ⟨0, 0, none, none, 0, 0, rfl, rfl, rfl, Nat.zero_le _, rfl, Nat.le_refl _, Wl.start w3⟩
  case round =>
    obtain ⟨j, n, aP, aW, cP, cW, rfl, rfl, rfl, hj, rfl, hnj, HL⟩ := hrel
    by_cases hlt : j < N
    · have hltz : (j : Int) < (N : Int) := by omega
      obtain ⟨k, hk⟩ : ∃ k, fs + (j : Int) = k := ⟨_, rfl⟩
      obtain ⟨pq, hpq⟩ : ∃ pq, st * k = pq := ⟨_, rfl⟩
      obtain ⟨d, hd⟩ : ∃ d, pq - mi = d := ⟨_, rfl⟩
      have bd := HD.out k (by omega) (by omega)
      rw [hpq, hd] at bd
      obtain ⟨bd1, bd2⟩ := bd
      have bp1 : -16777216 ≤ pq := by omega
      have bp2 : pq ≤ 16777216 := by omega
      have bk1 : -9216 ≤ k := by omega
      have bk2 : k ≤ 2101248 := by omega
      have c1 := HL.out.q.cell HC1.out
      have C := HCk2.out k d wr (by rw [hpq, hd]) (HQ3.out.trans HL.out.q) bd1 (by omega)
      obtain ⟨nn, hnn⟩ : ∃ nn, wf k = nn := ⟨_, rfl⟩
      rw [hnn] at C
      have bn := HWs.out k
      rw [hnn] at bn
      obtain ⟨bn1, bn2⟩ := bn
      have HX : Hid (wrun wf (plV F) fs (j + 1) = wput (wrun wf (plV F) fs j) (plV F k) nn) := by
        show wput (wrun wf (plV F) fs j) (plV F (fs + j)) (wf (fs + j)) = _
        rw [hk, hnn]
      have HBj := HBd.out j (by omega)
      have HBJ : Hid _ := HBj
      clear HBj hnn
      go_wp2_with fail
      refine C.mono ?_
      rintro e w5 ⟨rfl, q5⟩
      clear C c1
      have HL5 : Hid (Wl w3 w5 (.slice aP n cP) (.slice aW n cW) (wrun wf (plV F) fs j) n) := HL.out.next q5
      clear q5 HL
      by_cases hz : nn = 0
      · subst hz
        have HL6 : Hid (Wl w3 w5 (.slice aP n cP) (.slice aW n cW) (wrun wf (plV F) fs (j + 1)) n) := by rw [HX.out, wput_zero]; exact HL5.out
        clear HL5 HX
        go_wp2_with fail
        go_roundg (N - (j + 1))
        case measure => go_light; omega
        case rel => go_light; exact ⟨j + 1, n, aP, aW, cP, cW, rfl, rfl, by simp, by omega, rfl, by omega, HL6⟩
      · have hz' : (nn == 0) = false := by simpa using hz
        have hmxk : ∀ (ts : Array TypeId) (t : TypeId) (w : World), (Builtin.max_ ts t #[.int .i64 k, .int .i64 0]).run Try.prog w = .ok (.int .i64 (max k 0)) w := fun ts t w => run_mx2 ts t _ _ w
        obtain ⟨mk, hmk⟩ : ∃ mk, max k 0 = mk := ⟨_, rfl⟩
        rw [hmk] at hmxk
        have hmnk : ∀ (ts : Array TypeId) (t : TypeId) (w : World), (Builtin.min_ ts t #[.int .i64 mk, .int .i64 (F1 : Int)]).run Try.prog w = .ok (.int .i64 (min mk (F1 : Int))) w := fun ts t w => run_mn2 ts t _ _ w
        obtain ⟨p, hp⟩ : ∃ p, min mk (F1 : Int) = p := ⟨_, rfl⟩
        rw [hp] at hmnk
        have hpl : plV F k = p := by rw [HP.out k, hmk, hp]
        rw [hpl] at HX
        clear hmk hp hpl
        rcases wput_cases (wrun wf (plV F) fs j) p nn with ⟨_, e⟩ | ⟨_, he, hne⟩ | ⟨M, x, _, hM, he⟩
        · exact absurd e hz
        · -- a new place
          obtain ⟨gP, c2, x2, gW, c4, x4, r1, r2, HN6⟩ := HL5.out.app p nn (by omega)
          have HL6 : Hid (Wl w3 x4 (.slice (some ⟨gP, 0, none⟩) (n + 1) c2) (.slice (some ⟨gW, 0, none⟩) (n + 1) c4) (wrun wf (plV F) fs (j + 1)) (n + 1)) := by rw [HX.out, he]; exact HN6
          clear HN6
          by_cases hn0 : n = 0
          · subst hn0
            clear HL5 HX hne he
            go_wp2_with (at_builtin; go_must (first | refine wpList_appK (.tmp 93) (.tmp 95) 62 rfl rfl (by simp [Act.eval, Act.put]) (by simp [Act.eval, Act.put]) r1 ?_ | refine wpList_appK (.tmp 97) (.tmp 99) 62 rfl rfl (by simp [Act.eval, Act.put]) (by simp [Act.eval, Act.put]) r2 ?_))
            go_roundg (N - (j + 1))
            case measure => go_light; omega
            case rel => go_light; exact ⟨j + 1, 0 + 1, _, _, _, _, rfl, rfl, by simp, by omega, rfl, by omega, HL6⟩
          · obtain ⟨n', hn'⟩ : ∃ n', n = n' + 1 := ⟨n - 1, by omega⟩
            have en' : (n : Int) - 1 = (n' : Int) := by omega
            have hlen := HL5.out.len
            obtain ⟨M, ⟨pp, xx⟩, hM⟩ : ∃ M e, wrun wf (plV F) fs j = M ++ [e] := by
              have hne0 : wrun wf (plV F) fs j ≠ [] := fun e => by rw [e] at hlen; exact hn0 hlen
              exact ⟨_, _, (List.dropLast_concat_getLast hne0).symm⟩
            have hpp : pp ≠ p := hne (pp, xx) (by rw [hM]; simp)
            rw [hM] at HL5
            obtain ⟨g1, d1, g2, d2, e1, e2, e3, k1, k2, k3, _⟩ := HL5.out.last
            injection e1 with e1a e1b e1c
            injection e2 with e2a e2b e2c
            subst e1a e1c e2a e2c
            have hM1 : M.length = n' := by omega
            rw [hM1] at k1
            have hpp' : (pp == p) = false := by simpa using hpp
            have hn2 : (0 : Int) ≤ (n' : Int) := by omega
            have hn3 : (n' : Int) < (n : Int) := by omega
            have hn4 : n' < n := by omega
            clear HL5 HX hne he hlen hM e3 k2 k3 e1b e2b hM1 hn'
            go_wp2_with (at_builtin; go_must (first | refine wpList_appK (.tmp 93) (.tmp 95) 62 rfl rfl (by simp [Act.eval, Act.put]) (by simp [Act.eval, Act.put]) r1 ?_ | refine wpList_appK (.tmp 97) (.tmp 99) 62 rfl rfl (by simp [Act.eval, Act.put]) (by simp [Act.eval, Act.put]) r2 ?_))
            go_roundg (N - (j + 1))
            case measure => go_light; omega
            case rel => go_light; exact ⟨j + 1, n + 1, _, _, _, _, rfl, rfl, by simp, by omega, rfl, by omega, HL6⟩
        · -- the last place again
          have bx := HBJ.out (p, x) (by rw [hM]; simp)
          simp only at bx
          obtain ⟨bx1, bx2⟩ := bx
          rw [hM] at HL5
          obtain ⟨g1, d1, g2, d2, e1, e2, e3, k1, k2, k3, kS⟩ := HL5.out.last
          injection e1 with e1a e1b e1c
          injection e2 with e2a e2b e2c
          subst e1a e1c e2a e2c
          obtain ⟨n', hM1⟩ : ∃ n', M.length = n' := ⟨_, rfl⟩
          rw [hM1] at k1 k2 k3 kS e3
          have en' : (n : Int) - 1 = (n' : Int) := by omega
          have hn2 : (0 : Int) ≤ (n' : Int) := by omega
          have hn3 : (n' : Int) < (n : Int) := by omega
          have hn4 : n' < n := by omega
          have HL6 : Hid (Wl w3 (w5.setCell ⟨g2, n', none⟩ (.int .i64 (x + nn))) (.slice (some ⟨g1, 0, none⟩) n cP) (.slice (some ⟨g2, 0, none⟩) n cW) (wrun wf (plV F) fs (j + 1)) n) := by rw [HX.out, he]; exact kS (x + nn)
          clear HL5 HX he hM kS e3 e1b e2b hM1
          go_wp2_with fail
          generalize w5.setCell ⟨g2, n', none⟩ (.int .i64 (x + nn)) = w6 at HL6 ⊢
          go_roundg (N - (j + 1))
          case measure => go_light; omega
          case rel => go_light; exact ⟨j + 1, n, _, _, _, _, rfl, rfl, by simp, by omega, rfl, by omega, HL6⟩
    · have hge : ¬ (j : Int) < (N : Int) := by omega
      obtain rfl : j = N := by omega
      go_wp2_with fail
      go_ret2
      exact ⟨_, _, rfl, n, HL.out.base HQ3.out⟩
end Go.Proofs.Ytcolhgngiflkhaa

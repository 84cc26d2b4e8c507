/- Weights sum to more than 0, whatever the sizes and the place: plain. -/
import Derived.Test.YtlbeoiopgkkcdaaG4263890f
import Derived.Test.YtlbeoiopgkkcdaaGcb02c9db
import Derived.Test.YtlbeoiopgkkcdaaG5f31e9cc
namespace Go.Proofs.Ytlbeoiopgkkcdaa
set_option linter.unusedVariables false
set_option linter.unusedSimpArgs false

theorem sumF_pos {f : Nat → Int} : ∀ {n j : Nat}, (∀ i, i < n → 0 ≤ f i) → j < n → 0 < f j → 0 < sumF f n
  | 0, j, _, hj, _ => by omega
  | n + 1, j, h, hj, hp => by
    have h0 := sumF_nonneg (f := f) n (fun i hi => h i (by omega))
    have h1 := h n (by omega)
    unfold sumF
    by_cases e : j = n
    · subst e; omega
    · have := sumF_pos (n := n) (j := j) (fun i hi => h i (by omega)) (by omega) hp
      omega
/-- Where the window lies. -/
theorem win_eq {kind : Int} {F T i : Nat} (h : Sz F T i) : 2 * (T : Int) * fstV kind F T i ≤ midV F T i - rea kind (max F T : Nat) ∧ midV F T i - rea kind (max F T : Nat) < 2 * (T : Int) * fstV kind F T i + 2 * (T : Int) ∧ 2 * (T : Int) * lstV kind F T i ≤ midV F T i + rea kind (max F T : Nat) ∧ midV F T i + rea kind (max F T : Nat) < 2 * (T : Int) * lstV kind F T i + 2 * (T : Int) := by
  have hT : 0 < 2 * (T : Int) := by have := h.t1; omega
  have a1 := Int.mul_ediv_add_emod (midV F T i - rea kind (max F T : Nat)) (2 * (T : Int))
  have a2 := Int.emod_nonneg (midV F T i - rea kind (max F T : Nat)) (by omega : 2 * (T : Int) ≠ 0)
  have a3 := Int.emod_lt_of_pos (midV F T i - rea kind (max F T : Nat)) hT
  have b1 := Int.mul_ediv_add_emod (midV F T i + rea kind (max F T : Nat)) (2 * (T : Int))
  have b2 := Int.emod_nonneg (midV F T i + rea kind (max F T : Nat)) (by omega : 2 * (T : Int) ≠ 0)
  have b3 := Int.emod_lt_of_pos (midV F T i + rea kind (max F T : Nat)) hT
  change 2 * (T : Int) * fstV kind F T i + _ = _ at a1
  change 2 * (T : Int) * lstV kind F T i + _ = _ at b1
  omega
theorem wls_sum {kind : Int} {F T i : Nat} : sndSum (wlsV kind F T i) = sumF (fun j => wfV kind F T i (fstV kind F T i + j)) (winV kind F T i) := wrun_sum _ _ _ _
/-- Box and Tent. -/
theorem pos_plain {kind : Int} {F T i : Nat} (h : Sz F T i) (hn : ∀ d, 0 ≤ wgt kind (max F T : Nat) d) (hp : ∀ d, -((max F T : Nat) : Int) ≤ d → d < ((max F T : Nat) : Int) → 0 < wgt kind (max F T : Nat) d) : 0 < sndSum (wlsV kind F T i) := by
  rw [wls_sum]
  obtain ⟨w1, w2, w3, w4⟩ := win_eq (kind := kind) h
  have hr := rea_size (kind := kind) (m := (max F T : Nat)) (by have := h.f1; omega)
  have hmT : (T : Int) ≤ ((max F T : Nat) : Int) := by omega
  have hst : 0 < 2 * (T : Int) := by have := h.t1; omega
  obtain ⟨st, hs⟩ : ∃ st, 2 * (T : Int) = st := ⟨_, rfl⟩
  have hww : winV kind F T i = (lstV kind F T i - fstV kind F T i + 1).toNat := rfl
  have hwf : ∀ k, wfV kind F T i k = wgt kind (max F T : Nat) (st * k - midV F T i) := fun k => by rw [← hs]; rfl
  rw [hs] at w1 w2 w3 w4 hst
  generalize ((max F T : Nat) : Int) = m at *
  generalize rea kind m = R at *
  generalize midV F T i = mid at *
  generalize fstV kind F T i = fs at *
  generalize lstV kind F T i = ls at *
  generalize winV kind F T i = N at *
  have p1 := kx_prop (st := st) (mid := mid) (x := -m) hst
  obtain ⟨k, hk⟩ : ∃ k, kx st mid (-m) = k := ⟨_, rfl⟩
  rw [hk] at p1
  have k1 : fs ≤ k := by
    rcases Int.lt_or_le k fs with c | c
    · have h2 : st * (k + 1) ≤ st * fs := Int.mul_le_mul_of_nonneg_left (by omega) (by omega)
      rw [Int.mul_add] at h2
      omega
    · exact c
  have k2 : k ≤ ls := by
    rcases Int.lt_or_le ls k with c | c
    · have h2 : st * (ls + 1) ≤ st * k := Int.mul_le_mul_of_nonneg_left (by omega) (by omega)
      rw [Int.mul_add] at h2
      omega
    · exact c
  refine sumF_pos (j := (k - fs).toNat) (fun j _ => by rw [hwf]; exact hn _) (by omega) ?_
  rw [hwf, show fs + ((k - fs).toNat : Int) = k by omega]
  exact hp _ (by omega) (by omega)
theorem pos_cubic {F T i : Nat} (h : Sz F T i) : 0 < sndSum (wlsV 3 F T i) := by
  rw [wls_sum]
  obtain ⟨w1, w2, w3, w4⟩ := win_eq (kind := 3) h
  have hm0 : 0 < ((max F T : Nat) : Int) := by have := h.f1; omega
  have hmT : (T : Int) ≤ ((max F T : Nat) : Int) := by omega
  have hst : 0 < 2 * (T : Int) := by have := h.t1; omega
  obtain ⟨st, hs⟩ : ∃ st, 2 * (T : Int) = st := ⟨_, rfl⟩
  have hww : winV 3 F T i = (lstV 3 F T i - fstV 3 F T i + 1).toNat := rfl
  have hre : rea 3 ((max F T : Nat) : Int) = 4 * ((max F T : Nat) : Int) := rfl
  have hwf : ∀ k, wfV 3 F T i k = cubV (absI (st * k - midV F T i)) (2 * ((max F T : Nat) : Int)) := fun k => by rw [← hs]; rfl
  rw [hre] at w1 w2 w3 w4
  rw [hs] at w1 w2 w3 w4 hst
  generalize ((max F T : Nat) : Int) = m at *
  generalize midV F T i = mid at *
  generalize fstV 3 F T i = fs at *
  generalize lstV 3 F T i = ls at *
  generalize winV 3 F T i = N at *
  have hst2 : st ≤ 2 * m := by omega
  -- how many steps fit into 2 m
  obtain ⟨q, hq1, hq2, hq0⟩ : ∃ q, st * q ≤ 2 * m ∧ 2 * m < st * (q + 1) ∧ 1 ≤ q := by
    have a1 := Int.mul_ediv_add_emod (2 * m) st
    have a2 := Int.emod_nonneg (2 * m) (by omega : st ≠ 0)
    have a3 := Int.emod_lt_of_pos (2 * m) hst
    refine ⟨2 * m / st, by omega, by rw [Int.mul_add]; omega, ?_⟩
    exact (Int.le_ediv_iff_mul_le hst).2 (by omega)
  have le_of : ∀ a b : Int, st * a < st * b + st → a ≤ b := fun a b hh => by
    rcases Int.lt_or_le b a with c | c
    · have h2 : st * (b + 1) ≤ st * a := Int.mul_le_mul_of_nonneg_left (by omega) (by omega)
      rw [Int.mul_add] at h2
      omega
    · exact c
  have pa := kx_prop (st := st) (mid := mid) (x := -(2 * m) + 1) hst
  have pc := kx_prop (st := st) (mid := mid) (x := -m) hst
  have pd := kx_prop (st := st) (mid := mid) (x := m) hst
  have pb := kx_prop (st := st) (mid := mid) (x := 2 * m) hst
  have ga : ∀ k, kx st mid (-(2 * m) + 1) ≤ k → mid + (-(2 * m) + 1) ≤ st * k := fun k hk => kx_ge hst hk
  have gc : ∀ k, kx st mid (-m) ≤ k → mid + -m ≤ st * k := fun k hk => kx_ge hst hk
  have gd : ∀ k, k < kx st mid m → st * k < mid + m := fun k hk => kx_lt hst hk
  have gb : ∀ k, k < kx st mid (2 * m) → st * k < mid + 2 * m := fun k hk => kx_lt hst hk
  obtain ⟨a, ha⟩ : ∃ a, kx st mid (-(2 * m) + 1) = a := ⟨_, rfl⟩
  obtain ⟨c, hc⟩ : ∃ c, kx st mid (-m) = c := ⟨_, rfl⟩
  obtain ⟨e, he⟩ : ∃ e, kx st mid m = e := ⟨_, rfl⟩
  obtain ⟨b, hb⟩ : ∃ b, kx st mid (2 * m) = b := ⟨_, rfl⟩
  rw [ha] at pa ga
  rw [hc] at pc gc
  rw [he] at pd gd
  rw [hb] at pb gb
  have o1 : fs + 1 ≤ a := by
    have := le_of (fs + 1) a (by rw [Int.mul_add]; omega)
    exact this
  have o2 : a ≤ c := le_of a c (by omega)
  have o3 : c ≤ e := le_of c e (by omega)
  have o4 : e ≤ b := le_of e b (by omega)
  have o5 : b ≤ ls + 1 := le_of b (ls + 1) (by rw [Int.mul_add]; omega)
  -- how many there are
  have n1 : a - fs - 1 ≤ q + 1 := le_of _ _ (by rw [Int.mul_sub, Int.mul_sub]; simp only [Int.mul_add, Int.mul_one] at hq2 ⊢; omega)
  have n2 : q ≤ e - c := le_of _ _ (by rw [Int.mul_sub]; omega)
  have n3 : ls - b ≤ q := le_of _ _ (by rw [Int.mul_sub]; simp only [Int.mul_add, Int.mul_one] at hq2; omega)
  have hm3 : 0 < m * m * m := Int.mul_pos (Int.mul_pos hm0 hm0) hm0
  have abs0 : ∀ d, 0 ≤ absI d := fun d => by unfold absI; omega
  have key := six (f := fun j => 27 * wfV 3 F T i (fs + j)) (A := (a - fs).toNat) (C1 := (c - fs).toNat) (C2 := (e - fs).toNat) (B := (b - fs).toNat) (N := N) (L := -(32 * (m * m * m))) (H := 243 * (m * m * m)) (by omega) (by omega) (by omega) (by omega) (by omega)
    (by
      show 0 ≤ 27 * wfV 3 F T i (fs + 0)
      rw [hwf, Int.add_zero]
      have hout : 2 * (2 * m) ≤ absI (st * fs - mid) := by unfold absI; omega
      unfold cubV
      rw [if_neg (by omega), if_neg (by omega)]
      decide)
    (fun j _ _ => by rw [hwf]; exact cub_low (abs0 _) hm0)
    (fun j j1 j2 => by
      rw [hwf]
      have g1 := ga (fs + j) (by omega)
      have g2 := gb (fs + j) (by omega)
      have := (cub_near (abs0 _) (show absI (st * (fs + j) - mid) < 2 * m by unfold absI; omega)).1
      omega)
    (fun j j1 j2 => by
      rw [hwf]
      have g1 := gc (fs + j) (by omega)
      have g2 := gd (fs + j) (by omega)
      have := cub_mid (abs0 _) (show absI (st * (fs + j) - mid) ≤ m by unfold absI; omega) hm0
      omega)
    (fun j j1 j2 => by
      rw [hwf]
      have g1 := ga (fs + j) (by omega)
      have g2 := gb (fs + j) (by omega)
      have := (cub_near (abs0 _) (show absI (st * (fs + j) - mid) < 2 * m by unfold absI; omega)).1
      omega)
    (fun j _ _ => by rw [hwf]; exact cub_low (abs0 _) hm0)
  rw [sumF_mul] at key
  generalize m * m * m = M at *
  have b1 : (((a - fs).toNat - 1 : Nat) : Int) * (32 * M) ≤ (q + 1) * (32 * M) := Int.mul_le_mul_of_nonneg_right (by omega) (by omega)
  have b2 : q * (243 * M) ≤ (((e - fs).toNat - (c - fs).toNat : Nat) : Int) * (243 * M) := Int.mul_le_mul_of_nonneg_right (by omega) (by omega)
  have b3 : ((N - (b - fs).toNat : Nat) : Int) * (32 * M) ≤ (q + 1) * (32 * M) := Int.mul_le_mul_of_nonneg_right (by omega) (by omega)
  have b4 : 1 * M ≤ q * M := Int.mul_le_mul_of_nonneg_right hq0 (by omega)
  simp only [Int.mul_neg] at key
  have e1 : q * (243 * M) = 243 * (q * M) := by grind
  have e2 : (q + 1) * (32 * M) = 32 * (q * M) + 32 * M := by grind
  rw [e1] at b2
  rw [e2] at b1 b3
  omega
theorem wls_pos {kind : Int} {F T i : Nat} (hk : kind = 1 ∨ kind = 2 ∨ kind = 3) (h : Sz F T i) : 0 < sndSum (wlsV kind F T i) := by
  have hm0 : 0 < ((max F T : Nat) : Int) := by have := h.f1; omega
  rcases hk with rfl | rfl | rfl
  · refine pos_plain h (fun d => ?_) (fun d h1 h2 => ?_)
    · show 0 ≤ if _ then (1 : Int) else 0; split <;> omega
    · show 0 < if _ then (1 : Int) else 0; rw [if_pos ⟨h1, h2⟩]; decide
  · refine pos_plain h (fun d => ?_) (fun d h1 h2 => ?_)
    · show 0 ≤ max (2 * ((max F T : Nat) : Int) - absI d) 0; omega
    · show 0 < max (2 * ((max F T : Nat) : Int) - absI d) 0; unfold absI; omega
  · exact pos_cubic h
end Go.Proofs.Ytlbeoiopgkkcdaa
/- What taps are: rising, none 0, summing to 65536. -/
namespace Go.Proofs.Ytlbeoiopgkkcdaa
set_option linter.unusedVariables false
set_option linter.unusedSimpArgs false

theorem tpK_mem {L : List (Int × Int)} {sh : Nat → Int} : ∀ {j : Nat} {e : Int × Int}, e ∈ tpK L sh j → ∃ k, k < j ∧ e = ((L.getD k (0, 0)).1, sh k) ∧ sh k ≠ 0
  | 0, e, he => by cases he
  | j + 1, e, he => by
    unfold tpK at he
    split at he
    · obtain ⟨k, h1, h2⟩ := tpK_mem he; exact ⟨k, by omega, h2⟩
    · rename_i hz
      rcases List.mem_append.1 he with h | h
      · obtain ⟨k, h1, h2⟩ := tpK_mem h; exact ⟨k, by omega, h2⟩
      · rw [List.mem_singleton] at h; exact ⟨j, by omega, h, hz⟩
theorem tpK_sum (L : List (Int × Int)) (sh : Nat → Int) : ∀ j, sndSum (tpK L sh j) = sumF sh j
  | 0 => rfl
  | j + 1 => by
    have ih := tpK_sum L sh j
    show sndSum (if sh j = 0 then tpK L sh j else tpK L sh j ++ [((L.getD j (0, 0)).1, sh j)]) = sumF sh j + sh j
    by_cases h : sh j = 0
    · rw [if_pos h, ih, h]; omega
    · rw [if_neg h]
      unfold sndSum at ih ⊢
      rw [List.map_append, List.sum_append, ih]; simp
theorem tpK_rises {L : List (Int × Int)} {sh : Nat → Int} (hL : L.Pairwise (fun x y => x.1 < y.1)) : ∀ j, j ≤ L.length → (tpK L sh j).Pairwise (fun x y => x.1 < y.1)
  | 0, _ => List.Pairwise.nil
  | j + 1, hj => by
    have ih := tpK_rises (sh := sh) hL j (by omega)
    unfold tpK
    split
    · exact ih
    · refine List.pairwise_append.2 ⟨ih, List.pairwise_singleton _ _, fun e he e2 he2 => ?_⟩
      rw [List.mem_singleton] at he2
      subst he2
      obtain ⟨k, h1, h2, _⟩ := tpK_mem he
      rw [h2]
      show (L.getD k (0, 0)).1 < (L.getD j (0, 0)).1
      rw [List.getD_eq_getElem?_getD, List.getD_eq_getElem?_getD, List.getElem?_eq_getElem (by omega), List.getElem?_eq_getElem (by omega)]
      exact List.pairwise_iff_getElem.1 hL k j (by omega) (by omega) h1
/-- All that is told of taps. -/
structure TapOk (kind : Int) (F T i : Nat) (L : List (Int × Int)) : Prop where
  at_ : ∀ e ∈ L, 0 ≤ e.1 ∧ e.1 < (F : Int) ∧ e.2 ≠ 0 ∧ (kind ≠ 3 → 0 ≤ e.2) ∧ -72057594037927936 ≤ e.2 ∧ e.2 ≤ 72057594037927937
  rise : L.Pairwise (fun x y => x.1 < y.1)
  sum : sndSum L = 65536
  len : L.length ≤ 64
  one : F = T → ∃ x, L = [((i : Int), x)]
theorem plV_mono (F : Nat) : ∀ x y : Int, x ≤ y → plV F x ≤ plV F y := fun x y h => by unfold plV; omega
theorem plV_in {F : Nat} (h : 1 ≤ F) (k : Int) : 0 ≤ plV F k ∧ plV F k < (F : Int) := by unfold plV; omega
/-- One weight alone. -/
theorem wrun_one {f pl : Int → Int} {a i : Int} (hz : ∀ k, k ≠ i → f k = 0) (hi : f i ≠ 0) (ha : a ≤ i) : ∀ n : Nat, wrun f pl a n = if a + (n : Int) ≤ i then [] else [(pl i, f i)]
  | 0 => by rw [if_pos (by omega)]; rfl
  | n + 1 => by
    have ih := wrun_one (pl := pl) hz hi ha n
    show wput (wrun f pl a n) (pl (a + n)) (f (a + n)) = _
    rw [ih]
    by_cases c : a + (n : Int) = i
    · rw [if_pos (by omega), if_neg (by omega), c, wput_new hi (fun e he => by cases he)]; rfl
    · rw [hz _ c, wput_zero]
      by_cases c2 : a + (n : Int) ≤ i
      · rw [if_pos c2, if_pos (by omega)]
      · rw [if_neg c2, if_neg (by omega)]
theorem wgt_own {kind m d : Int} (hk : kind = 1 ∨ kind = 2 ∨ kind = 3) (hm : 0 < m) : (0 < wgt kind m 0) ∧ (2 * m ≤ absI d → (absI d = 2 * m ∨ 4 * m ≤ absI d) → wgt kind m d = 0) := by
  rcases hk with rfl | rfl | rfl
  · refine ⟨?_, fun h1 _ => ?_⟩
    · show 0 < if _ then (1 : Int) else 0; rw [if_pos ⟨by omega, by omega⟩]; decide
    · show (if _ then (1 : Int) else 0) = 0; rw [if_neg (fun h => by unfold absI at h1; omega)]
  · refine ⟨?_, fun h1 _ => ?_⟩
    · show 0 < max (2 * m - absI 0) 0; unfold absI; omega
    · show max (2 * m - absI d) 0 = 0; omega
  · refine ⟨?_, fun h1 h2 => ?_⟩
    · show 0 < cubV (absI 0) (2 * m)
      have h3 : 0 < m * m * m := Int.mul_pos (Int.mul_pos hm hm) hm
      have := cub_mid (c := absI 0) (m := m) (by decide) (by show (0 : Int) ≤ m; omega) hm
      omega
    · show cubV (absI d) (2 * m) = 0
      unfold cubV
      rw [if_neg (by omega)]
      rcases h2 with h | h
      · rw [if_pos (by omega), h]; grind
      · rw [if_neg (by omega)]
theorem wls_one {kind : Int} {F i : Nat} (hk : kind = 1 ∨ kind = 2 ∨ kind = 3) (h : Sz F F i) : ∃ x, wlsV kind F F i = [((i : Int), x)] := by
  have hF : 0 < (F : Int) := by have := h.f1; omega
  have hmx : (max F F : Nat) = F := by omega
  have hmid : midV F F i = 2 * (F : Int) * (i : Int) := by unfold midV; grind
  have hwf : ∀ k, wfV kind F F i k = wgt kind F (2 * (F : Int) * k - 2 * (F : Int) * (i : Int)) := fun k => by
    show wgt kind ((max F F : Nat) : Int) _ = _
    rw [hmid, hmx]
  obtain ⟨w1, w2, w3, w4⟩ := win_eq (kind := kind) h
  have hr := rea_size (kind := kind) (m := (max F F : Nat)) (by omega)
  rw [hmx] at hr
  rw [hmid, hmx] at w1 w2 w3 w4
  have hww : winV kind F F i = (lstV kind F F i - fstV kind F F i + 1).toNat := rfl
  have le_of : ∀ a b : Int, 2 * (F : Int) * a < 2 * (F : Int) * b + 2 * (F : Int) → a ≤ b := fun a b hh => by
    rcases Int.lt_or_le b a with c | c
    · have h2 : 2 * (F : Int) * (b + 1) ≤ 2 * (F : Int) * a := Int.mul_le_mul_of_nonneg_left (by omega) (by omega)
      rw [Int.mul_add] at h2
      omega
    · exact c
  have a1 : fstV kind F F i ≤ (i : Int) := le_of _ _ (by omega)
  have a2 : (i : Int) ≤ lstV kind F F i := le_of _ _ (by omega)
  have key := wrun_one (f := wfV kind F F i) (pl := plV F) (a := fstV kind F F i) (i := (i : Int)) (fun k hk' => by
    rw [hwf]
    refine (wgt_own hk hF).2 ?_ ?_
    · have h1 : 2 * (F : Int) * k - 2 * (F : Int) * (i : Int) = 2 * (F : Int) * (k - i) := by rw [Int.mul_sub]
      rw [h1]
      rcases Int.lt_or_gt_of_ne hk' with c | c
      · have : 2 * (F : Int) * (k - i) ≤ 2 * (F : Int) * (-1) := Int.mul_le_mul_of_nonneg_left (by omega) (by omega)
        unfold absI; omega
      · have : 2 * (F : Int) * 1 ≤ 2 * (F : Int) * (k - i) := Int.mul_le_mul_of_nonneg_left (by omega) (by omega)
        unfold absI; omega
    · have h1 : 2 * (F : Int) * k - 2 * (F : Int) * (i : Int) = 2 * (F : Int) * (k - i) := by rw [Int.mul_sub]
      rw [h1]
      by_cases c1 : k - i = 1
      · left; rw [c1]; unfold absI; omega
      · by_cases c2 : k - i = -1
        · left; rw [c2]; unfold absI; omega
        · right
          rcases Int.lt_or_gt_of_ne hk' with c | c
          · have : 2 * (F : Int) * (k - i) ≤ 2 * (F : Int) * (-2) := Int.mul_le_mul_of_nonneg_left (by omega) (by omega)
            unfold absI; omega
          · have : 2 * (F : Int) * 2 ≤ 2 * (F : Int) * (k - i) := Int.mul_le_mul_of_nonneg_left (by omega) (by omega)
            unfold absI; omega) (by
    rw [hwf, Int.sub_self]
    have := (wgt_own (d := 0) hk hF).1
    omega) a1 (winV kind F F i)
  refine ⟨wfV kind F F i (i : Int), ?_⟩
  show wrun _ _ _ _ = _
  rw [key, if_neg (by omega)]
  have : plV F (i : Int) = (i : Int) := by unfold plV; have := h.i; omega
  rw [this]
theorem taps_ok {kind : Int} {F T i : Nat} (hk : kind = 1 ∨ kind = 2 ∨ kind = 3) (h : Sz F T i) : TapOk kind F T i (tapsL (wlsV kind F T i)) := by
  have hpos := wls_pos hk h
  obtain ⟨hb1, hb2⟩ := wls_bound (kind := kind) h
  have hrise := (wrun_rises (f := wfV kind F T i) (a := fstV kind F T i) (plV_mono F) (winV kind F T i)).1
  have hin := wrun_all (f := wfV kind F T i) (a := fstV kind F T i) (P := fun p => 0 ≤ p ∧ p < (F : Int)) (plV_in h.f1) (winV kind F T i)
  change (wlsV kind F T i).Pairwise _ at hrise
  change ∀ e ∈ wlsV kind F T i, _ at hin
  have hkp : kind ≠ 3 → ∀ e ∈ wlsV kind F T i, 0 < e.2 := fun h3 => by
    have hm0 : 0 < ((max F T : Nat) : Int) := by have := h.f1; omega
    refine wrun_pos (fun k => ?_) _
    rcases hk with rfl | rfl | rfl
    · show 0 ≤ if _ then (1 : Int) else 0; split <;> omega
    · show 0 ≤ max (2 * ((max F T : Nat) : Int) - absI _) 0; omega
    · exact absurd rfl h3
  have hone : F = T → ∃ x, wlsV kind F T i = [((i : Int), x)] := fun e => by subst e; exact wls_one hk h
  generalize wlsV kind F T i = L at *
  have hS := hpos
  rw [sndSum_zf] at hS
  have hn : 0 < L.length := by
    cases L with
    | nil => exact absurd hpos (by decide)
    | cons _ _ => simp
  have hM : ∀ k, -1099511627776 ≤ zf (L.map Prod.snd) k ∧ zf (L.map Prod.snd) k ≤ 1099511627776 := fun k => by
    unfold zf
    rw [List.getD_eq_getElem?_getD, List.getElem?_map]
    cases hk : L[k]? with
    | none => decide
    | some e => exact hb2 e (List.mem_of_getElem? hk)
  have hsum : sumF (shrV (zf (L.map Prod.snd)) L.length) L.length = 65536 := shr_sum hn hS
  refine ⟨fun e he => ?_, tpK_rises hrise _ (Nat.le_refl _), ?_, ?_, fun e => ?_⟩
  · obtain ⟨k, h1, h2, h3⟩ := tpK_mem he
    have hkl : L[k]? = some L[k] := List.getElem?_eq_getElem h1
    have hg : L.getD k (0, 0) = L[k] := by rw [List.getD_eq_getElem?_getD, hkl]; rfl
    have hp := hin _ (List.mem_of_getElem? hkl)
    rw [h2, hg]
    have hf := flo_size (z := zf (L.map Prod.snd)) (i := k) hS (hM k)
    refine ⟨hp.1, hp.2, h3, fun h4 => ?_, ?_, ?_⟩
    · have hz := hkp h4 _ (List.mem_of_getElem? hkl)
      have hz2 : zf (L.map Prod.snd) k = L[k].2 := by unfold zf; rw [List.getD_eq_getElem?_getD, List.getElem?_map, hkl]; rfl
      show 0 ≤ shrK _ _ _ _ _
      unfold shrK
      have : 0 ≤ flo (zf (L.map Prod.snd)) (sumF (zf (L.map Prod.snd)) L.length) k := by
        unfold flo
        rw [hz2]
        exact Int.ediv_nonneg (by omega) (by omega)
      split <;> omega
    · show _ ≤ shrK _ _ _ _ _; unfold shrK; split <;> omega
    · show shrK _ _ _ _ _ ≤ _; unfold shrK; split <;> omega
  · exact (tpK_sum _ _ _).trans hsum
  · exact Nat.le_trans (tpK_len _ _ _) (by omega)
  · obtain ⟨x, hx⟩ := hone e
    subst hx
    refine ⟨65536, ?_⟩
    have h0 : shrV (zf [x]) 1 0 = 65536 := by
      have : 0 + shrV (zf [x]) 1 0 = 65536 := hsum
      omega
    show (if shrV (zf [x]) 1 0 = 0 then [] else [] ++ [((i : Int), shrV (zf [x]) 1 0)]) = _
    rw [h0]; rfl
end Go.Proofs.Ytlbeoiopgkkcdaa

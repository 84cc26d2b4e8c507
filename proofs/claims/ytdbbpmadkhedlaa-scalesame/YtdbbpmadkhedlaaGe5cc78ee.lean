/- A stable sort, plain: what is put where, and in which order. -/
import Derived.Sort.LotA
namespace Go.Proofs.Ytdbbpmadkhedlaa
open Go.Sort
set_option linter.unusedVariables false
set_option linter.unusedSimpArgs false

/-- The order of a stable sort of numbers by rests, the greatest first. -/
def tlt (r : Int → Int) (x y : Int) : Prop := r y < r x ∨ (r x = r y ∧ x < y)
/-- What the comparison tells. -/
def cfR (r : Int → Int) (x y : Int) : Int := if r y < r x then -1 else if r x < r y then 1 else 0
def ltR (r : Int → Int) (x y : Int) : Bool := decide (r y < r x)
def tltB (r : Int → Int) (x y : Int) : Bool := decide (r y < r x) || (decide (r x = r y) && decide (x < y))
theorem cfR_neg (r : Int → Int) (x y : Int) : (cfR r x y < 0) ↔ r y < r x := by
  unfold cfR; split
  · simp [*]
  · split <;> simp [*]
theorem tltB_iff {r : Int → Int} {x y : Int} : tltB r x y = true ↔ tlt r x y := by unfold tltB tlt; simp
theorem tlt_trans {r : Int → Int} {x y z : Int} (h : tlt r x y) (h' : tlt r y z) : tlt r x z := by unfold tlt at *; omega
theorem tlt_irr {r : Int → Int} {x : Int} : ¬ tlt r x x := by unfold tlt; omega
theorem tlt_tot {r : Int → Int} {x y : Int} (h : x ≠ y) (h' : ¬ tlt r x y) : tlt r y x := by unfold tlt at *; omega
/-- y behind x: y is ahead if its rest is greater. -/
theorem tlt_of_lt {r : Int → Int} {x y : Int} (h : r x < r y) : tlt r y x := Or.inl h
theorem tlt_of_not {r : Int → Int} {x y : Int} (hxy : x < y) (h : ¬ r x < r y) : tlt r x y := by unfold tlt; omega
theorem swo_tltB (r : Int → Int) : SWO (tltB r) where
  irrefl x := by unfold tltB; simp
  trans x y z h1 h2 := tltB_iff.2 (tlt_trans (tltB_iff.1 h1) (tltB_iff.1 h2))
  ntrans x y z h1 h2 := by
    have a1 : ¬ tlt r x y := fun h => by rw [tltB_iff.2 h] at h1; cases h1
    have a2 : ¬ tlt r y z := fun h => by rw [tltB_iff.2 h] at h2; cases h2
    cases h : tltB r x z
    · rfl
    · have := tltB_iff.1 h
      unfold tlt at *; omega

/-- [a, b) lies in the order. -/
def TS (r : Int → Int) (a b : Nat) (d : Array Int) : Prop := ∀ i j, a ≤ i → i < j → j < b → tlt r d[i]! d[j]!
/-- [a, b) rises by number. -/
def NS (a b : Nat) (d : Array Int) : Prop := ∀ i j, a ≤ i → i < j → j < b → d[i]! < d[j]!
/-- All numbers of [a, m) are less than those of [m, b). -/
def Cro (a m b : Nat) (d : Array Int) : Prop := ∀ i j, a ≤ i → i < m → m ≤ j → j < b → d[i]! < d[j]!

theorem permIn_any {d d' : Array Int} {a b : Nat} {p : Int → Prop} (hb : b ≤ d.size) (h : PermIn a b d d') (hp : ∀ i, a ≤ i → i < b → p d[i]!) : ∀ i, a ≤ i → i < b → p d'[i]! := permIn_all d d' a b p hb h hp

/-! insertionSort -/
theorem insInner_same (r : Int → Int) (a : Nat) : ∀ (j : Nat) (d : Array Int), j < d.size → (∀ k, a ≤ k → k < j → d[k]! < d[j]!) → insInner (ltR r) a j d = insInner (tltB r) a j d
  | 0, d, _, _ => by unfold insInner; rfl
  | j + 1, d, hj, h => by
    unfold insInner
    by_cases ha : j + 1 > a
    · have h1 := h j (by omega) (by omega)
      have e : tltB r d[j + 1]! d[j]! = ltR r d[j + 1]! d[j]! := by
        unfold tltB ltR
        rw [show decide (d[j + 1]! < d[j]!) = false from decide_eq_false (by omega)]
        simp
      rw [e]
      split
      · apply insInner_same r a j _ (by rw [size_swp]; omega)
        intro k hk hkj
        rw [swp_get d (by omega) (by omega), swp_get d (by omega) (by omega), if_neg (by omega), if_neg (by omega), if_pos rfl]
        exact h k hk (by omega)
      · rfl
    · rw [if_neg (by simp; omega), if_neg (by simp; omega)]
theorem insInner_perm (lt : Int → Int → Bool) (a b : Nat) : ∀ (j : Nat) (d : Array Int), j < b → b ≤ d.size → a ≤ j → PermIn a b d (insInner lt a j d)
  | 0, d, _, _, _ => by unfold insInner; exact permIn_refl d a b
  | j + 1, d, hj, hb, ha => by
    unfold insInner
    split
    · rename_i hc
      simp only [Bool.and_eq_true, decide_eq_true_eq] at hc
      exact permIn_trans _ _ _ a b (swp_permIn d a b (j + 1) j ha hj (by omega) (by omega) hb) (insInner_perm lt a b j _ (by omega) (by rw [size_swp]; exact hb) (by omega))
    · exact permIn_refl d a b
theorem insOuter_same (r : Int → Int) (a b : Nat) : ∀ (n i : Nat) (d : Array Int), b - i = n → a < i → b ≤ d.size → (∀ k l, a ≤ k → k < l → i ≤ l → l < b → d[k]! < d[l]!) → insOuter (ltR r) a b i d = insOuter (tltB r) a b i d
  | 0, i, d, hn, _, _, _ => by rw [insOuter, if_neg (by omega), insOuter, if_neg (by omega)]
  | n + 1, i, d, hn, ha, hb, h => by
    have hib : i < b := by omega
    rw [insOuter, if_pos hib]
    conv => rhs; rw [insOuter, if_pos hib]
    rw [insInner_same r a i d (by omega) (fun k hk hki => h k i hk hki (Nat.le_refl _) hib)]
    have hP := insInner_perm (tltB r) a (i + 1) i d (by omega) (by omega) (by omega)
    apply insOuter_same r a b n (i + 1) _ (by omega) (by omega) (by rw [hP.1]; exact hb)
    intro k l hk hkl hl hlb
    rw [hP.2.1 l (Or.inr hl)]
    by_cases hki : k < i + 1
    · exact permIn_any (p := fun x => x < d[l]!) (by omega) hP (fun k' h1 h2 => h k' l h1 (by omega) (by omega) hlb) k hk hki
    · rw [hP.2.1 k (Or.inr (by omega))]; exact h k l hk hkl (by omega) hlb
/-- insertionSort of numbers that rise. -/
theorem ins_holds (r : Int → Int) (d : Array Int) (a b : Nat) (hab : a ≤ b) (hb : b ≤ d.size) (h : NS a b d) : PermIn a b d (insertionSort (ltR r) d a b) ∧ TS r a b (insertionSort (ltR r) d a b) := by
  have e : insertionSort (ltR r) d a b = insertionSort (tltB r) d a b := by
    unfold insertionSort
    exact insOuter_same r a b _ (a + 1) d rfl (by omega) hb (fun k l hk hkl hl hlb => h k l hk hkl hlb)
  rw [e]
  obtain ⟨h1, h2⟩ := insertionSort_holds (swo_tltB r) d a b hab hb
  refine ⟨h1, fun i j hi hij hj => ?_⟩
  -- no two are alike
  have hne : ∀ i j, a ≤ i → i < j → j < b → (insertionSort (tltB r) d a b)[i]! ≠ (insertionSort (tltB r) d a b)[j]! := by
    intro i j hi hij hj he
    have hnd : ((d.extract a b).toList).Nodup := by
      rw [extract_toList d a b hb]
      unfold List.Nodup
      rw [List.pairwise_map, List.pairwise_iff_getElem]
      intro p q hp hq hpq
      simp only [List.length_range'] at hp hq
      simp only [List.getElem_range']
      have := h (a + 1 * p) (a + 1 * q) (by omega) (by omega) (by omega)
      omega
    have hnd' := h1.2.2.nodup_iff.2 hnd
    rw [extract_toList _ a b (by rw [h1.1]; exact hb)] at hnd'
    unfold List.Nodup at hnd'
    rw [List.pairwise_map, List.pairwise_iff_getElem] at hnd'
    have := hnd' (i - a) (j - a) (by simp; omega) (by simp; omega) (by omega)
    simp only [List.getElem_range'] at this
    rw [show a + 1 * (i - a) = i by omega, show a + 1 * (j - a) = j by omega] at this
    exact this he
  have h3 := h2 i j hi hij hj
  exact tlt_tot (fun e => hne i j hi hij hj e.symm) (fun h => by rw [tltB_iff.2 h] at h3; cases h3)

/-! swapRange -/
structure Swr (a b n : Nat) (d d' : Array Int) : Prop where
  sz : d'.size = d.size
  left : ∀ k, a ≤ k → k < a + n → d'[k]! = d[k + (b - a)]!
  right : ∀ k, b ≤ k → k < b + n → d'[k]! = d[k - (b - a)]!
  rest : ∀ k, ¬ (a ≤ k ∧ k < a + n) → ¬ (b ≤ k ∧ k < b + n) → d'[k]! = d[k]!
theorem Swr.zero (a b : Nat) (d : Array Int) : Swr a b 0 d d := ⟨rfl, fun k h1 h2 => by omega, fun k h1 h2 => by omega, fun _ _ _ => rfl⟩
theorem Swr.step {a b n : Nat} {d d' : Array Int} (h : Swr a b n d d') (hab : a + (n + 1) ≤ b) (hb : b + n < d.size) : Swr a b (n + 1) d (swp d' (a + n) (b + n)) := by
  have g := swp_get d' (i := a + n) (j := b + n) (by rw [h.sz]; omega) (by rw [h.sz]; omega)
  refine ⟨by rw [size_swp, h.sz], fun k h1 h2 => ?_, fun k h1 h2 => ?_, fun k h1 h2 => ?_⟩
  · rw [g, if_neg (by omega)]
    by_cases e : k = a + n
    · rw [if_pos e, h.rest (b + n) (by omega) (by omega)]; congr 1; omega
    · rw [if_neg e]; exact h.left k h1 (by omega)
  · rw [g]
    by_cases e : k = b + n
    · rw [if_pos e, h.rest (a + n) (by omega) (by omega)]; congr 1; omega
    · rw [if_neg e, if_neg (by omega)]; exact h.right k h1 (by omega)
  · rw [g, if_neg (by omega), if_neg (by omega)]; exact h.rest k (by omega) (by omega)

/-! rotate -/
structure Rot (a m b : Nat) (d d' : Array Int) : Prop where
  sz : d'.size = d.size
  left : ∀ k, a ≤ k → k < a + (b - m) → d'[k]! = d[k + (m - a)]!
  right : ∀ k, a + (b - m) ≤ k → k < b → d'[k]! = d[k - (b - m)]!
  rest : ∀ k, k < a ∨ b ≤ k → d'[k]! = d[k]!
theorem Rot.one {m i : Nat} {d d' : Array Int} (him : i ≤ m) (h : Swr (m - i) m i d d') : Rot (m - i) m (m + i) d d' := by
  refine ⟨h.sz, fun k h1 h2 => ?_, fun k h1 h2 => ?_, fun k h1 => h.rest k (by omega) (by omega)⟩
  · exact h.left k h1 (by omega)
  · rw [h.right k (by omega) (by omega)]; congr 1; omega
theorem Rot.more {m i j : Nat} {d d1 d' : Array Int} (him : i ≤ m) (hij : j < i) (h : Swr (m - i) m j d d1) (h' : Rot (m - (i - j)) m (m + j) d1 d') : Rot (m - i) m (m + j) d d' := by
  refine ⟨h'.sz.trans h.sz, fun k h1 h2 => ?_, fun k h1 h2 => ?_, fun k h1 => ?_⟩
  · rw [h'.rest k (by omega), h.left k h1 (by omega)]
  · by_cases e : k < m - (i - j) + (m + j - m)
    · rw [h'.left k (by omega) e, h.right _ (by omega) (by omega)]; congr 1; omega
    · rw [h'.right k (by omega) h2, h.rest _ (by omega) (by omega)]
  · rw [h'.rest k (by omega), h.rest k (by omega) (by omega)]
theorem Rot.less {m i j : Nat} {d d1 d' : Array Int} (him : i ≤ m) (hij : i < j) (h : Swr (m - i) (m + j - i) i d d1) (h' : Rot (m - i) m (m + (j - i)) d1 d') : Rot (m - i) m (m + j) d d' := by
  refine ⟨h'.sz.trans h.sz, fun k h1 h2 => ?_, fun k h1 h2 => ?_, fun k h1 => ?_⟩
  · by_cases e : k < m - i + (m + (j - i) - m)
    · rw [h'.left k h1 e, h.rest _ (by omega) (by omega)]
    · rw [h'.right k (by omega) (by omega), h.left _ (by omega) (by omega)]; congr 1; omega
  · rw [h'.rest k (by omega), h.right k (by omega) (by omega)]; congr 1; omega
  · rw [h'.rest k (by omega), h.rest k (by omega) (by omega)]

/-! one number moved up or down -/
structure ShU (a k : Nat) (d d' : Array Int) : Prop where
  sz : d'.size = d.size
  low : ∀ l, a ≤ l → l < k → d'[l]! = d[l + 1]!
  at' : d'[k]! = d[a]!
  rest : ∀ l, l < a ∨ k < l → d'[l]! = d[l]!
theorem ShU.zero (a : Nat) (d : Array Int) : ShU a a d d := ⟨rfl, fun l h1 h2 => by omega, rfl, fun _ _ => rfl⟩
theorem ShU.step {a k : Nat} {d d' : Array Int} (h : ShU a k d d') (hak : a ≤ k) (hk : k + 1 < d.size) : ShU a (k + 1) d (swp d' k (k + 1)) := by
  have g := swp_get d' (i := k) (j := k + 1) (by rw [h.sz]; omega) (by rw [h.sz]; omega)
  refine ⟨by rw [size_swp, h.sz], fun l h1 h2 => ?_, ?_, fun l h1 => ?_⟩
  · rw [g, if_neg (by omega)]
    by_cases e : l = k
    · rw [if_pos e, h.rest (k + 1) (by omega), e]
    · rw [if_neg e]; exact h.low l h1 (by omega)
  · rw [g, if_pos rfl]; exact h.at'
  · rw [g, if_neg (by omega), if_neg (by omega)]; exact h.rest l (by omega)
structure ShD (m k : Nat) (d d' : Array Int) : Prop where
  sz : d'.size = d.size
  high : ∀ l, k < l → l ≤ m → d'[l]! = d[l - 1]!
  at' : d'[k]! = d[m]!
  rest : ∀ l, l < k ∨ m < l → d'[l]! = d[l]!
theorem ShD.zero (m : Nat) (d : Array Int) : ShD m m d d := ⟨rfl, fun l h1 h2 => by omega, rfl, fun _ _ => rfl⟩
theorem ShD.step {m k : Nat} {d d' : Array Int} (h : ShD m (k + 1) d d') (hkm : k + 1 ≤ m) (hm : m < d.size) : ShD m k d (swp d' (k + 1) k) := by
  have g := swp_get d' (i := k + 1) (j := k) (by rw [h.sz]; omega) (by rw [h.sz]; omega)
  refine ⟨by rw [size_swp, h.sz], fun l h1 h2 => ?_, ?_, fun l h1 => ?_⟩
  · rw [g, if_neg (by omega)]
    by_cases e : l = k + 1
    · rw [if_pos e, h.rest k (by omega), e]; rfl
    · rw [if_neg e]; exact h.high l (by omega) h2
  · rw [g, if_pos rfl]; exact h.at'
  · rw [g, if_neg (by omega), if_neg (by omega)]; exact h.rest l (by omega)

/-! symMerge -/
theorem merge_one {r : Int → Int} {a i b : Nat} {d d' : Array Int} (h2 : TS r (a + 1) b d) (hi : a + 1 ≤ i) (hib : i ≤ b) (hl : i = a + 1 ∨ tlt r d[i - 1]! d[a]!) (hr : i = b ∨ tlt r d[a]! d[i]!) (h : ShU a (i - 1) d d') : TS r a b d' := by
  have L : ∀ l, a + 1 ≤ l → l < i → tlt r d[l]! d[a]! := fun l h1 h3 => by
    rcases hl with e | e
    · omega
    · by_cases el : l = i - 1
      · rw [el]; exact e
      · exact tlt_trans (h2 l (i - 1) h1 (by omega) (by omega)) e
  have R : ∀ l, i ≤ l → l < b → tlt r d[a]! d[l]! := fun l h1 h3 => by
    rcases hr with e | e
    · omega
    · by_cases el : l = i
      · rw [el]; exact e
      · exact tlt_trans e (h2 i l hi (by omega) h3)
  intro p q hp hpq hq
  by_cases p1 : p < i - 1
  · rw [h.low p hp p1]
    by_cases q1 : q < i - 1
    · rw [h.low q (by omega) q1]; exact h2 _ _ (by omega) (by omega) (by omega)
    · by_cases q2 : q = i - 1
      · rw [q2, h.at']; exact L _ (by omega) (by omega)
      · rw [h.rest q (by omega)]; exact h2 _ _ (by omega) (by omega) (by omega)
  · by_cases p2 : p = i - 1
    · rw [p2, h.at', h.rest q (by omega)]; exact R q (by omega) hq
    · rw [h.rest p (by omega), h.rest q (by omega)]; exact h2 _ _ (by omega) hpq hq
theorem merge_last {r : Int → Int} {a i m : Nat} {d d' : Array Int} (h1 : TS r a m d) (hi : a ≤ i) (him : i ≤ m) (hl : i = a ∨ tlt r d[i - 1]! d[m]!) (hr : i = m ∨ tlt r d[m]! d[i]!) (h : ShD m i d d') : TS r a (m + 1) d' := by
  have L : ∀ l, a ≤ l → l < i → tlt r d[l]! d[m]! := fun l k1 k3 => by
    rcases hl with e | e
    · omega
    · by_cases el : l = i - 1
      · rw [el]; exact e
      · exact tlt_trans (h1 l (i - 1) k1 (by omega) (by omega)) e
  have R : ∀ l, i ≤ l → l < m → tlt r d[m]! d[l]! := fun l k1 k3 => by
    rcases hr with e | e
    · omega
    · by_cases el : l = i
      · rw [el]; exact e
      · exact tlt_trans e (h1 i l hi (by omega) k3)
  intro p q hp hpq hq
  by_cases p1 : p < i
  · rw [h.rest p (by omega)]
    by_cases q1 : q < i
    · rw [h.rest q (by omega)]; exact h1 _ _ hp hpq (by omega)
    · by_cases q2 : q = i
      · rw [q2, h.at']; exact L _ hp p1
      · rw [h.high q (by omega) (by omega)]; exact h1 _ _ hp (by omega) (by omega)
  · by_cases p2 : p = i
    · rw [p2, h.at', h.high q (by omega) (by omega)]; exact R _ (by omega) (by omega)
    · rw [h.high p (by omega) (by omega), h.high q (by omega) (by omega)]; exact h1 _ _ (by omega) (by omega) (by omega)
/-- What lies around the middle behind the rotation. -/
structure Mid (r : Int → Int) (a s mid e b : Nat) (d : Array Int) : Prop where
  t1 : TS r a s d
  t2 : TS r s mid d
  t3 : TS r mid e d
  t4 : TS r e b d
  c1 : Cro a s mid d
  c2 : Cro mid e b d
  lo : ∀ i j, a ≤ i → i < mid → mid ≤ j → j < b → tlt r d[i]! d[j]!
theorem mid_of {r : Int → Int} {a m b s e mid : Nat} {d d' : Array Int} (has : a ≤ s) (hsm : s ≤ m) (hme : m ≤ e) (heb : e ≤ b) (hmid : mid + m = s + e) (h1 : TS r a m d) (h2 : TS r m b d) (hC : Cro a m b d)
    (hL : s = a ∨ e = b ∨ tlt r d[s - 1]! d[e]!) (hR : s = m ∨ e = m ∨ tlt r d[e - 1]! d[s]!) (h : Rot s m e d d') : Mid r a s mid e b d' := by
  have g1 : ∀ k, a ≤ k → k < s → d'[k]! = d[k]! := fun k k1 k2 => h.rest k (Or.inl k2)
  have g2 : ∀ k, s ≤ k → k < mid → d'[k]! = d[k + (m - s)]! := fun k k1 k2 => h.left k k1 (by omega)
  have g3 : ∀ k, mid ≤ k → k < e → d'[k]! = d[k - (e - m)]! := fun k k1 k2 => h.right k (by omega) k2
  have g4 : ∀ k, e ≤ k → k < b → d'[k]! = d[k]! := fun k k1 k2 => h.rest k (Or.inr k1)
  -- X1 ahead of Y2, Y1 ahead of X2
  have A : ∀ i j, a ≤ i → i < s → e ≤ j → j < b → tlt r d[i]! d[j]! := fun i j k1 k2 k3 k4 => by
    rcases hL with x | x | x
    · omega
    · omega
    · have u : i = s - 1 ∨ tlt r d[i]! d[s - 1]! := by
        by_cases y : i = s - 1
        · exact Or.inl y
        · exact Or.inr (h1 i (s - 1) k1 (by omega) (by omega))
      have v : j = e ∨ tlt r d[e]! d[j]! := by
        by_cases y : j = e
        · exact Or.inl y
        · exact Or.inr (h2 e j (by omega) (by omega) k4)
      rcases u with u | u <;> rcases v with v | v
      · rw [u, v]; exact x
      · rw [u]; exact tlt_trans x v
      · rw [v]; exact tlt_trans u x
      · exact tlt_trans (tlt_trans u x) v
  have B : ∀ i j, m ≤ i → i < e → s ≤ j → j < m → tlt r d[i]! d[j]! := fun i j k1 k2 k3 k4 => by
    rcases hR with x | x | x
    · omega
    · omega
    · have u : i = e - 1 ∨ tlt r d[i]! d[e - 1]! := by
        by_cases y : i = e - 1
        · exact Or.inl y
        · exact Or.inr (h2 i (e - 1) k1 (by omega) (by omega))
      have v : j = s ∨ tlt r d[s]! d[j]! := by
        by_cases y : j = s
        · exact Or.inl y
        · exact Or.inr (h1 s j has (by omega) k4)
      rcases u with u | u <;> rcases v with v | v
      · rw [u, v]; exact x
      · rw [u]; exact tlt_trans x v
      · rw [v]; exact tlt_trans u x
      · exact tlt_trans (tlt_trans u x) v
  refine ⟨fun i j k1 k2 k3 => ?_, fun i j k1 k2 k3 => ?_, fun i j k1 k2 k3 => ?_, fun i j k1 k2 k3 => ?_, fun i j k1 k2 k3 k4 => ?_, fun i j k1 k2 k3 k4 => ?_, fun i j k1 k2 k3 k4 => ?_⟩
  · rw [g1 i k1 (by omega), g1 j (by omega) k3]; exact h1 _ _ k1 k2 (by omega)
  · rw [g2 i k1 (by omega), g2 j (by omega) k3]; exact h2 _ _ (by omega) (by omega) (by omega)
  · rw [g3 i k1 (by omega), g3 j (by omega) k3]; exact h1 _ _ (by omega) (by omega) (by omega)
  · rw [g4 i k1 (by omega), g4 j (by omega) k3]; exact h2 _ _ (by omega) (by omega) (by omega)
  · rw [g1 i k1 k2, g2 j k3 k4]; exact hC _ _ (by omega) (by omega) (by omega) (by omega)
  · rw [g3 i k1 k2, g4 j k3 k4]; exact hC _ _ (by omega) (by omega) (by omega) (by omega)
  · by_cases x : i < s
    · rw [g1 i k1 x]
      by_cases y : j < e
      · rw [g3 j k3 y]; exact h1 _ _ k1 (by omega) (by omega)
      · rw [g4 j (by omega) k4]; exact A _ _ k1 x (by omega) k4
    · rw [g2 i (by omega) k2]
      by_cases y : j < e
      · rw [g3 j k3 y]; exact B _ _ (by omega) (by omega) (by omega) (by omega)
      · rw [g4 j (by omega) k4]; exact h2 _ _ (by omega) (by omega) k4
theorem Rot.none {s m e : Nat} {d : Array Int} (h : s = m ∨ m = e) (hsm : s ≤ m) (hme : m ≤ e) : Rot s m e d d :=
  ⟨rfl, fun k h1 h2 => by
    rcases h with rfl | rfl
    · congr 1; omega
    · omega, fun k h1 h2 => by
    rcases h with rfl | rfl
    · omega
    · congr 1; omega, fun _ _ => rfl⟩
/-- Behind both halves. -/
theorem Mid.left {r : Int → Int} {a s mid e b : Nat} {d d' : Array Int} (h : Mid r a s mid e b d) (hmb : mid ≤ b) (hb : b ≤ d.size) (hme : mid ≤ e) (heb : e ≤ b) (hP : PermIn a mid d d') (hT : TS r a mid d') : TS r a mid d' ∧ TS r mid e d' ∧ TS r e b d' ∧ Cro mid e b d' ∧ (∀ i j, a ≤ i → i < mid → mid ≤ j → j < b → tlt r d'[i]! d'[j]!) := by
  have g : ∀ k, mid ≤ k → d'[k]! = d[k]! := fun k k1 => hP.2.1 k (Or.inr k1)
  refine ⟨hT, fun i j k1 k2 k3 => ?_, fun i j k1 k2 k3 => ?_, fun i j k1 k2 k3 k4 => ?_, fun i j k1 k2 k3 k4 => ?_⟩
  · rw [g i k1, g j (by omega)]; exact h.t3 _ _ k1 k2 k3
  · rw [g i (by omega), g j (by omega)]; exact h.t4 _ _ k1 k2 k3
  · rw [g i k1, g j (by omega)]; exact h.c2 _ _ k1 k2 k3 k4
  · rw [g j k3]; exact permIn_any (p := fun x => tlt r x d[j]!) (by omega) hP (fun i' u1 u2 => h.lo i' j u1 u2 k3 k4) i k1 k2
theorem mid_end {r : Int → Int} {a mid b : Nat} {d d' : Array Int} (ham : a ≤ mid) (hmb : mid ≤ b) (hb : b ≤ d.size) (hT1 : TS r a mid d) (hlo : ∀ i j, a ≤ i → i < mid → mid ≤ j → j < b → tlt r d[i]! d[j]!) (hP : PermIn mid b d d') (hT : TS r mid b d') : TS r a b d' := by
  have g : ∀ k, k < mid → d'[k]! = d[k]! := fun k k1 => hP.2.1 k (Or.inl k1)
  intro i j k1 k2 k3
  by_cases x : j < mid
  · rw [g i (by omega), g j x]; exact hT1 _ _ k1 k2 x
  · by_cases y : i < mid
    · rw [g i y]; exact permIn_any (p := fun z => tlt r d[i]! z) hb hP (fun j' u1 u2 => hlo i j' k1 y u1 u2) j (by omega) k3
    · exact hT _ _ (by omega) k2 k3
end Go.Proofs.Ytdbbpmadkhedlaa

/- What taps are: rising, none 0, summing to 65536. -/
import Derived.Test.YtcolhgngiflkhaaGc1cffd4b
import Derived.Test.YtcolhgngiflkhaaG8ae2065f
import Derived.Test.YtcolhgngiflkhaaGf45fc3d1
namespace Go.Proofs.Ytcolhgngiflkhaa
set_option linter.unusedVariables false
set_option linter.unusedSimpArgs false

theorem tpK_mem {L : List (Int × Int)} {sh : Nat → Int} : ∀ {j : Nat} {e : Int × Int}, e ∈ tpK L sh j → ∃ k, k < j ∧ e = ((L.getD k (0, 0)).1, sh k) ∧ sh k ≠ 0
  | 0, e, he => by cases he
  | j + 1, e, he => by
    unfold tpK at he
    split at he
    · obtain ⟨k, h1, h2⟩ := tpK_mem he; exact ⟨k, by omega, h2⟩
    · rename_i hz
      rcases List.mem_append.1 he with h | h
      · obtain ⟨k, h1, h2⟩ := tpK_mem h; exact ⟨k, by omega, h2⟩
      · rw [List.mem_singleton] at h; exact ⟨j, by omega, h, hz⟩
theorem tpK_sum (L : List (Int × Int)) (sh : Nat → Int) : ∀ j, sndSum (tpK L sh j) = sumF sh j
  | 0 => rfl
  | j + 1 => by
    have ih := tpK_sum L sh j
    show sndSum (if sh j = 0 then tpK L sh j else tpK L sh j ++ [((L.getD j (0, 0)).1, sh j)]) = sumF sh j + sh j
    by_cases h : sh j = 0
    · rw [if_pos h, ih, h]; omega
    · rw [if_neg h]
      unfold sndSum at ih ⊢
      rw [List.map_append, List.sum_append, ih]; simp
theorem tpK_rises {L : List (Int × Int)} {sh : Nat → Int} (hL : L.Pairwise (fun x y => x.1 < y.1)) : ∀ j, j ≤ L.length → (tpK L sh j).Pairwise (fun x y => x.1 < y.1)
  | 0, _ => List.Pairwise.nil
  | j + 1, hj => by
    have ih := tpK_rises (sh := sh) hL j (by omega)
    unfold tpK
    split
    · exact ih
    · refine List.pairwise_append.2 ⟨ih, List.pairwise_singleton _ _, fun e he e2 he2 => ?_⟩
      rw [List.mem_singleton] at he2
      subst he2
      obtain ⟨k, h1, h2, _⟩ := tpK_mem he
      rw [h2]
      show (L.getD k (0, 0)).1 < (L.getD j (0, 0)).1
      rw [List.getD_eq_getElem?_getD, List.getD_eq_getElem?_getD, List.getElem?_eq_getElem (by omega), List.getElem?_eq_getElem (by omega)]
      exact List.pairwise_iff_getElem.1 hL k j (by omega) (by omega) h1
/-- All that is told of taps. -/
structure TapOk (kind : Int) (F T i : Nat) (L : List (Int × Int)) : Prop where
  at_ : ∀ e ∈ L, 0 ≤ e.1 ∧ e.1 < (F : Int) ∧ e.2 ≠ 0 ∧ (kind ≠ 3 → 0 ≤ e.2) ∧ -72057594037927936 ≤ e.2 ∧ e.2 ≤ 72057594037927937
  rise : L.Pairwise (fun x y => x.1 < y.1)
  sum : sndSum L = 65536
  len : L.length ≤ 64
  one : F = T → ∃ x, L = [((i : Int), x)]
theorem plV_mono (F : Nat) : ∀ x y : Int, x ≤ y → plV F x ≤ plV F y := fun x y h => by unfold plV; omega
theorem plV_in {F : Nat} (h : 1 ≤ F) (k : Int) : 0 ≤ plV F k ∧ plV F k < (F : Int) := by unfold plV; omega
/-- One weight alone. -/
theorem wrun_one {f pl : Int → Int} {a i : Int} (hz : ∀ k, k ≠ i → f k = 0) (hi : f i ≠ 0) (ha : a ≤ i) : ∀ n : Nat, wrun f pl a n = if a + (n : Int) ≤ i then [] else [(pl i, f i)]
  | 0 => by rw [if_pos (by omega)]; rfl
  | n + 1 => by
    have ih := wrun_one (pl := pl) hz hi ha n
    show wput (wrun f pl a n) (pl (a + n)) (f (a + n)) = _
    rw [ih]
    by_cases c : a + (n : Int) = i
    · rw [if_pos (by omega), if_neg (by omega), c, wput_new hi (fun e he => by cases he)]; rfl
    · rw [hz _ c, wput_zero]
      by_cases c2 : a + (n : Int) ≤ i
      · rw [if_pos c2, if_pos (by omega)]
      · rw [if_neg c2, if_neg (by omega)]
theorem wgt_own {kind m d : Int} (hk : kind = 1 ∨ kind = 2 ∨ kind = 3) (hm : 0 < m) : (0 < wgt kind m 0) ∧ (2 * m ≤ absI d → (absI d = 2 * m ∨ 4 * m ≤ absI d) → wgt kind m d = 0) := by
  rcases hk with rfl | rfl | rfl
  · refine ⟨?_, fun h1 _ => ?_⟩
    · show 0 < if _ then (1 : Int) else 0; rw [if_pos ⟨by omega, by omega⟩]; decide
    · show (if _ then (1 : Int) else 0) = 0; rw [if_neg (fun h => by unfold absI at h1; omega)]
  · refine ⟨?_, fun h1 _ => ?_⟩
    · show 0 < max (2 * m - absI 0) 0; unfold absI; omega
    · show max (2 * m - absI d) 0 = 0; omega
  · refine ⟨?_, fun h1 h2 => ?_⟩
    · show 0 < cubV (absI 0) (2 * m)
      have h3 : 0 < m * m * m := Int.mul_pos (Int.mul_pos hm hm) hm
      have := cub_mid (c := absI 0) (m := m) (by decide) (by show (0 : Int) ≤ m; omega) hm
      omega
    · show cubV (absI d) (2 * m) = 0
      unfold cubV
      rw [if_neg (by omega)]
      rcases h2 with h | h
      · rw [if_pos (by omega), h]; grind
      · rw [if_neg (by omega)]
theorem wls_one {kind : Int} {F i : Nat} (hk : kind = 1 ∨ kind = 2 ∨ kind = 3) (h : Sz F F i) : ∃ x, wlsV kind F F i = [((i : Int), x)] := by
  have hF : 0 < (F : Int) := by have := h.f1; omega
  have hmx : (max F F : Nat) = F := by omega
  have hmid : midV F F i = 2 * (F : Int) * (i : Int) := by unfold midV; grind
  have hwf : ∀ k, wfV kind F F i k = wgt kind F (2 * (F : Int) * k - 2 * (F : Int) * (i : Int)) := fun k => by
    show wgt kind ((max F F : Nat) : Int) _ = _
    rw [hmid, hmx]
  obtain ⟨w1, w2, w3, w4⟩ := win_eq (kind := kind) h
  have hr := rea_size (kind := kind) (m := (max F F : Nat)) (by omega)
  rw [hmx] at hr
  rw [hmid, hmx] at w1 w2 w3 w4
  have hww : winV kind F F i = (lstV kind F F i - fstV kind F F i + 1).toNat := rfl
  have le_of : ∀ a b : Int, 2 * (F : Int) * a < 2 * (F : Int) * b + 2 * (F : Int) → a ≤ b := fun a b hh => by
    rcases Int.lt_or_le b a with c | c
    · have h2 : 2 * (F : Int) * (b + 1) ≤ 2 * (F : Int) * a := Int.mul_le_mul_of_nonneg_left (by omega) (by omega)
      rw [Int.mul_add] at h2
      omega
    · exact c
  have a1 : fstV kind F F i ≤ (i : Int) := le_of _ _ (by omega)
  have a2 : (i : Int) ≤ lstV kind F F i := le_of _ _ (by omega)
  have key := wrun_one (f := wfV kind F F i) (pl := plV F) (a := fstV kind F F i) (i := (i : Int)) (fun k hk' => by
    rw [hwf]
    refine (wgt_own hk hF).2 ?_ ?_
    · have h1 : 2 * (F : Int) * k - 2 * (F : Int) * (i : Int) = 2 * (F : Int) * (k - i) := by rw [Int.mul_sub]
      rw [h1]
      rcases Int.lt_or_gt_of_ne hk' with c | c
      · have : 2 * (F : Int) * (k - i) ≤ 2 * (F : Int) * (-1) := Int.mul_le_mul_of_nonneg_left (by omega) (by omega)
        unfold absI; omega
      · have : 2 * (F : Int) * 1 ≤ 2 * (F : Int) * (k - i) := Int.mul_le_mul_of_nonneg_left (by omega) (by omega)
        unfold absI; omega
    · have h1 : 2 * (F : Int) * k - 2 * (F : Int) * (i : Int) = 2 * (F : Int) * (k - i) := by rw [Int.mul_sub]
      rw [h1]
      by_cases c1 : k - i = 1
      · left; rw [c1]; unfold absI; omega
      · by_cases c2 : k - i = -1
        · left; rw [c2]; unfold absI; omega
        · right
          rcases Int.lt_or_gt_of_ne hk' with c | c
          · have : 2 * (F : Int) * (k - i) ≤ 2 * (F : Int) * (-2) := Int.mul_le_mul_of_nonneg_left (by omega) (by omega)
            unfold absI; omega
          · have : 2 * (F : Int) * 2 ≤ 2 * (F : Int) * (k - i) := Int.mul_le_mul_of_nonneg_left (by omega) (by omega)
            unfold absI; omega) (by
    rw [hwf, Int.sub_self]
    have := (wgt_own (d := 0) hk hF).1
    omega) a1 (winV kind F F i)
  refine ⟨wfV kind F F i (i : Int), ?_⟩
  show wrun _ _ _ _ = _
  rw [key, if_neg (by omega)]
  have : plV F (i : Int) = (i : Int) := by unfold plV; have := h.i; omega
  rw [this]
theorem taps_ok {kind : Int} {F T i : Nat} (hk : kind = 1 ∨ kind = 2 ∨ kind = 3) (h : Sz F T i) : TapOk kind F T i (tapsL (wlsV kind F T i)) := by
  have hpos := wls_pos hk h
  obtain ⟨hb1, hb2⟩ := wls_bound (kind := kind) h
  have hrise := (wrun_rises (f := wfV kind F T i) (a := fstV kind F T i) (plV_mono F) (winV kind F T i)).1
  have hin := wrun_all (f := wfV kind F T i) (a := fstV kind F T i) (P := fun p => 0 ≤ p ∧ p < (F : Int)) (plV_in h.f1) (winV kind F T i)
  change (wlsV kind F T i).Pairwise _ at hrise
  change ∀ e ∈ wlsV kind F T i, _ at hin
  have hkp : kind ≠ 3 → ∀ e ∈ wlsV kind F T i, 0 < e.2 := fun h3 => by
    have hm0 : 0 < ((max F T : Nat) : Int) := by have := h.f1; omega
    refine wrun_pos (fun k => ?_) _
    rcases hk with rfl | rfl | rfl
    · show 0 ≤ if _ then (1 : Int) else 0; split <;> omega
    · show 0 ≤ max (2 * ((max F T : Nat) : Int) - absI _) 0; omega
    · exact absurd rfl h3
  have hone : F = T → ∃ x, wlsV kind F T i = [((i : Int), x)] := fun e => by subst e; exact wls_one hk h
  generalize wlsV kind F T i = L at *
  have hS := hpos
  rw [sndSum_zf] at hS
  have hn : 0 < L.length := by
    cases L with
    | nil => exact absurd hpos (by decide)
    | cons _ _ => simp
  have hM : ∀ k, -1099511627776 ≤ zf (L.map Prod.snd) k ∧ zf (L.map Prod.snd) k ≤ 1099511627776 := fun k => by
    unfold zf
    rw [List.getD_eq_getElem?_getD, List.getElem?_map]
    cases hk : L[k]? with
    | none => decide
    | some e => exact hb2 e (List.mem_of_getElem? hk)
  have hsum : sumF (shrV (zf (L.map Prod.snd)) L.length) L.length = 65536 := shr_sum hn hS
  refine ⟨fun e he => ?_, tpK_rises hrise _ (Nat.le_refl _), ?_, ?_, fun e => ?_⟩
  · obtain ⟨k, h1, h2, h3⟩ := tpK_mem he
    have hkl : L[k]? = some L[k] := List.getElem?_eq_getElem h1
    have hg : L.getD k (0, 0) = L[k] := by rw [List.getD_eq_getElem?_getD, hkl]; rfl
    have hp := hin _ (List.mem_of_getElem? hkl)
    rw [h2, hg]
    have hf := flo_size (z := zf (L.map Prod.snd)) (i := k) hS (hM k)
    refine ⟨hp.1, hp.2, h3, fun h4 => ?_, ?_, ?_⟩
    · have hz := hkp h4 _ (List.mem_of_getElem? hkl)
      have hz2 : zf (L.map Prod.snd) k = L[k].2 := by unfold zf; rw [List.getD_eq_getElem?_getD, List.getElem?_map, hkl]; rfl
      show 0 ≤ shrK _ _ _ _ _
      unfold shrK
      have : 0 ≤ flo (zf (L.map Prod.snd)) (sumF (zf (L.map Prod.snd)) L.length) k := by
        unfold flo
        rw [hz2]
        exact Int.ediv_nonneg (by omega) (by omega)
      split <;> omega
    · show _ ≤ shrK _ _ _ _ _; unfold shrK; split <;> omega
    · show shrK _ _ _ _ _ ≤ _; unfold shrK; split <;> omega
  · exact (tpK_sum _ _ _).trans hsum
  · exact Nat.le_trans (tpK_len _ _ _) (by omega)
  · obtain ⟨x, hx⟩ := hone e
    subst hx
    refine ⟨65536, ?_⟩
    have h0 : shrV (zf [x]) 1 0 = 65536 := by
      have : 0 + shrV (zf [x]) 1 0 = 65536 := hsum
      omega
    show (if shrV (zf [x]) 1 0 = 0 then [] else [] ++ [((i : Int), shrV (zf [x]) 1 0)]) = _
    rw [h0]; rfl
end Go.Proofs.Ytcolhgngiflkhaa
/- Shares by taking the greatest rest again and again, plain: the same shares. -/
namespace Go.Proofs.Ytcolhgngiflkhaa
open Go.Sort
set_option linter.unusedVariables false
set_option linter.unusedSimpArgs false

/-- The first of the greatest among the first i. -/
structure Bst (f : Nat → Int) (i b : Nat) : Prop where
  lt : b < i
  le : ∀ j, j < i → f j ≤ f b
  fst : ∀ j, j < b → f j < f b
theorem Bst.one (f : Nat → Int) : Bst f 1 0 := by
  refine ⟨by omega, fun j hj => ?_, fun j hj => by omega⟩
  obtain rfl : j = 0 := by omega
  exact Int.le_refl _
theorem Bst.new {f : Nat → Int} {i b : Nat} (h : Bst f i b) (hg : f b < f i) : Bst f (i + 1) i :=
  ⟨by omega, fun j hj => by
    by_cases e : j = i
    · subst e; exact Int.le_refl _
    · have := h.le j (by omega); omega, fun j hj => by have := h.le j hj; omega⟩
theorem Bst.old {f : Nat → Int} {i b : Nat} (h : Bst f i b) (hg : ¬ f b < f i) : Bst f (i + 1) b :=
  ⟨by have := h.lt; omega, fun j hj => by
    by_cases e : j = i
    · subst e; omega
    · exact h.le j (by omega), h.fst⟩
theorem Bst.unique {f : Nat → Int} {i b c : Nat} (h : Bst f i b) (k : Bst f i c) : b = c := by
  have h1 := h.le c k.lt
  have h2 := k.le b h.lt
  rcases Nat.lt_trichotomy b c with e | e | e
  · have := k.fst b e; omega
  · exact e
  · have := h.fst c e; omega
/-- The rests behind k rounds. -/
def rstK (z : Nat → Int) (S : Int) (n k i : Nat) : Int := if (i : Int) ∈ (ordL (rsV z S) n).take k then -1 else rsV z S i
theorem rstK_zero (z : Nat → Int) (S : Int) (n i : Nat) : rstK z S n 0 i = rsV z S i := by unfold rstK; rw [List.take_zero, if_neg (by simp)]
theorem not_take {r : Int → Int} {n k : Nat} {o : Int} (h : (ordL r n)[k]? = some o) : o ∉ (ordL r n).take k := fun hm => by
  obtain ⟨i, hi⟩ := List.getElem?_of_mem hm
  have hik : i < k := by have := (List.getElem?_eq_some_iff.1 hi).1; rw [List.length_take] at this; omega
  rw [List.getElem?_take_of_lt hik] at hi
  exact tlt_irr (ordL_lt hi h hik)
theorem rstK_hit {z : Nat → Int} {S : Int} {n k o : Nat} (h : (ordL (rsV z S) n)[k]? = some (o : Int)) : rstK z S n (k + 1) o = -1 ∧ ∀ i, i ≠ o → rstK z S n (k + 1) i = rstK z S n k i := by
  unfold rstK
  have e : (ordL (rsV z S) n).take (k + 1) = (ordL (rsV z S) n).take k ++ [(o : Int)] := by rw [List.take_add_one, h]; rfl
  refine ⟨?_, fun i hi => ?_⟩
  · rw [e, if_pos (by simp)]
  · rw [e]
    by_cases c : (i : Int) ∈ (ordL (rsV z S) n).take k
    · rw [if_pos (List.mem_append_left _ c), if_pos c]
    · rw [if_neg (fun hm => by
        rcases List.mem_append.1 hm with h1 | h1
        · exact c h1
        · rw [List.mem_singleton] at h1; omega), if_neg c]
/-- What is found is the next one in the order of rests. -/
theorem bst_ord {z : Nat → Int} {S : Int} (hS : 0 < S) {n k o : Nat} (h : (ordL (rsV z S) n)[k]? = some (o : Int)) : Bst (rstK z S n k) n o := by
  have hlt : o < n := by have := ordL_mem.1 (List.mem_of_getElem? h); omega
  have ho : rstK z S n k o = rsV z S o := by unfold rstK; rw [if_neg (not_take h)]
  have key : ∀ j, j < n → j ≠ o → rstK z S n k j < rsV z S o ∨ (rstK z S n k j = rsV z S o ∧ o < j) := fun j hj hne => by
    have h0 := rs_nonneg z hS (o : Int)
    unfold rstK
    split
    · left; omega
    · rename_i hm
      obtain ⟨p, hp⟩ := List.getElem?_of_mem (ordL_mem.2 ⟨by omega, by omega⟩ : (j : Int) ∈ ordL (rsV z S) n)
      have hkp : k < p := by
        rcases Nat.lt_trichotomy p k with c | c | c
        · exact absurd (List.mem_of_getElem? (by rw [List.getElem?_take_of_lt c]; exact hp : ((ordL (rsV z S) n).take k)[p]? = some (j : Int))) hm
        · subst c; rw [h] at hp; injection hp with hp; omega
        · exact c
      have ht := ordL_lt h hp hkp
      unfold tlt at ht
      omega
  refine ⟨hlt, fun j hj => ?_, fun j hj => ?_⟩
  · by_cases e : j = o
    · subst e; exact Int.le_refl _
    · rw [ho]; rcases key j hj e with c | c <;> omega
  · rw [ho]; rcases key j (by omega) (by omega) with c | c
    · exact c
    · omega
theorem rst_bd (z : Nat → Int) {S : Int} (hS : 0 < S) (n k i : Nat) : -1 ≤ rstK z S n k i ∧ rstK z S n k i < S := by
  unfold rstK
  have h1 := rs_nonneg z hS (i : Int)
  have h2 := rs_lt z hS (i : Int)
  split <;> omega
end Go.Proofs.Ytcolhgngiflkhaa
/- kernel.Binomial, kernel.Flat; lists held against one another. -/
namespace Go.Proofs.Ytcolhgngiflkhaa
open Go.RowKit
set_option linter.unusedVariables false
set_option linter.unusedSimpArgs false

/-- A list of whole numbers of the call's own. -/
structure Il (w0 wr : World) (v : Value) (L : List Int) (n : Nat) : Prop where
  len : n = L.length
  o : wr.ownsRow w0.heap.size 3 1 v n (newsI L)
  q : Q w0 wr
theorem Il.app {w0 wr : World} {v : Value} {L : List Int} {n : Nat} (h : Il w0 wr v L n) (p : Int) (hn : n ≤ 100000) :
    ∃ g c x2, (Builtin.append_ #[62, 62] 62 #[v, .slice (some ⟨wr.heap.size, 0, none⟩) 1 1]).run Try.prog (wr.alloc (.cells #[.int .i64 p] 3)) = .ok (.slice (some ⟨g, 0, none⟩) (n + 1) c) x2 ∧ Il w0 x2 (.slice (some ⟨g, 0, none⟩) (n + 1) c) (L ++ [p]) (n + 1) := by
  obtain ⟨iu, i1, i2, i3, i4⟩ := iInfo
  obtain ⟨g, c, x2, r1, o1, q1, _⟩ := run_app_qg (P := Try.prog) (wr.alloc (.cells #[.int .i64 p] 3)) w0 (h.q.cells _ _) 62 62 3 iu _ 1 8 Try.underlying62 i1 i4 i2 i3 rfl (by decide) v n _ (h.o.alloc _) ⟨wr.heap.size, 0, none⟩ 1 1 [.int .i64 p] rfl (fun j u hu => by
    cases j with
    | zero => cases hu; show (wr.alloc (.cells #[.int .i64 p] 3)).cell? ⟨wr.heap.size, 0, none⟩ = _; simp [go_sem]
    | succ j => cases hu) (fun u hu => by rw [List.mem_singleton.1 hu]; rfl) (by decide) (by unfold maxLen; omega) (by omega)
  refine ⟨g, c, x2, r1, by rw [h.len]; simp, ?_, q1⟩
  have e : newsI (L ++ [p]) = newsI L ++ [.int .i64 p] := by simp [newsI]
  rw [e]; exact o1
theorem Il.isl {w0 wr : World} {v : Value} {L : List Int} {n : Nat} (h : Il w0 wr v L n) : ISl wr v L := own_isl h.o h.len.symm
/-- Binomial numbers, one out of the other. -/
def binV (t : Int) : Nat → Int
  | 0 => 1
  | k + 1 => (binV t k * (t - k)).tdiv ((k : Int) + 1)
theorem bin_bd : ∀ r : Nat, r ≤ 8 → ∀ k : Nat, k ≤ 16 → 0 ≤ binV (2 * (r : Int)) k ∧ binV (2 * (r : Int)) k ≤ 20000 := by decide
theorem tabI_snoc (k : Nat) (f : Nat → Int) : tabI (k + 1) f = tabI k f ++ [f k] := by unfold tabI; rw [List.range_succ, List.map_append]; rfl
end Go.Proofs.Ytcolhgngiflkhaa
/- Taps held against one another. -/
namespace Go.Proofs.Ytcolhgngiflkhaa
open Go.RowKit
set_option linter.unusedVariables false
set_option linter.unusedSimpArgs false

/-- Taps in memory. -/
def TSl (w : World) (v : Value) (L : List (Int × Int)) : Prop := (∃ g o cap, v = .slice (some ⟨g, o, none⟩) L.length cap ∧ ∀ i e, L[i]? = some e → w.cell? ⟨g, o + i * 2, none⟩ = some (.int .i64 e.1) ∧ w.cell? ⟨g, o + i * 2 + 1, none⟩ = some (.int .i64 e.2)) ∨ (∃ a c, v = .slice a 0 c ∧ L = [])
theorem TSl.next {w w' : World} {v : Value} {l : List (Int × Int)} (h : TSl w v l) (q : Q w w') : TSl w' v l := by
  rcases h with ⟨g, o, cap, h1, h2⟩ | h
  · exact Or.inl ⟨g, o, cap, h1, fun i e hi => ⟨q.cell (h2 i e hi).1, q.cell (h2 i e hi).2⟩⟩
  · exact Or.inr h
theorem TSl.form {w : World} {v : Value} {l : List (Int × Int)} (h : TSl w v l) : ∃ a cap, v = .slice a l.length cap := by
  rcases h with ⟨g, o, cap, h1, h2⟩ | ⟨a, c, h1, h2⟩
  · exact ⟨_, _, h1⟩
  · subst h2; exact ⟨a, c, h1⟩
theorem TSl.some {w : World} {v : Value} {l : List (Int × Int)} (h : TSl w v l) (h1 : 1 ≤ l.length) : ∃ g o cap, v = .slice (some ⟨g, o, none⟩) l.length cap ∧ ∀ i e, l[i]? = some e → w.cell? ⟨g, o + i * 2, none⟩ = some (.int .i64 e.1) ∧ w.cell? ⟨g, o + i * 2 + 1, none⟩ = some (.int .i64 e.2) := by
  rcases h with h | ⟨_, _, _, h2⟩
  · exact h
  · subst h2; cases h1
theorem newsT_at {L : List (Int × Int)} : ∀ {i : Nat} {e : Int × Int}, L[i]? = some e → (newsT L)[i * 2]? = some (.int .i64 e.1) ∧ (newsT L)[i * 2 + 1]? = some (.int .i64 e.2) := by
  induction L with
  | nil => intro i e h; simp at h
  | cons a t ih =>
    intro i e h
    have hc : newsT (a :: t) = .int .i64 a.1 :: .int .i64 a.2 :: newsT t := rfl
    cases i with
    | zero => cases h; exact ⟨rfl, rfl⟩
    | succ i =>
      rw [List.getElem?_cons_succ] at h
      rw [hc, show (i + 1) * 2 = i * 2 + 1 + 1 by omega]
      simpa using ih h
theorem Tl.tsl {w0 wr : World} {v : Value} {L : List (Int × Int)} {n : Nat} (h : Tl w0 wr v L n) : TSl wr v L := by
  rcases h.o.2 with ⟨e1, e⟩ | ⟨g, c, cur, e1, _⟩
  · exact Or.inr ⟨_, _, e1, List.eq_nil_of_length_eq_zero (by rw [← h.len]; exact e)⟩
  · subst e1
    refine Or.inl ⟨g, 0, c, by rw [h.len], fun i e hi => ?_⟩
    have hlt := (List.getElem?_eq_some_iff.1 hi).1
    have hl := h.len
    obtain ⟨a1, a2⟩ := newsT_at hi
    rw [← h.o.cellAt (i * 2) (by omega)] at a1
    rw [← h.o.cellAt (i * 2 + 1) (by omega)] at a2
    exact ⟨by rw [Nat.zero_add]; exact a1, by rw [Nat.zero_add]; exact a2⟩
/-- A list of places told by hand. -/
theorem ordL_eq {r : Int → Int} {n : Nat} {l : List Int} (hp : l.Perm (placesL n)) (hs : l.Pairwise (tlt r)) : ordL r n = l := by
  have h1 : (ordL r n).Pairwise (tlt r) := by
    rw [List.pairwise_iff_getElem]
    intro i j hi hj hij
    exact ordL_lt (List.getElem?_eq_getElem hi) (List.getElem?_eq_getElem hj) hij
  exact ((ordL_perm r n).trans hp.symm).eq_of_pairwise (fun a b _ _ h h' => absurd (tlt_trans h h') tlt_irr) h1 hs
end Go.Proofs.Ytcolhgngiflkhaa

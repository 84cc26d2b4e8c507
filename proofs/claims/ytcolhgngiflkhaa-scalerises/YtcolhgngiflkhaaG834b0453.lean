/- Weights over a wider window, and times a number: the same taps. Plain. -/
import Derived.Test.YtcolhgngiflkhaaG179b00e2
namespace Go.Proofs.Ytcolhgngiflkhaa
open Go.Sort
set_option linter.unusedVariables false
set_option linter.unusedSimpArgs false

theorem wrun_nil {f pl : Int → Int} {a : Int} : ∀ p : Nat, (∀ j : Nat, j < p → f (a + j) = 0) → wrun f pl a p = []
  | 0, _ => rfl
  | p + 1, h => by show wput _ _ _ = _; rw [wrun_nil p (fun j hj => h j (by omega)), h p (by omega), wput_zero]
theorem wrun_lead {f pl : Int → Int} {a : Int} {p : Nat} (h : ∀ j : Nat, j < p → f (a + j) = 0) : ∀ q : Nat, wrun f pl a (p + q) = wrun f pl (a + p) q
  | 0 => by rw [Nat.add_zero, wrun_nil p h]; rfl
  | q + 1 => by
    show wput (wrun f pl a (p + q)) (pl (a + ((p + q : Nat) : Int))) (f (a + ((p + q : Nat) : Int))) = wput _ _ _
    rw [wrun_lead h q, show a + ((p + q : Nat) : Int) = a + (p : Int) + (q : Int) by omega]
theorem wrun_trail {f pl : Int → Int} {a : Int} {n : Nat} : ∀ q : Nat, (∀ j : Nat, j < q → f (a + n + j) = 0) → wrun f pl a (n + q) = wrun f pl a n
  | 0, _ => rfl
  | q + 1, h => by
    show wput (wrun f pl a (n + q)) (pl (a + ((n + q : Nat) : Int))) (f (a + ((n + q : Nat) : Int))) = _
    rw [wrun_trail q (fun j hj => h j (by omega)), show a + ((n + q : Nat) : Int) = a + (n : Int) + (q : Int) by omega, h q (by omega), wput_zero]
/-- Weights times a number. -/
def tms (l : Int) (L : List (Int × Int)) : List (Int × Int) := L.map fun e => (e.1, l * e.2)
theorem tms_len (l : Int) (L : List (Int × Int)) : (tms l L).length = L.length := by simp [tms]
theorem wput_tms {l : Int} (hl : l ≠ 0) (L : List (Int × Int)) (p n : Int) : wput (tms l L) p (l * n) = tms l (wput L p n) := by
  by_cases hn : n = 0
  · subst hn; rw [Int.mul_zero, wput_zero, wput_zero]
  · have hln : l * n ≠ 0 := Int.mul_ne_zero hl hn
    have hgl : (tms l L).getLast? = L.getLast?.map fun e => (e.1, l * e.2) := by unfold tms; rw [List.getLast?_map]
    cases hg : L.getLast? with
    | none =>
      rw [wput_new hln (fun e he => by rw [hgl, hg] at he; cases he), wput_new hn (fun e he => by rw [hg] at he; cases he)]
      unfold tms; simp
    | some z =>
      by_cases hz : z.1 = p
      · rw [wput_more hln (e := (z.1, l * z.2)) (by rw [hgl, hg]; rfl) hz, wput_more hn hg hz]
        unfold tms
        rw [List.map_append, List.map_dropLast, List.map_singleton]
        simp only [Int.mul_add]
      · rw [wput_new hln (fun e he => by rw [hgl, hg] at he; injection he with he; rw [← he]; exact hz), wput_new hn (fun e he => by rw [hg] at he; injection he with he; rw [← he]; exact hz)]
        unfold tms; simp
theorem wrun_tms {l : Int} (hl : l ≠ 0) {f g pl : Int → Int} (hg : ∀ k, g k = l * f k) (a : Int) : ∀ n : Nat, wrun g pl a n = tms l (wrun f pl a n)
  | 0 => rfl
  | n + 1 => by show wput (wrun g pl a n) _ _ = tms l (wput _ _ _); rw [wrun_tms hl hg a n, hg, wput_tms hl]
/-- Shares of weights times a number. -/
theorem flo_tms {z y : Nat → Int} {l S : Int} (hl : 0 < l) (hy : ∀ i, y i = l * z i) (i : Nat) : flo y (l * S) i = flo z S i := by
  unfold flo
  rw [hy, show (65536 : Int) * (l * z i) = l * (65536 * z i) by rw [← Int.mul_assoc, Int.mul_comm 65536 l, Int.mul_assoc], Int.mul_ediv_mul_of_pos _ _ hl]
theorem rsV_tms {z y : Nat → Int} {l S : Int} (hl : 0 < l) (hy : ∀ i, y i = l * z i) (i : Int) : rsV y (l * S) i = l * rsV z S i := by
  unfold rsV
  rw [hy, show (65536 : Int) * (l * z i.toNat) = l * (65536 * z i.toNat) by rw [← Int.mul_assoc, Int.mul_comm 65536 l, Int.mul_assoc], Int.mul_emod_mul_of_pos _ _ hl]
theorem tlt_tms {r q : Int → Int} {l : Int} (hl : 0 < l) (hq : ∀ i, q i = l * r i) (x y : Int) : tlt r x y → tlt q x y := by
  unfold tlt
  rw [hq, hq]
  rintro (h | ⟨h1, h2⟩)
  · exact Or.inl (Int.mul_lt_mul_of_pos_left h hl)
  · exact Or.inr ⟨by rw [h1], h2⟩
theorem ordL_tms {r q : Int → Int} {l : Int} (hl : 0 < l) (hq : ∀ i, q i = l * r i) (n : Nat) : ordL q n = ordL r n := by
  refine ordL_eq (ordL_perm r n) ?_
  refine List.pairwise_iff_getElem.2 fun i j hi hj hij => ?_
  exact tlt_tms hl hq _ _ (ordL_lt (List.getElem?_eq_getElem hi) (List.getElem?_eq_getElem hj) hij)
theorem shrV_tms {z y : Nat → Int} {l : Int} (hl : 0 < l) (hy : ∀ i, y i = l * z i) (n i : Nat) : shrV y n i = shrV z n i := by
  have hs : sumF y n = l * sumF z n := by rw [← sumF_mul]; exact sumF_congr n (fun i _ => hy i)
  unfold shrV missV shrK
  rw [hs, flo_tms hl hy, ordL_tms hl (rsV_tms hl hy), sumF_congr n (fun i _ => flo_tms (S := sumF z n) hl hy i)]
theorem zf_tms (l : Int) (L : List (Int × Int)) (i : Nat) : zf ((tms l L).map Prod.snd) i = l * zf (L.map Prod.snd) i := by
  unfold zf tms
  rw [List.getD_eq_getElem?_getD, List.getD_eq_getElem?_getD, List.map_map, List.getElem?_map, List.getElem?_map]
  cases L[i]? with
  | none => simp
  | some e => rfl
theorem tpK_congr {L M : List (Int × Int)} {sh sg : Nat → Int} (h1 : ∀ k, (L.getD k (0, 0)).1 = (M.getD k (0, 0)).1) (h2 : ∀ k, sh k = sg k) : ∀ j, tpK L sh j = tpK M sg j
  | 0 => rfl
  | j + 1 => by
    unfold tpK
    rw [tpK_congr h1 h2 j, h1, h2]
theorem tapsL_tms {l : Int} (hl : 0 < l) (L : List (Int × Int)) : tapsL (tms l L) = tapsL L := by
  unfold tapsL
  rw [tms_len]
  refine tpK_congr (fun k => ?_) (fun k => shrV_tms hl (zf_tms l L) _ _) _
  unfold tms
  rw [List.getD_eq_getElem?_getD, List.getD_eq_getElem?_getD, List.getElem?_map]
  cases L[k]? with
  | none => rfl
  | some e => rfl
theorem sndSum_tms (l : Int) (L : List (Int × Int)) : sndSum (tms l L) = l * sndSum L := by
  unfold sndSum tms
  induction L with
  | nil => simp
  | cons e L ih => simp only [List.map_cons, List.sum_cons]; rw [ih, Int.mul_add]
/-- The document's weights: those of the kernel, times mulR. -/
def mulR (kind m : Int) : Int := if kind = 1 then 2 * (2 * m) * (2 * m) * (2 * m) else if kind = 2 then 2 * (2 * m) * (2 * m) else 1
def wgtR (kind a b : Int) : Int := if kind = 1 then (if -b ≤ 2 * a ∧ 2 * a < b then 2 * b * b * b else 0) else if kind = 2 then (if absI a < b then 2 * b * b * (b - absI a) else 0) else cubV (absI a) b
theorem mulR_pos {kind m : Int} (hm : 0 < m) : 0 < mulR kind m := by
  unfold mulR
  have h2 : 0 < 2 * m := by omega
  split
  · exact Int.mul_pos (Int.mul_pos (by omega) h2) h2
  · split
    · exact Int.mul_pos (by omega) h2
    · decide
theorem wgtR_eq {kind m a : Int} (hk : kind = 1 ∨ kind = 2 ∨ kind = 3) : wgtR kind a (2 * m) = mulR kind m * wgt kind m a := by
  unfold wgtR mulR wgt
  rcases hk with rfl | rfl | rfl
  · simp only [if_true]
    by_cases c : -(2 * m) ≤ 2 * a ∧ 2 * a < 2 * m
    · rw [if_pos c, if_pos (by omega), Int.mul_one]
    · rw [if_neg c, if_neg (by omega), Int.mul_zero]
  · simp only [show ¬ (2 : Int) = 1 by decide, if_false, if_true]
    have ha : 0 ≤ absI a := by unfold absI; omega
    by_cases c : absI a < 2 * m
    · rw [if_pos c]
      congr 1
      omega
    · rw [if_neg c, show max (2 * m - absI a) 0 = 0 by omega, Int.mul_zero]
  · simp only [show ¬ (3 : Int) = 1 by decide, show ¬ (3 : Int) = 2 by decide, if_false, Int.one_mul]
/-- Outside its reach a kernel weighs nothing. -/
theorem wgt_out {kind m d : Int} (hk : kind = 1 ∨ kind = 2 ∨ kind = 3) (hm : 0 < m) (h : rea kind m < absI d) : wgt kind m d = 0 := by
  unfold wgt rea at *
  unfold absI cubV at *
  rcases hk with rfl | rfl | rfl
  · simp only [if_true] at h ⊢
    rw [if_neg (by omega)]
  · simp only [show ¬ (2 : Int) = 1 by decide, if_false, if_true] at h ⊢
    omega
  · simp only [show ¬ (3 : Int) = 1 by decide, show ¬ (3 : Int) = 2 by decide, if_false] at h ⊢
    rw [if_neg (by omega), if_neg (by omega)]
/-- The document's window. -/
def midR (F T i : Nat) : Int := midV F T i / (2 * (T : Int))
def reaR (F T : Nat) : Int := 2 * ((max F T : Nat) : Int) / (T : Int) + 2
def nR (F T : Nat) : Nat := (2 * reaR F T + 2).toNat
theorem reaR_bd {F T i : Nat} (h : Sz F T i) : 4 ≤ reaR F T ∧ reaR F T ≤ 32 ∧ 2 * ((max F T : Nat) : Int) < (reaR F T - 1) * (T : Int) := by
  obtain ⟨f1, f2, t1, t2, hi, ft⟩ := h
  have hT : 0 < (T : Int) := by omega
  have a1 := Int.mul_ediv_add_emod (2 * ((max F T : Nat) : Int)) (T : Int)
  have a2 := Int.emod_nonneg (2 * ((max F T : Nat) : Int)) (by omega : (T : Int) ≠ 0)
  have a3 := Int.emod_lt_of_pos (2 * ((max F T : Nat) : Int)) hT
  unfold reaR
  generalize 2 * ((max F T : Nat) : Int) % (T : Int) = r at *
  have hm1 : ((max F T : Nat) : Int) ≤ 15 * (T : Int) := by omega
  have hm2 : (T : Int) ≤ ((max F T : Nat) : Int) := by omega
  generalize ((max F T : Nat) : Int) = m at *
  generalize 2 * m / (T : Int) = q at *
  have h1 : 2 ≤ q := by
    rcases Int.lt_or_le q 2 with c | c
    · have : (T : Int) * q ≤ (T : Int) * 1 := Int.mul_le_mul_of_nonneg_left (by omega) (by omega)
      omega
    · exact c
  have h2 : q ≤ 30 := by
    rcases Int.lt_or_le 30 q with c | c
    · have : (T : Int) * 31 ≤ (T : Int) * q := Int.mul_le_mul_of_nonneg_left (by omega) (by omega)
      omega
    · exact c
  refine ⟨by omega, by omega, ?_⟩
  rw [show q + 2 - 1 = q + 1 by omega, Int.add_mul, Int.mul_comm q]
  omega
theorem win_in {kind : Int} {F T i : Nat} (h : Sz F T i) : midR F T i - reaR F T ≤ fstV kind F T i ∧ lstV kind F T i ≤ midR F T i + 1 + reaR F T := by
  obtain ⟨w1, w2, w3, w4⟩ := win_eq (kind := kind) h
  obtain ⟨b1, b2, b3⟩ := reaR_bd h
  have hr := rea_size (kind := kind) (m := (max F T : Nat)) (by have := h.f1; omega)
  have hT : 0 < 2 * (T : Int) := by have := h.t1; omega
  have a1 := Int.mul_ediv_add_emod (midV F T i) (2 * (T : Int))
  have a2 := Int.emod_nonneg (midV F T i) (by omega : 2 * (T : Int) ≠ 0)
  have a3 := Int.emod_lt_of_pos (midV F T i) hT
  change 2 * (T : Int) * midR F T i + _ = _ at a1
  generalize midV F T i % (2 * (T : Int)) = e at *
  generalize midV F T i = M at *
  generalize midR F T i = mid at *
  generalize rea kind (max F T : Nat) = R at *
  generalize fstV kind F T i = f at *
  generalize lstV kind F T i = l at *
  generalize reaR F T = r at *
  generalize ((max F T : Nat) : Int) = m at *
  generalize (T : Int) = t at *
  refine ⟨?_, ?_⟩
  · rcases Int.lt_or_le f (mid - r) with c | c
    · have : 2 * t * (f + 1) ≤ 2 * t * (mid - r) := Int.mul_le_mul_of_nonneg_left (by omega) (by omega)
      rw [Int.mul_add, Int.mul_sub, Int.mul_assoc 2 t r, Int.mul_comm t r] at this
      rw [Int.sub_mul] at b3
      omega
    · exact c
  · rcases Int.lt_or_le (mid + 1 + r) l with c | c
    · have : 2 * t * (mid + 2 + r) ≤ 2 * t * l := Int.mul_le_mul_of_nonneg_left (by omega) (by omega)
      rw [Int.mul_add, Int.mul_add, Int.mul_assoc 2 t r, Int.mul_comm t r] at this
      rw [Int.sub_mul] at b3
      omega
    · exact c
/-- The document's list of weights. -/
def wfR (kind : Int) (F T i : Nat) (k : Int) : Int := wgtR kind (2 * (T : Int) * k - midV F T i) (2 * (max F T : Nat))
theorem wls_doc {kind : Int} {F T i : Nat} (hk : kind = 1 ∨ kind = 2 ∨ kind = 3) (h : Sz F T i) :
    wrun (wfR kind F T i) (plV F) (midR F T i - reaR F T) (nR F T) = tms (mulR kind (max F T : Nat)) (wlsV kind F T i) := by
  have hm : 0 < ((max F T : Nat) : Int) := by have := h.f1; omega
  obtain ⟨i1, i2⟩ := win_in (kind := kind) h
  obtain ⟨b1, b2, b3⟩ := reaR_bd h
  obtain ⟨w1, w2, w3, w4⟩ := win_eq (kind := kind) h
  obtain ⟨g1, g2, _⟩ := win_facts (kind := kind) h
  have hT : 0 < 2 * (T : Int) := by have := h.t1; omega
  rw [wrun_tms (f := wfV kind F T i) (g := wfR kind F T i) (Int.ne_of_gt (mulR_pos hm)) (fun k => wgtR_eq hk)]
  congr 1
  have hout : ∀ k, k < fstV kind F T i ∨ lstV kind F T i < k → wfV kind F T i k = 0 := fun k hkk => by
    refine wgt_out hk hm ?_
    unfold absI
    rcases hkk with c | c
    · have : 2 * (T : Int) * (k + 1) ≤ 2 * (T : Int) * fstV kind F T i := Int.mul_le_mul_of_nonneg_left (by omega) (by omega)
      rw [Int.mul_add] at this
      generalize 2 * (T : Int) * k = x at *
      generalize 2 * (T : Int) * fstV kind F T i = y at *
      omega
    · have : 2 * (T : Int) * (lstV kind F T i + 1) ≤ 2 * (T : Int) * k := Int.mul_le_mul_of_nonneg_left (by omega) (by omega)
      rw [Int.mul_add] at this
      generalize 2 * (T : Int) * k = x at *
      generalize 2 * (T : Int) * lstV kind F T i = y at *
      omega
  obtain ⟨p, hp⟩ : ∃ p : Nat, (p : Int) = fstV kind F T i - (midR F T i - reaR F T) := ⟨(fstV kind F T i - (midR F T i - reaR F T)).toNat, by omega⟩
  obtain ⟨q, hq⟩ : ∃ q : Nat, (q : Int) = midR F T i + 1 + reaR F T - lstV kind F T i := ⟨(midR F T i + 1 + reaR F T - lstV kind F T i).toNat, by omega⟩
  have hn : nR F T = p + (winV kind F T i + q) := by unfold nR winV; omega
  rw [hn, wrun_lead (fun j hj => hout _ (Or.inl (by omega))), show midR F T i - reaR F T + (p : Int) = fstV kind F T i by omega, wrun_trail q (fun j hj => hout _ (Or.inr (by unfold winV; omega)))]
  rfl
theorem mid_win {F T i : Nat} (h : Sz F T i) (k : Int) (h1 : midR F T i - reaR F T ≤ k) (h2 : k ≤ midR F T i + 1 + reaR F T) : -8192 * 10 ≤ 2 * (T : Int) * k - midV F T i ∧ 2 * (T : Int) * k - midV F T i ≤ 8192 * 10 := by
  obtain ⟨b1, b2, b3⟩ := reaR_bd h
  have hT : 0 < 2 * (T : Int) := by have := h.t1; omega
  have hT2 := h.t2
  have a1 := Int.mul_ediv_add_emod (midV F T i) (2 * (T : Int))
  have a2 := Int.emod_nonneg (midV F T i) (by omega : 2 * (T : Int) ≠ 0)
  have a3 := Int.emod_lt_of_pos (midV F T i) hT
  change 2 * (T : Int) * midR F T i + _ = _ at a1
  have c1 : 2 * (T : Int) * (midR F T i - 32) ≤ 2 * (T : Int) * k := Int.mul_le_mul_of_nonneg_left (by omega) (by omega)
  have c2 : 2 * (T : Int) * k ≤ 2 * (T : Int) * (midR F T i + 33) := Int.mul_le_mul_of_nonneg_left (by omega) (by omega)
  rw [Int.mul_sub] at c1
  rw [Int.mul_add] at c2
  omega
end Go.Proofs.Ytcolhgngiflkhaa

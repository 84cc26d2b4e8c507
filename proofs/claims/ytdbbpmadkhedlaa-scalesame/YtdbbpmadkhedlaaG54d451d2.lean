/- Weights over a wider window, and times a number: the same taps. Plain. -/
import Derived.Test.YtdbbpmadkhedlaaGfc8d9c6d
import Derived.Test.YtdbbpmadkhedlaaG2e05c6c0
import Derived.Test.YtdbbpmadkhedlaaG10bb6ad9
import Derived.Test.YtdbbpmadkhedlaaGede12367
namespace Go.Proofs.Ytdbbpmadkhedlaa
open Go.Sort
set_option linter.unusedVariables false
set_option linter.unusedSimpArgs false

theorem wrun_nil {f pl : Int → Int} {a : Int} : ∀ p : Nat, (∀ j : Nat, j < p → f (a + j) = 0) → wrun f pl a p = []
  | 0, _ => rfl
  | p + 1, h => by show wput _ _ _ = _; rw [wrun_nil p (fun j hj => h j (by omega)), h p (by omega), wput_zero]
theorem wrun_lead {f pl : Int → Int} {a : Int} {p : Nat} (h : ∀ j : Nat, j < p → f (a + j) = 0) : ∀ q : Nat, wrun f pl a (p + q) = wrun f pl (a + p) q
  | 0 => by rw [Nat.add_zero, wrun_nil p h]; rfl
  | q + 1 => by
    show wput (wrun f pl a (p + q)) (pl (a + ((p + q : Nat) : Int))) (f (a + ((p + q : Nat) : Int))) = wput _ _ _
    rw [wrun_lead h q, show a + ((p + q : Nat) : Int) = a + (p : Int) + (q : Int) by omega]
theorem wrun_trail {f pl : Int → Int} {a : Int} {n : Nat} : ∀ q : Nat, (∀ j : Nat, j < q → f (a + n + j) = 0) → wrun f pl a (n + q) = wrun f pl a n
  | 0, _ => rfl
  | q + 1, h => by
    show wput (wrun f pl a (n + q)) (pl (a + ((n + q : Nat) : Int))) (f (a + ((n + q : Nat) : Int))) = _
    rw [wrun_trail q (fun j hj => h j (by omega)), show a + ((n + q : Nat) : Int) = a + (n : Int) + (q : Int) by omega, h q (by omega), wput_zero]
/-- Weights times a number. -/
def tms (l : Int) (L : List (Int × Int)) : List (Int × Int) := L.map fun e => (e.1, l * e.2)
theorem tms_len (l : Int) (L : List (Int × Int)) : (tms l L).length = L.length := by simp [tms]
theorem wput_tms {l : Int} (hl : l ≠ 0) (L : List (Int × Int)) (p n : Int) : wput (tms l L) p (l * n) = tms l (wput L p n) := by
  by_cases hn : n = 0
  · subst hn; rw [Int.mul_zero, wput_zero, wput_zero]
  · have hln : l * n ≠ 0 := Int.mul_ne_zero hl hn
    have hgl : (tms l L).getLast? = L.getLast?.map fun e => (e.1, l * e.2) := by unfold tms; rw [List.getLast?_map]
    cases hg : L.getLast? with
    | none =>
      rw [wput_new hln (fun e he => by rw [hgl, hg] at he; cases he), wput_new hn (fun e he => by rw [hg] at he; cases he)]
      unfold tms; simp
    | some z =>
      by_cases hz : z.1 = p
      · rw [wput_more hln (e := (z.1, l * z.2)) (by rw [hgl, hg]; rfl) hz, wput_more hn hg hz]
        unfold tms
        rw [List.map_append, List.map_dropLast, List.map_singleton]
        simp only [Int.mul_add]
      · rw [wput_new hln (fun e he => by rw [hgl, hg] at he; injection he with he; rw [← he]; exact hz), wput_new hn (fun e he => by rw [hg] at he; injection he with he; rw [← he]; exact hz)]
        unfold tms; simp
theorem wrun_tms {l : Int} (hl : l ≠ 0) {f g pl : Int → Int} (hg : ∀ k, g k = l * f k) (a : Int) : ∀ n : Nat, wrun g pl a n = tms l (wrun f pl a n)
  | 0 => rfl
  | n + 1 => by show wput (wrun g pl a n) _ _ = tms l (wput _ _ _); rw [wrun_tms hl hg a n, hg, wput_tms hl]
/-- Shares of weights times a number. -/
theorem flo_tms {z y : Nat → Int} {l S : Int} (hl : 0 < l) (hy : ∀ i, y i = l * z i) (i : Nat) : flo y (l * S) i = flo z S i := by
  unfold flo
  rw [hy, show (65536 : Int) * (l * z i) = l * (65536 * z i) by rw [← Int.mul_assoc, Int.mul_comm 65536 l, Int.mul_assoc], Int.mul_ediv_mul_of_pos _ _ hl]
theorem rsV_tms {z y : Nat → Int} {l S : Int} (hl : 0 < l) (hy : ∀ i, y i = l * z i) (i : Int) : rsV y (l * S) i = l * rsV z S i := by
  unfold rsV
  rw [hy, show (65536 : Int) * (l * z i.toNat) = l * (65536 * z i.toNat) by rw [← Int.mul_assoc, Int.mul_comm 65536 l, Int.mul_assoc], Int.mul_emod_mul_of_pos _ _ hl]
theorem tlt_tms {r q : Int → Int} {l : Int} (hl : 0 < l) (hq : ∀ i, q i = l * r i) (x y : Int) : tlt r x y → tlt q x y := by
  unfold tlt
  rw [hq, hq]
  rintro (h | ⟨h1, h2⟩)
  · exact Or.inl (Int.mul_lt_mul_of_pos_left h hl)
  · exact Or.inr ⟨by rw [h1], h2⟩
theorem ordL_tms {r q : Int → Int} {l : Int} (hl : 0 < l) (hq : ∀ i, q i = l * r i) (n : Nat) : ordL q n = ordL r n := by
  refine ordL_eq (ordL_perm r n) ?_
  refine List.pairwise_iff_getElem.2 fun i j hi hj hij => ?_
  exact tlt_tms hl hq _ _ (ordL_lt (List.getElem?_eq_getElem hi) (List.getElem?_eq_getElem hj) hij)
theorem shrV_tms {z y : Nat → Int} {l : Int} (hl : 0 < l) (hy : ∀ i, y i = l * z i) (n i : Nat) : shrV y n i = shrV z n i := by
  have hs : sumF y n = l * sumF z n := by rw [← sumF_mul]; exact sumF_congr n (fun i _ => hy i)
  unfold shrV missV shrK
  rw [hs, flo_tms hl hy, ordL_tms hl (rsV_tms hl hy), sumF_congr n (fun i _ => flo_tms (S := sumF z n) hl hy i)]
theorem zf_tms (l : Int) (L : List (Int × Int)) (i : Nat) : zf ((tms l L).map Prod.snd) i = l * zf (L.map Prod.snd) i := by
  unfold zf tms
  rw [List.getD_eq_getElem?_getD, List.getD_eq_getElem?_getD, List.map_map, List.getElem?_map, List.getElem?_map]
  cases L[i]? with
  | none => simp
  | some e => rfl
theorem tpK_congr {L M : List (Int × Int)} {sh sg : Nat → Int} (h1 : ∀ k, (L.getD k (0, 0)).1 = (M.getD k (0, 0)).1) (h2 : ∀ k, sh k = sg k) : ∀ j, tpK L sh j = tpK M sg j
  | 0 => rfl
  | j + 1 => by
    unfold tpK
    rw [tpK_congr h1 h2 j, h1, h2]
theorem tapsL_tms {l : Int} (hl : 0 < l) (L : List (Int × Int)) : tapsL (tms l L) = tapsL L := by
  unfold tapsL
  rw [tms_len]
  refine tpK_congr (fun k => ?_) (fun k => shrV_tms hl (zf_tms l L) _ _) _
  unfold tms
  rw [List.getD_eq_getElem?_getD, List.getD_eq_getElem?_getD, List.getElem?_map]
  cases L[k]? with
  | none => rfl
  | some e => rfl
theorem sndSum_tms (l : Int) (L : List (Int × Int)) : sndSum (tms l L) = l * sndSum L := by
  unfold sndSum tms
  induction L with
  | nil => simp
  | cons e L ih => simp only [List.map_cons, List.sum_cons]; rw [ih, Int.mul_add]
/-- The document's weights: those of the kernel, times mulR. -/
def mulR (kind m : Int) : Int := if kind = 1 then 2 * (2 * m) * (2 * m) * (2 * m) else if kind = 2 then 2 * (2 * m) * (2 * m) else 1
def wgtR (kind a b : Int) : Int := if kind = 1 then (if -b ≤ 2 * a ∧ 2 * a < b then 2 * b * b * b else 0) else if kind = 2 then (if absI a < b then 2 * b * b * (b - absI a) else 0) else cubV (absI a) b
theorem mulR_pos {kind m : Int} (hm : 0 < m) : 0 < mulR kind m := by
  unfold mulR
  have h2 : 0 < 2 * m := by omega
  split
  · exact Int.mul_pos (Int.mul_pos (by omega) h2) h2
  · split
    · exact Int.mul_pos (by omega) h2
    · decide
theorem wgtR_eq {kind m a : Int} (hk : kind = 1 ∨ kind = 2 ∨ kind = 3) : wgtR kind a (2 * m) = mulR kind m * wgt kind m a := by
  unfold wgtR mulR wgt
  rcases hk with rfl | rfl | rfl
  · simp only [if_true]
    by_cases c : -(2 * m) ≤ 2 * a ∧ 2 * a < 2 * m
    · rw [if_pos c, if_pos (by omega), Int.mul_one]
    · rw [if_neg c, if_neg (by omega), Int.mul_zero]
  · simp only [show ¬ (2 : Int) = 1 by decide, if_false, if_true]
    have ha : 0 ≤ absI a := by unfold absI; omega
    by_cases c : absI a < 2 * m
    · rw [if_pos c]
      congr 1
      omega
    · rw [if_neg c, show max (2 * m - absI a) 0 = 0 by omega, Int.mul_zero]
  · simp only [show ¬ (3 : Int) = 1 by decide, show ¬ (3 : Int) = 2 by decide, if_false, Int.one_mul]
/-- Outside its reach a kernel weighs nothing. -/
theorem wgt_out {kind m d : Int} (hk : kind = 1 ∨ kind = 2 ∨ kind = 3) (hm : 0 < m) (h : rea kind m < absI d) : wgt kind m d = 0 := by
  unfold wgt rea at *
  unfold absI cubV at *
  rcases hk with rfl | rfl | rfl
  · simp only [if_true] at h ⊢
    rw [if_neg (by omega)]
  · simp only [show ¬ (2 : Int) = 1 by decide, if_false, if_true] at h ⊢
    omega
  · simp only [show ¬ (3 : Int) = 1 by decide, show ¬ (3 : Int) = 2 by decide, if_false] at h ⊢
    rw [if_neg (by omega), if_neg (by omega)]
/-- The document's window. -/
def midR (F T i : Nat) : Int := midV F T i / (2 * (T : Int))
def reaR (F T : Nat) : Int := 2 * ((max F T : Nat) : Int) / (T : Int) + 2
def nR (F T : Nat) : Nat := (2 * reaR F T + 2).toNat
theorem reaR_bd {F T i : Nat} (h : Sz F T i) : 4 ≤ reaR F T ∧ reaR F T ≤ 32 ∧ 2 * ((max F T : Nat) : Int) < (reaR F T - 1) * (T : Int) := by
  obtain ⟨f1, f2, t1, t2, hi, ft⟩ := h
  have hT : 0 < (T : Int) := by omega
  have a1 := Int.mul_ediv_add_emod (2 * ((max F T : Nat) : Int)) (T : Int)
  have a2 := Int.emod_nonneg (2 * ((max F T : Nat) : Int)) (by omega : (T : Int) ≠ 0)
  have a3 := Int.emod_lt_of_pos (2 * ((max F T : Nat) : Int)) hT
  unfold reaR
  generalize 2 * ((max F T : Nat) : Int) % (T : Int) = r at *
  have hm1 : ((max F T : Nat) : Int) ≤ 15 * (T : Int) := by omega
  have hm2 : (T : Int) ≤ ((max F T : Nat) : Int) := by omega
  generalize ((max F T : Nat) : Int) = m at *
  generalize 2 * m / (T : Int) = q at *
  have h1 : 2 ≤ q := by
    rcases Int.lt_or_le q 2 with c | c
    · have : (T : Int) * q ≤ (T : Int) * 1 := Int.mul_le_mul_of_nonneg_left (by omega) (by omega)
      omega
    · exact c
  have h2 : q ≤ 30 := by
    rcases Int.lt_or_le 30 q with c | c
    · have : (T : Int) * 31 ≤ (T : Int) * q := Int.mul_le_mul_of_nonneg_left (by omega) (by omega)
      omega
    · exact c
  refine ⟨by omega, by omega, ?_⟩
  rw [show q + 2 - 1 = q + 1 by omega, Int.add_mul, Int.mul_comm q]
  omega
theorem win_in {kind : Int} {F T i : Nat} (h : Sz F T i) : midR F T i - reaR F T ≤ fstV kind F T i ∧ lstV kind F T i ≤ midR F T i + 1 + reaR F T := by
  obtain ⟨w1, w2, w3, w4⟩ := win_eq (kind := kind) h
  obtain ⟨b1, b2, b3⟩ := reaR_bd h
  have hr := rea_size (kind := kind) (m := (max F T : Nat)) (by have := h.f1; omega)
  have hT : 0 < 2 * (T : Int) := by have := h.t1; omega
  have a1 := Int.mul_ediv_add_emod (midV F T i) (2 * (T : Int))
  have a2 := Int.emod_nonneg (midV F T i) (by omega : 2 * (T : Int) ≠ 0)
  have a3 := Int.emod_lt_of_pos (midV F T i) hT
  change 2 * (T : Int) * midR F T i + _ = _ at a1
  generalize midV F T i % (2 * (T : Int)) = e at *
  generalize midV F T i = M at *
  generalize midR F T i = mid at *
  generalize rea kind (max F T : Nat) = R at *
  generalize fstV kind F T i = f at *
  generalize lstV kind F T i = l at *
  generalize reaR F T = r at *
  generalize ((max F T : Nat) : Int) = m at *
  generalize (T : Int) = t at *
  refine ⟨?_, ?_⟩
  · rcases Int.lt_or_le f (mid - r) with c | c
    · have : 2 * t * (f + 1) ≤ 2 * t * (mid - r) := Int.mul_le_mul_of_nonneg_left (by omega) (by omega)
      rw [Int.mul_add, Int.mul_sub, Int.mul_assoc 2 t r, Int.mul_comm t r] at this
      rw [Int.sub_mul] at b3
      omega
    · exact c
  · rcases Int.lt_or_le (mid + 1 + r) l with c | c
    · have : 2 * t * (mid + 2 + r) ≤ 2 * t * l := Int.mul_le_mul_of_nonneg_left (by omega) (by omega)
      rw [Int.mul_add, Int.mul_add, Int.mul_assoc 2 t r, Int.mul_comm t r] at this
      rw [Int.sub_mul] at b3
      omega
    · exact c
/-- The document's list of weights. -/
def wfR (kind : Int) (F T i : Nat) (k : Int) : Int := wgtR kind (2 * (T : Int) * k - midV F T i) (2 * (max F T : Nat))
theorem wls_doc {kind : Int} {F T i : Nat} (hk : kind = 1 ∨ kind = 2 ∨ kind = 3) (h : Sz F T i) :
    wrun (wfR kind F T i) (plV F) (midR F T i - reaR F T) (nR F T) = tms (mulR kind (max F T : Nat)) (wlsV kind F T i) := by
  have hm : 0 < ((max F T : Nat) : Int) := by have := h.f1; omega
  obtain ⟨i1, i2⟩ := win_in (kind := kind) h
  obtain ⟨b1, b2, b3⟩ := reaR_bd h
  obtain ⟨w1, w2, w3, w4⟩ := win_eq (kind := kind) h
  obtain ⟨g1, g2, _⟩ := win_facts (kind := kind) h
  have hT : 0 < 2 * (T : Int) := by have := h.t1; omega
  rw [wrun_tms (f := wfV kind F T i) (g := wfR kind F T i) (Int.ne_of_gt (mulR_pos hm)) (fun k => wgtR_eq hk)]
  congr 1
  have hout : ∀ k, k < fstV kind F T i ∨ lstV kind F T i < k → wfV kind F T i k = 0 := fun k hkk => by
    refine wgt_out hk hm ?_
    unfold absI
    rcases hkk with c | c
    · have : 2 * (T : Int) * (k + 1) ≤ 2 * (T : Int) * fstV kind F T i := Int.mul_le_mul_of_nonneg_left (by omega) (by omega)
      rw [Int.mul_add] at this
      generalize 2 * (T : Int) * k = x at *
      generalize 2 * (T : Int) * fstV kind F T i = y at *
      omega
    · have : 2 * (T : Int) * (lstV kind F T i + 1) ≤ 2 * (T : Int) * k := Int.mul_le_mul_of_nonneg_left (by omega) (by omega)
      rw [Int.mul_add] at this
      generalize 2 * (T : Int) * k = x at *
      generalize 2 * (T : Int) * lstV kind F T i = y at *
      omega
  obtain ⟨p, hp⟩ : ∃ p : Nat, (p : Int) = fstV kind F T i - (midR F T i - reaR F T) := ⟨(fstV kind F T i - (midR F T i - reaR F T)).toNat, by omega⟩
  obtain ⟨q, hq⟩ : ∃ q : Nat, (q : Int) = midR F T i + 1 + reaR F T - lstV kind F T i := ⟨(midR F T i + 1 + reaR F T - lstV kind F T i).toNat, by omega⟩
  have hn : nR F T = p + (winV kind F T i + q) := by unfold nR winV; omega
  rw [hn, wrun_lead (fun j hj => hout _ (Or.inl (by omega))), show midR F T i - reaR F T + (p : Int) = fstV kind F T i by omega, wrun_trail q (fun j hj => hout _ (Or.inr (by unfold winV; omega)))]
  rfl
theorem mid_win {F T i : Nat} (h : Sz F T i) (k : Int) (h1 : midR F T i - reaR F T ≤ k) (h2 : k ≤ midR F T i + 1 + reaR F T) : -8192 * 10 ≤ 2 * (T : Int) * k - midV F T i ∧ 2 * (T : Int) * k - midV F T i ≤ 8192 * 10 := by
  obtain ⟨b1, b2, b3⟩ := reaR_bd h
  have hT : 0 < 2 * (T : Int) := by have := h.t1; omega
  have hT2 := h.t2
  have a1 := Int.mul_ediv_add_emod (midV F T i) (2 * (T : Int))
  have a2 := Int.emod_nonneg (midV F T i) (by omega : 2 * (T : Int) ≠ 0)
  have a3 := Int.emod_lt_of_pos (midV F T i) hT
  change 2 * (T : Int) * midR F T i + _ = _ at a1
  have c1 : 2 * (T : Int) * (midR F T i - 32) ≤ 2 * (T : Int) * k := Int.mul_le_mul_of_nonneg_left (by omega) (by omega)
  have c2 : 2 * (T : Int) * k ≤ 2 * (T : Int) * (midR F T i + 33) := Int.mul_le_mul_of_nonneg_left (by omega) (by omega)
  rw [Int.mul_sub] at c1
  rw [Int.mul_add] at c2
  omega
end Go.Proofs.Ytdbbpmadkhedlaa
/- The document's Share: two rows that it makes, in whatever order. -/
namespace Go.Proofs.Ytdbbpmadkhedlaa
open Go.RowKit
set_option linter.unusedVariables false
set_option linter.unusedSimpArgs false

/-- A row of noughts that is made. -/
def rowS (B n : Nat) : Sp2 := sP (fun v x => ∃ g, v = .slice (some ⟨g, 0, none⟩) n n ∧ B ≤ g ∧ g < x.heap.size ∧ IRow x g (List.replicate n 0)) (fun v x x' ⟨g, h1, h2, h3, h4⟩ q => ⟨g, h1, h2, by have := q.1.size; omega, h4.next q⟩)
def oRs_0 : Oper := { dst := some 46, op := .move (.tmp 0), type := 51, pos := "halideref9.go:40", after := #[], guard := none }
def oRs_1 : Oper := { dst := some 47, op := .call { callee := .builtin .len, args := #[.tmp 46], argTypes := #[51] }, type := 3, pos := "halideref9.go:40", after := #[⟨0, .data⟩], guard := none }
def oRs_2 : Oper := { dst := some 48, op := .makeSlice 51 (.tmp 47) (.tmp 47), type := 51, pos := "halideref9.go:40", after := #[⟨1, .data⟩, ⟨1, .data⟩], guard := none }
def oRs_3 : Oper := { dst := some 49, op := .move (.tmp 0), type := 51, pos := "halideref9.go:40", after := #[], guard := none }
def oRs_4 : Oper := { dst := some 50, op := .call { callee := .builtin .len, args := #[.tmp 49], argTypes := #[51] }, type := 3, pos := "halideref9.go:40", after := #[⟨3, .data⟩], guard := none }
def oRs_5 : Oper := { dst := some 51, op := .makeSlice 51 (.tmp 50) (.tmp 50), type := 51, pos := "halideref9.go:40", after := #[⟨4, .data⟩, ⟨4, .data⟩], guard := none }
def oRs_6 : Oper := { dst := some 6, op := .assign (.tmp 48), type := 51, pos := "halideref9.go:40", after := #[⟨2, .data⟩, ⟨0, .phase⟩, ⟨1, .phase⟩, ⟨2, .phase⟩, ⟨3, .textOnly .lateStores⟩, ⟨4, .textOnly .lateStoresUnsure⟩, ⟨5, .textOnly .lateStoresUnsure⟩], guard := none }
def oRs_7 : Oper := { dst := some 7, op := .assign (.tmp 51), type := 51, pos := "halideref9.go:40", after := #[⟨5, .data⟩, ⟨6, .chain⟩, ⟨0, .phase⟩, ⟨1, .phase⟩, ⟨2, .phase⟩, ⟨3, .phase⟩, ⟨4, .phase⟩, ⟨5, .phase⟩, ⟨6, .phase⟩], guard := none }
def opsRs : List Oper := [oRs_0, oRs_1, oRs_2, oRs_3, oRs_4, oRs_5, oRs_6, oRs_7]
def sRs : List Nat := [46, 47, 48, 49, 50, 51, 6, 7]
def spRs (B : Nat) (ad : Option Addr) (n c : Nat) : List Sp2 := [sV (.slice ad n c), sV (.int .i64 (n : Int)), rowS B n, sV (.slice ad n c), sV (.int .i64 (n : Int)), rowS B n, sE 2, sE 5]
structure EnvRs (a0 : Act) (w : World) (B : Nat) (ad : Option Addr) (n c : Nat) : Prop where
  h0 : a0.tmps[0]? = some (.slice ad n c)
  hn : n ≤ 1048576
  hB : B ≤ w.heap.size
theorem yRs_0 {a0 : Act} {w : World} {B : Nat} {ad : Option Addr} {n c : Nat} (E : EnvRs a0 w B ad n c) {R : Exit → Act → World → Prop} {a : Act} {x : World} {val : Nat → Value} (q : Q w x) (oth : ∀ j, j ∉ sRs → a.tmps[j]? = a0.tmps[j]?) (dep : ∀ ed ∈ oRs_0.after, Region.binds .any ed = true → ∀ s' t', (spRs B ad n c)[ed.on]? = some s' → sRs[ed.on]? = some t' → a.tmps[t']? = some (val ed.on) ∧ s'.p (val ed.on) val x) : Yld Try.prog R oRs_0 a x 46 (fun v x' => (sV (.slice ad n c)).p v val x' ∧ (0 ∈ ([2, 5] : List Nat) → x.heap.size ≤ blkV v ∧ blkV v < x'.heap.size)) := by
  exact yld_move ((oth 0 (by decide)).trans E.h0) ⟨rfl, fun h => absurd h (by decide)⟩
theorem yRs_1 {a0 : Act} {w : World} {B : Nat} {ad : Option Addr} {n c : Nat} (E : EnvRs a0 w B ad n c) {R : Exit → Act → World → Prop} {a : Act} {x : World} {val : Nat → Value} (q : Q w x) (oth : ∀ j, j ∉ sRs → a.tmps[j]? = a0.tmps[j]?) (dep : ∀ ed ∈ oRs_1.after, Region.binds .any ed = true → ∀ s' t', (spRs B ad n c)[ed.on]? = some s' → sRs[ed.on]? = some t' → a.tmps[t']? = some (val ed.on) ∧ s'.p (val ed.on) val x) : Yld Try.prog R oRs_1 a x 47 (fun v x' => (sV (.int .i64 (n : Int))).p v val x' ∧ (1 ∈ ([2, 5] : List Nat) → x.heap.size ≤ blkV v ∧ blkV v < x'.heap.size)) := by
  obtain ⟨t0, f0⟩ := dep ⟨0, .data⟩ (by simp [oRs_1]) rfl _ 46 rfl rfl
  have f0 : val 0 = (.slice ad n c) := f0
  rw [f0] at t0
  exact yld_run (x' := x) rfl (by simp [oRs_1, execOp, resolve, invoke, builtin, t0, go_sem]) (Q.refl x) ⟨rfl, fun h => absurd h (by decide)⟩
theorem yRs_2 {a0 : Act} {w : World} {B : Nat} {ad : Option Addr} {n c : Nat} (E : EnvRs a0 w B ad n c) {R : Exit → Act → World → Prop} {a : Act} {x : World} {val : Nat → Value} (q : Q w x) (oth : ∀ j, j ∉ sRs → a.tmps[j]? = a0.tmps[j]?) (dep : ∀ ed ∈ oRs_2.after, Region.binds .any ed = true → ∀ s' t', (spRs B ad n c)[ed.on]? = some s' → sRs[ed.on]? = some t' → a.tmps[t']? = some (val ed.on) ∧ s'.p (val ed.on) val x) : Yld Try.prog R oRs_2 a x 48 (fun v x' => (rowS B n).p v val x' ∧ (2 ∈ ([2, 5] : List Nat) → x.heap.size ≤ blkV v ∧ blkV v < x'.heap.size)) := by
  obtain ⟨t1, f1⟩ := dep ⟨1, .data⟩ (by simp [oRs_2]) rfl _ 47 rfl rfl
  have f1 : val 1 = (.int .i64 (n : Int)) := f1
  rw [f1] at t1
  obtain ⟨M, hM, hF⟩ := make_i n E.hn
  have hrun : (execOp a.eval oRs_2).run Try.prog x = .ok (.value (.slice (some ⟨x.heap.size, 0, none⟩) n n)) (x.alloc (.cells M 3)) := by
    have := tmp_eval t1
    simp [oRs_2, execOp, this, hM]
  have := q.1.size
  have := E.hB
  exact yld_run rfl hrun ((Q.refl x).cells _ _) ⟨⟨_, rfl, by omega, by simp, hF x⟩, fun _ => ⟨Nat.le_refl _, by simp [blkV]⟩⟩
theorem yRs_3 {a0 : Act} {w : World} {B : Nat} {ad : Option Addr} {n c : Nat} (E : EnvRs a0 w B ad n c) {R : Exit → Act → World → Prop} {a : Act} {x : World} {val : Nat → Value} (q : Q w x) (oth : ∀ j, j ∉ sRs → a.tmps[j]? = a0.tmps[j]?) (dep : ∀ ed ∈ oRs_3.after, Region.binds .any ed = true → ∀ s' t', (spRs B ad n c)[ed.on]? = some s' → sRs[ed.on]? = some t' → a.tmps[t']? = some (val ed.on) ∧ s'.p (val ed.on) val x) : Yld Try.prog R oRs_3 a x 49 (fun v x' => (sV (.slice ad n c)).p v val x' ∧ (3 ∈ ([2, 5] : List Nat) → x.heap.size ≤ blkV v ∧ blkV v < x'.heap.size)) := by
  exact yld_move ((oth 0 (by decide)).trans E.h0) ⟨rfl, fun h => absurd h (by decide)⟩
theorem yRs_4 {a0 : Act} {w : World} {B : Nat} {ad : Option Addr} {n c : Nat} (E : EnvRs a0 w B ad n c) {R : Exit → Act → World → Prop} {a : Act} {x : World} {val : Nat → Value} (q : Q w x) (oth : ∀ j, j ∉ sRs → a.tmps[j]? = a0.tmps[j]?) (dep : ∀ ed ∈ oRs_4.after, Region.binds .any ed = true → ∀ s' t', (spRs B ad n c)[ed.on]? = some s' → sRs[ed.on]? = some t' → a.tmps[t']? = some (val ed.on) ∧ s'.p (val ed.on) val x) : Yld Try.prog R oRs_4 a x 50 (fun v x' => (sV (.int .i64 (n : Int))).p v val x' ∧ (4 ∈ ([2, 5] : List Nat) → x.heap.size ≤ blkV v ∧ blkV v < x'.heap.size)) := by
  obtain ⟨t3, f3⟩ := dep ⟨3, .data⟩ (by simp [oRs_4]) rfl _ 49 rfl rfl
  have f3 : val 3 = (.slice ad n c) := f3
  rw [f3] at t3
  exact yld_run (x' := x) rfl (by simp [oRs_4, execOp, resolve, invoke, builtin, t3, go_sem]) (Q.refl x) ⟨rfl, fun h => absurd h (by decide)⟩
theorem yRs_5 {a0 : Act} {w : World} {B : Nat} {ad : Option Addr} {n c : Nat} (E : EnvRs a0 w B ad n c) {R : Exit → Act → World → Prop} {a : Act} {x : World} {val : Nat → Value} (q : Q w x) (oth : ∀ j, j ∉ sRs → a.tmps[j]? = a0.tmps[j]?) (dep : ∀ ed ∈ oRs_5.after, Region.binds .any ed = true → ∀ s' t', (spRs B ad n c)[ed.on]? = some s' → sRs[ed.on]? = some t' → a.tmps[t']? = some (val ed.on) ∧ s'.p (val ed.on) val x) : Yld Try.prog R oRs_5 a x 51 (fun v x' => (rowS B n).p v val x' ∧ (5 ∈ ([2, 5] : List Nat) → x.heap.size ≤ blkV v ∧ blkV v < x'.heap.size)) := by
  obtain ⟨t4, f4⟩ := dep ⟨4, .data⟩ (by simp [oRs_5]) rfl _ 50 rfl rfl
  have f4 : val 4 = (.int .i64 (n : Int)) := f4
  rw [f4] at t4
  obtain ⟨M, hM, hF⟩ := make_i n E.hn
  have hrun : (execOp a.eval oRs_5).run Try.prog x = .ok (.value (.slice (some ⟨x.heap.size, 0, none⟩) n n)) (x.alloc (.cells M 3)) := by
    have := tmp_eval t4
    simp [oRs_5, execOp, this, hM]
  have := q.1.size
  have := E.hB
  exact yld_run rfl hrun ((Q.refl x).cells _ _) ⟨⟨_, rfl, by omega, by simp, hF x⟩, fun _ => ⟨Nat.le_refl _, by simp [blkV]⟩⟩
theorem yRs_6 {a0 : Act} {w : World} {B : Nat} {ad : Option Addr} {n c : Nat} (E : EnvRs a0 w B ad n c) {R : Exit → Act → World → Prop} {a : Act} {x : World} {val : Nat → Value} (q : Q w x) (oth : ∀ j, j ∉ sRs → a.tmps[j]? = a0.tmps[j]?) (dep : ∀ ed ∈ oRs_6.after, Region.binds .any ed = true → ∀ s' t', (spRs B ad n c)[ed.on]? = some s' → sRs[ed.on]? = some t' → a.tmps[t']? = some (val ed.on) ∧ s'.p (val ed.on) val x) : Yld Try.prog R oRs_6 a x 6 (fun v x' => (sE 2).p v val x' ∧ (6 ∈ ([2, 5] : List Nat) → x.heap.size ≤ blkV v ∧ blkV v < x'.heap.size)) := by
  obtain ⟨t2, f2⟩ := dep ⟨2, .data⟩ (by simp [oRs_6]) rfl _ 48 rfl rfl
  exact yld_run (x' := x) rfl (by rw [← tmp_eval t2]; rfl) (Q.refl x) ⟨rfl, fun h => absurd h (by decide)⟩
theorem yRs_7 {a0 : Act} {w : World} {B : Nat} {ad : Option Addr} {n c : Nat} (E : EnvRs a0 w B ad n c) {R : Exit → Act → World → Prop} {a : Act} {x : World} {val : Nat → Value} (q : Q w x) (oth : ∀ j, j ∉ sRs → a.tmps[j]? = a0.tmps[j]?) (dep : ∀ ed ∈ oRs_7.after, Region.binds .any ed = true → ∀ s' t', (spRs B ad n c)[ed.on]? = some s' → sRs[ed.on]? = some t' → a.tmps[t']? = some (val ed.on) ∧ s'.p (val ed.on) val x) : Yld Try.prog R oRs_7 a x 7 (fun v x' => (sE 5).p v val x' ∧ (7 ∈ ([2, 5] : List Nat) → x.heap.size ≤ blkV v ∧ blkV v < x'.heap.size)) := by
  obtain ⟨t5, f5⟩ := dep ⟨5, .data⟩ (by simp [oRs_7]) rfl _ 51 rfl rfl
  exact yld_run (x' := x) rfl (by rw [← tmp_eval t5]; rfl) (Q.refl x) ⟨rfl, fun h => absurd h (by decide)⟩
theorem hopRs {a0 : Act} {w : World} {B : Nat} {ad : Option Addr} {n c : Nat} (E : EnvRs a0 w B ad n c) {R : Exit → Act → World → Prop} : ∀ (i t : Nat) (o : Oper) (sp : Sp2) (a : Act) (x : World) (val : Nat → Value), sRs[i]? = some t → opsRs[i]? = some o → (spRs B ad n c)[i]? = some sp → Q w x → (∀ j, j ∉ sRs → a.tmps[j]? = a0.tmps[j]?) → (∀ ed ∈ o.after, Region.binds .any ed = true → ∀ s' t', (spRs B ad n c)[ed.on]? = some s' → sRs[ed.on]? = some t' → a.tmps[t']? = some (val ed.on) ∧ s'.p (val ed.on) val x) → Yld Try.prog R o a x t (fun v x' => sp.p v val x' ∧ (i ∈ ([2, 5] : List Nat) → x.heap.size ≤ blkV v ∧ blkV v < x'.heap.size))
  | 0, t, o, sp, a, x, val, ht, ho, hs, q, oth, dep => by
    have e1 : oRs_0 = o := Option.some.inj ho
    have e2 : 46 = t := Option.some.inj ht
    have e3 := Option.some.inj hs
    subst e1 e2 e3
    exact yRs_0 E q oth dep
  | 1, t, o, sp, a, x, val, ht, ho, hs, q, oth, dep => by
    have e1 : oRs_1 = o := Option.some.inj ho
    have e2 : 47 = t := Option.some.inj ht
    have e3 := Option.some.inj hs
    subst e1 e2 e3
    exact yRs_1 E q oth dep
  | 2, t, o, sp, a, x, val, ht, ho, hs, q, oth, dep => by
    have e1 : oRs_2 = o := Option.some.inj ho
    have e2 : 48 = t := Option.some.inj ht
    have e3 := Option.some.inj hs
    subst e1 e2 e3
    exact yRs_2 E q oth dep
  | 3, t, o, sp, a, x, val, ht, ho, hs, q, oth, dep => by
    have e1 : oRs_3 = o := Option.some.inj ho
    have e2 : 49 = t := Option.some.inj ht
    have e3 := Option.some.inj hs
    subst e1 e2 e3
    exact yRs_3 E q oth dep
  | 4, t, o, sp, a, x, val, ht, ho, hs, q, oth, dep => by
    have e1 : oRs_4 = o := Option.some.inj ho
    have e2 : 50 = t := Option.some.inj ht
    have e3 := Option.some.inj hs
    subst e1 e2 e3
    exact yRs_4 E q oth dep
  | 5, t, o, sp, a, x, val, ht, ho, hs, q, oth, dep => by
    have e1 : oRs_5 = o := Option.some.inj ho
    have e2 : 51 = t := Option.some.inj ht
    have e3 := Option.some.inj hs
    subst e1 e2 e3
    exact yRs_5 E q oth dep
  | 6, t, o, sp, a, x, val, ht, ho, hs, q, oth, dep => by
    have e1 : oRs_6 = o := Option.some.inj ho
    have e2 : 6 = t := Option.some.inj ht
    have e3 := Option.some.inj hs
    subst e1 e2 e3
    exact yRs_6 E q oth dep
  | 7, t, o, sp, a, x, val, ht, ho, hs, q, oth, dep => by
    have e1 : oRs_7 = o := Option.some.inj ho
    have e2 : 7 = t := Option.some.inj ht
    have e3 := Option.some.inj hs
    subst e1 e2 e3
    exact yRs_7 E q oth dep
  | i + 8, t, o, sp, a, x, val, ht, ho, hs, q, oth, dep => by cases ho
set_option maxHeartbeats 1000000 in
theorem regionRs {id : Nat} {l : List Oper} {R : Exit → Act → World → Prop} {a0 : Act} {w : World} {B : Nat} {ad : Option Addr} {n c : Nat} (hl : l = opsRs) (hsz : a0.tmps.size = 119) (E : EnvRs a0 w B ad n c)
    (hR : ∀ x g gr, Q w x → B ≤ g → B ≤ gr → g ≠ gr → g < x.heap.size → gr < x.heap.size → IRow x g (List.replicate n 0) → IRow x gr (List.replicate n 0) → R .normal (putAll a0 [(46, .slice ad n c), (47, .int .i64 (n : Int)), (48, .slice (some ⟨g, 0, none⟩) n n), (49, .slice ad n c), (50, .int .i64 (n : Int)), (51, .slice (some ⟨gr, 0, none⟩) n n), (6, .slice (some ⟨g, 0, none⟩) n n), (7, .slice (some ⟨gr, 0, none⟩) n n)]) x) :
    (Code.region id l.toArray true).wp Try.prog R a0 w := by
  subst hl
  refine wp_region_new sRs (spRs B ad n c) [[], [], [], [], [], [], [2], [5]] [2, 5] (by kernel_rfl) (by decide +kernel) (by decide +kernel) rfl (fun t ht => ?_) (hopRs E) (fun a x val q size defers other facts apart => ?_)
  · rw [hsz]
    revert t
    decide
  · obtain ⟨t0, f0⟩ := facts 0 46 _ rfl rfl
    have f0 : val 0 = (.slice ad n c) := f0
    rw [f0] at t0
    obtain ⟨t1, f1⟩ := facts 1 47 _ rfl rfl
    have f1 : val 1 = (.int .i64 (n : Int)) := f1
    rw [f1] at t1
    obtain ⟨t2, f2⟩ := facts 2 48 _ rfl rfl
    obtain ⟨t3, f3⟩ := facts 3 49 _ rfl rfl
    have f3 : val 3 = (.slice ad n c) := f3
    rw [f3] at t3
    obtain ⟨t4, f4⟩ := facts 4 50 _ rfl rfl
    have f4 : val 4 = (.int .i64 (n : Int)) := f4
    rw [f4] at t4
    obtain ⟨t5, f5⟩ := facts 5 51 _ rfl rfl
    obtain ⟨t6, f6⟩ := facts 6 6 _ rfl rfl
    have f6 : val 6 = val 2 := f6
    obtain ⟨t7, f7⟩ := facts 7 7 _ rfl rfl
    have f7 : val 7 = val 5 := f7
    obtain ⟨g, e2, a1, a2, a3⟩ := f2
    obtain ⟨gr, e5, b1, b2, b3⟩ := f5
    have ap := apart 2 5 (by simp) (by simp) (by decide) (by decide) (by decide)
    rw [e2, e5] at ap
    rw [f6, e2] at t6
    rw [f7, e5] at t7
    rw [e2] at t2
    rw [e5] at t5
    have hA := act_puts (a := a) (a0 := a0) [(46, .slice ad n c), (47, .int .i64 (n : Int)), (48, .slice (some ⟨g, 0, none⟩) n n), (49, .slice ad n c), (50, .int .i64 (n : Int)), (51, .slice (some ⟨gr, 0, none⟩) n n), (6, .slice (some ⟨g, 0, none⟩) n n), (7, .slice (some ⟨gr, 0, none⟩) n n)] (show ([46, 47, 48, 49, 50, 51, 6, 7] : List Nat).Nodup by decide) size defers (fun j hj => other j (by simpa [sRs] using hj)) (fun r hr => ?_)
    · refine ⟨?_⟩
      rw [hA]
      exact hR x g gr q a1 b1 ap a2 b2 a3 b3
    · simp only [List.mem_cons, List.not_mem_nil, or_false] at hr
      rcases hr with rfl | rfl | rfl | rfl | rfl | rfl | rfl | rfl
      · exact t0
      · exact t1
      · exact t2
      · exact t3
      · exact t4
      · exact t5
      · exact t6
      · exact t7
set_option maxRecDepth 100000 in
theorem normRs {t0 t1 t2 t3 t4 t5 t6 t7 t8 t9 t10 t11 t12 t13 t14 t15 t16 t17 t18 t19 t20 t21 t22 t23 t24 t25 t26 t27 t28 t29 t30 t31 t32 t33 t34 t35 t36 t37 t38 t39 t40 t41 t42 t43 t44 t45 t46 t47 t48 t49 t50 t51 t52 t53 t54 t55 t56 t57 t58 t59 t60 t61 t62 t63 t64 t65 t66 t67 t68 t69 t70 t71 t72 t73 t74 t75 t76 t77 t78 t79 t80 t81 t82 t83 t84 t85 t86 t87 t88 t89 t90 t91 t92 t93 t94 t95 t96 t97 t98 t99 t100 t101 t102 t103 t104 t105 t106 t107 t108 t109 t110 t111 t112 t113 t114 t115 t116 t117 t118 v46 v47 v48 v49 v50 v51 v6 v7 : Value} {d : List Deferred} : putAll ⟨#[t0, t1, t2, t3, t4, t5, t6, t7, t8, t9, t10, t11, t12, t13, t14, t15, t16, t17, t18, t19, t20, t21, t22, t23, t24, t25, t26, t27, t28, t29, t30, t31, t32, t33, t34, t35, t36, t37, t38, t39, t40, t41, t42, t43, t44, t45, t46, t47, t48, t49, t50, t51, t52, t53, t54, t55, t56, t57, t58, t59, t60, t61, t62, t63, t64, t65, t66, t67, t68, t69, t70, t71, t72, t73, t74, t75, t76, t77, t78, t79, t80, t81, t82, t83, t84, t85, t86, t87, t88, t89, t90, t91, t92, t93, t94, t95, t96, t97, t98, t99, t100, t101, t102, t103, t104, t105, t106, t107, t108, t109, t110, t111, t112, t113, t114, t115, t116, t117, t118], d⟩ [(46, v46), (47, v47), (48, v48), (49, v49), (50, v50), (51, v51), (6, v6), (7, v7)] = ⟨#[t0, t1, t2, t3, t4, t5, v6, v7, t8, t9, t10, t11, t12, t13, t14, t15, t16, t17, t18, t19, t20, t21, t22, t23, t24, t25, t26, t27, t28, t29, t30, t31, t32, t33, t34, t35, t36, t37, t38, t39, t40, t41, t42, t43, t44, t45, v46, v47, v48, v49, v50, v51, t52, t53, t54, t55, t56, t57, t58, t59, t60, t61, t62, t63, t64, t65, t66, t67, t68, t69, t70, t71, t72, t73, t74, t75, t76, t77, t78, t79, t80, t81, t82, t83, t84, t85, t86, t87, t88, t89, t90, t91, t92, t93, t94, t95, t96, t97, t98, t99, t100, t101, t102, t103, t104, t105, t106, t107, t108, t109, t110, t111, t112, t113, t114, t115, t116, t117, t118], d⟩ := by
  kernel_rfl
end Go.Proofs.Ytdbbpmadkhedlaa
/- The document's Share, walked. -/
namespace Go.Proofs.Ytdbbpmadkhedlaa
open Go.RowKit
set_option linter.unusedVariables false
set_option linter.unusedSimpArgs false

set_option maxHeartbeats 1000000 in
theorem rfloor_any (a b : Int) (w : World) (hb : 0 < b) (h1 : -4611686018427387904 ≤ a) (h2 : a ≤ 4611686018427387904) (h3 : b ≤ 4611686018427387904) :
    Calls Try.prog 22 #[.int .i64 a, .int .i64 b] w fun e w' => e = .returned (.int .i64 (a / b)) ∧ w' = w := by
  obtain ⟨d1, d2⟩ := div_down (a := a) hb
  obtain ⟨b1, b2, b3, b4⟩ := tdiv_size (a := a) hb
  obtain ⟨q, hq⟩ : ∃ q, a.tdiv b = q := ⟨_, rfl⟩
  obtain ⟨m, hm⟩ : ∃ m, a.tmod b = m := ⟨_, rfl⟩
  rw [hq, hm] at d1 d2
  rw [hq] at b1 b2
  rw [hm] at b3 b4
  have q1 : -4611686018427387904 ≤ q := by omega
  have q2 : q ≤ 4611686018427387904 := by omega
  have hz : ¬ b = 0 := by omega
  have hz' : (b == 0) = false := by simp; omega
  by_cases hm0 : m < 0
  · obtain ⟨e1, e2⟩ := d1 hm0
    rw [e1]
    clear d1 d2 e1 e2 b1 b2
    go_enter Try.func22, Try.ntmps22
    go_wp2_with fail
    go_ret
    exact ⟨rfl, rfl⟩
  · obtain ⟨e1, e2⟩ := d2 hm0
    rw [e1]
    clear d1 d2 e1 e2 b1 b2
    go_enter Try.func22, Try.ntmps22
    go_wp2_with fail
    go_ret
    exact ⟨rfl, rfl⟩
theorem anyT_hit {l : List Int} {i : Nat} (h : tooB (l.getD i 0) = true) : ∀ k, i < k → anyT l k = true
  | 0, hk => by omega
  | k + 1, hk => by
    show (anyT l k || tooB (l.getD k 0)) = true
    by_cases e : i = k
    · subst e; rw [h, Bool.or_true]
    · rw [anyT_hit h k (by omega)]; rfl
theorem tooB_of {z : Int} (h1 : ¬ 1099511627776 < z) (h2 : ¬ z < -1099511627776) : tooB z = false := by unfold tooB; rw [decide_eq_false h1, decide_eq_false h2]; rfl
theorem tooB_hi {z : Int} (h1 : 1099511627776 < z) : tooB z = true := by unfold tooB; rw [decide_eq_true h1, Bool.or_true]
theorem tooB_lo {z : Int} (h1 : z < -1099511627776) : tooB z = true := by unfold tooB; rw [decide_eq_true h1]; rfl
set_option maxHeartbeats 2000000 in
set_option maxRecDepth 100000 in
theorem rshare_bad (v : Value) (zs : List Int) (w : World) (hv : ISl w v zs) (hn : zs.length ≤ 35184372088832) (hs : ¬ shOk zs) :
    Calls Try.prog 24 #[v] w fun e w' => e = .returned (.tuple #[.slice none 0 0, .int .i64 91]) ∧ w' = w := by
  have hv' := hv
  obtain ⟨ad, c, rfl⟩ := hv.form
  by_cases h0 : zs.length = 0
  · rw [h0]
    go_enter Try.func24, Try.ntmps24
    go_wp2_with fail
    go_ret2
    exact ⟨rfl, rfl⟩
  · have h0' : ((zs.length : Int) == 0) = false := by simp; intro e; rw [e] at h0; exact h0 rfl
    have h0'' : ¬ (zs.length : Int) = 0 := by omega
    by_cases h1 : 64 < zs.length
    · have h1' : (64 : Int) < (zs.length : Int) := by omega
      have HV : Hid _ := hv
      clear hs hv hv'
      generalize zs.length = N at *
      go_enter Try.func24, Try.ntmps24
      go_wp2_with fail
      go_ret2
      exact ⟨rfl, rfl⟩
    · have h1' : ¬ (64 : Int) < (zs.length : Int) := by omega
      obtain ⟨N, eN⟩ : ∃ N, zs.length = N := ⟨_, rfl⟩
      have HV : Hid (ISl w (.slice ad N c) zs ∧ zs.length = N) := ⟨by rw [← eN]; exact hv, eN⟩
      have HS : Hid (anyT zs N = false → ¬ 0 < sumI zs N) := fun h h' => hs ⟨by omega, by omega, by rw [eN]; exact h, by rw [← sumI_zf, eN]; exact h'⟩
      have HM : Hid (∀ k, k ≤ N → anyT zs k = false → -((k : Int) * 1099511627776) ≤ sumI zs k ∧ sumI zs k ≤ (k : Int) * 1099511627776) := fun k hk ha => by
        clear hs HS
        induction k with
        | zero => simp [sumI]
        | succ k ih =>
          have ha' : (anyT zs k || tooB (zs.getD k 0)) = false := ha
          rw [Bool.or_eq_false_iff] at ha'
          have h2 := ih (by omega) ha'.1
          have h3 := anyT_bounds ha k (by omega)
          show _ ≤ sumI zs k + zs.getD k 0 ∧ sumI zs k + zs.getD k 0 ≤ _
          rw [show (((k + 1 : Nat) : Int)) * 1099511627776 = (k : Int) * 1099511627776 + 1099511627776 by rw [Int.natCast_add, Int.add_mul]; simp]
          omega
      rw [eN] at h0' h0'' h1' h1 hn ⊢
      clear hs hv hv' h0 eN
      go_enter Try.func24, Try.ntmps24
      go_wp2_with fail
      go_loopg [4, 5] N (fun gh s4 s5 wr => ∃ (i : Nat) (S : Int), s4 = .int .i64 S ∧ s5 = .int .i64 (i : Int) ∧ i ≤ N ∧ gh = N - i ∧ Hid (S = sumI zs i ∧ anyT zs i = false) ∧ wr = w)
      case atStart => exact ⟨0, 0, rfl, rfl, Nat.zero_le _, rfl, ⟨rfl, rfl⟩, rfl⟩
      case round =>
        obtain ⟨i, S, rfl, rfl, hi, rfl, HI, rfl⟩ := hrel
        by_cases hlt : i < N
        · have hltz : (i : Int) < (N : Int) := by omega
          obtain ⟨g1, o1, d1, hs1, hI1⟩ := HV.out.1.some (by have := HV.out.2; omega)
          rw [HV.out.2] at hs1 hI1
          injection hs1 with e1 e2 e3
          subst e1 e3
          have c1 := hI1 i hlt
          obtain ⟨z, hz⟩ : ∃ z, z = zs.getD i 0 := ⟨_, rfl⟩
          rw [← hz] at c1
          have HZ : Hid (z = zs.getD i 0) := hz
          clear hz hI1 e2
          by_cases t1 : 1099511627776 < z
          · go_wp2_with fail
            go_ret2
            exact ⟨rfl, rfl⟩
          · by_cases t2 : z < -1099511627776
            · go_wp2_with fail
              go_ret2
              exact ⟨rfl, rfl⟩
            · have HI2 : Hid (S + z = sumI zs (i + 1) ∧ anyT zs (i + 1) = false) := by
                refine ⟨?_, ?_⟩
                · show S + z = sumI zs i + zs.getD i 0
                  rw [HI.out.1, HZ.out]
                · show (anyT zs i || tooB (zs.getD i 0)) = false
                  rw [HI.out.2, ← HZ.out, tooB_of t1 t2]; rfl
              have b1 := HM.out i (by omega) HI.out.2
              have b2 := HM.out (i + 1) (by omega) HI2.out.2
              rw [← HI.out.1] at b1
              rw [← HI2.out.1] at b2
              have b3 : -4611686018427387904 ≤ S := by omega
              have b4 : S ≤ 4611686018427387904 := by omega
              have b5 : -9223372036854775808 ≤ S + z := by omega
              have b6 : S + z ≤ 9223372036854775807 := by omega
              clear b1 b2
              go_wp2_with fail
              go_roundg (N - (i + 1))
              case measure => go_light; omega
              case rel => go_light; exact ⟨i + 1, S + z, rfl, by simp, by omega, rfl, HI2, rfl⟩
        · have hge : ¬ (i : Int) < (N : Int) := by omega
          obtain rfl : i = N := by omega
          have hS : S ≤ 0 := by have := HS.out HI.out.2; rw [← HI.out.1] at this; omega
          go_wp2_with fail
          go_ret2
          exact ⟨rfl, rfl⟩
/-- What Share holds while it divides, and while it gives what is missing. -/
structure Ds (w wr : World) (f h : Nat → Int) (n g gr : Nat) : Prop where
  q : Q w wr
  l : IRow wr g (tabI n f)
  r : IRow wr gr (tabI n h)
  l1 : w.heap.size ≤ g
  l2 : w.heap.size ≤ gr
  ne : g ≠ gr
theorem Ds.next {w wr x : World} {f h : Nat → Int} {n g gr : Nat} (D : Ds w wr f h n g gr) (q : Q wr x) : Ds w x f h n g gr := ⟨D.q.trans q, D.l.next q, D.r.next q, D.l1, D.l2, D.ne⟩
theorem Ds.setl {w wr : World} {f h f' : Nat → Int} {n g gr : Nat} (D : Ds w wr f h n g gr) {i : Nat} (hi : i < n) {u : Int} (hu : u = f' i) (hs : ∀ j, j ≠ i → f' j = f j) : Ds w (wr.setCell ⟨g, i, none⟩ (.int .i64 u)) f' h n g gr := by
  refine ⟨D.q.set D.l1 _, ?_, D.r.other (p := ⟨g, i, none⟩) D.ne _, D.l1, D.l2, D.ne⟩
  have := D.l.set (i := i) (by rw [tabI_len]; exact hi) u
  rw [tabI_set (g := f') hu hs] at this
  exact this
theorem Ds.setr {w wr : World} {f h h' : Nat → Int} {n g gr : Nat} (D : Ds w wr f h n g gr) {i : Nat} (hi : i < n) {u : Int} (hu : u = h' i) (hs : ∀ j, j ≠ i → h' j = h j) : Ds w (wr.setCell ⟨gr, i, none⟩ (.int .i64 u)) f h' n g gr := by
  refine ⟨D.q.set D.l2 _, D.l.other (p := ⟨gr, i, none⟩) (fun e => D.ne e.symm) _, ?_, D.l1, D.l2, D.ne⟩
  have := D.r.set (i := i) (by rw [tabI_len]; exact hi) u
  rw [tabI_set (g := h') hu hs] at this
  exact this
def partF (f : Nat → Int) (i j : Nat) : Int := if j < i then f j else 0
theorem partF_new (f : Nat → Int) (i : Nat) : f i = partF f (i + 1) i := by unfold partF; rw [if_pos (by omega)]
theorem partF_old (f : Nat → Int) (i : Nat) : ∀ j, j ≠ i → partF f (i + 1) j = partF f i j := fun j hj => by
  unfold partF
  by_cases c : j < i
  · rw [if_pos c, if_pos (by omega)]
  · rw [if_neg c, if_neg (by omega)]
theorem sumF_flo_bd {z : Nat → Int} {S : Int} (hS : 0 < S) (hM : ∀ i, -1099511627776 ≤ z i ∧ z i ≤ 1099511627776) (n : Nat) : -((n : Int) * 72057594037927936) ≤ sumF (flo z S) n ∧ sumF (flo z S) n ≤ (n : Int) * 72057594037927936 := by
  refine ⟨?_, ?_⟩
  · have := sumF_mono (f := fun _ => -72057594037927936) (g := flo z S) n (fun i _ => (flo_size (i := i) hS (hM i)).1)
    rw [sumF_const] at this
    omega
  · have := sumF_mono (f := flo z S) (g := fun _ => 72057594037927936) n (fun i _ => (flo_size (i := i) hS (hM i)).2)
    rw [sumF_const] at this
    omega
end Go.Proofs.Ytdbbpmadkhedlaa
/- The document's Share, of weights that may be. -/
namespace Go.Proofs.Ytdbbpmadkhedlaa
open Go.RowKit
set_option linter.unusedVariables false
set_option linter.unusedSimpArgs false

set_option maxHeartbeats 4000000 in
set_option maxRecDepth 100000 in
theorem rshare_good (v : Value) (zs : List Int) (w : World) (hv : ISl w v zs) (hs : shOk zs) :
    Calls Try.prog 24 #[v] w fun e w' => ∃ g, e = .returned (.tuple #[.slice (some ⟨g, 0, none⟩) zs.length zs.length, .int .i64 0]) ∧ w.heap.size ≤ g ∧ IRow w' g (tabI zs.length (shrV (zf zs) zs.length)) ∧ Q w w' := by
  obtain ⟨s1, s2, s3, s4⟩ := hs
  obtain ⟨gw, ow, cw, rfl, hcw⟩ := hv.some s1
  have hm := anyT_all s3
  obtain ⟨N, eN⟩ : ∃ N, zs.length = N := ⟨_, rfl⟩
  obtain ⟨S, eS⟩ : ∃ S, sumF (zf zs) N = S := ⟨_, rfl⟩
  have HM : Hid (∀ i, -1099511627776 ≤ zf zs i ∧ zf zs i ≤ 1099511627776) := hm
  have HC : Hid (∀ i, i < N → w.cell? ⟨gw, ow + i, none⟩ = some (.int .i64 (zf zs i))) := by rw [eN] at hcw; exact hcw
  have HS : Hid (sumF (zf zs) N = S) := eS
  have HA : Hid (∀ i, i < N → tooB (zf zs i) = false) := fun i hi => tooB_of (by have := hm i; show ¬ _ < zs.getD i 0; omega) (by have := hm i; show ¬ zs.getD i 0 < _; omega)
  have HB : Hid (∀ k : Nat, -((k : Int) * 1099511627776) ≤ sumF (zf zs) k ∧ sumF (zf zs) k ≤ (k : Int) * 1099511627776) := fun k => by
    have := sumI_size zs 1099511627776 (fun i => hm i) k
    rw [sumI_zf] at this
    exact this
  have hS : 0 < S := by rw [eN, eS] at s4; exact s4
  have hSb : S ≤ 4611686018427387904 := by
    have := (HB.out N).2
    rw [eS] at this
    rw [eN] at s2
    omega
  have hS' : ¬ S ≤ 0 := by omega
  have HFin : Hid (shrV (zf zs) N = shrK (zf zs) S N (missV (zf zs) S N).toNat) := by
    show shrV (zf zs) N = _
    unfold shrV
    rw [eS]
  rw [eN] at s1 s2 ⊢
  have h0' : ((N : Int) == 0) = false := by simp; omega
  have h0'' : ¬ (N : Int) = 0 := by omega
  have h1' : ¬ (64 : Int) < (N : Int) := by omega
  have hn' : N ≤ 1048576 := by omega
  clear hv hcw hm s3 s4 eN eS
  go_enter Try.func24, Try.ntmps24
  go_wp2_with fail
  go_loopg [4, 5] N (fun gh s4 s5 wr => ∃ (i : Nat) (T : Int), s4 = .int .i64 T ∧ s5 = .int .i64 (i : Int) ∧ i ≤ N ∧ gh = N - i ∧ Hid (T = sumF (zf zs) i) ∧ wr = w)
  case atStart => exact ⟨0, 0, rfl, rfl, Nat.zero_le _, rfl, rfl, rfl⟩
  case round =>
    obtain ⟨i, T, rfl, rfl, hi, rfl, HI, hwr⟩ := hrel
    obtain rfl := hwr.symm
    by_cases hlt : i < N
    · have hltz : (i : Int) < (N : Int) := by omega
      have c1 := HC.out i hlt
      obtain ⟨z, hz⟩ : ∃ z, z = zf zs i := ⟨_, rfl⟩
      have bz := HM.out i
      rw [← hz] at c1 bz
      have t1 : ¬ 1099511627776 < z := by omega
      have t2 : ¬ z < -1099511627776 := by omega
      have HI2 : Hid (T + z = sumF (zf zs) (i + 1)) := by
        show T + z = sumF (zf zs) i + zf zs i
        rw [HI.out, hz]
      have b1 := HB.out i
      have b2 := HB.out (i + 1)
      rw [← HI.out] at b1
      rw [← HI2.out] at b2
      have b3 : -4611686018427387904 ≤ T := by omega
      have b4 : T ≤ 4611686018427387904 := by omega
      have b5 : -9223372036854775808 ≤ T + z := by omega
      have b6 : T + z ≤ 9223372036854775807 := by omega
      clear b1 b2 hz bz
      go_wp2_with fail
      go_roundg (N - (i + 1))
      case measure => go_light; omega
      case rel => go_light; exact ⟨i + 1, T + z, rfl, by simp, by omega, rfl, HI2, rfl⟩
    · have hge : ¬ (i : Int) < (N : Int) := by omega
      obtain rfl : i = N := by omega
      obtain rfl : T = S := by rw [HI.out, HS.out]
      clear HI hge hlt hi
      go_wp2_with fail
      refine regionRs (B := w.heap.size) (ad := some ⟨gw, ow, none⟩) (n := i) (c := cw) rfl rfl ⟨rfl, hn', Nat.le_refl _⟩ ?_
      intro w2 g gr q2 l1 l2 ne b1 b2 r1 r2
      rw [normRs]
      have HD : Hid (Ds w w2 (partF (flo (zf zs) T) 0) (partF (fun j => rsV (zf zs) T j) 0) i g gr) := by
        have e : ∀ f : Nat → Int, List.replicate i (0 : Int) = tabI i (partF f 0) := fun f => by rw [tabI_zero]; exact tabI_congr (fun i _ => by simp [partF])
        exact ⟨q2, by rw [← e]; exact r1, by rw [← e]; exact r2, l1, l2, ne⟩
      clear q2 l1 l2 ne b1 b2 r1 r2
      go_wp2_with fail
      go_loopg [8, 9] i (fun gh s8 s9 wx => ∃ (j : Nat) (m : Int), s8 = .int .i64 m ∧ s9 = .int .i64 (j : Int) ∧ j ≤ i ∧ gh = i - j ∧ Hid (m = 65536 - sumF (flo (zf zs) T) j) ∧ Hid (Ds w wx (partF (flo (zf zs) T) j) (partF (fun j => rsV (zf zs) T j) j) i g gr))
      case atStart => exact ⟨0, 65536, rfl, rfl, Nat.zero_le _, rfl, rfl, HD⟩
      case round =>
        clear HD
        obtain ⟨j, m, rfl, rfl, hj, rfl, HMi, HD⟩ := hrel
        by_cases hlt : j < i
        · have hltz : (j : Int) < (i : Int) := by omega
          obtain ⟨z, hz⟩ : ∃ z, z = zf zs j := ⟨_, rfl⟩
          have bz := HM.out j
          have c1 := HD.out.q.cell (HC.out j hlt)
          rw [← hz] at c1 bz
          obtain ⟨bz1, bz2⟩ := bz
          have Cf := rfloor_any (65536 * z) T wr hS (by omega) (by omega) hSb
          obtain ⟨u, hu⟩ : ∃ u, u = flo (zf zs) T j := ⟨_, rfl⟩
          obtain ⟨r, hr⟩ : ∃ r, r = rsV (zf zs) T (j : Int) := ⟨_, rfl⟩
          have eu : 65536 * z / T = u := by rw [hu, hz]; rfl
          rw [eu] at Cf
          have bu := flo_size (z := zf zs) (i := j) hS (HM.out j)
          rw [← hu] at bu
          obtain ⟨bu1, bu2⟩ := bu
          have br1 := rs_nonneg (zf zs) hS (j : Int)
          have br2 := rs_lt (zf zs) hS (j : Int)
          rw [← hr] at br1 br2
          have efr := flo_rs (zf zs) T j
          rw [← hu, ← hr, ← hz] at efr
          obtain ⟨p, hp⟩ : ∃ p, u * T = p := ⟨_, rfl⟩
          rw [Int.mul_comm T u, hp] at efr
          have ep : 65536 * z - p = r := by omega
          have bp1 : -9223372036854775808 ≤ p := by omega
          have bp2 : p ≤ 9223372036854775807 := by omega
          have y1 := HD.out.l.cell j _ (tabI_at hlt)
          have f1 := HD.out.l.free j
          have y2 := HD.out.r.cell j _ (tabI_at hlt)
          have f2 := HD.out.r.free j
          obtain ⟨a1, ha1⟩ : ∃ a1, partF (flo (zf zs) T) j j = a1 := ⟨_, rfl⟩
          obtain ⟨a2, ha2⟩ : ∃ a2, partF (fun j => rsV (zf zs) T j) j j = a2 := ⟨_, rfl⟩
          rw [ha1] at y1
          rw [ha2] at y2
          have HD2 : Hid _ := HD.out.setl hlt (u := u) (hu.trans (partF_new _ _)) (partF_old _ _)
          have HMi2 : Hid (m - u = 65536 - sumF (flo (zf zs) T) (j + 1)) := by
            show m - u = 65536 - (sumF (flo (zf zs) T) j + flo (zf zs) T j)
            rw [HMi.out, hu]; omega
          have bm := sumF_flo_bd (z := zf zs) hS HM.out j
          have bm2 := sumF_flo_bd (z := zf zs) hS HM.out (j + 1)
          have bm3 : -9223372036854775808 ≤ m - u ∧ m - u ≤ 9223372036854775807 ∧ -9223372036854775808 ≤ m ∧ m ≤ 9223372036854775807 := by
            rw [HMi2.out, HMi.out]; omega
          obtain ⟨bm4, bm5, bm6, bm7⟩ := bm3
          have HE : Hid (r = rsV (zf zs) T (j : Int)) := hr
          have HZZ : Hid (zf zs j = z) := hz.symm
          clear hu hr hz eu ha1 ha2 bm bm2 efr HD HMi
          go_wp2_with (refine Cf.mono ?_; rintro e w' ⟨rfl, hw'⟩; obtain rfl := hw'.symm)
          clear Cf
          have y3 : (wr.setCell ⟨g, j, none⟩ (.int .i64 u)).cell? ⟨g, j, none⟩ = some (.int .i64 u) := World.cell?_setCell_same _ _ _ y1
          have y4 : (wr.setCell ⟨g, j, none⟩ (.int .i64 u)).cell? ⟨gr, j, none⟩ = some (.int .i64 a2) := (World.cell?_setCell_other _ _ _ _ (fun e => HD2.out.ne (by injection e))).trans y2
          have f4 : (wr.setCell ⟨g, j, none⟩ (.int .i64 u)).frozen? ⟨gr, j, none⟩ = false := by rw [World.frozen?_setCell]; exact f2
          have c4 := HD2.out.q.cell (HC.out j hlt)
          clear y1 y2 f1 f2 c1
          generalize wr.setCell ⟨g, j, none⟩ (.int .i64 u) = wn at HD2 y3 y4 f4 c4 ⊢
          rw [HZZ.out] at c4
          have n0 := qw_some wn
          have k1 := qw_cell c4
          have k2 := qw_cell y3
          have wz : IntKind.i64.wrap (65536 * z) = 65536 * z := by rw [IntKind.wrap_i64]; omega
          have wp : IntKind.i64.wrap p = p := by rw [IntKind.wrap_i64]; omega
          have wq : IntKind.i64.wrap r = r := by rw [IntKind.wrap_i64]; omega
          clear c4 bp1 bp2 br1
          go_wp2_with fail
          refine wp_region_mk [0, 1, 2, 3, 4, 5, 6, 7, 8, 9, 10, 11, 12, 13, 14] [[15]] 1 _ (by kernel_rfl) (by kernel_rfl) rfl (by kernel_rfl) ?_
          simp only [List.filterMap_cons, List.filterMap_nil, List.getElem?_cons_zero, List.getElem?_cons_succ]
          repeat (first | go_big_quiet_step (fail) | quiet_step (fail))
          refine wpQuiet_nil ?_
          intro x5 hx5
          clear k1 k2 n0
          have y5 := hx5.cell y4
          have f5 : x5.frozen? ⟨gr, j, none⟩ = false := by rw [hx5.2]; exact f4
          have y6 : (x5.setCell ⟨gr, j, none⟩ (.int .i64 r)).cell? ⟨g, j, none⟩ = some (.int .i64 u) := (World.cell?_setCell_other _ _ _ _ (fun e => HD2.out.ne (by injection e with e; exact e.symm))).trans (hx5.cell y3)
          have HD3 : Hid _ := (HD2.out.next hx5).setr hlt (u := r) (HE.out.trans (partF_new (fun j => rsV (zf zs) T j) _)) (partF_old _ _)
          refine tree_skipF 15 rfl rfl rfl (x' := x5.setCell ⟨gr, j, none⟩ (.int .i64 r)) (run_sti (i := j) (by kernel_rfl) (by kernel_rfl) y5 f5) ?_
          refine tree_nil ?_
          clear y3 y4 f4 y5 f5 HD2 hx5
          generalize x5.setCell ⟨gr, j, none⟩ (.int .i64 r) = x6 at HD3 y6 ⊢
          go_wp2_with fail
          go_roundg (i - (j + 1))
          case measure => go_light; omega
          case rel => go_light; exact ⟨j + 1, m - u, rfl, by simp, by omega, rfl, HMi2, HD3⟩
        · have hge : ¬ (j : Int) < (i : Int) := by omega
          obtain rfl : j = i := by omega
          have hm0 := miss_ge (zf zs) HS.out.symm hS
          have hm1 := miss_le (zf zs) HS.out.symm hS (by omega)
          obtain ⟨mm, hmm⟩ : ∃ mm : Nat, (mm : Int) = missV (zf zs) T j := ⟨(missV (zf zs) T j).toNat, by omega⟩
          have HMM : Hid ((missV (zf zs) T j).toNat = mm) := by show _ = _; omega
          obtain rfl : m = (mm : Int) := by rw [HMi.out, hmm]; rfl
          have hmN : mm < j := by omega
          have HG0 : Hid (Ds w wr (shrK (zf zs) T j 0) (rstK (zf zs) T j 0) j g gr) := by
            have := HD.out
            refine ⟨this.q, ?_, ?_, this.l1, this.l2, this.ne⟩
            · rw [tabI_congr (g := partF (flo (zf zs) T) j) (fun k hk => by rw [shrK_zero]; unfold partF; rw [if_pos hk])]; exact this.l
            · rw [tabI_congr (g := partF (fun j => rsV (zf zs) T j) j) (fun k hk => by rw [rstK_zero]; unfold partF; rw [if_pos hk])]; exact this.r
          clear HD hm0 hm1 hmm HMi hge hlt hj
          generalize wr = wz at *
          go_wp2_with fail
          go_loopg [8, 10, 11] mm (fun gh s8 s10 s11 wx => ∃ (k mk : Nat), s8 = .int .i64 (mk : Int) ∧ Hid (mk + k = mm) ∧ gh = mk ∧ Hid (Ds w wx (shrK (zf zs) T j k) (rstK (zf zs) T j k) j g gr))
          case atStart => exact ⟨0, mm, rfl, rfl, rfl, HG0⟩
          case round =>
            clear HG0
            obtain ⟨k, mk, rfl, HK, hgh, HG⟩ := hrel
            obtain rfl := hgh.symm
            generalize wr = wi at *
            by_cases hlt : 0 < mk
            · have hltz : (0 : Int) < (mk : Int) := by omega
              have hkj : k < j := by have := HK.out; omega
              go_wp2_with fail
              go_loopg [10, 11] (j - 1) (fun gh s10 s11 wx => ∃ (b i : Nat), s10 = .int .i64 (b : Int) ∧ s11 = .int .i64 (i : Int) ∧ b < j ∧ 1 ≤ i ∧ i ≤ j ∧ gh = j - i ∧ Hid (Bst (rstK (zf zs) T j k) i b) ∧ Hid (Q wi wx))
              case atStart => exact ⟨0, 1, rfl, rfl, by omega, Nat.le_refl _, by omega, rfl, Bst.one _, Q.refl _⟩
              case round =>
                obtain ⟨b, i, rfl, rfl, hbj, hi1, hij, rfl, HBs, HQ⟩ := hrel
                by_cases hi : i < j
                · have hiz : (i : Int) < (j : Int) := by omega
                  have hbz : (b : Int) < (j : Int) := by omega
                  have d1 := HQ.out.cell (HG.out.r.cell i _ (tabI_at hi))
                  have d2 := HQ.out.cell (HG.out.r.cell b _ (tabI_at hbj))
                  obtain ⟨x1, hx1⟩ : ∃ x1, rstK (zf zs) T j k i = x1 := ⟨_, rfl⟩
                  obtain ⟨x2, hx2⟩ : ∃ x2, rstK (zf zs) T j k b = x2 := ⟨_, rfl⟩
                  rw [hx1] at d1
                  rw [hx2] at d2
                  have n0 := qw_some wr
                  have k1 := qw_cell d1
                  have k2 := qw_cell d2
                  have HX : Hid (rstK (zf zs) T j k i = x1 ∧ rstK (zf zs) T j k b = x2) := ⟨hx1, hx2⟩
                  clear hx1 hx2
                  by_cases hgt : x2 < x1
                  · have HB2 : Hid (Bst (rstK (zf zs) T j k) (i + 1) i) := HBs.out.new (by rw [HX.out.1, HX.out.2]; exact hgt)
                    go_wp2_with fail
                    refine wp_region_quiet_Q (by kernel_rfl) (by kernel_rfl) ?_
                    repeat (first | go_big_quiet_step (fail) | quiet_step (fail))
                    refine wpQuiet_nil ?_
                    intro w4 hw'
                    have HQ4 : Hid (Q wi w4) := HQ.out.trans (qw_out hw')
                    clear hw' k1 k2 n0 d1 d2
                    go_wp2_with fail
                    go_roundg (j - (i + 1))
                    case measure => go_light; omega
                    case rel => go_light; exact ⟨i, i + 1, rfl, by simp, hi, by omega, by omega, rfl, HB2, HQ4⟩
                  · have HB2 : Hid (Bst (rstK (zf zs) T j k) (i + 1) b) := HBs.out.old (by rw [HX.out.1, HX.out.2]; exact hgt)
                    go_wp2_with fail
                    refine wp_region_quiet_Q (by kernel_rfl) (by kernel_rfl) ?_
                    repeat (first | go_big_quiet_step (fail) | quiet_step (fail))
                    refine wpQuiet_nil ?_
                    intro w4 hw'
                    have HQ4 : Hid (Q wi w4) := HQ.out.trans (qw_out hw')
                    clear hw' k1 k2 n0 d1 d2
                    go_wp2_with fail
                    go_roundg (j - (i + 1))
                    case measure => go_light; omega
                    case rel => go_light; exact ⟨b, i + 1, rfl, by simp, hbj, by omega, by omega, rfl, HB2, HQ4⟩
                · have hige : ¬ (i : Int) < (j : Int) := by omega
                  obtain rfl : i = j := by omega
                  obtain ⟨o, ho, hoN⟩ := ordL_place (r := rsV (zf zs) T) hkj
                  obtain rfl : b = o := HBs.out.unique (bst_ord hS ho)
                  have hbz : (b : Int) < (i : Int) := by omega
                  have HG1 := HG.out.next HQ.out
                  have y1 := HG1.l.cell b _ (tabI_at hbj)
                  have f1 := HG1.l.free b
                  have y2 := HG1.r.cell b _ (tabI_at hbj)
                  have f2 := HG1.r.free b
                  obtain ⟨e1, e2⟩ := shrK_hit ho
                  obtain ⟨e3, e4⟩ := rstK_hit ho
                  obtain ⟨x1, hx1⟩ : ∃ x1, shrK (zf zs) T i k b = x1 := ⟨_, rfl⟩
                  obtain ⟨x2, hx2⟩ : ∃ x2, rstK (zf zs) T i k b = x2 := ⟨_, rfl⟩
                  have bx : -72057594037927936 ≤ x1 ∧ x1 ≤ 72057594037927937 := by
                    rw [← hx1]; unfold shrK
                    have := flo_size (z := zf zs) (i := b) hS (HM.out b)
                    split <;> omega
                  obtain ⟨bx1, bx2⟩ := bx
                  rw [hx1] at y1 e1
                  rw [hx2] at y2
                  have HD2 : Hid (Ds w ((wr.setCell ⟨g, b, none⟩ (.int .i64 (x1 + 1))).setCell ⟨gr, b, none⟩ (.int .i64 (-1))) (shrK (zf zs) T i (k + 1)) (rstK (zf zs) T i (k + 1)) i g gr) := (HG1.setl hbj (u := x1 + 1) e1.symm e2).setr hbj (u := -1) e3.symm e4
                  have y4 : (wr.setCell ⟨g, b, none⟩ (.int .i64 (x1 + 1))).cell? ⟨gr, b, none⟩ = some (.int .i64 x2) := (World.cell?_setCell_other _ _ _ _ (fun e => HG1.ne (by injection e))).trans y2
                  have f4 : (wr.setCell ⟨g, b, none⟩ (.int .i64 (x1 + 1))).frozen? ⟨gr, b, none⟩ = false := by rw [World.frozen?_setCell]; exact f2
                  obtain ⟨mk', hmk⟩ : ∃ mk', mk = mk' + 1 := ⟨mk - 1, by omega⟩
                  have emk : (mk : Int) - 1 = (mk' : Int) := by omega
                  have HK2 : Hid (mk' + (k + 1) = mm) := by have := HK.out; show mk' + (k + 1) = mm; omega
                  have hlm : mk' < mk := by omega
                  have hmkb : mk ≤ 100 := by have := HK.out; omega
                  have hmkb2 : mk' ≤ 100 := by omega
                  clear ho e1 e2 e3 e4 hx1 hx2 HG1 y2 f2 HBs HQ HG HK hmk
                  go_wp2_with fail
                  generalize ((wr.setCell ⟨g, b, none⟩ (.int .i64 (x1 + 1))).setCell ⟨gr, b, none⟩ (.int .i64 (-1))) = w9 at HD2 ⊢
                  go_roundg mk'
                  case measure => go_light; omega
                  case rel => go_light; exact ⟨k + 1, mk', by simp [emk], HK2, rfl, HD2⟩
            · have hge : ¬ (0 : Int) < (mk : Int) := by omega
              obtain rfl : mk = 0 := by omega
              have HKe : Hid (k = mm) := by have := HK.out; show k = mm; omega
              go_wp2_with fail
              go_ret2
              refine ⟨g, rfl, HG.out.l1, ?_, HG.out.q⟩
              rw [HFin.out, HMM.out, ← HKe.out]
              exact HG.out.l
end Go.Proofs.Ytdbbpmadkhedlaa

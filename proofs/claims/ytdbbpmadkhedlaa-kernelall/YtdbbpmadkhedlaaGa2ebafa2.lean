/- Weights over a wider window, and times a number: the same taps. Plain. -/
import Derived.Test.YtdbbpmadkhedlaaGb72608d3
import Derived.Test.YtdbbpmadkhedlaaG64f32559
import Derived.Test.YtdbbpmadkhedlaaG1d93a06b
import Derived.Test.YtdbbpmadkhedlaaG3730c3ff
namespace Go.Proofs.Ytdbbpmadkhedlaa
open Go.Sort
set_option linter.unusedVariables false
set_option linter.unusedSimpArgs false

theorem wrun_nil {f pl : Int → Int} {a : Int} : ∀ p : Nat, (∀ j : Nat, j < p → f (a + j) = 0) → wrun f pl a p = []
  | 0, _ => rfl
  | p + 1, h => by show wput _ _ _ = _; rw [wrun_nil p (fun j hj => h j (by omega)), h p (by omega), wput_zero]
theorem wrun_lead {f pl : Int → Int} {a : Int} {p : Nat} (h : ∀ j : Nat, j < p → f (a + j) = 0) : ∀ q : Nat, wrun f pl a (p + q) = wrun f pl (a + p) q
  | 0 => by rw [Nat.add_zero, wrun_nil p h]; rfl
  | q + 1 => by
    show wput (wrun f pl a (p + q)) (pl (a + ((p + q : Nat) : Int))) (f (a + ((p + q : Nat) : Int))) = wput _ _ _
    rw [wrun_lead h q, show a + ((p + q : Nat) : Int) = a + (p : Int) + (q : Int) by omega]
theorem wrun_trail {f pl : Int → Int} {a : Int} {n : Nat} : ∀ q : Nat, (∀ j : Nat, j < q → f (a + n + j) = 0) → wrun f pl a (n + q) = wrun f pl a n
  | 0, _ => rfl
  | q + 1, h => by
    show wput (wrun f pl a (n + q)) (pl (a + ((n + q : Nat) : Int))) (f (a + ((n + q : Nat) : Int))) = _
    rw [wrun_trail q (fun j hj => h j (by omega)), show a + ((n + q : Nat) : Int) = a + (n : Int) + (q : Int) by omega, h q (by omega), wput_zero]
/-- Weights times a number. -/
def tms (l : Int) (L : List (Int × Int)) : List (Int × Int) := L.map fun e => (e.1, l * e.2)
theorem tms_len (l : Int) (L : List (Int × Int)) : (tms l L).length = L.length := by simp [tms]
theorem wput_tms {l : Int} (hl : l ≠ 0) (L : List (Int × Int)) (p n : Int) : wput (tms l L) p (l * n) = tms l (wput L p n) := by
  by_cases hn : n = 0
  · subst hn; rw [Int.mul_zero, wput_zero, wput_zero]
  · have hln : l * n ≠ 0 := Int.mul_ne_zero hl hn
    have hgl : (tms l L).getLast? = L.getLast?.map fun e => (e.1, l * e.2) := by unfold tms; rw [List.getLast?_map]
    cases hg : L.getLast? with
    | none =>
      rw [wput_new hln (fun e he => by rw [hgl, hg] at he; cases he), wput_new hn (fun e he => by rw [hg] at he; cases he)]
      unfold tms; simp
    | some z =>
      by_cases hz : z.1 = p
      · rw [wput_more hln (e := (z.1, l * z.2)) (by rw [hgl, hg]; rfl) hz, wput_more hn hg hz]
        unfold tms
        rw [List.map_append, List.map_dropLast, List.map_singleton]
        simp only [Int.mul_add]
      · rw [wput_new hln (fun e he => by rw [hgl, hg] at he; injection he with he; rw [← he]; exact hz), wput_new hn (fun e he => by rw [hg] at he; injection he with he; rw [← he]; exact hz)]
        unfold tms; simp
theorem wrun_tms {l : Int} (hl : l ≠ 0) {f g pl : Int → Int} (hg : ∀ k, g k = l * f k) (a : Int) : ∀ n : Nat, wrun g pl a n = tms l (wrun f pl a n)
  | 0 => rfl
  | n + 1 => by show wput (wrun g pl a n) _ _ = tms l (wput _ _ _); rw [wrun_tms hl hg a n, hg, wput_tms hl]
/-- Shares of weights times a number. -/
theorem flo_tms {z y : Nat → Int} {l S : Int} (hl : 0 < l) (hy : ∀ i, y i = l * z i) (i : Nat) : flo y (l * S) i = flo z S i := by
  unfold flo
  rw [hy, show (65536 : Int) * (l * z i) = l * (65536 * z i) by rw [← Int.mul_assoc, Int.mul_comm 65536 l, Int.mul_assoc], Int.mul_ediv_mul_of_pos _ _ hl]
theorem rsV_tms {z y : Nat → Int} {l S : Int} (hl : 0 < l) (hy : ∀ i, y i = l * z i) (i : Int) : rsV y (l * S) i = l * rsV z S i := by
  unfold rsV
  rw [hy, show (65536 : Int) * (l * z i.toNat) = l * (65536 * z i.toNat) by rw [← Int.mul_assoc, Int.mul_comm 65536 l, Int.mul_assoc], Int.mul_emod_mul_of_pos _ _ hl]
theorem tlt_tms {r q : Int → Int} {l : Int} (hl : 0 < l) (hq : ∀ i, q i = l * r i) (x y : Int) : tlt r x y → tlt q x y := by
  unfold tlt
  rw [hq, hq]
  rintro (h | ⟨h1, h2⟩)
  · exact Or.inl (Int.mul_lt_mul_of_pos_left h hl)
  · exact Or.inr ⟨by rw [h1], h2⟩
theorem ordL_tms {r q : Int → Int} {l : Int} (hl : 0 < l) (hq : ∀ i, q i = l * r i) (n : Nat) : ordL q n = ordL r n := by
  refine ordL_eq (ordL_perm r n) ?_
  refine List.pairwise_iff_getElem.2 fun i j hi hj hij => ?_
  exact tlt_tms hl hq _ _ (ordL_lt (List.getElem?_eq_getElem hi) (List.getElem?_eq_getElem hj) hij)
theorem shrV_tms {z y : Nat → Int} {l : Int} (hl : 0 < l) (hy : ∀ i, y i = l * z i) (n i : Nat) : shrV y n i = shrV z n i := by
  have hs : sumF y n = l * sumF z n := by rw [← sumF_mul]; exact sumF_congr n (fun i _ => hy i)
  unfold shrV missV shrK
  rw [hs, flo_tms hl hy, ordL_tms hl (rsV_tms hl hy), sumF_congr n (fun i _ => flo_tms (S := sumF z n) hl hy i)]
theorem zf_tms (l : Int) (L : List (Int × Int)) (i : Nat) : zf ((tms l L).map Prod.snd) i = l * zf (L.map Prod.snd) i := by
  unfold zf tms
  rw [List.getD_eq_getElem?_getD, List.getD_eq_getElem?_getD, List.map_map, List.getElem?_map, List.getElem?_map]
  cases L[i]? with
  | none => simp
  | some e => rfl
theorem tpK_congr {L M : List (Int × Int)} {sh sg : Nat → Int} (h1 : ∀ k, (L.getD k (0, 0)).1 = (M.getD k (0, 0)).1) (h2 : ∀ k, sh k = sg k) : ∀ j, tpK L sh j = tpK M sg j
  | 0 => rfl
  | j + 1 => by
    unfold tpK
    rw [tpK_congr h1 h2 j, h1, h2]
theorem tapsL_tms {l : Int} (hl : 0 < l) (L : List (Int × Int)) : tapsL (tms l L) = tapsL L := by
  unfold tapsL
  rw [tms_len]
  refine tpK_congr (fun k => ?_) (fun k => shrV_tms hl (zf_tms l L) _ _) _
  unfold tms
  rw [List.getD_eq_getElem?_getD, List.getD_eq_getElem?_getD, List.getElem?_map]
  cases L[k]? with
  | none => rfl
  | some e => rfl
theorem sndSum_tms (l : Int) (L : List (Int × Int)) : sndSum (tms l L) = l * sndSum L := by
  unfold sndSum tms
  induction L with
  | nil => simp
  | cons e L ih => simp only [List.map_cons, List.sum_cons]; rw [ih, Int.mul_add]
/-- The document's weights: those of the kernel, times mulR. -/
def mulR (kind m : Int) : Int := if kind = 1 then 2 * (2 * m) * (2 * m) * (2 * m) else if kind = 2 then 2 * (2 * m) * (2 * m) else 1
def wgtR (kind a b : Int) : Int := if kind = 1 then (if -b ≤ 2 * a ∧ 2 * a < b then 2 * b * b * b else 0) else if kind = 2 then (if absI a < b then 2 * b * b * (b - absI a) else 0) else cubV (absI a) b
theorem mulR_pos {kind m : Int} (hm : 0 < m) : 0 < mulR kind m := by
  unfold mulR
  have h2 : 0 < 2 * m := by omega
  split
  · exact Int.mul_pos (Int.mul_pos (by omega) h2) h2
  · split
    · exact Int.mul_pos (by omega) h2
    · decide
theorem wgtR_eq {kind m a : Int} (hk : kind = 1 ∨ kind = 2 ∨ kind = 3) : wgtR kind a (2 * m) = mulR kind m * wgt kind m a := by
  unfold wgtR mulR wgt
  rcases hk with rfl | rfl | rfl
  · simp only [if_true]
    by_cases c : -(2 * m) ≤ 2 * a ∧ 2 * a < 2 * m
    · rw [if_pos c, if_pos (by omega), Int.mul_one]
    · rw [if_neg c, if_neg (by omega), Int.mul_zero]
  · simp only [show ¬ (2 : Int) = 1 by decide, if_false, if_true]
    have ha : 0 ≤ absI a := by unfold absI; omega
    by_cases c : absI a < 2 * m
    · rw [if_pos c]
      congr 1
      omega
    · rw [if_neg c, show max (2 * m - absI a) 0 = 0 by omega, Int.mul_zero]
  · simp only [show ¬ (3 : Int) = 1 by decide, show ¬ (3 : Int) = 2 by decide, if_false, Int.one_mul]
/-- Outside its reach a kernel weighs nothing. -/
theorem wgt_out {kind m d : Int} (hk : kind = 1 ∨ kind = 2 ∨ kind = 3) (hm : 0 < m) (h : rea kind m < absI d) : wgt kind m d = 0 := by
  unfold wgt rea at *
  unfold absI cubV at *
  rcases hk with rfl | rfl | rfl
  · simp only [if_true] at h ⊢
    rw [if_neg (by omega)]
  · simp only [show ¬ (2 : Int) = 1 by decide, if_false, if_true] at h ⊢
    omega
  · simp only [show ¬ (3 : Int) = 1 by decide, show ¬ (3 : Int) = 2 by decide, if_false] at h ⊢
    rw [if_neg (by omega), if_neg (by omega)]
/-- The document's window. -/
def midR (F T i : Nat) : Int := midV F T i / (2 * (T : Int))
def reaR (F T : Nat) : Int := 2 * ((max F T : Nat) : Int) / (T : Int) + 2
def nR (F T : Nat) : Nat := (2 * reaR F T + 2).toNat
theorem reaR_bd {F T i : Nat} (h : Sz F T i) : 4 ≤ reaR F T ∧ reaR F T ≤ 32 ∧ 2 * ((max F T : Nat) : Int) < (reaR F T - 1) * (T : Int) := by
  obtain ⟨f1, f2, t1, t2, hi, ft⟩ := h
  have hT : 0 < (T : Int) := by omega
  have a1 := Int.mul_ediv_add_emod (2 * ((max F T : Nat) : Int)) (T : Int)
  have a2 := Int.emod_nonneg (2 * ((max F T : Nat) : Int)) (by omega : (T : Int) ≠ 0)
  have a3 := Int.emod_lt_of_pos (2 * ((max F T : Nat) : Int)) hT
  unfold reaR
  generalize 2 * ((max F T : Nat) : Int) % (T : Int) = r at *
  have hm1 : ((max F T : Nat) : Int) ≤ 15 * (T : Int) := by omega
  have hm2 : (T : Int) ≤ ((max F T : Nat) : Int) := by omega
  generalize ((max F T : Nat) : Int) = m at *
  generalize 2 * m / (T : Int) = q at *
  have h1 : 2 ≤ q := by
    rcases Int.lt_or_le q 2 with c | c
    · have : (T : Int) * q ≤ (T : Int) * 1 := Int.mul_le_mul_of_nonneg_left (by omega) (by omega)
      omega
    · exact c
  have h2 : q ≤ 30 := by
    rcases Int.lt_or_le 30 q with c | c
    · have : (T : Int) * 31 ≤ (T : Int) * q := Int.mul_le_mul_of_nonneg_left (by omega) (by omega)
      omega
    · exact c
  refine ⟨by omega, by omega, ?_⟩
  rw [show q + 2 - 1 = q + 1 by omega, Int.add_mul, Int.mul_comm q]
  omega
theorem win_in {kind : Int} {F T i : Nat} (h : Sz F T i) : midR F T i - reaR F T ≤ fstV kind F T i ∧ lstV kind F T i ≤ midR F T i + 1 + reaR F T := by
  obtain ⟨w1, w2, w3, w4⟩ := win_eq (kind := kind) h
  obtain ⟨b1, b2, b3⟩ := reaR_bd h
  have hr := rea_size (kind := kind) (m := (max F T : Nat)) (by have := h.f1; omega)
  have hT : 0 < 2 * (T : Int) := by have := h.t1; omega
  have a1 := Int.mul_ediv_add_emod (midV F T i) (2 * (T : Int))
  have a2 := Int.emod_nonneg (midV F T i) (by omega : 2 * (T : Int) ≠ 0)
  have a3 := Int.emod_lt_of_pos (midV F T i) hT
  change 2 * (T : Int) * midR F T i + _ = _ at a1
  generalize midV F T i % (2 * (T : Int)) = e at *
  generalize midV F T i = M at *
  generalize midR F T i = mid at *
  generalize rea kind (max F T : Nat) = R at *
  generalize fstV kind F T i = f at *
  generalize lstV kind F T i = l at *
  generalize reaR F T = r at *
  generalize ((max F T : Nat) : Int) = m at *
  generalize (T : Int) = t at *
  refine ⟨?_, ?_⟩
  · rcases Int.lt_or_le f (mid - r) with c | c
    · have : 2 * t * (f + 1) ≤ 2 * t * (mid - r) := Int.mul_le_mul_of_nonneg_left (by omega) (by omega)
      rw [Int.mul_add, Int.mul_sub, Int.mul_assoc 2 t r, Int.mul_comm t r] at this
      rw [Int.sub_mul] at b3
      omega
    · exact c
  · rcases Int.lt_or_le (mid + 1 + r) l with c | c
    · have : 2 * t * (mid + 2 + r) ≤ 2 * t * l := Int.mul_le_mul_of_nonneg_left (by omega) (by omega)
      rw [Int.mul_add, Int.mul_add, Int.mul_assoc 2 t r, Int.mul_comm t r] at this
      rw [Int.sub_mul] at b3
      omega
    · exact c
/-- The document's list of weights. -/
def wfR (kind : Int) (F T i : Nat) (k : Int) : Int := wgtR kind (2 * (T : Int) * k - midV F T i) (2 * (max F T : Nat))
theorem wls_doc {kind : Int} {F T i : Nat} (hk : kind = 1 ∨ kind = 2 ∨ kind = 3) (h : Sz F T i) :
    wrun (wfR kind F T i) (plV F) (midR F T i - reaR F T) (nR F T) = tms (mulR kind (max F T : Nat)) (wlsV kind F T i) := by
  have hm : 0 < ((max F T : Nat) : Int) := by have := h.f1; omega
  obtain ⟨i1, i2⟩ := win_in (kind := kind) h
  obtain ⟨b1, b2, b3⟩ := reaR_bd h
  obtain ⟨w1, w2, w3, w4⟩ := win_eq (kind := kind) h
  obtain ⟨g1, g2, _⟩ := win_facts (kind := kind) h
  have hT : 0 < 2 * (T : Int) := by have := h.t1; omega
  rw [wrun_tms (f := wfV kind F T i) (g := wfR kind F T i) (Int.ne_of_gt (mulR_pos hm)) (fun k => wgtR_eq hk)]
  congr 1
  have hout : ∀ k, k < fstV kind F T i ∨ lstV kind F T i < k → wfV kind F T i k = 0 := fun k hkk => by
    refine wgt_out hk hm ?_
    unfold absI
    rcases hkk with c | c
    · have : 2 * (T : Int) * (k + 1) ≤ 2 * (T : Int) * fstV kind F T i := Int.mul_le_mul_of_nonneg_left (by omega) (by omega)
      rw [Int.mul_add] at this
      generalize 2 * (T : Int) * k = x at *
      generalize 2 * (T : Int) * fstV kind F T i = y at *
      omega
    · have : 2 * (T : Int) * (lstV kind F T i + 1) ≤ 2 * (T : Int) * k := Int.mul_le_mul_of_nonneg_left (by omega) (by omega)
      rw [Int.mul_add] at this
      generalize 2 * (T : Int) * k = x at *
      generalize 2 * (T : Int) * lstV kind F T i = y at *
      omega
  obtain ⟨p, hp⟩ : ∃ p : Nat, (p : Int) = fstV kind F T i - (midR F T i - reaR F T) := ⟨(fstV kind F T i - (midR F T i - reaR F T)).toNat, by omega⟩
  obtain ⟨q, hq⟩ : ∃ q : Nat, (q : Int) = midR F T i + 1 + reaR F T - lstV kind F T i := ⟨(midR F T i + 1 + reaR F T - lstV kind F T i).toNat, by omega⟩
  have hn : nR F T = p + (winV kind F T i + q) := by unfold nR winV; omega
  rw [hn, wrun_lead (fun j hj => hout _ (Or.inl (by omega))), show midR F T i - reaR F T + (p : Int) = fstV kind F T i by omega, wrun_trail q (fun j hj => hout _ (Or.inr (by unfold winV; omega)))]
  rfl
theorem mid_win {F T i : Nat} (h : Sz F T i) (k : Int) (h1 : midR F T i - reaR F T ≤ k) (h2 : k ≤ midR F T i + 1 + reaR F T) : -8192 * 10 ≤ 2 * (T : Int) * k - midV F T i ∧ 2 * (T : Int) * k - midV F T i ≤ 8192 * 10 := by
  obtain ⟨b1, b2, b3⟩ := reaR_bd h
  have hT : 0 < 2 * (T : Int) := by have := h.t1; omega
  have hT2 := h.t2
  have a1 := Int.mul_ediv_add_emod (midV F T i) (2 * (T : Int))
  have a2 := Int.emod_nonneg (midV F T i) (by omega : 2 * (T : Int) ≠ 0)
  have a3 := Int.emod_lt_of_pos (midV F T i) hT
  change 2 * (T : Int) * midR F T i + _ = _ at a1
  have c1 : 2 * (T : Int) * (midR F T i - 32) ≤ 2 * (T : Int) * k := Int.mul_le_mul_of_nonneg_left (by omega) (by omega)
  have c2 : 2 * (T : Int) * k ≤ 2 * (T : Int) * (midR F T i + 33) := Int.mul_le_mul_of_nonneg_left (by omega) (by omega)
  rw [Int.mul_sub] at c1
  rw [Int.mul_add] at c2
  omega
end Go.Proofs.Ytdbbpmadkhedlaa
/- A region that draws its order: operations that come up in whatever order, each with a fact that lasts (it may speak of what those told that it waits for); blocks that are made lie apart. -/
namespace Go.Proofs.Ytdbbpmadkhedlaa
open Go.RowKit
set_option linter.unusedVariables false
set_option linter.unusedSimpArgs false

/-- The block that a slice or a pointer is at. -/
def blkV : Value → Nat
  | .slice (some a) _ _ => a.block
  | .pointer (some a) => a.block
  | _ => 0
/-- What is told of a value, where others (deps) may be named. -/
structure Sp2 where
  p : Value → (Nat → Value) → World → Prop
  deps : List Nat
  st : ∀ {v : Value} {val val' : Nat → Value} {x x' : World}, p v val x → Q x x' → (∀ j ∈ deps, val' j = val j) → p v val' x'
def sV (u : Value) : Sp2 := ⟨fun v _ _ => v = u, [], fun h _ _ => h⟩
def sE (j : Nat) : Sp2 := ⟨fun v val _ => v = val j, [j], fun h _ e => h.trans (e j (by simp)).symm⟩
def sP (p : Value → World → Prop) (st : ∀ v x x', p v x → Q x x' → p v x') : Sp2 := ⟨fun v _ x => p v x, [], fun h q _ => st _ _ _ h q⟩
/-- Each operation fills a slot, is not guarded, and what is told of it names what it waits for. -/
def newB (l : List Oper) (D : List (List Nat)) (s : List Nat) : Bool := (D.length == l.length) && ((s.length == l.length) && (List.range l.length).all fun k => match l[k]? with
  | some o => o.guard.isNone && ((o.dst == s[k]?) && (D.getD k []).all fun j => decide (j < k) && o.after.toList.any fun e => Region.binds .any e && (e.on == j))
  | none => true)
structure InvN (l : List Oper) (L : List Sp2) (A : List Nat) (w : World) (done : Nat → Bool) (val : Nat → Value) (x : World) : Prop where
  q : Q w x
  f : ∀ i s, L[i]? = some s → done i = true → s.p (val i) val x
  lt : ∀ i, i ∈ A → done i = true → blkV (val i) < x.heap.size
  ap : ∀ i j, i ∈ A → j ∈ A → i ≠ j → done i = true → done j = true → blkV (val i) ≠ blkV (val j)
  cl : ∀ i o, l[i]? = some o → done i = true → ∀ e ∈ o.after, Region.binds .any e = true → done e.on = true
set_option maxHeartbeats 1000000 in
theorem wp_region_new {P : Program} {id : Nat} {R : Exit → Act → World → Prop} {a0 : Act} {w : World} {l : List Oper} (s : List Nat) (L : List Sp2) (D : List (List Nat)) (A : List Nat)
    (hm : P.follows .mixedOrders = true) (hB : regS l = true) (hN : newB l D s = true) (hD : L.map (·.deps) = D) (hmax : ∀ t ∈ s, t < a0.tmps.size)
    (hop : ∀ i t o sp (a : Act) x (val : Nat → Value), s[i]? = some t → l[i]? = some o → L[i]? = some sp → Q w x → (∀ j, j ∉ s → a.tmps[j]? = a0.tmps[j]?) → (∀ e ∈ o.after, Region.binds .any e = true → ∀ s' t', L[e.on]? = some s' → s[e.on]? = some t' → a.tmps[t']? = some (val e.on) ∧ s'.p (val e.on) val x) →
      Yld P R o a x t (fun v x' => sp.p v val x' ∧ (i ∈ A → x.heap.size ≤ blkV v ∧ blkV v < x'.heap.size)))
    (hend : ∀ (a : Act) x (val : Nat → Value), Q w x → a.tmps.size = a0.tmps.size → a.defers = a0.defers → (∀ j, j ∉ s → a.tmps[j]? = a0.tmps[j]?) → (∀ i t sp, s[i]? = some t → L[i]? = some sp → a.tmps[t]? = some (val i) ∧ sp.p (val i) val x) → (∀ i j, i ∈ A → j ∈ A → i < l.length → j < l.length → i ≠ j → blkV (val i) ≠ blkV (val j)) → Shut (R .normal a x)) :
    (Code.region id l.toArray true).wp P R a0 w := by
  unfold newB at hN
  simp only [Bool.and_eq_true, beq_iff_eq] at hN
  obtain ⟨hDl, hsl, hall⟩ := hN
  have hLl : L.length = l.length := by rw [← hDl, ← hD]; simp
  have at_ : ∀ k o, l[k]? = some o → o.guard = none ∧ o.dst = s[k]? ∧ ∀ j ∈ D.getD k [], j < k ∧ ∃ e ∈ o.after, Region.binds .any e = true ∧ e.on = j := fun k o hk => by
    have g := List.all_eq_true.1 hall k (List.mem_range.2 (List.getElem?_eq_some_iff.1 hk).1)
    rw [hk] at g
    simp only [Bool.and_eq_true, beq_iff_eq] at g
    refine ⟨by simpa using g.1, g.2.1, fun j hj => ?_⟩
    have h := List.all_eq_true.1 g.2.2 j hj
    rw [Bool.and_eq_true] at h
    obtain ⟨e, he, hb⟩ := List.any_eq_true.1 h.2
    rw [Bool.and_eq_true] at hb
    exact ⟨by simpa using h.1, e, by simpa using he, hb.1, by simpa using hb.2⟩
  have dst_s : ∀ k t, dstOf l k = some t ↔ s[k]? = some t := fun k t => by
    cases hk : l[k]? with
    | none =>
      have : l.length ≤ k := by
        rcases Nat.lt_or_ge k l.length with c | c
        · rw [List.getElem?_eq_getElem c] at hk; cases hk
        · exact c
      rw [List.getElem?_eq_none (by omega)]
      unfold dstOf
      rw [hk]
      exact Iff.rfl
    | some o => rw [dstOf_at hk, (at_ k o hk).2.1]
  have mem_s : ∀ j, (∀ k, dstOf l k ≠ some j) ↔ j ∉ s := fun j => by
    constructor
    · intro h hm
      obtain ⟨k, hk⟩ := List.getElem?_of_mem hm
      exact h k ((dst_s k j).2 hk)
    · intro h k e
      exact h (List.mem_of_getElem? ((dst_s k j).1 e))
  have depsD : ∀ k sp, L[k]? = some sp → sp.deps = D.getD k [] := fun k sp hk => by
    rw [← hD, List.getD_eq_getElem?_getD, List.getElem?_map, hk]; rfl
  refine wp_region_slots (InvN l L A w) hm hB (fun i t h => hmax t (List.mem_of_getElem? ((dst_s i t).1 h))) ⟨(Q.refl w).drew, fun _ _ _ h => (by cases h), fun _ _ h => (by cases h), fun _ _ _ _ _ h => (by cases h), fun _ _ _ h => (by cases h)⟩ ?_ ?_ ?_
  · intro i o a x done val ho hd hdep I oth vals _
    have hil : i < l.length := (List.getElem?_eq_some_iff.1 ho).1
    obtain ⟨sp, hsp⟩ : ∃ sp, L[i]? = some sp := ⟨_, List.getElem?_eq_getElem (by omega)⟩
    obtain ⟨t, ht⟩ : ∃ t, s[i]? = some t := ⟨_, List.getElem?_eq_getElem (by omega)⟩
    obtain ⟨hg, hdst, hdp⟩ := at_ i o ho
    have hrun := hop i t o sp a x val ht ho hsp I.q (fun j hj => oth j ((mem_s j).2 hj)) (fun e he hb s' t' hs' ht' => ⟨vals e.on t' (hdep e he hb) ((dst_s _ _).2 ht'), I.f e.on s' hs' (hdep e he hb)⟩)
    refine ⟨Oper.wp_mono ?_ hrun.out⟩
    rintro a' x' ⟨v, rfl, q', hf, hfA⟩
    refine ⟨v, by rw [hdst, ht], I.q.trans q', fun j sj hsj hdj => ?_, fun j hj hdj => ?_, fun j k hj hk hjk hdj hdk => ?_, fun j o' ho' hdj e he hb => ?_⟩
    · by_cases e : j = i
      · subst e
        rw [hsp] at hsj
        injection hsj with hsj
        subst hsj
        rw [upd_eq]
        refine sp.st hf (Q.refl x') (fun k hk => upd_ne _ _ ?_)
        rw [depsD j sp hsp] at hk
        have := (hdp k hk).1
        omega
      · rw [upd_ne _ _ e] at hdj ⊢
        refine sj.st (I.f j sj hsj hdj) q' (fun k hk => upd_ne _ _ ?_)
        rw [depsD j sj hsj] at hk
        have hjl : j < l.length := by have := (List.getElem?_eq_some_iff.1 hsj).1; omega
        obtain ⟨_, e2, he2, hb2, hk2⟩ := (at_ j _ (List.getElem?_eq_getElem hjl)).2.2 k hk
        have := I.cl j _ (List.getElem?_eq_getElem hjl) hdj e2 he2 hb2
        intro ek
        rw [hk2, ek, hd] at this
        cases this
    · by_cases e : j = i
      · subst e; rw [upd_eq]; exact (hfA hj).2
      · rw [upd_ne _ _ e] at hdj ⊢
        have := I.lt j hj hdj
        have := q'.1.size
        omega
    · by_cases e : j = i
      · subst e
        have ek : k ≠ j := fun h => hjk h.symm
        rw [upd_eq, upd_ne _ _ ek]
        rw [upd_ne _ _ ek] at hdk
        have := I.lt k hk hdk
        have := (hfA hj).1
        omega
      · rw [upd_ne _ _ e] at hdj ⊢
        by_cases ek : k = i
        · subst ek
          rw [upd_eq]
          have := I.lt j hj hdj
          have := (hfA hk).1
          omega
        · rw [upd_ne _ _ ek] at hdk ⊢
          exact I.ap j k hj hk hjk hdj hdk
    · by_cases ee : e.on = i
      · rw [ee, upd_eq]
      · rw [upd_ne _ _ ee]
        by_cases ej : j = i
        · subst ej
          rw [ho] at ho'
          injection ho' with ho'
          subst ho'
          exact hdep e he hb
        · rw [upd_ne _ _ ej] at hdj
          exact I.cl j o' ho' hdj e he hb
  · intro i o x done val g b ho _ _ _ hg _
    rw [(at_ i o ho).1] at hg
    cases hg
  · intro a x val I size defers other facts
    refine hend a x val I.q size defers (fun j hj => other j ((mem_s j).2 hj)) (fun i t sp ht hsp => ⟨facts i t ((dst_s i t).2 ht), I.f i sp hsp (decide_eq_true (by have := (List.getElem?_eq_some_iff.1 hsp).1; omega))⟩) (fun i j hi hj hil hjl hij => I.ap i j hi hj hij (decide_eq_true hil) (decide_eq_true hjl))
end Go.Proofs.Ytdbbpmadkhedlaa
/- The document's Share: two rows that it makes, in whatever order. -/
namespace Go.Proofs.Ytdbbpmadkhedlaa
open Go.RowKit
set_option linter.unusedVariables false
set_option linter.unusedSimpArgs false

/-- A row of noughts that is made. -/
def rowS (B n : Nat) : Sp2 := sP (fun v x => ∃ g, v = .slice (some ⟨g, 0, none⟩) n n ∧ B ≤ g ∧ g < x.heap.size ∧ IRow x g (List.replicate n 0)) (fun v x x' ⟨g, h1, h2, h3, h4⟩ q => ⟨g, h1, h2, by have := q.1.size; omega, h4.next q⟩)
def oRs_0 : Oper := { dst := some 46, op := .move (.tmp 0), type := 51, pos := "halideref9.go:40", after := #[], guard := none }
def oRs_1 : Oper := { dst := some 47, op := .call { callee := .builtin .len, args := #[.tmp 46], argTypes := #[51] }, type := 3, pos := "halideref9.go:40", after := #[⟨0, .data⟩], guard := none }
def oRs_2 : Oper := { dst := some 48, op := .makeSlice 51 (.tmp 47) (.tmp 47), type := 51, pos := "halideref9.go:40", after := #[⟨1, .data⟩, ⟨1, .data⟩], guard := none }
def oRs_3 : Oper := { dst := some 49, op := .move (.tmp 0), type := 51, pos := "halideref9.go:40", after := #[], guard := none }
def oRs_4 : Oper := { dst := some 50, op := .call { callee := .builtin .len, args := #[.tmp 49], argTypes := #[51] }, type := 3, pos := "halideref9.go:40", after := #[⟨3, .data⟩], guard := none }
def oRs_5 : Oper := { dst := some 51, op := .makeSlice 51 (.tmp 50) (.tmp 50), type := 51, pos := "halideref9.go:40", after := #[⟨4, .data⟩, ⟨4, .data⟩], guard := none }
def oRs_6 : Oper := { dst := some 6, op := .assign (.tmp 48), type := 51, pos := "halideref9.go:40", after := #[⟨2, .data⟩, ⟨0, .phase⟩, ⟨1, .phase⟩, ⟨2, .phase⟩, ⟨3, .textOnly .lateStores⟩, ⟨4, .textOnly .lateStoresUnsure⟩, ⟨5, .textOnly .lateStoresUnsure⟩], guard := none }
def oRs_7 : Oper := { dst := some 7, op := .assign (.tmp 51), type := 51, pos := "halideref9.go:40", after := #[⟨5, .data⟩, ⟨6, .chain⟩, ⟨0, .phase⟩, ⟨1, .phase⟩, ⟨2, .phase⟩, ⟨3, .phase⟩, ⟨4, .phase⟩, ⟨5, .phase⟩, ⟨6, .phase⟩], guard := none }
def opsRs : List Oper := [oRs_0, oRs_1, oRs_2, oRs_3, oRs_4, oRs_5, oRs_6, oRs_7]
def sRs : List Nat := [46, 47, 48, 49, 50, 51, 6, 7]
def spRs (B : Nat) (ad : Option Addr) (n c : Nat) : List Sp2 := [sV (.slice ad n c), sV (.int .i64 (n : Int)), rowS B n, sV (.slice ad n c), sV (.int .i64 (n : Int)), rowS B n, sE 2, sE 5]
structure EnvRs (a0 : Act) (w : World) (B : Nat) (ad : Option Addr) (n c : Nat) : Prop where
  h0 : a0.tmps[0]? = some (.slice ad n c)
  hn : n ≤ 1048576
  hB : B ≤ w.heap.size
theorem yRs_0 {a0 : Act} {w : World} {B : Nat} {ad : Option Addr} {n c : Nat} (E : EnvRs a0 w B ad n c) {R : Exit → Act → World → Prop} {a : Act} {x : World} {val : Nat → Value} (q : Q w x) (oth : ∀ j, j ∉ sRs → a.tmps[j]? = a0.tmps[j]?) (dep : ∀ ed ∈ oRs_0.after, Region.binds .any ed = true → ∀ s' t', (spRs B ad n c)[ed.on]? = some s' → sRs[ed.on]? = some t' → a.tmps[t']? = some (val ed.on) ∧ s'.p (val ed.on) val x) : Yld Try.prog R oRs_0 a x 46 (fun v x' => (sV (.slice ad n c)).p v val x' ∧ (0 ∈ ([2, 5] : List Nat) → x.heap.size ≤ blkV v ∧ blkV v < x'.heap.size)) := by
  exact yld_move ((oth 0 (by decide)).trans E.h0) ⟨rfl, fun h => absurd h (by decide)⟩
theorem yRs_1 {a0 : Act} {w : World} {B : Nat} {ad : Option Addr} {n c : Nat} (E : EnvRs a0 w B ad n c) {R : Exit → Act → World → Prop} {a : Act} {x : World} {val : Nat → Value} (q : Q w x) (oth : ∀ j, j ∉ sRs → a.tmps[j]? = a0.tmps[j]?) (dep : ∀ ed ∈ oRs_1.after, Region.binds .any ed = true → ∀ s' t', (spRs B ad n c)[ed.on]? = some s' → sRs[ed.on]? = some t' → a.tmps[t']? = some (val ed.on) ∧ s'.p (val ed.on) val x) : Yld Try.prog R oRs_1 a x 47 (fun v x' => (sV (.int .i64 (n : Int))).p v val x' ∧ (1 ∈ ([2, 5] : List Nat) → x.heap.size ≤ blkV v ∧ blkV v < x'.heap.size)) := by
  obtain ⟨t0, f0⟩ := dep ⟨0, .data⟩ (by simp [oRs_1]) rfl _ 46 rfl rfl
  have f0 : val 0 = (.slice ad n c) := f0
  rw [f0] at t0
  exact yld_run (x' := x) rfl (by simp [oRs_1, execOp, resolve, invoke, builtin, t0, go_sem]) (Q.refl x) ⟨rfl, fun h => absurd h (by decide)⟩
theorem yRs_2 {a0 : Act} {w : World} {B : Nat} {ad : Option Addr} {n c : Nat} (E : EnvRs a0 w B ad n c) {R : Exit → Act → World → Prop} {a : Act} {x : World} {val : Nat → Value} (q : Q w x) (oth : ∀ j, j ∉ sRs → a.tmps[j]? = a0.tmps[j]?) (dep : ∀ ed ∈ oRs_2.after, Region.binds .any ed = true → ∀ s' t', (spRs B ad n c)[ed.on]? = some s' → sRs[ed.on]? = some t' → a.tmps[t']? = some (val ed.on) ∧ s'.p (val ed.on) val x) : Yld Try.prog R oRs_2 a x 48 (fun v x' => (rowS B n).p v val x' ∧ (2 ∈ ([2, 5] : List Nat) → x.heap.size ≤ blkV v ∧ blkV v < x'.heap.size)) := by
  obtain ⟨t1, f1⟩ := dep ⟨1, .data⟩ (by simp [oRs_2]) rfl _ 47 rfl rfl
  have f1 : val 1 = (.int .i64 (n : Int)) := f1
  rw [f1] at t1
  obtain ⟨M, hM, hF⟩ := make_i n E.hn
  have hrun : (execOp a.eval oRs_2).run Try.prog x = .ok (.value (.slice (some ⟨x.heap.size, 0, none⟩) n n)) (x.alloc (.cells M 3)) := by
    have := tmp_eval t1
    simp [oRs_2, execOp, this, hM]
  have := q.1.size
  have := E.hB
  exact yld_run rfl hrun ((Q.refl x).cells _ _) ⟨⟨_, rfl, by omega, by simp, hF x⟩, fun _ => ⟨Nat.le_refl _, by simp [blkV]⟩⟩
theorem yRs_3 {a0 : Act} {w : World} {B : Nat} {ad : Option Addr} {n c : Nat} (E : EnvRs a0 w B ad n c) {R : Exit → Act → World → Prop} {a : Act} {x : World} {val : Nat → Value} (q : Q w x) (oth : ∀ j, j ∉ sRs → a.tmps[j]? = a0.tmps[j]?) (dep : ∀ ed ∈ oRs_3.after, Region.binds .any ed = true → ∀ s' t', (spRs B ad n c)[ed.on]? = some s' → sRs[ed.on]? = some t' → a.tmps[t']? = some (val ed.on) ∧ s'.p (val ed.on) val x) : Yld Try.prog R oRs_3 a x 49 (fun v x' => (sV (.slice ad n c)).p v val x' ∧ (3 ∈ ([2, 5] : List Nat) → x.heap.size ≤ blkV v ∧ blkV v < x'.heap.size)) := by
  exact yld_move ((oth 0 (by decide)).trans E.h0) ⟨rfl, fun h => absurd h (by decide)⟩
theorem yRs_4 {a0 : Act} {w : World} {B : Nat} {ad : Option Addr} {n c : Nat} (E : EnvRs a0 w B ad n c) {R : Exit → Act → World → Prop} {a : Act} {x : World} {val : Nat → Value} (q : Q w x) (oth : ∀ j, j ∉ sRs → a.tmps[j]? = a0.tmps[j]?) (dep : ∀ ed ∈ oRs_4.after, Region.binds .any ed = true → ∀ s' t', (spRs B ad n c)[ed.on]? = some s' → sRs[ed.on]? = some t' → a.tmps[t']? = some (val ed.on) ∧ s'.p (val ed.on) val x) : Yld Try.prog R oRs_4 a x 50 (fun v x' => (sV (.int .i64 (n : Int))).p v val x' ∧ (4 ∈ ([2, 5] : List Nat) → x.heap.size ≤ blkV v ∧ blkV v < x'.heap.size)) := by
  obtain ⟨t3, f3⟩ := dep ⟨3, .data⟩ (by simp [oRs_4]) rfl _ 49 rfl rfl
  have f3 : val 3 = (.slice ad n c) := f3
  rw [f3] at t3
  exact yld_run (x' := x) rfl (by simp [oRs_4, execOp, resolve, invoke, builtin, t3, go_sem]) (Q.refl x) ⟨rfl, fun h => absurd h (by decide)⟩
theorem yRs_5 {a0 : Act} {w : World} {B : Nat} {ad : Option Addr} {n c : Nat} (E : EnvRs a0 w B ad n c) {R : Exit → Act → World → Prop} {a : Act} {x : World} {val : Nat → Value} (q : Q w x) (oth : ∀ j, j ∉ sRs → a.tmps[j]? = a0.tmps[j]?) (dep : ∀ ed ∈ oRs_5.after, Region.binds .any ed = true → ∀ s' t', (spRs B ad n c)[ed.on]? = some s' → sRs[ed.on]? = some t' → a.tmps[t']? = some (val ed.on) ∧ s'.p (val ed.on) val x) : Yld Try.prog R oRs_5 a x 51 (fun v x' => (rowS B n).p v val x' ∧ (5 ∈ ([2, 5] : List Nat) → x.heap.size ≤ blkV v ∧ blkV v < x'.heap.size)) := by
  obtain ⟨t4, f4⟩ := dep ⟨4, .data⟩ (by simp [oRs_5]) rfl _ 50 rfl rfl
  have f4 : val 4 = (.int .i64 (n : Int)) := f4
  rw [f4] at t4
  obtain ⟨M, hM, hF⟩ := make_i n E.hn
  have hrun : (execOp a.eval oRs_5).run Try.prog x = .ok (.value (.slice (some ⟨x.heap.size, 0, none⟩) n n)) (x.alloc (.cells M 3)) := by
    have := tmp_eval t4
    simp [oRs_5, execOp, this, hM]
  have := q.1.size
  have := E.hB
  exact yld_run rfl hrun ((Q.refl x).cells _ _) ⟨⟨_, rfl, by omega, by simp, hF x⟩, fun _ => ⟨Nat.le_refl _, by simp [blkV]⟩⟩
theorem yRs_6 {a0 : Act} {w : World} {B : Nat} {ad : Option Addr} {n c : Nat} (E : EnvRs a0 w B ad n c) {R : Exit → Act → World → Prop} {a : Act} {x : World} {val : Nat → Value} (q : Q w x) (oth : ∀ j, j ∉ sRs → a.tmps[j]? = a0.tmps[j]?) (dep : ∀ ed ∈ oRs_6.after, Region.binds .any ed = true → ∀ s' t', (spRs B ad n c)[ed.on]? = some s' → sRs[ed.on]? = some t' → a.tmps[t']? = some (val ed.on) ∧ s'.p (val ed.on) val x) : Yld Try.prog R oRs_6 a x 6 (fun v x' => (sE 2).p v val x' ∧ (6 ∈ ([2, 5] : List Nat) → x.heap.size ≤ blkV v ∧ blkV v < x'.heap.size)) := by
  obtain ⟨t2, f2⟩ := dep ⟨2, .data⟩ (by simp [oRs_6]) rfl _ 48 rfl rfl
  exact yld_run (x' := x) rfl (by rw [← tmp_eval t2]; rfl) (Q.refl x) ⟨rfl, fun h => absurd h (by decide)⟩
theorem yRs_7 {a0 : Act} {w : World} {B : Nat} {ad : Option Addr} {n c : Nat} (E : EnvRs a0 w B ad n c) {R : Exit → Act → World → Prop} {a : Act} {x : World} {val : Nat → Value} (q : Q w x) (oth : ∀ j, j ∉ sRs → a.tmps[j]? = a0.tmps[j]?) (dep : ∀ ed ∈ oRs_7.after, Region.binds .any ed = true → ∀ s' t', (spRs B ad n c)[ed.on]? = some s' → sRs[ed.on]? = some t' → a.tmps[t']? = some (val ed.on) ∧ s'.p (val ed.on) val x) : Yld Try.prog R oRs_7 a x 7 (fun v x' => (sE 5).p v val x' ∧ (7 ∈ ([2, 5] : List Nat) → x.heap.size ≤ blkV v ∧ blkV v < x'.heap.size)) := by
  obtain ⟨t5, f5⟩ := dep ⟨5, .data⟩ (by simp [oRs_7]) rfl _ 51 rfl rfl
  exact yld_run (x' := x) rfl (by rw [← tmp_eval t5]; rfl) (Q.refl x) ⟨rfl, fun h => absurd h (by decide)⟩
theorem hopRs {a0 : Act} {w : World} {B : Nat} {ad : Option Addr} {n c : Nat} (E : EnvRs a0 w B ad n c) {R : Exit → Act → World → Prop} : ∀ (i t : Nat) (o : Oper) (sp : Sp2) (a : Act) (x : World) (val : Nat → Value), sRs[i]? = some t → opsRs[i]? = some o → (spRs B ad n c)[i]? = some sp → Q w x → (∀ j, j ∉ sRs → a.tmps[j]? = a0.tmps[j]?) → (∀ ed ∈ o.after, Region.binds .any ed = true → ∀ s' t', (spRs B ad n c)[ed.on]? = some s' → sRs[ed.on]? = some t' → a.tmps[t']? = some (val ed.on) ∧ s'.p (val ed.on) val x) → Yld Try.prog R o a x t (fun v x' => sp.p v val x' ∧ (i ∈ ([2, 5] : List Nat) → x.heap.size ≤ blkV v ∧ blkV v < x'.heap.size))
  | 0, t, o, sp, a, x, val, ht, ho, hs, q, oth, dep => by
    have e1 : oRs_0 = o := Option.some.inj ho
    have e2 : 46 = t := Option.some.inj ht
    have e3 := Option.some.inj hs
    subst e1 e2 e3
    exact yRs_0 E q oth dep
  | 1, t, o, sp, a, x, val, ht, ho, hs, q, oth, dep => by
    have e1 : oRs_1 = o := Option.some.inj ho
    have e2 : 47 = t := Option.some.inj ht
    have e3 := Option.some.inj hs
    subst e1 e2 e3
    exact yRs_1 E q oth dep
  | 2, t, o, sp, a, x, val, ht, ho, hs, q, oth, dep => by
    have e1 : oRs_2 = o := Option.some.inj ho
    have e2 : 48 = t := Option.some.inj ht
    have e3 := Option.some.inj hs
    subst e1 e2 e3
    exact yRs_2 E q oth dep
  | 3, t, o, sp, a, x, val, ht, ho, hs, q, oth, dep => by
    have e1 : oRs_3 = o := Option.some.inj ho
    have e2 : 49 = t := Option.some.inj ht
    have e3 := Option.some.inj hs
    subst e1 e2 e3
    exact yRs_3 E q oth dep
  | 4, t, o, sp, a, x, val, ht, ho, hs, q, oth, dep => by
    have e1 : oRs_4 = o := Option.some.inj ho
    have e2 : 50 = t := Option.some.inj ht
    have e3 := Option.some.inj hs
    subst e1 e2 e3
    exact yRs_4 E q oth dep
  | 5, t, o, sp, a, x, val, ht, ho, hs, q, oth, dep => by
    have e1 : oRs_5 = o := Option.some.inj ho
    have e2 : 51 = t := Option.some.inj ht
    have e3 := Option.some.inj hs
    subst e1 e2 e3
    exact yRs_5 E q oth dep
  | 6, t, o, sp, a, x, val, ht, ho, hs, q, oth, dep => by
    have e1 : oRs_6 = o := Option.some.inj ho
    have e2 : 6 = t := Option.some.inj ht
    have e3 := Option.some.inj hs
    subst e1 e2 e3
    exact yRs_6 E q oth dep
  | 7, t, o, sp, a, x, val, ht, ho, hs, q, oth, dep => by
    have e1 : oRs_7 = o := Option.some.inj ho
    have e2 : 7 = t := Option.some.inj ht
    have e3 := Option.some.inj hs
    subst e1 e2 e3
    exact yRs_7 E q oth dep
  | i + 8, t, o, sp, a, x, val, ht, ho, hs, q, oth, dep => by cases ho
set_option maxHeartbeats 1000000 in
theorem regionRs {id : Nat} {l : List Oper} {R : Exit → Act → World → Prop} {a0 : Act} {w : World} {B : Nat} {ad : Option Addr} {n c : Nat} (hl : l = opsRs) (hsz : a0.tmps.size = 119) (E : EnvRs a0 w B ad n c)
    (hR : ∀ x g gr, Q w x → B ≤ g → B ≤ gr → g ≠ gr → g < x.heap.size → gr < x.heap.size → IRow x g (List.replicate n 0) → IRow x gr (List.replicate n 0) → R .normal (putAll a0 [(46, .slice ad n c), (47, .int .i64 (n : Int)), (48, .slice (some ⟨g, 0, none⟩) n n), (49, .slice ad n c), (50, .int .i64 (n : Int)), (51, .slice (some ⟨gr, 0, none⟩) n n), (6, .slice (some ⟨g, 0, none⟩) n n), (7, .slice (some ⟨gr, 0, none⟩) n n)]) x) :
    (Code.region id l.toArray true).wp Try.prog R a0 w := by
  subst hl
  refine wp_region_new sRs (spRs B ad n c) [[], [], [], [], [], [], [2], [5]] [2, 5] (by kernel_rfl) (by decide +kernel) (by decide +kernel) rfl (fun t ht => ?_) (hopRs E) (fun a x val q size defers other facts apart => ?_)
  · rw [hsz]
    revert t
    decide
  · obtain ⟨t0, f0⟩ := facts 0 46 _ rfl rfl
    have f0 : val 0 = (.slice ad n c) := f0
    rw [f0] at t0
    obtain ⟨t1, f1⟩ := facts 1 47 _ rfl rfl
    have f1 : val 1 = (.int .i64 (n : Int)) := f1
    rw [f1] at t1
    obtain ⟨t2, f2⟩ := facts 2 48 _ rfl rfl
    obtain ⟨t3, f3⟩ := facts 3 49 _ rfl rfl
    have f3 : val 3 = (.slice ad n c) := f3
    rw [f3] at t3
    obtain ⟨t4, f4⟩ := facts 4 50 _ rfl rfl
    have f4 : val 4 = (.int .i64 (n : Int)) := f4
    rw [f4] at t4
    obtain ⟨t5, f5⟩ := facts 5 51 _ rfl rfl
    obtain ⟨t6, f6⟩ := facts 6 6 _ rfl rfl
    have f6 : val 6 = val 2 := f6
    obtain ⟨t7, f7⟩ := facts 7 7 _ rfl rfl
    have f7 : val 7 = val 5 := f7
    obtain ⟨g, e2, a1, a2, a3⟩ := f2
    obtain ⟨gr, e5, b1, b2, b3⟩ := f5
    have ap := apart 2 5 (by simp) (by simp) (by decide) (by decide) (by decide)
    rw [e2, e5] at ap
    rw [f6, e2] at t6
    rw [f7, e5] at t7
    rw [e2] at t2
    rw [e5] at t5
    have hA := act_puts (a := a) (a0 := a0) [(46, .slice ad n c), (47, .int .i64 (n : Int)), (48, .slice (some ⟨g, 0, none⟩) n n), (49, .slice ad n c), (50, .int .i64 (n : Int)), (51, .slice (some ⟨gr, 0, none⟩) n n), (6, .slice (some ⟨g, 0, none⟩) n n), (7, .slice (some ⟨gr, 0, none⟩) n n)] (show ([46, 47, 48, 49, 50, 51, 6, 7] : List Nat).Nodup by decide) size defers (fun j hj => other j (by simpa [sRs] using hj)) (fun r hr => ?_)
    · refine ⟨?_⟩
      rw [hA]
      exact hR x g gr q a1 b1 ap a2 b2 a3 b3
    · simp only [List.mem_cons, List.not_mem_nil, or_false] at hr
      rcases hr with rfl | rfl | rfl | rfl | rfl | rfl | rfl | rfl
      · exact t0
      · exact t1
      · exact t2
      · exact t3
      · exact t4
      · exact t5
      · exact t6
      · exact t7
set_option maxRecDepth 100000 in
theorem normRs {t0 t1 t2 t3 t4 t5 t6 t7 t8 t9 t10 t11 t12 t13 t14 t15 t16 t17 t18 t19 t20 t21 t22 t23 t24 t25 t26 t27 t28 t29 t30 t31 t32 t33 t34 t35 t36 t37 t38 t39 t40 t41 t42 t43 t44 t45 t46 t47 t48 t49 t50 t51 t52 t53 t54 t55 t56 t57 t58 t59 t60 t61 t62 t63 t64 t65 t66 t67 t68 t69 t70 t71 t72 t73 t74 t75 t76 t77 t78 t79 t80 t81 t82 t83 t84 t85 t86 t87 t88 t89 t90 t91 t92 t93 t94 t95 t96 t97 t98 t99 t100 t101 t102 t103 t104 t105 t106 t107 t108 t109 t110 t111 t112 t113 t114 t115 t116 t117 t118 v46 v47 v48 v49 v50 v51 v6 v7 : Value} {d : List Deferred} : putAll ⟨#[t0, t1, t2, t3, t4, t5, t6, t7, t8, t9, t10, t11, t12, t13, t14, t15, t16, t17, t18, t19, t20, t21, t22, t23, t24, t25, t26, t27, t28, t29, t30, t31, t32, t33, t34, t35, t36, t37, t38, t39, t40, t41, t42, t43, t44, t45, t46, t47, t48, t49, t50, t51, t52, t53, t54, t55, t56, t57, t58, t59, t60, t61, t62, t63, t64, t65, t66, t67, t68, t69, t70, t71, t72, t73, t74, t75, t76, t77, t78, t79, t80, t81, t82, t83, t84, t85, t86, t87, t88, t89, t90, t91, t92, t93, t94, t95, t96, t97, t98, t99, t100, t101, t102, t103, t104, t105, t106, t107, t108, t109, t110, t111, t112, t113, t114, t115, t116, t117, t118], d⟩ [(46, v46), (47, v47), (48, v48), (49, v49), (50, v50), (51, v51), (6, v6), (7, v7)] = ⟨#[t0, t1, t2, t3, t4, t5, v6, v7, t8, t9, t10, t11, t12, t13, t14, t15, t16, t17, t18, t19, t20, t21, t22, t23, t24, t25, t26, t27, t28, t29, t30, t31, t32, t33, t34, t35, t36, t37, t38, t39, t40, t41, t42, t43, t44, t45, v46, v47, v48, v49, v50, v51, t52, t53, t54, t55, t56, t57, t58, t59, t60, t61, t62, t63, t64, t65, t66, t67, t68, t69, t70, t71, t72, t73, t74, t75, t76, t77, t78, t79, t80, t81, t82, t83, t84, t85, t86, t87, t88, t89, t90, t91, t92, t93, t94, t95, t96, t97, t98, t99, t100, t101, t102, t103, t104, t105, t106, t107, t108, t109, t110, t111, t112, t113, t114, t115, t116, t117, t118], d⟩ := by
  kernel_rfl
end Go.Proofs.Ytdbbpmadkhedlaa
/- The document's Share, walked. -/
namespace Go.Proofs.Ytdbbpmadkhedlaa
open Go.RowKit
set_option linter.unusedVariables false
set_option linter.unusedSimpArgs false

set_option maxHeartbeats 1000000 in
theorem rfloor_any (a b : Int) (w : World) (hb : 0 < b) (h1 : -4611686018427387904 ≤ a) (h2 : a ≤ 4611686018427387904) (h3 : b ≤ 4611686018427387904) :
    Calls Try.prog 22 #[.int .i64 a, .int .i64 b] w fun e w' => e = .returned (.int .i64 (a / b)) ∧ w' = w := by
  obtain ⟨d1, d2⟩ := div_down (a := a) hb
  obtain ⟨b1, b2, b3, b4⟩ := tdiv_size (a := a) hb
  obtain ⟨q, hq⟩ : ∃ q, a.tdiv b = q := ⟨_, rfl⟩
  obtain ⟨m, hm⟩ : ∃ m, a.tmod b = m := ⟨_, rfl⟩
  rw [hq, hm] at d1 d2
  rw [hq] at b1 b2
  rw [hm] at b3 b4
  have q1 : -4611686018427387904 ≤ q := by omega
  have q2 : q ≤ 4611686018427387904 := by omega
  have hz : ¬ b = 0 := by omega
  have hz' : (b == 0) = false := by simp; omega
  by_cases hm0 : m < 0
  · obtain ⟨e1, e2⟩ := d1 hm0
    rw [e1]
    clear d1 d2 e1 e2 b1 b2
    go_enter Try.func22, Try.ntmps22
    go_wp2_with fail
    go_ret
    exact ⟨rfl, rfl⟩
  · obtain ⟨e1, e2⟩ := d2 hm0
    rw [e1]
    clear d1 d2 e1 e2 b1 b2
    go_enter Try.func22, Try.ntmps22
    go_wp2_with fail
    go_ret
    exact ⟨rfl, rfl⟩
theorem anyT_hit {l : List Int} {i : Nat} (h : tooB (l.getD i 0) = true) : ∀ k, i < k → anyT l k = true
  | 0, hk => by omega
  | k + 1, hk => by
    show (anyT l k || tooB (l.getD k 0)) = true
    by_cases e : i = k
    · subst e; rw [h, Bool.or_true]
    · rw [anyT_hit h k (by omega)]; rfl
theorem tooB_of {z : Int} (h1 : ¬ 1099511627776 < z) (h2 : ¬ z < -1099511627776) : tooB z = false := by unfold tooB; rw [decide_eq_false h1, decide_eq_false h2]; rfl
theorem tooB_hi {z : Int} (h1 : 1099511627776 < z) : tooB z = true := by unfold tooB; rw [decide_eq_true h1, Bool.or_true]
theorem tooB_lo {z : Int} (h1 : z < -1099511627776) : tooB z = true := by unfold tooB; rw [decide_eq_true h1]; rfl
set_option maxHeartbeats 2000000 in
set_option maxRecDepth 100000 in
theorem rshare_bad (v : Value) (zs : List Int) (w : World) (hv : ISl w v zs) (hn : zs.length ≤ 35184372088832) (hs : ¬ shOk zs) :
    Calls Try.prog 24 #[v] w fun e w' => e = .returned (.tuple #[.slice none 0 0, .int .i64 91]) ∧ w' = w := by
  have hv' := hv
  obtain ⟨ad, c, rfl⟩ := hv.form
  by_cases h0 : zs.length = 0
  · rw [h0]
    go_enter Try.func24, Try.ntmps24
    go_wp2_with fail
    go_ret2
    exact ⟨rfl, rfl⟩
  · have h0' : ((zs.length : Int) == 0) = false := by simp; intro e; rw [e] at h0; exact h0 rfl
    have h0'' : ¬ (zs.length : Int) = 0 := by omega
    by_cases h1 : 64 < zs.length
    · have h1' : (64 : Int) < (zs.length : Int) := by omega
      have HV : Hid _ := hv
      clear hs hv hv'
      generalize zs.length = N at *
      go_enter Try.func24, Try.ntmps24
      go_wp2_with fail
      go_ret2
      exact ⟨rfl, rfl⟩
    · have h1' : ¬ (64 : Int) < (zs.length : Int) := by omega
      obtain ⟨N, eN⟩ : ∃ N, zs.length = N := ⟨_, rfl⟩
      have HV : Hid (ISl w (.slice ad N c) zs ∧ zs.length = N) := ⟨by rw [← eN]; exact hv, eN⟩
      have HS : Hid (anyT zs N = false → ¬ 0 < sumI zs N) := fun h h' => hs ⟨by omega, by omega, by rw [eN]; exact h, by rw [← sumI_zf, eN]; exact h'⟩
      have HM : Hid (∀ k, k ≤ N → anyT zs k = false → -((k : Int) * 1099511627776) ≤ sumI zs k ∧ sumI zs k ≤ (k : Int) * 1099511627776) := fun k hk ha => by
        clear hs HS
        induction k with
        | zero => simp [sumI]
        | succ k ih =>
          have ha' : (anyT zs k || tooB (zs.getD k 0)) = false := ha
          rw [Bool.or_eq_false_iff] at ha'
          have h2 := ih (by omega) ha'.1
          have h3 := anyT_bounds ha k (by omega)
          show _ ≤ sumI zs k + zs.getD k 0 ∧ sumI zs k + zs.getD k 0 ≤ _
          rw [show (((k + 1 : Nat) : Int)) * 1099511627776 = (k : Int) * 1099511627776 + 1099511627776 by rw [Int.natCast_add, Int.add_mul]; simp]
          omega
      rw [eN] at h0' h0'' h1' h1 hn ⊢
      clear hs hv hv' h0 eN
      go_enter Try.func24, Try.ntmps24
      go_wp2_with fail
      go_loopg [4, 5] N (fun gh s4 s5 wr => ∃ (i : Nat) (S : Int), s4 = .int .i64 S ∧ s5 = .int .i64 (i : Int) ∧ i ≤ N ∧ gh = N - i ∧ Hid (S = sumI zs i ∧ anyT zs i = false) ∧ wr = w)
      case atStart => exact ⟨0, 0, rfl, rfl, Nat.zero_le _, rfl, ⟨rfl, rfl⟩, rfl⟩
      case round =>
        obtain ⟨i, S, rfl, rfl, hi, rfl, HI, rfl⟩ := hrel
        by_cases hlt : i < N
        · have hltz : (i : Int) < (N : Int) := by omega
          obtain ⟨g1, o1, d1, hs1, hI1⟩ := HV.out.1.some (by have := HV.out.2; omega)
          rw [HV.out.2] at hs1 hI1
          injection hs1 with e1 e2 e3
          subst e1 e3
          have c1 := hI1 i hlt
          obtain ⟨z, hz⟩ : ∃ z, z = zs.getD i 0 := ⟨_, rfl⟩
          rw [← hz] at c1
          have HZ : Hid (z = zs.getD i 0) := hz
          clear hz hI1 e2
          by_cases t1 : 1099511627776 < z
          · go_wp2_with fail
            go_ret2
            exact ⟨rfl, rfl⟩
          · by_cases t2 : z < -1099511627776
            · go_wp2_with fail
              go_ret2
              exact ⟨rfl, rfl⟩
            · have HI2 : Hid (S + z = sumI zs (i + 1) ∧ anyT zs (i + 1) = false) := by
                refine ⟨?_, ?_⟩
                · show S + z = sumI zs i + zs.getD i 0
                  rw [HI.out.1, HZ.out]
                · show (anyT zs i || tooB (zs.getD i 0)) = false
                  rw [HI.out.2, ← HZ.out, tooB_of t1 t2]; rfl
              have b1 := HM.out i (by omega) HI.out.2
              have b2 := HM.out (i + 1) (by omega) HI2.out.2
              rw [← HI.out.1] at b1
              rw [← HI2.out.1] at b2
              have b3 : -4611686018427387904 ≤ S := by omega
              have b4 : S ≤ 4611686018427387904 := by omega
              have b5 : -9223372036854775808 ≤ S + z := by omega
              have b6 : S + z ≤ 9223372036854775807 := by omega
              clear b1 b2
              go_wp2_with fail
              go_roundg (N - (i + 1))
              case measure => go_light; omega
              case rel => go_light; exact ⟨i + 1, S + z, rfl, by simp, by omega, rfl, HI2, rfl⟩
        · have hge : ¬ (i : Int) < (N : Int) := by omega
          obtain rfl : i = N := by omega
          have hS : S ≤ 0 := by have := HS.out HI.out.2; rw [← HI.out.1] at this; omega
          go_wp2_with fail
          go_ret2
          exact ⟨rfl, rfl⟩
/-- What Share holds while it divides, and while it gives what is missing. -/
structure Ds (w wr : World) (f h : Nat → Int) (n g gr : Nat) : Prop where
  q : Q w wr
  l : IRow wr g (tabI n f)
  r : IRow wr gr (tabI n h)
  l1 : w.heap.size ≤ g
  l2 : w.heap.size ≤ gr
  ne : g ≠ gr
theorem Ds.next {w wr x : World} {f h : Nat → Int} {n g gr : Nat} (D : Ds w wr f h n g gr) (q : Q wr x) : Ds w x f h n g gr := ⟨D.q.trans q, D.l.next q, D.r.next q, D.l1, D.l2, D.ne⟩
theorem Ds.setl {w wr : World} {f h f' : Nat → Int} {n g gr : Nat} (D : Ds w wr f h n g gr) {i : Nat} (hi : i < n) {u : Int} (hu : u = f' i) (hs : ∀ j, j ≠ i → f' j = f j) : Ds w (wr.setCell ⟨g, i, none⟩ (.int .i64 u)) f' h n g gr := by
  refine ⟨D.q.set D.l1 _, ?_, D.r.other (p := ⟨g, i, none⟩) D.ne _, D.l1, D.l2, D.ne⟩
  have := D.l.set (i := i) (by rw [tabI_len]; exact hi) u
  rw [tabI_set (g := f') hu hs] at this
  exact this
theorem Ds.setr {w wr : World} {f h h' : Nat → Int} {n g gr : Nat} (D : Ds w wr f h n g gr) {i : Nat} (hi : i < n) {u : Int} (hu : u = h' i) (hs : ∀ j, j ≠ i → h' j = h j) : Ds w (wr.setCell ⟨gr, i, none⟩ (.int .i64 u)) f h' n g gr := by
  refine ⟨D.q.set D.l2 _, D.l.other (p := ⟨gr, i, none⟩) (fun e => D.ne e.symm) _, ?_, D.l1, D.l2, D.ne⟩
  have := D.r.set (i := i) (by rw [tabI_len]; exact hi) u
  rw [tabI_set (g := h') hu hs] at this
  exact this
def partF (f : Nat → Int) (i j : Nat) : Int := if j < i then f j else 0
theorem partF_new (f : Nat → Int) (i : Nat) : f i = partF f (i + 1) i := by unfold partF; rw [if_pos (by omega)]
theorem partF_old (f : Nat → Int) (i : Nat) : ∀ j, j ≠ i → partF f (i + 1) j = partF f i j := fun j hj => by
  unfold partF
  by_cases c : j < i
  · rw [if_pos c, if_pos (by omega)]
  · rw [if_neg c, if_neg (by omega)]
theorem sumF_flo_bd {z : Nat → Int} {S : Int} (hS : 0 < S) (hM : ∀ i, -1099511627776 ≤ z i ∧ z i ≤ 1099511627776) (n : Nat) : -((n : Int) * 72057594037927936) ≤ sumF (flo z S) n ∧ sumF (flo z S) n ≤ (n : Int) * 72057594037927936 := by
  refine ⟨?_, ?_⟩
  · have := sumF_mono (f := fun _ => -72057594037927936) (g := flo z S) n (fun i _ => (flo_size (i := i) hS (hM i)).1)
    rw [sumF_const] at this
    omega
  · have := sumF_mono (f := flo z S) (g := fun _ => 72057594037927936) n (fun i _ => (flo_size (i := i) hS (hM i)).2)
    rw [sumF_const] at this
    omega
end Go.Proofs.Ytdbbpmadkhedlaa

/- Weights over a wider window, and times a number: the same taps. Plain. -/
import Derived.Test.YtnlphjekillciaaGb930bb3d
import Derived.Test.YtnlphjekillciaaG316bc752
import Derived.Test.YtnlphjekillciaaG88a49dae
namespace Go.Proofs.Ytnlphjekillciaa
open Go.Sort
set_option linter.unusedVariables false
set_option linter.unusedSimpArgs false

theorem wrun_nil {f pl : Int → Int} {a : Int} : ∀ p : Nat, (∀ j : Nat, j < p → f (a + j) = 0) → wrun f pl a p = []
  | 0, _ => rfl
  | p + 1, h => by show wput _ _ _ = _; rw [wrun_nil p (fun j hj => h j (by omega)), h p (by omega), wput_zero]
theorem wrun_lead {f pl : Int → Int} {a : Int} {p : Nat} (h : ∀ j : Nat, j < p → f (a + j) = 0) : ∀ q : Nat, wrun f pl a (p + q) = wrun f pl (a + p) q
  | 0 => by rw [Nat.add_zero, wrun_nil p h]; rfl
  | q + 1 => by
    show wput (wrun f pl a (p + q)) (pl (a + ((p + q : Nat) : Int))) (f (a + ((p + q : Nat) : Int))) = wput _ _ _
    rw [wrun_lead h q, show a + ((p + q : Nat) : Int) = a + (p : Int) + (q : Int) by omega]
theorem wrun_trail {f pl : Int → Int} {a : Int} {n : Nat} : ∀ q : Nat, (∀ j : Nat, j < q → f (a + n + j) = 0) → wrun f pl a (n + q) = wrun f pl a n
  | 0, _ => rfl
  | q + 1, h => by
    show wput (wrun f pl a (n + q)) (pl (a + ((n + q : Nat) : Int))) (f (a + ((n + q : Nat) : Int))) = _
    rw [wrun_trail q (fun j hj => h j (by omega)), show a + ((n + q : Nat) : Int) = a + (n : Int) + (q : Int) by omega, h q (by omega), wput_zero]
/-- Weights times a number. -/
def tms (l : Int) (L : List (Int × Int)) : List (Int × Int) := L.map fun e => (e.1, l * e.2)
theorem tms_len (l : Int) (L : List (Int × Int)) : (tms l L).length = L.length := by simp [tms]
theorem wput_tms {l : Int} (hl : l ≠ 0) (L : List (Int × Int)) (p n : Int) : wput (tms l L) p (l * n) = tms l (wput L p n) := by
  by_cases hn : n = 0
  · subst hn; rw [Int.mul_zero, wput_zero, wput_zero]
  · have hln : l * n ≠ 0 := Int.mul_ne_zero hl hn
    have hgl : (tms l L).getLast? = L.getLast?.map fun e => (e.1, l * e.2) := by unfold tms; rw [List.getLast?_map]
    cases hg : L.getLast? with
    | none =>
      rw [wput_new hln (fun e he => by rw [hgl, hg] at he; cases he), wput_new hn (fun e he => by rw [hg] at he; cases he)]
      unfold tms; simp
    | some z =>
      by_cases hz : z.1 = p
      · rw [wput_more hln (e := (z.1, l * z.2)) (by rw [hgl, hg]; rfl) hz, wput_more hn hg hz]
        unfold tms
        rw [List.map_append, List.map_dropLast, List.map_singleton]
        simp only [Int.mul_add]
      · rw [wput_new hln (fun e he => by rw [hgl, hg] at he; injection he with he; rw [← he]; exact hz), wput_new hn (fun e he => by rw [hg] at he; injection he with he; rw [← he]; exact hz)]
        unfold tms; simp
theorem wrun_tms {l : Int} (hl : l ≠ 0) {f g pl : Int → Int} (hg : ∀ k, g k = l * f k) (a : Int) : ∀ n : Nat, wrun g pl a n = tms l (wrun f pl a n)
  | 0 => rfl
  | n + 1 => by show wput (wrun g pl a n) _ _ = tms l (wput _ _ _); rw [wrun_tms hl hg a n, hg, wput_tms hl]
/-- Shares of weights times a number. -/
theorem flo_tms {z y : Nat → Int} {l S : Int} (hl : 0 < l) (hy : ∀ i, y i = l * z i) (i : Nat) : flo y (l * S) i = flo z S i := by
  unfold flo
  rw [hy, show (65536 : Int) * (l * z i) = l * (65536 * z i) by rw [← Int.mul_assoc, Int.mul_comm 65536 l, Int.mul_assoc], Int.mul_ediv_mul_of_pos _ _ hl]
theorem rsV_tms {z y : Nat → Int} {l S : Int} (hl : 0 < l) (hy : ∀ i, y i = l * z i) (i : Int) : rsV y (l * S) i = l * rsV z S i := by
  unfold rsV
  rw [hy, show (65536 : Int) * (l * z i.toNat) = l * (65536 * z i.toNat) by rw [← Int.mul_assoc, Int.mul_comm 65536 l, Int.mul_assoc], Int.mul_emod_mul_of_pos _ _ hl]
theorem tlt_tms {r q : Int → Int} {l : Int} (hl : 0 < l) (hq : ∀ i, q i = l * r i) (x y : Int) : tlt r x y → tlt q x y := by
  unfold tlt
  rw [hq, hq]
  rintro (h | ⟨h1, h2⟩)
  · exact Or.inl (Int.mul_lt_mul_of_pos_left h hl)
  · exact Or.inr ⟨by rw [h1], h2⟩
theorem ordL_tms {r q : Int → Int} {l : Int} (hl : 0 < l) (hq : ∀ i, q i = l * r i) (n : Nat) : ordL q n = ordL r n := by
  refine ordL_eq (ordL_perm r n) ?_
  refine List.pairwise_iff_getElem.2 fun i j hi hj hij => ?_
  exact tlt_tms hl hq _ _ (ordL_lt (List.getElem?_eq_getElem hi) (List.getElem?_eq_getElem hj) hij)
theorem shrV_tms {z y : Nat → Int} {l : Int} (hl : 0 < l) (hy : ∀ i, y i = l * z i) (n i : Nat) : shrV y n i = shrV z n i := by
  have hs : sumF y n = l * sumF z n := by rw [← sumF_mul]; exact sumF_congr n (fun i _ => hy i)
  unfold shrV missV shrK
  rw [hs, flo_tms hl hy, ordL_tms hl (rsV_tms hl hy), sumF_congr n (fun i _ => flo_tms (S := sumF z n) hl hy i)]
theorem zf_tms (l : Int) (L : List (Int × Int)) (i : Nat) : zf ((tms l L).map Prod.snd) i = l * zf (L.map Prod.snd) i := by
  unfold zf tms
  rw [List.getD_eq_getElem?_getD, List.getD_eq_getElem?_getD, List.map_map, List.getElem?_map, List.getElem?_map]
  cases L[i]? with
  | none => simp
  | some e => rfl
theorem tpK_congr {L M : List (Int × Int)} {sh sg : Nat → Int} (h1 : ∀ k, (L.getD k (0, 0)).1 = (M.getD k (0, 0)).1) (h2 : ∀ k, sh k = sg k) : ∀ j, tpK L sh j = tpK M sg j
  | 0 => rfl
  | j + 1 => by
    unfold tpK
    rw [tpK_congr h1 h2 j, h1, h2]
theorem tapsL_tms {l : Int} (hl : 0 < l) (L : List (Int × Int)) : tapsL (tms l L) = tapsL L := by
  unfold tapsL
  rw [tms_len]
  refine tpK_congr (fun k => ?_) (fun k => shrV_tms hl (zf_tms l L) _ _) _
  unfold tms
  rw [List.getD_eq_getElem?_getD, List.getD_eq_getElem?_getD, List.getElem?_map]
  cases L[k]? with
  | none => rfl
  | some e => rfl
theorem sndSum_tms (l : Int) (L : List (Int × Int)) : sndSum (tms l L) = l * sndSum L := by
  unfold sndSum tms
  induction L with
  | nil => simp
  | cons e L ih => simp only [List.map_cons, List.sum_cons]; rw [ih, Int.mul_add]
/-- The document's weights: those of the kernel, times mulR. -/
def mulR (kind m : Int) : Int := if kind = 1 then 2 * (2 * m) * (2 * m) * (2 * m) else if kind = 2 then 2 * (2 * m) * (2 * m) else 1
def wgtR (kind a b : Int) : Int := if kind = 1 then (if -b ≤ 2 * a ∧ 2 * a < b then 2 * b * b * b else 0) else if kind = 2 then (if absI a < b then 2 * b * b * (b - absI a) else 0) else cubV (absI a) b
theorem mulR_pos {kind m : Int} (hm : 0 < m) : 0 < mulR kind m := by
  unfold mulR
  have h2 : 0 < 2 * m := by omega
  split
  · exact Int.mul_pos (Int.mul_pos (by omega) h2) h2
  · split
    · exact Int.mul_pos (by omega) h2
    · decide
theorem wgtR_eq {kind m a : Int} (hk : kind = 1 ∨ kind = 2 ∨ kind = 3) : wgtR kind a (2 * m) = mulR kind m * wgt kind m a := by
  unfold wgtR mulR wgt
  rcases hk with rfl | rfl | rfl
  · simp only [if_true]
    by_cases c : -(2 * m) ≤ 2 * a ∧ 2 * a < 2 * m
    · rw [if_pos c, if_pos (by omega), Int.mul_one]
    · rw [if_neg c, if_neg (by omega), Int.mul_zero]
  · simp only [show ¬ (2 : Int) = 1 by decide, if_false, if_true]
    have ha : 0 ≤ absI a := by unfold absI; omega
    by_cases c : absI a < 2 * m
    · rw [if_pos c]
      congr 1
      omega
    · rw [if_neg c, show max (2 * m - absI a) 0 = 0 by omega, Int.mul_zero]
  · simp only [show ¬ (3 : Int) = 1 by decide, show ¬ (3 : Int) = 2 by decide, if_false, Int.one_mul]
/-- Outside its reach a kernel weighs nothing. -/
theorem wgt_out {kind m d : Int} (hk : kind = 1 ∨ kind = 2 ∨ kind = 3) (hm : 0 < m) (h : rea kind m < absI d) : wgt kind m d = 0 := by
  unfold wgt rea at *
  unfold absI cubV at *
  rcases hk with rfl | rfl | rfl
  · simp only [if_true] at h ⊢
    rw [if_neg (by omega)]
  · simp only [show ¬ (2 : Int) = 1 by decide, if_false, if_true] at h ⊢
    omega
  · simp only [show ¬ (3 : Int) = 1 by decide, show ¬ (3 : Int) = 2 by decide, if_false] at h ⊢
    rw [if_neg (by omega), if_neg (by omega)]
/-- The document's window. -/
def midR (F T i : Nat) : Int := midV F T i / (2 * (T : Int))
def reaR (F T : Nat) : Int := 2 * ((max F T : Nat) : Int) / (T : Int) + 2
def nR (F T : Nat) : Nat := (2 * reaR F T + 2).toNat
theorem reaR_bd {F T i : Nat} (h : Sz F T i) : 4 ≤ reaR F T ∧ reaR F T ≤ 32 ∧ 2 * ((max F T : Nat) : Int) < (reaR F T - 1) * (T : Int) := by
  obtain ⟨f1, f2, t1, t2, hi, ft⟩ := h
  have hT : 0 < (T : Int) := by omega
  have a1 := Int.mul_ediv_add_emod (2 * ((max F T : Nat) : Int)) (T : Int)
  have a2 := Int.emod_nonneg (2 * ((max F T : Nat) : Int)) (by omega : (T : Int) ≠ 0)
  have a3 := Int.emod_lt_of_pos (2 * ((max F T : Nat) : Int)) hT
  unfold reaR
  generalize 2 * ((max F T : Nat) : Int) % (T : Int) = r at *
  have hm1 : ((max F T : Nat) : Int) ≤ 15 * (T : Int) := by omega
  have hm2 : (T : Int) ≤ ((max F T : Nat) : Int) := by omega
  generalize ((max F T : Nat) : Int) = m at *
  generalize 2 * m / (T : Int) = q at *
  have h1 : 2 ≤ q := by
    rcases Int.lt_or_le q 2 with c | c
    · have : (T : Int) * q ≤ (T : Int) * 1 := Int.mul_le_mul_of_nonneg_left (by omega) (by omega)
      omega
    · exact c
  have h2 : q ≤ 30 := by
    rcases Int.lt_or_le 30 q with c | c
    · have : (T : Int) * 31 ≤ (T : Int) * q := Int.mul_le_mul_of_nonneg_left (by omega) (by omega)
      omega
    · exact c
  refine ⟨by omega, by omega, ?_⟩
  rw [show q + 2 - 1 = q + 1 by omega, Int.add_mul, Int.mul_comm q]
  omega
theorem win_in {kind : Int} {F T i : Nat} (h : Sz F T i) : midR F T i - reaR F T ≤ fstV kind F T i ∧ lstV kind F T i ≤ midR F T i + 1 + reaR F T := by
  obtain ⟨w1, w2, w3, w4⟩ := win_eq (kind := kind) h
  obtain ⟨b1, b2, b3⟩ := reaR_bd h
  have hr := rea_size (kind := kind) (m := (max F T : Nat)) (by have := h.f1; omega)
  have hT : 0 < 2 * (T : Int) := by have := h.t1; omega
  have a1 := Int.mul_ediv_add_emod (midV F T i) (2 * (T : Int))
  have a2 := Int.emod_nonneg (midV F T i) (by omega : 2 * (T : Int) ≠ 0)
  have a3 := Int.emod_lt_of_pos (midV F T i) hT
  change 2 * (T : Int) * midR F T i + _ = _ at a1
  generalize midV F T i % (2 * (T : Int)) = e at *
  generalize midV F T i = M at *
  generalize midR F T i = mid at *
  generalize rea kind (max F T : Nat) = R at *
  generalize fstV kind F T i = f at *
  generalize lstV kind F T i = l at *
  generalize reaR F T = r at *
  generalize ((max F T : Nat) : Int) = m at *
  generalize (T : Int) = t at *
  refine ⟨?_, ?_⟩
  · rcases Int.lt_or_le f (mid - r) with c | c
    · have : 2 * t * (f + 1) ≤ 2 * t * (mid - r) := Int.mul_le_mul_of_nonneg_left (by omega) (by omega)
      rw [Int.mul_add, Int.mul_sub, Int.mul_assoc 2 t r, Int.mul_comm t r] at this
      rw [Int.sub_mul] at b3
      omega
    · exact c
  · rcases Int.lt_or_le (mid + 1 + r) l with c | c
    · have : 2 * t * (mid + 2 + r) ≤ 2 * t * l := Int.mul_le_mul_of_nonneg_left (by omega) (by omega)
      rw [Int.mul_add, Int.mul_add, Int.mul_assoc 2 t r, Int.mul_comm t r] at this
      rw [Int.sub_mul] at b3
      omega
    · exact c
/-- The document's list of weights. -/
def wfR (kind : Int) (F T i : Nat) (k : Int) : Int := wgtR kind (2 * (T : Int) * k - midV F T i) (2 * (max F T : Nat))
theorem wls_doc {kind : Int} {F T i : Nat} (hk : kind = 1 ∨ kind = 2 ∨ kind = 3) (h : Sz F T i) :
    wrun (wfR kind F T i) (plV F) (midR F T i - reaR F T) (nR F T) = tms (mulR kind (max F T : Nat)) (wlsV kind F T i) := by
  have hm : 0 < ((max F T : Nat) : Int) := by have := h.f1; omega
  obtain ⟨i1, i2⟩ := win_in (kind := kind) h
  obtain ⟨b1, b2, b3⟩ := reaR_bd h
  obtain ⟨w1, w2, w3, w4⟩ := win_eq (kind := kind) h
  obtain ⟨g1, g2, _⟩ := win_facts (kind := kind) h
  have hT : 0 < 2 * (T : Int) := by have := h.t1; omega
  rw [wrun_tms (f := wfV kind F T i) (g := wfR kind F T i) (Int.ne_of_gt (mulR_pos hm)) (fun k => wgtR_eq hk)]
  congr 1
  have hout : ∀ k, k < fstV kind F T i ∨ lstV kind F T i < k → wfV kind F T i k = 0 := fun k hkk => by
    refine wgt_out hk hm ?_
    unfold absI
    rcases hkk with c | c
    · have : 2 * (T : Int) * (k + 1) ≤ 2 * (T : Int) * fstV kind F T i := Int.mul_le_mul_of_nonneg_left (by omega) (by omega)
      rw [Int.mul_add] at this
      generalize 2 * (T : Int) * k = x at *
      generalize 2 * (T : Int) * fstV kind F T i = y at *
      omega
    · have : 2 * (T : Int) * (lstV kind F T i + 1) ≤ 2 * (T : Int) * k := Int.mul_le_mul_of_nonneg_left (by omega) (by omega)
      rw [Int.mul_add] at this
      generalize 2 * (T : Int) * k = x at *
      generalize 2 * (T : Int) * lstV kind F T i = y at *
      omega
  obtain ⟨p, hp⟩ : ∃ p : Nat, (p : Int) = fstV kind F T i - (midR F T i - reaR F T) := ⟨(fstV kind F T i - (midR F T i - reaR F T)).toNat, by omega⟩
  obtain ⟨q, hq⟩ : ∃ q : Nat, (q : Int) = midR F T i + 1 + reaR F T - lstV kind F T i := ⟨(midR F T i + 1 + reaR F T - lstV kind F T i).toNat, by omega⟩
  have hn : nR F T = p + (winV kind F T i + q) := by unfold nR winV; omega
  rw [hn, wrun_lead (fun j hj => hout _ (Or.inl (by omega))), show midR F T i - reaR F T + (p : Int) = fstV kind F T i by omega, wrun_trail q (fun j hj => hout _ (Or.inr (by unfold winV; omega)))]
  rfl
theorem mid_win {F T i : Nat} (h : Sz F T i) (k : Int) (h1 : midR F T i - reaR F T ≤ k) (h2 : k ≤ midR F T i + 1 + reaR F T) : -8192 * 10 ≤ 2 * (T : Int) * k - midV F T i ∧ 2 * (T : Int) * k - midV F T i ≤ 8192 * 10 := by
  obtain ⟨b1, b2, b3⟩ := reaR_bd h
  have hT : 0 < 2 * (T : Int) := by have := h.t1; omega
  have hT2 := h.t2
  have a1 := Int.mul_ediv_add_emod (midV F T i) (2 * (T : Int))
  have a2 := Int.emod_nonneg (midV F T i) (by omega : 2 * (T : Int) ≠ 0)
  have a3 := Int.emod_lt_of_pos (midV F T i) hT
  change 2 * (T : Int) * midR F T i + _ = _ at a1
  have c1 : 2 * (T : Int) * (midR F T i - 32) ≤ 2 * (T : Int) * k := Int.mul_le_mul_of_nonneg_left (by omega) (by omega)
  have c2 : 2 * (T : Int) * k ≤ 2 * (T : Int) * (midR F T i + 33) := Int.mul_le_mul_of_nonneg_left (by omega) (by omega)
  rw [Int.mul_sub] at c1
  rw [Int.mul_add] at c2
  omega
end Go.Proofs.Ytnlphjekillciaa
/- A region that draws its order: operations that come up in whatever order, each with a fact that lasts (it may speak of what those told that it waits for); blocks that are made lie apart. -/
namespace Go.Proofs.Ytnlphjekillciaa
open Go.RowKit
set_option linter.unusedVariables false
set_option linter.unusedSimpArgs false

/-- The block that a slice or a pointer is at. -/
def blkV : Value → Nat
  | .slice (some a) _ _ => a.block
  | .pointer (some a) => a.block
  | _ => 0
/-- What is told of a value, where others (deps) may be named. -/
structure Sp2 where
  p : Value → (Nat → Value) → World → Prop
  deps : List Nat
  st : ∀ {v : Value} {val val' : Nat → Value} {x x' : World}, p v val x → Q x x' → (∀ j ∈ deps, val' j = val j) → p v val' x'
def sV (u : Value) : Sp2 := ⟨fun v _ _ => v = u, [], fun h _ _ => h⟩
def sE (j : Nat) : Sp2 := ⟨fun v val _ => v = val j, [j], fun h _ e => h.trans (e j (by simp)).symm⟩
def sP (p : Value → World → Prop) (st : ∀ v x x', p v x → Q x x' → p v x') : Sp2 := ⟨fun v _ x => p v x, [], fun h q _ => st _ _ _ h q⟩
/-- Each operation fills a slot, is not guarded, and what is told of it names what it waits for. -/
def newB (l : List Oper) (D : List (List Nat)) (s : List Nat) : Bool := (D.length == l.length) && ((s.length == l.length) && (List.range l.length).all fun k => match l[k]? with
  | some o => o.guard.isNone && ((o.dst == s[k]?) && (D.getD k []).all fun j => decide (j < k) && o.after.toList.any fun e => Region.binds .any e && (e.on == j))
  | none => true)
structure InvN (l : List Oper) (L : List Sp2) (A : List Nat) (w : World) (done : Nat → Bool) (val : Nat → Value) (x : World) : Prop where
  q : Q w x
  f : ∀ i s, L[i]? = some s → done i = true → s.p (val i) val x
  lt : ∀ i, i ∈ A → done i = true → blkV (val i) < x.heap.size
  ap : ∀ i j, i ∈ A → j ∈ A → i ≠ j → done i = true → done j = true → blkV (val i) ≠ blkV (val j)
  cl : ∀ i o, l[i]? = some o → done i = true → ∀ e ∈ o.after, Region.binds .any e = true → done e.on = true
set_option maxHeartbeats 1000000 in
theorem wp_region_new {P : Program} {id : Nat} {R : Exit → Act → World → Prop} {a0 : Act} {w : World} {l : List Oper} (s : List Nat) (L : List Sp2) (D : List (List Nat)) (A : List Nat)
    (hm : P.follows .mixedOrders = true) (hB : regS l = true) (hN : newB l D s = true) (hD : L.map (·.deps) = D) (hmax : ∀ t ∈ s, t < a0.tmps.size)
    (hop : ∀ i t o sp (a : Act) x (val : Nat → Value), s[i]? = some t → l[i]? = some o → L[i]? = some sp → Q w x → (∀ j, j ∉ s → a.tmps[j]? = a0.tmps[j]?) → (∀ e ∈ o.after, Region.binds .any e = true → ∀ s' t', L[e.on]? = some s' → s[e.on]? = some t' → a.tmps[t']? = some (val e.on) ∧ s'.p (val e.on) val x) →
      Yld P R o a x t (fun v x' => sp.p v val x' ∧ (i ∈ A → x.heap.size ≤ blkV v ∧ blkV v < x'.heap.size)))
    (hend : ∀ (a : Act) x (val : Nat → Value), Q w x → a.tmps.size = a0.tmps.size → a.defers = a0.defers → (∀ j, j ∉ s → a.tmps[j]? = a0.tmps[j]?) → (∀ i t sp, s[i]? = some t → L[i]? = some sp → a.tmps[t]? = some (val i) ∧ sp.p (val i) val x) → (∀ i j, i ∈ A → j ∈ A → i < l.length → j < l.length → i ≠ j → blkV (val i) ≠ blkV (val j)) → Shut (R .normal a x)) :
    (Code.region id l.toArray true).wp P R a0 w := by
  unfold newB at hN
  simp only [Bool.and_eq_true, beq_iff_eq] at hN
  obtain ⟨hDl, hsl, hall⟩ := hN
  have hLl : L.length = l.length := by rw [← hDl, ← hD]; simp
  have at_ : ∀ k o, l[k]? = some o → o.guard = none ∧ o.dst = s[k]? ∧ ∀ j ∈ D.getD k [], j < k ∧ ∃ e ∈ o.after, Region.binds .any e = true ∧ e.on = j := fun k o hk => by
    have g := List.all_eq_true.1 hall k (List.mem_range.2 (List.getElem?_eq_some_iff.1 hk).1)
    rw [hk] at g
    simp only [Bool.and_eq_true, beq_iff_eq] at g
    refine ⟨by simpa using g.1, g.2.1, fun j hj => ?_⟩
    have h := List.all_eq_true.1 g.2.2 j hj
    rw [Bool.and_eq_true] at h
    obtain ⟨e, he, hb⟩ := List.any_eq_true.1 h.2
    rw [Bool.and_eq_true] at hb
    exact ⟨by simpa using h.1, e, by simpa using he, hb.1, by simpa using hb.2⟩
  have dst_s : ∀ k t, dstOf l k = some t ↔ s[k]? = some t := fun k t => by
    cases hk : l[k]? with
    | none =>
      have : l.length ≤ k := by
        rcases Nat.lt_or_ge k l.length with c | c
        · rw [List.getElem?_eq_getElem c] at hk; cases hk
        · exact c
      rw [List.getElem?_eq_none (by omega)]
      unfold dstOf
      rw [hk]
      exact Iff.rfl
    | some o => rw [dstOf_at hk, (at_ k o hk).2.1]
  have mem_s : ∀ j, (∀ k, dstOf l k ≠ some j) ↔ j ∉ s := fun j => by
    constructor
    · intro h hm
      obtain ⟨k, hk⟩ := List.getElem?_of_mem hm
      exact h k ((dst_s k j).2 hk)
    · intro h k e
      exact h (List.mem_of_getElem? ((dst_s k j).1 e))
  have depsD : ∀ k sp, L[k]? = some sp → sp.deps = D.getD k [] := fun k sp hk => by
    rw [← hD, List.getD_eq_getElem?_getD, List.getElem?_map, hk]; rfl
  refine wp_region_slots (InvN l L A w) hm hB (fun i t h => hmax t (List.mem_of_getElem? ((dst_s i t).1 h))) ⟨(Q.refl w).drew, fun _ _ _ h => (by cases h), fun _ _ h => (by cases h), fun _ _ _ _ _ h => (by cases h), fun _ _ _ h => (by cases h)⟩ ?_ ?_ ?_
  · intro i o a x done val ho hd hdep I oth vals _
    have hil : i < l.length := (List.getElem?_eq_some_iff.1 ho).1
    obtain ⟨sp, hsp⟩ : ∃ sp, L[i]? = some sp := ⟨_, List.getElem?_eq_getElem (by omega)⟩
    obtain ⟨t, ht⟩ : ∃ t, s[i]? = some t := ⟨_, List.getElem?_eq_getElem (by omega)⟩
    obtain ⟨hg, hdst, hdp⟩ := at_ i o ho
    have hrun := hop i t o sp a x val ht ho hsp I.q (fun j hj => oth j ((mem_s j).2 hj)) (fun e he hb s' t' hs' ht' => ⟨vals e.on t' (hdep e he hb) ((dst_s _ _).2 ht'), I.f e.on s' hs' (hdep e he hb)⟩)
    refine ⟨Oper.wp_mono ?_ hrun.out⟩
    rintro a' x' ⟨v, rfl, q', hf, hfA⟩
    refine ⟨v, by rw [hdst, ht], I.q.trans q', fun j sj hsj hdj => ?_, fun j hj hdj => ?_, fun j k hj hk hjk hdj hdk => ?_, fun j o' ho' hdj e he hb => ?_⟩
    · by_cases e : j = i
      · subst e
        rw [hsp] at hsj
        injection hsj with hsj
        subst hsj
        rw [upd_eq]
        refine sp.st hf (Q.refl x') (fun k hk => upd_ne _ _ ?_)
        rw [depsD j sp hsp] at hk
        have := (hdp k hk).1
        omega
      · rw [upd_ne _ _ e] at hdj ⊢
        refine sj.st (I.f j sj hsj hdj) q' (fun k hk => upd_ne _ _ ?_)
        rw [depsD j sj hsj] at hk
        have hjl : j < l.length := by have := (List.getElem?_eq_some_iff.1 hsj).1; omega
        obtain ⟨_, e2, he2, hb2, hk2⟩ := (at_ j _ (List.getElem?_eq_getElem hjl)).2.2 k hk
        have := I.cl j _ (List.getElem?_eq_getElem hjl) hdj e2 he2 hb2
        intro ek
        rw [hk2, ek, hd] at this
        cases this
    · by_cases e : j = i
      · subst e; rw [upd_eq]; exact (hfA hj).2
      · rw [upd_ne _ _ e] at hdj ⊢
        have := I.lt j hj hdj
        have := q'.1.size
        omega
    · by_cases e : j = i
      · subst e
        have ek : k ≠ j := fun h => hjk h.symm
        rw [upd_eq, upd_ne _ _ ek]
        rw [upd_ne _ _ ek] at hdk
        have := I.lt k hk hdk
        have := (hfA hj).1
        omega
      · rw [upd_ne _ _ e] at hdj ⊢
        by_cases ek : k = i
        · subst ek
          rw [upd_eq]
          have := I.lt j hj hdj
          have := (hfA hk).1
          omega
        · rw [upd_ne _ _ ek] at hdk ⊢
          exact I.ap j k hj hk hjk hdj hdk
    · by_cases ee : e.on = i
      · rw [ee, upd_eq]
      · rw [upd_ne _ _ ee]
        by_cases ej : j = i
        · subst ej
          rw [ho] at ho'
          injection ho' with ho'
          subst ho'
          exact hdep e he hb
        · rw [upd_ne _ _ ej] at hdj
          exact I.cl j o' ho' hdj e he hb
  · intro i o x done val g b ho _ _ _ hg _
    rw [(at_ i o ho).1] at hg
    cases hg
  · intro a x val I size defers other facts
    refine hend a x val I.q size defers (fun j hj => other j ((mem_s j).2 hj)) (fun i t sp ht hsp => ⟨facts i t ((dst_s i t).2 ht), I.f i sp hsp (decide_eq_true (by have := (List.getElem?_eq_some_iff.1 hsp).1; omega))⟩) (fun i j hi hj hil hjl hij => I.ap i j hi hj hij (decide_eq_true hil) (decide_eq_true hjl))
end Go.Proofs.Ytnlphjekillciaa

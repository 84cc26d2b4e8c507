/- kernel.weighed. -/
import Derived.Test.YtdbbpmadkhedlaaGbc9abcf4
import Derived.Test.YtdbbpmadkhedlaaG0e643b20
import Derived.Laws.OwnMore
namespace Go.Proofs.Ytdbbpmadkhedlaa
open Go.RowKit
set_option linter.unusedVariables false
set_option linter.unusedSimpArgs false

def newsI (L : List Int) : List Value := L.map (Value.int .i64)
/-- Two lists of the call's own: places and weights. -/
structure Wl (w0 wr : World) (vP vW : Value) (L : List (Int × Int)) (n : Nat) : Prop where
  len : n = L.length
  p : wr.ownsRow w0.heap.size 3 1 vP n (newsI (L.map Prod.fst))
  w : wr.ownsRow w0.heap.size 3 1 vW n (newsI (L.map Prod.snd))
  ap : vP.ownBlock = none ∨ vP.ownBlock ≠ vW.ownBlock
  q : Q w0 wr
theorem wpList_appK {P : Program} {ops : Array Oper} {rest : List Oper} {o : Oper} {a : Act} {R : Exit → Act → World → Prop} {x x' : World} (s u : Operand) (t : TypeId) (hgd : o.guard = none) (ho : o.op = .call { callee := .builtin .append, args := #[s, u], argTypes := #[t, t] }) {v v' r : Value} (hs : a.eval s = v) (hu : a.eval u = v') (hr : (Builtin.append_ #[t, t] o.type #[v, v']).run P x = .ok r x') (h : wpList P ops R rest (a.put o.dst r) x') : wpList P ops R (o :: rest) a x := by
  refine wpList_plain hgd fun _ hK => ?_
  unfold Oper.wp execOp
  simp only [ho, resolve, invoke, builtin, Sem.run_bind, Sem.run_pure, Result.andThen_ok, List.map_toArray, List.map_cons, List.map_nil, hs, hu, hr]
  exact hK _ _ h
theorem own_q {w0 w w' : World} {base : Nat} {e : TypeId} {size n : Nat} {v : Value} {xs : List Value} (h : w.ownsRow base e size v n xs) (q : Q w w') : w'.ownsRow base e size v n xs := by
  refine ⟨h.1, ?_⟩
  rcases h.2 with c | ⟨g, cap, cur, h1, h2, h3, h4⟩
  · exact Or.inl c
  · exact Or.inr ⟨g, cap, cur, h1, h2, (q.1.block g (Array.getElem?_eq_some_iff.1 h3).1).trans h3, h4⟩
theorem Wl.next {w0 wr wx : World} {vP vW : Value} {L : List (Int × Int)} {n : Nat} (h : Wl w0 wr vP vW L n) (q : Q wr wx) : Wl w0 wx vP vW L n := ⟨h.len, own_q (w0 := w0) h.p q, own_q (w0 := w0) h.w q, h.ap, h.q.trans q⟩
theorem Wl.app {w0 wr : World} {vP vW : Value} {L : List (Int × Int)} {n : Nat} (h : Wl w0 wr vP vW L n) (p x : Int) (hn : n ≤ 100000) :
    ∃ gP cP x2 gW cW x4, (Builtin.append_ #[51, 51] 51 #[vP, .slice (some ⟨wr.heap.size, 0, none⟩) 1 1]).run Try.prog (wr.alloc (.cells #[.int .i64 p] 3)) = .ok (.slice (some ⟨gP, 0, none⟩) (n + 1) cP) x2 ∧
      (Builtin.append_ #[51, 51] 51 #[vW, .slice (some ⟨x2.heap.size, 0, none⟩) 1 1]).run Try.prog (x2.alloc (.cells #[.int .i64 x] 3)) = .ok (.slice (some ⟨gW, 0, none⟩) (n + 1) cW) x4 ∧
      Wl w0 x4 (.slice (some ⟨gP, 0, none⟩) (n + 1) cP) (.slice (some ⟨gW, 0, none⟩) (n + 1) cW) (L ++ [(p, x)]) (n + 1) := by
  obtain ⟨iu, i1, i2, i3, i4⟩ := iInfo
  have one : ∀ (W : World) (y : Int) (j : Nat) (u : Value), [Value.int .i64 y][j]? = some u → (W.alloc (.cells #[.int .i64 y] 3)).cell? ((⟨W.heap.size, 0, none⟩ : Addr).add j) = some u := fun W y j u hu => by
    cases j with
    | zero => cases hu; show (W.alloc (.cells #[.int .i64 y] 3)).cell? ⟨W.heap.size, 0, none⟩ = _; simp [go_sem]
    | succ j => cases hu
  have hq1 : Q w0 (wr.alloc (.cells #[.int .i64 p] 3)) := h.q.cells _ _
  have hp1 := h.p.alloc (.cells #[.int .i64 p] 3)
  have hw1 := h.w.alloc (.cells #[.int .i64 p] 3)
  obtain ⟨gP, cP, x2, r1, o1, q1, gb1, gg1⟩ := run_app_qg (P := Try.prog) (wr.alloc (.cells #[.int .i64 p] 3)) w0 hq1 51 51 3 iu _ 1 8 Try.underlying51 i1 i4 i2 i3 rfl (by decide) vP n _ hp1 ⟨wr.heap.size, 0, none⟩ 1 1 [.int .i64 p] rfl (one wr p) (fun u hu => by rw [List.mem_singleton.1 hu]; rfl) (by decide) (by unfold maxLen; omega) (by omega)
  have hne1 : vW.ownBlock = none ∨ vW.ownBlock ≠ vP.ownBlock := by
    rcases h.ap with e | e
    · by_cases c : vW.ownBlock = none
      · exact Or.inl c
      · exact Or.inr (by rw [e]; exact c)
    · exact Or.inr (fun k => e k.symm)
  have hw2 := hw1.kept gb1 hne1
  have hw3 := hw2.alloc (.cells #[.int .i64 x] 3)
  have hp3 := o1.alloc (.cells #[.int .i64 x] 3)
  have hsz : x2.heap.size ≤ (x2.alloc (.cells #[.int .i64 x] 3)).heap.size := by simp
  obtain ⟨gW, cW, x4, r2, o2, q2, gb2, gg2⟩ := run_app_qg (P := Try.prog) (x2.alloc (.cells #[.int .i64 x] 3)) w0 (q1.cells _ _) 51 51 3 iu _ 1 8 Try.underlying51 i1 i4 i2 i3 rfl (by decide) vW n _ hw3 ⟨x2.heap.size, 0, none⟩ 1 1 [.int .i64 x] rfl (one x2 x) (fun u hu => by rw [List.mem_singleton.1 hu]; rfl) (by decide) (by unfold maxLen; omega) (by omega)
  -- gP is not the block of the weights
  have hgP : vW.ownBlock ≠ some gP := by
    rcases gg1 with e | e
    · intro k
      rcases hne1 with c | c
      · rw [c] at k; cases k
      · exact c (by rw [k, e])
    · intro k
      have := (h.w.lt gP k).2
      rw [e] at this
      simp at this
      omega
  have hp4 := hp3.kept gb2 (Or.inr (show some gP ≠ _ from fun k => hgP k.symm))
  have hgPW : gP ≠ gW := by
    have lp := (o1.lt gP rfl).2
    rcases gg2 with e | e
    · intro k; exact hgP (by rw [e, k])
    · rw [e]; simp; omega
  refine ⟨gP, cP, x2, gW, cW, x4, r1, r2, by rw [h.len]; simp, ?_, ?_, Or.inr (fun k => hgPW (by injection k)), q2⟩
  · have e : newsI ((L ++ [(p, x)]).map Prod.fst) = newsI (L.map Prod.fst) ++ [.int .i64 p] := by simp [newsI]
    rw [e]; exact hp4
  · have e : newsI ((L ++ [(p, x)]).map Prod.snd) = newsI (L.map Prod.snd) ++ [.int .i64 x] := by simp [newsI]
    rw [e]; exact o2
/-- The last of both lists. -/
theorem Wl.last {w0 wr : World} {vP vW : Value} {M : List (Int × Int)} {p x : Int} {n : Nat} (h : Wl w0 wr vP vW (M ++ [(p, x)]) n) : ∃ gP cP gW cW, vP = .slice (some ⟨gP, 0, none⟩) n cP ∧ vW = .slice (some ⟨gW, 0, none⟩) n cW ∧ n = M.length + 1 ∧ wr.cell? ⟨gP, M.length, none⟩ = some (.int .i64 p) ∧ wr.cell? ⟨gW, M.length, none⟩ = some (.int .i64 x) ∧ wr.frozen? ⟨gW, M.length, none⟩ = false ∧
    ∀ y, Wl w0 (wr.setCell ⟨gW, M.length, none⟩ (.int .i64 y)) vP vW (M ++ [(p, y)]) n := by
  have hn : n = M.length + 1 := by rw [h.len]; simp
  rcases h.p.2 with ⟨_, e⟩ | ⟨gP, cP, cur, e1, b1, h1, h2⟩
  · omega
  · rcases h.w.2 with ⟨_, e⟩ | ⟨gW, cW, cur', e1', b1', h1', h2'⟩
    · omega
    · subst e1 e1'
      have c1 := h.p.cellAt M.length (by omega)
      have c2 := h.w.cellAt M.length (by omega)
      have f2 := h.w.frozenAt M.length
      rw [show (newsI ((M ++ [(p, x)]).map Prod.fst))[M.length]? = some (.int .i64 p) by simp [newsI]] at c1
      rw [show (newsI ((M ++ [(p, x)]).map Prod.snd))[M.length]? = some (.int .i64 x) by simp [newsI]] at c2
      refine ⟨gP, cP, gW, cW, rfl, rfl, hn, c1, c2, f2, fun y => ?_⟩
      obtain ⟨s1, s2⟩ := h.w.stored M.length (.int .i64 y)
      have hap : gP ≠ gW := by
        rcases h.ap with k | k
        · cases k
        · exact fun e => k (by rw [e]; rfl)
      refine ⟨by rw [h.len]; simp, ?_, ?_, h.ap, h.q.set b1' _⟩
      · have e : newsI ((M ++ [(p, y)]).map Prod.fst) = newsI ((M ++ [(p, x)]).map Prod.fst) := by simp [newsI]
        rw [e]
        exact h.p.kept s2 (Or.inr (fun k => hap (by injection k)))
      · have e : newsI ((M ++ [(p, y)]).map Prod.snd) = (newsI ((M ++ [(p, x)]).map Prod.snd)).set M.length (.int .i64 y) := by
          simp [newsI, List.set_append]
        rw [e]; exact s1
theorem Wl.form {w0 wr : World} {vP vW : Value} {L : List (Int × Int)} {n : Nat} (h : Wl w0 wr vP vW L n) : ∃ aP cP aW cW, vP = .slice aP n cP ∧ vW = .slice aW n cW := by
  rcases h.p.2 with ⟨e1, e⟩ | ⟨gP, cP, cur, e1, _⟩
  · subst e
    rcases h.w.2 with ⟨e1', e⟩ | ⟨gW, cW, cur', e1', _⟩
    · exact ⟨none, 0, none, 0, e1, e1'⟩
    · exact ⟨none, 0, _, cW, e1, e1'⟩
  · rcases h.w.2 with ⟨e1', e⟩ | ⟨gW, cW, cur', e1', _⟩
    · subst e; exact ⟨_, cP, none, 0, e1, e1'⟩
    · exact ⟨_, cP, _, cW, e1, e1'⟩
theorem Wl.start (w : World) : Wl w w (.slice none 0 0) (.slice none 0 0) [] 0 := ⟨rfl, World.ownsRow_nil _ _ _ _, World.ownsRow_nil _ _ _ _, Or.inl rfl, Q.refl w⟩
end Go.Proofs.Ytdbbpmadkhedlaa
/- kernel.weighed, walked. -/
namespace Go.Proofs.Ytdbbpmadkhedlaa
open Go.RowKit
set_option linter.unusedVariables false
set_option linter.unusedSimpArgs false

/-- Where a new place's middle lies. -/
def midV (F T i : Nat) : Int := (2 * (i : Int) + 1) * (F : Int) - (T : Int)
def fstV (kind : Int) (F T i : Nat) : Int := (midV F T i - rea kind (max F T : Nat)) / (2 * (T : Int))
def lstV (kind : Int) (F T i : Nat) : Int := (midV F T i + rea kind (max F T : Nat)) / (2 * (T : Int))
/-- The weight of place k. -/
def wfV (kind : Int) (F T i : Nat) (k : Int) : Int := wgt kind (max F T : Nat) (2 * (T : Int) * k - midV F T i)
def plV (F : Nat) (k : Int) : Int := min (max k 0) ((F : Int) - 1)
def winV (kind : Int) (F T i : Nat) : Nat := (lstV kind F T i - fstV kind F T i + 1).toNat
/-- The places of a new place, and what they weigh. -/
def wlsV (kind : Int) (F T i : Nat) : List (Int × Int) := wrun (wfV kind F T i) (plV F) (fstV kind F T i) (winV kind F T i)
structure Sz (F T i : Nat) : Prop where
  f1 : 1 ≤ F
  f2 : F ≤ 1024
  t1 : 1 ≤ T
  t2 : T ≤ 1024
  i : i < T
  ft : F ≤ 15 * T
theorem mid_size {F T i : Nat} (h : Sz F T i) : -1024 ≤ midV F T i ∧ midV F T i ≤ 2097152 := by
  unfold midV
  have := mul_bd (x := 2 * (i : Int) + 1) (X := 2047) (y := (F : Int)) (Y := 1024) (by omega) (by have := h.i; have := h.t2; omega) (by omega) (by have := h.f2; omega)
  have := h.t2
  omega
theorem win_facts {kind : Int} {F T i : Nat} (h : Sz F T i) : fstV kind F T i ≤ lstV kind F T i ∧ lstV kind F T i - fstV kind F T i ≤ 61 ∧
    ∀ k, fstV kind F T i ≤ k → k ≤ lstV kind F T i → -8192 ≤ 2 * (T : Int) * k - midV F T i ∧ 2 * (T : Int) * k - midV F T i ≤ 4096 := by
  obtain ⟨f1, f2, t1, t2, hi, ft⟩ := h
  have hT : 0 < 2 * (T : Int) := by omega
  have hr := rea_size (kind := kind) (m := (max F T : Nat)) (by omega)
  have a1 := Int.mul_ediv_add_emod (midV F T i - rea kind (max F T : Nat)) (2 * (T : Int))
  have a2 := Int.emod_nonneg (midV F T i - rea kind (max F T : Nat)) (by omega : 2 * (T : Int) ≠ 0)
  have a3 := Int.emod_lt_of_pos (midV F T i - rea kind (max F T : Nat)) hT
  have b1 := Int.mul_ediv_add_emod (midV F T i + rea kind (max F T : Nat)) (2 * (T : Int))
  have b2 := Int.emod_nonneg (midV F T i + rea kind (max F T : Nat)) (by omega : 2 * (T : Int) ≠ 0)
  have b3 := Int.emod_lt_of_pos (midV F T i + rea kind (max F T : Nat)) hT
  change 2 * (T : Int) * fstV kind F T i + _ = _ at a1
  change 2 * (T : Int) * lstV kind F T i + _ = _ at b1
  have hm1 : (max F T : Nat) ≤ 15 * T := by omega
  have hm2 : (max F T : Nat) ≤ 1024 := by omega
  generalize rea kind (max F T : Nat) = R at *
  generalize midV F T i = M at *
  generalize (M - R) % (2 * (T : Int)) = e1 at *
  generalize (M + R) % (2 * (T : Int)) = e2 at *
  generalize fstV kind F T i = f at *
  generalize lstV kind F T i = l at *
  have hfl : f ≤ l := by
    rcases Int.lt_or_le l f with c | c
    · have h1 : 2 * (T : Int) * (l + 1) ≤ 2 * (T : Int) * f := Int.mul_le_mul_of_nonneg_left (by omega) (by omega)
      rw [Int.mul_add] at h1
      omega
    · exact c
  refine ⟨hfl, ?_, fun k k1 k2 => ?_⟩
  · rcases Int.lt_or_le 61 (l - f) with c | c
    · have h1 : 2 * (T : Int) * (f + 62) ≤ 2 * (T : Int) * l := Int.mul_le_mul_of_nonneg_left (by omega) (by omega)
      rw [Int.mul_add] at h1
      omega
    · exact c
  · have h1 : 2 * (T : Int) * f ≤ 2 * (T : Int) * k := Int.mul_le_mul_of_nonneg_left k1 (by omega)
    have h2 : 2 * (T : Int) * k ≤ 2 * (T : Int) * l := Int.mul_le_mul_of_nonneg_left k2 (by omega)
    omega
/-- Cubic's weights: not below 0 near the middle, and how great they are. -/
theorem cub_near {c b : Int} (hc : 0 ≤ c) (h : c < b) : 0 ≤ cubV c b ∧ cubV c b ≤ 2 * (b * b * b) := by
  unfold cubV
  rw [if_pos h]
  obtain ⟨x, rfl⟩ : ∃ x, b = c + x := ⟨b - c, by omega⟩
  have hx : 0 ≤ x := by omega
  have p1 : 0 ≤ c * c * x := Int.mul_nonneg (Int.mul_nonneg hc hc) hx
  have p2 : 0 ≤ c * x * x := Int.mul_nonneg (Int.mul_nonneg hc hx) hx
  have p3 : 0 ≤ x * x * x := Int.mul_nonneg (Int.mul_nonneg hx hx) hx
  have p4 : 0 ≤ c * c * c := Int.mul_nonneg (Int.mul_nonneg hc hc) hc
  have e : 3 * c * c * c - 5 * c * c * (c + x) + 2 * (c + x) * (c + x) * (c + x) = c * c * x + 6 * (c * x * x) + 2 * (x * x * x) := by grind
  have e2 : (c + x) * (c + x) * (c + x) = c * c * c + 3 * (c * c * x) + 3 * (c * x * x) + x * x * x := by grind
  rw [e, e2]
  omega
theorem cub_far {c b : Int} (hb : 0 ≤ b) (h1 : b ≤ c) (h2 : c < 2 * b) : -(b * b * b) ≤ cubV c b ∧ cubV c b ≤ 0 := by
  unfold cubV
  rw [if_neg (by omega), if_pos h2]
  obtain ⟨x, rfl⟩ : ∃ x, c = b + x := ⟨c - b, by omega⟩
  obtain ⟨y, rfl⟩ : ∃ y, b = x + y := ⟨b - x, by omega⟩
  have hx : 0 ≤ x := by omega
  have hy : 0 ≤ y := by omega
  have p1 : 0 ≤ x * y * y := Int.mul_nonneg (Int.mul_nonneg hx hy) hy
  have p2 : 0 ≤ x * x * y := Int.mul_nonneg (Int.mul_nonneg hx hx) hy
  have p3 : 0 ≤ x * x * x := Int.mul_nonneg (Int.mul_nonneg hx hx) hx
  have p4 : 0 ≤ y * y * y := Int.mul_nonneg (Int.mul_nonneg hy hy) hy
  have e : -(x + y + x) * (x + y + x) * (x + y + x) + 5 * (x + y + x) * (x + y + x) * (x + y) - 8 * (x + y + x) * (x + y) * (x + y) + 4 * (x + y) * (x + y) * (x + y) = -(x * y * y) := by grind
  have e2 : (x + y) * (x + y) * (x + y) = x * x * x + 3 * (x * x * y) + 3 * (x * y * y) + y * y * y := by grind
  rw [e, e2]
  omega
theorem cub_size {c b : Int} (hc : 0 ≤ c) (hb : 0 ≤ b) (hb2 : b ≤ 2048) : -17179869184 ≤ cubV c b ∧ cubV c b ≤ 17179869184 := by
  have m2 := mul_bd hb hb2 hb hb2
  have m3 := mul_bd m2.1 m2.2 hb hb2
  by_cases h1 : c < b
  · have := cub_near hc h1; omega
  · by_cases h2 : c < 2 * b
    · have := cub_far hb (by omega) h2; omega
    · unfold cubV; rw [if_neg h1, if_neg h2]; omega
theorem wgt_size {kind m d : Int} (m0 : 1 ≤ m) (m1 : m ≤ 1024) : -17179869184 ≤ wgt kind m d ∧ wgt kind m d ≤ 17179869184 := by
  unfold wgt
  have ha : 0 ≤ absI d := by unfold absI; omega
  split
  · split <;> omega
  · split
    · omega
    · exact cub_size ha (by omega) (by omega)
theorem wls_bound {kind : Int} {F T i : Nat} (h : Sz F T i) : (wlsV kind F T i).length ≤ 62 ∧ ∀ e ∈ wlsV kind F T i, -1099511627776 ≤ e.2 ∧ e.2 ≤ 1099511627776 := by
  have hw := (win_facts (kind := kind) h).2.1
  have hn : winV kind F T i ≤ 62 := by unfold winV; omega
  refine ⟨Nat.le_trans (wrun_len _ _ _ _) hn, fun e he => ?_⟩
  have := wrun_bound (f := wfV kind F T i) (pl := plV F) (a := fstV kind F T i) (B := 17179869184) (by decide) (fun k => wgt_size (by have := h.f1; omega) (by have := h.f2; have := h.t2; omega)) (winV kind F T i) e he
  omega
end Go.Proofs.Ytdbbpmadkhedlaa
/- Weights sum to more than 0: plain. -/
namespace Go.Proofs.Ytdbbpmadkhedlaa
set_option linter.unusedVariables false
set_option linter.unusedSimpArgs false

theorem sumF_split (f : Nat → Int) (a : Nat) : ∀ b, sumF f (a + b) = sumF f a + sumF (fun i => f (a + i)) b
  | 0 => by simp [sumF]
  | b + 1 => by show sumF f (a + b) + f (a + b) = _ + (sumF (fun i => f (a + i)) b + f (a + b)); rw [sumF_split f a b]; omega
/-- Cubic's weights, from below: close to the middle, near, far. -/
theorem cub_mid {c m : Int} (hc : 0 ≤ c) (hm : c ≤ m) (h0 : 0 < m) : 9 * (m * m * m) ≤ cubV c (2 * m) := by
  unfold cubV
  rw [if_pos (by omega)]
  obtain ⟨x, rfl⟩ : ∃ x, m = c + x := ⟨m - c, by omega⟩
  have hx : 0 ≤ x := by omega
  have p1 : 0 ≤ c * c * x := Int.mul_nonneg (Int.mul_nonneg hc hc) hx
  have p2 : 0 ≤ c * x * x := Int.mul_nonneg (Int.mul_nonneg hc hx) hx
  have p3 : 0 ≤ x * x * x := Int.mul_nonneg (Int.mul_nonneg hx hx) hx
  have p4 : 0 ≤ c * c * c := Int.mul_nonneg (Int.mul_nonneg hc hc) hc
  have e : 3 * c * c * c - 5 * c * c * (2 * (c + x)) + 2 * (2 * (c + x)) * (2 * (c + x)) * (2 * (c + x)) = 9 * (c * c * c) + 38 * (c * c * x) + 48 * (c * x * x) + 16 * (x * x * x) := by grind
  have e2 : (c + x) * (c + x) * (c + x) = c * c * c + 3 * (c * c * x) + 3 * (c * x * x) + x * x * x := by grind
  rw [e, e2]
  omega
/-- 27 times the weight is at least -32 m^3: x (2 m - x)^2 is at most (4 m / 3)^3 / 2 .. -/
theorem cub_low {c m : Int} (hc : 0 ≤ c) (h0 : 0 < m) : -(32 * (m * m * m)) ≤ 27 * cubV c (2 * m) := by
  have hm3 : 0 ≤ m * m * m := Int.mul_nonneg (Int.mul_nonneg (by omega) (by omega)) (by omega)
  by_cases h1 : c < 2 * m
  · have := (cub_near hc h1).1; omega
  · by_cases h2 : c < 2 * (2 * m)
    · unfold cubV
      rw [if_neg h1, if_pos h2]
      -- c = 2 m + x, 0 <= x < 2 m: the weight is -x (2 m - x)^2
      obtain ⟨x, rfl⟩ : ∃ x, c = 2 * m + x := ⟨c - 2 * m, by omega⟩
      have hx : 0 ≤ x := by omega
      have e : -(2 * m + x) * (2 * m + x) * (2 * m + x) + 5 * (2 * m + x) * (2 * m + x) * (2 * m) - 8 * (2 * m + x) * (2 * m) * (2 * m) + 4 * (2 * m) * (2 * m) * (2 * m) = -(x * ((2 * m - x) * (2 * m - x))) := by grind
      rw [e]
      -- 32 m^3 - 27 x (2 m - x)^2 = (8 m - 3 x) (2 m - 3 x)^2
      have e2 : 32 * (m * m * m) - 27 * (x * ((2 * m - x) * (2 * m - x))) = (8 * m - 3 * x) * ((2 * m - 3 * x) * (2 * m - 3 * x)) := by grind
      have p : 0 ≤ (8 * m - 3 * x) * ((2 * m - 3 * x) * (2 * m - 3 * x)) := Int.mul_nonneg (by omega) (by
        rcases Int.le_total 0 (2 * m - 3 * x) with h | h
        · exact Int.mul_nonneg h h
        · have := Int.mul_nonneg (show 0 ≤ -(2 * m - 3 * x) by omega) (show 0 ≤ -(2 * m - 3 * x) by omega)
          rw [Int.neg_mul_neg] at this
          exact this)
      omega
    · unfold cubV; rw [if_neg h1, if_neg h2]; omega
/-- What stands from a to b. -/
def rng (f : Nat → Int) (a b : Nat) : Int := sumF (fun i => f (a + i)) (b - a)
theorem rng_split (f : Nat → Int) {a b : Nat} (h : a ≤ b) : sumF f b = sumF f a + rng f a b := by
  obtain ⟨k, rfl⟩ : ∃ k, b = a + k := ⟨b - a, by omega⟩
  unfold rng
  rw [Nat.add_sub_cancel_left]
  exact sumF_split f a k
theorem rng_low (f : Nat → Int) {a b : Nat} {c : Int} (hf : ∀ j, a ≤ j → j < b → c ≤ f j) : ((b - a : Nat) : Int) * c ≤ rng f a b := by
  have h := sumF_mono (f := fun _ => c) (g := fun i => f (a + i)) (b - a) (fun i hi => hf (a + i) (by omega) (by omega))
  rw [sumF_const] at h
  exact h
theorem six {f : Nat → Int} {A C1 C2 B N : Nat} {L H : Int} (h1 : 1 ≤ A) (h2 : A ≤ C1) (h3 : C1 ≤ C2) (h4 : C2 ≤ B) (h5 : B ≤ N) (f0 : 0 ≤ f 0) (fa : ∀ j, 1 ≤ j → j < A → L ≤ f j) (fb : ∀ j, A ≤ j → j < C1 → 0 ≤ f j) (fc : ∀ j, C1 ≤ j → j < C2 → H ≤ f j) (fd : ∀ j, C2 ≤ j → j < B → 0 ≤ f j) (fe : ∀ j, B ≤ j → j < N → L ≤ f j) :
    ((A - 1 : Nat) : Int) * L + ((C2 - C1 : Nat) : Int) * H + ((N - B : Nat) : Int) * L ≤ sumF f N := by
  have r1 := rng_low f (a := 1) (b := A) fa
  have r2 := rng_low f (a := A) (b := C1) fb
  have r3 := rng_low f (a := C1) (b := C2) fc
  have r4 := rng_low f (a := C2) (b := B) fd
  have r5 := rng_low f (a := B) (b := N) fe
  rw [rng_split f h5, rng_split f h4, rng_split f h3, rng_split f h2, rng_split f h1]
  have e1 : sumF f 1 = f 0 := by show 0 + f 0 = f 0; omega
  rw [e1]
  simp only [Int.mul_zero] at r2 r4
  omega
/-- The least k with st k at least mid + x. -/
def kx (st mid x : Int) : Int := (mid + x + st - 1) / st
theorem kx_prop {st mid x : Int} (hs : 0 < st) : mid + x ≤ st * kx st mid x ∧ st * kx st mid x < mid + x + st := by
  have a1 := Int.mul_ediv_add_emod (mid + x + st - 1) st
  have a2 := Int.emod_nonneg (mid + x + st - 1) (by omega : st ≠ 0)
  have a3 := Int.emod_lt_of_pos (mid + x + st - 1) hs
  unfold kx
  omega
theorem kx_le {st mid x k : Int} (hs : 0 < st) (h : mid + x ≤ st * k) : kx st mid x ≤ k := by
  have h1 := (kx_prop (mid := mid) (x := x) hs).2
  rcases Int.lt_or_le k (kx st mid x) with c | c
  · have h2 : st * (k + 1) ≤ st * kx st mid x := Int.mul_le_mul_of_nonneg_left (by omega) (by omega)
    rw [Int.mul_add] at h2
    omega
  · exact c
theorem kx_ge {st mid x k : Int} (hs : 0 < st) (h : kx st mid x ≤ k) : mid + x ≤ st * k := by
  have h1 := (kx_prop (mid := mid) (x := x) hs).1
  have h2 : st * kx st mid x ≤ st * k := Int.mul_le_mul_of_nonneg_left h (by omega)
  omega
theorem kx_lt {st mid x k : Int} (hs : 0 < st) (h : k < kx st mid x) : st * k < mid + x := by
  rcases Int.lt_or_le (st * k) (mid + x) with c | c
  · exact c
  · have := kx_le hs c; omega
end Go.Proofs.Ytdbbpmadkhedlaa
/- Weights sum to more than 0, whatever the sizes and the place: plain. -/
namespace Go.Proofs.Ytdbbpmadkhedlaa
set_option linter.unusedVariables false
set_option linter.unusedSimpArgs false

theorem sumF_pos {f : Nat → Int} : ∀ {n j : Nat}, (∀ i, i < n → 0 ≤ f i) → j < n → 0 < f j → 0 < sumF f n
  | 0, j, _, hj, _ => by omega
  | n + 1, j, h, hj, hp => by
    have h0 := sumF_nonneg (f := f) n (fun i hi => h i (by omega))
    have h1 := h n (by omega)
    unfold sumF
    by_cases e : j = n
    · subst e; omega
    · have := sumF_pos (n := n) (j := j) (fun i hi => h i (by omega)) (by omega) hp
      omega
/-- Where the window lies. -/
theorem win_eq {kind : Int} {F T i : Nat} (h : Sz F T i) : 2 * (T : Int) * fstV kind F T i ≤ midV F T i - rea kind (max F T : Nat) ∧ midV F T i - rea kind (max F T : Nat) < 2 * (T : Int) * fstV kind F T i + 2 * (T : Int) ∧ 2 * (T : Int) * lstV kind F T i ≤ midV F T i + rea kind (max F T : Nat) ∧ midV F T i + rea kind (max F T : Nat) < 2 * (T : Int) * lstV kind F T i + 2 * (T : Int) := by
  have hT : 0 < 2 * (T : Int) := by have := h.t1; omega
  have a1 := Int.mul_ediv_add_emod (midV F T i - rea kind (max F T : Nat)) (2 * (T : Int))
  have a2 := Int.emod_nonneg (midV F T i - rea kind (max F T : Nat)) (by omega : 2 * (T : Int) ≠ 0)
  have a3 := Int.emod_lt_of_pos (midV F T i - rea kind (max F T : Nat)) hT
  have b1 := Int.mul_ediv_add_emod (midV F T i + rea kind (max F T : Nat)) (2 * (T : Int))
  have b2 := Int.emod_nonneg (midV F T i + rea kind (max F T : Nat)) (by omega : 2 * (T : Int) ≠ 0)
  have b3 := Int.emod_lt_of_pos (midV F T i + rea kind (max F T : Nat)) hT
  change 2 * (T : Int) * fstV kind F T i + _ = _ at a1
  change 2 * (T : Int) * lstV kind F T i + _ = _ at b1
  omega
theorem wls_sum {kind : Int} {F T i : Nat} : sndSum (wlsV kind F T i) = sumF (fun j => wfV kind F T i (fstV kind F T i + j)) (winV kind F T i) := wrun_sum _ _ _ _
/-- Box and Tent. -/
theorem pos_plain {kind : Int} {F T i : Nat} (h : Sz F T i) (hn : ∀ d, 0 ≤ wgt kind (max F T : Nat) d) (hp : ∀ d, -((max F T : Nat) : Int) ≤ d → d < ((max F T : Nat) : Int) → 0 < wgt kind (max F T : Nat) d) : 0 < sndSum (wlsV kind F T i) := by
  rw [wls_sum]
  obtain ⟨w1, w2, w3, w4⟩ := win_eq (kind := kind) h
  have hr := rea_size (kind := kind) (m := (max F T : Nat)) (by have := h.f1; omega)
  have hmT : (T : Int) ≤ ((max F T : Nat) : Int) := by omega
  have hst : 0 < 2 * (T : Int) := by have := h.t1; omega
  obtain ⟨st, hs⟩ : ∃ st, 2 * (T : Int) = st := ⟨_, rfl⟩
  have hww : winV kind F T i = (lstV kind F T i - fstV kind F T i + 1).toNat := rfl
  have hwf : ∀ k, wfV kind F T i k = wgt kind (max F T : Nat) (st * k - midV F T i) := fun k => by rw [← hs]; rfl
  rw [hs] at w1 w2 w3 w4 hst
  generalize ((max F T : Nat) : Int) = m at *
  generalize rea kind m = R at *
  generalize midV F T i = mid at *
  generalize fstV kind F T i = fs at *
  generalize lstV kind F T i = ls at *
  generalize winV kind F T i = N at *
  have p1 := kx_prop (st := st) (mid := mid) (x := -m) hst
  obtain ⟨k, hk⟩ : ∃ k, kx st mid (-m) = k := ⟨_, rfl⟩
  rw [hk] at p1
  have k1 : fs ≤ k := by
    rcases Int.lt_or_le k fs with c | c
    · have h2 : st * (k + 1) ≤ st * fs := Int.mul_le_mul_of_nonneg_left (by omega) (by omega)
      rw [Int.mul_add] at h2
      omega
    · exact c
  have k2 : k ≤ ls := by
    rcases Int.lt_or_le ls k with c | c
    · have h2 : st * (ls + 1) ≤ st * k := Int.mul_le_mul_of_nonneg_left (by omega) (by omega)
      rw [Int.mul_add] at h2
      omega
    · exact c
  refine sumF_pos (j := (k - fs).toNat) (fun j _ => by rw [hwf]; exact hn _) (by omega) ?_
  rw [hwf, show fs + ((k - fs).toNat : Int) = k by omega]
  exact hp _ (by omega) (by omega)
theorem pos_cubic {F T i : Nat} (h : Sz F T i) : 0 < sndSum (wlsV 3 F T i) := by
  rw [wls_sum]
  obtain ⟨w1, w2, w3, w4⟩ := win_eq (kind := 3) h
  have hm0 : 0 < ((max F T : Nat) : Int) := by have := h.f1; omega
  have hmT : (T : Int) ≤ ((max F T : Nat) : Int) := by omega
  have hst : 0 < 2 * (T : Int) := by have := h.t1; omega
  obtain ⟨st, hs⟩ : ∃ st, 2 * (T : Int) = st := ⟨_, rfl⟩
  have hww : winV 3 F T i = (lstV 3 F T i - fstV 3 F T i + 1).toNat := rfl
  have hre : rea 3 ((max F T : Nat) : Int) = 4 * ((max F T : Nat) : Int) := rfl
  have hwf : ∀ k, wfV 3 F T i k = cubV (absI (st * k - midV F T i)) (2 * ((max F T : Nat) : Int)) := fun k => by rw [← hs]; rfl
  rw [hre] at w1 w2 w3 w4
  rw [hs] at w1 w2 w3 w4 hst
  generalize ((max F T : Nat) : Int) = m at *
  generalize midV F T i = mid at *
  generalize fstV 3 F T i = fs at *
  generalize lstV 3 F T i = ls at *
  generalize winV 3 F T i = N at *
  have hst2 : st ≤ 2 * m := by omega
  -- how many steps fit into 2 m
  obtain ⟨q, hq1, hq2, hq0⟩ : ∃ q, st * q ≤ 2 * m ∧ 2 * m < st * (q + 1) ∧ 1 ≤ q := by
    have a1 := Int.mul_ediv_add_emod (2 * m) st
    have a2 := Int.emod_nonneg (2 * m) (by omega : st ≠ 0)
    have a3 := Int.emod_lt_of_pos (2 * m) hst
    refine ⟨2 * m / st, by omega, by rw [Int.mul_add]; omega, ?_⟩
    exact (Int.le_ediv_iff_mul_le hst).2 (by omega)
  have le_of : ∀ a b : Int, st * a < st * b + st → a ≤ b := fun a b hh => by
    rcases Int.lt_or_le b a with c | c
    · have h2 : st * (b + 1) ≤ st * a := Int.mul_le_mul_of_nonneg_left (by omega) (by omega)
      rw [Int.mul_add] at h2
      omega
    · exact c
  have pa := kx_prop (st := st) (mid := mid) (x := -(2 * m) + 1) hst
  have pc := kx_prop (st := st) (mid := mid) (x := -m) hst
  have pd := kx_prop (st := st) (mid := mid) (x := m) hst
  have pb := kx_prop (st := st) (mid := mid) (x := 2 * m) hst
  have ga : ∀ k, kx st mid (-(2 * m) + 1) ≤ k → mid + (-(2 * m) + 1) ≤ st * k := fun k hk => kx_ge hst hk
  have gc : ∀ k, kx st mid (-m) ≤ k → mid + -m ≤ st * k := fun k hk => kx_ge hst hk
  have gd : ∀ k, k < kx st mid m → st * k < mid + m := fun k hk => kx_lt hst hk
  have gb : ∀ k, k < kx st mid (2 * m) → st * k < mid + 2 * m := fun k hk => kx_lt hst hk
  obtain ⟨a, ha⟩ : ∃ a, kx st mid (-(2 * m) + 1) = a := ⟨_, rfl⟩
  obtain ⟨c, hc⟩ : ∃ c, kx st mid (-m) = c := ⟨_, rfl⟩
  obtain ⟨e, he⟩ : ∃ e, kx st mid m = e := ⟨_, rfl⟩
  obtain ⟨b, hb⟩ : ∃ b, kx st mid (2 * m) = b := ⟨_, rfl⟩
  rw [ha] at pa ga
  rw [hc] at pc gc
  rw [he] at pd gd
  rw [hb] at pb gb
  have o1 : fs + 1 ≤ a := by
    have := le_of (fs + 1) a (by rw [Int.mul_add]; omega)
    exact this
  have o2 : a ≤ c := le_of a c (by omega)
  have o3 : c ≤ e := le_of c e (by omega)
  have o4 : e ≤ b := le_of e b (by omega)
  have o5 : b ≤ ls + 1 := le_of b (ls + 1) (by rw [Int.mul_add]; omega)
  -- how many there are
  have n1 : a - fs - 1 ≤ q + 1 := le_of _ _ (by rw [Int.mul_sub, Int.mul_sub]; simp only [Int.mul_add, Int.mul_one] at hq2 ⊢; omega)
  have n2 : q ≤ e - c := le_of _ _ (by rw [Int.mul_sub]; omega)
  have n3 : ls - b ≤ q := le_of _ _ (by rw [Int.mul_sub]; simp only [Int.mul_add, Int.mul_one] at hq2; omega)
  have hm3 : 0 < m * m * m := Int.mul_pos (Int.mul_pos hm0 hm0) hm0
  have abs0 : ∀ d, 0 ≤ absI d := fun d => by unfold absI; omega
  have key := six (f := fun j => 27 * wfV 3 F T i (fs + j)) (A := (a - fs).toNat) (C1 := (c - fs).toNat) (C2 := (e - fs).toNat) (B := (b - fs).toNat) (N := N) (L := -(32 * (m * m * m))) (H := 243 * (m * m * m)) (by omega) (by omega) (by omega) (by omega) (by omega)
    (by
      show 0 ≤ 27 * wfV 3 F T i (fs + 0)
      rw [hwf, Int.add_zero]
      have hout : 2 * (2 * m) ≤ absI (st * fs - mid) := by unfold absI; omega
      unfold cubV
      rw [if_neg (by omega), if_neg (by omega)]
      decide)
    (fun j _ _ => by rw [hwf]; exact cub_low (abs0 _) hm0)
    (fun j j1 j2 => by
      rw [hwf]
      have g1 := ga (fs + j) (by omega)
      have g2 := gb (fs + j) (by omega)
      have := (cub_near (abs0 _) (show absI (st * (fs + j) - mid) < 2 * m by unfold absI; omega)).1
      omega)
    (fun j j1 j2 => by
      rw [hwf]
      have g1 := gc (fs + j) (by omega)
      have g2 := gd (fs + j) (by omega)
      have := cub_mid (abs0 _) (show absI (st * (fs + j) - mid) ≤ m by unfold absI; omega) hm0
      omega)
    (fun j j1 j2 => by
      rw [hwf]
      have g1 := ga (fs + j) (by omega)
      have g2 := gb (fs + j) (by omega)
      have := (cub_near (abs0 _) (show absI (st * (fs + j) - mid) < 2 * m by unfold absI; omega)).1
      omega)
    (fun j _ _ => by rw [hwf]; exact cub_low (abs0 _) hm0)
  rw [sumF_mul] at key
  generalize m * m * m = M at *
  have b1 : (((a - fs).toNat - 1 : Nat) : Int) * (32 * M) ≤ (q + 1) * (32 * M) := Int.mul_le_mul_of_nonneg_right (by omega) (by omega)
  have b2 : q * (243 * M) ≤ (((e - fs).toNat - (c - fs).toNat : Nat) : Int) * (243 * M) := Int.mul_le_mul_of_nonneg_right (by omega) (by omega)
  have b3 : ((N - (b - fs).toNat : Nat) : Int) * (32 * M) ≤ (q + 1) * (32 * M) := Int.mul_le_mul_of_nonneg_right (by omega) (by omega)
  have b4 : 1 * M ≤ q * M := Int.mul_le_mul_of_nonneg_right hq0 (by omega)
  simp only [Int.mul_neg] at key
  have e1 : q * (243 * M) = 243 * (q * M) := by grind
  have e2 : (q + 1) * (32 * M) = 32 * (q * M) + 32 * M := by grind
  rw [e1] at b2
  rw [e2] at b1 b3
  omega
theorem wls_pos {kind : Int} {F T i : Nat} (hk : kind = 1 ∨ kind = 2 ∨ kind = 3) (h : Sz F T i) : 0 < sndSum (wlsV kind F T i) := by
  have hm0 : 0 < ((max F T : Nat) : Int) := by have := h.f1; omega
  rcases hk with rfl | rfl | rfl
  · refine pos_plain h (fun d => ?_) (fun d h1 h2 => ?_)
    · show 0 ≤ if _ then (1 : Int) else 0; split <;> omega
    · show 0 < if _ then (1 : Int) else 0; rw [if_pos ⟨h1, h2⟩]; decide
  · refine pos_plain h (fun d => ?_) (fun d h1 h2 => ?_)
    · show 0 ≤ max (2 * ((max F T : Nat) : Int) - absI d) 0; omega
    · show 0 < max (2 * ((max F T : Nat) : Int) - absI d) 0; unfold absI; omega
  · exact pos_cubic h
end Go.Proofs.Ytdbbpmadkhedlaa
/- kernel.weighed, walked. -/
namespace Go.Proofs.Ytdbbpmadkhedlaa
open Go.RowKit
set_option linter.unusedVariables false
set_option linter.unusedSimpArgs false

theorem lo_of {s x B : Int} (hs : 1 ≤ s) (hB : 0 ≤ B) (h : -B ≤ s * x) : -B ≤ x := by
  rcases Int.lt_or_le x (-B) with c | c
  · have : s * x ≤ 1 * x := Int.mul_le_mul_of_nonpos_right hs (by omega)
    omega
  · exact c
theorem hi_of {s x B : Int} (hs : 1 ≤ s) (hB : 0 ≤ B) (h : s * x ≤ B) : x ≤ B := by
  rcases Int.lt_or_le B x with c | c
  · have : 1 * x ≤ s * x := Int.mul_le_mul_of_nonneg_right hs (by omega)
    omega
  · exact c
theorem own_low {w : World} {base base' : Nat} {e : TypeId} {size n : Nat} {v : Value} {xs : List Value} (h : w.ownsRow base e size v n xs) (hb : base' ≤ base) : w.ownsRow base' e size v n xs := by
  refine ⟨h.1, ?_⟩
  rcases h.2 with c | ⟨g, cap, cur, h1, h2, h3⟩
  · exact Or.inl c
  · exact Or.inr ⟨g, cap, cur, h1, Nat.le_trans hb h2, h3⟩
theorem Wl.base {w w0 wr : World} {vP vW : Value} {L : List (Int × Int)} {n : Nat} (h : Wl w0 wr vP vW L n) (q : Q w w0) : Wl w wr vP vW L n := ⟨h.len, own_low h.p q.1.size, own_low h.w q.1.size, h.ap, q.trans h.q⟩
set_option maxHeartbeats 8000000 in
set_option maxRecDepth 1000000 in
theorem weighed_any (kind : Int) (F T i b : Nat) (w : World) (hk : kind = 1 ∨ kind = 2 ∨ kind = 3) (h : Sz F T i) (hb : w.cell? ⟨b, 0, none⟩ = some (.int .i64 (kbx kind (max F T : Nat)))) :
    Calls Try.prog 37 #[.agg #[.int .i64 (rea kind (max F T : Nat)), .func (.func (kfn kind)) #[] #[.pointer (some ⟨b, 0, none⟩)]], .int .i64 (F : Int), .int .i64 (T : Int), .int .i64 (i : Int)] w fun e w' => ∃ vP vW n, e = .returned (.tuple #[vP, vW]) ∧ Wl w w' vP vW (wlsV kind F T i) n := by
  have eg := kfn_enters kind
  obtain ⟨fl, win, hd⟩ := win_facts (kind := kind) h
  obtain ⟨M1, M2⟩ := mid_size h
  have hr := rea_size (kind := kind) (m := (max F T : Nat)) (by have := h.f1; omega)
  obtain ⟨mx, hmx⟩ : ∃ mx : Nat, mx = max F T := ⟨_, rfl⟩
  have hmx1 : 1 ≤ mx := by have := h.f1; omega
  have hmx2 : mx ≤ 1024 := by have := h.f2; have := h.t2; omega
  have HCd : Hid (∀ (x y : Int) (W : World), 0 < y → -4611686018427387904 ≤ x → x ≤ 4611686018427387904 → y ≤ 4611686018427387904 → Calls Try.prog 48 #[.int .i64 x, .int .i64 y] W fun e w' => e = .returned (.tuple #[.int .i64 (x / y), .int .i64 (x % y)]) ∧ Q W w') := fun x y W h1 h2 h3 h4 => div_any x y W h1 h2 h3 h4
  have HCk : Hid (∀ (d : Int) (W : World), W.cell? ⟨b, 0, none⟩ = some (.int .i64 (kbx kind (max F T : Nat))) → -8192 ≤ d → d ≤ 8192 → Calls Try.prog (kfn kind) #[.int .i64 d, .pointer (some ⟨b, 0, none⟩)] W fun e w' => e = .returned (.int .i64 (wgt kind (max F T : Nat) d)) ∧ Q W w') := fun d W h1 h2 h3 => kfn_any kind _ d b W hk h1 (by omega) (by omega) h2 h3
  have HB : Hid (w.cell? ⟨b, 0, none⟩ = some (.int .i64 (kbx kind (max F T : Nat)))) := hb
  have HD : Hid (∀ k, fstV kind F T i ≤ k → k ≤ lstV kind F T i → -8192 ≤ 2 * (T : Int) * k - midV F T i ∧ 2 * (T : Int) * k - midV F T i ≤ 4096) := hd
  have HW : Hid (wlsV kind F T i = wrun (wfV kind F T i) (plV F) (fstV kind F T i) (winV kind F T i)) := rfl
  have HFk : Hid (∀ k, wfV kind F T i k = wgt kind (max F T : Nat) (2 * (T : Int) * k - midV F T i)) := fun k => rfl
  have HBd : Hid (∀ j, j ≤ 100 → ∀ e ∈ wrun (wfV kind F T i) (plV F) (fstV kind F T i) j, -1717986918400 ≤ e.2 ∧ e.2 ≤ 1717986918400) := fun j hj e he => by
    have := wrun_bound (f := wfV kind F T i) (pl := plV F) (a := fstV kind F T i) (B := 17179869184) (by decide) (fun k => wgt_size (by omega) (by omega)) j e he
    omega
  have HWs : Hid (∀ k, -17179869184 ≤ wfV kind F T i k ∧ wfV kind F T i k ≤ 17179869184) := fun k => wgt_size (by omega) (by omega)
  rw [← hmx] at hr ⊢
  obtain ⟨R, hR⟩ : ∃ R, R = rea kind mx := ⟨_, rfl⟩
  rw [← hR] at hr ⊢
  have HR : Hid (R = rea kind (max F T : Nat)) := by rw [← hmx]; exact hR
  obtain ⟨N, hN⟩ : ∃ N : Nat, lstV kind F T i - fstV kind F T i + 1 = (N : Int) := ⟨winV kind F T i, by unfold winV; omega⟩
  have hN2 : N ≤ 62 := by omega
  have HN : Hid (winV kind F T i = N) := by show _ = N; unfold winV; omega
  obtain ⟨mi, hmi⟩ : ∃ mi, midV F T i = mi := ⟨_, rfl⟩
  obtain ⟨fs, hfs⟩ : ∃ fs, fstV kind F T i = fs := ⟨_, rfl⟩
  obtain ⟨ls, hls⟩ : ∃ ls, lstV kind F T i = ls := ⟨_, rfl⟩
  have HQ1 : Hid ((mi - R) / (2 * (T : Int)) = fs ∧ (mi + R) / (2 * (T : Int)) = ls) := by rw [← hfs, ← hls, ← hmi, HR.out]; exact ⟨rfl, rfl⟩
  have hmi' : (2 * (i : Int) + 1) * (F : Int) - (T : Int) = mi := hmi
  obtain ⟨pr, hpr⟩ : ∃ pr, (2 * (i : Int) + 1) * (F : Int) = pr := ⟨_, rfl⟩
  rw [hpr] at hmi'
  obtain ⟨st, hst⟩ : ∃ st : Int, 2 * (T : Int) = st := ⟨_, rfl⟩
  obtain ⟨f1, f2, t1, t2, hi, ft⟩ := h
  obtain ⟨F1, hF1⟩ : ∃ F1 : Nat, F = F1 + 1 := ⟨F - 1, by omega⟩
  have eF1 : (F : Int) - 1 = (F1 : Int) := by omega
  have hst1 : 0 < st := by omega
  have hst2 : st ≤ 2048 := by omega
  rw [hmi] at M1 M2 HD
  rw [hfs] at HD hN fl
  rw [hls] at HD hN fl
  rw [hst] at HQ1 HD
  have HFk2 : Hid (∀ k, wfV kind F T i k = wgt kind (max F T : Nat) (st * k - mi)) := fun k => by rw [HFk.out k, hmi, hst]
  have hfs1 : -9216 ≤ fs := lo_of (B := 9216) (s := st) (by omega) (by decide) (by have := (HD.out fs (Int.le_refl _) fl).1; omega)
  have hls1 : ls ≤ 2101248 := hi_of (B := 2101248) (s := st) (by omega) (by decide) (by have := (HD.out ls fl (Int.le_refl _)).2; omega)
  have hR1 : 1 ≤ R := by omega
  have hR2 : R ≤ 4096 := by omega
  have hpr1 : -2048 ≤ pr := by omega
  have hpr2 : pr ≤ 4194304 := by omega
  have HP : Hid (∀ k, plV F k = min (max k 0) (F1 : Int)) := fun k => by unfold plV; rw [eF1]
  generalize hkf : kfn kind = fg at HCk eg ⊢
  have HE : Hid (wlsV kind F T i = wrun (wfV kind F T i) (plV F) fs N) := by
    show wlsV kind F T i = _
    rw [HW.out, HN.out, hfs]
  rw [hfs] at HBd
  rw [HE.out]
  generalize hwf : wfV kind F T i = wf at HFk2 HBd HWs ⊢
  have HCk2 : Hid (∀ (k d : Int) (W : World), d = st * k - mi → Q w W → -8192 ≤ d → d ≤ 8192 → Calls Try.prog fg #[.int .i64 d, .pointer (some ⟨b, 0, none⟩)] W fun e w' => e = .returned (.int .i64 (wf k)) ∧ Q W w') := fun k d W hd hq h1 h2 => by
    rw [HFk2.out k, ← hd]
    exact HCk.out d W (hq.cell HB.out) h1 h2
  clear HFk HFk2 HCk HB hb hk HW HE HN HR hR hr hmx hkf hwf hd M1 win hfs hls hmi hF1
  go_enter Try.func37, Try.ntmps37
  go_wp2_with fail
  refine (HCd.out (mi - R) st _ hst1 (by omega) (by omega) (by omega)).mono ?_
  rintro e w2 ⟨rfl, q2⟩
  rw [HQ1.out.1]
  have c0 : w2.cell? ⟨w.heap.size, 0, none⟩ = some (.int .i64 R) := q2.cell (by simp [go_sem])
  have c1 : w2.cell? ⟨w.heap.size, 1, none⟩ = some (.func (.func fg) #[] #[.pointer (some ⟨b, 0, none⟩)]) := q2.cell (by simp [go_sem])
  have HQ2 : Hid (Q w w2) := ((Q.refl w).cells _ _).trans q2
  clear q2
  go_wp2_with fail
  refine (HCd.out (mi + R) st _ hst1 (by omega) (by omega) (by omega)).mono ?_
  rintro e w3 ⟨rfl, q3⟩
  rw [HQ1.out.2]
  have c1 : w3.cell? ⟨w.heap.size, 1, none⟩ = some (.func (.func fg) #[] #[.pointer (some ⟨b, 0, none⟩)]) := q3.cell c1
  have HC1 : Hid (w3.cell? ⟨w.heap.size, 1, none⟩ = some (.func (.func fg) #[] #[.pointer (some ⟨b, 0, none⟩)])) := c1
  have HQ3 : Hid (Q w w3) := HQ2.out.trans q3
  clear q3 HQ2 c0 c1
  go_wp2_with fail
  go_loopg [8, 9, 52] N (fun gh s8 s9 s52 wr => ∃ (j n : Nat) (aP aW : Option Addr) (cP cW : Nat), s8 = .slice aP n cP ∧ s9 = .slice aW n cW ∧ s52 = .int .i64 (j : Int) ∧ j ≤ N ∧ gh = N - j ∧ n ≤ j ∧ Hid (Wl w3 wr (.slice aP n cP) (.slice aW n cW) (wrun wf (plV F) fs j) n))
  case atStart => exact ⟨0, 0, none, none, 0, 0, rfl, rfl, rfl, Nat.zero_le _, rfl, Nat.le_refl _, Wl.start w3⟩
  case round =>
    obtain ⟨j, n, aP, aW, cP, cW, rfl, rfl, rfl, hj, rfl, hnj, HL⟩ := hrel
    by_cases hlt : j < N
    · have hltz : (j : Int) < (N : Int) := by omega
      obtain ⟨k, hk⟩ : ∃ k, fs + (j : Int) = k := ⟨_, rfl⟩
      obtain ⟨pq, hpq⟩ : ∃ pq, st * k = pq := ⟨_, rfl⟩
      obtain ⟨d, hd⟩ : ∃ d, pq - mi = d := ⟨_, rfl⟩
      have bd := HD.out k (by omega) (by omega)
      rw [hpq, hd] at bd
      obtain ⟨bd1, bd2⟩ := bd
      have bp1 : -16777216 ≤ pq := by omega
      have bp2 : pq ≤ 16777216 := by omega
      have bk1 : -9216 ≤ k := by omega
      have bk2 : k ≤ 2101248 := by omega
      have c1 := HL.out.q.cell HC1.out
      have C := HCk2.out k d wr (by rw [hpq, hd]) (HQ3.out.trans HL.out.q) bd1 (by omega)
      obtain ⟨nn, hnn⟩ : ∃ nn, wf k = nn := ⟨_, rfl⟩
      rw [hnn] at C
      have bn := HWs.out k
      rw [hnn] at bn
      obtain ⟨bn1, bn2⟩ := bn
      have HX : Hid (wrun wf (plV F) fs (j + 1) = wput (wrun wf (plV F) fs j) (plV F k) nn) := by
        show wput (wrun wf (plV F) fs j) (plV F (fs + j)) (wf (fs + j)) = _
        rw [hk, hnn]
      have HBj := HBd.out j (by omega)
      have HBJ : Hid _ := HBj
      clear HBj hnn
      go_wp2_with fail
      refine C.mono ?_
      rintro e w5 ⟨rfl, q5⟩
      clear C c1
      have HL5 : Hid (Wl w3 w5 (.slice aP n cP) (.slice aW n cW) (wrun wf (plV F) fs j) n) := HL.out.next q5
      clear q5 HL
      by_cases hz : nn = 0
      · subst hz
        have HL6 : Hid (Wl w3 w5 (.slice aP n cP) (.slice aW n cW) (wrun wf (plV F) fs (j + 1)) n) := by rw [HX.out, wput_zero]; exact HL5.out
        clear HL5 HX
        go_wp2_with fail
        go_roundg (N - (j + 1))
        case measure => go_light; omega
        case rel => go_light; exact ⟨j + 1, n, aP, aW, cP, cW, rfl, rfl, by simp, by omega, rfl, by omega, HL6⟩
      · have hz' : (nn == 0) = false := by simpa using hz
        have hmxk : ∀ (ts : Array TypeId) (t : TypeId) (w : World), (Builtin.max_ ts t #[.int .i64 k, .int .i64 0]).run Try.prog w = .ok (.int .i64 (max k 0)) w := fun ts t w => run_mx2 ts t _ _ w
        obtain ⟨mk, hmk⟩ : ∃ mk, max k 0 = mk := ⟨_, rfl⟩
        rw [hmk] at hmxk
        have hmnk : ∀ (ts : Array TypeId) (t : TypeId) (w : World), (Builtin.min_ ts t #[.int .i64 mk, .int .i64 (F1 : Int)]).run Try.prog w = .ok (.int .i64 (min mk (F1 : Int))) w := fun ts t w => run_mn2 ts t _ _ w
        obtain ⟨p, hp⟩ : ∃ p, min mk (F1 : Int) = p := ⟨_, rfl⟩
        rw [hp] at hmnk
        have hpl : plV F k = p := by rw [HP.out k, hmk, hp]
        rw [hpl] at HX
        clear hmk hp hpl
        rcases wput_cases (wrun wf (plV F) fs j) p nn with ⟨_, e⟩ | ⟨_, he, hne⟩ | ⟨M, x, _, hM, he⟩
        · exact absurd e hz
        · -- a new place
          obtain ⟨gP, c2, x2, gW, c4, x4, r1, r2, HN6⟩ := HL5.out.app p nn (by omega)
          have HL6 : Hid (Wl w3 x4 (.slice (some ⟨gP, 0, none⟩) (n + 1) c2) (.slice (some ⟨gW, 0, none⟩) (n + 1) c4) (wrun wf (plV F) fs (j + 1)) (n + 1)) := by rw [HX.out, he]; exact HN6
          clear HN6
          by_cases hn0 : n = 0
          · subst hn0
            clear HL5 HX hne he
            go_wp2_with (at_builtin; go_must (first | refine wpList_appK (.tmp 93) (.tmp 95) 51 rfl rfl (by simp [Act.eval, Act.put]) (by simp [Act.eval, Act.put]) r1 ?_ | refine wpList_appK (.tmp 97) (.tmp 99) 51 rfl rfl (by simp [Act.eval, Act.put]) (by simp [Act.eval, Act.put]) r2 ?_))
            go_roundg (N - (j + 1))
            case measure => go_light; omega
            case rel => go_light; exact ⟨j + 1, 0 + 1, _, _, _, _, rfl, rfl, by simp, by omega, rfl, by omega, HL6⟩
          · obtain ⟨n', hn'⟩ : ∃ n', n = n' + 1 := ⟨n - 1, by omega⟩
            have en' : (n : Int) - 1 = (n' : Int) := by omega
            have hlen := HL5.out.len
            obtain ⟨M, ⟨pp, xx⟩, hM⟩ : ∃ M e, wrun wf (plV F) fs j = M ++ [e] := by
              have hne0 : wrun wf (plV F) fs j ≠ [] := fun e => by rw [e] at hlen; exact hn0 hlen
              exact ⟨_, _, (List.dropLast_concat_getLast hne0).symm⟩
            have hpp : pp ≠ p := hne (pp, xx) (by rw [hM]; simp)
            rw [hM] at HL5
            obtain ⟨g1, d1, g2, d2, e1, e2, e3, k1, k2, k3, _⟩ := HL5.out.last
            injection e1 with e1a e1b e1c
            injection e2 with e2a e2b e2c
            subst e1a e1c e2a e2c
            have hM1 : M.length = n' := by omega
            rw [hM1] at k1
            have hpp' : (pp == p) = false := by simpa using hpp
            have hn2 : (0 : Int) ≤ (n' : Int) := by omega
            have hn3 : (n' : Int) < (n : Int) := by omega
            have hn4 : n' < n := by omega
            clear HL5 HX hne he hlen hM e3 k2 k3 e1b e2b hM1 hn'
            go_wp2_with (at_builtin; go_must (first | refine wpList_appK (.tmp 93) (.tmp 95) 51 rfl rfl (by simp [Act.eval, Act.put]) (by simp [Act.eval, Act.put]) r1 ?_ | refine wpList_appK (.tmp 97) (.tmp 99) 51 rfl rfl (by simp [Act.eval, Act.put]) (by simp [Act.eval, Act.put]) r2 ?_))
            go_roundg (N - (j + 1))
            case measure => go_light; omega
            case rel => go_light; exact ⟨j + 1, n + 1, _, _, _, _, rfl, rfl, by simp, by omega, rfl, by omega, HL6⟩
        · -- the last place again
          have bx := HBJ.out (p, x) (by rw [hM]; simp)
          simp only at bx
          obtain ⟨bx1, bx2⟩ := bx
          rw [hM] at HL5
          obtain ⟨g1, d1, g2, d2, e1, e2, e3, k1, k2, k3, kS⟩ := HL5.out.last
          injection e1 with e1a e1b e1c
          injection e2 with e2a e2b e2c
          subst e1a e1c e2a e2c
          obtain ⟨n', hM1⟩ : ∃ n', M.length = n' := ⟨_, rfl⟩
          rw [hM1] at k1 k2 k3 kS e3
          have en' : (n : Int) - 1 = (n' : Int) := by omega
          have hn2 : (0 : Int) ≤ (n' : Int) := by omega
          have hn3 : (n' : Int) < (n : Int) := by omega
          have hn4 : n' < n := by omega
          have HL6 : Hid (Wl w3 (w5.setCell ⟨g2, n', none⟩ (.int .i64 (x + nn))) (.slice (some ⟨g1, 0, none⟩) n cP) (.slice (some ⟨g2, 0, none⟩) n cW) (wrun wf (plV F) fs (j + 1)) n) := by rw [HX.out, he]; exact kS (x + nn)
          clear HL5 HX he hM kS e3 e1b e2b hM1
          go_wp2_with fail
          generalize w5.setCell ⟨g2, n', none⟩ (.int .i64 (x + nn)) = w6 at HL6 ⊢
          go_roundg (N - (j + 1))
          case measure => go_light; omega
          case rel => go_light; exact ⟨j + 1, n, _, _, _, _, rfl, rfl, by simp, by omega, rfl, by omega, HL6⟩
    · have hge : ¬ (j : Int) < (N : Int) := by omega
      obtain rfl : j = N := by omega
      go_wp2_with fail
      go_ret2
      exact ⟨_, _, rfl, n, HL.out.base HQ3.out⟩
end Go.Proofs.Ytdbbpmadkhedlaa
/- kernel.Taps. -/
namespace Go.Proofs.Ytdbbpmadkhedlaa
open Go.RowKit
set_option linter.unusedVariables false
set_option linter.unusedSimpArgs false

set_option maxHeartbeats 1000000 in
theorem iskind_any (k : Int) (w : World) : Calls Try.prog 35 #[.int .i64 k] w fun e w' => e = .returned (.bool (decide (1 ≤ k ∧ k ≤ 3))) ∧ w' = w := by
  by_cases h1 : 1 ≤ k
  · by_cases h2 : k ≤ 3
    · rw [decide_eq_true ⟨h1, h2⟩]
      go_enter Try.func35, Try.ntmps35
      go_wp2_with fail
      go_ret
      exact ⟨by first | rfl | simp, rfl⟩
    · rw [decide_eq_false (fun h => h2 h.2)]
      go_enter Try.func35, Try.ntmps35
      go_wp2_with fail
      go_ret
      exact ⟨by first | rfl | (simp; omega), rfl⟩
  · rw [decide_eq_false (fun h => h1 h.1)]
    go_enter Try.func35, Try.ntmps35
    go_wp2_with fail
    go_ret
    exact ⟨by first | rfl | (simp; omega), rfl⟩
set_option maxHeartbeats 1000000 in
theorem isside_any (k : Int) (w : World) : Calls Try.prog 36 #[.int .i64 k] w fun e w' => e = .returned (.bool (decide (1 ≤ k ∧ k ≤ 1024))) ∧ w' = w := by
  by_cases h1 : 1 ≤ k
  · by_cases h2 : k ≤ 1024
    · rw [decide_eq_true ⟨h1, h2⟩]
      go_enter Try.func36, Try.ntmps36
      go_wp2_with fail
      go_ret
      exact ⟨by first | rfl | simp, rfl⟩
    · rw [decide_eq_false (fun h => h2 h.2)]
      go_enter Try.func36, Try.ntmps36
      go_wp2_with fail
      go_ret
      exact ⟨by first | rfl | (simp; omega), rfl⟩
  · rw [decide_eq_false (fun h => h1 h.1)]
    go_enter Try.func36, Try.ntmps36
    go_wp2_with fail
    go_ret
    exact ⟨by first | rfl | (simp; omega), rfl⟩
/-- Which error Taps tells. -/
def tapE (kind F T i : Int) : Int := if 1 ≤ kind ∧ kind ≤ 3 then (if (1 ≤ F ∧ F ≤ 1024) ∧ (1 ≤ T ∧ T ≤ 1024) ∧ 0 ≤ i ∧ i < T then (if F ≤ 15 * T then 0 else 92) else 91) else 90
set_option maxHeartbeats 4000000 in
set_option maxRecDepth 100000 in
theorem taps_bad (kind F T i : Int) (w : World) (hE : tapE kind F T i ≠ 0) :
    Calls Try.prog 16 #[.int .i64 kind, .int .i64 F, .int .i64 T, .int .i64 i] w fun e w' => e = .returned (.tuple #[.slice none 0 0, .int .i64 (tapE kind F T i)]) ∧ w' = w := by
  have K := iskind_any kind w
  have SF := isside_any F w
  have ST := isside_any T w
  have E : Hid (tapE kind F T i = if 1 ≤ kind ∧ kind ≤ 3 then (if (1 ≤ F ∧ F ≤ 1024) ∧ (1 ≤ T ∧ T ≤ 1024) ∧ 0 ≤ i ∧ i < T then (if F ≤ 15 * T then 0 else 92) else 91) else 90) := rfl
  rw [E.out] at hE ⊢
  clear E
  by_cases hk : 1 ≤ kind ∧ kind ≤ 3
  · rw [if_pos hk] at hE ⊢
    rw [decide_eq_true hk] at K
    by_cases hf : 1 ≤ F ∧ F ≤ 1024
    · rw [decide_eq_true hf] at SF
      by_cases ht : 1 ≤ T ∧ T ≤ 1024
      · rw [decide_eq_true ht] at ST
        by_cases h0 : 0 ≤ i
        · by_cases hi : i < T
          · rw [if_pos ⟨hf, ht, h0, hi⟩] at hE ⊢
            by_cases hft : F ≤ 15 * T
            · rw [if_pos hft] at hE; exact absurd rfl hE
            · rw [if_neg hft]
              have a1 : ¬ i < 0 := by omega
              have a2 : ¬ T ≤ i := by omega
              have a3 : 15 * T < F := by omega
              obtain ⟨t1, t2⟩ := ht
              clear hE hk hf hft h0
              go_enter Try.func16, Try.ntmps16
              go_wp2_with (first | (go_at_call 35; refine K.mono ?_; rintro e w' ⟨rfl, rfl⟩) | (go_at_call 36; refine SF.mono ?_; rintro e w' ⟨rfl, rfl⟩) | (go_at_call 36; refine ST.mono ?_; rintro e w' ⟨rfl, rfl⟩))
              go_ret2
              exact ⟨rfl, rfl⟩
          · rw [if_neg (fun h => hi h.2.2.2)]
            have a1 : ¬ i < 0 := by omega
            have a2 : T ≤ i := by omega
            clear hE hk hf ht h0 hi
            go_enter Try.func16, Try.ntmps16
            go_wp2_with (first | (go_at_call 35; refine K.mono ?_; rintro e w' ⟨rfl, rfl⟩) | (go_at_call 36; refine SF.mono ?_; rintro e w' ⟨rfl, rfl⟩) | (go_at_call 36; refine ST.mono ?_; rintro e w' ⟨rfl, rfl⟩))
            go_ret2
            exact ⟨rfl, rfl⟩
        · rw [if_neg (fun h => h0 h.2.2.1)]
          have a1 : i < 0 := by omega
          clear hE hk hf ht h0
          go_enter Try.func16, Try.ntmps16
          go_wp2_with (first | (go_at_call 35; refine K.mono ?_; rintro e w' ⟨rfl, rfl⟩) | (go_at_call 36; refine SF.mono ?_; rintro e w' ⟨rfl, rfl⟩) | (go_at_call 36; refine ST.mono ?_; rintro e w' ⟨rfl, rfl⟩))
          go_ret2
          exact ⟨rfl, rfl⟩
      · rw [if_neg (fun h => ht h.2.1)]
        rw [decide_eq_false ht] at ST
        clear hE hk hf ht
        go_enter Try.func16, Try.ntmps16
        go_wp2_with (first | (go_at_call 35; refine K.mono ?_; rintro e w' ⟨rfl, rfl⟩) | (go_at_call 36; refine SF.mono ?_; rintro e w' ⟨rfl, rfl⟩) | (go_at_call 36; refine ST.mono ?_; rintro e w' ⟨rfl, rfl⟩))
        go_ret2
        exact ⟨rfl, rfl⟩
    · rw [if_neg (fun h => hf h.1)]
      rw [decide_eq_false hf] at SF
      clear hE hk hf ST
      go_enter Try.func16, Try.ntmps16
      go_wp2_with (first | (go_at_call 35; refine K.mono ?_; rintro e w' ⟨rfl, rfl⟩) | (go_at_call 36; refine SF.mono ?_; rintro e w' ⟨rfl, rfl⟩))
      go_ret2
      exact ⟨rfl, rfl⟩
  · rw [if_neg hk]
    rw [decide_eq_false hk] at K
    clear hE hk SF ST
    go_enter Try.func16, Try.ntmps16
    go_wp2_with (go_at_call 35; refine K.mono ?_; rintro e w' ⟨rfl, rfl⟩)
    go_ret2
    exact ⟨rfl, rfl⟩
end Go.Proofs.Ytdbbpmadkhedlaa

/- kernel.weighed. -/
import Derived.Test.YtcolhgngiflkhaaG4e3e5a2a
import Derived.Test.YtcolhgngiflkhaaGa46c1e19
import Derived.Laws.OwnMore
namespace Go.Proofs.Ytcolhgngiflkhaa
open Go.RowKit
set_option linter.unusedVariables false
set_option linter.unusedSimpArgs false

def newsI (L : List Int) : List Value := L.map (Value.int .i64)
/-- Two lists of the call's own: places and weights. -/
structure Wl (w0 wr : World) (vP vW : Value) (L : List (Int × Int)) (n : Nat) : Prop where
  len : n = L.length
  p : wr.ownsRow w0.heap.size 3 1 vP n (newsI (L.map Prod.fst))
  w : wr.ownsRow w0.heap.size 3 1 vW n (newsI (L.map Prod.snd))
  ap : vP.ownBlock = none ∨ vP.ownBlock ≠ vW.ownBlock
  q : Q w0 wr
theorem wpList_appK {P : Program} {ops : Array Oper} {rest : List Oper} {o : Oper} {a : Act} {R : Exit → Act → World → Prop} {x x' : World} (s u : Operand) (t : TypeId) (hgd : o.guard = none) (ho : o.op = .call { callee := .builtin .append, args := #[s, u], argTypes := #[t, t] }) {v v' r : Value} (hs : a.eval s = v) (hu : a.eval u = v') (hr : (Builtin.append_ #[t, t] o.type #[v, v']).run P x = .ok r x') (h : wpList P ops R rest (a.put o.dst r) x') : wpList P ops R (o :: rest) a x := by
  refine wpList_plain hgd fun _ hK => ?_
  unfold Oper.wp execOp
  simp only [ho, resolve, invoke, builtin, Sem.run_bind, Sem.run_pure, Result.andThen_ok, List.map_toArray, List.map_cons, List.map_nil, hs, hu, hr]
  exact hK _ _ h
theorem own_q {w0 w w' : World} {base : Nat} {e : TypeId} {size n : Nat} {v : Value} {xs : List Value} (h : w.ownsRow base e size v n xs) (q : Q w w') : w'.ownsRow base e size v n xs := by
  refine ⟨h.1, ?_⟩
  rcases h.2 with c | ⟨g, cap, cur, h1, h2, h3, h4⟩
  · exact Or.inl c
  · exact Or.inr ⟨g, cap, cur, h1, h2, (q.1.block g (Array.getElem?_eq_some_iff.1 h3).1).trans h3, h4⟩
theorem Wl.next {w0 wr wx : World} {vP vW : Value} {L : List (Int × Int)} {n : Nat} (h : Wl w0 wr vP vW L n) (q : Q wr wx) : Wl w0 wx vP vW L n := ⟨h.len, own_q (w0 := w0) h.p q, own_q (w0 := w0) h.w q, h.ap, h.q.trans q⟩
theorem Wl.app {w0 wr : World} {vP vW : Value} {L : List (Int × Int)} {n : Nat} (h : Wl w0 wr vP vW L n) (p x : Int) (hn : n ≤ 100000) :
    ∃ gP cP x2 gW cW x4, (Builtin.append_ #[62, 62] 62 #[vP, .slice (some ⟨wr.heap.size, 0, none⟩) 1 1]).run Try.prog (wr.alloc (.cells #[.int .i64 p] 3)) = .ok (.slice (some ⟨gP, 0, none⟩) (n + 1) cP) x2 ∧
      (Builtin.append_ #[62, 62] 62 #[vW, .slice (some ⟨x2.heap.size, 0, none⟩) 1 1]).run Try.prog (x2.alloc (.cells #[.int .i64 x] 3)) = .ok (.slice (some ⟨gW, 0, none⟩) (n + 1) cW) x4 ∧
      Wl w0 x4 (.slice (some ⟨gP, 0, none⟩) (n + 1) cP) (.slice (some ⟨gW, 0, none⟩) (n + 1) cW) (L ++ [(p, x)]) (n + 1) := by
  obtain ⟨iu, i1, i2, i3, i4⟩ := iInfo
  have one : ∀ (W : World) (y : Int) (j : Nat) (u : Value), [Value.int .i64 y][j]? = some u → (W.alloc (.cells #[.int .i64 y] 3)).cell? ((⟨W.heap.size, 0, none⟩ : Addr).add j) = some u := fun W y j u hu => by
    cases j with
    | zero => cases hu; show (W.alloc (.cells #[.int .i64 y] 3)).cell? ⟨W.heap.size, 0, none⟩ = _; simp [go_sem]
    | succ j => cases hu
  have hq1 : Q w0 (wr.alloc (.cells #[.int .i64 p] 3)) := h.q.cells _ _
  have hp1 := h.p.alloc (.cells #[.int .i64 p] 3)
  have hw1 := h.w.alloc (.cells #[.int .i64 p] 3)
  obtain ⟨gP, cP, x2, r1, o1, q1, gb1, gg1⟩ := run_app_qg (P := Try.prog) (wr.alloc (.cells #[.int .i64 p] 3)) w0 hq1 62 62 3 iu _ 1 8 Try.underlying62 i1 i4 i2 i3 rfl (by decide) vP n _ hp1 ⟨wr.heap.size, 0, none⟩ 1 1 [.int .i64 p] rfl (one wr p) (fun u hu => by rw [List.mem_singleton.1 hu]; rfl) (by decide) (by unfold maxLen; omega) (by omega)
  have hne1 : vW.ownBlock = none ∨ vW.ownBlock ≠ vP.ownBlock := by
    rcases h.ap with e | e
    · by_cases c : vW.ownBlock = none
      · exact Or.inl c
      · exact Or.inr (by rw [e]; exact c)
    · exact Or.inr (fun k => e k.symm)
  have hw2 := hw1.kept gb1 hne1
  have hw3 := hw2.alloc (.cells #[.int .i64 x] 3)
  have hp3 := o1.alloc (.cells #[.int .i64 x] 3)
  have hsz : x2.heap.size ≤ (x2.alloc (.cells #[.int .i64 x] 3)).heap.size := by simp
  obtain ⟨gW, cW, x4, r2, o2, q2, gb2, gg2⟩ := run_app_qg (P := Try.prog) (x2.alloc (.cells #[.int .i64 x] 3)) w0 (q1.cells _ _) 62 62 3 iu _ 1 8 Try.underlying62 i1 i4 i2 i3 rfl (by decide) vW n _ hw3 ⟨x2.heap.size, 0, none⟩ 1 1 [.int .i64 x] rfl (one x2 x) (fun u hu => by rw [List.mem_singleton.1 hu]; rfl) (by decide) (by unfold maxLen; omega) (by omega)
  -- gP is not the block of the weights
  have hgP : vW.ownBlock ≠ some gP := by
    rcases gg1 with e | e
    · intro k
      rcases hne1 with c | c
      · rw [c] at k; cases k
      · exact c (by rw [k, e])
    · intro k
      have := (h.w.lt gP k).2
      rw [e] at this
      simp at this
      omega
  have hp4 := hp3.kept gb2 (Or.inr (show some gP ≠ _ from fun k => hgP k.symm))
  have hgPW : gP ≠ gW := by
    have lp := (o1.lt gP rfl).2
    rcases gg2 with e | e
    · intro k; exact hgP (by rw [e, k])
    · rw [e]; simp; omega
  refine ⟨gP, cP, x2, gW, cW, x4, r1, r2, by rw [h.len]; simp, ?_, ?_, Or.inr (fun k => hgPW (by injection k)), q2⟩
  · have e : newsI ((L ++ [(p, x)]).map Prod.fst) = newsI (L.map Prod.fst) ++ [.int .i64 p] := by simp [newsI]
    rw [e]; exact hp4
  · have e : newsI ((L ++ [(p, x)]).map Prod.snd) = newsI (L.map Prod.snd) ++ [.int .i64 x] := by simp [newsI]
    rw [e]; exact o2
/-- The last of both lists. -/
theorem Wl.last {w0 wr : World} {vP vW : Value} {M : List (Int × Int)} {p x : Int} {n : Nat} (h : Wl w0 wr vP vW (M ++ [(p, x)]) n) : ∃ gP cP gW cW, vP = .slice (some ⟨gP, 0, none⟩) n cP ∧ vW = .slice (some ⟨gW, 0, none⟩) n cW ∧ n = M.length + 1 ∧ wr.cell? ⟨gP, M.length, none⟩ = some (.int .i64 p) ∧ wr.cell? ⟨gW, M.length, none⟩ = some (.int .i64 x) ∧ wr.frozen? ⟨gW, M.length, none⟩ = false ∧
    ∀ y, Wl w0 (wr.setCell ⟨gW, M.length, none⟩ (.int .i64 y)) vP vW (M ++ [(p, y)]) n := by
  have hn : n = M.length + 1 := by rw [h.len]; simp
  rcases h.p.2 with ⟨_, e⟩ | ⟨gP, cP, cur, e1, b1, h1, h2⟩
  · omega
  · rcases h.w.2 with ⟨_, e⟩ | ⟨gW, cW, cur', e1', b1', h1', h2'⟩
    · omega
    · subst e1 e1'
      have c1 := h.p.cellAt M.length (by omega)
      have c2 := h.w.cellAt M.length (by omega)
      have f2 := h.w.frozenAt M.length
      rw [show (newsI ((M ++ [(p, x)]).map Prod.fst))[M.length]? = some (.int .i64 p) by simp [newsI]] at c1
      rw [show (newsI ((M ++ [(p, x)]).map Prod.snd))[M.length]? = some (.int .i64 x) by simp [newsI]] at c2
      refine ⟨gP, cP, gW, cW, rfl, rfl, hn, c1, c2, f2, fun y => ?_⟩
      obtain ⟨s1, s2⟩ := h.w.stored M.length (.int .i64 y)
      have hap : gP ≠ gW := by
        rcases h.ap with k | k
        · cases k
        · exact fun e => k (by rw [e]; rfl)
      refine ⟨by rw [h.len]; simp, ?_, ?_, h.ap, h.q.set b1' _⟩
      · have e : newsI ((M ++ [(p, y)]).map Prod.fst) = newsI ((M ++ [(p, x)]).map Prod.fst) := by simp [newsI]
        rw [e]
        exact h.p.kept s2 (Or.inr (fun k => hap (by injection k)))
      · have e : newsI ((M ++ [(p, y)]).map Prod.snd) = (newsI ((M ++ [(p, x)]).map Prod.snd)).set M.length (.int .i64 y) := by
          simp [newsI, List.set_append]
        rw [e]; exact s1
theorem Wl.form {w0 wr : World} {vP vW : Value} {L : List (Int × Int)} {n : Nat} (h : Wl w0 wr vP vW L n) : ∃ aP cP aW cW, vP = .slice aP n cP ∧ vW = .slice aW n cW := by
  rcases h.p.2 with ⟨e1, e⟩ | ⟨gP, cP, cur, e1, _⟩
  · subst e
    rcases h.w.2 with ⟨e1', e⟩ | ⟨gW, cW, cur', e1', _⟩
    · exact ⟨none, 0, none, 0, e1, e1'⟩
    · exact ⟨none, 0, _, cW, e1, e1'⟩
  · rcases h.w.2 with ⟨e1', e⟩ | ⟨gW, cW, cur', e1', _⟩
    · subst e; exact ⟨_, cP, none, 0, e1, e1'⟩
    · exact ⟨_, cP, _, cW, e1, e1'⟩
theorem Wl.start (w : World) : Wl w w (.slice none 0 0) (.slice none 0 0) [] 0 := ⟨rfl, World.ownsRow_nil _ _ _ _, World.ownsRow_nil _ _ _ _, Or.inl rfl, Q.refl w⟩
end Go.Proofs.Ytcolhgngiflkhaa
/- kernel.weighed, walked. -/
namespace Go.Proofs.Ytcolhgngiflkhaa
open Go.RowKit
set_option linter.unusedVariables false
set_option linter.unusedSimpArgs false

/-- Where a new place's middle lies. -/
def midV (F T i : Nat) : Int := (2 * (i : Int) + 1) * (F : Int) - (T : Int)
def fstV (kind : Int) (F T i : Nat) : Int := (midV F T i - rea kind (max F T : Nat)) / (2 * (T : Int))
def lstV (kind : Int) (F T i : Nat) : Int := (midV F T i + rea kind (max F T : Nat)) / (2 * (T : Int))
/-- The weight of place k. -/
def wfV (kind : Int) (F T i : Nat) (k : Int) : Int := wgt kind (max F T : Nat) (2 * (T : Int) * k - midV F T i)
def plV (F : Nat) (k : Int) : Int := min (max k 0) ((F : Int) - 1)
def winV (kind : Int) (F T i : Nat) : Nat := (lstV kind F T i - fstV kind F T i + 1).toNat
/-- The places of a new place, and what they weigh. -/
def wlsV (kind : Int) (F T i : Nat) : List (Int × Int) := wrun (wfV kind F T i) (plV F) (fstV kind F T i) (winV kind F T i)
structure Sz (F T i : Nat) : Prop where
  f1 : 1 ≤ F
  f2 : F ≤ 1024
  t1 : 1 ≤ T
  t2 : T ≤ 1024
  i : i < T
  ft : F ≤ 15 * T
theorem mid_size {F T i : Nat} (h : Sz F T i) : -1024 ≤ midV F T i ∧ midV F T i ≤ 2097152 := by
  unfold midV
  have := mul_bd (x := 2 * (i : Int) + 1) (X := 2047) (y := (F : Int)) (Y := 1024) (by omega) (by have := h.i; have := h.t2; omega) (by omega) (by have := h.f2; omega)
  have := h.t2
  omega
theorem win_facts {kind : Int} {F T i : Nat} (h : Sz F T i) : fstV kind F T i ≤ lstV kind F T i ∧ lstV kind F T i - fstV kind F T i ≤ 61 ∧
    ∀ k, fstV kind F T i ≤ k → k ≤ lstV kind F T i → -8192 ≤ 2 * (T : Int) * k - midV F T i ∧ 2 * (T : Int) * k - midV F T i ≤ 4096 := by
  obtain ⟨f1, f2, t1, t2, hi, ft⟩ := h
  have hT : 0 < 2 * (T : Int) := by omega
  have hr := rea_size (kind := kind) (m := (max F T : Nat)) (by omega)
  have a1 := Int.mul_ediv_add_emod (midV F T i - rea kind (max F T : Nat)) (2 * (T : Int))
  have a2 := Int.emod_nonneg (midV F T i - rea kind (max F T : Nat)) (by omega : 2 * (T : Int) ≠ 0)
  have a3 := Int.emod_lt_of_pos (midV F T i - rea kind (max F T : Nat)) hT
  have b1 := Int.mul_ediv_add_emod (midV F T i + rea kind (max F T : Nat)) (2 * (T : Int))
  have b2 := Int.emod_nonneg (midV F T i + rea kind (max F T : Nat)) (by omega : 2 * (T : Int) ≠ 0)
  have b3 := Int.emod_lt_of_pos (midV F T i + rea kind (max F T : Nat)) hT
  change 2 * (T : Int) * fstV kind F T i + _ = _ at a1
  change 2 * (T : Int) * lstV kind F T i + _ = _ at b1
  have hm1 : (max F T : Nat) ≤ 15 * T := by omega
  have hm2 : (max F T : Nat) ≤ 1024 := by omega
  generalize rea kind (max F T : Nat) = R at *
  generalize midV F T i = M at *
  generalize (M - R) % (2 * (T : Int)) = e1 at *
  generalize (M + R) % (2 * (T : Int)) = e2 at *
  generalize fstV kind F T i = f at *
  generalize lstV kind F T i = l at *
  have hfl : f ≤ l := by
    rcases Int.lt_or_le l f with c | c
    · have h1 : 2 * (T : Int) * (l + 1) ≤ 2 * (T : Int) * f := Int.mul_le_mul_of_nonneg_left (by omega) (by omega)
      rw [Int.mul_add] at h1
      omega
    · exact c
  refine ⟨hfl, ?_, fun k k1 k2 => ?_⟩
  · rcases Int.lt_or_le 61 (l - f) with c | c
    · have h1 : 2 * (T : Int) * (f + 62) ≤ 2 * (T : Int) * l := Int.mul_le_mul_of_nonneg_left (by omega) (by omega)
      rw [Int.mul_add] at h1
      omega
    · exact c
  · have h1 : 2 * (T : Int) * f ≤ 2 * (T : Int) * k := Int.mul_le_mul_of_nonneg_left k1 (by omega)
    have h2 : 2 * (T : Int) * k ≤ 2 * (T : Int) * l := Int.mul_le_mul_of_nonneg_left k2 (by omega)
    omega
/-- Cubic's weights: not below 0 near the middle, and how great they are. -/
theorem cub_near {c b : Int} (hc : 0 ≤ c) (h : c < b) : 0 ≤ cubV c b ∧ cubV c b ≤ 2 * (b * b * b) := by
  unfold cubV
  rw [if_pos h]
  obtain ⟨x, rfl⟩ : ∃ x, b = c + x := ⟨b - c, by omega⟩
  have hx : 0 ≤ x := by omega
  have p1 : 0 ≤ c * c * x := Int.mul_nonneg (Int.mul_nonneg hc hc) hx
  have p2 : 0 ≤ c * x * x := Int.mul_nonneg (Int.mul_nonneg hc hx) hx
  have p3 : 0 ≤ x * x * x := Int.mul_nonneg (Int.mul_nonneg hx hx) hx
  have p4 : 0 ≤ c * c * c := Int.mul_nonneg (Int.mul_nonneg hc hc) hc
  have e : 3 * c * c * c - 5 * c * c * (c + x) + 2 * (c + x) * (c + x) * (c + x) = c * c * x + 6 * (c * x * x) + 2 * (x * x * x) := by grind
  have e2 : (c + x) * (c + x) * (c + x) = c * c * c + 3 * (c * c * x) + 3 * (c * x * x) + x * x * x := by grind
  rw [e, e2]
  omega
theorem cub_far {c b : Int} (hb : 0 ≤ b) (h1 : b ≤ c) (h2 : c < 2 * b) : -(b * b * b) ≤ cubV c b ∧ cubV c b ≤ 0 := by
  unfold cubV
  rw [if_neg (by omega), if_pos h2]
  obtain ⟨x, rfl⟩ : ∃ x, c = b + x := ⟨c - b, by omega⟩
  obtain ⟨y, rfl⟩ : ∃ y, b = x + y := ⟨b - x, by omega⟩
  have hx : 0 ≤ x := by omega
  have hy : 0 ≤ y := by omega
  have p1 : 0 ≤ x * y * y := Int.mul_nonneg (Int.mul_nonneg hx hy) hy
  have p2 : 0 ≤ x * x * y := Int.mul_nonneg (Int.mul_nonneg hx hx) hy
  have p3 : 0 ≤ x * x * x := Int.mul_nonneg (Int.mul_nonneg hx hx) hx
  have p4 : 0 ≤ y * y * y := Int.mul_nonneg (Int.mul_nonneg hy hy) hy
  have e : -(x + y + x) * (x + y + x) * (x + y + x) + 5 * (x + y + x) * (x + y + x) * (x + y) - 8 * (x + y + x) * (x + y) * (x + y) + 4 * (x + y) * (x + y) * (x + y) = -(x * y * y) := by grind
  have e2 : (x + y) * (x + y) * (x + y) = x * x * x + 3 * (x * x * y) + 3 * (x * y * y) + y * y * y := by grind
  rw [e, e2]
  omega
theorem cub_size {c b : Int} (hc : 0 ≤ c) (hb : 0 ≤ b) (hb2 : b ≤ 2048) : -17179869184 ≤ cubV c b ∧ cubV c b ≤ 17179869184 := by
  have m2 := mul_bd hb hb2 hb hb2
  have m3 := mul_bd m2.1 m2.2 hb hb2
  by_cases h1 : c < b
  · have := cub_near hc h1; omega
  · by_cases h2 : c < 2 * b
    · have := cub_far hb (by omega) h2; omega
    · unfold cubV; rw [if_neg h1, if_neg h2]; omega
theorem wgt_size {kind m d : Int} (m0 : 1 ≤ m) (m1 : m ≤ 1024) : -17179869184 ≤ wgt kind m d ∧ wgt kind m d ≤ 17179869184 := by
  unfold wgt
  have ha : 0 ≤ absI d := by unfold absI; omega
  split
  · split <;> omega
  · split
    · omega
    · exact cub_size ha (by omega) (by omega)
theorem wls_bound {kind : Int} {F T i : Nat} (h : Sz F T i) : (wlsV kind F T i).length ≤ 62 ∧ ∀ e ∈ wlsV kind F T i, -1099511627776 ≤ e.2 ∧ e.2 ≤ 1099511627776 := by
  have hw := (win_facts (kind := kind) h).2.1
  have hn : winV kind F T i ≤ 62 := by unfold winV; omega
  refine ⟨Nat.le_trans (wrun_len _ _ _ _) hn, fun e he => ?_⟩
  have := wrun_bound (f := wfV kind F T i) (pl := plV F) (a := fstV kind F T i) (B := 17179869184) (by decide) (fun k => wgt_size (by have := h.f1; omega) (by have := h.f2; have := h.t2; omega)) (winV kind F T i) e he
  omega
end Go.Proofs.Ytcolhgngiflkhaa
/- Weights sum to more than 0: plain. -/
namespace Go.Proofs.Ytcolhgngiflkhaa
set_option linter.unusedVariables false
set_option linter.unusedSimpArgs false

theorem sumF_split (f : Nat → Int) (a : Nat) : ∀ b, sumF f (a + b) = sumF f a + sumF (fun i => f (a + i)) b
  | 0 => by simp [sumF]
  | b + 1 => by show sumF f (a + b) + f (a + b) = _ + (sumF (fun i => f (a + i)) b + f (a + b)); rw [sumF_split f a b]; omega
/-- Cubic's weights, from below: close to the middle, near, far. -/
theorem cub_mid {c m : Int} (hc : 0 ≤ c) (hm : c ≤ m) (h0 : 0 < m) : 9 * (m * m * m) ≤ cubV c (2 * m) := by
  unfold cubV
  rw [if_pos (by omega)]
  obtain ⟨x, rfl⟩ : ∃ x, m = c + x := ⟨m - c, by omega⟩
  have hx : 0 ≤ x := by omega
  have p1 : 0 ≤ c * c * x := Int.mul_nonneg (Int.mul_nonneg hc hc) hx
  have p2 : 0 ≤ c * x * x := Int.mul_nonneg (Int.mul_nonneg hc hx) hx
  have p3 : 0 ≤ x * x * x := Int.mul_nonneg (Int.mul_nonneg hx hx) hx
  have p4 : 0 ≤ c * c * c := Int.mul_nonneg (Int.mul_nonneg hc hc) hc
  have e : 3 * c * c * c - 5 * c * c * (2 * (c + x)) + 2 * (2 * (c + x)) * (2 * (c + x)) * (2 * (c + x)) = 9 * (c * c * c) + 38 * (c * c * x) + 48 * (c * x * x) + 16 * (x * x * x) := by grind
  have e2 : (c + x) * (c + x) * (c + x) = c * c * c + 3 * (c * c * x) + 3 * (c * x * x) + x * x * x := by grind
  rw [e, e2]
  omega
/-- 27 times the weight is at least -32 m^3: x (2 m - x)^2 is at most (4 m / 3)^3 / 2 .. -/
theorem cub_low {c m : Int} (hc : 0 ≤ c) (h0 : 0 < m) : -(32 * (m * m * m)) ≤ 27 * cubV c (2 * m) := by
  have hm3 : 0 ≤ m * m * m := Int.mul_nonneg (Int.mul_nonneg (by omega) (by omega)) (by omega)
  by_cases h1 : c < 2 * m
  · have := (cub_near hc h1).1; omega
  · by_cases h2 : c < 2 * (2 * m)
    · unfold cubV
      rw [if_neg h1, if_pos h2]
      -- c = 2 m + x, 0 <= x < 2 m: the weight is -x (2 m - x)^2
      obtain ⟨x, rfl⟩ : ∃ x, c = 2 * m + x := ⟨c - 2 * m, by omega⟩
      have hx : 0 ≤ x := by omega
      have e : -(2 * m + x) * (2 * m + x) * (2 * m + x) + 5 * (2 * m + x) * (2 * m + x) * (2 * m) - 8 * (2 * m + x) * (2 * m) * (2 * m) + 4 * (2 * m) * (2 * m) * (2 * m) = -(x * ((2 * m - x) * (2 * m - x))) := by grind
      rw [e]
      -- 32 m^3 - 27 x (2 m - x)^2 = (8 m - 3 x) (2 m - 3 x)^2
      have e2 : 32 * (m * m * m) - 27 * (x * ((2 * m - x) * (2 * m - x))) = (8 * m - 3 * x) * ((2 * m - 3 * x) * (2 * m - 3 * x)) := by grind
      have p : 0 ≤ (8 * m - 3 * x) * ((2 * m - 3 * x) * (2 * m - 3 * x)) := Int.mul_nonneg (by omega) (by
        rcases Int.le_total 0 (2 * m - 3 * x) with h | h
        · exact Int.mul_nonneg h h
        · have := Int.mul_nonneg (show 0 ≤ -(2 * m - 3 * x) by omega) (show 0 ≤ -(2 * m - 3 * x) by omega)
          rw [Int.neg_mul_neg] at this
          exact this)
      omega
    · unfold cubV; rw [if_neg h1, if_neg h2]; omega
/-- What stands from a to b. -/
def rng (f : Nat → Int) (a b : Nat) : Int := sumF (fun i => f (a + i)) (b - a)
theorem rng_split (f : Nat → Int) {a b : Nat} (h : a ≤ b) : sumF f b = sumF f a + rng f a b := by
  obtain ⟨k, rfl⟩ : ∃ k, b = a + k := ⟨b - a, by omega⟩
  unfold rng
  rw [Nat.add_sub_cancel_left]
  exact sumF_split f a k
theorem rng_low (f : Nat → Int) {a b : Nat} {c : Int} (hf : ∀ j, a ≤ j → j < b → c ≤ f j) : ((b - a : Nat) : Int) * c ≤ rng f a b := by
  have h := sumF_mono (f := fun _ => c) (g := fun i => f (a + i)) (b - a) (fun i hi => hf (a + i) (by omega) (by omega))
  rw [sumF_const] at h
  exact h
theorem six {f : Nat → Int} {A C1 C2 B N : Nat} {L H : Int} (h1 : 1 ≤ A) (h2 : A ≤ C1) (h3 : C1 ≤ C2) (h4 : C2 ≤ B) (h5 : B ≤ N) (f0 : 0 ≤ f 0) (fa : ∀ j, 1 ≤ j → j < A → L ≤ f j) (fb : ∀ j, A ≤ j → j < C1 → 0 ≤ f j) (fc : ∀ j, C1 ≤ j → j < C2 → H ≤ f j) (fd : ∀ j, C2 ≤ j → j < B → 0 ≤ f j) (fe : ∀ j, B ≤ j → j < N → L ≤ f j) :
    ((A - 1 : Nat) : Int) * L + ((C2 - C1 : Nat) : Int) * H + ((N - B : Nat) : Int) * L ≤ sumF f N := by
  have r1 := rng_low f (a := 1) (b := A) fa
  have r2 := rng_low f (a := A) (b := C1) fb
  have r3 := rng_low f (a := C1) (b := C2) fc
  have r4 := rng_low f (a := C2) (b := B) fd
  have r5 := rng_low f (a := B) (b := N) fe
  rw [rng_split f h5, rng_split f h4, rng_split f h3, rng_split f h2, rng_split f h1]
  have e1 : sumF f 1 = f 0 := by show 0 + f 0 = f 0; omega
  rw [e1]
  simp only [Int.mul_zero] at r2 r4
  omega
/-- The least k with st k at least mid + x. -/
def kx (st mid x : Int) : Int := (mid + x + st - 1) / st
theorem kx_prop {st mid x : Int} (hs : 0 < st) : mid + x ≤ st * kx st mid x ∧ st * kx st mid x < mid + x + st := by
  have a1 := Int.mul_ediv_add_emod (mid + x + st - 1) st
  have a2 := Int.emod_nonneg (mid + x + st - 1) (by omega : st ≠ 0)
  have a3 := Int.emod_lt_of_pos (mid + x + st - 1) hs
  unfold kx
  omega
theorem kx_le {st mid x k : Int} (hs : 0 < st) (h : mid + x ≤ st * k) : kx st mid x ≤ k := by
  have h1 := (kx_prop (mid := mid) (x := x) hs).2
  rcases Int.lt_or_le k (kx st mid x) with c | c
  · have h2 : st * (k + 1) ≤ st * kx st mid x := Int.mul_le_mul_of_nonneg_left (by omega) (by omega)
    rw [Int.mul_add] at h2
    omega
  · exact c
theorem kx_ge {st mid x k : Int} (hs : 0 < st) (h : kx st mid x ≤ k) : mid + x ≤ st * k := by
  have h1 := (kx_prop (mid := mid) (x := x) hs).1
  have h2 : st * kx st mid x ≤ st * k := Int.mul_le_mul_of_nonneg_left h (by omega)
  omega
theorem kx_lt {st mid x k : Int} (hs : 0 < st) (h : k < kx st mid x) : st * k < mid + x := by
  rcases Int.lt_or_le (st * k) (mid + x) with c | c
  · exact c
  · have := kx_le hs c; omega
end Go.Proofs.Ytcolhgngiflkhaa

/- Two samples put together, place by place. -/
import Derived.Test.YtdempklpmggdoaaG2ffc47ac
import Derived.Test.YtdempklpmggdoaaG6d376ae7
namespace Go.Proofs.Ytdempklpmggdoaa
open Go.RowKit
set_option linter.unusedVariables false
set_option linter.unusedSimpArgs false

/-- A function of two samples. -/
structure Fun2 (f : FuncId) (G : Nat → Nat → Nat) : Prop where
  en : ∀ (args : Array Value) (x : World), (callFunc f args).run Try.prog x = .ok (.enter f args) x
  c : ∀ (s t : Nat), s < 4294967296 → t < 4294967296 → ∀ x : World, Calls Try.prog f #[.int .u32 (s : Int), .int .u32 (t : Int)] x fun e x' => e = .returned (.int .u32 ((G s t : Nat) : Int)) ∧ Q x x'
  lt : ∀ (s t : Nat), s < 4294967296 → t < 4294967296 → G s t < 4294967296
def zipT (G : Nat → Nat → Nat) (S T : List Nat) (i j : Nat) : Nat := if j < i then G (S.getD j 0) (T.getD j 0) else S.getD j 0
structure W1 (w1 wx : World) (y : PL) (N : Nat) (t : Nat → Nat) : Prop where
  u : ∀ j, j < N → wx.cell? ⟨y.g, y.o + j, none⟩ = some (.int .u32 ((t j : Nat) : Int))
  fr : Fr w1 wx (fun b => b ≠ y.g)
  ex : ∀ (p : Addr) (v : Value), w1.cell? p = some v → ∃ u, wx.cell? p = some u
theorem W1.next {w1 wx wy : World} {y : PL} {N : Nat} {t : Nat → Nat} (h : W1 w1 wx y N t) (q : Q wx wy) : W1 w1 wy y N t :=
  ⟨fun j hj => q.cell (h.u j hj), h.fr.trans (q.fr _), fun p v hp => by obtain ⟨u, hu⟩ := h.ex p v hp; exact ⟨u, q.cell hu⟩⟩
theorem W1.set {w1 wx : World} {y : PL} {N i : Nat} {G : Nat → Nat → Nat} {S T : List Nat} (h : W1 w1 wx y N (zipT G S T i)) (hi : i < N) {U : Nat} (hU : G (S.getD i 0) (T.getD i 0) = U) : W1 w1 (wx.setCell ⟨y.g, y.o + i, none⟩ (.int .u32 (U : Int))) y N (zipT G S T (i + 1)) := by
  refine ⟨fun j hj => ?_, h.fr.set (fun h => h rfl) _, fun p v hp => set_ex _ _ (h.ex p v hp)⟩
  by_cases e : j = i
  · subst e
    have : zipT G S T (j + 1) j = U := by unfold zipT; rw [if_pos (by omega), hU]
    rw [this]; exact World.cell?_setCell_same _ _ _ (h.u j hj)
  · have : zipT G S T (i + 1) j = zipT G S T i j := by
      unfold zipT
      by_cases hji : j < i
      · rw [if_pos hji, if_pos (by omega)]
      · rw [if_neg hji, if_neg (by omega)]
    rw [World.cell?_setCell_other _ _ _ _ (by simp <;> omega), this]; exact h.u j hj
def zip2 (G : Nat → Nat → Nat) (S T : List Nat) : List Nat := (List.range S.length).map fun i => G (S.getD i 0) (T.getD i 0)
theorem zip2_len (G : Nat → Nat → Nat) (S T : List Nat) : (zip2 G S T).length = S.length := by simp [zip2]
theorem zip2_get {G : Nat → Nat → Nat} {S T : List Nat} {i : Nat} (h : i < S.length) : (zip2 G S T).getD i 0 = G (S.getD i 0) (T.getD i 0) := by
  unfold zip2
  rw [List.getD_eq_getElem?_getD, List.getElem?_map, List.getElem?_range h]; rfl
theorem zip2_lt {G : Nat → Nat → Nat} {S T : List Nat} (h : ∀ i, G (S.getD i 0) (T.getD i 0) < 4294967296) (i : Nat) : (zip2 G S T).getD i 0 < 4294967296 := by
  by_cases hi : i < S.length
  · rw [zip2_get hi]; exact h i
  · rw [List.getD_eq_getElem?_getD, List.getElem?_eq_none (by rw [zip2_len]; omega)]; decide
set_option maxHeartbeats 4000000 in
set_option maxRecDepth 100000 in
theorem into_any (f : FuncId) (G : Nat → Nat → Nat) (hF : Fun2 f G) (w : World) (base n : Nat) (y x : PL) (hy : Mine base w n y) (hx : Gd w n x) (hne : y.g ≠ x.g) (h2 : n ≤ 65536) :
    Calls Try.prog 33 #[.func (.func f) #[] #[], .slice (some ⟨y.g, y.o, none⟩) n y.cap, .slice (some ⟨x.g, x.o, none⟩) n x.cap] w fun e w' => ∃ u, e = .returned u ∧ W1 w w' y n (fun j => (zip2 G y.S x.S).getD j 0) := by
  have HY : Hid (Mine base w n y) := hy
  have HX : Hid (Gd w n x) := hx
  have HF : Hid (Fun2 f G) := hF
  have W0 : Hid (W1 w w y n (zipT G y.S x.S 0)) := ⟨fun j hj => hy.gd.us j (by rw [hy.gd.len]; exact hj), Fr.refl _ _, fun p v hp => ⟨v, hp⟩⟩
  clear hy hx hF
  go_enter Try.func33, Try.ntmps33
  go_wp2_with fail
  go_loopg [9] n (fun m s9 wx => ∃ i : Nat, s9 = .int .i64 i ∧ i + m = n ∧ Hid (W1 w wx y n (zipT G y.S x.S i)))
  case atStart => exact ⟨0, rfl, by omega, W0⟩
  case round =>
    obtain ⟨i, rfl, him, WI⟩ := hrel
    by_cases hi : i < n
    · have hi0 : (0 : Int) ≤ (i : Int) := by omega
      have hi1 : (i : Int) < (n : Int) := by omega
      have c0 := WI.out.u i hi
      have e0 : zipT G y.S x.S i i = y.S.getD i 0 := by unfold zipT; rw [if_neg (by omega)]
      rw [e0] at c0
      have c1 := WI.out.fr.cell (HX.out.us i (by rw [HX.out.len]; exact hi)) (by show x.g ≠ y.g; exact fun e => hne e.symm)
      have l0 := HY.out.gd.lt i
      have l1 := HX.out.lt i
      obtain ⟨p, hp⟩ : ∃ p, y.S.getD i 0 = p := ⟨_, rfl⟩
      obtain ⟨q, hq⟩ : ∃ q, x.S.getD i 0 = q := ⟨_, rfl⟩
      obtain ⟨U, hU⟩ : ∃ U, G (y.S.getD i 0) (x.S.getD i 0) = U := ⟨_, rfl⟩
      have HU : Hid (G (y.S.getD i 0) (x.S.getD i 0) = U) := hU
      rw [hp] at c0 l0 hU
      rw [hq] at c1 l1 hU
      have HC : Hid (∀ x : World, Calls Try.prog f #[.int .u32 (p : Int), .int .u32 (q : Int)] x fun e x' => ∃ u, e = .returned u ∧ u = .int .u32 (U : Int) ∧ Q x x') := fun x => (HF.out.c p q l0 l1 x).mono fun e x' ⟨h1, h2⟩ => ⟨_, h1, by rw [hU], h2⟩
      have fz : ∀ z, Q wr z → z.frozen? ⟨y.g, y.o + i, none⟩ = false := fun z hz => (hz.2 _).trans ((WI.out.fr.frz _).trans (HY.out.free _))
      have n0 := qw_some wr
      have f0 := qw_cell c0
      have f1 := qw_cell c1
      clear e0 hp hq hU l0 l1 c1
      go_wp2_with fail
      refine wp_region_mk [0, 1, 2, 3, 4, 5, 6, 7, 8, 9, 10] [[11, 12, 13]] 3 _ (by kernel_rfl) (by kernel_rfl) rfl (by kernel_rfl) ?_
      simp only [List.filterMap_cons, List.filterMap_nil, List.getElem?_cons_zero, List.getElem?_cons_succ]
      repeat (first | go_big_quiet_step (fail) | quiet_step (fail))
      refine wpQuiet_nil ?_
      intro x4 hx4
      clear f0 f1 n0
      refine tree_call 11 rfl rfl (run_val 14 f #[] #[.tmp 18, .tmp 22] _ rfl (by simp [Act.eval]) HF.out.en (vs := #[.int .u32 (p : Int), .int .u32 (q : Int)]) (by simp [Act.eval])) (HC.out x4) ?_
      rintro u w5 ⟨rfl, q5⟩
      have q15 : Q wr w5 := hx4.trans q5
      refine ⟨q15, ?_⟩
      refine tree_runF 12 rfl rfl rfl (v := .pointer (some ⟨y.g, y.o + i, none⟩)) (x' := w5) (by simp [execOp, go_sem, hi0, hi1]) ?_
      refine tree_skipF 13 rfl rfl rfl (run_store1 rfl (v := (U : Int)) (by simp [Act.eval, Act.put]) (by simp [Act.eval, Act.put]) (q15.cell c0) (fz w5 q15)) ?_
      refine tree_nil ?_
      have WN : Hid (W1 w (w5.setCell ⟨y.g, y.o + i, none⟩ (.int .u32 (U : Int))) y n (zipT G y.S x.S (i + 1))) := (WI.out.next q15).set hi HU.out
      generalize w5.setCell ⟨y.g, y.o + i, none⟩ (.int .u32 (U : Int)) = w6 at *
      clear c0 fz hx4 q5 q15
      go_wp2_with fail
      go_roundg (n - (i + 1))
      case measure => go_light; omega
      case rel => go_light; exact ⟨i + 1, by go_num, by omega, WN⟩
    · have hie : i = n := by omega
      have WE : Hid (W1 w wr y n (zipT G y.S x.S n)) := by rw [hie] at WI; exact WI
      go_wp2_with fail
      refine bodyPost_end (v := .tuple #[]) (by simp [results, Try.results33, go_sem]) rfl ⟨_, rfl, fun j hj => ?_, WE.out.fr, WE.out.ex⟩
      have hl := HY.out.gd.len
      have := WE.out.u j hj
      unfold zipT at this
      rw [if_pos hj] at this
      rw [zip2_get (by omega)]
      exact this
/-- One plane of a picture of the call's own is written over. -/
theorem Nw.put {lo g1 cap1 a b i : Nat} {w wr : World} {M : List PL} (h : Nw lo w g1 cap1 a b M) {y : PL} (hy : M[i]? = some y) {T : List Nat} (hT : T.length = a * b) (W : W1 w wr y (a * b) (fun j => T.getD j 0)) (hlt : ∀ j, T.getD j 0 < 4294967296) :
    Nw lo wr g1 cap1 a b (M.set i { y with S := T }) := by
  have hil : i < M.length := (List.getElem?_eq_some_iff.1 hy).1
  obtain ⟨k0, k0'⟩ := h.it y (List.mem_of_getElem? hy)
  have M0 : Mine lo wr (a * b) { y with S := T } := k0.mixed W.fr.size W.fr.frz W.ex hT W.u hlt
  have vv : PL.v { y with S := T } = y.v := by show Value.slice _ T.length _ = _; rw [hT, ← k0.gd.len]; rfl
  have ne : ∀ j x, M[j]? = some x → j ≠ i → x.g ≠ y.g := fun j x hx hji => by
    have hjl : j < M.length := (List.getElem?_eq_some_iff.1 hx).1
    have hx' : M[j] = x := (List.getElem?_eq_some_iff.1 hx).2
    have hy' : M[i] = y := (List.getElem?_eq_some_iff.1 hy).2
    rcases Nat.lt_or_ge j i with hlt' | hge
    · have := List.pairwise_iff_getElem.1 h.ap j i hjl hil hlt'
      rw [hx', hy'] at this; exact this
    · have := List.pairwise_iff_getElem.1 h.ap i j hil hjl (by omega)
      rw [hx', hy'] at this; exact fun e => this e.symm
  have row : PIs wr g1 0 a b M := W.fr.pis h.pc.row (fun e => k0' e.symm)
  have it : ∀ x ∈ M.set i { y with S := T }, Mine lo wr (a * b) x ∧ x.g ≠ g1 := fun x hx => by
    obtain ⟨j, hj⟩ := List.getElem?_of_mem hx
    rw [List.getElem?_set] at hj
    by_cases hji : i = j
    · rw [if_pos hji] at hj
      rw [if_pos (by omega)] at hj
      have hj := Option.some.inj hj
      rw [← hj]; exact ⟨M0, k0'⟩
    · rw [if_neg hji] at hj
      obtain ⟨q1, q2⟩ := h.it x (List.mem_of_getElem? hj)
      exact ⟨q1.keep W.fr (ne j x hj (fun e => hji e.symm)), q2⟩
  refine ⟨⟨h.pc.size, by rw [List.length_set]; exact h.pc.n1, by rw [List.length_set]; exact h.pc.n4, fun j x hx => ?_, fun x hx => (it x hx).1.gd⟩, h.low, Nat.lt_of_lt_of_le h.high W.fr.size, by rw [List.length_set]; exact h.room, fun j => (W.fr.frz _).trans (h.free j), it, ?_⟩
  · rw [List.getElem?_set] at hx
    by_cases hji : i = j
    · rw [if_pos hji] at hx
      rw [if_pos (by omega)] at hx
      have hx := Option.some.inj hx
      rw [← hx, vv, ← hji]; exact row i y hy
    · rw [if_neg hji] at hx
      exact row j x hx
  · rw [List.pairwise_iff_getElem]
    intro j k hj hk hjk
    rw [List.length_set] at hj hk
    have e : ∀ m (hm : m < M.length), ((M.set i { y with S := T })[m]'(by rw [List.length_set]; exact hm)).g = M[m].g := fun m hm => by
      rw [List.getElem_set]
      by_cases hmi : i = m
      · rw [if_pos hmi]
        subst hmi
        have hy' : M[i] = y := (List.getElem?_eq_some_iff.1 hy).2
        rw [hy']
      · rw [if_neg hmi]
    rw [e j hj, e k hk]
    exact List.pairwise_iff_getElem.1 h.ap j k hj hk hjk
/-- The planes of two pictures put together, the first i of them. -/
def zTo (G : Nat → Nat → Nat) (A B : List (List Nat)) (i : Nat) : List (List Nat) := (List.range A.length).map fun j => if j < i then zip2 G (A.getD j []) (B.getD j []) else A.getD j []
theorem zTo_zero (G : Nat → Nat → Nat) (A B : List (List Nat)) : zTo G A B 0 = A := by
  unfold zTo
  apply List.ext_getElem?
  intro j
  rw [List.getElem?_map]
  by_cases hj : j < A.length
  · rw [List.getElem?_range hj, List.getElem?_eq_getElem hj]
    simp [List.getD_eq_getElem?_getD, List.getElem?_eq_getElem hj]
  · rw [List.getElem?_eq_none (by simpa using hj), List.getElem?_eq_none (by omega)]; rfl
theorem zTo_get {G : Nat → Nat → Nat} {A B : List (List Nat)} {i j : Nat} (hj : j < A.length) : (zTo G A B i)[j]? = some (if j < i then zip2 G (A.getD j []) (B.getD j []) else A.getD j []) := by
  unfold zTo
  rw [List.getElem?_map, List.getElem?_range hj]; rfl
theorem zTo_len (G : Nat → Nat → Nat) (A B : List (List Nat)) (i : Nat) : (zTo G A B i).length = A.length := by simp [zTo]
theorem zTo_step {G : Nat → Nat → Nat} {A B : List (List Nat)} {i : Nat} (hi : i < A.length) : zTo G A B (i + 1) = (zTo G A B i).set i (zip2 G (A.getD i []) (B.getD i [])) := by
  apply List.ext_getElem?
  intro j
  rw [List.getElem?_set, zTo_len]
  by_cases hj : j < A.length
  · rw [zTo_get hj, zTo_get hj]
    by_cases hji : i = j
    · subst hji; rw [if_pos (by omega), if_pos rfl, if_pos hi]
    · rw [if_neg hji]
      by_cases h : j < i
      · rw [if_pos h, if_pos (by omega)]
      · rw [if_neg h, if_neg (by omega)]
  · rw [List.getElem?_eq_none (by rw [zTo_len]; omega), if_neg (by omega), List.getElem?_eq_none (by rw [zTo_len]; omega)]
end Go.Proofs.Ytdempklpmggdoaa
/- Two. -/
namespace Go.Proofs.Ytdempklpmggdoaa
open Go.RowKit
set_option linter.unusedVariables false
set_option linter.unusedSimpArgs false

set_option maxHeartbeats 1000000 in
theorem checkboth_good {w : World} {g o a b n cap g' o' a' b' n' cap' : Nat} {L L' : List PL} (h : Pc w g o a b L) (hn : L.length = n) (hcap : n ≤ cap) (h' : Pc w g' o' a' b' L') (hn' : L'.length = n') (hcap' : n' ≤ cap') {sp sp' : Int} (hsp : spcB sp n = true) (hsp' : spcB sp' n' = true) :
    Calls Try.prog 31 #[.agg #[.int .i64 sp, .slice (some ⟨g, o, none⟩) n cap], .agg #[.int .i64 sp', .slice (some ⟨g', o', none⟩) n' cap']] w fun e w' => e = .returned (.int .i64 0) ∧ Q w w' := by
  have qa : Hid (∀ a b c d, Q w ((w.alloc (.cells a b)).alloc (.cells c d))) := fun a b c d => ((Q.refl w).cells _ _).cells _ _
  have H1 : Hid (∀ x, Q w x → Calls Try.prog 6 #[.agg #[.int .i64 sp, .slice (some ⟨g, o, none⟩) n cap]] x fun e w' => e = .returned (.int .i64 0) ∧ Q x w') := fun x hx => pcheck_good (h.next hx) hn hcap hsp
  have H2 : Hid (∀ x, Q w x → Calls Try.prog 6 #[.agg #[.int .i64 sp', .slice (some ⟨g', o', none⟩) n' cap']] x fun e w' => e = .returned (.int .i64 0) ∧ Q x w') := fun x hx => pcheck_good (h'.next hx) hn' hcap' hsp'
  clear h hn h' hn' hsp hsp'
  go_enter Try.func31, Try.ntmps31
  go_wp2_with fail
  refine (H1.out _ (qa.out _ _ _ _)).mono ?_
  rintro e w1 ⟨rfl, q1⟩
  have p0 : w1.cell? ⟨w.heap.size + 1, 0, none⟩ = some (.int .i64 sp') := q1.cell (by simp [go_sem])
  have p1 : w1.cell? ⟨w.heap.size + 1, 1, none⟩ = some (.slice (some ⟨g', o', none⟩) n' cap') := q1.cell (by simp [go_sem])
  have HQ : Hid (Q w w1) := (qa.out _ _ _ _).trans q1
  clear q1
  go_wp2_with fail
  refine (H2.out _ HQ.out).mono ?_
  rintro e w2 ⟨rfl, q2⟩
  go_wp2_with fail
  go_ret
  exact ⟨rfl, HQ.out.trans q2⟩
/-- A kind of putting two samples together. -/
structure Kind (k : Int) (f : FuncId) (G : Nat → Nat → Nat) : Prop where
  of : ∀ w : World, Calls Try.prog 32 #[.int .i64 k] w fun e w' => e = .returned (.func (.func f) #[] #[]) ∧ w' = w
  fn : Fun2 f G
theorem pair_nil (w : World) (f : Nat) : (binOp .eql 72 (.func (.func f) #[] #[]) .nilFunc).run Try.prog w = .ok (.bool false) w := by kernel_rfl
set_option maxHeartbeats 8000000 in
set_option maxRecDepth 100000 in
theorem two_good {k : Int} {f : FuncId} {G : Nat → Nat → Nat} (hk : Kind k f G) (w : World) (sp : Int) (g o cap g' o' cap' a b n : Nat) (L L' : List PL) (h : Pc w g o a b L) (hn : L.length = n) (hcap : n ≤ cap) (h' : Pc w g' o' a b L') (hn' : L'.length = n) (hcap' : n ≤ cap') (hsp : spcB sp n = true) :
    Calls Try.prog 12 #[.int .i64 k, .agg #[.int .i64 sp, .slice (some ⟨g, o, none⟩) n cap], .agg #[.int .i64 sp, .slice (some ⟨g', o', none⟩) n cap']] w fun e w' => ∃ g' cap' M, e = .returned (.tuple #[.agg #[.int .i64 sp, .slice (some ⟨g', 0, none⟩) n cap'], .int .i64 0]) ∧ M.map PL.S = zTo G (L.map PL.S) (L'.map PL.S) n ∧ Hid (Nw w.heap.size w' g' cap' a b M) ∧ Q w w' := by
  have HP : Hid (Pc w g o a b L) := h
  have HR : Hid (Pc w g' o' a b L') := h'
  have HN : Hid (L.length = n ∧ L'.length = n) := ⟨hn, hn'⟩
  have n4 : n ≤ 4 := by rw [← hn]; exact h.n4
  have n1 : 1 ≤ n := by rw [← hn]; exact h.n1
  have HSP : Hid (spcB sp n = true) := hsp
  have HK : Hid (Kind k f G) := hk
  have l1 := enters_of Try.func33 (by kernel_rfl) rfl
  have l2 := pair_nil
  clear h h' hn hn' hsp hk
  go_enter Try.func12, Try.ntmps12
  go_wp2_with fail
  have HQ0 : Hid (Q w (((w.alloc (Obj.cells #[Value.int IntKind.i64 sp, Value.slice (some { block := g, off := o }) n cap] 24)).alloc (Obj.cells #[Value.int IntKind.i64 sp, Value.slice (some { block := g', off := o' }) n cap'] 24)).alloc (Obj.cells #[Value.int IntKind.i64 0, Value.slice none 0 0] 24))) := (((Q.refl w).cells _ _).cells _ _).cells _ _
  refine (checkboth_good (HP.out.next HQ0.out) HN.out.1 hcap (HR.out.next HQ0.out) HN.out.2 hcap' HSP.out HSP.out).mono ?_
  rintro e w1 ⟨rfl, q1⟩
  have HQ1 : Hid (Q w w1) := HQ0.out.trans q1
  have p0 : w1.cell? ⟨w.heap.size, 0, none⟩ = some (.int .i64 sp) := q1.cell (by simp [go_sem])
  have p1 : w1.cell? ⟨w.heap.size, 1, none⟩ = some (.slice (some ⟨g, o, none⟩) n cap) := q1.cell (by simp [go_sem])
  have b0 : w1.cell? ⟨w.heap.size + 1, 0, none⟩ = some (.int .i64 sp) := q1.cell (by simp [go_sem])
  have b1 : w1.cell? ⟨w.heap.size + 1, 1, none⟩ = some (.slice (some ⟨g', o', none⟩) n cap') := q1.cell (by simp [go_sem])
  have r0 : w1.cell? ⟨w.heap.size + 1 + 1, 0, none⟩ = some (.int .i64 0) := q1.cell (by simp [go_sem])
  have r1 : w1.cell? ⟨w.heap.size + 1 + 1, 1, none⟩ = some (.slice none 0 0) := q1.cell (by simp [go_sem])
  have rf : ∀ j, w1.frozen? ⟨w.heap.size + 1 + 1, j, none⟩ = false := fun j => (q1.2 _).trans (by simp [go_sem])
  clear q1 HQ0
  go_wp2_with fail
  refine (HK.out.of w1).mono ?_
  rintro e w1' ⟨rfl, rfl⟩
  go_wp2_with fail
  obtain ⟨x0, hx0⟩ : ∃ x, L[0]? = some x := ⟨_, List.getElem?_eq_getElem (by rw [HN.out.1]; omega)⟩
  obtain ⟨y0, hy0⟩ : ∃ x, L'[0]? = some x := ⟨_, List.getElem?_eq_getElem (by rw [HN.out.2]; omega)⟩
  obtain ⟨c0, c1, c2⟩ := (HP.out.row.next HQ1.out) 0 x0 hx0
  obtain ⟨d0, d1, d2⟩ := (HR.out.row.next HQ1.out) 0 y0 hy0
  unfold PL.v at c2 d2
  rw [Nat.zero_mul, Nat.add_zero] at c0 c1 c2 d0 d1 d2
  have hn0 : (0 : Int) < (n : Int) := by omega
  have n0 := qw_some w1'
  have f0 := qw_cell c0
  have f1 := qw_cell c1
  have f2 := qw_cell c2
  have f3 := qw_cell d0
  have f4 := qw_cell d1
  have f5 := qw_cell d2
  have f6 := qw_cell p1
  have f7 := qw_cell b1
  have HO : Hid (∀ z : World, Calls Try.prog 19 #[.agg #[.int .i64 (a : Int), .int .i64 (b : Int), .slice (some ⟨x0.g, x0.o, none⟩) x0.S.length x0.cap], .agg #[.int .i64 (a : Int), .int .i64 (b : Int), .slice (some ⟨y0.g, y0.o, none⟩) y0.S.length y0.cap]] z fun e w' => e = .returned (.bool true) ∧ Q z w') := fun z => by
    have := onesize_any a b a b (some ⟨x0.g, x0.o, none⟩) (some ⟨y0.g, y0.o, none⟩) x0.S.length x0.cap y0.S.length y0.cap z
    simpa using this
  clear hx0 hy0 c0 c1 c2 d0 d1 d2
  refine wp_region_quiet_Q (by kernel_rfl) (by kernel_rfl) ?_
  repeat (first | go_big_quiet_step (first | (go_at_call 19; exact calls_qw (HO.out _))) | quiet_step (first | (go_at_call 19; exact calls_qw (HO.out _))))
  refine wpQuiet_nil ?_
  intro w2 hw'
  have q2 := qw_out hw'
  clear hw' f0 f1 f2 f3 f4 f5 f6 f7 n0 HO
  have HQ2 : Hid (Q w w2) := HQ1.out.trans q2
  replace p0 := q2.cell p0
  replace p1 := q2.cell p1
  replace b0 := q2.cell b0
  replace b1 := q2.cell b1
  replace r0 := q2.cell r0
  replace r1 := q2.cell r1
  replace rf : ∀ j, w2.frozen? ⟨w.heap.size + 1 + 1, j, none⟩ = false := fun j => (q2.2 _).trans (rf j)
  clear q2
  go_wp2_with fail
  refine (copied_u _ sp g o cap a b n L (HP.out.next HQ2.out) HN.out.1 hcap).mono ?_
  rintro e w3 ⟨g1, cap1, M, rfl, hMS, HW, q3⟩
  have hlt2 : w.heap.size + 1 + 1 < w2.heap.size := cell_in r0
  have HQ3 : Hid (Q w w3) := HQ2.out.trans q3
  replace b1 := q3.cell b1
  replace r0 := q3.cell r0
  replace r1 := q3.cell r1
  replace rf : ∀ j, w3.frozen? ⟨w.heap.size + 1 + 1, j, none⟩ = false := fun j => (q3.2 _).trans (rf j)
  have hs3 := q3.1.size
  have HW3 : Hid (Nw (w.heap.size + 3) w3 g1 cap1 a b M) := HW.out.mono (by omega)
  have HMS : Hid (M.map PL.S = zTo G (L.map PL.S) (L'.map PL.S) 0) := by show _ = _; rw [zTo_zero]; exact hMS
  have hAll : Hid (∀ x ∈ M, x.g < w3.heap.size) := fun x hx => (HW.out.it x hx).1.high
  have hg1 := HW.out.high
  clear q3 hMS HW p0 p1 b0
  go_wp2_with fail
  have q34 : Q w3 (w3.alloc (Obj.cells #[Value.int IntKind.i64 sp, Value.slice (some { block := g1, off := 0 }) n cap1] 24)) := (Q.refl w3).cells _ _
  have t0 : (w3.alloc (Obj.cells #[Value.int IntKind.i64 sp, Value.slice (some { block := g1, off := 0 }) n cap1] 24)).cell? ⟨w3.heap.size, 0, none⟩ = some (.int .i64 sp) := by simp [go_sem]
  have t1 : (w3.alloc (Obj.cells #[Value.int IntKind.i64 sp, Value.slice (some { block := g1, off := 0 }) n cap1] 24)).cell? ⟨w3.heap.size, 1, none⟩ = some (.slice (some ⟨g1, 0, none⟩) n cap1) := by simp [go_sem]
  generalize (w3.alloc (Obj.cells #[Value.int IntKind.i64 sp, Value.slice (some { block := g1, off := 0 }) n cap1] 24)) = w4 at *
  have HQ4 : Hid (Q w w4) := HQ3.out.trans q34
  have HW4 : Hid (Nw (w.heap.size + 3) w4 g1 cap1 a b M) := HW3.out.next q34
  replace b1 := q34.cell b1
  replace r0 := q34.cell r0
  replace r1 := q34.cell r1
  replace rf : ∀ j, w4.frozen? ⟨w.heap.size + 1 + 1, j, none⟩ = false := fun j => (q34.2 _).trans (rf j)
  clear q34
  go_loopg [59] n (fun m s59 wx => ∃ (i : Nat) (M : List PL), s59 = .int .i64 i ∧ i + m = n ∧ Hid (M.map PL.S = zTo G (L.map PL.S) (L'.map PL.S) i) ∧ Hid (Nw (w.heap.size + 3) wx g1 cap1 a b M) ∧ Hid (Q w wx) ∧ Hid (Fr w4 wx (fun b => b < w.heap.size + 3 ∨ b = w3.heap.size)) ∧ Hid (∀ x ∈ M, x.g < w3.heap.size))
  case atStart => exact ⟨0, M, rfl, by omega, HMS, HW4, HQ4, Fr.refl _ _, hAll⟩
  case round =>
    obtain ⟨i, M, rfl, him, HS, HW, HQ, HF, HA⟩ := hrel
    have hml : M.length = n := by have := congrArg List.length HS.out; rw [List.length_map, zTo_len, List.length_map, HN.out.1] at this; exact this
    by_cases hi : i < n
    · have hi0 : (0 : Int) ≤ (i : Int) := by omega
      have hi1 : (i : Int) < (n : Int) := by omega
      obtain ⟨y, hy⟩ : ∃ y, M[i]? = some y := ⟨_, List.getElem?_eq_getElem (by omega)⟩
      obtain ⟨x, hx⟩ : ∃ x, L'[i]? = some x := ⟨_, List.getElem?_eq_getElem (by rw [HN.out.2]; exact hi)⟩
      obtain ⟨z, hz⟩ : ∃ z, L[i]? = some z := ⟨_, List.getElem?_eq_getElem (by rw [HN.out.1]; exact hi)⟩
      obtain ⟨c0, c1, c2⟩ := HW.out.pc.row i y hy
      unfold PL.v at c2
      rw [Nat.zero_add] at c0 c1 c2
      obtain ⟨d0, d1, d2⟩ := (HR.out.row.next HQ.out) i x hx
      unfold PL.v at d2
      have b1r := HF.out.cell b1 (Or.inl (by show w.heap.size + 1 < _; omega))
      have hyM := HW.out.it y (List.mem_of_getElem? hy)
      have hyh := HA.out y (List.mem_of_getElem? hy)
      have hys : y.S = z.S := by
        have h1 : (M.map PL.S)[i]? = some y.S := by rw [List.getElem?_map, hy]; rfl
        rw [HS.out, zTo_get (by rw [List.length_map, HN.out.1]; exact hi), if_neg (by omega), List.getD_eq_getElem?_getD, List.getElem?_map, hz] at h1
        exact (Option.some.inj h1).symm
      have HYM : Hid (Mine (w.heap.size + 3) wr (a * b) y ∧ y.g ≠ g1) := hyM
      have HGX : Hid (Gd w (a * b) x) := HR.out.it x (List.mem_of_getElem? hx)
      have HYS : Hid (y.S = z.S) := hys
      have HYI : Hid (M[i]? = some y) := hy
      have HXI : Hid (L'[i]? = some x ∧ L[i]? = some z) := ⟨hx, hz⟩
      clear hy hx hz hyM hys
      go_wp2_with fail
      have q45 : Q wr (wr.alloc (Obj.cells #[Value.int IntKind.i64 ↑a, Value.int IntKind.i64 ↑b, Value.slice (some { block := y.g, off := y.o }) y.S.length y.cap] 47)) := (Q.refl wr).cells _ _
      have k2 : (wr.alloc (Obj.cells #[Value.int IntKind.i64 ↑a, Value.int IntKind.i64 ↑b, Value.slice (some { block := y.g, off := y.o }) y.S.length y.cap] 47)).cell? ⟨wr.heap.size, 2, none⟩ = some (.slice (some ⟨y.g, y.o, none⟩) y.S.length y.cap) := by simp [go_sem]
      generalize (wr.alloc (Obj.cells #[Value.int IntKind.i64 ↑a, Value.int IntKind.i64 ↑b, Value.slice (some { block := y.g, off := y.o }) y.S.length y.cap] 47)) = w5 at *
      have n0 := qw_some w5
      have f0 := qw_cell k2
      have f1 := qw_cell (q45.cell b1r)
      have f2 := qw_cell (q45.cell d2)
      clear c0 c1 c2 d0 d1 l2
      refine wp_region_mk [0, 1, 2, 3, 4, 5, 6, 7, 8] [[9]] 1 _ (by kernel_rfl) (by kernel_rfl) rfl (by kernel_rfl) ?_
      simp only [List.filterMap_cons, List.filterMap_nil, List.getElem?_cons_zero, List.getElem?_cons_succ]
      repeat (first | go_big_quiet_step (fail) | quiet_step (fail))
      refine wpQuiet_nil ?_
      intro x6 hx6
      clear f0 f1 f2 n0
      have lx := HGX.out.len
      have ly := HYM.out.1.gd.len
      have q46 : Q wr x6 := q45.trans hx6
      have hxg : y.g ≠ x.g := by
        have h1 := HYM.out.1.low
        have hxu := HGX.out.us 0 (by rw [HGX.out.len]; exact HP.out.size.pos)
        have h2 : x.g < w.heap.size := World.block_lt_of_cell? _ _ hxu
        omega
      refine tree_callF 9 rfl rfl rfl (run_fn 33 #[.tmp 64, .tmp 66, .tmp 72] _ rfl l1 (vs := #[.func (.func f) #[] #[], .slice (some ⟨y.g, y.o, none⟩) (a * b) y.cap, .slice (some ⟨x.g, x.o, none⟩) (a * b) x.cap]) (by simp [Act.eval, lx, ly])) (into_any f G HK.out.fn x6 (w.heap.size + 3) (a * b) y x (HYM.out.1.next q46) (HGX.out.next (HQ.out.trans q46)) hxg HP.out.size.ab) ?_
      rintro u w7 W7
      refine tree_nil ?_
      have HW7 : Hid (Nw (w.heap.size + 3) w7 g1 cap1 a b (M.set i { y with S := zip2 G y.S x.S })) := by
        refine (HW.out.next q46).put HYI.out (by rw [zip2_len]; exact ly) W7 (zip2_lt (fun j => HK.out.fn.lt _ _ (HYM.out.1.gd.lt j) (HGX.out.lt j)))
      have HS7 : Hid ((M.set i { y with S := zip2 G y.S x.S }).map PL.S = zTo G (L.map PL.S) (L'.map PL.S) (i + 1)) := by
        show _ = _
        rw [List.map_set, HS.out, zTo_step (by rw [List.length_map, HN.out.1]; exact hi), HYS.out, List.getD_eq_getElem?_getD, List.getD_eq_getElem?_getD, List.getElem?_map, List.getElem?_map, HXI.out.1, HXI.out.2]
        rfl
      have yl := HYM.out.1.low
      have HQ7 : Hid (Q w w7) := (W7.fr.mono (R' := fun b => b < w.heap.size) (fun z hz _ => by omega)).q (HQ.out.trans q46) (fun b hb => hb)
      have HF7 : Hid (Fr w4 w7 (fun b => b < w.heap.size + 3 ∨ b = w3.heap.size)) := (HF.out.trans (q46.fr _)).trans (W7.fr.mono (fun z hz _ => by rcases hz with h | h <;> omega))
      have HA7 : Hid (∀ z ∈ M.set i { y with S := zip2 G y.S x.S }, z.g < w3.heap.size) := fun z hz => by
        rcases List.mem_or_eq_of_mem_set hz with h | h
        · exact HA.out z h
        · rw [h]; exact hyh
      clear W7 q46 q45 hx6 k2 d2 b1r
      go_wp2_with fail
      go_roundg (n - (i + 1))
      case measure => go_light; omega
      case rel => go_light; exact ⟨i + 1, _, by go_num, by omega, HS7, HW7, HQ7, HF7, HA7⟩
    · have hie : i = n := by omega
      have HM : Hid (M.map PL.S = zTo G (L.map PL.S) (L'.map PL.S) n) := by rw [hie] at HS; exact HS
      have t0r := HF.out.cell t0 (Or.inr rfl)
      have t1r := HF.out.cell t1 (Or.inr rfl)
      have r0r := HF.out.cell r0 (Or.inl (by show w.heap.size + 1 + 1 < _; omega))
      have r1r := HF.out.cell r1 (Or.inl (by show w.heap.size + 1 + 1 < _; omega))
      have rfr : ∀ j, wr.frozen? ⟨w.heap.size + 1 + 1, j, none⟩ = false := fun j => (HF.out.frz _).trans (rf j)
      go_wp2_with fail
      have F9 : Fr wr ((wr.setCell ⟨w.heap.size + 1 + 1, 0, none⟩ (.int .i64 sp)).setCell ⟨w.heap.size + 1 + 1, 1, none⟩ (.slice (some ⟨g1, 0, none⟩) n cap1)) (fun b => b ≠ w.heap.size + 1 + 1) := ((Fr.refl wr _).set (fun h => h rfl) _).set (fun h => h rfl) _
      refine bodyPost_ret (v := .tuple #[.agg #[.int .i64 sp, .slice (some ⟨g1, 0, none⟩) n cap1], .int .i64 0]) (by simp [results, Try.results12, go_sem, r0r, r1r]) rfl ⟨g1, cap1, M, rfl, HM.out, (HW.out.keep F9 (by have := HW.out.low; omega) (fun x hx => by have := (HW.out.it x hx).1.low; omega)).mono (by omega), (HQ.out.set (by show _ ≤ w.heap.size + 1 + 1; omega) _).set (by show _ ≤ w.heap.size + 1 + 1; omega) _⟩
end Go.Proofs.Ytdempklpmggdoaa
/- The kinds of Two. -/
namespace Go.Proofs.Ytdempklpmggdoaa
open Go.RowKit
set_option linter.unusedVariables false
set_option linter.unusedSimpArgs false

def addG (s t : Nat) : Nat := toldD ((Ieee.single.read s).sum (Ieee.single.read t))
def subG (s t : Nat) : Nat := toldD ((Ieee.single.read s).sum (Ieee.single.read t).opposite)
def mulG (s t : Nat) : Nat := toldD ((Ieee.single.read s).product (Ieee.single.read t))
def leastG (s t : Nat) : Nat := (leastV (s : Int) t).toNat
def greatG (s t : Nat) : Nat := (greatestV (s : Int) t).toNat
theorem leastG_int {s t : Nat} : ((leastG s t : Nat) : Int) = leastV (s : Int) t := by unfold leastG leastV; split <;> omega
theorem greatG_int {s t : Nat} : ((greatG s t : Nat) : Int) = greatestV (s : Int) t := by unfold greatG greatestV; split <;> omega
theorem leastG_lt {s t : Nat} (hs : s < 4294967296) (ht : t < 4294967296) : leastG s t < 4294967296 := by unfold leastG leastV; split <;> omega
theorem greatG_lt {s t : Nat} (hs : s < 4294967296) (ht : t < 4294967296) : greatG s t < 4294967296 := by unfold greatG greatestV; split <;> omega
theorem add_fun : Fun2 50 addG := ⟨enters_of Try.func50 (by kernel_rfl) rfl, fun s t _ _ x => cadd_any s t x, fun s t _ _ => toldD_lt _⟩
theorem sub_fun : Fun2 51 subG := ⟨enters_of Try.func51 (by kernel_rfl) rfl, fun s t _ _ x => csub_any s t x, fun s t _ _ => toldD_lt _⟩
theorem mul_fun : Fun2 52 mulG := ⟨enters_of Try.func52 (by kernel_rfl) rfl, fun s t _ _ x => cmul_any s t x, fun s t _ _ => toldD_lt _⟩
theorem least_fun : Fun2 53 leastG := ⟨enters_of Try.func53 (by kernel_rfl) rfl, fun s t hs ht x => by
  rw [leastG_int]
  exact (least_any s t (by omega) (by omega) (by omega) (by omega) x).mono fun e x' ⟨h1, h2⟩ => ⟨h1, h2 ▸ Q.refl _⟩, fun s t hs ht => leastG_lt hs ht⟩
theorem great_fun : Fun2 54 greatG := ⟨enters_of Try.func54 (by kernel_rfl) rfl, fun s t hs ht x => by
  rw [greatG_int]
  exact (greatest_any s t (by omega) (by omega) (by omega) (by omega) x).mono fun e x' ⟨h1, h2⟩ => ⟨h1, h2 ▸ Q.refl _⟩, fun s t hs ht => greatG_lt hs ht⟩
set_option maxHeartbeats 1000000 in
theorem pair_1 (w : World) : Calls Try.prog 32 #[.int .i64 1] w fun e w' => e = .returned (.func (.func 50) #[] #[]) ∧ w' = w := by
  go_enter Try.func32, Try.ntmps32
  go_wp2_with fail
  go_ret
  exact ⟨rfl, rfl⟩
set_option maxHeartbeats 1000000 in
theorem pair_2 (w : World) : Calls Try.prog 32 #[.int .i64 2] w fun e w' => e = .returned (.func (.func 51) #[] #[]) ∧ w' = w := by
  go_enter Try.func32, Try.ntmps32
  go_wp2_with fail
  go_ret
  exact ⟨rfl, rfl⟩
set_option maxHeartbeats 1000000 in
theorem pair_3 (w : World) : Calls Try.prog 32 #[.int .i64 3] w fun e w' => e = .returned (.func (.func 52) #[] #[]) ∧ w' = w := by
  go_enter Try.func32, Try.ntmps32
  go_wp2_with fail
  go_ret
  exact ⟨rfl, rfl⟩
set_option maxHeartbeats 1000000 in
theorem pair_4 (w : World) : Calls Try.prog 32 #[.int .i64 4] w fun e w' => e = .returned (.func (.func 53) #[] #[]) ∧ w' = w := by
  go_enter Try.func32, Try.ntmps32
  go_wp2_with fail
  go_ret
  exact ⟨rfl, rfl⟩
set_option maxHeartbeats 1000000 in
theorem pair_5 (w : World) : Calls Try.prog 32 #[.int .i64 5] w fun e w' => e = .returned (.func (.func 54) #[] #[]) ∧ w' = w := by
  go_enter Try.func32, Try.ntmps32
  go_wp2_with fail
  go_ret
  exact ⟨rfl, rfl⟩
theorem kind_add : Kind 1 50 addG := ⟨pair_1, add_fun⟩
theorem kind_sub : Kind 2 51 subG := ⟨pair_2, sub_fun⟩
theorem kind_mul : Kind 3 52 mulG := ⟨pair_3, mul_fun⟩
theorem kind_least : Kind 4 53 leastG := ⟨pair_4, least_fun⟩
theorem kind_great : Kind 5 54 greatG := ⟨pair_5, great_fun⟩
end Go.Proofs.Ytdempklpmggdoaa

/- rank: the comparison, and sorting by it. -/
import Derived.Test.YtikhmlcmmabapaaGa921ac76
import Derived.Shelf.SlSortCmp.NoneTotal
import Derived.Shelf.Lay
import Derived.Ground.SlsfProg
import Derived.Test.YtikhmlcmmabapaaG5490ed69
namespace Go.Proofs.Ytikhmlcmmabapaa
open Go.RowKit
set_option linter.unusedVariables false
set_option linter.unusedSimpArgs false

/-- What cmp.Compare tells. -/
def cmpU (x y : Int) : Int := if x < y then -1 else if y < x then 1 else 0
theorem isnanu_any (x : Int) (w : World) : Calls Try.prog 62 #[.int .u32 x] w fun e w' => e = .returned (.bool false) ∧ w' = w := by
  go_enter Try.func62, Try.ntmps62
  go_wp2_with fail
  go_ret
  exact ⟨by first | rfl | simp, rfl⟩
set_option maxHeartbeats 2000000 in
set_option maxRecDepth 100000 in
theorem compareu_any (x y : Int) (w : World) : Calls Try.prog 44 #[.int .u32 x, .int .u32 y] w fun e w' => e = .returned (.int .i64 (cmpU x y)) ∧ w' = w := by
  unfold cmpU
  by_cases h1 : x < y
  · rw [if_pos h1]
    go_enter Try.func44, Try.ntmps44
    go_wp2_with fail
    refine (isnanu_any _ _).mono ?_
    rintro e w' ⟨rfl, rfl⟩
    go_wp2_with fail
    refine (isnanu_any _ _).mono ?_
    rintro e w' ⟨rfl, rfl⟩
    go_wp2_with fail
    go_ret
    exact ⟨rfl, rfl⟩
  · rw [if_neg h1]
    by_cases h2 : y < x
    · rw [if_pos h2]
      go_enter Try.func44, Try.ntmps44
      go_wp2_with fail
      refine (isnanu_any _ _).mono ?_
      rintro e w' ⟨rfl, rfl⟩
      go_wp2_with fail
      refine (isnanu_any _ _).mono ?_
      rintro e w' ⟨rfl, rfl⟩
      go_wp2_with fail
      go_ret
      exact ⟨rfl, rfl⟩
    · rw [if_neg h2]
      go_enter Try.func44, Try.ntmps44
      go_wp2_with fail
      refine (isnanu_any _ _).mono ?_
      rintro e w' ⟨rfl, rfl⟩
      go_wp2_with fail
      refine (isnanu_any _ _).mono ?_
      rintro e w' ⟨rfl, rfl⟩
      go_wp2_with fail
      go_ret
      exact ⟨rfl, rfl⟩
/-- The comparison that all samples are sorted by. -/
def cfK (x y : Fin 4294967296) : Int := cmpU (keyN x.val) (keyN y.val)
theorem bykey_one (x y : Fin 4294967296) (w : World) : Calls Try.prog 43 #[.int .u32 (x.val : Int), .int .u32 (y.val : Int)] w fun e w' => e = .returned (.int .i64 (cfK x y)) ∧ w' = w := by
  have A := fun W => keyn_any x.val x.isLt W
  have B := fun W => keyn_any y.val y.isLt W
  have C := fun W => compareu_any (keyN x.val) (keyN y.val) W
  unfold cfK
  generalize cmpU (keyN x.val) (keyN y.val) = r at C
  generalize keyN x.val = a at A C
  generalize keyN y.val = b at B C
  have HA : Hid _ := A
  have HB : Hid _ := B
  have HC : Hid _ := C
  clear A B C
  generalize x.val = u at HA
  generalize y.val = v at HB
  go_enter Try.func43, Try.ntmps43
  go_wp2_with fail
  refine Calls.mono (HA.out _) ?_
  rintro e w1 ⟨rfl, hw⟩
  obtain rfl := hw.symm
  go_wp2_with fail
  refine Calls.mono (HB.out _) ?_
  rintro e w1 ⟨rfl, hw⟩
  obtain rfl := hw.symm
  go_wp2_with fail
  refine Calls.mono (HC.out _) ?_
  rintro e w1 ⟨rfl, hw⟩
  obtain rfl := hw.symm
  go_wp2_with fail
  go_ret
  exact ⟨rfl, rfl⟩
/-- The comparison as a value. -/
def byK : Value := .func (.func 43) #[] #[]
theorem bykey_any (w : World) : Calls Try.prog 29 #[] w fun e w' => e = .returned byK ∧ w' = w := by
  go_enter Try.func29, Try.ntmps29
  go_wp2_with fail
  go_ret
  exact ⟨rfl, rfl⟩
open Go.Shelf Go.Lib Go.Sort in
theorem ltK (x y : Fin 4294967296) : ltOf cfK x y = decide (keyN x.val < keyN y.val) := by
  unfold ltOf cfK cmpU
  by_cases h1 : keyN x.val < keyN y.val
  · rw [if_pos (by omega)]; simp [h1]
  · rw [if_neg (by omega)]
    by_cases h2 : keyN y.val < keyN x.val
    · rw [if_pos (by omega)]; simp [h1]
    · rw [if_neg (by omega)]; simp [h1]
open Go.Shelf Go.Lib Go.Sort in
theorem swoK : SWO (ltOf cfK) where
  irrefl x := by rw [ltK]; simp
  trans x y z h1 h2 := by rw [ltK] at *; simp at *; omega
  ntrans x y z h1 h2 := by rw [ltK] at *; simp at *; omega
set_option maxRecDepth 1000000
set_option maxHeartbeats 4000000
shelf_lay_g SlLaysF.n6 Slsf 6 at Try 28 as rkSortL

/-- No block but one turned, of those that were there. -/
structure But (g : Nat) (w w' : World) : Prop where
  os : w'.os = w.os
  tape : w'.tape = w.tape
  output : w'.output = w.output
  size : w.heap.size ≤ w'.heap.size
  block : ∀ b, b < w.heap.size → b ≠ g → w'.heap[b]? = w.heap[b]?
  froz : ∀ a : Addr, a.block < w.heap.size → w'.frozen? a = w.frozen? a
theorem But.qb {g : Nat} {w0 w w' : World} (h : But g w w') (q : Qb w0 w) (hg : w0.heap.size ≤ g) : Qb w0 w' :=
  ⟨h.os.trans q.os, h.tape.trans q.tape, h.output.trans q.output, Nat.le_trans q.sz h.size, fun k hk => (h.block k (by have := q.sz; omega) (by omega)).trans (q.block k hk)⟩
theorem But.cell {g : Nat} {w w' : World} (h : But g w w') {p : Addr} {v : Value} (hc : w.cell? p = some v) (hp : p.block ≠ g) : w'.cell? p = some v := by
  rw [World.cell?_of_block (w := w) (h.block p.block (World.block_lt_of_cell? _ _ hc) hp)]; exact hc
def toF (s : Nat) : Fin 4294967296 := ⟨s % 4294967296, Nat.mod_lt _ (by decide)⟩
def encF (x : Fin 4294967296) : Value := .int .u32 (x.val : Int)
theorem toF_val {s : Nat} (h : s < 4294967296) : (toF s).val = s := Nat.mod_eq_of_lt h
theorem toF_list : ∀ {L : List Nat}, (∀ s ∈ L, s < 4294967296) → (L.map toF).map Fin.val = L
  | [], _ => rfl
  | a :: L, h => by
    rw [List.map_cons, List.map_cons, toF_val (h a List.mem_cons_self), toF_list (fun s hs => h s (List.mem_cons_of_mem _ hs))]
open Go.Shelf Go.Lib Go.Sort in
theorem merge_rk {L : List Nat} (h : ∀ s ∈ L, s < 4294967296) : ((L.map toF).mergeSort fun x y => !(ltOf cfK) y x).map Fin.val = rkL L := by
  have e : (fun x y : Fin 4294967296 => !(ltOf cfK) y x) = fun x y => decide (keyN x.val ≤ keyN y.val) := by
    funext x y
    rw [ltK]
    by_cases g : keyN x.val ≤ keyN y.val
    · simp [g]
    · simp [g]; omega
  rw [e]
  refine sorted_eq ?_ ?_ h
  · have := (List.mergeSort_perm (L.map toF) (fun x y => decide (keyN x.val ≤ keyN y.val))).map Fin.val
    rw [toF_list h] at this
    exact this
  · rw [List.pairwise_map]
    exact List.pairwise_mergeSort (le := fun x y : Fin 4294967296 => decide (keyN x.val ≤ keyN y.val)) (fun a b c h1 h2 => decide_eq_true (Nat.le_trans (of_decide_eq_true h1) (of_decide_eq_true h2))) (fun a b => by rcases Nat.le_total (keyN a.val) (keyN b.val) with h | h <;> simp [h]) (L.map toF)
open Go.Shelf Go.Lib Go.Sort in
/-- Samples sorted by the comparison. -/
theorem sortf_any (g o c n : Nat) (L : List Nat) (w : World) (hn : L.length = n) (hI : UIs w g o L) (hf : ∀ j, w.frozen? ⟨g, j, none⟩ = false) (hb : ∀ s ∈ L, s < 4294967296) (hblk : g < w.heap.size) (hsz : L.length ≤ 1000000) :
    Calls Try.prog 28 #[.slice (some ⟨g, o, none⟩) n c, byK] w fun e w' =>
      e = .returned (.tuple #[]) ∧ UIs w' g o (rkL L) ∧ But g w w' := by
  subst hn
  have hd : (L.map toF).toArray.size = L.length := by simp
  have hget : ∀ j, j < L.length → (L.map toF).toArray[j]! = toF (L.getD j 0) := fun j hj => by
    rw [getElem!_pos _ j (by rw [hd]; exact hj)]
    simp [List.getD_eq_getElem?_getD, List.getElem?_eq_getElem hj]
  have hH : Holds encF w g o (L.map toF).toArray := fun j hj => by
    have hj' : j < L.length := by rw [hd] at hj; exact hj
    refine ⟨?_, hf _⟩
    rw [hI j hj', hget j hj']
    unfold encF
    rw [toF_val (hb _ (getD_mem hj'))]
  have eg : ∀ args w, (callFunc 43 args).run Try.prog w = .ok (.enter 43 args) w := enters_of Try.func43 (by kernel_rfl) rfl
  have hcr : CmpReads Try.prog 43 #[] encF cfK g o (L.map toF).toArray.size w := fun m os dk _ x y => (bykey_one x y _).mono fun e w' ⟨h1, h2⟩ => ⟨h1, 0, h2⟩
  have hS := Any.slices_SortFunc_total rkSortL encF (fun _ => rfl) cfK swoK 43 #[] g o c (L.map toF).toArray w eg hcr.lays hH hblk (by rw [hd]; omega) (fun x y h1 h2 => by
    rw [ltK] at h1 h2
    simp only [decide_eq_false_iff_not] at h1 h2
    exact Fin.ext (keyN_inj x.isLt y.isLt (by omega)))
  rw [hd] at hS
  refine Calls.mono hS ?_
  rintro e w' ⟨rfl, n, os, rfl⟩
  generalize hM : ((L.map toF).toArray.toList.mergeSort fun x y => !(ltOf cfK) y x) = M
  have hM2 : M.map Fin.val = rkL L := by rw [← hM, List.toList_toArray]; exact merge_rk hb
  have hl : M.length = L.length := by rw [← rkL_len L, ← hM2, List.length_map]
  have hs : M.toArray.size = (L.map toF).toArray.size := by rw [hd]; simpa using hl
  have h2 := holds_putRow encF (Sort.ahead w n) g o (L.map toF).toArray M.toArray (holds_ahead _ w n g o _ hH) hs
  have hb2 : g < (putRow encF (Sort.ahead w n) g o M.toArray).heap.size := by
    unfold putRow mapBlock; simpa [Sort.ahead] using hblk
  have h3 := holds_grow encF _ os g o _ hb2 h2
  refine ⟨rfl, fun i hi => ?_, rfl, rfl, rfl, ?_, fun b hb hne => ?_, fun a ha => ?_⟩
  · rw [rkL_len] at hi
    have hi' : i < M.toArray.size := by rw [hs, hd]; exact hi
    have := (h3 i hi').1
    rw [getElem!_pos _ i hi'] at this
    show (grow (putRow encF (Sort.ahead w n) g o M.toArray) os).cell? ⟨g, o + i, none⟩ = _
    rw [this]
    have e2 : (rkL L).getD i 0 = (M.toArray[i]).val := by
      rw [← hM2, List.getD_eq_getElem?_getD, List.getElem?_map, List.getElem?_eq_getElem (by rw [hl]; exact hi)]
      simp
    rw [e2]; rfl
  · show w.heap.size ≤ (grow (putRow encF (Sort.ahead w n) g o M.toArray) os).heap.size
    unfold grow putRow mapBlock; simp [Sort.ahead]
  · show (grow (putRow encF (Sort.ahead w n) g o M.toArray) os).heap[b]? = _
    rw [heap_grow_old _ _ (by unfold putRow mapBlock; simpa [Sort.ahead] using hb)]
    unfold putRow mapBlock
    simp only [Array.getElem?_modify, Sort.ahead]
    rw [if_neg (fun e => hne e.symm)]
  · show (grow (putRow encF (Sort.ahead w n) g o M.toArray) os).frozen? a = _
    rw [frozen?_grow _ _ _ (by unfold putRow mapBlock; simpa [Sort.ahead] using ha), frozen?_putRow]; rfl
open Go.Shelf Go.Lib Go.Sort in
theorem sortf_none (p : Option Addr) (c : Nat) (w : World) : Calls Try.prog 28 #[.slice p 0 c, byK] w fun e w' => e = .returned (.tuple #[]) ∧ w' = w :=
  AnyF.slices_SortFunc_none (P := Try.prog) (ρ := rkSortL_ren) { rkSortL with } p c byK w
end Go.Proofs.Ytikhmlcmmabapaa
/- rank: the sample of a rank in a window. -/
namespace Go.Proofs.Ytikhmlcmmabapaa
open Go.RowKit
set_option linter.unusedVariables false
set_option linter.unusedSimpArgs false

set_option maxHeartbeats 4000000 in
set_option maxRecDepth 100000 in
theorem ranked_any (L : List Nat) (n k : Nat) (w : World) (hn : L.length = n) (hn2 : n ≤ 225) (hk : k < n) (hb : ∀ s ∈ L, s < 4294967296) :
    Calls Try.prog 39 #[.agg (wnA L), .int .i64 (n : Int), .int .i64 (k : Int), byK] w fun e w' => e = .returned (.int .u32 ((rkV L k : Nat) : Int)) ∧ Qb w w' := by
  obtain ⟨w1, hw1⟩ : ∃ w1, w.alloc (.cells (wnA L) 73) = w1 := ⟨_, rfl⟩
  have q1 : Q w w1 := by rw [← hw1]; exact (Q.refl w).cells _ _
  have hs1 : w1.heap.size = w.heap.size + 1 := by rw [← hw1]; simp
  have hb1 : w1.heap[w.heap.size]? = some (.cells (wnA L) 73 (0, 0)) := by rw [← hw1]; exact heap_alloc_last w _
  have hI : UIs w1 w.heap.size 0 L := fun i hi => by
    rw [Nat.zero_add, cell_of_row _ _ i _ _ (0, 0) hb1, wnA_at L (by omega)]
  have C := sortf_any w.heap.size 0 225 n L w1 hn hI (fun j => frozen_of_row _ _ _ _ _ hb1) hb (by omega) (by omega)
  have HQ : Hid (Qb w w1) := q1.qb
  have HC : Hid _ := C
  obtain ⟨A, hA⟩ : ∃ A, wnA L = A := ⟨_, rfl⟩
  rw [hA] at hw1 ⊢
  have hk' : (k : Int) < (n : Int) := by omega
  have hn' : (n : Int) ≤ 225 := by omega
  have HN : Hid (L.length = n) := hn
  obtain ⟨z, hz⟩ : ∃ z, rkV L k = z := ⟨_, rfl⟩
  have HZ : Hid (rkV L k = z) := hz
  rw [hz]
  unfold byK
  clear C q1 hs1 hb1 hI hA hn hb hz
  go_enter Try.func39, Try.ntmps39
  go_wp2_with fail
  refine Calls.mono HC.out ?_
  rintro e w2 ⟨rfl, hU, hB⟩
  have HQ2 : Hid (Qb w w2) := hB.qb HQ.out (Nat.le_refl _)
  have hc := hU k (by rw [rkL_len, HN.out]; exact hk)
  rw [Nat.zero_add] at hc
  have e : (rkL L).getD k 0 = rkV L k := rfl
  rw [e, HZ.out] at hc
  clear hU hB e
  go_wp2_with fail
  go_ret
  exact ⟨rfl, HQ2.out⟩
end Go.Proofs.Ytikhmlcmmabapaa
/- rank: a piece. -/
namespace Go.Proofs.Ytikhmlcmmabapaa
open Go.RowKit
set_option linter.unusedVariables false
set_option linter.unusedSimpArgs false

section
variable {ρ : Operand → Value} {x : World} {d : Option Tmp} {ty : TypeId} {ps : String} {af : Array Edge} {gd : Option (Nat × Bool)}
theorem run_ixr {j k gg Lw cap i : Nat} (h : ρ (.tmp j) = .slice (some ⟨gg, 0, none⟩) Lw cap) (h' : ρ (.tmp k) = .int .i64 (i : Nat)) (hi : i < Lw) : (execOp ρ { dst := d, op := .indexAddr 22 (.tmp j) (.tmp k), type := ty, pos := ps, after := af, guard := gd }).run Try.prog x = .ok (.value (.pointer (some ⟨gg, i, none⟩))) x := by
  simp [execOp, h, h', go_sem, hi]
theorem run_str {j k : Nat} {B i : Nat} {n : Nat} {u : Value} (h : ρ (.tmp j) = .pointer (some ⟨B, i, none⟩)) (h' : ρ (.tmp k) = .int .u32 (n : Nat)) (c : x.cell? ⟨B, i, none⟩ = some u) (f : x.frozen? ⟨B, i, none⟩ = false) : (execOp ρ { dst := none, op := .store 38 (.tmp j) (.tmp k), type := ty, pos := ps, after := af, guard := gd }).run Try.prog x = .ok .skip (x.setCell ⟨B, i, none⟩ (.int .u32 (n : Nat))) := by
  simp [execOp, h, h', go_sem, c, f]
end
/-- What piece holds while it goes on. -/
structure Pcz (w x : World) (b12 b13 b14 pa pb g1 n1 g2 n2 gs os sl cs c d g n : Nat) (S : List Nat) (X Y : Nat → Nat) (F : Nat → Value) : Prop where
  v : Vwb x b13 pa pb (.slice (some ⟨gs, os, none⟩) sl cs) g1 n1 g2 n2
  t0 : x.cell? ⟨b14, 0, none⟩ = some (.int .i64 (c : Int))
  t1 : x.cell? ⟨b14, 1, none⟩ = some (.int .i64 (d : Int))
  t2 : x.cell? ⟨b14, 2, none⟩ = some (.slice (some ⟨g, 0, none⟩) n n)
  r1 : VR x g1 n1 (fun i => .int .i64 ((X i : Nat) : Int))
  r2 : VR x g2 n2 (fun i => .int .i64 ((Y i : Nat) : Int))
  us : UIs x gs os S
  o0 : x.cell? ⟨b12, 0, none⟩ = some (.int .i64 0)
  o1 : x.cell? ⟨b12, 1, none⟩ = some (.int .i64 0)
  o2 : x.cell? ⟨b12, 2, none⟩ = some (.slice none 0 0)
  fo : ∀ j, x.frozen? ⟨b12, j, none⟩ = false
  row : VR x g n F
  q : Qb w x
  lt : g < x.heap.size
  ne1 : b13 ≠ g ∧ b14 ≠ g ∧ g1 ≠ g ∧ g2 ≠ g ∧ gs ≠ g ∧ b12 ≠ g
  p1 : 1 ≤ n1 ∧ 1 ≤ n2
  old : w.heap.size ≤ g
theorem Pcz.nextB {w x x' : World} {b12 b13 b14 pa pb g1 n1 g2 n2 gs os sl cs c d g n : Nat} {S : List Nat} {X Y : Nat → Nat} {F : Nat → Value} (h : Pcz w x b12 b13 b14 pa pb g1 n1 g2 n2 gs os sl cs c d g n S X Y F) (q : Qb x x') : Pcz w x' b12 b13 b14 pa pb g1 n1 g2 n2 gs os sl cs c d g n S X Y F :=
  ⟨h.v.nextB q, q.cell h.t0, q.cell h.t1, q.cell h.t2, h.r1.nextB (h.r1.lt h.p1.1) q, h.r2.nextB (h.r2.lt h.p1.2) q, h.us.nextB q, q.cell h.o0, q.cell h.o1, q.cell h.o2, fun j => by rw [q.frozen (p := ⟨b12, j, none⟩) (World.block_lt_of_cell? x ⟨b12, 0, none⟩ h.o0)]; exact h.fo j, h.row.nextB h.lt q, h.q.trans q, Nat.lt_of_lt_of_le h.lt q.sz, h.ne1, h.p1, h.old⟩
theorem Pcz.put {w x : World} {b12 b13 b14 pa pb g1 n1 g2 n2 gs os sl cs c d g n i : Nat} {S : List Nat} {X Y : Nat → Nat} {F G : Nat → Value} {u : Value} (h : Pcz w x b12 b13 b14 pa pb g1 n1 g2 n2 gs os sl cs c d g n S X Y F) (hi : i < n) (hv : G i = u) (ho : ∀ j, j < n → j ≠ i → G j = F j) : Pcz w (x.setCell ⟨g, i, none⟩ u) b12 b13 b14 pa pb g1 n1 g2 n2 gs os sl cs c d g n S X Y G := by
  obtain ⟨e1, e2, e3, e4, e5, e6⟩ := h.ne1
  have ot : ∀ {b o : Nat} {z : Value}, b ≠ g → x.cell? ⟨b, o, none⟩ = some z → (x.setCell ⟨g, i, none⟩ u).cell? ⟨b, o, none⟩ = some z := fun {b o z} hb hz => by
    rw [World.cell?_setCell_other _ _ _ _ (fun e => hb (by injection e with e1; exact e1.symm))]; exact hz
  exact ⟨⟨ot e1 h.v.c0, ot e1 h.v.c1, ot e1 h.v.c2, ot e1 h.v.c3, ot e1 h.v.c4⟩, ot e2 h.t0, ot e2 h.t1, ot e2 h.t2, h.r1.other (fun e => e3 e.symm) u, h.r2.other (fun e => e4 e.symm) u, fun j hj => ot e5 (h.us j hj), ot e6 h.o0, ot e6 h.o1, ot e6 h.o2, fun j => by rw [World.frozen?_setCell]; exact h.fo j, h.row.put hi hv ho, h.q.set h.old u, by simpa [World.setCell] using h.lt, h.ne1, h.p1, h.old⟩
/-- What piece tells, as far as it has come. -/
def pcV (V : Nat → Nat → Nat) (c k : Nat) (j : Nat) : Value := if j < k then .int .u32 ((V (j % c) (j / c) : Nat) : Int) else .int .u32 0
theorem pcV_step {V : Nat → Nat → Nat} {c k n : Nat} : ∀ j, j < n → j ≠ k → pcV V c (k + 1) j = pcV V c k j := fun j _ hj => by
  unfold pcV
  by_cases h : j < k
  · rw [if_pos (by omega), if_pos h]
  · rw [if_neg (by omega), if_neg h]
theorem pcV_new {V : Nat → Nat → Nat} {c x y : Nat} (hx : x < c) : pcV V c (y * c + x + 1) (y * c + x) = .int .u32 ((V x y : Nat) : Int) := by
  unfold pcV
  rw [if_pos (by omega), place_mod y hx, place_div y hx]
end Go.Proofs.Ytikhmlcmmabapaa
/- rank: a piece, walked. -/
namespace Go.Proofs.Ytikhmlcmmabapaa
open Go.RowKit
set_option linter.unusedVariables false
set_option linter.unusedSimpArgs false

set_option maxHeartbeats 8000000 in
set_option maxRecDepth 100000 in
theorem rpiece_any (bd pa pb W H k x0 y0 c d gs os sl cs : Nat) (S : List Nat) (w : World) (hbd : bd = 1 ∨ bd = 2 ∨ bd = 3) (hsz : Size pa pb) (hsl : sl = pa * pb) (hS : S.length = sl) (hI : UIs w gs os S) (hcs : sl ≤ cs) (hSb : ∀ i, S.getD i 0 < 4294967296) (hW : 1 ≤ W) (hW2 : W ≤ 15) (hH : 1 ≤ H) (hH2 : H ≤ 15) (hk : k < W * H) (hx : x0 + c ≤ pa) (hy : y0 + d ≤ pb) (hc : 1 ≤ c) (hd : 1 ≤ d) :
    Calls Try.prog 26 #[.agg #[.int .i64 (pa : Int), .int .i64 (pb : Int), .slice (some ⟨gs, os, none⟩) sl cs], .int .i64 (bd : Int), .int .i64 (W : Int), .int .i64 (H : Int), .int .i64 (k : Int), .agg #[.int .i64 (x0 : Int), .int .i64 (y0 : Int), .int .i64 ((x0 + c : Nat) : Int), .int .i64 ((y0 + d : Nat) : Int)]] w fun e w' => ∃ g, e = .returned (.agg #[.int .i64 (c : Int), .int .i64 (d : Int), .slice (some ⟨g, 0, none⟩) (c * d) (c * d)]) ∧ VR w' g (c * d) (fun i => .int .u32 ((rnkV S pa pb bd W H k (x0 + i % c) (y0 + i / c) : Nat) : Int)) ∧ w.heap.size ≤ g ∧ g < w'.heap.size ∧ Qb w w' := by
  have ha1 := hsz.a1
  have ha2 := hsz.a2
  have hb1 := hsz.b1
  have hb2 := hsz.b2
  have hab := hsz.ab
  obtain ⟨n1, hn1⟩ : ∃ n1, n1 + 1 = c + W := ⟨c + W - 1, by omega⟩
  obtain ⟨n2, hn2⟩ : ∃ n2, n2 + 1 = d + H := ⟨d + H - 1, by omega⟩
  have HV : Hid _ := fun x => viewof_any bd pa pb W H x0 y0 c d n1 n2 gs os sl cs x hbd ha1 ha2 hb1 hb2 hW hW2 hH hH2 (by omega) (by omega) hc (by omega) hd (by omega) hn1 hn2
  obtain ⟨n, hn⟩ : ∃ n, c * d = n := ⟨_, rfl⟩
  have hn1' : 1 ≤ n := by rw [← hn]; exact Nat.mul_pos hc hd
  have hnb : n ≤ 1048576 := by rw [← hn]; exact Nat.le_trans (Nat.mul_le_mul (by omega : c ≤ 1024) (by omega : d ≤ 1024)) (by decide)
  have HN : Hid (c * d = n) := hn
  have ecd : (c : Int) * (d : Int) = (n : Int) := by rw [← Int.natCast_mul, hn]
  rw [hn]
  obtain ⟨x1, hx1⟩ : ∃ x1, x0 + c = x1 := ⟨_, rfl⟩
  obtain ⟨y1, hy1⟩ : ∃ y1, y0 + d = y1 := ⟨_, rfl⟩
  rw [hx1, hy1] at HV
  rw [hx1, hy1]
  have ex : (x1 : Int) - (x0 : Int) = (c : Int) := by omega
  have ey : (y1 : Int) - (y0 : Int) = (d : Int) := by omega
  have HI : Hid (∀ x, Qb w x → UIs x gs os S) := fun x q => hI.nextB q
  have HS : Hid (S.length = sl ∧ sl = pa * pb ∧ (∀ i, S.getD i 0 < 4294967296)) := ⟨hS, hsl, hSb⟩
  have HGS : Hid (gs < w.heap.size) := World.block_lt_of_cell? _ _ (hI 0 (by rw [hS, hsl]; exact hsz.pos))
  obtain ⟨w1, hw1⟩ : ∃ w1, ((w.alloc (.cells #[.int .i64 (pa : Int), .int .i64 (pb : Int), .slice (some ⟨gs, os, none⟩) sl cs] 24)).alloc (.cells #[.int .i64 (x0 : Int), .int .i64 (y0 : Int), .int .i64 (x1 : Int), .int .i64 (y1 : Int)] 45)) = w1 := ⟨_, rfl⟩
  obtain ⟨w2, hw2⟩ : ∃ w2, w1.alloc (.cells #[.int .i64 0, .int .i64 0, .slice none 0 0] 24) = w2 := ⟨_, rfl⟩
  have q1 : Q w w1 := by rw [← hw1]; exact ((Q.refl w).cells _ _).cells _ _
  have q2 : Q w1 w2 := by rw [← hw2]; exact (Q.refl w1).cells _ _
  have s1 : w1.heap.size = w.heap.size + 2 := by rw [← hw1]; simp
  have s2 : w2.heap.size = w1.heap.size + 1 := by rw [← hw2]; simp
  have p0 : w2.cell? ⟨w.heap.size, 0, none⟩ = some (.int .i64 (pa : Int)) := q2.cell (by rw [← hw1]; simp [go_sem])
  have p1 : w2.cell? ⟨w.heap.size, 1, none⟩ = some (.int .i64 (pb : Int)) := q2.cell (by rw [← hw1]; simp [go_sem])
  have p2 : w2.cell? ⟨w.heap.size, 2, none⟩ = some (.slice (some ⟨gs, os, none⟩) sl cs) := q2.cell (by rw [← hw1]; simp [go_sem])
  have r0 : w2.cell? ⟨w.heap.size + 1, 0, none⟩ = some (.int .i64 (x0 : Int)) := q2.cell (by rw [← hw1]; simp [go_sem])
  have r1 : w2.cell? ⟨w.heap.size + 1, 1, none⟩ = some (.int .i64 (y0 : Int)) := q2.cell (by rw [← hw1]; simp [go_sem])
  have r2 : w2.cell? ⟨w.heap.size + 1, 2, none⟩ = some (.int .i64 (x1 : Int)) := q2.cell (by rw [← hw1]; simp [go_sem])
  have r3 : w2.cell? ⟨w.heap.size + 1, 3, none⟩ = some (.int .i64 (y1 : Int)) := q2.cell (by rw [← hw1]; simp [go_sem])
  have HO : Hid ((w2.cell? ⟨w1.heap.size, 0, none⟩ = some (.int .i64 0) ∧ w2.cell? ⟨w1.heap.size, 1, none⟩ = some (.int .i64 0) ∧ w2.cell? ⟨w1.heap.size, 2, none⟩ = some (.slice none 0 0) ∧ ∀ j, w2.frozen? ⟨w1.heap.size, j, none⟩ = false) ∧ Q w w2 ∧ w.heap.size < w1.heap.size ∧ w1.heap.size < w2.heap.size) := by
    refine ⟨?_, q1.trans q2, by omega, by omega⟩
    rw [← hw2]
    exact ⟨by simp [go_sem], by simp [go_sem], by simp [go_sem], fun j => by simp [go_sem]⟩
  clear q1 q2 s1 s2 hI hS hSb hsl hx1 hy1 hn
  go_enter Try.func26, Try.ntmps26
  go_wp2_with fail
  refine Calls.mono (HV.out _) ?_
  rintro e w3 ⟨g1, g2, rfl, V1, V2, l1, l2, l1', l2', q3⟩
  have HV3 : Hid _ := And.intro V1 (And.intro V2 (And.intro l1 (And.intro l2 (And.intro l1' (And.intro l2' q3)))))
  obtain ⟨w4, hw4⟩ : ∃ w4, w3.alloc (.cells #[.int .i64 (pa : Int), .int .i64 (pb : Int), .slice (some ⟨gs, os, none⟩) sl cs, .slice (some ⟨g1, 0, none⟩) n1 n1, .slice (some ⟨g2, 0, none⟩) n2 n2] 70) = w4 := ⟨_, rfl⟩
  obtain ⟨wa, hwa⟩ : ∃ wa, w4.alloc (.cells #[.int .i64 (c : Int), .int .i64 (d : Int), .slice none 0 0] 24) = wa := ⟨_, rfl⟩
  obtain ⟨w5, hw5⟩ : ∃ w5, wa.setCell ⟨w4.heap.size, 2, none⟩ (.slice none 0 0) = w5 := ⟨_, rfl⟩
  have a2 : wa.cell? ⟨w4.heap.size, 2, none⟩ = some (.slice none 0 0) := by rw [← hwa]; simp [go_sem]
  have af2 : wa.frozen? ⟨w4.heap.size, 2, none⟩ = false := by rw [← hwa]; simp [go_sem]
  obtain ⟨M, hM, hmv⟩ := make_vu n hnb
  obtain ⟨w6, hw6⟩ : ∃ w6, w5.alloc (.cells M 38) = w6 := ⟨_, rfl⟩
  have hmk := hM w5
  have hvr := hmv w5
  rw [hw6] at hmk hvr
  have q4 : Q w3 w4 := by rw [← hw4]; exact (Q.refl w3).cells _ _
  have q5 : Q w4 w5 := by rw [← hw5, ← hwa]; exact ((Q.refl w4).cells _ _).set (Nat.le_refl _) _
  have q6 : Q w5 w6 := by rw [← hw6]; exact (Q.refl w5).cells _ _
  have s4 : w4.heap.size = w3.heap.size + 1 := by rw [← hw4]; simp
  have s5 : w5.heap.size = w4.heap.size + 1 := by rw [← hw5, ← hwa]; simp [World.setCell]
  have s6 : w6.heap.size = w5.heap.size + 1 := by rw [← hw6]; simp
  have r0 := (q3.trans q4).cell r0
  have r1 := (q3.trans q4).cell r1
  have r2 := (q3.trans q4).cell r2
  have r3 := (q3.trans q4).cell r3
  have t0 : w5.cell? ⟨w4.heap.size, 0, none⟩ = some (.int .i64 (c : Int)) := by rw [← hw5, ← hwa]; simp [go_sem]
  have t1 : w5.cell? ⟨w4.heap.size, 1, none⟩ = some (.int .i64 (d : Int)) := by rw [← hw5, ← hwa]; simp [go_sem]
  have t2 : w5.cell? ⟨w4.heap.size, 2, none⟩ = some (.slice none 0 0) := by rw [← hw5, ← hwa]; simp [go_sem]
  have f2 : w5.frozen? ⟨w4.heap.size, 2, none⟩ = false := by rw [← hw5, ← hwa]; simp [go_sem]
  have vw : Vwb w4 w3.heap.size pa pb (.slice (some ⟨gs, os, none⟩) sl cs) g1 n1 g2 n2 := by
    rw [← hw4]
    constructor <;> simp [go_sem]
  have x0' := q6.cell t0
  have x1' := q6.cell t1
  have x2' := q6.cell t2
  have fx2 : w6.frozen? ⟨w4.heap.size, 2, none⟩ = false := by rw [q6.2]; exact f2
  obtain ⟨w7, hw7⟩ : ∃ w7, w6.setCell ⟨w4.heap.size, 2, none⟩ (.slice (some ⟨w5.heap.size, 0, none⟩) n n) = w7 := ⟨_, rfl⟩
  have y0' : w7.cell? ⟨w4.heap.size, 0, none⟩ = some (.int .i64 (c : Int)) := by rw [← hw7, World.cell?_setCell_other _ _ _ _ (fun e => by injection e with _ e; cases e)]; exact x0'
  have y1' : w7.cell? ⟨w4.heap.size, 1, none⟩ = some (.int .i64 (d : Int)) := by rw [← hw7, World.cell?_setCell_other _ _ _ _ (fun e => by injection e with _ e; cases e)]; exact x1'
  have y2' : w7.cell? ⟨w4.heap.size, 2, none⟩ = some (.slice (some ⟨w5.heap.size, 0, none⟩) n n) := by rw [← hw7]; exact World.cell?_setCell_same _ _ _ x2'
  have HP0 : Hid (Pcz w w7 w1.heap.size w3.heap.size w4.heap.size pa pb g1 n1 g2 n2 gs os sl cs c d w5.heap.size n S (fun i => borN bd pa ((x0 : Int) - (W / 2 : Nat) + (i : Int))) (fun i => borN bd pb ((y0 : Int) - (H / 2 : Nat) + (i : Int))) (pcV (fun x y => rnkV S pa pb bd W H k (x0 + x) (y0 + y)) c 0)) := by
    have hO := HO.out
    have z1 := V1.lt (by omega)
    have z2 := V2.lt (by omega)
    have gsl := HGS.out
    have sz3 := q3.1.size
    have q56 := q5.trans q6
    have q46 := q4.trans q56
    have q36 := q3.trans q46
    have ne : ∀ b, b < w4.heap.size → (w4.heap.size : Nat) ≠ b := fun b hb => by omega
    have st : ∀ {b o : Nat} {z : Value}, b ≠ w4.heap.size → w6.cell? ⟨b, o, none⟩ = some z → w7.cell? ⟨b, o, none⟩ = some z := fun {b o z} hb hz => by
      rw [← hw7, World.cell?_setCell_other _ _ _ _ (fun e => hb (by injection e with e1; exact e1.symm))]; exact hz
    have q06 : Q w w6 := hO.2.1.trans q36
    have l3 : w1.heap.size < w3.heap.size := by omega
    have e13 : w3.heap.size ≠ w4.heap.size := by omega
    refine ⟨⟨st e13 (q56.cell vw.c0), st e13 (q56.cell vw.c1), st e13 (q56.cell vw.c2), st e13 (q56.cell vw.c3), st e13 (q56.cell vw.c4)⟩, y0', y1', y2', ?_, ?_, fun i hi => st (by omega) (q06.cell (HI.out w (Qb.refl w) i hi)), st (by omega) (q36.cell hO.1.1), st (by omega) (q36.cell hO.1.2.1), st (by omega) (q36.cell hO.1.2.2.1), fun j => by rw [← hw7, World.frozen?_setCell, q36.2]; exact hO.1.2.2.2 j, ?_, ?_, ?_, ⟨by omega, by omega, by omega, by omega, by omega, by omega⟩, ⟨by omega, by omega⟩, by omega⟩
    · rw [← hw7]
      refine ((V1.next q46).other (p := ⟨w4.heap.size, 2, none⟩) (by show w4.heap.size ≠ g1; omega) _).congr fun j hj => ?_
      rw [borN_eq _ ha1]
    · rw [← hw7]
      refine ((V2.next q46).other (p := ⟨w4.heap.size, 2, none⟩) (by show w4.heap.size ≠ g2; omega) _).congr fun j hj => ?_
      rw [borN_eq _ hb1]
    · rw [← hw7]
      refine (hvr.other (p := ⟨w4.heap.size, 2, none⟩) (by show w4.heap.size ≠ w5.heap.size; omega) _).congr fun j hj => ?_
      unfold pcV
      rw [if_neg (by omega)]
    · rw [← hw7]; exact (q06.set (p := ⟨w4.heap.size, 2, none⟩) (by show w.heap.size ≤ w4.heap.size; omega) _).qb
    · rw [← hw7]; simp [World.setCell]; omega
  clear V1 V2 l1 l2 l1' l2' q3 p0 p1 p2 q4 q5 q6 s4 s5 s6 vw f2 hvr hM hmv
  unfold vwV
  go_wp2_with fail
  obtain ⟨X, hX⟩ : ∃ X : Nat → Nat, (fun i : Nat => borN bd pa ((x0 : Int) - (W / 2 : Nat) + (i : Int))) = X := ⟨_, rfl⟩
  obtain ⟨Y, hY⟩ : ∃ Y : Nat → Nat, (fun i : Nat => borN bd pb ((y0 : Int) - (H / 2 : Nat) + (i : Int))) = Y := ⟨_, rfl⟩
  obtain ⟨V, hV⟩ : ∃ V : Nat → Nat → Nat, (fun x y => rnkV S pa pb bd W H k (x0 + x) (y0 + y)) = V := ⟨_, rfl⟩
  have HXb : Hid ((∀ i, X i < pa) ∧ (∀ i, Y i < pb) ∧ ∀ x y, V x y = rkV (tab W H fun i j => smp S pa (X (x + i)) (Y (y + j))) k) := by
    refine ⟨fun i => by rw [← hX]; exact borN_lt _ ha1, fun i => by rw [← hY]; exact borN_lt _ hb1, fun x y => ?_⟩
    rw [← hV, ← hX, ← hY]
    show rkV (winL S pa pb bd W H (x0 + x) (y0 + y)) k = _
    congr 1
    unfold winL
    apply tab_ext
    intro i j _ _
    have e1 : ((x0 + x : Nat) : Int) - (W / 2 : Nat) + (i : Nat) = (x0 : Int) - (W / 2 : Nat) + ((x + i : Nat) : Int) := by omega
    have e2 : ((y0 + y : Nat) : Int) - (H / 2 : Nat) + (j : Nat) = (y0 : Int) - (H / 2 : Nat) + ((y + j : Nat) : Int) := by omega
    rw [e1, e2]
  have HVV : Hid ((fun x y => rnkV S pa pb bd W H k (x0 + x) (y0 + y)) = V) := hV
  rw [hX, hY, hV] at HP0
  clear hX hY hV hw1 hw2 hw4 hwa hw5 hw6 hw7 hmk r0 r1 r2 r3 t0 t1 t2 x0' x1' x2' y0' y1' y2' a2 af2 fx2 HV3 HV
  obtain ⟨bO, ebO⟩ : ∃ bO, w1.heap.size = bO := ⟨_, rfl⟩
  obtain ⟨bV, ebV⟩ : ∃ bV, w3.heap.size = bV := ⟨_, rfl⟩
  obtain ⟨bT, ebT⟩ : ∃ bT, w4.heap.size = bT := ⟨_, rfl⟩
  obtain ⟨g, eg⟩ : ∃ g, w5.heap.size = g := ⟨_, rfl⟩
  rw [ebO, ebV, ebT, eg] at HP0
  simp only [ebO, ebV, ebT, eg]
  have HOb : Hid (w.heap.size ≤ bO) := by show w.heap.size ≤ bO; have := HO.out.2.2.1; omega
  clear ebO ebV ebT eg HO
  go_loopg [15, 43] d (fun m s15 s43 wr => ∃ y : Nat, s43 = .int .i64 (y : Int) ∧ y + m = d ∧ Hid (Pcz w wr bO bV bT pa pb g1 n1 g2 n2 gs os sl cs c d g n S X Y (pcV V c (y * c))))
  case atStart => exact ⟨0, rfl, by omega, by rw [Nat.zero_mul]; exact HP0⟩
  case round =>
    clear HP0
    obtain ⟨y, rfl, hyd, HP⟩ := hrel
    by_cases hlt : y < d
    · have hlt' : (y : Int) < (d : Int) := by omega
      have c0 := HP.out.t0
      go_wp2_with fail
      go_loopg [16, 48] c (fun m s16 s48 wx => ∃ x : Nat, s48 = .int .i64 (x : Int) ∧ x + m = c ∧ Hid (Pcz w wx bO bV bT pa pb g1 n1 g2 n2 gs os sl cs c d g n S X Y (pcV V c (y * c + x))))
      case atStart => exact ⟨0, rfl, by omega, HP⟩
      case round =>
        clear HP c0
        obtain ⟨x, rfl, hxc, HP⟩ := hrel
        by_cases hlx : x < c
        · have hlx' : (x : Int) < (c : Int) := by omega
          obtain ⟨yc, hyc⟩ : ∃ yc, y * c = yc := ⟨_, rfl⟩
          have eyc : (y : Int) * (c : Int) = (yc : Int) := by rw [← Int.natCast_mul, hyc]
          obtain ⟨t, ht⟩ : ∃ t, yc + x = t := ⟨_, rfl⟩
          have et : (yc : Int) + (x : Int) = (t : Int) := by omega
          have htn : t < n := by rw [← ht, ← hyc, ← HN.out]; exact place_lt hlx hlt
          obtain ⟨wh, hwh⟩ : ∃ wh, W * H = wh := ⟨_, rfl⟩
          have ewh : (W : Int) * (H : Int) = (wh : Int) := by rw [← Int.natCast_mul, hwh]
          have hwb : wh ≤ 225 := by rw [← hwh]; exact Nat.mul_le_mul hW2 hH2
          have hv1 : IntKind.i64.wrap (yc : Int) = (yc : Int) := by rw [IntKind.wrap_i64]; omega
          have hv2 : IntKind.i64.wrap (t : Int) = (t : Int) := by rw [IntKind.wrap_i64]; omega
          have hv3 : IntKind.i64.wrap (wh : Int) = (wh : Int) := by rw [IntKind.wrap_i64]; omega
          have HE : Hid (y * c = yc ∧ yc + x = t ∧ W * H = wh) := ⟨hyc, ht, hwh⟩
          have D0 : (fun z : World => Qb wr z) wr.drew := (Qb.refl wr).drew
          have n0 := cw_some (D := fun z : World => Qb wr z) D0
          have f0 := fun n : CW (fun z : World => Qb wr z) => n.h.cell HP.out.t0
          have f1 := fun n : CW (fun z : World => Qb wr z) => n.h.cell HP.out.t2
          have f2 := fun n : CW (fun z : World => Qb wr z) => n.h.cell HP.out.v.c0
          have f3 := fun n : CW (fun z : World => Qb wr z) => n.h.cell HP.out.v.c1
          have f4 := fun n : CW (fun z : World => Qb wr z) => n.h.cell HP.out.v.c2
          have f5 := fun n : CW (fun z : World => Qb wr z) => n.h.cell HP.out.v.c3
          have f6 := fun n : CW (fun z : World => Qb wr z) => n.h.cell HP.out.v.c4
          clear hyc ht hwh
          go_wp2_with fail
          refine wp_region_mkP [0, 1, 2, 3, 4, 5, 6, 7, 8, 9, 10, 11, 12, 14, 15, 16, 17] [[13, 18, 19, 20, 21]] 5 _ (fun z : World => Qb wr z) (by kernel_rfl) (by kernel_rfl) rfl (by kernel_rfl) D0 ?_
          simp only [List.filterMap_cons, List.filterMap_nil, List.getElem?_cons_zero, List.getElem?_cons_succ]
          repeat (first | go_big_quiet_step (fail) | quiet_step (fail))
          refine wpQuiet_nil ?_
          clear f0 f1 f2 f3 f4 f5 f6 n0
          obtain ⟨T, hT⟩ : ∃ T, (tab W H fun i j => smp S pa (X (x + i)) (Y (y + j))) = T := ⟨_, rfl⟩
          have hTl : T.length = wh := by rw [← hT, tab_length]; exact HE.out.2.2
          have hTb : ∀ s ∈ T, s < 4294967296 := fun s hs => by
            rw [← hT] at hs
            obtain ⟨i, j, _, _, rfl⟩ := mem_tab.1 hs
            exact HS.out.2.2 _
          have P5 := HP.out.nextB D0
          have hslb : sl ≤ 65536 := by rw [HS.out.2.1]; exact hab
          have CW := window_any pa pb W H x y g1 n1 g2 n2 gs os sl cs S X Y wr.drew HS.out.1 P5.us hcs hslb HS.out.2.1 ha1 ha2 hb2 hW hW2 hH hH2 (by omega) (by omega) (by omega) (by omega) P5.r1 P5.r2 HXb.out.1 HXb.out.2.1
          rw [hT] at CW
          refine tree_call 13 (by kernel_rfl) rfl (run_fn 38 #[.tmp 59, .tmp 60, .tmp 61, .tmp 62, .tmp 63] _ rfl (fun _ _ => rfl) (vs := #[vwV pa pb (.slice (some ⟨gs, os, none⟩) sl cs) g1 n1 g2 n2, .int .i64 (W : Int), .int .i64 (H : Int), .int .i64 (x : Int), .int .i64 (y : Int)]) (by kernel_rfl)) (G := fun v x' => v = .agg (wnA T) ∧ Q wr.drew x') (CW.mono fun e x' h => ⟨_, h.1, rfl, h.2⟩) ?_
          rintro vq z6 ⟨rfl, q6⟩
          have Q6 : Qb wr z6 := Qb.trans D0 q6.qb
          refine ⟨Q6, ?_⟩
          refine tree_call 18 (by kernel_rfl) rfl (run_fn 29 #[] _ rfl (fun _ _ => rfl) (vs := #[]) (by kernel_rfl)) (G := fun v x' => v = byK ∧ x' = z6) ((bykey_any z6).mono fun e x' h => ⟨_, h.1, rfl, h.2⟩) ?_
          rintro vq z7 ⟨rfl, hz7⟩
          obtain rfl := hz7.symm
          refine ⟨Q6, ?_⟩
          refine tree_call 19 (by kernel_rfl) rfl (run_fn 39 #[.tmp 64, .tmp 67, .tmp 68, .tmp 69] _ rfl (fun _ _ => rfl) (vs := #[.agg (wnA T), .int .i64 (wh : Int), .int .i64 (k : Int), byK]) (by kernel_rfl)) (G := fun v x' => v = .int .u32 ((rkV T k : Nat) : Int) ∧ Qb z6 x') ((ranked_any T wh k z6 hTl hwb (by rw [← HE.out.2.2]; exact hk) hTb).mono fun e x' h => ⟨_, h.1, rfl, h.2⟩) ?_
          rintro vq z8 ⟨rfl, q8⟩
          have Q8 : Qb wr z8 := Q6.trans q8
          refine ⟨Q8, ?_⟩
          refine tree_run 20 (by kernel_rfl) rfl (v := .pointer (some ⟨g, t, none⟩)) (x' := z8) (run_ixr (Lw := n) (cap := n) (by kernel_rfl) (by kernel_rfl) htn) Q8 ?_
          have P8 := HP.out.nextB Q8
          have hval : pcV V c (t + 1) t = .int .u32 ((rkV T k : Nat) : Int) := by
            rw [← HE.out.2.1, ← HE.out.1, pcV_new hlx, HXb.out.2.2, hT]
          have P9 : Hid (Pcz w (z8.setCell ⟨g, t, none⟩ (.int .u32 ((rkV T k : Nat) : Int))) bO bV bT pa pb g1 n1 g2 n2 gs os sl cs c d g n S X Y (pcV V c (t + 1))) := by
            rw [HE.out.1, HE.out.2.1] at P8
            exact P8.put htn hval pcV_step
          refine tree_skipF 21 (by kernel_rfl) rfl (by kernel_rfl) (x' := z8.setCell ⟨g, t, none⟩ (.int .u32 ((rkV T k : Nat) : Int))) (run_str (i := t) (by kernel_rfl) (by kernel_rfl) (P8.row.cell t htn) (P8.row.free t)) ?_
          refine tree_nil ?_
          generalize z8.setCell ⟨g, t, none⟩ (.int .u32 ((rkV T k : Nat) : Int)) = z9 at P9 ⊢
          generalize rkV T k = zv
          clear P8 Q8 q8 Q6 q6 CW P5 hTb hTl hT D0 HP hval
          go_wp2_with fail
          go_roundg (c - (x + 1))
          case measure => go_light; omega
          case rel => go_light; exact ⟨x + 1, by go_num, by omega, by rw [← Nat.add_assoc, HE.out.1, HE.out.2.1]; exact P9⟩
        · obtain rfl : x = c := by omega
          have hge : ¬ (x : Int) < (x : Int) := by omega
          have HZ : Hid (Pcz w wr bO bV bT pa pb g1 n1 g2 n2 gs os sl cs x d g n S X Y (pcV V x ((y + 1) * x))) := by rw [Nat.succ_mul]; exact HP.out
          clear HP
          go_wp2_with fail
          go_roundg (d - (y + 1))
          case measure => go_light; omega
          case rel => go_light; exact ⟨y + 1, by go_num, by omega, HZ⟩
    · obtain rfl : y = d := by omega
      have hge : ¬ (y : Int) < (y : Int) := by omega
      have c0 := HP.out.t0
      have c1 := HP.out.t1
      have c2 := HP.out.t2
      have o0 := HP.out.o0
      have o1 := HP.out.o1
      have o2 := HP.out.o2
      have fo0 := HP.out.fo 0
      have fo1 := HP.out.fo 1
      have fo2 := HP.out.fo 2
      have hbo := HP.out.ne1.2.2.2.2.2
      obtain ⟨w9, hw9⟩ : ∃ w9, ((wr.setCell ⟨bO, 0, none⟩ (.int .i64 (c : Int))).setCell ⟨bO, 1, none⟩ (.int .i64 (y : Int))).setCell ⟨bO, 2, none⟩ (.slice (some ⟨g, 0, none⟩) n n) = w9 := ⟨_, rfl⟩
      have HW : Hid (VR w9 g n (fun i => .int .u32 ((rnkV S pa pb bd W H k (x0 + i % c) (y0 + i / c) : Nat) : Int)) ∧ w.heap.size ≤ g ∧ g < w9.heap.size ∧ Qb w w9) := by
        refine ⟨?_, HP.out.old, ?_, ?_⟩
        · rw [← hw9]
          refine (((HP.out.row.other (p := ⟨bO, 0, none⟩) hbo (.int .i64 (c : Int))).other (p := ⟨bO, 1, none⟩) hbo (.int .i64 (y : Int))).other (p := ⟨bO, 2, none⟩) hbo (.slice (some ⟨g, 0, none⟩) n n)).congr fun j hj => ?_
          unfold pcV
          rw [if_pos (by rw [Nat.mul_comm, HN.out]; exact hj), ← HVV.out]
        · rw [← hw9]; simpa [World.setCell] using HP.out.lt
        · rw [← hw9]
          have hl : w.heap.size ≤ bO := HOb.out
          exact ((HP.out.q.set (p := ⟨bO, 0, none⟩) hl _).set (p := ⟨bO, 1, none⟩) hl _).set (p := ⟨bO, 2, none⟩) hl _
      have v0 : w9.cell? ⟨bO, 0, none⟩ = some (.int .i64 (c : Int)) := by
        rw [← hw9, World.cell?_setCell_other _ _ _ _ (fun e => by injection e with _ e; cases e), World.cell?_setCell_other _ _ _ _ (fun e => by injection e with _ e; cases e)]; exact World.cell?_setCell_same _ _ _ o0
      have v1 : w9.cell? ⟨bO, 1, none⟩ = some (.int .i64 (y : Int)) := by
        rw [← hw9, World.cell?_setCell_other _ _ _ _ (fun e => by injection e with _ e; cases e)]; exact World.cell?_setCell_same _ _ _ ((World.cell?_setCell_other _ _ _ _ (fun e => by injection e with _ e; cases e)).trans o1)
      have v2 : w9.cell? ⟨bO, 2, none⟩ = some (.slice (some ⟨g, 0, none⟩) n n) := by
        rw [← hw9]; exact World.cell?_setCell_same _ _ _ ((World.cell?_setCell_other _ _ _ _ (fun e => by injection e with _ e; cases e)).trans ((World.cell?_setCell_other _ _ _ _ (fun e => by injection e with _ e; cases e)).trans o2))
      have HW9 : Hid (((wr.setCell ⟨bO, 0, none⟩ (.int .i64 (c : Int))).setCell ⟨bO, 1, none⟩ (.int .i64 (y : Int))).setCell ⟨bO, 2, none⟩ (.slice (some ⟨g, 0, none⟩) n n) = w9) := hw9
      clear hw9 HP hbo
      go_wp2_with fail
      rw [HW9.out]
      exact bodyPost_ret (v := .agg #[.int .i64 (c : Int), .int .i64 (y : Int), .slice (some ⟨g, 0, none⟩) n n]) (by simp [results, Try.results26, go_sem, v0, v1, v2]) rfl ⟨g, rfl, HW.out⟩
end Go.Proofs.Ytikhmlcmmabapaa
/- rank: what the calls answer; Part. -/
namespace Go.Proofs.Ytikhmlcmmabapaa
open Go.RowKit
set_option linter.unusedVariables false
set_option linter.unusedSimpArgs false

/-- Three cells written. -/
def put3 (x : World) (b : Nat) (v0 v1 v2 : Value) : World := ((x.setCell ⟨b, 0, none⟩ v0).setCell ⟨b, 1, none⟩ v1).setCell ⟨b, 2, none⟩ v2
theorem put3_c0 {x : World} {b : Nat} {v0 v1 v2 u : Value} (h : x.cell? ⟨b, 0, none⟩ = some u) : (put3 x b v0 v1 v2).cell? ⟨b, 0, none⟩ = some v0 := by
  unfold put3
  rw [World.cell?_setCell_other _ _ _ _ (fun e => by injection e with _ e; cases e), World.cell?_setCell_other _ _ _ _ (fun e => by injection e with _ e; cases e)]; exact World.cell?_setCell_same _ _ _ h
theorem put3_c1 {x : World} {b : Nat} {v0 v1 v2 u : Value} (h : x.cell? ⟨b, 1, none⟩ = some u) : (put3 x b v0 v1 v2).cell? ⟨b, 1, none⟩ = some v1 := by
  unfold put3
  rw [World.cell?_setCell_other _ _ _ _ (fun e => by injection e with _ e; cases e)]; exact World.cell?_setCell_same _ _ _ ((World.cell?_setCell_other _ _ _ _ (fun e => by injection e with _ e; cases e)).trans h)
theorem put3_c2 {x : World} {b : Nat} {v0 v1 v2 u : Value} (h : x.cell? ⟨b, 2, none⟩ = some u) : (put3 x b v0 v1 v2).cell? ⟨b, 2, none⟩ = some v2 := by
  unfold put3
  exact World.cell?_setCell_same _ _ _ ((World.cell?_setCell_other _ _ _ _ (fun e => by injection e with _ e; cases e)).trans ((World.cell?_setCell_other _ _ _ _ (fun e => by injection e with _ e; cases e)).trans h))
theorem put3_qb {w x : World} {b : Nat} (h : Qb w x) (hb : w.heap.size ≤ b) (v0 v1 v2 : Value) : Qb w (put3 x b v0 v1 v2) := ((h.set (p := ⟨b, 0, none⟩) hb v0).set (p := ⟨b, 1, none⟩) hb v1).set (p := ⟨b, 2, none⟩) hb v2
theorem put3_vr {x : World} {g n b : Nat} {F : Nat → Value} (h : VR x g n F) (hb : b ≠ g) (v0 v1 v2 : Value) : VR (put3 x b v0 v1 v2) g n F := ((h.other (p := ⟨b, 0, none⟩) hb v0).other (p := ⟨b, 1, none⟩) hb v1).other (p := ⟨b, 2, none⟩) hb v2
theorem put3_size (x : World) (b : Nat) (v0 v1 v2 : Value) : (put3 x b v0 v1 v2).heap.size = x.heap.size := by simp [put3, World.setCell]
/-- What a call answers: an error and no plane, or a new plane. -/
structure Pans (w w' : World) (E0 : Int) (c d : Nat) (V : Nat → Nat) (a b : Int) (ad : Option Addr) (m cc : Nat) (E : Int) : Prop where
  q : Qb w w'
  e : E = E0
  bad : E0 ≠ 0 → a = 0 ∧ b = 0 ∧ ad = none ∧ m = 0 ∧ cc = 0
  good : E0 = 0 → ∃ g, a = (c : Int) ∧ b = (d : Int) ∧ ad = some ⟨g, 0, none⟩ ∧ m = c * d ∧ cc = c * d ∧ VR w' g (c * d) (fun i => .int .u32 ((V i : Nat) : Int)) ∧ w.heap.size ≤ g ∧ g < w'.heap.size
/-- The answer laid into a box of the caller's own. -/
theorem Pans.box {w w1 w2 : World} {E0 : Int} {c d : Nat} {V : Nat → Nat} {a b : Int} {ad : Option Addr} {m cc : Nat} {E : Int} (h : Pans w1 w2 E0 c d V a b ad m cc E) (q : Qb w w1) {bx : Nat} (h1 : w.heap.size ≤ bx) (h2 : bx < w1.heap.size) (v0 v1 v2 : Value) : Pans w (put3 w2 bx v0 v1 v2) E0 c d V a b ad m cc E := by
  refine ⟨put3_qb (q.trans h.q) h1 _ _ _, h.e, h.bad, fun e => ?_⟩
  obtain ⟨g, g1, g2, g3, g4, g5, g6, g7, g8⟩ := h.good e
  have := q.sz
  exact ⟨g, g1, g2, g3, g4, g5, put3_vr g6 (by omega) _ _ _, by omega, by rw [put3_size]; exact g8⟩
/-- Errors of Part. -/
def paE (pw ph : Int) (n : Nat) (bd W H k x0 y0 x1 y1 : Int) : Int := if rkE pw ph n bd W H k = 0 then (if (spnB x0 x1 pw && spnB y0 y1 ph) = true then 0 else 52) else rkE pw ph n bd W H k
/-- What is right where nothing is refused. -/
theorem rkE_ok {pw ph : Int} {n : Nat} {bd W H k : Int} (h : rkE pw ph n bd W H k = 0) : ∃ pa pb b wa ha kk : Nat, pw = (pa : Int) ∧ ph = (pb : Int) ∧ bd = (b : Int) ∧ W = (wa : Int) ∧ H = (ha : Int) ∧ k = (kk : Int) ∧ Size pa pb ∧ n = pa * pb ∧ (b = 1 ∨ b = 2 ∨ b = 3) ∧ 1 ≤ wa ∧ wa ≤ 15 ∧ 1 ≤ ha ∧ ha ≤ 15 ∧ kk < wa * ha := by
  unfold rkE at h
  split at h
  · rename_i h0
    obtain ⟨pa, pb, rfl, rfl, hsz, hn⟩ := chk_zero h0
    split at h
    · omega
    · rename_i h1
      obtain ⟨wa, ha, rfl, rfl, a1, a2, b1, b2, hcv⟩ := cntV_pos h1
      split at h
      · omega
      · rename_i h2
        split at h
        · omega
        · rename_i h3
          unfold borE at h
          split at h
          · rename_i h4
            exact ⟨pa, pb, bd.toNat, wa, ha, k.toNat, rfl, rfl, by omega, rfl, rfl, by omega, hsz, hn, by omega, a1, a2, b1, b2, by omega⟩
          · omega
  · rename_i h0
    exact absurd h h0
theorem spn_ok {lo hi n : Int} (h : spnB lo hi n = true) : ∃ a c : Nat, lo = (a : Int) ∧ hi = ((a + c : Nat) : Int) ∧ 1 ≤ c ∧ ((a + c : Nat) : Int) ≤ n := by
  unfold spnB at h
  simp only [Bool.and_eq_true, decide_eq_true_eq] at h
  exact ⟨lo.toNat, (hi - lo).toNat, by omega, by omega, by omega, by omega⟩

set_option maxHeartbeats 8000000 in
set_option maxRecDepth 100000 in
theorem part_any (pw ph : Int) (ad : Option Addr) (n c : Nat) (S : List Nat) (bd W H k x0 y0 x1 y1 : Int) (w : World) (hU : USl w (.slice ad n c) S) (hS : S.length = n) (hSb : ∀ i, S.getD i 0 < 4294967296) (hn : n ≤ 9223372036854775807) :
    Calls Try.prog 18 #[.agg #[.int .i64 pw, .int .i64 ph, .slice ad n c], .int .i64 bd, .int .i64 W, .int .i64 H, .int .i64 k, .agg #[.int .i64 x0, .int .i64 y0, .int .i64 x1, .int .i64 y1]] w fun e w' => ∃ a b ad' m cc E, e = .returned (.tuple #[.agg #[.int .i64 a, .int .i64 b, .slice ad' m cc], .int .i64 E]) ∧ Pans w w' (paE pw ph n bd W H k x0 y0 x1 y1) (x1 - x0).toNat (y1 - y0).toNat (fun i => rnkV S pw.toNat ph.toNat bd.toNat W.toNat H.toNat k.toNat (x0.toNat + i % (x1 - x0).toNat) (y0.toNat + i / (x1 - x0).toNat)) a b ad' m cc E := by
  obtain ⟨w1, hw1⟩ : ∃ w1, (w.alloc (.cells #[.int .i64 pw, .int .i64 ph, .slice ad n c] 24)).alloc (.cells #[.int .i64 x0, .int .i64 y0, .int .i64 x1, .int .i64 y1] 45) = w1 := ⟨_, rfl⟩
  obtain ⟨w2, hw2⟩ : ∃ w2, w1.alloc (.cells #[.int .i64 0, .int .i64 0, .slice none 0 0] 24) = w2 := ⟨_, rfl⟩
  have q1 : Q w w1 := by rw [← hw1]; exact ((Q.refl w).cells _ _).cells _ _
  have q2 : Q w1 w2 := by rw [← hw2]; exact (Q.refl w1).cells _ _
  have s1 : w1.heap.size = w.heap.size + 2 := by rw [← hw1]; simp
  have s2 : w2.heap.size = w1.heap.size + 1 := by rw [← hw2]; simp
  have p0 : w2.cell? ⟨w.heap.size, 0, none⟩ = some (.int .i64 pw) := q2.cell (by rw [← hw1]; simp [go_sem])
  have p1 : w2.cell? ⟨w.heap.size, 1, none⟩ = some (.int .i64 ph) := q2.cell (by rw [← hw1]; simp [go_sem])
  have p2 : w2.cell? ⟨w.heap.size, 2, none⟩ = some (.slice ad n c) := q2.cell (by rw [← hw1]; simp [go_sem])
  have r0 : w2.cell? ⟨w.heap.size + 1, 0, none⟩ = some (.int .i64 x0) := q2.cell (by rw [← hw1]; simp [go_sem])
  have r1 : w2.cell? ⟨w.heap.size + 1, 1, none⟩ = some (.int .i64 y0) := q2.cell (by rw [← hw1]; simp [go_sem])
  have r2 : w2.cell? ⟨w.heap.size + 1, 2, none⟩ = some (.int .i64 x1) := q2.cell (by rw [← hw1]; simp [go_sem])
  have r3 : w2.cell? ⟨w.heap.size + 1, 3, none⟩ = some (.int .i64 y1) := q2.cell (by rw [← hw1]; simp [go_sem])
  have HO : Hid ((w2.cell? ⟨w1.heap.size, 0, none⟩ = some (.int .i64 0) ∧ w2.cell? ⟨w1.heap.size, 1, none⟩ = some (.int .i64 0) ∧ w2.cell? ⟨w1.heap.size, 2, none⟩ = some (.slice none 0 0) ∧ ∀ j, w2.frozen? ⟨w1.heap.size, j, none⟩ = false) ∧ Q w w2 ∧ w.heap.size < w1.heap.size ∧ w1.heap.size < w2.heap.size) := by
    refine ⟨?_, q1.trans q2, by omega, by omega⟩
    rw [← hw2]
    exact ⟨by simp [go_sem], by simp [go_sem], by simp [go_sem], fun j => by simp [go_sem]⟩
  have HR : Hid _ := refusal12_any pw ph ad n c bd W H k hn w2
  have HI : Hid _ := fun x => iswithin_any x0 y0 x1 y1 pw ph x
  have HU : Hid (USl w (.slice ad n c) S ∧ S.length = n ∧ ∀ i, S.getD i 0 < 4294967296) := ⟨hU, hS, hSb⟩
  clear q1 q2 s1 s2 hU hS hSb
  by_cases hE : rkE pw ph n bd W H k = 0
  · by_cases hI : (spnB x0 x1 pw && spnB y0 y1 ph) = true
    · have hpe : paE pw ph n bd W H k x0 y0 x1 y1 = 0 := by unfold paE; rw [if_pos hE, if_pos hI]
      rw [hpe]
      rw [hI] at HI
      rw [hE] at HR
      obtain ⟨pa, pb, b, wa, ha, kk, rfl, rfl, rfl, rfl, rfl, rfl, hsz, hnn, hb, a1, a2, b1, b2, hkk⟩ := rkE_ok hE
      rw [Bool.and_eq_true] at hI
      obtain ⟨xa, xc, rfl, rfl, hx1, hx2⟩ := spn_ok hI.1
      obtain ⟨ya, yd, rfl, rfl, hy1, hy2⟩ := spn_ok hI.2
      obtain ⟨gs, os, cs, hv, hcs, hUI⟩ := HU.out.1.some (by rw [HU.out.2.1, hnn]; exact hsz.pos)
      rw [HU.out.2.1] at hv hcs
      injection hv with hv1 _ hv2
      subst hv1 hv2
      have ec : (((xa + xc : Nat) : Int) - (xa : Int)).toNat = xc := by omega
      have ed : (((ya + yd : Nat) : Int) - (ya : Int)).toNat = yd := by omega
      rw [ec, ed]
      simp only [Int.toNat_natCast]
      have HP : Hid _ := fun x (q : Q w x) => rpiece_any b pa pb wa ha kk xa ya xc yd gs os n c S x hb hsz hnn HU.out.2.1 (hUI.next q) hcs HU.out.2.2 a1 a2 b1 b2 hkk (by omega) (by omega) hx1 hy1
      obtain ⟨V, hV⟩ : ∃ V : Nat → Nat, (fun i => rnkV S pa pb b wa ha kk (xa + i % xc) (ya + i / xc)) = V := ⟨_, rfl⟩
      have hV' : (fun i : Nat => (Value.int .u32 ((rnkV S pa pb b wa ha kk (xa + i % xc) (ya + i / xc) : Nat) : Int))) = fun i => .int .u32 ((V i : Nat) : Int) := by rw [← hV]
      simp only [hV'] at HP
      rw [hV]
      obtain ⟨xe, hxe⟩ : ∃ xe, xa + xc = xe := ⟨_, rfl⟩
      obtain ⟨ye, hye⟩ : ∃ ye, ya + yd = ye := ⟨_, rfl⟩
      obtain ⟨mm, hmm⟩ : ∃ mm, xc * yd = mm := ⟨_, rfl⟩
      simp only [hxe, hye, hmm] at HP
      rw [hxe] at HI hw1 r2
      rw [hye] at HI hw1 r3
      rw [hxe, hye]
      have HMM : Hid (xc * yd = mm) := hmm
      clear hE hI hpe hV hV' hxe hye hmm ec ed hx2 hy2 HU hUI hnn hsz hb a1 a2 b1 b2 hkk hcs hx1 hy1
      go_enter Try.func18, Try.ntmps18
      go_wp2_with fail
      refine Calls.mono HR.out ?_
      rintro e w3 ⟨rfl, q3⟩
      have p0 := q3.cell p0
      have p1 := q3.cell p1
      have p2 := q3.cell p2
      have r0 := q3.cell r0
      have r1 := q3.cell r1
      have r2 := q3.cell r2
      have r3 := q3.cell r3
      have HQ3 : Hid (Q w2 w3) := q3
      clear q3
      go_wp2_with fail
      refine Calls.mono (HI.out _) ?_
      rintro e w4 ⟨rfl, q4⟩
      have p0 := q4.cell p0
      have p1 := q4.cell p1
      have p2 := q4.cell p2
      have r0 := q4.cell r0
      have r1 := q4.cell r1
      have r2 := q4.cell r2
      have r3 := q4.cell r3
      have HQ4 : Hid (Q w2 w4) := HQ3.out.trans q4
      clear q4
      go_wp2_with fail
      refine Calls.mono (HP.out _ (HO.out.2.1.trans HQ4.out)) ?_
      rintro e w5 ⟨g, rfl, hVR, hg1, hg2, q5⟩
      have q25 := HQ4.out.qb.trans q5
      have o0 := q25.cell HO.out.1.1
      have o1 := q25.cell HO.out.1.2.1
      have o2 := q25.cell HO.out.1.2.2.1
      have fo : ∀ j, w5.frozen? ⟨w1.heap.size, j, none⟩ = false := fun j => by rw [q25.frozen (p := ⟨w1.heap.size, j, none⟩) HO.out.2.2.2]; exact HO.out.1.2.2.2 j
      have fo0 := fo 0
      have fo1 := fo 1
      have fo2 := fo 2
      have HW : Hid (Pans w (put3 w5 w1.heap.size (.int .i64 (xc : Int)) (.int .i64 (yd : Int)) (.slice (some ⟨g, 0, none⟩) mm mm)) 0 xc yd V (xc : Int) (yd : Int) (some ⟨g, 0, none⟩) mm mm 0) := (Pans.mk q5 rfl (fun e => absurd rfl e) (fun _ => ⟨g, rfl, rfl, rfl, HMM.out.symm, HMM.out.symm, by rw [HMM.out]; exact hVR, hg1, hg2⟩)).box (HO.out.2.1.trans HQ4.out).qb (by have := HO.out.2.2.1; omega) (by have := HO.out.2.2.2; have := HQ4.out.1.size; omega) _ _ _
      have v0 := put3_c0 (v0 := (.int .i64 (xc : Int))) (v1 := (.int .i64 (yd : Int))) (v2 := (.slice (some ⟨g, 0, none⟩) mm mm)) o0
      have v1 := put3_c1 (v0 := (.int .i64 (xc : Int))) (v1 := (.int .i64 (yd : Int))) (v2 := (.slice (some ⟨g, 0, none⟩) mm mm)) o1
      have v2 := put3_c2 (v0 := (.int .i64 (xc : Int))) (v1 := (.int .i64 (yd : Int))) (v2 := (.slice (some ⟨g, 0, none⟩) mm mm)) o2
      obtain ⟨w9, hw9⟩ : ∃ w9, put3 w5 w1.heap.size (.int .i64 (xc : Int)) (.int .i64 (yd : Int)) (.slice (some ⟨g, 0, none⟩) mm mm) = w9 := ⟨_, rfl⟩
      rw [hw9] at HW v0 v1 v2
      have HW9 : Hid (put3 w5 w1.heap.size (.int .i64 (xc : Int)) (.int .i64 (yd : Int)) (.slice (some ⟨g, 0, none⟩) mm mm) = w9) := hw9
      clear q25 q5 fo hw9 hVR hg1 hg2
      go_wp2_with fail
      have h9 : ((w5.setCell ⟨w1.heap.size, 0, none⟩ (.int .i64 (xc : Int))).setCell ⟨w1.heap.size, 1, none⟩ (.int .i64 (yd : Int))).setCell ⟨w1.heap.size, 2, none⟩ (.slice (some ⟨g, 0, none⟩) mm mm) = w9 := HW9.out
      rw [h9]
      exact bodyPost_ret (v := .tuple #[.agg #[(.int .i64 (xc : Int)), (.int .i64 (yd : Int)), (.slice (some ⟨g, 0, none⟩) mm mm)], (.int .i64 0)]) (by simp [results, Try.results18, go_sem, v0, v1, v2]) rfl ⟨_, _, _, _, _, _, rfl, HW.out⟩
    · have hpe : paE pw ph n bd W H k x0 y0 x1 y1 = 52 := by unfold paE; rw [if_pos hE, if_neg hI]
      have hIf : (spnB x0 x1 pw && spnB y0 y1 ph) = false := by simpa using hI
      rw [hpe]
      rw [hE] at HR
      rw [hIf] at HI
      generalize (fun i => rnkV S pw.toNat ph.toNat bd.toNat W.toNat H.toNat k.toNat (x0.toNat + i % (x1 - x0).toNat) (y0.toNat + i / (x1 - x0).toNat)) = V
      clear hE hI hIf hpe
      go_enter Try.func18, Try.ntmps18
      go_wp2_with fail
      refine Calls.mono HR.out ?_
      rintro e w3 ⟨rfl, q3⟩
      have p0 := q3.cell p0
      have p1 := q3.cell p1
      have r0 := q3.cell r0
      have r1 := q3.cell r1
      have r2 := q3.cell r2
      have r3 := q3.cell r3
      have HQ3 : Hid (Q w2 w3) := q3
      clear q3
      go_wp2_with fail
      refine Calls.mono (HI.out _) ?_
      rintro e w4 ⟨rfl, q4⟩
      have q24 := (HQ3.out.trans q4).qb
      have o0 := q24.cell HO.out.1.1
      have o1 := q24.cell HO.out.1.2.1
      have o2 := q24.cell HO.out.1.2.2.1
      have fo : ∀ j, w4.frozen? ⟨w1.heap.size, j, none⟩ = false := fun j => by rw [q24.frozen (p := ⟨w1.heap.size, j, none⟩) HO.out.2.2.2]; exact HO.out.1.2.2.2 j
      have fo0 := fo 0
      have fo1 := fo 1
      have fo2 := fo 2
      have HW : Hid (Pans w (put3 w4 w1.heap.size (.int .i64 0) (.int .i64 0) (.slice none 0 0)) 52 (x1 - x0).toNat (y1 - y0).toNat V 0 0 none 0 0 52) := ⟨put3_qb (HO.out.2.1.qb.trans q24) (by have := HO.out.2.2.1; omega) _ _ _, rfl, fun _ => ⟨rfl, rfl, rfl, rfl, rfl⟩, fun e => by cases e⟩
      have v0 := put3_c0 (v0 := (.int .i64 0)) (v1 := (.int .i64 0)) (v2 := (.slice none 0 0)) o0
      have v1 := put3_c1 (v0 := (.int .i64 0)) (v1 := (.int .i64 0)) (v2 := (.slice none 0 0)) o1
      have v2 := put3_c2 (v0 := (.int .i64 0)) (v1 := (.int .i64 0)) (v2 := (.slice none 0 0)) o2
      obtain ⟨w9, hw9⟩ : ∃ w9, put3 w4 w1.heap.size (.int .i64 0) (.int .i64 0) (.slice none 0 0) = w9 := ⟨_, rfl⟩
      rw [hw9] at HW v0 v1 v2
      have HW9 : Hid (put3 w4 w1.heap.size (.int .i64 0) (.int .i64 0) (.slice none 0 0) = w9) := hw9
      clear q24 q4 fo hw9
      go_wp2_with fail
      have h9 : ((w4.setCell ⟨w1.heap.size, 0, none⟩ (.int .i64 0)).setCell ⟨w1.heap.size, 1, none⟩ (.int .i64 0)).setCell ⟨w1.heap.size, 2, none⟩ (.slice none 0 0) = w9 := HW9.out
      rw [h9]
      exact bodyPost_ret (v := .tuple #[.agg #[(.int .i64 0), (.int .i64 0), (.slice none 0 0)], (.int .i64 52)]) (by simp [results, Try.results18, go_sem, v0, v1, v2]) rfl ⟨_, _, _, _, _, _, rfl, HW.out⟩
  · have hpe : paE pw ph n bd W H k x0 y0 x1 y1 = rkE pw ph n bd W H k := by unfold paE; rw [if_neg hE]
    rw [hpe]
    generalize (fun i => rnkV S pw.toNat ph.toNat bd.toNat W.toNat H.toNat k.toNat (x0.toNat + i % (x1 - x0).toNat) (y0.toNat + i / (x1 - x0).toNat)) = V
    obtain ⟨E, hEe⟩ : ∃ E, rkE pw ph n bd W H k = E := ⟨_, rfl⟩
    rw [hEe] at HR hE
    rw [hEe]
    have hEb : (E == 0) = false := by simp [hE]
    have HE0 : Hid (E ≠ 0) := hE
    clear hpe hEe hE
    go_enter Try.func18, Try.ntmps18
    go_wp2_with fail
    refine Calls.mono HR.out ?_
    rintro e w3 ⟨rfl, q3⟩
    have q23 := q3.qb
    have o0 := q23.cell HO.out.1.1
    have o1 := q23.cell HO.out.1.2.1
    have o2 := q23.cell HO.out.1.2.2.1
    have fo : ∀ j, w3.frozen? ⟨w1.heap.size, j, none⟩ = false := fun j => by rw [q23.frozen (p := ⟨w1.heap.size, j, none⟩) HO.out.2.2.2]; exact HO.out.1.2.2.2 j
    have fo0 := fo 0
    have fo1 := fo 1
    have fo2 := fo 2
    have HW : Hid (Pans w (put3 w3 w1.heap.size (.int .i64 0) (.int .i64 0) (.slice none 0 0)) E (x1 - x0).toNat (y1 - y0).toNat V 0 0 none 0 0 E) := ⟨put3_qb (HO.out.2.1.qb.trans q23) (by have := HO.out.2.2.1; omega) _ _ _, rfl, fun _ => ⟨rfl, rfl, rfl, rfl, rfl⟩, fun e => absurd e HE0.out⟩
    have v0 := put3_c0 (v0 := (.int .i64 0)) (v1 := (.int .i64 0)) (v2 := (.slice none 0 0)) o0
    have v1 := put3_c1 (v0 := (.int .i64 0)) (v1 := (.int .i64 0)) (v2 := (.slice none 0 0)) o1
    have v2 := put3_c2 (v0 := (.int .i64 0)) (v1 := (.int .i64 0)) (v2 := (.slice none 0 0)) o2
    obtain ⟨w9, hw9⟩ : ∃ w9, put3 w3 w1.heap.size (.int .i64 0) (.int .i64 0) (.slice none 0 0) = w9 := ⟨_, rfl⟩
    rw [hw9] at HW v0 v1 v2
    have HW9 : Hid (put3 w3 w1.heap.size (.int .i64 0) (.int .i64 0) (.slice none 0 0) = w9) := hw9
    clear q23 q3 fo hw9
    go_wp2_with fail
    have h9 : ((w3.setCell ⟨w1.heap.size, 0, none⟩ (.int .i64 0)).setCell ⟨w1.heap.size, 1, none⟩ (.int .i64 0)).setCell ⟨w1.heap.size, 2, none⟩ (.slice none 0 0) = w9 := HW9.out
    rw [h9]
    exact bodyPost_ret (v := .tuple #[.agg #[(.int .i64 0), (.int .i64 0), (.slice none 0 0)], (.int .i64 E)]) (by simp [results, Try.results18, go_sem, v0, v1, v2]) rfl ⟨_, _, _, _, _, _, rfl, HW.out⟩
end Go.Proofs.Ytikhmlcmmabapaa

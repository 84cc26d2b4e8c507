/- rank: the comparison, and sorting by it. -/
import Derived.Test.YtieojgblamkgoaaGreatDoorGbca46a39
import Derived.Shelf.SlSortCmp.NoneTotal
import Derived.Shelf.Lay
import Derived.Ground.SlsfProg
import Derived.Test.YtieojgblamkgoaaGreatDoorG2d4e46c5
import Derived.Test.YtieojgblamkgoaaGreatDoorG61ebc7cf
import Derived.Test.YtieojgblamkgoaaGreatDoorGba4db751
import Derived.Test.YtieojgblamkgoaaGreatDoorG99d426f3
import Derived.Test.YtieojgblamkgoaaGreatDoorGedd9c870
import Derived.Test.YtieojgblamkgoaaGreatDoorG47785df2
namespace Go.Proofs.YtieojgblamkgoaaGreatDoor
open Go.RowKit
set_option linter.unusedVariables false
set_option linter.unusedSimpArgs false

/-- What cmp.Compare tells. -/
def cmpU (x y : Int) : Int := if x < y then -1 else if y < x then 1 else 0
theorem isnanu_any (x : Int) (w : World) : Calls Tryz.prog 106 #[.int .u32 x] w fun e w' => e = .returned (.bool false) ∧ w' = w := by
  go_enter Tryz.func106, Tryz.ntmps106
  go_wp2_with fail
  go_ret
  exact ⟨by first | rfl | simp, rfl⟩
set_option maxHeartbeats 2000000 in
set_option maxRecDepth 100000 in
theorem compareu_any (x y : Int) (w : World) : Calls Tryz.prog 80 #[.int .u32 x, .int .u32 y] w fun e w' => e = .returned (.int .i64 (cmpU x y)) ∧ w' = w := by
  unfold cmpU
  by_cases h1 : x < y
  · rw [if_pos h1]
    go_enter Tryz.func80, Tryz.ntmps80
    go_wp2_with fail
    refine (isnanu_any _ _).mono ?_
    rintro e w' ⟨rfl, rfl⟩
    go_wp2_with fail
    refine (isnanu_any _ _).mono ?_
    rintro e w' ⟨rfl, rfl⟩
    go_wp2_with fail
    go_ret
    exact ⟨rfl, rfl⟩
  · rw [if_neg h1]
    by_cases h2 : y < x
    · rw [if_pos h2]
      go_enter Tryz.func80, Tryz.ntmps80
      go_wp2_with fail
      refine (isnanu_any _ _).mono ?_
      rintro e w' ⟨rfl, rfl⟩
      go_wp2_with fail
      refine (isnanu_any _ _).mono ?_
      rintro e w' ⟨rfl, rfl⟩
      go_wp2_with fail
      go_ret
      exact ⟨rfl, rfl⟩
    · rw [if_neg h2]
      go_enter Tryz.func80, Tryz.ntmps80
      go_wp2_with fail
      refine (isnanu_any _ _).mono ?_
      rintro e w' ⟨rfl, rfl⟩
      go_wp2_with fail
      refine (isnanu_any _ _).mono ?_
      rintro e w' ⟨rfl, rfl⟩
      go_wp2_with fail
      go_ret
      exact ⟨rfl, rfl⟩
/-- The comparison that all samples are sorted by. -/
def cfK (x y : Fin 4294967296) : Int := cmpU (keyN x.val) (keyN y.val)
open Go.Shelf Go.Lib Go.Sort in
theorem ltK (x y : Fin 4294967296) : ltOf cfK x y = decide (keyN x.val < keyN y.val) := by
  unfold ltOf cfK cmpU
  by_cases h1 : keyN x.val < keyN y.val
  · rw [if_pos (by omega)]; simp [h1]
  · rw [if_neg (by omega)]
    by_cases h2 : keyN y.val < keyN x.val
    · rw [if_pos (by omega)]; simp [h1]
    · rw [if_neg (by omega)]; simp [h1]
open Go.Shelf Go.Lib Go.Sort in
theorem swoK : SWO (ltOf cfK) where
  irrefl x := by rw [ltK]; simp
  trans x y z h1 h2 := by rw [ltK] at *; simp at *; omega
  ntrans x y z h1 h2 := by rw [ltK] at *; simp at *; omega
set_option maxRecDepth 1000000
set_option maxHeartbeats 4000000
shelf_lay_g SlLaysF.n6 Slsf 6 at Tryz 79 as rkSortL

/-- No block but one turned, of those that were there. -/
structure But (g : Nat) (w w' : World) : Prop where
  os : w'.os = w.os
  tape : w'.tape = w.tape
  output : w'.output = w.output
  size : w.heap.size ≤ w'.heap.size
  block : ∀ b, b < w.heap.size → b ≠ g → w'.heap[b]? = w.heap[b]?
  froz : ∀ a : Addr, a.block < w.heap.size → w'.frozen? a = w.frozen? a
theorem But.qb {g : Nat} {w0 w w' : World} (h : But g w w') (q : Qb w0 w) (hg : w0.heap.size ≤ g) : Qb w0 w' :=
  ⟨h.os.trans q.os, h.tape.trans q.tape, h.output.trans q.output, Nat.le_trans q.sz h.size, fun k hk => (h.block k (by have := q.sz; omega) (by omega)).trans (q.block k hk)⟩
def toF (s : Nat) : Fin 4294967296 := ⟨s % 4294967296, Nat.mod_lt _ (by decide)⟩
def encF (x : Fin 4294967296) : Value := .int .u32 (x.val : Int)
theorem toF_val {s : Nat} (h : s < 4294967296) : (toF s).val = s := Nat.mod_eq_of_lt h
theorem toF_list : ∀ {L : List Nat}, (∀ s ∈ L, s < 4294967296) → (L.map toF).map Fin.val = L
  | [], _ => rfl
  | a :: L, h => by
    rw [List.map_cons, List.map_cons, toF_val (h a List.mem_cons_self), toF_list (fun s hs => h s (List.mem_cons_of_mem _ hs))]
open Go.Shelf Go.Lib Go.Sort in
theorem merge_rk {L : List Nat} (h : ∀ s ∈ L, s < 4294967296) : ((L.map toF).mergeSort fun x y => !(ltOf cfK) y x).map Fin.val = rkL L := by
  have e : (fun x y : Fin 4294967296 => !(ltOf cfK) y x) = fun x y => decide (keyN x.val ≤ keyN y.val) := by
    funext x y
    rw [ltK]
    by_cases g : keyN x.val ≤ keyN y.val
    · simp [g]
    · simp [g]; omega
  rw [e]
  refine sorted_eq ?_ ?_ h
  · have := (List.mergeSort_perm (L.map toF) (fun x y => decide (keyN x.val ≤ keyN y.val))).map Fin.val
    rw [toF_list h] at this
    exact this
  · rw [List.pairwise_map]
    exact List.pairwise_mergeSort (le := fun x y : Fin 4294967296 => decide (keyN x.val ≤ keyN y.val)) (fun a b c h1 h2 => decide_eq_true (Nat.le_trans (of_decide_eq_true h1) (of_decide_eq_true h2))) (fun a b => by rcases Nat.le_total (keyN a.val) (keyN b.val) with h | h <;> simp [h]) (L.map toF)
end Go.Proofs.YtieojgblamkgoaaGreatDoor
/- stat: the comparison, and sorting by it. -/
namespace Go.Proofs.YtieojgblamkgoaaGreatDoor
open Go.RowKit
set_option linter.unusedVariables false
set_option linter.unusedSimpArgs false

set_option maxHeartbeats 2000000 in
theorem skey_one (x y : Fin 4294967296) (w : World) : Calls Tryz.prog 57 #[.int .u32 (x.val : Int), .int .u32 (y.val : Int)] w fun e w' => e = .returned (.int .i64 (cfK x y)) ∧ w' = w := by
  have A := fun W => keyn_any x.val x.isLt W
  have B := fun W => keyn_any y.val y.isLt W
  have C := fun W => compareu_any (keyN x.val) (keyN y.val) W
  unfold cfK
  generalize cmpU (keyN x.val) (keyN y.val) = r at C
  generalize keyN x.val = a at A C
  generalize keyN y.val = b at B C
  have HA : Hid _ := A
  have HB : Hid _ := B
  have HC : Hid _ := C
  clear A B C
  generalize x.val = u at HA
  generalize y.val = v at HB
  go_enter Tryz.func57, Tryz.ntmps57
  go_wp2_with fail
  refine Calls.mono (HA.out _) ?_
  rintro e w1 ⟨rfl, hw⟩
  obtain rfl := hw.symm
  go_wp2_with fail
  refine Calls.mono (HB.out _) ?_
  rintro e w1 ⟨rfl, hw⟩
  obtain rfl := hw.symm
  go_wp2_with fail
  refine Calls.mono (HC.out _) ?_
  rintro e w1 ⟨rfl, hw⟩
  obtain rfl := hw.symm
  go_wp2_with fail
  go_ret
  exact ⟨rfl, rfl⟩
/-- The comparison as a value. -/
def sK : Value := .func (.func 57) #[] #[]
set_option maxRecDepth 1000000
set_option maxHeartbeats 4000000
open Go.Shelf Go.Lib Go.Sort in
/-- Samples sorted by the comparison. -/
theorem ssort_any (g o c n : Nat) (L : List Nat) (w : World) (hn : L.length = n) (hI : UIs w g o L) (hf : ∀ j, w.frozen? ⟨g, j, none⟩ = false) (hb : ∀ s ∈ L, s < 4294967296) (hblk : g < w.heap.size) (hsz : L.length ≤ 1000000) :
    Calls Tryz.prog 79 #[.slice (some ⟨g, o, none⟩) n c, sK] w fun e w' =>
      e = .returned (.tuple #[]) ∧ UIs w' g o (rkL L) ∧ But g w w' := by
  subst hn
  have hd : (L.map toF).toArray.size = L.length := by simp
  have hget : ∀ j, j < L.length → (L.map toF).toArray[j]! = toF (L.getD j 0) := fun j hj => by
    rw [getElem!_pos _ j (by rw [hd]; exact hj)]
    simp [List.getD_eq_getElem?_getD, List.getElem?_eq_getElem hj]
  have hH : Holds encF w g o (L.map toF).toArray := fun j hj => by
    have hj' : j < L.length := by rw [hd] at hj; exact hj
    refine ⟨?_, hf _⟩
    rw [hI j hj', hget j hj']
    unfold encF
    rw [toF_val (hb _ (getD_mem hj'))]
  have eg : ∀ args w, (callFunc 57 args).run Tryz.prog w = .ok (.enter 57 args) w := enters_of Tryz.func57 (by kernel_rfl) rfl
  have hcr : CmpReads Tryz.prog 57 #[] encF cfK g o (L.map toF).toArray.size w := fun m os dk _ x y => (skey_one x y _).mono fun e w' ⟨h1, h2⟩ => ⟨h1, 0, h2⟩
  have hS := Any.slices_SortFunc_total rkSortL encF (fun _ => rfl) cfK swoK 57 #[] g o c (L.map toF).toArray w eg hcr.lays hH hblk (by rw [hd]; omega) (fun x y h1 h2 => by
    rw [ltK] at h1 h2
    simp only [decide_eq_false_iff_not] at h1 h2
    exact Fin.ext (keyN_inj x.isLt y.isLt (by omega)))
  rw [hd] at hS
  refine Calls.mono hS ?_
  rintro e w' ⟨rfl, n, os, rfl⟩
  generalize hM : ((L.map toF).toArray.toList.mergeSort fun x y => !(ltOf cfK) y x) = M
  have hM2 : M.map Fin.val = rkL L := by rw [← hM, List.toList_toArray]; exact merge_rk hb
  have hl : M.length = L.length := by rw [← rkL_len L, ← hM2, List.length_map]
  have hs : M.toArray.size = (L.map toF).toArray.size := by rw [hd]; simpa using hl
  have h2 := holds_putRow encF (Sort.ahead w n) g o (L.map toF).toArray M.toArray (holds_ahead _ w n g o _ hH) hs
  have hb2 : g < (putRow encF (Sort.ahead w n) g o M.toArray).heap.size := by
    unfold putRow mapBlock; simpa [Sort.ahead] using hblk
  have h3 := holds_grow encF _ os g o _ hb2 h2
  refine ⟨rfl, fun i hi => ?_, rfl, rfl, rfl, ?_, fun b hb hne => ?_, fun a ha => ?_⟩
  · rw [rkL_len] at hi
    have hi' : i < M.toArray.size := by rw [hs, hd]; exact hi
    have := (h3 i hi').1
    rw [getElem!_pos _ i hi'] at this
    show (grow (putRow encF (Sort.ahead w n) g o M.toArray) os).cell? ⟨g, o + i, none⟩ = _
    rw [this]
    have e2 : (rkL L).getD i 0 = (M.toArray[i]).val := by
      rw [← hM2, List.getD_eq_getElem?_getD, List.getElem?_map, List.getElem?_eq_getElem (by rw [hl]; exact hi)]
      simp
    rw [e2]; rfl
  · show w.heap.size ≤ (grow (putRow encF (Sort.ahead w n) g o M.toArray) os).heap.size
    unfold grow putRow mapBlock; simp [Sort.ahead]
  · show (grow (putRow encF (Sort.ahead w n) g o M.toArray) os).heap[b]? = _
    rw [heap_grow_old _ _ (by unfold putRow mapBlock; simpa [Sort.ahead] using hb)]
    unfold putRow mapBlock
    simp only [Array.getElem?_modify, Sort.ahead]
    rw [if_neg (fun e => hne e.symm)]
  · show (grow (putRow encF (Sort.ahead w n) g o M.toArray) os).frozen? a = _
    rw [frozen?_grow _ _ _ (by unfold putRow mapBlock; simpa [Sort.ahead] using ha), frozen?_putRow]; rfl
end Go.Proofs.YtieojgblamkgoaaGreatDoor
/- Pictures: planes in a row, in memory. -/
namespace Go.Proofs.YtieojgblamkgoaaGreatDoor
open Go.RowKit
set_option linter.unusedVariables false
set_option linter.unusedSimpArgs false

/-- Where a plane's samples lie, and which they are. -/
structure PL where
  g : Nat
  o : Nat
  cap : Nat
  S : List Nat
def PL.v (x : PL) : Value := .slice (some ⟨x.g, x.o, none⟩) x.S.length x.cap
/-- A plane's samples are there. -/
structure Gd (w : World) (n : Nat) (x : PL) : Prop where
  len : x.S.length = n
  room : x.S.length ≤ x.cap
  us : UIs w x.g x.o x.S
  lt : ∀ i, x.S.getD i 0 < 4294967296
/-- A plane of the call's own. -/
structure Mine (base : Nat) (w : World) (n : Nat) (x : PL) : Prop where
  o : x.o = 0
  low : base ≤ x.g
  high : x.g < w.heap.size
  gd : Gd w n x
  free : ∀ j, w.frozen? ⟨x.g, j, none⟩ = false
  all : ∀ j, j < x.cap → ∃ u, w.cell? ⟨x.g, j, none⟩ = some u
  cm : x.cap ≤ maxLen
end Go.Proofs.YtieojgblamkgoaaGreatDoor
/- Appending to a list without room: what lies where, and that all the new room is there. -/
namespace Go.Proofs.YtieojgblamkgoaaGreatDoor
open Go.RowKit

theorem run_app_room {P : Program} (w : World) (t ty e : TypeId) (i : TypeInfo) (z : Value) (ht : P.underlying t = some (.slice e)) (hi : P.info? e = some i) (hz : i.zero = some z) (hzs : z.cells.size = i.size)
    (v : Value) (hv : v = .slice none 0 0 ∨ ∃ b, v = .slice (some b) 0 0) (ad : Addr) (m c : Nat) (news : List Value) (hl : news.length = m * i.size) (hnews : ∀ j u, news[j]? = some u → w.cell? (ad.add j) = some u)
    (h0 : 0 < m) (h63 : m ≤ 1125899906842624) (hby : m * i.bytes ≤ 140737488355328) :
    ∃ cap w', (Builtin.append_ #[t, t] ty #[v, .slice (some ad) m c]).run P w = .ok (.slice (some ⟨w.heap.size, 0, none⟩) m cap) w' ∧ Q w w' ∧ m ≤ cap ∧ cap ≤ maxLen ∧ w'.heap.size = w.heap.size + 1 ∧
      (∀ j u, news[j]? = some u → w'.cell? ⟨w.heap.size, j, none⟩ = some u) ∧ (∀ j, j < cap * i.size → ∃ u, w'.cell? ⟨w.heap.size, j, none⟩ = some u) ∧ ∀ j, w'.frozen? ⟨w.heap.size, j, none⟩ = false := by
  have hmm : m ≤ maxLen := by unfold maxLen; omega
  have fin : ∀ (n : Nat) (cs : Array Value), (∀ (j : Nat) (u : Value), news[j]? = some u → cs[j]? = some u) → cs.size = n * i.size → Q w (w.drew.alloc (.cells cs e)) ∧ (w.drew.alloc (.cells cs e)).heap.size = w.heap.size + 1 ∧
      (∀ (j : Nat) (u : Value), news[j]? = some u → (w.drew.alloc (.cells cs e)).cell? ⟨w.heap.size, j, none⟩ = some u) ∧ (∀ j, j < n * i.size → ∃ u, (w.drew.alloc (.cells cs e)).cell? ⟨w.heap.size, j, none⟩ = some u) ∧ ∀ j, (w.drew.alloc (.cells cs e)).frozen? ⟨w.heap.size, j, none⟩ = false := by
    intro n cs hcs hs
    have hb : (w.drew.alloc (.cells cs e)).heap[w.heap.size]? = some (.cells cs e (0, 0)) := heap_alloc_new w.drew _
    refine ⟨(Q.refl w).drew.cells _ _, by simp, fun j u hu => ?_, fun j hj => ?_, fun j => frozen_of_row _ _ _ _ _ hb⟩
    · rw [cell_of_row _ _ j cs e (0, 0) hb]
      exact hcs j u hu
    · rw [cell_of_row _ _ j cs e (0, 0) hb]
      exact ⟨_, Array.getElem?_eq_getElem (by omega)⟩
  have key : ∀ (n : Nat) (j : Nat) (u : Value), news[j]? = some u → (news.toArray ++ Builtin.zeroCells z.cells n)[j]? = some u := by
    intro n j u hu
    have hj : j < news.length := (List.getElem?_eq_some_iff.1 hu).1
    rw [Array.getElem?_append_left (by simpa using hj)]
    simpa using hu
  have size : (news.toArray ++ Builtin.zeroCells z.cells (grownCap w m 0 e - m)).size = grownCap w m 0 e * i.size := by
    have := grownCap_ge w m 0 e
    rw [Array.size_append, size_zeroCells, hzs, List.size_toArray, hl, ← Nat.add_mul]
    congr 1; omega
  rcases hv with rfl | ⟨b, rfl⟩
  · have hr := run_append_nil (P := P) w t ty e i z ht hi hz ad m c news hl hnews h0 (by omega) (by omega)
    obtain ⟨q1, q2, q3, q4, q5⟩ := fin _ _ (key (grownCap w m 0 e - m)) size
    exact ⟨_, _, hr, q1, grownCap_ge w m 0 e, grownCap_le_maxLen w m 0 e hmm, q2, q3, q4, q5⟩
  · have hr := run_append_grow (P := P) w t ty e i z ht hi hz b 0 0 [] (by simp) (fun j v h => by simp at h) ad m c news hl hnews (by omega) (by omega) (growslice_fits (by omega) (by rw [Nat.zero_add]; exact hby))
    simp only [Nat.zero_add, Array.empty_append] at hr
    obtain ⟨q1, q2, q3, q4, q5⟩ := fin _ _ (key (grownCap w m 0 e - m)) size
    exact ⟨_, _, hr, q1, grownCap_ge w m 0 e, grownCap_le_maxLen w m 0 e hmm, q2, q3, q4, q5⟩
/-- In a list of operations. -/
theorem wpList_room {P : Program} (w : World) {ops : Array Oper} {rest : List Oper} {o : Oper} {a : Act} {R : Exit → Act → World → Prop} (hgd : o.guard = none) (s x : Operand) (t : TypeId)
    (ho : o.op = .call { callee := .builtin .append, args := #[s, x], argTypes := #[t, t] })
    (e : TypeId) (i : TypeInfo) (z : Value) (ht : P.underlying t = some (.slice e)) (hi : P.info? e = some i) (hz : i.zero = some z) (hzs : z.cells.size = i.size)
    (v : Value) (hv : v = .slice none 0 0 ∨ ∃ b, v = .slice (some b) 0 0) (hs : a.eval s = v) (ad : Addr) (m c : Nat) (news : List Value) (hx : a.eval x = .slice (some ad) m c) (hl : news.length = m * i.size) (hnews : ∀ j u, news[j]? = some u → w.cell? (ad.add j) = some u)
    (h0 : 0 < m) (h63 : m ≤ 1125899906842624) (hby : m * i.bytes ≤ 140737488355328)
    (h : ∀ cap w', Q w w' → m ≤ cap → cap ≤ maxLen → w'.heap.size = w.heap.size + 1 → (∀ j u, news[j]? = some u → w'.cell? ⟨w.heap.size, j, none⟩ = some u) → (∀ j, j < cap * i.size → ∃ u, w'.cell? ⟨w.heap.size, j, none⟩ = some u) → (∀ j, w'.frozen? ⟨w.heap.size, j, none⟩ = false) → wpList P ops R rest (a.put o.dst (.slice (some ⟨w.heap.size, 0, none⟩) m cap)) w') :
    wpList P ops R (o :: rest) a w := by
  obtain ⟨cap, w', hr, h1, h2, h3, h4, h5, h6, h7⟩ := run_app_room (P := P) w t o.type e i z ht hi hz hzs v hv ad m c news hl hnews h0 h63 hby
  refine wpList_plain hgd fun _ hK => ?_
  unfold Oper.wp execOp
  simp only [ho, resolve, invoke, builtin, Sem.run_bind, Sem.run_pure, Result.andThen_ok, List.map_toArray, List.map_cons, List.map_nil, hs, hx, hr]
  exact hK _ _ (h cap w' h1 h2 h3 h4 h5 h6 h7)
end Go.Proofs.YtieojgblamkgoaaGreatDoor
/- Copies of samples and of planes. -/
namespace Go.Proofs.YtieojgblamkgoaaGreatDoor
open Go.RowKit
set_option linter.unusedVariables false
set_option linter.unusedSimpArgs false

theorem eql_nil (P : Program) (w : World) (t e : TypeId) (a : Addr) (n c : Nat) (h : P.underlying t = some (.slice e)) : (binOp .eql t (.slice (some a) n c) (.slice none 0 0)).run P w = .ok (.bool false) w := by
  simp only [binOp]
  simp [Op.equal, Op.maxDepth, Lib.run_equalIn_slice_nil w 9999 t e (some a) n c 0 0 h]
/-- The cells of samples. -/
def celU (S : List Nat) : List Value := S.map fun x => .int .u32 (x : Nat)
theorem celU_length (S : List Nat) : (celU S).length = S.length := by simp [celU]
theorem celU_get {S : List Nat} {j : Nat} (h : j < S.length) : (celU S)[j]? = some (.int .u32 (S.getD j 0 : Nat)) := by
  unfold celU
  rw [List.getElem?_map, List.getD_eq_getElem?_getD, List.getElem?_eq_getElem h]; rfl
theorem addrAdd (g o j : Nat) : (⟨g, o, none⟩ : Addr).add j = ⟨g, o + j, none⟩ := by unfold Addr.add; split <;> simp_all
theorem celU_cells {w : World} {g o : Nat} {S : List Nat} (h : UIs w g o S) : ∀ j u, (celU S)[j]? = some u → w.cell? ((⟨g, o, none⟩ : Addr).add j) = some u := by
  intro j u hj
  have hjl : j < S.length := by have := (List.getElem?_eq_some_iff.1 hj).1; rw [celU_length] at this; exact this
  rw [celU_get hjl] at hj
  injection hj with hj
  rw [← hj, addrAdd]
  exact h j hjl
set_option maxHeartbeats 1000000 in
set_option maxRecDepth 100000 in
theorem clone_us (w : World) (n : Nat) (x : PL) (h : Gd w n x) (h1 : 1 ≤ n) (h2 : n ≤ 65536) :
    Calls Tryz.prog 78 #[x.v] w fun e w' => ∃ y : PL, e = .returned y.v ∧ y.S = x.S ∧ Hid (Mine w.heap.size w' n y) ∧ Q w w' := by
  obtain ⟨g, o, cap, S⟩ := x
  have hl := h.len
  have hcap := h.room
  have hlt := h.lt
  have hus := h.us
  simp only at hl hcap hlt hus
  subst hl
  obtain ⟨i, i1, i2, i3, i4⟩ := u32Info
  have H1 : Hid (∀ j u, (celU S)[j]? = some u → w.cell? ((⟨g, o, none⟩ : Addr).add j) = some u) := celU_cells hus
  have H2 : Hid ((celU S).length = S.length * i.size) := by show _ = _; rw [i2, celU_length, Nat.mul_one]
  have H3 : Hid (S.length * i.bytes ≤ 140737488355328) := by show _ ≤ _; rw [i3]; omega
  have H4 : Hid (Tryz.prog.info? 43 = some i) := i1
  have H5 : Hid (i.zero = some (.int .u32 0)) := i4
  have H6 : Hid (i.size = 1) := i2
  have H7 : Hid ((Value.int .u32 0).cells.size = i.size) := by show _ = _; rw [i2]; rfl
  have HLT : Hid (∀ i, S.getD i 0 < 4294967296) := hlt
  clear h hus hlt i1 i2 i3 i4
  have l1 := fun w => eql_nil Tryz.prog w 24 43 ⟨g, o, none⟩ S.length cap Tryz.underlying24
  unfold PL.v
  go_enter Tryz.func78, Tryz.ntmps78
  go_wp2_with (at_builtin; go_must (refine wpList_room _ rfl (.tmp 5) (.tmp 6) 24 rfl 43 i _ Tryz.underlying24 H4.out H5.out H7.out _ (Or.inr ⟨_, rfl⟩) rfl _ S.length cap (celU S) rfl H2.out (fun j u h => Q.cell ((Q.refl w).cells _ _) (H1.out j u h)) (by omega) (by omega) H3.out ?_; intro cap' w' q1 q2 q3 q4 q5 q6 q7))
  have hz : (w.alloc (.cells #[] 43)).heap.size = w.heap.size + 1 := by simp
  rw [hz] at q4 q5 q6 q7
  rw [H6.out, Nat.mul_one] at q6
  go_ret
  refine ⟨⟨w.heap.size + 1, 0, cap', S⟩, rfl, rfl, ⟨rfl, Nat.le_succ _, by show w.heap.size + 1 < w'.heap.size; omega, ⟨rfl, q2, fun j hj => ?_, HLT.out⟩, q7, q6, q3⟩, ((Q.refl w).cells _ _).trans q1⟩
  rw [Nat.zero_add]
  exact q5 j _ (celU_get hj)
end Go.Proofs.YtieojgblamkgoaaGreatDoor
/- stat: Rank, Share. -/
namespace Go.Proofs.YtieojgblamkgoaaGreatDoor
open Go.RowKit
set_option linter.unusedVariables false
set_option linter.unusedSimpArgs false

theorem mem_of_getD2 {L : List Nat} (h : ∀ i, L.getD i 0 < 4294967296) : ∀ s ∈ L, s < 4294967296 := by
  intro s hs
  obtain ⟨i, hi, rfl⟩ := List.getElem_of_mem hs
  have := h i
  rw [List.getD_eq_getElem?_getD, List.getElem?_eq_getElem hi] at this
  exact this
set_option maxHeartbeats 4000000 in
set_option maxRecDepth 100000 in
theorem ranked_any (g o cap k : Nat) (S : List Nat) (w : World) (hI : UIs w g o S) (hk : k < S.length) (hcap : S.length ≤ cap) (hb : ∀ i, S.getD i 0 < 4294967296) (hn : S.length ≤ 65536) :
    Calls Tryz.prog 56 #[.slice (some ⟨g, o, none⟩) S.length cap, .int .i64 (k : Int), sK] w fun e w' => e = .returned (.int .u32 (rkV S k : Nat)) ∧ Qb w w' := by
  have K : Hid _ := clone_us w S.length ⟨g, o, cap, S⟩ ⟨rfl, hcap, hI, hb⟩ (by omega) hn
  have HM : Hid (∀ s ∈ S, s < 4294967296) := mem_of_getD2 hb
  unfold sK
  go_enter Tryz.func56, Tryz.ntmps56
  go_wp2_with fail
  refine Calls.mono K.out ?_
  rintro e w1 ⟨y, rfl, hS, hM, q1⟩
  obtain ⟨yg, yo, yc, yS⟩ := y
  obtain ⟨ho, hlow, hhigh, ⟨hl, hroom, hus, hlt⟩, hfree, hall, hcm⟩ := hM.out
  simp only at hS ho hlow hhigh hl hroom hus hlt hfree hall hcm
  subst hS ho
  unfold PL.v
  have KS : Hid _ := ssort_any yg 0 yc yS.length yS w1 rfl hus hfree HM.out hhigh (by omega)
  unfold sK at KS
  have HQ1 : Hid (Q w w1) := q1
  clear q1 hus hfree hall hM hb hI K
  go_wp2_with fail
  refine Calls.mono KS.out ?_
  rintro e w2 ⟨rfl, hR, hB⟩
  have hq : Hid (Qb w w2) := hB.qb HQ1.out.qb hlow
  have hc := hR k (by rw [rkL_len]; exact hk)
  rw [Nat.zero_add] at hc
  have hv : (rkL yS).getD k 0 = rkV yS k := rfl
  rw [hv] at hc
  have hki : (k : Int) < (yS.length : Int) := by omega
  clear hR hB KS hv
  go_wp2_with fail
  go_ret
  exact ⟨rfl, hq.out⟩
/-- What Rank tells; what Share tells. -/
def srkV (E : Int) (S : List Nat) (k : Int) : Nat × Int := if E ≠ 0 then (0, E) else if k < 0 ∨ (S.length : Int) ≤ k then (0, 162) else (rkV S k.toNat, 0)
def sshV (E : Int) (S : List Nat) (num den : Int) : Nat × Int := if E ≠ 0 then (0, E) else if den < 1 ∨ 1048576 < den ∨ num < 0 ∨ den < num then (0, 162) else srkV E S ((((S.length : Int) - 1) * num) / den)
set_option maxHeartbeats 4000000 in
set_option maxRecDepth 100000 in
theorem srank_any (pw ph : Int) (ad : Option Addr) (n c : Nat) (S : List Nat) (k : Int) (w : World) (us : USl w (.slice ad n c) S) (hS : S.length = n) (hb : ∀ i, S.getD i 0 < 4294967296) (hn : n ≤ 9223372036854775807) :
    Calls Tryz.prog 17 #[.agg #[.int .i64 pw, .int .i64 ph, .slice ad n c], .int .i64 k] w fun e w' => e = .returned (.tuple #[.int .u32 ((srkV (chk pw ph n) S k).1 : Nat), .int .i64 (srkV (chk pw ph n) S k).2]) ∧ Qb w w' := by
  have K0 := fun w => check_any pw ph ad n c hn w
  obtain ⟨E, hEq⟩ : ∃ E, chk pw ph n = E := ⟨_, rfl⟩
  simp only [hEq] at K0
  have K : Hid _ := K0
  clear K0
  obtain ⟨w1, hw1⟩ : ∃ w1, w.alloc (.cells #[.int .i64 pw, .int .i64 ph, .slice ad n c] 26) = w1 := ⟨_, rfl⟩
  have q1 : Q w w1 := by rw [← hw1]; exact (Q.refl w).cells _ _
  have z2 : w1.cell? ⟨w.heap.size, 2, none⟩ = some (.slice ad n c) := by rw [← hw1]; simp [go_sem]
  have z1 : w1.cell? ⟨w.heap.size, 1, none⟩ = some (.int .i64 ph) := by rw [← hw1]; simp [go_sem]
  have z0 : w1.cell? ⟨w.heap.size, 0, none⟩ = some (.int .i64 pw) := by rw [← hw1]; simp [go_sem]
  have HQ1 : Hid (Q w w1) := q1
  have HU : Hid (USl w1 (.slice ad n c) S) := us.next q1
  have HB : Hid (∀ i, S.getD i 0 < 4294967296) := hb
  have HZ : Hid (E = 0 → n ≤ 65536) := fun h => by
    obtain ⟨a, b, _, _, hs, he⟩ := chk_zero (hEq.trans h)
    have := hs.ab
    omega
  rw [hEq]
  clear q1 us hb hEq
  by_cases hE : E = 0
  · have hz := HZ.out hE
    subst hE
    unfold srkV
    rw [if_neg (fun h => h rfl)]
    clear HZ
    by_cases h0 : k < 0
    · rw [if_pos (Or.inl h0)]
      go_enter Tryz.func17, Tryz.ntmps17
      go_wp2_with fail
      refine Calls.mono (K.out _) ?_
      rintro e w2 ⟨rfl, q2⟩
      go_wp2_with fail
      go_ret2
      exact ⟨rfl, (HQ1.out.trans q2).qb⟩
    · by_cases h1 : (n : Int) ≤ k
      · rw [if_pos (Or.inr (by rw [hS]; exact h1))]
        go_enter Tryz.func17, Tryz.ntmps17
        go_wp2_with fail
        refine Calls.mono (K.out _) ?_
        rintro e w2 ⟨rfl, q2⟩
        have z2 := q2.cell z2
        go_wp2_with fail
        go_ret2
        exact ⟨rfl, (HQ1.out.trans q2).qb⟩
      · obtain ⟨j, rfl⟩ : ∃ j : Nat, k = (j : Int) := ⟨k.toNat, by omega⟩
        rw [if_neg (by rw [hS]; omega), Int.toNat_natCast]
        subst hS
        obtain ⟨g, o, cap, hv, hcap, hI⟩ := HU.out.some (by omega)
        injection hv with hv1 hv2 hv3
        subst hv1 hv3
        clear hv2
        have KR : Hid (∀ x, Q w1 x → Calls Tryz.prog 56 #[.slice (some ⟨g, o, none⟩) S.length c, .int .i64 (j : Int), sK] x fun e w' => e = .returned (.int .u32 (rkV S j : Nat)) ∧ Qb x w') := fun x q => ranked_any g o c j S x (hI.next q) (by omega) hcap HB.out hz
        unfold sK at KR
        generalize rkV S j = m at *
        clear hI HU
        go_enter Tryz.func17, Tryz.ntmps17
        go_wp2_with fail
        clear hw1
        refine Calls.mono (K.out _) ?_
        rintro e w2 ⟨rfl, q2⟩
        have z2 := q2.cell z2
        go_wp2_with fail
        refine Calls.mono (KR.out _ q2) ?_
        rintro e w3 ⟨rfl, q3⟩
        go_wp2_with fail
        go_ret2
        exact ⟨rfl, (HQ1.out.trans q2).qb.trans q3⟩
  · unfold srkV
    rw [if_pos hE]
    have hne : (E != 0) = true := by simpa using hE
    clear hE HZ
    go_enter Tryz.func17, Tryz.ntmps17
    go_wp2_with fail
    refine Calls.mono (K.out _) ?_
    rintro e w2 ⟨rfl, q2⟩
    go_wp2_with fail
    go_ret2
    exact ⟨rfl, (HQ1.out.trans q2).qb⟩
section
variable {P : Program} {l : List Oper} {rd : List Nat} {ords : List (List Nat)} {C : World → Prop} {N : Act → World → Prop} {n : Nat} {p : List Nat} {A : Act} {x : World}
theorem tree_or (k k' : Nat) (hk : ((nexts ords p).all fun j => j == k || j == k') = true) {o o' : Oper} (ho : l[k]? = some o) (ho' : l[k']? = some o') (h : Does P o A.eval x (fun v x' => (fullB l rd k = false → C x') ∧ wpTree P l rd ords C N n (p ++ [k]) (A.put o.dst v) x')) (h' : Does P o' A.eval x (fun v x' => (fullB l rd k' = false → C x') ∧ wpTree P l rd ords C N n (p ++ [k']) (A.put o'.dst v) x')) : wpTree P l rd ords C N (n + 1) p A x := by
  intro j hj oj hoj
  have := List.all_eq_true.1 hk j hj
  simp only [Bool.or_eq_true, beq_iff_eq] at this
  rcases this with rfl | rfl
  · obtain rfl := Option.some.inj (ho.symm.trans hoj); exact h
  · obtain rfl := Option.some.inj (ho'.symm.trans hoj); exact h'
theorem tree_one (k : Nat) (hk : ((nexts ords p).all fun j => j == k) = true) {o : Oper} (ho : l[k]? = some o) (h : Does P o A.eval x (fun v x' => (fullB l rd k = false → C x') ∧ wpTree P l rd ords C N n (p ++ [k]) (A.put o.dst v) x')) : wpTree P l rd ords C N (n + 1) p A x := by
  intro j hj oj hoj
  have := List.all_eq_true.1 hk j hj
  simp only [beq_iff_eq] at this
  subst this
  obtain rfl := Option.some.inj (ho.symm.trans hoj)
  exact h
theorem treeS_run (k : Nat) (hk : ((nexts ords p).all fun j => j == k) = true) {o : Oper} (ho : l[k]? = some o) {v : Value} {x' : World} (hr : (execOp A.eval o).run P x = .ok (.value v) x') (hC : C x') (h : wpTree P l rd ords C N n (p ++ [k]) (A.put o.dst v) x') : wpTree P l rd ords C N (n + 1) p A x :=
  tree_one k hk ho (does_value hr ⟨fun _ => hC, h⟩)
theorem treeS_call (k : Nat) (hk : ((nexts ords p).all fun j => j == k) = true) {o : Oper} (ho : l[k]? = some o) {f : FuncId} {vs : Array Value} (hr : (execOp A.eval o).run P x = .ok (.enter f vs) x) {G : Value → World → Prop} (hc : Calls P f vs x fun e x' => ∃ v, e = .returned v ∧ G v x') (h : ∀ v x', G v x' → C x' ∧ wpTree P l rd ords C N n (p ++ [k]) (A.put o.dst v) x') : wpTree P l rd ords C N (n + 1) p A x :=
  tree_one k hk ho (does_call hr (hc.mono fun e x' ⟨v, h1, h2⟩ => ⟨v, h1, fun _ => (h v x' h2).1, (h v x' h2).2⟩))
end
section
variable {ρ : Operand → Value} {x : World} {d : Option Tmp} {ty : TypeId} {ps : String} {af : Array Edge} {gd : Option (Nat × Bool)}
theorem srun_sub1 {j : Nat} {N K : Int} (h : ρ (.tmp j) = .int .i64 N) (hc : ρ (.const (.int .i64 1)) = .int .i64 1) (hw : IntKind.i64.wrap (N - 1) = K) : (execOp ρ { dst := d, op := .binOp .sub 3 (.tmp j) (.const (.int .i64 1)) 3, type := ty, pos := ps, after := af, guard := gd }).run Tryz.prog x = .ok (.value (.int .i64 K)) x := by
  simp [execOp, h, hc, go_sem, hw]
theorem srun_mul {j k : Nat} {N M K : Int} (h : ρ (.tmp j) = .int .i64 N) (h' : ρ (.tmp k) = .int .i64 M) (hw : IntKind.i64.wrap (N * M) = K) : (execOp ρ { dst := d, op := .binOp .mul 3 (.tmp j) (.tmp k) 3, type := ty, pos := ps, after := af, guard := gd }).run Tryz.prog x = .ok (.value (.int .i64 K)) x := by
  simp [execOp, h, h', go_sem, hw]
theorem srun_quo {j k : Nat} {N M K : Int} (h : ρ (.tmp j) = .int .i64 N) (h' : ρ (.tmp k) = .int .i64 M) (hM : M ≠ 0) (hw : IntKind.i64.wrap (Int.tdiv N M) = K) : (execOp ρ { dst := d, op := .binOp .quo 3 (.tmp j) (.tmp k) 3, type := ty, pos := ps, after := af, guard := gd }).run Tryz.prog x = .ok (.value (.int .i64 K)) x := by
  simp [execOp, h, h', go_sem, hw, hM]
theorem srun_ext0 {j : Nat} {a b : Value} (h : ρ (.tmp j) = .tuple #[a, b]) : (execOp ρ { dst := d, op := .extract (.tmp j) 0, type := ty, pos := ps, after := af, guard := gd }).run Tryz.prog x = .ok (.value a) x := by
  simp [execOp, h, go_sem]
theorem srun_ext1 {j : Nat} {a b : Value} (h : ρ (.tmp j) = .tuple #[a, b]) : (execOp ρ { dst := d, op := .extract (.tmp j) 1, type := ty, pos := ps, after := af, guard := gd }).run Tryz.prog x = .ok (.value b) x := by
  simp [execOp, h, go_sem]
theorem srun_asg {j : Nat} {a : Value} (h : ρ (.tmp j) = a) : (execOp ρ { dst := d, op := .assign (.tmp j), type := ty, pos := ps, after := af, guard := gd }).run Tryz.prog x = .ok (.value a) x := by
  simp [execOp, h, go_sem]
end
set_option maxHeartbeats 4000000 in
set_option maxRecDepth 100000 in
theorem sshare_any (pw ph : Int) (ad : Option Addr) (n c : Nat) (S : List Nat) (num den : Int) (w : World) (us : USl w (.slice ad n c) S) (hS : S.length = n) (hb : ∀ i, S.getD i 0 < 4294967296) (hn : n ≤ 9223372036854775807) :
    Calls Tryz.prog 18 #[.agg #[.int .i64 pw, .int .i64 ph, .slice ad n c], .int .i64 num, .int .i64 den] w fun e w' => e = .returned (.tuple #[.int .u32 ((sshV (chk pw ph n) S num den).1 : Nat), .int .i64 (sshV (chk pw ph n) S num den).2]) ∧ Qb w w' := by
  have K0 := fun w => check_any pw ph ad n c hn w
  have KR0 : ∀ k x, Q w x → Calls Tryz.prog 17 #[.agg #[.int .i64 pw, .int .i64 ph, .slice ad n c], .int .i64 k] x fun e w' => e = .returned (.tuple #[.int .u32 ((srkV (chk pw ph n) S k).1 : Nat), .int .i64 (srkV (chk pw ph n) S k).2]) ∧ Qb x w' := fun k x q => srank_any pw ph ad n c S k x (us.next q) hS hb hn
  obtain ⟨E, hEq⟩ : ∃ E, chk pw ph n = E := ⟨_, rfl⟩
  simp only [hEq] at K0 KR0
  have K : Hid _ := K0
  have KR : Hid _ := KR0
  clear K0 KR0
  obtain ⟨w1, hw1⟩ : ∃ w1, w.alloc (.cells #[.int .i64 pw, .int .i64 ph, .slice ad n c] 26) = w1 := ⟨_, rfl⟩
  have q1 : Q w w1 := by rw [← hw1]; exact (Q.refl w).cells _ _
  have z2 : w1.cell? ⟨w.heap.size, 2, none⟩ = some (.slice ad n c) := by rw [← hw1]; simp [go_sem]
  have z1 : w1.cell? ⟨w.heap.size, 1, none⟩ = some (.int .i64 ph) := by rw [← hw1]; simp [go_sem]
  have z0 : w1.cell? ⟨w.heap.size, 0, none⟩ = some (.int .i64 pw) := by rw [← hw1]; simp [go_sem]
  have HQ1 : Hid (Q w w1) := q1
  have HZ : Hid (E = 0 → 1 ≤ n ∧ n ≤ 65536) := fun h => by
    obtain ⟨a, b, _, _, hs, he⟩ := chk_zero (hEq.trans h)
    have := hs.ab
    have := hs.pos
    omega
  rw [hEq]
  clear q1 us hb hEq
  by_cases hE : E = 0
  · have hz := HZ.out hE
    subst hE
    unfold sshV
    rw [if_neg (fun h => h rfl)]
    clear HZ
    by_cases h0 : den < 1
    · rw [if_pos (Or.inl h0)]
      go_enter Tryz.func18, Tryz.ntmps18
      go_wp2_with fail
      refine Calls.mono (K.out _) ?_
      rintro e w2 ⟨rfl, q2⟩
      go_wp2_with fail
      go_ret2
      exact ⟨rfl, (HQ1.out.trans q2).qb⟩
    · by_cases h1 : 1048576 < den
      · rw [if_pos (Or.inr (Or.inl h1))]
        go_enter Tryz.func18, Tryz.ntmps18
        go_wp2_with fail
        refine Calls.mono (K.out _) ?_
        rintro e w2 ⟨rfl, q2⟩
        go_wp2_with fail
        go_ret2
        exact ⟨rfl, (HQ1.out.trans q2).qb⟩
      · by_cases h2 : num < 0
        · rw [if_pos (Or.inr (Or.inr (Or.inl h2)))]
          go_enter Tryz.func18, Tryz.ntmps18
          go_wp2_with fail
          refine Calls.mono (K.out _) ?_
          rintro e w2 ⟨rfl, q2⟩
          go_wp2_with fail
          go_ret2
          exact ⟨rfl, (HQ1.out.trans q2).qb⟩
        · by_cases h3 : den < num
          · rw [if_pos (Or.inr (Or.inr (Or.inr h3)))]
            go_enter Tryz.func18, Tryz.ntmps18
            go_wp2_with fail
            refine Calls.mono (K.out _) ?_
            rintro e w2 ⟨rfl, q2⟩
            go_wp2_with fail
            go_ret2
            exact ⟨rfl, (HQ1.out.trans q2).qb⟩
          · rw [if_neg (by omega), hS]
            obtain ⟨m, hm⟩ : ∃ m, ((n : Int) - 1) * num = m := ⟨_, rfl⟩
            have hmb : 0 ≤ m ∧ m ≤ 65535 * 1048576 := by
              rw [← hm]
              refine ⟨Int.mul_nonneg (by omega) (by omega), ?_⟩
              exact Int.le_trans (Int.mul_le_mul_of_nonneg_right (by omega) (by omega)) (Int.mul_le_mul_of_nonneg_left (by omega) (by omega))
            obtain ⟨k, hk⟩ : ∃ k, m / den = k := ⟨_, rfl⟩
            have hkb : 0 ≤ k ∧ k ≤ m := by
              rw [← hk]
              exact ⟨Int.ediv_nonneg hmb.1 (by omega), Int.ediv_le_self _ hmb.1⟩
            have et : Int.tdiv m den = k := by rw [Int.tdiv_eq_ediv_of_nonneg hmb.1]; exact hk
            rw [hm, hk]
            have HR : Hid (∀ x, Q w x → Calls Tryz.prog 17 #[.agg #[.int .i64 pw, .int .i64 ph, .slice ad n c], .int .i64 k] x fun e w' => e = .returned (.tuple #[.int .u32 ((srkV 0 S k).1 : Nat), .int .i64 (srkV 0 S k).2]) ∧ Qb x w') := fun x q => KR.out k x q
            generalize (srkV 0 S k).1 = v0 at *
            generalize (srkV 0 S k).2 = v1 at *
            have em : wrap64 (wrap64 ((n : Int) - 1) * num) = m := by
              have e1 : wrap64 ((n : Int) - 1) = (n : Int) - 1 := by unfold wrap64; omega
              rw [e1, hm]; unfold wrap64; omega
            have ek : wrap64 (Int.tdiv m den) = k := by rw [et]; unfold wrap64; omega
            have hd0 : (den == 0) = false := by simp; omega
            have HF : Hid (((n : Int) - 1) * num = m ∧ m / den = k) := ⟨hm, hk⟩
            clear KR hk em ek hkb
            have hkb : 0 ≤ k ∧ k ≤ 65535 * 1048576 := by rw [← HF.out.2]; exact ⟨Int.ediv_nonneg hmb.1 (by omega), Int.le_trans (Int.ediv_le_self _ hmb.1) hmb.2⟩
            go_enter Tryz.func18, Tryz.ntmps18
            go_wp2_with fail
            clear hw1
            refine Calls.mono (K.out _) ?_
            rintro e w2 ⟨rfl, q2⟩
            have z0 := q2.cell z0
            have z1 := q2.cell z1
            have z2 := q2.cell z2
            have HQ2 : Hid (Q w w2) := HQ1.out.trans q2
            clear HQ1 q2
            have D0 : Qb w2 w2.drew := (Qb.refl w2).drew
            have f0 := fun n : CW (fun z : World => Qb w2 z) => n.h.cell z0
            have f1 := fun n : CW (fun z : World => Qb w2 z) => n.h.cell z1
            have f2 := fun n : CW (fun z : World => Qb w2 z) => n.h.cell z2
            have n0 : Nonempty (CW (fun z : World => Qb w2 z)) := cw_some D0
            go_wp2_with fail
            refine wp_region_mkP [0, 1, 2, 5, 7] [[3, 4, 6, 8, 9, 10, 11, 12, 13], [3, 4, 6, 8, 9, 11, 10, 12, 13]] 9 _ (fun z : World => Qb w2 z) (by kernel_rfl) (by kernel_rfl) rfl (by kernel_rfl) D0 ?_
            simp only [List.filterMap_cons, List.filterMap_nil, List.getElem?_cons_zero, List.getElem?_cons_succ]
            repeat (first | go_big_quiet_step (fail) | quiet_step (fail))
            refine wpQuiet_nil ?_
            have D : Qb w2 w2.drew := D0
            refine treeS_run 3 (by kernel_rfl) rfl (v := .int .i64 (n : Int)) (x' := w2.drew) (by simp [execOp, resolve, invoke, builtin, go_sem, Act.eval]) D ?_
            refine treeS_run 4 (by kernel_rfl) rfl (v := .int .i64 ((n : Int) - 1)) (x' := w2.drew) (srun_sub1 (N := (n : Int)) (by kernel_rfl) rfl (by rw [IntKind.wrap_i64]; omega)) D ?_
            refine treeS_run 6 (by kernel_rfl) rfl (v := .int .i64 m) (x' := w2.drew) (srun_mul (N := (n : Int) - 1) (M := num) (by kernel_rfl) (by kernel_rfl) (by rw [hm, IntKind.wrap_i64]; omega)) D ?_
            refine treeS_run 8 (by kernel_rfl) rfl (v := .int .i64 k) (x' := w2.drew) (srun_quo (N := m) (M := den) (by kernel_rfl) (by kernel_rfl) (by omega) (by rw [et, IntKind.wrap_i64]; omega)) D ?_
            refine treeS_call 9 (by kernel_rfl) rfl (run_fn 17 #[.tmp 29, .tmp 37] _ rfl (fun _ _ => rfl) (vs := #[.agg #[.int .i64 pw, .int .i64 ph, .slice ad n c], .int .i64 k]) (by kernel_rfl)) (G := fun v x' => v = .tuple #[.int .u32 (v0 : Int), .int .i64 v1] ∧ Qb w2.drew x') ((HR.out w2.drew (HQ2.out.drew)).mono fun e x' h => ⟨_, h.1, rfl, h.2⟩) ?_
            rintro vq z3 ⟨rfl, q3⟩
            have Q3 : Qb w2 z3 := Qb.trans D q3
            refine ⟨Q3, ?_⟩
            have HQ3 : Hid (Qb w z3) := HQ2.out.qb.trans Q3
            simp only [Act.put, List.setIfInBounds_toArray, List.set_cons_succ, List.set_cons_zero]
            refine tree_or 10 11 (by kernel_rfl) rfl rfl ?_ ?_
            · refine does_value (v := .int .u32 (v0 : Int)) (x' := z3) (srun_ext0 (a := .int .u32 (v0 : Int)) (b := .int .i64 v1) (by kernel_rfl)) ⟨fun _ => Q3, ?_⟩
              refine treeS_run 11 (by kernel_rfl) rfl (v := .int .i64 v1) (x' := z3) (srun_ext1 (a := .int .u32 (v0 : Int)) (b := .int .i64 v1) (by kernel_rfl)) Q3 ?_
              simp only [Act.put, List.setIfInBounds_toArray, List.set_cons_succ, List.set_cons_zero]
              refine treeS_run 12 (by kernel_rfl) rfl (v := .int .u32 (v0 : Int)) (x' := z3) (srun_asg (by kernel_rfl)) Q3 ?_
              refine treeS_run 13 (by kernel_rfl) rfl (v := .int .i64 v1) (x' := z3) (srun_asg (by kernel_rfl)) Q3 ?_
              refine tree_nil ?_
              simp only [Act.put, List.setIfInBounds_toArray, List.set_cons_succ, List.set_cons_zero]
              clear q3 D0
              go_wp2_with fail
              go_ret2
              exact ⟨rfl, HQ3.out⟩
            · refine does_value (v := .int .i64 v1) (x' := z3) (srun_ext1 (a := .int .u32 (v0 : Int)) (b := .int .i64 v1) (by kernel_rfl)) ⟨fun _ => Q3, ?_⟩
              refine treeS_run 10 (by kernel_rfl) rfl (v := .int .u32 (v0 : Int)) (x' := z3) (srun_ext0 (a := .int .u32 (v0 : Int)) (b := .int .i64 v1) (by kernel_rfl)) Q3 ?_
              simp only [Act.put, List.setIfInBounds_toArray, List.set_cons_succ, List.set_cons_zero]
              refine treeS_run 12 (by kernel_rfl) rfl (v := .int .u32 (v0 : Int)) (x' := z3) (srun_asg (by kernel_rfl)) Q3 ?_
              refine treeS_run 13 (by kernel_rfl) rfl (v := .int .i64 v1) (x' := z3) (srun_asg (by kernel_rfl)) Q3 ?_
              refine tree_nil ?_
              simp only [Act.put, List.setIfInBounds_toArray, List.set_cons_succ, List.set_cons_zero]
              clear q3 D0
              go_wp2_with fail
              go_ret2
              exact ⟨rfl, HQ3.out⟩
  · unfold sshV
    rw [if_pos hE]
    have hne : (E != 0) = true := by simpa using hE
    clear hE HZ
    go_enter Tryz.func18, Tryz.ntmps18
    go_wp2_with fail
    refine Calls.mono (K.out _) ?_
    rintro e w2 ⟨rfl, q2⟩
    go_wp2_with fail
    go_ret2
    exact ⟨rfl, (HQ1.out.trans q2).qb⟩
end Go.Proofs.YtieojgblamkgoaaGreatDoor
/- stat, plain: the sample of a rank, by counting those below it and those like it. -/
namespace Go.Proofs.YtieojgblamkgoaaGreatDoor
open Go.RowKit
set_option linter.unusedVariables false

/-- How many are below a sample, by key; how many are it. -/
def lssN (L : List Nat) (x : Nat) : Nat := L.countP (fun s => decide (keyN s < keyN x))
def samN (L : List Nat) (x : Nat) : Nat := L.countP (fun s => decide (s = x))
theorem lss_sam {x : Nat} (hx : x < 4294967296) : ∀ {L : List Nat}, (∀ s ∈ L, s < 4294967296) → cntK L (keyN x) = lssN L x + samN L x
  | [], _ => rfl
  | a :: L, h => by
    have ih := lss_sam hx (L := L) (fun s hs => h s (List.mem_cons_of_mem _ hs))
    have ha := h a List.mem_cons_self
    unfold cntK lssN samN at *
    rw [List.countP_cons, List.countP_cons, List.countP_cons, ih]
    by_cases e : a = x
    · subst e
      simp
      omega
    · have hk : keyN a ≠ keyN x := fun hk => e (keyN_inj ha hx hk)
      by_cases g : keyN a < keyN x
      · have g2 : keyN a ≤ keyN x := by omega
        simp [e, g, g2]
        omega
      · have g2 : ¬ keyN a ≤ keyN x := by omega
        simp [e, g, g2]
/-- The one with so many ahead of it. -/
def isRk (L : List Nat) (k i : Nat) : Prop := lssN L (L.getD i 0) ≤ k ∧ k < lssN L (L.getD i 0) + samN L (L.getD i 0)
theorem lss_cnt {L : List Nat} {x t : Nat} (h : keyN x = t + 1) : lssN L x = cntK L t := by
  unfold lssN cntK
  congr 1
  funext s
  rw [h]
  exact decide_eq_decide.2 ⟨fun g => by omega, fun g => by omega⟩
theorem isRk_val {L : List Nat} (hL : ∀ s ∈ L, s < 4294967296) {k i : Nat} (hi : i < L.length) (hk : k < L.length) (h : isRk L k i) : L.getD i 0 = rkV L k := by
  obtain ⟨h1, h2⟩ := h
  have hx := hL _ (getD_mem hi)
  rw [← lss_sam hx hL] at h2
  generalize L.getD i 0 = x at *
  have a1 := (rk_le hk).2 h2
  refine keyN_inj hx (rk_lt hk hL) ?_
  rcases Nat.eq_zero_or_pos (keyN x) with e | e
  · omega
  · have e2 := lss_cnt (L := L) (x := x) (t := keyN x - 1) (by omega)
    rw [e2] at h1
    have a2 : ¬ keyN (rkV L k) ≤ keyN x - 1 := fun g => by
      have := (rk_le hk).1 g
      omega
    omega
end Go.Proofs.YtieojgblamkgoaaGreatDoor
/- Lists of whole numbers in memory. -/
namespace Go.Proofs.YtieojgblamkgoaaGreatDoor
open Go.RowKit
set_option linter.unusedVariables false
set_option linter.unusedSimpArgs false

/-- A list of whole numbers in memory. -/
def ISl (w : World) (v : Value) (l : List Int) : Prop := (∃ g o cap, v = .slice (some ⟨g, o, none⟩) l.length cap ∧ ∀ i, i < l.length → w.cell? ⟨g, o + i, none⟩ = some (.int .i64 (l.getD i 0))) ∨ (∃ a c, v = .slice a 0 c ∧ l = [])
theorem ISl.form {w : World} {v : Value} {l : List Int} (h : ISl w v l) : ∃ a cap, v = .slice a l.length cap := by
  rcases h with ⟨g, o, cap, h1, h2⟩ | ⟨a, c, h1, h2⟩
  · exact ⟨_, _, h1⟩
  · subst h2; exact ⟨a, c, h1⟩
theorem ISl.some {w : World} {v : Value} {l : List Int} (h : ISl w v l) (h1 : 1 ≤ l.length) : ∃ g o cap, v = .slice (some ⟨g, o, none⟩) l.length cap ∧ ∀ i, i < l.length → w.cell? ⟨g, o + i, none⟩ = some (.int .i64 (l.getD i 0)) := by
  rcases h with h | ⟨_, _, _, h2⟩
  · exact h
  · subst h2; cases h1
end Go.Proofs.YtieojgblamkgoaaGreatDoor
/- Sums of products with weights, where each product is a number. -/
namespace Go.Proofs.YtieojgblamkgoaaGreatDoor
open Go.RowKit
set_option linter.unusedVariables false
set_option linter.unusedSimpArgs false

end Go.Proofs.YtieojgblamkgoaaGreatDoor
/- The chapter's examples: what the program tells of them. -/
namespace Go.Proofs.YtieojgblamkgoaaGreatDoor
open Go.RowKit
set_option linter.unusedVariables false
set_option linter.unusedSimpArgs false
set_option maxRecDepth 100000

def kl1 : List Nat := [1065353216, 864026624, 864026624]
def kl2 : List Nat := [2130706432, 2130706432, 4278190080]
theorem k1 : leftV kl1 = 1065353216 := by decide +kernel
theorem k2 : pairsV kl1 = 1065353217 := by decide +kernel
theorem k3 : sumV kl1 1 = 1065353217 := by decide +kernel
theorem k4 : kahV kl1 = 1065353217 := by decide +kernel
theorem k5 : left64V kl1 = 4607182419336888320 := by decide +kernel
theorem k6 : leftV kl2 = 2139095040 := by decide +kernel
theorem small_of {l : List Nat} (h : l.all (· < 4294967296) = true) : (∀ s ∈ l, s < 4294967296) ∧ ∀ i, l.getD i 0 < 4294967296 := by
  have h1 : ∀ s ∈ l, s < 4294967296 := fun s hs => by simpa using List.all_eq_true.1 h s hs
  refine ⟨h1, fun i => ?_⟩
  rcases Nat.lt_or_ge i l.length with g | g
  · rw [List.getD_eq_getElem?_getD, List.getElem?_eq_getElem g]
    exact h1 _ (List.getElem_mem g)
  · rw [List.getD_eq_getElem?_getD, List.getElem?_eq_none g]
    decide
end Go.Proofs.YtieojgblamkgoaaGreatDoor
/- stat: the chapter's example. -/
namespace Go.Proofs.YtieojgblamkgoaaGreatDoor
open Go.RowKit
set_option linter.unusedVariables false
set_option linter.unusedSimpArgs false
set_option maxRecDepth 100000

def kf4 : List Nat := [1065353216, 1073741824, 1082130432, 2147483648]
theorem kf4_crop : crL 2 0 0 2 2 kf4 = kf4 := by decide +kernel
theorem kf4_lt : ∀ i, kf4.getD i 0 < 4294967296 := (small_of (l := kf4) (by decide)).2
theorem kf4_mean : smeanV kf4 = (1071644672, 0) := by decide +kernel
theorem kf4_sum : sumV kf4 1 = 1088421888 := by decide +kernel
theorem kf4_ends : endsV kf4 = (2147483648, 1082130432, 0) := by decide +kernel
theorem kf4_rank : rkV kf4 1 = 1065353216 := by
  have h : isRk kf4 1 0 := by unfold isRk; decide +kernel
  have := isRk_val (L := kf4) (small_of (l := kf4) (by decide)).1 (k := 1) (i := 0) (by decide) (by decide) h
  rw [← this]; rfl
theorem kf4_share : sshV 0 kf4 1 2 = (1065353216, 0) := by
  unfold sshV srkV
  rw [if_neg (by decide), if_neg (by decide), if_neg (by decide), if_neg (by decide)]
  show (rkV kf4 1, _) = _
  rw [kf4_rank]
set_option maxHeartbeats 1000000 in
theorem four16_any (w : World) : Calls Tryz.prog 36 #[] w fun e w' => ∃ g, e = .returned (.agg #[.int .i64 2, .int .i64 2, .slice (some ⟨g, 0, none⟩) 4 4]) ∧ UIs w' g 0 kf4 ∧ Q w w' := by
  obtain ⟨w2, hw2⟩ : ∃ w2, (w.alloc (.cells #[.int .i64 0, .int .i64 0, .slice none 0 0] 26)).alloc (.cells #[.int .u32 1065353216, .int .u32 1073741824, .int .u32 1082130432, .int .u32 2147483648] 43) = w2 := ⟨_, rfl⟩
  have q2 : Hid (Q w w2) := by rw [← hw2]; exact ((Q.refl w).cells _ _).cells _ _
  have z0 : w2.cell? ⟨w.heap.size, 0, none⟩ = some (.int .i64 0) := by rw [← hw2]; simp [go_sem]
  have z1 : w2.cell? ⟨w.heap.size, 1, none⟩ = some (.int .i64 0) := by rw [← hw2]; simp [go_sem]
  have z2 : w2.cell? ⟨w.heap.size, 2, none⟩ = some (.slice none 0 0) := by rw [← hw2]; simp [go_sem]
  have zf : ∀ j, w2.frozen? ⟨w.heap.size, j, none⟩ = false := fun j => by rw [← hw2]; simp [go_sem]
  have HI : Hid (UIs w2 (w.heap.size + 1) 0 kf4) := by
    intro i hi
    rcases i with _ | _ | _ | _ | i
    · rw [← hw2]; simp [go_sem, kf4]
    · rw [← hw2]; simp [go_sem, kf4]
    · rw [← hw2]; simp [go_sem, kf4]
    · rw [← hw2]; simp [go_sem, kf4]
    · simp [kf4] at hi; omega
  go_enter Tryz.func36, Tryz.ntmps36
  go_wp2_with fail
  refine bodyPost_ret (v := .agg #[.int .i64 2, .int .i64 2, .slice (some ⟨w.heap.size + 1, 0, none⟩) 4 4]) (by simp [results, Tryz.results36, go_sem, z0, z1, z2]) rfl ⟨_, rfl, ?_, ?_⟩
  · intro i hi
    rw [World.cell?_setCell_other _ _ _ _ (fun e => by injection e with e; omega), World.cell?_setCell_other _ _ _ _ (fun e => by injection e with e; omega), World.cell?_setCell_other _ _ _ _ (fun e => by injection e with e; omega)]
    exact HI.out i hi
  · exact ((q2.out.set (Nat.le_refl _) _).set (Nat.le_refl _) _).set (Nat.le_refl _) _
set_option maxHeartbeats 4000000 in
theorem known16_any (w : World) (hT : Tab w) : Calls Tryz.prog 9 #[] w fun e w' => e = .returned (.bool true) ∧ Qb w w' := by
  have HT : Hid (Tab w) := hT
  clear hT
  go_enter Tryz.func9, Tryz.ntmps9
  go_wp2_with fail
  refine Calls.mono (snew_good 4 (by decide) (by decide) _) ?_
  rintro e w1 ⟨P, A, H, kc, rfl, lP, lA, lH, hS, q1⟩
  have HS1 : Hid (StAt w1 P A H 4 kc []) := hS
  have HQ1 : Hid (Q w w1) := q1
  clear hS q1
  go_wp2_with fail
  refine Calls.mono (four16_any _) ?_
  rintro e w2 ⟨g, rfl, hI, q2⟩
  have HS2 : Hid (StAt w2 P A H 4 kc []) := HS1.out.next q2
  have HQ2 : Hid (Q w w2) := HQ1.out.trans q2
  have hPl : Pl w2 g 0 4 4 2 2 kf4 := ⟨⟨by decide, by decide, by decide, by decide, by decide⟩, rfl, rfl, Nat.le_refl _, hI⟩
  have KA := sadd_good P A H 4 kc [] w2 HS2.out hPl (x0 := 0) (y0 := 0) (c := 2) (d := 2) ⟨by decide, by decide, by decide, by decide⟩ 2 2 rfl rfl (by rw [kf4_crop]; exact kf4_lt) (by decide)
  rw [kf4_crop, List.nil_append] at KA
  have HKA : Hid _ := KA
  clear HS1 HQ1 q2 hI hPl KA
  go_wp2_with fail
  refine Calls.mono HKA.out ?_
  rintro e w3 ⟨rfl, hS3, f3⟩
  have HQ3 : Hid (Q w w3) := f3.q HQ2.out (fun b hb => ⟨by omega, by omega, by omega⟩)
  have HS3 : Hid (StAt w3 P A H 4 kc kf4) := hS3
  have HT3 : Hid (Tab w3) := HQ3.out.tab HT.out
  clear hS3 f3 HQ2 HS2 HKA
  go_wp2_with fail
  have KM := smean_any P A H 4 kc kf4 w3 HS3.out (small_of (l := kf4) (by decide)).1 (by decide) HT3.out
  rw [kf4_mean] at KM
  refine Calls.mono KM ?_
  rintro e w4 ⟨rfl, q4⟩
  have HQ4 : Hid (Q w w4) := HQ3.out.trans q4
  have HS4 : Hid (StAt w4 P A H 4 kc kf4) := HS3.out.next q4
  clear KM q4 HQ3 HS3 HT3
  go_wp2_with fail
  have KE := sends_any P A H 4 kc kf4 w4 HS4.out (small_of (l := kf4) (by decide)).1
  rw [kf4_ends] at KE
  refine Calls.mono KE ?_
  rintro e w5 ⟨rfl, q5⟩
  have HQ5 : Hid (Q w w5) := HQ4.out.trans q5
  have HS5 : Hid (StAt w5 P A H 4 kc kf4) := HS4.out.next q5
  clear KE q5 HQ4 HS4
  go_wp2_with fail
  refine Calls.mono (four16_any _) ?_
  rintro e w6 ⟨g6, rfl, hI6, q6⟩
  have HQ6 : Hid (Q w w6) := HQ5.out.trans q6
  have HS6 : Hid (StAt w6 P A H 4 kc kf4) := HS5.out.next q6
  have KR := sshare_any 2 2 (some ⟨g6, 0, none⟩) 4 4 kf4 1 2 w6 (hI6.usl (cap := 4) (by decide)) rfl kf4_lt (by decide)
  rw [show chk 2 2 4 = 0 by decide, kf4_share] at KR
  have HKR : Hid _ := KR
  clear q6 hI6 HQ5 HS5 KR
  go_wp2_with fail
  refine Calls.mono HKR.out ?_
  rintro e w7 ⟨rfl, q7⟩
  have HQ7 : Hid (Qb w w7) := HQ6.out.qb.trans q7
  have HS7 : Hid (StAt w7 P A H 4 kc kf4) := HS6.out.nextB q7
  clear q7 HQ6 HS6 HKR
  have p0 := HS7.out.p0
  have HT7 : Hid (Tab w7) := fun j hj => HQ7.out.cell (HT.out j hj)
  obtain ⟨N, hA⟩ := HS7.out.acc
  have KC := acount_any A (4 : Int) w7 hA.c
  have KS := asum_any kf4 A 4 N w7 hA (sumZ_fits (small_of (l := kf4) (by decide)).1 (by decide)) HT7.out
  rw [kf4_sum] at KS
  have HKS : Hid _ := KS
  clear hA KS HT7 HT
  go_wp2_with fail
  refine Calls.mono KC ?_
  rintro e w8 ⟨rfl, hw8⟩
  obtain rfl := hw8.symm
  clear hw8
  go_wp2_with fail
  refine Calls.mono HKS.out ?_
  rintro e w9 ⟨rfl, q9⟩
  have HQ9 : Hid (Qb w w9) := HQ7.out.trans q9.qb
  clear q9 HKS KC
  go_wp2_with fail
  go_ret
  exact ⟨rfl, HQ9.out⟩
end Go.Proofs.YtieojgblamkgoaaGreatDoor

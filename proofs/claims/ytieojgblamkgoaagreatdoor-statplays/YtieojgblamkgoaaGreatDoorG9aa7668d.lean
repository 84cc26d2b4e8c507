/- rank: the comparison, and sorting by it. -/
import Derived.Test.YtieojgblamkgoaaGreatDoorG067d5bf2
import Derived.Shelf.SlSortCmp.NoneTotal
import Derived.Shelf.Lay
import Derived.Ground.SlsfProg
import Derived.Test.YtieojgblamkgoaaGreatDoorG8514ac10
import Derived.Test.YtieojgblamkgoaaGreatDoorG00d82094
import Derived.Test.YtieojgblamkgoaaGreatDoorGb82cbb4e
import Derived.Test.YtieojgblamkgoaaGreatDoorG829ae80f
import Derived.Test.YtieojgblamkgoaaGreatDoorGc72c0315
import Derived.Test.YtieojgblamkgoaaGreatDoorG6008b90b
namespace Go.Proofs.YtieojgblamkgoaaGreatDoor
open Go.RowKit
set_option linter.unusedVariables false
set_option linter.unusedSimpArgs false

/-- What cmp.Compare tells. -/
def cmpU (x y : Int) : Int := if x < y then -1 else if y < x then 1 else 0
theorem isnanu_any (x : Int) (w : World) : Calls Tryz.prog 106 #[.int .u32 x] w fun e w' => e = .returned (.bool false) ∧ w' = w := by
  go_enter Tryz.func106, Tryz.ntmps106
  go_wp2_with fail
  go_ret
  exact ⟨by first | rfl | simp, rfl⟩
set_option maxHeartbeats 2000000 in
set_option maxRecDepth 100000 in
theorem compareu_any (x y : Int) (w : World) : Calls Tryz.prog 80 #[.int .u32 x, .int .u32 y] w fun e w' => e = .returned (.int .i64 (cmpU x y)) ∧ w' = w := by
  unfold cmpU
  by_cases h1 : x < y
  · rw [if_pos h1]
    go_enter Tryz.func80, Tryz.ntmps80
    go_wp2_with fail
    refine (isnanu_any _ _).mono ?_
    rintro e w' ⟨rfl, rfl⟩
    go_wp2_with fail
    refine (isnanu_any _ _).mono ?_
    rintro e w' ⟨rfl, rfl⟩
    go_wp2_with fail
    go_ret
    exact ⟨rfl, rfl⟩
  · rw [if_neg h1]
    by_cases h2 : y < x
    · rw [if_pos h2]
      go_enter Tryz.func80, Tryz.ntmps80
      go_wp2_with fail
      refine (isnanu_any _ _).mono ?_
      rintro e w' ⟨rfl, rfl⟩
      go_wp2_with fail
      refine (isnanu_any _ _).mono ?_
      rintro e w' ⟨rfl, rfl⟩
      go_wp2_with fail
      go_ret
      exact ⟨rfl, rfl⟩
    · rw [if_neg h2]
      go_enter Tryz.func80, Tryz.ntmps80
      go_wp2_with fail
      refine (isnanu_any _ _).mono ?_
      rintro e w' ⟨rfl, rfl⟩
      go_wp2_with fail
      refine (isnanu_any _ _).mono ?_
      rintro e w' ⟨rfl, rfl⟩
      go_wp2_with fail
      go_ret
      exact ⟨rfl, rfl⟩
/-- The comparison that all samples are sorted by. -/
def cfK (x y : Fin 4294967296) : Int := cmpU (keyN x.val) (keyN y.val)
open Go.Shelf Go.Lib Go.Sort in
theorem ltK (x y : Fin 4294967296) : ltOf cfK x y = decide (keyN x.val < keyN y.val) := by
  unfold ltOf cfK cmpU
  by_cases h1 : keyN x.val < keyN y.val
  · rw [if_pos (by omega)]; simp [h1]
  · rw [if_neg (by omega)]
    by_cases h2 : keyN y.val < keyN x.val
    · rw [if_pos (by omega)]; simp [h1]
    · rw [if_neg (by omega)]; simp [h1]
open Go.Shelf Go.Lib Go.Sort in
theorem swoK : SWO (ltOf cfK) where
  irrefl x := by rw [ltK]; simp
  trans x y z h1 h2 := by rw [ltK] at *; simp at *; omega
  ntrans x y z h1 h2 := by rw [ltK] at *; simp at *; omega
set_option maxRecDepth 1000000
set_option maxHeartbeats 4000000
shelf_lay_g SlLaysF.n6 Slsf 6 at Tryz 79 as rkSortL

/-- No block but one turned, of those that were there. -/
structure But (g : Nat) (w w' : World) : Prop where
  os : w'.os = w.os
  tape : w'.tape = w.tape
  output : w'.output = w.output
  size : w.heap.size ≤ w'.heap.size
  block : ∀ b, b < w.heap.size → b ≠ g → w'.heap[b]? = w.heap[b]?
  froz : ∀ a : Addr, a.block < w.heap.size → w'.frozen? a = w.frozen? a
theorem But.qb {g : Nat} {w0 w w' : World} (h : But g w w') (q : Qb w0 w) (hg : w0.heap.size ≤ g) : Qb w0 w' :=
  ⟨h.os.trans q.os, h.tape.trans q.tape, h.output.trans q.output, Nat.le_trans q.sz h.size, fun k hk => (h.block k (by have := q.sz; omega) (by omega)).trans (q.block k hk)⟩
def toF (s : Nat) : Fin 4294967296 := ⟨s % 4294967296, Nat.mod_lt _ (by decide)⟩
def encF (x : Fin 4294967296) : Value := .int .u32 (x.val : Int)
theorem toF_val {s : Nat} (h : s < 4294967296) : (toF s).val = s := Nat.mod_eq_of_lt h
theorem toF_list : ∀ {L : List Nat}, (∀ s ∈ L, s < 4294967296) → (L.map toF).map Fin.val = L
  | [], _ => rfl
  | a :: L, h => by
    rw [List.map_cons, List.map_cons, toF_val (h a List.mem_cons_self), toF_list (fun s hs => h s (List.mem_cons_of_mem _ hs))]
open Go.Shelf Go.Lib Go.Sort in
theorem merge_rk {L : List Nat} (h : ∀ s ∈ L, s < 4294967296) : ((L.map toF).mergeSort fun x y => !(ltOf cfK) y x).map Fin.val = rkL L := by
  have e : (fun x y : Fin 4294967296 => !(ltOf cfK) y x) = fun x y => decide (keyN x.val ≤ keyN y.val) := by
    funext x y
    rw [ltK]
    by_cases g : keyN x.val ≤ keyN y.val
    · simp [g]
    · simp [g]; omega
  rw [e]
  refine sorted_eq ?_ ?_ h
  · have := (List.mergeSort_perm (L.map toF) (fun x y => decide (keyN x.val ≤ keyN y.val))).map Fin.val
    rw [toF_list h] at this
    exact this
  · rw [List.pairwise_map]
    exact List.pairwise_mergeSort (le := fun x y : Fin 4294967296 => decide (keyN x.val ≤ keyN y.val)) (fun a b c h1 h2 => decide_eq_true (Nat.le_trans (of_decide_eq_true h1) (of_decide_eq_true h2))) (fun a b => by rcases Nat.le_total (keyN a.val) (keyN b.val) with h | h <;> simp [h]) (L.map toF)
end Go.Proofs.YtieojgblamkgoaaGreatDoor
/- stat: the comparison, and sorting by it. -/
namespace Go.Proofs.YtieojgblamkgoaaGreatDoor
open Go.RowKit
set_option linter.unusedVariables false
set_option linter.unusedSimpArgs false

set_option maxHeartbeats 2000000 in
theorem skey_one (x y : Fin 4294967296) (w : World) : Calls Tryz.prog 57 #[.int .u32 (x.val : Int), .int .u32 (y.val : Int)] w fun e w' => e = .returned (.int .i64 (cfK x y)) ∧ w' = w := by
  have A := fun W => keyn_any x.val x.isLt W
  have B := fun W => keyn_any y.val y.isLt W
  have C := fun W => compareu_any (keyN x.val) (keyN y.val) W
  unfold cfK
  generalize cmpU (keyN x.val) (keyN y.val) = r at C
  generalize keyN x.val = a at A C
  generalize keyN y.val = b at B C
  have HA : Hid _ := A
  have HB : Hid _ := B
  have HC : Hid _ := C
  clear A B C
  generalize x.val = u at HA
  generalize y.val = v at HB
  go_enter Tryz.func57, Tryz.ntmps57
  go_wp2_with fail
  refine Calls.mono (HA.out _) ?_
  rintro e w1 ⟨rfl, hw⟩
  obtain rfl := hw.symm
  go_wp2_with fail
  refine Calls.mono (HB.out _) ?_
  rintro e w1 ⟨rfl, hw⟩
  obtain rfl := hw.symm
  go_wp2_with fail
  refine Calls.mono (HC.out _) ?_
  rintro e w1 ⟨rfl, hw⟩
  obtain rfl := hw.symm
  go_wp2_with fail
  go_ret
  exact ⟨rfl, rfl⟩
/-- The comparison as a value. -/
def sK : Value := .func (.func 57) #[] #[]
set_option maxRecDepth 1000000
set_option maxHeartbeats 4000000
open Go.Shelf Go.Lib Go.Sort in
/-- Samples sorted by the comparison. -/
theorem ssort_any (g o c n : Nat) (L : List Nat) (w : World) (hn : L.length = n) (hI : UIs w g o L) (hf : ∀ j, w.frozen? ⟨g, j, none⟩ = false) (hb : ∀ s ∈ L, s < 4294967296) (hblk : g < w.heap.size) (hsz : L.length ≤ 1000000) :
    Calls Tryz.prog 79 #[.slice (some ⟨g, o, none⟩) n c, sK] w fun e w' =>
      e = .returned (.tuple #[]) ∧ UIs w' g o (rkL L) ∧ But g w w' := by
  subst hn
  have hd : (L.map toF).toArray.size = L.length := by simp
  have hget : ∀ j, j < L.length → (L.map toF).toArray[j]! = toF (L.getD j 0) := fun j hj => by
    rw [getElem!_pos _ j (by rw [hd]; exact hj)]
    simp [List.getD_eq_getElem?_getD, List.getElem?_eq_getElem hj]
  have hH : Holds encF w g o (L.map toF).toArray := fun j hj => by
    have hj' : j < L.length := by rw [hd] at hj; exact hj
    refine ⟨?_, hf _⟩
    rw [hI j hj', hget j hj']
    unfold encF
    rw [toF_val (hb _ (getD_mem hj'))]
  have eg : ∀ args w, (callFunc 57 args).run Tryz.prog w = .ok (.enter 57 args) w := enters_of Tryz.func57 (by kernel_rfl) rfl
  have hcr : CmpReads Tryz.prog 57 #[] encF cfK g o (L.map toF).toArray.size w := fun m os dk _ x y => (skey_one x y _).mono fun e w' ⟨h1, h2⟩ => ⟨h1, 0, h2⟩
  have hS := Any.slices_SortFunc_total rkSortL encF (fun _ => rfl) cfK swoK 57 #[] g o c (L.map toF).toArray w eg hcr.lays hH hblk (by rw [hd]; omega) (fun x y h1 h2 => by
    rw [ltK] at h1 h2
    simp only [decide_eq_false_iff_not] at h1 h2
    exact Fin.ext (keyN_inj x.isLt y.isLt (by omega)))
  rw [hd] at hS
  refine Calls.mono hS ?_
  rintro e w' ⟨rfl, n, os, rfl⟩
  generalize hM : ((L.map toF).toArray.toList.mergeSort fun x y => !(ltOf cfK) y x) = M
  have hM2 : M.map Fin.val = rkL L := by rw [← hM, List.toList_toArray]; exact merge_rk hb
  have hl : M.length = L.length := by rw [← rkL_len L, ← hM2, List.length_map]
  have hs : M.toArray.size = (L.map toF).toArray.size := by rw [hd]; simpa using hl
  have h2 := holds_putRow encF (Sort.ahead w n) g o (L.map toF).toArray M.toArray (holds_ahead _ w n g o _ hH) hs
  have hb2 : g < (putRow encF (Sort.ahead w n) g o M.toArray).heap.size := by
    unfold putRow mapBlock; simpa [Sort.ahead] using hblk
  have h3 := holds_grow encF _ os g o _ hb2 h2
  refine ⟨rfl, fun i hi => ?_, rfl, rfl, rfl, ?_, fun b hb hne => ?_, fun a ha => ?_⟩
  · rw [rkL_len] at hi
    have hi' : i < M.toArray.size := by rw [hs, hd]; exact hi
    have := (h3 i hi').1
    rw [getElem!_pos _ i hi'] at this
    show (grow (putRow encF (Sort.ahead w n) g o M.toArray) os).cell? ⟨g, o + i, none⟩ = _
    rw [this]
    have e2 : (rkL L).getD i 0 = (M.toArray[i]).val := by
      rw [← hM2, List.getD_eq_getElem?_getD, List.getElem?_map, List.getElem?_eq_getElem (by rw [hl]; exact hi)]
      simp
    rw [e2]; rfl
  · show w.heap.size ≤ (grow (putRow encF (Sort.ahead w n) g o M.toArray) os).heap.size
    unfold grow putRow mapBlock; simp [Sort.ahead]
  · show (grow (putRow encF (Sort.ahead w n) g o M.toArray) os).heap[b]? = _
    rw [heap_grow_old _ _ (by unfold putRow mapBlock; simpa [Sort.ahead] using hb)]
    unfold putRow mapBlock
    simp only [Array.getElem?_modify, Sort.ahead]
    rw [if_neg (fun e => hne e.symm)]
  · show (grow (putRow encF (Sort.ahead w n) g o M.toArray) os).frozen? a = _
    rw [frozen?_grow _ _ _ (by unfold putRow mapBlock; simpa [Sort.ahead] using ha), frozen?_putRow]; rfl
end Go.Proofs.YtieojgblamkgoaaGreatDoor
/- What stays while something is written; rows of the call's own; appending in regions. -/
namespace Go.Proofs.YtieojgblamkgoaaGreatDoor
open Go.RowKit
set_option linter.unusedVariables false
set_option linter.unusedSimpArgs false

/-- The blocks of R stay. -/
structure Fr (w w' : World) (R : Nat → Prop) : Prop where
  os : w'.os = w.os
  tape : w'.tape = w.tape
  output : w'.output = w.output
  size : w.heap.size ≤ w'.heap.size
  block : ∀ b, b < w.heap.size → R b → w'.heap[b]? = w.heap[b]?
  frz : ∀ a, w'.frozen? a = w.frozen? a
theorem Fr.refl (w : World) (R : Nat → Prop) : Fr w w R := ⟨rfl, rfl, rfl, Nat.le_refl _, fun _ _ _ => rfl, fun _ => rfl⟩
theorem Q.fr {w w' : World} (q : Q w w') (R : Nat → Prop) : Fr w w' R := ⟨q.1.os, q.1.tape, q.1.output, q.1.size, fun b hb _ => q.1.block b hb, q.2⟩
theorem Fr.q {w0 w w' : World} {R : Nat → Prop} (f : Fr w w' R) (q : Q w0 w) (hR : ∀ b, b < w0.heap.size → R b) : Q w0 w' :=
  ⟨⟨f.os.trans q.1.os, f.tape.trans q.1.tape, f.output.trans q.1.output, Nat.le_trans q.1.size f.size, fun b hb => (f.block b (Nat.lt_of_lt_of_le hb q.1.size) (hR b hb)).trans (q.1.block b hb)⟩, fun a => (f.frz a).trans (q.2 a)⟩
theorem Fr.trans {a b c : World} {R : Nat → Prop} (f : Fr a b R) (g : Fr b c R) : Fr a c R :=
  ⟨g.os.trans f.os, g.tape.trans f.tape, g.output.trans f.output, Nat.le_trans f.size g.size, fun x hx hr => (g.block x (Nat.lt_of_lt_of_le hx f.size) hr).trans (f.block x hx hr), fun x => (g.frz x).trans (f.frz x)⟩
theorem Fr.mono {a b : World} {R R' : Nat → Prop} (f : Fr a b R) (h : ∀ x, R' x → x < a.heap.size → R x) : Fr a b R' :=
  ⟨f.os, f.tape, f.output, f.size, fun x hx hr => f.block x hx (h x hr hx), f.frz⟩
theorem Fr.cell {a b : World} {R : Nat → Prop} (f : Fr a b R) {p : Addr} {v : Value} (h : a.cell? p = some v) (hr : R p.block) : b.cell? p = some v :=
  (World.cell?_of_block (f.block p.block (World.block_lt_of_cell? _ _ h) hr)).trans h
theorem Fr.uis {a b : World} {R : Nat → Prop} (f : Fr a b R) {g o : Nat} {S : List Nat} (h : UIs a g o S) (hr : R g) : UIs b g o S := fun i hi => f.cell (h i hi) hr
theorem Fr.set {a b : World} {R : Nat → Prop} (f : Fr a b R) {p : Addr} (hp : ¬ R p.block) (v : Value) : Fr a (b.setCell p v) R :=
  ⟨f.os, f.tape, f.output, by simpa [World.setCell] using f.size, fun x hx hr => (Below.heap_setCell _ _ _ _ (fun e => hp (by rw [← e]; exact hr))).trans (f.block x hx hr), fun x => (World.frozen?_setCell _ _ _ _).trans (f.frz x)⟩
theorem cell_in {w : World} {b i : Nat} {v : Value} (h : w.cell? ⟨b, i, none⟩ = some v) : b < w.heap.size := World.block_lt_of_cell? w _ h
theorem own_lt {w : World} {base : Nat} {e : TypeId} {size n : Nat} {v : Value} {xs : List Value} (h : w.ownsRow base e size v n xs) {b : Nat} (hb : v.ownBlock = some b) : base ≤ b ∧ b < w.heap.size := World.ownsRow.lt h b hb
theorem Fr.row {a b : World} {R : Nat → Prop} (f : Fr a b R) {base : Nat} {e : TypeId} {size n : Nat} {v : Value} {xs : List Value} (h : a.ownsRow base e size v n xs) (hr : ∀ x, v.ownBlock = some x → R x) : b.ownsRow base e size v n xs := by
  refine ⟨h.1, ?_⟩
  rcases h.2 with c | ⟨g, cap, cur, h1, h2, h3, h4⟩
  · exact Or.inl c
  · have hg : g < a.heap.size := by
      rcases Nat.lt_or_ge g a.heap.size with hlt | hge
      · exact hlt
      · rw [Array.getElem?_eq_none hge] at h3; cases h3
    exact Or.inr ⟨g, cap, cur, h1, h2, (f.block g hg (hr g (by rw [h1]; rfl))).trans h3, h4⟩
/-- Behind an append. -/
theorem Fr.app {w0 a b : World} {R : Nat → Prop} {row : Option Nat} (q : Q w0 a) (q' : Q w0 b) (hg : a.grownBy b row) (hr : ∀ x, row = some x → ¬ R x) : Fr a b R :=
  ⟨hg.os, hg.tape, hg.output, hg.size, fun x hx hR => hg.block x hx (fun e => hr x e.symm hR), fun x => (q'.2 x).trans (q.2 x).symm⟩

end Go.Proofs.YtieojgblamkgoaaGreatDoor
/- Pictures: planes in a row, in memory. -/
namespace Go.Proofs.YtieojgblamkgoaaGreatDoor
open Go.RowKit
set_option linter.unusedVariables false
set_option linter.unusedSimpArgs false

/-- Where a plane's samples lie, and which they are. -/
structure PL where
  g : Nat
  o : Nat
  cap : Nat
  S : List Nat
def PL.v (x : PL) : Value := .slice (some ⟨x.g, x.o, none⟩) x.S.length x.cap
/-- A plane as a value; a picture. -/
def plV (a b : Nat) (x : PL) : Value := .agg #[.int .i64 (a : Int), .int .i64 (b : Int), x.v]
/-- A plane's samples are there. -/
structure Gd (w : World) (n : Nat) (x : PL) : Prop where
  len : x.S.length = n
  room : x.S.length ≤ x.cap
  us : UIs w x.g x.o x.S
  lt : ∀ i, x.S.getD i 0 < 4294967296
theorem Gd.usl {w : World} {n : Nat} {x : PL} (h : Gd w n x) : USl w x.v x.S := h.us.usl h.room
/-- A plane of the call's own. -/
structure Mine (base : Nat) (w : World) (n : Nat) (x : PL) : Prop where
  o : x.o = 0
  low : base ≤ x.g
  high : x.g < w.heap.size
  gd : Gd w n x
  free : ∀ j, w.frozen? ⟨x.g, j, none⟩ = false
  all : ∀ j, j < x.cap → ∃ u, w.cell? ⟨x.g, j, none⟩ = some u
  cm : x.cap ≤ maxLen
theorem Mine.keep {base : Nat} {w w' : World} {n : Nat} {x : PL} {R : Nat → Prop} (h : Mine base w n x) (f : Fr w w' R) (hr : R x.g) : Mine base w' n x :=
  ⟨h.o, h.low, Nat.lt_of_lt_of_le h.high f.size, ⟨h.gd.len, h.gd.room, f.uis h.gd.us hr, h.gd.lt⟩, fun j => (f.frz _).trans (h.free j), fun j hj => by obtain ⟨u, hu⟩ := h.all j hj; exact ⟨u, f.cell hu hr⟩, h.cm⟩
theorem Mine.mono {base base' : Nat} {w : World} {n : Nat} {x : PL} (h : Mine base w n x) (hb : base' ≤ base) : Mine base' w n x := ⟨h.o, Nat.le_trans hb h.low, h.high, h.gd, h.free, h.all, h.cm⟩
end Go.Proofs.YtieojgblamkgoaaGreatDoor
/- Appending to a list without room: what lies where, and that all the new room is there. -/
namespace Go.Proofs.YtieojgblamkgoaaGreatDoor
open Go.RowKit

theorem run_app_room {P : Program} (w : World) (t ty e : TypeId) (i : TypeInfo) (z : Value) (ht : P.underlying t = some (.slice e)) (hi : P.info? e = some i) (hz : i.zero = some z) (hzs : z.cells.size = i.size)
    (v : Value) (hv : v = .slice none 0 0 ∨ ∃ b, v = .slice (some b) 0 0) (ad : Addr) (m c : Nat) (news : List Value) (hl : news.length = m * i.size) (hnews : ∀ j u, news[j]? = some u → w.cell? (ad.add j) = some u)
    (h0 : 0 < m) (h63 : m ≤ 1125899906842624) (hby : m * i.bytes ≤ 140737488355328) :
    ∃ cap w', (Builtin.append_ #[t, t] ty #[v, .slice (some ad) m c]).run P w = .ok (.slice (some ⟨w.heap.size, 0, none⟩) m cap) w' ∧ Q w w' ∧ m ≤ cap ∧ cap ≤ maxLen ∧ w'.heap.size = w.heap.size + 1 ∧
      (∀ j u, news[j]? = some u → w'.cell? ⟨w.heap.size, j, none⟩ = some u) ∧ (∀ j, j < cap * i.size → ∃ u, w'.cell? ⟨w.heap.size, j, none⟩ = some u) ∧ ∀ j, w'.frozen? ⟨w.heap.size, j, none⟩ = false := by
  have hmm : m ≤ maxLen := by unfold maxLen; omega
  have fin : ∀ (n : Nat) (cs : Array Value), (∀ (j : Nat) (u : Value), news[j]? = some u → cs[j]? = some u) → cs.size = n * i.size → Q w (w.drew.alloc (.cells cs e)) ∧ (w.drew.alloc (.cells cs e)).heap.size = w.heap.size + 1 ∧
      (∀ (j : Nat) (u : Value), news[j]? = some u → (w.drew.alloc (.cells cs e)).cell? ⟨w.heap.size, j, none⟩ = some u) ∧ (∀ j, j < n * i.size → ∃ u, (w.drew.alloc (.cells cs e)).cell? ⟨w.heap.size, j, none⟩ = some u) ∧ ∀ j, (w.drew.alloc (.cells cs e)).frozen? ⟨w.heap.size, j, none⟩ = false := by
    intro n cs hcs hs
    have hb : (w.drew.alloc (.cells cs e)).heap[w.heap.size]? = some (.cells cs e (0, 0)) := heap_alloc_new w.drew _
    refine ⟨(Q.refl w).drew.cells _ _, by simp, fun j u hu => ?_, fun j hj => ?_, fun j => frozen_of_row _ _ _ _ _ hb⟩
    · rw [cell_of_row _ _ j cs e (0, 0) hb]
      exact hcs j u hu
    · rw [cell_of_row _ _ j cs e (0, 0) hb]
      exact ⟨_, Array.getElem?_eq_getElem (by omega)⟩
  have key : ∀ (n : Nat) (j : Nat) (u : Value), news[j]? = some u → (news.toArray ++ Builtin.zeroCells z.cells n)[j]? = some u := by
    intro n j u hu
    have hj : j < news.length := (List.getElem?_eq_some_iff.1 hu).1
    rw [Array.getElem?_append_left (by simpa using hj)]
    simpa using hu
  have size : (news.toArray ++ Builtin.zeroCells z.cells (grownCap w m 0 e - m)).size = grownCap w m 0 e * i.size := by
    have := grownCap_ge w m 0 e
    rw [Array.size_append, size_zeroCells, hzs, List.size_toArray, hl, ← Nat.add_mul]
    congr 1; omega
  rcases hv with rfl | ⟨b, rfl⟩
  · have hr := run_append_nil (P := P) w t ty e i z ht hi hz ad m c news hl hnews h0 (by omega) (by omega)
    obtain ⟨q1, q2, q3, q4, q5⟩ := fin _ _ (key (grownCap w m 0 e - m)) size
    exact ⟨_, _, hr, q1, grownCap_ge w m 0 e, grownCap_le_maxLen w m 0 e hmm, q2, q3, q4, q5⟩
  · have hr := run_append_grow (P := P) w t ty e i z ht hi hz b 0 0 [] (by simp) (fun j v h => by simp at h) ad m c news hl hnews (by omega) (by omega) (growslice_fits (by omega) (by rw [Nat.zero_add]; exact hby))
    simp only [Nat.zero_add, Array.empty_append] at hr
    obtain ⟨q1, q2, q3, q4, q5⟩ := fin _ _ (key (grownCap w m 0 e - m)) size
    exact ⟨_, _, hr, q1, grownCap_ge w m 0 e, grownCap_le_maxLen w m 0 e hmm, q2, q3, q4, q5⟩
/-- In a list of operations. -/
theorem wpList_room {P : Program} (w : World) {ops : Array Oper} {rest : List Oper} {o : Oper} {a : Act} {R : Exit → Act → World → Prop} (hgd : o.guard = none) (s x : Operand) (t : TypeId)
    (ho : o.op = .call { callee := .builtin .append, args := #[s, x], argTypes := #[t, t] })
    (e : TypeId) (i : TypeInfo) (z : Value) (ht : P.underlying t = some (.slice e)) (hi : P.info? e = some i) (hz : i.zero = some z) (hzs : z.cells.size = i.size)
    (v : Value) (hv : v = .slice none 0 0 ∨ ∃ b, v = .slice (some b) 0 0) (hs : a.eval s = v) (ad : Addr) (m c : Nat) (news : List Value) (hx : a.eval x = .slice (some ad) m c) (hl : news.length = m * i.size) (hnews : ∀ j u, news[j]? = some u → w.cell? (ad.add j) = some u)
    (h0 : 0 < m) (h63 : m ≤ 1125899906842624) (hby : m * i.bytes ≤ 140737488355328)
    (h : ∀ cap w', Q w w' → m ≤ cap → cap ≤ maxLen → w'.heap.size = w.heap.size + 1 → (∀ j u, news[j]? = some u → w'.cell? ⟨w.heap.size, j, none⟩ = some u) → (∀ j, j < cap * i.size → ∃ u, w'.cell? ⟨w.heap.size, j, none⟩ = some u) → (∀ j, w'.frozen? ⟨w.heap.size, j, none⟩ = false) → wpList P ops R rest (a.put o.dst (.slice (some ⟨w.heap.size, 0, none⟩) m cap)) w') :
    wpList P ops R (o :: rest) a w := by
  obtain ⟨cap, w', hr, h1, h2, h3, h4, h5, h6, h7⟩ := run_app_room (P := P) w t o.type e i z ht hi hz hzs v hv ad m c news hl hnews h0 h63 hby
  refine wpList_plain hgd fun _ hK => ?_
  unfold Oper.wp execOp
  simp only [ho, resolve, invoke, builtin, Sem.run_bind, Sem.run_pure, Result.andThen_ok, List.map_toArray, List.map_cons, List.map_nil, hs, hx, hr]
  exact hK _ _ (h cap w' h1 h2 h3 h4 h5 h6 h7)
end Go.Proofs.YtieojgblamkgoaaGreatDoor
/- Copies of samples and of planes. -/
namespace Go.Proofs.YtieojgblamkgoaaGreatDoor
open Go.RowKit
set_option linter.unusedVariables false
set_option linter.unusedSimpArgs false

theorem eql_nil (P : Program) (w : World) (t e : TypeId) (a : Addr) (n c : Nat) (h : P.underlying t = some (.slice e)) : (binOp .eql t (.slice (some a) n c) (.slice none 0 0)).run P w = .ok (.bool false) w := by
  simp only [binOp]
  simp [Op.equal, Op.maxDepth, Lib.run_equalIn_slice_nil w 9999 t e (some a) n c 0 0 h]
/-- The cells of samples. -/
def celU (S : List Nat) : List Value := S.map fun x => .int .u32 (x : Nat)
theorem celU_length (S : List Nat) : (celU S).length = S.length := by simp [celU]
theorem celU_get {S : List Nat} {j : Nat} (h : j < S.length) : (celU S)[j]? = some (.int .u32 (S.getD j 0 : Nat)) := by
  unfold celU
  rw [List.getElem?_map, List.getD_eq_getElem?_getD, List.getElem?_eq_getElem h]; rfl
theorem addrAdd (g o j : Nat) : (⟨g, o, none⟩ : Addr).add j = ⟨g, o + j, none⟩ := by unfold Addr.add; split <;> simp_all
theorem celU_cells {w : World} {g o : Nat} {S : List Nat} (h : UIs w g o S) : ∀ j u, (celU S)[j]? = some u → w.cell? ((⟨g, o, none⟩ : Addr).add j) = some u := by
  intro j u hj
  have hjl : j < S.length := by have := (List.getElem?_eq_some_iff.1 hj).1; rw [celU_length] at this; exact this
  rw [celU_get hjl] at hj
  injection hj with hj
  rw [← hj, addrAdd]
  exact h j hjl
set_option maxHeartbeats 1000000 in
set_option maxRecDepth 100000 in
theorem clone_us (w : World) (n : Nat) (x : PL) (h : Gd w n x) (h1 : 1 ≤ n) (h2 : n ≤ 65536) :
    Calls Tryz.prog 78 #[x.v] w fun e w' => ∃ y : PL, e = .returned y.v ∧ y.S = x.S ∧ Hid (Mine w.heap.size w' n y) ∧ Q w w' := by
  obtain ⟨g, o, cap, S⟩ := x
  have hl := h.len
  have hcap := h.room
  have hlt := h.lt
  have hus := h.us
  simp only at hl hcap hlt hus
  subst hl
  obtain ⟨i, i1, i2, i3, i4⟩ := u32Info
  have H1 : Hid (∀ j u, (celU S)[j]? = some u → w.cell? ((⟨g, o, none⟩ : Addr).add j) = some u) := celU_cells hus
  have H2 : Hid ((celU S).length = S.length * i.size) := by show _ = _; rw [i2, celU_length, Nat.mul_one]
  have H3 : Hid (S.length * i.bytes ≤ 140737488355328) := by show _ ≤ _; rw [i3]; omega
  have H4 : Hid (Tryz.prog.info? 43 = some i) := i1
  have H5 : Hid (i.zero = some (.int .u32 0)) := i4
  have H6 : Hid (i.size = 1) := i2
  have H7 : Hid ((Value.int .u32 0).cells.size = i.size) := by show _ = _; rw [i2]; rfl
  have HLT : Hid (∀ i, S.getD i 0 < 4294967296) := hlt
  clear h hus hlt i1 i2 i3 i4
  have l1 := fun w => eql_nil Tryz.prog w 24 43 ⟨g, o, none⟩ S.length cap Tryz.underlying24
  unfold PL.v
  go_enter Tryz.func78, Tryz.ntmps78
  go_wp2_with (at_builtin; go_must (refine wpList_room _ rfl (.tmp 5) (.tmp 6) 24 rfl 43 i _ Tryz.underlying24 H4.out H5.out H7.out _ (Or.inr ⟨_, rfl⟩) rfl _ S.length cap (celU S) rfl H2.out (fun j u h => Q.cell ((Q.refl w).cells _ _) (H1.out j u h)) (by omega) (by omega) H3.out ?_; intro cap' w' q1 q2 q3 q4 q5 q6 q7))
  have hz : (w.alloc (.cells #[] 43)).heap.size = w.heap.size + 1 := by simp
  rw [hz] at q4 q5 q6 q7
  rw [H6.out, Nat.mul_one] at q6
  go_ret
  refine ⟨⟨w.heap.size + 1, 0, cap', S⟩, rfl, rfl, ⟨rfl, Nat.le_succ _, by show w.heap.size + 1 < w'.heap.size; omega, ⟨rfl, q2, fun j hj => ?_, HLT.out⟩, q7, q6, q3⟩, ((Q.refl w).cells _ _).trans q1⟩
  rw [Nat.zero_add]
  exact q5 j _ (celU_get hj)
end Go.Proofs.YtieojgblamkgoaaGreatDoor
/- stat: Rank, Share. -/
namespace Go.Proofs.YtieojgblamkgoaaGreatDoor
open Go.RowKit
set_option linter.unusedVariables false
set_option linter.unusedSimpArgs false

theorem mem_of_getD2 {L : List Nat} (h : ∀ i, L.getD i 0 < 4294967296) : ∀ s ∈ L, s < 4294967296 := by
  intro s hs
  obtain ⟨i, hi, rfl⟩ := List.getElem_of_mem hs
  have := h i
  rw [List.getD_eq_getElem?_getD, List.getElem?_eq_getElem hi] at this
  exact this
set_option maxHeartbeats 4000000 in
set_option maxRecDepth 100000 in
theorem ranked_any (g o cap k : Nat) (S : List Nat) (w : World) (hI : UIs w g o S) (hk : k < S.length) (hcap : S.length ≤ cap) (hb : ∀ i, S.getD i 0 < 4294967296) (hn : S.length ≤ 65536) :
    Calls Tryz.prog 56 #[.slice (some ⟨g, o, none⟩) S.length cap, .int .i64 (k : Int), sK] w fun e w' => e = .returned (.int .u32 (rkV S k : Nat)) ∧ Qb w w' := by
  have K : Hid _ := clone_us w S.length ⟨g, o, cap, S⟩ ⟨rfl, hcap, hI, hb⟩ (by omega) hn
  have HM : Hid (∀ s ∈ S, s < 4294967296) := mem_of_getD2 hb
  unfold sK
  go_enter Tryz.func56, Tryz.ntmps56
  go_wp2_with fail
  refine Calls.mono K.out ?_
  rintro e w1 ⟨y, rfl, hS, hM, q1⟩
  obtain ⟨yg, yo, yc, yS⟩ := y
  obtain ⟨ho, hlow, hhigh, ⟨hl, hroom, hus, hlt⟩, hfree, hall, hcm⟩ := hM.out
  simp only at hS ho hlow hhigh hl hroom hus hlt hfree hall hcm
  subst hS ho
  unfold PL.v
  have KS : Hid _ := ssort_any yg 0 yc yS.length yS w1 rfl hus hfree HM.out hhigh (by omega)
  unfold sK at KS
  have HQ1 : Hid (Q w w1) := q1
  clear q1 hus hfree hall hM hb hI K
  go_wp2_with fail
  refine Calls.mono KS.out ?_
  rintro e w2 ⟨rfl, hR, hB⟩
  have hq : Hid (Qb w w2) := hB.qb HQ1.out.qb hlow
  have hc := hR k (by rw [rkL_len]; exact hk)
  rw [Nat.zero_add] at hc
  have hv : (rkL yS).getD k 0 = rkV yS k := rfl
  rw [hv] at hc
  have hki : (k : Int) < (yS.length : Int) := by omega
  clear hR hB KS hv
  go_wp2_with fail
  go_ret
  exact ⟨rfl, hq.out⟩
/-- What Rank tells; what Share tells. -/
def srkV (E : Int) (S : List Nat) (k : Int) : Nat × Int := if E ≠ 0 then (0, E) else if k < 0 ∨ (S.length : Int) ≤ k then (0, 162) else (rkV S k.toNat, 0)
def sshV (E : Int) (S : List Nat) (num den : Int) : Nat × Int := if E ≠ 0 then (0, E) else if den < 1 ∨ 1048576 < den ∨ num < 0 ∨ den < num then (0, 162) else srkV E S ((((S.length : Int) - 1) * num) / den)
set_option maxHeartbeats 4000000 in
set_option maxRecDepth 100000 in
theorem srank_any (pw ph : Int) (ad : Option Addr) (n c : Nat) (S : List Nat) (k : Int) (w : World) (us : USl w (.slice ad n c) S) (hS : S.length = n) (hb : ∀ i, S.getD i 0 < 4294967296) (hn : n ≤ 9223372036854775807) :
    Calls Tryz.prog 17 #[.agg #[.int .i64 pw, .int .i64 ph, .slice ad n c], .int .i64 k] w fun e w' => e = .returned (.tuple #[.int .u32 ((srkV (chk pw ph n) S k).1 : Nat), .int .i64 (srkV (chk pw ph n) S k).2]) ∧ Qb w w' := by
  have K0 := fun w => check_any pw ph ad n c hn w
  obtain ⟨E, hEq⟩ : ∃ E, chk pw ph n = E := ⟨_, rfl⟩
  simp only [hEq] at K0
  have K : Hid _ := K0
  clear K0
  obtain ⟨w1, hw1⟩ : ∃ w1, w.alloc (.cells #[.int .i64 pw, .int .i64 ph, .slice ad n c] 26) = w1 := ⟨_, rfl⟩
  have q1 : Q w w1 := by rw [← hw1]; exact (Q.refl w).cells _ _
  have z2 : w1.cell? ⟨w.heap.size, 2, none⟩ = some (.slice ad n c) := by rw [← hw1]; simp [go_sem]
  have z1 : w1.cell? ⟨w.heap.size, 1, none⟩ = some (.int .i64 ph) := by rw [← hw1]; simp [go_sem]
  have z0 : w1.cell? ⟨w.heap.size, 0, none⟩ = some (.int .i64 pw) := by rw [← hw1]; simp [go_sem]
  have HQ1 : Hid (Q w w1) := q1
  have HU : Hid (USl w1 (.slice ad n c) S) := us.next q1
  have HB : Hid (∀ i, S.getD i 0 < 4294967296) := hb
  have HZ : Hid (E = 0 → n ≤ 65536) := fun h => by
    obtain ⟨a, b, _, _, hs, he⟩ := chk_zero (hEq.trans h)
    have := hs.ab
    omega
  rw [hEq]
  clear q1 us hb hEq
  by_cases hE : E = 0
  · have hz := HZ.out hE
    subst hE
    unfold srkV
    rw [if_neg (fun h => h rfl)]
    clear HZ
    by_cases h0 : k < 0
    · rw [if_pos (Or.inl h0)]
      go_enter Tryz.func17, Tryz.ntmps17
      go_wp2_with fail
      refine Calls.mono (K.out _) ?_
      rintro e w2 ⟨rfl, q2⟩
      go_wp2_with fail
      go_ret2
      exact ⟨rfl, (HQ1.out.trans q2).qb⟩
    · by_cases h1 : (n : Int) ≤ k
      · rw [if_pos (Or.inr (by rw [hS]; exact h1))]
        go_enter Tryz.func17, Tryz.ntmps17
        go_wp2_with fail
        refine Calls.mono (K.out _) ?_
        rintro e w2 ⟨rfl, q2⟩
        have z2 := q2.cell z2
        go_wp2_with fail
        go_ret2
        exact ⟨rfl, (HQ1.out.trans q2).qb⟩
      · obtain ⟨j, rfl⟩ : ∃ j : Nat, k = (j : Int) := ⟨k.toNat, by omega⟩
        rw [if_neg (by rw [hS]; omega), Int.toNat_natCast]
        subst hS
        obtain ⟨g, o, cap, hv, hcap, hI⟩ := HU.out.some (by omega)
        injection hv with hv1 hv2 hv3
        subst hv1 hv3
        clear hv2
        have KR : Hid (∀ x, Q w1 x → Calls Tryz.prog 56 #[.slice (some ⟨g, o, none⟩) S.length c, .int .i64 (j : Int), sK] x fun e w' => e = .returned (.int .u32 (rkV S j : Nat)) ∧ Qb x w') := fun x q => ranked_any g o c j S x (hI.next q) (by omega) hcap HB.out hz
        unfold sK at KR
        generalize rkV S j = m at *
        clear hI HU
        go_enter Tryz.func17, Tryz.ntmps17
        go_wp2_with fail
        clear hw1
        refine Calls.mono (K.out _) ?_
        rintro e w2 ⟨rfl, q2⟩
        have z2 := q2.cell z2
        go_wp2_with fail
        refine Calls.mono (KR.out _ q2) ?_
        rintro e w3 ⟨rfl, q3⟩
        go_wp2_with fail
        go_ret2
        exact ⟨rfl, (HQ1.out.trans q2).qb.trans q3⟩
  · unfold srkV
    rw [if_pos hE]
    have hne : (E != 0) = true := by simpa using hE
    clear hE HZ
    go_enter Tryz.func17, Tryz.ntmps17
    go_wp2_with fail
    refine Calls.mono (K.out _) ?_
    rintro e w2 ⟨rfl, q2⟩
    go_wp2_with fail
    go_ret2
    exact ⟨rfl, (HQ1.out.trans q2).qb⟩
section
variable {P : Program} {l : List Oper} {rd : List Nat} {ords : List (List Nat)} {C : World → Prop} {N : Act → World → Prop} {n : Nat} {p : List Nat} {A : Act} {x : World}
theorem tree_or (k k' : Nat) (hk : ((nexts ords p).all fun j => j == k || j == k') = true) {o o' : Oper} (ho : l[k]? = some o) (ho' : l[k']? = some o') (h : Does P o A.eval x (fun v x' => (fullB l rd k = false → C x') ∧ wpTree P l rd ords C N n (p ++ [k]) (A.put o.dst v) x')) (h' : Does P o' A.eval x (fun v x' => (fullB l rd k' = false → C x') ∧ wpTree P l rd ords C N n (p ++ [k']) (A.put o'.dst v) x')) : wpTree P l rd ords C N (n + 1) p A x := by
  intro j hj oj hoj
  have := List.all_eq_true.1 hk j hj
  simp only [Bool.or_eq_true, beq_iff_eq] at this
  rcases this with rfl | rfl
  · obtain rfl := Option.some.inj (ho.symm.trans hoj); exact h
  · obtain rfl := Option.some.inj (ho'.symm.trans hoj); exact h'
theorem tree_one (k : Nat) (hk : ((nexts ords p).all fun j => j == k) = true) {o : Oper} (ho : l[k]? = some o) (h : Does P o A.eval x (fun v x' => (fullB l rd k = false → C x') ∧ wpTree P l rd ords C N n (p ++ [k]) (A.put o.dst v) x')) : wpTree P l rd ords C N (n + 1) p A x := by
  intro j hj oj hoj
  have := List.all_eq_true.1 hk j hj
  simp only [beq_iff_eq] at this
  subst this
  obtain rfl := Option.some.inj (ho.symm.trans hoj)
  exact h
theorem treeS_run (k : Nat) (hk : ((nexts ords p).all fun j => j == k) = true) {o : Oper} (ho : l[k]? = some o) {v : Value} {x' : World} (hr : (execOp A.eval o).run P x = .ok (.value v) x') (hC : C x') (h : wpTree P l rd ords C N n (p ++ [k]) (A.put o.dst v) x') : wpTree P l rd ords C N (n + 1) p A x :=
  tree_one k hk ho (does_value hr ⟨fun _ => hC, h⟩)
theorem treeS_call (k : Nat) (hk : ((nexts ords p).all fun j => j == k) = true) {o : Oper} (ho : l[k]? = some o) {f : FuncId} {vs : Array Value} (hr : (execOp A.eval o).run P x = .ok (.enter f vs) x) {G : Value → World → Prop} (hc : Calls P f vs x fun e x' => ∃ v, e = .returned v ∧ G v x') (h : ∀ v x', G v x' → C x' ∧ wpTree P l rd ords C N n (p ++ [k]) (A.put o.dst v) x') : wpTree P l rd ords C N (n + 1) p A x :=
  tree_one k hk ho (does_call hr (hc.mono fun e x' ⟨v, h1, h2⟩ => ⟨v, h1, fun _ => (h v x' h2).1, (h v x' h2).2⟩))
end
section
variable {ρ : Operand → Value} {x : World} {d : Option Tmp} {ty : TypeId} {ps : String} {af : Array Edge} {gd : Option (Nat × Bool)}
theorem srun_sub1 {j : Nat} {N K : Int} (h : ρ (.tmp j) = .int .i64 N) (hc : ρ (.const (.int .i64 1)) = .int .i64 1) (hw : IntKind.i64.wrap (N - 1) = K) : (execOp ρ { dst := d, op := .binOp .sub 3 (.tmp j) (.const (.int .i64 1)) 3, type := ty, pos := ps, after := af, guard := gd }).run Tryz.prog x = .ok (.value (.int .i64 K)) x := by
  simp [execOp, h, hc, go_sem, hw]
theorem srun_mul {j k : Nat} {N M K : Int} (h : ρ (.tmp j) = .int .i64 N) (h' : ρ (.tmp k) = .int .i64 M) (hw : IntKind.i64.wrap (N * M) = K) : (execOp ρ { dst := d, op := .binOp .mul 3 (.tmp j) (.tmp k) 3, type := ty, pos := ps, after := af, guard := gd }).run Tryz.prog x = .ok (.value (.int .i64 K)) x := by
  simp [execOp, h, h', go_sem, hw]
theorem srun_quo {j k : Nat} {N M K : Int} (h : ρ (.tmp j) = .int .i64 N) (h' : ρ (.tmp k) = .int .i64 M) (hM : M ≠ 0) (hw : IntKind.i64.wrap (Int.tdiv N M) = K) : (execOp ρ { dst := d, op := .binOp .quo 3 (.tmp j) (.tmp k) 3, type := ty, pos := ps, after := af, guard := gd }).run Tryz.prog x = .ok (.value (.int .i64 K)) x := by
  simp [execOp, h, h', go_sem, hw, hM]
theorem srun_ext0 {j : Nat} {a b : Value} (h : ρ (.tmp j) = .tuple #[a, b]) : (execOp ρ { dst := d, op := .extract (.tmp j) 0, type := ty, pos := ps, after := af, guard := gd }).run Tryz.prog x = .ok (.value a) x := by
  simp [execOp, h, go_sem]
theorem srun_ext1 {j : Nat} {a b : Value} (h : ρ (.tmp j) = .tuple #[a, b]) : (execOp ρ { dst := d, op := .extract (.tmp j) 1, type := ty, pos := ps, after := af, guard := gd }).run Tryz.prog x = .ok (.value b) x := by
  simp [execOp, h, go_sem]
theorem srun_asg {j : Nat} {a : Value} (h : ρ (.tmp j) = a) : (execOp ρ { dst := d, op := .assign (.tmp j), type := ty, pos := ps, after := af, guard := gd }).run Tryz.prog x = .ok (.value a) x := by
  simp [execOp, h, go_sem]
end
set_option maxHeartbeats 4000000 in
set_option maxRecDepth 100000 in
theorem sshare_any (pw ph : Int) (ad : Option Addr) (n c : Nat) (S : List Nat) (num den : Int) (w : World) (us : USl w (.slice ad n c) S) (hS : S.length = n) (hb : ∀ i, S.getD i 0 < 4294967296) (hn : n ≤ 9223372036854775807) :
    Calls Tryz.prog 18 #[.agg #[.int .i64 pw, .int .i64 ph, .slice ad n c], .int .i64 num, .int .i64 den] w fun e w' => e = .returned (.tuple #[.int .u32 ((sshV (chk pw ph n) S num den).1 : Nat), .int .i64 (sshV (chk pw ph n) S num den).2]) ∧ Qb w w' := by
  have K0 := fun w => check_any pw ph ad n c hn w
  have KR0 : ∀ k x, Q w x → Calls Tryz.prog 17 #[.agg #[.int .i64 pw, .int .i64 ph, .slice ad n c], .int .i64 k] x fun e w' => e = .returned (.tuple #[.int .u32 ((srkV (chk pw ph n) S k).1 : Nat), .int .i64 (srkV (chk pw ph n) S k).2]) ∧ Qb x w' := fun k x q => srank_any pw ph ad n c S k x (us.next q) hS hb hn
  obtain ⟨E, hEq⟩ : ∃ E, chk pw ph n = E := ⟨_, rfl⟩
  simp only [hEq] at K0 KR0
  have K : Hid _ := K0
  have KR : Hid _ := KR0
  clear K0 KR0
  obtain ⟨w1, hw1⟩ : ∃ w1, w.alloc (.cells #[.int .i64 pw, .int .i64 ph, .slice ad n c] 26) = w1 := ⟨_, rfl⟩
  have q1 : Q w w1 := by rw [← hw1]; exact (Q.refl w).cells _ _
  have z2 : w1.cell? ⟨w.heap.size, 2, none⟩ = some (.slice ad n c) := by rw [← hw1]; simp [go_sem]
  have z1 : w1.cell? ⟨w.heap.size, 1, none⟩ = some (.int .i64 ph) := by rw [← hw1]; simp [go_sem]
  have z0 : w1.cell? ⟨w.heap.size, 0, none⟩ = some (.int .i64 pw) := by rw [← hw1]; simp [go_sem]
  have HQ1 : Hid (Q w w1) := q1
  have HZ : Hid (E = 0 → 1 ≤ n ∧ n ≤ 65536) := fun h => by
    obtain ⟨a, b, _, _, hs, he⟩ := chk_zero (hEq.trans h)
    have := hs.ab
    have := hs.pos
    omega
  rw [hEq]
  clear q1 us hb hEq
  by_cases hE : E = 0
  · have hz := HZ.out hE
    subst hE
    unfold sshV
    rw [if_neg (fun h => h rfl)]
    clear HZ
    by_cases h0 : den < 1
    · rw [if_pos (Or.inl h0)]
      go_enter Tryz.func18, Tryz.ntmps18
      go_wp2_with fail
      refine Calls.mono (K.out _) ?_
      rintro e w2 ⟨rfl, q2⟩
      go_wp2_with fail
      go_ret2
      exact ⟨rfl, (HQ1.out.trans q2).qb⟩
    · by_cases h1 : 1048576 < den
      · rw [if_pos (Or.inr (Or.inl h1))]
        go_enter Tryz.func18, Tryz.ntmps18
        go_wp2_with fail
        refine Calls.mono (K.out _) ?_
        rintro e w2 ⟨rfl, q2⟩
        go_wp2_with fail
        go_ret2
        exact ⟨rfl, (HQ1.out.trans q2).qb⟩
      · by_cases h2 : num < 0
        · rw [if_pos (Or.inr (Or.inr (Or.inl h2)))]
          go_enter Tryz.func18, Tryz.ntmps18
          go_wp2_with fail
          refine Calls.mono (K.out _) ?_
          rintro e w2 ⟨rfl, q2⟩
          go_wp2_with fail
          go_ret2
          exact ⟨rfl, (HQ1.out.trans q2).qb⟩
        · by_cases h3 : den < num
          · rw [if_pos (Or.inr (Or.inr (Or.inr h3)))]
            go_enter Tryz.func18, Tryz.ntmps18
            go_wp2_with fail
            refine Calls.mono (K.out _) ?_
            rintro e w2 ⟨rfl, q2⟩
            go_wp2_with fail
            go_ret2
            exact ⟨rfl, (HQ1.out.trans q2).qb⟩
          · rw [if_neg (by omega), hS]
            obtain ⟨m, hm⟩ : ∃ m, ((n : Int) - 1) * num = m := ⟨_, rfl⟩
            have hmb : 0 ≤ m ∧ m ≤ 65535 * 1048576 := by
              rw [← hm]
              refine ⟨Int.mul_nonneg (by omega) (by omega), ?_⟩
              exact Int.le_trans (Int.mul_le_mul_of_nonneg_right (by omega) (by omega)) (Int.mul_le_mul_of_nonneg_left (by omega) (by omega))
            obtain ⟨k, hk⟩ : ∃ k, m / den = k := ⟨_, rfl⟩
            have hkb : 0 ≤ k ∧ k ≤ m := by
              rw [← hk]
              exact ⟨Int.ediv_nonneg hmb.1 (by omega), Int.ediv_le_self _ hmb.1⟩
            have et : Int.tdiv m den = k := by rw [Int.tdiv_eq_ediv_of_nonneg hmb.1]; exact hk
            rw [hm, hk]
            have HR : Hid (∀ x, Q w x → Calls Tryz.prog 17 #[.agg #[.int .i64 pw, .int .i64 ph, .slice ad n c], .int .i64 k] x fun e w' => e = .returned (.tuple #[.int .u32 ((srkV 0 S k).1 : Nat), .int .i64 (srkV 0 S k).2]) ∧ Qb x w') := fun x q => KR.out k x q
            generalize (srkV 0 S k).1 = v0 at *
            generalize (srkV 0 S k).2 = v1 at *
            have em : wrap64 (wrap64 ((n : Int) - 1) * num) = m := by
              have e1 : wrap64 ((n : Int) - 1) = (n : Int) - 1 := by unfold wrap64; omega
              rw [e1, hm]; unfold wrap64; omega
            have ek : wrap64 (Int.tdiv m den) = k := by rw [et]; unfold wrap64; omega
            have hd0 : (den == 0) = false := by simp; omega
            have HF : Hid (((n : Int) - 1) * num = m ∧ m / den = k) := ⟨hm, hk⟩
            clear KR hk em ek hkb
            have hkb : 0 ≤ k ∧ k ≤ 65535 * 1048576 := by rw [← HF.out.2]; exact ⟨Int.ediv_nonneg hmb.1 (by omega), Int.le_trans (Int.ediv_le_self _ hmb.1) hmb.2⟩
            go_enter Tryz.func18, Tryz.ntmps18
            go_wp2_with fail
            clear hw1
            refine Calls.mono (K.out _) ?_
            rintro e w2 ⟨rfl, q2⟩
            have z0 := q2.cell z0
            have z1 := q2.cell z1
            have z2 := q2.cell z2
            have HQ2 : Hid (Q w w2) := HQ1.out.trans q2
            clear HQ1 q2
            have D0 : Qb w2 w2.drew := (Qb.refl w2).drew
            have f0 := fun n : CW (fun z : World => Qb w2 z) => n.h.cell z0
            have f1 := fun n : CW (fun z : World => Qb w2 z) => n.h.cell z1
            have f2 := fun n : CW (fun z : World => Qb w2 z) => n.h.cell z2
            have n0 : Nonempty (CW (fun z : World => Qb w2 z)) := cw_some D0
            go_wp2_with fail
            refine wp_region_mkP [0, 1, 2, 5, 7] [[3, 4, 6, 8, 9, 10, 11, 12, 13], [3, 4, 6, 8, 9, 11, 10, 12, 13]] 9 _ (fun z : World => Qb w2 z) (by kernel_rfl) (by kernel_rfl) rfl (by kernel_rfl) D0 ?_
            simp only [List.filterMap_cons, List.filterMap_nil, List.getElem?_cons_zero, List.getElem?_cons_succ]
            repeat (first | go_big_quiet_step (fail) | quiet_step (fail))
            refine wpQuiet_nil ?_
            have D : Qb w2 w2.drew := D0
            refine treeS_run 3 (by kernel_rfl) rfl (v := .int .i64 (n : Int)) (x' := w2.drew) (by simp [execOp, resolve, invoke, builtin, go_sem, Act.eval]) D ?_
            refine treeS_run 4 (by kernel_rfl) rfl (v := .int .i64 ((n : Int) - 1)) (x' := w2.drew) (srun_sub1 (N := (n : Int)) (by kernel_rfl) rfl (by rw [IntKind.wrap_i64]; omega)) D ?_
            refine treeS_run 6 (by kernel_rfl) rfl (v := .int .i64 m) (x' := w2.drew) (srun_mul (N := (n : Int) - 1) (M := num) (by kernel_rfl) (by kernel_rfl) (by rw [hm, IntKind.wrap_i64]; omega)) D ?_
            refine treeS_run 8 (by kernel_rfl) rfl (v := .int .i64 k) (x' := w2.drew) (srun_quo (N := m) (M := den) (by kernel_rfl) (by kernel_rfl) (by omega) (by rw [et, IntKind.wrap_i64]; omega)) D ?_
            refine treeS_call 9 (by kernel_rfl) rfl (run_fn 17 #[.tmp 29, .tmp 37] _ rfl (fun _ _ => rfl) (vs := #[.agg #[.int .i64 pw, .int .i64 ph, .slice ad n c], .int .i64 k]) (by kernel_rfl)) (G := fun v x' => v = .tuple #[.int .u32 (v0 : Int), .int .i64 v1] ∧ Qb w2.drew x') ((HR.out w2.drew (HQ2.out.drew)).mono fun e x' h => ⟨_, h.1, rfl, h.2⟩) ?_
            rintro vq z3 ⟨rfl, q3⟩
            have Q3 : Qb w2 z3 := Qb.trans D q3
            refine ⟨Q3, ?_⟩
            have HQ3 : Hid (Qb w z3) := HQ2.out.qb.trans Q3
            simp only [Act.put, List.setIfInBounds_toArray, List.set_cons_succ, List.set_cons_zero]
            refine tree_or 10 11 (by kernel_rfl) rfl rfl ?_ ?_
            · refine does_value (v := .int .u32 (v0 : Int)) (x' := z3) (srun_ext0 (a := .int .u32 (v0 : Int)) (b := .int .i64 v1) (by kernel_rfl)) ⟨fun _ => Q3, ?_⟩
              refine treeS_run 11 (by kernel_rfl) rfl (v := .int .i64 v1) (x' := z3) (srun_ext1 (a := .int .u32 (v0 : Int)) (b := .int .i64 v1) (by kernel_rfl)) Q3 ?_
              simp only [Act.put, List.setIfInBounds_toArray, List.set_cons_succ, List.set_cons_zero]
              refine treeS_run 12 (by kernel_rfl) rfl (v := .int .u32 (v0 : Int)) (x' := z3) (srun_asg (by kernel_rfl)) Q3 ?_
              refine treeS_run 13 (by kernel_rfl) rfl (v := .int .i64 v1) (x' := z3) (srun_asg (by kernel_rfl)) Q3 ?_
              refine tree_nil ?_
              simp only [Act.put, List.setIfInBounds_toArray, List.set_cons_succ, List.set_cons_zero]
              clear q3 D0
              go_wp2_with fail
              go_ret2
              exact ⟨rfl, HQ3.out⟩
            · refine does_value (v := .int .i64 v1) (x' := z3) (srun_ext1 (a := .int .u32 (v0 : Int)) (b := .int .i64 v1) (by kernel_rfl)) ⟨fun _ => Q3, ?_⟩
              refine treeS_run 10 (by kernel_rfl) rfl (v := .int .u32 (v0 : Int)) (x' := z3) (srun_ext0 (a := .int .u32 (v0 : Int)) (b := .int .i64 v1) (by kernel_rfl)) Q3 ?_
              simp only [Act.put, List.setIfInBounds_toArray, List.set_cons_succ, List.set_cons_zero]
              refine treeS_run 12 (by kernel_rfl) rfl (v := .int .u32 (v0 : Int)) (x' := z3) (srun_asg (by kernel_rfl)) Q3 ?_
              refine treeS_run 13 (by kernel_rfl) rfl (v := .int .i64 v1) (x' := z3) (srun_asg (by kernel_rfl)) Q3 ?_
              refine tree_nil ?_
              simp only [Act.put, List.setIfInBounds_toArray, List.set_cons_succ, List.set_cons_zero]
              clear q3 D0
              go_wp2_with fail
              go_ret2
              exact ⟨rfl, HQ3.out⟩
  · unfold sshV
    rw [if_pos hE]
    have hne : (E != 0) = true := by simpa using hE
    clear hE HZ
    go_enter Tryz.func18, Tryz.ntmps18
    go_wp2_with fail
    refine Calls.mono (K.out _) ?_
    rintro e w2 ⟨rfl, q2⟩
    go_wp2_with fail
    go_ret2
    exact ⟨rfl, (HQ1.out.trans q2).qb⟩
end Go.Proofs.YtieojgblamkgoaaGreatDoor
/- stat: a plane levelled. -/
namespace Go.Proofs.YtieojgblamkgoaaGreatDoor
open Go.RowKit
set_option linter.unusedVariables false
set_option linter.unusedSimpArgs false

section
variable {P : Program} {l : List Oper} {rd : List Nat} {ords : List (List Nat)} {C : World → Prop} {N : Act → World → Prop} {n : Nat} {p : List Nat} {A : Act} {x : World}
end
section
variable {ρ : Operand → Value} {x y : World} {d : Option Tmp} {ty : TypeId} {ps : String} {af : Array Edge} {gd : Option (Nat × Bool)}
end
end Go.Proofs.YtieojgblamkgoaaGreatDoor
/- stat, plain: the sample of a rank, by counting those below it and those like it. -/
namespace Go.Proofs.YtieojgblamkgoaaGreatDoor
open Go.RowKit
set_option linter.unusedVariables false

/-- How many are below a sample, by key; how many are it. -/
def lssN (L : List Nat) (x : Nat) : Nat := L.countP (fun s => decide (keyN s < keyN x))
def samN (L : List Nat) (x : Nat) : Nat := L.countP (fun s => decide (s = x))
theorem lss_sam {x : Nat} (hx : x < 4294967296) : ∀ {L : List Nat}, (∀ s ∈ L, s < 4294967296) → cntK L (keyN x) = lssN L x + samN L x
  | [], _ => rfl
  | a :: L, h => by
    have ih := lss_sam hx (L := L) (fun s hs => h s (List.mem_cons_of_mem _ hs))
    have ha := h a List.mem_cons_self
    unfold cntK lssN samN at *
    rw [List.countP_cons, List.countP_cons, List.countP_cons, ih]
    by_cases e : a = x
    · subst e
      simp
      omega
    · have hk : keyN a ≠ keyN x := fun hk => e (keyN_inj ha hx hk)
      by_cases g : keyN a < keyN x
      · have g2 : keyN a ≤ keyN x := by omega
        simp [e, g, g2]
        omega
      · have g2 : ¬ keyN a ≤ keyN x := by omega
        simp [e, g, g2]
/-- The one with so many ahead of it. -/
def isRk (L : List Nat) (k i : Nat) : Prop := lssN L (L.getD i 0) ≤ k ∧ k < lssN L (L.getD i 0) + samN L (L.getD i 0)
theorem lss_cnt {L : List Nat} {x t : Nat} (h : keyN x = t + 1) : lssN L x = cntK L t := by
  unfold lssN cntK
  congr 1
  funext s
  rw [h]
  exact decide_eq_decide.2 ⟨fun g => by omega, fun g => by omega⟩
theorem isRk_val {L : List Nat} (hL : ∀ s ∈ L, s < 4294967296) {k i : Nat} (hi : i < L.length) (hk : k < L.length) (h : isRk L k i) : L.getD i 0 = rkV L k := by
  obtain ⟨h1, h2⟩ := h
  have hx := hL _ (getD_mem hi)
  rw [← lss_sam hx hL] at h2
  generalize L.getD i 0 = x at *
  have a1 := (rk_le hk).2 h2
  refine keyN_inj hx (rk_lt hk hL) ?_
  rcases Nat.eq_zero_or_pos (keyN x) with e | e
  · omega
  · have e2 := lss_cnt (L := L) (x := x) (t := keyN x - 1) (by omega)
    rw [e2] at h1
    have a2 : ¬ keyN (rkV L k) ≤ keyN x - 1 := fun g => by
      have := (rk_le hk).1 g
      omega
    omega
end Go.Proofs.YtieojgblamkgoaaGreatDoor
/- The document's Rank and Share (layer 16). -/
namespace Go.Proofs.YtieojgblamkgoaaGreatDoor
open Go.RowKit
set_option linter.unusedVariables false
set_option linter.unusedSimpArgs false

theorem and_31s (s : Int) (h0 : 0 ≤ s) (h1 : s ≤ 4294967295) : bits .and .u32 s 2147483647 = s % 2147483648 := by go_bits2
set_option maxHeartbeats 400000 in
theorem r4key_any (s : Nat) (hs : s < 4294967296) (w : World) : Calls Tryz.prog 59 #[.int .u32 s] w fun e w' => e = .returned (.int .i64 (keyN s : Nat)) ∧ w' = w := by
  by_cases h : s < 2147483648
  · have h' : (s : Int) < 2147483648 := by omega
    go_enter Tryz.func59, Tryz.ntmps59
    go_wp2
    go_ret
    exact ⟨ret_int (by unfold keyN; rw [if_pos h]; omega), rfl⟩
  · have h' : ¬ (s : Int) < 2147483648 := by omega
    go_enter Tryz.func59, Tryz.ntmps59
    go_wp2
    go_ret
    exact ⟨ret_int (by unfold keyN; rw [if_neg h]; omega), rfl⟩
set_option maxHeartbeats 400000 in
theorem r4nan_any (a : Nat) (ha : a < 4294967296) (w : World) : Calls Tryz.prog 61 #[.int .u32 a] w fun e w' => e = .returned (.bool (nanN a)) ∧ w' = w := by
  have e1 := and_31s a (by omega) (by omega)
  go_enter Tryz.func61, Tryz.ntmps61
  go_wp2
  go_ret
  refine ⟨ret_bool ?_, rfl⟩
  unfold nanN
  rw [decide_eq_decide]
  omega
end Go.Proofs.YtieojgblamkgoaaGreatDoor
/- stat: Level; the document's Class. -/
namespace Go.Proofs.YtieojgblamkgoaaGreatDoor
open Go.RowKit
set_option linter.unusedVariables false
set_option linter.unusedSimpArgs false

set_option maxHeartbeats 2000000 in
theorem r16cls_any (b s : Nat) (h1 : 1 ≤ b) (h2 : b ≤ 12) (hs : s < 4294967296) (w : World) : Calls Tryz.prog 62 #[.int .u32 (s : Int), .int .i64 (b : Int)] w fun e w' => e = .returned (.int .i64 (clsN b s : Nat)) ∧ w' = w := by
  have K := r4key_any s hs
  have hl := keyN_lt hs
  unfold clsN
  generalize keyN s = k at *
  have hd : k / 2 ^ (32 - b) ≤ k := Nat.div_le_self _ _
  have hc : ((k : Int) / 2 ^ (32 - b)) = ((k / 2 ^ (32 - b) : Nat) : Int) := by simp
  obtain ⟨q, hq⟩ : ∃ q, k / 2 ^ (32 - b) = q := ⟨_, rfl⟩
  rw [hq] at hd hc ⊢
  have HC : Hid ((k : Int) / 2 ^ (32 - b) = (q : Int)) := hc
  clear hc hq
  go_enter Tryz.func62, Tryz.ntmps62
  go_wp2_with fail
  refine Calls.mono (K _) ?_
  rintro e w1 ⟨rfl, hw⟩
  obtain rfl := hw.symm
  clear hw
  have ew : wrap64 ((32 : Int) - (b : Int)) = ((32 - b : Nat) : Int) := by unfold wrap64; omega
  go_wp2_with fail
  rw [HC.out]
  go_ret
  exact ⟨rfl, rfl⟩
end Go.Proofs.YtieojgblamkgoaaGreatDoor
/- The document's Level (layer 16). -/
namespace Go.Proofs.YtieojgblamkgoaaGreatDoor
open Go.RowKit
set_option linter.unusedVariables false
set_option linter.unusedSimpArgs false

end Go.Proofs.YtieojgblamkgoaaGreatDoor
/- stat: what a stat is in memory; New. -/
namespace Go.Proofs.YtieojgblamkgoaaGreatDoor
open Go.RowKit
set_option linter.unusedVariables false
set_option linter.unusedSimpArgs false

/-- A stat of a list of samples. -/
structure StAt (w : World) (P A H b kc : Nat) (L : List Nat) : Prop where
  b1 : 1 ≤ b
  b2 : b ≤ 12
  p0 : w.cell? ⟨P, 0, none⟩ = some (.pointer (some ⟨A, 0, none⟩))
  p1 : w.cell? ⟨P, 1, none⟩ = some (.int .i64 (b : Int))
  p2 : w.cell? ⟨P, 2, none⟩ = some (.slice (some ⟨H, 0, none⟩) (2 ^ b) kc)
  p3 : w.cell? ⟨P, 3, none⟩ = some (.int .u32 (lowK L : Nat))
  p4 : w.cell? ⟨P, 4, none⟩ = some (.int .u32 (topK L : Nat))
  p5 : w.cell? ⟨P, 5, none⟩ = some (.int .i64 (nanC L : Nat))
  fz : ∀ j, w.frozen? ⟨P, j, none⟩ = false
  acc : AccAt w A L
  tal : VR w H (2 ^ b) (fun j => .int .i64 ((clsC b L j : Nat) : Int))
  cap : 2 ^ b ≤ kc
  pa : P ≠ A
  ph : P ≠ H
  ah : A ≠ H
/-- The blocks of a stat are apart from others. -/
def stB (P A H : Nat) (x : Nat) : Prop := x ≠ P ∧ x ≠ A ∧ x ≠ H
theorem AccAt.keep {w w' : World} {A : Nat} {L : List Nat} {R : Nat → Prop} (h : AccAt w A L) (f : Fr w w' R) (hR : R A) : AccAt w' A L := by
  obtain ⟨N, h⟩ := h
  exact ⟨N, fun j hj => f.cell (h.n j hj) hR, h.r, f.cell h.m hR, f.cell h.c hR, fun j => (f.frz _).trans (h.z j)⟩
theorem VR.keep {w w' : World} {g n : Nat} {F : Nat → Value} {R : Nat → Prop} (h : VR w g n F) (f : Fr w w' R) (hR : R g) : VR w' g n F := ⟨fun i hi => f.cell (h.cell i hi) hR, fun j => (f.frz _).trans (h.free j)⟩
theorem StAt.keep {w w' : World} {P A H b kc : Nat} {L : List Nat} {R : Nat → Prop} (h : StAt w P A H b kc L) (f : Fr w w' R) (hP : R P) (hA : R A) (hH : R H) : StAt w' P A H b kc L :=
  ⟨h.b1, h.b2, f.cell h.p0 hP, f.cell h.p1 hP, f.cell h.p2 hP, f.cell h.p3 hP, f.cell h.p4 hP, f.cell h.p5 hP, fun j => (f.frz _).trans (h.fz j), h.acc.keep f hA, h.tal.keep f hH, h.cap, h.pa, h.ph, h.ah⟩
theorem StAt.next {w w' : World} {P A H b kc : Nat} {L : List Nat} (h : StAt w P A H b kc L) (q : Q w w') : StAt w' P A H b kc L := h.keep (q.fr fun _ => True) trivial trivial trivial
theorem StAt.lt {w : World} {P A H b kc : Nat} {L : List Nat} (h : StAt w P A H b kc L) : P < w.heap.size ∧ A < w.heap.size ∧ H < w.heap.size := by
  obtain ⟨N, a⟩ := h.acc
  exact ⟨World.block_lt_of_cell? _ _ h.p0, World.block_lt_of_cell? _ _ a.m, h.tal.lt Nat.one_le_two_pow⟩
theorem StAt.nextB {w w' : World} {P A H b kc : Nat} {L : List Nat} (h : StAt w P A H b kc L) (q : Qb w w') : StAt w' P A H b kc L := by
  obtain ⟨lP, lA, lH⟩ := h.lt
  obtain ⟨N, a⟩ := h.acc
  exact ⟨h.b1, h.b2, q.cell h.p0, q.cell h.p1, q.cell h.p2, q.cell h.p3, q.cell h.p4, q.cell h.p5, fun j => (q.frozen (p := ⟨P, j, none⟩) lP).trans (h.fz j), ⟨N, fun j hj => q.cell (a.n j hj), a.r, q.cell a.m, q.cell a.c, fun j => (q.frozen (p := ⟨A, j, none⟩) lA).trans (a.z j)⟩, h.tal.nextB lH q, h.cap, h.pa, h.ph, h.ah⟩
set_option maxHeartbeats 2000000 in
set_option maxRecDepth 100000 in
theorem snew_bad (n : Int) (h : bitsB n = false) (w : World) : Calls Tryz.prog 10 #[.int .i64 n] w fun e w' => e = .returned (.tuple #[.pointer none, .int .i64 160]) ∧ w' = w := by
  have K := isbits_any n
  rw [h] at K
  go_enter Tryz.func10, Tryz.ntmps10
  go_wp2_with fail
  refine (K _).mono ?_
  rintro e w1 ⟨rfl, hw⟩
  obtain rfl := hw.symm
  go_wp2_with fail
  go_ret2
  exact ⟨rfl, rfl⟩
set_option maxHeartbeats 2000000 in
set_option maxRecDepth 100000 in
theorem snew_good (b : Nat) (h1 : 1 ≤ b) (h2 : b ≤ 12) (w : World) : Calls Tryz.prog 10 #[.int .i64 (b : Int)] w fun e w' => ∃ P A H kc, e = .returned (.tuple #[.pointer (some ⟨P, 0, none⟩), .int .i64 0]) ∧ w.heap.size ≤ P ∧ w.heap.size ≤ A ∧ w.heap.size ≤ H ∧ StAt w' P A H b kc [] ∧ Q w w' := by
  have K := isbits_any (b : Int)
  have hb : bitsB (b : Int) = true := by unfold bitsB; exact decide_eq_true (by omega)
  rw [hb] at K
  go_enter Tryz.func10, Tryz.ntmps10
  go_wp2_with fail
  refine (K _).mono ?_
  rintro e w1 ⟨rfl, hw⟩
  obtain rfl := hw.symm
  clear hw
  go_wp2_with fail
  refine (new_any _).mono ?_
  rintro e w2 ⟨rfl, hA, q2, s2⟩
  go_wp2_with fail
  refine (notally_any b h1 h2 _).mono ?_
  rintro e w3 ⟨H, rfl, l3, l3', hV, q3⟩
  unfold talV
  go_wp2_with fail
  refine (nospan_any _).mono ?_
  unfold spnV
  rintro e w4 ⟨rfl, q4⟩
  have hs : w2.heap.size ≤ w3.heap.size := q3.1.size
  have hs4 : w3.heap.size ≤ w4.heap.size := q4.1.size
  have q24 := q3.trans q4
  have HA : Hid _ := AccAt.next ⟨_, hA⟩ q24
  have HV : Hid _ := hV.next q4
  have HQ : Hid (Q w w4) := q2.trans q24
  clear hA hV q2 q3 q4 q24
  go_wp2_with fail
  go_ret2
  obtain ⟨w5, hw5⟩ : ∃ w5, w4.alloc (.cells #[.pointer (some ⟨w.heap.size, 0, none⟩), .int .i64 (b : Int), .slice (some ⟨H, 0, none⟩) (2 ^ b) (2 ^ b), .int .u32 4294967295, .int .u32 0, .int .i64 0] 76) = w5 := ⟨_, rfl⟩
  have q5 : Q w4 w5 := by rw [← hw5]; exact (Q.refl w4).cells _ _
  refine ⟨w4.heap.size, w.heap.size, H, 2 ^ b, rfl, by omega, Nat.le_refl _, by omega, ?_, ?_⟩
  · rw [hw5]
    refine ⟨h1, h2, ?_, ?_, ?_, ?_, ?_, ?_, ?_, AccAt.next HA q5, (VR.next HV q5).congr fun j _ => rfl, Nat.le_refl _, by omega, by omega, by omega⟩
    · rw [← hw5]; simp [go_sem]
    · rw [← hw5]; simp [go_sem]
    · rw [← hw5]; simp [go_sem]
    · rw [← hw5]; simp [go_sem, lowK, numL]
    · rw [← hw5]; simp [go_sem, topK, numL]
    · rw [← hw5]; simp [go_sem, nanC]
    · intro j; rw [← hw5]; simp [go_sem]
  · rw [hw5]; exact HQ.out.trans q5
end Go.Proofs.YtieojgblamkgoaaGreatDoor

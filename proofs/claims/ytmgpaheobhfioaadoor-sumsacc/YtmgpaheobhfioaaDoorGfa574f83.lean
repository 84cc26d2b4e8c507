/- Arguments as the statements' walks take them: planes that came in. -/
import Derived.Test.YtmgpaheobhfioaaDoorG69c79473
import Derived.Test.YtmgpaheobhfioaaDoorGeae719cd
import Derived.Deep.Strs
import Derived.Test.YtmgpaheobhfioaaDoorGc6c2317b
import Derived.Test.YtmgpaheobhfioaaDoorGe9f3539d
namespace Go.Proofs.YtmgpaheobhfioaaDoor
open Go.ChangeShapes Go.WideShapes Go.ChangeAt Go.RowKit Go.Deep
set_option linter.unusedVariables false
set_option linter.constructorNameAsVariable false

theorem getD_map_toNat (l : List Int) (i : Nat) : (l.map Int.toNat).getD i 0 = (l.getD i 0).toNat := by
  rw [List.getD_eq_getElem?_getD, List.getD_eq_getElem?_getD, List.getElem?_map]
  cases l[i]? <;> rfl
/-- Samples that came in. -/
theorem read_us {H : Type} {enc : TypeId × Value → H} {W : World} {base : Nat} {sp : Nat → Bool} {held : Bool} {v : Value} {fuel : Nat} {x : DataW H × List MemPlace}
    (hf : DataW.trod enc Tryd.prog W base sp held fuel 29 [v] = some x) :
    ∃ xs : List Nat, USl W v xs ∧ xs.length ≤ maxLen ∧ ∀ i, xs.getD i 0 < 4294967296 := by
  rcases open_ints Tryd.underlying29 Tryd.underlying36 (by kernel_rfl) hf with ⟨hcs, _⟩ | ⟨x, len, cap, zs, hcs, _, hl, hm, hz, _, hcell, hwz⟩
  · simp at hcs
    subst hcs
    exact ⟨[], Or.inr ⟨_, _, rfl, rfl⟩, Nat.zero_le _, fun i => by show 0 < _; decide⟩
  · simp at hcs
    subst hcs
    have hzl : len ≤ zs.length := by rw [hz]; split <;> omega
    have bd : ∀ i, (zs.getD i 0) ≥ 0 ∧ zs.getD i 0 < 4294967296 := by
      intro i
      rw [List.getD_eq_getElem?_getD]
      cases h : zs[i]? with
      | none => exact ⟨by decide, by decide⟩
      | some z => have := u32_bd (hwz z (List.mem_of_getElem? h)); exact ⟨this.1, Int.lt_of_le_of_lt this.2 (by decide)⟩
    have hlen : ((zs.take len).map Int.toNat).length = len := by simp; omega
    refine ⟨(zs.take len).map Int.toNat, ?_, by rw [hlen]; omega, fun i => ?_⟩
    · by_cases h0 : len = 0
      · subst h0; exact Or.inr ⟨_, _, rfl, by simp⟩
      · obtain ⟨b, off, spot⟩ := x
        have hc := hcell 0 (by omega)
        have hspot : spot = none := by simpa [Addr.add] using World.cell?_spot hc
        subst hspot
        refine Or.inl ⟨b, off, cap, by rw [hlen], by rw [hlen]; exact hl, fun i hi => ?_⟩
        rw [hlen] at hi
        have hc := hcell i (by omega)
        have hadd : (⟨b, off, none⟩ : Addr).add i = ⟨b, off + i, none⟩ := by unfold Addr.add; split <;> simp_all
        rw [hadd] at hc
        rw [hc, getD_map_toNat]
        have e : (zs.take len).getD i 0 = zs.getD i 0 := by
          rw [List.getD_eq_getElem?_getD, List.getD_eq_getElem?_getD, List.getElem?_take, if_pos hi]
        rw [e]
        have := bd i
        congr 2
        omega
    · rw [getD_map_toNat]
      by_cases hi : i < len
      · have e : (zs.take len).getD i 0 = zs.getD i 0 := by
          rw [List.getD_eq_getElem?_getD, List.getD_eq_getElem?_getD, List.getElem?_take, if_pos hi]
        rw [e]; have := bd i; omega
      · have e : (zs.take len).getD i 0 = 0 := by
          rw [List.getD_eq_getElem?_getD, List.getElem?_take, if_neg hi]; rfl
        rw [e]; decide
end Go.Proofs.YtmgpaheobhfioaaDoor
/- Rows of values in memory, told by a function of the place. -/
namespace Go.Proofs.YtmgpaheobhfioaaDoor
open Go.RowKit
set_option linter.unusedVariables false
set_option linter.unusedSimpArgs false

/-- A row of values that may be written. -/
structure VR (x : World) (g n : Nat) (F : Nat → Value) : Prop where
  cell : ∀ i, i < n → x.cell? ⟨g, i, none⟩ = some (F i)
  free : ∀ j, x.frozen? ⟨g, j, none⟩ = false
theorem made_vr {z : Value} (hz : z.cells = #[z]) (e : TypeId) (n : Nat) (w : World) : VR (w.alloc (.cells (madeCells z.cells (n * 1)) e)) w.heap.size n (fun _ => z) := by
  have hb : (w.alloc (.cells (madeCells z.cells (n * 1)) e)).heap[w.heap.size]? = some (.cells (madeCells z.cells (n * 1)) e (0, 0)) := heap_alloc_new w _
  refine ⟨fun j hj => ?_, fun j => frozen_of_row _ _ _ _ _ hb⟩
  rw [cell_of_row _ _ j _ e (0, 0) hb]
  unfold madeCells
  rw [hz]
  simp [hj, Nat.mod_one]
end Go.Proofs.YtmgpaheobhfioaaDoor
/- Worlds in which what was there is as it was. (Out of RkD.) -/
namespace Go.Proofs.YtmgpaheobhfioaaDoor
open Go.RowKit
set_option linter.unusedVariables false
set_option linter.unusedSimpArgs false

end Go.Proofs.YtmgpaheobhfioaaDoor
/- Scripts for exact sums, in memory. -/
namespace Go.Proofs.YtmgpaheobhfioaaDoor
open Go.RowKit
set_option linter.unusedVariables false
set_option linter.unusedSimpArgs false

structure StD where
  k : Int
  wh : Int
  ot : Int
  ad : Option Addr
  cap : Nat
  S : List Nat
/-- One step of a script. -/
structure SIt (w : World) (g o : Nat) (x : StD) : Prop where
  c0 : w.cell? ⟨g, o, none⟩ = some (.int .i64 x.k)
  c1 : w.cell? ⟨g, o + 1, none⟩ = some (.int .i64 x.wh)
  c2 : w.cell? ⟨g, o + 2, none⟩ = some (.int .i64 x.ot)
  c3 : w.cell? ⟨g, o + 3, none⟩ = some (.slice x.ad x.S.length x.cap)
  us : USl w (.slice x.ad x.S.length x.cap) x.S
  lt : ∀ i, x.S.getD i 0 < 4294967296
  ml : x.S.length ≤ maxLen
theorem SIt.next {w w' : World} {g o : Nat} {x : StD} (h : SIt w g o x) (q : Q w w') : SIt w' g o x :=
  ⟨q.cell h.c0, q.cell h.c1, q.cell h.c2, q.cell h.c3, h.us.next q, h.lt, h.ml⟩
def SSl (w : World) (v : Value) (D : List StD) : Prop := (∃ ad c, v = .slice ad 0 c ∧ D = []) ∨ ∃ g o c, v = .slice (some ⟨g, o, none⟩) D.length c ∧ D.length ≤ c ∧ ∀ i x, D[i]? = some x → SIt w g (o + i * 4) x
theorem SSl.next {w w' : World} {v : Value} {D : List StD} (h : SSl w v D) (q : Q w w') : SSl w' v D := by
  rcases h with h | ⟨g, o, c, h1, h2, h3⟩
  · exact Or.inl h
  · exact Or.inr ⟨g, o, c, h1, h2, fun i x hx => (h3 i x hx).next q⟩
theorem SSl.form {w : World} {v : Value} {D : List StD} (h : SSl w v D) : ∃ ad c, v = .slice ad D.length c := by
  rcases h with ⟨ad, c, h1, rfl⟩ | ⟨g, o, c, h1, h2, h3⟩
  · exact ⟨ad, c, h1⟩
  · exact ⟨_, _, h1⟩
theorem SSl.at {w : World} {ad : Option Addr} {n c : Nat} {D : List StD} (h : SSl w (.slice ad n c) D) {i : Nat} (hi : i < n) : D.length = n ∧ ∃ g o x, ad = some ⟨g, o, none⟩ ∧ n ≤ c ∧ D[i]? = some x ∧ SIt w g (o + i * 4) x := by
  rcases h with ⟨a', c', h1, rfl⟩ | ⟨g, o, c', h1, h2, h3⟩
  · injection h1 with _ h _; omega
  · injection h1 with e1 e2 e3
    subst e1 e2 e3
    obtain ⟨x, hx⟩ : ∃ x, D[i]? = some x := ⟨_, List.getElem?_eq_getElem hi⟩
    exact ⟨rfl, g, o, x, rfl, h2, hx, h3 i x hx⟩
end Go.Proofs.YtmgpaheobhfioaaDoor
/- Scripts for exact sums that came in. -/
namespace Go.Proofs.YtmgpaheobhfioaaDoor
open Go.ChangeShapes Go.WideShapes Go.ChangeAt Go.RowKit Go.Deep
set_option linter.unusedVariables false
set_option linter.constructorNameAsVariable false

def sd0 : StD := ⟨0, 0, 0, none, 0, []⟩
theorem all_weights {H : Type} {e : TypeId} {p : Nat → Bool} : ∀ {l : List (DataW H)} {d : DataW H}, (DataW.weightsAll Tryd.prog e l).all p = true → d ∈ l → (d.weights Tryd.prog e).all p = true
  | [], d, _, h => by cases h
  | x :: r, d, hw, h => by
    simp only [DataW.weightsAll, List.all_append, Bool.and_eq_true] at hw
    rcases List.mem_cons.1 h with rfl | h
    · exact hw.1
    · exact all_weights hw.2 h
/-- How long a list that came in may be. -/
theorem len_us {H : Type} {enc : TypeId × Value → H} {W : World} {base : Nat} {sp : Nat → Bool} {held : Bool} {v : Value} {fuel : Nat} {x : DataW H × List MemPlace}
    (hf : DataW.trod enc Tryd.prog W base sp held fuel 29 [v] = some x) (hw : (x.1.weights Tryd.prog 29).all (· ≤ reachBytes) = true) {xs : List Nat} (hu : USl W v xs) : xs.length ≤ 140737488355328 := by
  obtain ⟨ua, uc, hv⟩ := hu.form
  rcases open_ints Tryd.underlying29 Tryd.underlying36 (by kernel_rfl) hf with ⟨hcs, _⟩ | ⟨a, len, cap, zs, hcs, _, hl, hm, hz, hx, _⟩
  · simp at hcs
    rw [hcs] at hv
    injection hv with _ h _
    omega
  · simp at hcs
    rw [hcs] at hv
    injection hv with _ h _
    have hb : Tryd.prog.bytesOf 36 = 4 := by kernel_rfl
    have hzl : len ≤ zs.length := by rw [hz]; split <;> omega
    have hll : (lits .u32 (zs.take len) : List (DataW H)).length = len := by simp [lits]; omega
    rw [hx] at hw
    simp only [DataW.weights, Tryd.underlying29, List.all_cons, Bool.and_eq_true, decide_eq_true_eq, hb, hll] at hw
    have := hw.1
    unfold reachBytes at this
    omega
set_option maxRecDepth 100000 in
theorem step_cells {H : Type} {enc : TypeId × Value → H} {w : World} {base : Nat} {spare : Nat → Bool} {held : Bool} {n : Nat} {b : Addr} {cs' : List Value} {y : DataW H × List MemPlace}
    (h1 : w.cells? base b 4 = some cs') (h2 : DataW.trod enc Tryd.prog w base spare held n 31 cs' = some y) (hw : (y.1.weights Tryd.prog 31).all (· ≤ reachBytes) = true) :
    ∃ q : StD, w.cell? b = some (.int .i64 q.k) ∧ w.cell? (b.add 1) = some (.int .i64 q.wh) ∧ w.cell? (b.add 2) = some (.int .i64 q.ot) ∧ w.cell? (b.add 3) = some (.slice q.ad q.S.length q.cap) ∧
      USl w (.slice q.ad q.S.length q.cap) q.S ∧ q.S.length ≤ maxLen ∧ (∀ i, q.S.getD i 0 < 4294967296) ∧ q.S.length ≤ 140737488355328 := by
  obtain ⟨_, hlen, hcell⟩ := World.cells?_some h1
  obtain ⟨z0, z1, z2, z3, k, hy, hl, g0, g1, g2, g3⟩ := Go.Joins.trod_struct4 Tryd.underlying31 h2
  rw [hy] at hw
  simp only [DataW.weights, Tryd.underlying31, DataW.weightsEach, List.map_cons, List.map_nil, List.all_append, Bool.and_eq_true] at hw
  have k1 : Tryd.prog.cellsOf 3 = 1 := by kernel_rfl
  have k2 : Tryd.prog.cellsOf 29 = 1 := by kernel_rfl
  match cs', hlen with
  | [v0, v1, v2, v3], _ =>
    rw [k1] at g0 g1 g2
    rw [k2] at g3
    simp at g0 g1 g2 g3
    obtain ⟨n0, e0, _, _⟩ := DataW.trod_int Tryd.underlying3 g0
    obtain ⟨n1, e1, _, _⟩ := DataW.trod_int Tryd.underlying3 g1
    obtain ⟨n2, e2, _, _⟩ := DataW.trod_int Tryd.underlying3 g2
    obtain ⟨S, s1, s2, s3⟩ := read_us g3
    have s4 := len_us g3 hw.2.2.2.1 s1
    simp at e0 e1 e2
    obtain ⟨a, c, hv⟩ := s1.form
    have c0 := hcell 0 (by decide)
    have c1 := hcell 1 (by decide)
    have c2 := hcell 2 (by decide)
    have c3 := hcell 3 (by decide)
    refine ⟨⟨n0, n1, n2, a, c, S⟩, ?_, ?_, ?_, ?_, ?_, s2, s3, s4⟩
    · rw [← e0]; simpa [Addr.add] using c0
    · rw [← e1]; simpa using c1
    · rw [← e2]; simpa using c2
    · rw [← hv]; simpa using c3
    · rw [← hv]; exact s1
set_option maxRecDepth 100000 in
/-- A script that came in. -/
theorem read_steps {H : Type} {enc : TypeId × Value → H} {W : World} {base : Nat} {sp : Nat → Bool} {held : Bool} {v : Value} {d : DataW H} {p : List MemPlace}
    (hv : ∃ a l c, v = .slice a l c) (h : DataW.Trod enc Tryd.prog W base sp held 22 v d p) (hw : (d.weights Tryd.prog 22).all (· ≤ reachBytes) = true) :
    ∃ D : List StD, SSl W v D ∧ D.length ≤ 140737488355328 ∧ ∀ (i : Nat) (x : StD), D[i]? = some x → x.S.length ≤ 140737488355328 := by
  obtain ⟨fuel, hf⟩ := h
  obtain ⟨va, vl, vc, rfl⟩ := hv
  rcases open_slice Tryd.underlying22 hf with ⟨hcs, _⟩ | ⟨x, len, cap, m, n, D, Pl, hcs, _, hl, hm, hmm, hdp, hx⟩
  · simp [Value.cells] at hcs
    obtain ⟨rfl, rfl, rfl⟩ := hcs
    exact ⟨[], Or.inl ⟨_, _, rfl, rfl⟩, Nat.zero_le _, fun i x h => by cases h⟩
  · simp [Value.cells] at hcs
    obtain ⟨rfl, rfl, rfl⟩ := hcs
    have hml : vl ≤ m := by rw [hmm]; split <;> omega
    have ce : Tryd.prog.cellsOf 31 = 4 := by kernel_rfl
    have hb : Tryd.prog.bytesOf 31 = 48 := by kernel_rfl
    have hd : d = .slice ((List.range vl).map D) ((List.range (m - vl)).map fun j => D (vl + j)) := by injection hdp
    rw [hd] at hw
    simp only [DataW.weights, Tryd.underlying22, List.all_cons, List.all_append, Bool.and_eq_true, decide_eq_true_eq, hb, List.length_map, List.length_range] at hw
    have hvl : vl ≤ 140737488355328 := by have := hw.1; unfold reachBytes at this; omega
    have key : ∀ i, ∃ q : StD, i < vl → (W.cell? (x.add (i * 4)) = some (.int .i64 q.k) ∧ W.cell? ((x.add (i * 4)).add 1) = some (.int .i64 q.wh) ∧ W.cell? ((x.add (i * 4)).add 2) = some (.int .i64 q.ot) ∧ W.cell? ((x.add (i * 4)).add 3) = some (.slice q.ad q.S.length q.cap) ∧
      USl W (.slice q.ad q.S.length q.cap) q.S ∧ q.S.length ≤ maxLen ∧ (∀ i, q.S.getD i 0 < 4294967296) ∧ q.S.length ≤ 140737488355328) := by
      intro i
      by_cases hi : i < vl
      · obtain ⟨cs', h1, h2⟩ := hx i (by omega)
        rw [ce] at h1
        obtain ⟨q, hq⟩ := step_cells h1 h2 (all_weights hw.2.1 (List.mem_map.2 ⟨i, List.mem_range.2 hi, rfl⟩))
        exact ⟨q, fun _ => hq⟩
      · exact ⟨sd0, fun h => absurd h hi⟩
    obtain ⟨f, hf'⟩ := Classical.axiomOfChoice key
    have hlen : ((List.range vl).map f).length = vl := by simp
    have hget : ∀ (i : Nat) (q : StD), ((List.range vl).map f)[i]? = some q → i < vl ∧ f i = q := fun i q hq => by
      have hil : i < vl := by have := (List.getElem?_eq_some_iff.1 hq).1; rw [hlen] at this; exact this
      rw [List.getElem?_map, List.getElem?_range hil] at hq
      exact ⟨hil, Option.some.inj hq⟩
    refine ⟨(List.range vl).map f, ?_, by rw [hlen]; exact hvl, fun i q hq => by obtain ⟨hil, rfl⟩ := hget i q hq; exact (hf' i hil).2.2.2.2.2.2.2⟩
    by_cases h0 : vl = 0
    · subst h0; exact Or.inl ⟨_, _, rfl, by simp⟩
    · obtain ⟨b, off, spot⟩ := x
      have hc := (hf' 0 (by omega)).1
      have hspot : spot = none := by simpa [Addr.add] using World.cell?_spot hc
      subst hspot
      refine Or.inr ⟨b, off, vc, by rw [hlen], by rw [hlen]; exact hl, fun i q hq => ?_⟩
      obtain ⟨hil, rfl⟩ := hget i q hq
      obtain ⟨c0, c1, c2, c3, cu, cl, cb, _⟩ := hf' i hil
      have hadd : ∀ o j, (⟨b, o, none⟩ : Addr).add j = ⟨b, o + j, none⟩ := by intro o j; unfold Addr.add; split <;> simp_all
      rw [hadd] at c0
      rw [hadd, hadd] at c1 c2 c3
      exact ⟨c0, c1, c2, c3, cu, cb, cl⟩
end Go.Proofs.YtmgpaheobhfioaaDoor
/- A region that draws its order, whose operations tell one value each, whatever comes first, and which stores once. -/
namespace Go.Proofs.YtmgpaheobhfioaaDoor
open Go.RowKit
set_option linter.unusedVariables false
set_option linter.unusedSimpArgs false

/-- What holds: each operation has told its value; the world is that ahead of the store, or that behind it. -/
def ValInv (l : List Oper) (V : Nat → Value) (k : Nat) (X0 X1 : World) (done : Nat → Bool) (val : Nat → Value) (x : World) : Prop :=
  (∀ i, done i = true → i ≠ k → val i = V i) ∧ (x = if done k = true then X1 else X0) ∧ (done k = true → ∀ o, l[k]? = some o → ∀ e ∈ o.after, Region.binds .any e = true → done e.on = true)
set_option maxHeartbeats 1000000 in
theorem wp_region_vals {P : Program} {id : Nat} {R : Exit → Act → World → Prop} {a0 : Act} {w : World} {l : List Oper} (V : Nat → Value) (k : Nat) (X1 : World)
    (hm : P.follows .mixedOrders = true) (hB : regS l = true) (hmax : ∀ i t, dstOf l i = some t → t < a0.tmps.size) (hk : ∃ o, l[k]? = some o ∧ o.dst = none) (hg : ∀ (i : Nat) (o : Oper), l[i]? = some o → o.guard = none)
    (hop : ∀ i o (a : Act) x, l[i]? = some o → i ≠ k → (x = w.drew ∨ (x = X1 ∧ waits l k i = false)) → (∀ j, (∀ k, dstOf l k ≠ some j) → a.tmps[j]? = a0.tmps[j]?) → (∀ e ∈ o.after, Region.binds .any e = true → e.on ≠ k → ∀ t, dstOf l e.on = some t → a.tmps[t]? = some (V e.on)) → (∀ j t, waits l j i = true → dstOf l j = some t → a.tmps[t]? = a0.tmps[t]?) → ∃ t, o.dst = some t ∧ (execOp a.eval o).run P x = .ok (.value (V i)) x)
    (hst : ∀ o (a : Act), l[k]? = some o → (∀ j, (∀ k, dstOf l k ≠ some j) → a.tmps[j]? = a0.tmps[j]?) → (∀ e ∈ o.after, Region.binds .any e = true → e.on ≠ k → ∀ t, dstOf l e.on = some t → a.tmps[t]? = some (V e.on)) → (execOp a.eval o).run P w.drew = .ok .skip X1)
    (hend : ∀ (a : Act), a.tmps.size = a0.tmps.size → a.defers = a0.defers → (∀ j, (∀ k, dstOf l k ≠ some j) → a.tmps[j]? = a0.tmps[j]?) → (∀ j t, dstOf l j = some t → a.tmps[t]? = some (V j)) → Shut (R .normal a X1)) :
    (Code.region id l.toArray true).wp P R a0 w := by
  obtain ⟨ok, hok, hdk⟩ := hk
  refine wp_region_slotsF (ValInv l V k w.drew X1) hm hB hmax ⟨(fun i h => by cases h), rfl, (fun h => by cases h)⟩ ?_ ?_ ?_
  · intro i o a x done val ho hd hdep I hoth hvals _ hfr
    have dvals : ∀ e ∈ o.after, Region.binds .any e = true → e.on ≠ k → ∀ t, dstOf l e.on = some t → a.tmps[t]? = some (V e.on) := fun e he hb hne t ht => by
      rw [hvals e.on t (hdep e he hb) ht, I.1 e.on (hdep e he hb) hne]
    by_cases hik : i = k
    · subst hik
      rw [hok] at ho
      injection ho with ho
      subst ho
      have hx : x = w.drew := by rw [I.2.1, hd]; rfl
      subst hx
      have hrun := hst ok a hok hoth dvals
      refine ⟨?_⟩
      unfold Oper.wp
      rw [hrun, Oper.upon_skip]
      refine ⟨undef, rfl, fun j hj hji => ?_, ?_, fun _ o' ho' e he hb => ?_⟩
      · rw [upd_ne _ _ hji] at hj ⊢
        exact I.1 j hj hji
      · rw [upd_eq]; rfl
      · rw [hok] at ho'
        injection ho' with ho'
        subst ho'
        have h1 := hdep e he hb
        by_cases e1 : e.on = i
        · rw [e1, upd_eq]
        · rw [upd_ne _ _ e1]; exact h1
    · have hx : x = w.drew ∨ (x = X1 ∧ waits l k i = false) := by
        rw [I.2.1]
        cases hdk' : done k with
        | false => exact Or.inl rfl
        | true =>
          right
          refine ⟨rfl, ?_⟩
          cases hw : waits l k i with
          | false => rfl
          | true =>
            exfalso
            unfold waits at hw
            rw [hok] at hw
            obtain ⟨e, he, h1⟩ := List.any_eq_true.1 hw
            rw [Bool.and_eq_true] at h1
            have h2 := I.2.2 hdk' ok hok e (by simpa using he) h1.1
            have h3 : e.on = i := by simpa using h1.2
            rw [h3, hd] at h2
            cases h2
      obtain ⟨t, ht, hrun⟩ := hop i o a x ho hik hx hoth dvals hfr
      refine ⟨?_⟩
      unfold Oper.wp
      rw [hrun, Oper.upon_value]
      refine ⟨V i, rfl, fun j hj hjk => ?_, ?_, fun hdk2 o' ho' e he hb => ?_⟩
      · by_cases e : j = i
        · subst e; rw [upd_eq]
        · rw [upd_ne _ _ e] at hj ⊢
          exact I.1 j hj hjk
      · rw [upd_ne _ _ (fun e => hik e.symm)]; exact I.2.1
      · rw [upd_ne _ _ (fun e => hik e.symm)] at hdk2
        have h1 := I.2.2 hdk2 o' ho' e he hb
        by_cases e1 : e.on = i
        · rw [e1, upd_eq]
        · rw [upd_ne _ _ e1]; exact h1
  · intro i o x done val g b ho _ _ _ hgd
    rw [hg i o ho] at hgd
    cases hgd
  · intro a x val I size defers other vals
    have hkl : k < l.length := (List.getElem?_eq_some_iff.1 hok).1
    have hx : x = X1 := by rw [I.2.1, if_pos (decide_eq_true hkl)]
    rw [hx]
    refine hend a size defers other (fun j t hjt => ?_)
    rw [vals j t hjt]
    have hjl : j < l.length := by
      cases hl : l[j]? with
      | none => unfold dstOf at hjt; rw [hl] at hjt; cases hjt
      | some o => exact (List.getElem?_eq_some_iff.1 hl).1
    rw [I.1 j (decide_eq_true hjl) (fun e => ?_)]
    subst e
    rw [dstOf_at hok, hdk] at hjt
    cases hjt
end Go.Proofs.YtmgpaheobhfioaaDoor
/- Numbers of five words: the program's sums of them. -/
namespace Go.Proofs.YtmgpaheobhfioaaDoor
open Go.RowKit
set_option linter.unusedVariables false
set_option linter.unusedSimpArgs false

def m64 : Nat := 18446744073709551616
theorem add64_run (x y c : Nat) (hc : c ≤ 1) (w : World) : (callFunc 58 #[.int .u64 (x : Int), .int .u64 (y : Int), .int .u64 (c : Int)]).run Tryd.prog w = .ok (.value (.tuple #[.int .u64 (((x + y + c) % m64 : Nat) : Int), .int .u64 (((x + y + c) / m64 : Nat) : Int)])) w := by
  rw [run_callFunc_extern (e := add64Entry) Tryd.func58 (by kernel_rfl) (by kernel_rfl) (by kernel_rfl) (by kernel_rfl)]
  have h := run_add64 (P := Tryd.prog) (x : Int) (y : Int) (c : Int) (by omega) (by omega) (by omega) (by omega) w
  rw [h]
  show Result.ok (Next.value _) w = _
  unfold m64
  congr 5 <;> simp
def addE (x y c : Nat) : Nat := (x + y + c) % m64
def addC (x y c : Nat) : Nat := (x + y + c) / m64
section
variable {P : Program} {ρ : Operand → Value} {x : World} {d : Option Tmp} {ty : TypeId} {ps : String} {af : Array Edge} {g : Option (Nat × Bool)}
theorem run_mv {j : Nat} {v : Value} (h : ρ (.tmp j) = v) : (execOp ρ { dst := d, op := .move (.tmp j), type := ty, pos := ps, after := af, guard := g }).run P x = .ok (.value v) x := by
  rw [← h]; rfl
theorem run_as {j : Nat} {v : Value} (h : ρ (.tmp j) = v) : (execOp ρ { dst := d, op := .assign (.tmp j), type := ty, pos := ps, after := af, guard := g }).run P x = .ok (.value v) x := by
  rw [← h]; rfl
theorem run_ex0 {j : Nat} {u v : Value} (h : ρ (.tmp j) = .tuple #[u, v]) : (execOp ρ { dst := d, op := .extract (.tmp j) 0, type := ty, pos := ps, after := af, guard := g }).run P x = .ok (.value u) x := by
  simp [execOp, h, go_sem]
theorem run_ex1 {j : Nat} {u v : Value} (h : ρ (.tmp j) = .tuple #[u, v]) : (execOp ρ { dst := d, op := .extract (.tmp j) 1, type := ty, pos := ps, after := af, guard := g }).run P x = .ok (.value v) x := by
  simp [execOp, h, go_sem]
theorem run_word {j k B i : Nat} (h : ρ (.tmp j) = .pointer (some ⟨B, 0, none⟩)) (h' : ρ (.tmp k) = .int .i64 (i : Nat)) (hi : i < 5) : (execOp ρ { dst := d, op := .indexAddr 66 (.tmp j) (.tmp k), type := ty, pos := ps, after := af, guard := g }).run Tryd.prog x = .ok (.value (.pointer (some ⟨B, i, none⟩))) x := by
  simp [execOp, h, h', go_sem, hi]
  try (intro h4; omega)
theorem run_u64 {j : Nat} {p : Addr} {v : Value} (h : ρ (.tmp j) = .pointer (some p)) (c : x.cell? p = some v) : (execOp ρ { dst := d, op := .load 48 (.tmp j), type := ty, pos := ps, after := af, guard := g }).run Tryd.prog x = .ok (.value v) x := by
  simp [execOp, h, go_sem, c]
set_option maxRecDepth 100000 in
theorem run_put {j k : Nat} {B i : Nat} {n : Int} {u : Value} (h : ρ (.tmp j) = .pointer (some ⟨B, i, none⟩)) (h' : ρ (.tmp k) = .int .u64 n) (c : x.cell? ⟨B, i, none⟩ = some u) (f : x.frozen? ⟨B, i, none⟩ = false) : (execOp ρ { dst := none, op := .store 48 (.tmp j) (.tmp k), type := ty, pos := ps, after := af, guard := g }).run Tryd.prog x = .ok .skip (x.setCell ⟨B, i, none⟩ (.int .u64 n)) := by
  simp [execOp, h, h', go_sem, c, f]
theorem run_add64c {a : Act} {j k l : Nat} {n m c : Nat} (h : a.eval (.tmp j) = .int .u64 (n : Nat)) (h' : a.eval (.tmp k) = .int .u64 (m : Nat)) (h'' : a.eval (.tmp l) = .int .u64 (c : Nat)) (hc : c ≤ 1) {at' : Array TypeId} : (execOp a.eval { dst := d, op := .call { callee := .value (.func 58), args := #[.tmp j, .tmp k, .tmp l], argTypes := at' }, type := ty, pos := ps, after := af, guard := g }).run Tryd.prog x = .ok (.value (.tuple #[.int .u64 (addE n m c : Nat), .int .u64 (addC n m c : Nat)])) x := by
  have e : (#[] ++ (#[Operand.tmp j, .tmp k, .tmp l].map a.eval) ++ #[] : Array Value) = #[.int .u64 (n : Nat), .int .u64 (m : Nat), .int .u64 (c : Nat)] := by simp [h, h', h'']
  have r := add64_run n m c hc x
  rw [← e] at r
  exact r
end
def oPL_0 : Oper := { dst := some 11, op := .move (.tmp 6), type := 3, pos := "number.go:46", after := #[], guard := none }
def oPL_1 : Oper := { dst := some 12, op := .move (.tmp 6), type := 3, pos := "number.go:46", after := #[], guard := none }
def oPL_2 : Oper := { dst := some 13, op := .indexAddr 66 (.tmp 2) (.tmp 12), type := 0, pos := "number.go:46", after := #[⟨1, .data⟩], guard := none }
def oPL_3 : Oper := { dst := some 14, op := .load 48 (.tmp 13), type := 48, pos := "number.go:46", after := #[⟨2, .data⟩], guard := none }
def oPL_4 : Oper := { dst := some 15, op := .move (.tmp 6), type := 3, pos := "number.go:46", after := #[], guard := none }
def oPL_5 : Oper := { dst := some 16, op := .indexAddr 66 (.tmp 3) (.tmp 15), type := 0, pos := "number.go:46", after := #[⟨4, .data⟩], guard := none }
def oPL_6 : Oper := { dst := some 17, op := .load 48 (.tmp 16), type := 48, pos := "number.go:46", after := #[⟨5, .data⟩], guard := none }
def oPL_7 : Oper := { dst := some 18, op := .move (.tmp 5), type := 48, pos := "number.go:46", after := #[], guard := none }
def oPL_8 : Oper := { dst := some 19, op := .call { callee := .value (.func 58), args := #[.tmp 14, .tmp 17, .tmp 18], argTypes := #[48, 48, 48] }, type := 96, pos := "number.go:46", after := #[⟨3, .data⟩, ⟨6, .data⟩, ⟨7, .data⟩], guard := none }
def oPL_9 : Oper := { dst := some 10, op := .move (.tmp 19), type := 96, pos := "number.go:46", after := #[⟨8, .data⟩], guard := none }
def oPL_10 : Oper := { dst := some 20, op := .extract (.tmp 10) 0, type := 48, pos := "number.go:46", after := #[⟨9, .data⟩], guard := none }
def oPL_11 : Oper := { dst := some 21, op := .extract (.tmp 10) 1, type := 48, pos := "number.go:46", after := #[⟨9, .data⟩, ⟨13, .gcOnly .lateStores⟩], guard := none }
def oPL_12 : Oper := { dst := some 22, op := .indexAddr 66 (.tmp 2) (.tmp 11), type := 0, pos := "number.go:46", after := #[⟨0, .data⟩, ⟨0, .phase⟩, ⟨1, .phase⟩, ⟨2, .phase⟩, ⟨3, .phase⟩, ⟨4, .phase⟩, ⟨5, .phase⟩, ⟨6, .phase⟩, ⟨7, .phase⟩, ⟨8, .phase⟩, ⟨9, .phase⟩, ⟨10, .phase⟩, ⟨11, .textOnly .lateStores⟩], guard := none }
def oPL_13 : Oper := { dst := none, op := .store 48 (.tmp 22) (.tmp 20), type := 0, pos := "number.go:46", after := #[⟨12, .data⟩, ⟨10, .data⟩, ⟨8, .chain⟩, ⟨0, .phase⟩, ⟨1, .phase⟩, ⟨2, .phase⟩, ⟨3, .phase⟩, ⟨4, .phase⟩, ⟨5, .phase⟩, ⟨6, .phase⟩, ⟨7, .phase⟩, ⟨8, .phase⟩, ⟨9, .phase⟩, ⟨10, .phase⟩, ⟨11, .textOnly .lateStores⟩], guard := none }
def oPL_14 : Oper := { dst := some 5, op := .assign (.tmp 21), type := 48, pos := "number.go:46", after := #[⟨11, .data⟩, ⟨13, .chain⟩, ⟨0, .phase⟩, ⟨1, .phase⟩, ⟨2, .phase⟩, ⟨3, .phase⟩, ⟨4, .phase⟩, ⟨5, .phase⟩, ⟨6, .phase⟩, ⟨7, .phase⟩, ⟨8, .phase⟩, ⟨9, .phase⟩, ⟨10, .phase⟩, ⟨11, .phase⟩, ⟨12, .phase⟩, ⟨13, .phase⟩], guard := none }
def opsPL : List Oper := [oPL_0, oPL_1, oPL_2, oPL_3, oPL_4, oPL_5, oPL_6, oPL_7, oPL_8, oPL_9, oPL_10, oPL_11, oPL_12, oPL_13, oPL_14]
def vPL (B2 B3 ix nn mm cy : Nat) (i : Nat) : Value := ([.int .i64 (ix : Nat), .int .i64 (ix : Nat), .pointer (some ⟨B2, ix, none⟩), .int .u64 (nn : Nat), .int .i64 (ix : Nat), .pointer (some ⟨B3, ix, none⟩), .int .u64 (mm : Nat), .int .u64 (cy : Nat), .tuple #[.int .u64 (addE nn mm cy : Nat), .int .u64 (addC nn mm cy : Nat)], .tuple #[.int .u64 (addE nn mm cy : Nat), .int .u64 (addC nn mm cy : Nat)], .int .u64 (addE nn mm cy : Nat), .int .u64 (addC nn mm cy : Nat), .pointer (some ⟨B2, ix, none⟩), undef, .int .u64 (addC nn mm cy : Nat)] : List Value).getD i undef
structure EnvPL (a0 : Act) (w : World) (B2 B3 ix nn mm cy : Nat) : Prop where
  h2 : a0.tmps[2]? = some (.pointer (some ⟨B2, 0, none⟩))
  h3 : a0.tmps[3]? = some (.pointer (some ⟨B3, 0, none⟩))
  h5 : a0.tmps[5]? = some (.int .u64 (cy : Nat))
  h6 : a0.tmps[6]? = some (.int .i64 (ix : Nat))
  hi : ix < 5
  hc : cy ≤ 1
  c2 : w.drew.cell? ⟨B2, ix, none⟩ = some (.int .u64 (nn : Nat))
  c3 : w.drew.cell? ⟨B3, ix, none⟩ = some (.int .u64 (mm : Nat))
  z2 : w.drew.frozen? ⟨B2, ix, none⟩ = false
theorem dstPL {k j : Nat} (h : dstOf opsPL k = some j) : j ∈ [5, 10, 11, 12, 13, 14, 15, 16, 17, 18, 19, 20, 21, 22] := by
  rcases k with _ | _ | _ | _ | _ | _ | _ | _ | _ | _ | _ | _ | _ | _ | _ | k
  · have e := Option.some.inj h; subst e; decide
  · have e := Option.some.inj h; subst e; decide
  · have e := Option.some.inj h; subst e; decide
  · have e := Option.some.inj h; subst e; decide
  · have e := Option.some.inj h; subst e; decide
  · have e := Option.some.inj h; subst e; decide
  · have e := Option.some.inj h; subst e; decide
  · have e := Option.some.inj h; subst e; decide
  · have e := Option.some.inj h; subst e; decide
  · have e := Option.some.inj h; subst e; decide
  · have e := Option.some.inj h; subst e; decide
  · have e := Option.some.inj h; subst e; decide
  · have e := Option.some.inj h; subst e; decide
  · cases h
  · have e := Option.some.inj h; subst e; decide
  · cases h
theorem yPL_0 {a0 : Act} {w : World} {B2 B3 ix nn mm cy : Nat} (E : EnvPL a0 w B2 B3 ix nn mm cy) {a : Act} {x : World} (hx : x = w.drew ∨ (x = w.drew.setCell ⟨B2, ix, none⟩ (.int .u64 (addE nn mm cy : Nat)) ∧ waits opsPL 13 0 = false)) (oth : ∀ j, (∀ k, dstOf opsPL k ≠ some j) → a.tmps[j]? = a0.tmps[j]?) (dep : ∀ e ∈ oPL_0.after, Region.binds .any e = true → e.on ≠ 13 → ∀ t, dstOf opsPL e.on = some t → a.tmps[t]? = some (vPL B2 B3 ix nn mm cy e.on)) (fr : ∀ j t, waits opsPL j 0 = true → dstOf opsPL j = some t → a.tmps[t]? = a0.tmps[t]?) : (execOp a.eval oPL_0).run Tryd.prog x = .ok (.value (vPL B2 B3 ix nn mm cy 0)) x := by
  exact run_mv (tmp_eval ((oth 6 (fun k h => absurd (dstPL h) (by decide))).trans E.h6))
theorem yPL_1 {a0 : Act} {w : World} {B2 B3 ix nn mm cy : Nat} (E : EnvPL a0 w B2 B3 ix nn mm cy) {a : Act} {x : World} (hx : x = w.drew ∨ (x = w.drew.setCell ⟨B2, ix, none⟩ (.int .u64 (addE nn mm cy : Nat)) ∧ waits opsPL 13 1 = false)) (oth : ∀ j, (∀ k, dstOf opsPL k ≠ some j) → a.tmps[j]? = a0.tmps[j]?) (dep : ∀ e ∈ oPL_1.after, Region.binds .any e = true → e.on ≠ 13 → ∀ t, dstOf opsPL e.on = some t → a.tmps[t]? = some (vPL B2 B3 ix nn mm cy e.on)) (fr : ∀ j t, waits opsPL j 1 = true → dstOf opsPL j = some t → a.tmps[t]? = a0.tmps[t]?) : (execOp a.eval oPL_1).run Tryd.prog x = .ok (.value (vPL B2 B3 ix nn mm cy 1)) x := by
  exact run_mv (tmp_eval ((oth 6 (fun k h => absurd (dstPL h) (by decide))).trans E.h6))
theorem yPL_2 {a0 : Act} {w : World} {B2 B3 ix nn mm cy : Nat} (E : EnvPL a0 w B2 B3 ix nn mm cy) {a : Act} {x : World} (hx : x = w.drew ∨ (x = w.drew.setCell ⟨B2, ix, none⟩ (.int .u64 (addE nn mm cy : Nat)) ∧ waits opsPL 13 2 = false)) (oth : ∀ j, (∀ k, dstOf opsPL k ≠ some j) → a.tmps[j]? = a0.tmps[j]?) (dep : ∀ e ∈ oPL_2.after, Region.binds .any e = true → e.on ≠ 13 → ∀ t, dstOf opsPL e.on = some t → a.tmps[t]? = some (vPL B2 B3 ix nn mm cy e.on)) (fr : ∀ j t, waits opsPL j 2 = true → dstOf opsPL j = some t → a.tmps[t]? = a0.tmps[t]?) : (execOp a.eval oPL_2).run Tryd.prog x = .ok (.value (vPL B2 B3 ix nn mm cy 2)) x := by
  have t1 : a.tmps[12]? = some (.int .i64 (ix : Nat)) := dep ⟨1, .data⟩ (by simp [oPL_2]) rfl (by decide) 12 rfl
  exact run_word (tmp_eval ((oth 2 (fun k h => absurd (dstPL h) (by decide))).trans E.h2)) (tmp_eval t1) E.hi
theorem yPL_3 {a0 : Act} {w : World} {B2 B3 ix nn mm cy : Nat} (E : EnvPL a0 w B2 B3 ix nn mm cy) {a : Act} {x : World} (hx : x = w.drew ∨ (x = w.drew.setCell ⟨B2, ix, none⟩ (.int .u64 (addE nn mm cy : Nat)) ∧ waits opsPL 13 3 = false)) (oth : ∀ j, (∀ k, dstOf opsPL k ≠ some j) → a.tmps[j]? = a0.tmps[j]?) (dep : ∀ e ∈ oPL_3.after, Region.binds .any e = true → e.on ≠ 13 → ∀ t, dstOf opsPL e.on = some t → a.tmps[t]? = some (vPL B2 B3 ix nn mm cy e.on)) (fr : ∀ j t, waits opsPL j 3 = true → dstOf opsPL j = some t → a.tmps[t]? = a0.tmps[t]?) : (execOp a.eval oPL_3).run Tryd.prog x = .ok (.value (vPL B2 B3 ix nn mm cy 3)) x := by
  have t2 : a.tmps[13]? = some (.pointer (some ⟨B2, ix, none⟩)) := dep ⟨2, .data⟩ (by simp [oPL_3]) rfl (by decide) 13 rfl
  rcases hx with rfl | ⟨_, hx⟩
  · exact run_u64 (tmp_eval t2) E.c2
  · exact absurd hx (by decide +kernel)
theorem yPL_4 {a0 : Act} {w : World} {B2 B3 ix nn mm cy : Nat} (E : EnvPL a0 w B2 B3 ix nn mm cy) {a : Act} {x : World} (hx : x = w.drew ∨ (x = w.drew.setCell ⟨B2, ix, none⟩ (.int .u64 (addE nn mm cy : Nat)) ∧ waits opsPL 13 4 = false)) (oth : ∀ j, (∀ k, dstOf opsPL k ≠ some j) → a.tmps[j]? = a0.tmps[j]?) (dep : ∀ e ∈ oPL_4.after, Region.binds .any e = true → e.on ≠ 13 → ∀ t, dstOf opsPL e.on = some t → a.tmps[t]? = some (vPL B2 B3 ix nn mm cy e.on)) (fr : ∀ j t, waits opsPL j 4 = true → dstOf opsPL j = some t → a.tmps[t]? = a0.tmps[t]?) : (execOp a.eval oPL_4).run Tryd.prog x = .ok (.value (vPL B2 B3 ix nn mm cy 4)) x := by
  exact run_mv (tmp_eval ((oth 6 (fun k h => absurd (dstPL h) (by decide))).trans E.h6))
theorem yPL_5 {a0 : Act} {w : World} {B2 B3 ix nn mm cy : Nat} (E : EnvPL a0 w B2 B3 ix nn mm cy) {a : Act} {x : World} (hx : x = w.drew ∨ (x = w.drew.setCell ⟨B2, ix, none⟩ (.int .u64 (addE nn mm cy : Nat)) ∧ waits opsPL 13 5 = false)) (oth : ∀ j, (∀ k, dstOf opsPL k ≠ some j) → a.tmps[j]? = a0.tmps[j]?) (dep : ∀ e ∈ oPL_5.after, Region.binds .any e = true → e.on ≠ 13 → ∀ t, dstOf opsPL e.on = some t → a.tmps[t]? = some (vPL B2 B3 ix nn mm cy e.on)) (fr : ∀ j t, waits opsPL j 5 = true → dstOf opsPL j = some t → a.tmps[t]? = a0.tmps[t]?) : (execOp a.eval oPL_5).run Tryd.prog x = .ok (.value (vPL B2 B3 ix nn mm cy 5)) x := by
  have t4 : a.tmps[15]? = some (.int .i64 (ix : Nat)) := dep ⟨4, .data⟩ (by simp [oPL_5]) rfl (by decide) 15 rfl
  exact run_word (tmp_eval ((oth 3 (fun k h => absurd (dstPL h) (by decide))).trans E.h3)) (tmp_eval t4) E.hi
theorem yPL_6 {a0 : Act} {w : World} {B2 B3 ix nn mm cy : Nat} (E : EnvPL a0 w B2 B3 ix nn mm cy) {a : Act} {x : World} (hx : x = w.drew ∨ (x = w.drew.setCell ⟨B2, ix, none⟩ (.int .u64 (addE nn mm cy : Nat)) ∧ waits opsPL 13 6 = false)) (oth : ∀ j, (∀ k, dstOf opsPL k ≠ some j) → a.tmps[j]? = a0.tmps[j]?) (dep : ∀ e ∈ oPL_6.after, Region.binds .any e = true → e.on ≠ 13 → ∀ t, dstOf opsPL e.on = some t → a.tmps[t]? = some (vPL B2 B3 ix nn mm cy e.on)) (fr : ∀ j t, waits opsPL j 6 = true → dstOf opsPL j = some t → a.tmps[t]? = a0.tmps[t]?) : (execOp a.eval oPL_6).run Tryd.prog x = .ok (.value (vPL B2 B3 ix nn mm cy 6)) x := by
  have t5 : a.tmps[16]? = some (.pointer (some ⟨B3, ix, none⟩)) := dep ⟨5, .data⟩ (by simp [oPL_6]) rfl (by decide) 16 rfl
  rcases hx with rfl | ⟨_, hx⟩
  · exact run_u64 (tmp_eval t5) E.c3
  · exact absurd hx (by decide +kernel)
theorem yPL_7 {a0 : Act} {w : World} {B2 B3 ix nn mm cy : Nat} (E : EnvPL a0 w B2 B3 ix nn mm cy) {a : Act} {x : World} (hx : x = w.drew ∨ (x = w.drew.setCell ⟨B2, ix, none⟩ (.int .u64 (addE nn mm cy : Nat)) ∧ waits opsPL 13 7 = false)) (oth : ∀ j, (∀ k, dstOf opsPL k ≠ some j) → a.tmps[j]? = a0.tmps[j]?) (dep : ∀ e ∈ oPL_7.after, Region.binds .any e = true → e.on ≠ 13 → ∀ t, dstOf opsPL e.on = some t → a.tmps[t]? = some (vPL B2 B3 ix nn mm cy e.on)) (fr : ∀ j t, waits opsPL j 7 = true → dstOf opsPL j = some t → a.tmps[t]? = a0.tmps[t]?) : (execOp a.eval oPL_7).run Tryd.prog x = .ok (.value (vPL B2 B3 ix nn mm cy 7)) x := by
  exact run_mv (tmp_eval ((fr 14 5 (by decide +kernel) rfl).trans E.h5))
theorem yPL_8 {a0 : Act} {w : World} {B2 B3 ix nn mm cy : Nat} (E : EnvPL a0 w B2 B3 ix nn mm cy) {a : Act} {x : World} (hx : x = w.drew ∨ (x = w.drew.setCell ⟨B2, ix, none⟩ (.int .u64 (addE nn mm cy : Nat)) ∧ waits opsPL 13 8 = false)) (oth : ∀ j, (∀ k, dstOf opsPL k ≠ some j) → a.tmps[j]? = a0.tmps[j]?) (dep : ∀ e ∈ oPL_8.after, Region.binds .any e = true → e.on ≠ 13 → ∀ t, dstOf opsPL e.on = some t → a.tmps[t]? = some (vPL B2 B3 ix nn mm cy e.on)) (fr : ∀ j t, waits opsPL j 8 = true → dstOf opsPL j = some t → a.tmps[t]? = a0.tmps[t]?) : (execOp a.eval oPL_8).run Tryd.prog x = .ok (.value (vPL B2 B3 ix nn mm cy 8)) x := by
  have t3 : a.tmps[14]? = some (.int .u64 (nn : Nat)) := dep ⟨3, .data⟩ (by simp [oPL_8]) rfl (by decide) 14 rfl
  have t6 : a.tmps[17]? = some (.int .u64 (mm : Nat)) := dep ⟨6, .data⟩ (by simp [oPL_8]) rfl (by decide) 17 rfl
  have t7 : a.tmps[18]? = some (.int .u64 (cy : Nat)) := dep ⟨7, .data⟩ (by simp [oPL_8]) rfl (by decide) 18 rfl
  exact run_add64c (tmp_eval t3) (tmp_eval t6) (tmp_eval t7) E.hc
theorem yPL_9 {a0 : Act} {w : World} {B2 B3 ix nn mm cy : Nat} (E : EnvPL a0 w B2 B3 ix nn mm cy) {a : Act} {x : World} (hx : x = w.drew ∨ (x = w.drew.setCell ⟨B2, ix, none⟩ (.int .u64 (addE nn mm cy : Nat)) ∧ waits opsPL 13 9 = false)) (oth : ∀ j, (∀ k, dstOf opsPL k ≠ some j) → a.tmps[j]? = a0.tmps[j]?) (dep : ∀ e ∈ oPL_9.after, Region.binds .any e = true → e.on ≠ 13 → ∀ t, dstOf opsPL e.on = some t → a.tmps[t]? = some (vPL B2 B3 ix nn mm cy e.on)) (fr : ∀ j t, waits opsPL j 9 = true → dstOf opsPL j = some t → a.tmps[t]? = a0.tmps[t]?) : (execOp a.eval oPL_9).run Tryd.prog x = .ok (.value (vPL B2 B3 ix nn mm cy 9)) x := by
  have t8 : a.tmps[19]? = some (.tuple #[.int .u64 (addE nn mm cy : Nat), .int .u64 (addC nn mm cy : Nat)]) := dep ⟨8, .data⟩ (by simp [oPL_9]) rfl (by decide) 19 rfl
  exact run_mv (tmp_eval t8)
theorem yPL_10 {a0 : Act} {w : World} {B2 B3 ix nn mm cy : Nat} (E : EnvPL a0 w B2 B3 ix nn mm cy) {a : Act} {x : World} (hx : x = w.drew ∨ (x = w.drew.setCell ⟨B2, ix, none⟩ (.int .u64 (addE nn mm cy : Nat)) ∧ waits opsPL 13 10 = false)) (oth : ∀ j, (∀ k, dstOf opsPL k ≠ some j) → a.tmps[j]? = a0.tmps[j]?) (dep : ∀ e ∈ oPL_10.after, Region.binds .any e = true → e.on ≠ 13 → ∀ t, dstOf opsPL e.on = some t → a.tmps[t]? = some (vPL B2 B3 ix nn mm cy e.on)) (fr : ∀ j t, waits opsPL j 10 = true → dstOf opsPL j = some t → a.tmps[t]? = a0.tmps[t]?) : (execOp a.eval oPL_10).run Tryd.prog x = .ok (.value (vPL B2 B3 ix nn mm cy 10)) x := by
  have t9 : a.tmps[10]? = some (.tuple #[.int .u64 (addE nn mm cy : Nat), .int .u64 (addC nn mm cy : Nat)]) := dep ⟨9, .data⟩ (by simp [oPL_10]) rfl (by decide) 10 rfl
  exact run_ex0 (tmp_eval t9)
theorem yPL_11 {a0 : Act} {w : World} {B2 B3 ix nn mm cy : Nat} (E : EnvPL a0 w B2 B3 ix nn mm cy) {a : Act} {x : World} (hx : x = w.drew ∨ (x = w.drew.setCell ⟨B2, ix, none⟩ (.int .u64 (addE nn mm cy : Nat)) ∧ waits opsPL 13 11 = false)) (oth : ∀ j, (∀ k, dstOf opsPL k ≠ some j) → a.tmps[j]? = a0.tmps[j]?) (dep : ∀ e ∈ oPL_11.after, Region.binds .any e = true → e.on ≠ 13 → ∀ t, dstOf opsPL e.on = some t → a.tmps[t]? = some (vPL B2 B3 ix nn mm cy e.on)) (fr : ∀ j t, waits opsPL j 11 = true → dstOf opsPL j = some t → a.tmps[t]? = a0.tmps[t]?) : (execOp a.eval oPL_11).run Tryd.prog x = .ok (.value (vPL B2 B3 ix nn mm cy 11)) x := by
  have t9 : a.tmps[10]? = some (.tuple #[.int .u64 (addE nn mm cy : Nat), .int .u64 (addC nn mm cy : Nat)]) := dep ⟨9, .data⟩ (by simp [oPL_11]) rfl (by decide) 10 rfl
  exact run_ex1 (tmp_eval t9)
theorem yPL_12 {a0 : Act} {w : World} {B2 B3 ix nn mm cy : Nat} (E : EnvPL a0 w B2 B3 ix nn mm cy) {a : Act} {x : World} (hx : x = w.drew ∨ (x = w.drew.setCell ⟨B2, ix, none⟩ (.int .u64 (addE nn mm cy : Nat)) ∧ waits opsPL 13 12 = false)) (oth : ∀ j, (∀ k, dstOf opsPL k ≠ some j) → a.tmps[j]? = a0.tmps[j]?) (dep : ∀ e ∈ oPL_12.after, Region.binds .any e = true → e.on ≠ 13 → ∀ t, dstOf opsPL e.on = some t → a.tmps[t]? = some (vPL B2 B3 ix nn mm cy e.on)) (fr : ∀ j t, waits opsPL j 12 = true → dstOf opsPL j = some t → a.tmps[t]? = a0.tmps[t]?) : (execOp a.eval oPL_12).run Tryd.prog x = .ok (.value (vPL B2 B3 ix nn mm cy 12)) x := by
  have t0 : a.tmps[11]? = some (.int .i64 (ix : Nat)) := dep ⟨0, .data⟩ (by simp [oPL_12]) rfl (by decide) 11 rfl
  exact run_word (tmp_eval ((oth 2 (fun k h => absurd (dstPL h) (by decide))).trans E.h2)) (tmp_eval t0) E.hi
theorem yPL_13 {a0 : Act} {w : World} {B2 B3 ix nn mm cy : Nat} (E : EnvPL a0 w B2 B3 ix nn mm cy) {a : Act} (oth : ∀ j, (∀ k, dstOf opsPL k ≠ some j) → a.tmps[j]? = a0.tmps[j]?) (dep : ∀ e ∈ oPL_13.after, Region.binds .any e = true → e.on ≠ 13 → ∀ t, dstOf opsPL e.on = some t → a.tmps[t]? = some (vPL B2 B3 ix nn mm cy e.on)) : (execOp a.eval oPL_13).run Tryd.prog w.drew = .ok .skip (w.drew.setCell ⟨B2, ix, none⟩ (.int .u64 (addE nn mm cy : Nat))) := by
  have t12 : a.tmps[22]? = some (.pointer (some ⟨B2, ix, none⟩)) := dep ⟨12, .data⟩ (by simp [oPL_13]) rfl (by decide) 22 rfl
  have t10 : a.tmps[20]? = some (.int .u64 (addE nn mm cy : Nat)) := dep ⟨10, .data⟩ (by simp [oPL_13]) rfl (by decide) 20 rfl
  exact run_put (tmp_eval t12) (tmp_eval t10) E.c2 E.z2
theorem yPL_14 {a0 : Act} {w : World} {B2 B3 ix nn mm cy : Nat} (E : EnvPL a0 w B2 B3 ix nn mm cy) {a : Act} {x : World} (hx : x = w.drew ∨ (x = w.drew.setCell ⟨B2, ix, none⟩ (.int .u64 (addE nn mm cy : Nat)) ∧ waits opsPL 13 14 = false)) (oth : ∀ j, (∀ k, dstOf opsPL k ≠ some j) → a.tmps[j]? = a0.tmps[j]?) (dep : ∀ e ∈ oPL_14.after, Region.binds .any e = true → e.on ≠ 13 → ∀ t, dstOf opsPL e.on = some t → a.tmps[t]? = some (vPL B2 B3 ix nn mm cy e.on)) (fr : ∀ j t, waits opsPL j 14 = true → dstOf opsPL j = some t → a.tmps[t]? = a0.tmps[t]?) : (execOp a.eval oPL_14).run Tryd.prog x = .ok (.value (vPL B2 B3 ix nn mm cy 14)) x := by
  have t11 : a.tmps[21]? = some (.int .u64 (addC nn mm cy : Nat)) := dep ⟨11, .data⟩ (by simp [oPL_14]) rfl (by decide) 21 rfl
  exact run_as (tmp_eval t11)
theorem hopPL {a0 : Act} {w : World} {B2 B3 ix nn mm cy : Nat} (E : EnvPL a0 w B2 B3 ix nn mm cy) : ∀ (i : Nat) (o : Oper) (a : Act) (x : World), opsPL[i]? = some o → i ≠ 13 → (x = w.drew ∨ (x = w.drew.setCell ⟨B2, ix, none⟩ (.int .u64 (addE nn mm cy : Nat)) ∧ waits opsPL 13 i = false)) → (∀ j, (∀ k, dstOf opsPL k ≠ some j) → a.tmps[j]? = a0.tmps[j]?) → (∀ e ∈ o.after, Region.binds .any e = true → e.on ≠ 13 → ∀ t, dstOf opsPL e.on = some t → a.tmps[t]? = some (vPL B2 B3 ix nn mm cy e.on)) → (∀ j t, waits opsPL j i = true → dstOf opsPL j = some t → a.tmps[t]? = a0.tmps[t]?) → ∃ t, o.dst = some t ∧ (execOp a.eval o).run Tryd.prog x = .ok (.value (vPL B2 B3 ix nn mm cy i)) x
  | 0, o, a, x, ho, hi, hx, oth, dep, fr => by
    have e1 : oPL_0 = o := Option.some.inj ho
    subst e1
    exact ⟨11, rfl, yPL_0 E hx oth dep fr⟩
  | 1, o, a, x, ho, hi, hx, oth, dep, fr => by
    have e1 : oPL_1 = o := Option.some.inj ho
    subst e1
    exact ⟨12, rfl, yPL_1 E hx oth dep fr⟩
  | 2, o, a, x, ho, hi, hx, oth, dep, fr => by
    have e1 : oPL_2 = o := Option.some.inj ho
    subst e1
    exact ⟨13, rfl, yPL_2 E hx oth dep fr⟩
  | 3, o, a, x, ho, hi, hx, oth, dep, fr => by
    have e1 : oPL_3 = o := Option.some.inj ho
    subst e1
    exact ⟨14, rfl, yPL_3 E hx oth dep fr⟩
  | 4, o, a, x, ho, hi, hx, oth, dep, fr => by
    have e1 : oPL_4 = o := Option.some.inj ho
    subst e1
    exact ⟨15, rfl, yPL_4 E hx oth dep fr⟩
  | 5, o, a, x, ho, hi, hx, oth, dep, fr => by
    have e1 : oPL_5 = o := Option.some.inj ho
    subst e1
    exact ⟨16, rfl, yPL_5 E hx oth dep fr⟩
  | 6, o, a, x, ho, hi, hx, oth, dep, fr => by
    have e1 : oPL_6 = o := Option.some.inj ho
    subst e1
    exact ⟨17, rfl, yPL_6 E hx oth dep fr⟩
  | 7, o, a, x, ho, hi, hx, oth, dep, fr => by
    have e1 : oPL_7 = o := Option.some.inj ho
    subst e1
    exact ⟨18, rfl, yPL_7 E hx oth dep fr⟩
  | 8, o, a, x, ho, hi, hx, oth, dep, fr => by
    have e1 : oPL_8 = o := Option.some.inj ho
    subst e1
    exact ⟨19, rfl, yPL_8 E hx oth dep fr⟩
  | 9, o, a, x, ho, hi, hx, oth, dep, fr => by
    have e1 : oPL_9 = o := Option.some.inj ho
    subst e1
    exact ⟨10, rfl, yPL_9 E hx oth dep fr⟩
  | 10, o, a, x, ho, hi, hx, oth, dep, fr => by
    have e1 : oPL_10 = o := Option.some.inj ho
    subst e1
    exact ⟨20, rfl, yPL_10 E hx oth dep fr⟩
  | 11, o, a, x, ho, hi, hx, oth, dep, fr => by
    have e1 : oPL_11 = o := Option.some.inj ho
    subst e1
    exact ⟨21, rfl, yPL_11 E hx oth dep fr⟩
  | 12, o, a, x, ho, hi, hx, oth, dep, fr => by
    have e1 : oPL_12 = o := Option.some.inj ho
    subst e1
    exact ⟨22, rfl, yPL_12 E hx oth dep fr⟩
  | 13, o, a, x, ho, hi, hx, oth, dep, fr => absurd rfl hi
  | 14, o, a, x, ho, hi, hx, oth, dep, fr => by
    have e1 : oPL_14 = o := Option.some.inj ho
    subst e1
    exact ⟨5, rfl, yPL_14 E hx oth dep fr⟩
  | i + 15, o, a, x, ho, hi, hx, oth, dep, fr => by cases ho
theorem gdPL : ∀ (i : Nat) (o : Oper), opsPL[i]? = some o → o.guard = none := by
  intro i o ho
  rcases i with _ | _ | _ | _ | _ | _ | _ | _ | _ | _ | _ | _ | _ | _ | _ | i
  · have e := Option.some.inj ho; subst e; rfl
  · have e := Option.some.inj ho; subst e; rfl
  · have e := Option.some.inj ho; subst e; rfl
  · have e := Option.some.inj ho; subst e; rfl
  · have e := Option.some.inj ho; subst e; rfl
  · have e := Option.some.inj ho; subst e; rfl
  · have e := Option.some.inj ho; subst e; rfl
  · have e := Option.some.inj ho; subst e; rfl
  · have e := Option.some.inj ho; subst e; rfl
  · have e := Option.some.inj ho; subst e; rfl
  · have e := Option.some.inj ho; subst e; rfl
  · have e := Option.some.inj ho; subst e; rfl
  · have e := Option.some.inj ho; subst e; rfl
  · have e := Option.some.inj ho; subst e; rfl
  · have e := Option.some.inj ho; subst e; rfl
  · cases ho
theorem regionPL {id : Nat} {l : List Oper} {R : Exit → Act → World → Prop} {a0 : Act} {w : World} {B2 B3 ix nn mm cy : Nat} (hl : l = opsPL) (hsz : a0.tmps.size = 25) (E : EnvPL a0 w B2 B3 ix nn mm cy)
    (hR : R .normal (putAll a0 [(11, .int .i64 (ix : Nat)), (12, .int .i64 (ix : Nat)), (13, .pointer (some ⟨B2, ix, none⟩)), (14, .int .u64 (nn : Nat)), (15, .int .i64 (ix : Nat)), (16, .pointer (some ⟨B3, ix, none⟩)), (17, .int .u64 (mm : Nat)), (18, .int .u64 (cy : Nat)), (19, .tuple #[.int .u64 (addE nn mm cy : Nat), .int .u64 (addC nn mm cy : Nat)]), (10, .tuple #[.int .u64 (addE nn mm cy : Nat), .int .u64 (addC nn mm cy : Nat)]), (20, .int .u64 (addE nn mm cy : Nat)), (21, .int .u64 (addC nn mm cy : Nat)), (22, .pointer (some ⟨B2, ix, none⟩)), (5, .int .u64 (addC nn mm cy : Nat))]) (w.drew.setCell ⟨B2, ix, none⟩ (.int .u64 (addE nn mm cy : Nat)))) :
    (Code.region id l.toArray true).wp Tryd.prog R a0 w := by
  subst hl
  refine wp_region_vals (vPL B2 B3 ix nn mm cy) 13 (w.drew.setCell ⟨B2, ix, none⟩ (.int .u64 (addE nn mm cy : Nat))) (by kernel_rfl) (by decide +kernel) (fun i t h => ?_) ⟨oPL_13, rfl, rfl⟩ gdPL (hopPL E) (fun o a ho oth dep => ?_) (fun a size defers other vals => ?_)
  · rw [hsz]
    exact (by decide : ∀ t ∈ [5, 10, 11, 12, 13, 14, 15, 16, 17, 18, 19, 20, 21, 22], t < 25) t (dstPL h)
  · have e1 : oPL_13 = o := Option.some.inj ho
    subst e1
    exact yPL_13 E oth dep
  · have hA := act_puts (a := a) (a0 := a0) [(11, .int .i64 (ix : Nat)), (12, .int .i64 (ix : Nat)), (13, .pointer (some ⟨B2, ix, none⟩)), (14, .int .u64 (nn : Nat)), (15, .int .i64 (ix : Nat)), (16, .pointer (some ⟨B3, ix, none⟩)), (17, .int .u64 (mm : Nat)), (18, .int .u64 (cy : Nat)), (19, .tuple #[.int .u64 (addE nn mm cy : Nat), .int .u64 (addC nn mm cy : Nat)]), (10, .tuple #[.int .u64 (addE nn mm cy : Nat), .int .u64 (addC nn mm cy : Nat)]), (20, .int .u64 (addE nn mm cy : Nat)), (21, .int .u64 (addC nn mm cy : Nat)), (22, .pointer (some ⟨B2, ix, none⟩)), (5, .int .u64 (addC nn mm cy : Nat))] (by show [11, 12, 13, 14, 15, 16, 17, 18, 19, 10, 20, 21, 22, 5].Nodup; decide) size defers (fun j hj => other j (fun k' hk => hj ?_)) (fun r hr => ?_)
    · refine ⟨?_⟩
      rw [hA]
      exact hR
    · have hm : ∀ t ∈ [5, 10, 11, 12, 13, 14, 15, 16, 17, 18, 19, 20, 21, 22], t ∈ [11, 12, 13, 14, 15, 16, 17, 18, 19, 10, 20, 21, 22, 5] := by decide
      exact hm j (dstPL hk)
    · simp only [List.mem_cons, List.not_mem_nil, or_false] at hr
      rcases hr with rfl | rfl | rfl | rfl | rfl | rfl | rfl | rfl | rfl | rfl | rfl | rfl | rfl | rfl
      · exact vals 0 11 rfl
      · exact vals 1 12 rfl
      · exact vals 2 13 rfl
      · exact vals 3 14 rfl
      · exact vals 4 15 rfl
      · exact vals 5 16 rfl
      · exact vals 6 17 rfl
      · exact vals 7 18 rfl
      · exact vals 8 19 rfl
      · exact vals 9 10 rfl
      · exact vals 10 20 rfl
      · exact vals 11 21 rfl
      · exact vals 12 22 rfl
      · exact vals 14 5 rfl
/-- A number's words. -/
def numV (N : Nat → Nat) : Value := .agg #[.int .u64 (N 0 : Nat), .int .u64 (N 1 : Nat), .int .u64 (N 2 : Nat), .int .u64 (N 3 : Nat), .int .u64 (N 4 : Nat)]
/-- Carries and words of a sum. -/
def cyV (N M : Nat → Nat) : Nat → Nat
  | 0 => 0
  | i + 1 => addC (N i) (M i) (cyV N M i)
def dgV (N M : Nat → Nat) (i : Nat) : Nat := addE (N i) (M i) (cyV N M i)
theorem cy_le {N M : Nat → Nat} (hN : ∀ i, N i < m64) (hM : ∀ i, M i < m64) : ∀ i, cyV N M i ≤ 1 := by
  intro i
  induction i with
  | zero => exact Nat.zero_le _
  | succ i ih =>
    show (N i + M i + cyV N M i) / m64 ≤ 1
    have h1 := hN i
    have h2 := hM i
    unfold m64 at *
    omega
structure PSt (w : World) (N M : Nat → Nat) (B2 B3 B4 i : Nat) (x : World) : Prop where
  q : Q w x
  c2 : ∀ j, j < 5 → x.cell? ⟨B2, j, none⟩ = some (.int .u64 ((if j < i then dgV N M j else N j : Nat) : Int))
  c3 : ∀ j, j < 5 → x.cell? ⟨B3, j, none⟩ = some (.int .u64 (M j : Nat))
  c4 : ∀ j, j < 5 → x.cell? ⟨B4, j, none⟩ = some (.int .u64 0)
  z2 : ∀ j, x.frozen? ⟨B2, j, none⟩ = false
  z4 : ∀ j, x.frozen? ⟨B4, j, none⟩ = false
theorem PSt.step {w x : World} {N M : Nat → Nat} {B2 B3 B4 i : Nat} (h : PSt w N M B2 B3 B4 i x) (hw : w.heap.size ≤ B2) (h3 : B3 ≠ B2) (h4 : B4 ≠ B2) (hi : i < 5) : PSt w N M B2 B3 B4 (i + 1) (x.drew.setCell ⟨B2, i, none⟩ (.int .u64 (addE (N i) (M i) (cyV N M i) : Nat))) := by
  refine ⟨h.q.drew.set hw _, fun j hj => ?_, fun j hj => ?_, fun j hj => ?_, fun j => ?_, fun j => ?_⟩
  · by_cases e : j = i
    · subst e
      have c := h.c2 j hj
      rw [if_pos (by omega)]
      simp [go_sem, c]
      rfl
    · have hne : (⟨B2, i, none⟩ : Addr) ≠ ⟨B2, j, none⟩ := fun e' => e (by injection e' with _ e'; exact e'.symm)
      rw [World.cell?_setCell_other _ _ _ _ hne]
      have c := h.c2 j hj
      have : (if j < i + 1 then dgV N M j else N j) = (if j < i then dgV N M j else N j) := by
        by_cases g : j < i
        · rw [if_pos g, if_pos (by omega)]
        · rw [if_neg g, if_neg (by omega)]
      rw [this]
      simpa using c
  · have hne : (⟨B2, i, none⟩ : Addr) ≠ ⟨B3, j, none⟩ := fun e' => h3 (by injection e' with e'; exact e'.symm)
    rw [World.cell?_setCell_other _ _ _ _ hne]
    simpa using h.c3 j hj
  · have hne : (⟨B2, i, none⟩ : Addr) ≠ ⟨B4, j, none⟩ := fun e' => h4 (by injection e' with e'; exact e'.symm)
    rw [World.cell?_setCell_other _ _ _ _ hne]
    simpa using h.c4 j hj
  · simpa using h.z2 j
  · simpa using h.z4 j
set_option maxHeartbeats 4000000 in
set_option maxRecDepth 100000 in
theorem nplus_any (N M : Nat → Nat) (hN : ∀ i, N i < m64) (hM : ∀ i, M i < m64) (w : World) : Calls Tryd.prog 36 #[numV N, numV M] w fun e w' => e = .returned (numV (dgV N M)) ∧ Q w w' := by
  have HCY : Hid (∀ i, cyV N M i ≤ 1) := cy_le hN hM
  clear hN hM
  unfold numV
  go_enter Tryd.func36, Tryd.ntmps36
  go_wp2_with fail
  obtain ⟨x0, hx0⟩ : ∃ x0, ((w.alloc (Obj.cells #[.int .u64 (N 0 : Nat), .int .u64 (N 1 : Nat), .int .u64 (N 2 : Nat), .int .u64 (N 3 : Nat), .int .u64 (N 4 : Nat)] 66)).alloc (Obj.cells #[.int .u64 (M 0 : Nat), .int .u64 (M 1 : Nat), .int .u64 (M 2 : Nat), .int .u64 (M 3 : Nat), .int .u64 (M 4 : Nat)] 66)).alloc (Obj.cells #[.int .u64 0, .int .u64 0, .int .u64 0, .int .u64 0, .int .u64 0] 66) = x0 := ⟨_, rfl⟩
  have P0 : PSt w N M w.heap.size (w.heap.size + 1) (w.heap.size + 1 + 1) 0 x0 := by
    rw [← hx0]
    refine ⟨(((Q.refl w).cells _ _).cells _ _).cells _ _, fun j hj => ?_, fun j hj => ?_, fun j hj => ?_, fun j => by simp [go_sem], fun j => by simp [go_sem]⟩
    · rw [if_neg (Nat.not_lt_zero _)]
      rcases j with _ | _ | _ | _ | _ | j
      · simp [go_sem]
      · simp [go_sem]
      · simp [go_sem]
      · simp [go_sem]
      · simp [go_sem]
      · omega
    · rcases j with _ | _ | _ | _ | _ | j
      · simp [go_sem]
      · simp [go_sem]
      · simp [go_sem]
      · simp [go_sem]
      · simp [go_sem]
      · omega
    · rcases j with _ | _ | _ | _ | _ | j
      · simp [go_sem]
      · simp [go_sem]
      · simp [go_sem]
      · simp [go_sem]
      · simp [go_sem]
      · omega
  have HP0 : Hid (PSt w N M w.heap.size (w.heap.size + 1) (w.heap.size + 1 + 1) 0 x0) := P0
  rw [hx0]
  clear hx0 P0
  go_loopg [5, 7] (5) (fun gh s5 s7 wr => ∃ i : Nat, s5 = .int .u64 (cyV N M i : Nat) ∧ s7 = .int .i64 (i : Int) ∧ i ≤ 5 ∧ gh = 5 - i ∧ Hid (PSt w N M w.heap.size (w.heap.size + 1) (w.heap.size + 1 + 1) i wr))
  case atStart => exact ⟨0, rfl, rfl, by omega, rfl, HP0.out⟩
  case round =>
    obtain ⟨i, rfl, rfl, hi, rfl, HP⟩ := hrel
    by_cases h5 : i < 5
    · go_wp2_with fail
      refine regionPL (nn := N i) (mm := M i) rfl rfl ⟨rfl, rfl, rfl, rfl, h5, HCY.out i, ?_, ?_, ?_⟩ ?_
      · have c := HP.out.c2 i h5
        rw [if_neg (Nat.lt_irrefl _)] at c
        simpa using c
      · simpa using HP.out.c3 i h5
      · simpa using HP.out.z2 i
      · simp only [putAll, Act.put]
        go_wp2_with fail
        go_roundg (5 - (i + 1))
        case measure => go_light; omega
        case rel =>
          go_light
          exact ⟨i + 1, rfl, by simp, by omega, rfl, HP.out.step (Nat.le_refl _) (by omega) (by omega) h5⟩
    · obtain rfl : i = 5 := by omega
      have HQ : Hid (Q w wr) := HP.out.q
      obtain ⟨a0, a1, a2, a3, a4⟩ : wr.cell? ⟨w.heap.size, 0, none⟩ = some (.int .u64 (dgV N M 0 : Nat)) ∧ wr.cell? ⟨w.heap.size, 1, none⟩ = some (.int .u64 (dgV N M 1 : Nat)) ∧ wr.cell? ⟨w.heap.size, 2, none⟩ = some (.int .u64 (dgV N M 2 : Nat)) ∧ wr.cell? ⟨w.heap.size, 3, none⟩ = some (.int .u64 (dgV N M 3 : Nat)) ∧ wr.cell? ⟨w.heap.size, 4, none⟩ = some (.int .u64 (dgV N M 4 : Nat)) :=
        ⟨HP.out.c2 0 (by decide), HP.out.c2 1 (by decide), HP.out.c2 2 (by decide), HP.out.c2 3 (by decide), HP.out.c2 4 (by decide)⟩
      have b0 := HP.out.c4 0 (by decide)
      have b1 := HP.out.c4 1 (by decide)
      have b2 := HP.out.c4 2 (by decide)
      have b3 := HP.out.c4 3 (by decide)
      have b4 := HP.out.c4 4 (by decide)
      have z0 := HP.out.z4 0
      have z1 := HP.out.z4 1
      have z2 := HP.out.z4 2
      have z3 := HP.out.z4 3
      have z4 := HP.out.z4 4
      clear HP HCY
      go_wp2_with fail
      refine bodyPost_ret (v := numV (dgV N M)) (by simp [results, Tryd.results36, go_sem, b0, b1, b2, b3, b4, numV]) rfl ⟨rfl, ?_⟩
      have hle : w.heap.size ≤ w.heap.size + 1 + 1 := by omega
      exact ((((HQ.out.set hle _).set hle _).set hle _).set hle _).set hle _
end Go.Proofs.YtmgpaheobhfioaaDoor

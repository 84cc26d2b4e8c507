/- Planes: what they are, and how their samples lie in memory. -/
import Derived.Test.YtieojgblamkgoaaGreatDoorG905794ad
import Derived.Laws.MakeOwn
import Derived.Test.YtieojgblamkgoaaGreatDoorG95d39959
import Derived.Test.YtieojgblamkgoaaGreatDoorGdf44e40f
import Derived.Test.YtieojgblamkgoaaGreatDoorGfe1f3128
import Derived.Test.YtieojgblamkgoaaGreatDoorG42eeefa4
import Derived.Test.YtieojgblamkgoaaGreatDoorGbbd98f2c
import Derived.Test.YtieojgblamkgoaaGreatDoorG61144fdc
import Derived.Test.YtieojgblamkgoaaGreatDoorG59477670
namespace Go.Proofs.YtieojgblamkgoaaGreatDoor
open Go.RowKit
set_option linter.unusedVariables false

/-- Samples in memory. -/
def USl (w : World) (v : Value) (xs : List Nat) : Prop := (∃ g o cap, v = .slice (some ⟨g, o, none⟩) xs.length cap ∧ xs.length ≤ cap ∧ ∀ i, i < xs.length → w.cell? ⟨g, o + i, none⟩ = some (.int .u32 (xs.getD i 0 : Nat))) ∨ (∃ a c, v = .slice a 0 c ∧ xs = [])
theorem USl.next {w w' : World} {v : Value} {l : List Nat} (h : USl w v l) (q : Q w w') : USl w' v l := by
  rcases h with ⟨g, o, cap, h1, h2, h3⟩ | h
  · exact Or.inl ⟨g, o, cap, h1, h2, fun i hi => q.cell (h3 i hi)⟩
  · exact Or.inr h
theorem USl.form {w : World} {v : Value} {l : List Nat} (h : USl w v l) : ∃ a cap, v = .slice a l.length cap := by
  rcases h with ⟨g, o, cap, h1, h2, h3⟩ | ⟨a, c, h1, h2⟩
  · exact ⟨_, _, h1⟩
  · rw [h2]; exact ⟨_, _, h1⟩
/-- Samples that lie somewhere. -/
def UIs (w : World) (g o : Nat) (xs : List Nat) : Prop := ∀ i, i < xs.length → w.cell? ⟨g, o + i, none⟩ = some (.int .u32 (xs.getD i 0 : Nat))
theorem UIs.next {w w' : World} {g o : Nat} {l : List Nat} (h : UIs w g o l) (q : Q w w') : UIs w' g o l := fun i hi => q.cell (h i hi)
theorem UIs.usl {w : World} {g o : Nat} {l : List Nat} {cap : Nat} (h : UIs w g o l) (hc : l.length ≤ cap) : USl w (.slice (some ⟨g, o, none⟩) l.length cap) l := Or.inl ⟨g, o, cap, rfl, hc, h⟩
/-- A slice of samples that is not empty lies somewhere. -/
theorem USl.some {w : World} {v : Value} {l : List Nat} (h : USl w v l) (h1 : 1 ≤ l.length) : ∃ g o cap, v = .slice (some ⟨g, o, none⟩) l.length cap ∧ l.length ≤ cap ∧ UIs w g o l := by
  rcases h with ⟨g, o, cap, h1, h2, h3⟩ | ⟨a, c, h1, h2⟩
  · exact ⟨g, o, cap, h1, h2, h3⟩
  · subst h2; exact absurd h1 (by simp at *)

/-- A plane told by its places. -/
def tab (W H : Nat) (G : Nat → Nat → Nat) : List Nat := (List.range (W * H)).map fun i => G (i % W) (i / W)
theorem tab_length (W H : Nat) (G : Nat → Nat → Nat) : (tab W H G).length = W * H := by simp [tab]
theorem tab_get {W H i : Nat} {G : Nat → Nat → Nat} (h : i < W * H) : (tab W H G).getD i 0 = G (i % W) (i / W) := by
  unfold tab
  rw [List.getD_eq_getElem?_getD, List.getElem?_map, List.getElem?_range h]; rfl
theorem place_lt {W H x y : Nat} (hx : x < W) (hy : y < H) : y * W + x < W * H := by
  have : (y + 1) * W ≤ H * W := Nat.mul_le_mul_right _ hy
  rw [Nat.mul_comm W H]
  rw [Nat.succ_mul] at this
  omega
theorem place_mod {W x : Nat} (y : Nat) (hx : x < W) : (y * W + x) % W = x := by
  rw [Nat.add_comm, Nat.add_mul_mod_self_right, Nat.mod_eq_of_lt hx]
theorem place_div {W x : Nat} (y : Nat) (hx : x < W) : (y * W + x) / W = y := by
  rw [Nat.add_comm, Nat.add_mul_div_right _ _ (by omega), Nat.div_eq_of_lt hx]; omega
theorem row_lt {W H i : Nat} (h : i < W * H) : 0 < W ∧ i % W < W ∧ i / W < H := by
  have hW : 0 < W := by
    rcases Nat.eq_zero_or_pos W with g | g
    · subst g; rw [Nat.zero_mul] at h; omega
    · exact g
  exact ⟨hW, Nat.mod_lt _ hW, (Nat.div_lt_iff_lt_mul hW).2 (by rw [Nat.mul_comm]; exact h)⟩
/-- The sample at a place. -/
def smp (S : List Nat) (W x y : Nat) : Nat := S.getD (y * W + x) 0
theorem smp_tab {W H x y : Nat} {G : Nat → Nat → Nat} (hx : x < W) (hy : y < H) : smp (tab W H G) W x y = G x y := by
  unfold smp
  rw [tab_get (place_lt hx hy), place_mod y hx, place_div y hx]
theorem tab_ext {W H : Nat} {G G' : Nat → Nat → Nat} (h : ∀ x y, x < W → y < H → G x y = G' x y) : tab W H G = tab W H G' := by
  unfold tab
  apply List.map_congr_left
  intro i hi
  rw [List.mem_range] at hi
  obtain ⟨_, h1, h2⟩ := row_lt hi
  exact h _ _ h1 h2
theorem list_ext {a b : List Nat} (hl : a.length = b.length) (h : ∀ i, i < a.length → a.getD i 0 = b.getD i 0) : a = b := by
  apply List.ext_getElem hl
  intro i h1 h2
  have := h i h1
  rw [List.getD_eq_getElem?_getD, List.getD_eq_getElem?_getD, List.getElem?_eq_getElem h1, List.getElem?_eq_getElem h2] at this
  exact this
theorem tab_self {W H : Nat} {S : List Nat} (h : S.length = W * H) : tab W H (smp S W) = S := by
  apply list_ext (by rw [tab_length, h])
  intro i hi
  rw [tab_length] at hi
  rw [tab_get hi]
  unfold smp
  rw [Nat.mul_comm, Nat.div_add_mod]
theorem getD_lt {S : List Nat} {n : Nat} (hn : 0 < n) (h : ∀ i, S.getD i 0 < n) (W x y : Nat) : smp S W x y < n := h _
theorem tab_lt {W H n : Nat} {G : Nat → Nat → Nat} (hn : 0 < n) (h : ∀ x y, G x y < n) (i : Nat) : (tab W H G).getD i 0 < n := by
  by_cases hi : i < W * H
  · rw [tab_get hi]; exact h _ _
  · rw [List.getD_eq_getElem?_getD, List.getElem?_eq_none (by rw [tab_length]; omega)]; exact hn

/-- A size that may be. -/
structure Size (a b : Nat) : Prop where
  a1 : 1 ≤ a
  a2 : a ≤ 1024
  b1 : 1 ≤ b
  b2 : b ≤ 1024
  ab : a * b ≤ 65536
theorem Size.swap {a b : Nat} (h : Size a b) : Size b a := ⟨h.b1, h.b2, h.a1, h.a2, by rw [Nat.mul_comm]; exact h.ab⟩
theorem Size.pos {a b : Nat} (h : Size a b) : 1 ≤ a * b := Nat.mul_pos h.a1 h.b1
/-- A size that may be, of any two numbers. -/
def SizeB (W H : Int) : Prop := 1 ≤ W ∧ W ≤ 1024 ∧ 1 ≤ H ∧ H ≤ 1024 ∧ W * H ≤ 65536
theorem SizeB.nat {W H : Int} (h : SizeB W H) : ∃ a b : Nat, W = a ∧ H = b ∧ Size a b := by
  obtain ⟨h1, h2, h3, h4, h5⟩ := h
  refine ⟨W.toNat, H.toNat, by omega, by omega, by omega, by omega, by omega, by omega, ?_⟩
  have e1 : ((W.toNat : Nat) : Int) = W := by omega
  have e2 : ((H.toNat : Nat) : Int) = H := by omega
  have : ((W.toNat * H.toNat : Nat) : Int) ≤ 65536 := by rw [Int.natCast_mul, e1, e2]; exact h5
  omega
theorem Size.b {a b : Nat} (h : Size a b) : SizeB a b := by
  refine ⟨by have := h.a1; omega, by have := h.a2; omega, by have := h.b1; omega, by have := h.b2; omega, ?_⟩
  have := h.ab
  rw [← Int.natCast_mul]
  omega

/-- How far a list is written: what is done is as L tells. -/
structure Fill (w wr : World) (b n : Nat) (L : Nat → Nat) (k : Nat) : Prop where
  q : Q w wr
  new : w.heap.size ≤ b
  done : ∀ i, i < k → wr.cell? ⟨b, i, none⟩ = some (.int .u32 (L i : Nat))
  room : ∀ j, j < n → ∃ v, wr.cell? ⟨b, j, none⟩ = some v
  free : ∀ j, wr.frozen? ⟨b, j, none⟩ = false
theorem Fill.next {w wr wx : World} {b n k : Nat} {L : Nat → Nat} (h : Fill w wr b n L k) (q : Q wr wx) : Fill w wx b n L k where
  q := h.q.trans q
  new := h.new
  done := fun i hi => q.cell (h.done i hi)
  room := fun j hj => by obtain ⟨v, hv⟩ := h.room j hj; exact ⟨v, q.cell hv⟩
  free := fun j => by rw [q.2]; exact h.free j
theorem Fill.step {w wr : World} {b n k : Nat} {L : Nat → Nat} (h : Fill w wr b n L k) (hk : k < n) {v : Nat} (hv : v = L k) : Fill w (wr.setCell ⟨b, k, none⟩ (.int .u32 (v : Nat))) b n L (k + 1) := by
  subst hv
  obtain ⟨u, hu⟩ := h.room k hk
  refine ⟨h.q.set h.new _, h.new, fun i hi => ?_, fun j hj => ?_, fun j => ?_⟩
  · by_cases e : i = k
    · subst e; exact World.cell?_setCell_same _ _ _ hu
    · rw [World.cell?_setCell_other _ _ _ _ (by simp <;> omega)]; exact h.done i (by omega)
  · by_cases e : j = k
    · subst e; exact ⟨_, World.cell?_setCell_same _ _ _ hu⟩
    · rw [World.cell?_setCell_other _ _ _ _ (by simp <;> omega)]; exact h.room j hj
  · rw [World.frozen?_setCell]; exact h.free j
/-- A list in memory of its own. -/
structure Own (w wr : World) (b : Nat) (S : List Nat) : Prop where
  q : Q w wr
  new : w.heap.size ≤ b
  cells : UIs wr b 0 S
  free : ∀ j, wr.frozen? ⟨b, j, none⟩ = false
theorem Own.next {w wr wx : World} {b : Nat} {S : List Nat} (h : Own w wr b S) (q : Q wr wx) : Own w wx b S := ⟨h.q.trans q, h.new, h.cells.next q, fun j => by rw [q.2]; exact h.free j⟩
theorem Fill.own {w wr : World} {b n : Nat} {L : Nat → Nat} (h : Fill w wr b n L n) {S : List Nat} (hn : S.length = n) (hS : ∀ i, i < n → S.getD i 0 = L i) : Own w wr b S := by
  refine ⟨h.q, h.new, fun i hi => ?_, h.free⟩
  rw [hn] at hi
  rw [Nat.zero_add, h.done i hi, hS i hi]

theorem info_of {P : Program} {e : TypeId} {n b : Nat} {z : Value} (h1 : (P.info? e).map (fun i => (i.size, i.bytes)) = some (n, b)) (h2 : (P.info? e).bind (·.zero) = some z) : ∃ i, P.info? e = some i ∧ i.size = n ∧ i.bytes = b ∧ i.zero = some z := by
  cases h : P.info? e with
  | none => rw [h] at h1; cases h1
  | some i =>
    rw [h] at h1 h2
    have h1 : some (i.size, i.bytes) = some (n, b) := h1
    have h2 : i.zero = some z := h2
    injection h1 with h1
    injection h1 with h3 h4
    exact ⟨i, rfl, h3, h4, h2⟩
theorem u32Info : ∃ i, Tryz.prog.info? 43 = some i ∧ i.size = 1 ∧ i.bytes = 4 ∧ i.zero = some (.int .u32 0) :=
  info_of (by kernel_rfl) (by kernel_rfl)
/-- Making a list of noughts. -/
theorem make_u32 (n : Nat) (hn : n ≤ 1099511627776) : ∃ M : Array Value, (∀ w : World, (Instr.makeSlice 24 (.int .i64 (n : Int)) (.int .i64 (n : Int))).run Tryz.prog w = .ok (.slice (some ⟨w.heap.size, 0, none⟩) n n) (w.alloc (.cells M 43))) ∧
    ∀ w : World, Fill w (w.alloc (.cells M 43)) w.heap.size n (fun _ => 0) n := by
  obtain ⟨i, i1, i2, i3, i4⟩ := u32Info
  refine ⟨madeCells (Value.int .u32 0).cells (n * 1), fun w => ?_, fun w => ?_⟩
  · have := run_make (P := Tryz.prog) w 24 43 i _ Tryz.underlying24 i1 i4 .i64 .i64 n n (by omega) (by omega) (by rw [i3]; omega) (by omega)
    rw [i2] at this
    simp only [Int.toNat_natCast] at this
    exact this
  · have hb : (w.alloc (.cells (madeCells (Value.int .u32 0).cells (n * 1)) 43)).heap[w.heap.size]? = some (.cells (madeCells (Value.int .u32 0).cells (n * 1)) 43 (0, 0)) := heap_alloc_new w _
    have key : ∀ j, j < n → (w.alloc (.cells (madeCells (Value.int .u32 0).cells (n * 1)) 43)).cell? ⟨w.heap.size, j, none⟩ = some (.int .u32 0) := fun j hj => by
      rw [cell_of_row _ _ j _ 43 (0, 0) hb]
      unfold madeCells
      simp [Value.cells, hj, Nat.mod_one]
    exact ⟨(Q.refl w).cells _ _, Nat.le_refl _, fun i hi => key i hi, fun j hj => ⟨_, key j hj⟩, fun j => frozen_of_row _ _ _ _ _ hb⟩
end Go.Proofs.YtieojgblamkgoaaGreatDoor
/- What operations tell, as a list of properties that last. -/
namespace Go.Proofs.YtieojgblamkgoaaGreatDoor
open Go.RowKit
set_option linter.unusedVariables false
set_option linter.unusedSimpArgs false

structure Spec where
  p : Value → World → Prop
  st : ∀ {v : Value} {x x' : World}, p v x → Q x x' → p v x'
def spV (u : Value) : Spec := ⟨fun v _ => v = u, fun h _ => h⟩
def specAt (l : List Spec) (i : Nat) (v : Value) (x : World) : Prop := match l[i]? with
  | some s => s.p v x
  | none => False
theorem specAt.next {l : List Spec} (i : Nat) (v : Value) (x x' : World) (h : specAt l i v x) (q : Q x x') : specAt l i v x' := by
  unfold specAt at h ⊢
  cases g : l[i]? with
  | none => rw [g] at h; exact h
  | some s => rw [g] at h; exact s.st h q
section
variable {P : Program} {ρ : Operand → Value} {x : World} {d : Option Tmp} {ty : TypeId} {ps : String} {af : Array Edge} {g : Option (Nat × Bool)}
theorem run_sub64 {j k : Nat} {m n r : Int} (h : ρ (.tmp j) = .int .i64 m) (h' : ρ (.tmp k) = .int .i64 n) (hr : IntKind.i64.wrap (m - n) = r) : (execOp ρ { dst := d, op := .binOp .sub 3 (.tmp j) (.tmp k) 3, type := ty, pos := ps, after := af, guard := g }).run Tryz.prog x = .ok (.value (.int .i64 r)) x := by
  simp [execOp, h, h', go_sem, hr]
theorem run_leq64 {j : Nat} {m n : Int} (h : ρ (.tmp j) = .int .i64 m) (hk : ρ (.const (.int .i64 n)) = .int .i64 n) : (execOp ρ { dst := d, op := .binOp .leq 3 (.tmp j) (.const (.int .i64 n)) 3, type := ty, pos := ps, after := af, guard := g }).run Tryz.prog x = .ok (.value (.bool (decide (m ≤ n)))) x := by
  simp [execOp, h, hk, go_sem]
end
end Go.Proofs.YtieojgblamkgoaaGreatDoor
/- A region that draws its order and stores nothing: each operation with a fact that lasts; those that are guarded are known to be let through, or known to be left out. -/
namespace Go.Proofs.YtieojgblamkgoaaGreatDoor
open Go.RowKit
set_option linter.unusedVariables false
set_option linter.unusedSimpArgs false

theorem dst_mem {l : List Oper} {s : List Nat} (hs : l.map (fun o : Oper => o.dst) = s.map some) {k j : Nat} (h : dstOf l k = some j) : s[k]? = some j := by
  unfold dstOf at h
  have h1 : (l.map (fun o : Oper => o.dst))[k]? = (s.map some)[k]? := by rw [hs]
  rw [List.getElem?_map, List.getElem?_map] at h1
  cases hl : l[k]? with
  | none => rw [hl] at h; cases h
  | some o =>
    rw [hl] at h h1
    cases hk : s[k]? with
    | none => rw [hk] at h1; cases h1
    | some t =>
      rw [hk] at h1
      have h2 : some o.dst = some (some t) := h1
      injection h2 with h2
      have h3 : o.dst = some j := h
      rw [h2] at h3
      injection h3 with h3
      rw [h3]
theorem dst_of {l : List Oper} {s : List Nat} (hs : l.map (fun o : Oper => o.dst) = s.map some) {k j : Nat} (h : s[k]? = some j) : dstOf l k = some j := by
  have h1 : (l.map (fun o : Oper => o.dst))[k]? = (s.map some)[k]? := by rw [hs]
  rw [List.getElem?_map, List.getElem?_map, h] at h1
  unfold dstOf
  cases hl : l[k]? with
  | none => rw [hl] at h1; cases h1
  | some o =>
    rw [hl] at h1
    have h2 : some o.dst = some (some j) := h1
    injection h2
set_option maxHeartbeats 1000000 in
theorem wp_region_factsS {P : Program} {id : Nat} {R : Exit → Act → World → Prop} {a0 : Act} {w : World} {l : List Oper} (s : List Nat) (F : Nat → Value → World → Prop) (skip : Nat → Bool)
    (hm : P.follows .mixedOrders = true) (hB : regS l = true) (hs : l.map (fun o : Oper => o.dst) = s.map some) (hmax : ∀ t ∈ s, t < a0.tmps.size)
    (hst : ∀ i v x x', F i v x → Q x x' → F i v x')
    (hgu : ∀ (i : Nat) (o : Oper) (g : Nat) (b : Bool), l[i]? = some o → o.guard = some (g, b) → ∀ v x, F g v x → (v = .bool b ↔ skip i = false))
    (hgn : ∀ (i : Nat) (o : Oper), l[i]? = some o → o.guard = none → skip i = false)
    (hsk : ∀ i x, skip i = true → F i undef x)
    (hop : ∀ i t o (a : Act) x, skip i = false → s[i]? = some t → l[i]? = some o → Q w x → (∀ j, j ∉ s → a.tmps[j]? = a0.tmps[j]?) → (∀ ed ∈ o.after, Region.binds .any ed = true → ∀ t', s[ed.on]? = some t' → ∃ v, a.tmps[t']? = some v ∧ F ed.on v x) → Yld P R o a x t (F i))
    (hend : ∀ (a : Act) x, Q w x → a.tmps.size = a0.tmps.size → a.defers = a0.defers → (∀ j, j ∉ s → a.tmps[j]? = a0.tmps[j]?) → (∀ i t, s[i]? = some t → ∃ v, a.tmps[t]? = some v ∧ F i v x) → Shut (R .normal a x)) :
    (Code.region id l.toArray true).wp P R a0 w := by
  have oth : ∀ {a : Act}, (∀ j, (∀ k, dstOf l k ≠ some j) → a.tmps[j]? = a0.tmps[j]?) → ∀ j, j ∉ s → a.tmps[j]? = a0.tmps[j]? := fun h j hj => h j (fun k hk => hj (List.mem_of_getElem? (dst_mem hs hk)))
  refine wp_region_slots (fun done val x => Q w x ∧ ∀ i, done i = true → F i (val i) x) hm hB (fun i t h => hmax t (List.mem_of_getElem? (dst_mem hs h))) ⟨(Q.refl w).drew, fun i h => by cases h⟩ ?_ ?_ ?_
  · intro i o a x done val ho hd hdep I hoth hvals hg
    have hil : i < l.length := (List.getElem?_eq_some_iff.1 ho).1
    have hlen : l.length = s.length := by have := congrArg List.length hs; simpa using this
    obtain ⟨t, ht⟩ : ∃ t, s[i]? = some t := ⟨_, List.getElem?_eq_getElem (by omega)⟩
    have hdst : o.dst = some t := by rw [← dstOf_at ho]; exact dst_of hs ht
    have hski : skip i = false := by
      cases hgd : o.guard with
      | none => exact hgn i o ho hgd
      | some gb =>
        obtain ⟨g, b⟩ := gb
        obtain ⟨⟨ed, he, hb, hon⟩, _⟩ := (regS_at hB ho).1 g b hgd
        have hdone := hdep ed he hb
        rw [hon] at hdone
        exact (hgu i o g b ho hgd (val g) x (I.2 g hdone)).1 (hg g b hgd)
    have hrun := hop i t o a x hski ht ho I.1 (oth hoth) (fun ed he hb t' ht' => ⟨val ed.on, hvals ed.on t' (hdep ed he hb) (dst_of hs ht'), I.2 ed.on (hdep ed he hb)⟩)
    refine ⟨Oper.wp_mono ?_ hrun.out⟩
    rintro a' x' ⟨v, rfl, q', hf⟩
    refine ⟨v, by rw [hdst], I.1.trans q', fun j hj => ?_⟩
    by_cases e : j = i
    · subst e; rw [upd_eq]; exact hf
    · rw [upd_ne _ _ e] at hj ⊢
      exact hst _ _ _ _ (I.2 j hj) q'
  · intro i o x done val g b ho hd hdep I hgd hne
    have hsk' : skip i = true := by
      cases h : skip i with
      | true => rfl
      | false =>
        obtain ⟨⟨ed, he, hb, hon⟩, _⟩ := (regS_at hB ho).1 g b hgd
        have hdone := hdep ed he hb
        rw [hon] at hdone
        exact absurd ((hgu i o g b ho hgd (val g) x (I.2 g hdone)).2 h) hne
    refine ⟨I.1, fun j hj => ?_⟩
    by_cases e : j = i
    · subst e; rw [upd_eq]; exact hsk _ _ hsk'
    · rw [upd_ne _ _ e] at hj ⊢
      exact I.2 j hj
  · intro a x val I size defers other vals
    refine hend a x I.1 size defers (oth other) (fun i t ht => ⟨val i, vals i t (dst_of hs ht), I.2 i ?_⟩)
    have hlen : l.length = s.length := by have := congrArg List.length hs; simpa using this
    have := (List.getElem?_eq_some_iff.1 ht).1
    exact decide_eq_true (by omega)
end Go.Proofs.YtieojgblamkgoaaGreatDoor
/- Sums: one behind the other, by halves, with what was lost carried along: what the program tells. -/
namespace Go.Proofs.YtieojgblamkgoaaGreatDoor
open Go.RowKit
set_option linter.unusedVariables false
set_option linter.unusedSimpArgs false

/-- A sum, rounded to binary32. -/
def addV (a b : Nat) : Nat := toldD ((Ieee.single.read a).sum (Ieee.single.read b))
def subV (a b : Nat) : Nat := toldD ((Ieee.single.read a).sum (Ieee.single.read b).opposite)
def leftV (l : List Nat) : Nat := if l = [] then 0 else l.foldl addV 2147483648
theorem take_succ_foldl {α β : Type} (f : β → α → β) (z : β) (l : List α) (d : α) {i : Nat} (h : i < l.length) : (l.take (i + 1)).foldl f z = f ((l.take i).foldl f z) (l.getD i d) := by
  rw [List.take_succ_eq_append_getElem h, List.foldl_append, List.getD_eq_getElem?_getD, List.getElem?_eq_getElem h]; rfl
/-- By halves, so many times at most. -/
def pairsF : Nat → List Nat → Nat
  | 0, l => if l.length = 0 then 0 else addV 2147483648 (l.getD 0 0)
  | f + 1, l => if l.length = 0 then 0 else if l.length = 1 then addV 2147483648 (l.getD 0 0) else addV (pairsF f (l.take (l.length / 2))) (pairsF f (l.drop (l.length / 2)))
theorem pairsF_more : ∀ (f : Nat) (l : List Nat), l.length ≤ f + 1 → pairsF (f + 1) l = pairsF f l := by
  intro f
  induction f with
  | zero =>
    intro l h
    unfold pairsF
    by_cases h0 : l.length = 0
    · rw [if_pos h0, if_pos h0]
    · rw [if_neg h0, if_neg h0, if_pos (by omega)]
  | succ f ih =>
    intro l h
    show (if l.length = 0 then 0 else if l.length = 1 then addV 2147483648 (l.getD 0 0) else addV (pairsF (f + 1) (l.take (l.length / 2))) (pairsF (f + 1) (l.drop (l.length / 2)))) = (if l.length = 0 then 0 else if l.length = 1 then addV 2147483648 (l.getD 0 0) else addV (pairsF f (l.take (l.length / 2))) (pairsF f (l.drop (l.length / 2))))
    by_cases h0 : l.length = 0
    · rw [if_pos h0, if_pos h0]
    · by_cases h1 : l.length = 1
      · rw [if_neg h0, if_neg h0, if_pos h1, if_pos h1]
      · rw [if_neg h0, if_neg h0, if_neg h1, if_neg h1, ih _ (by rw [List.length_take]; omega), ih _ (by rw [List.length_drop]; omega)]
theorem pairsF_any (l : List Nat) : ∀ (k f : Nat), l.length ≤ f + 1 → pairsF (f + k) l = pairsF f l := by
  intro k
  induction k with
  | zero => exact fun f _ => rfl
  | succ k ih =>
    intro f h
    rw [show f + (k + 1) = (f + k) + 1 by omega, pairsF_more (f + k) l (by omega), ih f h]
def pairsV (l : List Nat) : Nat := pairsF l.length l
theorem pairsV_none {l : List Nat} (h : l.length = 0) : pairsV l = 0 := by
  unfold pairsV
  rw [h]
  show (if l.length = 0 then 0 else _) = 0
  rw [if_pos h]
theorem pairsV_one {l : List Nat} (h : l.length = 1) : pairsV l = addV 2147483648 (l.getD 0 0) := by
  unfold pairsV
  rw [h]
  show (if l.length = 0 then 0 else if l.length = 1 then addV 2147483648 (l.getD 0 0) else _) = _
  rw [if_neg (by omega), if_pos h]
theorem pairsV_many {l : List Nat} (h : 2 ≤ l.length) : pairsV l = addV (pairsV (l.take (l.length / 2))) (pairsV (l.drop (l.length / 2))) := by
  have fit : ∀ m : List Nat, m.length ≤ l.length - 1 → pairsF (l.length - 1) m = pairsV m := fun m hm => by
    unfold pairsV
    have := pairsF_any m (l.length - 1 - m.length) m.length (by omega)
    rw [← this]
    congr 1
    omega
  have e : pairsV l = pairsF (l.length - 1 + 1) l := by unfold pairsV; congr 1; omega
  rw [e]
  show (if l.length = 0 then 0 else if l.length = 1 then addV 2147483648 (l.getD 0 0) else addV (pairsF (l.length - 1) (l.take (l.length / 2))) (pairsF (l.length - 1) (l.drop (l.length / 2)))) = _
  rw [if_neg (by omega), if_neg (by omega), fit _ (by rw [List.length_take]; omega), fit _ (by rw [List.length_drop]; omega)]
theorem UIs.take {w : World} {g o : Nat} {l : List Nat} (h : UIs w g o l) (k : Nat) : UIs w g o (l.take k) := fun i hi => by
  rw [List.length_take] at hi
  have := h i (by omega)
  rw [this]
  congr 3
  rw [List.getD_eq_getElem?_getD, List.getD_eq_getElem?_getD, List.getElem?_take, if_pos (by omega)]
theorem UIs.drop {w : World} {g o : Nat} {l : List Nat} (h : UIs w g o l) (k : Nat) : UIs w g (o + k) (l.drop k) := fun i hi => by
  rw [List.length_drop] at hi
  have := h (k + i) (by omega)
  rw [show o + k + i = o + (k + i) by omega, this]
  congr 3
  rw [List.getD_eq_getElem?_getD, List.getD_eq_getElem?_getD, List.getElem?_drop]
theorem run_slice_to {ρ : Operand → Value} {x : World} {d : Option Tmp} {ty : TypeId} {ps : String} {af : Array Edge} {g : Option (Nat × Bool)} {j k gb ob nn cc kk : Nat} (h : ρ (.tmp j) = .slice (some ⟨gb, ob, none⟩) nn cc) (h' : ρ (.tmp k) = .int .i64 (kk : Nat)) (l1 : kk < nn) (l2 : nn ≤ cc) : (execOp ρ { dst := d, op := .slice 24 (.tmp j) none (some (.tmp k)) none, type := ty, pos := ps, after := af, guard := g }).run Tryz.prog x = .ok (.value (.slice (some ⟨gb, ob, none⟩) kk cc)) x := by
  simp [execOp, h, h', go_sem]
  intro h4
  omega
theorem run_slice_from {ρ : Operand → Value} {x : World} {d : Option Tmp} {ty : TypeId} {ps : String} {af : Array Edge} {g : Option (Nat × Bool)} {j k gb ob nn cc kk : Nat} (h : ρ (.tmp j) = .slice (some ⟨gb, ob, none⟩) nn cc) (h' : ρ (.tmp k) = .int .i64 (kk : Nat)) (l1 : kk < nn) (l2 : nn ≤ cc) : (execOp ρ { dst := d, op := .slice 24 (.tmp j) (some (.tmp k)) none none, type := ty, pos := ps, after := af, guard := g }).run Tryz.prog x = .ok (.value (.slice (some ⟨gb, ob + kk, none⟩) (nn - kk) (cc - kk))) x := by
  simp [execOp, h, h', go_sem]
  rw [if_pos (Nat.le_of_lt l1), if_neg (by omega)]
def oPa_0 : Oper := { dst := some 17, op := .move (.tmp 0), type := 24, pos := "sums.go:62", after := #[], guard := none }
def oPa_1 : Oper := { dst := some 18, op := .move (.tmp 3), type := 3, pos := "sums.go:62", after := #[], guard := none }
def oPa_2 : Oper := { dst := some 19, op := .slice 24 (.tmp 17) none (some (.tmp 18)) none, type := 24, pos := "sums.go:62", after := #[⟨0, .data⟩, ⟨1, .data⟩], guard := none }
def oPa_4 : Oper := { dst := some 21, op := .move (.tmp 0), type := 24, pos := "sums.go:62", after := #[], guard := none }
def oPa_5 : Oper := { dst := some 22, op := .move (.tmp 3), type := 3, pos := "sums.go:62", after := #[], guard := none }
def oPa_6 : Oper := { dst := some 23, op := .slice 24 (.tmp 21) (some (.tmp 22)) none none, type := 24, pos := "sums.go:62", after := #[⟨4, .data⟩, ⟨5, .data⟩], guard := none }
def oPa_9 : Oper := { dst := some 2, op := .assign (.tmp 25), type := 43, pos := "sums.go:62", after := #[⟨8, .data⟩, ⟨8, .chain⟩, ⟨0, .phase⟩, ⟨1, .phase⟩, ⟨2, .phase⟩, ⟨3, .phase⟩, ⟨4, .phase⟩, ⟨5, .phase⟩, ⟨6, .phase⟩, ⟨7, .phase⟩, ⟨8, .phase⟩], guard := none }
def sPa : List Nat := [17, 18, 19, 20, 21, 22, 23, 24, 25, 2]
def spPa (gb ob nn cc kk A B : Nat) : List Spec := [spV (.slice (some ⟨gb, ob, none⟩) nn cc), spV (.int .i64 (kk : Nat)), spV (.slice (some ⟨gb, ob, none⟩) kk cc), spV (.int .u32 (A : Nat)), spV (.slice (some ⟨gb, ob, none⟩) nn cc), spV (.int .i64 (kk : Nat)), spV (.slice (some ⟨gb, ob + kk, none⟩) (nn - kk) (cc - kk)), spV (.int .u32 (B : Nat)), spV (.int .u32 (addV A B : Nat)), spV (.int .u32 (addV A B : Nat))]
def skPa (i : Nat) : Bool := [].contains i
theorem hskPa {gb ob nn cc kk A B : Nat} : ∀ (i : Nat) (x : World), skPa i = true → specAt (spPa gb ob nn cc kk A B) i undef x := by
  intro i x h
  cases h
/-- With what was lost carried along. -/
def kahS (p : Nat × Nat) (s : Nat) : Nat × Nat := (addV p.1 (subV s p.2), subV (subV (addV p.1 (subV s p.2)) p.1) (subV s p.2))
def kahV (l : List Nat) : Nat := if l = [] then 0 else ((l.drop 1).foldl kahS (addV 2147483648 (l.getD 0 0), 0)).1
end Go.Proofs.YtieojgblamkgoaaGreatDoor
/- Words of binary64: what is told, of NaNs one. -/
namespace Go.Proofs.YtieojgblamkgoaaGreatDoor
open Go.RowKit

/-- What is told of a datum in binary64. -/
def told64 : Option Ieee.Datum → Nat
  | none => 9221120237041090560
  | some (.nan ..) => 9221120237041090560
  | some d => Ieee.double.write d
/-- A word of binary64, of NaNs one. -/
def canW (W : Nat) : Nat := if nan64 W = true then 9221120237041090560 else W
def add64V (a b : Nat) : Nat := told64 ((Ieee.double.read a).sum (Ieee.double.read b))
theorem sum64_nan {d : Ieee.Datum} (h : d.isNaN = true) (d' : Ieee.Datum) : told64 (d.sum d') = 9221120237041090560 := by
  obtain ⟨s, t, rfl⟩ := isNaN_cases h
  cases d' <;> rfl
theorem made64 : nan64 9221120237041090560 = true := by decide
theorem can_sum (W X : Nat) : add64V (canW W) X = add64V W X := by
  unfold canW
  cases h : nan64 W
  · rfl
  · rw [if_pos rfl]
    unfold add64V
    rw [sum64_nan (read64_nan h), sum64_nan (read64_nan made64)]
theorem told64_some {d : Ieee.Datum} (h : d.isNaN = false) : told64 (some d) = Ieee.double.write d := by
  cases d with
  | nan s t => cases h
  | infinity s => rfl
  | number s m p => rfl
theorem can_some {d : Ieee.Datum} (h : d.isNaN = false) : canW (Ieee.double.write d) = told64 (some d) := by
  unfold canW
  rw [nan64_write h, if_neg (by decide), told64_some h]
theorem can_none (x y : Nat) (w : World) : canW (nanw .f64 x y w) = 9221120237041090560 := by
  unfold canW
  rw [(nanw64 x y w).1, if_pos rfl]
end Go.Proofs.YtieojgblamkgoaaGreatDoor
/- Sums in binary64, one behind the other: what the program tells. -/
namespace Go.Proofs.YtieojgblamkgoaaGreatDoor
open Go.RowKit
set_option maxHeartbeats 400000 in
theorem copysign_any (w : World) : Calls Tryz.prog 164 #[.float .f64 0, .float .f64 13830554455654793216] w fun e w' => e = .returned (.float .f64 9223372036854775808) ∧ w' = w := by
  have l1 : ∀ w, (callFunc 138 #[.float .f64 0]).run Tryz.prog w = .ok (.value (.int .u64 0)) w := fun w => f64bits 0 w
  have l2 : ∀ w, (callFunc 138 #[.float .f64 13830554455654793216]).run Tryz.prog w = .ok (.value (.int .u64 13830554455654793216)) w := fun w => f64bits 13830554455654793216 w
  have l3 : ∀ w, (callFunc 148 #[.int .u64 9223372036854775808]).run Tryz.prog w = .ok (.value (.float .f64 9223372036854775808)) w := fun w => f64from 9223372036854775808 w
  have e1 : bits .andNot .u64 0 9223372036854775808 = 0 := by decide +kernel
  have e2 : bits .and .u64 13830554455654793216 9223372036854775808 = 9223372036854775808 := by decide +kernel
  have e3 : bits .or .u64 0 9223372036854775808 = 9223372036854775808 := by decide +kernel
  go_enter Tryz.func164, Tryz.ntmps164
  go_wp2_with fail
  go_ret
  exact ⟨rfl, rfl⟩
def left64V (l : List Nat) : Nat := if l = [] then 0 else l.foldl (fun z s => add64V z (wideW s)) 9223372036854775808
end Go.Proofs.YtieojgblamkgoaaGreatDoor
/- The document's sums one behind the other, by halves, with what was lost carried along: the same as the program's. -/
namespace Go.Proofs.YtieojgblamkgoaaGreatDoor
open Go.RowKit
set_option linter.unusedVariables false
set_option linter.unusedSimpArgs false

theorem radd_told (a b : Nat) : roundR (plusR (numOf Ieee.single a) (numOf Ieee.single b)) = addV a b := by
  rw [numOf_datum, numOf_datum, plus_link]; rfl
theorem rsub_told (a b : Nat) : roundR (plusR (numOf Ieee.single a) (oppR (numOf Ieee.single b))) = subV a b := by
  rw [numOf_datum, numOf_datum, opp_link, plus_link]; rfl
theorem addV_lt (a b : Nat) : addV a b < 4294967296 := toldD_lt _
theorem subV_lt (a b : Nat) : subV a b < 4294967296 := toldD_lt _
theorem first_eq {a : Nat} (ha : a < 4294967296) : addV 2147483648 a = if nanN a = true then 2143289344 else a := by
  unfold addV
  rw [sum_comm, add_nought ha]
  cases h : nanN a
  · rw [madeN_of h]; rfl
  · rw [madeN_nan h]; rfl
theorem fold_lt {S : List Nat} (h : S ≠ []) : S.foldl addV 2147483648 < 4294967296 := by
  have key : ∀ (l : List Nat) (z : Nat), z < 4294967296 → l.foldl addV z < 4294967296 := by
    intro l
    induction l with
    | nil => exact fun z h => h
    | cons x l ih => exact fun z h => ih _ (addV_lt _ _)
  exact key S _ (by decide)
theorem take_one {S : List Nat} (h : 0 < S.length) : S.take 1 = [S.getD 0 0] := by
  cases S with
  | nil => cases h
  | cons x l => rfl
def oRp_0 : Oper := { dst := some 17, op := .move (.tmp 0), type := 24, pos := "halideref3.go:61", after := #[], guard := none }
def oRp_1 : Oper := { dst := some 18, op := .move (.tmp 3), type := 3, pos := "halideref3.go:61", after := #[], guard := none }
def oRp_2 : Oper := { dst := some 19, op := .slice 24 (.tmp 17) none (some (.tmp 18)) none, type := 24, pos := "halideref3.go:61", after := #[⟨0, .data⟩, ⟨1, .data⟩], guard := none }
def oRp_4 : Oper := { dst := some 21, op := .move (.tmp 0), type := 24, pos := "halideref3.go:61", after := #[], guard := none }
def oRp_5 : Oper := { dst := some 22, op := .move (.tmp 3), type := 3, pos := "halideref3.go:61", after := #[], guard := none }
def oRp_6 : Oper := { dst := some 23, op := .slice 24 (.tmp 21) (some (.tmp 22)) none none, type := 24, pos := "halideref3.go:61", after := #[⟨4, .data⟩, ⟨5, .data⟩], guard := none }
def oRp_9 : Oper := { dst := some 2, op := .assign (.tmp 25), type := 43, pos := "halideref3.go:61", after := #[⟨8, .data⟩, ⟨8, .chain⟩, ⟨0, .phase⟩, ⟨1, .phase⟩, ⟨2, .phase⟩, ⟨3, .phase⟩, ⟨4, .phase⟩, ⟨5, .phase⟩, ⟨6, .phase⟩, ⟨7, .phase⟩, ⟨8, .phase⟩], guard := none }
def sRp : List Nat := [17, 18, 19, 20, 21, 22, 23, 24, 25, 2]
def spRp (gb ob nn cc kk A B : Nat) : List Spec := [spV (.slice (some ⟨gb, ob, none⟩) nn cc), spV (.int .i64 (kk : Nat)), spV (.slice (some ⟨gb, ob, none⟩) kk cc), spV (.int .u32 (A : Nat)), spV (.slice (some ⟨gb, ob, none⟩) nn cc), spV (.int .i64 (kk : Nat)), spV (.slice (some ⟨gb, ob + kk, none⟩) (nn - kk) (cc - kk)), spV (.int .u32 (B : Nat)), spV (.int .u32 (addV A B : Nat)), spV (.int .u32 (addV A B : Nat))]
def skRp (i : Nat) : Bool := [].contains i
theorem hskRp {gb ob nn cc kk A B : Nat} : ∀ (i : Nat) (x : World), skRp i = true → specAt (spRp gb ob nn cc kk A B) i undef x := by
  intro i x h
  cases h
theorem take_lt {S : List Nat} (hb : ∀ i, S.getD i 0 < 4294967296) (k i : Nat) : (S.take k).getD i 0 < 4294967296 := by
  rw [List.getD_eq_getElem?_getD, List.getElem?_take]
  split
  · rw [← List.getD_eq_getElem?_getD]; exact hb i
  · decide
theorem drop_lt {S : List Nat} (hb : ∀ i, S.getD i 0 < 4294967296) (k i : Nat) : (S.drop k).getD i 0 < 4294967296 := by
  rw [List.getD_eq_getElem?_getD, List.getElem?_drop, ← List.getD_eq_getElem?_getD]
  exact hb _
theorem pairsV_lt (l : List Nat) : pairsV l < 4294967296 := by
  rcases Nat.lt_or_ge l.length 2 with h | h
  · have : l.length = 0 ∨ l.length = 1 := by omega
    rcases this with h | h
    · rw [pairsV_none h]; decide
    · rw [pairsV_one h]; exact addV_lt _ _
  · rw [pairsV_many h]; exact addV_lt _ _
end Go.Proofs.YtieojgblamkgoaaGreatDoor
/- Words of binary64 as numbers of the document: sums. -/
namespace Go.Proofs.YtieojgblamkgoaaGreatDoor
open Go.RowKit
set_option linter.unusedVariables false

theorem told64_eq (o : Option Ieee.Datum) : told64 o = toldW o := by
  cases o with
  | none => rfl
  | some d => cases d <;> rfl
/-- Numbers of binary64. -/
def dblR : RNum → Prop
  | ⟨some (.inr (_, n, e, m))⟩ => n < 9007199254740992 ∧ -1074 ≤ e ∧ e ≤ 1000 ∧ m = false
  | _ => True
theorem dblR_of (a : Nat) : dblR (numOf Ieee.double a) := by
  rw [numOf_datum]
  rcases Nat.lt_trichotomy (rung64 a) 9218868437227405312 with h | h | h
  · rw [read_fin64 h]
    have hp : plc64 (rung64 a) ≤ 2045 := by unfold plc64; omega
    exact ⟨mag_lt64 _, by omega, by omega, rfl⟩
  · rw [read_inf64 h]; exact trivial
  · rw [read_nan64 h]; exact trivial
theorem dblR_small {x : RNum} (h : dblR x) : small x := by
  cases x using RNum.rec3 with
  | nan => exact trivial
  | inf s => exact trivial
  | fin s n e m =>
    obtain ⟨h1, h2, h3, h4⟩ := h
    exact ⟨Nat.le_trans (blen_le (k := 53) h1) (by decide), by omega, by omega⟩
theorem dbl_fits {x y : RNum} (hx : dblR x) (hy : dblR y) : fitsD (plusR x y) := by
  cases x using RNum.rec3 with
  | nan => exact trivial
  | inf s =>
    cases y using RNum.rec3 with
    | nan => exact trivial
    | inf t => show fitsD (if s = t then .inf s else .nan); split <;> exact trivial
    | fin t k f g => exact trivial
  | fin s n e m =>
    cases y using RNum.rec3 with
    | nan => exact trivial
    | inf t => exact trivial
    | fin t k f g =>
      obtain ⟨a1, a2, a3, rfl⟩ := hx
      obtain ⟨b1, b2, b3, rfl⟩ := hy
      have hX : n * 2 ^ (e - min e f).toNat < 2 ^ 2500 := shifted_lt (k := 2500) n _ (by have := blen_le (k := 53) a1; omega)
      have hY : k * 2 ^ (f - min e f).toNat < 2 ^ 2500 := shifted_lt (k := 2500) k _ (by have := blen_le (k := 53) b1; omega)
      show fitsD (plusFin s t (n * 2 ^ (e - min e f).toNat) (k * 2 ^ (f - min e f).toNat) (min e f))
      obtain ⟨j, hj⟩ : ∃ j : Nat, j = 2500 := ⟨_, rfl⟩
      rw [← hj] at hX hY
      generalize n * 2 ^ (e - min e f).toNat = X at hX
      generalize k * 2 ^ (f - min e f).toNat = Y at hY
      have key : ∀ (σ : Bool) (Z : Nat), Z < 2 ^ (j + 1) → fitsD (.fin σ Z (min e f) false) := fun σ Z hZ => ⟨Nat.le_trans (blen_le hZ) (by omega), by omega, by omega, fun h => by cases h⟩
      have e2 : 2 ^ (j + 1) = 2 * 2 ^ j := by rw [Nat.pow_succ, Nat.mul_comm]
      unfold plusFin
      rw [e2] at key
      generalize 2 ^ j = G at *
      split
      · exact key _ _ (by omega)
      · split
        · exact key _ _ (by omega)
        · split
          · exact key _ _ (by omega)
          · exact key _ _ (by omega)
theorem add64_told (a b : Nat) : roundD (plusR (numOf Ieee.double a) (numOf Ieee.double b)) = add64V a b := by
  rw [numOf_datum, numOf_datum, sum_opt, roundD_opt]
  exact (told64_eq _).symm
theorem add64V_lt (a b : Nat) : add64V a b < 18446744073709551616 := by
  unfold add64V
  cases h : (Ieee.double.read a).sum (Ieee.double.read b) with
  | none => decide
  | some d =>
    cases d with
    | nan s t => show 9221120237041090560 < _; decide
    | infinity s => rw [told64_some rfl]; exact write64_lt _
    | number s m p => rw [told64_some rfl]; exact write64_lt _
end Go.Proofs.YtieojgblamkgoaaGreatDoor
/- The document's sums in binary64: the same as the program's. -/
namespace Go.Proofs.YtieojgblamkgoaaGreatDoor
open Go.RowKit
set_option linter.unusedVariables false
set_option linter.unusedSimpArgs false

def numD (X : RNum) : Spec := ⟨fun v x => NumAt x v X, fun h q => q.num h⟩
def oA6_0 : Oper := { dst := some 7, op := .load 145 (.tmp 5), type := 145, pos := "halideref3.go:37", after := #[], guard := none }
def oA6_1 : Oper := { dst := some 8, op := .load 145 (.tmp 5), type := 145, pos := "halideref3.go:37", after := #[], guard := none }
def oA6_2 : Oper := { dst := some 9, op := .move (.tmp 0), type := 110, pos := "halideref3.go:37", after := #[], guard := none }
def oA6_3 : Oper := { dst := some 10, op := .call { callee := .value (.func 111), args := #[.tmp 8, .tmp 9], argTypes := #[145, 110] }, type := 138, pos := "halideref3.go:37", after := #[⟨1, .data⟩, ⟨2, .data⟩], guard := none }
def oA6_4 : Oper := { dst := some 11, op := .load 145 (.tmp 5), type := 145, pos := "halideref3.go:37", after := #[], guard := none }
def oA6_5 : Oper := { dst := some 12, op := .move (.tmp 1), type := 110, pos := "halideref3.go:37", after := #[], guard := none }
def oA6_6 : Oper := { dst := some 13, op := .call { callee := .value (.func 111), args := #[.tmp 11, .tmp 12], argTypes := #[145, 110] }, type := 138, pos := "halideref3.go:37", after := #[⟨4, .data⟩, ⟨5, .data⟩, ⟨3, .chain⟩], guard := none }
def oA6_7 : Oper := { dst := some 14, op := .call { callee := .value (.func 112), args := #[.tmp 10, .tmp 13], argTypes := #[138, 138] }, type := 138, pos := "halideref3.go:37", after := #[⟨3, .data⟩, ⟨6, .data⟩, ⟨6, .chain⟩], guard := none }
def oA6_8 : Oper := { dst := some 15, op := .call { callee := .value (.func 101), args := #[.tmp 7, .tmp 14], argTypes := #[145, 138] }, type := 110, pos := "halideref3.go:37", after := #[⟨0, .data⟩, ⟨7, .data⟩, ⟨7, .chain⟩], guard := none }
def oA6_9 : Oper := { dst := some 4, op := .assign (.tmp 15), type := 110, pos := "halideref3.go:37", after := #[⟨8, .data⟩, ⟨8, .chain⟩, ⟨0, .phase⟩, ⟨1, .phase⟩, ⟨2, .phase⟩, ⟨3, .phase⟩, ⟨4, .phase⟩, ⟨5, .phase⟩, ⟨6, .phase⟩, ⟨7, .phase⟩, ⟨8, .phase⟩], guard := none }
def opsA6 : List Oper := [oA6_0, oA6_1, oA6_2, oA6_3, oA6_4, oA6_5, oA6_6, oA6_7, oA6_8, oA6_9]
def sA6 : List Nat := [7, 8, 9, 10, 11, 12, 13, 14, 15, 4]
def spA6 (A B Vf : Nat) : List Spec := [spV formV, spV formV, spV (.int .u64 (A : Nat)), numD (numOf Ieee.double A), spV formV, spV (.int .u64 (B : Nat)), numD (numOf Ieee.double B), numD (plusR (numOf Ieee.double A) (numOf Ieee.double B)), spV (.int .u64 (add64V A B : Nat)), spV (.int .u64 (add64V A B : Nat))]
structure EnvA6 (a0 : Act) (w : World) (A B Vf : Nat) : Prop where
  h0 : a0.tmps[0]? = some (.int .u64 (A : Nat))
  h1 : a0.tmps[1]? = some (.int .u64 (B : Nat))
  h5 : a0.tmps[5]? = some (ptrV Vf)
  fb : FBox w Vf
  lA : A < 18446744073709551616
  lB : B < 18446744073709551616
def skA6 (i : Nat) : Bool := [].contains i
theorem yA6_0 {a0 : Act} {w : World} {A B Vf : Nat} (E : EnvA6 a0 w A B Vf) {R : Exit → Act → World → Prop} {a : Act} {x : World} (q : Q w x) (oth : ∀ j, j ∉ sA6 → a.tmps[j]? = a0.tmps[j]?) (dep : ∀ ed ∈ oA6_0.after, Region.binds .any ed = true → ∀ t', sA6[ed.on]? = some t' → ∃ v, a.tmps[t']? = some v ∧ specAt (spA6 A B Vf) ed.on v x) : Yld Tryz.prog R oA6_0 a x 7 (specAt (spA6 A B Vf) 0) := by
  exact yld_run (x' := x) rfl (run_form (tmp_eval ((oth 5 (by decide)).trans E.h5)) (E.fb.next q)) (Q.refl x) rfl
theorem yA6_1 {a0 : Act} {w : World} {A B Vf : Nat} (E : EnvA6 a0 w A B Vf) {R : Exit → Act → World → Prop} {a : Act} {x : World} (q : Q w x) (oth : ∀ j, j ∉ sA6 → a.tmps[j]? = a0.tmps[j]?) (dep : ∀ ed ∈ oA6_1.after, Region.binds .any ed = true → ∀ t', sA6[ed.on]? = some t' → ∃ v, a.tmps[t']? = some v ∧ specAt (spA6 A B Vf) ed.on v x) : Yld Tryz.prog R oA6_1 a x 8 (specAt (spA6 A B Vf) 1) := by
  exact yld_run (x' := x) rfl (run_form (tmp_eval ((oth 5 (by decide)).trans E.h5)) (E.fb.next q)) (Q.refl x) rfl
theorem yA6_2 {a0 : Act} {w : World} {A B Vf : Nat} (E : EnvA6 a0 w A B Vf) {R : Exit → Act → World → Prop} {a : Act} {x : World} (q : Q w x) (oth : ∀ j, j ∉ sA6 → a.tmps[j]? = a0.tmps[j]?) (dep : ∀ ed ∈ oA6_2.after, Region.binds .any ed = true → ∀ t', sA6[ed.on]? = some t' → ∃ v, a.tmps[t']? = some v ∧ specAt (spA6 A B Vf) ed.on v x) : Yld Tryz.prog R oA6_2 a x 9 (specAt (spA6 A B Vf) 2) := by
  exact yld_move ((oth 0 (by decide)).trans E.h0) rfl
theorem yA6_3 {a0 : Act} {w : World} {A B Vf : Nat} (E : EnvA6 a0 w A B Vf) {R : Exit → Act → World → Prop} {a : Act} {x : World} (q : Q w x) (oth : ∀ j, j ∉ sA6 → a.tmps[j]? = a0.tmps[j]?) (dep : ∀ ed ∈ oA6_3.after, Region.binds .any ed = true → ∀ t', sA6[ed.on]? = some t' → ∃ v, a.tmps[t']? = some v ∧ specAt (spA6 A B Vf) ed.on v x) : Yld Tryz.prog R oA6_3 a x 10 (specAt (spA6 A B Vf) 3) := by
  obtain ⟨v1, t1, f1⟩ := dep ⟨1, .data⟩ (by simp [oA6_3]) rfl 8 rfl
  have f1 : v1 = formV := f1
  subst f1
  obtain ⟨v2, t2, f2⟩ := dep ⟨2, .data⟩ (by simp [oA6_3]) rfl 9 rfl
  have f2 : v2 = (.int .u64 (A : Nat)) := f2
  subst f2
  refine yld_call (enters_of Tryz.func111 (by kernel_rfl) rfl) (args2 t1 t2) ((of64_any A x E.lA).mono ?_)
  rintro y x' ⟨v, rfl, h, q'⟩
  exact ⟨v, rfl, q', h⟩
theorem yA6_4 {a0 : Act} {w : World} {A B Vf : Nat} (E : EnvA6 a0 w A B Vf) {R : Exit → Act → World → Prop} {a : Act} {x : World} (q : Q w x) (oth : ∀ j, j ∉ sA6 → a.tmps[j]? = a0.tmps[j]?) (dep : ∀ ed ∈ oA6_4.after, Region.binds .any ed = true → ∀ t', sA6[ed.on]? = some t' → ∃ v, a.tmps[t']? = some v ∧ specAt (spA6 A B Vf) ed.on v x) : Yld Tryz.prog R oA6_4 a x 11 (specAt (spA6 A B Vf) 4) := by
  exact yld_run (x' := x) rfl (run_form (tmp_eval ((oth 5 (by decide)).trans E.h5)) (E.fb.next q)) (Q.refl x) rfl
theorem yA6_5 {a0 : Act} {w : World} {A B Vf : Nat} (E : EnvA6 a0 w A B Vf) {R : Exit → Act → World → Prop} {a : Act} {x : World} (q : Q w x) (oth : ∀ j, j ∉ sA6 → a.tmps[j]? = a0.tmps[j]?) (dep : ∀ ed ∈ oA6_5.after, Region.binds .any ed = true → ∀ t', sA6[ed.on]? = some t' → ∃ v, a.tmps[t']? = some v ∧ specAt (spA6 A B Vf) ed.on v x) : Yld Tryz.prog R oA6_5 a x 12 (specAt (spA6 A B Vf) 5) := by
  exact yld_move ((oth 1 (by decide)).trans E.h1) rfl
theorem yA6_6 {a0 : Act} {w : World} {A B Vf : Nat} (E : EnvA6 a0 w A B Vf) {R : Exit → Act → World → Prop} {a : Act} {x : World} (q : Q w x) (oth : ∀ j, j ∉ sA6 → a.tmps[j]? = a0.tmps[j]?) (dep : ∀ ed ∈ oA6_6.after, Region.binds .any ed = true → ∀ t', sA6[ed.on]? = some t' → ∃ v, a.tmps[t']? = some v ∧ specAt (spA6 A B Vf) ed.on v x) : Yld Tryz.prog R oA6_6 a x 13 (specAt (spA6 A B Vf) 6) := by
  obtain ⟨v4, t4, f4⟩ := dep ⟨4, .data⟩ (by simp [oA6_6]) rfl 11 rfl
  have f4 : v4 = formV := f4
  subst f4
  obtain ⟨v5, t5, f5⟩ := dep ⟨5, .data⟩ (by simp [oA6_6]) rfl 12 rfl
  have f5 : v5 = (.int .u64 (B : Nat)) := f5
  subst f5
  refine yld_call (enters_of Tryz.func111 (by kernel_rfl) rfl) (args2 t4 t5) ((of64_any B x E.lB).mono ?_)
  rintro y x' ⟨v, rfl, h, q'⟩
  exact ⟨v, rfl, q', h⟩
theorem yA6_7 {a0 : Act} {w : World} {A B Vf : Nat} (E : EnvA6 a0 w A B Vf) {R : Exit → Act → World → Prop} {a : Act} {x : World} (q : Q w x) (oth : ∀ j, j ∉ sA6 → a.tmps[j]? = a0.tmps[j]?) (dep : ∀ ed ∈ oA6_7.after, Region.binds .any ed = true → ∀ t', sA6[ed.on]? = some t' → ∃ v, a.tmps[t']? = some v ∧ specAt (spA6 A B Vf) ed.on v x) : Yld Tryz.prog R oA6_7 a x 14 (specAt (spA6 A B Vf) 7) := by
  obtain ⟨v3, t3, f3⟩ := dep ⟨3, .data⟩ (by simp [oA6_7]) rfl 10 rfl
  have f3 : (numD (numOf Ieee.double A)).p v3 x := f3
  obtain ⟨v6, t6, f6⟩ := dep ⟨6, .data⟩ (by simp [oA6_7]) rfl 13 rfl
  have f6 : (numD (numOf Ieee.double B)).p v6 x := f6
  refine yld_call (enters_of Tryz.func112 (by kernel_rfl) rfl) (args2 t3 t6) ((plusnum_any _ _ _ _ x f3 f6 (dblR_small (dblR_of A)) (dblR_small (dblR_of B))).mono ?_)
  rintro y x' ⟨v, rfl, h, q'⟩
  exact ⟨v, rfl, q', h⟩
theorem yA6_8 {a0 : Act} {w : World} {A B Vf : Nat} (E : EnvA6 a0 w A B Vf) {R : Exit → Act → World → Prop} {a : Act} {x : World} (q : Q w x) (oth : ∀ j, j ∉ sA6 → a.tmps[j]? = a0.tmps[j]?) (dep : ∀ ed ∈ oA6_8.after, Region.binds .any ed = true → ∀ t', sA6[ed.on]? = some t' → ∃ v, a.tmps[t']? = some v ∧ specAt (spA6 A B Vf) ed.on v x) : Yld Tryz.prog R oA6_8 a x 15 (specAt (spA6 A B Vf) 8) := by
  obtain ⟨v0, t0, f0⟩ := dep ⟨0, .data⟩ (by simp [oA6_8]) rfl 7 rfl
  have f0 : v0 = formV := f0
  subst f0
  obtain ⟨v7, t7, f7⟩ := dep ⟨7, .data⟩ (by simp [oA6_8]) rfl 14 rfl
  have f7 : (numD (plusR (numOf Ieee.double A) (numOf Ieee.double B))).p v7 x := f7
  have hr := round64_any _ _ x f7 (dbl_fits (dblR_of A) (dblR_of B))
  rw [add64_told] at hr
  refine yld_call (enters_of Tryz.func101 (by kernel_rfl) rfl) (args2 t0 t7) (hr.mono ?_)
  rintro y x' ⟨rfl, q'⟩
  exact ⟨_, rfl, q', rfl⟩
theorem yA6_9 {a0 : Act} {w : World} {A B Vf : Nat} (E : EnvA6 a0 w A B Vf) {R : Exit → Act → World → Prop} {a : Act} {x : World} (q : Q w x) (oth : ∀ j, j ∉ sA6 → a.tmps[j]? = a0.tmps[j]?) (dep : ∀ ed ∈ oA6_9.after, Region.binds .any ed = true → ∀ t', sA6[ed.on]? = some t' → ∃ v, a.tmps[t']? = some v ∧ specAt (spA6 A B Vf) ed.on v x) : Yld Tryz.prog R oA6_9 a x 4 (specAt (spA6 A B Vf) 9) := by
  obtain ⟨v8, t8, f8⟩ := dep ⟨8, .data⟩ (by simp [oA6_9]) rfl 15 rfl
  have f8 : v8 = (.int .u64 (add64V A B : Nat)) := f8
  subst f8
  exact yld_run (x' := x) rfl (by rw [← tmp_eval t8]; rfl) (Q.refl x) rfl
theorem hopA6 {a0 : Act} {w : World} {A B Vf : Nat} (E : EnvA6 a0 w A B Vf) {R : Exit → Act → World → Prop} : ∀ (i t : Nat) (o : Oper) (a : Act) (x : World), skA6 i = false → sA6[i]? = some t → opsA6[i]? = some o → Q w x → (∀ j, j ∉ sA6 → a.tmps[j]? = a0.tmps[j]?) → (∀ ed ∈ o.after, Region.binds .any ed = true → ∀ t', sA6[ed.on]? = some t' → ∃ v, a.tmps[t']? = some v ∧ specAt (spA6 A B Vf) ed.on v x) → Yld Tryz.prog R o a x t (specAt (spA6 A B Vf) i)
  | 0, t, o, a, x, hi, ht, ho, q, oth, dep => by
    have e1 : oA6_0 = o := Option.some.inj ho
    have e2 : 7 = t := Option.some.inj ht
    subst e1 e2
    exact yA6_0 E q oth dep
  | 1, t, o, a, x, hi, ht, ho, q, oth, dep => by
    have e1 : oA6_1 = o := Option.some.inj ho
    have e2 : 8 = t := Option.some.inj ht
    subst e1 e2
    exact yA6_1 E q oth dep
  | 2, t, o, a, x, hi, ht, ho, q, oth, dep => by
    have e1 : oA6_2 = o := Option.some.inj ho
    have e2 : 9 = t := Option.some.inj ht
    subst e1 e2
    exact yA6_2 E q oth dep
  | 3, t, o, a, x, hi, ht, ho, q, oth, dep => by
    have e1 : oA6_3 = o := Option.some.inj ho
    have e2 : 10 = t := Option.some.inj ht
    subst e1 e2
    exact yA6_3 E q oth dep
  | 4, t, o, a, x, hi, ht, ho, q, oth, dep => by
    have e1 : oA6_4 = o := Option.some.inj ho
    have e2 : 11 = t := Option.some.inj ht
    subst e1 e2
    exact yA6_4 E q oth dep
  | 5, t, o, a, x, hi, ht, ho, q, oth, dep => by
    have e1 : oA6_5 = o := Option.some.inj ho
    have e2 : 12 = t := Option.some.inj ht
    subst e1 e2
    exact yA6_5 E q oth dep
  | 6, t, o, a, x, hi, ht, ho, q, oth, dep => by
    have e1 : oA6_6 = o := Option.some.inj ho
    have e2 : 13 = t := Option.some.inj ht
    subst e1 e2
    exact yA6_6 E q oth dep
  | 7, t, o, a, x, hi, ht, ho, q, oth, dep => by
    have e1 : oA6_7 = o := Option.some.inj ho
    have e2 : 14 = t := Option.some.inj ht
    subst e1 e2
    exact yA6_7 E q oth dep
  | 8, t, o, a, x, hi, ht, ho, q, oth, dep => by
    have e1 : oA6_8 = o := Option.some.inj ho
    have e2 : 15 = t := Option.some.inj ht
    subst e1 e2
    exact yA6_8 E q oth dep
  | 9, t, o, a, x, hi, ht, ho, q, oth, dep => by
    have e1 : oA6_9 = o := Option.some.inj ho
    have e2 : 4 = t := Option.some.inj ht
    subst e1 e2
    exact yA6_9 E q oth dep
  | i + 10, t, o, a, x, hi, ht, ho, q, oth, dep => by cases ho
theorem keyA6 : ∀ i, i < 10 → ((opsA6[i]?).bind (fun o : Oper => o.guard) = none ∧ skA6 i = false) := by decide +kernel
theorem hguA6 {A B Vf : Nat} : ∀ (i : Nat) (o : Oper) (g : Nat) (b : Bool), opsA6[i]? = some o → o.guard = some (g, b) → ∀ v x, specAt (spA6 A B Vf) g v x → (v = .bool b ↔ skA6 i = false) := by
  intro i o g b ho hg v x hf
  have h := keyA6 i (List.getElem?_eq_some_iff.1 ho).1
  rw [ho] at h
  simp only [Option.bind_some] at h
  rw [hg] at h
  rcases h with ⟨h, _⟩
  · cases h
theorem hgnA6 : ∀ (i : Nat) (o : Oper), opsA6[i]? = some o → o.guard = none → skA6 i = false := by
  intro i o ho hg
  have h := keyA6 i (List.getElem?_eq_some_iff.1 ho).1
  rw [ho] at h
  simp only [Option.bind_some] at h
  rw [hg] at h
  rcases h with ⟨_, h⟩
  · exact h
theorem hskA6 {A B Vf : Nat} : ∀ (i : Nat) (x : World), skA6 i = true → specAt (spA6 A B Vf) i undef x := by
  intro i x h
  cases h
theorem regionA6 {id : Nat} {l : List Oper} {R : Exit → Act → World → Prop} {a0 : Act} {w : World} {A B Vf : Nat} (hl : l = opsA6) (hsz : a0.tmps.size = 16) (E : EnvA6 a0 w A B Vf)
    (hR : ∀ a x, Q w x → a.defers = a0.defers → a.tmps[4]? = some (.int .u64 (add64V A B : Nat)) → R .normal a x) :
    (Code.region id l.toArray true).wp Tryz.prog R a0 w := by
  subst hl
  refine wp_region_factsS sA6 (specAt (spA6 A B Vf)) skA6 (by kernel_rfl) (by decide +kernel) (by decide) (fun t ht => ?_) specAt.next hguA6 hgnA6 hskA6 (hopA6 E) (fun a x q size defers other facts => ?_)
  · rw [hsz]
    revert t
    decide
  · obtain ⟨v, tl, fl⟩ := facts 9 4 rfl
    have fl : v = .int .u64 (add64V A B : Nat) := fl
    subst fl
    exact ⟨hR a x q defers tl⟩
theorem wideW_lt (a : Nat) : wideW a < 18446744073709551616 := by
  unfold wideW wideN; split
  · decide
  · exact write64_lt _
/-- The first one of a sum in binary64. -/
theorem first64 {a : Nat} (ha : a < 4294967296) : add64V 9223372036854775808 (wideW a) = wideW a := by
  cases hn : nanN a
  · have hw : wideW a = wideN a := by unfold wideW; rw [hn]; rfl
    rw [hw]
    rcases cases32 hn with fa | fa
    · obtain ⟨w1, w2, w3⟩ := wide_fin fa
      have h := add_fin (x := 9223372036854775808) (y := wideN a) (by decide) w1
      have hz : sval64 9223372036854775808 = 0 := by decide +kernel
      have hs : sgn64 9223372036854775808 = true := by decide
      rw [hz, hs, w2, w3, Int.zero_add] at h
      have e : wordOf (sg true (sgn32 a) (sampleZ a)) (sampleZ a) = wideN a := by
        rw [wide_units fa]
        congr 1
        by_cases z : sampleZ a = 0
        · unfold sg; rw [if_pos z]; rfl
        · rw [sg_of z]; exact (signed_sign z).symm
      rw [e] at h
      have h' : ((Ieee.double.read 9223372036854775808).sum (Ieee.double.read (wideN a))).map Ieee.double.write = some (wideN a) := h
      unfold add64V
      cases hd : (Ieee.double.read 9223372036854775808).sum (Ieee.double.read (wideN a)) with
      | none => rw [hd] at h'; cases h'
      | some d =>
        rw [hd] at h'
        rw [told64_some (sum_num hd)]
        exact Option.some.inj h'
    · unfold add64V
      rw [wide_read_inf fa]
      have e : (Ieee.double.read 9223372036854775808).sum (.infinity (sgn32 a)) = some (.infinity (sgn32 a)) := by
        rw [show Ieee.double.read 9223372036854775808 = .number true 0 (-1074) by decide +kernel]; rfl
      rw [e, told64_some rfl, write_inf, wide_inf fa]
  · have hw : wideW a = 9221120237041090560 := by unfold wideW; rw [hn]; rfl
    rw [hw]
    decide +kernel
end Go.Proofs.YtieojgblamkgoaaGreatDoor

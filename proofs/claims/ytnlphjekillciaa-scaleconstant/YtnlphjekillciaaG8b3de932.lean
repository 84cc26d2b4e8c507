/- Planes: what they are, and how their samples lie in memory. -/
import Derived.Test.YtnlphjekillciaaGed4dad24
import Derived.Laws.MakeOwn
import Derived.Test.YtnlphjekillciaaG316bc752
namespace Go.Proofs.Ytnlphjekillciaa
open Go.RowKit
set_option linter.unusedVariables false

/-- Samples in memory. -/
def USl (w : World) (v : Value) (xs : List Nat) : Prop := (∃ g o cap, v = .slice (some ⟨g, o, none⟩) xs.length cap ∧ xs.length ≤ cap ∧ ∀ i, i < xs.length → w.cell? ⟨g, o + i, none⟩ = some (.int .u32 (xs.getD i 0 : Nat))) ∨ (∃ a c, v = .slice a 0 c ∧ xs = [])
theorem USl.next {w w' : World} {v : Value} {l : List Nat} (h : USl w v l) (q : Q w w') : USl w' v l := by
  rcases h with ⟨g, o, cap, h1, h2, h3⟩ | h
  · exact Or.inl ⟨g, o, cap, h1, h2, fun i hi => q.cell (h3 i hi)⟩
  · exact Or.inr h
theorem USl.form {w : World} {v : Value} {l : List Nat} (h : USl w v l) : ∃ a cap, v = .slice a l.length cap := by
  rcases h with ⟨g, o, cap, h1, h2, h3⟩ | ⟨a, c, h1, h2⟩
  · exact ⟨_, _, h1⟩
  · rw [h2]; exact ⟨_, _, h1⟩
/-- Samples that lie somewhere. -/
def UIs (w : World) (g o : Nat) (xs : List Nat) : Prop := ∀ i, i < xs.length → w.cell? ⟨g, o + i, none⟩ = some (.int .u32 (xs.getD i 0 : Nat))
theorem UIs.next {w w' : World} {g o : Nat} {l : List Nat} (h : UIs w g o l) (q : Q w w') : UIs w' g o l := fun i hi => q.cell (h i hi)
theorem UIs.usl {w : World} {g o : Nat} {l : List Nat} {cap : Nat} (h : UIs w g o l) (hc : l.length ≤ cap) : USl w (.slice (some ⟨g, o, none⟩) l.length cap) l := Or.inl ⟨g, o, cap, rfl, hc, h⟩
/-- A slice of samples that is not empty lies somewhere. -/
theorem USl.some {w : World} {v : Value} {l : List Nat} (h : USl w v l) (h1 : 1 ≤ l.length) : ∃ g o cap, v = .slice (some ⟨g, o, none⟩) l.length cap ∧ l.length ≤ cap ∧ UIs w g o l := by
  rcases h with ⟨g, o, cap, h1, h2, h3⟩ | ⟨a, c, h1, h2⟩
  · exact ⟨g, o, cap, h1, h2, h3⟩
  · subst h2; exact absurd h1 (by simp at *)

/-- A plane told by its places. -/
def tab (W H : Nat) (G : Nat → Nat → Nat) : List Nat := (List.range (W * H)).map fun i => G (i % W) (i / W)
theorem tab_length (W H : Nat) (G : Nat → Nat → Nat) : (tab W H G).length = W * H := by simp [tab]
theorem tab_get {W H i : Nat} {G : Nat → Nat → Nat} (h : i < W * H) : (tab W H G).getD i 0 = G (i % W) (i / W) := by
  unfold tab
  rw [List.getD_eq_getElem?_getD, List.getElem?_map, List.getElem?_range h]; rfl
theorem place_lt {W H x y : Nat} (hx : x < W) (hy : y < H) : y * W + x < W * H := by
  have : (y + 1) * W ≤ H * W := Nat.mul_le_mul_right _ hy
  rw [Nat.mul_comm W H]
  rw [Nat.succ_mul] at this
  omega
theorem place_mod {W x : Nat} (y : Nat) (hx : x < W) : (y * W + x) % W = x := by
  rw [Nat.add_comm, Nat.add_mul_mod_self_right, Nat.mod_eq_of_lt hx]
theorem place_div {W x : Nat} (y : Nat) (hx : x < W) : (y * W + x) / W = y := by
  rw [Nat.add_comm, Nat.add_mul_div_right _ _ (by omega), Nat.div_eq_of_lt hx]; omega
theorem row_lt {W H i : Nat} (h : i < W * H) : 0 < W ∧ i % W < W ∧ i / W < H := by
  have hW : 0 < W := by
    rcases Nat.eq_zero_or_pos W with g | g
    · subst g; rw [Nat.zero_mul] at h; omega
    · exact g
  exact ⟨hW, Nat.mod_lt _ hW, (Nat.div_lt_iff_lt_mul hW).2 (by rw [Nat.mul_comm]; exact h)⟩
/-- The sample at a place. -/
def smp (S : List Nat) (W x y : Nat) : Nat := S.getD (y * W + x) 0
theorem smp_tab {W H x y : Nat} {G : Nat → Nat → Nat} (hx : x < W) (hy : y < H) : smp (tab W H G) W x y = G x y := by
  unfold smp
  rw [tab_get (place_lt hx hy), place_mod y hx, place_div y hx]
theorem tab_ext {W H : Nat} {G G' : Nat → Nat → Nat} (h : ∀ x y, x < W → y < H → G x y = G' x y) : tab W H G = tab W H G' := by
  unfold tab
  apply List.map_congr_left
  intro i hi
  rw [List.mem_range] at hi
  obtain ⟨_, h1, h2⟩ := row_lt hi
  exact h _ _ h1 h2
theorem list_ext {a b : List Nat} (hl : a.length = b.length) (h : ∀ i, i < a.length → a.getD i 0 = b.getD i 0) : a = b := by
  apply List.ext_getElem hl
  intro i h1 h2
  have := h i h1
  rw [List.getD_eq_getElem?_getD, List.getD_eq_getElem?_getD, List.getElem?_eq_getElem h1, List.getElem?_eq_getElem h2] at this
  exact this
theorem tab_self {W H : Nat} {S : List Nat} (h : S.length = W * H) : tab W H (smp S W) = S := by
  apply list_ext (by rw [tab_length, h])
  intro i hi
  rw [tab_length] at hi
  rw [tab_get hi]
  unfold smp
  rw [Nat.mul_comm, Nat.div_add_mod]
theorem getD_lt {S : List Nat} {n : Nat} (hn : 0 < n) (h : ∀ i, S.getD i 0 < n) (W x y : Nat) : smp S W x y < n := h _
theorem tab_lt {W H n : Nat} {G : Nat → Nat → Nat} (hn : 0 < n) (h : ∀ x y, G x y < n) (i : Nat) : (tab W H G).getD i 0 < n := by
  by_cases hi : i < W * H
  · rw [tab_get hi]; exact h _ _
  · rw [List.getD_eq_getElem?_getD, List.getElem?_eq_none (by rw [tab_length]; omega)]; exact hn

/-- A size that may be. -/
structure Size (a b : Nat) : Prop where
  a1 : 1 ≤ a
  a2 : a ≤ 1024
  b1 : 1 ≤ b
  b2 : b ≤ 1024
  ab : a * b ≤ 65536
theorem Size.swap {a b : Nat} (h : Size a b) : Size b a := ⟨h.b1, h.b2, h.a1, h.a2, by rw [Nat.mul_comm]; exact h.ab⟩
theorem Size.pos {a b : Nat} (h : Size a b) : 1 ≤ a * b := Nat.mul_pos h.a1 h.b1
/-- A size that may be, of any two numbers. -/
def SizeB (W H : Int) : Prop := 1 ≤ W ∧ W ≤ 1024 ∧ 1 ≤ H ∧ H ≤ 1024 ∧ W * H ≤ 65536
theorem SizeB.nat {W H : Int} (h : SizeB W H) : ∃ a b : Nat, W = a ∧ H = b ∧ Size a b := by
  obtain ⟨h1, h2, h3, h4, h5⟩ := h
  refine ⟨W.toNat, H.toNat, by omega, by omega, by omega, by omega, by omega, by omega, ?_⟩
  have e1 : ((W.toNat : Nat) : Int) = W := by omega
  have e2 : ((H.toNat : Nat) : Int) = H := by omega
  have : ((W.toNat * H.toNat : Nat) : Int) ≤ 65536 := by rw [Int.natCast_mul, e1, e2]; exact h5
  omega
theorem Size.b {a b : Nat} (h : Size a b) : SizeB a b := by
  refine ⟨by have := h.a1; omega, by have := h.a2; omega, by have := h.b1; omega, by have := h.b2; omega, ?_⟩
  have := h.ab
  rw [← Int.natCast_mul]
  omega

/-- How far a list is written: what is done is as L tells. -/
structure Fill (w wr : World) (b n : Nat) (L : Nat → Nat) (k : Nat) : Prop where
  q : Q w wr
  new : w.heap.size ≤ b
  done : ∀ i, i < k → wr.cell? ⟨b, i, none⟩ = some (.int .u32 (L i : Nat))
  room : ∀ j, j < n → ∃ v, wr.cell? ⟨b, j, none⟩ = some v
  free : ∀ j, wr.frozen? ⟨b, j, none⟩ = false
theorem Fill.next {w wr wx : World} {b n k : Nat} {L : Nat → Nat} (h : Fill w wr b n L k) (q : Q wr wx) : Fill w wx b n L k where
  q := h.q.trans q
  new := h.new
  done := fun i hi => q.cell (h.done i hi)
  room := fun j hj => by obtain ⟨v, hv⟩ := h.room j hj; exact ⟨v, q.cell hv⟩
  free := fun j => by rw [q.2]; exact h.free j
theorem Fill.step {w wr : World} {b n k : Nat} {L : Nat → Nat} (h : Fill w wr b n L k) (hk : k < n) {v : Nat} (hv : v = L k) : Fill w (wr.setCell ⟨b, k, none⟩ (.int .u32 (v : Nat))) b n L (k + 1) := by
  subst hv
  obtain ⟨u, hu⟩ := h.room k hk
  refine ⟨h.q.set h.new _, h.new, fun i hi => ?_, fun j hj => ?_, fun j => ?_⟩
  · by_cases e : i = k
    · subst e; exact World.cell?_setCell_same _ _ _ hu
    · rw [World.cell?_setCell_other _ _ _ _ (by simp <;> omega)]; exact h.done i (by omega)
  · by_cases e : j = k
    · subst e; exact ⟨_, World.cell?_setCell_same _ _ _ hu⟩
    · rw [World.cell?_setCell_other _ _ _ _ (by simp <;> omega)]; exact h.room j hj
  · rw [World.frozen?_setCell]; exact h.free j
/-- A list in memory of its own. -/
structure Own (w wr : World) (b : Nat) (S : List Nat) : Prop where
  q : Q w wr
  new : w.heap.size ≤ b
  cells : UIs wr b 0 S
  free : ∀ j, wr.frozen? ⟨b, j, none⟩ = false
theorem Own.next {w wr wx : World} {b : Nat} {S : List Nat} (h : Own w wr b S) (q : Q wr wx) : Own w wx b S := ⟨h.q.trans q, h.new, h.cells.next q, fun j => by rw [q.2]; exact h.free j⟩
theorem Fill.own {w wr : World} {b n : Nat} {L : Nat → Nat} (h : Fill w wr b n L n) {S : List Nat} (hn : S.length = n) (hS : ∀ i, i < n → S.getD i 0 = L i) : Own w wr b S := by
  refine ⟨h.q, h.new, fun i hi => ?_, h.free⟩
  rw [hn] at hi
  rw [Nat.zero_add, h.done i hi, hS i hi]

theorem info_of {P : Program} {e : TypeId} {n b : Nat} {z : Value} (h1 : (P.info? e).map (fun i => (i.size, i.bytes)) = some (n, b)) (h2 : (P.info? e).bind (·.zero) = some z) : ∃ i, P.info? e = some i ∧ i.size = n ∧ i.bytes = b ∧ i.zero = some z := by
  cases h : P.info? e with
  | none => rw [h] at h1; cases h1
  | some i =>
    rw [h] at h1 h2
    have h1 : some (i.size, i.bytes) = some (n, b) := h1
    have h2 : i.zero = some z := h2
    injection h1 with h1
    injection h1 with h3 h4
    exact ⟨i, rfl, h3, h4, h2⟩
theorem u32Info : ∃ i, Try.prog.info? 30 = some i ∧ i.size = 1 ∧ i.bytes = 4 ∧ i.zero = some (.int .u32 0) :=
  info_of (by kernel_rfl) (by kernel_rfl)
/-- Making a list of noughts. -/
theorem make_u32 (n : Nat) (hn : n ≤ 1099511627776) : ∃ M : Array Value, (∀ w : World, (Instr.makeSlice 23 (.int .i64 (n : Int)) (.int .i64 (n : Int))).run Try.prog w = .ok (.slice (some ⟨w.heap.size, 0, none⟩) n n) (w.alloc (.cells M 30))) ∧
    ∀ w : World, Fill w (w.alloc (.cells M 30)) w.heap.size n (fun _ => 0) n := by
  obtain ⟨i, i1, i2, i3, i4⟩ := u32Info
  refine ⟨madeCells (Value.int .u32 0).cells (n * 1), fun w => ?_, fun w => ?_⟩
  · have := run_make (P := Try.prog) w 23 30 i _ Try.underlying23 i1 i4 .i64 .i64 n n (by omega) (by omega) (by rw [i3]; omega) (by omega)
    rw [i2] at this
    simp only [Int.toNat_natCast] at this
    exact this
  · have hb : (w.alloc (.cells (madeCells (Value.int .u32 0).cells (n * 1)) 30)).heap[w.heap.size]? = some (.cells (madeCells (Value.int .u32 0).cells (n * 1)) 30 (0, 0)) := heap_alloc_new w _
    have key : ∀ j, j < n → (w.alloc (.cells (madeCells (Value.int .u32 0).cells (n * 1)) 30)).cell? ⟨w.heap.size, j, none⟩ = some (.int .u32 0) := fun j hj => by
      rw [cell_of_row _ _ j _ 30 (0, 0) hb]
      unfold madeCells
      simp [Value.cells, hj, Nat.mod_one]
    exact ⟨(Q.refl w).cells _ _, Nat.le_refl _, fun i hi => key i hi, fun j hj => ⟨_, key j hj⟩, fun j => frozen_of_row _ _ _ _ _ hb⟩
end Go.Proofs.Ytnlphjekillciaa
/- What operations tell, as a list of properties that last. -/
namespace Go.Proofs.Ytnlphjekillciaa
open Go.RowKit
set_option linter.unusedVariables false
set_option linter.unusedSimpArgs false

structure Spec where
  p : Value → World → Prop
  st : ∀ {v : Value} {x x' : World}, p v x → Q x x' → p v x'
def spV (u : Value) : Spec := ⟨fun v _ => v = u, fun h _ => h⟩
def specAt (l : List Spec) (i : Nat) (v : Value) (x : World) : Prop := match l[i]? with
  | some s => s.p v x
  | none => False
theorem specAt.next {l : List Spec} (i : Nat) (v : Value) (x x' : World) (h : specAt l i v x) (q : Q x x') : specAt l i v x' := by
  unfold specAt at h ⊢
  cases g : l[i]? with
  | none => rw [g] at h; exact h
  | some s => rw [g] at h; exact s.st h q
section
variable {P : Program} {ρ : Operand → Value} {x : World} {d : Option Tmp} {ty : TypeId} {ps : String} {af : Array Edge} {g : Option (Nat × Bool)}
theorem run_sub64 {j k : Nat} {m n r : Int} (h : ρ (.tmp j) = .int .i64 m) (h' : ρ (.tmp k) = .int .i64 n) (hr : IntKind.i64.wrap (m - n) = r) : (execOp ρ { dst := d, op := .binOp .sub 3 (.tmp j) (.tmp k) 3, type := ty, pos := ps, after := af, guard := g }).run Try.prog x = .ok (.value (.int .i64 r)) x := by
  simp [execOp, h, h', go_sem, hr]
theorem run_leq64 {j : Nat} {m n : Int} (h : ρ (.tmp j) = .int .i64 m) (hk : ρ (.const (.int .i64 n)) = .int .i64 n) : (execOp ρ { dst := d, op := .binOp .leq 3 (.tmp j) (.const (.int .i64 n)) 3, type := ty, pos := ps, after := af, guard := g }).run Try.prog x = .ok (.value (.bool (decide (m ≤ n)))) x := by
  simp [execOp, h, hk, go_sem]
end
end Go.Proofs.Ytnlphjekillciaa
/- A region that draws its order and stores nothing: each operation with a fact that lasts; those that are guarded are known to be let through, or known to be left out. -/
namespace Go.Proofs.Ytnlphjekillciaa
open Go.RowKit
set_option linter.unusedVariables false
set_option linter.unusedSimpArgs false

theorem dst_mem {l : List Oper} {s : List Nat} (hs : l.map (fun o : Oper => o.dst) = s.map some) {k j : Nat} (h : dstOf l k = some j) : s[k]? = some j := by
  unfold dstOf at h
  have h1 : (l.map (fun o : Oper => o.dst))[k]? = (s.map some)[k]? := by rw [hs]
  rw [List.getElem?_map, List.getElem?_map] at h1
  cases hl : l[k]? with
  | none => rw [hl] at h; cases h
  | some o =>
    rw [hl] at h h1
    cases hk : s[k]? with
    | none => rw [hk] at h1; cases h1
    | some t =>
      rw [hk] at h1
      have h2 : some o.dst = some (some t) := h1
      injection h2 with h2
      have h3 : o.dst = some j := h
      rw [h2] at h3
      injection h3 with h3
      rw [h3]
theorem dst_of {l : List Oper} {s : List Nat} (hs : l.map (fun o : Oper => o.dst) = s.map some) {k j : Nat} (h : s[k]? = some j) : dstOf l k = some j := by
  have h1 : (l.map (fun o : Oper => o.dst))[k]? = (s.map some)[k]? := by rw [hs]
  rw [List.getElem?_map, List.getElem?_map, h] at h1
  unfold dstOf
  cases hl : l[k]? with
  | none => rw [hl] at h1; cases h1
  | some o =>
    rw [hl] at h1
    have h2 : some o.dst = some (some j) := h1
    injection h2
set_option maxHeartbeats 1000000 in
theorem wp_region_factsS {P : Program} {id : Nat} {R : Exit → Act → World → Prop} {a0 : Act} {w : World} {l : List Oper} (s : List Nat) (F : Nat → Value → World → Prop) (skip : Nat → Bool)
    (hm : P.follows .mixedOrders = true) (hB : regS l = true) (hs : l.map (fun o : Oper => o.dst) = s.map some) (hmax : ∀ t ∈ s, t < a0.tmps.size)
    (hst : ∀ i v x x', F i v x → Q x x' → F i v x')
    (hgu : ∀ (i : Nat) (o : Oper) (g : Nat) (b : Bool), l[i]? = some o → o.guard = some (g, b) → ∀ v x, F g v x → (v = .bool b ↔ skip i = false))
    (hgn : ∀ (i : Nat) (o : Oper), l[i]? = some o → o.guard = none → skip i = false)
    (hsk : ∀ i x, skip i = true → F i undef x)
    (hop : ∀ i t o (a : Act) x, skip i = false → s[i]? = some t → l[i]? = some o → Q w x → (∀ j, j ∉ s → a.tmps[j]? = a0.tmps[j]?) → (∀ ed ∈ o.after, Region.binds .any ed = true → ∀ t', s[ed.on]? = some t' → ∃ v, a.tmps[t']? = some v ∧ F ed.on v x) → Yld P R o a x t (F i))
    (hend : ∀ (a : Act) x, Q w x → a.tmps.size = a0.tmps.size → a.defers = a0.defers → (∀ j, j ∉ s → a.tmps[j]? = a0.tmps[j]?) → (∀ i t, s[i]? = some t → ∃ v, a.tmps[t]? = some v ∧ F i v x) → Shut (R .normal a x)) :
    (Code.region id l.toArray true).wp P R a0 w := by
  have oth : ∀ {a : Act}, (∀ j, (∀ k, dstOf l k ≠ some j) → a.tmps[j]? = a0.tmps[j]?) → ∀ j, j ∉ s → a.tmps[j]? = a0.tmps[j]? := fun h j hj => h j (fun k hk => hj (List.mem_of_getElem? (dst_mem hs hk)))
  refine wp_region_slots (fun done val x => Q w x ∧ ∀ i, done i = true → F i (val i) x) hm hB (fun i t h => hmax t (List.mem_of_getElem? (dst_mem hs h))) ⟨(Q.refl w).drew, fun i h => by cases h⟩ ?_ ?_ ?_
  · intro i o a x done val ho hd hdep I hoth hvals hg
    have hil : i < l.length := (List.getElem?_eq_some_iff.1 ho).1
    have hlen : l.length = s.length := by have := congrArg List.length hs; simpa using this
    obtain ⟨t, ht⟩ : ∃ t, s[i]? = some t := ⟨_, List.getElem?_eq_getElem (by omega)⟩
    have hdst : o.dst = some t := by rw [← dstOf_at ho]; exact dst_of hs ht
    have hski : skip i = false := by
      cases hgd : o.guard with
      | none => exact hgn i o ho hgd
      | some gb =>
        obtain ⟨g, b⟩ := gb
        obtain ⟨⟨ed, he, hb, hon⟩, _⟩ := (regS_at hB ho).1 g b hgd
        have hdone := hdep ed he hb
        rw [hon] at hdone
        exact (hgu i o g b ho hgd (val g) x (I.2 g hdone)).1 (hg g b hgd)
    have hrun := hop i t o a x hski ht ho I.1 (oth hoth) (fun ed he hb t' ht' => ⟨val ed.on, hvals ed.on t' (hdep ed he hb) (dst_of hs ht'), I.2 ed.on (hdep ed he hb)⟩)
    refine ⟨Oper.wp_mono ?_ hrun.out⟩
    rintro a' x' ⟨v, rfl, q', hf⟩
    refine ⟨v, by rw [hdst], I.1.trans q', fun j hj => ?_⟩
    by_cases e : j = i
    · subst e; rw [upd_eq]; exact hf
    · rw [upd_ne _ _ e] at hj ⊢
      exact hst _ _ _ _ (I.2 j hj) q'
  · intro i o x done val g b ho hd hdep I hgd hne
    have hsk' : skip i = true := by
      cases h : skip i with
      | true => rfl
      | false =>
        obtain ⟨⟨ed, he, hb, hon⟩, _⟩ := (regS_at hB ho).1 g b hgd
        have hdone := hdep ed he hb
        rw [hon] at hdone
        exact absurd ((hgu i o g b ho hgd (val g) x (I.2 g hdone)).2 h) hne
    refine ⟨I.1, fun j hj => ?_⟩
    by_cases e : j = i
    · subst e; rw [upd_eq]; exact hsk _ _ hsk'
    · rw [upd_ne _ _ e] at hj ⊢
      exact I.2 j hj
  · intro a x val I size defers other vals
    refine hend a x I.1 size defers (oth other) (fun i t ht => ⟨val i, vals i t (dst_of hs ht), I.2 i ?_⟩)
    have hlen : l.length = s.length := by have := congrArg List.length hs; simpa using this
    have := (List.getElem?_eq_some_iff.1 ht).1
    exact decide_eq_true (by omega)
end Go.Proofs.Ytnlphjekillciaa

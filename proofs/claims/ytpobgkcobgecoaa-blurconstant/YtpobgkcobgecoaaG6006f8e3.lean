/- Planes: what they are, and how their samples lie in memory. -/
import Derived.Test.YtpobgkcobgecoaaG7321c48a
import Derived.Laws.MakeOwn
import Derived.Test.YtpobgkcobgecoaaG18cca9d3
import Derived.Test.YtpobgkcobgecoaaG356ab323
namespace Go.Proofs.Ytpobgkcobgecoaa
open Go.RowKit
set_option linter.unusedVariables false

/-- Samples in memory. -/
def USl (w : World) (v : Value) (xs : List Nat) : Prop := (∃ g o cap, v = .slice (some ⟨g, o, none⟩) xs.length cap ∧ xs.length ≤ cap ∧ ∀ i, i < xs.length → w.cell? ⟨g, o + i, none⟩ = some (.int .u32 (xs.getD i 0 : Nat))) ∨ (∃ a c, v = .slice a 0 c ∧ xs = [])
theorem USl.next {w w' : World} {v : Value} {l : List Nat} (h : USl w v l) (q : Q w w') : USl w' v l := by
  rcases h with ⟨g, o, cap, h1, h2, h3⟩ | h
  · exact Or.inl ⟨g, o, cap, h1, h2, fun i hi => q.cell (h3 i hi)⟩
  · exact Or.inr h
theorem USl.form {w : World} {v : Value} {l : List Nat} (h : USl w v l) : ∃ a cap, v = .slice a l.length cap := by
  rcases h with ⟨g, o, cap, h1, h2, h3⟩ | ⟨a, c, h1, h2⟩
  · exact ⟨_, _, h1⟩
  · rw [h2]; exact ⟨_, _, h1⟩
/-- Samples that lie somewhere. -/
def UIs (w : World) (g o : Nat) (xs : List Nat) : Prop := ∀ i, i < xs.length → w.cell? ⟨g, o + i, none⟩ = some (.int .u32 (xs.getD i 0 : Nat))
theorem UIs.next {w w' : World} {g o : Nat} {l : List Nat} (h : UIs w g o l) (q : Q w w') : UIs w' g o l := fun i hi => q.cell (h i hi)
theorem UIs.usl {w : World} {g o : Nat} {l : List Nat} {cap : Nat} (h : UIs w g o l) (hc : l.length ≤ cap) : USl w (.slice (some ⟨g, o, none⟩) l.length cap) l := Or.inl ⟨g, o, cap, rfl, hc, h⟩
/-- A slice of samples that is not empty lies somewhere. -/
theorem USl.some {w : World} {v : Value} {l : List Nat} (h : USl w v l) (h1 : 1 ≤ l.length) : ∃ g o cap, v = .slice (some ⟨g, o, none⟩) l.length cap ∧ l.length ≤ cap ∧ UIs w g o l := by
  rcases h with ⟨g, o, cap, h1, h2, h3⟩ | ⟨a, c, h1, h2⟩
  · exact ⟨g, o, cap, h1, h2, h3⟩
  · subst h2; exact absurd h1 (by simp at *)

/-- A plane told by its places. -/
def tab (W H : Nat) (G : Nat → Nat → Nat) : List Nat := (List.range (W * H)).map fun i => G (i % W) (i / W)
theorem tab_length (W H : Nat) (G : Nat → Nat → Nat) : (tab W H G).length = W * H := by simp [tab]
theorem tab_get {W H i : Nat} {G : Nat → Nat → Nat} (h : i < W * H) : (tab W H G).getD i 0 = G (i % W) (i / W) := by
  unfold tab
  rw [List.getD_eq_getElem?_getD, List.getElem?_map, List.getElem?_range h]; rfl
theorem place_lt {W H x y : Nat} (hx : x < W) (hy : y < H) : y * W + x < W * H := by
  have : (y + 1) * W ≤ H * W := Nat.mul_le_mul_right _ hy
  rw [Nat.mul_comm W H]
  rw [Nat.succ_mul] at this
  omega
theorem place_mod {W x : Nat} (y : Nat) (hx : x < W) : (y * W + x) % W = x := by
  rw [Nat.add_comm, Nat.add_mul_mod_self_right, Nat.mod_eq_of_lt hx]
theorem place_div {W x : Nat} (y : Nat) (hx : x < W) : (y * W + x) / W = y := by
  rw [Nat.add_comm, Nat.add_mul_div_right _ _ (by omega), Nat.div_eq_of_lt hx]; omega
theorem row_lt {W H i : Nat} (h : i < W * H) : 0 < W ∧ i % W < W ∧ i / W < H := by
  have hW : 0 < W := by
    rcases Nat.eq_zero_or_pos W with g | g
    · subst g; rw [Nat.zero_mul] at h; omega
    · exact g
  exact ⟨hW, Nat.mod_lt _ hW, (Nat.div_lt_iff_lt_mul hW).2 (by rw [Nat.mul_comm]; exact h)⟩
/-- The sample at a place. -/
def smp (S : List Nat) (W x y : Nat) : Nat := S.getD (y * W + x) 0
theorem smp_tab {W H x y : Nat} {G : Nat → Nat → Nat} (hx : x < W) (hy : y < H) : smp (tab W H G) W x y = G x y := by
  unfold smp
  rw [tab_get (place_lt hx hy), place_mod y hx, place_div y hx]
theorem tab_ext {W H : Nat} {G G' : Nat → Nat → Nat} (h : ∀ x y, x < W → y < H → G x y = G' x y) : tab W H G = tab W H G' := by
  unfold tab
  apply List.map_congr_left
  intro i hi
  rw [List.mem_range] at hi
  obtain ⟨_, h1, h2⟩ := row_lt hi
  exact h _ _ h1 h2
theorem list_ext {a b : List Nat} (hl : a.length = b.length) (h : ∀ i, i < a.length → a.getD i 0 = b.getD i 0) : a = b := by
  apply List.ext_getElem hl
  intro i h1 h2
  have := h i h1
  rw [List.getD_eq_getElem?_getD, List.getD_eq_getElem?_getD, List.getElem?_eq_getElem h1, List.getElem?_eq_getElem h2] at this
  exact this
theorem tab_self {W H : Nat} {S : List Nat} (h : S.length = W * H) : tab W H (smp S W) = S := by
  apply list_ext (by rw [tab_length, h])
  intro i hi
  rw [tab_length] at hi
  rw [tab_get hi]
  unfold smp
  rw [Nat.mul_comm, Nat.div_add_mod]
theorem getD_lt {S : List Nat} {n : Nat} (hn : 0 < n) (h : ∀ i, S.getD i 0 < n) (W x y : Nat) : smp S W x y < n := h _
theorem tab_lt {W H n : Nat} {G : Nat → Nat → Nat} (hn : 0 < n) (h : ∀ x y, G x y < n) (i : Nat) : (tab W H G).getD i 0 < n := by
  by_cases hi : i < W * H
  · rw [tab_get hi]; exact h _ _
  · rw [List.getD_eq_getElem?_getD, List.getElem?_eq_none (by rw [tab_length]; omega)]; exact hn

/-- A size that may be. -/
structure Size (a b : Nat) : Prop where
  a1 : 1 ≤ a
  a2 : a ≤ 1024
  b1 : 1 ≤ b
  b2 : b ≤ 1024
  ab : a * b ≤ 65536
theorem Size.swap {a b : Nat} (h : Size a b) : Size b a := ⟨h.b1, h.b2, h.a1, h.a2, by rw [Nat.mul_comm]; exact h.ab⟩
theorem Size.pos {a b : Nat} (h : Size a b) : 1 ≤ a * b := Nat.mul_pos h.a1 h.b1
/-- A size that may be, of any two numbers. -/
def SizeB (W H : Int) : Prop := 1 ≤ W ∧ W ≤ 1024 ∧ 1 ≤ H ∧ H ≤ 1024 ∧ W * H ≤ 65536
theorem SizeB.nat {W H : Int} (h : SizeB W H) : ∃ a b : Nat, W = a ∧ H = b ∧ Size a b := by
  obtain ⟨h1, h2, h3, h4, h5⟩ := h
  refine ⟨W.toNat, H.toNat, by omega, by omega, by omega, by omega, by omega, by omega, ?_⟩
  have e1 : ((W.toNat : Nat) : Int) = W := by omega
  have e2 : ((H.toNat : Nat) : Int) = H := by omega
  have : ((W.toNat * H.toNat : Nat) : Int) ≤ 65536 := by rw [Int.natCast_mul, e1, e2]; exact h5
  omega
theorem Size.b {a b : Nat} (h : Size a b) : SizeB a b := by
  refine ⟨by have := h.a1; omega, by have := h.a2; omega, by have := h.b1; omega, by have := h.b2; omega, ?_⟩
  have := h.ab
  rw [← Int.natCast_mul]
  omega

/-- How far a list is written: what is done is as L tells. -/
structure Fill (w wr : World) (b n : Nat) (L : Nat → Nat) (k : Nat) : Prop where
  q : Q w wr
  new : w.heap.size ≤ b
  done : ∀ i, i < k → wr.cell? ⟨b, i, none⟩ = some (.int .u32 (L i : Nat))
  room : ∀ j, j < n → ∃ v, wr.cell? ⟨b, j, none⟩ = some v
  free : ∀ j, wr.frozen? ⟨b, j, none⟩ = false
theorem Fill.next {w wr wx : World} {b n k : Nat} {L : Nat → Nat} (h : Fill w wr b n L k) (q : Q wr wx) : Fill w wx b n L k where
  q := h.q.trans q
  new := h.new
  done := fun i hi => q.cell (h.done i hi)
  room := fun j hj => by obtain ⟨v, hv⟩ := h.room j hj; exact ⟨v, q.cell hv⟩
  free := fun j => by rw [q.2]; exact h.free j
theorem Fill.step {w wr : World} {b n k : Nat} {L : Nat → Nat} (h : Fill w wr b n L k) (hk : k < n) {v : Nat} (hv : v = L k) : Fill w (wr.setCell ⟨b, k, none⟩ (.int .u32 (v : Nat))) b n L (k + 1) := by
  subst hv
  obtain ⟨u, hu⟩ := h.room k hk
  refine ⟨h.q.set h.new _, h.new, fun i hi => ?_, fun j hj => ?_, fun j => ?_⟩
  · by_cases e : i = k
    · subst e; exact World.cell?_setCell_same _ _ _ hu
    · rw [World.cell?_setCell_other _ _ _ _ (by simp <;> omega)]; exact h.done i (by omega)
  · by_cases e : j = k
    · subst e; exact ⟨_, World.cell?_setCell_same _ _ _ hu⟩
    · rw [World.cell?_setCell_other _ _ _ _ (by simp <;> omega)]; exact h.room j hj
  · rw [World.frozen?_setCell]; exact h.free j
/-- A list in memory of its own. -/
structure Own (w wr : World) (b : Nat) (S : List Nat) : Prop where
  q : Q w wr
  new : w.heap.size ≤ b
  cells : UIs wr b 0 S
  free : ∀ j, wr.frozen? ⟨b, j, none⟩ = false
theorem Own.next {w wr wx : World} {b : Nat} {S : List Nat} (h : Own w wr b S) (q : Q wr wx) : Own w wx b S := ⟨h.q.trans q, h.new, h.cells.next q, fun j => by rw [q.2]; exact h.free j⟩
theorem Fill.own {w wr : World} {b n : Nat} {L : Nat → Nat} (h : Fill w wr b n L n) {S : List Nat} (hn : S.length = n) (hS : ∀ i, i < n → S.getD i 0 = L i) : Own w wr b S := by
  refine ⟨h.q, h.new, fun i hi => ?_, h.free⟩
  rw [hn] at hi
  rw [Nat.zero_add, h.done i hi, hS i hi]

theorem info_of {P : Program} {e : TypeId} {n b : Nat} {z : Value} (h1 : (P.info? e).map (fun i => (i.size, i.bytes)) = some (n, b)) (h2 : (P.info? e).bind (·.zero) = some z) : ∃ i, P.info? e = some i ∧ i.size = n ∧ i.bytes = b ∧ i.zero = some z := by
  cases h : P.info? e with
  | none => rw [h] at h1; cases h1
  | some i =>
    rw [h] at h1 h2
    have h1 : some (i.size, i.bytes) = some (n, b) := h1
    have h2 : i.zero = some z := h2
    injection h1 with h1
    injection h1 with h3 h4
    exact ⟨i, rfl, h3, h4, h2⟩
theorem u32Info : ∃ i, Try.prog.info? 60 = some i ∧ i.size = 1 ∧ i.bytes = 4 ∧ i.zero = some (.int .u32 0) :=
  info_of (by kernel_rfl) (by kernel_rfl)
/-- Making a list of noughts. -/
theorem make_u32 (n : Nat) (hn : n ≤ 1099511627776) : ∃ M : Array Value, (∀ w : World, (Instr.makeSlice 41 (.int .i64 (n : Int)) (.int .i64 (n : Int))).run Try.prog w = .ok (.slice (some ⟨w.heap.size, 0, none⟩) n n) (w.alloc (.cells M 60))) ∧
    ∀ w : World, Fill w (w.alloc (.cells M 60)) w.heap.size n (fun _ => 0) n := by
  obtain ⟨i, i1, i2, i3, i4⟩ := u32Info
  refine ⟨madeCells (Value.int .u32 0).cells (n * 1), fun w => ?_, fun w => ?_⟩
  · have := run_make (P := Try.prog) w 41 60 i _ Try.underlying41 i1 i4 .i64 .i64 n n (by omega) (by omega) (by rw [i3]; omega) (by omega)
    rw [i2] at this
    simp only [Int.toNat_natCast] at this
    exact this
  · have hb : (w.alloc (.cells (madeCells (Value.int .u32 0).cells (n * 1)) 60)).heap[w.heap.size]? = some (.cells (madeCells (Value.int .u32 0).cells (n * 1)) 60 (0, 0)) := heap_alloc_new w _
    have key : ∀ j, j < n → (w.alloc (.cells (madeCells (Value.int .u32 0).cells (n * 1)) 60)).cell? ⟨w.heap.size, j, none⟩ = some (.int .u32 0) := fun j hj => by
      rw [cell_of_row _ _ j _ 60 (0, 0) hb]
      unfold madeCells
      simp [Value.cells, hj, Nat.mod_one]
    exact ⟨(Q.refl w).cells _ _, Nat.le_refl _, fun i hi => key i hi, fun j hj => ⟨_, key j hj⟩, fun j => frozen_of_row _ _ _ _ _ hb⟩
end Go.Proofs.Ytpobgkcobgecoaa
/- Lists of samples that are the same. -/
namespace Go.Proofs.Ytpobgkcobgecoaa
open Go.RowKit
set_option linter.unusedVariables false
set_option linter.unusedSimpArgs false

set_option maxHeartbeats 4000000 in
set_option maxRecDepth 100000 in
theorem words_eq (v v' : Value) (xs : List Nat) (w : World) (h : USl w v xs) (h' : USl w v' xs) (hn : xs.length ≤ 9223372036854775807) :
    Calls Try.prog 48 #[v, v'] w fun e w' => e = .returned (.bool true) ∧ Q w w' := by
  obtain ⟨a, cap, ev⟩ := h.form
  obtain ⟨a', cap', ev'⟩ := h'.form
  subst ev ev'
  have HS : Hid (USl w (.slice a xs.length cap) xs) := h
  have HT : Hid (USl w (.slice a' xs.length cap') xs) := h'
  obtain ⟨n, en⟩ : ∃ n, xs.length = n := ⟨_, rfl⟩
  have HN : Hid (xs.length = n) := en
  rw [en] at HS HT hn ⊢
  have hnn : ((n : Int) == (n : Int)) = true := by simp
  clear h h' en
  go_enter Try.func48, Try.ntmps48
  go_wp2_with fail
  go_loopg [5] n (fun m s5 wx => ∃ i : Nat, s5 = .int .i64 i ∧ i + m = n ∧ Hid (Q w wx))
  case atStart => exact ⟨0, rfl, by omega, Q.refl w⟩
  case round =>
    obtain ⟨i, rfl, him, HQ⟩ := hrel
    by_cases hi : i < n
    · have hi0 : (0 : Int) ≤ (i : Int) := by omega
      have hi1 : (i : Int) < (n : Int) := by omega
      obtain ⟨g, o, c, e1, e2, e3⟩ := HS.out.some (by rw [HN.out]; omega)
      obtain ⟨g', o', c', f1, f2, f3⟩ := HT.out.some (by rw [HN.out]; omega)
      injection e1 with e1 hh1 hh2
      clear hh1 hh2
      injection f1 with f1 hh1 hh2
      clear hh1 hh2
      subst e1 f1
      have c1 := HQ.out.cell (e3 i (by rw [HN.out]; exact hi))
      have c2 := HQ.out.cell (f3 i (by rw [HN.out]; exact hi))
      obtain ⟨z, hz⟩ : ∃ z, xs.getD i 0 = z := ⟨_, rfl⟩
      rw [hz] at c1 c2
      have hzz : ((z : Int) == (z : Int)) = true := by simp
      have n0 := qw_some wr
      have d1 := qw_cell c1
      have d2 := qw_cell c2
      clear hz e2 e3 f2 f3
      go_wp2_with fail
      refine wp_region_quiet_Q (by kernel_rfl) (by kernel_rfl) ?_
      repeat (first | go_big_quiet_step (fail) | quiet_step (fail))
      refine wpQuiet_nil ?_
      intro w4 hw'
      have hq4 := qw_out hw'
      have HQ4 : Hid (Q w w4) := HQ.out.trans hq4
      clear hw' n0 d1 d2
      go_wp2_with fail
      go_roundg (n - (i + 1))
      case measure => go_light; omega
      case rel => go_light; exact ⟨i + 1, by go_num, by omega, HQ4⟩
    · have hie : i = n := by omega
      go_wp2_with fail
      go_ret
      exact ⟨rfl, HQ.out⟩
end Go.Proofs.Ytpobgkcobgecoaa
/- Planes that are the same. -/
namespace Go.Proofs.Ytpobgkcobgecoaa
open Go.RowKit
set_option linter.unusedVariables false
set_option linter.unusedSimpArgs false

set_option maxHeartbeats 2000000 in
set_option maxRecDepth 100000 in
theorem hplanes_yes (a b : Int) (p q : Option Addr) (n c d : Nat) (S : List Nat) (w : World) (h : USl w (.slice p n c) S) (h' : USl w (.slice q n d) S) (hn : S.length ≤ 9223372036854775807) :
    Calls Try.prog 19 #[.agg #[.int .i64 a, .int .i64 b, .slice p n c], .agg #[.int .i64 a, .int .i64 b, .slice q n d]] w fun e w' => e = .returned (.bool true) ∧ Q w w' := by
  have H1 : Hid (USl w (.slice p n c) S) := h
  have H2 : Hid (USl w (.slice q n d) S) := h'
  clear h h'
  have qa : Hid (∀ a b c d, Q w ((w.alloc (.cells a b)).alloc (.cells c d))) := fun a b c d => ((Q.refl w).cells _ _).cells _ _
  go_enter Try.func19, Try.ntmps19
  go_wp2_with fail
  refine (words_eq _ _ S _ (H1.out.next (qa.out _ _ _ _)) (H2.out.next (qa.out _ _ _ _)) hn).mono ?_
  rintro e w1 ⟨rfl, q1⟩
  go_wp2_with fail
  go_ret
  exact ⟨rfl, (qa.out _ _ _ _).trans q1⟩
end Go.Proofs.Ytpobgkcobgecoaa
/- Lists of whole numbers in memory. -/
namespace Go.Proofs.Ytpobgkcobgecoaa
open Go.RowKit
set_option linter.unusedVariables false
set_option linter.unusedSimpArgs false

/-- A list of whole numbers in memory. -/
def ISl (w : World) (v : Value) (l : List Int) : Prop := (∃ g o cap, v = .slice (some ⟨g, o, none⟩) l.length cap ∧ ∀ i, i < l.length → w.cell? ⟨g, o + i, none⟩ = some (.int .i64 (l.getD i 0))) ∨ (∃ a c, v = .slice a 0 c ∧ l = [])
theorem ISl.next {w w' : World} {v : Value} {l : List Int} (h : ISl w v l) (q : Q w w') : ISl w' v l := by
  rcases h with ⟨g, o, cap, h1, h2⟩ | h
  · exact Or.inl ⟨g, o, cap, h1, fun i hi => q.cell (h2 i hi)⟩
  · exact Or.inr h
theorem ISl.form {w : World} {v : Value} {l : List Int} (h : ISl w v l) : ∃ a cap, v = .slice a l.length cap := by
  rcases h with ⟨g, o, cap, h1, h2⟩ | ⟨a, c, h1, h2⟩
  · exact ⟨_, _, h1⟩
  · subst h2; exact ⟨a, c, h1⟩
theorem ISl.some {w : World} {v : Value} {l : List Int} (h : ISl w v l) (h1 : 1 ≤ l.length) : ∃ g o cap, v = .slice (some ⟨g, o, none⟩) l.length cap ∧ ∀ i, i < l.length → w.cell? ⟨g, o + i, none⟩ = some (.int .i64 (l.getD i 0)) := by
  rcases h with h | ⟨_, _, _, h2⟩
  · exact h
  · subst h2; cases h1
end Go.Proofs.Ytpobgkcobgecoaa
/- Lists of whole numbers held against one another. -/
namespace Go.Proofs.Ytpobgkcobgecoaa
open Go.RowKit
set_option linter.unusedVariables false
set_option linter.unusedSimpArgs false

set_option maxHeartbeats 2000000 in
set_option maxRecDepth 100000 in
/-- halidehelp.Ints: the same lists? -/
theorem ints_any (v u : Value) (L M : List Int) (w : World) (hv : ISl w v L) (hu : ISl w u M) (hn : L.length ≤ 100000) (hm : M.length ≤ 100000) :
    Calls Try.prog 13 #[v, u] w fun e w' => e = .returned (.bool (decide (L = M))) ∧ Q w w' := by
  obtain ⟨ad, c, rfl⟩ := hv.form
  obtain ⟨ad2, c2, rfl⟩ := hu.form
  by_cases hl : L.length = M.length
  · obtain ⟨B, hB⟩ : ∃ B, decide (L = M) = B := ⟨_, rfl⟩
    have HB : Hid (decide (L = M) = B) := hB
    rw [hB]
    obtain ⟨N, eN⟩ : ∃ N, L.length = N := ⟨_, rfl⟩
    have HV : Hid (ISl w (.slice ad N c) L ∧ L.length = N) := ⟨by rw [← eN]; exact hv, eN⟩
    have HU : Hid (ISl w (.slice ad2 N c2) M ∧ M.length = N) := ⟨by rw [← eN, hl]; exact hu, by rw [← eN, hl]⟩
    rw [← hl, eN]
    rw [eN] at hn
    clear hv hu hl eN hB hm
    go_enter Try.func13, Try.ntmps13
    go_wp2_with fail
    go_loopg [5] N (fun gh s5 wr => ∃ i : Nat, s5 = .int .i64 (i : Int) ∧ i ≤ N ∧ gh = N - i ∧ Hid (∀ j, j < i → L.getD j 0 = M.getD j 0) ∧ Hid (Q w wr))
    case atStart => exact ⟨0, rfl, Nat.zero_le _, rfl, fun j hj => absurd hj (by omega), Q.refl w⟩
    case round =>
      obtain ⟨i, rfl, hi, rfl, HS, HQ⟩ := hrel
      by_cases hlt : i < N
      · have hltz : (i : Int) < (N : Int) := by omega
        obtain ⟨g1, o1, d1, hs1, hI1⟩ := HV.out.1.some (by have := HV.out.2; omega)
        rw [HV.out.2] at hs1 hI1
        injection hs1 with e1 e2 e3
        subst e1 e3
        obtain ⟨g2, o2, d2, hs2, hI2⟩ := HU.out.1.some (by have := HU.out.2; omega)
        rw [HU.out.2] at hs2 hI2
        injection hs2 with f1 f2 f3
        subst f1 f3
        have k1 := qw_cell (HQ.out.cell (hI1 i hlt))
        have k2 := qw_cell (HQ.out.cell (hI2 i hlt))
        have n0 := qw_some wr
        obtain ⟨x, hx⟩ : ∃ x, L.getD i 0 = x := ⟨_, rfl⟩
        obtain ⟨y, hy⟩ : ∃ y, M.getD i 0 = y := ⟨_, rfl⟩
        rw [hx] at k1
        rw [hy] at k2
        have HX : Hid (L.getD i 0 = x ∧ M.getD i 0 = y) := ⟨hx, hy⟩
        clear hx hy hI1 hI2 e2 f2
        go_wp2_with fail
        refine wp_region_quiet_Q (by kernel_rfl) (by kernel_rfl) ?_
        repeat (first | go_big_quiet_step (fail) | quiet_step (fail))
        refine wpQuiet_nil ?_
        intro w4 hw'
        have HQ4 : Hid (Q w w4) := HQ.out.trans (qw_out hw')
        clear hw' k1 k2 n0
        by_cases hxy : x = y
        · subst hxy
          have HS2 : Hid (∀ j, j < i + 1 → L.getD j 0 = M.getD j 0) := fun j hj => by
            by_cases e : j = i
            · subst e; rw [HX.out.1, HX.out.2]
            · exact HS.out j (by omega)
          go_wp2_with fail
          go_roundg (N - (i + 1))
          case measure => go_light; omega
          case rel => go_light; exact ⟨i + 1, by simp, by omega, rfl, HS2, HQ4⟩
        · have hxy' : (x == y) = false := by simpa using hxy
          have HF : Hid (B = false) := by
            show B = false
            rw [← HB.out, decide_eq_false_iff_not]
            intro e
            rw [e] at HX
            exact hxy (HX.out.1.symm.trans HX.out.2)
          clear HX
          go_wp2_with fail
          go_ret
          exact ⟨by rw [HF.out]; rfl, HQ4.out⟩
      · have hge : ¬ (i : Int) < (N : Int) := by omega
        obtain rfl : i = N := by omega
        have HF : Hid (B = true) := by
          show B = true
          rw [← HB.out, decide_eq_true_iff]
          apply List.ext_getElem?
          intro j
          by_cases hj : j < i
          · have := HS.out j hj
            rw [List.getD_eq_getElem?_getD, List.getD_eq_getElem?_getD, List.getElem?_eq_getElem (by have := HV.out.2; omega), List.getElem?_eq_getElem (by have := HU.out.2; omega)] at this
            rw [List.getElem?_eq_getElem (by have := HV.out.2; omega), List.getElem?_eq_getElem (by have := HU.out.2; omega)]
            exact congrArg some this
          · rw [List.getElem?_eq_none (by have := HV.out.2; omega), List.getElem?_eq_none (by have := HU.out.2; omega)]
        go_wp2_with fail
        go_ret
        exact ⟨by rw [HF.out]; rfl, HQ.out⟩
  · rw [decide_eq_false (fun e => hl (by rw [e]))]
    have hl' : ((L.length : Int) == (M.length : Int)) = false := by simp; omega
    have hl'' : ¬ (L.length : Int) = (M.length : Int) := by omega
    clear hv hu hl
    generalize L.length = a at *
    generalize M.length = b at *
    go_enter Try.func13, Try.ntmps13
    go_wp2_with fail
    go_ret
    exact ⟨rfl, Q.refl w⟩
end Go.Proofs.Ytpobgkcobgecoaa
/- A region that draws its order: operations that come up in whatever order, each with a fact that lasts (it may speak of what those told that it waits for); blocks that are made lie apart. -/
namespace Go.Proofs.Ytpobgkcobgecoaa
open Go.RowKit
set_option linter.unusedVariables false
set_option linter.unusedSimpArgs false

/-- The block that a slice or a pointer is at. -/
def blkV : Value → Nat
  | .slice (some a) _ _ => a.block
  | .pointer (some a) => a.block
  | _ => 0
/-- What is told of a value, where others (deps) may be named. -/
structure Sp2 where
  p : Value → (Nat → Value) → World → Prop
  deps : List Nat
  st : ∀ {v : Value} {val val' : Nat → Value} {x x' : World}, p v val x → Q x x' → (∀ j ∈ deps, val' j = val j) → p v val' x'
def sV (u : Value) : Sp2 := ⟨fun v _ _ => v = u, [], fun h _ _ => h⟩
def sE (j : Nat) : Sp2 := ⟨fun v val _ => v = val j, [j], fun h _ e => h.trans (e j (by simp)).symm⟩
def sP (p : Value → World → Prop) (st : ∀ v x x', p v x → Q x x' → p v x') : Sp2 := ⟨fun v _ x => p v x, [], fun h q _ => st _ _ _ h q⟩
/-- Each operation fills a slot, is not guarded, and what is told of it names what it waits for. -/
def newB (l : List Oper) (D : List (List Nat)) (s : List Nat) : Bool := (D.length == l.length) && ((s.length == l.length) && (List.range l.length).all fun k => match l[k]? with
  | some o => o.guard.isNone && ((o.dst == s[k]?) && (D.getD k []).all fun j => decide (j < k) && o.after.toList.any fun e => Region.binds .any e && (e.on == j))
  | none => true)
structure InvN (l : List Oper) (L : List Sp2) (A : List Nat) (w : World) (done : Nat → Bool) (val : Nat → Value) (x : World) : Prop where
  q : Q w x
  f : ∀ i s, L[i]? = some s → done i = true → s.p (val i) val x
  lt : ∀ i, i ∈ A → done i = true → blkV (val i) < x.heap.size
  ap : ∀ i j, i ∈ A → j ∈ A → i ≠ j → done i = true → done j = true → blkV (val i) ≠ blkV (val j)
  cl : ∀ i o, l[i]? = some o → done i = true → ∀ e ∈ o.after, Region.binds .any e = true → done e.on = true
set_option maxHeartbeats 1000000 in
theorem wp_region_new {P : Program} {id : Nat} {R : Exit → Act → World → Prop} {a0 : Act} {w : World} {l : List Oper} (s : List Nat) (L : List Sp2) (D : List (List Nat)) (A : List Nat)
    (hm : P.follows .mixedOrders = true) (hB : regS l = true) (hN : newB l D s = true) (hD : L.map (·.deps) = D) (hmax : ∀ t ∈ s, t < a0.tmps.size)
    (hop : ∀ i t o sp (a : Act) x (val : Nat → Value), s[i]? = some t → l[i]? = some o → L[i]? = some sp → Q w x → (∀ j, j ∉ s → a.tmps[j]? = a0.tmps[j]?) → (∀ e ∈ o.after, Region.binds .any e = true → ∀ s' t', L[e.on]? = some s' → s[e.on]? = some t' → a.tmps[t']? = some (val e.on) ∧ s'.p (val e.on) val x) →
      Yld P R o a x t (fun v x' => sp.p v val x' ∧ (i ∈ A → x.heap.size ≤ blkV v ∧ blkV v < x'.heap.size)))
    (hend : ∀ (a : Act) x (val : Nat → Value), Q w x → a.tmps.size = a0.tmps.size → a.defers = a0.defers → (∀ j, j ∉ s → a.tmps[j]? = a0.tmps[j]?) → (∀ i t sp, s[i]? = some t → L[i]? = some sp → a.tmps[t]? = some (val i) ∧ sp.p (val i) val x) → (∀ i j, i ∈ A → j ∈ A → i < l.length → j < l.length → i ≠ j → blkV (val i) ≠ blkV (val j)) → Shut (R .normal a x)) :
    (Code.region id l.toArray true).wp P R a0 w := by
  unfold newB at hN
  simp only [Bool.and_eq_true, beq_iff_eq] at hN
  obtain ⟨hDl, hsl, hall⟩ := hN
  have hLl : L.length = l.length := by rw [← hDl, ← hD]; simp
  have at_ : ∀ k o, l[k]? = some o → o.guard = none ∧ o.dst = s[k]? ∧ ∀ j ∈ D.getD k [], j < k ∧ ∃ e ∈ o.after, Region.binds .any e = true ∧ e.on = j := fun k o hk => by
    have g := List.all_eq_true.1 hall k (List.mem_range.2 (List.getElem?_eq_some_iff.1 hk).1)
    rw [hk] at g
    simp only [Bool.and_eq_true, beq_iff_eq] at g
    refine ⟨by simpa using g.1, g.2.1, fun j hj => ?_⟩
    have h := List.all_eq_true.1 g.2.2 j hj
    rw [Bool.and_eq_true] at h
    obtain ⟨e, he, hb⟩ := List.any_eq_true.1 h.2
    rw [Bool.and_eq_true] at hb
    exact ⟨by simpa using h.1, e, by simpa using he, hb.1, by simpa using hb.2⟩
  have dst_s : ∀ k t, dstOf l k = some t ↔ s[k]? = some t := fun k t => by
    cases hk : l[k]? with
    | none =>
      have : l.length ≤ k := by
        rcases Nat.lt_or_ge k l.length with c | c
        · rw [List.getElem?_eq_getElem c] at hk; cases hk
        · exact c
      rw [List.getElem?_eq_none (by omega)]
      unfold dstOf
      rw [hk]
      exact Iff.rfl
    | some o => rw [dstOf_at hk, (at_ k o hk).2.1]
  have mem_s : ∀ j, (∀ k, dstOf l k ≠ some j) ↔ j ∉ s := fun j => by
    constructor
    · intro h hm
      obtain ⟨k, hk⟩ := List.getElem?_of_mem hm
      exact h k ((dst_s k j).2 hk)
    · intro h k e
      exact h (List.mem_of_getElem? ((dst_s k j).1 e))
  have depsD : ∀ k sp, L[k]? = some sp → sp.deps = D.getD k [] := fun k sp hk => by
    rw [← hD, List.getD_eq_getElem?_getD, List.getElem?_map, hk]; rfl
  refine wp_region_slots (InvN l L A w) hm hB (fun i t h => hmax t (List.mem_of_getElem? ((dst_s i t).1 h))) ⟨(Q.refl w).drew, fun _ _ _ h => (by cases h), fun _ _ h => (by cases h), fun _ _ _ _ _ h => (by cases h), fun _ _ _ h => (by cases h)⟩ ?_ ?_ ?_
  · intro i o a x done val ho hd hdep I oth vals _
    have hil : i < l.length := (List.getElem?_eq_some_iff.1 ho).1
    obtain ⟨sp, hsp⟩ : ∃ sp, L[i]? = some sp := ⟨_, List.getElem?_eq_getElem (by omega)⟩
    obtain ⟨t, ht⟩ : ∃ t, s[i]? = some t := ⟨_, List.getElem?_eq_getElem (by omega)⟩
    obtain ⟨hg, hdst, hdp⟩ := at_ i o ho
    have hrun := hop i t o sp a x val ht ho hsp I.q (fun j hj => oth j ((mem_s j).2 hj)) (fun e he hb s' t' hs' ht' => ⟨vals e.on t' (hdep e he hb) ((dst_s _ _).2 ht'), I.f e.on s' hs' (hdep e he hb)⟩)
    refine ⟨Oper.wp_mono ?_ hrun.out⟩
    rintro a' x' ⟨v, rfl, q', hf, hfA⟩
    refine ⟨v, by rw [hdst, ht], I.q.trans q', fun j sj hsj hdj => ?_, fun j hj hdj => ?_, fun j k hj hk hjk hdj hdk => ?_, fun j o' ho' hdj e he hb => ?_⟩
    · by_cases e : j = i
      · subst e
        rw [hsp] at hsj
        injection hsj with hsj
        subst hsj
        rw [upd_eq]
        refine sp.st hf (Q.refl x') (fun k hk => upd_ne _ _ ?_)
        rw [depsD j sp hsp] at hk
        have := (hdp k hk).1
        omega
      · rw [upd_ne _ _ e] at hdj ⊢
        refine sj.st (I.f j sj hsj hdj) q' (fun k hk => upd_ne _ _ ?_)
        rw [depsD j sj hsj] at hk
        have hjl : j < l.length := by have := (List.getElem?_eq_some_iff.1 hsj).1; omega
        obtain ⟨_, e2, he2, hb2, hk2⟩ := (at_ j _ (List.getElem?_eq_getElem hjl)).2.2 k hk
        have := I.cl j _ (List.getElem?_eq_getElem hjl) hdj e2 he2 hb2
        intro ek
        rw [hk2, ek, hd] at this
        cases this
    · by_cases e : j = i
      · subst e; rw [upd_eq]; exact (hfA hj).2
      · rw [upd_ne _ _ e] at hdj ⊢
        have := I.lt j hj hdj
        have := q'.1.size
        omega
    · by_cases e : j = i
      · subst e
        have ek : k ≠ j := fun h => hjk h.symm
        rw [upd_eq, upd_ne _ _ ek]
        rw [upd_ne _ _ ek] at hdk
        have := I.lt k hk hdk
        have := (hfA hj).1
        omega
      · rw [upd_ne _ _ e] at hdj ⊢
        by_cases ek : k = i
        · subst ek
          rw [upd_eq]
          have := I.lt j hj hdj
          have := (hfA hk).1
          omega
        · rw [upd_ne _ _ ek] at hdk ⊢
          exact I.ap j k hj hk hjk hdj hdk
    · by_cases ee : e.on = i
      · rw [ee, upd_eq]
      · rw [upd_ne _ _ ee]
        by_cases ej : j = i
        · subst ej
          rw [ho] at ho'
          injection ho' with ho'
          subst ho'
          exact hdep e he hb
        · rw [upd_ne _ _ ej] at hdj
          exact I.cl j o' ho' hdj e he hb
  · intro i o x done val g b ho _ _ _ hg _
    rw [(at_ i o ho).1] at hg
    cases hg
  · intro a x val I size defers other facts
    refine hend a x val I.q size defers (fun j hj => other j ((mem_s j).2 hj)) (fun i t sp ht hsp => ⟨facts i t ((dst_s i t).2 ht), I.f i sp hsp (decide_eq_true (by have := (List.getElem?_eq_some_iff.1 hsp).1; omega))⟩) (fun i j hi hj hil hjl hij => I.ap i j hi hj hij (decide_eq_true hil) (decide_eq_true hjl))
end Go.Proofs.Ytpobgkcobgecoaa
/- A region that draws its order: first operations that come up in whatever order, each with a fact that lasts (RegN's), blocks apart; then others, one behind the other. -/
namespace Go.Proofs.Ytpobgkcobgecoaa
open Go.RowKit
set_option linter.unusedVariables false
set_option linter.unusedSimpArgs false

/-- Each of the first n operations fills a slot, and what is told of it names what it waits for. -/
def newBP (l : List Oper) (n : Nat) (D : List (List Nat)) (s : List Nat) : Bool := (D.length == n) && ((s.length == n) && ((decide (n ≤ l.length)) && (List.range n).all fun k => match l[k]? with
  | some o => (o.dst == s[k]?) && (D.getD k []).all fun j => decide (j < k) && o.after.toList.any fun e => Region.binds .any e && (e.on == j)
  | none => true))
structure FactsV (L : List Sp2) (A : List Nat) (w : World) (a0 : Act) (s : List Nat) (l : List Oper) (n : Nat) (lst : Array Bool) (a : Act) (x : World) (val : Nat → Value) : Prop where
  size : a.tmps.size = a0.tmps.size
  defers : a.defers = a0.defers
  other : ∀ j, j ∉ s → a.tmps[j]? = a0.tmps[j]?
  q : Q w x
  ls : lst.size = l.length
  post : ∀ k, n ≤ k → k < l.length → lst.getD k true = false
  closed : ∀ (j : Nat) (o : Oper), lst.getD j false = true → l[j]? = some o → ∀ e ∈ o.after, Region.binds .any e = true → lst.getD e.on false = true
  facts : ∀ i t sp, s[i]? = some t → L[i]? = some sp → lst.getD i false = true → a.tmps[t]? = some (val i) ∧ sp.p (val i) val x
  lt : ∀ i, i ∈ A → lst.getD i false = true → blkV (val i) < x.heap.size
  apart : ∀ i j, i ∈ A → j ∈ A → i ≠ j → lst.getD i false = true → lst.getD j false = true → blkV (val i) ≠ blkV (val j)
set_option maxHeartbeats 2000000 in
theorem wp_region_newP {P : Program} {id : Nat} {R : Exit → Act → World → Prop} {a0 : Act} {w : World} {l : List Oper} (n : Nat) (s : List Nat) (L : List Sp2) (D : List (List Nat)) (A : List Nat)
    (hm : P.follows .mixedOrders = true) (hB : regB l n = true) (hN : newBP l n D s = true) (hD : L.map (·.deps) = D) (hd : s.Nodup) (hmax : ∀ t ∈ s, t < a0.tmps.size)
    (hop : ∀ i t o sp (a : Act) x (val : Nat → Value), s[i]? = some t → l[i]? = some o → L[i]? = some sp → Q w x → (∀ j, j ∉ s → a.tmps[j]? = a0.tmps[j]?) → (∀ e ∈ o.after, Region.binds .any e = true → ∀ s' t', L[e.on]? = some s' → s[e.on]? = some t' → a.tmps[t']? = some (val e.on) ∧ s'.p (val e.on) val x) →
      Yld P R o a x t (fun v x' => sp.p v val x' ∧ (i ∈ A → x.heap.size ≤ blkV v ∧ blkV v < x'.heap.size)))
    (hAn : ∀ i ∈ A, i < n)
    (hend : ∀ (a : Act) x (val : Nat → Value), Q w x → a.tmps.size = a0.tmps.size → a.defers = a0.defers → (∀ j, j ∉ s → a.tmps[j]? = a0.tmps[j]?) → (∀ i t sp, s[i]? = some t → L[i]? = some sp → a.tmps[t]? = some (val i) ∧ sp.p (val i) val x) → (∀ i j, i ∈ A → j ∈ A → i ≠ j → blkV (val i) ≠ blkV (val j)) → Shut (wpPost P R (l.drop n) a x)) :
    (Code.region id l.toArray true).wp P R a0 w := by
  have get : ∀ k, l.toArray[k]? = l[k]? := fun k => List.getElem?_toArray
  unfold newBP at hN
  simp only [Bool.and_eq_true, beq_iff_eq, decide_eq_true_eq] at hN
  obtain ⟨hDl, hsl, hnl, hall⟩ := hN
  have hLl : L.length = n := by rw [← hDl, ← hD]; simp
  have at_ : ∀ k o, k < n → l[k]? = some o → o.dst = s[k]? ∧ ∀ j ∈ D.getD k [], j < k ∧ ∃ e ∈ o.after, Region.binds .any e = true ∧ e.on = j := fun k o hkn hk => by
    have g := List.all_eq_true.1 hall k (List.mem_range.2 hkn)
    rw [hk] at g
    simp only [Bool.and_eq_true, beq_iff_eq] at g
    refine ⟨g.1, fun j hj => ?_⟩
    have h := List.all_eq_true.1 g.2 j hj
    rw [Bool.and_eq_true] at h
    obtain ⟨e, he, hb⟩ := List.any_eq_true.1 h.2
    rw [Bool.and_eq_true] at hb
    exact ⟨by simpa using h.1, e, by simpa using he, hb.1, by simpa using hb.2⟩
  have depsD : ∀ k sp, L[k]? = some sp → sp.deps = D.getD k [] := fun k sp hk => by
    rw [← hD, List.getD_eq_getElem?_getD, List.getElem?_map, hk]; rfl
  refine wp_region_inv (fun lst a x => (∃ val, FactsV L A w a0 s l n lst a x val) ∨ ∃ k, n < k ∧ k ≤ l.length ∧ lst.size = l.length ∧ (∀ i, i < k → lst.getD i true = true) ∧ (∀ i, k ≤ i → i < l.length → lst.getD i true = false) ∧ (∀ (j : Nat) (o : Oper), lst.getD j false = true → l[j]? = some o → ∀ e ∈ o.after, Region.binds .any e = true → lst.getD e.on false = true) ∧ Shut (wpPost P R (l.drop k) a x)) hm ?_ ?_ ?_
  · have none_ : ∀ j, (Array.replicate l.toArray.size false).getD j false = false := fun j => by
      rw [Array.getD_eq_getD_getElem?, Array.getElem?_replicate]
      split <;> rfl
    refine Or.inl ⟨fun _ => undef, rfl, rfl, fun _ _ => rfl, (Q.refl w).drew, by simp, fun k h1 h2 => ?_, fun j o hj _ => ?_, fun i t sp _ _ hl => ?_, fun i _ hl => ?_, fun i j _ _ _ hl => ?_⟩
    · rw [Array.getD_eq_getD_getElem?, Array.getElem?_replicate, if_pos (by simpa using h2)]; rfl
    · rw [none_] at hj; cases hj
    · rw [none_] at hl; cases hl
    · rw [none_] at hl; cases hl
    · rw [none_] at hl; cases hl
  · intro lst a x i o hI ho hl hdep
    rw [get] at ho
    obtain ⟨hg, hdl, hall'⟩ := regB_at hB ho
    have hil : i < l.length := (List.getElem?_eq_some_iff.1 ho).1
    refine ⟨hg, ?_⟩
    rcases hI with ⟨val, T⟩ | ⟨k, hk1, hk2, hls, hk3, hk4, hkc, hw⟩
    · by_cases hin : i < n
      · obtain ⟨t, ht⟩ : ∃ t, s[i]? = some t := ⟨_, List.getElem?_eq_getElem (by omega)⟩
        obtain ⟨sp, hsp⟩ : ∃ sp, L[i]? = some sp := ⟨_, List.getElem?_eq_getElem (by omega)⟩
        have hts : t ∈ s := List.mem_of_getElem? ht
        have inj : ∀ j t', s[j]? = some t' → j ≠ i → t ≠ t' := fun j t' hj hne e => hne (by
          subst e
          obtain ⟨h1, h2⟩ := List.getElem?_eq_some_iff.1 hj
          obtain ⟨h3, h4⟩ := List.getElem?_eq_some_iff.1 ht
          exact (List.getElem_inj hd).1 (h2.trans h4.symm))
        obtain ⟨hdst, hdp⟩ := at_ i o hin ho
        have hd0 : lst.getD i false = false := not_got hl
        have hrun := hop i t o sp a x val ht ho hsp T.q T.other (fun e he hb s' t' hs' ht' => T.facts e.on t' s' ht' hs' (hdep e he hb))
        refine Oper.wp_mono ?_ hrun.out
        rintro a' x' ⟨v, rfl, q', hf, hfA⟩
        refine Or.inl ⟨upd val i v, ?_, T.defers, fun j hj => ?_, T.q.trans q', by rw [Array.size_setIfInBounds]; exact T.ls, fun k h1 h2 => ?_, closed_set ho T.closed hdep, fun j t' sj ht' hsj hlj => ?_, fun j hj hlj => ?_, fun j k hj hk hjk hlj hlk => ?_⟩
        · exact (Array.size_setIfInBounds).trans T.size
        · exact (Array.getElem?_setIfInBounds_ne (fun e => hj (by rw [← e]; exact hts))).trans (T.other j hj)
        · rw [set_ne (by omega)]; exact T.post k h1 h2
        · by_cases e : j = i
          · subst e
            rw [ht] at ht'
            injection ht' with ht'
            subst ht'
            rw [hsp] at hsj
            injection hsj with hsj
            subst hsj
            refine ⟨?_, ?_⟩
            · rw [upd_eq]; exact Array.getElem?_setIfInBounds_self_of_lt (by rw [T.size]; exact hmax t hts)
            · rw [upd_eq]
              refine sp.st hf (Q.refl x') (fun k hk => upd_ne _ _ ?_)
              rw [depsD j sp hsp] at hk
              have := (hdp k hk).1
              omega
          · rw [set_ne (fun e' => e e'.symm)] at hlj
            obtain ⟨h1, h2⟩ := T.facts j t' sj ht' hsj hlj
            rw [upd_ne _ _ e]
            refine ⟨(Array.getElem?_setIfInBounds_ne (inj j t' ht' e)).trans h1, sj.st h2 q' (fun k hk => upd_ne _ _ ?_)⟩
            rw [depsD j sj hsj] at hk
            have hjn : j < n := by have := (List.getElem?_eq_some_iff.1 hsj).1; omega
            have hjl : l[j]? = some (l[j]'(by omega)) := List.getElem?_eq_getElem (by omega)
            obtain ⟨_, e2, he2, hb2, hk2⟩ := (at_ j _ hjn hjl).2 k hk
            have := T.closed j _ hlj hjl e2 he2 hb2
            intro ek
            rw [hk2, ek, hd0] at this
            cases this
        · by_cases e : j = i
          · subst e; rw [upd_eq]; exact (hfA hj).2
          · rw [set_ne (fun e' => e e'.symm)] at hlj
            rw [upd_ne _ _ e]
            have := T.lt j hj hlj
            have := q'.1.size
            omega
        · by_cases e : j = i
          · subst e
            have ek : k ≠ j := fun h => hjk h.symm
            rw [set_ne (fun e' => ek e'.symm)] at hlk
            rw [upd_eq, upd_ne _ _ ek]
            have := T.lt k hk hlk
            have := (hfA hj).1
            omega
          · rw [set_ne (fun e' => e e'.symm)] at hlj
            rw [upd_ne _ _ e]
            by_cases ek : k = i
            · subst ek
              rw [upd_eq]
              have := T.lt j hj hlj
              have := (hfA hk).1
              omega
            · rw [set_ne (fun e' => ek e'.symm)] at hlk
              rw [upd_ne _ _ ek]
              exact T.apart j k hj hk hjk hlj hlk
      · have hie : i = n := by
          rcases Nat.lt_or_ge n i with h | h
          · have h1 := deps_got T.closed hdep n (hall' (by omega) n h)
            have h2 := not_got (T.post n (Nat.le_refl _) (by omega))
            rw [h1] at h2
            cases h2
          · omega
        subst hie
        have hallg : ∀ j, j < i → lst.getD j false = true := fun j hj => deps_got T.closed hdep j (hall' (Nat.le_refl _) j hj)
        have hE := hend a x val T.q T.size T.defers T.other (fun j t sp ht hsp => T.facts j t sp ht hsp (hallg j (by have := (List.getElem?_eq_some_iff.1 hsp).1; omega))) (fun j k hj hk hjk => T.apart j k hj hk hjk (hallg j (hAn j hj)) (hallg k (hAn k hk)))
        have hdr : l.drop i = o :: l.drop (i + 1) := by
          obtain ⟨h1, h2⟩ := List.getElem?_eq_some_iff.1 ho
          rw [List.drop_eq_getElem_cons h1, h2]
        rw [hdr] at hE
        refine Oper.wp_mono (fun a' x' h => Or.inr ⟨i + 1, by omega, by omega, by rw [Array.size_setIfInBounds]; exact T.ls, fun j hj => ?_, fun j h1 h2 => ?_, closed_set ho T.closed hdep, ⟨h⟩⟩) hE.out
        · by_cases e : i = j
          · subst e; exact set_eq (by rw [T.ls]; omega)
          · rw [set_ne e]
            have := hallg j (by omega)
            rw [Array.getD_eq_getD_getElem?] at this ⊢
            cases g : lst[j]? with
            | none => rfl
            | some b => rw [g] at this; exact this
        · rw [set_ne (by omega)]; exact T.post j (by omega) h2
    · have hie : i = k := by
        rcases Nat.lt_trichotomy i k with h | h | h
        · have := hk3 i h; rw [hl] at this; cases this
        · exact h
        · have h1 := deps_got hkc hdep k (hall' (by omega) k h)
          have h2 := not_got (hk4 k (Nat.le_refl _) (by omega))
          rw [h1] at h2
          cases h2
      subst hie
      have hdr : l.drop i = o :: l.drop (i + 1) := by
        obtain ⟨h1, h2⟩ := List.getElem?_eq_some_iff.1 ho
        rw [List.drop_eq_getElem_cons h1, h2]
      rw [hdr] at hw
      refine Oper.wp_mono (fun a' x' h => Or.inr ⟨i + 1, by omega, by omega, by rw [Array.size_setIfInBounds]; exact hls, fun j hj => ?_, fun j h1 h2 => ?_, closed_set ho hkc hdep, ⟨h⟩⟩) hw.out
      · by_cases e : i = j
        · subst e; exact set_eq (by rw [hls]; omega)
        · rw [set_ne e]; exact hk3 j (by omega)
      · rw [set_ne (by omega)]; exact hk4 j (by omega) h2
  · intro lst a x hI hno
    rcases hI with ⟨val, T⟩ | ⟨k, hk1, hk2, hls, hk3, hk4, hkc, hw⟩
    · have all : ∀ j, j < n → lst.getD j false = true := by
        intro j
        induction j using Nat.strongRecOn with
        | ind j ih =>
          intro hj
          obtain ⟨o, ho⟩ : ∃ o, l[j]? = some o := ⟨_, List.getElem?_eq_getElem (by omega)⟩
          refine got_of (hno j o (by rw [get]; exact ho) (fun e he hb => ?_)) (by rw [T.ls]; omega)
          have := (regB_at hB ho).2.1 e he hb
          exact ih e.on this (by omega)
      by_cases hnl : n < l.length
      · exfalso
        obtain ⟨o, ho⟩ : ∃ o, l[n]? = some o := ⟨_, List.getElem?_eq_getElem hnl⟩
        have := hno n o (by rw [get]; exact ho) (fun e he hb => all e.on ((regB_at hB ho).2.1 e he hb))
        rw [T.post n (Nat.le_refl _) hnl] at this
        cases this
      · have hE := hend a x val T.q T.size T.defers T.other (fun j t sp ht hsp => T.facts j t sp ht hsp (all j (by have := (List.getElem?_eq_some_iff.1 hsp).1; omega))) (fun j k hj hk hjk => T.apart j k hj hk hjk (all j (hAn j hj)) (all k (hAn k hk)))
        rw [List.drop_eq_nil_of_le (by omega)] at hE
        exact hE.out
    · by_cases hkl : k < l.length
      · exfalso
        obtain ⟨o, ho⟩ : ∃ o, l[k]? = some o := ⟨_, List.getElem?_eq_getElem hkl⟩
        have := hno k o (by rw [get]; exact ho) (fun e he hb => got_of (hk3 e.on ((regB_at hB ho).2.1 e he hb)) (by rw [hls]; have := (regB_at hB ho).2.1 e he hb; omega))
        rw [hk4 k (Nat.le_refl _) hkl] at this
        cases this
      · rw [List.drop_eq_nil_of_le (by omega)] at hw
        exact hw.out
section
variable {P : Program} {R : Exit → Act → World → Prop} {a : Act} {x x' : World} {rest : List Oper}
theorem post_skip {o : Oper} (hd : o.dst = none) (hr : (execOp a.eval o).run P x = .ok .skip x') (h : wpPost P R rest a x') : wpPost P R (o :: rest) a x := by
  show o.wp P a x (fun a' w' => wpPost P R rest a' w') R
  unfold Oper.wp
  rw [hr, Oper.upon_skip, hd]
  exact h
theorem post_run {o : Oper} {t : Nat} {v : Value} (hd : o.dst = some t) (hr : (execOp a.eval o).run P x = .ok (.value v) x') (h : wpPost P R rest (a.put (some t) v) x') : wpPost P R (o :: rest) a x := by
  show o.wp P a x (fun a' w' => wpPost P R rest a' w') R
  unfold Oper.wp
  rw [hr, Oper.upon_value, hd]
  exact h
end
end Go.Proofs.Ytpobgkcobgecoaa

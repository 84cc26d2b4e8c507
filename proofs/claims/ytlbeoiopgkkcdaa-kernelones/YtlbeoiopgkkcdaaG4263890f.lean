/- Appending to a list without room: what lies where. -/
import Derived.Test.YtlbeoiopgkkcdaaG5a24c025
import Derived.Laws.Append
import Derived.Laws.AppendOwn
import Derived.OwnWalk
import Derived.Test.YtlbeoiopgkkcdaaG5f31e9cc
import Derived.Test.YtlbeoiopgkkcdaaG40d86f15
import Derived.Test.YtlbeoiopgkkcdaaG713d4e62
namespace Go.Proofs.Ytlbeoiopgkkcdaa
open Go.RowKit

theorem run_app_new {P : Program} (w : World) (t ty e : TypeId) (i : TypeInfo) (z : Value) (ht : P.underlying t = some (.slice e)) (hi : P.info? e = some i) (hz : i.zero = some z)
    (v : Value) (hv : v = .slice none 0 0 ∨ ∃ b, v = .slice (some b) 0 0) (ad : Addr) (m c : Nat) (news : List Value) (hl : news.length = m * i.size) (hnews : ∀ j u, news[j]? = some u → w.cell? (ad.add j) = some u)
    (h0 : 0 < m) (h63 : m ≤ 1125899906842624) (hby : m * i.bytes ≤ 140737488355328) :
    ∃ cap w', (Builtin.append_ #[t, t] ty #[v, .slice (some ad) m c]).run P w = .ok (.slice (some ⟨w.heap.size, 0, none⟩) m cap) w' ∧ Q w w' ∧ m ≤ cap ∧ w'.heap.size = w.heap.size + 1 ∧
      (∀ j u, news[j]? = some u → w'.cell? ⟨w.heap.size, j, none⟩ = some u) ∧ ∀ j, w'.frozen? ⟨w.heap.size, j, none⟩ = false := by
  have fin : ∀ (cs : Array Value), (∀ (j : Nat) (u : Value), news[j]? = some u → cs[j]? = some u) → Q w (w.drew.alloc (.cells cs e)) ∧ (w.drew.alloc (.cells cs e)).heap.size = w.heap.size + 1 ∧
      (∀ (j : Nat) (u : Value), news[j]? = some u → (w.drew.alloc (.cells cs e)).cell? ⟨w.heap.size, j, none⟩ = some u) ∧ ∀ j, (w.drew.alloc (.cells cs e)).frozen? ⟨w.heap.size, j, none⟩ = false := by
    intro cs hcs
    have hb : (w.drew.alloc (.cells cs e)).heap[w.heap.size]? = some (.cells cs e (0, 0)) := heap_alloc_new w.drew _
    refine ⟨(Q.refl w).drew.cells _ _, by simp, fun j u hu => ?_, fun j => frozen_of_row _ _ _ _ _ hb⟩
    rw [cell_of_row _ _ j cs e (0, 0) hb]
    exact hcs j u hu
  have key : ∀ (n : Nat) (j : Nat) (u : Value), news[j]? = some u → (news.toArray ++ Builtin.zeroCells z.cells n)[j]? = some u := by
    intro n j u hu
    have hj : j < news.length := (List.getElem?_eq_some_iff.1 hu).1
    rw [Array.getElem?_append_left (by simpa using hj)]
    simpa using hu
  rcases hv with rfl | ⟨b, rfl⟩
  · have hr := run_append_nil (P := P) w t ty e i z ht hi hz ad m c news hl hnews h0 (by omega) (by omega)
    obtain ⟨q1, q2, q3, q4⟩ := fin _ (key (grownCap w m 0 e - m))
    exact ⟨_, _, hr, q1, grownCap_ge w m 0 e, q2, q3, q4⟩
  · have hr := run_append_grow (P := P) w t ty e i z ht hi hz b 0 0 [] (by simp) (fun j v h => by simp at h) ad m c news hl hnews (by omega) (by omega) (growslice_fits (by omega) (by rw [Nat.zero_add]; exact hby))
    simp only [Nat.zero_add, Array.empty_append] at hr
    obtain ⟨q1, q2, q3, q4⟩ := fin _ (key (grownCap w m 0 e - m))
    exact ⟨_, _, hr, q1, grownCap_ge w m 0 e, q2, q3, q4⟩

/-- In a list of operations. -/
theorem wpList_app {P : Program} (w : World) {ops : Array Oper} {rest : List Oper} {o : Oper} {a : Act} {R : Exit → Act → World → Prop} (hgd : o.guard = none) (s x : Operand) (t : TypeId)
    (ho : o.op = .call { callee := .builtin .append, args := #[s, x], argTypes := #[t, t] })
    (e : TypeId) (i : TypeInfo) (z : Value) (ht : P.underlying t = some (.slice e)) (hi : P.info? e = some i) (hz : i.zero = some z)
    (v : Value) (hv : v = .slice none 0 0 ∨ ∃ b, v = .slice (some b) 0 0) (hs : a.eval s = v) (ad : Addr) (m c : Nat) (news : List Value) (hx : a.eval x = .slice (some ad) m c) (hl : news.length = m * i.size) (hnews : ∀ j u, news[j]? = some u → w.cell? (ad.add j) = some u)
    (h0 : 0 < m) (h63 : m ≤ 1125899906842624) (hby : m * i.bytes ≤ 140737488355328)
    (h : ∀ cap w', Q w w' → m ≤ cap → w'.heap.size = w.heap.size + 1 → (∀ j u, news[j]? = some u → w'.cell? ⟨w.heap.size, j, none⟩ = some u) → (∀ j, w'.frozen? ⟨w.heap.size, j, none⟩ = false) → wpList P ops R rest (a.put o.dst (.slice (some ⟨w.heap.size, 0, none⟩) m cap)) w') :
    wpList P ops R (o :: rest) a w := by
  obtain ⟨cap, w', hr, h1, h2, h3, h4, h5⟩ := run_app_new (P := P) w t o.type e i z ht hi hz v hv ad m c news hl hnews h0 h63 hby
  refine wpList_plain hgd fun _ hK => ?_
  unfold Oper.wp execOp
  simp only [ho, resolve, invoke, builtin, Sem.run_bind, Sem.run_pure, Result.andThen_ok, List.map_toArray, List.map_cons, List.map_nil, hs, hx, hr]
  exact hK _ _ (h cap w' h1 h2 h3 h4 h5)
end Go.Proofs.Ytlbeoiopgkkcdaa
/- Lists lent out. -/
namespace Go.Proofs.Ytlbeoiopgkkcdaa
open Go.RowKit
set_option linter.unusedVariables false
set_option linter.unusedSimpArgs false

theorem run_app_zeroI {P : Program} (w : World) (t ty e : TypeId) (i : TypeInfo) (ht : P.underlying t = some (.slice e)) (hi : P.info? e = some i) (a : Option Addr) (c : Nat) : (Builtin.append_ #[t, t] ty #[.slice none 0 0, .slice a 0 c]).run P w = .ok (.slice none 0 0) w := by
  cases a <;> simp [Builtin.append_, run_underlying ht, sizeOf, typeInfo, hi, Builtin.lenOf, Builtin.firstCells, loadCells, loadCellsFrom]
/-- Appending weights to nothing. -/
theorem wpList_lendI (w : World) {ops : Array Oper} {rest : List Oper} {o : Oper} {a : Act} {R : Exit → Act → World → Prop} (hgd : o.guard = none) (x : Operand)
    (ho : o.op = .call { callee := .builtin .append, args := #[.const (.slice none 0 0), x], argTypes := #[36, 36] })
    (ad : Option Addr) (n c : Nat) (xs : List Int) (hn : xs.length = n) (h100 : n ≤ 2000) (hx : a.eval x = .slice ad n c) (hS : ISl w (.slice ad n c) xs)
    (h : ∀ la lc w', Q w w' → ISl w' (.slice la n lc) xs → wpList Try.prog ops R rest (a.put o.dst (.slice la n lc)) w') :
    wpList Try.prog ops R (o :: rest) a w := by
  obtain ⟨iu, i1, i2, i3, i4⟩ := iInfo
  refine wpList_plain hgd fun _ hK => ?_
  unfold Oper.wp execOp
  by_cases h0 : n = 0
  · subst h0
    have hr := run_app_zeroI (P := Try.prog) w 36 o.type 3 iu Try.underlying36 i1 ad c
    simp only [ho, resolve, invoke, builtin, Sem.run_bind, Sem.run_pure, Result.andThen_ok, List.map_toArray, List.map_cons, List.map_nil, Act.eval, hr]
    simp only [Act.eval] at hx
    rw [hx, hr]
    exact hK _ _ (h none 0 w (Q.refl w) (Or.inr ⟨_, _, rfl, List.length_eq_zero_iff.1 hn⟩))
  · obtain ⟨g, o', c', e1, e3⟩ := hS.some (by omega)
    have hx' := hx
    rw [e1] at hx'
    obtain ⟨lc, w', hr, q1, q2, q3, q4, q5⟩ := run_app_new (P := Try.prog) w 36 o.type 3 iu _ Try.underlying36 i1 i4 _ (Or.inl rfl) ⟨g, o', none⟩ xs.length c' (xs.map fun (x : Int) => Value.int .i64 x) (by rw [i2, List.length_map, Nat.mul_one]) (fun j u hj => by
      rw [List.getElem?_map] at hj
      have hjl : j < xs.length := by
        cases g : xs[j]? with
        | none => rw [g] at hj; cases hj
        | some y => exact (List.getElem?_eq_some_iff.1 g).1
      rw [show (⟨g, o', none⟩ : Addr).add j = ⟨g, o' + j, none⟩ by unfold Addr.add; split <;> simp_all]
      rw [e3 j hjl, List.getD_eq_getElem?_getD]
      rw [List.getElem?_eq_getElem hjl] at hj ⊢
      exact hj) (by omega) (by omega) (by rw [i3]; omega)
    simp only [ho, resolve, invoke, builtin, Sem.run_bind, Sem.run_pure, Result.andThen_ok, List.map_toArray, List.map_cons, List.map_nil, Act.eval]
    simp only [Act.eval] at hx'
    rw [hx', hr]
    refine hK _ _ ?_
    have hh := h (some ⟨w.heap.size, 0, none⟩) lc w' q1 (Or.inl ⟨w.heap.size, 0, lc, by rw [hn], fun j hj => ?_⟩)
    · rw [hn]; exact hh
    · rw [Nat.zero_add]
      refine q4 j _ ?_
      rw [List.getElem?_map, List.getD_eq_getElem?_getD, List.getElem?_eq_getElem hj]; rfl
end Go.Proofs.Ytlbeoiopgkkcdaa
/- Rows of binomial numbers and of ones, both ways. -/
namespace Go.Proofs.Ytlbeoiopgkkcdaa
open Go.RowKit
set_option linter.unusedVariables false
set_option linter.unusedSimpArgs false

theorem Il.start (w : World) : Il w w (.slice none 0 0) [] 0 := ⟨rfl, World.ownsRow_nil _ _ _ _, Q.refl w⟩
theorem Il.next {w0 wr wx : World} {v : Value} {L : List Int} {n : Nat} (h : Il w0 wr v L n) (q : Q wr wx) : Il w0 wx v L n := ⟨h.len, own_q (w0 := w0) h.o q, h.q.trans q⟩
theorem Il.base {w w0 wr : World} {v : Value} {L : List Int} {n : Nat} (h : Il w0 wr v L n) (q : Q w w0) : Il w wr v L n := ⟨h.len, own_low h.o q.1.size, q.trans h.q⟩
theorem Il.one (w : World) (z : Int) : Il w (w.alloc (.cells #[.int .i64 z] 3)) (.slice (some ⟨w.heap.size, 0, none⟩) 1 1) [z] 1 :=
  ⟨rfl, ⟨rfl, Or.inr ⟨w.heap.size, 1, #[.int .i64 z], rfl, Nat.le_refl _, by show (w.heap.push _)[w.heap.size]? = _; simp, by decide, by unfold maxLen; decide, rfl, rfl⟩⟩, (Q.refl w).cells _ _⟩
set_option maxHeartbeats 1000000 in
theorem bin_bad (r : Int) (w : World) (h : r < 0 ∨ 8 < r) : Calls Try.prog 18 #[.int .i64 r] w fun e w' => e = .returned (.tuple #[.slice none 0 0, .int .i64 91]) ∧ w' = w := by
  by_cases h1 : r < 0
  · clear h
    go_enter Try.func18, Try.ntmps18
    go_wp2_with fail
    go_ret2
    exact ⟨rfl, rfl⟩
  · have h2 : 8 < r := by omega
    clear h
    go_enter Try.func18, Try.ntmps18
    go_wp2_with fail
    go_ret2
    exact ⟨rfl, rfl⟩
set_option maxHeartbeats 1000000 in
theorem flat_bad (r : Int) (w : World) (h : r < 0 ∨ 31 < r) : Calls Try.prog 20 #[.int .i64 r] w fun e w' => e = .returned (.tuple #[.slice none 0 0, .int .i64 91]) ∧ w' = w := by
  by_cases h1 : r < 0
  · clear h
    go_enter Try.func20, Try.ntmps20
    go_wp2_with fail
    go_ret2
    exact ⟨rfl, rfl⟩
  · have h2 : 31 < r := by omega
    clear h
    go_enter Try.func20, Try.ntmps20
    go_wp2_with fail
    go_ret2
    exact ⟨rfl, rfl⟩
set_option maxHeartbeats 1000000 in
theorem rbin_bad (r : Int) (w : World) (h : r < 0 ∨ 8 < r) : Calls Try.prog 17 #[.int .i64 r] w fun e w' => e = .returned (.tuple #[.slice none 0 0, .int .i64 91]) ∧ w' = w := by
  by_cases h1 : r < 0
  · clear h
    go_enter Try.func17, Try.ntmps17
    go_wp2_with fail
    go_ret2
    exact ⟨rfl, rfl⟩
  · have h2 : 8 < r := by omega
    clear h
    go_enter Try.func17, Try.ntmps17
    go_wp2_with fail
    go_ret2
    exact ⟨rfl, rfl⟩
set_option maxHeartbeats 1000000 in
theorem rflat_bad (r : Int) (w : World) (h : r < 0 ∨ 31 < r) : Calls Try.prog 19 #[.int .i64 r] w fun e w' => e = .returned (.tuple #[.slice none 0 0, .int .i64 91]) ∧ w' = w := by
  by_cases h1 : r < 0
  · clear h
    go_enter Try.func19, Try.ntmps19
    go_wp2_with fail
    go_ret2
    exact ⟨rfl, rfl⟩
  · have h2 : 31 < r := by omega
    clear h
    go_enter Try.func19, Try.ntmps19
    go_wp2_with fail
    go_ret2
    exact ⟨rfl, rfl⟩
set_option maxHeartbeats 2000000 in
set_option maxRecDepth 100000 in
theorem flat_good (r : Nat) (w : World) (hr : r ≤ 31) : Calls Try.prog 20 #[.int .i64 (r : Int)] w fun e w' => ∃ g, e = .returned (.tuple #[.slice (some ⟨g, 0, none⟩) (2 * r + 1) (2 * r + 1), .int .i64 0]) ∧ IRow w' g (tabI (2 * r + 1) fun _ => 1) ∧ Q w w' := by
  have a1 : ¬ (r : Int) < 0 := by omega
  have a2 : ¬ (31 : Int) < (r : Int) := by omega
  obtain ⟨N, hN⟩ : ∃ N, N = 2 * r + 1 := ⟨_, rfl⟩
  have eN : 2 * (r : Int) + 1 = (N : Int) := by omega
  have hN2 : N ≤ 63 := by omega
  rw [← hN]
  obtain ⟨M, hM, hF⟩ := make_i N (by omega)
  have HF : Hid (IRow (w.alloc (.cells M 3)) w.heap.size (tabI N fun i => if i < 0 then 1 else 0)) := by
    have h := hF w
    rw [tabI_zero] at h
    rw [tabI_congr (g := fun _ => 0) (fun i _ => by simp)]
    exact h
  clear hN hF
  go_enter Try.func20, Try.ntmps20
  go_wp2_with fail
  go_loopg [5, 18] N (fun gh s5 s18 wr => ∃ i : Nat, s18 = .int .i64 (i : Int) ∧ i ≤ N ∧ gh = N - i ∧ Hid (IRow wr w.heap.size (tabI N fun j => if j < i then 1 else 0) ∧ Q w wr))
  case atStart => exact ⟨0, rfl, Nat.zero_le _, rfl, HF.out, (Q.refl w).cells _ _⟩
  case round =>
    clear HF
    obtain ⟨i, rfl, hi, rfl, HI⟩ := hrel
    by_cases hlt : i < N
    · have hltz : (i : Int) < (N : Int) := by omega
      have c1 := HI.out.1.cell i _ (tabI_at hlt)
      have f1 := HI.out.1.free i
      have HI2 : Hid (IRow (wr.setCell ⟨w.heap.size, i, none⟩ (.int .i64 1)) w.heap.size (tabI N fun j => if j < i + 1 then 1 else 0) ∧ Q w (wr.setCell ⟨w.heap.size, i, none⟩ (.int .i64 1))) := by
        refine ⟨?_, HI.out.2.set (Nat.le_refl _) _⟩
        have := HI.out.1.set (i := i) (by rw [tabI_len]; exact hlt) 1
        rw [tabI_set (g := fun j => if j < i + 1 then 1 else 0) (by simp) (fun j hj => by
          by_cases c : j < i
          · simp [c, show j < i + 1 by omega]
          · simp [c, show ¬ j < i + 1 by omega])] at this
        exact this
      obtain ⟨u, hu⟩ : ∃ u : Int, (if i < i then (1 : Int) else 0) = u := ⟨_, rfl⟩
      rw [hu] at c1
      clear HI hu
      go_wp2_with fail
      generalize wr.setCell ⟨w.heap.size, i, none⟩ (.int .i64 1) = w3 at HI2 ⊢
      go_roundg (N - (i + 1))
      case measure => go_light; omega
      case rel => go_light; exact ⟨i + 1, by simp, by omega, rfl, HI2⟩
    · have hge : ¬ (i : Int) < (N : Int) := by omega
      obtain rfl : i = N := by omega
      have HE : Hid (IRow wr w.heap.size (tabI i fun _ => 1)) := by
        have := HI.out.1
        rw [tabI_congr (g := fun _ => 1) (fun j hj => by simp [hj])] at this
        exact this
      go_wp2_with fail
      go_ret2
      exact ⟨_, rfl, HE.out, HI.out.2⟩
set_option maxHeartbeats 2000000 in
set_option maxRecDepth 100000 in
theorem rflat_good (r : Nat) (w : World) (hr : r ≤ 31) : Calls Try.prog 19 #[.int .i64 (r : Int)] w fun e w' => ∃ v n, e = .returned (.tuple #[v, .int .i64 0]) ∧ Il w w' v (tabI (2 * r + 1) fun _ => 1) n := by
  have a1 : ¬ (r : Int) < 0 := by omega
  have a2 : ¬ (31 : Int) < (r : Int) := by omega
  obtain ⟨N, hN⟩ : ∃ N, N = 2 * r + 1 := ⟨_, rfl⟩
  have eN : 2 * (r : Int) + 1 = (N : Int) := by omega
  have hN2 : N ≤ 63 := by omega
  rw [← hN]
  clear hN
  go_enter Try.func19, Try.ntmps19
  go_wp2_with fail
  go_loopg [4, 5] N (fun gh s4 s5 wr => ∃ (i : Nat) (ad : Option Addr) (c : Nat), s4 = .slice ad i c ∧ s5 = .int .i64 (i : Int) ∧ i ≤ N ∧ gh = N - i ∧ Hid (Il w wr (.slice ad i c) (tabI i fun _ => 1) i))
  case atStart => exact ⟨0, none, 0, rfl, rfl, Nat.zero_le _, rfl, Il.start w⟩
  case round =>
    obtain ⟨i, ad, c, rfl, rfl, hi, rfl, HI⟩ := hrel
    by_cases hlt : i < N
    · have hltz : (i : Int) < (N : Int) := by omega
      obtain ⟨g2, c2, x2, r1, HN⟩ := HI.out.app 1 (by omega)
      rw [← tabI_snoc (f := fun _ => 1)] at HN
      have HI2 : Hid (Il w x2 (.slice (some ⟨g2, 0, none⟩) (i + 1) c2) (tabI (i + 1) fun _ => 1) (i + 1)) := HN
      clear HN HI
      go_wp2_with (at_builtin; go_must (refine wpList_appK (.tmp 19) (.tmp 20) 36 rfl rfl (by simp [Act.eval, Act.put]) (by simp [Act.eval, Act.put]) r1 ?_))
      go_roundg (N - (i + 1))
      case measure => go_light; omega
      case rel => go_light; exact ⟨i + 1, _, _, rfl, by simp, by omega, rfl, HI2⟩
    · have hge : ¬ (i : Int) < (N : Int) := by omega
      obtain rfl : i = N := by omega
      go_wp2_with fail
      go_ret2
      exact ⟨_, rfl, i, HI.out⟩
end Go.Proofs.Ytlbeoiopgkkcdaa
/- The document's rows of binomial numbers. -/
namespace Go.Proofs.Ytlbeoiopgkkcdaa
open Go.RowKit
set_option linter.unusedVariables false
set_option linter.unusedSimpArgs false

/-- Pascal's rows. -/
def pasc : Nat → Nat → Int
  | _, 0 => 1
  | 0, _ + 1 => 0
  | n + 1, k + 1 => pasc n k + pasc n (k + 1)
theorem pasc_bin : ∀ r : Nat, r ≤ 8 → tabI (2 * r + 1) (binV (2 * (r : Int))) = tabI (2 * r + 1) (pasc (2 * r)) := by decide
theorem pasc_bd : ∀ n : Nat, n ≤ 16 → ∀ k : Nat, k ≤ 17 → 0 ≤ pasc n k ∧ pasc n k ≤ 20000 := by decide
theorem pasc_top : ∀ n : Nat, pasc n n = 1 ∧ ∀ k, n < k → pasc n k = 0
  | 0 => ⟨rfl, fun k hk => by cases k with | zero => omega | succ k => rfl⟩
  | n + 1 => by
    obtain ⟨h1, h2⟩ := pasc_top n
    refine ⟨?_, fun k hk => ?_⟩
    · show pasc n n + pasc n (n + 1) = 1
      rw [h1, h2 (n + 1) (by omega)]; rfl
    · cases k with
      | zero => omega
      | succ k => show pasc n k + pasc n (k + 1) = 0; rw [h2 k (by omega), h2 (k + 1) (by omega)]; rfl
theorem tab_pasc_zero (n : Nat) : tabI 1 (pasc n) = [1] := by unfold tabI; cases n <;> rfl
theorem tab_pasc_top (n : Nat) : tabI (n + 1) (pasc (n + 1)) ++ [1] = tabI (n + 1 + 1) (pasc (n + 1)) := by rw [tabI_snoc (n + 1), (pasc_top (n + 1)).1]
set_option maxHeartbeats 4000000 in
set_option maxRecDepth 100000 in
theorem rbin_good (r : Nat) (w : World) (hr : r ≤ 8) : Calls Try.prog 17 #[.int .i64 (r : Int)] w fun e w' => ∃ v n, e = .returned (.tuple #[v, .int .i64 0]) ∧ Il w w' v (tabI (2 * r + 1) (pasc (2 * r))) n := by
  have a1 : ¬ (r : Int) < 0 := by omega
  have a2 : ¬ (8 : Int) < (r : Int) := by omega
  obtain ⟨t, ht⟩ : ∃ t : Nat, t = 2 * r := ⟨_, rfl⟩
  obtain ⟨t1, ht1⟩ : ∃ t1 : Nat, t1 = 2 * r + 1 := ⟨_, rfl⟩
  have et : 2 * (r : Int) + 1 = (t1 : Int) := by omega
  have HT1 : Hid (t1 = t + 1) := by show t1 = t + 1; omega
  have ht2 : t ≤ 16 := by omega
  have ht3 : t1 ≤ 17 := by omega
  rw [← ht]
  have H0 : Hid (Il w (w.alloc (.cells #[.int .i64 1] 3)) (.slice (some ⟨w.heap.size, 0, none⟩) 1 1) (tabI 1 (pasc 0)) 1) := Il.one w 1
  have HB : Hid (∀ n : Nat, n ≤ 16 → ∀ k : Nat, k ≤ 17 → 0 ≤ pasc n k ∧ pasc n k ≤ 20000) := pasc_bd
  clear ht ht1 hr
  go_enter Try.func17, Try.ntmps17
  go_wp2_with fail
  go_loopg [4, 5, 6] t (fun gh s4 s5 s6 wr => ∃ (m m1 : Nat) (g c : Nat), s4 = .slice (some ⟨g, 0, none⟩) m1 c ∧ Hid (m1 = m + 1) ∧ m ≤ t ∧ gh = t - m ∧ m1 ≤ 17 ∧ 1 ≤ m1 ∧ Hid (Il w wr (.slice (some ⟨g, 0, none⟩) m1 c) (tabI (m + 1) (pasc m)) m1))
  case atStart => exact ⟨0, 1, _, _, rfl, rfl, Nat.zero_le _, rfl, by omega, Nat.le_refl _, H0⟩
  case round =>
    clear H0
    obtain ⟨m, m1, g, c, rfl, HM, hm, rfl, hm17, hm01, HI⟩ := hrel
    generalize wr = wo at *
    by_cases hlt : m < t
    · have hltz : (m1 : Int) < (t1 : Int) := by have := HM.out; have := HT1.out; omega
      have H1 : Hid (Il wo (wo.alloc (.cells #[.int .i64 1] 3)) (.slice (some ⟨wo.heap.size, 0, none⟩) 1 1) (tabI 1 (pasc (m + 1))) 1) := by rw [tab_pasc_zero]; exact Il.one wo 1
      go_wp2_with fail
      go_loopg [5, 6] (m1 - 1) (fun gh s5 s6 wx => ∃ (i : Nat) (g' c' : Nat), s5 = .slice (some ⟨g', 0, none⟩) i c' ∧ s6 = .int .i64 (i : Int) ∧ 1 ≤ i ∧ i ≤ m1 ∧ gh = m1 - i ∧ Hid (Il wo wx (.slice (some ⟨g', 0, none⟩) i c') (tabI i (pasc (m + 1))) i))
      case atStart => exact ⟨1, _, _, rfl, rfl, Nat.le_refl _, hm01, by omega, H1⟩
      case round =>
        clear H1
        obtain ⟨i, g', c', rfl, rfl, hi1, him, rfl, HX⟩ := hrel
        by_cases hi : i < m1
        · have hiz : (i : Int) < (m1 : Int) := by omega
          obtain ⟨j, hj⟩ : ∃ j, i = j + 1 := ⟨i - 1, by omega⟩
          have ej : (i : Int) - 1 = (j : Int) := by omega
          have hjz : (j : Int) < (m1 : Int) := by omega
          have hjm : j < m1 := by omega
          have k1 := HX.out.q.cell (own_at HI.out.o (i := j) (z := pasc m j) (tabI_at (by have := HM.out; omega)) (by rw [tabI_len]; exact HM.out.symm))
          have k2 := HX.out.q.cell (own_at HI.out.o (i := i) (z := pasc m i) (tabI_at (by have := HM.out; omega)) (by rw [tabI_len]; exact HM.out.symm))
          have b1 := HB.out m (by omega) j (by omega)
          have b2 := HB.out m (by omega) i (by omega)
          obtain ⟨x, hx⟩ : ∃ x, pasc m j = x := ⟨_, rfl⟩
          obtain ⟨y, hy⟩ : ∃ y, pasc m i = y := ⟨_, rfl⟩
          rw [hx] at k1 b1
          rw [hy] at k2 b2
          have HXY : Hid (tabI i (pasc (m + 1)) ++ [x + y] = tabI (i + 1) (pasc (m + 1))) := by
            show tabI i (pasc (m + 1)) ++ [x + y] = _
            rw [tabI_snoc]
            congr 2
            rw [hj]
            show x + y = pasc m j + pasc m (j + 1)
            rw [hx, ← hj, hy]
          obtain ⟨b1a, b1b⟩ := b1
          obtain ⟨b2a, b2b⟩ := b2
          have wxy : IntKind.i64.wrap (x + y) = x + y := by rw [IntKind.wrap_i64]; omega
          have wj : IntKind.i64.wrap (j : Int) = (j : Int) := by rw [IntKind.wrap_i64]; omega
          have n0 := qw_some wr
          have f0 := qw_cell k1
          have f1 := qw_cell k2
          clear hx hy hj
          go_wp2_with fail
          refine wp_region_mk [0, 1, 2, 3, 4, 5, 6, 7, 8, 9, 10] [[11, 12, 13]] 3 _ (by kernel_rfl) (by kernel_rfl) rfl (by kernel_rfl) ?_
          simp only [List.filterMap_cons, List.filterMap_nil, List.getElem?_cons_zero, List.getElem?_cons_succ]
          repeat (first | go_big_quiet_step (fail) | quiet_step (fail))
          refine wpQuiet_nil ?_
          intro x5 hx5
          clear f0 f1 n0 k1 k2
          obtain ⟨g2, c2, x6, r1, HN⟩ := (HX.out.next hx5).app (x + y) (by omega)
          rw [HXY.out] at HN
          have HI2 : Hid (Il wo x6 (.slice (some ⟨g2, 0, none⟩) (i + 1) c2) (tabI (i + 1) (pasc (m + 1))) (i + 1)) := HN
          refine tree_run 11 rfl rfl (v := .slice (some ⟨x5.heap.size, 0, none⟩) 1 1) (x' := x5.alloc (.cells #[.int .i64 (x + y)] 3)) (by simp [execOp, go_sem]) (hx5.cells _ _) ?_
          refine tree_runF 12 rfl rfl rfl (v := .slice (some ⟨g2, 0, none⟩) (i + 1) c2) (x' := x6) (by simp [execOp, resolve, invoke, builtin, Act.eval, Act.put, r1]) ?_
          refine tree_runF 13 rfl rfl rfl (v := .slice (some ⟨g2, 0, none⟩) (i + 1) c2) (x' := x6) (by simp [execOp, go_sem]) ?_
          refine tree_nil ?_
          clear HN r1 hx5 HX
          go_wp2_with fail
          go_roundg (m1 - (i + 1))
          case measure => go_light; omega
          case rel => go_light; exact ⟨i + 1, _, _, rfl, by simp, by omega, by omega, rfl, HI2⟩
        · have hige : ¬ (i : Int) < (m1 : Int) := by omega
          obtain rfl : i = m1 := by omega
          obtain ⟨g2, c2, x6, r1, HN⟩ := HX.out.app 1 (by omega)
          have HI2 : Hid (Il w x6 (.slice (some ⟨g2, 0, none⟩) (i + 1) c2) (tabI (m + 1 + 1) (pasc (m + 1))) (i + 1)) := by
            have := HN.base HI.out.q
            rw [HM.out, tab_pasc_top] at this
            rw [HM.out]; exact this
          clear HN
          go_wp2_with (at_builtin; go_must (refine wpList_appK (.tmp 40) (.tmp 41) 36 rfl rfl (by simp [Act.eval, Act.put]) (by simp [Act.eval, Act.put]) r1 ?_))
          go_roundg (t - (m + 1))
          case measure => go_light; omega
          case rel => go_light; exact ⟨m + 1, i + 1, _, _, rfl, (by show i + 1 = m + 1 + 1; have := HM.out; omega), by omega, rfl, by have := HM.out; omega, by omega, HI2⟩
    · have hge : ¬ (m1 : Int) < (t1 : Int) := by have := HM.out; have := HT1.out; omega
      obtain rfl : m = t := by omega
      go_wp2_with fail
      go_ret2
      exact ⟨_, rfl, m1, HI.out⟩
end Go.Proofs.Ytlbeoiopgkkcdaa
/- Weights sum to more than 0: plain. -/
namespace Go.Proofs.Ytlbeoiopgkkcdaa
set_option linter.unusedVariables false
set_option linter.unusedSimpArgs false

theorem sumF_split (f : Nat → Int) (a : Nat) : ∀ b, sumF f (a + b) = sumF f a + sumF (fun i => f (a + i)) b
  | 0 => by simp [sumF]
  | b + 1 => by show sumF f (a + b) + f (a + b) = _ + (sumF (fun i => f (a + i)) b + f (a + b)); rw [sumF_split f a b]; omega
/-- Cubic's weights, from below: close to the middle, near, far. -/
theorem cub_mid {c m : Int} (hc : 0 ≤ c) (hm : c ≤ m) (h0 : 0 < m) : 9 * (m * m * m) ≤ cubV c (2 * m) := by
  unfold cubV
  rw [if_pos (by omega)]
  obtain ⟨x, rfl⟩ : ∃ x, m = c + x := ⟨m - c, by omega⟩
  have hx : 0 ≤ x := by omega
  have p1 : 0 ≤ c * c * x := Int.mul_nonneg (Int.mul_nonneg hc hc) hx
  have p2 : 0 ≤ c * x * x := Int.mul_nonneg (Int.mul_nonneg hc hx) hx
  have p3 : 0 ≤ x * x * x := Int.mul_nonneg (Int.mul_nonneg hx hx) hx
  have p4 : 0 ≤ c * c * c := Int.mul_nonneg (Int.mul_nonneg hc hc) hc
  have e : 3 * c * c * c - 5 * c * c * (2 * (c + x)) + 2 * (2 * (c + x)) * (2 * (c + x)) * (2 * (c + x)) = 9 * (c * c * c) + 38 * (c * c * x) + 48 * (c * x * x) + 16 * (x * x * x) := by grind
  have e2 : (c + x) * (c + x) * (c + x) = c * c * c + 3 * (c * c * x) + 3 * (c * x * x) + x * x * x := by grind
  rw [e, e2]
  omega
/-- 27 times the weight is at least -32 m^3: x (2 m - x)^2 is at most (4 m / 3)^3 / 2 .. -/
theorem cub_low {c m : Int} (hc : 0 ≤ c) (h0 : 0 < m) : -(32 * (m * m * m)) ≤ 27 * cubV c (2 * m) := by
  have hm3 : 0 ≤ m * m * m := Int.mul_nonneg (Int.mul_nonneg (by omega) (by omega)) (by omega)
  by_cases h1 : c < 2 * m
  · have := (cub_near hc h1).1; omega
  · by_cases h2 : c < 2 * (2 * m)
    · unfold cubV
      rw [if_neg h1, if_pos h2]
      -- c = 2 m + x, 0 <= x < 2 m: the weight is -x (2 m - x)^2
      obtain ⟨x, rfl⟩ : ∃ x, c = 2 * m + x := ⟨c - 2 * m, by omega⟩
      have hx : 0 ≤ x := by omega
      have e : -(2 * m + x) * (2 * m + x) * (2 * m + x) + 5 * (2 * m + x) * (2 * m + x) * (2 * m) - 8 * (2 * m + x) * (2 * m) * (2 * m) + 4 * (2 * m) * (2 * m) * (2 * m) = -(x * ((2 * m - x) * (2 * m - x))) := by grind
      rw [e]
      -- 32 m^3 - 27 x (2 m - x)^2 = (8 m - 3 x) (2 m - 3 x)^2
      have e2 : 32 * (m * m * m) - 27 * (x * ((2 * m - x) * (2 * m - x))) = (8 * m - 3 * x) * ((2 * m - 3 * x) * (2 * m - 3 * x)) := by grind
      have p : 0 ≤ (8 * m - 3 * x) * ((2 * m - 3 * x) * (2 * m - 3 * x)) := Int.mul_nonneg (by omega) (by
        rcases Int.le_total 0 (2 * m - 3 * x) with h | h
        · exact Int.mul_nonneg h h
        · have := Int.mul_nonneg (show 0 ≤ -(2 * m - 3 * x) by omega) (show 0 ≤ -(2 * m - 3 * x) by omega)
          rw [Int.neg_mul_neg] at this
          exact this)
      omega
    · unfold cubV; rw [if_neg h1, if_neg h2]; omega
/-- What stands from a to b. -/
def rng (f : Nat → Int) (a b : Nat) : Int := sumF (fun i => f (a + i)) (b - a)
theorem rng_split (f : Nat → Int) {a b : Nat} (h : a ≤ b) : sumF f b = sumF f a + rng f a b := by
  obtain ⟨k, rfl⟩ : ∃ k, b = a + k := ⟨b - a, by omega⟩
  unfold rng
  rw [Nat.add_sub_cancel_left]
  exact sumF_split f a k
theorem rng_low (f : Nat → Int) {a b : Nat} {c : Int} (hf : ∀ j, a ≤ j → j < b → c ≤ f j) : ((b - a : Nat) : Int) * c ≤ rng f a b := by
  have h := sumF_mono (f := fun _ => c) (g := fun i => f (a + i)) (b - a) (fun i hi => hf (a + i) (by omega) (by omega))
  rw [sumF_const] at h
  exact h
theorem six {f : Nat → Int} {A C1 C2 B N : Nat} {L H : Int} (h1 : 1 ≤ A) (h2 : A ≤ C1) (h3 : C1 ≤ C2) (h4 : C2 ≤ B) (h5 : B ≤ N) (f0 : 0 ≤ f 0) (fa : ∀ j, 1 ≤ j → j < A → L ≤ f j) (fb : ∀ j, A ≤ j → j < C1 → 0 ≤ f j) (fc : ∀ j, C1 ≤ j → j < C2 → H ≤ f j) (fd : ∀ j, C2 ≤ j → j < B → 0 ≤ f j) (fe : ∀ j, B ≤ j → j < N → L ≤ f j) :
    ((A - 1 : Nat) : Int) * L + ((C2 - C1 : Nat) : Int) * H + ((N - B : Nat) : Int) * L ≤ sumF f N := by
  have r1 := rng_low f (a := 1) (b := A) fa
  have r2 := rng_low f (a := A) (b := C1) fb
  have r3 := rng_low f (a := C1) (b := C2) fc
  have r4 := rng_low f (a := C2) (b := B) fd
  have r5 := rng_low f (a := B) (b := N) fe
  rw [rng_split f h5, rng_split f h4, rng_split f h3, rng_split f h2, rng_split f h1]
  have e1 : sumF f 1 = f 0 := by show 0 + f 0 = f 0; omega
  rw [e1]
  simp only [Int.mul_zero] at r2 r4
  omega
/-- The least k with st k at least mid + x. -/
def kx (st mid x : Int) : Int := (mid + x + st - 1) / st
theorem kx_prop {st mid x : Int} (hs : 0 < st) : mid + x ≤ st * kx st mid x ∧ st * kx st mid x < mid + x + st := by
  have a1 := Int.mul_ediv_add_emod (mid + x + st - 1) st
  have a2 := Int.emod_nonneg (mid + x + st - 1) (by omega : st ≠ 0)
  have a3 := Int.emod_lt_of_pos (mid + x + st - 1) hs
  unfold kx
  omega
theorem kx_le {st mid x k : Int} (hs : 0 < st) (h : mid + x ≤ st * k) : kx st mid x ≤ k := by
  have h1 := (kx_prop (mid := mid) (x := x) hs).2
  rcases Int.lt_or_le k (kx st mid x) with c | c
  · have h2 : st * (k + 1) ≤ st * kx st mid x := Int.mul_le_mul_of_nonneg_left (by omega) (by omega)
    rw [Int.mul_add] at h2
    omega
  · exact c
theorem kx_ge {st mid x k : Int} (hs : 0 < st) (h : kx st mid x ≤ k) : mid + x ≤ st * k := by
  have h1 := (kx_prop (mid := mid) (x := x) hs).1
  have h2 : st * kx st mid x ≤ st * k := Int.mul_le_mul_of_nonneg_left h (by omega)
  omega
theorem kx_lt {st mid x k : Int} (hs : 0 < st) (h : k < kx st mid x) : st * k < mid + x := by
  rcases Int.lt_or_le (st * k) (mid + x) with c | c
  · exact c
  · have := kx_le hs c; omega
end Go.Proofs.Ytlbeoiopgkkcdaa

/- Appending to a list without room: what lies where. -/
import Derived.Test.YtmfniimelibhfaaG7c903536
import Derived.Laws.Append
import Derived.Laws.AppendOwn
import Derived.OwnWalk
import Derived.Test.YtmfniimelibhfaaGd10cabb9
namespace Go.Proofs.Ytmfniimelibhfaa
open Go.RowKit

theorem run_app_new {P : Program} (w : World) (t ty e : TypeId) (i : TypeInfo) (z : Value) (ht : P.underlying t = some (.slice e)) (hi : P.info? e = some i) (hz : i.zero = some z)
    (v : Value) (hv : v = .slice none 0 0 ∨ ∃ b, v = .slice (some b) 0 0) (ad : Addr) (m c : Nat) (news : List Value) (hl : news.length = m * i.size) (hnews : ∀ j u, news[j]? = some u → w.cell? (ad.add j) = some u)
    (h0 : 0 < m) (h63 : m ≤ 1125899906842624) (hby : m * i.bytes ≤ 140737488355328) :
    ∃ cap w', (Builtin.append_ #[t, t] ty #[v, .slice (some ad) m c]).run P w = .ok (.slice (some ⟨w.heap.size, 0, none⟩) m cap) w' ∧ Q w w' ∧ m ≤ cap ∧ w'.heap.size = w.heap.size + 1 ∧
      (∀ j u, news[j]? = some u → w'.cell? ⟨w.heap.size, j, none⟩ = some u) ∧ ∀ j, w'.frozen? ⟨w.heap.size, j, none⟩ = false := by
  have fin : ∀ (cs : Array Value), (∀ (j : Nat) (u : Value), news[j]? = some u → cs[j]? = some u) → Q w (w.drew.alloc (.cells cs e)) ∧ (w.drew.alloc (.cells cs e)).heap.size = w.heap.size + 1 ∧
      (∀ (j : Nat) (u : Value), news[j]? = some u → (w.drew.alloc (.cells cs e)).cell? ⟨w.heap.size, j, none⟩ = some u) ∧ ∀ j, (w.drew.alloc (.cells cs e)).frozen? ⟨w.heap.size, j, none⟩ = false := by
    intro cs hcs
    have hb : (w.drew.alloc (.cells cs e)).heap[w.heap.size]? = some (.cells cs e (0, 0)) := heap_alloc_new w.drew _
    refine ⟨(Q.refl w).drew.cells _ _, by simp, fun j u hu => ?_, fun j => frozen_of_row _ _ _ _ _ hb⟩
    rw [cell_of_row _ _ j cs e (0, 0) hb]
    exact hcs j u hu
  have key : ∀ (n : Nat) (j : Nat) (u : Value), news[j]? = some u → (news.toArray ++ Builtin.zeroCells z.cells n)[j]? = some u := by
    intro n j u hu
    have hj : j < news.length := (List.getElem?_eq_some_iff.1 hu).1
    rw [Array.getElem?_append_left (by simpa using hj)]
    simpa using hu
  rcases hv with rfl | ⟨b, rfl⟩
  · have hr := run_append_nil (P := P) w t ty e i z ht hi hz ad m c news hl hnews h0 (by omega) (by omega)
    obtain ⟨q1, q2, q3, q4⟩ := fin _ (key (grownCap w m 0 e - m))
    exact ⟨_, _, hr, q1, grownCap_ge w m 0 e, q2, q3, q4⟩
  · have hr := run_append_grow (P := P) w t ty e i z ht hi hz b 0 0 [] (by simp) (fun j v h => by simp at h) ad m c news hl hnews (by omega) (by omega) (growslice_fits (by omega) (by rw [Nat.zero_add]; exact hby))
    simp only [Nat.zero_add, Array.empty_append] at hr
    obtain ⟨q1, q2, q3, q4⟩ := fin _ (key (grownCap w m 0 e - m))
    exact ⟨_, _, hr, q1, grownCap_ge w m 0 e, q2, q3, q4⟩

/-- In a list of operations. -/
theorem wpList_app {P : Program} (w : World) {ops : Array Oper} {rest : List Oper} {o : Oper} {a : Act} {R : Exit → Act → World → Prop} (hgd : o.guard = none) (s x : Operand) (t : TypeId)
    (ho : o.op = .call { callee := .builtin .append, args := #[s, x], argTypes := #[t, t] })
    (e : TypeId) (i : TypeInfo) (z : Value) (ht : P.underlying t = some (.slice e)) (hi : P.info? e = some i) (hz : i.zero = some z)
    (v : Value) (hv : v = .slice none 0 0 ∨ ∃ b, v = .slice (some b) 0 0) (hs : a.eval s = v) (ad : Addr) (m c : Nat) (news : List Value) (hx : a.eval x = .slice (some ad) m c) (hl : news.length = m * i.size) (hnews : ∀ j u, news[j]? = some u → w.cell? (ad.add j) = some u)
    (h0 : 0 < m) (h63 : m ≤ 1125899906842624) (hby : m * i.bytes ≤ 140737488355328)
    (h : ∀ cap w', Q w w' → m ≤ cap → w'.heap.size = w.heap.size + 1 → (∀ j u, news[j]? = some u → w'.cell? ⟨w.heap.size, j, none⟩ = some u) → (∀ j, w'.frozen? ⟨w.heap.size, j, none⟩ = false) → wpList P ops R rest (a.put o.dst (.slice (some ⟨w.heap.size, 0, none⟩) m cap)) w') :
    wpList P ops R (o :: rest) a w := by
  obtain ⟨cap, w', hr, h1, h2, h3, h4, h5⟩ := run_app_new (P := P) w t o.type e i z ht hi hz v hv ad m c news hl hnews h0 h63 hby
  refine wpList_plain hgd fun _ hK => ?_
  unfold Oper.wp execOp
  simp only [ho, resolve, invoke, builtin, Sem.run_bind, Sem.run_pure, Result.andThen_ok, List.map_toArray, List.map_cons, List.map_nil, hs, hx, hr]
  exact hK _ _ (h cap w' h1 h2 h3 h4 h5)
end Go.Proofs.Ytmfniimelibhfaa
/- What New and Knots return. -/
namespace Go.Proofs.Ytmfniimelibhfaa
open Go.RowKit

/-- Is a sample finite? -/
def finN (s : Nat) : Bool := decide (rung32 s < 2139095040)
theorem class_fin (a : Nat) : (classV (a : Int) != 1 && classV (a : Int) != 2) = finN a := by
  unfold finN rung32 classV expV fracV
  by_cases h1 : (a : Int) / 8388608 % 256 = 255
  · rw [if_pos h1, decide_eq_false (by omega)]
    split <;> rfl
  · rw [if_neg h1, decide_eq_true (by omega)]
    split
    · split <;> rfl
    · rfl
set_option maxHeartbeats 400000 in
theorem isfinite_any (a : Nat) (ha : a < 4294967296) (w : World) :
    Calls Try.prog 67 #[.int .u32 a] w fun e w' => e = .returned (.bool (finN a)) ∧ Q w w' := by
  have e1 := class_fin a
  go_enter Try.func67, Try.ntmps67
  go_wp2_with fail
  refine (class_any a (by omega) (by omega) _).mono ?_
  rintro e w1 ⟨rfl, q1⟩
  generalize classV (a : Int) = c at e1
  by_cases h1 : c = 1
  · subst h1
    go_wp2_with fail
    go_ret
    exact ⟨ret_bool (by rw [← e1]; rfl), q1⟩
  · have h2 : (c != 1) = true := by rw [bne_iff_ne]; exact h1
    have E1 : Hid ((c != 2) = finN a) := by rw [h2, Bool.true_and] at e1; exact e1
    clear e1
    go_wp2_with fail
    go_ret
    exact ⟨ret_bool E1.out, q1⟩

/-- Are the first k knots finite? -/
def finTo (l : List (Nat × Nat)) (k : Nat) : Prop := ∀ i, i < k → finN (kx l i) = true ∧ finN (ky l i) = true
theorem fin_more {l : List (Nat × Nat)} {k : Nat} (h : finTo l k) (h1 : finN (kx l k) = true) (h2 : finN (ky l k) = true) : finTo l (k + 1) := by
  intro i hi
  rcases Nat.lt_or_ge i k with g | g
  · exact h i g
  · rw [show i = k by omega]; exact ⟨h1, h2⟩
set_option maxHeartbeats 4000000 in
theorem arefinite_any (g o cap : Nat) (l : List (Nat × Nat)) (hlt : ∀ i, kx l i < 4294967296 ∧ ky l i < 4294967296) (hl : l.length ≤ 64) (w : World) (hk : KIs w g o l) :
    Calls Try.prog 51 #[.slice (some ⟨g, o, none⟩) l.length cap] w fun e w' => ∃ r : Bool, e = .returned (.bool r) ∧ (r = true ↔ finTo l l.length) ∧ Q w w' := by
  have HK : Hid (KIs w g o l) := hk
  clear hk
  go_enter Try.func51, Try.ntmps51
  go_wp2_with fail
  go_loopg [7] l.length (fun m s7 wr => ∃ k : Nat, s7 = .int .i64 k ∧ k + m = l.length ∧ Hid (finTo l k) ∧ Q w wr)
  case atStart => exact ⟨0, rfl, by omega, (fun i h => absurd h (Nat.not_lt_zero _) : finTo l 0), Q.refl _⟩
  case round =>
    obtain ⟨k, rfl, hm, HF, hq⟩ := hrel
    by_cases hlt' : k < l.length
    · obtain ⟨c1, c2⟩ := HK.out.next hq k hlt'
      have hi0 : (0 : Int) ≤ (k : Int) := by omega
      have hi1 : (k : Int) < (l.length : Int) := by omega
      have u1 := (hlt k).1
      have u2 := (hlt k).2
      go_wp2_with fail
      refine (isfinite_any (kx l k) u1 _).mono ?_
      rintro e w1 ⟨rfl, q1⟩
      have d1 : w1.cell? ⟨wr.heap.size, 1, none⟩ = some (.int .u32 (ky l k)) := q1.cell (by simp [go_sem])
      replace hq := (hq.cells _ _).trans q1
      clear q1 c1 c2
      cases f1 : finN (kx l k)
      · have F1 : Hid (finN (kx l k) = false) := f1
        clear f1
        go_wp2_with fail
        go_ret
        exact ⟨false, rfl, ⟨fun h => (by cases h), fun h => (by have := (h k hlt').1; rw [F1.out] at this; cases this)⟩, hq⟩
      · have F1 : Hid (finN (kx l k) = true) := f1
        clear f1
        go_wp2_with fail
        refine (isfinite_any (ky l k) u2 _).mono ?_
        rintro e w2 ⟨rfl, q2⟩
        replace hq := hq.trans q2
        clear q2 d1
        cases f2 : finN (ky l k)
        · have F2 : Hid (finN (ky l k) = false) := f2
          clear f2
          go_wp2_with fail
          go_ret
          exact ⟨false, rfl, ⟨fun h => (by cases h), fun h => (by have := (h k hlt').2; rw [F2.out] at this; cases this)⟩, hq⟩
        · have F2 : Hid (finN (ky l k) = true) := f2
          clear f2
          go_wp2_with fail
          go_roundg (gk - 1)
          case measure => go_light; omega
          case rel => go_light; exact ⟨k + 1, by go_num, by omega, fin_more HF.out F1.out F2.out, hq⟩
    · have hk : k = l.length := by omega
      have HF2 : Hid (finTo l l.length) := by rw [← hk]; exact HF
      clear hk
      go_wp2_with fail
      go_ret
      exact ⟨true, rfl, ⟨fun _ => HF2.out, fun _ => rfl⟩, hq⟩

/-- Do the first k + 1 knots rise? -/
def riseTo (l : List (Nat × Nat)) (k : Nat) : Prop := ∀ i, i < k → lessB (kx l i) (kx l (i + 1)) = true ∧ lessB (ky l (i + 1)) (ky l i) = false
theorem rise_more {l : List (Nat × Nat)} {k : Nat} (h : riseTo l k) (h1 : lessB (kx l k) (kx l (k + 1)) = true) (h2 : lessB (ky l (k + 1)) (ky l k) = false) : riseTo l (k + 1) := by
  intro i hi
  rcases Nat.lt_or_ge i k with g | g
  · exact h i g
  · rw [show i = k by omega]; exact ⟨h1, h2⟩
set_option maxHeartbeats 4000000 in
theorem arerising_any (g o cap : Nat) (l : List (Nat × Nat)) (h2 : 2 ≤ l.length) (hl : l.length ≤ 64) (hcap : l.length ≤ cap) (w : World) (hk : KIs w g o l) :
    Calls Try.prog 52 #[.slice (some ⟨g, o, none⟩) l.length cap] w fun e w' => ∃ r : Bool, e = .returned (.bool r) ∧ (r = true ↔ riseTo l (l.length - 1)) ∧ Q w w' := by
  have HK : Hid (KIs w g o l) := hk
  obtain ⟨n, hn⟩ : ∃ n, l.length = n + 1 := ⟨l.length - 1, by omega⟩
  have hn1 : l.length - 1 = n := by omega
  rw [hn1, hn]
  rw [hn] at hcap h2 hl
  have HN : Hid (l.length = n + 1) := hn
  obtain ⟨c, hc⟩ : ∃ c, cap = c + 1 := ⟨cap - 1, by omega⟩
  subst hc
  have b1 : (1 : Int) ≤ ((n + 1 : Nat) : Int) := by omega
  have b2 : ((n + 1 : Nat) : Int) ≤ ((c + 1 : Nat) : Int) := by omega
  have b3 : (1 : Int) ≤ ((c + 1 : Nat) : Int) := by omega
  have b4 : 1 ≤ n := by omega
  have b5 : n ≤ c := by omega
  clear hk hn hn1
  go_enter Try.func52, Try.ntmps52
  go_wp2_with fail
  go_loopg [9] n (fun m s9 wr => ∃ k : Nat, s9 = .int .i64 k ∧ k + m = n ∧ Hid (riseTo l k) ∧ Q w wr)
  case atStart => exact ⟨0, rfl, by omega, (fun i h => absurd h (Nat.not_lt_zero _) : riseTo l 0), Q.refl _⟩
  case round =>
    obtain ⟨k, rfl, hm, HF, hq⟩ := hrel
    by_cases hlt' : k < n
    · have hlen : k + 1 < l.length := by rw [HN.out]; omega
      obtain ⟨c1, c2⟩ := HK.out.next hq k (by omega)
      obtain ⟨c3, c4⟩ := HK.out.next hq (k + 1) hlen
      rw [show o + (k + 1) * 2 = o + 2 + k * 2 by omega] at c3 c4
      have hi0 : (0 : Int) ≤ (k : Int) := by omega
      have hi1 : (k : Int) < (n : Int) := by omega
      have hi2 : (k : Int) < ((n + 1 : Nat) : Int) := by omega
      have hq1 : Q wr wr := Q.refl _
      have e1 := fun c t => ((Q.refl wr).cells c t).cell c1
      have e2 := fun c t => ((Q.refl wr).cells c t).cell c2
      clear hlen
      go_wp2_with fail
      refine (less_any (kx l k) (kx l (k + 1)) _).mono ?_
      rintro e w1 ⟨rfl, rfl⟩
      cases f1 : lessB (kx l k) (kx l (k + 1))
      · have F1 : Hid (lessB (kx l k) (kx l (k + 1)) = false) := f1
        clear f1
        go_wp2_with fail
        go_ret
        exact ⟨false, rfl, ⟨fun h => (by cases h), fun h => (by have := (h k hlt').1; rw [F1.out] at this; cases this)⟩, (hq.cells _ _).cells _ _⟩
      · have F1 : Hid (lessB (kx l k) (kx l (k + 1)) = true) := f1
        clear f1
        go_wp2_with fail
        refine (less_any (ky l (k + 1)) (ky l k) _).mono ?_
        rintro e w1 ⟨rfl, rfl⟩
        cases f2 : lessB (ky l (k + 1)) (ky l k)
        · have F2 : Hid (lessB (ky l (k + 1)) (ky l k) = false) := f2
          clear f2
          go_wp2_with fail
          go_roundg (gk - 1)
          case measure => go_light; omega
          case rel => go_light; exact ⟨k + 1, by go_num, by omega, rise_more HF.out F1.out F2.out, (hq.cells _ _).cells _ _⟩
        · have F2 : Hid (lessB (ky l (k + 1)) (ky l k) = true) := f2
          clear f2
          go_wp2_with fail
          go_ret
          exact ⟨false, rfl, ⟨fun h => (by cases h), fun h => (by have := (h k hlt').2; rw [F2.out] at this; cases this)⟩, (hq.cells _ _).cells _ _⟩
    · have hk : k = n := by omega
      have HF2 : Hid (riseTo l n) := by rw [← hk]; exact HF
      clear hk
      go_wp2_with fail
      go_ret
      exact ⟨true, rfl, ⟨fun _ => HF2.out, fun _ => rfl⟩, hq⟩

/-- The cells of knots, in a row. -/
def kcell (l : List (Nat × Nat)) (j : Nat) : Value := if j % 2 = 0 then .int .u32 (kx l (j / 2)) else .int .u32 (ky l (j / 2))
def flat (l : List (Nat × Nat)) : List Value := (List.range (l.length * 2)).map (kcell l)
theorem flat_len (l : List (Nat × Nat)) : (flat l).length = l.length * 2 := by unfold flat; simp
theorem flat_get {l : List (Nat × Nat)} {j : Nat} (h : j < l.length * 2) : (flat l)[j]? = some (kcell l j) := by
  unfold flat; rw [List.getElem?_map, List.getElem?_range h]; rfl
theorem flat_of {l : List (Nat × Nat)} {j : Nat} {u : Value} (h : (flat l)[j]? = some u) : j < l.length * 2 ∧ u = kcell l j := by
  have hj : j < l.length * 2 := by have := (List.getElem?_eq_some_iff.1 h).1; rwa [flat_len] at this
  rw [flat_get hj] at h
  exact ⟨hj, (Option.some.inj h).symm⟩
theorem kcell_x (l : List (Nat × Nat)) (i : Nat) : kcell l (i * 2) = .int .u32 (kx l i) := by
  unfold kcell; rw [if_pos (by omega), show i * 2 / 2 = i by omega]
theorem kcell_y (l : List (Nat × Nat)) (i : Nat) : kcell l (i * 2 + 1) = .int .u32 (ky l i) := by
  unfold kcell; rw [if_neg (by omega), show (i * 2 + 1) / 2 = i by omega]
theorem KIs.flat_cells {w : World} {g o : Nat} {l : List (Nat × Nat)} (h : KIs w g o l) : ∀ j u, (flat l)[j]? = some u → w.cell? ((⟨g, o, none⟩ : Addr).add j) = some u := by
  intro j u hu
  obtain ⟨hj, rfl⟩ := flat_of hu
  have hadd : (⟨g, o, none⟩ : Addr).add j = ⟨g, o + j, none⟩ := by unfold Addr.add; split <;> simp_all
  rw [hadd]
  obtain ⟨c1, c2⟩ := h (j / 2) (by omega)
  by_cases e : j % 2 = 0
  · obtain ⟨i, rfl⟩ : ∃ i, j = i * 2 := ⟨j / 2, by omega⟩
    rw [show i * 2 / 2 = i by omega] at c1
    rw [kcell_x]; exact c1
  · obtain ⟨i, rfl⟩ : ∃ i, j = i * 2 + 1 := ⟨j / 2, by omega⟩
    rw [show (i * 2 + 1) / 2 = i by omega] at c2
    rw [kcell_y]; exact c2
theorem KIs.of_flat {w : World} {g : Nat} {l : List (Nat × Nat)} (h : ∀ j u, (flat l)[j]? = some u → w.cell? ⟨g, j, none⟩ = some u) : KIs w g 0 l := by
  intro i hi
  refine ⟨?_, ?_⟩
  · rw [Nat.zero_add]; exact h (i * 2) _ (by rw [flat_get (by omega), kcell_x])
  · rw [Nat.zero_add]; exact h (i * 2 + 1) _ (by rw [flat_get (by omega), kcell_y])

theorem info_of {P : Program} {e : TypeId} {n b : Nat} {z : Value} (h1 : (P.info? e).map (fun i => (i.size, i.bytes)) = some (n, b)) (h2 : (P.info? e).bind (·.zero) = some z) : ∃ i, P.info? e = some i ∧ i.size = n ∧ i.bytes = b ∧ i.zero = some z := by
  cases h : P.info? e with
  | none => rw [h] at h1; cases h1
  | some i =>
    rw [h] at h1 h2
    have h1 : some (i.size, i.bytes) = some (n, b) := h1
    have h2 : i.zero = some z := h2
    injection h1 with h1
    injection h1 with h3 h4
    exact ⟨i, rfl, h3, h4, h2⟩
theorem knotInfo : ∃ i, Try.prog.info? 32 = some i ∧ i.size = 2 ∧ i.bytes = 8 ∧ i.zero = some (.agg #[.int .u32 0, .int .u32 0]) :=
  info_of (by kernel_rfl) (by kernel_rfl)

theorem eql_nil (P : Program) (w : World) (t e : TypeId) (a : Addr) (n c : Nat) (h : P.underlying t = some (.slice e)) : (binOp .eql t (.slice (some a) n c) (.slice none 0 0)).run P w = .ok (.bool false) w := by
  simp only [binOp]
  simp [Op.equal, Op.maxDepth, Lib.run_equalIn_slice_nil w 9999 t e (some a) n c 0 0 h]
set_option maxHeartbeats 1000000 in
set_option maxRecDepth 100000 in
theorem clone_any (g o cap : Nat) (l : List (Nat × Nat)) (h1 : 1 ≤ l.length) (hl : l.length ≤ 64) (w : World) (hk : KIs w g o l) :
    Calls Try.prog 36 #[.slice (some ⟨g, o, none⟩) l.length cap] w fun e w' => ∃ g' cap', e = .returned (.slice (some ⟨g', 0, none⟩) l.length cap') ∧ l.length ≤ cap' ∧ w.heap.size ≤ g' ∧ KIs w' g' 0 l ∧ (∀ j, w'.frozen? ⟨g', j, none⟩ = false) ∧ Q w w' := by
  obtain ⟨i, i1, i2, i3, i4⟩ := knotInfo
  have hfl := hk.flat_cells
  have hlen : (flat l).length = l.length * i.size := by rw [i2, flat_len]
  have hby : l.length * i.bytes ≤ 140737488355328 := by rw [i3]; omega
  have H1 : Hid (∀ j u, (flat l)[j]? = some u → w.cell? ((⟨g, o, none⟩ : Addr).add j) = some u) := hfl
  have H2 : Hid ((flat l).length = l.length * i.size) := hlen
  have H3 : Hid (l.length * i.bytes ≤ 140737488355328) := hby
  have H4 : Hid (Try.prog.info? 32 = some i) := i1
  have H5 : Hid (i.zero = some (.agg #[.int .u32 0, .int .u32 0])) := i4
  clear hfl hlen hby hk i1 i2 i3 i4
  have l1 := fun w => eql_nil Try.prog w 22 32 ⟨g, o, none⟩ l.length cap Try.underlying22
  go_enter Try.func36, Try.ntmps36
  go_wp2_with (at_builtin; go_must (refine wpList_app _ rfl (.tmp 5) (.tmp 6) 22 rfl 32 i _ Try.underlying22 H4.out H5.out _ (Or.inr ⟨_, rfl⟩) rfl _ l.length cap (flat l) rfl H2.out (fun j u h => Q.cell ((Q.refl w).cells _ _) (H1.out j u h)) (by omega) (by omega) H3.out ?_; intro cap' w' q1 q2 q3 q4 q5))
  have hz : (w.alloc (.cells #[] 32)).heap.size = w.heap.size + 1 := by simp
  rw [hz] at q4 q5
  go_ret
  exact ⟨_, cap', rfl, q2, by omega, KIs.of_flat q4, q5, ((Q.refl w).cells _ _).trans q1⟩

set_option maxHeartbeats 1000000 in
theorem knots_any (b o : Nat) (l : List (Nat × Nat)) (h1 : 1 ≤ l.length) (hl : l.length ≤ 64) (w : World) (hc : CIs w b o l) :
    Calls Try.prog 11 #[.pointer (some ⟨b, o, none⟩)] w fun e w' => ∃ g' cap', e = .returned (.slice (some ⟨g', 0, none⟩) l.length cap') ∧ l.length ≤ cap' ∧ w.heap.size ≤ g' ∧ KIs w' g' 0 l ∧ (∀ j, w'.frozen? ⟨g', j, none⟩ = false) ∧ Q w w' := by
  obtain ⟨g, o', cap, hc1, hcap, hk⟩ := hc.it
  have HK : Hid (KIs w g o' l) := hk
  clear hk
  go_enter Try.func11, Try.ntmps11
  go_wp2_with fail
  refine (clone_any g o' cap l h1 hl _ HK.out).mono ?_
  rintro e w' ⟨g', cap', rfl, q1, q2, q3, q4, q5⟩
  go_wp2_with fail
  go_ret
  exact ⟨g', cap', rfl, q1, q2, q3, q4, q5⟩

/-- What is wrong with a list of knots. -/
def Bad (l : List (Nat × Nat)) (e : Int) : Prop :=
  ((l.length < 2 ∨ 64 < l.length) ∧ e = 40) ∨ (2 ≤ l.length ∧ l.length ≤ 64 ∧ ¬ finTo l l.length ∧ e = 41) ∨ (2 ≤ l.length ∧ l.length ≤ 64 ∧ finTo l l.length ∧ ¬ riseTo l (l.length - 1) ∧ e = 42)
def Good (l : List (Nat × Nat)) : Prop := 2 ≤ l.length ∧ l.length ≤ 64 ∧ finTo l l.length ∧ riseTo l (l.length - 1)

set_option maxHeartbeats 1000000 in
theorem new_many (v : Value) (n cap : Nat) (a : Option Addr) (hv : v = .slice a n cap) (h : n < 2 ∨ 64 < n) (hn : n ≤ 4611686018427387904) (w : World) :
    Calls Try.prog 23 #[v] w fun e w' => e = .returned (.tuple #[.pointer none, .int .i64 40]) ∧ w' = w := by
  subst hv
  rcases h with h | h
  · have h1 : (n : Int) < 2 := by omega
    go_enter Try.func23, Try.ntmps23
    go_wp2_with fail
    go_ret2
    exact ⟨rfl, rfl⟩
  · have h1 : ¬ (n : Int) < 2 := by omega
    have h2 : (64 : Int) < (n : Int) := by omega
    have h3 : decide ((n : Int) < 2) = false := decide_eq_false h1
    go_enter Try.func23, Try.ntmps23
    go_wp2_with fail
    go_ret2
    exact ⟨rfl, rfl⟩

set_option maxHeartbeats 2000000 in
theorem new_any (g o cap : Nat) (l : List (Nat × Nat)) (h2 : 2 ≤ l.length) (hl : l.length ≤ 64) (hcap : l.length ≤ cap) (hlt : ∀ i, kx l i < 4294967296 ∧ ky l i < 4294967296) (w : World) (hk : KIs w g o l) :
    Calls Try.prog 23 #[.slice (some ⟨g, o, none⟩) l.length cap] w fun e w' => Q w w' ∧
      ((∃ r, e = .returned (.tuple #[.pointer none, .int .i64 r]) ∧ Bad l r) ∨ (∃ b, e = .returned (.tuple #[.pointer (some ⟨b, 0, none⟩), .int .i64 0]) ∧ w.heap.size ≤ b ∧ CIs w' b 0 l ∧ Good l)) := by
  have h1 : ¬ (l.length : Int) < 2 := by omega
  have h3 : decide ((l.length : Int) < 2) = false := decide_eq_false h1
  have h4 : ¬ (64 : Int) < (l.length : Int) := by omega
  have h5 : decide ((64 : Int) < (l.length : Int)) = false := decide_eq_false h4
  have HK : Hid (KIs w g o l) := hk
  clear hk
  go_enter Try.func23, Try.ntmps23
  go_wp2_with fail
  refine (arefinite_any g o cap l hlt hl _ HK.out).mono ?_
  rintro e w1 ⟨r, rfl, hr, q1⟩
  have HK1 : Hid (KIs w1 g o l) := HK.out.next q1
  cases r
  · have HR1 : Hid (¬ finTo l l.length) := fun h => absurd (hr.2 h) (by decide)
    clear hr
    go_wp2_with fail
    go_ret2
    exact ⟨q1, Or.inl ⟨41, rfl, Or.inr (Or.inl ⟨h2, hl, HR1.out, rfl⟩)⟩⟩
  · have HR1 : Hid (finTo l l.length) := hr.1 rfl
    clear hr
    go_wp2_with fail
    refine (arerising_any g o cap l h2 hl hcap _ HK1.out).mono ?_
    rintro e w2 ⟨r, rfl, hr, q2⟩
    have HK2 : Hid (KIs w2 g o l) := HK1.out.next q2
    cases r
    · have HR2 : Hid (¬ riseTo l (l.length - 1)) := fun h => absurd (hr.2 h) (by decide)
      clear hr
      go_wp2_with fail
      go_ret2
      exact ⟨q1.trans q2, Or.inl ⟨42, rfl, Or.inr (Or.inr ⟨h2, hl, HR1.out, HR2.out, rfl⟩)⟩⟩
    · have HR2 : Hid (riseTo l (l.length - 1)) := hr.1 rfl
      clear hr
      go_wp2_with fail
      refine (clone_any g o cap l (by omega) hl _ HK2.out).mono ?_
      rintro e w3 ⟨g', cap', rfl, q3, q4, q5, q6, q7⟩
      have HK3 : Hid (KIs w3 g' 0 l) := q5
      clear q5
      go_wp2_with fail
      go_ret2
      refine ⟨((q1.trans q2).trans q7).cells _ _, Or.inr ⟨w3.heap.size, rfl, ?_, ⟨g', 0, cap', ?_, q3, HK3.out.next ((Q.refl _).cells _ _)⟩, h2, hl, HR1.out, HR2.out⟩⟩
      · have := ((q1.trans q2).trans q7).1.size; exact this
      · simp [go_sem]
theorem good_ok {l : List (Nat × Nat)} (h : Good l) (hlt : ∀ i, kx l i < 4294967296 ∧ ky l i < 4294967296) : COk l := by
  obtain ⟨h1, h2, h3, h4⟩ := h
  have f : ∀ i, i < l.length → rung32 (kx l i) < 2139095040 ∧ rung32 (ky l i) < 2139095040 := fun i hi => ⟨of_decide_eq_true (h3 i hi).1, of_decide_eq_true (h3 i hi).2⟩
  refine ⟨h1, h2, hlt, f, fun i hi => ?_⟩
  obtain ⟨a, b⟩ := h4 i (by omega)
  rw [lessB_num (fin_nan (f i (by omega)).1) (fin_nan (f (i + 1) hi).1)] at a
  rw [lessB_num (fin_nan (f (i + 1) hi).2) (fin_nan (f i (by omega)).2)] at b
  exact ⟨of_decide_eq_true a, by have := of_decide_eq_false b; omega⟩
end Go.Proofs.Ytmfniimelibhfaa

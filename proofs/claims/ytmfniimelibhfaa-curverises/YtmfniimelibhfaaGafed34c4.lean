/- Words, Map; Join of none or too many. -/
import Derived.Test.YtmfniimelibhfaaG8a1d1fae
import Derived.Test.YtmfniimelibhfaaG6a610ac7
import Derived.Test.YtmfniimelibhfaaGf77df34b
import Derived.Laws.MakeOwn
namespace Go.Proofs.Ytmfniimelibhfaa
open Go.RowKit
set_option linter.unusedVariables false
set_option linter.unusedSimpArgs false

/-- How far a list is written: what is done is as L tells. -/
structure Fill (w wr : World) (b n : Nat) (L : Nat → Nat) (k : Nat) : Prop where
  q : Q w wr
  new : w.heap.size ≤ b
  done : ∀ i, i < k → wr.cell? ⟨b, i, none⟩ = some (.int .u32 (L i : Nat))
  room : ∀ j, j < n → ∃ v, wr.cell? ⟨b, j, none⟩ = some v
  free : ∀ j, wr.frozen? ⟨b, j, none⟩ = false
theorem Fill.next {w wr wx : World} {b n k : Nat} {L : Nat → Nat} (h : Fill w wr b n L k) (q : Q wr wx) : Fill w wx b n L k where
  q := h.q.trans q
  new := h.new
  done := fun i hi => q.cell (h.done i hi)
  room := fun j hj => by obtain ⟨v, hv⟩ := h.room j hj; exact ⟨v, q.cell hv⟩
  free := fun j => by rw [q.2]; exact h.free j
theorem Fill.step {w wr : World} {b n k : Nat} {L : Nat → Nat} (h : Fill w wr b n L k) (hk : k < n) {v : Nat} (hv : v = L k) : Fill w (wr.setCell ⟨b, k, none⟩ (.int .u32 (v : Nat))) b n L (k + 1) := by
  subst hv
  obtain ⟨u, hu⟩ := h.room k hk
  refine ⟨h.q.set h.new _, h.new, fun i hi => ?_, fun j hj => ?_, fun j => ?_⟩
  · by_cases e : i = k
    · subst e; exact World.cell?_setCell_same _ _ _ hu
    · rw [World.cell?_setCell_other _ _ _ _ (by simp <;> omega)]; exact h.done i (by omega)
  · by_cases e : j = k
    · subst e; exact ⟨_, World.cell?_setCell_same _ _ _ hu⟩
    · rw [World.cell?_setCell_other _ _ _ _ (by simp <;> omega)]; exact h.room j hj
  · rw [World.frozen?_setCell]; exact h.free j
theorem u32Info : ∃ i, Try.prog.info? 30 = some i ∧ i.size = 1 ∧ i.bytes = 4 ∧ i.zero = some (.int .u32 0) :=
  info_of (by kernel_rfl) (by kernel_rfl)
/-- Making a list of noughts. -/
theorem make_u32 (n : Nat) (hn : n ≤ 1099511627776) : ∃ M : Array Value, (∀ w : World, (Instr.makeSlice 23 (.int .i64 (n : Int)) (.int .i64 (n : Int))).run Try.prog w = .ok (.slice (some ⟨w.heap.size, 0, none⟩) n n) (w.alloc (.cells M 30))) ∧
    ∀ w : World, Fill w (w.alloc (.cells M 30)) w.heap.size n (fun _ => 0) n := by
  obtain ⟨i, i1, i2, i3, i4⟩ := u32Info
  refine ⟨madeCells (Value.int .u32 0).cells (n * 1), fun w => ?_, fun w => ?_⟩
  · have := run_make (P := Try.prog) w 23 30 i _ Try.underlying23 i1 i4 .i64 .i64 n n (by omega) (by omega) (by rw [i3]; omega) (by omega)
    rw [i2] at this
    simp only [Int.toNat_natCast] at this
    exact this
  · have hb : (w.alloc (.cells (madeCells (Value.int .u32 0).cells (n * 1)) 30)).heap[w.heap.size]? = some (.cells (madeCells (Value.int .u32 0).cells (n * 1)) 30 (0, 0)) := heap_alloc_new w _
    have key : ∀ j, j < n → (w.alloc (.cells (madeCells (Value.int .u32 0).cells (n * 1)) 30)).cell? ⟨w.heap.size, j, none⟩ = some (.int .u32 0) := fun j hj => by
      rw [cell_of_row _ _ j _ 30 (0, 0) hb]
      unfold madeCells
      simp [Value.cells, hj, Nat.mod_one]
    exact ⟨(Q.refl w).cells _ _, Nat.le_refl _, fun i hi => key i hi, fun j hj => ⟨_, key j hj⟩, fun j => frozen_of_row _ _ _ _ _ hb⟩
theorem USl.lies {w : World} {v : Value} {l : List Nat} (h : USl w v l) (h1 : 1 ≤ l.length) : ∃ g o cap, v = .slice (some ⟨g, o, none⟩) l.length cap ∧ l.length ≤ cap ∧ ∀ i, i < l.length → w.cell? ⟨g, o + i, none⟩ = some (.int .u32 (l.getD i 0 : Nat)) := by
  rcases h with ⟨g, o, cap, h1, h2, h3⟩ | ⟨a, c, h1, h2⟩
  · exact ⟨g, o, cap, h1, h2, h3⟩
  · subst h2; exact absurd h1 (by simp at *)
set_option maxHeartbeats 4000000 in
set_option maxRecDepth 100000 in
theorem words_yes (v v' : Value) (xs : List Nat) (w : World) (h : USl w v xs) (h' : USl w v' xs) (hn : xs.length ≤ 9223372036854775807) :
    Calls Try.prog 27 #[v, v'] w fun e w' => e = .returned (.bool true) ∧ Q w w' := by
  obtain ⟨a, cap, ev⟩ := h.form
  obtain ⟨a', cap', ev'⟩ := h'.form
  subst ev ev'
  have HS : Hid (USl w (.slice a xs.length cap) xs) := h
  have HT : Hid (USl w (.slice a' xs.length cap') xs) := h'
  obtain ⟨n, en⟩ : ∃ n, xs.length = n := ⟨_, rfl⟩
  have HN : Hid (xs.length = n) := en
  rw [en] at HS HT hn ⊢
  have hnn : ((n : Int) == (n : Int)) = true := by simp
  clear h h' en
  go_enter Try.func27, Try.ntmps27
  go_wp2_with fail
  go_loopg [5] n (fun m s5 wx => ∃ i : Nat, s5 = .int .i64 i ∧ i + m = n ∧ Hid (Q w wx))
  case atStart => exact ⟨0, rfl, by omega, Q.refl w⟩
  case round =>
    obtain ⟨i, rfl, him, HQ⟩ := hrel
    by_cases hi : i < n
    · have hi0 : (0 : Int) ≤ (i : Int) := by omega
      have hi1 : (i : Int) < (n : Int) := by omega
      obtain ⟨g, o, c, e1, e2, e3⟩ := HS.out.lies (by rw [HN.out]; omega)
      obtain ⟨g', o', c', f1, f2, f3⟩ := HT.out.lies (by rw [HN.out]; omega)
      injection e1 with e1 hh1 hh2
      clear hh1 hh2
      injection f1 with f1 hh1 hh2
      clear hh1 hh2
      subst e1 f1
      have c1 := HQ.out.cell (e3 i (by rw [HN.out]; exact hi))
      have c2 := HQ.out.cell (f3 i (by rw [HN.out]; exact hi))
      obtain ⟨z, hz⟩ : ∃ z, xs.getD i 0 = z := ⟨_, rfl⟩
      rw [hz] at c1 c2
      have hzz : ((z : Int) == (z : Int)) = true := by simp
      have n0 := qw_some wr
      have d1 := qw_cell c1
      have d2 := qw_cell c2
      clear hz e2 e3 f2 f3
      go_wp2_with fail
      refine wp_region_quiet_Q (by kernel_rfl) (by kernel_rfl) ?_
      repeat (first | go_big_quiet_step (fail) | quiet_step (fail))
      refine wpQuiet_nil ?_
      intro w4 hw'
      have hq4 := qw_out hw'
      have HQ4 : Hid (Q w w4) := HQ.out.trans hq4
      clear hw' n0 d1 d2
      go_wp2_with fail
      go_roundg (n - (i + 1))
      case measure => go_light; omega
      case rel => go_light; exact ⟨i + 1, by go_num, by omega, HQ4⟩
    · have hie : i = n := by omega
      go_wp2_with fail
      go_ret
      exact ⟨rfl, HQ.out⟩
set_option maxHeartbeats 4000000 in
set_option maxRecDepth 100000 in
theorem map_any (b : Nat) (ll : List (List (Nat × Nat))) (hl : LOk ll) (v : Value) (xs : List Nat) (hx : ∀ i, xs.getD i 0 < 4294967296) (hn : xs.length ≤ 100) (w : World) (hc : ChIs w b ll) (hv : USl w v xs) :
    Calls Try.prog 25 #[.func (.func 26) #[.pointer (some ⟨b, 0, none⟩)] #[], v] w fun e w' => ∃ g n, e = .returned (.slice (some ⟨g, 0, none⟩) n n) ∧ n = xs.length ∧ Hid (Fill w w' g n (fun i => chainV ll (xs.getD i 0)) n) := by
  obtain ⟨a, cap, ev⟩ := hv.form
  subst ev
  have HS : Hid (USl w (.slice a xs.length cap) xs) := hv
  have HC : Hid (ChIs w b ll) := hc
  have HL : Hid (LOk ll) := hl
  have HX : Hid (∀ i, xs.getD i 0 < 4294967296) := hx
  obtain ⟨n, en⟩ : ∃ n, xs.length = n := ⟨_, rfl⟩
  have HN : Hid (xs.length = n) := en
  rw [en] at HS hn ⊢
  obtain ⟨M, hmk, hfill⟩ := make_u32 n (by omega)
  have F0 : Hid (Fill w (w.alloc (.cells M 30)) w.heap.size n (fun i => chainV ll (xs.getD i 0)) 0) := by
    obtain ⟨p1, p2, p3, p4, p5⟩ := hfill w
    exact ⟨p1, p2, fun i hi => absurd hi (Nat.not_lt_zero _), p4, p5⟩
  clear hv hc hl hx en hfill
  go_enter Try.func25, Try.ntmps25
  go_wp2_with fail
  go_loopg [13] n (fun m s13 wx => ∃ i : Nat, s13 = .int .i64 i ∧ i + m = n ∧ Hid (Fill w wx w.heap.size n (fun i => chainV ll (xs.getD i 0)) i))
  case atStart => exact ⟨0, rfl, by omega, F0⟩
  case round =>
    obtain ⟨i, rfl, him, FI⟩ := hrel
    by_cases hi : i < n
    · have hi0 : (0 : Int) ≤ (i : Int) := by omega
      have hi1 : (i : Int) < (n : Int) := by omega
      obtain ⟨g, o, c, e1, e2, e3⟩ := HS.out.lies (by rw [HN.out]; omega)
      injection e1 with e1 hh1 hh2
      clear hh1 hh2
      subst e1
      have c1 := FI.out.q.cell (e3 i (by rw [HN.out]; exact hi))
      have hxi := HX.out i
      obtain ⟨x, hxe⟩ : ∃ x, xs.getD i 0 = x := ⟨_, rfl⟩
      have HV : Hid (chainV ll x = (fun i => chainV ll (xs.getD i 0)) i) := by show _ = chainV ll (xs.getD i 0); rw [hxe]
      rw [hxe] at c1 hxi
      have A := ch_at_any b ll HL.out x hxi wr (HC.out.next FI.out.q)
      obtain ⟨z, hz⟩ : ∃ z, chainV ll x = z := ⟨_, rfl⟩
      rw [hz] at A HV
      clear hxe hz e2 e3
      go_wp2_with fail
      refine A.mono ?_
      rintro e w2 ⟨rfl, q2⟩
      have F2 := FI.out.next q2
      obtain ⟨u, hu⟩ := F2.room i hi
      have fz := F2.free i
      have FN : Hid (Fill w (w2.setCell ⟨w.heap.size, i, none⟩ (.int .u32 (z : Nat))) w.heap.size n (fun i => chainV ll (xs.getD i 0)) (i + 1)) := F2.step hi HV.out
      clear A F2
      go_wp2_with fail
      go_roundg (n - (i + 1))
      case measure => go_light; omega
      case rel => go_light; exact ⟨i + 1, by go_num, by omega, FN⟩
    · have hie : i = n := by omega
      have FE : Hid (Fill w wr w.heap.size n (fun i => chainV ll (xs.getD i 0)) n) := by rw [hie] at FI; exact FI
      go_wp2_with fail
      refine bodyPost_ret (v := .slice (some ⟨w.heap.size, 0, none⟩) n n) (by simp [results, Try.results25, go_sem]) rfl ⟨w.heap.size, n, rfl, rfl, FE⟩
/-- Join of no curve, or of too many. -/
theorem join_no (a : Option Addr) (n cap : Nat) (h : n < 1 ∨ 8 < n) (hn : n ≤ 100) (w : World) :
    Calls Try.prog 24 #[.slice a n cap] w fun e w' => e = .returned (.tuple #[.pointer none, .int .i64 40]) ∧ w' = w := by
  by_cases h1 : n < 1
  · have j1 : (n : Int) < 1 := by omega
    have j3 : decide ((n : Int) < 1) = true := decide_eq_true j1
    go_enter Try.func24, Try.ntmps24
    go_wp2_with fail
    go_ret2
    exact ⟨rfl, rfl⟩
  · have j1 : ¬ (n : Int) < 1 := by omega
    have j2 : (8 : Int) < (n : Int) := by omega
    have j3 : decide ((n : Int) < 1) = false := decide_eq_false j1
    have j4 : decide ((8 : Int) < (n : Int)) = true := decide_eq_true j2
    go_enter Try.func24, Try.ntmps24
    go_wp2_with fail
    go_ret2
    exact ⟨rfl, rfl⟩
end Go.Proofs.Ytmfniimelibhfaa
/- What a chain tells, as numbers. -/
namespace Go.Proofs.Ytmfniimelibhfaa
open Go.RowKit
set_option linter.unusedVariables false
set_option linter.unusedSimpArgs false

theorem at_ends {l : List (Nat × Nat)} (hl : COk l) {x : Nat} (hn : nanN x = false) : srung32 (ky l 0) ≤ srung32 (atV l x) ∧ srung32 (atV l x) ≤ srung32 (ky l (l.length - 1)) := by
  have t := hl.two
  obtain ⟨a, b, c⟩ := above_facts l x
  obtain ⟨_, r0, r1, r2⟩ := at_range hl hn
  by_cases h0 : aboveV l x = 0
  · rw [r0 h0]; exact ⟨Int.le_refl _, ky_mono hl (by omega) (by omega)⟩
  · by_cases h1 : aboveV l x = l.length
    · rw [r1 h1]; exact ⟨ky_mono hl (by omega) (by omega), Int.le_refl _⟩
    · obtain ⟨p, q⟩ := r2 h0 (by omega)
      exact ⟨Int.le_trans (ky_mono hl (by omega) (by omega)) p, Int.le_trans q (ky_mono hl (by omega) (by omega))⟩
theorem chain_last {ll : List (List (Nat × Nat))} {n : Nat} (h : ll.length = n + 1) (x : Nat) : chainV ll x = atV (ll.getD n []) (chainV (ll.take n) x) := by
  have := chain_take (ll := ll) (k := n) (x := x) (by omega)
  rw [List.take_of_length_le (by omega)] at this
  exact this
theorem chain_nan : ∀ {ll : List (List (Nat × Nat))} {x : Nat}, nanN x = true → nanN (chainV ll x) = true := by
  intro ll
  induction ll with
  | nil => intro x h; exact h
  | cons l ll ih =>
    intro x h
    show nanN (chainV ll (atV l x)) = true
    exact ih (by rw [atV_nan h]; rfl)
theorem chain_made {ll : List (List (Nat × Nat))} (h : 1 ≤ ll.length) {x : Nat} (hn : nanN x = true) : chainV ll x = 2143289344 := by
  rw [chain_last (n := ll.length - 1) (by omega), atV_nan (chain_nan hn)]
theorem chain_ends {ll : List (List (Nat × Nat))} {n : Nat} (h : ll.length = n + 1) (hll : ∀ l ∈ ll, COk l) {x : Nat} (hx : x < 4294967296) (hn : nanN x = false) :
    srung32 (ky (ll.getD n []) 0) ≤ srung32 (chainV ll x) ∧ srung32 (chainV ll x) ≤ srung32 (ky (ll.getD n []) ((ll.getD n []).length - 1)) := by
  rw [chain_last h]
  exact at_ends (hll _ (getD_mem (by omega))) (chain_num (fun l hl => hll l (List.mem_of_mem_take hl)) hn hx).1
theorem num_rung {a : Nat} (h : nanN a = false) : rung32 a ≤ 2139095040 := by
  unfold nanN at h
  unfold rung32
  have := of_decide_eq_false h
  omega
theorem order_of {a b : Nat} (ha : nanN a = false) (hb : nanN b = false) : Ieee.single.order a b = some (compare (srung32 a) (srung32 b)) := order_num32 (num_rung ha) (num_rung hb)
theorem order_le {a b : Nat} (ha : nanN a = false) (hb : nanN b = false) (h : srung32 a ≤ srung32 b) : Ieee.single.order a b = some .lt ∨ Ieee.single.order a b = some .eq := by
  rw [order_of ha hb]
  by_cases e : srung32 a < srung32 b
  · left; rw [Int.compare_eq_lt.2 e]
  · right; rw [Int.compare_eq_eq.2 (by omega)]
theorem order_ge {a b : Nat} (ha : nanN a = false) (hb : nanN b = false) (h : srung32 b ≤ srung32 a) : Ieee.single.order a b = some .gt ∨ Ieee.single.order a b = some .eq := by
  rw [order_of ha hb]
  by_cases e : srung32 b < srung32 a
  · left; rw [Int.compare_eq_gt.2 e]
  · right; rw [Int.compare_eq_eq.2 (by omega)]
theorem order_gt {a b : Nat} (ha : nanN a = false) (hb : nanN b = false) (h : ¬ srung32 a ≤ srung32 b) : Ieee.single.order a b = some .gt := by
  rw [order_of ha hb, Int.compare_eq_gt.2 (by omega)]
end Go.Proofs.Ytmfniimelibhfaa
/- The statement on chains that rise: its walk. -/
namespace Go.Proofs.Ytmfniimelibhfaa
open Go.RowKit
set_option linter.unusedVariables false
set_option linter.unusedSimpArgs false

theorem VLs.lls {w : World} {a : Option Addr} {N cap : Nat} {ll : List (List (Nat × Nat))} (h : VLs w (.slice a N cap) ll) (h1 : 1 ≤ ll.length) (hg : ∀ i, i < ll.length → Good (ll.getD i [])) : ∃ g o, a = some ⟨g, o, none⟩ ∧ LLs w g o ll := by
  rcases h with ⟨g, o, c, e, _, h⟩ | ⟨_, _, _, e⟩
  · injection e with e
    refine ⟨g, o, e, fun i hi => ?_⟩
    obtain ⟨u, a1, a2⟩ := h i hi
    rcases a2 with ⟨g', o', c', rfl, b1, b2⟩ | ⟨_, _, _, b⟩
    · exact ⟨g', o', c', a1, b1, b2⟩
    · have := (hg i hi).1
      rw [b] at this
      exact absurd this (by decide)
  · rw [e] at h1; exact absurd h1 (by decide)

set_option maxHeartbeats 4000000 in
set_option maxRecDepth 100000 in
theorem rises_walk (sv xv : Value) (ll : List (List (Nat × Nat))) (xs : List Nat) (hf : Fits ll) (hxt : ∀ i, xs.getD i 0 < 4294967296) (bl : ll.length ≤ 9223372036854775807) (bx : xs.length ≤ 9223372036854775807) (w : World) (hk : VLs w sv ll) (hx : USl w xv xs) :
    Calls Try.prog 7 #[sv, xv] w fun e w' => e = .returned (.bool true) ∧ Q w w' := by
  obtain ⟨a, cap, ev⟩ := hk.form
  obtain ⟨a', cap', ex⟩ := hx.form
  have HK : Hid (VLs w sv ll) := hk
  have HX : Hid (USl w xv xs) := hx
  have HF : Hid (Fits ll) := hf
  have HU : Hid (∀ i, xs.getD i 0 < 4294967296) := hxt
  obtain ⟨N, hN⟩ : ∃ N, ll.length = N := ⟨_, rfl⟩
  have HN : Hid (ll.length = N) := hN
  rw [ev, ex]
  rw [ev] at HK
  rw [ex] at HX
  rw [hN] at HK bl ⊢
  clear hk hx ev ex hxt hf hN
  go_enter Try.func7, Try.ntmps7
  go_wp2_with fail
  refine (known_any _).mono ?_
  rintro e w1 ⟨rfl, q1⟩
  by_cases h1 : 60 < xs.length
  · have g1 : (60 : Int) < (xs.length : Int) := by omega
    go_wp2_with fail
    go_ret
    exact ⟨rfl, q1⟩
  · have g1 : ¬ (60 : Int) < (xs.length : Int) := by omega
    have g2 : decide ((60 : Int) < (xs.length : Int)) = false := decide_eq_false g1
    have HM : Hid (Calls Try.prog 31 #[.slice a N cap] w1 (MayPost ll w1)) := may_any _ ll HF.out (by rw [HN.out]; exact bl) w1 (HK.out.next q1)
    go_wp2_with fail
    refine HM.out.mono ?_
    rintro e w2 ⟨q2, B, rfl, hB⟩
    clear HM
    cases B
    · go_wp2_with fail
      go_ret
      exact ⟨rfl, q1.trans q2⟩
    · obtain ⟨n1, n8, gd⟩ := hB rfl
      have GD : Hid (∀ i, i < ll.length → Good (ll.getD i [])) := gd
      obtain ⟨g, o, rfl, hl⟩ := HK.out.lls n1 gd
      have HL : Hid (LLs w g o ll) := hl
      replace q1 := q1.trans q2
      have OK : Hid (∀ l ∈ ll, COk l) := by
        intro l hl
        obtain ⟨i, hi, rfl⟩ := List.getElem_of_mem hl
        have := gd i hi
        rw [List.getD_eq_getElem?_getD, List.getElem?_eq_getElem hi] at this
        exact good_ok this (HF.out _ hl).2
      have HS : Hid (Calls Try.prog 32 #[.slice (some ⟨g, o, none⟩) N cap] w2 fun e w' => Q w2 w' ∧ ∃ b, e = .returned (.pointer (some ⟨b, 0, none⟩)) ∧ ChIs w' b ll) := by
        have := some_any g o cap ll HF.out n1 n8 gd w2 (hl.next q1)
        rw [HN.out] at this
        exact this
      rw [HN.out] at n1 n8
      clear hB gd hl q2 HK
      go_wp2_with fail
      refine HS.out.mono ?_
      rintro e w3 ⟨q3, b, rfl, hc⟩
      have HC : Hid (ChIs w3 b ll) := hc
      replace q1 := q1.trans q3
      clear hc q3 HS
      obtain ⟨n, rfl⟩ : ∃ n, N = n + 1 := ⟨N - 1, by omega⟩
      obtain ⟨gk, ok, ck, p1, p2, p3⟩ := HL.out.next q1 n (by rw [HN.out]; omega)
      have kd := GD.out n (by rw [HN.out]; omega)
      have E1 : Hid (∀ x, x < 4294967296 → nanN x = false → srung32 (ky (ll.getD n []) 0) ≤ srung32 (chainV ll x) ∧ srung32 (chainV ll x) ≤ srung32 (ky (ll.getD n []) ((ll.getD n []).length - 1))) := fun x hx hn => chain_ends HN.out OK.out hx hn
      have okK := OK.out _ (getD_mem (show n < ll.length by rw [HN.out]; omega))
      obtain ⟨K, hK⟩ : ∃ K, ll.getD n [] = K := ⟨_, rfl⟩
      rw [hK] at p1 p2 p3 kd E1 okK
      clear hK
      obtain ⟨m, hm⟩ : ∃ m, K.length = m + 1 := ⟨K.length - 1, by have := kd.1; omega⟩
      have y0 := (p3 0 (by omega)).2
      have y1 := (p3 m (by omega)).2
      rw [Nat.zero_mul, Nat.add_zero] at y0
      have f0 := fin_nan (okK.fin 0 (by omega)).2
      have f1 := fin_nan (okK.fin m (by omega)).2
      rw [hm, show m + 1 - 1 = m by omega] at E1
      rw [hm] at p1 p2
      obtain ⟨LO, hLO⟩ : ∃ LO, ky K 0 = LO := ⟨_, rfl⟩
      obtain ⟨HI, hHI⟩ : ∃ HI, ky K m = HI := ⟨_, rfl⟩
      rw [hLO] at y0 f0 E1
      rw [hHI] at y1 f1 E1
      have i1 : ((n + 1 : Nat) : Int) - 1 = (n : Int) := by omega
      have i2 : (0 : Int) ≤ (n : Int) := by omega
      have i3 : (n : Int) < ((n + 1 : Nat) : Int) := by omega
      have i4 : ((m + 1 : Nat) : Int) - 1 = (m : Int) := by omega
      have i5 : (0 : Int) ≤ (m : Int) := by omega
      have i6 : (m : Int) < ((m + 1 : Nat) : Int) := by omega
      have i7 : (0 : Int) < ((m + 1 : Nat) : Int) := by omega
      have l1 := f32from
      have m64 : m + 1 ≤ 64 := by have := kd.2.1; omega
      clear p3 kd okK hm hLO hHI
      have n0 := qw_some w3
      have d1 := qw_cell y0
      have d2 := qw_cell y1
      go_wp2_with fail
      refine wp_region_quiet_Q (by kernel_rfl) (by kernel_rfl) ?_
      repeat (first | go_big_quiet_step (fail) | quiet_step (fail))
      refine wpQuiet_nil ?_
      intro w4 hw'
      have hq4 := qw_out hw'
      clear hw' d1 d2 n0 y0 y1 p1 p2
      replace q1 := q1.trans hq4
      replace HC : Hid (ChIs w4 b ll) := HC.out.next hq4
      have HXr : Hid (USl w4 (.slice a' xs.length cap') xs) := HX.out.next q1
      clear HX HL GD hq4
      have CM : Hid (∀ (X : Nat) (W : World), X < 4294967296 → Q w4 W → Calls Try.prog 26 #[.pointer (some ⟨b, 0, none⟩), .int .u32 (X : Int)] W fun e w' => e = .returned (.int .u32 (chainV ll X : Nat)) ∧ Q W w') := fun X W hX hW => chat_any b ll OK.out (by rw [HN.out]; omega) X hX W (HC.out.next hW)
      have MD : Hid (∀ X, nanN X = true → chainV ll X = 2143289344) := fun X h => chain_made (by rw [HN.out]; omega) h
      have NM : Hid (∀ X, X < 4294967296 → nanN X = false → nanN (chainV ll X) = false) := fun X hx h => (chain_num OK.out h hx).1
      have MO : Hid (∀ X Y, nanN X = false → nanN Y = false → srung32 X ≤ srung32 Y → srung32 (chainV ll X) ≤ srung32 (chainV ll Y)) := fun X Y h1 h2 h => chain_mono OK.out h1 h2 h
      go_wp2_with fail
      go_loopg [9] xs.length (fun m s9 wr => ∃ k : Nat, s9 = .int .i64 k ∧ k + m = xs.length ∧ Q w4 wr)
      case atStart => exact ⟨0, rfl, by omega, Q.refl _⟩
      case round =>
        obtain ⟨k, rfl, hm, hqx⟩ := hrel
        by_cases hkn : k < xs.length
        · obtain ⟨gx, ox, hae⟩ : ∃ gx ox, a' = some ⟨gx, ox, none⟩ := by
            rcases HXr.out with ⟨g, o, c, e, _⟩ | ⟨_, _, _, e⟩
            · injection e with e; exact ⟨g, o, e⟩
            · exfalso; rw [e] at hkn; exact Nat.not_lt_zero _ hkn
          subst hae
          have XC : Hid (∀ i, i < xs.length → w4.cell? ⟨gx, ox + i, none⟩ = some (.int .u32 (xs.getD i 0 : Nat))) := by
            intro i hi
            rcases HXr.out with ⟨g, o, c, e, _, h⟩ | ⟨_, _, _, e⟩
            · injection e with e; injection e with e; injection e with e1 e2; subst e1; subst e2; exact h i hi
            · exfalso; rw [e] at hkn; exact Nat.not_lt_zero _ hkn
          have cx := hqx.cell (XC.out k hkn)
          have hxk := HU.out k
          have hi0 : (0 : Int) ≤ (k : Int) := by omega
          have hi1 : (k : Int) < (xs.length : Int) := by omega
          obtain ⟨X, hX⟩ : ∃ X, xs.getD k 0 = X := ⟨_, rfl⟩
          rw [hX] at cx hxk
          clear hX
          cases hn : nanN X
          · have o1 : FloatKind.f32.format.order X X = some .eq := by show Ieee.single.order X X = some .eq; rw [order_of hn hn]; simp
            obtain ⟨e1, e2⟩ := E1.out X hxk hn
            have ny := NM.out X hxk hn
            have CX := fun W h => CM.out X W hxk h
            have MX : Hid (∀ Y, nanN Y = false → srung32 X ≤ srung32 Y → srung32 (chainV ll X) ≤ srung32 (chainV ll Y)) := fun Y hy h => MO.out X Y hn hy h
            obtain ⟨Z, hZ⟩ : ∃ Z, chainV ll X = Z := ⟨_, rfl⟩
            rw [hZ] at e1 e2 ny MX
            have HCX : Hid (∀ W : World, Q w4 W → Calls Try.prog 26 #[.pointer (some ⟨b, 0, none⟩), .int .u32 (X : Int)] W fun e w' => e = .returned (.int .u32 (Z : Nat)) ∧ Q W w') := fun W h => by rw [← hZ]; exact CX W h
            clear CX hZ
            go_wp2_with fail
            refine (HCX.out _ hqx).mono ?_
            rintro e w5 ⟨rfl, q5⟩
            replace hqx := hqx.trans q5
            clear q5 HCX cx
            have og : FloatKind.f32.format.order Z LO = some .gt ∨ FloatKind.f32.format.order Z LO = some .eq := order_ge ny f0 e1
            have ol : FloatKind.f32.format.order Z HI = some .lt ∨ FloatKind.f32.format.order Z HI = some .eq := order_le ny f1 e2
            have NX : Hid (nanN X = false ∧ nanN Z = false) := ⟨hn, ny⟩
            clear e1 e2 hn ny
            rcases og with og | og <;> rcases ol with ol | ol
            all_goals
              go_wp2_with fail
              clear og ol o1
              go_loopg [12] xs.length (fun m s12 wx => ∃ j : Nat, s12 = .int .i64 j ∧ j + m = xs.length ∧ Q w4 wx)
              case atStart => exact ⟨0, rfl, by omega, hqx⟩
              case round =>
                obtain ⟨j, rfl, hmj, hqj⟩ := hrel
                by_cases hjn : j < xs.length
                · have cy := hqj.cell (XC.out j hjn)
                  have hyk := HU.out j
                  have hj0 : (0 : Int) ≤ (j : Int) := by omega
                  have hj1 : (j : Int) < (xs.length : Int) := by omega
                  obtain ⟨Y, hY⟩ : ∃ Y, xs.getD j 0 = Y := ⟨_, rfl⟩
                  rw [hY] at cy hyk
                  clear hY
                  cases hny : nanN Y
                  · by_cases hle : srung32 X ≤ srung32 Y
                    · have oxy : FloatKind.f32.format.order X Y = some .lt ∨ FloatKind.f32.format.order X Y = some .eq := order_le NX.out.1 hny hle
                      have nu := NM.out Y hyk hny
                      have ouv : FloatKind.f32.format.order Z (chainV ll Y) = some .lt ∨ FloatKind.f32.format.order Z (chainV ll Y) = some .eq := order_le NX.out.2 nu (MX.out Y hny hle)
                      have CY := fun W h => CM.out Y W hyk h
                      obtain ⟨U, hU⟩ : ∃ U, chainV ll Y = U := ⟨_, rfl⟩
                      rw [hU] at ouv
                      have HCY : Hid (∀ W : World, Q w4 W → Calls Try.prog 26 #[.pointer (some ⟨b, 0, none⟩), .int .u32 (Y : Int)] W fun e w' => e = .returned (.int .u32 (U : Nat)) ∧ Q W w') := fun W h => by rw [← hU]; exact CY W h
                      clear CY hU nu hle hny
                      rcases oxy with oxy | oxy <;> rcases ouv with ouv | ouv
                      all_goals
                        go_wp2_with fail
                        refine (HCY.out _ hqj).mono ?_
                        rintro e w6 ⟨rfl, q6⟩
                        go_wp2_with fail
                        go_roundg (xs.length - (j + 1))
                        case measure => go_light; omega
                        case rel => go_light; exact ⟨j + 1, by go_num, by omega, hqj.trans q6⟩
                    · have oxy : FloatKind.f32.format.order X Y = some .gt := order_gt NX.out.1 hny hle
                      clear hle hny
                      go_wp2_with fail
                      go_roundg (xs.length - (j + 1))
                      case measure => go_light; omega
                      case rel => go_light; exact ⟨j + 1, by go_num, by omega, hqj⟩
                  · have oxy : FloatKind.f32.format.order X Y = none := order_nan2 X (read32_nan hny)
                    clear hny
                    go_wp2_with fail
                    go_roundg (xs.length - (j + 1))
                    case measure => go_light; omega
                    case rel => go_light; exact ⟨j + 1, by go_num, by omega, hqj⟩
                · go_wp2_with fail
                  go_roundg (xs.length - (k + 1))
                  case measure => go_light; omega
                  case rel => go_light; exact ⟨k + 1, by go_num, by omega, hqj⟩
          · have o1 : FloatKind.f32.format.order X X = none := order_nan2 X (read32_nan hn)
            have HCX : Hid (∀ W : World, Q w4 W → Calls Try.prog 26 #[.pointer (some ⟨b, 0, none⟩), .int .u32 (X : Int)] W fun e w' => e = .returned (.int .u32 2143289344) ∧ Q W w') := fun W h => by
              have := CM.out X W hxk h
              rw [MD.out X hn] at this
              exact this
            clear hn
            go_wp2_with fail
            refine (HCX.out _ hqx).mono ?_
            rintro e w5 ⟨rfl, q5⟩
            go_wp2_with fail
            go_roundg (xs.length - (k + 1))
            case measure => go_light; omega
            case rel => go_light; exact ⟨k + 1, by go_num, by omega, hqx.trans q5⟩
        · go_wp2_with fail
          go_ret
          exact ⟨rfl, q1.trans hqx⟩
end Go.Proofs.Ytmfniimelibhfaa

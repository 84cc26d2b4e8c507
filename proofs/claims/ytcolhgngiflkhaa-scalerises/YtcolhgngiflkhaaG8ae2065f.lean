/- kernel.Taps. -/
import Derived.Test.YtcolhgngiflkhaaGc1cffd4b
import Derived.Test.YtcolhgngiflkhaaGf45fc3d1
namespace Go.Proofs.Ytcolhgngiflkhaa
open Go.RowKit
set_option linter.unusedVariables false
set_option linter.unusedSimpArgs false

set_option maxHeartbeats 1000000 in
theorem iskind_any (k : Int) (w : World) : Calls Try.prog 33 #[.int .i64 k] w fun e w' => e = .returned (.bool (decide (1 ≤ k ∧ k ≤ 3))) ∧ w' = w := by
  by_cases h1 : 1 ≤ k
  · by_cases h2 : k ≤ 3
    · rw [decide_eq_true ⟨h1, h2⟩]
      go_enter Try.func33, Try.ntmps33
      go_wp2_with fail
      go_ret
      exact ⟨by first | rfl | simp, rfl⟩
    · rw [decide_eq_false (fun h => h2 h.2)]
      go_enter Try.func33, Try.ntmps33
      go_wp2_with fail
      go_ret
      exact ⟨by first | rfl | (simp; omega), rfl⟩
  · rw [decide_eq_false (fun h => h1 h.1)]
    go_enter Try.func33, Try.ntmps33
    go_wp2_with fail
    go_ret
    exact ⟨by first | rfl | (simp; omega), rfl⟩
set_option maxHeartbeats 1000000 in
theorem isside_any (k : Int) (w : World) : Calls Try.prog 34 #[.int .i64 k] w fun e w' => e = .returned (.bool (decide (1 ≤ k ∧ k ≤ 1024))) ∧ w' = w := by
  by_cases h1 : 1 ≤ k
  · by_cases h2 : k ≤ 1024
    · rw [decide_eq_true ⟨h1, h2⟩]
      go_enter Try.func34, Try.ntmps34
      go_wp2_with fail
      go_ret
      exact ⟨by first | rfl | simp, rfl⟩
    · rw [decide_eq_false (fun h => h2 h.2)]
      go_enter Try.func34, Try.ntmps34
      go_wp2_with fail
      go_ret
      exact ⟨by first | rfl | (simp; omega), rfl⟩
  · rw [decide_eq_false (fun h => h1 h.1)]
    go_enter Try.func34, Try.ntmps34
    go_wp2_with fail
    go_ret
    exact ⟨by first | rfl | (simp; omega), rfl⟩
/-- Which error Taps tells. -/
def tapE (kind F T i : Int) : Int := if 1 ≤ kind ∧ kind ≤ 3 then (if (1 ≤ F ∧ F ≤ 1024) ∧ (1 ≤ T ∧ T ≤ 1024) ∧ 0 ≤ i ∧ i < T then (if F ≤ 15 * T then 0 else 92) else 91) else 90
set_option maxHeartbeats 4000000 in
set_option maxRecDepth 100000 in
theorem taps_bad (kind F T i : Int) (w : World) (hE : tapE kind F T i ≠ 0) :
    Calls Try.prog 28 #[.int .i64 kind, .int .i64 F, .int .i64 T, .int .i64 i] w fun e w' => e = .returned (.tuple #[.slice none 0 0, .int .i64 (tapE kind F T i)]) ∧ w' = w := by
  have K := iskind_any kind w
  have SF := isside_any F w
  have ST := isside_any T w
  have E : Hid (tapE kind F T i = if 1 ≤ kind ∧ kind ≤ 3 then (if (1 ≤ F ∧ F ≤ 1024) ∧ (1 ≤ T ∧ T ≤ 1024) ∧ 0 ≤ i ∧ i < T then (if F ≤ 15 * T then 0 else 92) else 91) else 90) := rfl
  rw [E.out] at hE ⊢
  clear E
  by_cases hk : 1 ≤ kind ∧ kind ≤ 3
  · rw [if_pos hk] at hE ⊢
    rw [decide_eq_true hk] at K
    by_cases hf : 1 ≤ F ∧ F ≤ 1024
    · rw [decide_eq_true hf] at SF
      by_cases ht : 1 ≤ T ∧ T ≤ 1024
      · rw [decide_eq_true ht] at ST
        by_cases h0 : 0 ≤ i
        · by_cases hi : i < T
          · rw [if_pos ⟨hf, ht, h0, hi⟩] at hE ⊢
            by_cases hft : F ≤ 15 * T
            · rw [if_pos hft] at hE; exact absurd rfl hE
            · rw [if_neg hft]
              have a1 : ¬ i < 0 := by omega
              have a2 : ¬ T ≤ i := by omega
              have a3 : 15 * T < F := by omega
              obtain ⟨t1, t2⟩ := ht
              clear hE hk hf hft h0
              go_enter Try.func28, Try.ntmps28
              go_wp2_with (first | (go_at_call 33; refine K.mono ?_; rintro e w' ⟨rfl, rfl⟩) | (go_at_call 34; refine SF.mono ?_; rintro e w' ⟨rfl, rfl⟩) | (go_at_call 34; refine ST.mono ?_; rintro e w' ⟨rfl, rfl⟩))
              go_ret2
              exact ⟨rfl, rfl⟩
          · rw [if_neg (fun h => hi h.2.2.2)]
            have a1 : ¬ i < 0 := by omega
            have a2 : T ≤ i := by omega
            clear hE hk hf ht h0 hi
            go_enter Try.func28, Try.ntmps28
            go_wp2_with (first | (go_at_call 33; refine K.mono ?_; rintro e w' ⟨rfl, rfl⟩) | (go_at_call 34; refine SF.mono ?_; rintro e w' ⟨rfl, rfl⟩) | (go_at_call 34; refine ST.mono ?_; rintro e w' ⟨rfl, rfl⟩))
            go_ret2
            exact ⟨rfl, rfl⟩
        · rw [if_neg (fun h => h0 h.2.2.1)]
          have a1 : i < 0 := by omega
          clear hE hk hf ht h0
          go_enter Try.func28, Try.ntmps28
          go_wp2_with (first | (go_at_call 33; refine K.mono ?_; rintro e w' ⟨rfl, rfl⟩) | (go_at_call 34; refine SF.mono ?_; rintro e w' ⟨rfl, rfl⟩) | (go_at_call 34; refine ST.mono ?_; rintro e w' ⟨rfl, rfl⟩))
          go_ret2
          exact ⟨rfl, rfl⟩
      · rw [if_neg (fun h => ht h.2.1)]
        rw [decide_eq_false ht] at ST
        clear hE hk hf ht
        go_enter Try.func28, Try.ntmps28
        go_wp2_with (first | (go_at_call 33; refine K.mono ?_; rintro e w' ⟨rfl, rfl⟩) | (go_at_call 34; refine SF.mono ?_; rintro e w' ⟨rfl, rfl⟩) | (go_at_call 34; refine ST.mono ?_; rintro e w' ⟨rfl, rfl⟩))
        go_ret2
        exact ⟨rfl, rfl⟩
    · rw [if_neg (fun h => hf h.1)]
      rw [decide_eq_false hf] at SF
      clear hE hk hf ST
      go_enter Try.func28, Try.ntmps28
      go_wp2_with (first | (go_at_call 33; refine K.mono ?_; rintro e w' ⟨rfl, rfl⟩) | (go_at_call 34; refine SF.mono ?_; rintro e w' ⟨rfl, rfl⟩))
      go_ret2
      exact ⟨rfl, rfl⟩
  · rw [if_neg hk]
    rw [decide_eq_false hk] at K
    clear hE hk SF ST
    go_enter Try.func28, Try.ntmps28
    go_wp2_with (go_at_call 33; refine K.mono ?_; rintro e w' ⟨rfl, rfl⟩)
    go_ret2
    exact ⟨rfl, rfl⟩
end Go.Proofs.Ytcolhgngiflkhaa
/- kernel.Taps, where it tells taps. -/
namespace Go.Proofs.Ytcolhgngiflkhaa
open Go.RowKit
set_option linter.unusedVariables false
set_option linter.unusedSimpArgs false

/-- Taps as cells. -/
def newsT (L : List (Int × Int)) : List Value := L.flatMap fun e => [.int .i64 e.1, .int .i64 e.2]
theorem newsT_app (L : List (Int × Int)) (p x : Int) : newsT (L ++ [(p, x)]) = newsT L ++ [.int .i64 p, .int .i64 x] := by unfold newsT; simp
theorem newsT_len (L : List (Int × Int)) : (newsT L).length = L.length * 2 := by
  induction L with
  | nil => rfl
  | cons e t ih => show (_ ++ newsT t).length = _; rw [List.length_append, ih]; simp; omega
theorem tInfo : ∃ i, Try.prog.info? 82 = some i ∧ i.size = 2 ∧ i.bytes = 16 ∧ i.zero = some (.agg #[.int .i64 0, .int .i64 0]) := kinfo_of (by kernel_rfl)
/-- A list of taps of the call's own. -/
structure Tl (w0 wr : World) (v : Value) (L : List (Int × Int)) (n : Nat) : Prop where
  len : n = L.length
  o : wr.ownsRow w0.heap.size 82 2 v n (newsT L)
  q : Q w0 wr
theorem Tl.start (w : World) : Tl w w (.slice none 0 0) [] 0 := ⟨rfl, World.ownsRow_nil _ _ _ _, Q.refl w⟩
theorem Tl.next {w0 wr wx : World} {v : Value} {L : List (Int × Int)} {n : Nat} (h : Tl w0 wr v L n) (q : Q wr wx) : Tl w0 wx v L n := ⟨h.len, own_q (w0 := w0) h.o q, h.q.trans q⟩
theorem Tl.base {w w0 wr : World} {v : Value} {L : List (Int × Int)} {n : Nat} (h : Tl w0 wr v L n) (q : Q w w0) : Tl w wr v L n := ⟨h.len, own_low h.o q.1.size, q.trans h.q⟩
theorem Tl.app {w0 wr : World} {v : Value} {L : List (Int × Int)} {n : Nat} (h : Tl w0 wr v L n) (p x : Int) (hn : n ≤ 100000) :
    ∃ g c x2, (Builtin.append_ #[66, 66] 66 #[v, .slice (some ⟨wr.heap.size, 0, none⟩) 1 1]).run Try.prog (wr.alloc (.cells #[.int .i64 p, .int .i64 x] 82)) = .ok (.slice (some ⟨g, 0, none⟩) (n + 1) c) x2 ∧ Tl w0 x2 (.slice (some ⟨g, 0, none⟩) (n + 1) c) (L ++ [(p, x)]) (n + 1) := by
  obtain ⟨iu, i1, i2, i3, i4⟩ := tInfo
  obtain ⟨g, c, x2, r1, o1, q1, _⟩ := run_app_qg (P := Try.prog) (wr.alloc (.cells #[.int .i64 p, .int .i64 x] 82)) w0 (h.q.cells _ _) 66 66 82 iu _ 2 16 Try.underlying66 i1 i4 i2 i3 rfl (by decide) v n _ (h.o.alloc _) ⟨wr.heap.size, 0, none⟩ 1 1 [.int .i64 p, .int .i64 x] rfl (fun j u hu => by
    have hadd : (⟨wr.heap.size, 0, none⟩ : Addr).add j = ⟨wr.heap.size, j, none⟩ := by unfold Addr.add; simp; omega
    rw [hadd]
    rcases j with _ | _ | j
    · cases hu; simp [go_sem]
    · cases hu; simp [go_sem]
    · simp at hu) (fun u hu => by simp only [List.mem_cons, List.not_mem_nil, or_false] at hu; rcases hu with rfl | rfl <;> rfl) (by decide) (by unfold maxLen; omega) (by omega)
  exact ⟨g, c, x2, r1, by rw [h.len]; simp, by rw [newsT_app]; exact o1, q1⟩
theorem Tl.form {w0 wr : World} {v : Value} {L : List (Int × Int)} {n : Nat} (h : Tl w0 wr v L n) : ∃ a c, v = .slice a n c := by
  rcases h.o.2 with ⟨e1, e⟩ | ⟨g, c, cur, e1, _⟩
  · subst e; exact ⟨none, 0, e1⟩
  · exact ⟨_, c, e1⟩
/-- The taps of weights at places. -/
def tpK (L : List (Int × Int)) (sh : Nat → Int) : Nat → List (Int × Int)
  | 0 => []
  | j + 1 => if sh j = 0 then tpK L sh j else tpK L sh j ++ [((L.getD j (0, 0)).1, sh j)]
theorem tpK_len (L : List (Int × Int)) (sh : Nat → Int) : ∀ j, (tpK L sh j).length ≤ j
  | 0 => Nat.le_refl _
  | j + 1 => by
    have := tpK_len L sh j
    unfold tpK
    split
    · omega
    · simp; omega
def tapsL (L : List (Int × Int)) : List (Int × Int) := tpK L (shrV (zf (L.map Prod.snd)) L.length) L.length
theorem sndSum_zf (L : List (Int × Int)) : sndSum L = sumF (zf (L.map Prod.snd)) L.length := by
  have key : ∀ (zs : List Int), zs.sum = sumF (zf zs) zs.length := by
    intro zs
    have h1 : ∀ k, k ≤ zs.length → (zs.take k).sum = sumF (zf zs) k := by
      intro k
      induction k with
      | zero => intro _; simp [sumF]
      | succ k ih =>
        intro hk
        rw [List.take_add_one, List.sum_append, ih (by omega)]
        show _ = sumF (zf zs) k + zf zs k
        unfold zf
        rw [List.getElem?_eq_getElem (by omega), List.getD_eq_getElem?_getD, List.getElem?_eq_getElem (by omega)]
        simp
    have := h1 zs.length (Nat.le_refl _)
    rw [List.take_length] at this
    exact this
  unfold sndSum
  rw [key, List.length_map]
theorem own_isl {w : World} {base n : Nat} {v : Value} {L : List Int} (h : w.ownsRow base 3 1 v n (newsI L)) (hn : L.length = n) : ISl w v L := by
  obtain ⟨_, ⟨rfl, h0⟩ | ⟨g, cap, cur, rfl, hb⟩⟩ := id h
  · exact Or.inr ⟨_, _, rfl, List.eq_nil_of_length_eq_zero (by omega)⟩
  · refine Or.inl ⟨g, 0, cap, by rw [hn], fun i hi => ?_⟩
    have := h.cellAt i (by omega)
    rw [Nat.zero_add, this]
    unfold newsI
    rw [List.getElem?_map, List.getElem?_eq_getElem hi, List.getD_eq_getElem?_getD, List.getElem?_eq_getElem hi]
    rfl
theorem own_at {w : World} {base n g c : Nat} {L : List Int} (h : w.ownsRow base 3 1 (.slice (some ⟨g, 0, none⟩) n c) n (newsI L)) {i : Nat} {z : Int} (hi : L[i]? = some z) (hn : L.length = n) : w.cell? ⟨g, i, none⟩ = some (.int .i64 z) := by
  have hlt := (List.getElem?_eq_some_iff.1 hi).1
  rw [h.cellAt i (by omega)]
  unfold newsI
  rw [List.getElem?_map, hi]; rfl
set_option maxHeartbeats 8000000 in
set_option maxRecDepth 1000000 in
theorem taps_good (kind : Int) (F T i : Nat) (w : World) (hk : kind = 1 ∨ kind = 2 ∨ kind = 3) (h : Sz F T i) (hS : 0 < sndSum (wlsV kind F T i)) :
    Calls Try.prog 28 #[.int .i64 kind, .int .i64 (F : Int), .int .i64 (T : Int), .int .i64 (i : Int)] w fun e w' => ∃ v n, e = .returned (.tuple #[v, .int .i64 0]) ∧ Tl w w' v (tapsL (wlsV kind F T i)) n := by
  have K := iskind_any kind w
  have SF := isside_any (F : Int) w
  have ST := isside_any (T : Int) w
  rw [decide_eq_true (by rcases hk with rfl | rfl | rfl <;> decide)] at K
  rw [decide_eq_true (by have := h.f1; have := h.f2; omega)] at SF
  rw [decide_eq_true (by have := h.t1; have := h.t2; omega)] at ST
  have HSz : Hid (Sz F T i) := h
  have a1 : ¬ (i : Int) < 0 := by omega
  have a2 : ¬ (T : Int) ≤ (i : Int) := by have := h.i; omega
  have a3 : ¬ 15 * (T : Int) < (F : Int) := by have := h.ft; omega
  have bF : (F : Int) ≤ 1024 := by have := h.f2; omega
  have bT : (T : Int) ≤ 1024 := by have := h.t2; omega
  have hmx : ∀ (ts : Array TypeId) (t : TypeId) (w : World), (Builtin.max_ ts t #[.int .i64 (F : Int), .int .i64 (T : Int)]).run Try.prog w = .ok (.int .i64 ((max F T : Nat) : Int)) w := fun ts t w => by
    rw [run_mx2]; congr 2; omega
  have HSh := shape_any kind ((max F T : Nat) : Int) w hk (by have := h.f1; omega) (by have := h.f2; have := h.t2; omega)
  have HWe : Hid (∀ (b : Nat) (W : World), W.cell? ⟨b, 0, none⟩ = some (.int .i64 (kbx kind (max F T : Nat))) → Calls Try.prog 35 #[.agg #[.int .i64 (rea kind (max F T : Nat)), .func (.func (kfn kind)) #[] #[.pointer (some ⟨b, 0, none⟩)]], .int .i64 (F : Int), .int .i64 (T : Int), .int .i64 (i : Int)] W fun e w' => ∃ vP vW n, e = .returned (.tuple #[vP, vW]) ∧ Wl W w' vP vW (wlsV kind F T i) n) := fun b W hb => weighed_any kind F T i b W hk h hb
  obtain ⟨wl1, wl2⟩ := wls_bound (kind := kind) h
  obtain ⟨L, hL⟩ : ∃ L, wlsV kind F T i = L := ⟨_, rfl⟩
  rw [hL] at wl1 wl2 hS HWe ⊢
  have HB : Hid (∀ e ∈ L, -1099511627776 ≤ e.2 ∧ e.2 ≤ 1099511627776) := wl2
  have HS : Hid (0 < sndSum L) := hS
  have hL0 : 1 ≤ L.length := by
    cases L with
    | nil => exact absurd hS (by decide)
    | cons _ _ => simp
  generalize hmm : (max F T : Nat) = mm at *
  clear hk h wl2 hS hL HSz hmm
  generalize rea kind (mm : Int) = re at *
  generalize kbx kind (mm : Int) = kb at *
  generalize kfn kind = kf at *
  go_enter Try.func28, Try.ntmps28
  go_wp2_with (first | (go_at_call 33; refine K.mono ?_; rintro e w' ⟨rfl, hw⟩; obtain rfl := hw.symm; clear hw) | (go_at_call 34; refine SF.mono ?_; rintro e w' ⟨rfl, hw⟩; obtain rfl := hw.symm; clear hw) | (go_at_call 34; refine ST.mono ?_; rintro e w' ⟨rfl, hw⟩; obtain rfl := hw.symm; clear hw))
  refine HSh.mono ?_
  rintro e w2 ⟨b, rfl, hb, q2⟩
  clear K SF ST HSh hmx
  have HQ2 : Hid (Q _ w2) := q2
  clear q2
  go_wp2_with fail
  refine (HWe.out b w2 hb).mono ?_
  rintro e w3 ⟨vP, vW, n, rfl, hW⟩
  have HW3 : Hid (Wl w2 w3 vP vW L n) := hW
  obtain ⟨aP, cP, aW, cW, rfl, rfl⟩ := hW.form
  have hn := hW.len
  have Csh := shares_any (.slice aW n cW) (L.map Prod.snd) w3 (own_isl hW.w (by rw [List.length_map]; exact hn.symm)) (by rw [List.length_map]; exact hL0) (by rw [List.length_map]; omega) (fun k => by
    rw [List.getD_eq_getElem?_getD, List.getElem?_map]
    cases hk : L[k]? with
    | none => decide
    | some e => exact HB.out e (List.mem_of_getElem? hk)) (by rw [List.length_map, ← sndSum_zf]; exact HS.out)
  rw [List.length_map, ← hn] at Csh
  have HT : Hid (tapsL L = tpK L (shrV (zf (L.map Prod.snd)) n) n) := by show tapsL L = _; unfold tapsL; rw [← hn]
  generalize shrV (zf (L.map Prod.snd)) n = sh at Csh HT
  have HLn : Hid (n = L.length) := hn
  have hn62 : n ≤ 62 := by omega
  clear hW hb HS hn wl1 hL0
  go_wp2_with fail
  refine Csh.mono ?_
  rintro e w4 ⟨g, rfl, hg, hrow, q4⟩
  have HR : Hid (IRow w4 g (tabI n sh)) := hrow
  have HW4 : Hid (Wl w2 w4 (.slice aP n cP) (.slice aW n cW) L n) := HW3.out.next q4
  have HQ4 : Hid (Q w w4) := (HQ2.out.trans HW3.out.q).trans q4
  clear Csh hg hrow q4 HW3
  go_wp2_with fail
  go_loopg [12, 13, 14, 57] n (fun gh s12 s13 s14 s57 wr => ∃ (j k : Nat) (ad : Option Addr) (c : Nat), s12 = .slice ad k c ∧ s57 = .int .i64 (j : Int) ∧ j ≤ n ∧ gh = n - j ∧ k ≤ j ∧ Hid (Tl w4 wr (.slice ad k c) (tpK L sh j) k))
  case atStart => exact ⟨0, 0, none, 0, rfl, rfl, Nat.zero_le _, rfl, Nat.le_refl _, Tl.start w4⟩
  case round =>
    obtain ⟨j, k, ad, c, rfl, rfl, hj, rfl, hkj, HL⟩ := hrel
    by_cases hlt : j < n
    · have hltz : (j : Int) < (n : Int) := by omega
      have c1 := HL.out.q.cell (HR.out.cell j _ (tabI_at hlt))
      obtain ⟨x, hx⟩ : ∃ x, sh j = x := ⟨_, rfl⟩
      rw [hx] at c1
      by_cases hz : x = 0
      · subst hz
        have HL2 : Hid (Tl w4 wr (.slice ad k c) (tpK L sh (j + 1)) k) := by
          show Tl w4 wr _ (if sh j = 0 then tpK L sh j else _) k
          rw [if_pos hx]; exact HL.out
        clear HL hx
        go_wp2_with fail
        go_roundg (n - (j + 1))
        case measure => go_light; omega
        case rel => go_light; exact ⟨j + 1, k, ad, c, rfl, by simp, by omega, rfl, by omega, HL2⟩
      · have hz' : (x == 0) = false := by simpa using hz
        obtain ⟨e, he⟩ : ∃ e, L[j]? = some e := ⟨_, List.getElem?_eq_getElem (by have := HLn.out; omega)⟩
        obtain ⟨p, y⟩ := e
        obtain ⟨gP, rfl⟩ : ∃ gP, aP = some ⟨gP, 0, none⟩ := by
          rcases HW4.out.p.2 with ⟨_, e⟩ | ⟨g', c', cur, e1, _⟩
          · omega
          · injection e1 with e1; exact ⟨g', e1⟩
        have c2 := HL.out.q.cell (own_at HW4.out.p (i := j) (z := p) (by rw [List.getElem?_map, he]; rfl) (by rw [List.length_map]; exact HLn.out.symm))
        obtain ⟨g2, c3, x2, r1, HN⟩ := HL.out.app p x (by omega)
        have HL2 : Hid (Tl w4 x2 (.slice (some ⟨g2, 0, none⟩) (k + 1) c3) (tpK L sh (j + 1)) (k + 1)) := by
          show Tl w4 x2 _ (if sh j = 0 then tpK L sh j else tpK L sh j ++ [((L.getD j (0, 0)).1, sh j)]) (k + 1)
          rw [if_neg (by rw [hx]; exact hz), hx, List.getD_eq_getElem?_getD, he]
          exact HN
        clear HL HN hx he
        go_wp2_with (at_builtin; go_must (refine wpList_appK (.tmp 64) (.tmp 71) 66 rfl rfl (by simp [Act.eval, Act.put]) (by simp [Act.eval, Act.put]) r1 ?_))
        go_roundg (n - (j + 1))
        case measure => go_light; omega
        case rel => go_light; exact ⟨j + 1, k + 1, _, _, rfl, by simp, by omega, rfl, by omega, HL2⟩
    · have hge : ¬ (j : Int) < (n : Int) := by omega
      obtain rfl : j = n := by omega
      go_wp2_with fail
      go_ret2
      exact ⟨_, rfl, k, by rw [HT.out]; exact HL.out.base HQ4.out⟩
end Go.Proofs.Ytcolhgngiflkhaa
/- Shares sum to 65536, each is near its exact share, and equal weights share alike: plain. -/
namespace Go.Proofs.Ytcolhgngiflkhaa
set_option linter.unusedVariables false
set_option linter.unusedSimpArgs false

theorem sumF_one {f g : Nat → Int} {o : Nat} (ho : g o = f o + 1) (hs : ∀ i, i ≠ o → g i = f i) : ∀ n, sumF g n = sumF f n + if o < n then 1 else 0
  | 0 => by simp [sumF]
  | n + 1 => by
    have ih := sumF_one ho hs n
    unfold sumF
    rw [ih]
    by_cases e : n = o
    · subst e; rw [ho, if_neg (by omega), if_pos (by omega)]; omega
    · rw [hs n e]
      by_cases c : o < n
      · rw [if_pos c, if_pos (by omega)]; omega
      · rw [if_neg c, if_neg (by omega)]; omega
theorem ordL_place {r : Int → Int} {n k : Nat} (h : k < n) : ∃ o : Nat, (ordL r n)[k]? = some (o : Int) ∧ o < n := by
  have hlen : k < (ordL r n).length := by rw [ordL_len]; exact h
  have hm := ordL_mem.1 (List.getElem_mem hlen)
  exact ⟨((ordL r n)[k]).toNat, by rw [List.getElem?_eq_getElem hlen]; congr 1; omega, by omega⟩
theorem shrK_sum (z : Nat → Int) (S : Int) (n : Nat) : ∀ k, k ≤ n → sumF (shrK z S n k) n = sumF (flo z S) n + (k : Int)
  | 0, _ => by rw [sumF_congr n (fun i _ => shrK_zero z S n i)]; simp
  | k + 1, h => by
    obtain ⟨o, ho, hon⟩ := ordL_place (r := rsV z S) (n := n) (k := k) (by omega)
    obtain ⟨h1, h2⟩ := shrK_hit ho
    rw [sumF_one h1 h2, if_pos hon, shrK_sum z S n k (by omega)]
    omega
theorem shr_sum {z : Nat → Int} {n : Nat} (hn : 0 < n) (hS : 0 < sumF z n) : sumF (shrV z n) n = 65536 := by
  have h0 := miss_ge z rfl hS
  have h1 := miss_le z rfl hS hn
  have := shrK_sum z (sumF z n) n (missV z (sumF z n) n).toNat (by omega)
  show sumF (shrK z (sumF z n) n (missV z (sumF z n) n).toNat) n = _
  rw [this]
  unfold missV at h0 ⊢
  omega
theorem perm_sum {l l' : List Int} (h : l.Perm l') : l.sum = l'.sum := by
  induction h with
  | nil => rfl
  | cons a _ ih => simp [ih]
  | swap a b l => simp; omega
  | trans _ _ h1 h2 => exact h1.trans h2
theorem sum_map_range (f : Nat → Int) : ∀ n, ((List.range n).map f).sum = sumF f n
  | 0 => rfl
  | n + 1 => by rw [List.range_succ, List.map_append, List.sum_append, sum_map_range f n]; simp [sumF]
/-- Who has one more has a rest. -/
theorem hit_pos {z : Nat → Int} {n : Nat} (hn : 0 < n) (hS : 0 < sumF z n) {x : Int} (hx : x ∈ (ordL (rsV z (sumF z n)) n).take (missV z (sumF z n) n).toNat) : 0 < rsV z (sumF z n) x := by
  obtain ⟨S, eS⟩ : ∃ S, sumF z n = S := ⟨_, rfl⟩
  have hm0 := miss_ge z rfl hS
  have hm1 := miss_eq z (n := n) rfl
  rw [eS] at hx hS hm0 hm1 ⊢
  have hr0 := rs_nonneg z hS x
  rcases Int.lt_or_le 0 (rsV z S x) with c | c
  · exact c
  exfalso
  obtain ⟨j, hj⟩ := List.getElem?_of_mem hx
  have hjm : j < (missV z S n).toNat := by have := (List.getElem?_eq_some_iff.1 hj).1; rw [List.length_take] at this; omega
  rw [List.getElem?_take_of_lt hjm] at hj
  -- all behind it have none
  have hsum : ((ordL (rsV z S) n).map (rsV z S)).sum = sumF (fun i => rsV z S i) n := by
    rw [perm_sum ((ordL_perm (rsV z S) n).map (rsV z S))]
    unfold placesL
    rw [List.map_map]
    exact sum_map_range _ n
  have hsplit : ((ordL (rsV z S) n).map (rsV z S)).sum = (((ordL (rsV z S) n).take j).map (rsV z S)).sum + (((ordL (rsV z S) n).drop j).map (rsV z S)).sum := by
    rw [← List.sum_append, ← List.map_append, List.take_append_drop]
  have hd : (((ordL (rsV z S) n).drop j).map (rsV z S)).sum = 0 := by
    have key : ∀ y ∈ (ordL (rsV z S) n).drop j, rsV z S y = 0 := fun y hy => by
      obtain ⟨k, hk⟩ := List.getElem?_of_mem hy
      rw [List.getElem?_drop] at hk
      have h0 := rs_nonneg z hS y
      by_cases e : k = 0
      · subst e
        rw [Nat.add_zero, hj] at hk
        cases hk; omega
      · have := ordL_lt hj hk (by omega)
        unfold tlt at this
        omega
    have : ((ordL (rsV z S) n).drop j).map (rsV z S) = ((ordL (rsV z S) n).drop j).map (fun _ => (0 : Int)) := List.map_congr_left key
    rw [this]
    generalize (ordL (rsV z S) n).drop j = l
    induction l with
    | nil => rfl
    | cons a t ih => simp [ih]
  have ht : (((ordL (rsV z S) n).take j).map (rsV z S)).sum ≤ (j : Int) * (S - 1) := by
    have key : ∀ l : List Int, (l.map (rsV z S)).sum ≤ (l.length : Int) * (S - 1) := fun l => by
      induction l with
      | nil => simp
      | cons a t ih =>
        have h1 := rs_lt z hS a
        have e : ((a :: t).length : Int) * (S - 1) = (t.length : Int) * (S - 1) + (S - 1) := by rw [List.length_cons, Int.natCast_add, Int.add_mul]; simp
        rw [List.map_cons, List.sum_cons, e]
        omega
    have h1 := key ((ordL (rsV z S) n).take j)
    have h2 : (((ordL (rsV z S) n).take j).length : Int) ≤ (j : Int) := by rw [List.length_take]; omega
    have h3 : (((ordL (rsV z S) n).take j).length : Int) * (S - 1) ≤ (j : Int) * (S - 1) := Int.mul_le_mul_of_nonneg_right h2 (by omega)
    omega
  rw [hd, hsum, ← hm1] at hsplit
  have h4 : ((j : Int) + 1) * S ≤ missV z S n * S := Int.mul_le_mul_of_nonneg_right (by omega) (by omega)
  rw [Int.add_mul, Int.mul_comm (missV z S n)] at h4
  have h5 : (j : Int) * (S - 1) = (j : Int) * S - (j : Int) := by rw [Int.mul_sub]; omega
  omega
theorem shr_near {z : Nat → Int} {n : Nat} (hn : 0 < n) (hS : 0 < sumF z n) (i : Nat) : -(sumF z n) < shrV z n i * sumF z n - 65536 * z i ∧ shrV z n i * sumF z n - 65536 * z i < sumF z n := by
  have h1 := flo_rs z (sumF z n) i
  have h2 := rs_nonneg z hS i
  have h3 := rs_lt z hS i
  unfold shrV shrK
  by_cases c : (i : Int) ∈ (ordL (rsV z (sumF z n)) n).take (missV z (sumF z n) n).toNat
  · have h4 := hit_pos hn hS c
    rw [if_pos c, Int.add_mul, Int.mul_comm (flo z (sumF z n) i)]
    omega
  · rw [if_neg c, Int.add_zero, Int.mul_comm (flo z (sumF z n) i)]
    omega
theorem shr_alike {z : Nat → Int} {n k i : Nat} (hki : k < i) (hin : i < n) (he : z k = z i) : shrV z n k = shrV z n i ∨ shrV z n k = shrV z n i + 1 := by
  unfold shrV shrK
  generalize sumF z n = S
  generalize (missV z S n).toNat = m
  have hf : flo z S k = flo z S i := by unfold flo; rw [he]
  rw [hf]
  have hr : rsV z S k = rsV z S i := by unfold rsV; rw [Int.toNat_natCast, Int.toNat_natCast, he]
  by_cases ci : (i : Int) ∈ (ordL (rsV z S) n).take m
  · have ck : (k : Int) ∈ (ordL (rsV z S) n).take m := by
      obtain ⟨b, hb⟩ := List.getElem?_of_mem ci
      have hbm : b < m := by have := (List.getElem?_eq_some_iff.1 hb).1; rw [List.length_take] at this; omega
      rw [List.getElem?_take_of_lt hbm] at hb
      obtain ⟨a, ha⟩ := List.getElem?_of_mem (ordL_mem.2 ⟨(by omega : (0 : Int) ≤ (k : Int)), (by omega : (k : Int) < (n : Int))⟩ : (k : Int) ∈ ordL (rsV z S) n)
      have hab : a < b := by
        rcases Nat.lt_trichotomy a b with h | h | h
        · exact h
        · subst h; rw [ha] at hb; cases hb; omega
        · have := ordL_lt hb ha h
          unfold tlt at this
          omega
      refine List.mem_of_getElem? (i := a) ?_
      rw [List.getElem?_take_of_lt (by omega)]; exact ha
    rw [if_pos ci, if_pos ck]; exact Or.inl rfl
  · rw [if_neg ci]
    by_cases ck : (k : Int) ∈ (ordL (rsV z S) n).take m
    · rw [if_pos ck]; right; omega
    · rw [if_neg ck]; exact Or.inl rfl
end Go.Proofs.Ytcolhgngiflkhaa

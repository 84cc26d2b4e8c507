/- kernel.Taps. -/
import Derived.Test.YtgajobomimcoaaaGd68119d4
namespace Go.Proofs.Ytgajobomimcoaaa
open Go.RowKit
set_option linter.unusedVariables false
set_option linter.unusedSimpArgs false

set_option maxHeartbeats 1000000 in
theorem iskind_any (k : Int) (w : World) : Calls Try.prog 24 #[.int .i64 k] w fun e w' => e = .returned (.bool (decide (1 ≤ k ∧ k ≤ 3))) ∧ w' = w := by
  by_cases h1 : 1 ≤ k
  · by_cases h2 : k ≤ 3
    · rw [decide_eq_true ⟨h1, h2⟩]
      go_enter Try.func24, Try.ntmps24
      go_wp2_with fail
      go_ret
      exact ⟨by first | rfl | simp, rfl⟩
    · rw [decide_eq_false (fun h => h2 h.2)]
      go_enter Try.func24, Try.ntmps24
      go_wp2_with fail
      go_ret
      exact ⟨by first | rfl | (simp; omega), rfl⟩
  · rw [decide_eq_false (fun h => h1 h.1)]
    go_enter Try.func24, Try.ntmps24
    go_wp2_with fail
    go_ret
    exact ⟨by first | rfl | (simp; omega), rfl⟩
set_option maxHeartbeats 1000000 in
theorem isside_any (k : Int) (w : World) : Calls Try.prog 25 #[.int .i64 k] w fun e w' => e = .returned (.bool (decide (1 ≤ k ∧ k ≤ 1024))) ∧ w' = w := by
  by_cases h1 : 1 ≤ k
  · by_cases h2 : k ≤ 1024
    · rw [decide_eq_true ⟨h1, h2⟩]
      go_enter Try.func25, Try.ntmps25
      go_wp2_with fail
      go_ret
      exact ⟨by first | rfl | simp, rfl⟩
    · rw [decide_eq_false (fun h => h2 h.2)]
      go_enter Try.func25, Try.ntmps25
      go_wp2_with fail
      go_ret
      exact ⟨by first | rfl | (simp; omega), rfl⟩
  · rw [decide_eq_false (fun h => h1 h.1)]
    go_enter Try.func25, Try.ntmps25
    go_wp2_with fail
    go_ret
    exact ⟨by first | rfl | (simp; omega), rfl⟩
/-- Which error Taps tells. -/
def tapE (kind F T i : Int) : Int := if 1 ≤ kind ∧ kind ≤ 3 then (if (1 ≤ F ∧ F ≤ 1024) ∧ (1 ≤ T ∧ T ≤ 1024) ∧ 0 ≤ i ∧ i < T then (if F ≤ 15 * T then 0 else 92) else 91) else 90
set_option maxHeartbeats 4000000 in
set_option maxRecDepth 100000 in
theorem taps_bad (kind F T i : Int) (w : World) (hE : tapE kind F T i ≠ 0) :
    Calls Try.prog 11 #[.int .i64 kind, .int .i64 F, .int .i64 T, .int .i64 i] w fun e w' => e = .returned (.tuple #[.slice none 0 0, .int .i64 (tapE kind F T i)]) ∧ w' = w := by
  have K := iskind_any kind w
  have SF := isside_any F w
  have ST := isside_any T w
  have E : Hid (tapE kind F T i = if 1 ≤ kind ∧ kind ≤ 3 then (if (1 ≤ F ∧ F ≤ 1024) ∧ (1 ≤ T ∧ T ≤ 1024) ∧ 0 ≤ i ∧ i < T then (if F ≤ 15 * T then 0 else 92) else 91) else 90) := rfl
  rw [E.out] at hE ⊢
  clear E
  by_cases hk : 1 ≤ kind ∧ kind ≤ 3
  · rw [if_pos hk] at hE ⊢
    rw [decide_eq_true hk] at K
    by_cases hf : 1 ≤ F ∧ F ≤ 1024
    · rw [decide_eq_true hf] at SF
      by_cases ht : 1 ≤ T ∧ T ≤ 1024
      · rw [decide_eq_true ht] at ST
        by_cases h0 : 0 ≤ i
        · by_cases hi : i < T
          · rw [if_pos ⟨hf, ht, h0, hi⟩] at hE ⊢
            by_cases hft : F ≤ 15 * T
            · rw [if_pos hft] at hE; exact absurd rfl hE
            · rw [if_neg hft]
              have a1 : ¬ i < 0 := by omega
              have a2 : ¬ T ≤ i := by omega
              have a3 : 15 * T < F := by omega
              obtain ⟨t1, t2⟩ := ht
              clear hE hk hf hft h0
              go_enter Try.func11, Try.ntmps11
              go_wp2_with (first | (go_at_call 24; refine K.mono ?_; rintro e w' ⟨rfl, rfl⟩) | (go_at_call 25; refine SF.mono ?_; rintro e w' ⟨rfl, rfl⟩) | (go_at_call 25; refine ST.mono ?_; rintro e w' ⟨rfl, rfl⟩))
              go_ret2
              exact ⟨rfl, rfl⟩
          · rw [if_neg (fun h => hi h.2.2.2)]
            have a1 : ¬ i < 0 := by omega
            have a2 : T ≤ i := by omega
            clear hE hk hf ht h0 hi
            go_enter Try.func11, Try.ntmps11
            go_wp2_with (first | (go_at_call 24; refine K.mono ?_; rintro e w' ⟨rfl, rfl⟩) | (go_at_call 25; refine SF.mono ?_; rintro e w' ⟨rfl, rfl⟩) | (go_at_call 25; refine ST.mono ?_; rintro e w' ⟨rfl, rfl⟩))
            go_ret2
            exact ⟨rfl, rfl⟩
        · rw [if_neg (fun h => h0 h.2.2.1)]
          have a1 : i < 0 := by omega
          clear hE hk hf ht h0
          go_enter Try.func11, Try.ntmps11
          go_wp2_with (first | (go_at_call 24; refine K.mono ?_; rintro e w' ⟨rfl, rfl⟩) | (go_at_call 25; refine SF.mono ?_; rintro e w' ⟨rfl, rfl⟩) | (go_at_call 25; refine ST.mono ?_; rintro e w' ⟨rfl, rfl⟩))
          go_ret2
          exact ⟨rfl, rfl⟩
      · rw [if_neg (fun h => ht h.2.1)]
        rw [decide_eq_false ht] at ST
        clear hE hk hf ht
        go_enter Try.func11, Try.ntmps11
        go_wp2_with (first | (go_at_call 24; refine K.mono ?_; rintro e w' ⟨rfl, rfl⟩) | (go_at_call 25; refine SF.mono ?_; rintro e w' ⟨rfl, rfl⟩) | (go_at_call 25; refine ST.mono ?_; rintro e w' ⟨rfl, rfl⟩))
        go_ret2
        exact ⟨rfl, rfl⟩
    · rw [if_neg (fun h => hf h.1)]
      rw [decide_eq_false hf] at SF
      clear hE hk hf ST
      go_enter Try.func11, Try.ntmps11
      go_wp2_with (first | (go_at_call 24; refine K.mono ?_; rintro e w' ⟨rfl, rfl⟩) | (go_at_call 25; refine SF.mono ?_; rintro e w' ⟨rfl, rfl⟩))
      go_ret2
      exact ⟨rfl, rfl⟩
  · rw [if_neg hk]
    rw [decide_eq_false hk] at K
    clear hE hk SF ST
    go_enter Try.func11, Try.ntmps11
    go_wp2_with (go_at_call 24; refine K.mono ?_; rintro e w' ⟨rfl, rfl⟩)
    go_ret2
    exact ⟨rfl, rfl⟩
end Go.Proofs.Ytgajobomimcoaaa
/- kernel.Taps, where it tells taps. -/
namespace Go.Proofs.Ytgajobomimcoaaa
open Go.RowKit
set_option linter.unusedVariables false
set_option linter.unusedSimpArgs false

/-- Taps as cells. -/
def newsT (L : List (Int × Int)) : List Value := L.flatMap fun e => [.int .i64 e.1, .int .i64 e.2]
theorem newsT_app (L : List (Int × Int)) (p x : Int) : newsT (L ++ [(p, x)]) = newsT L ++ [.int .i64 p, .int .i64 x] := by unfold newsT; simp
theorem newsT_len (L : List (Int × Int)) : (newsT L).length = L.length * 2 := by
  induction L with
  | nil => rfl
  | cons e t ih => show (_ ++ newsT t).length = _; rw [List.length_append, ih]; simp; omega
theorem tInfo : ∃ i, Try.prog.info? 31 = some i ∧ i.size = 2 ∧ i.bytes = 16 ∧ i.zero = some (.agg #[.int .i64 0, .int .i64 0]) := kinfo_of (by kernel_rfl)
/-- A list of taps of the call's own. -/
structure Tl (w0 wr : World) (v : Value) (L : List (Int × Int)) (n : Nat) : Prop where
  len : n = L.length
  o : wr.ownsRow w0.heap.size 31 2 v n (newsT L)
  q : Q w0 wr
theorem Tl.start (w : World) : Tl w w (.slice none 0 0) [] 0 := ⟨rfl, World.ownsRow_nil _ _ _ _, Q.refl w⟩
theorem Tl.next {w0 wr wx : World} {v : Value} {L : List (Int × Int)} {n : Nat} (h : Tl w0 wr v L n) (q : Q wr wx) : Tl w0 wx v L n := ⟨h.len, own_q (w0 := w0) h.o q, h.q.trans q⟩
theorem Tl.base {w w0 wr : World} {v : Value} {L : List (Int × Int)} {n : Nat} (h : Tl w0 wr v L n) (q : Q w w0) : Tl w wr v L n := ⟨h.len, own_low h.o q.1.size, q.trans h.q⟩
theorem Tl.app {w0 wr : World} {v : Value} {L : List (Int × Int)} {n : Nat} (h : Tl w0 wr v L n) (p x : Int) (hn : n ≤ 100000) :
    ∃ g c x2, (Builtin.append_ #[23, 23] 23 #[v, .slice (some ⟨wr.heap.size, 0, none⟩) 1 1]).run Try.prog (wr.alloc (.cells #[.int .i64 p, .int .i64 x] 31)) = .ok (.slice (some ⟨g, 0, none⟩) (n + 1) c) x2 ∧ Tl w0 x2 (.slice (some ⟨g, 0, none⟩) (n + 1) c) (L ++ [(p, x)]) (n + 1) := by
  obtain ⟨iu, i1, i2, i3, i4⟩ := tInfo
  obtain ⟨g, c, x2, r1, o1, q1, _⟩ := run_app_qg (P := Try.prog) (wr.alloc (.cells #[.int .i64 p, .int .i64 x] 31)) w0 (h.q.cells _ _) 23 23 31 iu _ 2 16 Try.underlying23 i1 i4 i2 i3 rfl (by decide) v n _ (h.o.alloc _) ⟨wr.heap.size, 0, none⟩ 1 1 [.int .i64 p, .int .i64 x] rfl (fun j u hu => by
    have hadd : (⟨wr.heap.size, 0, none⟩ : Addr).add j = ⟨wr.heap.size, j, none⟩ := by unfold Addr.add; simp; omega
    rw [hadd]
    rcases j with _ | _ | j
    · cases hu; simp [go_sem]
    · cases hu; simp [go_sem]
    · simp at hu) (fun u hu => by simp only [List.mem_cons, List.not_mem_nil, or_false] at hu; rcases hu with rfl | rfl <;> rfl) (by decide) (by unfold maxLen; omega) (by omega)
  exact ⟨g, c, x2, r1, by rw [h.len]; simp, by rw [newsT_app]; exact o1, q1⟩
theorem Tl.form {w0 wr : World} {v : Value} {L : List (Int × Int)} {n : Nat} (h : Tl w0 wr v L n) : ∃ a c, v = .slice a n c := by
  rcases h.o.2 with ⟨e1, e⟩ | ⟨g, c, cur, e1, _⟩
  · subst e; exact ⟨none, 0, e1⟩
  · exact ⟨_, c, e1⟩
/-- The taps of weights at places. -/
def tpK (L : List (Int × Int)) (sh : Nat → Int) : Nat → List (Int × Int)
  | 0 => []
  | j + 1 => if sh j = 0 then tpK L sh j else tpK L sh j ++ [((L.getD j (0, 0)).1, sh j)]
theorem tpK_len (L : List (Int × Int)) (sh : Nat → Int) : ∀ j, (tpK L sh j).length ≤ j
  | 0 => Nat.le_refl _
  | j + 1 => by
    have := tpK_len L sh j
    unfold tpK
    split
    · omega
    · simp; omega
def tapsL (L : List (Int × Int)) : List (Int × Int) := tpK L (shrV (zf (L.map Prod.snd)) L.length) L.length
theorem sndSum_zf (L : List (Int × Int)) : sndSum L = sumF (zf (L.map Prod.snd)) L.length := by
  have key : ∀ (zs : List Int), zs.sum = sumF (zf zs) zs.length := by
    intro zs
    have h1 : ∀ k, k ≤ zs.length → (zs.take k).sum = sumF (zf zs) k := by
      intro k
      induction k with
      | zero => intro _; simp [sumF]
      | succ k ih =>
        intro hk
        rw [List.take_add_one, List.sum_append, ih (by omega)]
        show _ = sumF (zf zs) k + zf zs k
        unfold zf
        rw [List.getElem?_eq_getElem (by omega), List.getD_eq_getElem?_getD, List.getElem?_eq_getElem (by omega)]
        simp
    have := h1 zs.length (Nat.le_refl _)
    rw [List.take_length] at this
    exact this
  unfold sndSum
  rw [key, List.length_map]
theorem own_isl {w : World} {base n : Nat} {v : Value} {L : List Int} (h : w.ownsRow base 3 1 v n (newsI L)) (hn : L.length = n) : ISl w v L := by
  obtain ⟨_, ⟨rfl, h0⟩ | ⟨g, cap, cur, rfl, hb⟩⟩ := id h
  · exact Or.inr ⟨_, _, rfl, List.eq_nil_of_length_eq_zero (by omega)⟩
  · refine Or.inl ⟨g, 0, cap, by rw [hn], fun i hi => ?_⟩
    have := h.cellAt i (by omega)
    rw [Nat.zero_add, this]
    unfold newsI
    rw [List.getElem?_map, List.getElem?_eq_getElem hi, List.getD_eq_getElem?_getD, List.getElem?_eq_getElem hi]
    rfl
theorem own_at {w : World} {base n g c : Nat} {L : List Int} (h : w.ownsRow base 3 1 (.slice (some ⟨g, 0, none⟩) n c) n (newsI L)) {i : Nat} {z : Int} (hi : L[i]? = some z) (hn : L.length = n) : w.cell? ⟨g, i, none⟩ = some (.int .i64 z) := by
  have hlt := (List.getElem?_eq_some_iff.1 hi).1
  rw [h.cellAt i (by omega)]
  unfold newsI
  rw [List.getElem?_map, hi]; rfl
set_option maxHeartbeats 8000000 in
set_option maxRecDepth 1000000 in
theorem taps_good (kind : Int) (F T i : Nat) (w : World) (hk : kind = 1 ∨ kind = 2 ∨ kind = 3) (h : Sz F T i) (hS : 0 < sndSum (wlsV kind F T i)) :
    Calls Try.prog 11 #[.int .i64 kind, .int .i64 (F : Int), .int .i64 (T : Int), .int .i64 (i : Int)] w fun e w' => ∃ v n, e = .returned (.tuple #[v, .int .i64 0]) ∧ Tl w w' v (tapsL (wlsV kind F T i)) n := by
  have K := iskind_any kind w
  have SF := isside_any (F : Int) w
  have ST := isside_any (T : Int) w
  rw [decide_eq_true (by rcases hk with rfl | rfl | rfl <;> decide)] at K
  rw [decide_eq_true (by have := h.f1; have := h.f2; omega)] at SF
  rw [decide_eq_true (by have := h.t1; have := h.t2; omega)] at ST
  have HSz : Hid (Sz F T i) := h
  have a1 : ¬ (i : Int) < 0 := by omega
  have a2 : ¬ (T : Int) ≤ (i : Int) := by have := h.i; omega
  have a3 : ¬ 15 * (T : Int) < (F : Int) := by have := h.ft; omega
  have bF : (F : Int) ≤ 1024 := by have := h.f2; omega
  have bT : (T : Int) ≤ 1024 := by have := h.t2; omega
  have hmx : ∀ (ts : Array TypeId) (t : TypeId) (w : World), (Builtin.max_ ts t #[.int .i64 (F : Int), .int .i64 (T : Int)]).run Try.prog w = .ok (.int .i64 ((max F T : Nat) : Int)) w := fun ts t w => by
    rw [run_mx2]; congr 2; omega
  have HSh := shape_any kind ((max F T : Nat) : Int) w hk (by have := h.f1; omega) (by have := h.f2; have := h.t2; omega)
  have HWe : Hid (∀ (b : Nat) (W : World), W.cell? ⟨b, 0, none⟩ = some (.int .i64 (kbx kind (max F T : Nat))) → Calls Try.prog 26 #[.agg #[.int .i64 (rea kind (max F T : Nat)), .func (.func (kfn kind)) #[] #[.pointer (some ⟨b, 0, none⟩)]], .int .i64 (F : Int), .int .i64 (T : Int), .int .i64 (i : Int)] W fun e w' => ∃ vP vW n, e = .returned (.tuple #[vP, vW]) ∧ Wl W w' vP vW (wlsV kind F T i) n) := fun b W hb => weighed_any kind F T i b W hk h hb
  obtain ⟨wl1, wl2⟩ := wls_bound (kind := kind) h
  obtain ⟨L, hL⟩ : ∃ L, wlsV kind F T i = L := ⟨_, rfl⟩
  rw [hL] at wl1 wl2 hS HWe ⊢
  have HB : Hid (∀ e ∈ L, -1099511627776 ≤ e.2 ∧ e.2 ≤ 1099511627776) := wl2
  have HS : Hid (0 < sndSum L) := hS
  have hL0 : 1 ≤ L.length := by
    cases L with
    | nil => exact absurd hS (by decide)
    | cons _ _ => simp
  generalize hmm : (max F T : Nat) = mm at *
  clear hk h wl2 hS hL HSz hmm
  generalize rea kind (mm : Int) = re at *
  generalize kbx kind (mm : Int) = kb at *
  generalize kfn kind = kf at *
  go_enter Try.func11, Try.ntmps11
  go_wp2_with (first | (go_at_call 24; refine K.mono ?_; rintro e w' ⟨rfl, hw⟩; obtain rfl := hw.symm; clear hw) | (go_at_call 25; refine SF.mono ?_; rintro e w' ⟨rfl, hw⟩; obtain rfl := hw.symm; clear hw) | (go_at_call 25; refine ST.mono ?_; rintro e w' ⟨rfl, hw⟩; obtain rfl := hw.symm; clear hw))
  refine HSh.mono ?_
  rintro e w2 ⟨b, rfl, hb, q2⟩
  clear K SF ST HSh hmx
  have HQ2 : Hid (Q _ w2) := q2
  clear q2
  go_wp2_with fail
  refine (HWe.out b w2 hb).mono ?_
  rintro e w3 ⟨vP, vW, n, rfl, hW⟩
  have HW3 : Hid (Wl w2 w3 vP vW L n) := hW
  obtain ⟨aP, cP, aW, cW, rfl, rfl⟩ := hW.form
  have hn := hW.len
  have Csh := shares_any (.slice aW n cW) (L.map Prod.snd) w3 (own_isl hW.w (by rw [List.length_map]; exact hn.symm)) (by rw [List.length_map]; exact hL0) (by rw [List.length_map]; omega) (fun k => by
    rw [List.getD_eq_getElem?_getD, List.getElem?_map]
    cases hk : L[k]? with
    | none => decide
    | some e => exact HB.out e (List.mem_of_getElem? hk)) (by rw [List.length_map, ← sndSum_zf]; exact HS.out)
  rw [List.length_map, ← hn] at Csh
  have HT : Hid (tapsL L = tpK L (shrV (zf (L.map Prod.snd)) n) n) := by show tapsL L = _; unfold tapsL; rw [← hn]
  generalize shrV (zf (L.map Prod.snd)) n = sh at Csh HT
  have HLn : Hid (n = L.length) := hn
  have hn62 : n ≤ 62 := by omega
  clear hW hb HS hn wl1 hL0
  go_wp2_with fail
  refine Csh.mono ?_
  rintro e w4 ⟨g, rfl, hg, hrow, q4⟩
  have HR : Hid (IRow w4 g (tabI n sh)) := hrow
  have HW4 : Hid (Wl w2 w4 (.slice aP n cP) (.slice aW n cW) L n) := HW3.out.next q4
  have HQ4 : Hid (Q w w4) := (HQ2.out.trans HW3.out.q).trans q4
  clear Csh hg hrow q4 HW3
  go_wp2_with fail
  go_loopg [12, 13, 14, 57] n (fun gh s12 s13 s14 s57 wr => ∃ (j k : Nat) (ad : Option Addr) (c : Nat), s12 = .slice ad k c ∧ s57 = .int .i64 (j : Int) ∧ j ≤ n ∧ gh = n - j ∧ k ≤ j ∧ Hid (Tl w4 wr (.slice ad k c) (tpK L sh j) k))
  case atStart => exact ⟨0, 0, none, 0, rfl, rfl, Nat.zero_le _, rfl, Nat.le_refl _, Tl.start w4⟩
  case round =>
    obtain ⟨j, k, ad, c, rfl, rfl, hj, rfl, hkj, HL⟩ := hrel
    by_cases hlt : j < n
    · have hltz : (j : Int) < (n : Int) := by omega
      have c1 := HL.out.q.cell (HR.out.cell j _ (tabI_at hlt))
      obtain ⟨x, hx⟩ : ∃ x, sh j = x := ⟨_, rfl⟩
      rw [hx] at c1
      by_cases hz : x = 0
      · subst hz
        have HL2 : Hid (Tl w4 wr (.slice ad k c) (tpK L sh (j + 1)) k) := by
          show Tl w4 wr _ (if sh j = 0 then tpK L sh j else _) k
          rw [if_pos hx]; exact HL.out
        clear HL hx
        go_wp2_with fail
        go_roundg (n - (j + 1))
        case measure => go_light; omega
        case rel => go_light; exact ⟨j + 1, k, ad, c, rfl, by simp, by omega, rfl, by omega, HL2⟩
      · have hz' : (x == 0) = false := by simpa using hz
        obtain ⟨e, he⟩ : ∃ e, L[j]? = some e := ⟨_, List.getElem?_eq_getElem (by have := HLn.out; omega)⟩
        obtain ⟨p, y⟩ := e
        obtain ⟨gP, rfl⟩ : ∃ gP, aP = some ⟨gP, 0, none⟩ := by
          rcases HW4.out.p.2 with ⟨_, e⟩ | ⟨g', c', cur, e1, _⟩
          · omega
          · injection e1 with e1; exact ⟨g', e1⟩
        have c2 := HL.out.q.cell (own_at HW4.out.p (i := j) (z := p) (by rw [List.getElem?_map, he]; rfl) (by rw [List.length_map]; exact HLn.out.symm))
        obtain ⟨g2, c3, x2, r1, HN⟩ := HL.out.app p x (by omega)
        have HL2 : Hid (Tl w4 x2 (.slice (some ⟨g2, 0, none⟩) (k + 1) c3) (tpK L sh (j + 1)) (k + 1)) := by
          show Tl w4 x2 _ (if sh j = 0 then tpK L sh j else tpK L sh j ++ [((L.getD j (0, 0)).1, sh j)]) (k + 1)
          rw [if_neg (by rw [hx]; exact hz), hx, List.getD_eq_getElem?_getD, he]
          exact HN
        clear HL HN hx he
        go_wp2_with (at_builtin; go_must (refine wpList_appK (.tmp 64) (.tmp 71) 23 rfl rfl (by simp [Act.eval, Act.put]) (by simp [Act.eval, Act.put]) r1 ?_))
        go_roundg (n - (j + 1))
        case measure => go_light; omega
        case rel => go_light; exact ⟨j + 1, k + 1, _, _, rfl, by simp, by omega, rfl, by omega, HL2⟩
    · have hge : ¬ (j : Int) < (n : Int) := by omega
      obtain rfl : j = n := by omega
      go_wp2_with fail
      go_ret2
      exact ⟨_, rfl, k, by rw [HT.out]; exact HL.out.base HQ4.out⟩
end Go.Proofs.Ytgajobomimcoaaa
/- kernel.Binomial, kernel.Flat; lists held against one another. -/
namespace Go.Proofs.Ytgajobomimcoaaa
open Go.RowKit
set_option linter.unusedVariables false
set_option linter.unusedSimpArgs false

/-- A list of whole numbers of the call's own. -/
structure Il (w0 wr : World) (v : Value) (L : List Int) (n : Nat) : Prop where
  len : n = L.length
  o : wr.ownsRow w0.heap.size 3 1 v n (newsI L)
  q : Q w0 wr
theorem Il.app {w0 wr : World} {v : Value} {L : List Int} {n : Nat} (h : Il w0 wr v L n) (p : Int) (hn : n ≤ 100000) :
    ∃ g c x2, (Builtin.append_ #[36, 36] 36 #[v, .slice (some ⟨wr.heap.size, 0, none⟩) 1 1]).run Try.prog (wr.alloc (.cells #[.int .i64 p] 3)) = .ok (.slice (some ⟨g, 0, none⟩) (n + 1) c) x2 ∧ Il w0 x2 (.slice (some ⟨g, 0, none⟩) (n + 1) c) (L ++ [p]) (n + 1) := by
  obtain ⟨iu, i1, i2, i3, i4⟩ := iInfo
  obtain ⟨g, c, x2, r1, o1, q1, _⟩ := run_app_qg (P := Try.prog) (wr.alloc (.cells #[.int .i64 p] 3)) w0 (h.q.cells _ _) 36 36 3 iu _ 1 8 Try.underlying36 i1 i4 i2 i3 rfl (by decide) v n _ (h.o.alloc _) ⟨wr.heap.size, 0, none⟩ 1 1 [.int .i64 p] rfl (fun j u hu => by
    cases j with
    | zero => cases hu; show (wr.alloc (.cells #[.int .i64 p] 3)).cell? ⟨wr.heap.size, 0, none⟩ = _; simp [go_sem]
    | succ j => cases hu) (fun u hu => by rw [List.mem_singleton.1 hu]; rfl) (by decide) (by unfold maxLen; omega) (by omega)
  refine ⟨g, c, x2, r1, by rw [h.len]; simp, ?_, q1⟩
  have e : newsI (L ++ [p]) = newsI L ++ [.int .i64 p] := by simp [newsI]
  rw [e]; exact o1
theorem Il.isl {w0 wr : World} {v : Value} {L : List Int} {n : Nat} (h : Il w0 wr v L n) : ISl wr v L := own_isl h.o h.len.symm
/-- Binomial numbers, one out of the other. -/
def binV (t : Int) : Nat → Int
  | 0 => 1
  | k + 1 => (binV t k * (t - k)).tdiv ((k : Int) + 1)
theorem bin_bd : ∀ r : Nat, r ≤ 8 → ∀ k : Nat, k ≤ 16 → 0 ≤ binV (2 * (r : Int)) k ∧ binV (2 * (r : Int)) k ≤ 20000 := by decide
theorem tabI_snoc (k : Nat) (f : Nat → Int) : tabI (k + 1) f = tabI k f ++ [f k] := by unfold tabI; rw [List.range_succ, List.map_append]; rfl
set_option maxHeartbeats 2000000 in
set_option maxRecDepth 100000 in
theorem bin_good (r : Nat) (w : World) (hr : r ≤ 8) : Calls Try.prog 18 #[.int .i64 (r : Int)] w fun e w' => ∃ v n, e = .returned (.tuple #[v, .int .i64 0]) ∧ Il w w' v (tabI (2 * r + 1) (binV (2 * (r : Int)))) n := by
  have a1 : ¬ (r : Int) < 0 := by omega
  have a2 : ¬ (8 : Int) < (r : Int) := by omega
  have HB : Hid (∀ k : Nat, k ≤ 16 → 0 ≤ binV (2 * (r : Int)) k ∧ binV (2 * (r : Int)) k ≤ 20000) := bin_bd r hr
  obtain ⟨t, ht⟩ : ∃ t : Nat, t = 2 * r := ⟨_, rfl⟩
  have et : 2 * (r : Int) = (t : Int) := by omega
  have ht2 : t ≤ 16 := by omega
  rw [et] at HB
  have HT : Hid (tabI (2 * r + 1) (binV (2 * (r : Int))) = tabI (t + 1) (binV (t : Int))) := by
    show tabI (2 * r + 1) (binV (2 * (r : Int))) = _
    rw [et, ht]
  rw [HT.out]
  clear HT ht hr
  have H0 : Hid (Il w (w.alloc (.cells #[.int .i64 1] 3)) (.slice (some ⟨w.heap.size, 0, none⟩) 1 1) (tabI 1 (binV (t : Int))) 1) := by
    refine ⟨rfl, ?_, (Q.refl w).cells _ _⟩
    exact ⟨rfl, Or.inr ⟨w.heap.size, 1, #[.int .i64 1], rfl, Nat.le_refl _, by show (w.heap.push _)[w.heap.size]? = _; simp, by decide, by unfold maxLen; decide, rfl, rfl⟩⟩
  go_enter Try.func18, Try.ntmps18
  go_wp2_with fail
  go_loopg [5, 6, 17] t (fun gh s5 s6 s17 wr => ∃ (k : Nat) (g c : Nat), s5 = .slice (some ⟨g, 0, none⟩) (k + 1) c ∧ s17 = .int .i64 (k : Int) ∧ k ≤ t ∧ gh = t - k ∧ Hid (Il w wr (.slice (some ⟨g, 0, none⟩) (k + 1) c) (tabI (k + 1) (binV (t : Int))) (k + 1)))
  case atStart => exact ⟨0, _, _, rfl, rfl, Nat.zero_le _, rfl, H0⟩
  case round =>
    clear H0
    obtain ⟨k, g, c, rfl, rfl, hk, rfl, HI⟩ := hrel
    by_cases hlt : k < t
    · have hltz : (k : Int) < (t : Int) := by omega
      have c1 := own_at HI.out.o (i := k) (z := binV (t : Int) k) (tabI_at (by omega)) (tabI_len _ _)
      obtain ⟨g2, c2, x2, r1, HN⟩ := HI.out.app (binV (t : Int) (k + 1)) (by omega)
      rw [← tabI_snoc] at HN
      have HI2 : Hid (Il w x2 (.slice (some ⟨g2, 0, none⟩) (k + 1 + 1) c2) (tabI (k + 1 + 1) (binV (t : Int))) (k + 1 + 1)) := HN
      have b1 := HB.out k (by omega)
      have b2 := HB.out (k + 1) (by omega)
      obtain ⟨x, hx⟩ : ∃ x, binV (t : Int) k = x := ⟨_, rfl⟩
      obtain ⟨z, hz⟩ : ∃ z, binV (t : Int) (k + 1) = z := ⟨_, rfl⟩
      have hz2 : (x * ((t : Int) - (k : Int))).tdiv ((k : Int) + 1) = z := by rw [← hz, ← hx]; rfl
      obtain ⟨pr, hpr⟩ : ∃ pr, x * ((t : Int) - (k : Int)) = pr := ⟨_, rfl⟩
      rw [hx] at c1 b1
      rw [hz] at r1 b2
      have b3 := mul_bd b1.1 b1.2 (show 0 ≤ (t : Int) - (k : Int) by omega) (show (t : Int) - (k : Int) ≤ 16 by omega)
      rw [hpr] at hz2 b3
      obtain ⟨b1a, b1b⟩ := b1
      obtain ⟨b2a, b2b⟩ := b2
      obtain ⟨b3a, b3b⟩ := b3
      have hk1 : ((k : Int) + 1 == 0) = false := by simp; omega
      have hk2 : ¬ (k : Int) + 1 = 0 := by omega
      have hk3 : (k : Int) < (k : Int) + 1 := by omega
      clear HN HI hx hz
      go_wp2_with (at_builtin; go_must (refine wpList_appK (.tmp 20) (.tmp 32) 36 rfl rfl (by simp [Act.eval, Act.put]) (by simp [Act.eval, Act.put]) r1 ?_))
      go_roundg (t - (k + 1))
      case measure => go_light; omega
      case rel => go_light; exact ⟨k + 1, _, _, rfl, by simp, by omega, rfl, HI2⟩
    · have hge : ¬ (k : Int) < (t : Int) := by omega
      obtain rfl : k = t := by omega
      go_wp2_with fail
      go_ret2
      exact ⟨_, rfl, k + 1, HI.out⟩
set_option maxHeartbeats 2000000 in
set_option maxRecDepth 100000 in
/-- halidehelp.Ints: the same lists? -/
theorem ints_any (v u : Value) (L M : List Int) (w : World) (hv : ISl w v L) (hu : ISl w u M) (hn : L.length ≤ 100000) (hm : M.length ≤ 100000) :
    Calls Try.prog 16 #[v, u] w fun e w' => e = .returned (.bool (decide (L = M))) ∧ Q w w' := by
  obtain ⟨ad, c, rfl⟩ := hv.form
  obtain ⟨ad2, c2, rfl⟩ := hu.form
  by_cases hl : L.length = M.length
  · obtain ⟨B, hB⟩ : ∃ B, decide (L = M) = B := ⟨_, rfl⟩
    have HB : Hid (decide (L = M) = B) := hB
    rw [hB]
    obtain ⟨N, eN⟩ : ∃ N, L.length = N := ⟨_, rfl⟩
    have HV : Hid (ISl w (.slice ad N c) L ∧ L.length = N) := ⟨by rw [← eN]; exact hv, eN⟩
    have HU : Hid (ISl w (.slice ad2 N c2) M ∧ M.length = N) := ⟨by rw [← eN, hl]; exact hu, by rw [← eN, hl]⟩
    rw [← hl, eN]
    rw [eN] at hn
    clear hv hu hl eN hB hm
    go_enter Try.func16, Try.ntmps16
    go_wp2_with fail
    go_loopg [5] N (fun gh s5 wr => ∃ i : Nat, s5 = .int .i64 (i : Int) ∧ i ≤ N ∧ gh = N - i ∧ Hid (∀ j, j < i → L.getD j 0 = M.getD j 0) ∧ Hid (Q w wr))
    case atStart => exact ⟨0, rfl, Nat.zero_le _, rfl, fun j hj => absurd hj (by omega), Q.refl w⟩
    case round =>
      obtain ⟨i, rfl, hi, rfl, HS, HQ⟩ := hrel
      by_cases hlt : i < N
      · have hltz : (i : Int) < (N : Int) := by omega
        obtain ⟨g1, o1, d1, hs1, hI1⟩ := HV.out.1.some (by have := HV.out.2; omega)
        rw [HV.out.2] at hs1 hI1
        injection hs1 with e1 e2 e3
        subst e1 e3
        obtain ⟨g2, o2, d2, hs2, hI2⟩ := HU.out.1.some (by have := HU.out.2; omega)
        rw [HU.out.2] at hs2 hI2
        injection hs2 with f1 f2 f3
        subst f1 f3
        have k1 := qw_cell (HQ.out.cell (hI1 i hlt))
        have k2 := qw_cell (HQ.out.cell (hI2 i hlt))
        have n0 := qw_some wr
        obtain ⟨x, hx⟩ : ∃ x, L.getD i 0 = x := ⟨_, rfl⟩
        obtain ⟨y, hy⟩ : ∃ y, M.getD i 0 = y := ⟨_, rfl⟩
        rw [hx] at k1
        rw [hy] at k2
        have HX : Hid (L.getD i 0 = x ∧ M.getD i 0 = y) := ⟨hx, hy⟩
        clear hx hy hI1 hI2 e2 f2
        go_wp2_with fail
        refine wp_region_quiet_Q (by kernel_rfl) (by kernel_rfl) ?_
        repeat (first | go_big_quiet_step (fail) | quiet_step (fail))
        refine wpQuiet_nil ?_
        intro w4 hw'
        have HQ4 : Hid (Q w w4) := HQ.out.trans (qw_out hw')
        clear hw' k1 k2 n0
        by_cases hxy : x = y
        · subst hxy
          have HS2 : Hid (∀ j, j < i + 1 → L.getD j 0 = M.getD j 0) := fun j hj => by
            by_cases e : j = i
            · subst e; rw [HX.out.1, HX.out.2]
            · exact HS.out j (by omega)
          go_wp2_with fail
          go_roundg (N - (i + 1))
          case measure => go_light; omega
          case rel => go_light; exact ⟨i + 1, by simp, by omega, rfl, HS2, HQ4⟩
        · have hxy' : (x == y) = false := by simpa using hxy
          have HF : Hid (B = false) := by
            show B = false
            rw [← HB.out, decide_eq_false_iff_not]
            intro e
            rw [e] at HX
            exact hxy (HX.out.1.symm.trans HX.out.2)
          clear HX
          go_wp2_with fail
          go_ret
          exact ⟨by rw [HF.out]; rfl, HQ4.out⟩
      · have hge : ¬ (i : Int) < (N : Int) := by omega
        obtain rfl : i = N := by omega
        have HF : Hid (B = true) := by
          show B = true
          rw [← HB.out, decide_eq_true_iff]
          apply List.ext_getElem?
          intro j
          by_cases hj : j < i
          · have := HS.out j hj
            rw [List.getD_eq_getElem?_getD, List.getD_eq_getElem?_getD, List.getElem?_eq_getElem (by have := HV.out.2; omega), List.getElem?_eq_getElem (by have := HU.out.2; omega)] at this
            rw [List.getElem?_eq_getElem (by have := HV.out.2; omega), List.getElem?_eq_getElem (by have := HU.out.2; omega)]
            exact congrArg some this
          · rw [List.getElem?_eq_none (by have := HV.out.2; omega), List.getElem?_eq_none (by have := HU.out.2; omega)]
        go_wp2_with fail
        go_ret
        exact ⟨by rw [HF.out]; rfl, HQ.out⟩
  · rw [decide_eq_false (fun e => hl (by rw [e]))]
    have hl' : ((L.length : Int) == (M.length : Int)) = false := by simp; omega
    have hl'' : ¬ (L.length : Int) = (M.length : Int) := by omega
    clear hv hu hl
    generalize L.length = a at *
    generalize M.length = b at *
    go_enter Try.func16, Try.ntmps16
    go_wp2_with fail
    go_ret
    exact ⟨rfl, Q.refl w⟩
end Go.Proofs.Ytgajobomimcoaaa

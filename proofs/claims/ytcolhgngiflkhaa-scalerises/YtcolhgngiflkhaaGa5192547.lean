/- kernel.Taps, where it tells taps. -/
import Derived.Test.YtcolhgngiflkhaaGe7e48c8d
import Derived.Test.YtcolhgngiflkhaaG07fb177e
namespace Go.Proofs.Ytcolhgngiflkhaa
open Go.RowKit
set_option linter.unusedVariables false
set_option linter.unusedSimpArgs false

/-- Taps as cells. -/
def newsT (L : List (Int × Int)) : List Value := L.flatMap fun e => [.int .i64 e.1, .int .i64 e.2]
theorem newsT_app (L : List (Int × Int)) (p x : Int) : newsT (L ++ [(p, x)]) = newsT L ++ [.int .i64 p, .int .i64 x] := by unfold newsT; simp
theorem newsT_len (L : List (Int × Int)) : (newsT L).length = L.length * 2 := by
  induction L with
  | nil => rfl
  | cons e t ih => show (_ ++ newsT t).length = _; rw [List.length_append, ih]; simp; omega
theorem tInfo : ∃ i, Try.prog.info? 82 = some i ∧ i.size = 2 ∧ i.bytes = 16 ∧ i.zero = some (.agg #[.int .i64 0, .int .i64 0]) := kinfo_of (by kernel_rfl)
/-- A list of taps of the call's own. -/
structure Tl (w0 wr : World) (v : Value) (L : List (Int × Int)) (n : Nat) : Prop where
  len : n = L.length
  o : wr.ownsRow w0.heap.size 82 2 v n (newsT L)
  q : Q w0 wr
theorem Tl.start (w : World) : Tl w w (.slice none 0 0) [] 0 := ⟨rfl, World.ownsRow_nil _ _ _ _, Q.refl w⟩
theorem Tl.next {w0 wr wx : World} {v : Value} {L : List (Int × Int)} {n : Nat} (h : Tl w0 wr v L n) (q : Q wr wx) : Tl w0 wx v L n := ⟨h.len, own_q (w0 := w0) h.o q, h.q.trans q⟩
theorem Tl.base {w w0 wr : World} {v : Value} {L : List (Int × Int)} {n : Nat} (h : Tl w0 wr v L n) (q : Q w w0) : Tl w wr v L n := ⟨h.len, own_low h.o q.1.size, q.trans h.q⟩
theorem Tl.app {w0 wr : World} {v : Value} {L : List (Int × Int)} {n : Nat} (h : Tl w0 wr v L n) (p x : Int) (hn : n ≤ 100000) :
    ∃ g c x2, (Builtin.append_ #[66, 66] 66 #[v, .slice (some ⟨wr.heap.size, 0, none⟩) 1 1]).run Try.prog (wr.alloc (.cells #[.int .i64 p, .int .i64 x] 82)) = .ok (.slice (some ⟨g, 0, none⟩) (n + 1) c) x2 ∧ Tl w0 x2 (.slice (some ⟨g, 0, none⟩) (n + 1) c) (L ++ [(p, x)]) (n + 1) := by
  obtain ⟨iu, i1, i2, i3, i4⟩ := tInfo
  obtain ⟨g, c, x2, r1, o1, q1, _⟩ := run_app_qg (P := Try.prog) (wr.alloc (.cells #[.int .i64 p, .int .i64 x] 82)) w0 (h.q.cells _ _) 66 66 82 iu _ 2 16 Try.underlying66 i1 i4 i2 i3 rfl (by decide) v n _ (h.o.alloc _) ⟨wr.heap.size, 0, none⟩ 1 1 [.int .i64 p, .int .i64 x] rfl (fun j u hu => by
    have hadd : (⟨wr.heap.size, 0, none⟩ : Addr).add j = ⟨wr.heap.size, j, none⟩ := by unfold Addr.add; simp; omega
    rw [hadd]
    rcases j with _ | _ | j
    · cases hu; simp [go_sem]
    · cases hu; simp [go_sem]
    · simp at hu) (fun u hu => by simp only [List.mem_cons, List.not_mem_nil, or_false] at hu; rcases hu with rfl | rfl <;> rfl) (by decide) (by unfold maxLen; omega) (by omega)
  exact ⟨g, c, x2, r1, by rw [h.len]; simp, by rw [newsT_app]; exact o1, q1⟩
theorem Tl.form {w0 wr : World} {v : Value} {L : List (Int × Int)} {n : Nat} (h : Tl w0 wr v L n) : ∃ a c, v = .slice a n c := by
  rcases h.o.2 with ⟨e1, e⟩ | ⟨g, c, cur, e1, _⟩
  · subst e; exact ⟨none, 0, e1⟩
  · exact ⟨_, c, e1⟩
/-- The taps of weights at places. -/
def tpK (L : List (Int × Int)) (sh : Nat → Int) : Nat → List (Int × Int)
  | 0 => []
  | j + 1 => if sh j = 0 then tpK L sh j else tpK L sh j ++ [((L.getD j (0, 0)).1, sh j)]
theorem tpK_len (L : List (Int × Int)) (sh : Nat → Int) : ∀ j, (tpK L sh j).length ≤ j
  | 0 => Nat.le_refl _
  | j + 1 => by
    have := tpK_len L sh j
    unfold tpK
    split
    · omega
    · simp; omega
def tapsL (L : List (Int × Int)) : List (Int × Int) := tpK L (shrV (zf (L.map Prod.snd)) L.length) L.length
theorem sndSum_zf (L : List (Int × Int)) : sndSum L = sumF (zf (L.map Prod.snd)) L.length := by
  have key : ∀ (zs : List Int), zs.sum = sumF (zf zs) zs.length := by
    intro zs
    have h1 : ∀ k, k ≤ zs.length → (zs.take k).sum = sumF (zf zs) k := by
      intro k
      induction k with
      | zero => intro _; simp [sumF]
      | succ k ih =>
        intro hk
        rw [List.take_add_one, List.sum_append, ih (by omega)]
        show _ = sumF (zf zs) k + zf zs k
        unfold zf
        rw [List.getElem?_eq_getElem (by omega), List.getD_eq_getElem?_getD, List.getElem?_eq_getElem (by omega)]
        simp
    have := h1 zs.length (Nat.le_refl _)
    rw [List.take_length] at this
    exact this
  unfold sndSum
  rw [key, List.length_map]
theorem own_isl {w : World} {base n : Nat} {v : Value} {L : List Int} (h : w.ownsRow base 3 1 v n (newsI L)) (hn : L.length = n) : ISl w v L := by
  obtain ⟨_, ⟨rfl, h0⟩ | ⟨g, cap, cur, rfl, hb⟩⟩ := id h
  · exact Or.inr ⟨_, _, rfl, List.eq_nil_of_length_eq_zero (by omega)⟩
  · refine Or.inl ⟨g, 0, cap, by rw [hn], fun i hi => ?_⟩
    have := h.cellAt i (by omega)
    rw [Nat.zero_add, this]
    unfold newsI
    rw [List.getElem?_map, List.getElem?_eq_getElem hi, List.getD_eq_getElem?_getD, List.getElem?_eq_getElem hi]
    rfl
theorem own_at {w : World} {base n g c : Nat} {L : List Int} (h : w.ownsRow base 3 1 (.slice (some ⟨g, 0, none⟩) n c) n (newsI L)) {i : Nat} {z : Int} (hi : L[i]? = some z) (hn : L.length = n) : w.cell? ⟨g, i, none⟩ = some (.int .i64 z) := by
  have hlt := (List.getElem?_eq_some_iff.1 hi).1
  rw [h.cellAt i (by omega)]
  unfold newsI
  rw [List.getElem?_map, hi]; rfl
set_option maxHeartbeats 8000000 in
set_option maxRecDepth 1000000 in
theorem taps_good (kind : Int) (F T i : Nat) (w : World) (hk : kind = 1 ∨ kind = 2 ∨ kind = 3) (h : Sz F T i) (hS : 0 < sndSum (wlsV kind F T i)) :
    Calls Try.prog 28 #[.int .i64 kind, .int .i64 (F : Int), .int .i64 (T : Int), .int .i64 (i : Int)] w fun e w' => ∃ v n, e = .returned (.tuple #[v, .int .i64 0]) ∧ Tl w w' v (tapsL (wlsV kind F T i)) n := by
  have K := iskind_any kind w
  have SF := isside_any (F : Int) w
  have ST := isside_any (T : Int) w
  rw [decide_eq_true (by rcases hk with rfl | rfl | rfl <;> decide)] at K
  rw [decide_eq_true (by have := h.f1; have := h.f2; omega)] at SF
  rw [decide_eq_true (by have := h.t1; have := h.t2; omega)] at ST
  have HSz : Hid (Sz F T i) := h
  have a1 : ¬ (i : Int) < 0 := by omega
  have a2 : ¬ (T : Int) ≤ (i : Int) := by have := h.i; omega
  have a3 : ¬ 15 * (T : Int) < (F : Int) := by have := h.ft; omega
  have bF : (F : Int) ≤ 1024 := by have := h.f2; omega
  have bT : (T : Int) ≤ 1024 := by have := h.t2; omega
  have hmx : ∀ (ts : Array TypeId) (t : TypeId) (w : World), (Builtin.max_ ts t #[.int .i64 (F : Int), .int .i64 (T : Int)]).run Try.prog w = .ok (.int .i64 ((max F T : Nat) : Int)) w := fun ts t w => by
    rw [run_mx2]; congr 2; omega
  have HSh := shape_any kind ((max F T : Nat) : Int) w hk (by have := h.f1; omega) (by have := h.f2; have := h.t2; omega)
  have HWe : Hid (∀ (b : Nat) (W : World), W.cell? ⟨b, 0, none⟩ = some (.int .i64 (kbx kind (max F T : Nat))) → Calls Try.prog 35 #[.agg #[.int .i64 (rea kind (max F T : Nat)), .func (.func (kfn kind)) #[] #[.pointer (some ⟨b, 0, none⟩)]], .int .i64 (F : Int), .int .i64 (T : Int), .int .i64 (i : Int)] W fun e w' => ∃ vP vW n, e = .returned (.tuple #[vP, vW]) ∧ Wl W w' vP vW (wlsV kind F T i) n) := fun b W hb => weighed_any kind F T i b W hk h hb
  obtain ⟨wl1, wl2⟩ := wls_bound (kind := kind) h
  obtain ⟨L, hL⟩ : ∃ L, wlsV kind F T i = L := ⟨_, rfl⟩
  rw [hL] at wl1 wl2 hS HWe ⊢
  have HB : Hid (∀ e ∈ L, -1099511627776 ≤ e.2 ∧ e.2 ≤ 1099511627776) := wl2
  have HS : Hid (0 < sndSum L) := hS
  have hL0 : 1 ≤ L.length := by
    cases L with
    | nil => exact absurd hS (by decide)
    | cons _ _ => simp
  generalize hmm : (max F T : Nat) = mm at *
  clear hk h wl2 hS hL HSz hmm
  generalize rea kind (mm : Int) = re at *
  generalize kbx kind (mm : Int) = kb at *
  generalize kfn kind = kf at *
  go_enter Try.func28, Try.ntmps28
  go_wp2_with (first | (go_at_call 33; refine K.mono ?_; rintro e w' ⟨rfl, hw⟩; obtain rfl := hw.symm; clear hw) | (go_at_call 34; refine SF.mono ?_; rintro e w' ⟨rfl, hw⟩; obtain rfl := hw.symm; clear hw) | (go_at_call 34; refine ST.mono ?_; rintro e w' ⟨rfl, hw⟩; obtain rfl := hw.symm; clear hw))
  refine HSh.mono ?_
  rintro e w2 ⟨b, rfl, hb, q2⟩
  clear K SF ST HSh hmx
  have HQ2 : Hid (Q _ w2) := q2
  clear q2
  go_wp2_with fail
  refine (HWe.out b w2 hb).mono ?_
  rintro e w3 ⟨vP, vW, n, rfl, hW⟩
  have HW3 : Hid (Wl w2 w3 vP vW L n) := hW
  obtain ⟨aP, cP, aW, cW, rfl, rfl⟩ := hW.form
  have hn := hW.len
  have Csh := shares_any (.slice aW n cW) (L.map Prod.snd) w3 (own_isl hW.w (by rw [List.length_map]; exact hn.symm)) (by rw [List.length_map]; exact hL0) (by rw [List.length_map]; omega) (fun k => by
    rw [List.getD_eq_getElem?_getD, List.getElem?_map]
    cases hk : L[k]? with
    | none => decide
    | some e => exact HB.out e (List.mem_of_getElem? hk)) (by rw [List.length_map, ← sndSum_zf]; exact HS.out)
  rw [List.length_map, ← hn] at Csh
  have HT : Hid (tapsL L = tpK L (shrV (zf (L.map Prod.snd)) n) n) := by show tapsL L = _; unfold tapsL; rw [← hn]
  generalize shrV (zf (L.map Prod.snd)) n = sh at Csh HT
  have HLn : Hid (n = L.length) := hn
  have hn62 : n ≤ 62 := by omega
  clear hW hb HS hn wl1 hL0
  go_wp2_with fail
  refine Csh.mono ?_
  rintro e w4 ⟨g, rfl, hg, hrow, q4⟩
  have HR : Hid (IRow w4 g (tabI n sh)) := hrow
  have HW4 : Hid (Wl w2 w4 (.slice aP n cP) (.slice aW n cW) L n) := HW3.out.next q4
  have HQ4 : Hid (Q w w4) := (HQ2.out.trans HW3.out.q).trans q4
  clear Csh hg hrow q4 HW3
  go_wp2_with fail
  go_loopg [12, 13, 14, 57] n (fun gh s12 s13 s14 s57 wr => ∃ (j k : Nat) (ad : Option Addr) (c : Nat), s12 = .slice ad k c ∧ s57 = .int .i64 (j : Int) ∧ j ≤ n ∧ gh = n - j ∧ k ≤ j ∧ Hid (Tl w4 wr (.slice ad k c) (tpK L sh j) k))
  case atStart => exact ⟨0, 0, none, 0, rfl, rfl, Nat.zero_le _, rfl, Nat.le_refl _, Tl.start w4⟩
  case round =>
    obtain ⟨j, k, ad, c, rfl, rfl, hj, rfl, hkj, HL⟩ := hrel
    by_cases hlt : j < n
    · have hltz : (j : Int) < (n : Int) := by omega
      have c1 := HL.out.q.cell (HR.out.cell j _ (tabI_at hlt))
      obtain ⟨x, hx⟩ : ∃ x, sh j = x := ⟨_, rfl⟩
      rw [hx] at c1
      by_cases hz : x = 0
      · subst hz
        have HL2 : Hid (Tl w4 wr (.slice ad k c) (tpK L sh (j + 1)) k) := by
          show Tl w4 wr _ (if sh j = 0 then tpK L sh j else _) k
          rw [if_pos hx]; exact HL.out
        clear HL hx
        go_wp2_with fail
        go_roundg (n - (j + 1))
        case measure => go_light; omega
        case rel => go_light; exact ⟨j + 1, k, ad, c, rfl, by simp, by omega, rfl, by omega, HL2⟩
      · have hz' : (x == 0) = false := by simpa using hz
        obtain ⟨e, he⟩ : ∃ e, L[j]? = some e := ⟨_, List.getElem?_eq_getElem (by have := HLn.out; omega)⟩
        obtain ⟨p, y⟩ := e
        obtain ⟨gP, rfl⟩ : ∃ gP, aP = some ⟨gP, 0, none⟩ := by
          rcases HW4.out.p.2 with ⟨_, e⟩ | ⟨g', c', cur, e1, _⟩
          · omega
          · injection e1 with e1; exact ⟨g', e1⟩
        have c2 := HL.out.q.cell (own_at HW4.out.p (i := j) (z := p) (by rw [List.getElem?_map, he]; rfl) (by rw [List.length_map]; exact HLn.out.symm))
        obtain ⟨g2, c3, x2, r1, HN⟩ := HL.out.app p x (by omega)
        have HL2 : Hid (Tl w4 x2 (.slice (some ⟨g2, 0, none⟩) (k + 1) c3) (tpK L sh (j + 1)) (k + 1)) := by
          show Tl w4 x2 _ (if sh j = 0 then tpK L sh j else tpK L sh j ++ [((L.getD j (0, 0)).1, sh j)]) (k + 1)
          rw [if_neg (by rw [hx]; exact hz), hx, List.getD_eq_getElem?_getD, he]
          exact HN
        clear HL HN hx he
        go_wp2_with (at_builtin; go_must (refine wpList_appK (.tmp 64) (.tmp 71) 66 rfl rfl (by simp [Act.eval, Act.put]) (by simp [Act.eval, Act.put]) r1 ?_))
        go_roundg (n - (j + 1))
        case measure => go_light; omega
        case rel => go_light; exact ⟨j + 1, k + 1, _, _, rfl, by simp, by omega, rfl, by omega, HL2⟩
    · have hge : ¬ (j : Int) < (n : Int) := by omega
      obtain rfl : j = n := by omega
      go_wp2_with fail
      go_ret2
      exact ⟨_, rfl, k, by rw [HT.out]; exact HL.out.base HQ4.out⟩
end Go.Proofs.Ytcolhgngiflkhaa
/- Shares sum to 65536, each is near its exact share, and equal weights share alike: plain. -/
namespace Go.Proofs.Ytcolhgngiflkhaa
set_option linter.unusedVariables false
set_option linter.unusedSimpArgs false

theorem sumF_one {f g : Nat → Int} {o : Nat} (ho : g o = f o + 1) (hs : ∀ i, i ≠ o → g i = f i) : ∀ n, sumF g n = sumF f n + if o < n then 1 else 0
  | 0 => by simp [sumF]
  | n + 1 => by
    have ih := sumF_one ho hs n
    unfold sumF
    rw [ih]
    by_cases e : n = o
    · subst e; rw [ho, if_neg (by omega), if_pos (by omega)]; omega
    · rw [hs n e]
      by_cases c : o < n
      · rw [if_pos c, if_pos (by omega)]; omega
      · rw [if_neg c, if_neg (by omega)]; omega
theorem ordL_place {r : Int → Int} {n k : Nat} (h : k < n) : ∃ o : Nat, (ordL r n)[k]? = some (o : Int) ∧ o < n := by
  have hlen : k < (ordL r n).length := by rw [ordL_len]; exact h
  have hm := ordL_mem.1 (List.getElem_mem hlen)
  exact ⟨((ordL r n)[k]).toNat, by rw [List.getElem?_eq_getElem hlen]; congr 1; omega, by omega⟩
theorem shrK_sum (z : Nat → Int) (S : Int) (n : Nat) : ∀ k, k ≤ n → sumF (shrK z S n k) n = sumF (flo z S) n + (k : Int)
  | 0, _ => by rw [sumF_congr n (fun i _ => shrK_zero z S n i)]; simp
  | k + 1, h => by
    obtain ⟨o, ho, hon⟩ := ordL_place (r := rsV z S) (n := n) (k := k) (by omega)
    obtain ⟨h1, h2⟩ := shrK_hit ho
    rw [sumF_one h1 h2, if_pos hon, shrK_sum z S n k (by omega)]
    omega
theorem shr_sum {z : Nat → Int} {n : Nat} (hn : 0 < n) (hS : 0 < sumF z n) : sumF (shrV z n) n = 65536 := by
  have h0 := miss_ge z rfl hS
  have h1 := miss_le z rfl hS hn
  have := shrK_sum z (sumF z n) n (missV z (sumF z n) n).toNat (by omega)
  show sumF (shrK z (sumF z n) n (missV z (sumF z n) n).toNat) n = _
  rw [this]
  unfold missV at h0 ⊢
  omega
theorem perm_sum {l l' : List Int} (h : l.Perm l') : l.sum = l'.sum := by
  induction h with
  | nil => rfl
  | cons a _ ih => simp [ih]
  | swap a b l => simp; omega
  | trans _ _ h1 h2 => exact h1.trans h2
theorem sum_map_range (f : Nat → Int) : ∀ n, ((List.range n).map f).sum = sumF f n
  | 0 => rfl
  | n + 1 => by rw [List.range_succ, List.map_append, List.sum_append, sum_map_range f n]; simp [sumF]
/-- Who has one more has a rest. -/
theorem hit_pos {z : Nat → Int} {n : Nat} (hn : 0 < n) (hS : 0 < sumF z n) {x : Int} (hx : x ∈ (ordL (rsV z (sumF z n)) n).take (missV z (sumF z n) n).toNat) : 0 < rsV z (sumF z n) x := by
  obtain ⟨S, eS⟩ : ∃ S, sumF z n = S := ⟨_, rfl⟩
  have hm0 := miss_ge z rfl hS
  have hm1 := miss_eq z (n := n) rfl
  rw [eS] at hx hS hm0 hm1 ⊢
  have hr0 := rs_nonneg z hS x
  rcases Int.lt_or_le 0 (rsV z S x) with c | c
  · exact c
  exfalso
  obtain ⟨j, hj⟩ := List.getElem?_of_mem hx
  have hjm : j < (missV z S n).toNat := by have := (List.getElem?_eq_some_iff.1 hj).1; rw [List.length_take] at this; omega
  rw [List.getElem?_take_of_lt hjm] at hj
  -- all behind it have none
  have hsum : ((ordL (rsV z S) n).map (rsV z S)).sum = sumF (fun i => rsV z S i) n := by
    rw [perm_sum ((ordL_perm (rsV z S) n).map (rsV z S))]
    unfold placesL
    rw [List.map_map]
    exact sum_map_range _ n
  have hsplit : ((ordL (rsV z S) n).map (rsV z S)).sum = (((ordL (rsV z S) n).take j).map (rsV z S)).sum + (((ordL (rsV z S) n).drop j).map (rsV z S)).sum := by
    rw [← List.sum_append, ← List.map_append, List.take_append_drop]
  have hd : (((ordL (rsV z S) n).drop j).map (rsV z S)).sum = 0 := by
    have key : ∀ y ∈ (ordL (rsV z S) n).drop j, rsV z S y = 0 := fun y hy => by
      obtain ⟨k, hk⟩ := List.getElem?_of_mem hy
      rw [List.getElem?_drop] at hk
      have h0 := rs_nonneg z hS y
      by_cases e : k = 0
      · subst e
        rw [Nat.add_zero, hj] at hk
        cases hk; omega
      · have := ordL_lt hj hk (by omega)
        unfold tlt at this
        omega
    have : ((ordL (rsV z S) n).drop j).map (rsV z S) = ((ordL (rsV z S) n).drop j).map (fun _ => (0 : Int)) := List.map_congr_left key
    rw [this]
    generalize (ordL (rsV z S) n).drop j = l
    induction l with
    | nil => rfl
    | cons a t ih => simp [ih]
  have ht : (((ordL (rsV z S) n).take j).map (rsV z S)).sum ≤ (j : Int) * (S - 1) := by
    have key : ∀ l : List Int, (l.map (rsV z S)).sum ≤ (l.length : Int) * (S - 1) := fun l => by
      induction l with
      | nil => simp
      | cons a t ih =>
        have h1 := rs_lt z hS a
        have e : ((a :: t).length : Int) * (S - 1) = (t.length : Int) * (S - 1) + (S - 1) := by rw [List.length_cons, Int.natCast_add, Int.add_mul]; simp
        rw [List.map_cons, List.sum_cons, e]
        omega
    have h1 := key ((ordL (rsV z S) n).take j)
    have h2 : (((ordL (rsV z S) n).take j).length : Int) ≤ (j : Int) := by rw [List.length_take]; omega
    have h3 : (((ordL (rsV z S) n).take j).length : Int) * (S - 1) ≤ (j : Int) * (S - 1) := Int.mul_le_mul_of_nonneg_right h2 (by omega)
    omega
  rw [hd, hsum, ← hm1] at hsplit
  have h4 : ((j : Int) + 1) * S ≤ missV z S n * S := Int.mul_le_mul_of_nonneg_right (by omega) (by omega)
  rw [Int.add_mul, Int.mul_comm (missV z S n)] at h4
  have h5 : (j : Int) * (S - 1) = (j : Int) * S - (j : Int) := by rw [Int.mul_sub]; omega
  omega
theorem shr_near {z : Nat → Int} {n : Nat} (hn : 0 < n) (hS : 0 < sumF z n) (i : Nat) : -(sumF z n) < shrV z n i * sumF z n - 65536 * z i ∧ shrV z n i * sumF z n - 65536 * z i < sumF z n := by
  have h1 := flo_rs z (sumF z n) i
  have h2 := rs_nonneg z hS i
  have h3 := rs_lt z hS i
  unfold shrV shrK
  by_cases c : (i : Int) ∈ (ordL (rsV z (sumF z n)) n).take (missV z (sumF z n) n).toNat
  · have h4 := hit_pos hn hS c
    rw [if_pos c, Int.add_mul, Int.mul_comm (flo z (sumF z n) i)]
    omega
  · rw [if_neg c, Int.add_zero, Int.mul_comm (flo z (sumF z n) i)]
    omega
theorem shr_alike {z : Nat → Int} {n k i : Nat} (hki : k < i) (hin : i < n) (he : z k = z i) : shrV z n k = shrV z n i ∨ shrV z n k = shrV z n i + 1 := by
  unfold shrV shrK
  generalize sumF z n = S
  generalize (missV z S n).toNat = m
  have hf : flo z S k = flo z S i := by unfold flo; rw [he]
  rw [hf]
  have hr : rsV z S k = rsV z S i := by unfold rsV; rw [Int.toNat_natCast, Int.toNat_natCast, he]
  by_cases ci : (i : Int) ∈ (ordL (rsV z S) n).take m
  · have ck : (k : Int) ∈ (ordL (rsV z S) n).take m := by
      obtain ⟨b, hb⟩ := List.getElem?_of_mem ci
      have hbm : b < m := by have := (List.getElem?_eq_some_iff.1 hb).1; rw [List.length_take] at this; omega
      rw [List.getElem?_take_of_lt hbm] at hb
      obtain ⟨a, ha⟩ := List.getElem?_of_mem (ordL_mem.2 ⟨(by omega : (0 : Int) ≤ (k : Int)), (by omega : (k : Int) < (n : Int))⟩ : (k : Int) ∈ ordL (rsV z S) n)
      have hab : a < b := by
        rcases Nat.lt_trichotomy a b with h | h | h
        · exact h
        · subst h; rw [ha] at hb; cases hb; omega
        · have := ordL_lt hb ha h
          unfold tlt at this
          omega
      refine List.mem_of_getElem? (i := a) ?_
      rw [List.getElem?_take_of_lt (by omega)]; exact ha
    rw [if_pos ci, if_pos ck]; exact Or.inl rfl
  · rw [if_neg ci]
    by_cases ck : (k : Int) ∈ (ordL (rsV z S) n).take m
    · rw [if_pos ck]; right; omega
    · rw [if_neg ck]; exact Or.inl rfl
end Go.Proofs.Ytcolhgngiflkhaa
/- What taps are: rising, none 0, summing to 65536. -/
namespace Go.Proofs.Ytcolhgngiflkhaa
set_option linter.unusedVariables false
set_option linter.unusedSimpArgs false

theorem tpK_mem {L : List (Int × Int)} {sh : Nat → Int} : ∀ {j : Nat} {e : Int × Int}, e ∈ tpK L sh j → ∃ k, k < j ∧ e = ((L.getD k (0, 0)).1, sh k) ∧ sh k ≠ 0
  | 0, e, he => by cases he
  | j + 1, e, he => by
    unfold tpK at he
    split at he
    · obtain ⟨k, h1, h2⟩ := tpK_mem he; exact ⟨k, by omega, h2⟩
    · rename_i hz
      rcases List.mem_append.1 he with h | h
      · obtain ⟨k, h1, h2⟩ := tpK_mem h; exact ⟨k, by omega, h2⟩
      · rw [List.mem_singleton] at h; exact ⟨j, by omega, h, hz⟩
theorem tpK_sum (L : List (Int × Int)) (sh : Nat → Int) : ∀ j, sndSum (tpK L sh j) = sumF sh j
  | 0 => rfl
  | j + 1 => by
    have ih := tpK_sum L sh j
    show sndSum (if sh j = 0 then tpK L sh j else tpK L sh j ++ [((L.getD j (0, 0)).1, sh j)]) = sumF sh j + sh j
    by_cases h : sh j = 0
    · rw [if_pos h, ih, h]; omega
    · rw [if_neg h]
      unfold sndSum at ih ⊢
      rw [List.map_append, List.sum_append, ih]; simp
theorem tpK_rises {L : List (Int × Int)} {sh : Nat → Int} (hL : L.Pairwise (fun x y => x.1 < y.1)) : ∀ j, j ≤ L.length → (tpK L sh j).Pairwise (fun x y => x.1 < y.1)
  | 0, _ => List.Pairwise.nil
  | j + 1, hj => by
    have ih := tpK_rises (sh := sh) hL j (by omega)
    unfold tpK
    split
    · exact ih
    · refine List.pairwise_append.2 ⟨ih, List.pairwise_singleton _ _, fun e he e2 he2 => ?_⟩
      rw [List.mem_singleton] at he2
      subst he2
      obtain ⟨k, h1, h2, _⟩ := tpK_mem he
      rw [h2]
      show (L.getD k (0, 0)).1 < (L.getD j (0, 0)).1
      rw [List.getD_eq_getElem?_getD, List.getD_eq_getElem?_getD, List.getElem?_eq_getElem (by omega), List.getElem?_eq_getElem (by omega)]
      exact List.pairwise_iff_getElem.1 hL k j (by omega) (by omega) h1
/-- All that is told of taps. -/
structure TapOk (kind : Int) (F T i : Nat) (L : List (Int × Int)) : Prop where
  at_ : ∀ e ∈ L, 0 ≤ e.1 ∧ e.1 < (F : Int) ∧ e.2 ≠ 0 ∧ (kind ≠ 3 → 0 ≤ e.2) ∧ -72057594037927936 ≤ e.2 ∧ e.2 ≤ 72057594037927937
  rise : L.Pairwise (fun x y => x.1 < y.1)
  sum : sndSum L = 65536
  len : L.length ≤ 64
  one : F = T → ∃ x, L = [((i : Int), x)]
theorem plV_mono (F : Nat) : ∀ x y : Int, x ≤ y → plV F x ≤ plV F y := fun x y h => by unfold plV; omega
theorem plV_in {F : Nat} (h : 1 ≤ F) (k : Int) : 0 ≤ plV F k ∧ plV F k < (F : Int) := by unfold plV; omega
/-- One weight alone. -/
theorem wrun_one {f pl : Int → Int} {a i : Int} (hz : ∀ k, k ≠ i → f k = 0) (hi : f i ≠ 0) (ha : a ≤ i) : ∀ n : Nat, wrun f pl a n = if a + (n : Int) ≤ i then [] else [(pl i, f i)]
  | 0 => by rw [if_pos (by omega)]; rfl
  | n + 1 => by
    have ih := wrun_one (pl := pl) hz hi ha n
    show wput (wrun f pl a n) (pl (a + n)) (f (a + n)) = _
    rw [ih]
    by_cases c : a + (n : Int) = i
    · rw [if_pos (by omega), if_neg (by omega), c, wput_new hi (fun e he => by cases he)]; rfl
    · rw [hz _ c, wput_zero]
      by_cases c2 : a + (n : Int) ≤ i
      · rw [if_pos c2, if_pos (by omega)]
      · rw [if_neg c2, if_neg (by omega)]
theorem wgt_own {kind m d : Int} (hk : kind = 1 ∨ kind = 2 ∨ kind = 3) (hm : 0 < m) : (0 < wgt kind m 0) ∧ (2 * m ≤ absI d → (absI d = 2 * m ∨ 4 * m ≤ absI d) → wgt kind m d = 0) := by
  rcases hk with rfl | rfl | rfl
  · refine ⟨?_, fun h1 _ => ?_⟩
    · show 0 < if _ then (1 : Int) else 0; rw [if_pos ⟨by omega, by omega⟩]; decide
    · show (if _ then (1 : Int) else 0) = 0; rw [if_neg (fun h => by unfold absI at h1; omega)]
  · refine ⟨?_, fun h1 _ => ?_⟩
    · show 0 < max (2 * m - absI 0) 0; unfold absI; omega
    · show max (2 * m - absI d) 0 = 0; omega
  · refine ⟨?_, fun h1 h2 => ?_⟩
    · show 0 < cubV (absI 0) (2 * m)
      have h3 : 0 < m * m * m := Int.mul_pos (Int.mul_pos hm hm) hm
      have := cub_mid (c := absI 0) (m := m) (by decide) (by show (0 : Int) ≤ m; omega) hm
      omega
    · show cubV (absI d) (2 * m) = 0
      unfold cubV
      rw [if_neg (by omega)]
      rcases h2 with h | h
      · rw [if_pos (by omega), h]; grind
      · rw [if_neg (by omega)]
theorem wls_one {kind : Int} {F i : Nat} (hk : kind = 1 ∨ kind = 2 ∨ kind = 3) (h : Sz F F i) : ∃ x, wlsV kind F F i = [((i : Int), x)] := by
  have hF : 0 < (F : Int) := by have := h.f1; omega
  have hmx : (max F F : Nat) = F := by omega
  have hmid : midV F F i = 2 * (F : Int) * (i : Int) := by unfold midV; grind
  have hwf : ∀ k, wfV kind F F i k = wgt kind F (2 * (F : Int) * k - 2 * (F : Int) * (i : Int)) := fun k => by
    show wgt kind ((max F F : Nat) : Int) _ = _
    rw [hmid, hmx]
  obtain ⟨w1, w2, w3, w4⟩ := win_eq (kind := kind) h
  have hr := rea_size (kind := kind) (m := (max F F : Nat)) (by omega)
  rw [hmx] at hr
  rw [hmid, hmx] at w1 w2 w3 w4
  have hww : winV kind F F i = (lstV kind F F i - fstV kind F F i + 1).toNat := rfl
  have le_of : ∀ a b : Int, 2 * (F : Int) * a < 2 * (F : Int) * b + 2 * (F : Int) → a ≤ b := fun a b hh => by
    rcases Int.lt_or_le b a with c | c
    · have h2 : 2 * (F : Int) * (b + 1) ≤ 2 * (F : Int) * a := Int.mul_le_mul_of_nonneg_left (by omega) (by omega)
      rw [Int.mul_add] at h2
      omega
    · exact c
  have a1 : fstV kind F F i ≤ (i : Int) := le_of _ _ (by omega)
  have a2 : (i : Int) ≤ lstV kind F F i := le_of _ _ (by omega)
  have key := wrun_one (f := wfV kind F F i) (pl := plV F) (a := fstV kind F F i) (i := (i : Int)) (fun k hk' => by
    rw [hwf]
    refine (wgt_own hk hF).2 ?_ ?_
    · have h1 : 2 * (F : Int) * k - 2 * (F : Int) * (i : Int) = 2 * (F : Int) * (k - i) := by rw [Int.mul_sub]
      rw [h1]
      rcases Int.lt_or_gt_of_ne hk' with c | c
      · have : 2 * (F : Int) * (k - i) ≤ 2 * (F : Int) * (-1) := Int.mul_le_mul_of_nonneg_left (by omega) (by omega)
        unfold absI; omega
      · have : 2 * (F : Int) * 1 ≤ 2 * (F : Int) * (k - i) := Int.mul_le_mul_of_nonneg_left (by omega) (by omega)
        unfold absI; omega
    · have h1 : 2 * (F : Int) * k - 2 * (F : Int) * (i : Int) = 2 * (F : Int) * (k - i) := by rw [Int.mul_sub]
      rw [h1]
      by_cases c1 : k - i = 1
      · left; rw [c1]; unfold absI; omega
      · by_cases c2 : k - i = -1
        · left; rw [c2]; unfold absI; omega
        · right
          rcases Int.lt_or_gt_of_ne hk' with c | c
          · have : 2 * (F : Int) * (k - i) ≤ 2 * (F : Int) * (-2) := Int.mul_le_mul_of_nonneg_left (by omega) (by omega)
            unfold absI; omega
          · have : 2 * (F : Int) * 2 ≤ 2 * (F : Int) * (k - i) := Int.mul_le_mul_of_nonneg_left (by omega) (by omega)
            unfold absI; omega) (by
    rw [hwf, Int.sub_self]
    have := (wgt_own (d := 0) hk hF).1
    omega) a1 (winV kind F F i)
  refine ⟨wfV kind F F i (i : Int), ?_⟩
  show wrun _ _ _ _ = _
  rw [key, if_neg (by omega)]
  have : plV F (i : Int) = (i : Int) := by unfold plV; have := h.i; omega
  rw [this]
theorem taps_ok {kind : Int} {F T i : Nat} (hk : kind = 1 ∨ kind = 2 ∨ kind = 3) (h : Sz F T i) : TapOk kind F T i (tapsL (wlsV kind F T i)) := by
  have hpos := wls_pos hk h
  obtain ⟨hb1, hb2⟩ := wls_bound (kind := kind) h
  have hrise := (wrun_rises (f := wfV kind F T i) (a := fstV kind F T i) (plV_mono F) (winV kind F T i)).1
  have hin := wrun_all (f := wfV kind F T i) (a := fstV kind F T i) (P := fun p => 0 ≤ p ∧ p < (F : Int)) (plV_in h.f1) (winV kind F T i)
  change (wlsV kind F T i).Pairwise _ at hrise
  change ∀ e ∈ wlsV kind F T i, _ at hin
  have hkp : kind ≠ 3 → ∀ e ∈ wlsV kind F T i, 0 < e.2 := fun h3 => by
    have hm0 : 0 < ((max F T : Nat) : Int) := by have := h.f1; omega
    refine wrun_pos (fun k => ?_) _
    rcases hk with rfl | rfl | rfl
    · show 0 ≤ if _ then (1 : Int) else 0; split <;> omega
    · show 0 ≤ max (2 * ((max F T : Nat) : Int) - absI _) 0; omega
    · exact absurd rfl h3
  have hone : F = T → ∃ x, wlsV kind F T i = [((i : Int), x)] := fun e => by subst e; exact wls_one hk h
  generalize wlsV kind F T i = L at *
  have hS := hpos
  rw [sndSum_zf] at hS
  have hn : 0 < L.length := by
    cases L with
    | nil => exact absurd hpos (by decide)
    | cons _ _ => simp
  have hM : ∀ k, -1099511627776 ≤ zf (L.map Prod.snd) k ∧ zf (L.map Prod.snd) k ≤ 1099511627776 := fun k => by
    unfold zf
    rw [List.getD_eq_getElem?_getD, List.getElem?_map]
    cases hk : L[k]? with
    | none => decide
    | some e => exact hb2 e (List.mem_of_getElem? hk)
  have hsum : sumF (shrV (zf (L.map Prod.snd)) L.length) L.length = 65536 := shr_sum hn hS
  refine ⟨fun e he => ?_, tpK_rises hrise _ (Nat.le_refl _), ?_, ?_, fun e => ?_⟩
  · obtain ⟨k, h1, h2, h3⟩ := tpK_mem he
    have hkl : L[k]? = some L[k] := List.getElem?_eq_getElem h1
    have hg : L.getD k (0, 0) = L[k] := by rw [List.getD_eq_getElem?_getD, hkl]; rfl
    have hp := hin _ (List.mem_of_getElem? hkl)
    rw [h2, hg]
    have hf := flo_size (z := zf (L.map Prod.snd)) (i := k) hS (hM k)
    refine ⟨hp.1, hp.2, h3, fun h4 => ?_, ?_, ?_⟩
    · have hz := hkp h4 _ (List.mem_of_getElem? hkl)
      have hz2 : zf (L.map Prod.snd) k = L[k].2 := by unfold zf; rw [List.getD_eq_getElem?_getD, List.getElem?_map, hkl]; rfl
      show 0 ≤ shrK _ _ _ _ _
      unfold shrK
      have : 0 ≤ flo (zf (L.map Prod.snd)) (sumF (zf (L.map Prod.snd)) L.length) k := by
        unfold flo
        rw [hz2]
        exact Int.ediv_nonneg (by omega) (by omega)
      split <;> omega
    · show _ ≤ shrK _ _ _ _ _; unfold shrK; split <;> omega
    · show shrK _ _ _ _ _ ≤ _; unfold shrK; split <;> omega
  · exact (tpK_sum _ _ _).trans hsum
  · exact Nat.le_trans (tpK_len _ _ _) (by omega)
  · obtain ⟨x, hx⟩ := hone e
    subst hx
    refine ⟨65536, ?_⟩
    have h0 : shrV (zf [x]) 1 0 = 65536 := by
      have : 0 + shrV (zf [x]) 1 0 = 65536 := hsum
      omega
    show (if shrV (zf [x]) 1 0 = 0 then [] else [] ++ [((i : Int), shrV (zf [x]) 1 0)]) = _
    rw [h0]; rfl
end Go.Proofs.Ytcolhgngiflkhaa
/- Shares by taking the greatest rest again and again, plain: the same shares. -/
namespace Go.Proofs.Ytcolhgngiflkhaa
open Go.Sort
set_option linter.unusedVariables false
set_option linter.unusedSimpArgs false

/-- The first of the greatest among the first i. -/
structure Bst (f : Nat → Int) (i b : Nat) : Prop where
  lt : b < i
  le : ∀ j, j < i → f j ≤ f b
  fst : ∀ j, j < b → f j < f b
theorem Bst.one (f : Nat → Int) : Bst f 1 0 := by
  refine ⟨by omega, fun j hj => ?_, fun j hj => by omega⟩
  obtain rfl : j = 0 := by omega
  exact Int.le_refl _
theorem Bst.new {f : Nat → Int} {i b : Nat} (h : Bst f i b) (hg : f b < f i) : Bst f (i + 1) i :=
  ⟨by omega, fun j hj => by
    by_cases e : j = i
    · subst e; exact Int.le_refl _
    · have := h.le j (by omega); omega, fun j hj => by have := h.le j hj; omega⟩
theorem Bst.old {f : Nat → Int} {i b : Nat} (h : Bst f i b) (hg : ¬ f b < f i) : Bst f (i + 1) b :=
  ⟨by have := h.lt; omega, fun j hj => by
    by_cases e : j = i
    · subst e; omega
    · exact h.le j (by omega), h.fst⟩
theorem Bst.unique {f : Nat → Int} {i b c : Nat} (h : Bst f i b) (k : Bst f i c) : b = c := by
  have h1 := h.le c k.lt
  have h2 := k.le b h.lt
  rcases Nat.lt_trichotomy b c with e | e | e
  · have := k.fst b e; omega
  · exact e
  · have := h.fst c e; omega
/-- The rests behind k rounds. -/
def rstK (z : Nat → Int) (S : Int) (n k i : Nat) : Int := if (i : Int) ∈ (ordL (rsV z S) n).take k then -1 else rsV z S i
theorem rstK_zero (z : Nat → Int) (S : Int) (n i : Nat) : rstK z S n 0 i = rsV z S i := by unfold rstK; rw [List.take_zero, if_neg (by simp)]
theorem not_take {r : Int → Int} {n k : Nat} {o : Int} (h : (ordL r n)[k]? = some o) : o ∉ (ordL r n).take k := fun hm => by
  obtain ⟨i, hi⟩ := List.getElem?_of_mem hm
  have hik : i < k := by have := (List.getElem?_eq_some_iff.1 hi).1; rw [List.length_take] at this; omega
  rw [List.getElem?_take_of_lt hik] at hi
  exact tlt_irr (ordL_lt hi h hik)
theorem rstK_hit {z : Nat → Int} {S : Int} {n k o : Nat} (h : (ordL (rsV z S) n)[k]? = some (o : Int)) : rstK z S n (k + 1) o = -1 ∧ ∀ i, i ≠ o → rstK z S n (k + 1) i = rstK z S n k i := by
  unfold rstK
  have e : (ordL (rsV z S) n).take (k + 1) = (ordL (rsV z S) n).take k ++ [(o : Int)] := by rw [List.take_add_one, h]; rfl
  refine ⟨?_, fun i hi => ?_⟩
  · rw [e, if_pos (by simp)]
  · rw [e]
    by_cases c : (i : Int) ∈ (ordL (rsV z S) n).take k
    · rw [if_pos (List.mem_append_left _ c), if_pos c]
    · rw [if_neg (fun hm => by
        rcases List.mem_append.1 hm with h1 | h1
        · exact c h1
        · rw [List.mem_singleton] at h1; omega), if_neg c]
/-- What is found is the next one in the order of rests. -/
theorem bst_ord {z : Nat → Int} {S : Int} (hS : 0 < S) {n k o : Nat} (h : (ordL (rsV z S) n)[k]? = some (o : Int)) : Bst (rstK z S n k) n o := by
  have hlt : o < n := by have := ordL_mem.1 (List.mem_of_getElem? h); omega
  have ho : rstK z S n k o = rsV z S o := by unfold rstK; rw [if_neg (not_take h)]
  have key : ∀ j, j < n → j ≠ o → rstK z S n k j < rsV z S o ∨ (rstK z S n k j = rsV z S o ∧ o < j) := fun j hj hne => by
    have h0 := rs_nonneg z hS (o : Int)
    unfold rstK
    split
    · left; omega
    · rename_i hm
      obtain ⟨p, hp⟩ := List.getElem?_of_mem (ordL_mem.2 ⟨by omega, by omega⟩ : (j : Int) ∈ ordL (rsV z S) n)
      have hkp : k < p := by
        rcases Nat.lt_trichotomy p k with c | c | c
        · exact absurd (List.mem_of_getElem? (by rw [List.getElem?_take_of_lt c]; exact hp : ((ordL (rsV z S) n).take k)[p]? = some (j : Int))) hm
        · subst c; rw [h] at hp; injection hp with hp; omega
        · exact c
      have ht := ordL_lt h hp hkp
      unfold tlt at ht
      omega
  refine ⟨hlt, fun j hj => ?_, fun j hj => ?_⟩
  · by_cases e : j = o
    · subst e; exact Int.le_refl _
    · rw [ho]; rcases key j hj e with c | c <;> omega
  · rw [ho]; rcases key j (by omega) (by omega) with c | c
    · exact c
    · omega
theorem rst_bd (z : Nat → Int) {S : Int} (hS : 0 < S) (n k i : Nat) : -1 ≤ rstK z S n k i ∧ rstK z S n k i < S := by
  unfold rstK
  have h1 := rs_nonneg z hS (i : Int)
  have h2 := rs_lt z hS (i : Int)
  split <;> omega
end Go.Proofs.Ytcolhgngiflkhaa
/- kernel.Binomial, kernel.Flat; lists held against one another. -/
namespace Go.Proofs.Ytcolhgngiflkhaa
open Go.RowKit
set_option linter.unusedVariables false
set_option linter.unusedSimpArgs false

/-- A list of whole numbers of the call's own. -/
structure Il (w0 wr : World) (v : Value) (L : List Int) (n : Nat) : Prop where
  len : n = L.length
  o : wr.ownsRow w0.heap.size 3 1 v n (newsI L)
  q : Q w0 wr
theorem Il.app {w0 wr : World} {v : Value} {L : List Int} {n : Nat} (h : Il w0 wr v L n) (p : Int) (hn : n ≤ 100000) :
    ∃ g c x2, (Builtin.append_ #[62, 62] 62 #[v, .slice (some ⟨wr.heap.size, 0, none⟩) 1 1]).run Try.prog (wr.alloc (.cells #[.int .i64 p] 3)) = .ok (.slice (some ⟨g, 0, none⟩) (n + 1) c) x2 ∧ Il w0 x2 (.slice (some ⟨g, 0, none⟩) (n + 1) c) (L ++ [p]) (n + 1) := by
  obtain ⟨iu, i1, i2, i3, i4⟩ := iInfo
  obtain ⟨g, c, x2, r1, o1, q1, _⟩ := run_app_qg (P := Try.prog) (wr.alloc (.cells #[.int .i64 p] 3)) w0 (h.q.cells _ _) 62 62 3 iu _ 1 8 Try.underlying62 i1 i4 i2 i3 rfl (by decide) v n _ (h.o.alloc _) ⟨wr.heap.size, 0, none⟩ 1 1 [.int .i64 p] rfl (fun j u hu => by
    cases j with
    | zero => cases hu; show (wr.alloc (.cells #[.int .i64 p] 3)).cell? ⟨wr.heap.size, 0, none⟩ = _; simp [go_sem]
    | succ j => cases hu) (fun u hu => by rw [List.mem_singleton.1 hu]; rfl) (by decide) (by unfold maxLen; omega) (by omega)
  refine ⟨g, c, x2, r1, by rw [h.len]; simp, ?_, q1⟩
  have e : newsI (L ++ [p]) = newsI L ++ [.int .i64 p] := by simp [newsI]
  rw [e]; exact o1
theorem Il.isl {w0 wr : World} {v : Value} {L : List Int} {n : Nat} (h : Il w0 wr v L n) : ISl wr v L := own_isl h.o h.len.symm
/-- Binomial numbers, one out of the other. -/
def binV (t : Int) : Nat → Int
  | 0 => 1
  | k + 1 => (binV t k * (t - k)).tdiv ((k : Int) + 1)
theorem bin_bd : ∀ r : Nat, r ≤ 8 → ∀ k : Nat, k ≤ 16 → 0 ≤ binV (2 * (r : Int)) k ∧ binV (2 * (r : Int)) k ≤ 20000 := by decide
theorem tabI_snoc (k : Nat) (f : Nat → Int) : tabI (k + 1) f = tabI k f ++ [f k] := by unfold tabI; rw [List.range_succ, List.map_append]; rfl
end Go.Proofs.Ytcolhgngiflkhaa
/- Taps held against one another. -/
namespace Go.Proofs.Ytcolhgngiflkhaa
open Go.RowKit
set_option linter.unusedVariables false
set_option linter.unusedSimpArgs false

/-- Taps in memory. -/
def TSl (w : World) (v : Value) (L : List (Int × Int)) : Prop := (∃ g o cap, v = .slice (some ⟨g, o, none⟩) L.length cap ∧ ∀ i e, L[i]? = some e → w.cell? ⟨g, o + i * 2, none⟩ = some (.int .i64 e.1) ∧ w.cell? ⟨g, o + i * 2 + 1, none⟩ = some (.int .i64 e.2)) ∨ (∃ a c, v = .slice a 0 c ∧ L = [])
theorem TSl.next {w w' : World} {v : Value} {l : List (Int × Int)} (h : TSl w v l) (q : Q w w') : TSl w' v l := by
  rcases h with ⟨g, o, cap, h1, h2⟩ | h
  · exact Or.inl ⟨g, o, cap, h1, fun i e hi => ⟨q.cell (h2 i e hi).1, q.cell (h2 i e hi).2⟩⟩
  · exact Or.inr h
theorem TSl.form {w : World} {v : Value} {l : List (Int × Int)} (h : TSl w v l) : ∃ a cap, v = .slice a l.length cap := by
  rcases h with ⟨g, o, cap, h1, h2⟩ | ⟨a, c, h1, h2⟩
  · exact ⟨_, _, h1⟩
  · subst h2; exact ⟨a, c, h1⟩
theorem TSl.some {w : World} {v : Value} {l : List (Int × Int)} (h : TSl w v l) (h1 : 1 ≤ l.length) : ∃ g o cap, v = .slice (some ⟨g, o, none⟩) l.length cap ∧ ∀ i e, l[i]? = some e → w.cell? ⟨g, o + i * 2, none⟩ = some (.int .i64 e.1) ∧ w.cell? ⟨g, o + i * 2 + 1, none⟩ = some (.int .i64 e.2) := by
  rcases h with h | ⟨_, _, _, h2⟩
  · exact h
  · subst h2; cases h1
theorem newsT_at {L : List (Int × Int)} : ∀ {i : Nat} {e : Int × Int}, L[i]? = some e → (newsT L)[i * 2]? = some (.int .i64 e.1) ∧ (newsT L)[i * 2 + 1]? = some (.int .i64 e.2) := by
  induction L with
  | nil => intro i e h; simp at h
  | cons a t ih =>
    intro i e h
    have hc : newsT (a :: t) = .int .i64 a.1 :: .int .i64 a.2 :: newsT t := rfl
    cases i with
    | zero => cases h; exact ⟨rfl, rfl⟩
    | succ i =>
      rw [List.getElem?_cons_succ] at h
      rw [hc, show (i + 1) * 2 = i * 2 + 1 + 1 by omega]
      simpa using ih h
theorem Tl.tsl {w0 wr : World} {v : Value} {L : List (Int × Int)} {n : Nat} (h : Tl w0 wr v L n) : TSl wr v L := by
  rcases h.o.2 with ⟨e1, e⟩ | ⟨g, c, cur, e1, _⟩
  · exact Or.inr ⟨_, _, e1, List.eq_nil_of_length_eq_zero (by rw [← h.len]; exact e)⟩
  · subst e1
    refine Or.inl ⟨g, 0, c, by rw [h.len], fun i e hi => ?_⟩
    have hlt := (List.getElem?_eq_some_iff.1 hi).1
    have hl := h.len
    obtain ⟨a1, a2⟩ := newsT_at hi
    rw [← h.o.cellAt (i * 2) (by omega)] at a1
    rw [← h.o.cellAt (i * 2 + 1) (by omega)] at a2
    exact ⟨by rw [Nat.zero_add]; exact a1, by rw [Nat.zero_add]; exact a2⟩
/-- A list of places told by hand. -/
theorem ordL_eq {r : Int → Int} {n : Nat} {l : List Int} (hp : l.Perm (placesL n)) (hs : l.Pairwise (tlt r)) : ordL r n = l := by
  have h1 : (ordL r n).Pairwise (tlt r) := by
    rw [List.pairwise_iff_getElem]
    intro i j hi hj hij
    exact ordL_lt (List.getElem?_eq_getElem hi) (List.getElem?_eq_getElem hj) hij
  exact ((ordL_perm r n).trans hp.symm).eq_of_pairwise (fun a b _ _ h h' => absurd (tlt_trans h h') tlt_irr) h1 hs
end Go.Proofs.Ytcolhgngiflkhaa
/- Weights over a wider window, and times a number: the same taps. Plain. -/
namespace Go.Proofs.Ytcolhgngiflkhaa
open Go.Sort
set_option linter.unusedVariables false
set_option linter.unusedSimpArgs false

theorem wrun_nil {f pl : Int → Int} {a : Int} : ∀ p : Nat, (∀ j : Nat, j < p → f (a + j) = 0) → wrun f pl a p = []
  | 0, _ => rfl
  | p + 1, h => by show wput _ _ _ = _; rw [wrun_nil p (fun j hj => h j (by omega)), h p (by omega), wput_zero]
theorem wrun_lead {f pl : Int → Int} {a : Int} {p : Nat} (h : ∀ j : Nat, j < p → f (a + j) = 0) : ∀ q : Nat, wrun f pl a (p + q) = wrun f pl (a + p) q
  | 0 => by rw [Nat.add_zero, wrun_nil p h]; rfl
  | q + 1 => by
    show wput (wrun f pl a (p + q)) (pl (a + ((p + q : Nat) : Int))) (f (a + ((p + q : Nat) : Int))) = wput _ _ _
    rw [wrun_lead h q, show a + ((p + q : Nat) : Int) = a + (p : Int) + (q : Int) by omega]
theorem wrun_trail {f pl : Int → Int} {a : Int} {n : Nat} : ∀ q : Nat, (∀ j : Nat, j < q → f (a + n + j) = 0) → wrun f pl a (n + q) = wrun f pl a n
  | 0, _ => rfl
  | q + 1, h => by
    show wput (wrun f pl a (n + q)) (pl (a + ((n + q : Nat) : Int))) (f (a + ((n + q : Nat) : Int))) = _
    rw [wrun_trail q (fun j hj => h j (by omega)), show a + ((n + q : Nat) : Int) = a + (n : Int) + (q : Int) by omega, h q (by omega), wput_zero]
/-- Weights times a number. -/
def tms (l : Int) (L : List (Int × Int)) : List (Int × Int) := L.map fun e => (e.1, l * e.2)
theorem tms_len (l : Int) (L : List (Int × Int)) : (tms l L).length = L.length := by simp [tms]
theorem wput_tms {l : Int} (hl : l ≠ 0) (L : List (Int × Int)) (p n : Int) : wput (tms l L) p (l * n) = tms l (wput L p n) := by
  by_cases hn : n = 0
  · subst hn; rw [Int.mul_zero, wput_zero, wput_zero]
  · have hln : l * n ≠ 0 := Int.mul_ne_zero hl hn
    have hgl : (tms l L).getLast? = L.getLast?.map fun e => (e.1, l * e.2) := by unfold tms; rw [List.getLast?_map]
    cases hg : L.getLast? with
    | none =>
      rw [wput_new hln (fun e he => by rw [hgl, hg] at he; cases he), wput_new hn (fun e he => by rw [hg] at he; cases he)]
      unfold tms; simp
    | some z =>
      by_cases hz : z.1 = p
      · rw [wput_more hln (e := (z.1, l * z.2)) (by rw [hgl, hg]; rfl) hz, wput_more hn hg hz]
        unfold tms
        rw [List.map_append, List.map_dropLast, List.map_singleton]
        simp only [Int.mul_add]
      · rw [wput_new hln (fun e he => by rw [hgl, hg] at he; injection he with he; rw [← he]; exact hz), wput_new hn (fun e he => by rw [hg] at he; injection he with he; rw [← he]; exact hz)]
        unfold tms; simp
theorem wrun_tms {l : Int} (hl : l ≠ 0) {f g pl : Int → Int} (hg : ∀ k, g k = l * f k) (a : Int) : ∀ n : Nat, wrun g pl a n = tms l (wrun f pl a n)
  | 0 => rfl
  | n + 1 => by show wput (wrun g pl a n) _ _ = tms l (wput _ _ _); rw [wrun_tms hl hg a n, hg, wput_tms hl]
/-- Shares of weights times a number. -/
theorem flo_tms {z y : Nat → Int} {l S : Int} (hl : 0 < l) (hy : ∀ i, y i = l * z i) (i : Nat) : flo y (l * S) i = flo z S i := by
  unfold flo
  rw [hy, show (65536 : Int) * (l * z i) = l * (65536 * z i) by rw [← Int.mul_assoc, Int.mul_comm 65536 l, Int.mul_assoc], Int.mul_ediv_mul_of_pos _ _ hl]
theorem rsV_tms {z y : Nat → Int} {l S : Int} (hl : 0 < l) (hy : ∀ i, y i = l * z i) (i : Int) : rsV y (l * S) i = l * rsV z S i := by
  unfold rsV
  rw [hy, show (65536 : Int) * (l * z i.toNat) = l * (65536 * z i.toNat) by rw [← Int.mul_assoc, Int.mul_comm 65536 l, Int.mul_assoc], Int.mul_emod_mul_of_pos _ _ hl]
theorem tlt_tms {r q : Int → Int} {l : Int} (hl : 0 < l) (hq : ∀ i, q i = l * r i) (x y : Int) : tlt r x y → tlt q x y := by
  unfold tlt
  rw [hq, hq]
  rintro (h | ⟨h1, h2⟩)
  · exact Or.inl (Int.mul_lt_mul_of_pos_left h hl)
  · exact Or.inr ⟨by rw [h1], h2⟩
theorem ordL_tms {r q : Int → Int} {l : Int} (hl : 0 < l) (hq : ∀ i, q i = l * r i) (n : Nat) : ordL q n = ordL r n := by
  refine ordL_eq (ordL_perm r n) ?_
  refine List.pairwise_iff_getElem.2 fun i j hi hj hij => ?_
  exact tlt_tms hl hq _ _ (ordL_lt (List.getElem?_eq_getElem hi) (List.getElem?_eq_getElem hj) hij)
theorem shrV_tms {z y : Nat → Int} {l : Int} (hl : 0 < l) (hy : ∀ i, y i = l * z i) (n i : Nat) : shrV y n i = shrV z n i := by
  have hs : sumF y n = l * sumF z n := by rw [← sumF_mul]; exact sumF_congr n (fun i _ => hy i)
  unfold shrV missV shrK
  rw [hs, flo_tms hl hy, ordL_tms hl (rsV_tms hl hy), sumF_congr n (fun i _ => flo_tms (S := sumF z n) hl hy i)]
theorem zf_tms (l : Int) (L : List (Int × Int)) (i : Nat) : zf ((tms l L).map Prod.snd) i = l * zf (L.map Prod.snd) i := by
  unfold zf tms
  rw [List.getD_eq_getElem?_getD, List.getD_eq_getElem?_getD, List.map_map, List.getElem?_map, List.getElem?_map]
  cases L[i]? with
  | none => simp
  | some e => rfl
theorem tpK_congr {L M : List (Int × Int)} {sh sg : Nat → Int} (h1 : ∀ k, (L.getD k (0, 0)).1 = (M.getD k (0, 0)).1) (h2 : ∀ k, sh k = sg k) : ∀ j, tpK L sh j = tpK M sg j
  | 0 => rfl
  | j + 1 => by
    unfold tpK
    rw [tpK_congr h1 h2 j, h1, h2]
theorem tapsL_tms {l : Int} (hl : 0 < l) (L : List (Int × Int)) : tapsL (tms l L) = tapsL L := by
  unfold tapsL
  rw [tms_len]
  refine tpK_congr (fun k => ?_) (fun k => shrV_tms hl (zf_tms l L) _ _) _
  unfold tms
  rw [List.getD_eq_getElem?_getD, List.getD_eq_getElem?_getD, List.getElem?_map]
  cases L[k]? with
  | none => rfl
  | some e => rfl
theorem sndSum_tms (l : Int) (L : List (Int × Int)) : sndSum (tms l L) = l * sndSum L := by
  unfold sndSum tms
  induction L with
  | nil => simp
  | cons e L ih => simp only [List.map_cons, List.sum_cons]; rw [ih, Int.mul_add]
/-- The document's weights: those of the kernel, times mulR. -/
def mulR (kind m : Int) : Int := if kind = 1 then 2 * (2 * m) * (2 * m) * (2 * m) else if kind = 2 then 2 * (2 * m) * (2 * m) else 1
def wgtR (kind a b : Int) : Int := if kind = 1 then (if -b ≤ 2 * a ∧ 2 * a < b then 2 * b * b * b else 0) else if kind = 2 then (if absI a < b then 2 * b * b * (b - absI a) else 0) else cubV (absI a) b
theorem mulR_pos {kind m : Int} (hm : 0 < m) : 0 < mulR kind m := by
  unfold mulR
  have h2 : 0 < 2 * m := by omega
  split
  · exact Int.mul_pos (Int.mul_pos (by omega) h2) h2
  · split
    · exact Int.mul_pos (by omega) h2
    · decide
theorem wgtR_eq {kind m a : Int} (hk : kind = 1 ∨ kind = 2 ∨ kind = 3) : wgtR kind a (2 * m) = mulR kind m * wgt kind m a := by
  unfold wgtR mulR wgt
  rcases hk with rfl | rfl | rfl
  · simp only [if_true]
    by_cases c : -(2 * m) ≤ 2 * a ∧ 2 * a < 2 * m
    · rw [if_pos c, if_pos (by omega), Int.mul_one]
    · rw [if_neg c, if_neg (by omega), Int.mul_zero]
  · simp only [show ¬ (2 : Int) = 1 by decide, if_false, if_true]
    have ha : 0 ≤ absI a := by unfold absI; omega
    by_cases c : absI a < 2 * m
    · rw [if_pos c]
      congr 1
      omega
    · rw [if_neg c, show max (2 * m - absI a) 0 = 0 by omega, Int.mul_zero]
  · simp only [show ¬ (3 : Int) = 1 by decide, show ¬ (3 : Int) = 2 by decide, if_false, Int.one_mul]
/-- Outside its reach a kernel weighs nothing. -/
theorem wgt_out {kind m d : Int} (hk : kind = 1 ∨ kind = 2 ∨ kind = 3) (hm : 0 < m) (h : rea kind m < absI d) : wgt kind m d = 0 := by
  unfold wgt rea at *
  unfold absI cubV at *
  rcases hk with rfl | rfl | rfl
  · simp only [if_true] at h ⊢
    rw [if_neg (by omega)]
  · simp only [show ¬ (2 : Int) = 1 by decide, if_false, if_true] at h ⊢
    omega
  · simp only [show ¬ (3 : Int) = 1 by decide, show ¬ (3 : Int) = 2 by decide, if_false] at h ⊢
    rw [if_neg (by omega), if_neg (by omega)]
/-- The document's window. -/
def midR (F T i : Nat) : Int := midV F T i / (2 * (T : Int))
def reaR (F T : Nat) : Int := 2 * ((max F T : Nat) : Int) / (T : Int) + 2
def nR (F T : Nat) : Nat := (2 * reaR F T + 2).toNat
theorem reaR_bd {F T i : Nat} (h : Sz F T i) : 4 ≤ reaR F T ∧ reaR F T ≤ 32 ∧ 2 * ((max F T : Nat) : Int) < (reaR F T - 1) * (T : Int) := by
  obtain ⟨f1, f2, t1, t2, hi, ft⟩ := h
  have hT : 0 < (T : Int) := by omega
  have a1 := Int.mul_ediv_add_emod (2 * ((max F T : Nat) : Int)) (T : Int)
  have a2 := Int.emod_nonneg (2 * ((max F T : Nat) : Int)) (by omega : (T : Int) ≠ 0)
  have a3 := Int.emod_lt_of_pos (2 * ((max F T : Nat) : Int)) hT
  unfold reaR
  generalize 2 * ((max F T : Nat) : Int) % (T : Int) = r at *
  have hm1 : ((max F T : Nat) : Int) ≤ 15 * (T : Int) := by omega
  have hm2 : (T : Int) ≤ ((max F T : Nat) : Int) := by omega
  generalize ((max F T : Nat) : Int) = m at *
  generalize 2 * m / (T : Int) = q at *
  have h1 : 2 ≤ q := by
    rcases Int.lt_or_le q 2 with c | c
    · have : (T : Int) * q ≤ (T : Int) * 1 := Int.mul_le_mul_of_nonneg_left (by omega) (by omega)
      omega
    · exact c
  have h2 : q ≤ 30 := by
    rcases Int.lt_or_le 30 q with c | c
    · have : (T : Int) * 31 ≤ (T : Int) * q := Int.mul_le_mul_of_nonneg_left (by omega) (by omega)
      omega
    · exact c
  refine ⟨by omega, by omega, ?_⟩
  rw [show q + 2 - 1 = q + 1 by omega, Int.add_mul, Int.mul_comm q]
  omega
theorem win_in {kind : Int} {F T i : Nat} (h : Sz F T i) : midR F T i - reaR F T ≤ fstV kind F T i ∧ lstV kind F T i ≤ midR F T i + 1 + reaR F T := by
  obtain ⟨w1, w2, w3, w4⟩ := win_eq (kind := kind) h
  obtain ⟨b1, b2, b3⟩ := reaR_bd h
  have hr := rea_size (kind := kind) (m := (max F T : Nat)) (by have := h.f1; omega)
  have hT : 0 < 2 * (T : Int) := by have := h.t1; omega
  have a1 := Int.mul_ediv_add_emod (midV F T i) (2 * (T : Int))
  have a2 := Int.emod_nonneg (midV F T i) (by omega : 2 * (T : Int) ≠ 0)
  have a3 := Int.emod_lt_of_pos (midV F T i) hT
  change 2 * (T : Int) * midR F T i + _ = _ at a1
  generalize midV F T i % (2 * (T : Int)) = e at *
  generalize midV F T i = M at *
  generalize midR F T i = mid at *
  generalize rea kind (max F T : Nat) = R at *
  generalize fstV kind F T i = f at *
  generalize lstV kind F T i = l at *
  generalize reaR F T = r at *
  generalize ((max F T : Nat) : Int) = m at *
  generalize (T : Int) = t at *
  refine ⟨?_, ?_⟩
  · rcases Int.lt_or_le f (mid - r) with c | c
    · have : 2 * t * (f + 1) ≤ 2 * t * (mid - r) := Int.mul_le_mul_of_nonneg_left (by omega) (by omega)
      rw [Int.mul_add, Int.mul_sub, Int.mul_assoc 2 t r, Int.mul_comm t r] at this
      rw [Int.sub_mul] at b3
      omega
    · exact c
  · rcases Int.lt_or_le (mid + 1 + r) l with c | c
    · have : 2 * t * (mid + 2 + r) ≤ 2 * t * l := Int.mul_le_mul_of_nonneg_left (by omega) (by omega)
      rw [Int.mul_add, Int.mul_add, Int.mul_assoc 2 t r, Int.mul_comm t r] at this
      rw [Int.sub_mul] at b3
      omega
    · exact c
/-- The document's list of weights. -/
def wfR (kind : Int) (F T i : Nat) (k : Int) : Int := wgtR kind (2 * (T : Int) * k - midV F T i) (2 * (max F T : Nat))
theorem wls_doc {kind : Int} {F T i : Nat} (hk : kind = 1 ∨ kind = 2 ∨ kind = 3) (h : Sz F T i) :
    wrun (wfR kind F T i) (plV F) (midR F T i - reaR F T) (nR F T) = tms (mulR kind (max F T : Nat)) (wlsV kind F T i) := by
  have hm : 0 < ((max F T : Nat) : Int) := by have := h.f1; omega
  obtain ⟨i1, i2⟩ := win_in (kind := kind) h
  obtain ⟨b1, b2, b3⟩ := reaR_bd h
  obtain ⟨w1, w2, w3, w4⟩ := win_eq (kind := kind) h
  obtain ⟨g1, g2, _⟩ := win_facts (kind := kind) h
  have hT : 0 < 2 * (T : Int) := by have := h.t1; omega
  rw [wrun_tms (f := wfV kind F T i) (g := wfR kind F T i) (Int.ne_of_gt (mulR_pos hm)) (fun k => wgtR_eq hk)]
  congr 1
  have hout : ∀ k, k < fstV kind F T i ∨ lstV kind F T i < k → wfV kind F T i k = 0 := fun k hkk => by
    refine wgt_out hk hm ?_
    unfold absI
    rcases hkk with c | c
    · have : 2 * (T : Int) * (k + 1) ≤ 2 * (T : Int) * fstV kind F T i := Int.mul_le_mul_of_nonneg_left (by omega) (by omega)
      rw [Int.mul_add] at this
      generalize 2 * (T : Int) * k = x at *
      generalize 2 * (T : Int) * fstV kind F T i = y at *
      omega
    · have : 2 * (T : Int) * (lstV kind F T i + 1) ≤ 2 * (T : Int) * k := Int.mul_le_mul_of_nonneg_left (by omega) (by omega)
      rw [Int.mul_add] at this
      generalize 2 * (T : Int) * k = x at *
      generalize 2 * (T : Int) * lstV kind F T i = y at *
      omega
  obtain ⟨p, hp⟩ : ∃ p : Nat, (p : Int) = fstV kind F T i - (midR F T i - reaR F T) := ⟨(fstV kind F T i - (midR F T i - reaR F T)).toNat, by omega⟩
  obtain ⟨q, hq⟩ : ∃ q : Nat, (q : Int) = midR F T i + 1 + reaR F T - lstV kind F T i := ⟨(midR F T i + 1 + reaR F T - lstV kind F T i).toNat, by omega⟩
  have hn : nR F T = p + (winV kind F T i + q) := by unfold nR winV; omega
  rw [hn, wrun_lead (fun j hj => hout _ (Or.inl (by omega))), show midR F T i - reaR F T + (p : Int) = fstV kind F T i by omega, wrun_trail q (fun j hj => hout _ (Or.inr (by unfold winV; omega)))]
  rfl
theorem mid_win {F T i : Nat} (h : Sz F T i) (k : Int) (h1 : midR F T i - reaR F T ≤ k) (h2 : k ≤ midR F T i + 1 + reaR F T) : -8192 * 10 ≤ 2 * (T : Int) * k - midV F T i ∧ 2 * (T : Int) * k - midV F T i ≤ 8192 * 10 := by
  obtain ⟨b1, b2, b3⟩ := reaR_bd h
  have hT : 0 < 2 * (T : Int) := by have := h.t1; omega
  have hT2 := h.t2
  have a1 := Int.mul_ediv_add_emod (midV F T i) (2 * (T : Int))
  have a2 := Int.emod_nonneg (midV F T i) (by omega : 2 * (T : Int) ≠ 0)
  have a3 := Int.emod_lt_of_pos (midV F T i) hT
  change 2 * (T : Int) * midR F T i + _ = _ at a1
  have c1 : 2 * (T : Int) * (midR F T i - 32) ≤ 2 * (T : Int) * k := Int.mul_le_mul_of_nonneg_left (by omega) (by omega)
  have c2 : 2 * (T : Int) * k ≤ 2 * (T : Int) * (midR F T i + 33) := Int.mul_le_mul_of_nonneg_left (by omega) (by omega)
  rw [Int.mul_sub] at c1
  rw [Int.mul_add] at c2
  omega
end Go.Proofs.Ytcolhgngiflkhaa

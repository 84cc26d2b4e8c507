/- kernel.Taps, where it tells taps. -/
import Derived.Test.YtdbbpmadkhedlaaG61d4b291
import Derived.Test.YtdbbpmadkhedlaaG10bb6ad9
import Derived.Test.YtdbbpmadkhedlaaG306dedeb
namespace Go.Proofs.Ytdbbpmadkhedlaa
open Go.RowKit
set_option linter.unusedVariables false
set_option linter.unusedSimpArgs false

/-- Taps as cells. -/
def newsT (L : List (Int × Int)) : List Value := L.flatMap fun e => [.int .i64 e.1, .int .i64 e.2]
theorem newsT_app (L : List (Int × Int)) (p x : Int) : newsT (L ++ [(p, x)]) = newsT L ++ [.int .i64 p, .int .i64 x] := by unfold newsT; simp
theorem newsT_len (L : List (Int × Int)) : (newsT L).length = L.length * 2 := by
  induction L with
  | nil => rfl
  | cons e t ih => show (_ ++ newsT t).length = _; rw [List.length_append, ih]; simp; omega
theorem tInfo : ∃ i, Try.prog.info? 56 = some i ∧ i.size = 2 ∧ i.bytes = 16 ∧ i.zero = some (.agg #[.int .i64 0, .int .i64 0]) := kinfo_of (by kernel_rfl)
/-- A list of taps of the call's own. -/
structure Tl (w0 wr : World) (v : Value) (L : List (Int × Int)) (n : Nat) : Prop where
  len : n = L.length
  o : wr.ownsRow w0.heap.size 56 2 v n (newsT L)
  q : Q w0 wr
theorem Tl.start (w : World) : Tl w w (.slice none 0 0) [] 0 := ⟨rfl, World.ownsRow_nil _ _ _ _, Q.refl w⟩
theorem Tl.next {w0 wr wx : World} {v : Value} {L : List (Int × Int)} {n : Nat} (h : Tl w0 wr v L n) (q : Q wr wx) : Tl w0 wx v L n := ⟨h.len, own_q (w0 := w0) h.o q, h.q.trans q⟩
theorem Tl.base {w w0 wr : World} {v : Value} {L : List (Int × Int)} {n : Nat} (h : Tl w0 wr v L n) (q : Q w w0) : Tl w wr v L n := ⟨h.len, own_low h.o q.1.size, q.trans h.q⟩
theorem Tl.app {w0 wr : World} {v : Value} {L : List (Int × Int)} {n : Nat} (h : Tl w0 wr v L n) (p x : Int) (hn : n ≤ 100000) :
    ∃ g c x2, (Builtin.append_ #[26, 26] 26 #[v, .slice (some ⟨wr.heap.size, 0, none⟩) 1 1]).run Try.prog (wr.alloc (.cells #[.int .i64 p, .int .i64 x] 56)) = .ok (.slice (some ⟨g, 0, none⟩) (n + 1) c) x2 ∧ Tl w0 x2 (.slice (some ⟨g, 0, none⟩) (n + 1) c) (L ++ [(p, x)]) (n + 1) := by
  obtain ⟨iu, i1, i2, i3, i4⟩ := tInfo
  obtain ⟨g, c, x2, r1, o1, q1, _⟩ := run_app_qg (P := Try.prog) (wr.alloc (.cells #[.int .i64 p, .int .i64 x] 56)) w0 (h.q.cells _ _) 26 26 56 iu _ 2 16 Try.underlying26 i1 i4 i2 i3 rfl (by decide) v n _ (h.o.alloc _) ⟨wr.heap.size, 0, none⟩ 1 1 [.int .i64 p, .int .i64 x] rfl (fun j u hu => by
    have hadd : (⟨wr.heap.size, 0, none⟩ : Addr).add j = ⟨wr.heap.size, j, none⟩ := by unfold Addr.add; simp; omega
    rw [hadd]
    rcases j with _ | _ | j
    · cases hu; simp [go_sem]
    · cases hu; simp [go_sem]
    · simp at hu) (fun u hu => by simp only [List.mem_cons, List.not_mem_nil, or_false] at hu; rcases hu with rfl | rfl <;> rfl) (by decide) (by unfold maxLen; omega) (by omega)
  exact ⟨g, c, x2, r1, by rw [h.len]; simp, by rw [newsT_app]; exact o1, q1⟩
theorem Tl.form {w0 wr : World} {v : Value} {L : List (Int × Int)} {n : Nat} (h : Tl w0 wr v L n) : ∃ a c, v = .slice a n c := by
  rcases h.o.2 with ⟨e1, e⟩ | ⟨g, c, cur, e1, _⟩
  · subst e; exact ⟨none, 0, e1⟩
  · exact ⟨_, c, e1⟩
/-- The taps of weights at places. -/
def tpK (L : List (Int × Int)) (sh : Nat → Int) : Nat → List (Int × Int)
  | 0 => []
  | j + 1 => if sh j = 0 then tpK L sh j else tpK L sh j ++ [((L.getD j (0, 0)).1, sh j)]
theorem tpK_len (L : List (Int × Int)) (sh : Nat → Int) : ∀ j, (tpK L sh j).length ≤ j
  | 0 => Nat.le_refl _
  | j + 1 => by
    have := tpK_len L sh j
    unfold tpK
    split
    · omega
    · simp; omega
def tapsL (L : List (Int × Int)) : List (Int × Int) := tpK L (shrV (zf (L.map Prod.snd)) L.length) L.length
theorem sndSum_zf (L : List (Int × Int)) : sndSum L = sumF (zf (L.map Prod.snd)) L.length := by
  have key : ∀ (zs : List Int), zs.sum = sumF (zf zs) zs.length := by
    intro zs
    have h1 : ∀ k, k ≤ zs.length → (zs.take k).sum = sumF (zf zs) k := by
      intro k
      induction k with
      | zero => intro _; simp [sumF]
      | succ k ih =>
        intro hk
        rw [List.take_add_one, List.sum_append, ih (by omega)]
        show _ = sumF (zf zs) k + zf zs k
        unfold zf
        rw [List.getElem?_eq_getElem (by omega), List.getD_eq_getElem?_getD, List.getElem?_eq_getElem (by omega)]
        simp
    have := h1 zs.length (Nat.le_refl _)
    rw [List.take_length] at this
    exact this
  unfold sndSum
  rw [key, List.length_map]
theorem own_isl {w : World} {base n : Nat} {v : Value} {L : List Int} (h : w.ownsRow base 3 1 v n (newsI L)) (hn : L.length = n) : ISl w v L := by
  obtain ⟨_, ⟨rfl, h0⟩ | ⟨g, cap, cur, rfl, hb⟩⟩ := id h
  · exact Or.inr ⟨_, _, rfl, List.eq_nil_of_length_eq_zero (by omega)⟩
  · refine Or.inl ⟨g, 0, cap, by rw [hn], fun i hi => ?_⟩
    have := h.cellAt i (by omega)
    rw [Nat.zero_add, this]
    unfold newsI
    rw [List.getElem?_map, List.getElem?_eq_getElem hi, List.getD_eq_getElem?_getD, List.getElem?_eq_getElem hi]
    rfl
theorem own_at {w : World} {base n g c : Nat} {L : List Int} (h : w.ownsRow base 3 1 (.slice (some ⟨g, 0, none⟩) n c) n (newsI L)) {i : Nat} {z : Int} (hi : L[i]? = some z) (hn : L.length = n) : w.cell? ⟨g, i, none⟩ = some (.int .i64 z) := by
  have hlt := (List.getElem?_eq_some_iff.1 hi).1
  rw [h.cellAt i (by omega)]
  unfold newsI
  rw [List.getElem?_map, hi]; rfl
set_option maxHeartbeats 8000000 in
set_option maxRecDepth 1000000 in
theorem taps_good (kind : Int) (F T i : Nat) (w : World) (hk : kind = 1 ∨ kind = 2 ∨ kind = 3) (h : Sz F T i) (hS : 0 < sndSum (wlsV kind F T i)) :
    Calls Try.prog 16 #[.int .i64 kind, .int .i64 (F : Int), .int .i64 (T : Int), .int .i64 (i : Int)] w fun e w' => ∃ v n, e = .returned (.tuple #[v, .int .i64 0]) ∧ Tl w w' v (tapsL (wlsV kind F T i)) n := by
  have K := iskind_any kind w
  have SF := isside_any (F : Int) w
  have ST := isside_any (T : Int) w
  rw [decide_eq_true (by rcases hk with rfl | rfl | rfl <;> decide)] at K
  rw [decide_eq_true (by have := h.f1; have := h.f2; omega)] at SF
  rw [decide_eq_true (by have := h.t1; have := h.t2; omega)] at ST
  have HSz : Hid (Sz F T i) := h
  have a1 : ¬ (i : Int) < 0 := by omega
  have a2 : ¬ (T : Int) ≤ (i : Int) := by have := h.i; omega
  have a3 : ¬ 15 * (T : Int) < (F : Int) := by have := h.ft; omega
  have bF : (F : Int) ≤ 1024 := by have := h.f2; omega
  have bT : (T : Int) ≤ 1024 := by have := h.t2; omega
  have hmx : ∀ (ts : Array TypeId) (t : TypeId) (w : World), (Builtin.max_ ts t #[.int .i64 (F : Int), .int .i64 (T : Int)]).run Try.prog w = .ok (.int .i64 ((max F T : Nat) : Int)) w := fun ts t w => by
    rw [run_mx2]; congr 2; omega
  have HSh := shape_any kind ((max F T : Nat) : Int) w hk (by have := h.f1; omega) (by have := h.f2; have := h.t2; omega)
  have HWe : Hid (∀ (b : Nat) (W : World), W.cell? ⟨b, 0, none⟩ = some (.int .i64 (kbx kind (max F T : Nat))) → Calls Try.prog 37 #[.agg #[.int .i64 (rea kind (max F T : Nat)), .func (.func (kfn kind)) #[] #[.pointer (some ⟨b, 0, none⟩)]], .int .i64 (F : Int), .int .i64 (T : Int), .int .i64 (i : Int)] W fun e w' => ∃ vP vW n, e = .returned (.tuple #[vP, vW]) ∧ Wl W w' vP vW (wlsV kind F T i) n) := fun b W hb => weighed_any kind F T i b W hk h hb
  obtain ⟨wl1, wl2⟩ := wls_bound (kind := kind) h
  obtain ⟨L, hL⟩ : ∃ L, wlsV kind F T i = L := ⟨_, rfl⟩
  rw [hL] at wl1 wl2 hS HWe ⊢
  have HB : Hid (∀ e ∈ L, -1099511627776 ≤ e.2 ∧ e.2 ≤ 1099511627776) := wl2
  have HS : Hid (0 < sndSum L) := hS
  have hL0 : 1 ≤ L.length := by
    cases L with
    | nil => exact absurd hS (by decide)
    | cons _ _ => simp
  generalize hmm : (max F T : Nat) = mm at *
  clear hk h wl2 hS hL HSz hmm
  generalize rea kind (mm : Int) = re at *
  generalize kbx kind (mm : Int) = kb at *
  generalize kfn kind = kf at *
  go_enter Try.func16, Try.ntmps16
  go_wp2_with (first | (go_at_call 35; refine K.mono ?_; rintro e w' ⟨rfl, hw⟩; obtain rfl := hw.symm; clear hw) | (go_at_call 36; refine SF.mono ?_; rintro e w' ⟨rfl, hw⟩; obtain rfl := hw.symm; clear hw) | (go_at_call 36; refine ST.mono ?_; rintro e w' ⟨rfl, hw⟩; obtain rfl := hw.symm; clear hw))
  refine HSh.mono ?_
  rintro e w2 ⟨b, rfl, hb, q2⟩
  clear K SF ST HSh hmx
  have HQ2 : Hid (Q _ w2) := q2
  clear q2
  go_wp2_with fail
  refine (HWe.out b w2 hb).mono ?_
  rintro e w3 ⟨vP, vW, n, rfl, hW⟩
  have HW3 : Hid (Wl w2 w3 vP vW L n) := hW
  obtain ⟨aP, cP, aW, cW, rfl, rfl⟩ := hW.form
  have hn := hW.len
  have Csh := shares_any (.slice aW n cW) (L.map Prod.snd) w3 (own_isl hW.w (by rw [List.length_map]; exact hn.symm)) (by rw [List.length_map]; exact hL0) (by rw [List.length_map]; omega) (fun k => by
    rw [List.getD_eq_getElem?_getD, List.getElem?_map]
    cases hk : L[k]? with
    | none => decide
    | some e => exact HB.out e (List.mem_of_getElem? hk)) (by rw [List.length_map, ← sndSum_zf]; exact HS.out)
  rw [List.length_map, ← hn] at Csh
  have HT : Hid (tapsL L = tpK L (shrV (zf (L.map Prod.snd)) n) n) := by show tapsL L = _; unfold tapsL; rw [← hn]
  generalize shrV (zf (L.map Prod.snd)) n = sh at Csh HT
  have HLn : Hid (n = L.length) := hn
  have hn62 : n ≤ 62 := by omega
  clear hW hb HS hn wl1 hL0
  go_wp2_with fail
  refine Csh.mono ?_
  rintro e w4 ⟨g, rfl, hg, hrow, q4⟩
  have HR : Hid (IRow w4 g (tabI n sh)) := hrow
  have HW4 : Hid (Wl w2 w4 (.slice aP n cP) (.slice aW n cW) L n) := HW3.out.next q4
  have HQ4 : Hid (Q w w4) := (HQ2.out.trans HW3.out.q).trans q4
  clear Csh hg hrow q4 HW3
  go_wp2_with fail
  go_loopg [12, 13, 14, 57] n (fun gh s12 s13 s14 s57 wr => ∃ (j k : Nat) (ad : Option Addr) (c : Nat), s12 = .slice ad k c ∧ s57 = .int .i64 (j : Int) ∧ j ≤ n ∧ gh = n - j ∧ k ≤ j ∧ Hid (Tl w4 wr (.slice ad k c) (tpK L sh j) k))
  case atStart => exact ⟨0, 0, none, 0, rfl, rfl, Nat.zero_le _, rfl, Nat.le_refl _, Tl.start w4⟩
  case round =>
    obtain ⟨j, k, ad, c, rfl, rfl, hj, rfl, hkj, HL⟩ := hrel
    by_cases hlt : j < n
    · have hltz : (j : Int) < (n : Int) := by omega
      have c1 := HL.out.q.cell (HR.out.cell j _ (tabI_at hlt))
      obtain ⟨x, hx⟩ : ∃ x, sh j = x := ⟨_, rfl⟩
      rw [hx] at c1
      by_cases hz : x = 0
      · subst hz
        have HL2 : Hid (Tl w4 wr (.slice ad k c) (tpK L sh (j + 1)) k) := by
          show Tl w4 wr _ (if sh j = 0 then tpK L sh j else _) k
          rw [if_pos hx]; exact HL.out
        clear HL hx
        go_wp2_with fail
        go_roundg (n - (j + 1))
        case measure => go_light; omega
        case rel => go_light; exact ⟨j + 1, k, ad, c, rfl, by simp, by omega, rfl, by omega, HL2⟩
      · have hz' : (x == 0) = false := by simpa using hz
        obtain ⟨e, he⟩ : ∃ e, L[j]? = some e := ⟨_, List.getElem?_eq_getElem (by have := HLn.out; omega)⟩
        obtain ⟨p, y⟩ := e
        obtain ⟨gP, rfl⟩ : ∃ gP, aP = some ⟨gP, 0, none⟩ := by
          rcases HW4.out.p.2 with ⟨_, e⟩ | ⟨g', c', cur, e1, _⟩
          · omega
          · injection e1 with e1; exact ⟨g', e1⟩
        have c2 := HL.out.q.cell (own_at HW4.out.p (i := j) (z := p) (by rw [List.getElem?_map, he]; rfl) (by rw [List.length_map]; exact HLn.out.symm))
        obtain ⟨g2, c3, x2, r1, HN⟩ := HL.out.app p x (by omega)
        have HL2 : Hid (Tl w4 x2 (.slice (some ⟨g2, 0, none⟩) (k + 1) c3) (tpK L sh (j + 1)) (k + 1)) := by
          show Tl w4 x2 _ (if sh j = 0 then tpK L sh j else tpK L sh j ++ [((L.getD j (0, 0)).1, sh j)]) (k + 1)
          rw [if_neg (by rw [hx]; exact hz), hx, List.getD_eq_getElem?_getD, he]
          exact HN
        clear HL HN hx he
        go_wp2_with (at_builtin; go_must (refine wpList_appK (.tmp 64) (.tmp 71) 26 rfl rfl (by simp [Act.eval, Act.put]) (by simp [Act.eval, Act.put]) r1 ?_))
        go_roundg (n - (j + 1))
        case measure => go_light; omega
        case rel => go_light; exact ⟨j + 1, k + 1, _, _, rfl, by simp, by omega, rfl, by omega, HL2⟩
    · have hge : ¬ (j : Int) < (n : Int) := by omega
      obtain rfl : j = n := by omega
      go_wp2_with fail
      go_ret2
      exact ⟨_, rfl, k, by rw [HT.out]; exact HL.out.base HQ4.out⟩
end Go.Proofs.Ytdbbpmadkhedlaa
/- Shares sum to 65536, each is near its exact share, and equal weights share alike: plain. -/
namespace Go.Proofs.Ytdbbpmadkhedlaa
set_option linter.unusedVariables false
set_option linter.unusedSimpArgs false

theorem sumF_one {f g : Nat → Int} {o : Nat} (ho : g o = f o + 1) (hs : ∀ i, i ≠ o → g i = f i) : ∀ n, sumF g n = sumF f n + if o < n then 1 else 0
  | 0 => by simp [sumF]
  | n + 1 => by
    have ih := sumF_one ho hs n
    unfold sumF
    rw [ih]
    by_cases e : n = o
    · subst e; rw [ho, if_neg (by omega), if_pos (by omega)]; omega
    · rw [hs n e]
      by_cases c : o < n
      · rw [if_pos c, if_pos (by omega)]; omega
      · rw [if_neg c, if_neg (by omega)]; omega
theorem ordL_place {r : Int → Int} {n k : Nat} (h : k < n) : ∃ o : Nat, (ordL r n)[k]? = some (o : Int) ∧ o < n := by
  have hlen : k < (ordL r n).length := by rw [ordL_len]; exact h
  have hm := ordL_mem.1 (List.getElem_mem hlen)
  exact ⟨((ordL r n)[k]).toNat, by rw [List.getElem?_eq_getElem hlen]; congr 1; omega, by omega⟩
theorem shrK_sum (z : Nat → Int) (S : Int) (n : Nat) : ∀ k, k ≤ n → sumF (shrK z S n k) n = sumF (flo z S) n + (k : Int)
  | 0, _ => by rw [sumF_congr n (fun i _ => shrK_zero z S n i)]; simp
  | k + 1, h => by
    obtain ⟨o, ho, hon⟩ := ordL_place (r := rsV z S) (n := n) (k := k) (by omega)
    obtain ⟨h1, h2⟩ := shrK_hit ho
    rw [sumF_one h1 h2, if_pos hon, shrK_sum z S n k (by omega)]
    omega
theorem shr_sum {z : Nat → Int} {n : Nat} (hn : 0 < n) (hS : 0 < sumF z n) : sumF (shrV z n) n = 65536 := by
  have h0 := miss_ge z rfl hS
  have h1 := miss_le z rfl hS hn
  have := shrK_sum z (sumF z n) n (missV z (sumF z n) n).toNat (by omega)
  show sumF (shrK z (sumF z n) n (missV z (sumF z n) n).toNat) n = _
  rw [this]
  unfold missV at h0 ⊢
  omega
theorem perm_sum {l l' : List Int} (h : l.Perm l') : l.sum = l'.sum := by
  induction h with
  | nil => rfl
  | cons a _ ih => simp [ih]
  | swap a b l => simp; omega
  | trans _ _ h1 h2 => exact h1.trans h2
theorem sum_map_range (f : Nat → Int) : ∀ n, ((List.range n).map f).sum = sumF f n
  | 0 => rfl
  | n + 1 => by rw [List.range_succ, List.map_append, List.sum_append, sum_map_range f n]; simp [sumF]
/-- Who has one more has a rest. -/
theorem hit_pos {z : Nat → Int} {n : Nat} (hn : 0 < n) (hS : 0 < sumF z n) {x : Int} (hx : x ∈ (ordL (rsV z (sumF z n)) n).take (missV z (sumF z n) n).toNat) : 0 < rsV z (sumF z n) x := by
  obtain ⟨S, eS⟩ : ∃ S, sumF z n = S := ⟨_, rfl⟩
  have hm0 := miss_ge z rfl hS
  have hm1 := miss_eq z (n := n) rfl
  rw [eS] at hx hS hm0 hm1 ⊢
  have hr0 := rs_nonneg z hS x
  rcases Int.lt_or_le 0 (rsV z S x) with c | c
  · exact c
  exfalso
  obtain ⟨j, hj⟩ := List.getElem?_of_mem hx
  have hjm : j < (missV z S n).toNat := by have := (List.getElem?_eq_some_iff.1 hj).1; rw [List.length_take] at this; omega
  rw [List.getElem?_take_of_lt hjm] at hj
  -- all behind it have none
  have hsum : ((ordL (rsV z S) n).map (rsV z S)).sum = sumF (fun i => rsV z S i) n := by
    rw [perm_sum ((ordL_perm (rsV z S) n).map (rsV z S))]
    unfold placesL
    rw [List.map_map]
    exact sum_map_range _ n
  have hsplit : ((ordL (rsV z S) n).map (rsV z S)).sum = (((ordL (rsV z S) n).take j).map (rsV z S)).sum + (((ordL (rsV z S) n).drop j).map (rsV z S)).sum := by
    rw [← List.sum_append, ← List.map_append, List.take_append_drop]
  have hd : (((ordL (rsV z S) n).drop j).map (rsV z S)).sum = 0 := by
    have key : ∀ y ∈ (ordL (rsV z S) n).drop j, rsV z S y = 0 := fun y hy => by
      obtain ⟨k, hk⟩ := List.getElem?_of_mem hy
      rw [List.getElem?_drop] at hk
      have h0 := rs_nonneg z hS y
      by_cases e : k = 0
      · subst e
        rw [Nat.add_zero, hj] at hk
        cases hk; omega
      · have := ordL_lt hj hk (by omega)
        unfold tlt at this
        omega
    have : ((ordL (rsV z S) n).drop j).map (rsV z S) = ((ordL (rsV z S) n).drop j).map (fun _ => (0 : Int)) := List.map_congr_left key
    rw [this]
    generalize (ordL (rsV z S) n).drop j = l
    induction l with
    | nil => rfl
    | cons a t ih => simp [ih]
  have ht : (((ordL (rsV z S) n).take j).map (rsV z S)).sum ≤ (j : Int) * (S - 1) := by
    have key : ∀ l : List Int, (l.map (rsV z S)).sum ≤ (l.length : Int) * (S - 1) := fun l => by
      induction l with
      | nil => simp
      | cons a t ih =>
        have h1 := rs_lt z hS a
        have e : ((a :: t).length : Int) * (S - 1) = (t.length : Int) * (S - 1) + (S - 1) := by rw [List.length_cons, Int.natCast_add, Int.add_mul]; simp
        rw [List.map_cons, List.sum_cons, e]
        omega
    have h1 := key ((ordL (rsV z S) n).take j)
    have h2 : (((ordL (rsV z S) n).take j).length : Int) ≤ (j : Int) := by rw [List.length_take]; omega
    have h3 : (((ordL (rsV z S) n).take j).length : Int) * (S - 1) ≤ (j : Int) * (S - 1) := Int.mul_le_mul_of_nonneg_right h2 (by omega)
    omega
  rw [hd, hsum, ← hm1] at hsplit
  have h4 : ((j : Int) + 1) * S ≤ missV z S n * S := Int.mul_le_mul_of_nonneg_right (by omega) (by omega)
  rw [Int.add_mul, Int.mul_comm (missV z S n)] at h4
  have h5 : (j : Int) * (S - 1) = (j : Int) * S - (j : Int) := by rw [Int.mul_sub]; omega
  omega
theorem shr_near {z : Nat → Int} {n : Nat} (hn : 0 < n) (hS : 0 < sumF z n) (i : Nat) : -(sumF z n) < shrV z n i * sumF z n - 65536 * z i ∧ shrV z n i * sumF z n - 65536 * z i < sumF z n := by
  have h1 := flo_rs z (sumF z n) i
  have h2 := rs_nonneg z hS i
  have h3 := rs_lt z hS i
  unfold shrV shrK
  by_cases c : (i : Int) ∈ (ordL (rsV z (sumF z n)) n).take (missV z (sumF z n) n).toNat
  · have h4 := hit_pos hn hS c
    rw [if_pos c, Int.add_mul, Int.mul_comm (flo z (sumF z n) i)]
    omega
  · rw [if_neg c, Int.add_zero, Int.mul_comm (flo z (sumF z n) i)]
    omega
theorem shr_alike {z : Nat → Int} {n k i : Nat} (hki : k < i) (hin : i < n) (he : z k = z i) : shrV z n k = shrV z n i ∨ shrV z n k = shrV z n i + 1 := by
  unfold shrV shrK
  generalize sumF z n = S
  generalize (missV z S n).toNat = m
  have hf : flo z S k = flo z S i := by unfold flo; rw [he]
  rw [hf]
  have hr : rsV z S k = rsV z S i := by unfold rsV; rw [Int.toNat_natCast, Int.toNat_natCast, he]
  by_cases ci : (i : Int) ∈ (ordL (rsV z S) n).take m
  · have ck : (k : Int) ∈ (ordL (rsV z S) n).take m := by
      obtain ⟨b, hb⟩ := List.getElem?_of_mem ci
      have hbm : b < m := by have := (List.getElem?_eq_some_iff.1 hb).1; rw [List.length_take] at this; omega
      rw [List.getElem?_take_of_lt hbm] at hb
      obtain ⟨a, ha⟩ := List.getElem?_of_mem (ordL_mem.2 ⟨(by omega : (0 : Int) ≤ (k : Int)), (by omega : (k : Int) < (n : Int))⟩ : (k : Int) ∈ ordL (rsV z S) n)
      have hab : a < b := by
        rcases Nat.lt_trichotomy a b with h | h | h
        · exact h
        · subst h; rw [ha] at hb; cases hb; omega
        · have := ordL_lt hb ha h
          unfold tlt at this
          omega
      refine List.mem_of_getElem? (i := a) ?_
      rw [List.getElem?_take_of_lt (by omega)]; exact ha
    rw [if_pos ci, if_pos ck]; exact Or.inl rfl
  · rw [if_neg ci]
    by_cases ck : (k : Int) ∈ (ordL (rsV z S) n).take m
    · rw [if_pos ck]; right; omega
    · rw [if_neg ck]; exact Or.inl rfl
end Go.Proofs.Ytdbbpmadkhedlaa
/- What taps are: rising, none 0, summing to 65536. -/
namespace Go.Proofs.Ytdbbpmadkhedlaa
set_option linter.unusedVariables false
set_option linter.unusedSimpArgs false

theorem tpK_mem {L : List (Int × Int)} {sh : Nat → Int} : ∀ {j : Nat} {e : Int × Int}, e ∈ tpK L sh j → ∃ k, k < j ∧ e = ((L.getD k (0, 0)).1, sh k) ∧ sh k ≠ 0
  | 0, e, he => by cases he
  | j + 1, e, he => by
    unfold tpK at he
    split at he
    · obtain ⟨k, h1, h2⟩ := tpK_mem he; exact ⟨k, by omega, h2⟩
    · rename_i hz
      rcases List.mem_append.1 he with h | h
      · obtain ⟨k, h1, h2⟩ := tpK_mem h; exact ⟨k, by omega, h2⟩
      · rw [List.mem_singleton] at h; exact ⟨j, by omega, h, hz⟩
theorem tpK_sum (L : List (Int × Int)) (sh : Nat → Int) : ∀ j, sndSum (tpK L sh j) = sumF sh j
  | 0 => rfl
  | j + 1 => by
    have ih := tpK_sum L sh j
    show sndSum (if sh j = 0 then tpK L sh j else tpK L sh j ++ [((L.getD j (0, 0)).1, sh j)]) = sumF sh j + sh j
    by_cases h : sh j = 0
    · rw [if_pos h, ih, h]; omega
    · rw [if_neg h]
      unfold sndSum at ih ⊢
      rw [List.map_append, List.sum_append, ih]; simp
theorem tpK_rises {L : List (Int × Int)} {sh : Nat → Int} (hL : L.Pairwise (fun x y => x.1 < y.1)) : ∀ j, j ≤ L.length → (tpK L sh j).Pairwise (fun x y => x.1 < y.1)
  | 0, _ => List.Pairwise.nil
  | j + 1, hj => by
    have ih := tpK_rises (sh := sh) hL j (by omega)
    unfold tpK
    split
    · exact ih
    · refine List.pairwise_append.2 ⟨ih, List.pairwise_singleton _ _, fun e he e2 he2 => ?_⟩
      rw [List.mem_singleton] at he2
      subst he2
      obtain ⟨k, h1, h2, _⟩ := tpK_mem he
      rw [h2]
      show (L.getD k (0, 0)).1 < (L.getD j (0, 0)).1
      rw [List.getD_eq_getElem?_getD, List.getD_eq_getElem?_getD, List.getElem?_eq_getElem (by omega), List.getElem?_eq_getElem (by omega)]
      exact List.pairwise_iff_getElem.1 hL k j (by omega) (by omega) h1
/-- All that is told of taps. -/
structure TapOk (kind : Int) (F T i : Nat) (L : List (Int × Int)) : Prop where
  at_ : ∀ e ∈ L, 0 ≤ e.1 ∧ e.1 < (F : Int) ∧ e.2 ≠ 0 ∧ (kind ≠ 3 → 0 ≤ e.2) ∧ -72057594037927936 ≤ e.2 ∧ e.2 ≤ 72057594037927937
  rise : L.Pairwise (fun x y => x.1 < y.1)
  sum : sndSum L = 65536
  len : L.length ≤ 64
  one : F = T → ∃ x, L = [((i : Int), x)]
theorem plV_mono (F : Nat) : ∀ x y : Int, x ≤ y → plV F x ≤ plV F y := fun x y h => by unfold plV; omega
theorem plV_in {F : Nat} (h : 1 ≤ F) (k : Int) : 0 ≤ plV F k ∧ plV F k < (F : Int) := by unfold plV; omega
/-- One weight alone. -/
theorem wrun_one {f pl : Int → Int} {a i : Int} (hz : ∀ k, k ≠ i → f k = 0) (hi : f i ≠ 0) (ha : a ≤ i) : ∀ n : Nat, wrun f pl a n = if a + (n : Int) ≤ i then [] else [(pl i, f i)]
  | 0 => by rw [if_pos (by omega)]; rfl
  | n + 1 => by
    have ih := wrun_one (pl := pl) hz hi ha n
    show wput (wrun f pl a n) (pl (a + n)) (f (a + n)) = _
    rw [ih]
    by_cases c : a + (n : Int) = i
    · rw [if_pos (by omega), if_neg (by omega), c, wput_new hi (fun e he => by cases he)]; rfl
    · rw [hz _ c, wput_zero]
      by_cases c2 : a + (n : Int) ≤ i
      · rw [if_pos c2, if_pos (by omega)]
      · rw [if_neg c2, if_neg (by omega)]
theorem wgt_own {kind m d : Int} (hk : kind = 1 ∨ kind = 2 ∨ kind = 3) (hm : 0 < m) : (0 < wgt kind m 0) ∧ (2 * m ≤ absI d → (absI d = 2 * m ∨ 4 * m ≤ absI d) → wgt kind m d = 0) := by
  rcases hk with rfl | rfl | rfl
  · refine ⟨?_, fun h1 _ => ?_⟩
    · show 0 < if _ then (1 : Int) else 0; rw [if_pos ⟨by omega, by omega⟩]; decide
    · show (if _ then (1 : Int) else 0) = 0; rw [if_neg (fun h => by unfold absI at h1; omega)]
  · refine ⟨?_, fun h1 _ => ?_⟩
    · show 0 < max (2 * m - absI 0) 0; unfold absI; omega
    · show max (2 * m - absI d) 0 = 0; omega
  · refine ⟨?_, fun h1 h2 => ?_⟩
    · show 0 < cubV (absI 0) (2 * m)
      have h3 : 0 < m * m * m := Int.mul_pos (Int.mul_pos hm hm) hm
      have := cub_mid (c := absI 0) (m := m) (by decide) (by show (0 : Int) ≤ m; omega) hm
      omega
    · show cubV (absI d) (2 * m) = 0
      unfold cubV
      rw [if_neg (by omega)]
      rcases h2 with h | h
      · rw [if_pos (by omega), h]; grind
      · rw [if_neg (by omega)]
theorem wls_one {kind : Int} {F i : Nat} (hk : kind = 1 ∨ kind = 2 ∨ kind = 3) (h : Sz F F i) : ∃ x, wlsV kind F F i = [((i : Int), x)] := by
  have hF : 0 < (F : Int) := by have := h.f1; omega
  have hmx : (max F F : Nat) = F := by omega
  have hmid : midV F F i = 2 * (F : Int) * (i : Int) := by unfold midV; grind
  have hwf : ∀ k, wfV kind F F i k = wgt kind F (2 * (F : Int) * k - 2 * (F : Int) * (i : Int)) := fun k => by
    show wgt kind ((max F F : Nat) : Int) _ = _
    rw [hmid, hmx]
  obtain ⟨w1, w2, w3, w4⟩ := win_eq (kind := kind) h
  have hr := rea_size (kind := kind) (m := (max F F : Nat)) (by omega)
  rw [hmx] at hr
  rw [hmid, hmx] at w1 w2 w3 w4
  have hww : winV kind F F i = (lstV kind F F i - fstV kind F F i + 1).toNat := rfl
  have le_of : ∀ a b : Int, 2 * (F : Int) * a < 2 * (F : Int) * b + 2 * (F : Int) → a ≤ b := fun a b hh => by
    rcases Int.lt_or_le b a with c | c
    · have h2 : 2 * (F : Int) * (b + 1) ≤ 2 * (F : Int) * a := Int.mul_le_mul_of_nonneg_left (by omega) (by omega)
      rw [Int.mul_add] at h2
      omega
    · exact c
  have a1 : fstV kind F F i ≤ (i : Int) := le_of _ _ (by omega)
  have a2 : (i : Int) ≤ lstV kind F F i := le_of _ _ (by omega)
  have key := wrun_one (f := wfV kind F F i) (pl := plV F) (a := fstV kind F F i) (i := (i : Int)) (fun k hk' => by
    rw [hwf]
    refine (wgt_own hk hF).2 ?_ ?_
    · have h1 : 2 * (F : Int) * k - 2 * (F : Int) * (i : Int) = 2 * (F : Int) * (k - i) := by rw [Int.mul_sub]
      rw [h1]
      rcases Int.lt_or_gt_of_ne hk' with c | c
      · have : 2 * (F : Int) * (k - i) ≤ 2 * (F : Int) * (-1) := Int.mul_le_mul_of_nonneg_left (by omega) (by omega)
        unfold absI; omega
      · have : 2 * (F : Int) * 1 ≤ 2 * (F : Int) * (k - i) := Int.mul_le_mul_of_nonneg_left (by omega) (by omega)
        unfold absI; omega
    · have h1 : 2 * (F : Int) * k - 2 * (F : Int) * (i : Int) = 2 * (F : Int) * (k - i) := by rw [Int.mul_sub]
      rw [h1]
      by_cases c1 : k - i = 1
      · left; rw [c1]; unfold absI; omega
      · by_cases c2 : k - i = -1
        · left; rw [c2]; unfold absI; omega
        · right
          rcases Int.lt_or_gt_of_ne hk' with c | c
          · have : 2 * (F : Int) * (k - i) ≤ 2 * (F : Int) * (-2) := Int.mul_le_mul_of_nonneg_left (by omega) (by omega)
            unfold absI; omega
          · have : 2 * (F : Int) * 2 ≤ 2 * (F : Int) * (k - i) := Int.mul_le_mul_of_nonneg_left (by omega) (by omega)
            unfold absI; omega) (by
    rw [hwf, Int.sub_self]
    have := (wgt_own (d := 0) hk hF).1
    omega) a1 (winV kind F F i)
  refine ⟨wfV kind F F i (i : Int), ?_⟩
  show wrun _ _ _ _ = _
  rw [key, if_neg (by omega)]
  have : plV F (i : Int) = (i : Int) := by unfold plV; have := h.i; omega
  rw [this]
theorem taps_ok {kind : Int} {F T i : Nat} (hk : kind = 1 ∨ kind = 2 ∨ kind = 3) (h : Sz F T i) : TapOk kind F T i (tapsL (wlsV kind F T i)) := by
  have hpos := wls_pos hk h
  obtain ⟨hb1, hb2⟩ := wls_bound (kind := kind) h
  have hrise := (wrun_rises (f := wfV kind F T i) (a := fstV kind F T i) (plV_mono F) (winV kind F T i)).1
  have hin := wrun_all (f := wfV kind F T i) (a := fstV kind F T i) (P := fun p => 0 ≤ p ∧ p < (F : Int)) (plV_in h.f1) (winV kind F T i)
  change (wlsV kind F T i).Pairwise _ at hrise
  change ∀ e ∈ wlsV kind F T i, _ at hin
  have hkp : kind ≠ 3 → ∀ e ∈ wlsV kind F T i, 0 < e.2 := fun h3 => by
    have hm0 : 0 < ((max F T : Nat) : Int) := by have := h.f1; omega
    refine wrun_pos (fun k => ?_) _
    rcases hk with rfl | rfl | rfl
    · show 0 ≤ if _ then (1 : Int) else 0; split <;> omega
    · show 0 ≤ max (2 * ((max F T : Nat) : Int) - absI _) 0; omega
    · exact absurd rfl h3
  have hone : F = T → ∃ x, wlsV kind F T i = [((i : Int), x)] := fun e => by subst e; exact wls_one hk h
  generalize wlsV kind F T i = L at *
  have hS := hpos
  rw [sndSum_zf] at hS
  have hn : 0 < L.length := by
    cases L with
    | nil => exact absurd hpos (by decide)
    | cons _ _ => simp
  have hM : ∀ k, -1099511627776 ≤ zf (L.map Prod.snd) k ∧ zf (L.map Prod.snd) k ≤ 1099511627776 := fun k => by
    unfold zf
    rw [List.getD_eq_getElem?_getD, List.getElem?_map]
    cases hk : L[k]? with
    | none => decide
    | some e => exact hb2 e (List.mem_of_getElem? hk)
  have hsum : sumF (shrV (zf (L.map Prod.snd)) L.length) L.length = 65536 := shr_sum hn hS
  refine ⟨fun e he => ?_, tpK_rises hrise _ (Nat.le_refl _), ?_, ?_, fun e => ?_⟩
  · obtain ⟨k, h1, h2, h3⟩ := tpK_mem he
    have hkl : L[k]? = some L[k] := List.getElem?_eq_getElem h1
    have hg : L.getD k (0, 0) = L[k] := by rw [List.getD_eq_getElem?_getD, hkl]; rfl
    have hp := hin _ (List.mem_of_getElem? hkl)
    rw [h2, hg]
    have hf := flo_size (z := zf (L.map Prod.snd)) (i := k) hS (hM k)
    refine ⟨hp.1, hp.2, h3, fun h4 => ?_, ?_, ?_⟩
    · have hz := hkp h4 _ (List.mem_of_getElem? hkl)
      have hz2 : zf (L.map Prod.snd) k = L[k].2 := by unfold zf; rw [List.getD_eq_getElem?_getD, List.getElem?_map, hkl]; rfl
      show 0 ≤ shrK _ _ _ _ _
      unfold shrK
      have : 0 ≤ flo (zf (L.map Prod.snd)) (sumF (zf (L.map Prod.snd)) L.length) k := by
        unfold flo
        rw [hz2]
        exact Int.ediv_nonneg (by omega) (by omega)
      split <;> omega
    · show _ ≤ shrK _ _ _ _ _; unfold shrK; split <;> omega
    · show shrK _ _ _ _ _ ≤ _; unfold shrK; split <;> omega
  · exact (tpK_sum _ _ _).trans hsum
  · exact Nat.le_trans (tpK_len _ _ _) (by omega)
  · obtain ⟨x, hx⟩ := hone e
    subst hx
    refine ⟨65536, ?_⟩
    have h0 : shrV (zf [x]) 1 0 = 65536 := by
      have : 0 + shrV (zf [x]) 1 0 = 65536 := hsum
      omega
    show (if shrV (zf [x]) 1 0 = 0 then [] else [] ++ [((i : Int), shrV (zf [x]) 1 0)]) = _
    rw [h0]; rfl
end Go.Proofs.Ytdbbpmadkhedlaa
/- Shares by taking the greatest rest again and again, plain: the same shares. -/
namespace Go.Proofs.Ytdbbpmadkhedlaa
open Go.Sort
set_option linter.unusedVariables false
set_option linter.unusedSimpArgs false

/-- The first of the greatest among the first i. -/
structure Bst (f : Nat → Int) (i b : Nat) : Prop where
  lt : b < i
  le : ∀ j, j < i → f j ≤ f b
  fst : ∀ j, j < b → f j < f b
theorem Bst.one (f : Nat → Int) : Bst f 1 0 := by
  refine ⟨by omega, fun j hj => ?_, fun j hj => by omega⟩
  obtain rfl : j = 0 := by omega
  exact Int.le_refl _
theorem Bst.new {f : Nat → Int} {i b : Nat} (h : Bst f i b) (hg : f b < f i) : Bst f (i + 1) i :=
  ⟨by omega, fun j hj => by
    by_cases e : j = i
    · subst e; exact Int.le_refl _
    · have := h.le j (by omega); omega, fun j hj => by have := h.le j hj; omega⟩
theorem Bst.old {f : Nat → Int} {i b : Nat} (h : Bst f i b) (hg : ¬ f b < f i) : Bst f (i + 1) b :=
  ⟨by have := h.lt; omega, fun j hj => by
    by_cases e : j = i
    · subst e; omega
    · exact h.le j (by omega), h.fst⟩
theorem Bst.unique {f : Nat → Int} {i b c : Nat} (h : Bst f i b) (k : Bst f i c) : b = c := by
  have h1 := h.le c k.lt
  have h2 := k.le b h.lt
  rcases Nat.lt_trichotomy b c with e | e | e
  · have := k.fst b e; omega
  · exact e
  · have := h.fst c e; omega
/-- The rests behind k rounds. -/
def rstK (z : Nat → Int) (S : Int) (n k i : Nat) : Int := if (i : Int) ∈ (ordL (rsV z S) n).take k then -1 else rsV z S i
theorem rstK_zero (z : Nat → Int) (S : Int) (n i : Nat) : rstK z S n 0 i = rsV z S i := by unfold rstK; rw [List.take_zero, if_neg (by simp)]
theorem not_take {r : Int → Int} {n k : Nat} {o : Int} (h : (ordL r n)[k]? = some o) : o ∉ (ordL r n).take k := fun hm => by
  obtain ⟨i, hi⟩ := List.getElem?_of_mem hm
  have hik : i < k := by have := (List.getElem?_eq_some_iff.1 hi).1; rw [List.length_take] at this; omega
  rw [List.getElem?_take_of_lt hik] at hi
  exact tlt_irr (ordL_lt hi h hik)
theorem rstK_hit {z : Nat → Int} {S : Int} {n k o : Nat} (h : (ordL (rsV z S) n)[k]? = some (o : Int)) : rstK z S n (k + 1) o = -1 ∧ ∀ i, i ≠ o → rstK z S n (k + 1) i = rstK z S n k i := by
  unfold rstK
  have e : (ordL (rsV z S) n).take (k + 1) = (ordL (rsV z S) n).take k ++ [(o : Int)] := by rw [List.take_add_one, h]; rfl
  refine ⟨?_, fun i hi => ?_⟩
  · rw [e, if_pos (by simp)]
  · rw [e]
    by_cases c : (i : Int) ∈ (ordL (rsV z S) n).take k
    · rw [if_pos (List.mem_append_left _ c), if_pos c]
    · rw [if_neg (fun hm => by
        rcases List.mem_append.1 hm with h1 | h1
        · exact c h1
        · rw [List.mem_singleton] at h1; omega), if_neg c]
/-- What is found is the next one in the order of rests. -/
theorem bst_ord {z : Nat → Int} {S : Int} (hS : 0 < S) {n k o : Nat} (h : (ordL (rsV z S) n)[k]? = some (o : Int)) : Bst (rstK z S n k) n o := by
  have hlt : o < n := by have := ordL_mem.1 (List.mem_of_getElem? h); omega
  have ho : rstK z S n k o = rsV z S o := by unfold rstK; rw [if_neg (not_take h)]
  have key : ∀ j, j < n → j ≠ o → rstK z S n k j < rsV z S o ∨ (rstK z S n k j = rsV z S o ∧ o < j) := fun j hj hne => by
    have h0 := rs_nonneg z hS (o : Int)
    unfold rstK
    split
    · left; omega
    · rename_i hm
      obtain ⟨p, hp⟩ := List.getElem?_of_mem (ordL_mem.2 ⟨by omega, by omega⟩ : (j : Int) ∈ ordL (rsV z S) n)
      have hkp : k < p := by
        rcases Nat.lt_trichotomy p k with c | c | c
        · exact absurd (List.mem_of_getElem? (by rw [List.getElem?_take_of_lt c]; exact hp : ((ordL (rsV z S) n).take k)[p]? = some (j : Int))) hm
        · subst c; rw [h] at hp; injection hp with hp; omega
        · exact c
      have ht := ordL_lt h hp hkp
      unfold tlt at ht
      omega
  refine ⟨hlt, fun j hj => ?_, fun j hj => ?_⟩
  · by_cases e : j = o
    · subst e; exact Int.le_refl _
    · rw [ho]; rcases key j hj e with c | c <;> omega
  · rw [ho]; rcases key j (by omega) (by omega) with c | c
    · exact c
    · omega
theorem rst_bd (z : Nat → Int) {S : Int} (hS : 0 < S) (n k i : Nat) : -1 ≤ rstK z S n k i ∧ rstK z S n k i < S := by
  unfold rstK
  have h1 := rs_nonneg z hS (i : Int)
  have h2 := rs_lt z hS (i : Int)
  split <;> omega
end Go.Proofs.Ytdbbpmadkhedlaa
/- Lists of whole numbers held against one another. -/
namespace Go.Proofs.Ytdbbpmadkhedlaa
open Go.RowKit
set_option linter.unusedVariables false
set_option linter.unusedSimpArgs false

set_option maxHeartbeats 2000000 in
set_option maxRecDepth 100000 in
/-- halidehelp.Ints: the same lists? -/
theorem ints_any (v u : Value) (L M : List Int) (w : World) (hv : ISl w v L) (hu : ISl w u M) (hn : L.length ≤ 100000) (hm : M.length ≤ 100000) :
    Calls Try.prog 19 #[v, u] w fun e w' => e = .returned (.bool (decide (L = M))) ∧ Q w w' := by
  obtain ⟨ad, c, rfl⟩ := hv.form
  obtain ⟨ad2, c2, rfl⟩ := hu.form
  by_cases hl : L.length = M.length
  · obtain ⟨B, hB⟩ : ∃ B, decide (L = M) = B := ⟨_, rfl⟩
    have HB : Hid (decide (L = M) = B) := hB
    rw [hB]
    obtain ⟨N, eN⟩ : ∃ N, L.length = N := ⟨_, rfl⟩
    have HV : Hid (ISl w (.slice ad N c) L ∧ L.length = N) := ⟨by rw [← eN]; exact hv, eN⟩
    have HU : Hid (ISl w (.slice ad2 N c2) M ∧ M.length = N) := ⟨by rw [← eN, hl]; exact hu, by rw [← eN, hl]⟩
    rw [← hl, eN]
    rw [eN] at hn
    clear hv hu hl eN hB hm
    go_enter Try.func19, Try.ntmps19
    go_wp2_with fail
    go_loopg [5] N (fun gh s5 wr => ∃ i : Nat, s5 = .int .i64 (i : Int) ∧ i ≤ N ∧ gh = N - i ∧ Hid (∀ j, j < i → L.getD j 0 = M.getD j 0) ∧ Hid (Q w wr))
    case atStart => exact ⟨0, rfl, Nat.zero_le _, rfl, fun j hj => absurd hj (by omega), Q.refl w⟩
    case round =>
      obtain ⟨i, rfl, hi, rfl, HS, HQ⟩ := hrel
      by_cases hlt : i < N
      · have hltz : (i : Int) < (N : Int) := by omega
        obtain ⟨g1, o1, d1, hs1, hI1⟩ := HV.out.1.some (by have := HV.out.2; omega)
        rw [HV.out.2] at hs1 hI1
        injection hs1 with e1 e2 e3
        subst e1 e3
        obtain ⟨g2, o2, d2, hs2, hI2⟩ := HU.out.1.some (by have := HU.out.2; omega)
        rw [HU.out.2] at hs2 hI2
        injection hs2 with f1 f2 f3
        subst f1 f3
        have k1 := qw_cell (HQ.out.cell (hI1 i hlt))
        have k2 := qw_cell (HQ.out.cell (hI2 i hlt))
        have n0 := qw_some wr
        obtain ⟨x, hx⟩ : ∃ x, L.getD i 0 = x := ⟨_, rfl⟩
        obtain ⟨y, hy⟩ : ∃ y, M.getD i 0 = y := ⟨_, rfl⟩
        rw [hx] at k1
        rw [hy] at k2
        have HX : Hid (L.getD i 0 = x ∧ M.getD i 0 = y) := ⟨hx, hy⟩
        clear hx hy hI1 hI2 e2 f2
        go_wp2_with fail
        refine wp_region_quiet_Q (by kernel_rfl) (by kernel_rfl) ?_
        repeat (first | go_big_quiet_step (fail) | quiet_step (fail))
        refine wpQuiet_nil ?_
        intro w4 hw'
        have HQ4 : Hid (Q w w4) := HQ.out.trans (qw_out hw')
        clear hw' k1 k2 n0
        by_cases hxy : x = y
        · subst hxy
          have HS2 : Hid (∀ j, j < i + 1 → L.getD j 0 = M.getD j 0) := fun j hj => by
            by_cases e : j = i
            · subst e; rw [HX.out.1, HX.out.2]
            · exact HS.out j (by omega)
          go_wp2_with fail
          go_roundg (N - (i + 1))
          case measure => go_light; omega
          case rel => go_light; exact ⟨i + 1, by simp, by omega, rfl, HS2, HQ4⟩
        · have hxy' : (x == y) = false := by simpa using hxy
          have HF : Hid (B = false) := by
            show B = false
            rw [← HB.out, decide_eq_false_iff_not]
            intro e
            rw [e] at HX
            exact hxy (HX.out.1.symm.trans HX.out.2)
          clear HX
          go_wp2_with fail
          go_ret
          exact ⟨by rw [HF.out]; rfl, HQ4.out⟩
      · have hge : ¬ (i : Int) < (N : Int) := by omega
        obtain rfl : i = N := by omega
        have HF : Hid (B = true) := by
          show B = true
          rw [← HB.out, decide_eq_true_iff]
          apply List.ext_getElem?
          intro j
          by_cases hj : j < i
          · have := HS.out j hj
            rw [List.getD_eq_getElem?_getD, List.getD_eq_getElem?_getD, List.getElem?_eq_getElem (by have := HV.out.2; omega), List.getElem?_eq_getElem (by have := HU.out.2; omega)] at this
            rw [List.getElem?_eq_getElem (by have := HV.out.2; omega), List.getElem?_eq_getElem (by have := HU.out.2; omega)]
            exact congrArg some this
          · rw [List.getElem?_eq_none (by have := HV.out.2; omega), List.getElem?_eq_none (by have := HU.out.2; omega)]
        go_wp2_with fail
        go_ret
        exact ⟨by rw [HF.out]; rfl, HQ.out⟩
  · rw [decide_eq_false (fun e => hl (by rw [e]))]
    have hl' : ((L.length : Int) == (M.length : Int)) = false := by simp; omega
    have hl'' : ¬ (L.length : Int) = (M.length : Int) := by omega
    clear hv hu hl
    generalize L.length = a at *
    generalize M.length = b at *
    go_enter Try.func19, Try.ntmps19
    go_wp2_with fail
    go_ret
    exact ⟨rfl, Q.refl w⟩
end Go.Proofs.Ytdbbpmadkhedlaa
/- kernel.Binomial, kernel.Flat; lists held against one another. -/
namespace Go.Proofs.Ytdbbpmadkhedlaa
open Go.RowKit
set_option linter.unusedVariables false
set_option linter.unusedSimpArgs false

/-- A list of whole numbers of the call's own. -/
structure Il (w0 wr : World) (v : Value) (L : List Int) (n : Nat) : Prop where
  len : n = L.length
  o : wr.ownsRow w0.heap.size 3 1 v n (newsI L)
  q : Q w0 wr
theorem Il.app {w0 wr : World} {v : Value} {L : List Int} {n : Nat} (h : Il w0 wr v L n) (p : Int) (hn : n ≤ 100000) :
    ∃ g c x2, (Builtin.append_ #[51, 51] 51 #[v, .slice (some ⟨wr.heap.size, 0, none⟩) 1 1]).run Try.prog (wr.alloc (.cells #[.int .i64 p] 3)) = .ok (.slice (some ⟨g, 0, none⟩) (n + 1) c) x2 ∧ Il w0 x2 (.slice (some ⟨g, 0, none⟩) (n + 1) c) (L ++ [p]) (n + 1) := by
  obtain ⟨iu, i1, i2, i3, i4⟩ := iInfo
  obtain ⟨g, c, x2, r1, o1, q1, _⟩ := run_app_qg (P := Try.prog) (wr.alloc (.cells #[.int .i64 p] 3)) w0 (h.q.cells _ _) 51 51 3 iu _ 1 8 Try.underlying51 i1 i4 i2 i3 rfl (by decide) v n _ (h.o.alloc _) ⟨wr.heap.size, 0, none⟩ 1 1 [.int .i64 p] rfl (fun j u hu => by
    cases j with
    | zero => cases hu; show (wr.alloc (.cells #[.int .i64 p] 3)).cell? ⟨wr.heap.size, 0, none⟩ = _; simp [go_sem]
    | succ j => cases hu) (fun u hu => by rw [List.mem_singleton.1 hu]; rfl) (by decide) (by unfold maxLen; omega) (by omega)
  refine ⟨g, c, x2, r1, by rw [h.len]; simp, ?_, q1⟩
  have e : newsI (L ++ [p]) = newsI L ++ [.int .i64 p] := by simp [newsI]
  rw [e]; exact o1
theorem Il.isl {w0 wr : World} {v : Value} {L : List Int} {n : Nat} (h : Il w0 wr v L n) : ISl wr v L := own_isl h.o h.len.symm
/-- Binomial numbers, one out of the other. -/
def binV (t : Int) : Nat → Int
  | 0 => 1
  | k + 1 => (binV t k * (t - k)).tdiv ((k : Int) + 1)
theorem bin_bd : ∀ r : Nat, r ≤ 8 → ∀ k : Nat, k ≤ 16 → 0 ≤ binV (2 * (r : Int)) k ∧ binV (2 * (r : Int)) k ≤ 20000 := by decide
theorem tabI_snoc (k : Nat) (f : Nat → Int) : tabI (k + 1) f = tabI k f ++ [f k] := by unfold tabI; rw [List.range_succ, List.map_append]; rfl
set_option maxHeartbeats 2000000 in
set_option maxRecDepth 100000 in
theorem bin_good (r : Nat) (w : World) (hr : r ≤ 8) : Calls Try.prog 18 #[.int .i64 (r : Int)] w fun e w' => ∃ v n, e = .returned (.tuple #[v, .int .i64 0]) ∧ Il w w' v (tabI (2 * r + 1) (binV (2 * (r : Int)))) n := by
  have a1 : ¬ (r : Int) < 0 := by omega
  have a2 : ¬ (8 : Int) < (r : Int) := by omega
  have HB : Hid (∀ k : Nat, k ≤ 16 → 0 ≤ binV (2 * (r : Int)) k ∧ binV (2 * (r : Int)) k ≤ 20000) := bin_bd r hr
  obtain ⟨t, ht⟩ : ∃ t : Nat, t = 2 * r := ⟨_, rfl⟩
  have et : 2 * (r : Int) = (t : Int) := by omega
  have ht2 : t ≤ 16 := by omega
  rw [et] at HB
  have HT : Hid (tabI (2 * r + 1) (binV (2 * (r : Int))) = tabI (t + 1) (binV (t : Int))) := by
    show tabI (2 * r + 1) (binV (2 * (r : Int))) = _
    rw [et, ht]
  rw [HT.out]
  clear HT ht hr
  have H0 : Hid (Il w (w.alloc (.cells #[.int .i64 1] 3)) (.slice (some ⟨w.heap.size, 0, none⟩) 1 1) (tabI 1 (binV (t : Int))) 1) := by
    refine ⟨rfl, ?_, (Q.refl w).cells _ _⟩
    exact ⟨rfl, Or.inr ⟨w.heap.size, 1, #[.int .i64 1], rfl, Nat.le_refl _, by show (w.heap.push _)[w.heap.size]? = _; simp, by decide, by unfold maxLen; decide, rfl, rfl⟩⟩
  go_enter Try.func18, Try.ntmps18
  go_wp2_with fail
  go_loopg [5, 6, 17] t (fun gh s5 s6 s17 wr => ∃ (k : Nat) (g c : Nat), s5 = .slice (some ⟨g, 0, none⟩) (k + 1) c ∧ s17 = .int .i64 (k : Int) ∧ k ≤ t ∧ gh = t - k ∧ Hid (Il w wr (.slice (some ⟨g, 0, none⟩) (k + 1) c) (tabI (k + 1) (binV (t : Int))) (k + 1)))
  case atStart => exact ⟨0, _, _, rfl, rfl, Nat.zero_le _, rfl, H0⟩
  case round =>
    clear H0
    obtain ⟨k, g, c, rfl, rfl, hk, rfl, HI⟩ := hrel
    by_cases hlt : k < t
    · have hltz : (k : Int) < (t : Int) := by omega
      have c1 := own_at HI.out.o (i := k) (z := binV (t : Int) k) (tabI_at (by omega)) (tabI_len _ _)
      obtain ⟨g2, c2, x2, r1, HN⟩ := HI.out.app (binV (t : Int) (k + 1)) (by omega)
      rw [← tabI_snoc] at HN
      have HI2 : Hid (Il w x2 (.slice (some ⟨g2, 0, none⟩) (k + 1 + 1) c2) (tabI (k + 1 + 1) (binV (t : Int))) (k + 1 + 1)) := HN
      have b1 := HB.out k (by omega)
      have b2 := HB.out (k + 1) (by omega)
      obtain ⟨x, hx⟩ : ∃ x, binV (t : Int) k = x := ⟨_, rfl⟩
      obtain ⟨z, hz⟩ : ∃ z, binV (t : Int) (k + 1) = z := ⟨_, rfl⟩
      have hz2 : (x * ((t : Int) - (k : Int))).tdiv ((k : Int) + 1) = z := by rw [← hz, ← hx]; rfl
      obtain ⟨pr, hpr⟩ : ∃ pr, x * ((t : Int) - (k : Int)) = pr := ⟨_, rfl⟩
      rw [hx] at c1 b1
      rw [hz] at r1 b2
      have b3 := mul_bd b1.1 b1.2 (show 0 ≤ (t : Int) - (k : Int) by omega) (show (t : Int) - (k : Int) ≤ 16 by omega)
      rw [hpr] at hz2 b3
      obtain ⟨b1a, b1b⟩ := b1
      obtain ⟨b2a, b2b⟩ := b2
      obtain ⟨b3a, b3b⟩ := b3
      have hk1 : ((k : Int) + 1 == 0) = false := by simp; omega
      have hk2 : ¬ (k : Int) + 1 = 0 := by omega
      have hk3 : (k : Int) < (k : Int) + 1 := by omega
      clear HN HI hx hz
      go_wp2_with (at_builtin; go_must (refine wpList_appK (.tmp 20) (.tmp 32) 51 rfl rfl (by simp [Act.eval, Act.put]) (by simp [Act.eval, Act.put]) r1 ?_))
      go_roundg (t - (k + 1))
      case measure => go_light; omega
      case rel => go_light; exact ⟨k + 1, _, _, rfl, by simp, by omega, rfl, HI2⟩
    · have hge : ¬ (k : Int) < (t : Int) := by omega
      obtain rfl : k = t := by omega
      go_wp2_with fail
      go_ret2
      exact ⟨_, rfl, k + 1, HI.out⟩
end Go.Proofs.Ytdbbpmadkhedlaa
/- Taps held against one another. -/
namespace Go.Proofs.Ytdbbpmadkhedlaa
open Go.RowKit
set_option linter.unusedVariables false
set_option linter.unusedSimpArgs false

/-- Taps in memory. -/
def TSl (w : World) (v : Value) (L : List (Int × Int)) : Prop := (∃ g o cap, v = .slice (some ⟨g, o, none⟩) L.length cap ∧ ∀ i e, L[i]? = some e → w.cell? ⟨g, o + i * 2, none⟩ = some (.int .i64 e.1) ∧ w.cell? ⟨g, o + i * 2 + 1, none⟩ = some (.int .i64 e.2)) ∨ (∃ a c, v = .slice a 0 c ∧ L = [])
theorem TSl.next {w w' : World} {v : Value} {l : List (Int × Int)} (h : TSl w v l) (q : Q w w') : TSl w' v l := by
  rcases h with ⟨g, o, cap, h1, h2⟩ | h
  · exact Or.inl ⟨g, o, cap, h1, fun i e hi => ⟨q.cell (h2 i e hi).1, q.cell (h2 i e hi).2⟩⟩
  · exact Or.inr h
theorem TSl.form {w : World} {v : Value} {l : List (Int × Int)} (h : TSl w v l) : ∃ a cap, v = .slice a l.length cap := by
  rcases h with ⟨g, o, cap, h1, h2⟩ | ⟨a, c, h1, h2⟩
  · exact ⟨_, _, h1⟩
  · subst h2; exact ⟨a, c, h1⟩
theorem TSl.some {w : World} {v : Value} {l : List (Int × Int)} (h : TSl w v l) (h1 : 1 ≤ l.length) : ∃ g o cap, v = .slice (some ⟨g, o, none⟩) l.length cap ∧ ∀ i e, l[i]? = some e → w.cell? ⟨g, o + i * 2, none⟩ = some (.int .i64 e.1) ∧ w.cell? ⟨g, o + i * 2 + 1, none⟩ = some (.int .i64 e.2) := by
  rcases h with h | ⟨_, _, _, h2⟩
  · exact h
  · subst h2; cases h1
theorem newsT_at {L : List (Int × Int)} : ∀ {i : Nat} {e : Int × Int}, L[i]? = some e → (newsT L)[i * 2]? = some (.int .i64 e.1) ∧ (newsT L)[i * 2 + 1]? = some (.int .i64 e.2) := by
  induction L with
  | nil => intro i e h; simp at h
  | cons a t ih =>
    intro i e h
    have hc : newsT (a :: t) = .int .i64 a.1 :: .int .i64 a.2 :: newsT t := rfl
    cases i with
    | zero => cases h; exact ⟨rfl, rfl⟩
    | succ i =>
      rw [List.getElem?_cons_succ] at h
      rw [hc, show (i + 1) * 2 = i * 2 + 1 + 1 by omega]
      simpa using ih h
theorem Tl.tsl {w0 wr : World} {v : Value} {L : List (Int × Int)} {n : Nat} (h : Tl w0 wr v L n) : TSl wr v L := by
  rcases h.o.2 with ⟨e1, e⟩ | ⟨g, c, cur, e1, _⟩
  · exact Or.inr ⟨_, _, e1, List.eq_nil_of_length_eq_zero (by rw [← h.len]; exact e)⟩
  · subst e1
    refine Or.inl ⟨g, 0, c, by rw [h.len], fun i e hi => ?_⟩
    have hlt := (List.getElem?_eq_some_iff.1 hi).1
    have hl := h.len
    obtain ⟨a1, a2⟩ := newsT_at hi
    rw [← h.o.cellAt (i * 2) (by omega)] at a1
    rw [← h.o.cellAt (i * 2 + 1) (by omega)] at a2
    exact ⟨by rw [Nat.zero_add]; exact a1, by rw [Nat.zero_add]; exact a2⟩
set_option maxHeartbeats 2000000 in
set_option maxRecDepth 100000 in
theorem same_any (v u : Value) (L M : List (Int × Int)) (w : World) (hv : TSl w v L) (hu : TSl w u M) (hn : L.length ≤ 100000) (hm : M.length ≤ 100000) :
    Calls Try.prog 8 #[v, u] w fun e w' => e = .returned (.bool (decide (L = M))) ∧ Q w w' := by
  obtain ⟨ad, c, rfl⟩ := hv.form
  obtain ⟨ad2, c2, rfl⟩ := hu.form
  by_cases hl : L.length = M.length
  · obtain ⟨B, hB⟩ : ∃ B, decide (L = M) = B := ⟨_, rfl⟩
    have HB : Hid (decide (L = M) = B) := hB
    rw [hB]
    obtain ⟨N, eN⟩ : ∃ N, L.length = N := ⟨_, rfl⟩
    have HV : Hid (TSl w (.slice ad N c) L ∧ L.length = N) := ⟨by rw [← eN]; exact hv, eN⟩
    have HU : Hid (TSl w (.slice ad2 N c2) M ∧ M.length = N) := ⟨by rw [← eN, hl]; exact hu, by rw [← eN, hl]⟩
    rw [← hl, eN]
    rw [eN] at hn
    clear hv hu hl eN hB hm
    go_enter Try.func8, Try.ntmps8
    go_wp2_with fail
    go_loopg [5] N (fun gh s5 wr => ∃ i : Nat, s5 = .int .i64 (i : Int) ∧ i ≤ N ∧ gh = N - i ∧ Hid (∀ j, j < i → L[j]? = M[j]?) ∧ Hid (Q w wr))
    case atStart => exact ⟨0, rfl, Nat.zero_le _, rfl, fun j hj => absurd hj (by omega), Q.refl w⟩
    case round =>
      obtain ⟨i, rfl, hi, rfl, HS, HQ⟩ := hrel
      by_cases hlt : i < N
      · have hltz : (i : Int) < (N : Int) := by omega
        obtain ⟨g1, o1, d1, hs1, hI1⟩ := HV.out.1.some (by have := HV.out.2; omega)
        rw [HV.out.2] at hs1
        injection hs1 with e1 e2 e3
        subst e1 e3
        obtain ⟨g2, o2, d2, hs2, hI2⟩ := HU.out.1.some (by have := HU.out.2; omega)
        rw [HU.out.2] at hs2
        injection hs2 with f1 f2 f3
        subst f1 f3
        obtain ⟨⟨x1, x2⟩, hx⟩ : ∃ e, L[i]? = some e := ⟨_, List.getElem?_eq_getElem (by have := HV.out.2; omega)⟩
        obtain ⟨⟨y1, y2⟩, hy⟩ : ∃ e, M[i]? = some e := ⟨_, List.getElem?_eq_getElem (by have := HU.out.2; omega)⟩
        obtain ⟨p1, p2⟩ := hI1 i _ hx
        obtain ⟨r1, r2⟩ := hI2 i _ hy
        have k1 := qw_cell (HQ.out.cell p1)
        have k2 := qw_cell (HQ.out.cell p2)
        have k3 := qw_cell (HQ.out.cell r1)
        have k4 := qw_cell (HQ.out.cell r2)
        simp only at k1 k2 k3 k4
        have n0 := qw_some wr
        have HX : Hid (L[i]? = some (x1, x2) ∧ M[i]? = some (y1, y2)) := ⟨hx, hy⟩
        clear hx hy hI1 hI2 e2 f2 p1 p2 r1 r2
        by_cases hxy : x1 = y1
        · subst hxy
          have b1 : (x1 == x1) = true := by simp
          by_cases hxz : x2 = y2
          · subst hxz
            have b2 : (x2 == x2) = true := by simp
            have HS2 : Hid (∀ j, j < i + 1 → L[j]? = M[j]?) := fun j hj => by
              by_cases e : j = i
              · subst e; rw [HX.out.1, HX.out.2]
              · exact HS.out j (by omega)
            go_wp2_with fail
            refine wp_region_quiet_Q (by kernel_rfl) (by kernel_rfl) ?_
            repeat (first | go_big_quiet_step (fail) | quiet_step (fail))
            refine wpQuiet_nil ?_
            intro w4 hw'
            have HQ4 : Hid (Q w w4) := HQ.out.trans (qw_out hw')
            clear hw' k1 k2 k3 k4 n0
            go_wp2_with fail
            go_roundg (N - (i + 1))
            case measure => go_light; omega
            case rel => go_light; exact ⟨i + 1, by simp, by omega, rfl, HS2, HQ4⟩
          · have b2 : (x2 == y2) = false := by simpa using hxz
            have HF : Hid (B = false) := by
              show B = false
              rw [← HB.out, decide_eq_false_iff_not]
              intro e
              rw [e] at HX
              have := HX.out.1.symm.trans HX.out.2
              injection this with this
              injection this with _ h2
              exact hxz h2
            clear HX
            go_wp2_with fail
            refine wp_region_quiet_Q (by kernel_rfl) (by kernel_rfl) ?_
            repeat (first | go_big_quiet_step (fail) | quiet_step (fail))
            refine wpQuiet_nil ?_
            intro w4 hw'
            have HQ4 : Hid (Q w w4) := HQ.out.trans (qw_out hw')
            clear hw' k1 k2 k3 k4 n0
            go_wp2_with fail
            go_ret
            exact ⟨by rw [HF.out]; rfl, HQ4.out⟩
        · have b1 : (x1 == y1) = false := by simpa using hxy
          have HF : Hid (B = false) := by
            show B = false
            rw [← HB.out, decide_eq_false_iff_not]
            intro e
            rw [e] at HX
            have := HX.out.1.symm.trans HX.out.2
            injection this with this
            injection this with h1 _
            exact hxy h1
          clear HX
          by_cases hxz : x2 = y2
          · have b2 : (x2 == y2) = true := by simpa using hxz
            go_wp2_with fail
            refine wp_region_quiet_Q (by kernel_rfl) (by kernel_rfl) ?_
            repeat (first | go_big_quiet_step (fail) | quiet_step (fail))
            refine wpQuiet_nil ?_
            intro w4 hw'
            have HQ4 : Hid (Q w w4) := HQ.out.trans (qw_out hw')
            clear hw' k1 k2 k3 k4 n0
            go_wp2_with fail
            go_ret
            exact ⟨by rw [HF.out]; rfl, HQ4.out⟩
          · have b2 : (x2 == y2) = false := by simpa using hxz
            go_wp2_with fail
            refine wp_region_quiet_Q (by kernel_rfl) (by kernel_rfl) ?_
            repeat (first | go_big_quiet_step (fail) | quiet_step (fail))
            refine wpQuiet_nil ?_
            intro w4 hw'
            have HQ4 : Hid (Q w w4) := HQ.out.trans (qw_out hw')
            clear hw' k1 k2 k3 k4 n0
            go_wp2_with fail
            go_ret
            exact ⟨by rw [HF.out]; rfl, HQ4.out⟩
      · have hge : ¬ (i : Int) < (N : Int) := by omega
        obtain rfl : i = N := by omega
        have HF : Hid (B = true) := by
          show B = true
          rw [← HB.out, decide_eq_true_iff]
          apply List.ext_getElem?
          intro j
          by_cases hj : j < i
          · exact HS.out j hj
          · rw [List.getElem?_eq_none (by have := HV.out.2; omega), List.getElem?_eq_none (by have := HU.out.2; omega)]
        go_wp2_with fail
        go_ret
        exact ⟨by rw [HF.out]; rfl, HQ.out⟩
  · rw [decide_eq_false (fun e => hl (by rw [e]))]
    have hl' : ((L.length : Int) == (M.length : Int)) = false := by simp; omega
    have hl'' : ¬ (L.length : Int) = (M.length : Int) := by omega
    clear hv hu hl
    generalize L.length = a at *
    generalize M.length = b at *
    go_enter Try.func8, Try.ntmps8
    go_wp2_with fail
    go_ret
    exact ⟨rfl, Q.refl w⟩
/-- A list of places told by hand. -/
theorem ordL_eq {r : Int → Int} {n : Nat} {l : List Int} (hp : l.Perm (placesL n)) (hs : l.Pairwise (tlt r)) : ordL r n = l := by
  have h1 : (ordL r n).Pairwise (tlt r) := by
    rw [List.pairwise_iff_getElem]
    intro i j hi hj hij
    exact ordL_lt (List.getElem?_eq_getElem hi) (List.getElem?_eq_getElem hj) hij
  exact ((ordL_perm r n).trans hp.symm).eq_of_pairwise (fun a b _ _ h h' => absurd (tlt_trans h h') tlt_irr) h1 hs
end Go.Proofs.Ytdbbpmadkhedlaa

/- Taps, both ways, whatever comes in. -/
import Derived.Test.YtdbbpmadkhedlaaG5b336edd
import Derived.Test.YtdbbpmadkhedlaaGf95abc1a
import Derived.Test.YtdbbpmadkhedlaaGb72608d3
namespace Go.Proofs.Ytdbbpmadkhedlaa
open Go.RowKit
set_option linter.unusedVariables false
set_option linter.unusedSimpArgs false

/-- The taps that are told, whatever comes in. -/
def tpA (kind F T i : Int) : List (Int × Int) := if tapE kind F T i = 0 then tapsL (wlsV kind F.toNat T.toNat i.toNat) else []
theorem tapE_ok {kind F T i : Int} (h : tapE kind F T i = 0) : (kind = 1 ∨ kind = 2 ∨ kind = 3) ∧ Sz F.toNat T.toNat i.toNat ∧ ((F.toNat : Nat) : Int) = F ∧ ((T.toNat : Nat) : Int) = T ∧ ((i.toNat : Nat) : Int) = i := by
  unfold tapE at h
  split at h
  · split at h
    · split at h
      · rename_i h1 h2 h3
        exact ⟨by omega, ⟨by omega, by omega, by omega, by omega, by omega, by omega⟩, by omega, by omega, by omega⟩
      · cases h
    · cases h
  · cases h
theorem tpA_len (kind F T i : Int) : (tpA kind F T i).length ≤ 62 := by
  unfold tpA
  split
  · rename_i h
    obtain ⟨hk, hz, _⟩ := tapE_ok h
    unfold tapsL
    exact Nat.le_trans (tpK_len _ _ _) (wls_bound hz).1
  · exact Nat.zero_le _
theorem taps_all (kind F T i : Int) (w : World) : Calls Try.prog 16 #[.int .i64 kind, .int .i64 F, .int .i64 T, .int .i64 i] w fun e w' => ∃ v n, e = .returned (.tuple #[v, .int .i64 (tapE kind F T i)]) ∧ Tl w w' v (tpA kind F T i) n := by
  by_cases h : tapE kind F T i = 0
  · obtain ⟨hk, hz, e1, e2, e3⟩ := tapE_ok h
    have C := taps_good kind F.toNat T.toNat i.toNat w hk hz (wls_pos hk hz)
    rw [e1, e2, e3] at C
    unfold tpA
    rw [if_pos h, h]
    exact C
  · refine (taps_bad kind F T i w h).mono ?_
    rintro e w' ⟨h1, rfl⟩
    unfold tpA
    rw [if_neg h]
    exact ⟨_, 0, h1, Tl.start _⟩
theorem rtaps_all (kind F T i : Int) (w : World) : Calls Try.prog 7 #[.int .i64 kind, .int .i64 F, .int .i64 T, .int .i64 i] w fun e w' => ∃ v n, e = .returned (.tuple #[v, .int .i64 (tapE kind F T i)]) ∧ Tl w w' v (tpA kind F T i) n := by
  by_cases h : tapE kind F T i = 0
  · obtain ⟨hk, hz, e1, e2, e3⟩ := tapE_ok h
    have C := rtaps_good kind F.toNat T.toNat i.toNat w hk hz
    rw [e1, e2, e3] at C
    unfold tpA
    rw [if_pos h, h]
    exact C
  · refine (rtaps_bad kind F T i w h).mono ?_
    rintro e w' ⟨h1, rfl⟩
    unfold tpA
    rw [if_neg h]
    exact ⟨_, 0, h1, Tl.start _⟩
/-- Cells that may be written over, of a list of taps that is the call's own. -/
def Wr2 (w0 wr : World) (ad : Option Addr) (n : Nat) : Prop := n = 0 ∨ ∃ g, ad = some ⟨g, 0, none⟩ ∧ w0.heap.size ≤ g ∧ ∀ j, j < n * 2 → (∃ u, wr.cell? ⟨g, j, none⟩ = some u) ∧ wr.frozen? ⟨g, j, none⟩ = false
theorem Tl.wr2 {w0 wr : World} {ad : Option Addr} {c n : Nat} {L : List (Int × Int)} (h : Tl w0 wr (.slice ad n c) L n) : Wr2 w0 wr ad n := by
  by_cases hn : n = 0
  · exact Or.inl hn
  · right
    rcases h.o.2 with ⟨_, e⟩ | ⟨g, c', cur, e1, b1, h1, h2⟩
    · omega
    · injection e1 with e1 e2 e3
      subst e1
      refine ⟨g, rfl, b1, fun j hj => ⟨?_, h.o.frozenAt j⟩⟩
      have hl : j < (newsT L).length := by rw [newsT_len, ← h.len]; exact hj
      refine ⟨(newsT L)[j], ?_⟩
      rw [h.o.cellAt j (by omega), List.getElem?_eq_getElem hl]
theorem Wr2.set {w0 wr : World} {g n : Nat} (h : Wr2 w0 wr (some ⟨g, 0, none⟩) n) (j : Nat) (v : Value) : Wr2 w0 (wr.setCell ⟨g, j, none⟩ v) (some ⟨g, 0, none⟩) n := by
  rcases h with h | ⟨g', e, h1, h2⟩
  · exact Or.inl h
  · injection e with e
    injection e with e
    subst e
    refine Or.inr ⟨g, rfl, h1, fun k hk => ⟨?_, by rw [World.frozen?_setCell]; exact (h2 k hk).2⟩⟩
    obtain ⟨u, hu⟩ := (h2 k hk).1
    by_cases e : j = k
    · subst e; exact ⟨v, World.cell?_setCell_same _ _ _ hu⟩
    · exact ⟨u, by rw [World.cell?_setCell_other _ _ _ _ (fun e' => e (by injection e'))]; exact hu⟩
end Go.Proofs.Ytdbbpmadkhedlaa
/- kernel: all places' taps, as an iterator. -/
namespace Go.Proofs.Ytdbbpmadkhedlaa
open Go.RowKit Go.Shelf
set_option linter.unusedVariables false
set_option linter.unusedSimpArgs false
attribute [local go_sem] Oper.semAt_some

/-- The block of a list that isn't empty. -/
def OnB (v : Value) (b : Nat) : Prop := ∃ o n c, v = .slice (some ⟨b, o, none⟩) n c ∧ 1 ≤ n
/-- What is yielded: a place, and its taps. -/
def EncT (kind F T : Int) (j : Nat) (args : Array Value) (B : Nat → Prop) (W : World) : Prop := ∃ v, args = #[.int .i64 (j : Int), v] ∧ TSl W v (tpA kind F T (j : Int)) ∧ ∀ b, B b ↔ OnB v b
theorem TSl.kept {C : Nat → Prop} {w w' : World} {v : Value} {L : List (Int × Int)} (h : TSl w v L) (k : KeptIn C w w') (hC : ∀ b, OnB v b → C b) : TSl w' v L := by
  by_cases h1 : 1 ≤ L.length
  · obtain ⟨g, o, cap, rfl, hI⟩ := h.some h1
    have hg := hC g ⟨_, _, _, rfl, h1⟩
    exact Or.inl ⟨g, o, cap, rfl, fun i e hi => ⟨(k.cell (a := ⟨g, _, none⟩) hg).trans (hI i e hi).1, (k.cell (a := ⟨g, _, none⟩) hg).trans (hI i e hi).2⟩⟩
  · obtain ⟨a, cap, rfl⟩ := h.form
    have : L = [] := by cases L with
      | nil => rfl
      | cons x l => simp at h1
    subst this
    exact Or.inr ⟨_, _, rfl, rfl⟩
theorem TSl.lt {w : World} {v : Value} {L : List (Int × Int)} (h : TSl w v L) {b : Nat} (hb : OnB v b) : b < w.heap.size := by
  obtain ⟨o, n, c, rfl, h1⟩ := hb
  rcases h with ⟨g, o', cap, e, hI⟩ | ⟨a, c', e, rfl⟩
  · injection e with e1 e2 e3
    injection e1 with e1
    injection e1 with e4 e5
    subst e4
    have hl : 0 < L.length := by omega
    exact World.block_lt_of_cell? _ _ (hI 0 L[0] (by simp [hl])).1
  · injection e with e1 e2 e3
    omega
theorem Tl.onb {w0 wr : World} {v : Value} {L : List (Int × Int)} {n : Nat} (h : Tl w0 wr v L n) {b : Nat} (hb : OnB v b) : w0.heap.size ≤ b := by
  obtain ⟨o, m, c, rfl, h1⟩ := hb
  rcases h.o.2 with ⟨e, _⟩ | ⟨g, c', cur, e1, b1, _⟩
  · cases e
  · injection e1 with e1
    injection e1 with e1
    injection e1 with e4 e5
    subst e4
    exact b1
/-- The places that are yielded. -/
def allX (kind F T : Int) : List Nat := if tapE kind F T 0 = 0 then List.range T.toNat else []
theorem tapE_in {kind F T i : Int} (h : tapE kind F T 0 = 0) (hi : 0 ≤ i) (hT : i < T) : tapE kind F T i = 0 := by
  unfold tapE at h ⊢
  split at h
  · rename_i h1
    rw [if_pos h1]
    split at h
    · rename_i h2
      have h3 : (1 ≤ F ∧ F ≤ 1024) ∧ (1 ≤ T ∧ T ≤ 1024) ∧ 0 ≤ i ∧ i < T := ⟨h2.1, h2.2.1, hi, hT⟩
      rw [if_pos h3]
      exact h
    · cases h
  · cases h
theorem tapE_pos {kind F T : Int} (h : 0 < T) (h0 : ¬ tapE kind F T 0 = 0) (i : Int) (hi : 0 ≤ i) (hT : i < T) : ¬ tapE kind F T i = 0 := by
  intro hh
  apply h0
  unfold tapE at hh ⊢
  split at hh
  · rename_i h1
    rw [if_pos h1]
    split at hh
    · rename_i h2
      have h3 : (1 ≤ F ∧ F ≤ 1024) ∧ (1 ≤ T ∧ T ≤ 1024) ∧ (0 : Int) ≤ 0 ∧ 0 < T := ⟨h2.1, h2.2.1, Int.le_refl _, h⟩
      rw [if_pos h3]
      exact hh
    · cases hh
  · cases hh
theorem list_atK {α : Type} {l : List α} {k : Nat} {x : α} (h : l[k]? = some x) : l = l.take k ++ x :: l.drop (k + 1) := by
  obtain ⟨hk, rfl⟩ := List.getElem?_eq_some_iff.1 h
  rw [List.getElem_cons_drop, List.take_append_drop]
/-- What the iterator holds between two places. -/
def AllJ (J : (Nat → Prop) → (Nat → Prop) → List Nat → World → Prop) (C D : Nat → Prop) (W : World) (zs : List Nat) (k : Nat) (C' D' : Nat → Prop) (wr : World) : Prop :=
  J C' D' (zs.take k) wr ∧ Fits C' wr ∧ (∀ b, D' b → C' b) ∧ Same D W wr ∧ (∀ b, C' b → C b ∨ W.heap.size ≤ b) ∧ (∀ b, D' b → D b ∨ W.heap.size ≤ b)
set_option maxRecDepth 100000 in
set_option maxHeartbeats 4000000 in
theorem all_it (Bt Bk Bf : Nat) (kind F T : Int) (hTs : T ≤ 100000) :
    ItC Try.prog 20 #[.pointer (some ⟨Bt, 0, none⟩), .pointer (some ⟨Bk, 0, none⟩), .pointer (some ⟨Bf, 0, none⟩)] (EncT kind F T) (allX kind F T) (fun c => c = Bt ∨ c = Bk ∨ c = Bf) (fun W => W.cell? ⟨Bt, 0, none⟩ = some (.int .i64 T) ∧ W.cell? ⟨Bk, 0, none⟩ = some (.int .i64 kind) ∧ W.cell? ⟨Bf, 0, none⟩ = some (.int .i64 F)) := by
  intro l J Jx C D W hPre hRd hJ hJx hY h0 hC hD
  obtain ⟨hBt, hBk, hBf⟩ := hPre
  have HK : Hid (∀ wr : World, Same D W wr → wr.cell? ⟨Bt, 0, none⟩ = some (.int .i64 T) ∧ wr.cell? ⟨Bk, 0, none⟩ = some (.int .i64 kind) ∧ wr.cell? ⟨Bf, 0, none⟩ = some (.int .i64 F)) := fun wr hs => by
    have k := hs.kept (Z := fun b => b = Bt ∨ b = Bk ∨ b = Bf) (fun b hb => ⟨(hRd b hb).2, (hRd b hb).1⟩)
    exact ⟨(k.cell (a := ⟨Bt, 0, none⟩) (Or.inl rfl)).trans hBt, (k.cell (a := ⟨Bk, 0, none⟩) (Or.inr (Or.inl rfl))).trans hBk, (k.cell (a := ⟨Bf, 0, none⟩) (Or.inr (Or.inr rfl))).trans hBf⟩
  have HC : Hid _ := fun i x => taps_all kind F T i x
  by_cases hT : 0 < T
  · by_cases he : tapE kind F T 0 = 0
    · obtain ⟨N, rfl⟩ : ∃ N : Nat, T = (N : Int) := ⟨T.toNat, by omega⟩
      obtain ⟨zs, hzs⟩ : ∃ zs, allX kind F (N : Int) = zs := ⟨_, rfl⟩
      have hz2 : zs = List.range N := by rw [← hzs]; unfold allX; rw [if_pos he, Int.toNat_natCast]
      have HZ : Hid (∀ k, k < N → zs[k]? = some k) := fun k hk => by rw [hz2]; exact List.getElem?_range hk
      have HZL : Hid (zs.take N = zs) := by rw [hz2]; exact List.take_of_length_le (by simp)
      have HE : Hid (∀ i : Nat, i < N → tapE kind F (N : Int) (i : Int) = 0) := fun i hi => tapE_in he (by omega) (by omega)
      rw [hzs] at hY ⊢
      have HY : Hid _ := hY
      have H0 : Hid (AllJ J C D W zs 0 C D W) := ⟨h0, hC, hD, Same.refl _ _, fun b hb => Or.inl hb, fun b hb => Or.inl hb⟩
      clear hY h0 hzs hz2 hC hD hBk hBf he
      refine callsIn_of_wp Try.func20 rfl trivial ?_ rfl
      simp only [Try.ntmps20, List.size_toArray, List.length_cons, List.length_nil, Nat.reduceAdd, Nat.reduceSub, Array.replicate_succ, Array.replicate_zero, List.push_toArray, List.append_toArray, List.nil_append, List.cons_append]
      gi_wp2
      gi_loopw [9] (fun i wr => ∃ (y : Nat) (C' D' : Nat → Prop), y ≤ N ∧ i = .int .i64 y ∧ Hid (AllJ J C D W zs y C' D' wr)) (fun i _ => N - (intOf i).toNat)
      case atStart => exact ⟨0, C, D, Nat.zero_le _, rfl, H0.out⟩
      case round =>
        obtain ⟨y, C', D', hy, rfl, HH⟩ := hrel
        by_cases hlt : y < N
        · have hlt' : (y : Int) < (N : Int) := by omega
          obtain ⟨ct, ck, cf⟩ := HK.out wr HH.out.2.2.2.1
          have hE := HE.out y hlt
          have C1 := HC.out (y : Int) wr
          rw [hE] at C1
          clear hE
          gi_wp2
          refine ⟨trivial, rfl, (callsIn_wide.2 C1).mono ?_⟩
          rintro e w2 ⟨v, n, rfl, hv⟩
          clear C1 ct ck cf
          have HV : Hid (Tl wr w2 v (tpA kind F (N : Int) (y : Int)) n) := hv
          have Hx : Hid (zs[y]? = some y) := HZ.out y hlt
          obtain ⟨hh1, hh2, hh3, hh4, hh5, hh6⟩ := HH.out
          have kc : KeptIn C' wr w2 := KeptIn.of_qP hv.q hh2
          have f2 : Fits C' w2 := fun b hb => Nat.lt_of_lt_of_le (hh2 b hb) hv.q.1.size
          have s2 : Same D W w2 := hh4.trans (Same.of_q hv.q (fun _ => False)) (fun b hb => hb.elim)
          obtain ⟨fn, tmps, assign, body, hy', hR⟩ := HY.out C' D' (zs.take y) y (zs.drop (y + 1)) w2 #[.int .i64 (y : Int), v] (fun b => OnB v b) (list_atK Hx.out) (hJ _ _ _ _ _ hh1 kc) f2 hh3 ⟨v, rfl, hv.tsl, fun b => Iff.rfl⟩ (fun b hb => by
            have h1 := hv.onb hb
            have h2 := hv.tsl.lt hb
            have h3 := hh4.size
            exact ⟨fun hd => by have := hh2 b (hh3 b hd); omega, by omega, h2⟩)
          have HS2 : Hid (Same D W w2 ∧ wr.heap.size ≤ w2.heap.size) := ⟨s2, hv.q.1.size⟩
          have HON : Hid (∀ b, OnB v b → W.heap.size ≤ b) := fun b hb => by have := hv.onb hb; have := hh4.size; omega
          clear hv hh1 hh2 hh3 hh4 hh5 hh6 kc f2 s2
          gi_wp2
          refine ⟨rfl, hR.mono ?_⟩
          rintro e W3 ⟨C3, D3, f3, d3, s3, c3, k3, hcase⟩
          have HN : Hid (Fits C3 W3 ∧ (∀ b, D3 b → C3 b) ∧ Same D W W3 ∧ (∀ b, C3 b → C b ∨ W.heap.size ≤ b) ∧ (∀ b, D3 b → D b ∨ W.heap.size ≤ b)) := by
            obtain ⟨hh1, hh2, hh3, hh4, hh5, hh6⟩ := HH.out
            have hsz := HS2.out.1.size
            refine ⟨f3, d3, HS2.out.1.trans s3 hh6, fun b hb => ?_, fun b hb => ?_⟩
            · rcases c3 b hb with h | h | h
              · exact hh5 b h
              · exact Or.inr (HON.out b h)
              · exact Or.inr (by omega)
            · rcases k3 b hb with h | h
              · exact hh6 b h
              · exact Or.inr (by omega)
          clear f3 d3 s3 c3 k3 HH
          rcases hcase with ⟨rfl, hJ3⟩ | ⟨rfl, hJx3⟩
          · have HJ : Hid (J C3 D3 (zs.take (y + 1)) W3) := by show J C3 D3 (zs.take (y + 1)) W3; rw [List.take_add_one, Hx.out]; exact hJ3
            clear hJ3 hy' hR
            have hyb : (y : Int) < 100000 := by omega
            gi_wp2
            go_roundw
            case rel => exact ⟨y + 1, C3, D3, by omega, by simp, HJ.out, HN.out⟩
            case measure => simp [intOf]; omega
          · have HJ : Hid (Jx C3 D3 (zs.take (y + 1)) W3) := by show Jx C3 D3 (zs.take (y + 1)) W3; rw [List.take_add_one, Hx.out]; exact hJx3
            clear hJx3 hy' hR
            gi_wp2
            refine bodyPost_ret (results_none rfl _ _ _) rfl ?_
            exact ⟨⟨_, rfl⟩, C3, D3, HN.out.1, HN.out.2.1, HN.out.2.2.1, HN.out.2.2.2.1, HN.out.2.2.2.2, Or.inr ⟨_, List.take_prefix _ _, HJ.out⟩⟩
        · obtain rfl : y = N := by omega
          gi_wp2
          go_end0
          have := HH.out
          unfold AllJ at this
          rw [HZL.out] at this
          obtain ⟨hh1, hh2, hh3, hh4, hh5, hh6⟩ := this
          exact ⟨⟨_, rfl⟩, C', D', hh2, hh3, hh4, hh5, hh6, Or.inl hh1⟩
    · have hz : allX kind F T = [] := by unfold allX; rw [if_neg he]
      rw [hz]
      have H0 : Hid (J C D [] W) := h0
      have he2 : (tapE kind F T 0 != 0) = true := by simp [he]
      have C1 := HC.out 0 W
      generalize tapE kind F T 0 = E at *
      clear hY h0 hz
      refine callsIn_of_wp Try.func20 rfl trivial ?_ rfl
      simp only [Try.ntmps20, List.size_toArray, List.length_cons, List.length_nil, Nat.reduceAdd, Nat.reduceSub, Array.replicate_succ, Array.replicate_zero, List.push_toArray, List.append_toArray, List.nil_append, List.cons_append]
      gi_wp2
      gi_loopw [9] (fun i wr => i = .int .i64 0 ∧ wr = W) (fun i _ => 0)
      case atStart => exact ⟨rfl, rfl⟩
      case round =>
        obtain ⟨rfl, rfl⟩ := hrel
        gi_wp2
        refine ⟨trivial, rfl, (callsIn_wide.2 C1).mono ?_⟩
        rintro e w2 ⟨v, n, rfl, hv⟩
        have HE : Hid (Fits C w2 ∧ (∀ b, D b → C b) ∧ Same D wr w2 ∧ (∀ b, C b → C b ∨ wr.heap.size ≤ b) ∧ (∀ b, D b → D b ∨ wr.heap.size ≤ b) ∧ J C D [] w2) := ⟨fun b hb => Nat.lt_of_lt_of_le (hC b hb) hv.q.1.size, hD, Same.of_q hv.q _, fun b hb => Or.inl hb, fun b hb => Or.inl hb, hJ _ _ _ _ _ H0.out (KeptIn.of_qP hv.q hC)⟩
        clear hv C1 hC hD
        gi_wp2
        refine ⟨fun _ h => (by cases h), ?_⟩
        gi_wp2
        refine bodyPost_ret (results_none rfl _ _ _) rfl ?_
        exact ⟨⟨_, rfl⟩, C, D, HE.out.1, HE.out.2.1, HE.out.2.2.1, HE.out.2.2.2.1, HE.out.2.2.2.2.1, Or.inl HE.out.2.2.2.2.2⟩
  · have hz : allX kind F T = [] := by
      unfold allX
      split
      · rw [show T.toNat = 0 by omega]; rfl
      · rfl
    rw [hz]
    clear hY hz
    have hT' : ¬ (0 : Int) < T := hT
    refine callsIn_of_wp Try.func20 rfl trivial ?_ rfl
    simp only [Try.ntmps20, List.size_toArray, List.length_cons, List.length_nil, Nat.reduceAdd, Nat.reduceSub, Array.replicate_succ, Array.replicate_zero, List.push_toArray, List.append_toArray, List.nil_append, List.cons_append]
    gi_wp2
    gi_loopw [9] (fun i wr => i = .int .i64 0 ∧ wr = W) (fun i _ => 0)
    case atStart => exact ⟨rfl, rfl⟩
    case round =>
      obtain ⟨rfl, rfl⟩ := hrel
      gi_wp2
      go_end0
      exact ⟨⟨_, rfl⟩, C, D, hC, hD, Same.refl _ _, fun b hb => Or.inl hb, fun b hb => Or.inl hb, Or.inl h0⟩
/-- The maker: a function and its three boxes. -/
def MadeT (kind F T : Int) (w : World) (e : Ending) (w' : World) : Prop :=
  e = .returned (.func (.func 20) #[] #[.pointer (some ⟨w.heap.size + 1 + 1, 0, none⟩), .pointer (some ⟨w.heap.size, 0, none⟩), .pointer (some ⟨w.heap.size + 1, 0, none⟩)]) ∧ Q w w' ∧ w'.heap.size = w.heap.size + 3 ∧ w'.cell? ⟨w.heap.size, 0, none⟩ = some (.int .i64 kind) ∧ w'.cell? ⟨w.heap.size + 1, 0, none⟩ = some (.int .i64 F) ∧ w'.cell? ⟨w.heap.size + 1 + 1, 0, none⟩ = some (.int .i64 T)
set_option maxHeartbeats 2000000 in
set_option maxRecDepth 100000 in
theorem all_any (kind F T : Int) (w : World) : Calls Try.prog 6 #[.int .i64 kind, .int .i64 F, .int .i64 T] w (MadeT kind F T w) := by
  go_enter Try.func6, Try.ntmps6
  go_wp2_with fail
  go_ret
  exact ⟨rfl, (((Q.refl w).cells _ _).cells _ _).cells _ _, by simp, by simp [go_sem], by simp [go_sem], by simp [go_sem]⟩
end Go.Proofs.Ytdbbpmadkhedlaa
/- The statement KernelAll: its walk. -/
namespace Go.Proofs.Ytdbbpmadkhedlaa
open Go.RowKit Go.Shelf
set_option linter.unusedVariables false
set_option linter.unusedSimpArgs false
attribute [local go_sem] Oper.semAt_some

theorem inBlock_leave {id : Nat} {K : Exit → Act → World → Prop} {e : Exit} {a : Act} {w : World} (he : e = .normal ∨ e = .exit id) (h : K .normal a w) : Exit.inBlock id K e a w := by
  rcases he with rfl | rfl
  · exact h
  · simpa [Exit.inBlock] using h
/-- What holds between two rounds: a box counts them. -/
def KI (N0 bn : Nat) (w6 : World) (C' D' : Nat → Prop) (pre : List Nat) (W : World) : Prop :=
  C' = (fun b => b < N0) ∧ D' = (fun b => b = bn) ∧ N0 ≤ W.heap.size ∧ VR W bn 1 (fun _ => .int .i64 (pre.length : Int)) ∧ KeptIn (fun b => b < N0 ∧ b ≠ bn) w6 W
theorem KI.stable (N0 bn : Nat) (w6 : World) (h : bn < N0) : Stable (KI N0 bn w6) := by
  rintro C D pre W W' ⟨rfl, rfl, h1, h2, h3⟩ hk
  exact ⟨rfl, rfl, Nat.le_trans h1 hk.size, h2.kept hk h, h3.trans (hk.mono fun b hb => hb.1)⟩
/-- What holds behind the loop. -/
def KR (id N0 bn : Nat) (Pst : World → Prop) (w6 : World) (a : Act) (e : Exit) (a' : Act) (W : World) : Prop :=
  (e = .normal ∨ e = .exit id) ∧ Pst W ∧ ∃ E, N0 ≤ E ∧ a' = { a with defers := { target := .collected E, args := #[] } :: a.defers } ∧ W.heap[E]? = some (.deferred (some [])) ∧ Same (fun b => b = bn) w6 W
theorem wpIn_kr {F : Fence} {n : Nat} {P : Program} {c : Code} {a : Act} {w : World} {Q' : Exit → Act → World → Prop} (id N0 bn : Nat) (Pst : World → Prop) (w6 : World) (h : c.wpIn F n P (KR id N0 bn Pst w6 a) a w) (k : ∀ e a' W, KR id N0 bn Pst w6 a e a' W → Q' e a' W) : c.wpIn F n P Q' a w := wpIn_mono h k
theorem allX_at {kind F T : Int} {pre rest : List Nat} {x : Nat} (h : allX kind F T = pre ++ x :: rest) : tapE kind F T 0 = 0 ∧ pre.length = x ∧ (x : Int) < T := by
  unfold allX at h
  split at h
  · rename_i h0
    obtain ⟨h1, h2⟩ := range_at h
    exact ⟨h0, h1, by omega⟩
  · have := congrArg List.length h
    simp at this
set_option maxHeartbeats 4000000 in
set_option maxRecDepth 100000 in
theorem kall_walk (w : World) (kind F T stop : Int) : Calls Try.prog 3 #[.int .i64 kind, .int .i64 F, .int .i64 T, .int .i64 stop] w fun e w' => e = .returned (.bool true) ∧ Q w w' := by
  obtain ⟨w1, hw1⟩ : ∃ w1, ((((w.alloc (.cells #[.int .i64 kind] 3)).alloc (.cells #[.int .i64 F] 3)).alloc (.cells #[.int .i64 T] 3)).alloc (.cells #[.int .i64 stop] 3)).alloc (.cells #[.bool false] 4) = w1 := ⟨_, rfl⟩
  have q1 : Q w w1 := by rw [← hw1]; exact (((((Q.refl w).cells _ _).cells _ _).cells _ _).cells _ _).cells _ _
  obtain ⟨B, hB⟩ : ∃ B, w.heap.size = B := ⟨_, rfl⟩
  have s1 : w1.heap.size = B + 5 := by rw [← hw1, ← hB]; simp
  have c0 : w1.cell? ⟨B, 0, none⟩ = some (.int .i64 kind) := by rw [← hw1, ← hB]; simp [go_sem]
  have c1 : w1.cell? ⟨B + 1, 0, none⟩ = some (.int .i64 F) := by rw [← hw1, ← hB]; simp [go_sem]
  have c2 : w1.cell? ⟨B + 1 + 1, 0, none⟩ = some (.int .i64 T) := by rw [← hw1, ← hB]; simp [go_sem]
  have c3 : w1.cell? ⟨B + 1 + 1 + 1, 0, none⟩ = some (.int .i64 stop) := by rw [← hw1, ← hB]; simp [go_sem]
  have c4 : w1.cell? ⟨B + 1 + 1 + 1 + 1, 0, none⟩ = some (.bool false) := by rw [← hw1, ← hB]; simp [go_sem]
  have c5 : ∀ j, w1.frozen? ⟨B + 1 + 1 + 1 + 1, j, none⟩ = false := fun j => by rw [← hw1, ← hB]; simp [go_sem]
  have HQ1 : Hid (Q w w1 ∧ w1.heap.size = B + 5 ∧ w.heap.size = B) := ⟨q1, s1, hB⟩
  clear q1 s1
  refine (callsIn_wide (n := 0)).1 (callsIn_of_wp_marks Try.func3 rfl trivial ?_ rfl)
  simp only [Try.ntmps3, List.size_toArray, List.length_cons, List.length_nil, Nat.reduceAdd, Nat.reduceSub, Array.replicate_succ, Array.replicate_zero, List.push_toArray, List.append_toArray, List.nil_append, List.cons_append]
  gi_wp2
  refine ⟨trivial, rfl, (callsIn_wide.2 (known9_any _)).mono ?_⟩
  rintro e w2 ⟨rfl, q2⟩
  have HQ2 : Hid (Q w1 w2) := q2
  have d0 := q2.cell c0
  have d1 := q2.cell c1
  have d2 := q2.cell c2
  have d3 := q2.cell c3
  have d4 := q2.cell c4
  have d5 : ∀ j, w2.frozen? ⟨B + 1 + 1 + 1 + 1, j, none⟩ = false := fun j => by rw [q2.2]; exact c5 j
  clear q2 c0 c1 c2 c3 c4 c5 hw1 hB
  by_cases hT : 200 < T
  · have d50 := d5 0
    have HE : Hid (Q w (w2.setCell ⟨B + 1 + 1 + 1 + 1, 0, none⟩ (.bool true))) := (HQ1.out.1.trans HQ2.out).set (by have := HQ1.out.2.2; show _ ≤ B + 1 + 1 + 1 + 1; omega) _
    have v0 : (w2.setCell ⟨B + 1 + 1 + 1 + 1, 0, none⟩ (.bool true)).cell? ⟨B + 1 + 1 + 1 + 1, 0, none⟩ = some (.bool true) := World.cell?_setCell_same _ _ _ d4
    gi_wp2
    exact ⟨.bool true, by simp [results, Try.results3, go_sem, v0], rfl, HE.out⟩
  gi_wp2
  refine ⟨trivial, rfl, (callsIn_wide.2 (all_any kind F T _)).mono ?_⟩
  rintro e w3 ⟨rfl, q3, s3, b0, b1, b2⟩
  have e0 := q3.cell d0
  have e1 := q3.cell d1
  have e2 := q3.cell d2
  gi_wp2
  refine ⟨trivial, rfl, (callsIn_wide.2 (rtaps_all kind F T 0 _)).mono ?_⟩
  rintro e w4 ⟨v4, n4, rfl, hv4⟩
  gi_wp2
  obtain ⟨bo, hbo⟩ : ∃ bo, w2.heap.size = bo := ⟨_, rfl⟩
  obtain ⟨bf, hbf⟩ : ∃ bf, w4.heap.size = bf := ⟨_, rfl⟩
  obtain ⟨E0, hE0⟩ : ∃ E0, tapE kind F T 0 = E0 := ⟨_, rfl⟩
  obtain ⟨w6, hw6⟩ : ∃ w6, (w4.alloc (.cells #[.int .i64 E0] 3)).alloc (.cells #[.int .i64 0] 3) = w6 := ⟨_, rfl⟩
  have q46 : Q w4 w6 := by rw [← hw6]; exact ((Q.refl w4).cells _ _).cells _ _
  have q36 : Q w3 w6 := hv4.q.trans q46
  have q26 : Q w2 w6 := q3.trans q36
  have s6 : w6.heap.size = bf + 2 := by rw [← hw6, ← hbf]; simp
  have hlt : B + 5 ≤ bo ∧ bo + 3 ≤ bf := by
    have h1 := HQ1.out.2.1
    have h2 := HQ2.out.1.size
    have h3 := hv4.q.1.size
    omega
  have HC : Hid ((w6.cell? ⟨B, 0, none⟩ = some (.int .i64 kind) ∧ w6.cell? ⟨B + 1, 0, none⟩ = some (.int .i64 F) ∧ w6.cell? ⟨B + 1 + 1, 0, none⟩ = some (.int .i64 T) ∧ w6.cell? ⟨B + 1 + 1 + 1, 0, none⟩ = some (.int .i64 stop)) ∧ (VR w6 (B + 1 + 1 + 1 + 1) 1 (fun _ => .bool false)) ∧ (w6.cell? ⟨bo, 0, none⟩ = some (.int .i64 kind) ∧ w6.cell? ⟨bo + 1, 0, none⟩ = some (.int .i64 F) ∧ w6.cell? ⟨bo + 1 + 1, 0, none⟩ = some (.int .i64 T)) ∧ w6.cell? ⟨bf, 0, none⟩ = some (.int .i64 E0) ∧ VR w6 (bf + 1) 1 (fun _ => .int .i64 0)) := by
    refine ⟨⟨q26.cell d0, q26.cell d1, q26.cell d2, q26.cell d3⟩, ⟨fun i hi => ?_, fun j => ?_⟩, ⟨?_, ?_, ?_⟩, ?_, ⟨fun i hi => ?_, fun j => ?_⟩⟩
    · obtain rfl : i = 0 := by omega
      exact q26.cell d4
    · rw [q26.2]; exact d5 j
    · rw [← hbo]; exact q36.cell b0
    · rw [← hbo]; exact q36.cell b1
    · rw [← hbo]; exact q36.cell b2
    · rw [← hw6, ← hbf]; simp [go_sem]
    · obtain rfl : i = 0 := by omega
      rw [← hw6, ← hbf]; simp [go_sem]
    · rw [← hw6, ← hbf]; simp [go_sem]
  have HQ6 : Hid (Q w w6) := (HQ1.out.1.trans HQ2.out).trans q26
  have HE0 : Hid (tapE kind F T 0 = E0) := hE0
  have HLT : Hid (B + 5 ≤ bo ∧ bo + 3 ≤ bf ∧ w.heap.size = B ∧ w6.heap.size = bf + 2) := ⟨hlt.1, hlt.2, HQ1.out.2.2, s6⟩
  rw [hbo, hbf, hE0, hw6]
  clear q46 q36 q26 q3 hv4 s3 b0 b1 b2 e0 e1 e2 d0 d1 d2 d3 d4 d5 hlt hw6 hbo hbf hE0 HQ2 HQ1 s6
  refine wpIn_kr 0 (bf + 2) (bf + 1) (fun _ => True) w6 ?_ ?_
  · have hlt := HLT.out
    refine range_it (P := Try.prog) (gf := 20) (lb := #[.pointer (some ⟨bo + 1 + 1, 0, none⟩), .pointer (some ⟨bo, 0, none⟩), .pointer (some ⟨bo + 1, 0, none⟩)]) rfl (fun args w => by kernel_rfl) (all_it (bo + 1 + 1) bo (bo + 1) kind F T (by omega)) ?pre ?rd ?ps
      (KI (bf + 2) (bf + 1) w6) (fun c _ _ _ _ => c = .exit 0) (KI.stable _ _ _ (by omega)) (fun c C D pre W W' h _ => h) (fun b => b < bf + 2) (fun b => b = bf + 1) ?fit ?dc ?disj ?start ?round ?done ?stop
    case pre =>
      intro Wr hk
      exact ⟨hk.one (show bo + 1 + 1 < w6.heap.size by omega) HC.out.2.2.1.2.2, hk.one (show bo < w6.heap.size by omega) HC.out.2.2.1.1, hk.one (show bo + 1 < w6.heap.size by omega) HC.out.2.2.1.2.1⟩
    case rd => rintro b (rfl | rfl | rfl) <;> omega
    case ps => rintro x args B W ⟨v, rfl, _⟩; rfl
    case fit => intro b hb; have hb : b < bf + 2 := hb; omega
    case dc => rintro b rfl; show bf + 1 < bf + 2; omega
    case disj => rintro b (rfl | rfl | rfl) h <;> omega
    case start => exact ⟨rfl, rfl, by omega, HC.out.2.2.2.2, KeptIn.reflP _ _⟩
    case done =>
      rintro E C' D' W hE hCE hd hf hdc hS _ _ hI
      exact ⟨Or.inl rfl, trivial, E, by omega, rfl, hd, hS⟩
    case stop =>
      rintro E c C' D' pre W hE hCE hd hf hdc hS _ _ _ rfl
      refine wpIn_exit ?_
      exact ⟨Or.inr rfl, trivial, E, by omega, rfl, hd, hS⟩
    case round =>
      rintro l C' D' pre x rest W args Bx hl hlw hnC hnB hx ⟨rfl, rfl, hs, hV, hK⟩ hf hdc ⟨v, rfl, hv, hB⟩ hBB hfine
      obtain ⟨x0, x1, x2⟩ := allX_at hx
      have HX : Hid (pre.length = x ∧ (x : Int) < T ∧ tapE kind F T 0 = 0) := ⟨x1, x2, x0⟩
      have hx : E0 = 0 := by rw [← HE0.out]; exact x0
      subst hx
      have HV : Hid (VR W (bf + 1) 1 (fun _ => .int .i64 (pre.length : Int)) ∧ KeptIn (fun b => b < bf + 2 ∧ b ≠ bf + 1) w6 W ∧ TSl W v (tpA kind F T (x : Int)) ∧ ∀ b, OnB v b → b ≠ l) := ⟨hV, hK, hv, fun b hb e => hnB ((hB l).2 (e ▸ hb))⟩
      clear hV hK hv hB x0 x1 hfine hBB hnB
      gi_wp2
      refine ⟨Q.refl W, ?_⟩
      intro W2 hs2 hk2
      have k6 : KeptIn (fun b => b < bf + 2 ∧ b ≠ bf + 1) w6 W2 := HV.out.2.1.trans (hk2.mono fun b hb e => by subst e; have := hb.1; omega)
      have v2 : VR W2 (bf + 1) 1 (fun _ => .int .i64 (pre.length : Int)) := HV.out.1.kept hk2 (by omega)
      have t2 : TSl W2 v (tpA kind F T (x : Int)) := HV.out.2.2.1.kept hk2 HV.out.2.2.2
      have b0 := k6.one (b := B) ⟨by omega, by omega⟩ HC.out.1.1
      have b1 := k6.one (b := B + 1) ⟨by omega, by omega⟩ HC.out.1.2.1
      have b2 := k6.one (b := B + 1 + 1) ⟨by omega, by omega⟩ HC.out.1.2.2.1
      have hsW : bf + 2 ≤ W2.heap.size := Nat.le_trans hs hk2.size
      have HW2 : Hid (KeptIn (fun b => b < bf + 2 ∧ b ≠ bf + 1) w6 W2 ∧ VR W2 (bf + 1) 1 (fun _ => .int .i64 (pre.length : Int)) ∧ TSl W2 v (tpA kind F T (x : Int)) ∧ bf + 2 ≤ W2.heap.size) := ⟨k6, v2, t2, hsW⟩
      clear k6 v2 t2 hs2 hk2 HV hsW
      have CR := rtaps_all kind F T (x : Int) W2
      rw [tapE_in HX.out.2.2 (by omega) HX.out.2.1] at CR
      gi_wp2
      refine ⟨trivial, rfl, (CallsIn.inRound l (callsIn_wide.2 CR)).mono ?_⟩
      rintro e W3 ⟨u, m, rfl, hu⟩
      have HW3 : Hid (Q W2 W3 ∧ TSl W3 u (tpA kind F T (x : Int)) ∧ TSl W3 v (tpA kind F T (x : Int))) := ⟨hu.q, hu.tsl, HW2.out.2.2.1.next hu.q⟩
      have b3 : W3.cell? ⟨bf, 0, none⟩ = some (.int .i64 0) := hu.q.cell (HW2.out.1.one (b := bf) ⟨by omega, by omega⟩ HC.out.2.2.2.1)
      have b4 : W3.cell? ⟨bf + 1, 0, none⟩ = some (.int .i64 (x : Int)) := by
        have := hu.q.cell (HW2.out.2.1.cell 0 (by omega))
        rw [HX.out.1] at this
        exact this
      clear CR hu b0 b1 b2
      gi_wp2
      refine ⟨trivial, rfl, (CallsIn.inRound l (callsIn_wide.2 (same_any v u _ _ W3 HW3.out.2.2 HW3.out.2.1 (by have := tpA_len kind F T (x : Int); omega) (by have := tpA_len kind F T (x : Int); omega)))).mono ?_⟩
      rintro e W4 ⟨he, q4⟩
      rw [decide_eq_true rfl] at he
      subst he
      have b0 : W4.cell? ⟨B + 1 + 1 + 1, 0, none⟩ = some (.int .i64 stop) := (HW3.out.1.trans q4).cell (HW2.out.1.one (b := B + 1 + 1 + 1) ⟨by omega, by omega⟩ HC.out.1.2.2.2)
      have b5 := q4.cell b4
      have b6 : W4.frozen? ⟨bf + 1, 0, none⟩ = false := by rw [q4.2, HW3.out.1.2]; exact HW2.out.2.1.free 0
      have hxT := HX.out.2.1
      have hv1 : wrap64 ((x : Int) + 1) = (x : Int) + 1 := Go.IntWalk.wrap64_in _ (by omega)
      obtain ⟨W5, hW5⟩ : ∃ W5, W4.setCell ⟨bf + 1, 0, none⟩ (.int .i64 ((x : Int) + 1)) = W5 := ⟨_, rfl⟩
      have HEND : Hid (Left (KI (bf + 2) (bf + 1) w6) (fun b => b < bf + 2) (fun b => b = bf + 1) Bx W.heap.size (pre ++ [x]) W2 W5) := by
        have q24 := HW3.out.1.trans q4
        have hs25 : Same (fun b => b = bf + 1) W2 W5 := by
          rw [← hW5]
          exact (Same.of_q q24 _).trans (same_setP (D := fun b => b = bf + 1) _ _ _ _ rfl) (fun b hb => Or.inl hb)
        have v4 : VR W4 (bf + 1) 1 (fun _ => .int .i64 (pre.length : Int)) := HW2.out.2.1.next q24
        have v5 : VR W5 (bf + 1) 1 (fun _ => .int .i64 ((pre ++ [x]).length : Int)) := by
          rw [← hW5]
          refine v4.put (i := 0) (by omega) (by rw [List.length_append, HX.out.1]; simp) (fun j hj hne => by omega)
        have k25 : KeptIn (fun b => b < bf + 2 ∧ b ≠ bf + 1) W2 W5 := hs25.kept fun b hb => ⟨by have := hb.1; have := HW2.out.2.2.2; omega, hb.2⟩
        have hz : bf + 2 ≤ W5.heap.size := Nat.le_trans HW2.out.2.2.2 hs25.size
        exact ⟨_, _, fun b hb => by have hb : b < bf + 2 := hb; omega, fun b hb => by have hb : b = bf + 1 := hb; show b < bf + 2; omega, hs25, fun b hb => Or.inl hb, fun b hb => Or.inl hb, rfl, rfl, hz, v5, HW2.out.1.trans k25⟩
      clear q4 b4
      have b7 : W5.cell? ⟨bf + 1, 0, none⟩ = some (.int .i64 ((x : Int) + 1)) := by rw [← hW5]; exact World.cell?_setCell_same _ _ _ b5
      have b8 : W5.cell? ⟨B + 1 + 1 + 1, 0, none⟩ = some (.int .i64 stop) := by rw [← hW5]; exact (World.cell?_setCell_other _ _ _ _ (fun e => by injection e with e _; omega)).trans b0
      by_cases hst : (x : Int) + 1 = stop
      · have st1 : ((x : Int) + 1 == stop) = true := by simp [hst]
        clear hst
        gi_wp2
        obtain ⟨C5, D5, g1, g2, g3, g4, g5, g6⟩ := HEND.out
        exact ⟨C5, D5, g1, g2, g3, g4, g5, rfl⟩
      · have st1 : ((x : Int) + 1 == stop) = false := by simp [hst]
        clear hst
        gi_wp2
        exact HEND.out
  · rintro e a' W ⟨he, -, E, hE, rfl, hd, hS⟩
    refine inBlock_leave he ?_
    clear he
    have kS : KeptIn (fun b => b < bf + 2 ∧ b ≠ bf + 1) w6 W := hS.kept fun b hb => ⟨by have := HLT.out.2.2.2; omega, hb.2⟩
    have hqW : Q w W := HQ6.out.qb.trans' hS (fun b hb => by have := HLT.out; omega)
    obtain ⟨bk, hbk⟩ : ∃ bk, W.heap.size = bk := ⟨_, rfl⟩
    obtain ⟨w7, hw7⟩ : ∃ w7, W.alloc (.cells #[.int .i64 0] 3) = w7 := ⟨_, rfl⟩
    have q7 : Q W w7 := by rw [← hw7]; exact (Q.refl W).cells _ _
    have k7 : KeptIn (fun b => b < bf + 2 ∧ b ≠ bf + 1) w6 w7 := kS.trans (KeptIn.of_qP q7 (fun b hb => by have := hS.size; have := HLT.out.2.2.2; omega))
    have hEl : E < bk := by rw [← hbk]; exact (Array.getElem?_eq_some_iff.1 hd).1
    have hd7 : w7.heap[E]? = some (.deferred (some [])) := (q7.1.block E (by omega)).trans hd
    have v7 : VR w7 bk 1 (fun _ => .int .i64 0) := by
      refine ⟨fun i hi => ?_, fun j => ?_⟩
      · obtain rfl : i = 0 := by omega
        rw [← hw7, ← hbk]; simp [go_sem]
      · rw [← hw7, ← hbk]; simp [go_sem]
    have hlt := HLT.out
    have hC7 : (w7.cell? ⟨B, 0, none⟩ = some (.int .i64 kind) ∧ w7.cell? ⟨B + 1, 0, none⟩ = some (.int .i64 F) ∧ w7.cell? ⟨B + 1 + 1, 0, none⟩ = some (.int .i64 T)) ∧ (VR w7 (B + 1 + 1 + 1 + 1) 1 (fun _ => .bool false)) ∧ (w7.cell? ⟨bo, 0, none⟩ = some (.int .i64 kind) ∧ w7.cell? ⟨bo + 1, 0, none⟩ = some (.int .i64 F) ∧ w7.cell? ⟨bo + 1 + 1, 0, none⟩ = some (.int .i64 T)) ∧ w7.cell? ⟨bf, 0, none⟩ = some (.int .i64 E0) ∧ VR w7 bk 1 (fun _ => .int .i64 0) :=
      ⟨⟨k7.one (b := B) ⟨by omega, by omega⟩ HC.out.1.1, k7.one (b := B + 1) ⟨by omega, by omega⟩ HC.out.1.2.1, k7.one (b := B + 1 + 1) ⟨by omega, by omega⟩ HC.out.1.2.2.1⟩, HC.out.2.1.kept k7 ⟨by omega, by omega⟩, ⟨k7.one (b := bo) ⟨by omega, by omega⟩ HC.out.2.2.1.1, k7.one (b := bo + 1) ⟨by omega, by omega⟩ HC.out.2.2.1.2.1, k7.one (b := bo + 1 + 1) ⟨by omega, by omega⟩ HC.out.2.2.1.2.2⟩, k7.one (b := bf) ⟨by omega, by omega⟩ HC.out.2.2.2.1, v7⟩
    replace HC : Hid _ := hC7
    have hs7 : w7.heap.size = bk + 1 := by rw [← hw7, ← hbk]; simp
    have HE : Hid (w7.heap[E]? = some (.deferred (some [])) ∧ E < bk ∧ bf + 2 ≤ E ∧ Q w w7 ∧ w7.heap.size = bk + 1 ∧ bf + 2 ≤ bk) := ⟨hd7, hEl, hE, hqW.trans q7, hs7, by have := hS.size; omega⟩
    clear hC7 hd7 hEl v7 k7 q7 hqW kS hS hd hE HQ6 hs7
    have HW7 : Hid (W.alloc (.cells #[.int .i64 0] 3) = w7 ∧ W.heap.size = bk) := ⟨hw7, hbk⟩
    clear hw7 hbk
    gi_wp2
    rw [HW7.out.1, HW7.out.2]
    refine wpIn_kr 2 (bk + 1) bk (fun W => VR W bk 1 (fun _ => .int .i64 ((allX kind F T).length : Int))) w7 ?_ ?_
    · have he7 := HE.out
      refine range_it (P := Try.prog) (gf := 20) (lb := #[.pointer (some ⟨bo + 1 + 1, 0, none⟩), .pointer (some ⟨bo, 0, none⟩), .pointer (some ⟨bo + 1, 0, none⟩)]) rfl (fun args w => by kernel_rfl) (all_it (bo + 1 + 1) bo (bo + 1) kind F T (by omega)) ?pre ?rd ?ps
        (KI (bk + 1) bk w7) (fun _ _ _ _ _ => False) (KI.stable _ _ _ (by omega)) (fun c C D pre W W' h _ => h) (fun b => b < bk + 1) (fun b => b = bk) ?fit ?dc ?disj ?start ?round ?done ?stop
      case pre =>
        intro Wr hk
        exact ⟨hk.one (show bo + 1 + 1 < w7.heap.size by omega) HC.out.2.2.1.2.2, hk.one (show bo < w7.heap.size by omega) HC.out.2.2.1.1, hk.one (show bo + 1 < w7.heap.size by omega) HC.out.2.2.1.2.1⟩
      case rd => rintro b (rfl | rfl | rfl) <;> omega
      case ps => rintro x args B W ⟨v, rfl, _⟩; rfl
      case fit => intro b hb; have hb : b < bk + 1 := hb; omega
      case dc => rintro b rfl; show b < b + 1; omega
      case disj => rintro b (rfl | rfl | rfl) h <;> omega
      case start => exact ⟨rfl, rfl, by omega, HC.out.2.2.2.2, KeptIn.reflP _ _⟩
      case done =>
        rintro E2 C' D' W2 hE2 hCE hd hf hdc hS _ _ hI
        exact ⟨Or.inl rfl, hI.2.2.2.1, E2, by omega, rfl, hd, hS⟩
      case stop =>
        rintro E2 c C' D' pre W2 hE2 hCE hd hf hdc hS _ _ _ h
        exact h.elim
      case round =>
        rintro l C' D' pre x rest Wr args Bx hl hlw hnC hnB hx ⟨rfl, rfl, hs, hV, hK⟩ hf hdc ⟨v, rfl, hv, hB⟩ hBB hfine
        obtain ⟨x0, x1, x2⟩ := allX_at hx
        have HX : Hid (pre.length = x ∧ (x : Int) < T ∧ tapE kind F T 0 = 0) := ⟨x1, x2, x0⟩
        have HV : Hid (VR Wr bk 1 (fun _ => .int .i64 (pre.length : Int)) ∧ KeptIn (fun b => b < bk + 1 ∧ b ≠ bk) w7 Wr ∧ TSl Wr v (tpA kind F T (x : Int)) ∧ ∀ b, OnB v b → b ≠ l) := ⟨hV, hK, hv, fun b hb e => hnB ((hB l).2 (e ▸ hb))⟩
        clear hV hK hv hB x0 x1 hfine hBB hnB hx
        gi_wp2
        refine ⟨Q.refl Wr, ?_⟩
        intro W2 hs2 hk2
        have k6 : KeptIn (fun b => b < bk + 1 ∧ b ≠ bk) w7 W2 := HV.out.2.1.trans (hk2.mono fun b hb e => by subst e; have := hb.1; omega)
        have v2 : VR W2 bk 1 (fun _ => .int .i64 (pre.length : Int)) := HV.out.1.kept hk2 (by omega)
        have t2 : TSl W2 v (tpA kind F T (x : Int)) := HV.out.2.2.1.kept hk2 HV.out.2.2.2
        have b0 := k6.one (b := B) ⟨by omega, by omega⟩ HC.out.1.1
        have b1 := k6.one (b := B + 1) ⟨by omega, by omega⟩ HC.out.1.2.1
        have b2 := k6.one (b := B + 1 + 1) ⟨by omega, by omega⟩ HC.out.1.2.2
        have hsW : bk + 1 ≤ W2.heap.size := Nat.le_trans hs hk2.size
        have HW2 : Hid (KeptIn (fun b => b < bk + 1 ∧ b ≠ bk) w7 W2 ∧ VR W2 bk 1 (fun _ => .int .i64 (pre.length : Int)) ∧ TSl W2 v (tpA kind F T (x : Int)) ∧ bk + 1 ≤ W2.heap.size) := ⟨k6, v2, t2, hsW⟩
        clear k6 v2 t2 hs2 hk2 HV hsW he7
        have CR := rtaps_all kind F T (x : Int) W2
        gi_wp2
        refine ⟨trivial, rfl, (CallsIn.inRound l (callsIn_wide.2 CR)).mono ?_⟩
        rintro e W3 ⟨u, m, rfl, hu⟩
        have HW3 : Hid (Q W2 W3 ∧ TSl W3 u (tpA kind F T (x : Int)) ∧ TSl W3 v (tpA kind F T (x : Int))) := ⟨hu.q, hu.tsl, HW2.out.2.2.1.next hu.q⟩
        have b4 : W3.cell? ⟨bk, 0, none⟩ = some (.int .i64 (x : Int)) := by
          have := hu.q.cell (HW2.out.2.1.cell 0 (by omega))
          rw [HX.out.1] at this
          exact this
        clear CR hu b0 b1 b2
        gi_wp2
        refine ⟨trivial, rfl, (CallsIn.inRound l (callsIn_wide.2 (same_any v u _ _ W3 HW3.out.2.2 HW3.out.2.1 (by have := tpA_len kind F T (x : Int); omega) (by have := tpA_len kind F T (x : Int); omega)))).mono ?_⟩
        rintro e W4 ⟨he, q4⟩
        rw [decide_eq_true rfl] at he
        subst he
        have b5 := q4.cell b4
        have b6 : W4.frozen? ⟨bk, 0, none⟩ = false := by rw [q4.2, HW3.out.1.2]; exact HW2.out.2.1.free 0
        have hxT := HX.out.2.1
        have hv1 : wrap64 ((x : Int) + 1) = (x : Int) + 1 := Go.IntWalk.wrap64_in _ (by omega)
        obtain ⟨W5, hW5⟩ : ∃ W5, W4.setCell ⟨bk, 0, none⟩ (.int .i64 ((x : Int) + 1)) = W5 := ⟨_, rfl⟩
        have HEND : Hid (Left (KI (bk + 1) (bk) w7) (fun b => b < bk + 1) (fun b => b = bk) Bx Wr.heap.size (pre ++ [x]) W2 W5) := by
          have q24 := HW3.out.1.trans q4
          have hs25 : Same (fun b => b = bk) W2 W5 := by
            rw [← hW5]
            exact (Same.of_q q24 _).trans (same_setP (D := fun b => b = bk) _ _ _ _ rfl) (fun b hb => Or.inl hb)
          have v4 : VR W4 (bk) 1 (fun _ => .int .i64 (pre.length : Int)) := HW2.out.2.1.next q24
          have v5 : VR W5 (bk) 1 (fun _ => .int .i64 ((pre ++ [x]).length : Int)) := by
            rw [← hW5]
            refine v4.put (i := 0) (by omega) (by rw [List.length_append, HX.out.1]; simp) (fun j hj hne => by omega)
          have k25 : KeptIn (fun b => b < bk + 1 ∧ b ≠ bk) W2 W5 := hs25.kept fun b hb => ⟨by have := hb.1; have := HW2.out.2.2.2; omega, hb.2⟩
          have hz : bk + 1 ≤ W5.heap.size := Nat.le_trans HW2.out.2.2.2 hs25.size
          exact ⟨_, _, fun b hb => by have hb : b < bk + 1 := hb; omega, fun b hb => by have hb : b = bk := hb; show b < bk + 1; omega, hs25, fun b hb => Or.inl hb, fun b hb => Or.inl hb, rfl, rfl, hz, v5, HW2.out.1.trans k25⟩
        clear q4 b4
        gi_wp2
        exact HEND.out
    · rintro e a' W2 ⟨he, hcnt, E2, hE2, rfl, hd2, hS2⟩
      refine inBlock_leave he ?_
      clear he
      have he7 := HE.out
      have kS : KeptIn (fun b => b < bk + 1 ∧ b ≠ bk) w7 W2 := hS2.kept fun b hb => ⟨by have := hb.1; omega, hb.2⟩
      have z0 := kS.one (b := bf) ⟨by omega, by omega⟩ HC.out.2.2.2.1
      have z1 := kS.one (b := B + 1 + 1) ⟨by omega, by omega⟩ HC.out.1.2.2
      have z2 := hcnt.cell 0 (by omega)
      have hv := HC.out.2.1.kept kS ⟨by omega, by omega⟩
      have z3 := hv.cell 0 (by omega)
      have z4 := hv.free 0
      have hd1 : W2.heap[E]? = some (.deferred (some [])) := (hS2.block E (by omega) (by omega)).trans he7.1
      obtain ⟨W5, hW5⟩ : ∃ W5, W2.setCell ⟨B + 1 + 1 + 1 + 1, 0, none⟩ (.bool true) = W5 := ⟨_, rfl⟩
      have hn2 : B + 1 + 1 + 1 + 1 ≠ E2 := by omega
      have hn1 : B + 1 + 1 + 1 + 1 ≠ E := by omega
      have hdE2 : W5.heap[E2]? = some (.deferred (some [])) := by rw [← hW5, Below.heap_setCell _ _ _ _ (by exact hn2.symm)]; exact hd2
      have hdE1 : (W5.putObj E2 (.deferred none)).heap[E]? = some (.deferred (some [])) := by rw [World.putObj_heap_other (by omega), ← hW5, Below.heap_setCell _ _ _ _ (by exact hn1.symm)]; exact hd1
      have v0 : ((W5.putObj E2 (.deferred none)).putObj E (.deferred none)).cell? ⟨B + 1 + 1 + 1 + 1, 0, none⟩ = some (.bool true) := by rw [put_cell hn1, put_cell hn2, ← hW5]; exact World.cell?_setCell_same _ _ _ z3
      have HEND : Hid (Q w ((W5.putObj E2 (.deferred none)).putObj E (.deferred none))) := by
        have h1 : Qb w W2 := (he7.2.2.2.1).qb.trans' hS2 (fun b hb => by omega)
        have h2 : Qb w W5 := by rw [← hW5]; exact h1.set (by show _ ≤ B + 1 + 1 + 1 + 1; omega) _
        exact (h2.put (by omega) _).put (by omega) _
      have hlen : (E0 = 0 ∧ ((allX kind F T).length : Int) = T) ∨ (E0 ≠ 0 ∧ ((allX kind F T).length : Int) = 0) := by
        by_cases h0 : E0 = 0
        · left
          have h1 : tapE kind F T 0 = 0 := by rw [HE0.out, h0]
          obtain ⟨_, _, _, h2, _⟩ := tapE_ok h1
          refine ⟨h0, ?_⟩
          unfold allX
          rw [if_pos h1, List.length_range]
          exact h2
        · right
          have h1 : ¬ tapE kind F T 0 = 0 := by rw [HE0.out]; exact h0
          refine ⟨h0, ?_⟩
          unfold allX
          rw [if_neg h1]
          rfl
      generalize ((allX kind F T).length : Int) = nl at z2 hlen
      have HD : Hid (W5.heap[E2]? = some (.deferred (some [])) ∧ (W5.putObj E2 (.deferred none)).heap[E]? = some (.deferred (some [])) ∧ ((W5.putObj E2 (.deferred none)).putObj E (.deferred none)).cell? ⟨B + 1 + 1 + 1 + 1, 0, none⟩ = some (.bool true)) := ⟨hdE2, hdE1, v0⟩
      clear hv kS hS2 hd1 hd2 hcnt hn1 hn2 he7 hlt HC HLT HE HE0 hdE2 hdE1 v0
      rcases hlen with ⟨h0, hl⟩ | ⟨h0, hl⟩
      · subst h0
        rw [hl] at z2
        clear hl
        gi_wp2
        refine ⟨by simp, .inl ⟨_, _, rfl, run_takeDeferred HD.out.1, ?_⟩⟩
        refine ⟨by simp, .inl ⟨_, _, rfl, run_takeDeferred HD.out.2.1, ?_⟩⟩
        have v0 := HD.out.2.2
        exact ⟨.bool true, by simp [results, Try.results3, go_sem, v0], rfl, HEND.out⟩
      · rw [hl] at z2
        have h1 : (E0 != 0) = true := by simp [h0]
        clear hl h0
        gi_wp2
        refine ⟨by simp, .inl ⟨_, _, rfl, run_takeDeferred HD.out.1, ?_⟩⟩
        refine ⟨by simp, .inl ⟨_, _, rfl, run_takeDeferred HD.out.2.1, ?_⟩⟩
        have v0 := HD.out.2.2
        exact ⟨.bool true, by simp [results, Try.results3, go_sem, v0], rfl, HEND.out⟩
end Go.Proofs.Ytdbbpmadkhedlaa

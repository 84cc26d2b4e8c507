/- A line's taps, and what it makes of samples. -/
import Derived.Test.YtnlphjekillciaaG37c97c43
import Derived.Test.YtnlphjekillciaaG46b939bd
namespace Go.Proofs.Ytnlphjekillciaa
open Go.RowKit
set_option linter.unusedVariables false
set_option linter.unusedSimpArgs false

/-- Taps over m samples. -/
structure TOk (m : Nat) (L : List (Int × Int)) : Prop where
  one : 1 ≤ L.length
  few : L.length ≤ 64
  pl : ∀ e ∈ L, 0 ≤ e.1 ∧ e.1 < (m : Int)
  wt : ∀ e ∈ L, -268435456 ≤ e.2 ∧ e.2 ≤ 268435456
set_option maxHeartbeats 2000000 in
set_option maxRecDepth 100000 in
theorem line_tapsE (b g i N n n2 : Nat) (g1 g2 : Nat) (w : World) (hb : w.cell? ⟨b, 0, none⟩ = some (.slice (some ⟨g, 0, none⟩) N N)) (h1 : w.cell? ⟨g, i * 2, none⟩ = some (.slice (some ⟨g1, 0, none⟩) n n)) (h2 : w.cell? ⟨g, i * 2 + 1, none⟩ = some (.slice (some ⟨g2, 0, none⟩) n2 n2)) (hil : i < N) :
    Calls Try.prog 46 #[.int .i64 (i : Int), .pointer (some ⟨b, 0, none⟩)] w fun e w' => e = .returned (.agg #[.slice (some ⟨g1, 0, none⟩) n n, .slice (some ⟨g2, 0, none⟩) n2 n2]) ∧ Q w w' := by
  have hilz : (i : Int) < (N : Int) := by omega
  obtain ⟨w1, hw1⟩ : ∃ w1, w.alloc (.cells #[.slice none 0 0, .slice none 0 0] 88) = w1 := ⟨_, rfl⟩
  have q1 : Q w w1 := by rw [← hw1]; exact (Q.refl w).cells _ _
  have k0 : w1.cell? ⟨w.heap.size, 0, none⟩ = some (.slice none 0 0) := by rw [← hw1]; simp [go_sem]
  have k1 : w1.cell? ⟨w.heap.size, 1, none⟩ = some (.slice none 0 0) := by rw [← hw1]; simp [go_sem]
  have kf : ∀ j, w1.frozen? ⟨w.heap.size, j, none⟩ = false := fun j => by rw [← hw1]; simp [go_sem]
  have kf0 := kf 0
  have kf1 := kf 1
  have hb1 := q1.cell hb
  have h11 := q1.cell h1
  have h21 := q1.cell h2
  have v0 : ((w1.setCell ⟨w.heap.size, 0, none⟩ (.slice (some ⟨g1, 0, none⟩) n n)).setCell ⟨w.heap.size, 1, none⟩ (.slice (some ⟨g2, 0, none⟩) n2 n2)).cell? ⟨w.heap.size, 0, none⟩ = some (.slice (some ⟨g1, 0, none⟩) n n) := (World.cell?_setCell_other _ _ _ _ (fun e => by injection e with _ e; cases e)).trans (World.cell?_setCell_same _ _ _ k0)
  have v1 : ((w1.setCell ⟨w.heap.size, 0, none⟩ (.slice (some ⟨g1, 0, none⟩) n n)).setCell ⟨w.heap.size, 1, none⟩ (.slice (some ⟨g2, 0, none⟩) n2 n2)).cell? ⟨w.heap.size, 1, none⟩ = some (.slice (some ⟨g2, 0, none⟩) n2 n2) := World.cell?_setCell_same _ _ _ ((World.cell?_setCell_other _ _ _ _ (fun e => by injection e with _ e; cases e)).trans k1)
  have HQ : Hid (Q w ((w1.setCell ⟨w.heap.size, 0, none⟩ (.slice (some ⟨g1, 0, none⟩) n n)).setCell ⟨w.heap.size, 1, none⟩ (.slice (some ⟨g2, 0, none⟩) n2 n2))) := (q1.set (Nat.le_refl _) _).set (Nat.le_refl _) _
  clear kf q1 hb h1 h2
  go_enter Try.func46, Try.ntmps46
  go_wp2_with fail
  generalize (w1.setCell ⟨w.heap.size, 0, none⟩ (.slice (some ⟨g1, 0, none⟩) n n)).setCell ⟨w.heap.size, 1, none⟩ (.slice (some ⟨g2, 0, none⟩) n2 n2) = w9 at HQ v0 v1 ⊢
  exact bodyPost_ret (v := .agg #[.slice (some ⟨g1, 0, none⟩) n n, .slice (some ⟨g2, 0, none⟩) n2 n2]) (by simp [results, Try.results46, go_sem, v0, v1]) rfl ⟨rfl, HQ.out⟩
theorem line_taps (Ls : List (List (Int × Int))) (b g i : Nat) (L : List (Int × Int)) (w : World) (hb : w.cell? ⟨b, 0, none⟩ = some (.slice (some ⟨g, 0, none⟩) Ls.length Ls.length)) (hr : RowsV 0 w g Ls) (hi : Ls[i]? = some L) :
    Calls Try.prog 46 #[.int .i64 (i : Int), .pointer (some ⟨b, 0, none⟩)] w fun e w' => ∃ v, e = .returned v ∧ BlV w' v L ∧ Q w w' := by
  obtain ⟨g1, g2, h1, h2, h3, h4, _⟩ := hr i L hi
  have hil : i < Ls.length := (List.getElem?_eq_some_iff.1 hi).1
  refine (line_tapsE b g i Ls.length L.length L.length g1 g2 w hb h1 h2 hil).mono ?_
  rintro e w' ⟨rfl, q⟩
  have a := h3.isl L.length
  have b := h4.isl L.length
  rw [List.length_map] at a b
  exact ⟨_, rfl, ⟨_, _, rfl, a.next q, b.next q⟩, q⟩
set_option maxHeartbeats 4000000 in
set_option maxRecDepth 100000 in
theorem line_of (v vl : Value) (Ls : List (List (Int × Int))) (S : List Nat) (w : World) (hv : LnX w v Ls) (hl : USl w vl S) (hn : Ls.length ≤ 100000) (hm : S.length ≤ 35184372087808) (hb : ∀ i, S.getD i 0 < 4294967296) (hL : ∀ L ∈ Ls, TOk S.length L) :
    Calls Try.prog 31 #[v, vl] w fun e w' => ∃ b, e = .returned (.slice (some ⟨b, 0, none⟩) Ls.length Ls.length) ∧ Own w w' b (Ls.map fun L => smpV L S) := by
  obtain ⟨b, g, ⟨rfl, hbx, hr⟩⟩ := hv
  have HT : Hid (∀ (i : Nat) (L : List (Int × Int)) (W : World), Q w W → Ls[i]? = some L → Calls Try.prog 46 #[.int .i64 (i : Int), .pointer (some ⟨b, 0, none⟩)] W fun e w' => ∃ v, e = .returned v ∧ BlV w' v L ∧ Q W w') := fun i L W q hi => line_taps Ls b g i L W (q.cell hbx) (hr.next q) hi
  have HB : Hid (∀ (v : Value) (L : List (Int × Int)) (W : World), Q w W → BlV W v L → L ∈ Ls → Calls Try.prog 47 #[v, vl] W fun e w' => e = .returned (.int .u32 (smpV L S : Nat)) ∧ Q W w') := fun v L W q hv hm' => blend_of v vl L S W hv (hl.next q) (hL L hm').few hm hb (hL L hm').pl (hL L hm').wt
  obtain ⟨N, hN⟩ : ∃ N, Ls.length = N := ⟨_, rfl⟩
  have HL : Hid (Ls.length = N) := hN
  rw [hN] at hn ⊢
  obtain ⟨M, hmk, hF⟩ := make_u32 N (by omega)
  obtain ⟨w1, hw1⟩ : ∃ w1, w.alloc (.cells #[.int .i64 (N : Int), .func (.func 46) #[] #[.pointer (some ⟨b, 0, none⟩)]] 63) = w1 := ⟨_, rfl⟩
  have q1 : Q w w1 := by rw [← hw1]; exact (Q.refl w).cells _ _
  have HQ1 : Hid (Q w w1) := q1
  have k0 : w1.cell? ⟨w.heap.size, 0, none⟩ = some (.int .i64 (N : Int)) := by rw [← hw1]; simp [go_sem]
  have k1 : w1.cell? ⟨w.heap.size, 1, none⟩ = some (.func (.func 46) #[] #[.pointer (some ⟨b, 0, none⟩)]) := by rw [← hw1]; simp [go_sem]
  have HK1 : Hid _ := k1
  have HF0 : Hid (Fill w1 (w1.alloc (.cells M 30)) w1.heap.size N (fun i => smpV (Ls.getD i []) S) 0) := by
    have := hF w1
    exact ⟨this.q, this.new, fun i hi => by omega, this.room, this.free⟩
  have k0' : (w1.alloc (.cells M 30)).cell? ⟨w.heap.size, 0, none⟩ = some (.int .i64 (N : Int)) := ((Q.refl w1).cells _ _).cell k0
  clear hbx hr hl hm hb hL hN q1
  go_enter Try.func31, Try.ntmps31
  go_wp2_with fail
  generalize w1.alloc (.cells M 30) = w2 at HF0 ⊢
  go_loopg [6, 12] N (fun gh s6 s12 wr => ∃ k : Nat, s12 = .int .i64 (k : Int) ∧ k ≤ N ∧ gh = N - k ∧ Hid (Fill w1 wr w1.heap.size N (fun i => smpV (Ls.getD i []) S) k))
  case atStart => exact ⟨0, rfl, Nat.zero_le _, rfl, HF0⟩
  case round =>
    clear HF0
    obtain ⟨k, rfl, hk, rfl, HFl⟩ := hrel
    by_cases hlt : k < N
    · have hltz : (k : Int) < (N : Int) := by omega
      obtain ⟨L, hLk⟩ : ∃ L, Ls[k]? = some L := ⟨_, List.getElem?_eq_getElem (by rw [HL.out]; exact hlt)⟩
      have C1 := HT.out k L wr (HQ1.out.trans HFl.out.q) hLk
      have kk := HFl.out.q.cell HK1.out
      have HLk : Hid (Ls[k]? = some L) := hLk
      clear hLk
      go_wp2_with fail
      refine C1.mono ?_
      rintro e w5 ⟨v5, rfl, hv5, q5⟩
      have C2 := HB.out v5 L w5 ((HQ1.out.trans HFl.out.q).trans q5) hv5 (List.mem_of_getElem? HLk.out)
      obtain ⟨x, hx⟩ : ∃ x, smpV L S = x := ⟨_, rfl⟩
      rw [hx] at C2
      have HF5 : Hid (Fill w1 w5 w1.heap.size N (fun i => smpV (Ls.getD i []) S) k ∧ x = smpV (Ls.getD k []) S) := ⟨HFl.out.next q5, by rw [List.getD_eq_getElem?_getD, HLk.out]; exact hx.symm⟩
      clear C1 hv5 q5 HFl hx kk
      go_wp2_with fail
      refine C2.mono ?_
      rintro e w6 ⟨rfl, q6⟩
      have HF6 := HF5.out.1.next q6
      obtain ⟨u, cu⟩ := HF6.room k hlt
      have fu := HF6.free k
      have HF7 : Hid _ := HF6.step hlt (v := x) HF5.out.2
      clear C2 HF6 q6 HF5
      go_wp2_with fail
      generalize w6.setCell ⟨w1.heap.size, k, none⟩ (.int .u32 (x : Nat)) = w9 at HF7 ⊢
      go_roundg (N - (k + 1))
      case measure => go_light; omega
      case rel => go_light; exact ⟨k + 1, by simp, by omega, rfl, HF7⟩
    · have hge : ¬ (k : Int) < (N : Int) := by omega
      obtain rfl : k = N := by omega
      have HO : Hid (Own w wr w1.heap.size (Ls.map fun L => smpV L S)) := by
        have := HFl.out.own (S := Ls.map fun L => smpV L S) (by rw [List.length_map, HL.out]) (fun i hi => by
          rw [List.getD_eq_getElem?_getD, List.getElem?_map, List.getD_eq_getElem?_getD, List.getElem?_eq_getElem (by rw [HL.out]; exact hi)]; rfl)
        exact ⟨HQ1.out.trans this.q, Nat.le_trans HQ1.out.1.size this.new, this.cells, this.free⟩
      clear HFl
      go_wp2_with fail
      go_ret
      exact ⟨_, rfl, HO.out⟩
end Go.Proofs.Ytnlphjekillciaa
/- Taps are not great. Plain. -/
namespace Go.Proofs.Ytnlphjekillciaa
open Go.RowKit
set_option linter.unusedVariables false
set_option linter.unusedSimpArgs false

theorem low_cubic {F T i : Nat} (h : Sz F T i) : ((max F T : Nat) : Int) * ((max F T : Nat) : Int) * ((max F T : Nat) : Int) ≤ sndSum (wlsV 3 F T i) := by
  rw [wls_sum]
  obtain ⟨w1, w2, w3, w4⟩ := win_eq (kind := 3) h
  have hm0 : 0 < ((max F T : Nat) : Int) := by have := h.f1; omega
  have hmT : (T : Int) ≤ ((max F T : Nat) : Int) := by omega
  have hst : 0 < 2 * (T : Int) := by have := h.t1; omega
  obtain ⟨st, hs⟩ : ∃ st, 2 * (T : Int) = st := ⟨_, rfl⟩
  have hww : winV 3 F T i = (lstV 3 F T i - fstV 3 F T i + 1).toNat := rfl
  have hre : rea 3 ((max F T : Nat) : Int) = 4 * ((max F T : Nat) : Int) := rfl
  have hwf : ∀ k, wfV 3 F T i k = cubV (absI (st * k - midV F T i)) (2 * ((max F T : Nat) : Int)) := fun k => by rw [← hs]; rfl
  rw [hre] at w1 w2 w3 w4
  rw [hs] at w1 w2 w3 w4 hst
  generalize ((max F T : Nat) : Int) = m at *
  generalize midV F T i = mid at *
  generalize fstV 3 F T i = fs at *
  generalize lstV 3 F T i = ls at *
  generalize winV 3 F T i = N at *
  have hst2 : st ≤ 2 * m := by omega
  -- how many steps fit into 2 m
  obtain ⟨q, hq1, hq2, hq0⟩ : ∃ q, st * q ≤ 2 * m ∧ 2 * m < st * (q + 1) ∧ 1 ≤ q := by
    have a1 := Int.mul_ediv_add_emod (2 * m) st
    have a2 := Int.emod_nonneg (2 * m) (by omega : st ≠ 0)
    have a3 := Int.emod_lt_of_pos (2 * m) hst
    refine ⟨2 * m / st, by omega, by rw [Int.mul_add]; omega, ?_⟩
    exact (Int.le_ediv_iff_mul_le hst).2 (by omega)
  have le_of : ∀ a b : Int, st * a < st * b + st → a ≤ b := fun a b hh => by
    rcases Int.lt_or_le b a with c | c
    · have h2 : st * (b + 1) ≤ st * a := Int.mul_le_mul_of_nonneg_left (by omega) (by omega)
      rw [Int.mul_add] at h2
      omega
    · exact c
  have pa := kx_prop (st := st) (mid := mid) (x := -(2 * m) + 1) hst
  have pc := kx_prop (st := st) (mid := mid) (x := -m) hst
  have pd := kx_prop (st := st) (mid := mid) (x := m) hst
  have pb := kx_prop (st := st) (mid := mid) (x := 2 * m) hst
  have ga : ∀ k, kx st mid (-(2 * m) + 1) ≤ k → mid + (-(2 * m) + 1) ≤ st * k := fun k hk => kx_ge hst hk
  have gc : ∀ k, kx st mid (-m) ≤ k → mid + -m ≤ st * k := fun k hk => kx_ge hst hk
  have gd : ∀ k, k < kx st mid m → st * k < mid + m := fun k hk => kx_lt hst hk
  have gb : ∀ k, k < kx st mid (2 * m) → st * k < mid + 2 * m := fun k hk => kx_lt hst hk
  obtain ⟨a, ha⟩ : ∃ a, kx st mid (-(2 * m) + 1) = a := ⟨_, rfl⟩
  obtain ⟨c, hc⟩ : ∃ c, kx st mid (-m) = c := ⟨_, rfl⟩
  obtain ⟨e, he⟩ : ∃ e, kx st mid m = e := ⟨_, rfl⟩
  obtain ⟨b, hb⟩ : ∃ b, kx st mid (2 * m) = b := ⟨_, rfl⟩
  rw [ha] at pa ga
  rw [hc] at pc gc
  rw [he] at pd gd
  rw [hb] at pb gb
  have o1 : fs + 1 ≤ a := by
    have := le_of (fs + 1) a (by rw [Int.mul_add]; omega)
    exact this
  have o2 : a ≤ c := le_of a c (by omega)
  have o3 : c ≤ e := le_of c e (by omega)
  have o4 : e ≤ b := le_of e b (by omega)
  have o5 : b ≤ ls + 1 := le_of b (ls + 1) (by rw [Int.mul_add]; omega)
  -- how many there are
  have n1 : a - fs - 1 ≤ q + 1 := le_of _ _ (by rw [Int.mul_sub, Int.mul_sub]; simp only [Int.mul_add, Int.mul_one] at hq2 ⊢; omega)
  have n2 : q ≤ e - c := le_of _ _ (by rw [Int.mul_sub]; omega)
  have n3 : ls - b ≤ q := le_of _ _ (by rw [Int.mul_sub]; simp only [Int.mul_add, Int.mul_one] at hq2; omega)
  have hm3 : 0 < m * m * m := Int.mul_pos (Int.mul_pos hm0 hm0) hm0
  have abs0 : ∀ d, 0 ≤ absI d := fun d => by unfold absI; omega
  have key := six (f := fun j => 27 * wfV 3 F T i (fs + j)) (A := (a - fs).toNat) (C1 := (c - fs).toNat) (C2 := (e - fs).toNat) (B := (b - fs).toNat) (N := N) (L := -(32 * (m * m * m))) (H := 243 * (m * m * m)) (by omega) (by omega) (by omega) (by omega) (by omega)
    (by
      show 0 ≤ 27 * wfV 3 F T i (fs + 0)
      rw [hwf, Int.add_zero]
      have hout : 2 * (2 * m) ≤ absI (st * fs - mid) := by unfold absI; omega
      unfold cubV
      rw [if_neg (by omega), if_neg (by omega)]
      decide)
    (fun j _ _ => by rw [hwf]; exact cub_low (abs0 _) hm0)
    (fun j j1 j2 => by
      rw [hwf]
      have g1 := ga (fs + j) (by omega)
      have g2 := gb (fs + j) (by omega)
      have := (cub_near (abs0 _) (show absI (st * (fs + j) - mid) < 2 * m by unfold absI; omega)).1
      omega)
    (fun j j1 j2 => by
      rw [hwf]
      have g1 := gc (fs + j) (by omega)
      have g2 := gd (fs + j) (by omega)
      have := cub_mid (abs0 _) (show absI (st * (fs + j) - mid) ≤ m by unfold absI; omega) hm0
      omega)
    (fun j j1 j2 => by
      rw [hwf]
      have g1 := ga (fs + j) (by omega)
      have g2 := gb (fs + j) (by omega)
      have := (cub_near (abs0 _) (show absI (st * (fs + j) - mid) < 2 * m by unfold absI; omega)).1
      omega)
    (fun j _ _ => by rw [hwf]; exact cub_low (abs0 _) hm0)
  rw [sumF_mul] at key
  generalize m * m * m = M at *
  have b1 : (((a - fs).toNat - 1 : Nat) : Int) * (32 * M) ≤ (q + 1) * (32 * M) := Int.mul_le_mul_of_nonneg_right (by omega) (by omega)
  have b2 : q * (243 * M) ≤ (((e - fs).toNat - (c - fs).toNat : Nat) : Int) * (243 * M) := Int.mul_le_mul_of_nonneg_right (by omega) (by omega)
  have b3 : ((N - (b - fs).toNat : Nat) : Int) * (32 * M) ≤ (q + 1) * (32 * M) := Int.mul_le_mul_of_nonneg_right (by omega) (by omega)
  have b4 : 1 * M ≤ q * M := Int.mul_le_mul_of_nonneg_right hq0 (by omega)
  simp only [Int.mul_neg] at key
  have e1 : q * (243 * M) = 243 * (q * M) := by grind
  have e2 : (q + 1) * (32 * M) = 32 * (q * M) + 32 * M := by grind
  rw [e1] at b2
  rw [e2] at b1 b3
  omega

theorem flo_few {z : Nat → Int} {S : Int} {i : Nat} (hS : 0 < S) (h1 : -(992 * S) ≤ z i) (h2 : z i ≤ 992 * S) : -65011712 ≤ flo z S i ∧ flo z S i ≤ 65011712 := by
  unfold flo
  refine ⟨Int.le_ediv_of_mul_le hS (by omega), ?_⟩
  have := Int.ediv_le_ediv hS (show 65536 * z i ≤ 65011712 * S by omega)
  rw [Int.mul_ediv_cancel _ (by omega)] at this
  exact this
theorem mem_sum {L : List (Int × Int)} (hp : ∀ e ∈ L, 0 < e.2) : ∀ e ∈ L, e.2 ≤ sndSum L := by
  unfold sndSum
  induction L with
  | nil => intro e he; cases he
  | cons a L ih =>
    intro e he
    have h0 : 0 ≤ (L.map Prod.snd).sum := by
      clear ih he
      induction L with
      | nil => simp
      | cons b L ih2 =>
        have := ih2 (fun e he => hp e (by rcases List.mem_cons.1 he with h | h <;> simp [h]))
        have := hp b (by simp)
        simp only [List.map_cons, List.sum_cons]
        omega
    rw [List.map_cons, List.sum_cons]
    rcases List.mem_cons.1 he with rfl | he
    · omega
    · have := ih (fun e he => hp e (by simp [he])) e he
      have := hp a (by simp)
      omega
theorem cub_rel {c m : Int} (hc : 0 ≤ c) (hm : 0 < m) : -(16 * (m * m * m)) ≤ cubV c (2 * m) ∧ cubV c (2 * m) ≤ 16 * (m * m * m) := by
  have hM : 0 < m * m * m := Int.mul_pos (Int.mul_pos hm hm) hm
  have e : 2 * m * (2 * m) * (2 * m) = 8 * (m * m * m) := by grind
  by_cases h1 : c < 2 * m
  · have := cub_near hc h1
    rw [e] at this
    omega
  · by_cases h2 : c < 2 * (2 * m)
    · have := cub_far (by omega : 0 ≤ 2 * m) (by omega) h2
      rw [e] at this
      omega
    · unfold cubV; rw [if_neg h1, if_neg h2]; omega
theorem wls_few {kind : Int} {F T i : Nat} (hk : kind = 1 ∨ kind = 2 ∨ kind = 3) (h : Sz F T i) : ∀ e ∈ wlsV kind F T i, -(992 * sndSum (wlsV kind F T i)) ≤ e.2 ∧ e.2 ≤ 992 * sndSum (wlsV kind F T i) := by
  intro e he
  have hS := wls_pos hk h
  have hm0 : 0 < ((max F T : Nat) : Int) := by have := h.f1; omega
  by_cases h3 : kind = 3
  · subst h3
    have hl := low_cubic h
    have hw := (win_facts (kind := 3) h).2.1
    have hn : winV 3 F T i ≤ 62 := by unfold winV; omega
    have hM : 0 < ((max F T : Nat) : Int) * ((max F T : Nat) : Int) * ((max F T : Nat) : Int) := Int.mul_pos (Int.mul_pos hm0 hm0) hm0
    have := wrun_bound (f := wfV 3 F T i) (pl := plV F) (a := fstV 3 F T i) (B := 16 * (((max F T : Nat) : Int) * ((max F T : Nat) : Int) * ((max F T : Nat) : Int))) (by omega) (fun k => cub_rel (by unfold absI; omega) hm0) (winV 3 F T i) e he
    generalize ((max F T : Nat) : Int) * ((max F T : Nat) : Int) * ((max F T : Nat) : Int) = M at *
    have h62 : (winV 3 F T i : Int) * (16 * M) ≤ 62 * (16 * M) := Int.mul_le_mul_of_nonneg_right (by omega) (by omega)
    omega
  · have hp : ∀ e ∈ wlsV kind F T i, 0 < e.2 := wrun_pos (fun k => by
      show 0 ≤ wgt kind _ _
      rcases hk with rfl | rfl | rfl
      · show 0 ≤ if _ then (1 : Int) else 0; split <;> omega
      · show 0 ≤ max (2 * ((max F T : Nat) : Int) - absI _) 0; omega
      · exact absurd rfl h3) _
    have h1 := hp e he
    have h2 := mem_sum hp e he
    omega
theorem tpA_tok {kind F T i : Int} (h : tapE kind F T i = 0) : TOk F.toNat (tpA kind F T i) := by
  obtain ⟨hk, hz, e1, e2, e3⟩ := tapE_ok h
  have ok := taps_ok hk hz
  have hf := wls_few hk hz
  have hS := wls_pos hk hz
  have etp : tpA kind F T i = tapsL (wlsV kind F.toNat T.toNat i.toNat) := by unfold tpA; rw [if_pos h]
  rw [etp]
  refine ⟨?_, ok.len, fun e he => ⟨(ok.at_ e he).1, (ok.at_ e he).2.1⟩, fun e he => ?_⟩
  · rcases Nat.eq_zero_or_pos (tapsL (wlsV kind F.toNat T.toNat i.toNat)).length with c | c
    · have := ok.sum
      rw [List.length_eq_zero_iff.1 c] at this
      cases this
    · exact c
  · obtain ⟨k, hkl, he2, _⟩ := tpK_mem he
    rw [he2]
    show -268435456 ≤ shrV _ _ k ∧ shrV _ _ k ≤ 268435456
    unfold shrV shrK
    have hz' : -(992 * sumF (zf ((wlsV kind F.toNat T.toNat i.toNat).map Prod.snd)) (wlsV kind F.toNat T.toNat i.toNat).length) ≤ zf ((wlsV kind F.toNat T.toNat i.toNat).map Prod.snd) k ∧ zf ((wlsV kind F.toNat T.toNat i.toNat).map Prod.snd) k ≤ 992 * sumF (zf ((wlsV kind F.toNat T.toNat i.toNat).map Prod.snd)) (wlsV kind F.toNat T.toNat i.toNat).length := by
      rw [← sndSum_zf]
      have hm : (wlsV kind F.toNat T.toNat i.toNat)[k] ∈ wlsV kind F.toNat T.toNat i.toNat := List.getElem_mem hkl
      have := hf _ hm
      unfold zf
      rw [List.getD_eq_getElem?_getD, List.getElem?_map, List.getElem?_eq_getElem hkl]
      exact this
    have := flo_few (z := zf ((wlsV kind F.toNat T.toNat i.toNat).map Prod.snd)) (i := k) (by rw [← sndSum_zf]; exact hS) hz'.1 hz'.2
    split <;> omega
end Go.Proofs.Ytnlphjekillciaa
/- scale.Row. -/
namespace Go.Proofs.Ytnlphjekillciaa
open Go.RowKit
set_option linter.unusedVariables false
set_option linter.unusedSimpArgs false

set_option maxHeartbeats 1000000 in
set_option maxRecDepth 100000 in
theorem sside_any (k : Int) (w : World) : Calls Try.prog 28 #[.int .i64 k] w fun e w' => e = .returned (.bool (decide (1 ≤ k ∧ k ≤ 1024))) ∧ w' = w := by
  by_cases h1 : 1 ≤ k
  · by_cases h2 : k ≤ 1024
    · rw [decide_eq_true ⟨h1, h2⟩]
      go_enter Try.func28, Try.ntmps28
      go_wp2_with fail
      go_ret
      exact ⟨by first | rfl | simp, rfl⟩
    · rw [decide_eq_false (fun h => h2 h.2)]
      go_enter Try.func28, Try.ntmps28
      go_wp2_with fail
      go_ret
      exact ⟨by first | rfl | (simp; omega), rfl⟩
  · rw [decide_eq_false (fun h => h1 h.1)]
    go_enter Try.func28, Try.ntmps28
    go_wp2_with fail
    go_ret
    exact ⟨by first | rfl | (simp; omega), rfl⟩
set_option maxHeartbeats 1000000 in
set_option maxRecDepth 100000 in
theorem refusal_any (kind F T : Int) (w : World) : Calls Try.prog 29 #[.int .i64 kind, .int .i64 F, .int .i64 T] w fun e w' => e = .returned (.int .i64 (tapE kind F T 0)) ∧ Q w w' := by
  have C := taps_all kind F T 0 w
  generalize tapE kind F T 0 = E at *
  generalize tpA kind F T 0 = L at *
  go_enter Try.func29, Try.ntmps29
  go_wp2_with fail
  refine C.mono ?_
  rintro e w1 ⟨v, n, rfl, h⟩
  have HQ : Hid (Q w w1) := h.q
  clear C h
  go_wp2_with fail
  go_ret
  exact ⟨rfl, HQ.out⟩
/-- What Row tells. -/
def rowE (n : Nat) (kind to : Int) : Int := if (1 ≤ n ∧ n ≤ 1024) ∧ (1 ≤ to ∧ to ≤ 1024) then tapE kind n to 0 else 100
def rowL (S : List Nat) (kind to : Int) : List Nat := (List.range to.toNat).map fun (k : Nat) => smpV (tpA kind S.length to (k : Int)) S
theorem tapE_at {kind F T : Int} (h : tapE kind F T 0 = 0) {k : Nat} (hk : (k : Int) < T) : tapE kind F T k = 0 := by
  unfold tapE at h ⊢
  split at h
  · rename_i h1
    rw [if_pos h1]
    split at h
    · rename_i h2
      rw [if_pos ⟨h2.1, h2.2.1, by omega, hk⟩]
      exact h
    · cases h
  · cases h
set_option maxHeartbeats 2000000 in
set_option maxRecDepth 100000 in
theorem row_bad (vl : Value) (S : List Nat) (kind to : Int) (w : World) (hl : USl w vl S) (hm : S.length ≤ 35184372087808) (hE : rowE S.length kind to ≠ 0) :
    Calls Try.prog 11 #[vl, .int .i64 kind, .int .i64 to] w fun e w' => e = .returned (.tuple #[.slice none 0 0, .int .i64 (rowE S.length kind to)]) ∧ Q w w' := by
  obtain ⟨al, cl, rfl⟩ := hl.form
  have HR : Hid (∀ (k : Int) (W : World) (B : Bool), decide (1 ≤ k ∧ k ≤ 1024) = B → Calls Try.prog 28 #[.int .i64 k] W fun e w' => e = .returned (.bool B) ∧ w' = W) := fun k W B h => by rw [← h]; exact sside_any k W
  have C := refusal_any kind S.length to w
  clear hl
  have HRo : Hid (rowE S.length kind to = if (1 ≤ S.length ∧ S.length ≤ 1024) ∧ (1 ≤ to ∧ to ≤ 1024) then tapE kind S.length to 0 else 100) := rfl
  rw [HRo.out] at hE ⊢
  clear HRo
  generalize S.length = n at *
  by_cases hn : 1 ≤ n ∧ n ≤ 1024
  · have d1 : decide ((1 : Int) ≤ (n : Int) ∧ (n : Int) ≤ 1024) = true := decide_eq_true ⟨by omega, by omega⟩
    by_cases ht : 1 ≤ to ∧ to ≤ 1024
    · rw [if_pos ⟨hn, ht⟩] at hE ⊢
      have HD : Hid _ := And.intro d1 (decide_eq_true ht)
      generalize tapE kind n to 0 = E at *
      have hEb : (E != 0) = true := by simpa using hE
      clear d1 hn ht
      go_enter Try.func11, Try.ntmps11
      go_wp2_with (go_at_call 28; first | (refine (HR.out n _ true HD.out.1).mono ?_; rintro e w' ⟨rfl, rfl⟩) | (refine (HR.out to _ true HD.out.2).mono ?_; rintro e w' ⟨rfl, rfl⟩))
      refine C.mono ?_
      rintro e w1 ⟨rfl, q1⟩
      clear C
      have HQ : Hid (Q _ w1) := q1
      clear q1
      go_wp2_with fail
      go_ret2
      exact ⟨rfl, HQ.out⟩
    · rw [if_neg (fun h => ht h.2)]
      have HD : Hid _ := And.intro d1 (decide_eq_false ht)
      clear d1 hn ht C hE
      go_enter Try.func11, Try.ntmps11
      go_wp2_with (go_at_call 28; first | (refine (HR.out n _ true HD.out.1).mono ?_; rintro e w' ⟨rfl, rfl⟩) | (refine (HR.out to _ false HD.out.2).mono ?_; rintro e w' ⟨rfl, rfl⟩))
      go_ret2
      exact ⟨rfl, Q.refl _⟩
  · rw [if_neg (fun h => hn h.1)]
    have HD : Hid _ := decide_eq_false (p := (1 : Int) ≤ (n : Int) ∧ (n : Int) ≤ 1024) (fun h => hn ⟨by omega, by omega⟩)
    clear hn C hE
    go_enter Try.func11, Try.ntmps11
    go_wp2_with (go_at_call 28; refine (HR.out n _ false HD.out).mono ?_; rintro e w' ⟨rfl, rfl⟩)
    go_ret2
    exact ⟨rfl, Q.refl _⟩
set_option maxHeartbeats 2000000 in
set_option maxRecDepth 100000 in
theorem row_good (vl : Value) (S : List Nat) (kind to : Int) (w : World) (hl : USl w vl S) (hb : ∀ i, S.getD i 0 < 4294967296) (hE : rowE S.length kind to = 0) :
    Calls Try.prog 11 #[vl, .int .i64 kind, .int .i64 to] w fun e w' => ∃ b, e = .returned (.tuple #[.slice (some ⟨b, 0, none⟩) to.toNat to.toNat, .int .i64 0]) ∧ Own w w' b (rowL S kind to) := by
  obtain ⟨al, cl, rfl⟩ := hl.form
  unfold rowE at hE
  split at hE
  · rename_i hh
    obtain ⟨⟨n1, n2⟩, t1, t2⟩ := hh
    have HR : Hid (∀ (k : Int) (W : World), 1 ≤ k → k ≤ 1024 → Calls Try.prog 28 #[.int .i64 k] W fun e w' => e = .returned (.bool true) ∧ w' = W) := fun k W h1 h2 => by have := sside_any k W; rw [decide_eq_true ⟨h1, h2⟩] at this; exact this
    have C := refusal_any kind S.length to w
    rw [hE] at C
    obtain ⟨N, hN⟩ : ∃ N : Nat, to = (N : Int) := ⟨to.toNat, by omega⟩
    have HC2 : Hid (∀ W : World, Calls Try.prog 30 #[.int .i64 kind, .int .i64 S.length, .int .i64 to, .int .i64 0, .int .i64 to] W fun e w' => ∃ v, e = .returned v ∧ LnX w' v ((List.range N).map fun (k : Nat) => tpA kind S.length to (k : Int)) ∧ Q W w') := fun W => by
      have := lineOf_any kind S.length to 0 N W (by omega) (by omega)
      simp only [Nat.zero_add] at this
      rw [hN]
      rw [hN] at this
      exact this.mono fun e w' ⟨v, h1, h2, h3⟩ => ⟨v, h1, h2.x, h3⟩
    have HC3 : Hid (∀ (v : Value) (W : World), LnX W v ((List.range N).map fun (k : Nat) => tpA kind S.length to (k : Int)) → Q w W → Calls Try.prog 31 #[v, .slice al S.length cl] W fun e w' => ∃ b, e = .returned (.slice (some ⟨b, 0, none⟩) N N) ∧ Own W w' b (rowL S kind to)) := fun v W hv q => by
      have := line_of v (.slice al S.length cl) _ S W hv (hl.next q) (by rw [List.length_map, List.length_range]; omega) (by omega) hb (fun L hL => by
        obtain ⟨k, hk, rfl⟩ := List.mem_map.1 hL
        have hkN := List.mem_range.1 hk
        have := tpA_tok (tapE_at hE (k := k) (by omega))
        rw [Int.toNat_natCast] at this
        exact this)
      rw [List.length_map, List.length_range, List.map_map] at this
      have e : (List.range N).map ((fun L => smpV L S) ∘ fun (k : Nat) => tpA kind S.length to (k : Int)) = rowL S kind to := by
        unfold rowL
        rw [show to.toNat = N by omega]
        rfl
      rw [e] at this
      exact this
    have HN : Hid (to.toNat = N) := by show _ = _; omega
    have n1z : (1 : Int) ≤ (S.length : Int) := by omega
    have n2z : (S.length : Int) ≤ 1024 := by omega
    rw [HN.out]
    generalize rowL S kind to = RL at *
    generalize (List.range N).map (fun (k : Nat) => tpA kind S.length to (k : Int)) = Ls at *
    clear hl hb hE hN n1 n2
    generalize S.length = n at *
    go_enter Try.func11, Try.ntmps11
    go_wp2_with (go_at_call 28; first | (refine (HR.out n _ n1z n2z).mono ?_; rintro e w' ⟨rfl, hw⟩; obtain rfl := hw.symm) | (refine (HR.out to _ t1 t2).mono ?_; rintro e w' ⟨rfl, hw⟩; obtain rfl := hw.symm))
    refine C.mono ?_
    rintro e w1 ⟨rfl, q1⟩
    clear C
    have HQ : Hid (Q w w1) := q1
    clear q1
    go_wp2_with fail
    refine (HC2.out w1).mono ?_
    rintro e w2 ⟨v2, rfl, l2, q2⟩
    have C3 := HC3.out v2 w2 l2 (HQ.out.trans q2)
    have HQ2 : Hid (Q w w2) := HQ.out.trans q2
    clear l2 q2
    go_wp2_with fail
    refine C3.mono ?_
    rintro e w3 ⟨b, rfl, o3⟩
    clear C3
    have HO : Hid (Own w w3 b RL) := ⟨HQ2.out.trans o3.q, Nat.le_trans HQ2.out.1.size o3.new, o3.cells, o3.free⟩
    clear o3
    go_wp2_with fail
    go_ret2
    exact ⟨b, rfl, HO.out⟩
  · cases hE
end Go.Proofs.Ytnlphjekillciaa

/- A line's taps, and what it makes of samples. -/
import Derived.Test.YtdbbpmadkhedlaaG70fb229c
import Derived.Test.YtdbbpmadkhedlaaG0c782b79
namespace Go.Proofs.Ytdbbpmadkhedlaa
open Go.RowKit
set_option linter.unusedVariables false
set_option linter.unusedSimpArgs false

/-- Taps over m samples. -/
structure TOk (m : Nat) (L : List (Int × Int)) : Prop where
  one : 1 ≤ L.length
  few : L.length ≤ 64
  pl : ∀ e ∈ L, 0 ≤ e.1 ∧ e.1 < (m : Int)
  wt : ∀ e ∈ L, -268435456 ≤ e.2 ∧ e.2 ≤ 268435456
set_option maxHeartbeats 2000000 in
set_option maxRecDepth 100000 in
theorem line_tapsE (b g i N n n2 : Nat) (g1 g2 : Nat) (w : World) (hb : w.cell? ⟨b, 0, none⟩ = some (.slice (some ⟨g, 0, none⟩) N N)) (h1 : w.cell? ⟨g, i * 2, none⟩ = some (.slice (some ⟨g1, 0, none⟩) n n)) (h2 : w.cell? ⟨g, i * 2 + 1, none⟩ = some (.slice (some ⟨g2, 0, none⟩) n2 n2)) (hil : i < N) :
    Calls Try.prog 47 #[.int .i64 (i : Int), .pointer (some ⟨b, 0, none⟩)] w fun e w' => e = .returned (.agg #[.slice (some ⟨g1, 0, none⟩) n n, .slice (some ⟨g2, 0, none⟩) n2 n2]) ∧ Q w w' := by
  have hilz : (i : Int) < (N : Int) := by omega
  obtain ⟨w1, hw1⟩ : ∃ w1, w.alloc (.cells #[.slice none 0 0, .slice none 0 0] 89) = w1 := ⟨_, rfl⟩
  have q1 : Q w w1 := by rw [← hw1]; exact (Q.refl w).cells _ _
  have k0 : w1.cell? ⟨w.heap.size, 0, none⟩ = some (.slice none 0 0) := by rw [← hw1]; simp [go_sem]
  have k1 : w1.cell? ⟨w.heap.size, 1, none⟩ = some (.slice none 0 0) := by rw [← hw1]; simp [go_sem]
  have kf : ∀ j, w1.frozen? ⟨w.heap.size, j, none⟩ = false := fun j => by rw [← hw1]; simp [go_sem]
  have kf0 := kf 0
  have kf1 := kf 1
  have hb1 := q1.cell hb
  have h11 := q1.cell h1
  have h21 := q1.cell h2
  have v0 : ((w1.setCell ⟨w.heap.size, 0, none⟩ (.slice (some ⟨g1, 0, none⟩) n n)).setCell ⟨w.heap.size, 1, none⟩ (.slice (some ⟨g2, 0, none⟩) n2 n2)).cell? ⟨w.heap.size, 0, none⟩ = some (.slice (some ⟨g1, 0, none⟩) n n) := (World.cell?_setCell_other _ _ _ _ (fun e => by injection e with _ e; cases e)).trans (World.cell?_setCell_same _ _ _ k0)
  have v1 : ((w1.setCell ⟨w.heap.size, 0, none⟩ (.slice (some ⟨g1, 0, none⟩) n n)).setCell ⟨w.heap.size, 1, none⟩ (.slice (some ⟨g2, 0, none⟩) n2 n2)).cell? ⟨w.heap.size, 1, none⟩ = some (.slice (some ⟨g2, 0, none⟩) n2 n2) := World.cell?_setCell_same _ _ _ ((World.cell?_setCell_other _ _ _ _ (fun e => by injection e with _ e; cases e)).trans k1)
  have HQ : Hid (Q w ((w1.setCell ⟨w.heap.size, 0, none⟩ (.slice (some ⟨g1, 0, none⟩) n n)).setCell ⟨w.heap.size, 1, none⟩ (.slice (some ⟨g2, 0, none⟩) n2 n2))) := (q1.set (Nat.le_refl _) _).set (Nat.le_refl _) _
  clear kf q1 hb h1 h2
  go_enter Try.func47, Try.ntmps47
  go_wp2_with fail
  generalize (w1.setCell ⟨w.heap.size, 0, none⟩ (.slice (some ⟨g1, 0, none⟩) n n)).setCell ⟨w.heap.size, 1, none⟩ (.slice (some ⟨g2, 0, none⟩) n2 n2) = w9 at HQ v0 v1 ⊢
  exact bodyPost_ret (v := .agg #[.slice (some ⟨g1, 0, none⟩) n n, .slice (some ⟨g2, 0, none⟩) n2 n2]) (by simp [results, Try.results47, go_sem, v0, v1]) rfl ⟨rfl, HQ.out⟩
theorem line_taps (Ls : List (List (Int × Int))) (b g i : Nat) (L : List (Int × Int)) (w : World) (hb : w.cell? ⟨b, 0, none⟩ = some (.slice (some ⟨g, 0, none⟩) Ls.length Ls.length)) (hr : RowsV 0 w g Ls) (hi : Ls[i]? = some L) :
    Calls Try.prog 47 #[.int .i64 (i : Int), .pointer (some ⟨b, 0, none⟩)] w fun e w' => ∃ v, e = .returned v ∧ BlV w' v L ∧ Q w w' := by
  obtain ⟨g1, g2, h1, h2, h3, h4, _⟩ := hr i L hi
  have hil : i < Ls.length := (List.getElem?_eq_some_iff.1 hi).1
  refine (line_tapsE b g i Ls.length L.length L.length g1 g2 w hb h1 h2 hil).mono ?_
  rintro e w' ⟨rfl, q⟩
  have a := h3.isl L.length
  have b := h4.isl L.length
  rw [List.length_map] at a b
  exact ⟨_, rfl, ⟨_, _, rfl, a.next q, b.next q⟩, q⟩
set_option maxHeartbeats 4000000 in
set_option maxRecDepth 100000 in
theorem line_of (v vl : Value) (Ls : List (List (Int × Int))) (S : List Nat) (w : World) (hv : LnX w v Ls) (hl : USl w vl S) (hn : Ls.length ≤ 100000) (hm : S.length ≤ 35184372087808) (hb : ∀ i, S.getD i 0 < 4294967296) (hL : ∀ L ∈ Ls, TOk S.length L) :
    Calls Try.prog 34 #[v, vl] w fun e w' => ∃ b, e = .returned (.slice (some ⟨b, 0, none⟩) Ls.length Ls.length) ∧ Own w w' b (Ls.map fun L => smpV L S) := by
  obtain ⟨b, g, ⟨rfl, hbx, hr⟩⟩ := hv
  have HT : Hid (∀ (i : Nat) (L : List (Int × Int)) (W : World), Q w W → Ls[i]? = some L → Calls Try.prog 47 #[.int .i64 (i : Int), .pointer (some ⟨b, 0, none⟩)] W fun e w' => ∃ v, e = .returned v ∧ BlV w' v L ∧ Q W w') := fun i L W q hi => line_taps Ls b g i L W (q.cell hbx) (hr.next q) hi
  have HB : Hid (∀ (v : Value) (L : List (Int × Int)) (W : World), Q w W → BlV W v L → L ∈ Ls → Calls Try.prog 45 #[v, vl] W fun e w' => e = .returned (.int .u32 (smpV L S : Nat)) ∧ Q W w') := fun v L W q hv hm' => blend_of v vl L S W hv (hl.next q) (hL L hm').few hm hb (hL L hm').pl (hL L hm').wt
  obtain ⟨N, hN⟩ : ∃ N, Ls.length = N := ⟨_, rfl⟩
  have HL : Hid (Ls.length = N) := hN
  rw [hN] at hn ⊢
  obtain ⟨M, hmk, hF⟩ := make_u32 N (by omega)
  obtain ⟨w1, hw1⟩ : ∃ w1, w.alloc (.cells #[.int .i64 (N : Int), .func (.func 47) #[] #[.pointer (some ⟨b, 0, none⟩)]] 72) = w1 := ⟨_, rfl⟩
  have q1 : Q w w1 := by rw [← hw1]; exact (Q.refl w).cells _ _
  have HQ1 : Hid (Q w w1) := q1
  have k0 : w1.cell? ⟨w.heap.size, 0, none⟩ = some (.int .i64 (N : Int)) := by rw [← hw1]; simp [go_sem]
  have k1 : w1.cell? ⟨w.heap.size, 1, none⟩ = some (.func (.func 47) #[] #[.pointer (some ⟨b, 0, none⟩)]) := by rw [← hw1]; simp [go_sem]
  have HK1 : Hid _ := k1
  have HF0 : Hid (Fill w1 (w1.alloc (.cells M 34)) w1.heap.size N (fun i => smpV (Ls.getD i []) S) 0) := by
    have := hF w1
    exact ⟨this.q, this.new, fun i hi => by omega, this.room, this.free⟩
  have k0' : (w1.alloc (.cells M 34)).cell? ⟨w.heap.size, 0, none⟩ = some (.int .i64 (N : Int)) := ((Q.refl w1).cells _ _).cell k0
  clear hbx hr hl hm hb hL hN q1
  go_enter Try.func34, Try.ntmps34
  go_wp2_with fail
  generalize w1.alloc (.cells M 34) = w2 at HF0 ⊢
  go_loopg [6, 12] N (fun gh s6 s12 wr => ∃ k : Nat, s12 = .int .i64 (k : Int) ∧ k ≤ N ∧ gh = N - k ∧ Hid (Fill w1 wr w1.heap.size N (fun i => smpV (Ls.getD i []) S) k))
  case atStart => exact ⟨0, rfl, Nat.zero_le _, rfl, HF0⟩
  case round =>
    clear HF0
    obtain ⟨k, rfl, hk, rfl, HFl⟩ := hrel
    by_cases hlt : k < N
    · have hltz : (k : Int) < (N : Int) := by omega
      obtain ⟨L, hLk⟩ : ∃ L, Ls[k]? = some L := ⟨_, List.getElem?_eq_getElem (by rw [HL.out]; exact hlt)⟩
      have C1 := HT.out k L wr (HQ1.out.trans HFl.out.q) hLk
      have kk := HFl.out.q.cell HK1.out
      have HLk : Hid (Ls[k]? = some L) := hLk
      clear hLk
      go_wp2_with fail
      refine C1.mono ?_
      rintro e w5 ⟨v5, rfl, hv5, q5⟩
      have C2 := HB.out v5 L w5 ((HQ1.out.trans HFl.out.q).trans q5) hv5 (List.mem_of_getElem? HLk.out)
      obtain ⟨x, hx⟩ : ∃ x, smpV L S = x := ⟨_, rfl⟩
      rw [hx] at C2
      have HF5 : Hid (Fill w1 w5 w1.heap.size N (fun i => smpV (Ls.getD i []) S) k ∧ x = smpV (Ls.getD k []) S) := ⟨HFl.out.next q5, by rw [List.getD_eq_getElem?_getD, HLk.out]; exact hx.symm⟩
      clear C1 hv5 q5 HFl hx kk
      go_wp2_with fail
      refine C2.mono ?_
      rintro e w6 ⟨rfl, q6⟩
      have HF6 := HF5.out.1.next q6
      obtain ⟨u, cu⟩ := HF6.room k hlt
      have fu := HF6.free k
      have HF7 : Hid _ := HF6.step hlt (v := x) HF5.out.2
      clear C2 HF6 q6 HF5
      go_wp2_with fail
      generalize w6.setCell ⟨w1.heap.size, k, none⟩ (.int .u32 (x : Nat)) = w9 at HF7 ⊢
      go_roundg (N - (k + 1))
      case measure => go_light; omega
      case rel => go_light; exact ⟨k + 1, by simp, by omega, rfl, HF7⟩
    · have hge : ¬ (k : Int) < (N : Int) := by omega
      obtain rfl : k = N := by omega
      have HO : Hid (Own w wr w1.heap.size (Ls.map fun L => smpV L S)) := by
        have := HFl.out.own (S := Ls.map fun L => smpV L S) (by rw [List.length_map, HL.out]) (fun i hi => by
          rw [List.getD_eq_getElem?_getD, List.getElem?_map, List.getD_eq_getElem?_getD, List.getElem?_eq_getElem (by rw [HL.out]; exact hi)]; rfl)
        exact ⟨HQ1.out.trans this.q, Nat.le_trans HQ1.out.1.size this.new, this.cells, this.free⟩
      clear HFl
      go_wp2_with fail
      go_ret
      exact ⟨_, rfl, HO.out⟩
end Go.Proofs.Ytdbbpmadkhedlaa
/- Taps are not great. Plain. -/
namespace Go.Proofs.Ytdbbpmadkhedlaa
open Go.RowKit
set_option linter.unusedVariables false
set_option linter.unusedSimpArgs false

theorem low_cubic {F T i : Nat} (h : Sz F T i) : ((max F T : Nat) : Int) * ((max F T : Nat) : Int) * ((max F T : Nat) : Int) ≤ sndSum (wlsV 3 F T i) := by
  rw [wls_sum]
  obtain ⟨w1, w2, w3, w4⟩ := win_eq (kind := 3) h
  have hm0 : 0 < ((max F T : Nat) : Int) := by have := h.f1; omega
  have hmT : (T : Int) ≤ ((max F T : Nat) : Int) := by omega
  have hst : 0 < 2 * (T : Int) := by have := h.t1; omega
  obtain ⟨st, hs⟩ : ∃ st, 2 * (T : Int) = st := ⟨_, rfl⟩
  have hww : winV 3 F T i = (lstV 3 F T i - fstV 3 F T i + 1).toNat := rfl
  have hre : rea 3 ((max F T : Nat) : Int) = 4 * ((max F T : Nat) : Int) := rfl
  have hwf : ∀ k, wfV 3 F T i k = cubV (absI (st * k - midV F T i)) (2 * ((max F T : Nat) : Int)) := fun k => by rw [← hs]; rfl
  rw [hre] at w1 w2 w3 w4
  rw [hs] at w1 w2 w3 w4 hst
  generalize ((max F T : Nat) : Int) = m at *
  generalize midV F T i = mid at *
  generalize fstV 3 F T i = fs at *
  generalize lstV 3 F T i = ls at *
  generalize winV 3 F T i = N at *
  have hst2 : st ≤ 2 * m := by omega
  -- how many steps fit into 2 m
  obtain ⟨q, hq1, hq2, hq0⟩ : ∃ q, st * q ≤ 2 * m ∧ 2 * m < st * (q + 1) ∧ 1 ≤ q := by
    have a1 := Int.mul_ediv_add_emod (2 * m) st
    have a2 := Int.emod_nonneg (2 * m) (by omega : st ≠ 0)
    have a3 := Int.emod_lt_of_pos (2 * m) hst
    refine ⟨2 * m / st, by omega, by rw [Int.mul_add]; omega, ?_⟩
    exact (Int.le_ediv_iff_mul_le hst).2 (by omega)
  have le_of : ∀ a b : Int, st * a < st * b + st → a ≤ b := fun a b hh => by
    rcases Int.lt_or_le b a with c | c
    · have h2 : st * (b + 1) ≤ st * a := Int.mul_le_mul_of_nonneg_left (by omega) (by omega)
      rw [Int.mul_add] at h2
      omega
    · exact c
  have pa := kx_prop (st := st) (mid := mid) (x := -(2 * m) + 1) hst
  have pc := kx_prop (st := st) (mid := mid) (x := -m) hst
  have pd := kx_prop (st := st) (mid := mid) (x := m) hst
  have pb := kx_prop (st := st) (mid := mid) (x := 2 * m) hst
  have ga : ∀ k, kx st mid (-(2 * m) + 1) ≤ k → mid + (-(2 * m) + 1) ≤ st * k := fun k hk => kx_ge hst hk
  have gc : ∀ k, kx st mid (-m) ≤ k → mid + -m ≤ st * k := fun k hk => kx_ge hst hk
  have gd : ∀ k, k < kx st mid m → st * k < mid + m := fun k hk => kx_lt hst hk
  have gb : ∀ k, k < kx st mid (2 * m) → st * k < mid + 2 * m := fun k hk => kx_lt hst hk
  obtain ⟨a, ha⟩ : ∃ a, kx st mid (-(2 * m) + 1) = a := ⟨_, rfl⟩
  obtain ⟨c, hc⟩ : ∃ c, kx st mid (-m) = c := ⟨_, rfl⟩
  obtain ⟨e, he⟩ : ∃ e, kx st mid m = e := ⟨_, rfl⟩
  obtain ⟨b, hb⟩ : ∃ b, kx st mid (2 * m) = b := ⟨_, rfl⟩
  rw [ha] at pa ga
  rw [hc] at pc gc
  rw [he] at pd gd
  rw [hb] at pb gb
  have o1 : fs + 1 ≤ a := by
    have := le_of (fs + 1) a (by rw [Int.mul_add]; omega)
    exact this
  have o2 : a ≤ c := le_of a c (by omega)
  have o3 : c ≤ e := le_of c e (by omega)
  have o4 : e ≤ b := le_of e b (by omega)
  have o5 : b ≤ ls + 1 := le_of b (ls + 1) (by rw [Int.mul_add]; omega)
  -- how many there are
  have n1 : a - fs - 1 ≤ q + 1 := le_of _ _ (by rw [Int.mul_sub, Int.mul_sub]; simp only [Int.mul_add, Int.mul_one] at hq2 ⊢; omega)
  have n2 : q ≤ e - c := le_of _ _ (by rw [Int.mul_sub]; omega)
  have n3 : ls - b ≤ q := le_of _ _ (by rw [Int.mul_sub]; simp only [Int.mul_add, Int.mul_one] at hq2; omega)
  have hm3 : 0 < m * m * m := Int.mul_pos (Int.mul_pos hm0 hm0) hm0
  have abs0 : ∀ d, 0 ≤ absI d := fun d => by unfold absI; omega
  have key := six (f := fun j => 27 * wfV 3 F T i (fs + j)) (A := (a - fs).toNat) (C1 := (c - fs).toNat) (C2 := (e - fs).toNat) (B := (b - fs).toNat) (N := N) (L := -(32 * (m * m * m))) (H := 243 * (m * m * m)) (by omega) (by omega) (by omega) (by omega) (by omega)
    (by
      show 0 ≤ 27 * wfV 3 F T i (fs + 0)
      rw [hwf, Int.add_zero]
      have hout : 2 * (2 * m) ≤ absI (st * fs - mid) := by unfold absI; omega
      unfold cubV
      rw [if_neg (by omega), if_neg (by omega)]
      decide)
    (fun j _ _ => by rw [hwf]; exact cub_low (abs0 _) hm0)
    (fun j j1 j2 => by
      rw [hwf]
      have g1 := ga (fs + j) (by omega)
      have g2 := gb (fs + j) (by omega)
      have := (cub_near (abs0 _) (show absI (st * (fs + j) - mid) < 2 * m by unfold absI; omega)).1
      omega)
    (fun j j1 j2 => by
      rw [hwf]
      have g1 := gc (fs + j) (by omega)
      have g2 := gd (fs + j) (by omega)
      have := cub_mid (abs0 _) (show absI (st * (fs + j) - mid) ≤ m by unfold absI; omega) hm0
      omega)
    (fun j j1 j2 => by
      rw [hwf]
      have g1 := ga (fs + j) (by omega)
      have g2 := gb (fs + j) (by omega)
      have := (cub_near (abs0 _) (show absI (st * (fs + j) - mid) < 2 * m by unfold absI; omega)).1
      omega)
    (fun j _ _ => by rw [hwf]; exact cub_low (abs0 _) hm0)
  rw [sumF_mul] at key
  generalize m * m * m = M at *
  have b1 : (((a - fs).toNat - 1 : Nat) : Int) * (32 * M) ≤ (q + 1) * (32 * M) := Int.mul_le_mul_of_nonneg_right (by omega) (by omega)
  have b2 : q * (243 * M) ≤ (((e - fs).toNat - (c - fs).toNat : Nat) : Int) * (243 * M) := Int.mul_le_mul_of_nonneg_right (by omega) (by omega)
  have b3 : ((N - (b - fs).toNat : Nat) : Int) * (32 * M) ≤ (q + 1) * (32 * M) := Int.mul_le_mul_of_nonneg_right (by omega) (by omega)
  have b4 : 1 * M ≤ q * M := Int.mul_le_mul_of_nonneg_right hq0 (by omega)
  simp only [Int.mul_neg] at key
  have e1 : q * (243 * M) = 243 * (q * M) := by grind
  have e2 : (q + 1) * (32 * M) = 32 * (q * M) + 32 * M := by grind
  rw [e1] at b2
  rw [e2] at b1 b3
  omega

theorem flo_few {z : Nat → Int} {S : Int} {i : Nat} (hS : 0 < S) (h1 : -(992 * S) ≤ z i) (h2 : z i ≤ 992 * S) : -65011712 ≤ flo z S i ∧ flo z S i ≤ 65011712 := by
  unfold flo
  refine ⟨Int.le_ediv_of_mul_le hS (by omega), ?_⟩
  have := Int.ediv_le_ediv hS (show 65536 * z i ≤ 65011712 * S by omega)
  rw [Int.mul_ediv_cancel _ (by omega)] at this
  exact this
theorem mem_sum {L : List (Int × Int)} (hp : ∀ e ∈ L, 0 < e.2) : ∀ e ∈ L, e.2 ≤ sndSum L := by
  unfold sndSum
  induction L with
  | nil => intro e he; cases he
  | cons a L ih =>
    intro e he
    have h0 : 0 ≤ (L.map Prod.snd).sum := by
      clear ih he
      induction L with
      | nil => simp
      | cons b L ih2 =>
        have := ih2 (fun e he => hp e (by rcases List.mem_cons.1 he with h | h <;> simp [h]))
        have := hp b (by simp)
        simp only [List.map_cons, List.sum_cons]
        omega
    rw [List.map_cons, List.sum_cons]
    rcases List.mem_cons.1 he with rfl | he
    · omega
    · have := ih (fun e he => hp e (by simp [he])) e he
      have := hp a (by simp)
      omega
theorem cub_rel {c m : Int} (hc : 0 ≤ c) (hm : 0 < m) : -(16 * (m * m * m)) ≤ cubV c (2 * m) ∧ cubV c (2 * m) ≤ 16 * (m * m * m) := by
  have hM : 0 < m * m * m := Int.mul_pos (Int.mul_pos hm hm) hm
  have e : 2 * m * (2 * m) * (2 * m) = 8 * (m * m * m) := by grind
  by_cases h1 : c < 2 * m
  · have := cub_near hc h1
    rw [e] at this
    omega
  · by_cases h2 : c < 2 * (2 * m)
    · have := cub_far (by omega : 0 ≤ 2 * m) (by omega) h2
      rw [e] at this
      omega
    · unfold cubV; rw [if_neg h1, if_neg h2]; omega
theorem wls_few {kind : Int} {F T i : Nat} (hk : kind = 1 ∨ kind = 2 ∨ kind = 3) (h : Sz F T i) : ∀ e ∈ wlsV kind F T i, -(992 * sndSum (wlsV kind F T i)) ≤ e.2 ∧ e.2 ≤ 992 * sndSum (wlsV kind F T i) := by
  intro e he
  have hS := wls_pos hk h
  have hm0 : 0 < ((max F T : Nat) : Int) := by have := h.f1; omega
  by_cases h3 : kind = 3
  · subst h3
    have hl := low_cubic h
    have hw := (win_facts (kind := 3) h).2.1
    have hn : winV 3 F T i ≤ 62 := by unfold winV; omega
    have hM : 0 < ((max F T : Nat) : Int) * ((max F T : Nat) : Int) * ((max F T : Nat) : Int) := Int.mul_pos (Int.mul_pos hm0 hm0) hm0
    have := wrun_bound (f := wfV 3 F T i) (pl := plV F) (a := fstV 3 F T i) (B := 16 * (((max F T : Nat) : Int) * ((max F T : Nat) : Int) * ((max F T : Nat) : Int))) (by omega) (fun k => cub_rel (by unfold absI; omega) hm0) (winV 3 F T i) e he
    generalize ((max F T : Nat) : Int) * ((max F T : Nat) : Int) * ((max F T : Nat) : Int) = M at *
    have h62 : (winV 3 F T i : Int) * (16 * M) ≤ 62 * (16 * M) := Int.mul_le_mul_of_nonneg_right (by omega) (by omega)
    omega
  · have hp : ∀ e ∈ wlsV kind F T i, 0 < e.2 := wrun_pos (fun k => by
      show 0 ≤ wgt kind _ _
      rcases hk with rfl | rfl | rfl
      · show 0 ≤ if _ then (1 : Int) else 0; split <;> omega
      · show 0 ≤ max (2 * ((max F T : Nat) : Int) - absI _) 0; omega
      · exact absurd rfl h3) _
    have h1 := hp e he
    have h2 := mem_sum hp e he
    omega
theorem tpA_tok {kind F T i : Int} (h : tapE kind F T i = 0) : TOk F.toNat (tpA kind F T i) := by
  obtain ⟨hk, hz, e1, e2, e3⟩ := tapE_ok h
  have ok := taps_ok hk hz
  have hf := wls_few hk hz
  have hS := wls_pos hk hz
  have etp : tpA kind F T i = tapsL (wlsV kind F.toNat T.toNat i.toNat) := by unfold tpA; rw [if_pos h]
  rw [etp]
  refine ⟨?_, ok.len, fun e he => ⟨(ok.at_ e he).1, (ok.at_ e he).2.1⟩, fun e he => ?_⟩
  · rcases Nat.eq_zero_or_pos (tapsL (wlsV kind F.toNat T.toNat i.toNat)).length with c | c
    · have := ok.sum
      rw [List.length_eq_zero_iff.1 c] at this
      cases this
    · exact c
  · obtain ⟨k, hkl, he2, _⟩ := tpK_mem he
    rw [he2]
    show -268435456 ≤ shrV _ _ k ∧ shrV _ _ k ≤ 268435456
    unfold shrV shrK
    have hz' : -(992 * sumF (zf ((wlsV kind F.toNat T.toNat i.toNat).map Prod.snd)) (wlsV kind F.toNat T.toNat i.toNat).length) ≤ zf ((wlsV kind F.toNat T.toNat i.toNat).map Prod.snd) k ∧ zf ((wlsV kind F.toNat T.toNat i.toNat).map Prod.snd) k ≤ 992 * sumF (zf ((wlsV kind F.toNat T.toNat i.toNat).map Prod.snd)) (wlsV kind F.toNat T.toNat i.toNat).length := by
      rw [← sndSum_zf]
      have hm : (wlsV kind F.toNat T.toNat i.toNat)[k] ∈ wlsV kind F.toNat T.toNat i.toNat := List.getElem_mem hkl
      have := hf _ hm
      unfold zf
      rw [List.getD_eq_getElem?_getD, List.getElem?_map, List.getElem?_eq_getElem hkl]
      exact this
    have := flo_few (z := zf ((wlsV kind F.toNat T.toNat i.toNat).map Prod.snd)) (i := k) (by rw [← sndSum_zf]; exact hS) hz'.1 hz'.2
    split <;> omega
end Go.Proofs.Ytdbbpmadkhedlaa
/- span: the least place of all taps, and one more than the greatest one. -/
namespace Go.Proofs.Ytdbbpmadkhedlaa
open Go.RowKit
set_option linter.unusedVariables false
set_option linter.unusedSimpArgs false

def headP (L : List (Int × Int)) : Int := (L.getD 0 (0, 0)).1
def lastP (L : List (Int × Int)) : Int := (L.getD (L.length - 1) (0, 0)).1
def fstS (Ls : List (List (Int × Int))) : Nat → Int
  | 0 => 1024
  | k + 1 => min (fstS Ls k) (headP (Ls.getD k []))
def endS (Ls : List (List (Int × Int))) : Nat → Int
  | 0 => 0
  | k + 1 => max (endS Ls k) (lastP (Ls.getD k []) + 1)
theorem pl_at {L : List (Int × Int)} {i : Nat} (hi : i < L.length) : (L.map Prod.fst).getD i 0 = (L.getD i (0, 0)).1 := by
  rw [List.getD_eq_getElem?_getD, List.getElem?_map, List.getD_eq_getElem?_getD, List.getElem?_eq_getElem hi]; rfl
theorem getD_mem {L : List (Int × Int)} {i : Nat} (hi : i < L.length) : L.getD i (0, 0) ∈ L := by
  rw [List.getD_eq_getElem?_getD, List.getElem?_eq_getElem hi]; exact List.getElem_mem hi
set_option maxHeartbeats 4000000 in
set_option maxRecDepth 100000 in
theorem span_any (v : Value) (Ls : List (List (Int × Int))) (m : Nat) (w : World) (hv : LnX w v Ls) (hn : Ls.length ≤ 100000) (hm : m ≤ 1024) (hL : ∀ L ∈ Ls, TOk m L) :
    Calls Try.prog 32 #[v] w fun e w' => e = .returned (.tuple #[.int .i64 (fstS Ls Ls.length), .int .i64 (endS Ls Ls.length)]) ∧ Q w w' := by
  obtain ⟨b, g, ⟨rfl, hbx, hr⟩⟩ := hv
  have HT : Hid (∀ (i : Nat) (L : List (Int × Int)) (W : World), Q w W → Ls[i]? = some L → Calls Try.prog 47 #[.int .i64 (i : Int), .pointer (some ⟨b, 0, none⟩)] W fun e w' => ∃ v, e = .returned v ∧ BlV w' v L ∧ Q W w') := fun i L W q hi => line_taps Ls b g i L W (q.cell hbx) (hr.next q) hi
  have HO : Hid (∀ L ∈ Ls, TOk m L) := hL
  have HBd : Hid (∀ k, k ≤ Ls.length → -1 ≤ fstS Ls k ∧ fstS Ls k ≤ 1024 ∧ 0 ≤ endS Ls k ∧ endS Ls k ≤ 1024) := fun k hk => by
    induction k with
    | zero => simp [fstS, endS]
    | succ k ih =>
      have := ih (by omega)
      have hmem : Ls.getD k [] ∈ Ls := by rw [List.getD_eq_getElem?_getD, List.getElem?_eq_getElem (by omega)]; exact List.getElem_mem _
      have ok := hL _ hmem
      have h1 := ok.pl _ (getD_mem (L := Ls.getD k []) (i := 0) (by have := ok.one; omega))
      have h2 := ok.pl _ (getD_mem (L := Ls.getD k []) (i := (Ls.getD k []).length - 1) (by have := ok.one; omega))
      unfold fstS endS headP lastP
      omega
  obtain ⟨N, hN⟩ : ∃ N, Ls.length = N := ⟨_, rfl⟩
  have HL : Hid (Ls.length = N) := hN
  rw [hN] at hn HBd ⊢
  obtain ⟨w1, hw1⟩ : ∃ w1, w.alloc (.cells #[.int .i64 (N : Int), .func (.func 47) #[] #[.pointer (some ⟨b, 0, none⟩)]] 72) = w1 := ⟨_, rfl⟩
  have q1 : Q w w1 := by rw [← hw1]; exact (Q.refl w).cells _ _
  have HQ1 : Hid (Q w w1) := q1
  have k0 : w1.cell? ⟨w.heap.size, 0, none⟩ = some (.int .i64 (N : Int)) := by rw [← hw1]; simp [go_sem]
  have k1 : w1.cell? ⟨w.heap.size, 1, none⟩ = some (.func (.func 47) #[] #[.pointer (some ⟨b, 0, none⟩)]) := by rw [← hw1]; simp [go_sem]
  have HK1 : Hid _ := k1
  clear hbx hr hL hN q1
  go_enter Try.func32, Try.ntmps32
  go_wp2_with fail
  go_loopg [2, 3, 4, 5, 8] N (fun gh s2 s3 s4 s5 s8 wr => ∃ (k : Nat) (f e : Int), s2 = .int .i64 f ∧ s3 = .int .i64 e ∧ s8 = .int .i64 (k : Int) ∧ k ≤ N ∧ gh = N - k ∧ Hid (f = fstS Ls k ∧ e = endS Ls k) ∧ Hid (Q w1 wr))
  case atStart => exact ⟨0, 1024, 0, rfl, rfl, rfl, Nat.zero_le _, rfl, ⟨rfl, rfl⟩, Q.refl _⟩
  case round =>
    obtain ⟨k, f, e, rfl, rfl, rfl, hk, rfl, HE, HQ⟩ := hrel
    by_cases hlt : k < N
    · have hltz : (k : Int) < (N : Int) := by omega
      obtain ⟨L, hLk⟩ : ∃ L, Ls[k]? = some L := ⟨_, List.getElem?_eq_getElem (by rw [HL.out]; exact hlt)⟩
      have C1 := HT.out k L wr (HQ1.out.trans HQ.out) hLk
      have kk := HQ.out.cell HK1.out
      have ok := HO.out L (List.mem_of_getElem? hLk)
      have hgL : Ls.getD k [] = L := by rw [List.getD_eq_getElem?_getD, hLk]; rfl
      have HE2 : Hid (min f (headP L) = fstS Ls (k + 1) ∧ max e (lastP L + 1) = endS Ls (k + 1)) := by
        show min f (headP L) = min (fstS Ls k) (headP (Ls.getD k [])) ∧ max e (lastP L + 1) = max (endS Ls k) (lastP (Ls.getD k []) + 1)
        rw [hgL, HE.out.1, HE.out.2]
        exact ⟨rfl, rfl⟩
      clear hLk hgL
      go_wp2_with fail
      refine C1.mono ?_
      rintro e1 w5 ⟨v5, rfl, ⟨vp, vw, rfl, hp, hvw⟩, q5⟩
      obtain ⟨aw, cw, rfl⟩ := hvw.form
      clear hvw
      obtain ⟨g1, o1, d1, rfl, hI1⟩ := hp.some (by rw [List.length_map]; exact ok.one)
      obtain ⟨n, hn'⟩ : ∃ n, L.length = n := ⟨_, rfl⟩
      obtain ⟨n', hn''⟩ : ∃ n', n = n' + 1 := ⟨n - 1, by have := ok.one; omega⟩
      rw [List.length_map, hn'] at hI1 ⊢
      have c0 := hI1 0 (by omega)
      have c1 := hI1 n' (by omega)
      rw [pl_at (by omega)] at c0 c1
      have e0 : (L.getD 0 (0, 0)).1 = headP L := rfl
      have e1 : (L.getD n' (0, 0)).1 = lastP L := by unfold lastP; rw [hn', hn'']; rfl
      rw [e0] at c0
      rw [e1] at c1
      have b0 := ok.pl _ (getD_mem (L := L) (i := n') (by omega))
      rw [e1] at b0
      generalize headP L = p0 at *
      generalize lastP L = p1 at *
      rw [Nat.add_zero] at c0
      have en : (n : Int) - 1 = (n' : Int) := by omega
      have hn2 : (n' : Int) < (n : Int) := by omega
      have hn3 : n' < n := by omega
      have hn4 : (0 : Int) < (n : Int) := by omega
      have hn5 : 0 < n := by omega
      have hmn : ∀ (ts : Array TypeId) (t : TypeId) (w : World), (Builtin.min_ ts t #[.int .i64 f, .int .i64 p0]).run Try.prog w = .ok (.int .i64 (min f p0)) w := fun ts t w => run_mn2 ts t _ _ w
      have hmx : ∀ (ts : Array TypeId) (t : TypeId) (w : World), (Builtin.max_ ts t #[.int .i64 e, .int .i64 (p1 + 1)]).run Try.prog w = .ok (.int .i64 (max e (p1 + 1))) w := fun ts t w => run_mx2 ts t _ _ w
      generalize min f p0 = f2 at *
      obtain ⟨p2, hp2⟩ : ∃ p2, p1 + 1 = p2 := ⟨_, rfl⟩
      have wp2 : IntKind.i64.wrap p2 = p2 := by rw [IntKind.wrap_i64]; omega
      have wn' : IntKind.i64.wrap (n' : Int) = (n' : Int) := by rw [IntKind.wrap_i64]; have := ok.few; omega
      have hnb : n ≤ 64 := by have := ok.few; omega
      rw [hp2] at hmx HE2
      generalize max e p2 = e2 at *
      have HQ5 : Hid (Q w1 w5) := HQ.out.trans q5
      generalize (L.map Prod.snd).length = ln at *
      have hfd : ∀ W : World, (Instr.field 89 (.agg #[.slice (some ⟨g1, o1, none⟩) n d1, .slice aw ln cw]) 0).run Try.prog W = .ok (.slice (some ⟨g1, o1, none⟩) n d1) W := fun _ => by kernel_rfl
      have n0 := qw_some w5
      have f0 := qw_cell c0
      have f1 := qw_cell c1
      clear C1 hp hI1 e0 e1 b0 hn' hn'' q5 HQ kk ok HE
      go_wp2_with fail
      refine wp_region_quiet_Q (by kernel_rfl) (by kernel_rfl) ?_
      repeat (first | go_big_quiet_step (fail) | quiet_step (fail))
      refine wpQuiet_nil ?_
      intro w6 hw6
      have HQ6 : Hid (Q w1 w6) := HQ5.out.trans (qw_out hw6)
      clear hw6 f0 f1 n0 c0 c1 hmn hmx
      go_wp2_with fail
      go_roundg (N - (k + 1))
      case measure => go_light; omega
      case rel => go_light; exact ⟨k + 1, f2, e2, rfl, rfl, by simp, by omega, rfl, HE2, HQ6⟩
    · have hge : ¬ (k : Int) < (N : Int) := by omega
      obtain rfl : k = N := by omega
      have HQ2 : Hid (Q w wr) := HQ1.out.trans HQ.out
      go_wp2_with fail
      go_ret2
      exact ⟨by rw [← HE.out.1, ← HE.out.2]; rfl, HQ2.out⟩
/-- All places lie in the span. -/
theorem span_in {Ls : List (List (Int × Int))} {m : Nat} (hL : ∀ L ∈ Ls, TOk m L ∧ L.Pairwise (fun x y => x.1 < y.1)) : ∀ k, k ≤ Ls.length → ∀ i L, i < k → Ls[i]? = some L → ∀ e ∈ L, fstS Ls k ≤ e.1 ∧ e.1 < endS Ls k := by
  intro k
  induction k with
  | zero => intro _ i L hi; omega
  | succ k ih =>
    intro hk i L hi hLi e he
    unfold fstS endS
    by_cases hik : i = k
    · subst hik
      have hg : Ls.getD i [] = L := by rw [List.getD_eq_getElem?_getD, hLi]; rfl
      rw [hg]
      obtain ⟨ok, hp⟩ := hL L (List.mem_of_getElem? hLi)
      obtain ⟨j, hj⟩ := List.getElem?_of_mem he
      obtain ⟨hjl, hje⟩ := List.getElem?_eq_some_iff.1 hj
      have h1 : headP L ≤ e.1 := by
        unfold headP
        rw [List.getD_eq_getElem?_getD, List.getElem?_eq_getElem (by omega)]
        rcases Nat.eq_zero_or_pos j with c | c
        · subst c; rw [← hje]; exact Int.le_refl _
        · have := List.pairwise_iff_getElem.1 hp 0 j (by omega) hjl c
          rw [hje] at this
          exact Int.le_of_lt this
      have h2 : e.1 ≤ lastP L := by
        unfold lastP
        rw [List.getD_eq_getElem?_getD, List.getElem?_eq_getElem (by omega)]
        rcases Nat.lt_or_ge j (L.length - 1) with c | c
        · have := List.pairwise_iff_getElem.1 hp j (L.length - 1) hjl (by omega) c
          rw [hje] at this
          exact Int.le_of_lt this
        · have : j = L.length - 1 := by omega
          subst this
          rw [← hje]; exact Int.le_refl _
      omega
    · have := ih (by omega) i L (by omega) hLi e he
      omega
theorem span_bd {Ls : List (List (Int × Int))} {m : Nat} (hL : ∀ L ∈ Ls, TOk m L) (hm : m ≤ 1024) : ∀ k, k ≤ Ls.length → 0 ≤ fstS Ls k ∧ endS Ls k ≤ (m : Int) ∧ 0 ≤ endS Ls k ∧ fstS Ls k ≤ 1024
  | 0, _ => ⟨(show (0 : Int) ≤ 1024 by decide), (show (0 : Int) ≤ (m : Int) by omega), (show (0 : Int) ≤ 0 by decide), (show (1024 : Int) ≤ 1024 by decide)⟩
  | k + 1, hk => by
    have ih := span_bd hL hm k (by omega)
    have hmem : Ls.getD k [] ∈ Ls := by rw [List.getD_eq_getElem?_getD, List.getElem?_eq_getElem (by omega)]; exact List.getElem_mem _
    have ok := hL _ hmem
    have h1 := ok.pl _ (getD_mem (L := Ls.getD k []) (i := 0) (by have := ok.one; omega))
    have h2 := ok.pl _ (getD_mem (L := Ls.getD k []) (i := (Ls.getD k []).length - 1) (by have := ok.one; omega))
    unfold fstS endS headP lastP
    refine ⟨by omega, by omega, by omega, by omega⟩
end Go.Proofs.Ytdbbpmadkhedlaa

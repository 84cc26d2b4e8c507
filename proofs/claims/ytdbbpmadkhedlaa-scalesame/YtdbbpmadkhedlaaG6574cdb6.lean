/- A stable sort, walked: symMerge of two ranges, the first one not the longer one. -/
import Derived.Test.YtdbbpmadkhedlaaG002712b8
import Derived.Test.YtdbbpmadkhedlaaGe5cc78ee
namespace Go.Proofs.Ytdbbpmadkhedlaa
open Go.RowKit Go.Shelf Go.Lib Go.Sort
set_option linter.unusedVariables false
set_option linter.unusedSimpArgs false

set_option maxHeartbeats 8000000 in
set_option maxRecDepth 1000000 in
theorem sm_gen2 (r : Int → Int) (g : Nat) (cb : Array Value) (blk off cap a m b mid N : Nat) (d0 d : Array Int) (w0 w : World)
    (eg : ∀ args w, (callFunc g args).run Try.prog w = .ok (.enter g args) w) (hC : CmpR r g cb blk off d0.size w0) (R : Row1 iEnc w0 blk off d0) (hs : d0.size = d.size) (S : SV w0 blk off d w) (ham : a + 2 ≤ m) (hmb : m + 2 ≤ b) (hb : b ≤ d.size) (hsz : d.size ≤ 100000) (hT : TS r a m d) (hT2 : TS r m b d) (hX : Cro a m b d)
    (hmid : mid = (a + b) / 2) (hcs : m ≤ mid) (hN : b - a ≤ N + 1) (IH : SmOk r g cb blk off cap d0 w0 N) :
    Calls Try.prog 66 #[.slice (some ⟨blk, off, none⟩) d.size cap, .int .i64 a, .int .i64 m, .int .i64 b, .func (.func g) #[] cb] w fun e w' => e = .returned (.tuple #[]) ∧ ∃ d', SV w0 blk off d' w' ∧ PermIn a b d d' ∧ TS r a b d' := by
  have mixed := mixedT
  have S0 : Hid (SV w0 blk off d w) := S
  have HR : Hid (Row1 iEnc w0 blk off d0) := R
  have HC : Hid (CmpR r g cb blk off d0.size w0) := hC
  have HT : Hid (TS r a m d ∧ TS r m b d ∧ Cro a m b d) := ⟨hT, hT2, hX⟩
  have HI : Hid (SmOk r g cb blk off cap d0 w0 N) := IH
  have hma : ((m : Int) - (a : Int) == 1) = false := by simp; omega
  have hma' : ¬ (m : Int) - (a : Int) = 1 := by omega
  have hbm : ((b : Int) - (m : Int) == 1) = false := by simp; omega
  have hbm' : ¬ (b : Int) - (m : Int) = 1 := by omega
  have emid : ((a : Int) + (b : Int)) / 2 = (mid : Int) := by omega
  have hm1 : a + 2 ≤ mid := by omega
  have hm2 : mid + 2 ≤ b := by omega
  have hm3 : a + b ≤ 2 * mid + 1 := by omega
  have hm4 : 2 * mid ≤ a + b := by omega
  obtain ⟨n, hn⟩ : ∃ n, n = mid + m := ⟨_, rfl⟩
  have en : (mid : Int) + (m : Int) = (n : Int) := by omega
  obtain ⟨p, hp⟩ : ∃ p, n = p + 1 := ⟨n - 1, by omega⟩
  have ep : (n : Int) - 1 = (p : Int) := by omega
  have HN : Hid (n = mid + m ∧ n = p + 1) := ⟨hn, hp⟩
  obtain ⟨lo, hlo⟩ : ∃ lo, lo = a := ⟨_, rfl⟩
  obtain ⟨hi, hhi⟩ : ∃ hi, hi = m := ⟨_, rfl⟩
  have hcs' : ¬ (mid : Int) < (m : Int) := by omega
  have HE : Hid (lo = a ∧ hi = m) := ⟨hlo, hhi⟩
  clear S R hC hT hT2 hX IH hmid hn hp hlo hhi
  go_enter Try.func66, Try.ntmps66
  go_wp2_with fail
  go_loopg [20, 21] (hi - lo) (fun gh vs vt wr => ∃ (s t : Nat), vs = .int .i64 (s : Int) ∧ vt = .int .i64 (t : Int) ∧ lo ≤ s ∧ s ≤ t ∧ t ≤ hi ∧ gh = t - s ∧ Hid (SV w0 blk off d wr) ∧ Hid ((s = lo ∨ tlt r d[s - 1]! d[n - s]!) ∧ (t = hi ∨ tlt r d[n - 1 - t]! d[t]!)))
  case atStart => exact ⟨a, m, rfl, rfl, by have := HE.out; omega, by have := HE.out; omega, by have := HE.out; omega, by have := HE.out; omega, S0, Or.inl HE.out.1.symm, Or.inl HE.out.2.symm⟩
  case round =>
    clear S0
    obtain ⟨s, t, rfl, rfl, hls, hst, hth, rfl, S1, HP⟩ := hrel
    by_cases hlt : s < t
    · have hltz : (s : Int) < (t : Int) := by omega
      obtain ⟨c, hc0⟩ : ∃ c, c = (s + t) / 2 := ⟨_, rfl⟩
      have ec : ((s : Int) + (t : Int)) / 2 = (c : Int) := by omega
      have hc1 : s ≤ c := by omega
      have hc2 : c < t := by omega
      obtain ⟨o, ho⟩ : ∃ o, p = o + c := ⟨p - c, by have := HE.out; have := HN.out; omega⟩
      have eo : (p : Int) - (c : Int) = (o : Int) := by omega
      have hb1 : a ≤ c := by have := HE.out; have := HN.out; omega
      have hb2 : c < m := by have := HE.out; have := HN.out; omega
      have hb3 : m ≤ o := by have := HE.out; have := HN.out; omega
      have hb4 : o < b := by have := HE.out; have := HN.out; omega
      have pa : o < d.size := by omega
      have pa' : (o : Int) < (d.size : Int) := by omega
      have pb : c < d.size := by omega
      have pb' : (c : Int) < (d.size : Int) := by omega
      have ro : IntKind.i64.wrap (o : Int) = (o : Int) := by rw [IntKind.wrap_i64]; omega
      obtain ⟨x, hx⟩ : ∃ x, x = d[o]! := ⟨_, rfl⟩
      obtain ⟨y, hy⟩ : ∃ y, y = d[c]! := ⟨_, rfl⟩
      have l1 := S1.out.c1 HR.out (by omega) o (by omega)
      have l2 := S1.out.c1 HR.out (by omega) c (by omega)
      rw [← hx] at l1
      rw [← hy] at l2
      have hc := S1.out.cmp HC.out (by omega) o c (by omega) (by omega)
      rw [← hx, ← hy] at hc
      have hlt' := HT.out.2.2 c o hb1 hb2 hb3 hb4
      rw [← hx, ← hy] at hlt'
      have HH : Hid (x = d[o]! ∧ y = d[c]! ∧ y < x ∧ p = o + c) := ⟨hx, hy, hlt', ho⟩
      clear hx hy hlt' hc0 ho hb1 hb2 hb3 hb4
      by_cases hv : cfR r x y < 0
      · have HV : Hid (tlt r x y) := tlt_of_lt ((cfR_neg r x y).1 hv)
        generalize cfR r x y = cv at hc hv
        have hd : decide (cv < 0) = true := decide_eq_true hv
        go_wp2_with fail
        go_quiet (first | (go_at_fn g; refine Calls.quiet_of (hc _)))
        have S2 : Hid (SV w0 blk off d (wr.drewN nq)) := S1.out.drewN nq
        clear l1 l2 hc S1
        generalize wr.drewN nq = w2 at S2 ⊢
        clear nq
        go_wp2_with fail
        go_roundg (c - s)
        case measure => go_light; omega
        case rel => go_light; exact ⟨s, c, rfl, rfl, hls, hc1, by omega, rfl, S2, HP.out.1, Or.inr (by rw [show n - 1 - c = o by have := HN.out; have := HH.out.2.2.2; omega, ← HH.out.1, ← HH.out.2.1]; exact HV.out)⟩
      · have HV : Hid (tlt r y x) := tlt_of_not HH.out.2.2.1 (fun h => hv ((cfR_neg r x y).2 h))
        generalize cfR r x y = cv at hc hv
        have hd : decide (cv < 0) = false := decide_eq_false hv
        go_wp2_with fail
        go_quiet (first | (go_at_fn g; refine Calls.quiet_of (hc _)))
        have S2 : Hid (SV w0 blk off d (wr.drewN nq)) := S1.out.drewN nq
        clear l1 l2 hc S1
        generalize wr.drewN nq = w2 at S2 ⊢
        clear nq
        go_wp2_with fail
        go_roundg (t - (c + 1))
        case measure => go_light; omega
        case rel => go_light; exact ⟨c + 1, t, by simp, rfl, by omega, by omega, hth, rfl, S2, Or.inr (by rw [Nat.add_sub_cancel, show n - (c + 1) = o by have := HN.out; have := HH.out.2.2.2; omega, ← HH.out.1, ← HH.out.2.1]; exact HV.out), HP.out.2⟩
    · have hge : ¬ (s : Int) < (t : Int) := by omega
      obtain rfl : s = t := by omega
      obtain ⟨e, he⟩ : ∃ e, n = e + s := ⟨n - s, by have := HE.out; have := HN.out; omega⟩
      have ee : (n : Int) - (s : Int) = (e : Int) := by omega
      have b1 : a ≤ s := by have := HE.out; have := HN.out; omega
      have b2 : s ≤ m := by have := HE.out; have := HN.out; omega
      have b3 : m ≤ e := by have := HE.out; have := HN.out; omega
      have b4 : e ≤ b := by have := HE.out; have := HN.out; omega
      have b5 : mid + m = s + e := by have := HN.out; omega
      have HL : Hid ((s = a ∨ e = b ∨ tlt r d[s - 1]! d[e]!) ∧ (s = m ∨ e = m ∨ tlt r d[e - 1]! d[s]!)) := by
        obtain ⟨q1, q2⟩ := HP.out
        have h1 := HE.out
        have h2 := HN.out
        refine ⟨?_, ?_⟩
        · rcases q1 with q | q
          · first | exact Or.inl (by omega) | exact Or.inr (Or.inl (by omega))
          · exact Or.inr (Or.inr (by rw [show e = n - s by omega]; exact q))
        · rcases q2 with q | q
          · first | exact Or.inl (by omega) | exact Or.inr (Or.inl (by omega))
          · exact Or.inr (Or.inr (by rw [show e - 1 = n - 1 - s by omega]; exact q))
      have HM : Hid (∀ d1, Rot s m e d d1 → Mid r a s mid e b d1) := fun d1 h => mid_of b1 b2 b3 b4 b5 HT.out.1 HT.out.2.1 HT.out.2.2 HL.out.1 HL.out.2 h
      have HB : Hid (mid + m = s + e ∧ n = e + s) := ⟨b5, he⟩
      clear HP HL b5 he hls hst
      by_cases h1 : s < m
      · have h1' : (s : Int) < (m : Int) := by omega
        by_cases h2 : m < e
        · have h2' : (m : Int) < (e : Int) := by omega
          have h3' : (s : Int) < (mid : Int) := by have := HB.out; omega
          have h4' : (mid : Int) < (e : Int) := by have := HB.out; omega
          have C1 := rot_any blk off cap s m e d0 d w0 wr (.func (.func g) #[] cb) HR.out (by omega) S1.out h1 h2 (by omega) hsz
          go_wp2_with fail
          refine C1.mono ?_
          rintro e' w3 ⟨rfl, d3, s3, r3, p3⟩
          clear C1
          have S3 : Hid (SV w0 blk off d3 w3) := s3
          have MM : Hid (Mid r a s mid e b d3 ∧ PermIn a b d d3 ∧ True) := ⟨HM.out d3 r3, p3 a b b1 b4 hb, trivial⟩
          clear s3 r3 p3
          by_cases h5 : a < s
          · have h5' : (a : Int) < (s : Int) := by omega
            by_cases h6 : e < b
            · have h6' : (e : Int) < (b : Int) := by omega
              have C2 := HI.out a s mid d3 w3 (by have := MM.out.2.1.1; omega) S3.out (by omega) (by have := HB.out; omega) (by have := MM.out.2.1.1; omega) (by omega) MM.out.1.t1 MM.out.1.t2 MM.out.1.c1
              rw [MM.out.2.1.1] at C2
              go_wp2_with fail
              refine C2.mono ?_
              rintro e' w4 ⟨rfl, d4, s4, p4, t4⟩
              clear C2
              have S4 : Hid (SV w0 blk off d4 w4) := s4
              have P2 : Hid (PermIn a mid d3 d4 ∧ TS r a mid d4) := ⟨p4, t4⟩
              clear s4 p4 t4
              have P5 : Hid (TS r mid e d4 ∧ TS r e b d4 ∧ Cro mid e b d4 ∧ d4.size = d.size) := by
                have z1 := MM.out.2.1.1
                have z2 := P2.out.1.1
                obtain ⟨k1, k2, k3, k4, k5⟩ := MM.out.1.left (by omega) (by omega) (by have := HB.out; omega) b4 P2.out.1 P2.out.2
                exact ⟨k2, k3, k4, by omega⟩
              have C3 := HI.out mid e b d4 w4 (by have := P5.out.2.2.2; omega) S4.out (by have := HB.out; omega) (by omega) (by have := P5.out.2.2.2; omega) (by omega) P5.out.1 P5.out.2.1 P5.out.2.2.1
              rw [P5.out.2.2.2] at C3
              go_wp2_with fail
              refine C3.mono ?_
              rintro e' w5 ⟨rfl, d5, s5, p5, t5⟩
              clear C3
              have S5 : Hid (SV w0 blk off d5 w5) := s5
              have P3 : Hid (PermIn mid b d4 d5 ∧ TS r mid b d5) := ⟨p5, t5⟩
              clear s5 p5 t5
              go_wp2_with fail
              go_end0
              exact ⟨rfl, d5, S5.out, sm_close MM.out.1 (by omega) (by omega) hb (by have := HB.out; omega) b4 MM.out.2.1 P2.out.1 P2.out.2 P3.out.1 P3.out.2⟩
            · have h6' : ¬ (e : Int) < (b : Int) := by omega
              have C2 := HI.out a s mid d3 w3 (by have := MM.out.2.1.1; omega) S3.out (by omega) (by have := HB.out; omega) (by have := MM.out.2.1.1; omega) (by omega) MM.out.1.t1 MM.out.1.t2 MM.out.1.c1
              rw [MM.out.2.1.1] at C2
              go_wp2_with fail
              refine C2.mono ?_
              rintro e' w4 ⟨rfl, d4, s4, p4, t4⟩
              clear C2
              have S4 : Hid (SV w0 blk off d4 w4) := s4
              have P2 : Hid (PermIn a mid d3 d4 ∧ TS r a mid d4) := ⟨p4, t4⟩
              clear s4 p4 t4
              have P5 : Hid (TS r mid e d4 ∧ TS r e b d4 ∧ Cro mid e b d4 ∧ d4.size = d.size) := by
                have z1 := MM.out.2.1.1
                have z2 := P2.out.1.1
                obtain ⟨k1, k2, k3, k4, k5⟩ := MM.out.1.left (by omega) (by omega) (by have := HB.out; omega) b4 P2.out.1 P2.out.2
                exact ⟨k2, k3, k4, by omega⟩
              have P3 : Hid (PermIn mid b d4 d4 ∧ TS r mid b d4) := sm_skip2 P5.out.1 P5.out.2.1 (by have := HB.out; omega)
              go_wp2_with fail
              go_end0
              exact ⟨rfl, d4, S4.out, sm_close MM.out.1 (by omega) (by omega) hb (by have := HB.out; omega) b4 MM.out.2.1 P2.out.1 P2.out.2 P3.out.1 P3.out.2⟩
          · have h5' : ¬ (a : Int) < (s : Int) := by omega
            by_cases h6 : e < b
            · have h6' : (e : Int) < (b : Int) := by omega
              have P2 : Hid (PermIn a mid d3 d3 ∧ TS r a mid d3) := MM.out.1.skip1 (by have := HB.out; omega)
              have P5 : Hid (TS r mid e d3 ∧ TS r e b d3 ∧ Cro mid e b d3 ∧ d3.size = d.size) := by
                have z1 := MM.out.2.1.1
                have z2 := P2.out.1.1
                obtain ⟨k1, k2, k3, k4, k5⟩ := MM.out.1.left (by omega) (by omega) (by have := HB.out; omega) b4 P2.out.1 P2.out.2
                exact ⟨k2, k3, k4, by omega⟩
              have C3 := HI.out mid e b d3 w3 (by have := P5.out.2.2.2; omega) S3.out (by have := HB.out; omega) (by omega) (by have := P5.out.2.2.2; omega) (by omega) P5.out.1 P5.out.2.1 P5.out.2.2.1
              rw [P5.out.2.2.2] at C3
              go_wp2_with fail
              refine C3.mono ?_
              rintro e' w5 ⟨rfl, d5, s5, p5, t5⟩
              clear C3
              have S5 : Hid (SV w0 blk off d5 w5) := s5
              have P3 : Hid (PermIn mid b d3 d5 ∧ TS r mid b d5) := ⟨p5, t5⟩
              clear s5 p5 t5
              go_wp2_with fail
              go_end0
              exact ⟨rfl, d5, S5.out, sm_close MM.out.1 (by omega) (by omega) hb (by have := HB.out; omega) b4 MM.out.2.1 P2.out.1 P2.out.2 P3.out.1 P3.out.2⟩
            · have h6' : ¬ (e : Int) < (b : Int) := by omega
              have P2 : Hid (PermIn a mid d3 d3 ∧ TS r a mid d3) := MM.out.1.skip1 (by have := HB.out; omega)
              have P5 : Hid (TS r mid e d3 ∧ TS r e b d3 ∧ Cro mid e b d3 ∧ d3.size = d.size) := by
                have z1 := MM.out.2.1.1
                have z2 := P2.out.1.1
                obtain ⟨k1, k2, k3, k4, k5⟩ := MM.out.1.left (by omega) (by omega) (by have := HB.out; omega) b4 P2.out.1 P2.out.2
                exact ⟨k2, k3, k4, by omega⟩
              have P3 : Hid (PermIn mid b d3 d3 ∧ TS r mid b d3) := sm_skip2 P5.out.1 P5.out.2.1 (by have := HB.out; omega)
              go_wp2_with fail
              go_end0
              exact ⟨rfl, d3, S3.out, sm_close MM.out.1 (by omega) (by omega) hb (by have := HB.out; omega) b4 MM.out.2.1 P2.out.1 P2.out.2 P3.out.1 P3.out.2⟩
        · exfalso; have := HB.out; omega
      · have h1' : ¬ (s : Int) < (m : Int) := by omega
        have h4' : ¬ (mid : Int) < (e : Int) := by have := HB.out; omega
        have h5' : (a : Int) < (s : Int) := by omega
        have MM : Hid (Mid r a s mid e b d ∧ PermIn a b d d ∧ True) := ⟨HM.out d (Rot.none (Or.inl (by omega)) b2 b3), permIn_refl d a b, trivial⟩
        by_cases h3 : s < mid
        · have h3' : (s : Int) < (mid : Int) := by omega
          have C2 := HI.out a s mid d wr (by have := MM.out.2.1.1; omega) S1.out (by omega) (by have := HB.out; omega) (by have := MM.out.2.1.1; omega) (by omega) MM.out.1.t1 MM.out.1.t2 MM.out.1.c1
          rw [MM.out.2.1.1] at C2
          go_wp2_with fail
          refine C2.mono ?_
          rintro e' w4 ⟨rfl, d4, s4, p4, t4⟩
          clear C2
          have S4 : Hid (SV w0 blk off d4 w4) := s4
          have P2 : Hid (PermIn a mid d d4 ∧ TS r a mid d4) := ⟨p4, t4⟩
          clear s4 p4 t4
          have P5 : Hid (TS r mid e d4 ∧ TS r e b d4 ∧ Cro mid e b d4 ∧ d4.size = d.size) := by
            have z1 := MM.out.2.1.1
            have z2 := P2.out.1.1
            obtain ⟨k1, k2, k3, k4, k5⟩ := MM.out.1.left (by omega) (by omega) (by have := HB.out; omega) b4 P2.out.1 P2.out.2
            exact ⟨k2, k3, k4, by omega⟩
          have P3 : Hid (PermIn mid b d4 d4 ∧ TS r mid b d4) := sm_skip2 P5.out.1 P5.out.2.1 (by have := HB.out; omega)
          go_wp2_with fail
          go_end0
          exact ⟨rfl, d4, S4.out, sm_close MM.out.1 (by omega) (by omega) hb (by have := HB.out; omega) b4 MM.out.2.1 P2.out.1 P2.out.2 P3.out.1 P3.out.2⟩
        · have h3' : ¬ (s : Int) < (mid : Int) := by omega
          have P2 : Hid (PermIn a mid d d ∧ TS r a mid d) := MM.out.1.skip1 (by have := HB.out; omega)
          have P5 : Hid (TS r mid e d ∧ TS r e b d ∧ Cro mid e b d ∧ d.size = d.size) := by
            have z1 := MM.out.2.1.1
            have z2 := P2.out.1.1
            obtain ⟨k1, k2, k3, k4, k5⟩ := MM.out.1.left (by omega) (by omega) (by have := HB.out; omega) b4 P2.out.1 P2.out.2
            exact ⟨k2, k3, k4, by omega⟩
          have P3 : Hid (PermIn mid b d d ∧ TS r mid b d) := sm_skip2 P5.out.1 P5.out.2.1 (by have := HB.out; omega)
          go_wp2_with fail
          go_end0
          exact ⟨rfl, d, S1.out, sm_close MM.out.1 (by omega) (by omega) hb (by have := HB.out; omega) b4 MM.out.2.1 P2.out.1 P2.out.2 P3.out.1 P3.out.2⟩
end Go.Proofs.Ytdbbpmadkhedlaa
/- A stable sort, plain: sections of a row, each in order. -/
namespace Go.Proofs.Ytdbbpmadkhedlaa
open Go.Sort
set_option linter.unusedVariables false
set_option linter.unusedSimpArgs false

def Mlt (k x : Nat) : Prop := ∃ c, x = k * c
theorem Mlt.zero (k : Nat) : Mlt k 0 := ⟨0, rfl⟩
theorem Mlt.gap {k x y : Nat} (hx : Mlt k x) (hy : Mlt k y) (h : x < y) : x + k ≤ y := by
  obtain ⟨p, rfl⟩ := hx
  obtain ⟨q, rfl⟩ := hy
  have : p < q := Nat.lt_of_mul_lt_mul_left h
  have h2 : k * (p + 1) ≤ k * q := Nat.mul_le_mul_left k this
  rw [Nat.mul_add, Nat.mul_one] at h2
  exact h2
theorem Mlt.add {k x : Nat} (hx : Mlt k x) : Mlt k (x + k) := by
  obtain ⟨p, rfl⟩ := hx
  exact ⟨p + 1, by rw [Nat.mul_add, Nat.mul_one]⟩
theorem Mlt.half {k x : Nat} (hx : Mlt (2 * k) x) : Mlt k x := by
  obtain ⟨p, rfl⟩ := hx
  exact ⟨2 * p, by rw [Nat.mul_comm 2 k, Nat.mul_assoc]⟩
/-- One section: in order, and its numbers its own. -/
def Sec (r : Int → Int) (n bs lo : Nat) (d : Array Int) : Prop := TS r lo (min (lo + bs) n) d ∧ ∀ i, lo ≤ i → i < min (lo + bs) n → (lo : Int) ≤ d[i]! ∧ d[i]! < (lo : Int) + (bs : Int)
theorem Sec.same {r : Int → Int} {n bs lo : Nat} {d d' : Array Int} (h : Sec r n bs lo d) (he : ∀ i, lo ≤ i → i < min (lo + bs) n → d'[i]! = d[i]!) : Sec r n bs lo d' := by
  refine ⟨fun i j h1 h2 h3 => ?_, fun i h1 h2 => ?_⟩
  · rw [he i h1 (by omega), he j (by omega) h3]; exact h.1 i j h1 h2 h3
  · rw [he i h1 h2]; exact h.2 i h1 h2
/-- How far the first sort has come. -/
def Ph (r : Int → Int) (n a : Nat) (d : Array Int) : Prop := (∀ lo, Mlt 20 lo → lo < a → Sec r n 20 lo d) ∧ ∀ i, a ≤ i → i < n → d[i]! = (i : Int)
theorem Ph.ns {r : Int → Int} {n a b : Nat} {d : Array Int} (h : Ph r n a d) (hb : b ≤ n) : NS a b d := fun i j h1 h2 h3 => by
  rw [h.2 i h1 (by omega), h.2 j (by omega) (by omega)]; omega
theorem Ph.step {r : Int → Int} {n a b : Nat} {d d' : Array Int} (h : Ph r n a d) (hn : n = d.size) (ha : Mlt 20 a) (hb : b = min (a + 20) n) (hP : PermIn a b d d') (hT : TS r a b d') : ∀ lo, Mlt 20 lo → lo < a + 20 → Sec r n 20 lo d' := by
  intro lo hl hlt
  by_cases e : lo < a
  · have := hl.gap ha e
    exact (h.1 lo hl e).same (fun i h1 h2 => hP.2.1 i (Or.inl (by omega)))
  · have : lo = a := by
      rcases Nat.lt_or_ge a lo with h1 | h1
      · have := ha.gap hl h1; omega
      · omega
    subst this
    refine ⟨fun i j h1 h2 h3 => hT i j h1 h2 (by omega), fun i h1 h2 => ?_⟩
    exact permIn_any (p := fun x => (lo : Int) ≤ x ∧ x < (lo : Int) + ((20 : Nat) : Int)) (by omega) hP (fun k h3 h4 => by rw [h.2 k h3 (by omega)]; omega) i h1 (by omega)
theorem Ph.next {r : Int → Int} {n a : Nat} {d d' : Array Int} (h : Ph r n a d) (hn : n = d.size) (ha : Mlt 20 a) (hb : a + 20 ≤ n) (hP : PermIn a (a + 20) d d') (hT : TS r a (a + 20) d') : Ph r n (a + 20) d' :=
  ⟨h.step hn ha (by omega) hP hT, fun i h1 h2 => by rw [hP.2.1 i (Or.inr h1)]; exact h.2 i (by omega) h2⟩
theorem Ph.last {r : Int → Int} {n a : Nat} {d d' : Array Int} (h : Ph r n a d) (hn : n = d.size) (ha : Mlt 20 a) (hb : n < a + 20) (han : a ≤ n) (hP : PermIn a n d d') (hT : TS r a n d') : ∀ lo, Mlt 20 lo → Sec r n 20 lo d' := by
  intro lo hl
  by_cases e : lo < a + 20
  · exact h.step hn ha (by omega) hP hT lo hl e
  · exact ⟨fun i j h1 h2 h3 => by omega, fun i h1 h2 => by omega⟩
/-- How far a round of merges has come. -/
def Hf (r : Int → Int) (n bs a : Nat) (d : Array Int) : Prop := (∀ lo, Mlt (2 * bs) lo → lo < a → Sec r n (2 * bs) lo d) ∧ (∀ lo, Mlt bs lo → a ≤ lo → Sec r n bs lo d)
theorem Hf.start {r : Int → Int} {n bs : Nat} {d : Array Int} (h : ∀ lo, Mlt bs lo → Sec r n bs lo d) : Hf r n bs 0 d := ⟨fun lo _ h => by omega, fun lo h1 _ => h lo h1⟩
theorem Hf.pre {r : Int → Int} {n bs a b : Nat} {d : Array Int} (h : Hf r n bs a d) (ha : Mlt (2 * bs) a) (hb : b = min (a + 2 * bs) n) (hm : a + bs < b) : TS r a (a + bs) d ∧ TS r (a + bs) b d ∧ Cro a (a + bs) b d := by
  have h1 := h.2 a ha.half (Nat.le_refl _)
  have h2 := h.2 (a + bs) ha.half.add (by omega)
  refine ⟨fun i j k1 k2 k3 => h1.1 i j k1 k2 (by omega), fun i j k1 k2 k3 => h2.1 i j k1 k2 (by omega), fun i j k1 k2 k3 k4 => ?_⟩
  have x := (h1.2 i k1 (by omega)).2
  have y := (h2.2 j k3 (by omega)).1
  omega
theorem Hf.sec {r : Int → Int} {n bs a b : Nat} {d d' : Array Int} (h : Hf r n bs a d) (hn : n = d.size) (ha : Mlt (2 * bs) a) (hb : b = min (a + 2 * bs) n) (hP : PermIn a b d d') (hT : TS r a b d') : ∀ lo, Mlt (2 * bs) lo → lo < a + 2 * bs → Sec r n (2 * bs) lo d' := by
  intro lo hl hlt
  by_cases e : lo < a
  · have := hl.gap ha e
    exact (h.1 lo hl e).same (fun i h1 h2 => hP.2.1 i (Or.inl (by omega)))
  · have : lo = a := by
      rcases Nat.lt_or_ge a lo with h1 | h1
      · have := ha.gap hl h1; omega
      · omega
    subst this
    refine ⟨fun i j h1 h2 h3 => hT i j h1 h2 (by omega), fun i h1 h2 => ?_⟩
    have q1 := h.2 lo hl.half (Nat.le_refl _)
    have q2 := h.2 (lo + bs) hl.half.add (by omega)
    refine permIn_any (p := fun x => (lo : Int) ≤ x ∧ x < (lo : Int) + ((2 * bs : Nat) : Int)) (by omega) hP (fun k h3 h4 => ?_) i h1 (by omega)
    by_cases hk : k < lo + bs
    · have := q1.2 k h3 (by omega); omega
    · have := q2.2 k (by omega) (by omega); omega
theorem Hf.next {r : Int → Int} {n bs a : Nat} {d d' : Array Int} (h : Hf r n bs a d) (hn : n = d.size) (ha : Mlt (2 * bs) a) (hb : a + 2 * bs ≤ n) (hP : PermIn a (a + 2 * bs) d d') (hT : TS r a (a + 2 * bs) d') : Hf r n bs (a + 2 * bs) d' :=
  ⟨h.sec hn ha (by omega) hP hT, fun lo h1 h2 => (h.2 lo h1 (by omega)).same (fun i k1 k2 => hP.2.1 i (Or.inr (by omega)))⟩
theorem Hf.last {r : Int → Int} {n bs a : Nat} {d d' : Array Int} (h : Hf r n bs a d) (hn : n = d.size) (ha : Mlt (2 * bs) a) (hb : n < a + 2 * bs) (hP : PermIn a n d d') (hT : TS r a n d') : ∀ lo, Mlt (2 * bs) lo → Sec r n (2 * bs) lo d' := by
  intro lo hl
  by_cases e : lo < a + 2 * bs
  · exact h.sec hn ha (by omega) hP hT lo hl e
  · exact ⟨fun i j h1 h2 h3 => by omega, fun i h1 h2 => by omega⟩
theorem Hf.none {r : Int → Int} {n bs a : Nat} {d : Array Int} (h : Hf r n bs a d) (hn : n = d.size) (ha : Mlt (2 * bs) a) (hb : n ≤ a + bs) (h0 : 0 < bs) : ∀ lo, Mlt (2 * bs) lo → Sec r n (2 * bs) lo d := by
  refine h.last hn ha (d' := d) (by omega) (permIn_refl d a n) ?_
  · have h1 := h.2 a ha.half (Nat.le_refl _)
    exact fun i j k1 k2 k3 => h1.1 i j k1 k2 (by omega)
end Go.Proofs.Ytdbbpmadkhedlaa
/- slices.SortStableFunc of the numbers 0, 1, .. by rests, the greatest first. -/
namespace Go.Proofs.Ytdbbpmadkhedlaa
open Go.RowKit Go.Shelf Go.Lib Go.Sort
set_option linter.unusedVariables false
set_option linter.unusedSimpArgs false

theorem sm_ok (r : Int → Int) (g : Nat) (cb : Array Value) (blk off cap : Nat) (d0 : Array Int) (w0 : World)
    (eg : ∀ args w, (callFunc g args).run Try.prog w = .ok (.enter g args) w) (hC : CmpR r g cb blk off d0.size w0) (R : Row1 iEnc w0 blk off d0) (hsz : d0.size ≤ 100000) : ∀ N, SmOk r g cb blk off cap d0 w0 N
  | 0 => fun a m b d w _ _ h1 h2 _ h3 _ _ _ => absurd h3 (by omega)
  | N + 1 => fun a m b d w hs S ham hmb hb hN hT hT2 hX => by
    by_cases h1 : m = a + 1
    · exact sm_one r g cb blk off cap a m b d0 d w0 w eg hC R hs S h1 hmb hb (by omega) hT2 hX
    · by_cases h2 : b = m + 1
      · exact sm_last r g cb blk off cap a m b d0 d w0 w eg hC R hs S (by omega) h2 hb (by omega) hT hX
      · by_cases h3 : (a + b) / 2 < m
        · exact sm_gen1 r g cb blk off cap a m b _ N d0 d w0 w eg hC R hs S (by omega) (by omega) hb (by omega) hT hT2 hX rfl h3 hN (sm_ok r g cb blk off cap d0 w0 eg hC R hsz N)
        · exact sm_gen2 r g cb blk off cap a m b _ N d0 d w0 w eg hC R hs S (by omega) (by omega) hb (by omega) hT hT2 hX rfl (by omega) hN (sm_ok r g cb blk off cap d0 w0 eg hC R hsz N)
set_option maxHeartbeats 8000000 in
set_option maxRecDepth 1000000 in
theorem stable_any (r : Int → Int) (g : Nat) (cb : Array Value) (blk off cap n : Nat) (d : Array Int) (w0 : World)
    (eg : ∀ args w, (callFunc g args).run Try.prog w = .ok (.enter g args) w) (hC : CmpR r g cb blk off d.size w0) (R : Row1 iEnc w0 blk off d) (hn : n = d.size) (hsz : n ≤ 100000) (hd : ∀ i, i < n → d[i]! = (i : Int)) :
    Calls Try.prog 60 #[.slice (some ⟨blk, off, none⟩) n cap, .int .i64 n, .func (.func g) #[] cb] w0 fun e w' => e = .returned (.tuple #[]) ∧ ∃ d', SV w0 blk off d' w' ∧ PermIn 0 n d d' ∧ TS r 0 n d' := by
  have S0 : Hid (SV w0 blk off d w0) := SV.start R.hH (fun i hi => by rw [hd i (by omega)]; omega)
  have HR : Hid (Row1 iEnc w0 blk off d) := R
  have HC : Hid (CmpR r g cb blk off d.size w0) := hC
  have HI : Hid (∀ N, SmOk r g cb blk off cap d w0 N) := sm_ok r g cb blk off cap d w0 eg hC R (by omega)
  have HP0 : Hid (Ph r n 0 d) := ⟨fun lo _ h => by omega, fun i _ h => hd i h⟩
  have HN : Hid (n = d.size) := hn
  clear R hC hd hn
  go_enter Try.func60, Try.ntmps60
  go_wp2_with fail
  go_loopg [7, 8] n (fun gh va vb wr => ∃ (a b : Nat) (dk : Array Int), va = .int .i64 (a : Int) ∧ vb = .int .i64 (b : Int) ∧ b ≤ n + 20 ∧ a ≤ n ∧ gh = n + 20 - b ∧ Hid (SV w0 blk off dk wr) ∧ Hid (Ph r n a dk ∧ Mlt 20 a ∧ b = a + 20 ∧ dk.size = n ∧ PermIn 0 n d dk))
  case atStart => exact ⟨0, 20, d, rfl, rfl, by omega, by omega, by omega, S0, HP0.out, Mlt.zero _, rfl, HN.out.symm, permIn_refl d 0 n⟩
  case round =>
    clear S0 HP0
    obtain ⟨a, b, dk, rfl, rfl, hbn, han, rfl, S1, HK⟩ := hrel
    by_cases hlt : b ≤ n
    · have hltz : (b : Int) ≤ (n : Int) := by omega
      have C := ins_any r g cb blk off cap a b d dk w0 wr eg HC.out HR.out (by have := HN.out; have := HK.out.2.2.2.1; omega) S1.out (by have := HK.out.2.2.1; omega) (by have := HK.out.2.2.2.1; omega) (by have := HK.out.2.2.2.1; omega) (HK.out.1.ns hlt)
      rw [HK.out.2.2.2.1] at C
      go_wp2_with fail
      refine C.mono ?_
      rintro e w2 ⟨rfl, d2, s2, p2, t2⟩
      clear C
      have S2 : Hid (SV w0 blk off d2 w2) := s2
      have HK2 : Hid (Ph r n b d2 ∧ Mlt 20 b ∧ d2.size = n ∧ PermIn 0 n d d2) := by
        obtain ⟨k1, k2, k3, k4, k5⟩ := HK.out
        subst k3
        exact ⟨k1.next k4.symm k2 hlt p2 t2, k2.add, by rw [p2.1]; exact k4, permIn_trans _ _ _ 0 n k5 (permIn_mono dk d2 _ _ 0 n (by omega) hlt (by omega) p2)⟩
      clear s2 p2 t2
      go_wp2_with fail
      go_roundg (n + 20 - (b + 20))
      case measure => go_light; omega
      case rel => go_light; exact ⟨b, b + 20, d2, rfl, by simp, by omega, hlt, rfl, S2, HK2.out.1, HK2.out.2.1, rfl, HK2.out.2.2.1, HK2.out.2.2.2⟩
    · have hltz : ¬ (b : Int) ≤ (n : Int) := by omega
      have C := ins_any r g cb blk off cap a n d dk w0 wr eg HC.out HR.out (by have := HN.out; have := HK.out.2.2.2.1; omega) S1.out han (by have := HK.out.2.2.2.1; omega) (by have := HK.out.2.2.2.1; omega) (HK.out.1.ns (Nat.le_refl _))
      rw [HK.out.2.2.2.1] at C
      go_wp2_with fail
      refine C.mono ?_
      rintro e w2 ⟨rfl, d2, s2, p2, t2⟩
      clear C
      have S2 : Hid (SV w0 blk off d2 w2) := s2
      have HK2 : Hid ((∀ lo, Mlt 20 lo → Sec r n 20 lo d2) ∧ d2.size = n ∧ PermIn 0 n d d2) := by
        obtain ⟨k1, k2, k3, k4, k5⟩ := HK.out
        subst k3
        exact ⟨k1.last k4.symm k2 (by omega) han p2 t2, by rw [p2.1]; exact k4, permIn_trans _ _ _ 0 n k5 (permIn_mono dk d2 _ _ 0 n (by omega) (Nat.le_refl _) (by omega) p2)⟩
      clear s2 p2 t2 HK S1
      go_wp2_with fail
      go_loopg [6, 7, 8, 9] (n + n - 20) (fun gh vs va vb vm wr => ∃ (bs : Nat) (dk : Array Int), vs = .int .i64 (bs : Int) ∧ 0 < bs ∧ bs < n + n + 40 ∧ gh = n + n - bs ∧ Hid (SV w0 blk off dk wr) ∧ Hid ((∀ lo, Mlt bs lo → Sec r n bs lo dk) ∧ dk.size = n ∧ PermIn 0 n d dk))
      case atStart => exact ⟨20, d2, rfl, by omega, by omega, by omega, S2, HK2⟩
      case round =>
        clear S2 HK2
        obtain ⟨bs, d3, rfl, hb0, hb1, rfl, S3, HK3⟩ := hrel
        by_cases hbl : bs < n
        · have hblz : (bs : Int) < (n : Int) := by omega
          obtain ⟨b2, hb2⟩ : ∃ b2, b2 = 2 * bs := ⟨_, rfl⟩
          have eb2 : 2 * (bs : Int) = (b2 : Int) := by omega
          have eb3 : (bs : Int) * 2 = (b2 : Int) := by omega
          have HB : Hid (b2 = 2 * bs) := hb2
          have hb3 : b2 ≤ 2 * n := by omega
          have hb4 : bs < b2 := by omega
          clear hb2
          go_wp2_with fail
          go_loopg [7, 8] n (fun gh va vb wr => ∃ (a b : Nat) (dk : Array Int), va = .int .i64 (a : Int) ∧ vb = .int .i64 (b : Int) ∧ b ≤ n + b2 ∧ a ≤ n ∧ gh = n + b2 - b ∧ Hid (SV w0 blk off dk wr) ∧ Hid (Hf r n bs a dk ∧ Mlt b2 a ∧ b = a + b2 ∧ dk.size = n ∧ PermIn 0 n d dk))
          case atStart => exact ⟨0, b2, d3, rfl, rfl, by omega, by omega, by omega, S3, Hf.start HK3.out.1, Mlt.zero _, by omega, HK3.out.2.1, HK3.out.2.2⟩
          case round =>
            clear S3 HK3
            obtain ⟨a, b, dk, rfl, rfl, hbn, han, rfl, S1, HK⟩ := hrel
            by_cases hlt : b ≤ n
            · have hltz : (b : Int) ≤ (n : Int) := by omega
              obtain ⟨m, hm⟩ : ∃ m, m = a + bs := ⟨_, rfl⟩
              have em : (a : Int) + (bs : Int) = (m : Int) := by omega
              have HP : Hid (TS r a m dk ∧ TS r m b dk ∧ Cro a m b dk) := by
                obtain ⟨k1, k2, k3, k4, k5⟩ := HK.out
                have := HB.out
                rw [hm]
                exact k1.pre (by rw [← this]; exact k2) (by omega) (by omega)
              have C := HI.out (b - a) a m b dk wr (by have := HN.out; have := HK.out.2.2.2.1; omega) S1.out (by omega) (by have := HK.out.2.2.1; have := HB.out; omega) (by have := HK.out.2.2.2.1; omega) (Nat.le_refl _) HP.out.1 HP.out.2.1 HP.out.2.2
              rw [HK.out.2.2.2.1] at C
              clear hm
              go_wp2_with fail
              refine C.mono ?_
              rintro e w2 ⟨rfl, d2, s2, p2, t2⟩
              clear C
              have S2 : Hid (SV w0 blk off d2 w2) := s2
              have HK2 : Hid (Hf r n bs b d2 ∧ Mlt b2 b ∧ d2.size = n ∧ PermIn 0 n d d2) := by
                obtain ⟨k1, k2, k3, k4, k5⟩ := HK.out
                have hB := HB.out
                subst hB
                subst k3
                exact ⟨k1.next k4.symm k2 hlt p2 t2, k2.add, by rw [p2.1]; exact k4, permIn_trans _ _ _ 0 n k5 (permIn_mono dk d2 _ _ 0 n (by omega) hlt (by omega) p2)⟩
              clear s2 p2 t2 HP
              go_wp2_with fail
              go_roundg (n + b2 - (b + b2))
              case measure => go_light; omega
              case rel => go_light; exact ⟨b, b + b2, d2, rfl, by simp, by omega, hlt, rfl, S2, HK2.out.1, HK2.out.2.1, rfl, HK2.out.2.2.1, HK2.out.2.2.2⟩
            · have hltz : ¬ (b : Int) ≤ (n : Int) := by omega
              obtain ⟨m, hm⟩ : ∃ m, m = a + bs := ⟨_, rfl⟩
              have em : (a : Int) + (bs : Int) = (m : Int) := by omega
              by_cases hmn : m < n
              · have hmz : (m : Int) < (n : Int) := by omega
                have HP : Hid (TS r a m dk ∧ TS r m n dk ∧ Cro a m n dk) := by
                  obtain ⟨k1, k2, k3, k4, k5⟩ := HK.out
                  have := HB.out
                  rw [hm]
                  exact k1.pre (by rw [← this]; exact k2) (by omega) (by omega)
                have C := HI.out (n - a) a m n dk wr (by have := HN.out; have := HK.out.2.2.2.1; omega) S1.out (by omega) hmn (by have := HK.out.2.2.2.1; omega) (Nat.le_refl _) HP.out.1 HP.out.2.1 HP.out.2.2
                rw [HK.out.2.2.2.1] at C
                clear hm
                go_wp2_with fail
                refine C.mono ?_
                rintro e w2 ⟨rfl, d2, s2, p2, t2⟩
                clear C
                have S2 : Hid (SV w0 blk off d2 w2) := s2
                have HK2 : Hid ((∀ lo, Mlt b2 lo → Sec r n b2 lo d2) ∧ d2.size = n ∧ PermIn 0 n d d2) := by
                  obtain ⟨k1, k2, k3, k4, k5⟩ := HK.out
                  have hB := HB.out
                  subst hB
                  subst k3
                  exact ⟨k1.last k4.symm k2 (by omega) p2 t2, by rw [p2.1]; exact k4, permIn_trans _ _ _ 0 n k5 (permIn_mono dk d2 _ _ 0 n (by omega) (Nat.le_refl _) (by omega) p2)⟩
                clear s2 p2 t2 HP
                go_wp2_with fail
                go_roundg (n + n - b2)
                case measure => go_light; omega
                case rel => go_light; exact ⟨b2, d2, rfl, by omega, by omega, rfl, S2, HK2⟩
              · have hmz : ¬ (m : Int) < (n : Int) := by omega
                have HK2 : Hid ((∀ lo, Mlt b2 lo → Sec r n b2 lo dk) ∧ dk.size = n ∧ PermIn 0 n d dk) := by
                  obtain ⟨k1, k2, k3, k4, k5⟩ := HK.out
                  have hB := HB.out
                  subst hB
                  exact ⟨k1.none k4.symm k2 (by omega) hb0, k4, k5⟩
                clear hm
                go_wp2_with fail
                go_roundg (n + n - b2)
                case measure => go_light; omega
                case rel => go_light; exact ⟨b2, dk, rfl, by omega, by omega, rfl, S1, HK2⟩
        · have hblz : ¬ (bs : Int) < (n : Int) := by omega
          have HE : Hid (TS r 0 n d3) := fun i j h1 h2 h3 => (HK3.out.1 0 (Mlt.zero _)).1 i j h1 h2 (by omega)
          go_wp2_with fail
          go_end0
          exact ⟨rfl, d3, S3.out, HK3.out.2.2, HE.out⟩
set_option maxHeartbeats 2000000 in
set_option maxRecDepth 100000 in
theorem sortst_any (r : Int → Int) (g : Nat) (cb : Array Value) (blk off cap n : Nat) (d : Array Int) (w0 : World)
    (eg : ∀ args w, (callFunc g args).run Try.prog w = .ok (.enter g args) w) (hC : CmpR r g cb blk off d.size w0) (R : Row1 iEnc w0 blk off d) (hn : n = d.size) (hsz : n ≤ 100000) (hd : ∀ i, i < n → d[i]! = (i : Int)) :
    Calls Try.prog 54 #[.slice (some ⟨blk, off, none⟩) n cap, .func (.func g) #[] cb] w0 fun e w' => e = .returned (.tuple #[]) ∧ ∃ d', SV w0 blk off d' w' ∧ PermIn 0 n d d' ∧ TS r 0 n d' := by
  have C := stable_any r g cb blk off cap n d w0 eg hC R hn hsz hd
  clear hC R hn hd
  go_enter Try.func54, Try.ntmps54
  go_wp2_with fail
  refine C.mono ?_
  rintro e w2 ⟨rfl, d2, s2⟩
  clear C
  have HH : Hid _ := s2
  clear s2
  go_wp2_with fail
  go_end0
  exact ⟨rfl, d2, HH.out⟩
end Go.Proofs.Ytdbbpmadkhedlaa

/- A stable sort, walked: symMerge with one number. -/
import Derived.Test.YtcolhgngiflkhaaGd21608e6
namespace Go.Proofs.Ytcolhgngiflkhaa
open Go.RowKit Go.Shelf Go.Lib Go.Sort
set_option linter.unusedVariables false
set_option linter.unusedSimpArgs false

set_option maxHeartbeats 4000000 in
set_option maxRecDepth 1000000 in
theorem sm_last (r : Int → Int) (g : Nat) (cb : Array Value) (blk off cap a m b : Nat) (d0 d : Array Int) (w0 w : World)
    (eg : ∀ args w, (callFunc g args).run Try.prog w = .ok (.enter g args) w) (hC : CmpR r g cb blk off d0.size w0) (R : Row1 iEnc w0 blk off d0) (hs : d0.size = d.size) (S : SV w0 blk off d w) (hm : a + 2 ≤ m) (hmb : b = m + 1) (hb : b ≤ d.size) (hsz : d.size ≤ 100000) (hT : TS r a m d) (hX : Cro a m b d) :
    Calls Try.prog 61 #[.slice (some ⟨blk, off, none⟩) d.size cap, .int .i64 a, .int .i64 m, .int .i64 b, .func (.func g) #[] cb] w fun e w' => e = .returned (.tuple #[]) ∧ ∃ d', SV w0 blk off d' w' ∧ PermIn a b d d' ∧ TS r a b d' := by
  have mixed := mixedT
  have S0 : Hid (SV w0 blk off d w) := S
  have HR : Hid (Row1 iEnc w0 blk off d0) := R
  have HC : Hid (CmpR r g cb blk off d0.size w0) := hC
  have HT : Hid (TS r a m d ∧ Cro a m b d ∧ b = m + 1) := ⟨hT, hX, hmb⟩
  have hma : ((m : Int) - (a : Int) == 1) = false := by simp; omega
  have hma' : ¬ (m : Int) - (a : Int) = 1 := by omega
  have hbm : (b : Int) - (m : Int) = 1 := by omega
  have hmb1 : m < b := by omega
  have hmb2 : b ≤ m + 1 := by omega
  clear S R hC hT hX hmb
  go_enter Try.func61, Try.ntmps61
  go_wp2_with fail
  go_loopg [14, 15] (m - a) (fun gh vi vj wr => ∃ (i j : Nat), vi = .int .i64 (i : Int) ∧ vj = .int .i64 (j : Int) ∧ a ≤ i ∧ i ≤ j ∧ j ≤ m ∧ gh = j - i ∧ Hid (SV w0 blk off d wr) ∧ Hid ((i = a ∨ tlt r d[i - 1]! d[m]!) ∧ (j = m ∨ tlt r d[m]! d[j]!)))
  case atStart => exact ⟨a, m, rfl, rfl, Nat.le_refl _, by omega, Nat.le_refl _, rfl, S0, Or.inl rfl, Or.inl rfl⟩
  case round =>
    clear S0
    obtain ⟨i, j, rfl, rfl, hmi, hij, hjb, rfl, S1, HP⟩ := hrel
    by_cases hlt : i < j
    · have hltz : (i : Int) < (j : Int) := by omega
      obtain ⟨h, hh⟩ : ∃ h, h = (i + j) / 2 := ⟨_, rfl⟩
      have eh : ((i : Int) + (j : Int)) / 2 = (h : Int) := by omega
      have hh1 : i ≤ h := by omega
      have hh2 : h < j := by omega
      have pa : h < d.size := by omega
      have pa' : (h : Int) < (d.size : Int) := by omega
      have pb : m < d.size := by omega
      have pb' : (m : Int) < (d.size : Int) := by omega
      obtain ⟨x, hx⟩ : ∃ x, x = d[m]! := ⟨_, rfl⟩
      obtain ⟨y, hy⟩ : ∃ y, y = d[h]! := ⟨_, rfl⟩
      have l1 := S1.out.c1 HR.out (by omega) m (by omega)
      have l2 := S1.out.c1 HR.out (by omega) h (by omega)
      rw [← hx] at l1
      rw [← hy] at l2
      have hc := S1.out.cmp HC.out (by omega) m h (by omega) (by omega)
      rw [← hx, ← hy] at hc
      have hlt' := HT.out.2.1 h m (by omega) (by omega) (Nat.le_refl _) (by omega)
      rw [← hx, ← hy] at hlt'
      have HH : Hid (x = d[m]! ∧ y = d[h]! ∧ y < x) := ⟨hx, hy, hlt'⟩
      clear hx hy hlt' hh
      by_cases hv : cfR r x y < 0
      · have HN : Hid (tlt r x y) := tlt_of_lt ((cfR_neg r x y).1 hv)
        generalize cfR r x y = cv at hc hv
        have hd : decide (cv < 0) = true := decide_eq_true hv
        go_wp2_with fail
        go_quiet (first | (go_at_fn g; refine Calls.quiet_of (hc _)))
        have S2 : Hid (SV w0 blk off d (wr.drewN nq)) := S1.out.drewN nq
        clear l1 l2 hc S1
        generalize wr.drewN nq = w2 at S2 ⊢
        clear nq
        go_wp2_with fail
        go_roundg (h - i)
        case measure => go_light; omega
        case rel => go_light; exact ⟨i, h, rfl, rfl, hmi, hh1, by omega, rfl, S2, HP.out.1, Or.inr (by rw [← HH.out.1, ← HH.out.2.1]; exact HN.out)⟩
      · have HN : Hid (tlt r y x) := tlt_of_not HH.out.2.2 (fun h => hv ((cfR_neg r x y).2 h))
        generalize cfR r x y = cv at hc hv
        have hd : decide (cv < 0) = false := decide_eq_false hv
        go_wp2_with fail
        go_quiet (first | (go_at_fn g; refine Calls.quiet_of (hc _)))
        have S2 : Hid (SV w0 blk off d (wr.drewN nq)) := S1.out.drewN nq
        clear l1 l2 hc S1
        generalize wr.drewN nq = w2 at S2 ⊢
        clear nq
        go_wp2_with fail
        go_roundg (j - (h + 1))
        case measure => go_light; omega
        case rel => go_light; exact ⟨h + 1, j, by simp, rfl, by omega, by omega, hjb, rfl, S2, Or.inr (by rw [Nat.add_sub_cancel, ← HH.out.1, ← HH.out.2.1]; exact HN.out), HP.out.2⟩
    · have hge : ¬ (i : Int) < (j : Int) := by omega
      obtain rfl : i = j := by omega
      go_wp2_with fail
      go_loopg [17] (m - i) (fun gh vk wr2 => ∃ (k : Nat) (dk : Array Int), vk = .int .i64 (k : Int) ∧ i ≤ k ∧ k ≤ m ∧ gh = k - i ∧ dk.size = d.size ∧ Hid (SV w0 blk off dk wr2) ∧ Hid (ShD m k d dk ∧ PermI a b d dk))
      case atStart => exact ⟨m, d, rfl, hjb, Nat.le_refl _, rfl, rfl, S1, ShD.zero m d, PermI.refl _ _ d⟩
      case round =>
        clear S1
        obtain ⟨k, dk, rfl, hik, hkm, rfl, hsk, SK, HK⟩ := hrel
        by_cases hkl : i < k
        · obtain ⟨q, hq⟩ : ∃ q, k = q + 1 := ⟨k - 1, by omega⟩
          have hkz : (i : Int) < (k : Int) := by omega
          have eb : (k : Int) - 1 = (q : Int) := by omega
          have pa : k < d.size := by omega
          have pb : q < d.size := by omega
          have pa' : (k : Int) < (d.size : Int) := by omega
          have pb' : (q : Int) < (d.size : Int) := by omega
          have rb : IntKind.i64.wrap (q : Int) = (q : Int) := by rw [IntKind.wrap_i64]; omega
          obtain ⟨x, hx⟩ : ∃ x, x = dk[k]! := ⟨_, rfl⟩
          obtain ⟨y, hy⟩ : ∃ y, y = dk[q]! := ⟨_, rfl⟩
          have c1 := SK.out.c1 HR.out (by omega) k (by omega)
          have c2 := SK.out.c1 HR.out (by omega) q (by omega)
          have f1 := SK.out.f1 HR.out (by omega) k (by omega)
          have f2 := SK.out.f1 HR.out (by omega) q (by omega)
          obtain ⟨u, c3⟩ := SK.out.c2 HR.out (by omega) k q (by omega) (by omega) (iEnc y)
          have S3 : Hid (SV w0 blk off (swp dk k q) ((wr.setCell ⟨blk, off + k, none⟩ (iEnc y)).setCell ⟨blk, off + q, none⟩ (iEnc x)).drew) := by rw [hx, hy]; exact SK.out.swapped HR.out k q (by omega) (by omega)
          rw [← hx] at c1
          rw [← hy] at c2
          have HX : Hid (x = dk[k]! ∧ y = dk[q]! ∧ k = q + 1) := ⟨hx, hy, hq⟩
          clear hx hy hq SK hs hsk
          go_wp2_with fail
          go_big_region_o
          clear c1 c2 c3 f1 f2
          generalize ((wr.setCell ⟨blk, off + k, none⟩ (iEnc y)).setCell ⟨blk, off + q, none⟩ (iEnc x)).drew = w3 at S3 ⊢
          go_wp2_with fail
          go_roundg (q - i)
          case measure => go_light; have := HX.out.2.2; omega
          case rel =>
            go_light
            obtain ⟨hx, hy, rfl⟩ := HX.out
            have hz := HK.out.1.sz
            exact ⟨q, swp dk (q + 1) q, rfl, by omega, by omega, rfl, by rw [size_swp, hz], S3, HK.out.1.step hkm (by omega), HK.out.2.trans (PermI.swp (by omega) (by omega) (by omega) (by omega)) hz⟩
        · have hkge : ¬ (i : Int) < (k : Int) := by omega
          obtain rfl : i = k := by omega
          have HE : Hid (PermIn a b d dk ∧ TS r a b dk) := by
            obtain ⟨h1, h2, h3⟩ := HT.out
            refine ⟨HK.out.2 a b (Nat.le_refl _) (Nat.le_refl _) hb, ?_⟩
            subst h3
            exact merge_last h1 hmi hjb HP.out.1 HP.out.2 HK.out.1
          go_wp2_with fail
          ((try simp only [Exit.inBlock, Exit.then]); refine bodyPost_ret (results_none rfl _ _ _) rfl ?_)
          exact ⟨rfl, dk, SK.out, HE.out.1, HE.out.2⟩
end Go.Proofs.Ytcolhgngiflkhaa
/- A stable sort, walked: symMerge of two ranges, each of two numbers or more. -/
namespace Go.Proofs.Ytcolhgngiflkhaa
open Go.RowKit Go.Shelf Go.Lib Go.Sort
set_option linter.unusedVariables false
set_option linter.unusedSimpArgs false

theorem Mid.skip1 {r : Int → Int} {a s mid e b : Nat} {d : Array Int} (h : Mid r a s mid e b d) (hs : a = s ∨ s = mid) : PermIn a mid d d ∧ TS r a mid d := by
  refine ⟨permIn_refl d a mid, ?_⟩
  rcases hs with rfl | rfl
  · exact h.t2
  · exact h.t1
theorem sm_skip2 {r : Int → Int} {mid e b : Nat} {d : Array Int} (h3 : TS r mid e d) (h4 : TS r e b d) (hs : mid = e ∨ e = b) : PermIn mid b d d ∧ TS r mid b d := by
  refine ⟨permIn_refl d mid b, ?_⟩
  rcases hs with rfl | rfl
  · exact h4
  · exact h3
theorem sm_close {r : Int → Int} {a s mid e b : Nat} {d d1 d2 d3 : Array Int} (M : Mid r a s mid e b d1) (ham : a ≤ mid) (hmb : mid ≤ b) (hb : b ≤ d.size) (hme : mid ≤ e) (heb : e ≤ b) (P1 : PermIn a b d d1) (P2 : PermIn a mid d1 d2) (T2 : TS r a mid d2) (P3 : PermIn mid b d2 d3) (T3 : TS r mid b d3) : PermIn a b d d3 ∧ TS r a b d3 := by
  have z1 := P1.1
  have z2 := P2.1
  obtain ⟨k1, k2, k3, k4, k5⟩ := M.left hmb (by omega) hme heb P2 T2
  refine ⟨permIn_trans _ _ _ a b P1 (permIn_trans _ _ _ a b (permIn_mono d1 d2 a mid a b (Nat.le_refl _) hmb (by omega) P2) (permIn_mono d2 d3 mid b a b ham (Nat.le_refl _) (by omega) P3)), ?_⟩
  exact mid_end ham hmb (by omega) k1 k5 P3 T3
/-- symMerge's contract, of ranges of at most N numbers. -/
def SmOk (r : Int → Int) (g : Nat) (cb : Array Value) (blk off cap : Nat) (d0 : Array Int) (w0 : World) (N : Nat) : Prop :=
  ∀ (a m b : Nat) (d : Array Int) (w : World), d0.size = d.size → SV w0 blk off d w → a < m → m < b → b ≤ d.size → b - a ≤ N → TS r a m d → TS r m b d → Cro a m b d →
    Calls Try.prog 61 #[.slice (some ⟨blk, off, none⟩) d.size cap, .int .i64 a, .int .i64 m, .int .i64 b, .func (.func g) #[] cb] w fun e w' => e = .returned (.tuple #[]) ∧ ∃ d', SV w0 blk off d' w' ∧ PermIn a b d d' ∧ TS r a b d'
set_option maxHeartbeats 8000000 in
set_option maxRecDepth 1000000 in
theorem sm_gen1 (r : Int → Int) (g : Nat) (cb : Array Value) (blk off cap a m b mid N : Nat) (d0 d : Array Int) (w0 w : World)
    (eg : ∀ args w, (callFunc g args).run Try.prog w = .ok (.enter g args) w) (hC : CmpR r g cb blk off d0.size w0) (R : Row1 iEnc w0 blk off d0) (hs : d0.size = d.size) (S : SV w0 blk off d w) (ham : a + 2 ≤ m) (hmb : m + 2 ≤ b) (hb : b ≤ d.size) (hsz : d.size ≤ 100000) (hT : TS r a m d) (hT2 : TS r m b d) (hX : Cro a m b d)
    (hmid : mid = (a + b) / 2) (hcs : mid < m) (hN : b - a ≤ N + 1) (IH : SmOk r g cb blk off cap d0 w0 N) :
    Calls Try.prog 61 #[.slice (some ⟨blk, off, none⟩) d.size cap, .int .i64 a, .int .i64 m, .int .i64 b, .func (.func g) #[] cb] w fun e w' => e = .returned (.tuple #[]) ∧ ∃ d', SV w0 blk off d' w' ∧ PermIn a b d d' ∧ TS r a b d' := by
  have mixed := mixedT
  have S0 : Hid (SV w0 blk off d w) := S
  have HR : Hid (Row1 iEnc w0 blk off d0) := R
  have HC : Hid (CmpR r g cb blk off d0.size w0) := hC
  have HT : Hid (TS r a m d ∧ TS r m b d ∧ Cro a m b d) := ⟨hT, hT2, hX⟩
  have HI : Hid (SmOk r g cb blk off cap d0 w0 N) := IH
  have hma : ((m : Int) - (a : Int) == 1) = false := by simp; omega
  have hma' : ¬ (m : Int) - (a : Int) = 1 := by omega
  have hbm : ((b : Int) - (m : Int) == 1) = false := by simp; omega
  have hbm' : ¬ (b : Int) - (m : Int) = 1 := by omega
  have emid : ((a : Int) + (b : Int)) / 2 = (mid : Int) := by omega
  have hm1 : a + 2 ≤ mid := by omega
  have hm2 : mid + 2 ≤ b := by omega
  have hm3 : a + b ≤ 2 * mid + 1 := by omega
  have hm4 : 2 * mid ≤ a + b := by omega
  obtain ⟨n, hn⟩ : ∃ n, n = mid + m := ⟨_, rfl⟩
  have en : (mid : Int) + (m : Int) = (n : Int) := by omega
  obtain ⟨p, hp⟩ : ∃ p, n = p + 1 := ⟨n - 1, by omega⟩
  have ep : (n : Int) - 1 = (p : Int) := by omega
  have HN : Hid (n = mid + m ∧ n = p + 1) := ⟨hn, hp⟩
  obtain ⟨lo, hlo⟩ : ∃ lo, n = lo + b := ⟨n - b, by omega⟩
  have elo : (n : Int) - (b : Int) = (lo : Int) := by omega
  obtain ⟨hi, hhi⟩ : ∃ hi, hi = mid := ⟨_, rfl⟩
  have hcs' : (mid : Int) < (m : Int) := by omega
  have HE : Hid (n = lo + b ∧ hi = mid) := ⟨hlo, hhi⟩
  clear S R hC hT hT2 hX IH hmid hn hp hlo hhi
  go_enter Try.func61, Try.ntmps61
  go_wp2_with fail
  go_loopg [20, 21] (hi - lo) (fun gh vs vt wr => ∃ (s t : Nat), vs = .int .i64 (s : Int) ∧ vt = .int .i64 (t : Int) ∧ lo ≤ s ∧ s ≤ t ∧ t ≤ hi ∧ gh = t - s ∧ Hid (SV w0 blk off d wr) ∧ Hid ((s = lo ∨ tlt r d[s - 1]! d[n - s]!) ∧ (t = hi ∨ tlt r d[n - 1 - t]! d[t]!)))
  case atStart => exact ⟨lo, mid, rfl, rfl, Nat.le_refl _, by have := HE.out; have := HN.out; omega, by have := HE.out; omega, by have := HE.out; omega, S0, Or.inl rfl, Or.inl HE.out.2.symm⟩
  case round =>
    clear S0
    obtain ⟨s, t, rfl, rfl, hls, hst, hth, rfl, S1, HP⟩ := hrel
    by_cases hlt : s < t
    · have hltz : (s : Int) < (t : Int) := by omega
      obtain ⟨c, hc0⟩ : ∃ c, c = (s + t) / 2 := ⟨_, rfl⟩
      have ec : ((s : Int) + (t : Int)) / 2 = (c : Int) := by omega
      have hc1 : s ≤ c := by omega
      have hc2 : c < t := by omega
      obtain ⟨o, ho⟩ : ∃ o, p = o + c := ⟨p - c, by have := HE.out; have := HN.out; omega⟩
      have eo : (p : Int) - (c : Int) = (o : Int) := by omega
      have hb1 : a ≤ c := by have := HE.out; have := HN.out; omega
      have hb2 : c < m := by have := HE.out; have := HN.out; omega
      have hb3 : m ≤ o := by have := HE.out; have := HN.out; omega
      have hb4 : o < b := by have := HE.out; have := HN.out; omega
      have pa : o < d.size := by omega
      have pa' : (o : Int) < (d.size : Int) := by omega
      have pb : c < d.size := by omega
      have pb' : (c : Int) < (d.size : Int) := by omega
      have ro : IntKind.i64.wrap (o : Int) = (o : Int) := by rw [IntKind.wrap_i64]; omega
      obtain ⟨x, hx⟩ : ∃ x, x = d[o]! := ⟨_, rfl⟩
      obtain ⟨y, hy⟩ : ∃ y, y = d[c]! := ⟨_, rfl⟩
      have l1 := S1.out.c1 HR.out (by omega) o (by omega)
      have l2 := S1.out.c1 HR.out (by omega) c (by omega)
      rw [← hx] at l1
      rw [← hy] at l2
      have hc := S1.out.cmp HC.out (by omega) o c (by omega) (by omega)
      rw [← hx, ← hy] at hc
      have hlt' := HT.out.2.2 c o hb1 hb2 hb3 hb4
      rw [← hx, ← hy] at hlt'
      have HH : Hid (x = d[o]! ∧ y = d[c]! ∧ y < x ∧ p = o + c) := ⟨hx, hy, hlt', ho⟩
      clear hx hy hlt' hc0 ho hb1 hb2 hb3 hb4
      by_cases hv : cfR r x y < 0
      · have HV : Hid (tlt r x y) := tlt_of_lt ((cfR_neg r x y).1 hv)
        generalize cfR r x y = cv at hc hv
        have hd : decide (cv < 0) = true := decide_eq_true hv
        go_wp2_with fail
        go_quiet (first | (go_at_fn g; refine Calls.quiet_of (hc _)))
        have S2 : Hid (SV w0 blk off d (wr.drewN nq)) := S1.out.drewN nq
        clear l1 l2 hc S1
        generalize wr.drewN nq = w2 at S2 ⊢
        clear nq
        go_wp2_with fail
        go_roundg (c - s)
        case measure => go_light; omega
        case rel => go_light; exact ⟨s, c, rfl, rfl, hls, hc1, by omega, rfl, S2, HP.out.1, Or.inr (by rw [show n - 1 - c = o by have := HN.out; have := HH.out.2.2.2; omega, ← HH.out.1, ← HH.out.2.1]; exact HV.out)⟩
      · have HV : Hid (tlt r y x) := tlt_of_not HH.out.2.2.1 (fun h => hv ((cfR_neg r x y).2 h))
        generalize cfR r x y = cv at hc hv
        have hd : decide (cv < 0) = false := decide_eq_false hv
        go_wp2_with fail
        go_quiet (first | (go_at_fn g; refine Calls.quiet_of (hc _)))
        have S2 : Hid (SV w0 blk off d (wr.drewN nq)) := S1.out.drewN nq
        clear l1 l2 hc S1
        generalize wr.drewN nq = w2 at S2 ⊢
        clear nq
        go_wp2_with fail
        go_roundg (t - (c + 1))
        case measure => go_light; omega
        case rel => go_light; exact ⟨c + 1, t, by simp, rfl, by omega, by omega, hth, rfl, S2, Or.inr (by rw [Nat.add_sub_cancel, show n - (c + 1) = o by have := HN.out; have := HH.out.2.2.2; omega, ← HH.out.1, ← HH.out.2.1]; exact HV.out), HP.out.2⟩
    · have hge : ¬ (s : Int) < (t : Int) := by omega
      obtain rfl : s = t := by omega
      obtain ⟨e, he⟩ : ∃ e, n = e + s := ⟨n - s, by have := HE.out; have := HN.out; omega⟩
      have ee : (n : Int) - (s : Int) = (e : Int) := by omega
      have b1 : a ≤ s := by have := HE.out; have := HN.out; omega
      have b2 : s ≤ m := by have := HE.out; have := HN.out; omega
      have b3 : m ≤ e := by have := HE.out; have := HN.out; omega
      have b4 : e ≤ b := by have := HE.out; have := HN.out; omega
      have b5 : mid + m = s + e := by have := HN.out; omega
      have HL : Hid ((s = a ∨ e = b ∨ tlt r d[s - 1]! d[e]!) ∧ (s = m ∨ e = m ∨ tlt r d[e - 1]! d[s]!)) := by
        obtain ⟨q1, q2⟩ := HP.out
        have h1 := HE.out
        have h2 := HN.out
        refine ⟨?_, ?_⟩
        · rcases q1 with q | q
          · first | exact Or.inl (by omega) | exact Or.inr (Or.inl (by omega))
          · exact Or.inr (Or.inr (by rw [show e = n - s by omega]; exact q))
        · rcases q2 with q | q
          · first | exact Or.inl (by omega) | exact Or.inr (Or.inl (by omega))
          · exact Or.inr (Or.inr (by rw [show e - 1 = n - 1 - s by omega]; exact q))
      have HM : Hid (∀ d1, Rot s m e d d1 → Mid r a s mid e b d1) := fun d1 h => mid_of b1 b2 b3 b4 b5 HT.out.1 HT.out.2.1 HT.out.2.2 HL.out.1 HL.out.2 h
      have HB : Hid (mid + m = s + e ∧ n = e + s) := ⟨b5, he⟩
      clear HP HL b5 he hls hst
      by_cases h1 : s < m
      · have h1' : (s : Int) < (m : Int) := by omega
        by_cases h2 : m < e
        · have h2' : (m : Int) < (e : Int) := by omega
          have h3' : (s : Int) < (mid : Int) := by have := HB.out; omega
          have h4' : (mid : Int) < (e : Int) := by have := HB.out; omega
          have C1 := rot_any blk off cap s m e d0 d w0 wr (.func (.func g) #[] cb) HR.out (by omega) S1.out h1 h2 (by omega) hsz
          go_wp2_with fail
          refine C1.mono ?_
          rintro e' w3 ⟨rfl, d3, s3, r3, p3⟩
          clear C1
          have S3 : Hid (SV w0 blk off d3 w3) := s3
          have MM : Hid (Mid r a s mid e b d3 ∧ PermIn a b d d3 ∧ True) := ⟨HM.out d3 r3, p3 a b b1 b4 hb, trivial⟩
          clear s3 r3 p3
          by_cases h5 : a < s
          · have h5' : (a : Int) < (s : Int) := by omega
            by_cases h6 : e < b
            · have h6' : (e : Int) < (b : Int) := by omega
              have C2 := HI.out a s mid d3 w3 (by have := MM.out.2.1.1; omega) S3.out (by omega) (by have := HB.out; omega) (by have := MM.out.2.1.1; omega) (by omega) MM.out.1.t1 MM.out.1.t2 MM.out.1.c1
              rw [MM.out.2.1.1] at C2
              go_wp2_with fail
              refine C2.mono ?_
              rintro e' w4 ⟨rfl, d4, s4, p4, t4⟩
              clear C2
              have S4 : Hid (SV w0 blk off d4 w4) := s4
              have P2 : Hid (PermIn a mid d3 d4 ∧ TS r a mid d4) := ⟨p4, t4⟩
              clear s4 p4 t4
              have P5 : Hid (TS r mid e d4 ∧ TS r e b d4 ∧ Cro mid e b d4 ∧ d4.size = d.size) := by
                have z1 := MM.out.2.1.1
                have z2 := P2.out.1.1
                obtain ⟨k1, k2, k3, k4, k5⟩ := MM.out.1.left (by omega) (by omega) (by have := HB.out; omega) b4 P2.out.1 P2.out.2
                exact ⟨k2, k3, k4, by omega⟩
              have C3 := HI.out mid e b d4 w4 (by have := P5.out.2.2.2; omega) S4.out (by have := HB.out; omega) (by omega) (by have := P5.out.2.2.2; omega) (by omega) P5.out.1 P5.out.2.1 P5.out.2.2.1
              rw [P5.out.2.2.2] at C3
              go_wp2_with fail
              refine C3.mono ?_
              rintro e' w5 ⟨rfl, d5, s5, p5, t5⟩
              clear C3
              have S5 : Hid (SV w0 blk off d5 w5) := s5
              have P3 : Hid (PermIn mid b d4 d5 ∧ TS r mid b d5) := ⟨p5, t5⟩
              clear s5 p5 t5
              go_wp2_with fail
              go_end0
              exact ⟨rfl, d5, S5.out, sm_close MM.out.1 (by omega) (by omega) hb (by have := HB.out; omega) b4 MM.out.2.1 P2.out.1 P2.out.2 P3.out.1 P3.out.2⟩
            · have h6' : ¬ (e : Int) < (b : Int) := by omega
              have C2 := HI.out a s mid d3 w3 (by have := MM.out.2.1.1; omega) S3.out (by omega) (by have := HB.out; omega) (by have := MM.out.2.1.1; omega) (by omega) MM.out.1.t1 MM.out.1.t2 MM.out.1.c1
              rw [MM.out.2.1.1] at C2
              go_wp2_with fail
              refine C2.mono ?_
              rintro e' w4 ⟨rfl, d4, s4, p4, t4⟩
              clear C2
              have S4 : Hid (SV w0 blk off d4 w4) := s4
              have P2 : Hid (PermIn a mid d3 d4 ∧ TS r a mid d4) := ⟨p4, t4⟩
              clear s4 p4 t4
              have P5 : Hid (TS r mid e d4 ∧ TS r e b d4 ∧ Cro mid e b d4 ∧ d4.size = d.size) := by
                have z1 := MM.out.2.1.1
                have z2 := P2.out.1.1
                obtain ⟨k1, k2, k3, k4, k5⟩ := MM.out.1.left (by omega) (by omega) (by have := HB.out; omega) b4 P2.out.1 P2.out.2
                exact ⟨k2, k3, k4, by omega⟩
              have P3 : Hid (PermIn mid b d4 d4 ∧ TS r mid b d4) := sm_skip2 P5.out.1 P5.out.2.1 (by have := HB.out; omega)
              go_wp2_with fail
              go_end0
              exact ⟨rfl, d4, S4.out, sm_close MM.out.1 (by omega) (by omega) hb (by have := HB.out; omega) b4 MM.out.2.1 P2.out.1 P2.out.2 P3.out.1 P3.out.2⟩
          · have h5' : ¬ (a : Int) < (s : Int) := by omega
            by_cases h6 : e < b
            · have h6' : (e : Int) < (b : Int) := by omega
              have P2 : Hid (PermIn a mid d3 d3 ∧ TS r a mid d3) := MM.out.1.skip1 (by have := HB.out; omega)
              have P5 : Hid (TS r mid e d3 ∧ TS r e b d3 ∧ Cro mid e b d3 ∧ d3.size = d.size) := by
                have z1 := MM.out.2.1.1
                have z2 := P2.out.1.1
                obtain ⟨k1, k2, k3, k4, k5⟩ := MM.out.1.left (by omega) (by omega) (by have := HB.out; omega) b4 P2.out.1 P2.out.2
                exact ⟨k2, k3, k4, by omega⟩
              have C3 := HI.out mid e b d3 w3 (by have := P5.out.2.2.2; omega) S3.out (by have := HB.out; omega) (by omega) (by have := P5.out.2.2.2; omega) (by omega) P5.out.1 P5.out.2.1 P5.out.2.2.1
              rw [P5.out.2.2.2] at C3
              go_wp2_with fail
              refine C3.mono ?_
              rintro e' w5 ⟨rfl, d5, s5, p5, t5⟩
              clear C3
              have S5 : Hid (SV w0 blk off d5 w5) := s5
              have P3 : Hid (PermIn mid b d3 d5 ∧ TS r mid b d5) := ⟨p5, t5⟩
              clear s5 p5 t5
              go_wp2_with fail
              go_end0
              exact ⟨rfl, d5, S5.out, sm_close MM.out.1 (by omega) (by omega) hb (by have := HB.out; omega) b4 MM.out.2.1 P2.out.1 P2.out.2 P3.out.1 P3.out.2⟩
            · have h6' : ¬ (e : Int) < (b : Int) := by omega
              have P2 : Hid (PermIn a mid d3 d3 ∧ TS r a mid d3) := MM.out.1.skip1 (by have := HB.out; omega)
              have P5 : Hid (TS r mid e d3 ∧ TS r e b d3 ∧ Cro mid e b d3 ∧ d3.size = d.size) := by
                have z1 := MM.out.2.1.1
                have z2 := P2.out.1.1
                obtain ⟨k1, k2, k3, k4, k5⟩ := MM.out.1.left (by omega) (by omega) (by have := HB.out; omega) b4 P2.out.1 P2.out.2
                exact ⟨k2, k3, k4, by omega⟩
              have P3 : Hid (PermIn mid b d3 d3 ∧ TS r mid b d3) := sm_skip2 P5.out.1 P5.out.2.1 (by have := HB.out; omega)
              go_wp2_with fail
              go_end0
              exact ⟨rfl, d3, S3.out, sm_close MM.out.1 (by omega) (by omega) hb (by have := HB.out; omega) b4 MM.out.2.1 P2.out.1 P2.out.2 P3.out.1 P3.out.2⟩
        · have h2' : ¬ (m : Int) < (e : Int) := by omega
          have h3' : ¬ (s : Int) < (mid : Int) := by have := HB.out; omega
          have h4' : (mid : Int) < (e : Int) := by have := HB.out; omega
          have h5' : (a : Int) < (s : Int) := by have := HB.out; omega
          have h6' : (e : Int) < (b : Int) := by omega
          have MM : Hid (Mid r a s mid e b d ∧ PermIn a b d d ∧ True) := ⟨HM.out d (Rot.none (Or.inr (by omega)) b2 b3), permIn_refl d a b, trivial⟩
          have P2 : Hid (PermIn a mid d d ∧ TS r a mid d) := MM.out.1.skip1 (by have := HB.out; omega)
          have P5 : Hid (TS r mid e d ∧ TS r e b d ∧ Cro mid e b d ∧ d.size = d.size) := by
            have z1 := MM.out.2.1.1
            have z2 := P2.out.1.1
            obtain ⟨k1, k2, k3, k4, k5⟩ := MM.out.1.left (by omega) (by omega) (by have := HB.out; omega) b4 P2.out.1 P2.out.2
            exact ⟨k2, k3, k4, by omega⟩
          have C3 := HI.out mid e b d wr (by have := P5.out.2.2.2; omega) S1.out (by have := HB.out; omega) (by omega) (by have := P5.out.2.2.2; omega) (by omega) P5.out.1 P5.out.2.1 P5.out.2.2.1
          rw [P5.out.2.2.2] at C3
          go_wp2_with fail
          refine C3.mono ?_
          rintro e' w5 ⟨rfl, d5, s5, p5, t5⟩
          clear C3
          have S5 : Hid (SV w0 blk off d5 w5) := s5
          have P3 : Hid (PermIn mid b d d5 ∧ TS r mid b d5) := ⟨p5, t5⟩
          clear s5 p5 t5
          go_wp2_with fail
          go_end0
          exact ⟨rfl, d5, S5.out, sm_close MM.out.1 (by omega) (by omega) hb (by have := HB.out; omega) b4 MM.out.2.1 P2.out.1 P2.out.2 P3.out.1 P3.out.2⟩
      · exfalso; have := HE.out; omega
end Go.Proofs.Ytcolhgngiflkhaa

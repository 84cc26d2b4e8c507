/- slices.SortStableFunc of the numbers 0, 1, .. by rests, the greatest first. -/
import Derived.Test.YtcolhgngiflkhaaGd21608e6
import Derived.Test.YtcolhgngiflkhaaGce91a43d
import Derived.Test.YtcolhgngiflkhaaGf5b9743a
namespace Go.Proofs.Ytcolhgngiflkhaa
open Go.RowKit Go.Shelf Go.Lib Go.Sort
set_option linter.unusedVariables false
set_option linter.unusedSimpArgs false

theorem sm_ok (r : Int → Int) (g : Nat) (cb : Array Value) (blk off cap : Nat) (d0 : Array Int) (w0 : World)
    (eg : ∀ args w, (callFunc g args).run Try.prog w = .ok (.enter g args) w) (hC : CmpR r g cb blk off d0.size w0) (R : Row1 iEnc w0 blk off d0) (hsz : d0.size ≤ 100000) : ∀ N, SmOk r g cb blk off cap d0 w0 N
  | 0 => fun a m b d w _ _ h1 h2 _ h3 _ _ _ => absurd h3 (by omega)
  | N + 1 => fun a m b d w hs S ham hmb hb hN hT hT2 hX => by
    by_cases h1 : m = a + 1
    · exact sm_one r g cb blk off cap a m b d0 d w0 w eg hC R hs S h1 hmb hb (by omega) hT2 hX
    · by_cases h2 : b = m + 1
      · exact sm_last r g cb blk off cap a m b d0 d w0 w eg hC R hs S (by omega) h2 hb (by omega) hT hX
      · by_cases h3 : (a + b) / 2 < m
        · exact sm_gen1 r g cb blk off cap a m b _ N d0 d w0 w eg hC R hs S (by omega) (by omega) hb (by omega) hT hT2 hX rfl h3 hN (sm_ok r g cb blk off cap d0 w0 eg hC R hsz N)
        · exact sm_gen2 r g cb blk off cap a m b _ N d0 d w0 w eg hC R hs S (by omega) (by omega) hb (by omega) hT hT2 hX rfl (by omega) hN (sm_ok r g cb blk off cap d0 w0 eg hC R hsz N)
set_option maxHeartbeats 8000000 in
set_option maxRecDepth 1000000 in
theorem stable_any (r : Int → Int) (g : Nat) (cb : Array Value) (blk off cap n : Nat) (d : Array Int) (w0 : World)
    (eg : ∀ args w, (callFunc g args).run Try.prog w = .ok (.enter g args) w) (hC : CmpR r g cb blk off d.size w0) (R : Row1 iEnc w0 blk off d) (hn : n = d.size) (hsz : n ≤ 100000) (hd : ∀ i, i < n → d[i]! = (i : Int)) :
    Calls Try.prog 55 #[.slice (some ⟨blk, off, none⟩) n cap, .int .i64 n, .func (.func g) #[] cb] w0 fun e w' => e = .returned (.tuple #[]) ∧ ∃ d', SV w0 blk off d' w' ∧ PermIn 0 n d d' ∧ TS r 0 n d' := by
  have S0 : Hid (SV w0 blk off d w0) := SV.start R.hH (fun i hi => by rw [hd i (by omega)]; omega)
  have HR : Hid (Row1 iEnc w0 blk off d) := R
  have HC : Hid (CmpR r g cb blk off d.size w0) := hC
  have HI : Hid (∀ N, SmOk r g cb blk off cap d w0 N) := sm_ok r g cb blk off cap d w0 eg hC R (by omega)
  have HP0 : Hid (Ph r n 0 d) := ⟨fun lo _ h => by omega, fun i _ h => hd i h⟩
  have HN : Hid (n = d.size) := hn
  clear R hC hd hn
  go_enter Try.func55, Try.ntmps55
  go_wp2_with fail
  go_loopg [7, 8] n (fun gh va vb wr => ∃ (a b : Nat) (dk : Array Int), va = .int .i64 (a : Int) ∧ vb = .int .i64 (b : Int) ∧ b ≤ n + 20 ∧ a ≤ n ∧ gh = n + 20 - b ∧ Hid (SV w0 blk off dk wr) ∧ Hid (Ph r n a dk ∧ Mlt 20 a ∧ b = a + 20 ∧ dk.size = n ∧ PermIn 0 n d dk))
  case atStart => exact ⟨0, 20, d, rfl, rfl, by omega, by omega, by omega, S0, HP0.out, Mlt.zero _, rfl, HN.out.symm, permIn_refl d 0 n⟩
  case round =>
    clear S0 HP0
    obtain ⟨a, b, dk, rfl, rfl, hbn, han, rfl, S1, HK⟩ := hrel
    by_cases hlt : b ≤ n
    · have hltz : (b : Int) ≤ (n : Int) := by omega
      have C := ins_any r g cb blk off cap a b d dk w0 wr eg HC.out HR.out (by have := HN.out; have := HK.out.2.2.2.1; omega) S1.out (by have := HK.out.2.2.1; omega) (by have := HK.out.2.2.2.1; omega) (by have := HK.out.2.2.2.1; omega) (HK.out.1.ns hlt)
      rw [HK.out.2.2.2.1] at C
      go_wp2_with fail
      refine C.mono ?_
      rintro e w2 ⟨rfl, d2, s2, p2, t2⟩
      clear C
      have S2 : Hid (SV w0 blk off d2 w2) := s2
      have HK2 : Hid (Ph r n b d2 ∧ Mlt 20 b ∧ d2.size = n ∧ PermIn 0 n d d2) := by
        obtain ⟨k1, k2, k3, k4, k5⟩ := HK.out
        subst k3
        exact ⟨k1.next k4.symm k2 hlt p2 t2, k2.add, by rw [p2.1]; exact k4, permIn_trans _ _ _ 0 n k5 (permIn_mono dk d2 _ _ 0 n (by omega) hlt (by omega) p2)⟩
      clear s2 p2 t2
      go_wp2_with fail
      go_roundg (n + 20 - (b + 20))
      case measure => go_light; omega
      case rel => go_light; exact ⟨b, b + 20, d2, rfl, by simp, by omega, hlt, rfl, S2, HK2.out.1, HK2.out.2.1, rfl, HK2.out.2.2.1, HK2.out.2.2.2⟩
    · have hltz : ¬ (b : Int) ≤ (n : Int) := by omega
      have C := ins_any r g cb blk off cap a n d dk w0 wr eg HC.out HR.out (by have := HN.out; have := HK.out.2.2.2.1; omega) S1.out han (by have := HK.out.2.2.2.1; omega) (by have := HK.out.2.2.2.1; omega) (HK.out.1.ns (Nat.le_refl _))
      rw [HK.out.2.2.2.1] at C
      go_wp2_with fail
      refine C.mono ?_
      rintro e w2 ⟨rfl, d2, s2, p2, t2⟩
      clear C
      have S2 : Hid (SV w0 blk off d2 w2) := s2
      have HK2 : Hid ((∀ lo, Mlt 20 lo → Sec r n 20 lo d2) ∧ d2.size = n ∧ PermIn 0 n d d2) := by
        obtain ⟨k1, k2, k3, k4, k5⟩ := HK.out
        subst k3
        exact ⟨k1.last k4.symm k2 (by omega) han p2 t2, by rw [p2.1]; exact k4, permIn_trans _ _ _ 0 n k5 (permIn_mono dk d2 _ _ 0 n (by omega) (Nat.le_refl _) (by omega) p2)⟩
      clear s2 p2 t2 HK S1
      go_wp2_with fail
      go_loopg [6, 7, 8, 9] (n + n - 20) (fun gh vs va vb vm wr => ∃ (bs : Nat) (dk : Array Int), vs = .int .i64 (bs : Int) ∧ 0 < bs ∧ bs < n + n + 40 ∧ gh = n + n - bs ∧ Hid (SV w0 blk off dk wr) ∧ Hid ((∀ lo, Mlt bs lo → Sec r n bs lo dk) ∧ dk.size = n ∧ PermIn 0 n d dk))
      case atStart => exact ⟨20, d2, rfl, by omega, by omega, by omega, S2, HK2⟩
      case round =>
        clear S2 HK2
        obtain ⟨bs, d3, rfl, hb0, hb1, rfl, S3, HK3⟩ := hrel
        by_cases hbl : bs < n
        · have hblz : (bs : Int) < (n : Int) := by omega
          obtain ⟨b2, hb2⟩ : ∃ b2, b2 = 2 * bs := ⟨_, rfl⟩
          have eb2 : 2 * (bs : Int) = (b2 : Int) := by omega
          have eb3 : (bs : Int) * 2 = (b2 : Int) := by omega
          have HB : Hid (b2 = 2 * bs) := hb2
          have hb3 : b2 ≤ 2 * n := by omega
          have hb4 : bs < b2 := by omega
          clear hb2
          go_wp2_with fail
          go_loopg [7, 8] n (fun gh va vb wr => ∃ (a b : Nat) (dk : Array Int), va = .int .i64 (a : Int) ∧ vb = .int .i64 (b : Int) ∧ b ≤ n + b2 ∧ a ≤ n ∧ gh = n + b2 - b ∧ Hid (SV w0 blk off dk wr) ∧ Hid (Hf r n bs a dk ∧ Mlt b2 a ∧ b = a + b2 ∧ dk.size = n ∧ PermIn 0 n d dk))
          case atStart => exact ⟨0, b2, d3, rfl, rfl, by omega, by omega, by omega, S3, Hf.start HK3.out.1, Mlt.zero _, by omega, HK3.out.2.1, HK3.out.2.2⟩
          case round =>
            clear S3 HK3
            obtain ⟨a, b, dk, rfl, rfl, hbn, han, rfl, S1, HK⟩ := hrel
            by_cases hlt : b ≤ n
            · have hltz : (b : Int) ≤ (n : Int) := by omega
              obtain ⟨m, hm⟩ : ∃ m, m = a + bs := ⟨_, rfl⟩
              have em : (a : Int) + (bs : Int) = (m : Int) := by omega
              have HP : Hid (TS r a m dk ∧ TS r m b dk ∧ Cro a m b dk) := by
                obtain ⟨k1, k2, k3, k4, k5⟩ := HK.out
                have := HB.out
                rw [hm]
                exact k1.pre (by rw [← this]; exact k2) (by omega) (by omega)
              have C := HI.out (b - a) a m b dk wr (by have := HN.out; have := HK.out.2.2.2.1; omega) S1.out (by omega) (by have := HK.out.2.2.1; have := HB.out; omega) (by have := HK.out.2.2.2.1; omega) (Nat.le_refl _) HP.out.1 HP.out.2.1 HP.out.2.2
              rw [HK.out.2.2.2.1] at C
              clear hm
              go_wp2_with fail
              refine C.mono ?_
              rintro e w2 ⟨rfl, d2, s2, p2, t2⟩
              clear C
              have S2 : Hid (SV w0 blk off d2 w2) := s2
              have HK2 : Hid (Hf r n bs b d2 ∧ Mlt b2 b ∧ d2.size = n ∧ PermIn 0 n d d2) := by
                obtain ⟨k1, k2, k3, k4, k5⟩ := HK.out
                have hB := HB.out
                subst hB
                subst k3
                exact ⟨k1.next k4.symm k2 hlt p2 t2, k2.add, by rw [p2.1]; exact k4, permIn_trans _ _ _ 0 n k5 (permIn_mono dk d2 _ _ 0 n (by omega) hlt (by omega) p2)⟩
              clear s2 p2 t2 HP
              go_wp2_with fail
              go_roundg (n + b2 - (b + b2))
              case measure => go_light; omega
              case rel => go_light; exact ⟨b, b + b2, d2, rfl, by simp, by omega, hlt, rfl, S2, HK2.out.1, HK2.out.2.1, rfl, HK2.out.2.2.1, HK2.out.2.2.2⟩
            · have hltz : ¬ (b : Int) ≤ (n : Int) := by omega
              obtain ⟨m, hm⟩ : ∃ m, m = a + bs := ⟨_, rfl⟩
              have em : (a : Int) + (bs : Int) = (m : Int) := by omega
              by_cases hmn : m < n
              · have hmz : (m : Int) < (n : Int) := by omega
                have HP : Hid (TS r a m dk ∧ TS r m n dk ∧ Cro a m n dk) := by
                  obtain ⟨k1, k2, k3, k4, k5⟩ := HK.out
                  have := HB.out
                  rw [hm]
                  exact k1.pre (by rw [← this]; exact k2) (by omega) (by omega)
                have C := HI.out (n - a) a m n dk wr (by have := HN.out; have := HK.out.2.2.2.1; omega) S1.out (by omega) hmn (by have := HK.out.2.2.2.1; omega) (Nat.le_refl _) HP.out.1 HP.out.2.1 HP.out.2.2
                rw [HK.out.2.2.2.1] at C
                clear hm
                go_wp2_with fail
                refine C.mono ?_
                rintro e w2 ⟨rfl, d2, s2, p2, t2⟩
                clear C
                have S2 : Hid (SV w0 blk off d2 w2) := s2
                have HK2 : Hid ((∀ lo, Mlt b2 lo → Sec r n b2 lo d2) ∧ d2.size = n ∧ PermIn 0 n d d2) := by
                  obtain ⟨k1, k2, k3, k4, k5⟩ := HK.out
                  have hB := HB.out
                  subst hB
                  subst k3
                  exact ⟨k1.last k4.symm k2 (by omega) p2 t2, by rw [p2.1]; exact k4, permIn_trans _ _ _ 0 n k5 (permIn_mono dk d2 _ _ 0 n (by omega) (Nat.le_refl _) (by omega) p2)⟩
                clear s2 p2 t2 HP
                go_wp2_with fail
                go_roundg (n + n - b2)
                case measure => go_light; omega
                case rel => go_light; exact ⟨b2, d2, rfl, by omega, by omega, rfl, S2, HK2⟩
              · have hmz : ¬ (m : Int) < (n : Int) := by omega
                have HK2 : Hid ((∀ lo, Mlt b2 lo → Sec r n b2 lo dk) ∧ dk.size = n ∧ PermIn 0 n d dk) := by
                  obtain ⟨k1, k2, k3, k4, k5⟩ := HK.out
                  have hB := HB.out
                  subst hB
                  exact ⟨k1.none k4.symm k2 (by omega) hb0, k4, k5⟩
                clear hm
                go_wp2_with fail
                go_roundg (n + n - b2)
                case measure => go_light; omega
                case rel => go_light; exact ⟨b2, dk, rfl, by omega, by omega, rfl, S1, HK2⟩
        · have hblz : ¬ (bs : Int) < (n : Int) := by omega
          have HE : Hid (TS r 0 n d3) := fun i j h1 h2 h3 => (HK3.out.1 0 (Mlt.zero _)).1 i j h1 h2 (by omega)
          go_wp2_with fail
          go_end0
          exact ⟨rfl, d3, S3.out, HK3.out.2.2, HE.out⟩
set_option maxHeartbeats 2000000 in
set_option maxRecDepth 100000 in
theorem sortst_any (r : Int → Int) (g : Nat) (cb : Array Value) (blk off cap n : Nat) (d : Array Int) (w0 : World)
    (eg : ∀ args w, (callFunc g args).run Try.prog w = .ok (.enter g args) w) (hC : CmpR r g cb blk off d.size w0) (R : Row1 iEnc w0 blk off d) (hn : n = d.size) (hsz : n ≤ 100000) (hd : ∀ i, i < n → d[i]! = (i : Int)) :
    Calls Try.prog 48 #[.slice (some ⟨blk, off, none⟩) n cap, .func (.func g) #[] cb] w0 fun e w' => e = .returned (.tuple #[]) ∧ ∃ d', SV w0 blk off d' w' ∧ PermIn 0 n d d' ∧ TS r 0 n d' := by
  have C := stable_any r g cb blk off cap n d w0 eg hC R hn hsz hd
  clear hC R hn hd
  go_enter Try.func48, Try.ntmps48
  go_wp2_with fail
  refine C.mono ?_
  rintro e w2 ⟨rfl, d2, s2⟩
  clear C
  have HH : Hid _ := s2
  clear s2
  go_wp2_with fail
  go_end0
  exact ⟨rfl, d2, HH.out⟩
end Go.Proofs.Ytcolhgngiflkhaa

/- The program's answers and the document's, side by side. -/
import Derived.Test.YtkgfohodahkmmaaBkC
import Derived.Test.YtkgfohodahkmmaaPlS
import Derived.Test.YtkgfohodahkmmaaPrL
namespace Go.Proofs.Ytkgfohodahkmmaa
open Go.RowKit
set_option linter.unusedVariables false
set_option linter.unusedSimpArgs false

/-- An answer: a plane (or none) and a number. -/
def Ans (w : World) (W H : Int) (S : List Nat) (r : Int) (e : Ending) (w' : World) : Prop := ∃ a n c, e = .returned (.tuple #[.agg #[.int .i64 W, .int .i64 H, .slice a n c], .int .i64 r]) ∧ Hid (Q w w') ∧ Hid (USl w' (.slice a n c) S) ∧ Hid (New w w' (.slice a n c) n) ∧ n ≤ 65536
theorem Mk.ans {w : World} {a b : Nat} {S : List Nat} {e : Ending} {w' : World} (h : Mk w a b S e w') : Ans w a b S 0 e w' := by
  obtain ⟨g, n, rfl, q, hg, hf, HP⟩ := h
  have hu := HP.out.us
  have hn := HP.out.eq
  have h1 : 1 ≤ S.length := by rw [HP.out.len]; exact HP.out.size.pos
  refine ⟨some ⟨g, 0, none⟩, n, n, rfl, q, HP.out.usl, Or.inr ⟨g, rfl, hg, cell_in (hu 0 (by omega)), fun j hj => ⟨_, by have := hu j (by omega); rw [Nat.zero_add] at this; exact this⟩, hf⟩, by have := HP.out.bd; omega⟩
theorem Made.ans {w : World} {a b : Nat} {S : List Nat} {e : Ending} {w' : World} (h : Made w a b S e w') (hs : Size a b) (hl : S.length = a * b) : Ans w a b S 0 e w' := (h.mk hs hl).ans
theorem Fails.ans {w : World} {r : Int} {e : Ending} {w' : World} (h : Fails w r e w') : Ans w 0 0 [] r e w' := by
  obtain ⟨rfl, q⟩ := h
  exact ⟨none, 0, 0, rfl, q, Or.inr ⟨_, _, rfl, rfl⟩, Or.inl ⟨rfl, rfl⟩, Nat.zero_le _⟩
theorem both_new (W H : Int) (s : Nat) : ∃ W' H' S r, S.length ≤ 65536 ∧ (∀ w, Calls Try.prog 11 #[.int .i64 W, .int .i64 H, .int .u32 (s : Int)] w (Ans w W' H' S r)) ∧ ∀ w, Calls Try.prog 12 #[.int .i64 W, .int .i64 H, .int .u32 (s : Int)] w (Ans w W' H' S r) := by
  by_cases h : sizeB W H = true
  · obtain ⟨a, b, rfl, rfl, hs⟩ := (sizeB_true.1 h).nat
    exact ⟨a, b, tab a b (fun _ _ => s), 0, by rw [tab_length]; exact hs.ab, fun w => (new_good hs s w).mono fun e w' h => h.ans hs (tab_length _ _ _), fun w => (rnew_good hs s w).mono fun e w' h => h.ans⟩
  · have h : sizeB W H = false := by cases g : sizeB W H; rfl; exact absurd g h
    exact ⟨0, 0, [], 50, Nat.zero_le _, fun w => (new_bad W H h s w).mono fun e w' h => h.ans, fun w => (rnew_bad W H h s w).mono fun e w' h => h.ans⟩
theorem both_get (W H : Int) (S : List Nat) (hn : S.length ≤ 9223372036854775807) (x y : Int) : ∃ (u : Nat) (r : Int), (∀ w v, USl w v S → Calls Try.prog 13 #[.agg #[.int .i64 W, .int .i64 H, v], .int .i64 x, .int .i64 y] w fun e w' => e = .returned (.tuple #[.int .u32 (u : Int), .int .i64 r]) ∧ Q w w') ∧
    ∀ w v, USl w v S → Calls Try.prog 14 #[.agg #[.int .i64 W, .int .i64 H, v], .int .i64 x, .int .i64 y] w fun e w' => e = .returned (.tuple #[.int .u32 (u : Int), .int .i64 r]) ∧ Q w w' := by
  by_cases h : chk W H S.length = 0
  · obtain ⟨a, b, rfl, rfl, hs, hl⟩ := chk_zero h
    have h1 : 1 ≤ S.length := by rw [hl]; exact hs.pos
    by_cases ho : x < 0 ∨ (a : Int) ≤ x ∨ y < 0 ∨ (b : Int) ≤ y
    · refine ⟨0, 52, fun w v hv => ?_, fun w v hv => ?_⟩
      · obtain ⟨g, o, cap, rfl, hc, hu⟩ := hv.some h1
        exact get_out hs hl g o cap x y ho w
      · obtain ⟨g, o, cap, rfl, hc, hu⟩ := hv.some h1
        exact rget_out hs hl g o cap x y ho w
    · refine ⟨smp S a x.toNat y.toNat, 0, fun w v hv => ?_, fun w v hv => ?_⟩
      · obtain ⟨g, o, cap, rfl, hc, hu⟩ := hv.some h1
        exact get_in hs hl g o cap x y x.toNat y.toNat (by omega) (by omega) (by omega) (by omega) w hu
      · obtain ⟨g, o, cap, rfl, hc, hu⟩ := hv.some h1
        exact rget_in hs hl g o cap x y x.toNat y.toNat (by omega) (by omega) (by omega) (by omega) w hu
  · refine ⟨0, chk W H S.length, fun w v hv => ?_, fun w v hv => ?_⟩
    · obtain ⟨a, cap, rfl⟩ := hv.form
      exact get_bad W H a S.length cap hn rfl h x y w
    · obtain ⟨a, cap, rfl⟩ := hv.form
      exact rget_bad W H a S.length cap hn rfl h x y w
theorem both_crop (W H : Int) (S : List Nat) (hn : S.length ≤ 9223372036854775807) (x0 y0 x1 y1 : Int) : ∃ W' H' T r, T.length ≤ 65536 ∧ (∀ w v, USl w v S → Calls Try.prog 22 #[.agg #[.int .i64 W, .int .i64 H, v], .agg #[.int .i64 x0, .int .i64 y0, .int .i64 x1, .int .i64 y1]] w (Ans w W' H' T r)) ∧
    ∀ w v, USl w v S → Calls Try.prog 23 #[.agg #[.int .i64 W, .int .i64 H, v], .agg #[.int .i64 x0, .int .i64 y0, .int .i64 x1, .int .i64 y1]] w (Ans w W' H' T r) := by
  by_cases h : chk W H S.length = 0
  · obtain ⟨a, b, rfl, rfl, hs, hl⟩ := chk_zero h
    have h1 : 1 ≤ S.length := by rw [hl]; exact hs.pos
    by_cases ho : wiB x0 y0 x1 y1 a b = true
    · obtain ⟨X, Y, c, d, rfl, rfl, hX, hY, hr⟩ := wiB_true.1 ho
      refine ⟨c, d, crL a X Y c d S, 0, by unfold crL; rw [tab_length]; exact (hr.size hs).ab, fun w v hv => ?_, fun w v hv => ?_⟩
      · obtain ⟨g, o, cap, rfl, hc, hu⟩ := hv.some h1
        exact (pl_crop ⟨hs, hl, rfl, hc, hu⟩ hr x1 y1 hX hY).mono fun e w' h => h.ans
      · obtain ⟨g, o, cap, rfl, hc, hu⟩ := hv.some h1
        exact (rcrop_good hs hl g o cap hr x1 y1 hX hY w hu).mono fun e w' h => h.ans
    · have ho : wiB x0 y0 x1 y1 a b = false := by cases g : wiB x0 y0 x1 y1 a b; rfl; exact absurd g ho
      refine ⟨0, 0, [], 52, Nat.zero_le _, fun w v hv => ?_, fun w v hv => ?_⟩
      · obtain ⟨g, o, cap, rfl, hc, hu⟩ := hv.some h1
        exact (crop_out hs hl g o cap x0 y0 x1 y1 ho w).mono fun e w' h => h.ans
      · obtain ⟨g, o, cap, rfl, hc, hu⟩ := hv.some h1
        exact (rcrop_out hs hl g o cap x0 y0 x1 y1 ho w).mono fun e w' h => h.ans
  · refine ⟨0, 0, [], chk W H S.length, Nat.zero_le _, fun w v hv => ?_, fun w v hv => ?_⟩
    · obtain ⟨a, cap, rfl⟩ := hv.form
      exact (crop_bad W H a S.length cap hn rfl h x0 y0 x1 y1 w).mono fun e w' h => h.ans
    · obtain ⟨a, cap, rfl⟩ := hv.form
      exact (rcrop_bad W H a S.length cap hn rfl h x0 y0 x1 y1 w).mono fun e w' h => h.ans
theorem both_flip (W H : Int) (S : List Nat) (hn : S.length ≤ 9223372036854775807) (B : Bool) : ∃ W' H' T r, T.length ≤ 65536 ∧ (∀ w v, USl w v S → Calls Try.prog 26 #[.agg #[.int .i64 W, .int .i64 H, v], .bool B] w (Ans w W' H' T r)) ∧
    ∀ w v, USl w v S → Calls Try.prog 27 #[.agg #[.int .i64 W, .int .i64 H, v], .bool B] w (Ans w W' H' T r) := by
  by_cases h : chk W H S.length = 0
  · obtain ⟨a, b, rfl, rfl, hs, hl⟩ := chk_zero h
    have h1 : 1 ≤ S.length := by rw [hl]; exact hs.pos
    cases B
    · refine ⟨a, b, flY a b S, 0, by unfold flY; rw [tab_length]; exact hs.ab, fun w v hv => ?_, fun w v hv => ?_⟩
      · obtain ⟨g, o, cap, rfl, hc, hu⟩ := hv.some h1
        exact (pl_flipy ⟨hs, hl, rfl, hc, hu⟩).mono fun e w' h => h.ans
      · obtain ⟨g, o, cap, rfl, hc, hu⟩ := hv.some h1
        exact (rflip_no hs hl g o cap w hu).mono fun e w' h => h.ans
    · refine ⟨a, b, flX a b S, 0, by unfold flX; rw [tab_length]; exact hs.ab, fun w v hv => ?_, fun w v hv => ?_⟩
      · obtain ⟨g, o, cap, rfl, hc, hu⟩ := hv.some h1
        exact (pl_flipx ⟨hs, hl, rfl, hc, hu⟩).mono fun e w' h => h.ans
      · obtain ⟨g, o, cap, rfl, hc, hu⟩ := hv.some h1
        exact (rflip_yes hs hl g o cap w hu).mono fun e w' h => h.ans
  · refine ⟨0, 0, [], chk W H S.length, Nat.zero_le _, fun w v hv => ?_, fun w v hv => ?_⟩
    · obtain ⟨a, cap, rfl⟩ := hv.form
      exact (flip_bad W H a S.length cap hn rfl h B w).mono fun e w' h => h.ans
    · obtain ⟨a, cap, rfl⟩ := hv.form
      exact (rflip_bad W H a S.length cap hn rfl h B w).mono fun e w' h => h.ans
theorem both_trans (W H : Int) (S : List Nat) (hn : S.length ≤ 9223372036854775807) : ∃ W' H' T r, T.length ≤ 65536 ∧ (∀ w v, USl w v S → Calls Try.prog 28 #[.agg #[.int .i64 W, .int .i64 H, v]] w (Ans w W' H' T r)) ∧
    ∀ w v, USl w v S → Calls Try.prog 29 #[.agg #[.int .i64 W, .int .i64 H, v]] w (Ans w W' H' T r) := by
  by_cases h : chk W H S.length = 0
  · obtain ⟨a, b, rfl, rfl, hs, hl⟩ := chk_zero h
    have h1 : 1 ≤ S.length := by rw [hl]; exact hs.pos
    refine ⟨b, a, trL a b S, 0, by unfold trL; rw [tab_length]; exact hs.swap.ab, fun w v hv => ?_, fun w v hv => ?_⟩
    · obtain ⟨g, o, cap, rfl, hc, hu⟩ := hv.some h1
      exact (pl_trans ⟨hs, hl, rfl, hc, hu⟩).mono fun e w' h => h.ans
    · obtain ⟨g, o, cap, rfl, hc, hu⟩ := hv.some h1
      exact (rtrans_any hs hl g o cap w hu).mono fun e w' h => h.ans
  · refine ⟨0, 0, [], chk W H S.length, Nat.zero_le _, fun w v hv => ?_, fun w v hv => ?_⟩
    · obtain ⟨a, cap, rfl⟩ := hv.form
      exact (trans_bad W H a S.length cap hn rfl h w).mono fun e w' h => h.ans
    · obtain ⟨a, cap, rfl⟩ := hv.form
      exact (rtrans_bad W H a S.length cap hn rfl h w).mono fun e w' h => h.ans
theorem both_turn (W H : Int) (S : List Nat) (hn : S.length ≤ 9223372036854775807) (k : Int) : ∃ W' H' T r, T.length ≤ 65536 ∧ (∀ w v, USl w v S → Calls Try.prog 30 #[.agg #[.int .i64 W, .int .i64 H, v], .int .i64 k] w (Ans w W' H' T r)) ∧
    ∀ w v, USl w v S → Calls Try.prog 31 #[.agg #[.int .i64 W, .int .i64 H, v], .int .i64 k] w (Ans w W' H' T r) := by
  by_cases h : chk W H S.length = 0
  · obtain ⟨a, b, rfl, rfl, hs, hl⟩ := chk_zero h
    have h1 : 1 ≤ S.length := by rw [hl]; exact hs.pos
    obtain ⟨q, hq⟩ : ∃ q : Nat, k % 4 = q := ⟨(k % 4).toNat, by omega⟩
    refine ⟨tuA q a b, tuB q a b, tuL q a b S, 0, by unfold tuL; rw [tab_length]; exact (tu_size hs).ab, fun w v hv => ?_, fun w v hv => ?_⟩
    · obtain ⟨g, o, cap, rfl, hc, hu⟩ := hv.some h1
      exact (pl_turn ⟨hs, hl, rfl, hc, hu⟩ k hq).mono fun e w' h => h.ans
    · obtain ⟨g, o, cap, rfl, hc, hu⟩ := hv.some h1
      exact (rturn_good hs hl g o cap k hq w hu).mono fun e w' h => h.ans
  · refine ⟨0, 0, [], chk W H S.length, Nat.zero_le _, fun w v hv => ?_, fun w v hv => ?_⟩
    · obtain ⟨a, cap, rfl⟩ := hv.form
      exact (turn_bad W H a S.length cap hn rfl h k w).mono fun e w' h => h.ans
    · obtain ⟨a, cap, rfl⟩ := hv.form
      exact (rturn_bad W H a S.length cap hn rfl h k w).mono fun e w' h => h.ans
theorem both_paste (W H : Int) (S : List Nat) (hn : S.length ≤ 9223372036854775807) (W2 H2 : Int) (S2 : List Nat) (hn2 : S2.length ≤ 9223372036854775807) (X Y : Int) : ∃ W' H' T r, T.length ≤ 65536 ∧ (∀ w v v2, USl w v S → USl w v2 S2 → Calls Try.prog 24 #[.agg #[.int .i64 W, .int .i64 H, v], .agg #[.int .i64 W2, .int .i64 H2, v2], .int .i64 X, .int .i64 Y] w (Ans w W' H' T r)) ∧
    ∀ w v v2, USl w v S → USl w v2 S2 → Calls Try.prog 25 #[.agg #[.int .i64 W, .int .i64 H, v], .agg #[.int .i64 W2, .int .i64 H2, v2], .int .i64 X, .int .i64 Y] w (Ans w W' H' T r) := by
  by_cases h : chk W H S.length = 0
  · by_cases h2 : chk W2 H2 S2.length = 0
    · obtain ⟨a, b, rfl, rfl, hs, hl⟩ := chk_zero h
      obtain ⟨c, d, rfl, rfl, hs2, hl2⟩ := chk_zero h2
      have h1 : 1 ≤ S.length := by rw [hl]; exact hs.pos
      have h12 : 1 ≤ S2.length := by rw [hl2]; exact hs2.pos
      refine ⟨a, b, tab a b (pasV S a S2 c d X Y), 0, by rw [tab_length]; exact hs.ab, fun w v v2 hv hv2 => ?_, fun w v v2 hv hv2 => ?_⟩
      · obtain ⟨g, o, cap, rfl, hc, hu⟩ := hv.some h1
        obtain ⟨g2, o2, cap2, rfl, hc2, hu2⟩ := hv2.some h12
        exact (pl_paste ⟨hs, hl, rfl, hc, hu⟩ ⟨hs2, hl2, rfl, hc2, hu2⟩ X Y).mono fun e w' h => h.ans
      · obtain ⟨g, o, cap, rfl, hc, hu⟩ := hv.some h1
        obtain ⟨g2, o2, cap2, rfl, hc2, hu2⟩ := hv2.some h12
        exact (rpaste_good hs hl g o cap hs2 hl2 g2 o2 cap2 X Y w hu hu2).mono fun e w' h => h.ans
    · refine ⟨0, 0, [], chk W2 H2 S2.length, Nat.zero_le _, fun w v v2 hv hv2 => ?_, fun w v v2 hv hv2 => ?_⟩
      · obtain ⟨a, cap, rfl⟩ := hv.form
        obtain ⟨a2, cap2, rfl⟩ := hv2.form
        exact (paste_bad2 W H a S.length cap hn h W2 H2 a2 S2.length cap2 hn2 rfl h2 X Y w).mono fun e w' h => h.ans
      · obtain ⟨a, cap, rfl⟩ := hv.form
        obtain ⟨a2, cap2, rfl⟩ := hv2.form
        exact (rpaste_bad2 W H a S.length cap hn h W2 H2 a2 S2.length cap2 hn2 rfl h2 X Y w).mono fun e w' h => h.ans
  · refine ⟨0, 0, [], chk W H S.length, Nat.zero_le _, fun w v v2 hv hv2 => ?_, fun w v v2 hv hv2 => ?_⟩
    · obtain ⟨a, cap, rfl⟩ := hv.form
      obtain ⟨a2, cap2, rfl⟩ := hv2.form
      exact (paste_bad W H a S.length cap hn rfl h W2 H2 a2 S2.length cap2 X Y w).mono fun e w' h => h.ans
    · obtain ⟨a, cap, rfl⟩ := hv.form
      obtain ⟨a2, cap2, rfl⟩ := hv2.form
      exact (rpaste_bad W H a S.length cap hn rfl h W2 H2 a2 S2.length cap2 X Y w).mono fun e w' h => h.ans
theorem both_ext (W H : Int) (S : List Nat) (hn : S.length ≤ 9223372036854775807) (k l t r1 b1 : Int) : ∃ W' H' T r, T.length ≤ 65536 ∧ (∀ w v, USl w v S → Calls Try.prog 35 #[.agg #[.int .i64 W, .int .i64 H, v], .int .i64 k, .int .i64 l, .int .i64 t, .int .i64 r1, .int .i64 b1] w (Ans w W' H' T r)) ∧
    ∀ w v, USl w v S → Calls Try.prog 34 #[.agg #[.int .i64 W, .int .i64 H, v], .int .i64 k, .int .i64 l, .int .i64 t, .int .i64 r1, .int .i64 b1] w (Ans w W' H' T r) := by
  by_cases h : chk W H S.length = 0
  · obtain ⟨a, b, rfl, rfl, hs, hl⟩ := chk_zero h
    have h1 : 1 ≤ S.length := by rw [hl]; exact hs.pos
    by_cases he : extE k l t r1 b1 a b = 0
    · obtain ⟨hk, l', t', r', b', rfl, rfl, rfl, rfl, p1, p2, p3, p4, hz⟩ := extE_zero he
      refine ⟨(l' + a + r' : Nat), (t' + b + b' : Nat), tab (l' + a + r') (t' + b + b') (extV S a b k l' t'), 0, by rw [tab_length]; exact hz.ab, fun w v hv => ?_, fun w v hv => ?_⟩
      · obtain ⟨g, o, cap, rfl, hc, hu⟩ := hv.some h1
        exact (pl_ext ⟨hs, hl, rfl, hc, hu⟩ k l' t' r' b' hk p1 p2 p3 p4 hz).mono fun e w' h => h.ans
      · obtain ⟨g, o, cap, rfl, hc, hu⟩ := hv.some h1
        exact (rext_good hs hl g o cap k l' t' r' b' hk p1 p2 p3 p4 _ _ rfl rfl hz w hu).mono fun e w' h => h.ans
    · refine ⟨0, 0, [], extE k l t r1 b1 a b, Nat.zero_le _, fun w v hv => ?_, fun w v hv => ?_⟩
      · obtain ⟨g, o, cap, rfl, hc, hu⟩ := hv.some h1
        exact (ext_fail ⟨hs, hl, rfl, hc, hu⟩ k l t r1 b1 rfl he).mono fun e w' h => Fails.ans h
      · obtain ⟨g, o, cap, rfl, hc, hu⟩ := hv.some h1
        exact (rext_fail ⟨hs, hl, rfl, hc, hu⟩ k l t r1 b1 rfl he).mono fun e w' h => h.ans
  · refine ⟨0, 0, [], chk W H S.length, Nat.zero_le _, fun w v hv => ?_, fun w v hv => ?_⟩
    · obtain ⟨a, cap, rfl⟩ := hv.form
      exact (ext_bad W H a S.length cap hn rfl h k l t r1 b1 w).mono fun e w' h => h.ans
    · obtain ⟨a, cap, rfl⟩ := hv.form
      exact (rext_bad W H a S.length cap hn rfl h k l t r1 b1 w).mono fun e w' h => h.ans
end Go.Proofs.Ytkgfohodahkmmaa

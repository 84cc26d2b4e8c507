/- A stable sort, walked: ranges that change places, and turned. -/
import Derived.Test.YtdbbpmadkhedlaaGe5cc78ee
import Derived.Test.YtdbbpmadkhedlaaG582a762c
import Derived.Shelf.SlSortCmp.Kit1
import Derived.Sort.WalkA
import Derived.Sort.WalkB2
import Derived.Deep.LoopGhost
namespace Go.Proofs.Ytdbbpmadkhedlaa
open Go.RowKit Go.Shelf Go.Lib Go.Sort
set_option linter.unusedVariables false
set_option linter.unusedSimpArgs false

abbrev iEnc : Int → Value := Value.int .i64
theorem mixedT : Try.prog.follows .mixedOrders = true := by kernel_rfl
theorem iEnc_one : OneCell iEnc := fun _ => rfl
/-- A world of the sort's: nothing but the row of w0 has turned, some draws on; the row's numbers are places of the row. -/
def SV (w0 : World) (blk off : Nat) (dk : Array Int) (W : World) : Prop := (∃ n, W = sortWorld iEnc w0 blk off n dk #[]) ∧ ∀ i, i < dk.size → 0 ≤ dk[i]! ∧ dk[i]! < (dk.size : Int)
section
variable {w0 W : World} {blk off : Nat} {dk d0 : Array Int}
theorem SV.sw (h : SV w0 blk off dk W) : SW iEnc w0 blk off dk W := by obtain ⟨⟨n, e⟩, _⟩ := h; exact ⟨n, #[], e⟩
theorem SV.start (h : Holds iEnc w0 blk off dk) (hg : ∀ i, i < dk.size → 0 ≤ dk[i]! ∧ dk[i]! < (dk.size : Int)) : SV w0 blk off dk w0 := ⟨⟨0, (sortWorld_start iEnc w0 blk off dk h).symm⟩, hg⟩
theorem SV.drewN (h : SV w0 blk off dk W) (q : Nat) : SV w0 blk off dk (W.drewN q) := by
  obtain ⟨⟨n, rfl⟩, hg⟩ := h
  exact ⟨⟨n + q, by unfold sortWorld; rw [← putRow_drewN iEnc w0 n q blk off dk]; rfl⟩, hg⟩
theorem SV.c1 (h : SV w0 blk off dk W) (R : Row1 iEnc w0 blk off d0) (hs : dk.size = d0.size) (i : Nat) (hi : i < dk.size) : W.cell? ⟨blk, off + i, none⟩ = some (iEnc dk[i]!) := h.sw.c1 R hs i hi
theorem SV.f1 (h : SV w0 blk off dk W) (R : Row1 iEnc w0 blk off d0) (hs : dk.size = d0.size) (i : Nat) (hi : i < dk.size) : W.frozen? ⟨blk, off + i, none⟩ = false := h.sw.f1 R hs i hi
theorem SV.c2 (h : SV w0 blk off dk W) (R : Row1 iEnc w0 blk off d0) (hs : dk.size = d0.size) (i j : Nat) (hi : i < dk.size) (hj : j < dk.size) (v : Value) :
    ∃ u, (W.setCell ⟨blk, off + i, none⟩ v).cell? ⟨blk, off + j, none⟩ = some u := h.sw.c2 R hs i j hi hj v
theorem SV.swapped (h : SV w0 blk off dk W) (R : Row1 iEnc w0 blk off d0) (i j : Nat) (hi : i < dk.size) (hj : j < dk.size) :
    SV w0 blk off (swp dk i j) ((W.setCell ⟨blk, off + i, none⟩ (iEnc dk[j]!)).setCell ⟨blk, off + j, none⟩ (iEnc dk[i]!)).drew := by
  obtain ⟨⟨n, rfl⟩, hg⟩ := h
  have h2 : SV w0 blk off (swp dk i j) (((sortWorld iEnc w0 blk off n dk #[]).setCell ⟨blk, off + i, none⟩ (iEnc dk[j]!)).setCell ⟨blk, off + j, none⟩ (iEnc dk[i]!)) := by
    refine ⟨⟨n, ?_⟩, fun k hk => ?_⟩
    · unfold sortWorld
      rw [grow_empty, grow_empty, putRow_swp iEnc _ blk off dk i j hi hj]
    · rw [size_swp] at hk ⊢
      rw [swp_get dk hi hj]
      split
      · exact hg i hi
      · split
        · exact hg j hj
        · exact hg k hk
  exact h2.drewN 1
/-- The comparison, in every world of the sort's, of places of the row. -/
def CmpR (r : Int → Int) (f : Nat) (cb : Array Value) (blk off n : Nat) (w0 : World) : Prop :=
  ∀ (m : Nat) (os : Array Obj) (dk : Array Int), dk.size = n → ∀ x y : Int, 0 ≤ x → x < (n : Int) → 0 ≤ y → y < (n : Int) →
    Calls Try.prog f (#[iEnc x, iEnc y] ++ cb) (sortWorld iEnc w0 blk off m dk os) fun e w' => e = .returned (.int .i64 (cfR r x y)) ∧ ∃ q, w' = (sortWorld iEnc w0 blk off m dk os).drewN q
theorem SV.cmp {r : Int → Int} {g : Nat} {cb : Array Value} {size : Nat} (h : SV w0 blk off dk W) (hC : CmpR r g cb blk off size w0) (hs : dk.size = size) (i j : Nat) (hi : i < dk.size) (hj : j < dk.size) (n : Nat) :
    Calls Try.prog g (#[iEnc dk[i]!, iEnc dk[j]!] ++ cb) (W.drewN n) fun e w' => e = .returned (.int .i64 (cfR r dk[i]! dk[j]!)) ∧ ∃ q, w' = (W.drewN n).drewN q := by
  obtain ⟨⟨m, hw⟩, hg⟩ := h.drewN n
  rw [hw]
  have h1 := hg i hi
  have h2 := hg j hj
  rw [hs] at h1 h2
  exact hC m #[] dk hs _ _ h1.1 h1.2 h2.1 h2.2
end
/-- A permutation inside every range that holds [a, b). -/
def PermI (a b : Nat) (d d' : Array Int) : Prop := ∀ lo hi, lo ≤ a → b ≤ hi → hi ≤ d.size → PermIn lo hi d d'
theorem PermI.refl (a b : Nat) (d : Array Int) : PermI a b d d := fun lo hi _ _ _ => permIn_refl d lo hi
theorem PermI.size {a b : Nat} {d d' : Array Int} (h : PermI a b d d') (ha : a ≤ d.size) (hb : b ≤ d.size) : d'.size = d.size := (h 0 d.size (Nat.zero_le _) hb (Nat.le_refl _)).1
theorem PermI.trans {a b : Nat} {d d' d'' : Array Int} (h : PermI a b d d') (h' : PermI a b d' d'') (hs : d'.size = d.size) : PermI a b d d'' := fun lo hi h1 h2 h3 => permIn_trans _ _ _ lo hi (h lo hi h1 h2 h3) (h' lo hi h1 h2 (by rw [hs]; exact h3))
theorem PermI.wide {a b a' b' : Nat} {d d' : Array Int} (h : PermI a b d d') (ha : a' ≤ a) (hb : b ≤ b') : PermI a' b' d d' := fun lo hi h1 h2 h3 => h lo hi (by omega) (by omega) h3
theorem PermI.swp {a b i j : Nat} {d : Array Int} (h1 : a ≤ i) (h2 : i < b) (h3 : a ≤ j) (h4 : j < b) : PermI a b d (swp d i j) := fun lo hi k1 k2 k3 => swp_permIn d lo hi i j (by omega) (by omega) (by omega) (by omega) k3
set_option maxHeartbeats 4000000 in
set_option maxRecDepth 1000000 in
theorem swr_any (blk off cap a b n : Nat) (d0 d : Array Int) (w0 w : World) (f : Value) (R : Row1 iEnc w0 blk off d0) (hs : d0.size = d.size) (S : SV w0 blk off d w) (hab : a + n ≤ b) (hb : b + n ≤ d.size) (hsz : d.size ≤ 100000) :
    Calls Try.prog 75 #[.slice (some ⟨blk, off, none⟩) d.size cap, .int .i64 a, .int .i64 b, .int .i64 n, f] w fun e w' => e = .returned (.tuple #[]) ∧ ∃ d', SV w0 blk off d' w' ∧ Swr a b n d d' ∧ PermI a (b + n) d d' := by
  have mixed := mixedT
  have S0 : Aside (SV w0 blk off d w) := S
  have HR : Hid (Row1 iEnc w0 blk off d0) := R
  clear S R
  go_enter Try.func75, Try.ntmps75
  go_wp2_with fail
  go_loopg [10] n (fun gh vi wr => ∃ (i : Nat) (dk : Array Int), vi = .int .i64 (i : Int) ∧ i ≤ n ∧ gh = n - i ∧ dk.size = d.size ∧ Hid (SV w0 blk off dk wr) ∧ Hid (Swr a b i d dk ∧ PermI a (b + n) d dk))
  case atStart => exact ⟨0, d, rfl, Nat.zero_le _, rfl, rfl, S0.out, Swr.zero a b d, PermI.refl _ _ d⟩
  case round =>
    clear S0
    obtain ⟨i, dk, rfl, hi, rfl, hsk, S1, HP⟩ := hrel
    by_cases hlt : i < n
    · have hltz : (i : Int) < (n : Int) := by omega
      obtain ⟨p, hp⟩ : ∃ p, p = a + i := ⟨_, rfl⟩
      obtain ⟨q, hq⟩ : ∃ q, q = b + i := ⟨_, rfl⟩
      have ea : ((a : Int) + (i : Int)) = (p : Int) := by omega
      have eb : ((b : Int) + (i : Int)) = (q : Int) := by omega
      have pa : p < d.size := by omega
      have pb : q < d.size := by omega
      have pa' : (p : Int) < (d.size : Int) := by omega
      have pb' : (q : Int) < (d.size : Int) := by omega
      have ra : IntKind.i64.wrap (p : Int) = (p : Int) := by rw [IntKind.wrap_i64]; omega
      have rb : IntKind.i64.wrap (q : Int) = (q : Int) := by rw [IntKind.wrap_i64]; omega
      obtain ⟨x, hx⟩ : ∃ x, x = dk[p]! := ⟨_, rfl⟩
      obtain ⟨y, hy⟩ : ∃ y, y = dk[q]! := ⟨_, rfl⟩
      have c1 := S1.out.c1 HR.out (by omega) p (by omega)
      have c2 := S1.out.c1 HR.out (by omega) q (by omega)
      have f1 := S1.out.f1 HR.out (by omega) p (by omega)
      have f2 := S1.out.f1 HR.out (by omega) q (by omega)
      obtain ⟨u, c3⟩ := S1.out.c2 HR.out (by omega) p q (by omega) (by omega) (iEnc y)
      have S3 : Hid (SV w0 blk off (swp dk p q) ((wr.setCell ⟨blk, off + p, none⟩ (iEnc y)).setCell ⟨blk, off + q, none⟩ (iEnc x)).drew) := by rw [hx, hy]; exact S1.out.swapped HR.out p q (by omega) (by omega)
      rw [← hx] at c1
      rw [← hy] at c2
      have HX : Hid (x = dk[p]! ∧ y = dk[q]! ∧ p = a + i ∧ q = b + i) := ⟨hx, hy, hp, hq⟩
      clear hx hy hp hq S1 hs hsk
      go_wp2_with fail
      go_big_region_o
      clear c1 c2 c3 f1 f2
      generalize ((wr.setCell ⟨blk, off + p, none⟩ (iEnc y)).setCell ⟨blk, off + q, none⟩ (iEnc x)).drew = w3 at S3 ⊢
      go_wp2_with fail
      go_roundg (n - (i + 1))
      case measure => go_light; omega
      case rel =>
        go_light
        obtain ⟨hx, hy, rfl, rfl⟩ := HX.out
        have hz := HP.out.1.sz
        exact ⟨i + 1, swp dk (a + i) (b + i), by simp, by omega, rfl, by rw [size_swp, hz], S3, HP.out.1.step (by omega) (by omega), HP.out.2.trans (PermI.swp (by omega) (by omega) (by omega) (by omega)) hz⟩
    · have hge : ¬ (i : Int) < (n : Int) := by omega
      obtain rfl : i = n := by omega
      go_wp2_with fail
      go_end0
      exact ⟨rfl, dk, S1.out, HP.out.1, HP.out.2⟩
end Go.Proofs.Ytdbbpmadkhedlaa
/- A stable sort, walked: a range turned. -/
namespace Go.Proofs.Ytdbbpmadkhedlaa
open Go.RowKit Go.Shelf Go.Lib Go.Sort
set_option linter.unusedVariables false
set_option linter.unusedSimpArgs false

set_option maxHeartbeats 4000000 in
set_option maxRecDepth 1000000 in
theorem rot_any (blk off cap a m b : Nat) (d0 d : Array Int) (w0 w : World) (f : Value) (R : Row1 iEnc w0 blk off d0) (hs : d0.size = d.size) (S : SV w0 blk off d w) (ham : a < m) (hmb : m < b) (hb : b ≤ d.size) (hsz : d.size ≤ 100000) :
    Calls Try.prog 71 #[.slice (some ⟨blk, off, none⟩) d.size cap, .int .i64 a, .int .i64 m, .int .i64 b, f] w fun e w' => e = .returned (.tuple #[]) ∧ ∃ d', SV w0 blk off d' w' ∧ Rot a m b d d' ∧ PermI a b d d' := by
  have S0 : Aside (SV w0 blk off d w) := S
  have HR : Hid (Row1 iEnc w0 blk off d0) := R
  clear S R
  go_enter Try.func71, Try.ntmps71
  go_wp2_with fail
  go_loopg [10, 11] (b - a) (fun gh vi vj wr => ∃ (i j : Nat) (dk : Array Int), vi = .int .i64 (i : Int) ∧ vj = .int .i64 (j : Int) ∧ 0 < i ∧ 0 < j ∧ i ≤ m - a ∧ j ≤ b - m ∧ gh = i + j ∧ dk.size = d.size ∧ Hid (SV w0 blk off dk wr) ∧ Hid ((∀ d', Rot (m - i) m (m + j) dk d' → Rot a m b d d') ∧ PermI a b d dk))
  case atStart => exact ⟨m - a, b - m, d, by congr 1; omega, by congr 1; omega, by omega, by omega, Nat.le_refl _, Nat.le_refl _, by omega, rfl, S0.out, fun d' h => by rw [show m - (m - a) = a by omega, show m + (b - m) = b by omega] at h; exact h, PermI.refl _ _ d⟩
  case round =>
    clear S0
    obtain ⟨i, j, dk, rfl, rfl, hi0, hj0, hi, hj, rfl, hsk, S1, HP⟩ := hrel
    have e1 : ((m - i : Nat) : Int) = (m : Int) - (i : Int) := by omega
    by_cases hij : i = j
    · subst hij
      have C := swr_any blk off cap (m - i) m i d0 dk w0 wr f HR.out (by omega) S1.out (by omega) (by omega) (by omega)
      rw [hsk, e1] at C
      go_wp2_with fail
      refine C.mono ?_
      rintro e w2 ⟨rfl, d2, S2, h2, p2⟩
      clear C
      have HH : Hid (SV w0 blk off d2 w2 ∧ Rot a m b d d2 ∧ PermI a b d d2) := ⟨S2, HP.out.1 d2 (Rot.one (by omega) h2), HP.out.2.trans (p2.wide (by omega) (by omega)) hsk⟩
      clear S2 h2 p2
      go_wp2_with fail
      go_end0
      exact ⟨rfl, d2, HH.out.1, HH.out.2⟩
    · have hne : ((i : Int) == (j : Int)) = false := by simp; omega
      have hne' : (i : Int) ≠ (j : Int) := by omega
      by_cases hgt : j < i
      · have hgt' : (j : Int) < (i : Int) := by omega
        have C := swr_any blk off cap (m - i) m j d0 dk w0 wr f HR.out (by omega) S1.out (by omega) (by omega) (by omega)
        rw [hsk, e1] at C
        go_wp2_with fail
        refine C.mono ?_
        rintro e w2 ⟨rfl, d2, S2, h2, p2⟩
        clear C
        have HH : Hid (SV w0 blk off d2 w2) := S2
        have HQ : Hid ((∀ d', Rot (m - (i - j)) m (m + j) d2 d' → Rot a m b d d') ∧ PermI a b d d2) := ⟨fun d' h => HP.out.1 d' (Rot.more (by omega) hgt h2 h), HP.out.2.trans (p2.wide (by omega) (by omega)) hsk⟩
        have hs2 : d2.size = d.size := by rw [h2.sz, hsk]
        clear S2 h2 p2
        go_wp2_with fail
        go_roundg (i - j + j)
        case measure => go_light; omega
        case rel => go_light; exact ⟨i - j, j, d2, by congr 1; omega, rfl, by omega, hj0, by omega, hj, rfl, hs2, HH, HQ⟩
      · have hgt' : ¬ (j : Int) < (i : Int) := by omega
        have C := swr_any blk off cap (m - i) (m + j - i) i d0 dk w0 wr f HR.out (by omega) S1.out (by omega) (by omega) (by omega)
        rw [hsk, e1, show ((m + j - i : Nat) : Int) = (m : Int) + (j : Int) - (i : Int) by omega] at C
        go_wp2_with fail
        refine C.mono ?_
        rintro e w2 ⟨rfl, d2, S2, h2, p2⟩
        clear C
        have HH : Hid (SV w0 blk off d2 w2) := S2
        have HQ : Hid ((∀ d', Rot (m - i) m (m + (j - i)) d2 d' → Rot a m b d d') ∧ PermI a b d d2) := ⟨fun d' h => HP.out.1 d' (Rot.less (by omega) (by omega) h2 h), HP.out.2.trans (p2.wide (by omega) (by omega)) hsk⟩
        have hs2 : d2.size = d.size := by rw [h2.sz, hsk]
        clear S2 h2 p2
        go_wp2_with fail
        go_roundg (i + (j - i))
        case measure => go_light; omega
        case rel => go_light; exact ⟨i, j - i, d2, rfl, by congr 1; omega, hi0, by omega, hi, by omega, rfl, hs2, HH, HQ⟩
end Go.Proofs.Ytdbbpmadkhedlaa
/- A stable sort, walked: insertionSort. -/
namespace Go.Proofs.Ytdbbpmadkhedlaa
open Go.RowKit Go.Shelf Go.Lib Go.Sort
set_option linter.unusedVariables false
set_option linter.unusedSimpArgs false

set_option maxHeartbeats 4000000 in
set_option maxRecDepth 1000000 in
theorem ins_any (r : Int → Int) (g : Nat) (cb : Array Value) (blk off cap a b : Nat) (d0 d : Array Int) (w0 w : World)
    (eg : ∀ args w, (callFunc g args).run Try.prog w = .ok (.enter g args) w) (hC : CmpR r g cb blk off d0.size w0) (R : Row1 iEnc w0 blk off d0) (hs : d0.size = d.size) (S : SV w0 blk off d w) (hab : a ≤ b) (hb : b ≤ d.size) (hsz : d.size ≤ 100000) (hN : NS a b d) :
    Calls Try.prog 65 #[.slice (some ⟨blk, off, none⟩) d.size cap, .int .i64 a, .int .i64 b, .func (.func g) #[] cb] w fun e w' => e = .returned (.tuple #[]) ∧ ∃ d', SV w0 blk off d' w' ∧ PermIn a b d d' ∧ TS r a b d' := by
  have mixed := mixedT
  have S0 : Hid (SV w0 blk off d w) := S
  have HR : Hid (Row1 iEnc w0 blk off d0) := R
  have HC : Hid (CmpR r g cb blk off d0.size w0) := hC
  have HF : Hid (∀ d', d' = insOuter (ltR r) a b (a + 1) d → PermIn a b d d' ∧ TS r a b d') := fun d' h => by rw [h]; exact ins_holds r d a b hab hb hN
  clear S R hC hN
  go_enter Try.func65, Try.ntmps65
  go_wp2_with fail
  go_loopg [8, 9] (b - a) (fun g1 vi vj wr => ∃ (i : Nat) (dk : Array Int), vi = .int .i64 (i : Int) ∧ a < i ∧ i ≤ b + 1 ∧ b + 1 - i ≤ g1 + 1 ∧ dk.size = d.size ∧ Hid (SV w0 blk off dk wr) ∧ Hid (insOuter (ltR r) a b i dk = insOuter (ltR r) a b (a + 1) d))
  case atStart => exact ⟨a + 1, d, by go_num, by omega, by omega, by omega, rfl, S0, rfl⟩
  case round =>
    clear S0
    obtain ⟨i, dk, rfl, hai, hib, hg1, hsk, S1, HO⟩ := hrel
    by_cases hlt : i < b
    · have hltz : (i : Int) < (b : Int) := by omega
      go_wp2_with fail
      go_loopg [9] i (fun g2 vj wr2 => ∃ (j : Nat) (dj : Array Int), vj = .int .i64 (j : Int) ∧ a ≤ j ∧ j ≤ i ∧ j ≤ g2 ∧ dj.size = d.size ∧ Hid (SV w0 blk off dj wr2) ∧ Hid (insInner (ltR r) a j dj = insInner (ltR r) a i dk))
      case atStart => exact ⟨i, dk, rfl, by omega, Nat.le_refl _, Nat.le_refl _, hsk, S1, rfl⟩
      case round =>
        clear S1
        obtain ⟨j, dj, rfl, haj, hji, hg2, hsj, SJ, HI⟩ := hrel
        have OUT : Hid ((j ≤ a ∨ ltR r dj[j]! dj[j - 1]! = false) → insOuter (ltR r) a b (i + 1) dj = insOuter (ltR r) a b (a + 1) d) := fun hs => by
          rw [← HO.out, insOuter_go _ _ _ _ _ hlt, ← HI.out, insInner_stop _ _ _ _ hs]
        by_cases hja : a < j
        · obtain ⟨q, hq⟩ : ∃ q, j = q + 1 := ⟨j - 1, by omega⟩
          have eq : (j : Int) - 1 = (q : Int) := by omega
          have hjaz : (a : Int) < (j : Int) := by omega
          have hjad : decide ((j : Int) > (a : Int)) = true := decide_eq_true (by omega)
          have pa : j < d.size := by omega
          have pa' : (j : Int) < (d.size : Int) := by omega
          have pb : q < d.size := by omega
          have pb' : (q : Int) < (d.size : Int) := by omega
          have ra : IntKind.i64.wrap (q : Int) = (q : Int) := by rw [IntKind.wrap_i64]; omega
          obtain ⟨x, hx⟩ : ∃ x, x = dj[j]! := ⟨_, rfl⟩
          obtain ⟨y, hy⟩ : ∃ y, y = dj[q]! := ⟨_, rfl⟩
          have l1 := SJ.out.c1 HR.out (by omega) j (by omega)
          have l2 := SJ.out.c1 HR.out (by omega) q (by omega)
          rw [← hx] at l1
          rw [← hy] at l2
          have hc := SJ.out.cmp HC.out (by omega) j q (by omega) (by omega)
          rw [← hx, ← hy] at hc
          have HH : Hid (x = dj[j]! ∧ y = dj[q]! ∧ j = q + 1) := ⟨hx, hy, hq⟩
          clear hx hy hq
          by_cases hv : cfR r x y < 0
          · have HV : Hid (ltR r x y = true) := decide_eq_true ((cfR_neg r x y).1 hv)
            generalize cfR r x y = cv at hc hv
            have hd : decide (cv < 0) = true := decide_eq_true hv
            go_wp2_with fail
            go_quiet (first | (go_at_fn g; refine Calls.quiet_of (hc _)))
            have S2 : Hid (SV w0 blk off dj (wr.drewN nq)) := SJ.out.drewN nq
            clear l1 l2 hc SJ
            generalize wr.drewN nq = w2 at S2 ⊢
            clear nq
            have c1 := S2.out.c1 HR.out (by omega) j (by omega)
            have c2 := S2.out.c1 HR.out (by omega) q (by omega)
            have f1 := S2.out.f1 HR.out (by omega) j (by omega)
            have f2 := S2.out.f1 HR.out (by omega) q (by omega)
            obtain ⟨u, c3⟩ := S2.out.c2 HR.out (by omega) j q (by omega) (by omega) (iEnc y)
            have S3 : Hid (SV w0 blk off (swp dj j q) ((w2.setCell ⟨blk, off + j, none⟩ (iEnc y)).setCell ⟨blk, off + q, none⟩ (iEnc x)).drew) := by rw [HH.out.1, HH.out.2.1]; exact S2.out.swapped HR.out j q (by omega) (by omega)
            rw [← HH.out.1] at c1
            rw [← HH.out.2.1] at c2
            clear S2
            go_wp2_with fail
            go_big_region_o
            clear c1 c2 c3 f1 f2
            generalize ((w2.setCell ⟨blk, off + j, none⟩ (iEnc y)).setCell ⟨blk, off + q, none⟩ (iEnc x)).drew = w3 at S3 ⊢
            go_wp2_with fail
            go_roundg (j - 1)
            case measure => go_light; omega
            case rel =>
              go_light
              have hq := HH.out.2.2
              refine ⟨q, swp dj j q, rfl, by omega, by omega, by omega, by rw [size_swp]; exact hsj, S3, ?_⟩
              show _ = _
              have := insInner_go (ltR r) a j dj hja (by rw [show j - 1 = q by omega, ← HH.out.1, ← HH.out.2.1]; exact HV.out)
              rw [show j - 1 = q by omega] at this
              rw [← HI.out, this]
          · have HV : Hid (ltR r x y = false) := decide_eq_false (fun h => hv ((cfR_neg r x y).2 h))
            generalize cfR r x y = cv at hc hv
            have hd : decide (cv < 0) = false := decide_eq_false hv
            go_wp2_with fail
            go_quiet (first | (go_at_fn g; refine Calls.quiet_of (hc _)))
            have S2 : Hid (SV w0 blk off dj (wr.drewN nq)) := SJ.out.drewN nq
            clear l1 l2 hc SJ
            generalize wr.drewN nq = w2 at S2 ⊢
            clear nq
            go_wp2_with fail
            go_roundg (b - (i + 1))
            case measure => go_light; omega
            case rel => go_light; exact ⟨i + 1, dj, by go_num, by omega, by omega, by omega, hsj, S2, OUT.out (Or.inr (by have := HH.out.2.2; rw [show j - 1 = q by omega, ← HH.out.1, ← HH.out.2.1]; exact HV.out))⟩
        · have hjaz : decide ((j : Int) > (a : Int)) = false := decide_eq_false (by omega)
          have hjaz' : ¬ (a : Int) < (j : Int) := by omega
          go_wp2_with fail
          go_big_region_o
          have S2 : Hid (SV w0 blk off dj wr.drew) := SJ.out.drewN 1
          clear SJ
          generalize wr.drew = w2 at S2 ⊢
          go_wp2_with fail
          go_roundg (b - (i + 1))
          case measure => go_light; omega
          case rel => go_light; exact ⟨i + 1, dj, by go_num, by omega, by omega, by omega, hsj, S2, OUT.out (Or.inl (by omega))⟩
    · have hltz : ¬ (i : Int) < (b : Int) := by omega
      have HE : Hid (dk = insOuter (ltR r) a b (a + 1) d) := by
        show dk = _
        rw [← HO.out, insOuter_stop _ _ _ _ _ hlt]
      go_wp2_with fail
      go_end0
      exact ⟨rfl, dk, S1.out, (HF.out dk HE.out).1, (HF.out dk HE.out).2⟩
end Go.Proofs.Ytdbbpmadkhedlaa
/- A stable sort, walked: symMerge of one number, and with one number. -/
namespace Go.Proofs.Ytdbbpmadkhedlaa
open Go.RowKit Go.Shelf Go.Lib Go.Sort
set_option linter.unusedVariables false
set_option linter.unusedSimpArgs false

set_option maxHeartbeats 4000000 in
set_option maxRecDepth 1000000 in
theorem sm_one (r : Int → Int) (g : Nat) (cb : Array Value) (blk off cap a m b : Nat) (d0 d : Array Int) (w0 w : World)
    (eg : ∀ args w, (callFunc g args).run Try.prog w = .ok (.enter g args) w) (hC : CmpR r g cb blk off d0.size w0) (R : Row1 iEnc w0 blk off d0) (hs : d0.size = d.size) (S : SV w0 blk off d w) (hm : m = a + 1) (hmb : m < b) (hb : b ≤ d.size) (hsz : d.size ≤ 100000) (hT : TS r m b d) (hX : Cro a m b d) :
    Calls Try.prog 66 #[.slice (some ⟨blk, off, none⟩) d.size cap, .int .i64 a, .int .i64 m, .int .i64 b, .func (.func g) #[] cb] w fun e w' => e = .returned (.tuple #[]) ∧ ∃ d', SV w0 blk off d' w' ∧ PermIn a b d d' ∧ TS r a b d' := by
  have mixed := mixedT
  have S0 : Hid (SV w0 blk off d w) := S
  have HR : Hid (Row1 iEnc w0 blk off d0) := R
  have HC : Hid (CmpR r g cb blk off d0.size w0) := hC
  have HT : Hid (TS r m b d ∧ Cro a m b d ∧ m = a + 1) := ⟨hT, hX, hm⟩
  have hma : (m : Int) - (a : Int) = 1 := by omega
  clear S R hC hT hX hm
  go_enter Try.func66, Try.ntmps66
  go_wp2_with fail
  go_loopg [10, 11] (b - m) (fun gh vi vj wr => ∃ (i j : Nat), vi = .int .i64 (i : Int) ∧ vj = .int .i64 (j : Int) ∧ m ≤ i ∧ i ≤ j ∧ j ≤ b ∧ gh = j - i ∧ Hid (SV w0 blk off d wr) ∧ Hid ((i = m ∨ tlt r d[i - 1]! d[a]!) ∧ (j = b ∨ tlt r d[a]! d[j]!)))
  case atStart => exact ⟨m, b, rfl, rfl, Nat.le_refl _, by omega, Nat.le_refl _, rfl, S0, Or.inl rfl, Or.inl rfl⟩
  case round =>
    clear S0
    obtain ⟨i, j, rfl, rfl, hmi, hij, hjb, rfl, S1, HP⟩ := hrel
    by_cases hlt : i < j
    · have hltz : (i : Int) < (j : Int) := by omega
      obtain ⟨h, hh⟩ : ∃ h, h = (i + j) / 2 := ⟨_, rfl⟩
      have eh : ((i : Int) + (j : Int)) / 2 = (h : Int) := by omega
      have hh1 : i ≤ h := by omega
      have hh2 : h < j := by omega
      have pa : h < d.size := by omega
      have pa' : (h : Int) < (d.size : Int) := by omega
      have pb : a < d.size := by omega
      have pb' : (a : Int) < (d.size : Int) := by omega
      obtain ⟨x, hx⟩ : ∃ x, x = d[h]! := ⟨_, rfl⟩
      obtain ⟨y, hy⟩ : ∃ y, y = d[a]! := ⟨_, rfl⟩
      have l1 := S1.out.c1 HR.out (by omega) h (by omega)
      have l2 := S1.out.c1 HR.out (by omega) a (by omega)
      rw [← hx] at l1
      rw [← hy] at l2
      have hc := S1.out.cmp HC.out (by omega) h a (by omega) (by omega)
      rw [← hx, ← hy] at hc
      have hlt' := HT.out.2.1 a h (Nat.le_refl _) (by have := HT.out.2.2; omega) (by omega) (by omega)
      rw [← hx, ← hy] at hlt'
      have HH : Hid (x = d[h]! ∧ y = d[a]! ∧ y < x) := ⟨hx, hy, hlt'⟩
      clear hx hy hlt' hh
      by_cases hv : cfR r x y < 0
      · have HN : Hid (tlt r x y) := tlt_of_lt ((cfR_neg r x y).1 hv)
        generalize cfR r x y = cv at hc hv
        have hd : decide (cv < 0) = true := decide_eq_true hv
        go_wp2_with fail
        go_quiet (first | (go_at_fn g; refine Calls.quiet_of (hc _)))
        have S2 : Hid (SV w0 blk off d (wr.drewN nq)) := S1.out.drewN nq
        clear l1 l2 hc S1
        generalize wr.drewN nq = w2 at S2 ⊢
        clear nq
        go_wp2_with fail
        go_roundg (j - (h + 1))
        case measure => go_light; omega
        case rel => go_light; exact ⟨h + 1, j, by simp, rfl, by omega, by omega, hjb, rfl, S2, Or.inr (by rw [Nat.add_sub_cancel, ← HH.out.1, ← HH.out.2.1]; exact HN.out), HP.out.2⟩
      · have HN : Hid (tlt r y x) := tlt_of_not HH.out.2.2 (fun h => hv ((cfR_neg r x y).2 h))
        generalize cfR r x y = cv at hc hv
        have hd : decide (cv < 0) = false := decide_eq_false hv
        go_wp2_with fail
        go_quiet (first | (go_at_fn g; refine Calls.quiet_of (hc _)))
        have S2 : Hid (SV w0 blk off d (wr.drewN nq)) := S1.out.drewN nq
        clear l1 l2 hc S1
        generalize wr.drewN nq = w2 at S2 ⊢
        clear nq
        go_wp2_with fail
        go_roundg (h - i)
        case measure => go_light; omega
        case rel => go_light; exact ⟨i, h, rfl, rfl, hmi, hh1, by omega, rfl, S2, HP.out.1, Or.inr (by rw [← HH.out.1, ← HH.out.2.1]; exact HN.out)⟩
    · have hge : ¬ (i : Int) < (j : Int) := by omega
      obtain rfl : i = j := by omega
      obtain ⟨t, ht⟩ : ∃ t, i = t + 1 := ⟨i - 1, by omega⟩
      have et : (i : Int) - 1 = (t : Int) := by omega
      have hat : a ≤ t := by have := HT.out.2.2; omega
      go_wp2_with fail
      go_loopg [13] (t - a) (fun gh vk wr2 => ∃ (k : Nat) (dk : Array Int), vk = .int .i64 (k : Int) ∧ a ≤ k ∧ k ≤ t ∧ gh = t - k ∧ dk.size = d.size ∧ Hid (SV w0 blk off dk wr2) ∧ Hid (ShU a k d dk ∧ PermI a b d dk))
      case atStart => exact ⟨a, d, rfl, Nat.le_refl _, hat, rfl, rfl, S1, ShU.zero a d, PermI.refl _ _ d⟩
      case round =>
        clear S1
        obtain ⟨k, dk, rfl, hak, hkt, rfl, hsk, SK, HK⟩ := hrel
        by_cases hkl : k < t
        · have hkz : (k : Int) < (t : Int) := by omega
          obtain ⟨q, hq⟩ : ∃ q, q = k + 1 := ⟨_, rfl⟩
          have eb : (k : Int) + 1 = (q : Int) := by omega
          have pa : k < d.size := by omega
          have pb : q < d.size := by omega
          have pa' : (k : Int) < (d.size : Int) := by omega
          have pb' : (q : Int) < (d.size : Int) := by omega
          have rb : IntKind.i64.wrap (q : Int) = (q : Int) := by rw [IntKind.wrap_i64]; omega
          obtain ⟨x, hx⟩ : ∃ x, x = dk[k]! := ⟨_, rfl⟩
          obtain ⟨y, hy⟩ : ∃ y, y = dk[q]! := ⟨_, rfl⟩
          have c1 := SK.out.c1 HR.out (by omega) k (by omega)
          have c2 := SK.out.c1 HR.out (by omega) q (by omega)
          have f1 := SK.out.f1 HR.out (by omega) k (by omega)
          have f2 := SK.out.f1 HR.out (by omega) q (by omega)
          obtain ⟨u, c3⟩ := SK.out.c2 HR.out (by omega) k q (by omega) (by omega) (iEnc y)
          have S3 : Hid (SV w0 blk off (swp dk k q) ((wr.setCell ⟨blk, off + k, none⟩ (iEnc y)).setCell ⟨blk, off + q, none⟩ (iEnc x)).drew) := by rw [hx, hy]; exact SK.out.swapped HR.out k q (by omega) (by omega)
          rw [← hx] at c1
          rw [← hy] at c2
          have HX : Hid (x = dk[k]! ∧ y = dk[q]! ∧ q = k + 1) := ⟨hx, hy, hq⟩
          clear hx hy hq SK hs hsk
          go_wp2_with fail
          go_big_region_o
          clear c1 c2 c3 f1 f2
          generalize ((wr.setCell ⟨blk, off + k, none⟩ (iEnc y)).setCell ⟨blk, off + q, none⟩ (iEnc x)).drew = w3 at S3 ⊢
          go_wp2_with fail
          go_roundg (t - (k + 1))
          case measure => go_light; omega
          case rel =>
            go_light
            obtain ⟨hx, hy, rfl⟩ := HX.out
            have hz := HK.out.1.sz
            exact ⟨k + 1, swp dk k (k + 1), by simp, by omega, by omega, rfl, by rw [size_swp, hz], S3, HK.out.1.step hak (by omega), HK.out.2.trans (PermI.swp hak (by omega) (by omega) (by omega)) hz⟩
        · have hkge : ¬ (k : Int) < (t : Int) := by omega
          obtain rfl : k = t := by omega
          have HE : Hid (PermIn a b d dk ∧ TS r a b dk) := by
            obtain ⟨h1, h2, h3⟩ := HT.out
            refine ⟨HK.out.2 a b (Nat.le_refl _) (Nat.le_refl _) hb, ?_⟩
            subst h3
            exact merge_one h1 hmi hjb HP.out.1 HP.out.2 (by rw [ht]; exact HK.out.1)
          go_wp2_with fail
          ((try simp only [Exit.inBlock, Exit.then]); refine bodyPost_ret (results_none rfl _ _ _) rfl ?_)
          exact ⟨rfl, dk, SK.out, HE.out.1, HE.out.2⟩
end Go.Proofs.Ytdbbpmadkhedlaa
/- A stable sort, walked: symMerge with one number. -/
namespace Go.Proofs.Ytdbbpmadkhedlaa
open Go.RowKit Go.Shelf Go.Lib Go.Sort
set_option linter.unusedVariables false
set_option linter.unusedSimpArgs false

set_option maxHeartbeats 4000000 in
set_option maxRecDepth 1000000 in
theorem sm_last (r : Int → Int) (g : Nat) (cb : Array Value) (blk off cap a m b : Nat) (d0 d : Array Int) (w0 w : World)
    (eg : ∀ args w, (callFunc g args).run Try.prog w = .ok (.enter g args) w) (hC : CmpR r g cb blk off d0.size w0) (R : Row1 iEnc w0 blk off d0) (hs : d0.size = d.size) (S : SV w0 blk off d w) (hm : a + 2 ≤ m) (hmb : b = m + 1) (hb : b ≤ d.size) (hsz : d.size ≤ 100000) (hT : TS r a m d) (hX : Cro a m b d) :
    Calls Try.prog 66 #[.slice (some ⟨blk, off, none⟩) d.size cap, .int .i64 a, .int .i64 m, .int .i64 b, .func (.func g) #[] cb] w fun e w' => e = .returned (.tuple #[]) ∧ ∃ d', SV w0 blk off d' w' ∧ PermIn a b d d' ∧ TS r a b d' := by
  have mixed := mixedT
  have S0 : Hid (SV w0 blk off d w) := S
  have HR : Hid (Row1 iEnc w0 blk off d0) := R
  have HC : Hid (CmpR r g cb blk off d0.size w0) := hC
  have HT : Hid (TS r a m d ∧ Cro a m b d ∧ b = m + 1) := ⟨hT, hX, hmb⟩
  have hma : ((m : Int) - (a : Int) == 1) = false := by simp; omega
  have hma' : ¬ (m : Int) - (a : Int) = 1 := by omega
  have hbm : (b : Int) - (m : Int) = 1 := by omega
  have hmb1 : m < b := by omega
  have hmb2 : b ≤ m + 1 := by omega
  clear S R hC hT hX hmb
  go_enter Try.func66, Try.ntmps66
  go_wp2_with fail
  go_loopg [14, 15] (m - a) (fun gh vi vj wr => ∃ (i j : Nat), vi = .int .i64 (i : Int) ∧ vj = .int .i64 (j : Int) ∧ a ≤ i ∧ i ≤ j ∧ j ≤ m ∧ gh = j - i ∧ Hid (SV w0 blk off d wr) ∧ Hid ((i = a ∨ tlt r d[i - 1]! d[m]!) ∧ (j = m ∨ tlt r d[m]! d[j]!)))
  case atStart => exact ⟨a, m, rfl, rfl, Nat.le_refl _, by omega, Nat.le_refl _, rfl, S0, Or.inl rfl, Or.inl rfl⟩
  case round =>
    clear S0
    obtain ⟨i, j, rfl, rfl, hmi, hij, hjb, rfl, S1, HP⟩ := hrel
    by_cases hlt : i < j
    · have hltz : (i : Int) < (j : Int) := by omega
      obtain ⟨h, hh⟩ : ∃ h, h = (i + j) / 2 := ⟨_, rfl⟩
      have eh : ((i : Int) + (j : Int)) / 2 = (h : Int) := by omega
      have hh1 : i ≤ h := by omega
      have hh2 : h < j := by omega
      have pa : h < d.size := by omega
      have pa' : (h : Int) < (d.size : Int) := by omega
      have pb : m < d.size := by omega
      have pb' : (m : Int) < (d.size : Int) := by omega
      obtain ⟨x, hx⟩ : ∃ x, x = d[m]! := ⟨_, rfl⟩
      obtain ⟨y, hy⟩ : ∃ y, y = d[h]! := ⟨_, rfl⟩
      have l1 := S1.out.c1 HR.out (by omega) m (by omega)
      have l2 := S1.out.c1 HR.out (by omega) h (by omega)
      rw [← hx] at l1
      rw [← hy] at l2
      have hc := S1.out.cmp HC.out (by omega) m h (by omega) (by omega)
      rw [← hx, ← hy] at hc
      have hlt' := HT.out.2.1 h m (by omega) (by omega) (Nat.le_refl _) (by omega)
      rw [← hx, ← hy] at hlt'
      have HH : Hid (x = d[m]! ∧ y = d[h]! ∧ y < x) := ⟨hx, hy, hlt'⟩
      clear hx hy hlt' hh
      by_cases hv : cfR r x y < 0
      · have HN : Hid (tlt r x y) := tlt_of_lt ((cfR_neg r x y).1 hv)
        generalize cfR r x y = cv at hc hv
        have hd : decide (cv < 0) = true := decide_eq_true hv
        go_wp2_with fail
        go_quiet (first | (go_at_fn g; refine Calls.quiet_of (hc _)))
        have S2 : Hid (SV w0 blk off d (wr.drewN nq)) := S1.out.drewN nq
        clear l1 l2 hc S1
        generalize wr.drewN nq = w2 at S2 ⊢
        clear nq
        go_wp2_with fail
        go_roundg (h - i)
        case measure => go_light; omega
        case rel => go_light; exact ⟨i, h, rfl, rfl, hmi, hh1, by omega, rfl, S2, HP.out.1, Or.inr (by rw [← HH.out.1, ← HH.out.2.1]; exact HN.out)⟩
      · have HN : Hid (tlt r y x) := tlt_of_not HH.out.2.2 (fun h => hv ((cfR_neg r x y).2 h))
        generalize cfR r x y = cv at hc hv
        have hd : decide (cv < 0) = false := decide_eq_false hv
        go_wp2_with fail
        go_quiet (first | (go_at_fn g; refine Calls.quiet_of (hc _)))
        have S2 : Hid (SV w0 blk off d (wr.drewN nq)) := S1.out.drewN nq
        clear l1 l2 hc S1
        generalize wr.drewN nq = w2 at S2 ⊢
        clear nq
        go_wp2_with fail
        go_roundg (j - (h + 1))
        case measure => go_light; omega
        case rel => go_light; exact ⟨h + 1, j, by simp, rfl, by omega, by omega, hjb, rfl, S2, Or.inr (by rw [Nat.add_sub_cancel, ← HH.out.1, ← HH.out.2.1]; exact HN.out), HP.out.2⟩
    · have hge : ¬ (i : Int) < (j : Int) := by omega
      obtain rfl : i = j := by omega
      go_wp2_with fail
      go_loopg [17] (m - i) (fun gh vk wr2 => ∃ (k : Nat) (dk : Array Int), vk = .int .i64 (k : Int) ∧ i ≤ k ∧ k ≤ m ∧ gh = k - i ∧ dk.size = d.size ∧ Hid (SV w0 blk off dk wr2) ∧ Hid (ShD m k d dk ∧ PermI a b d dk))
      case atStart => exact ⟨m, d, rfl, hjb, Nat.le_refl _, rfl, rfl, S1, ShD.zero m d, PermI.refl _ _ d⟩
      case round =>
        clear S1
        obtain ⟨k, dk, rfl, hik, hkm, rfl, hsk, SK, HK⟩ := hrel
        by_cases hkl : i < k
        · obtain ⟨q, hq⟩ : ∃ q, k = q + 1 := ⟨k - 1, by omega⟩
          have hkz : (i : Int) < (k : Int) := by omega
          have eb : (k : Int) - 1 = (q : Int) := by omega
          have pa : k < d.size := by omega
          have pb : q < d.size := by omega
          have pa' : (k : Int) < (d.size : Int) := by omega
          have pb' : (q : Int) < (d.size : Int) := by omega
          have rb : IntKind.i64.wrap (q : Int) = (q : Int) := by rw [IntKind.wrap_i64]; omega
          obtain ⟨x, hx⟩ : ∃ x, x = dk[k]! := ⟨_, rfl⟩
          obtain ⟨y, hy⟩ : ∃ y, y = dk[q]! := ⟨_, rfl⟩
          have c1 := SK.out.c1 HR.out (by omega) k (by omega)
          have c2 := SK.out.c1 HR.out (by omega) q (by omega)
          have f1 := SK.out.f1 HR.out (by omega) k (by omega)
          have f2 := SK.out.f1 HR.out (by omega) q (by omega)
          obtain ⟨u, c3⟩ := SK.out.c2 HR.out (by omega) k q (by omega) (by omega) (iEnc y)
          have S3 : Hid (SV w0 blk off (swp dk k q) ((wr.setCell ⟨blk, off + k, none⟩ (iEnc y)).setCell ⟨blk, off + q, none⟩ (iEnc x)).drew) := by rw [hx, hy]; exact SK.out.swapped HR.out k q (by omega) (by omega)
          rw [← hx] at c1
          rw [← hy] at c2
          have HX : Hid (x = dk[k]! ∧ y = dk[q]! ∧ k = q + 1) := ⟨hx, hy, hq⟩
          clear hx hy hq SK hs hsk
          go_wp2_with fail
          go_big_region_o
          clear c1 c2 c3 f1 f2
          generalize ((wr.setCell ⟨blk, off + k, none⟩ (iEnc y)).setCell ⟨blk, off + q, none⟩ (iEnc x)).drew = w3 at S3 ⊢
          go_wp2_with fail
          go_roundg (q - i)
          case measure => go_light; have := HX.out.2.2; omega
          case rel =>
            go_light
            obtain ⟨hx, hy, rfl⟩ := HX.out
            have hz := HK.out.1.sz
            exact ⟨q, swp dk (q + 1) q, rfl, by omega, by omega, rfl, by rw [size_swp, hz], S3, HK.out.1.step hkm (by omega), HK.out.2.trans (PermI.swp (by omega) (by omega) (by omega) (by omega)) hz⟩
        · have hkge : ¬ (i : Int) < (k : Int) := by omega
          obtain rfl : i = k := by omega
          have HE : Hid (PermIn a b d dk ∧ TS r a b dk) := by
            obtain ⟨h1, h2, h3⟩ := HT.out
            refine ⟨HK.out.2 a b (Nat.le_refl _) (Nat.le_refl _) hb, ?_⟩
            subst h3
            exact merge_last h1 hmi hjb HP.out.1 HP.out.2 HK.out.1
          go_wp2_with fail
          ((try simp only [Exit.inBlock, Exit.then]); refine bodyPost_ret (results_none rfl _ _ _) rfl ?_)
          exact ⟨rfl, dk, SK.out, HE.out.1, HE.out.2⟩
end Go.Proofs.Ytdbbpmadkhedlaa
/- A stable sort, walked: symMerge of two ranges, each of two numbers or more. -/
namespace Go.Proofs.Ytdbbpmadkhedlaa
open Go.RowKit Go.Shelf Go.Lib Go.Sort
set_option linter.unusedVariables false
set_option linter.unusedSimpArgs false

theorem Mid.skip1 {r : Int → Int} {a s mid e b : Nat} {d : Array Int} (h : Mid r a s mid e b d) (hs : a = s ∨ s = mid) : PermIn a mid d d ∧ TS r a mid d := by
  refine ⟨permIn_refl d a mid, ?_⟩
  rcases hs with rfl | rfl
  · exact h.t2
  · exact h.t1
theorem sm_skip2 {r : Int → Int} {mid e b : Nat} {d : Array Int} (h3 : TS r mid e d) (h4 : TS r e b d) (hs : mid = e ∨ e = b) : PermIn mid b d d ∧ TS r mid b d := by
  refine ⟨permIn_refl d mid b, ?_⟩
  rcases hs with rfl | rfl
  · exact h4
  · exact h3
theorem sm_close {r : Int → Int} {a s mid e b : Nat} {d d1 d2 d3 : Array Int} (M : Mid r a s mid e b d1) (ham : a ≤ mid) (hmb : mid ≤ b) (hb : b ≤ d.size) (hme : mid ≤ e) (heb : e ≤ b) (P1 : PermIn a b d d1) (P2 : PermIn a mid d1 d2) (T2 : TS r a mid d2) (P3 : PermIn mid b d2 d3) (T3 : TS r mid b d3) : PermIn a b d d3 ∧ TS r a b d3 := by
  have z1 := P1.1
  have z2 := P2.1
  obtain ⟨k1, k2, k3, k4, k5⟩ := M.left hmb (by omega) hme heb P2 T2
  refine ⟨permIn_trans _ _ _ a b P1 (permIn_trans _ _ _ a b (permIn_mono d1 d2 a mid a b (Nat.le_refl _) hmb (by omega) P2) (permIn_mono d2 d3 mid b a b ham (Nat.le_refl _) (by omega) P3)), ?_⟩
  exact mid_end ham hmb (by omega) k1 k5 P3 T3
/-- symMerge's contract, of ranges of at most N numbers. -/
def SmOk (r : Int → Int) (g : Nat) (cb : Array Value) (blk off cap : Nat) (d0 : Array Int) (w0 : World) (N : Nat) : Prop :=
  ∀ (a m b : Nat) (d : Array Int) (w : World), d0.size = d.size → SV w0 blk off d w → a < m → m < b → b ≤ d.size → b - a ≤ N → TS r a m d → TS r m b d → Cro a m b d →
    Calls Try.prog 66 #[.slice (some ⟨blk, off, none⟩) d.size cap, .int .i64 a, .int .i64 m, .int .i64 b, .func (.func g) #[] cb] w fun e w' => e = .returned (.tuple #[]) ∧ ∃ d', SV w0 blk off d' w' ∧ PermIn a b d d' ∧ TS r a b d'
set_option maxHeartbeats 8000000 in
set_option maxRecDepth 1000000 in
theorem sm_gen1 (r : Int → Int) (g : Nat) (cb : Array Value) (blk off cap a m b mid N : Nat) (d0 d : Array Int) (w0 w : World)
    (eg : ∀ args w, (callFunc g args).run Try.prog w = .ok (.enter g args) w) (hC : CmpR r g cb blk off d0.size w0) (R : Row1 iEnc w0 blk off d0) (hs : d0.size = d.size) (S : SV w0 blk off d w) (ham : a + 2 ≤ m) (hmb : m + 2 ≤ b) (hb : b ≤ d.size) (hsz : d.size ≤ 100000) (hT : TS r a m d) (hT2 : TS r m b d) (hX : Cro a m b d)
    (hmid : mid = (a + b) / 2) (hcs : mid < m) (hN : b - a ≤ N + 1) (IH : SmOk r g cb blk off cap d0 w0 N) :
    Calls Try.prog 66 #[.slice (some ⟨blk, off, none⟩) d.size cap, .int .i64 a, .int .i64 m, .int .i64 b, .func (.func g) #[] cb] w fun e w' => e = .returned (.tuple #[]) ∧ ∃ d', SV w0 blk off d' w' ∧ PermIn a b d d' ∧ TS r a b d' := by
  have mixed := mixedT
  have S0 : Hid (SV w0 blk off d w) := S
  have HR : Hid (Row1 iEnc w0 blk off d0) := R
  have HC : Hid (CmpR r g cb blk off d0.size w0) := hC
  have HT : Hid (TS r a m d ∧ TS r m b d ∧ Cro a m b d) := ⟨hT, hT2, hX⟩
  have HI : Hid (SmOk r g cb blk off cap d0 w0 N) := IH
  have hma : ((m : Int) - (a : Int) == 1) = false := by simp; omega
  have hma' : ¬ (m : Int) - (a : Int) = 1 := by omega
  have hbm : ((b : Int) - (m : Int) == 1) = false := by simp; omega
  have hbm' : ¬ (b : Int) - (m : Int) = 1 := by omega
  have emid : ((a : Int) + (b : Int)) / 2 = (mid : Int) := by omega
  have hm1 : a + 2 ≤ mid := by omega
  have hm2 : mid + 2 ≤ b := by omega
  have hm3 : a + b ≤ 2 * mid + 1 := by omega
  have hm4 : 2 * mid ≤ a + b := by omega
  obtain ⟨n, hn⟩ : ∃ n, n = mid + m := ⟨_, rfl⟩
  have en : (mid : Int) + (m : Int) = (n : Int) := by omega
  obtain ⟨p, hp⟩ : ∃ p, n = p + 1 := ⟨n - 1, by omega⟩
  have ep : (n : Int) - 1 = (p : Int) := by omega
  have HN : Hid (n = mid + m ∧ n = p + 1) := ⟨hn, hp⟩
  obtain ⟨lo, hlo⟩ : ∃ lo, n = lo + b := ⟨n - b, by omega⟩
  have elo : (n : Int) - (b : Int) = (lo : Int) := by omega
  obtain ⟨hi, hhi⟩ : ∃ hi, hi = mid := ⟨_, rfl⟩
  have hcs' : (mid : Int) < (m : Int) := by omega
  have HE : Hid (n = lo + b ∧ hi = mid) := ⟨hlo, hhi⟩
  clear S R hC hT hT2 hX IH hmid hn hp hlo hhi
  go_enter Try.func66, Try.ntmps66
  go_wp2_with fail
  go_loopg [20, 21] (hi - lo) (fun gh vs vt wr => ∃ (s t : Nat), vs = .int .i64 (s : Int) ∧ vt = .int .i64 (t : Int) ∧ lo ≤ s ∧ s ≤ t ∧ t ≤ hi ∧ gh = t - s ∧ Hid (SV w0 blk off d wr) ∧ Hid ((s = lo ∨ tlt r d[s - 1]! d[n - s]!) ∧ (t = hi ∨ tlt r d[n - 1 - t]! d[t]!)))
  case atStart => exact ⟨lo, mid, rfl, rfl, Nat.le_refl _, by have := HE.out; have := HN.out; omega, by have := HE.out; omega, by have := HE.out; omega, S0, Or.inl rfl, Or.inl HE.out.2.symm⟩
  case round =>
    clear S0
    obtain ⟨s, t, rfl, rfl, hls, hst, hth, rfl, S1, HP⟩ := hrel
    by_cases hlt : s < t
    · have hltz : (s : Int) < (t : Int) := by omega
      obtain ⟨c, hc0⟩ : ∃ c, c = (s + t) / 2 := ⟨_, rfl⟩
      have ec : ((s : Int) + (t : Int)) / 2 = (c : Int) := by omega
      have hc1 : s ≤ c := by omega
      have hc2 : c < t := by omega
      obtain ⟨o, ho⟩ : ∃ o, p = o + c := ⟨p - c, by have := HE.out; have := HN.out; omega⟩
      have eo : (p : Int) - (c : Int) = (o : Int) := by omega
      have hb1 : a ≤ c := by have := HE.out; have := HN.out; omega
      have hb2 : c < m := by have := HE.out; have := HN.out; omega
      have hb3 : m ≤ o := by have := HE.out; have := HN.out; omega
      have hb4 : o < b := by have := HE.out; have := HN.out; omega
      have pa : o < d.size := by omega
      have pa' : (o : Int) < (d.size : Int) := by omega
      have pb : c < d.size := by omega
      have pb' : (c : Int) < (d.size : Int) := by omega
      have ro : IntKind.i64.wrap (o : Int) = (o : Int) := by rw [IntKind.wrap_i64]; omega
      obtain ⟨x, hx⟩ : ∃ x, x = d[o]! := ⟨_, rfl⟩
      obtain ⟨y, hy⟩ : ∃ y, y = d[c]! := ⟨_, rfl⟩
      have l1 := S1.out.c1 HR.out (by omega) o (by omega)
      have l2 := S1.out.c1 HR.out (by omega) c (by omega)
      rw [← hx] at l1
      rw [← hy] at l2
      have hc := S1.out.cmp HC.out (by omega) o c (by omega) (by omega)
      rw [← hx, ← hy] at hc
      have hlt' := HT.out.2.2 c o hb1 hb2 hb3 hb4
      rw [← hx, ← hy] at hlt'
      have HH : Hid (x = d[o]! ∧ y = d[c]! ∧ y < x ∧ p = o + c) := ⟨hx, hy, hlt', ho⟩
      clear hx hy hlt' hc0 ho hb1 hb2 hb3 hb4
      by_cases hv : cfR r x y < 0
      · have HV : Hid (tlt r x y) := tlt_of_lt ((cfR_neg r x y).1 hv)
        generalize cfR r x y = cv at hc hv
        have hd : decide (cv < 0) = true := decide_eq_true hv
        go_wp2_with fail
        go_quiet (first | (go_at_fn g; refine Calls.quiet_of (hc _)))
        have S2 : Hid (SV w0 blk off d (wr.drewN nq)) := S1.out.drewN nq
        clear l1 l2 hc S1
        generalize wr.drewN nq = w2 at S2 ⊢
        clear nq
        go_wp2_with fail
        go_roundg (c - s)
        case measure => go_light; omega
        case rel => go_light; exact ⟨s, c, rfl, rfl, hls, hc1, by omega, rfl, S2, HP.out.1, Or.inr (by rw [show n - 1 - c = o by have := HN.out; have := HH.out.2.2.2; omega, ← HH.out.1, ← HH.out.2.1]; exact HV.out)⟩
      · have HV : Hid (tlt r y x) := tlt_of_not HH.out.2.2.1 (fun h => hv ((cfR_neg r x y).2 h))
        generalize cfR r x y = cv at hc hv
        have hd : decide (cv < 0) = false := decide_eq_false hv
        go_wp2_with fail
        go_quiet (first | (go_at_fn g; refine Calls.quiet_of (hc _)))
        have S2 : Hid (SV w0 blk off d (wr.drewN nq)) := S1.out.drewN nq
        clear l1 l2 hc S1
        generalize wr.drewN nq = w2 at S2 ⊢
        clear nq
        go_wp2_with fail
        go_roundg (t - (c + 1))
        case measure => go_light; omega
        case rel => go_light; exact ⟨c + 1, t, by simp, rfl, by omega, by omega, hth, rfl, S2, Or.inr (by rw [Nat.add_sub_cancel, show n - (c + 1) = o by have := HN.out; have := HH.out.2.2.2; omega, ← HH.out.1, ← HH.out.2.1]; exact HV.out), HP.out.2⟩
    · have hge : ¬ (s : Int) < (t : Int) := by omega
      obtain rfl : s = t := by omega
      obtain ⟨e, he⟩ : ∃ e, n = e + s := ⟨n - s, by have := HE.out; have := HN.out; omega⟩
      have ee : (n : Int) - (s : Int) = (e : Int) := by omega
      have b1 : a ≤ s := by have := HE.out; have := HN.out; omega
      have b2 : s ≤ m := by have := HE.out; have := HN.out; omega
      have b3 : m ≤ e := by have := HE.out; have := HN.out; omega
      have b4 : e ≤ b := by have := HE.out; have := HN.out; omega
      have b5 : mid + m = s + e := by have := HN.out; omega
      have HL : Hid ((s = a ∨ e = b ∨ tlt r d[s - 1]! d[e]!) ∧ (s = m ∨ e = m ∨ tlt r d[e - 1]! d[s]!)) := by
        obtain ⟨q1, q2⟩ := HP.out
        have h1 := HE.out
        have h2 := HN.out
        refine ⟨?_, ?_⟩
        · rcases q1 with q | q
          · first | exact Or.inl (by omega) | exact Or.inr (Or.inl (by omega))
          · exact Or.inr (Or.inr (by rw [show e = n - s by omega]; exact q))
        · rcases q2 with q | q
          · first | exact Or.inl (by omega) | exact Or.inr (Or.inl (by omega))
          · exact Or.inr (Or.inr (by rw [show e - 1 = n - 1 - s by omega]; exact q))
      have HM : Hid (∀ d1, Rot s m e d d1 → Mid r a s mid e b d1) := fun d1 h => mid_of b1 b2 b3 b4 b5 HT.out.1 HT.out.2.1 HT.out.2.2 HL.out.1 HL.out.2 h
      have HB : Hid (mid + m = s + e ∧ n = e + s) := ⟨b5, he⟩
      clear HP HL b5 he hls hst
      by_cases h1 : s < m
      · have h1' : (s : Int) < (m : Int) := by omega
        by_cases h2 : m < e
        · have h2' : (m : Int) < (e : Int) := by omega
          have h3' : (s : Int) < (mid : Int) := by have := HB.out; omega
          have h4' : (mid : Int) < (e : Int) := by have := HB.out; omega
          have C1 := rot_any blk off cap s m e d0 d w0 wr (.func (.func g) #[] cb) HR.out (by omega) S1.out h1 h2 (by omega) hsz
          go_wp2_with fail
          refine C1.mono ?_
          rintro e' w3 ⟨rfl, d3, s3, r3, p3⟩
          clear C1
          have S3 : Hid (SV w0 blk off d3 w3) := s3
          have MM : Hid (Mid r a s mid e b d3 ∧ PermIn a b d d3 ∧ True) := ⟨HM.out d3 r3, p3 a b b1 b4 hb, trivial⟩
          clear s3 r3 p3
          by_cases h5 : a < s
          · have h5' : (a : Int) < (s : Int) := by omega
            by_cases h6 : e < b
            · have h6' : (e : Int) < (b : Int) := by omega
              have C2 := HI.out a s mid d3 w3 (by have := MM.out.2.1.1; omega) S3.out (by omega) (by have := HB.out; omega) (by have := MM.out.2.1.1; omega) (by omega) MM.out.1.t1 MM.out.1.t2 MM.out.1.c1
              rw [MM.out.2.1.1] at C2
              go_wp2_with fail
              refine C2.mono ?_
              rintro e' w4 ⟨rfl, d4, s4, p4, t4⟩
              clear C2
              have S4 : Hid (SV w0 blk off d4 w4) := s4
              have P2 : Hid (PermIn a mid d3 d4 ∧ TS r a mid d4) := ⟨p4, t4⟩
              clear s4 p4 t4
              have P5 : Hid (TS r mid e d4 ∧ TS r e b d4 ∧ Cro mid e b d4 ∧ d4.size = d.size) := by
                have z1 := MM.out.2.1.1
                have z2 := P2.out.1.1
                obtain ⟨k1, k2, k3, k4, k5⟩ := MM.out.1.left (by omega) (by omega) (by have := HB.out; omega) b4 P2.out.1 P2.out.2
                exact ⟨k2, k3, k4, by omega⟩
              have C3 := HI.out mid e b d4 w4 (by have := P5.out.2.2.2; omega) S4.out (by have := HB.out; omega) (by omega) (by have := P5.out.2.2.2; omega) (by omega) P5.out.1 P5.out.2.1 P5.out.2.2.1
              rw [P5.out.2.2.2] at C3
              go_wp2_with fail
              refine C3.mono ?_
              rintro e' w5 ⟨rfl, d5, s5, p5, t5⟩
              clear C3
              have S5 : Hid (SV w0 blk off d5 w5) := s5
              have P3 : Hid (PermIn mid b d4 d5 ∧ TS r mid b d5) := ⟨p5, t5⟩
              clear s5 p5 t5
              go_wp2_with fail
              go_end0
              exact ⟨rfl, d5, S5.out, sm_close MM.out.1 (by omega) (by omega) hb (by have := HB.out; omega) b4 MM.out.2.1 P2.out.1 P2.out.2 P3.out.1 P3.out.2⟩
            · have h6' : ¬ (e : Int) < (b : Int) := by omega
              have C2 := HI.out a s mid d3 w3 (by have := MM.out.2.1.1; omega) S3.out (by omega) (by have := HB.out; omega) (by have := MM.out.2.1.1; omega) (by omega) MM.out.1.t1 MM.out.1.t2 MM.out.1.c1
              rw [MM.out.2.1.1] at C2
              go_wp2_with fail
              refine C2.mono ?_
              rintro e' w4 ⟨rfl, d4, s4, p4, t4⟩
              clear C2
              have S4 : Hid (SV w0 blk off d4 w4) := s4
              have P2 : Hid (PermIn a mid d3 d4 ∧ TS r a mid d4) := ⟨p4, t4⟩
              clear s4 p4 t4
              have P5 : Hid (TS r mid e d4 ∧ TS r e b d4 ∧ Cro mid e b d4 ∧ d4.size = d.size) := by
                have z1 := MM.out.2.1.1
                have z2 := P2.out.1.1
                obtain ⟨k1, k2, k3, k4, k5⟩ := MM.out.1.left (by omega) (by omega) (by have := HB.out; omega) b4 P2.out.1 P2.out.2
                exact ⟨k2, k3, k4, by omega⟩
              have P3 : Hid (PermIn mid b d4 d4 ∧ TS r mid b d4) := sm_skip2 P5.out.1 P5.out.2.1 (by have := HB.out; omega)
              go_wp2_with fail
              go_end0
              exact ⟨rfl, d4, S4.out, sm_close MM.out.1 (by omega) (by omega) hb (by have := HB.out; omega) b4 MM.out.2.1 P2.out.1 P2.out.2 P3.out.1 P3.out.2⟩
          · have h5' : ¬ (a : Int) < (s : Int) := by omega
            by_cases h6 : e < b
            · have h6' : (e : Int) < (b : Int) := by omega
              have P2 : Hid (PermIn a mid d3 d3 ∧ TS r a mid d3) := MM.out.1.skip1 (by have := HB.out; omega)
              have P5 : Hid (TS r mid e d3 ∧ TS r e b d3 ∧ Cro mid e b d3 ∧ d3.size = d.size) := by
                have z1 := MM.out.2.1.1
                have z2 := P2.out.1.1
                obtain ⟨k1, k2, k3, k4, k5⟩ := MM.out.1.left (by omega) (by omega) (by have := HB.out; omega) b4 P2.out.1 P2.out.2
                exact ⟨k2, k3, k4, by omega⟩
              have C3 := HI.out mid e b d3 w3 (by have := P5.out.2.2.2; omega) S3.out (by have := HB.out; omega) (by omega) (by have := P5.out.2.2.2; omega) (by omega) P5.out.1 P5.out.2.1 P5.out.2.2.1
              rw [P5.out.2.2.2] at C3
              go_wp2_with fail
              refine C3.mono ?_
              rintro e' w5 ⟨rfl, d5, s5, p5, t5⟩
              clear C3
              have S5 : Hid (SV w0 blk off d5 w5) := s5
              have P3 : Hid (PermIn mid b d3 d5 ∧ TS r mid b d5) := ⟨p5, t5⟩
              clear s5 p5 t5
              go_wp2_with fail
              go_end0
              exact ⟨rfl, d5, S5.out, sm_close MM.out.1 (by omega) (by omega) hb (by have := HB.out; omega) b4 MM.out.2.1 P2.out.1 P2.out.2 P3.out.1 P3.out.2⟩
            · have h6' : ¬ (e : Int) < (b : Int) := by omega
              have P2 : Hid (PermIn a mid d3 d3 ∧ TS r a mid d3) := MM.out.1.skip1 (by have := HB.out; omega)
              have P5 : Hid (TS r mid e d3 ∧ TS r e b d3 ∧ Cro mid e b d3 ∧ d3.size = d.size) := by
                have z1 := MM.out.2.1.1
                have z2 := P2.out.1.1
                obtain ⟨k1, k2, k3, k4, k5⟩ := MM.out.1.left (by omega) (by omega) (by have := HB.out; omega) b4 P2.out.1 P2.out.2
                exact ⟨k2, k3, k4, by omega⟩
              have P3 : Hid (PermIn mid b d3 d3 ∧ TS r mid b d3) := sm_skip2 P5.out.1 P5.out.2.1 (by have := HB.out; omega)
              go_wp2_with fail
              go_end0
              exact ⟨rfl, d3, S3.out, sm_close MM.out.1 (by omega) (by omega) hb (by have := HB.out; omega) b4 MM.out.2.1 P2.out.1 P2.out.2 P3.out.1 P3.out.2⟩
        · have h2' : ¬ (m : Int) < (e : Int) := by omega
          have h3' : ¬ (s : Int) < (mid : Int) := by have := HB.out; omega
          have h4' : (mid : Int) < (e : Int) := by have := HB.out; omega
          have h5' : (a : Int) < (s : Int) := by have := HB.out; omega
          have h6' : (e : Int) < (b : Int) := by omega
          have MM : Hid (Mid r a s mid e b d ∧ PermIn a b d d ∧ True) := ⟨HM.out d (Rot.none (Or.inr (by omega)) b2 b3), permIn_refl d a b, trivial⟩
          have P2 : Hid (PermIn a mid d d ∧ TS r a mid d) := MM.out.1.skip1 (by have := HB.out; omega)
          have P5 : Hid (TS r mid e d ∧ TS r e b d ∧ Cro mid e b d ∧ d.size = d.size) := by
            have z1 := MM.out.2.1.1
            have z2 := P2.out.1.1
            obtain ⟨k1, k2, k3, k4, k5⟩ := MM.out.1.left (by omega) (by omega) (by have := HB.out; omega) b4 P2.out.1 P2.out.2
            exact ⟨k2, k3, k4, by omega⟩
          have C3 := HI.out mid e b d wr (by have := P5.out.2.2.2; omega) S1.out (by have := HB.out; omega) (by omega) (by have := P5.out.2.2.2; omega) (by omega) P5.out.1 P5.out.2.1 P5.out.2.2.1
          rw [P5.out.2.2.2] at C3
          go_wp2_with fail
          refine C3.mono ?_
          rintro e' w5 ⟨rfl, d5, s5, p5, t5⟩
          clear C3
          have S5 : Hid (SV w0 blk off d5 w5) := s5
          have P3 : Hid (PermIn mid b d d5 ∧ TS r mid b d5) := ⟨p5, t5⟩
          clear s5 p5 t5
          go_wp2_with fail
          go_end0
          exact ⟨rfl, d5, S5.out, sm_close MM.out.1 (by omega) (by omega) hb (by have := HB.out; omega) b4 MM.out.2.1 P2.out.1 P2.out.2 P3.out.1 P3.out.2⟩
      · exfalso; have := HE.out; omega
end Go.Proofs.Ytdbbpmadkhedlaa

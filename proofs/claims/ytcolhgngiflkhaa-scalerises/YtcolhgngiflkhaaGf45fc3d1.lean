/- Shares of 65536, plain: rounded down, and one more of those whose rests are the greatest. -/
import Derived.Test.YtcolhgngiflkhaaGc905baf2
import Derived.Test.YtcolhgngiflkhaaGa764c118
namespace Go.Proofs.Ytcolhgngiflkhaa
open Go.Sort
set_option linter.unusedVariables false
set_option linter.unusedSimpArgs false

def sumF (f : Nat → Int) : Nat → Int
  | 0 => 0
  | k + 1 => sumF f k + f k
theorem sumF_congr {f g : Nat → Int} : ∀ n, (∀ i, i < n → f i = g i) → sumF f n = sumF g n
  | 0, _ => rfl
  | n + 1, h => by unfold sumF; rw [sumF_congr n (fun i hi => h i (by omega)), h n (by omega)]
theorem sumF_add (f g : Nat → Int) : ∀ n, sumF (fun i => f i + g i) n = sumF f n + sumF g n
  | 0 => rfl
  | n + 1 => by unfold sumF; rw [sumF_add f g n]; omega
theorem sumF_mul (c : Int) (f : Nat → Int) : ∀ n, sumF (fun i => c * f i) n = c * sumF f n
  | 0 => by simp [sumF]
  | n + 1 => by unfold sumF; rw [sumF_mul c f n, Int.mul_add]
theorem sumF_mono {f g : Nat → Int} : ∀ n, (∀ i, i < n → f i ≤ g i) → sumF f n ≤ sumF g n
  | 0, _ => Int.le_refl _
  | n + 1, h => by unfold sumF; have := sumF_mono n (fun i hi => h i (by omega)); have := h n (by omega); omega
theorem sumF_const (c : Int) : ∀ n : Nat, sumF (fun _ => c) n = (n : Int) * c
  | 0 => by simp [sumF]
  | n + 1 => by unfold sumF; rw [sumF_const c n, show ((n + 1 : Nat) : Int) = (n : Int) + 1 by omega, Int.add_mul]; omega
theorem sumF_nonneg {f : Nat → Int} (n : Nat) (h : ∀ i, i < n → 0 ≤ f i) : 0 ≤ sumF f n := by
  have := sumF_mono (f := fun _ => 0) n h
  rw [sumF_const] at this
  omega
/-- Rounded down, and what is left. -/
def flo (z : Nat → Int) (S : Int) (i : Nat) : Int := 65536 * z i / S
def rsV (z : Nat → Int) (S : Int) (i : Int) : Int := 65536 * z i.toNat % S
def missV (z : Nat → Int) (S : Int) (n : Nat) : Int := 65536 - sumF (flo z S) n
theorem flo_rs (z : Nat → Int) (S : Int) (i : Nat) : S * flo z S i + rsV z S i = 65536 * z i := by
  unfold flo rsV
  rw [Int.toNat_natCast]
  exact Int.mul_ediv_add_emod _ _
theorem rs_nonneg (z : Nat → Int) {S : Int} (hS : 0 < S) (i : Int) : 0 ≤ rsV z S i := Int.emod_nonneg _ (by omega)
theorem rs_lt (z : Nat → Int) {S : Int} (hS : 0 < S) (i : Int) : rsV z S i < S := Int.emod_lt_of_pos _ hS
theorem miss_eq (z : Nat → Int) {S : Int} {n : Nat} (hS : S = sumF z n) : S * missV z S n = sumF (fun i => rsV z S i) n := by
  have h1 : sumF (fun i => 65536 * z i) n = sumF (fun i => S * flo z S i + rsV z S i) n := sumF_congr n (fun i _ => (flo_rs z S i).symm)
  rw [sumF_mul, sumF_add, sumF_mul, ← hS] at h1
  unfold missV
  rw [Int.mul_sub, Int.mul_comm S 65536]
  omega
theorem miss_ge (z : Nat → Int) {S : Int} {n : Nat} (hS : S = sumF z n) (h0 : 0 < S) : 0 ≤ missV z S n := by
  have h1 := miss_eq z hS
  have h2 := sumF_nonneg (f := fun i => rsV z S i) n (fun i _ => rs_nonneg z h0 i)
  rw [← h1] at h2
  rcases Int.lt_or_le (missV z S n) 0 with h | h
  · have := Int.mul_neg_of_pos_of_neg h0 h; omega
  · exact h
theorem miss_le (z : Nat → Int) {S : Int} {n : Nat} (hS : S = sumF z n) (h0 : 0 < S) (hn : 0 < n) : missV z S n < (n : Int) := by
  have h1 := miss_eq z hS
  have h2 := sumF_mono (f := fun i => rsV z S i) (g := fun _ => S - 1) n (fun i _ => by have := rs_lt z h0 i; omega)
  rw [sumF_const, ← h1] at h2
  rcases Int.lt_or_le (missV z S n) (n : Int) with h | h
  · exact h
  · have h3 : S * (n : Int) ≤ S * missV z S n := Int.mul_le_mul_of_nonneg_left h (by omega)
    rw [Int.mul_sub, Int.mul_one, Int.mul_comm (n : Int) S] at h2
    omega
/-- The places 0, 1, .. -/
def placesL (n : Nat) : List Int := (List.range n).map fun i : Nat => (i : Int)
theorem placesL_len (n : Nat) : (placesL n).length = n := by simp [placesL]
theorem placesL_at {n i : Nat} (h : i < n) : (placesL n)[i]? = some (i : Int) := by
  unfold placesL; rw [List.getElem?_map, List.getElem?_range h]; rfl
theorem placesL_mem {n : Nat} {x : Int} : x ∈ placesL n ↔ 0 ≤ x ∧ x < (n : Int) := by
  unfold placesL
  rw [List.mem_map]
  constructor
  · rintro ⟨i, hi, rfl⟩; have := List.mem_range.1 hi; omega
  · rintro ⟨h1, h2⟩; exact ⟨x.toNat, List.mem_range.2 (by omega), by omega⟩
/-- The places by their rests, the greatest first. -/
def ordL (r : Int → Int) (n : Nat) : List Int := (placesL n).mergeSort fun x y => !tltB r y x
theorem ordL_perm (r : Int → Int) (n : Nat) : (ordL r n).Perm (placesL n) := List.mergeSort_perm _ _
theorem ordL_len (r : Int → Int) (n : Nat) : (ordL r n).length = n := by rw [(ordL_perm r n).length_eq, placesL_len]
theorem ordL_mem {r : Int → Int} {n : Nat} {x : Int} : x ∈ ordL r n ↔ 0 ≤ x ∧ x < (n : Int) := by rw [(ordL_perm r n).mem_iff, placesL_mem]
theorem ordL_nodup (r : Int → Int) (n : Nat) : (ordL r n).Nodup := by
  refine (ordL_perm r n).nodup_iff.2 ?_
  unfold placesL
  refine List.Pairwise.map _ ?_ (List.nodup_range (n := n))
  intro a b h e
  exact h (by omega)
theorem ordL_sorted (r : Int → Int) (n : Nat) : (ordL r n).Pairwise fun x y => tltB r y x = false := by
  have h := List.pairwise_mergeSort (le := fun x y => !tltB r y x) (fun a b c h1 h2 => by
    simp only [Bool.not_eq_true'] at h1 h2 ⊢
    exact (swo_tltB r).ntrans c b a h2 h1) (fun a b => by
    cases h1 : tltB r b a
    · rfl
    · have := tltB_iff.1 h1
      cases h2 : tltB r a b
      · rfl
      · have := tltB_iff.1 h2
        exact absurd (tlt_trans (tltB_iff.1 h1) (tltB_iff.1 h2)) tlt_irr) (placesL n)
  exact h.imp (fun h => by simpa using h)
theorem ordL_lt {r : Int → Int} {n : Nat} {i j : Nat} {x y : Int} (hi : (ordL r n)[i]? = some x) (hj : (ordL r n)[j]? = some y) (h : i < j) : tlt r x y := by
  obtain ⟨h1, e1⟩ := List.getElem?_eq_some_iff.1 hi
  obtain ⟨h2, e2⟩ := List.getElem?_eq_some_iff.1 hj
  have hs := List.pairwise_iff_getElem.1 (ordL_sorted r n) i j h1 h2 h
  have hn := List.pairwise_iff_getElem.1 (ordL_nodup r n) i j h1 h2 h
  rw [e1, e2] at hs hn
  exact tlt_tot (fun e => hn e.symm) (fun h => by rw [tltB_iff.2 h] at hs; cases hs)
/-- What a stable sort of the places tells is that list. -/
theorem ordL_of {r : Int → Int} {n : Nat} {d d' : Array Int} (hn : n = d.size) (hd : ∀ i, i < n → d[i]! = (i : Int)) (hP : PermIn 0 n d d') (hT : TS r 0 n d') : d'.toList = ordL r n := by
  have e : d.toList = placesL n := by
    apply List.ext_getElem?
    intro i
    by_cases h : i < n
    · rw [placesL_at h, Array.getElem?_toList, Array.getElem?_eq_getElem (by omega)]
      have := hd i h
      rw [getElem!_pos d i (by omega)] at this
      rw [this]
    · rw [List.getElem?_eq_none (by simp; omega), List.getElem?_eq_none (by rw [placesL_len]; omega)]
  have h := sorted_unique_holds (swo_tltB r) (fun x y h1 h2 => by
    have a1 : ¬ tlt r x y := fun h => by rw [tltB_iff.2 h] at h1; cases h1
    have a2 : ¬ tlt r y x := fun h => by rw [tltB_iff.2 h] at h2; cases h2
    rcases Classical.em (x = y) with e | e
    · exact e
    · exact absurd (tlt_tot e a1) a2) d d' (by rw [← hn]; exact hP) (fun i j h1 h2 h3 => by
    cases h : tltB r d'[j]! d'[i]!
    · rfl
    · exact absurd (tlt_trans (hT i j h1 h2 (by omega)) (tltB_iff.1 h)) tlt_irr)
  rw [h, e]
  rfl
/-- Shares: k of the places have one more. -/
def shrK (z : Nat → Int) (S : Int) (n k i : Nat) : Int := flo z S i + if (i : Int) ∈ (ordL (rsV z S) n).take k then 1 else 0
def shrV (z : Nat → Int) (n : Nat) (i : Nat) : Int := shrK z (sumF z n) n (missV z (sumF z n) n).toNat i
theorem shrK_zero (z : Nat → Int) (S : Int) (n i : Nat) : shrK z S n 0 i = flo z S i := by unfold shrK; rw [List.take_zero, if_neg (by simp)]; omega
theorem shrK_hit {z : Nat → Int} {S : Int} {n k o : Nat} (h : (ordL (rsV z S) n)[k]? = some (o : Int)) : shrK z S n (k + 1) o = shrK z S n k o + 1 ∧ ∀ i, i ≠ o → shrK z S n (k + 1) i = shrK z S n k i := by
  unfold shrK
  have e : (ordL (rsV z S) n).take (k + 1) = (ordL (rsV z S) n).take k ++ [(o : Int)] := by rw [List.take_add_one, h]; rfl
  have hnot : (o : Int) ∉ (ordL (rsV z S) n).take k := fun hm => by
    obtain ⟨i, hi⟩ := List.getElem?_of_mem hm
    have hik : i < k := by have := (List.getElem?_eq_some_iff.1 hi).1; rw [List.length_take] at this; omega
    rw [List.getElem?_take_of_lt hik] at hi
    exact tlt_irr (ordL_lt hi h hik)
  refine ⟨?_, fun i hi => ?_⟩
  · rw [e, if_pos (by simp), if_neg hnot]; omega
  · rw [e]
    congr 1
    by_cases c : (i : Int) ∈ (ordL (rsV z S) n).take k
    · rw [if_pos (List.mem_append_left _ c), if_pos c]
    · rw [if_neg (fun hm => by
        rcases List.mem_append.1 hm with h1 | h1
        · exact c h1
        · rw [List.mem_singleton] at h1; omega), if_neg c]
end Go.Proofs.Ytcolhgngiflkhaa
/- The order of shares: the closure that compares, the sort's world. -/
namespace Go.Proofs.Ytcolhgngiflkhaa
open Go.RowKit Go.Shelf Go.Lib Go.Sort
set_option linter.unusedVariables false
set_option linter.unusedSimpArgs false

theorem cmpK_cfR (r : Int → Int) (x y : Int) : cmpK (r y) (r x) = cfR r x y := rfl
set_option maxHeartbeats 2000000 in
set_option maxRecDepth 100000 in
theorem cmpc_any (r : Int → Int) (gb gr n c x y : Nat) (W : World) (hx : x < n) (hy : y < n) (hb : W.cell? ⟨gb, 0, none⟩ = some (.slice (some ⟨gr, 0, none⟩) n c)) (hr : ∀ k : Nat, k < n → W.cell? ⟨gr, k, none⟩ = some (.int .i64 (r k))) :
    Calls Try.prog 49 #[.int .i64 (x : Int), .int .i64 (y : Int), .pointer (some ⟨gb, 0, none⟩)] W fun e w' => e = .returned (.int .i64 (cfR r x y)) ∧ ∃ q, w' = W.drewN q := by
  have c1 := hr x hx
  have c2 := hr y hy
  have HC : Hid (∀ W' : World, Calls Try.prog 50 #[.int .i64 (r y), .int .i64 (r x)] W' fun e w' => e = .returned (.int .i64 (cfR r x y)) ∧ w' = W') := fun W' => cmp_any (r y) (r x) W'
  generalize cfR r x y = cv at HC ⊢
  generalize r x = p at c1 HC
  generalize r y = q at c2 HC
  have hx' : (x : Int) < (n : Int) := by omega
  have hy' : (y : Int) < (n : Int) := by omega
  clear hr
  go_enter Try.func49, Try.ntmps49
  go_wp2_with fail
  go_quiet (first | (go_at_call 50; exact (HC.out _).mono (fun e w' ⟨h1, h2⟩ => ⟨h1, _, h2⟩)) | (refine (HC.out _).mono ?_; rintro e w' ⟨rfl, rfl⟩; exact ⟨rfl, _, rfl⟩))
  go_wp2_with fail
  go_ret
  exact ⟨rfl, _, rfl⟩
theorem sv_other {w0 W : World} {blk off : Nat} {dk : Array Int} (h : SV w0 blk off dk W) : W.heap.size = w0.heap.size ∧ (∀ a, W.frozen? a = w0.frozen? a) ∧ (∀ b, b ≠ blk → W.heap[b]? = w0.heap[b]?) ∧ W.os = w0.os ∧ W.tape = w0.tape ∧ W.output = w0.output := by
  obtain ⟨⟨n, rfl⟩, _⟩ := h
  unfold sortWorld
  rw [grow_empty]
  refine ⟨by simp [putRow, mapBlock, Sort.ahead], fun a => by rw [frozen?_putRow]; rfl, fun b hb => ?_, rfl, rfl, rfl⟩
  unfold putRow mapBlock
  simp only [Array.getElem?_modify, Sort.ahead]
  rw [if_neg (fun e => hb e.symm)]
theorem sv_q {w w0 W : World} {blk off : Nat} {dk : Array Int} (h : SV w0 blk off dk W) (q : Q w w0) (hb : w.heap.size ≤ blk) : Q w W := by
  obtain ⟨h1, h2, h3, h4, h5, h6⟩ := sv_other h
  exact ⟨⟨h4.trans q.1.os, h5.trans q.1.tape, h6.trans q.1.output, by rw [h1]; exact q.1.size, fun b hlt => (h3 b (by omega)).trans (q.1.block b hlt)⟩, fun a => (h2 a).trans (q.2 a)⟩
theorem sv_cell {w0 W : World} {blk off : Nat} {dk : Array Int} (h : SV w0 blk off dk W) {p : Addr} (hp : p.block ≠ blk) : W.cell? p = w0.cell? p := World.cell?_of_block ((sv_other h).2.2.1 p.block hp)
theorem sv_row {w0 W : World} {blk off g : Nat} {dk : Array Int} {zs : List Int} (h : SV w0 blk off dk W) (hg : g ≠ blk) (hr : IRow w0 g zs) : IRow W g zs :=
  ⟨fun i z hi => (sv_cell h hg).trans (hr.cell i z hi), fun j => ((sv_other h).2.1 _).trans (hr.free j)⟩
theorem row_holds {w : World} {g : Nat} {zs : List Int} (h : IRow w g zs) : Holds iEnc w g 0 zs.toArray := fun j hj => by
  have hj' : j < zs.length := by simpa using hj
  rw [Nat.zero_add]
  refine ⟨?_, h.free j⟩
  rw [h.cell j zs[j] (List.getElem?_eq_getElem hj'), getElem!_pos zs.toArray j hj]
  simp
theorem sv_own {w0 W : World} {blk : Nat} {dk d0 : Array Int} (h : SV w0 blk 0 dk W) (R : Row1 iEnc w0 blk 0 d0) (hs : dk.size = d0.size) (hf : ∀ j, w0.frozen? ⟨blk, j, none⟩ = false) : IRow W blk dk.toList := by
  refine ⟨fun i z hi => ?_, fun j => ((sv_other h).2.1 _).trans (hf j)⟩
  obtain ⟨h1, e⟩ := List.getElem?_eq_some_iff.1 hi
  have h1' : i < dk.size := by simpa using h1
  have := h.c1 R hs i h1'
  rw [Nat.zero_add, getElem!_pos dk i h1'] at this
  rw [this, ← e]
  simp
/-- The closure, in every world of the sort's. -/
theorem cmpr_of (r : Int → Int) (gb gr go n c : Nat) (w0 : World) (hgo : go < w0.heap.size) (h1 : gb ≠ go) (h2 : gr ≠ go) (hb : w0.cell? ⟨gb, 0, none⟩ = some (.slice (some ⟨gr, 0, none⟩) n c)) (hr : ∀ k : Nat, k < n → w0.cell? ⟨gr, k, none⟩ = some (.int .i64 (r k))) :
    CmpR r 49 #[.pointer (some ⟨gb, 0, none⟩)] go 0 n w0 := by
  intro m os dk hs x y x0 x1 y0 y1
  have key : ∀ p : Addr, p.block ≠ go → ∀ v, w0.cell? p = some v → (sortWorld iEnc w0 go 0 m dk os).cell? p = some v := fun p hp v hv => by
    have hlt := World.block_lt_of_cell? _ _ hv
    unfold sortWorld
    have hsz : (putRow iEnc (Sort.ahead w0 m) go 0 dk).heap.size = w0.heap.size := by simp [putRow, mapBlock, Sort.ahead]
    rw [cell?_grow _ _ _ (by rw [hsz]; exact hlt)]
    rw [← hv]
    refine World.cell?_of_block ?_
    unfold putRow mapBlock
    simp only [Array.getElem?_modify, Sort.ahead]
    rw [if_neg (fun e => hp e.symm)]
  have := cmpc_any r gb gr n c x.toNat y.toNat (sortWorld iEnc w0 go 0 m dk os) (by omega) (by omega) (key _ h1 _ hb) (fun k hk => key _ h2 _ (hr k hk))
  rw [show ((x.toNat : Nat) : Int) = x by omega, show ((y.toNat : Nat) : Int) = y by omega] at this
  exact this
/-- Lists told place by place. -/
def tabI (n : Nat) (f : Nat → Int) : List Int := (List.range n).map f
theorem tabI_len (n : Nat) (f : Nat → Int) : (tabI n f).length = n := by simp [tabI]
theorem tabI_at {n : Nat} {f : Nat → Int} {i : Nat} (h : i < n) : (tabI n f)[i]? = some (f i) := by unfold tabI; rw [List.getElem?_map, List.getElem?_range h]; rfl
theorem tabI_set {n : Nat} {f g : Nat → Int} {k : Nat} {v : Int} (hv : v = g k) (hs : ∀ i, i ≠ k → g i = f i) : (tabI n f).set k v = tabI n g := by
  apply List.ext_getElem?
  intro i
  by_cases hi : i < n
  · rw [tabI_at hi]
    by_cases e : k = i
    · subst e; rw [List.getElem?_set_self (by rw [tabI_len]; exact hi), hv]
    · rw [List.getElem?_set_ne e, tabI_at hi, hs i (fun h => e h.symm)]
  · rw [List.getElem?_eq_none (by rw [List.length_set, tabI_len]; omega), List.getElem?_eq_none (by rw [tabI_len]; omega)]
theorem tabI_zero (n : Nat) : List.replicate n (0 : Int) = tabI n (fun _ => 0) := by
  apply List.ext_getElem?
  intro i
  by_cases hi : i < n
  · rw [tabI_at hi, List.getElem?_replicate, if_pos hi]
  · rw [List.getElem?_eq_none (by simp; omega), List.getElem?_eq_none (by rw [tabI_len]; omega)]
theorem tabI_congr {n : Nat} {f g : Nat → Int} (h : ∀ i, i < n → f i = g i) : tabI n f = tabI n g := List.map_congr_left (fun i hi => h i (List.mem_range.1 hi))
theorem tabI_sum (n : Nat) (f : Nat → Int) : ∀ k, k ≤ n → sumI (tabI n f) k = sumF f k
  | 0, _ => rfl
  | k + 1, h => by
    unfold sumI sumF
    rw [tabI_sum n f k (by omega), List.getD_eq_getElem?_getD, tabI_at (by omega)]
    rfl
end Go.Proofs.Ytcolhgngiflkhaa

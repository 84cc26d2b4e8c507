/- Arguments as the statements' walks take them: planes that came in. -/
import Derived.Test.YtieojgblamkgoaaGreatDoorG068178cf
import Derived.Test.YtieojgblamkgoaaGreatDoorGd442e3b2
import Derived.Deep.Strs
import Derived.Test.YtieojgblamkgoaaGreatDoorG63430311
import Derived.Test.YtieojgblamkgoaaGreatDoorGedd9c870
namespace Go.Proofs.YtieojgblamkgoaaGreatDoor
open Go.ChangeShapes Go.WideShapes Go.ChangeAt Go.RowKit Go.Deep
set_option linter.unusedVariables false
set_option linter.constructorNameAsVariable false

theorem getD_map_toNat (l : List Int) (i : Nat) : (l.map Int.toNat).getD i 0 = (l.getD i 0).toNat := by
  rw [List.getD_eq_getElem?_getD, List.getD_eq_getElem?_getD, List.getElem?_map]
  cases l[i]? <;> rfl
/-- Samples that came in. -/
theorem read_us {H : Type} {enc : TypeId × Value → H} {W : World} {base : Nat} {sp : Nat → Bool} {held : Bool} {v : Value} {fuel : Nat} {x : DataW H × List MemPlace}
    (hf : DataW.trod enc Tryz.prog W base sp held fuel 24 [v] = some x) :
    ∃ xs : List Nat, USl W v xs ∧ xs.length ≤ maxLen ∧ ∀ i, xs.getD i 0 < 4294967296 := by
  rcases open_ints Tryz.underlying24 Tryz.underlying43 (by kernel_rfl) hf with ⟨hcs, _⟩ | ⟨x, len, cap, zs, hcs, _, hl, hm, hz, _, hcell, hwz⟩
  · simp at hcs
    subst hcs
    exact ⟨[], Or.inr ⟨_, _, rfl, rfl⟩, Nat.zero_le _, fun i => by show 0 < _; decide⟩
  · simp at hcs
    subst hcs
    have hzl : len ≤ zs.length := by rw [hz]; split <;> omega
    have bd : ∀ i, (zs.getD i 0) ≥ 0 ∧ zs.getD i 0 < 4294967296 := by
      intro i
      rw [List.getD_eq_getElem?_getD]
      cases h : zs[i]? with
      | none => exact ⟨by decide, by decide⟩
      | some z => have := u32_bd (hwz z (List.mem_of_getElem? h)); exact ⟨this.1, Int.lt_of_le_of_lt this.2 (by decide)⟩
    have hlen : ((zs.take len).map Int.toNat).length = len := by simp; omega
    refine ⟨(zs.take len).map Int.toNat, ?_, by rw [hlen]; omega, fun i => ?_⟩
    · by_cases h0 : len = 0
      · subst h0; exact Or.inr ⟨_, _, rfl, by simp⟩
      · obtain ⟨b, off, spot⟩ := x
        have hc := hcell 0 (by omega)
        have hspot : spot = none := by simpa [Addr.add] using World.cell?_spot hc
        subst hspot
        refine Or.inl ⟨b, off, cap, by rw [hlen], by rw [hlen]; exact hl, fun i hi => ?_⟩
        rw [hlen] at hi
        have hc := hcell i (by omega)
        have hadd : (⟨b, off, none⟩ : Addr).add i = ⟨b, off + i, none⟩ := by unfold Addr.add; split <;> simp_all
        rw [hadd] at hc
        rw [hc, getD_map_toNat]
        have e : (zs.take len).getD i 0 = zs.getD i 0 := by
          rw [List.getD_eq_getElem?_getD, List.getD_eq_getElem?_getD, List.getElem?_take, if_pos hi]
        rw [e]
        have := bd i
        congr 2
        omega
    · rw [getD_map_toNat]
      by_cases hi : i < len
      · have e : (zs.take len).getD i 0 = zs.getD i 0 := by
          rw [List.getD_eq_getElem?_getD, List.getD_eq_getElem?_getD, List.getElem?_take, if_pos hi]
        rw [e]; have := bd i; omega
      · have e : (zs.take len).getD i 0 = 0 := by
          rw [List.getD_eq_getElem?_getD, List.getElem?_take, if_neg hi]; rfl
        rw [e]; decide
set_option maxRecDepth 100000 in
/-- A plane that came in. -/
theorem read_pl {H : Type} {enc : TypeId × Value → H} {W : World} {base b0 : Nat} {r : Reach} {sp : Nat → Bool} {held : Bool} {v : Value} {d : DataW H} {p : List MemPlace}
    (hv : Value.okWide Tryz.prog W r b0 26 v) (h : DataW.Trod enc Tryz.prog W base sp held 26 v d p) :
    ∃ (w0 h0 : Int) (sv : Value) (S : List Nat), v = .agg #[.int .i64 w0, .int .i64 h0, sv] ∧ (-9223372036854775808 ≤ w0 ∧ w0 ≤ 9223372036854775807) ∧ (-9223372036854775808 ≤ h0 ∧ h0 ≤ 9223372036854775807) ∧ USl W sv S ∧ S.length ≤ maxLen ∧ ∀ i, S.getD i 0 < 4294967296 := by
  obtain ⟨cs, rfl, hsz⟩ := okWide_struct Tryz.underlying26 hv
  obtain ⟨fuel, hf⟩ := h
  have hc3 : Tryz.prog.cellsOf 26 = 3 := by kernel_rfl
  obtain ⟨y0, y1, y2, n, _, hl, t0, t1, t2⟩ := trod_struct3 Tryz.underlying26 hf
  rw [hc3] at hsz
  obtain ⟨l⟩ := cs
  match l, hsz with
  | [c0, c1, c2], _ =>
    obtain ⟨n0, e0, _, w0⟩ := DataW.trod_int Tryz.underlying3 t0
    obtain ⟨n1, e1, _, w1⟩ := DataW.trod_int Tryz.underlying3 t1
    have k1 : Tryz.prog.cellsOf 3 = 1 := by kernel_rfl
    have k2 : Tryz.prog.cellsOf 24 = 1 := by kernel_rfl
    rw [k1] at e0 e1
    rw [k2] at t2
    simp [Value.cells] at e0 e1 t2
    obtain ⟨S, h1, h2, h3⟩ := read_us t2
    exact ⟨n0, n1, c2, S, by rw [e0, e1], i64_bd w0, i64_bd w1, h1, h2, h3⟩
end Go.Proofs.YtieojgblamkgoaaGreatDoor
/- Keys of samples as plain numbers; what Key and FromKey return. -/
namespace Go.Proofs.YtieojgblamkgoaaGreatDoor
open Go.RowKit

def keyN (s : Nat) : Nat := if s < 2147483648 then s + 2147483648 else 4294967295 - s
def fkeyN (k : Nat) : Nat := if 2147483648 ≤ k then k - 2147483648 else 4294967295 - k
theorem keyN_lt {s : Nat} (h : s < 4294967296) : keyN s < 4294967296 := by unfold keyN; split <;> omega
theorem keyV_N {s : Nat} (h : s < 4294967296) : keyV (s : Int) = (keyN s : Int) := by
  unfold keyN
  by_cases g : s < 2147483648
  · rw [keyV_lo (by omega), if_pos g]; omega
  · rw [keyV_hi (by omega), if_neg g]; omega
theorem keyN_inj {a b : Nat} (ha : a < 4294967296) (hb : b < 4294967296) (h : keyN a = keyN b) : a = b := by
  unfold keyN at h; split at h <;> split at h <;> omega
theorem fkey_key {s : Nat} (h : s < 4294967296) : fkeyN (keyN s) = s := by
  unfold keyN fkeyN; split <;> split <;> omega
theorem not_hi (k : Int) (h0 : 2147483648 ≤ k) (h1 : k ≤ 4294967295) : bits .andNot .u32 k 2147483648 = k - 2147483648 := by go_bits2
set_option maxHeartbeats 400000 in
theorem fromkey_any (k : Nat) (h1 : k < 4294967296) (w : World) :
    Calls Tryz.prog 64 #[.int .u32 k] w fun e w' => e = .returned (.int .u32 (fkeyN k : Nat)) ∧ w' = w := by
  by_cases h : k < 2147483648
  · have e1 := and_lo k (by omega) (by omega)
    go_enter Tryz.func64, Tryz.ntmps64
    go_wp2
    go_ret
    exact ⟨ret_int (by unfold fkeyN; rw [if_neg (by omega)]; omega), rfl⟩
  · have e1 := and_hi k (by omega) (by omega)
    have e2 := not_hi k (by omega) (by omega)
    go_enter Tryz.func64, Tryz.ntmps64
    go_wp2
    go_ret
    exact ⟨ret_int (by unfold fkeyN; rw [if_pos (by omega)]; omega), rfl⟩
set_option maxHeartbeats 400000 in
theorem keyn_any (s : Nat) (h1 : s < 4294967296) (w : World) :
    Calls Tryz.prog 81 #[.int .u32 s] w fun e w' => e = .returned (.int .u32 (keyN s : Nat)) ∧ w' = w := by
  have := key_any s (by omega) (by omega) w
  rw [keyV_N h1] at this
  exact this
end Go.Proofs.YtieojgblamkgoaaGreatDoor
/- Ranks by key, plain: the sample of rank k; what rises, what is turned round. -/
namespace Go.Proofs.YtieojgblamkgoaaGreatDoor
open Go.RowKit
set_option linter.unusedVariables false

/-- Samples in the order of their keys. -/
def leK (x y : Nat) : Bool := decide (keyN x ≤ keyN y)
def rkL (L : List Nat) : List Nat := L.mergeSort leK
/-- The one of rank k. -/
def rkV (L : List Nat) (k : Nat) : Nat := (rkL L).getD k 0
theorem leK_trans (a b c : Nat) (h1 : leK a b = true) (h2 : leK b c = true) : leK a c = true := by
  unfold leK at *; simp only [decide_eq_true_eq] at *; omega
theorem leK_total (a b : Nat) : (leK a b || leK b a) = true := by
  unfold leK; simp only [Bool.or_eq_true, decide_eq_true_eq]; omega
theorem rkL_perm (L : List Nat) : (rkL L).Perm L := List.mergeSort_perm L leK
theorem rkL_len (L : List Nat) : (rkL L).length = L.length := (rkL_perm L).length_eq
theorem rkL_sorted (L : List Nat) : (rkL L).Pairwise (fun a b => leK a b = true) := List.pairwise_mergeSort leK_trans leK_total L
/-- How many have a key of at most t. -/
def cntK (L : List Nat) (t : Nat) : Nat := L.countP (fun s => decide (keyN s ≤ t))
theorem cntK_perm {L M : List Nat} (h : L.Perm M) (t : Nat) : cntK L t = cntK M t := h.countP_eq _
theorem cntK_le (L : List Nat) (t : Nat) : cntK L t ≤ L.length := List.countP_le_length
theorem sorted_cnt : ∀ (s : List Nat) (k t : Nat), s.Pairwise (fun a b => leK a b = true) → k < s.length → (keyN (s.getD k 0) ≤ t ↔ k < cntK s t) := by
  intro s
  induction s with
  | nil => intro k t _ h; simp at h
  | cons a l ih =>
    intro k t hp hk
    rw [List.pairwise_cons] at hp
    obtain ⟨h1, h2⟩ := hp
    cases k with
    | zero =>
      rw [List.getD_cons_zero]
      unfold cntK
      constructor
      · intro h
        rw [List.countP_cons_of_pos (by simpa using h)]; omega
      · intro h
        rcases Nat.lt_or_ge t (keyN a) with g | g
        · exfalso
          rw [List.countP_cons_of_neg (by simp; omega)] at h
          obtain ⟨b, hb, hb'⟩ := List.countP_pos_iff.1 h
          have := h1 b hb
          unfold leK at this
          simp only [decide_eq_true_eq] at this hb'
          omega
        · exact g
    | succ k =>
      rw [List.getD_cons_succ]
      have hk' : k < l.length := by simpa using hk
      have := ih k t h2 hk'
      by_cases g : keyN a ≤ t
      · unfold cntK at this ⊢
        rw [List.countP_cons_of_pos (by simpa using g), this]; omega
      · have hz : cntK l t = 0 := by
          unfold cntK
          rw [List.countP_eq_zero]
          intro b hb hb'
          have := h1 b hb
          unfold leK at this
          simp only [decide_eq_true_eq] at this hb'
          omega
        unfold cntK at this hz ⊢
        rw [List.countP_cons_of_neg (by simpa using g), this, hz]
        omega
theorem rk_le {L : List Nat} {k t : Nat} (h : k < L.length) : keyN (rkV L k) ≤ t ↔ k < cntK L t := by
  unfold rkV
  rw [sorted_cnt (rkL L) k t (rkL_sorted L) (by rw [rkL_len]; exact h), cntK_perm (rkL_perm L)]
theorem getD_mem {L : List Nat} {k : Nat} (h : k < L.length) : L.getD k 0 ∈ L := by
  rw [List.getD_eq_getElem?_getD, List.getElem?_eq_getElem h]; exact List.getElem_mem h
theorem rk_mem {L : List Nat} {k : Nat} (h : k < L.length) : rkV L k ∈ L := (rkL_perm L).mem_iff.1 (getD_mem (by rw [rkL_len]; exact h))
theorem rk_lt {L : List Nat} {k : Nat} (h : k < L.length) (hL : ∀ s ∈ L, s < 4294967296) : rkV L k < 4294967296 := hL _ (rk_mem h)
/-- Whatever is sorted and has the same samples is that list. -/
theorem sorted_eq {s L : List Nat} (hp : s.Perm L) (hs : s.Pairwise (fun a b => leK a b = true)) (hL : ∀ x ∈ L, x < 4294967296) : s = rkL L := by
  have hl : s.length = (rkL L).length := by rw [rkL_len]; exact hp.length_eq
  apply List.ext_getElem hl
  intro i h1 h2
  have e1 : s[i] = s.getD i 0 := by rw [List.getD_eq_getElem?_getD, List.getElem?_eq_getElem h1]; rfl
  have e2 : (rkL L)[i] = (rkL L).getD i 0 := by rw [List.getD_eq_getElem?_getD, List.getElem?_eq_getElem h2]; rfl
  rw [e1, e2]
  have hc : ∀ t, keyN (s.getD i 0) ≤ t ↔ keyN ((rkL L).getD i 0) ≤ t := fun t => by
    rw [sorted_cnt s i t hs h1, sorted_cnt (rkL L) i t (rkL_sorted L) h2, cntK_perm hp, cntK_perm (rkL_perm L)]
  have m1 : s.getD i 0 < 4294967296 := hL _ (hp.mem_iff.1 (getD_mem h1))
  have m2 : (rkL L).getD i 0 < 4294967296 := hL _ ((rkL_perm L).mem_iff.1 (getD_mem h2))
  have a1 := (hc (keyN (s.getD i 0))).1 (Nat.le_refl _)
  have a2 := (hc (keyN ((rkL L).getD i 0))).2 (Nat.le_refl _)
  exact keyN_inj m1 m2 (by omega)
theorem rk_rises {L : List Nat} {k m : Nat} (hkm : k ≤ m) (hm : m < L.length) : keyN (rkV L k) ≤ keyN (rkV L m) := by
  rw [rk_le (by omega)]
  have := (rk_le hm).1 (Nat.le_refl (keyN (rkV L m)))
  omega
theorem rk_least {L : List Nat} {t : Nat} (h : 0 < L.length) : keyN (rkV L 0) ≤ t ↔ ∃ s ∈ L, keyN s ≤ t := by
  rw [rk_le h]
  unfold cntK
  rw [List.countP_pos_iff]
  simp
theorem rk_most {L : List Nat} {t : Nat} (h : 0 < L.length) : keyN (rkV L (L.length - 1)) ≤ t ↔ ∀ s ∈ L, keyN s ≤ t := by
  rw [rk_le (by omega)]
  have e : L.length - 1 < cntK L t ↔ cntK L t = L.length := by have := cntK_le L t; omega
  rw [e]
  unfold cntK
  rw [List.countP_eq_length]
  simp
end Go.Proofs.YtieojgblamkgoaaGreatDoor
/- stat, plain: what is told of a list of samples: numbers, NaNs, classes, ends. -/
namespace Go.Proofs.YtieojgblamkgoaaGreatDoor
open Go.RowKit
set_option linter.unusedVariables false

/-- Those that are no NaNs. -/
def numL (L : List Nat) : List Nat := L.filter fun s => !nanN s
def nanC (L : List Nat) : Nat := L.countP fun s => nanN s
/-- A sample's class. -/
def clsN (b s : Nat) : Nat := keyN s / 2 ^ (32 - b)
def clsC (b : Nat) (L : List Nat) (j : Nat) : Nat := L.countP fun s => decide (clsN b s = j)
/-- So many have a class or a lesser one. -/
def preN (c : Nat → Nat) : Nat → Nat
  | 0 => c 0
  | j + 1 => preN c j + c (j + 1)
theorem cls_lt {b s : Nat} (hb : b ≤ 12) (hs : s < 4294967296) : clsN b s < 2 ^ b := by
  unfold clsN
  have h1 := keyN_lt hs
  have h2 : (4294967296 : Nat) = 2 ^ b * 2 ^ (32 - b) := by rw [← Nat.pow_add, show b + (32 - b) = 32 by omega]
  rw [Nat.div_lt_iff_lt_mul (Nat.two_pow_pos _)]
  omega
theorem clsC_le (b : Nat) (L : List Nat) (j : Nat) : clsC b L j ≤ L.length := List.countP_le_length
theorem clsC_nil (b j : Nat) : clsC b [] j = 0 := rfl
theorem clsC_append (b : Nat) (L M : List Nat) (j : Nat) : clsC b (L ++ M) j = clsC b L j + clsC b M j := by unfold clsC; exact List.countP_append
theorem clsC_snoc (b : Nat) (L : List Nat) (s j : Nat) : clsC b (L ++ [s]) j = clsC b L j + if clsN b s = j then 1 else 0 := by
  rw [clsC_append]
  unfold clsC
  simp [List.countP_cons]
theorem nanC_append (L M : List Nat) : nanC (L ++ M) = nanC L + nanC M := by unfold nanC; exact List.countP_append
theorem numL_append (L M : List Nat) : numL (L ++ M) = numL L ++ numL M := by unfold numL; exact List.filter_append ..
theorem numL_mem {L : List Nat} {s : Nat} (h : s ∈ numL L) : s ∈ L ∧ nanN s = false := by
  unfold numL at h
  rw [List.mem_filter] at h
  exact ⟨h.1, by simpa using h.2⟩
theorem num_nan : ∀ L : List Nat, (numL L).length + nanC L = L.length
  | [] => rfl
  | a :: L => by
    have ih := num_nan L
    unfold numL nanC at *
    rw [List.filter_cons, List.countP_cons]
    cases nanN a <;> simp <;> omega
/-- The least key and the greatest. -/
def lowK (L : List Nat) : Nat := (numL L).foldl (fun m s => min m (keyN s)) 4294967295
def topK (L : List Nat) : Nat := (numL L).foldl (fun m s => max m (keyN s)) 0
theorem foldmin_le {a b : Nat} (h : a ≤ b) : ∀ l : List Nat, l.foldl (fun m s => min m (keyN s)) a = min a (l.foldl (fun m s => min m (keyN s)) b)
  | [] => by show a = min a b; omega
  | s :: l => by
    rw [List.foldl_cons, List.foldl_cons]
    rw [foldmin_le (a := min a (keyN s)) (b := min b (keyN s)) (by omega) l, foldmin_le (a := min b (keyN s)) (b := b) (by omega) l]
    omega
theorem foldmax_le {a b : Nat} (h : b ≤ a) : ∀ l : List Nat, l.foldl (fun m s => max m (keyN s)) a = max a (l.foldl (fun m s => max m (keyN s)) b)
  | [] => by show a = max a b; omega
  | s :: l => by
    rw [List.foldl_cons, List.foldl_cons]
    rw [foldmax_le (a := max a (keyN s)) (b := max b (keyN s)) (by omega) l, foldmax_le (a := max b (keyN s)) (b := b) (by omega) l]
    omega
theorem foldmin_top : ∀ (l : List Nat) (a : Nat), l.foldl (fun m s => min m (keyN s)) a ≤ a
  | [], _ => Nat.le_refl _
  | s :: l, a => by rw [List.foldl_cons]; have := foldmin_top l (min a (keyN s)); omega
theorem lowK_le (L : List Nat) : lowK L ≤ 4294967295 := foldmin_top _ _
theorem topK_le {L : List Nat} (h : ∀ s ∈ L, s < 4294967296) : topK L ≤ 4294967295 := by
  unfold topK
  have : ∀ (l : List Nat) (a : Nat), a ≤ 4294967295 → (∀ s ∈ l, s < 4294967296) → l.foldl (fun m s => max m (keyN s)) a ≤ 4294967295 := by
    intro l
    induction l with
    | nil => intro a ha _; exact ha
    | cons s l ih =>
      intro a ha hl
      rw [List.foldl_cons]
      have := keyN_lt (hl s List.mem_cons_self)
      exact ih _ (by omega) (fun x hx => hl x (List.mem_cons_of_mem _ hx))
  exact this _ _ (by decide) (fun s hs => h s (numL_mem hs).1)
theorem lowK_append (L M : List Nat) : lowK (L ++ M) = min (lowK L) (lowK M) := by
  show (numL (L ++ M)).foldl _ _ = _
  rw [numL_append, List.foldl_append]
  exact foldmin_le (lowK_le L) _
theorem topK_append (L M : List Nat) : topK (L ++ M) = max (topK L) (topK M) := by
  show (numL (L ++ M)).foldl _ _ = _
  rw [numL_append, List.foldl_append]
  exact foldmax_le (Nat.zero_le _) _
theorem lowK_num {s : Nat} (hs : s < 4294967296) (h : nanN s = false) : lowK [s] = keyN s ∧ topK [s] = keyN s := by
  have := keyN_lt hs
  unfold lowK topK numL
  rw [List.filter_cons, h]
  simp
  omega
theorem lowK_nan {s : Nat} (h : nanN s = true) : lowK [s] = 4294967295 ∧ topK [s] = 0 := by
  unfold lowK topK numL
  rw [List.filter_cons, h]
  simp
/-- The ends of some numbers: they are keys of some of them. -/
theorem ends_some : ∀ {L : List Nat}, (∀ s ∈ L, s < 4294967296) → numL L ≠ [] → ∃ a b, a ∈ numL L ∧ b ∈ numL L ∧ keyN a = lowK L ∧ keyN b = topK L ∧ (∀ s ∈ numL L, keyN a ≤ keyN s ∧ keyN s ≤ keyN b)
  | [], _, h => absurd rfl h
  | s :: L, hL, h => by
    have hs := hL s List.mem_cons_self
    have hL' : ∀ x ∈ L, x < 4294967296 := fun x hx => hL x (List.mem_cons_of_mem _ hx)
    have el := lowK_append [s] L
    have et := topK_append [s] L
    have en := numL_append [s] L
    rw [List.singleton_append] at el et en
    have hk := keyN_lt hs
    cases hn : nanN s with
    | true =>
      have h1 := lowK_nan hn
      have e1 : numL [s] = [] := by unfold numL; rw [List.filter_cons, hn]; rfl
      rw [e1, List.nil_append] at en
      have h2 := lowK_le L
      rw [en] at h ⊢
      obtain ⟨a, b, k1, k2, k3, k4, k5⟩ := ends_some hL' h
      exact ⟨a, b, k1, k2, by omega, by omega, k5⟩
    | false =>
      have h1 := lowK_num hs hn
      have e1 : numL [s] = [s] := by unfold numL; rw [List.filter_cons, hn]; rfl
      rw [e1] at en
      by_cases g : numL L = []
      · have l2 : lowK L = 4294967295 ∧ topK L = 0 := by unfold lowK topK; rw [g]; exact ⟨rfl, rfl⟩
        rw [en, g]
        refine ⟨s, s, by simp, by simp, by omega, by omega, ?_⟩
        intro x hx
        obtain rfl : x = s := by simpa using hx
        exact ⟨Nat.le_refl _, Nat.le_refl _⟩
      · obtain ⟨a, b, k1, k2, k3, k4, k5⟩ := ends_some hL' g
        rw [en]
        obtain ⟨a', ha', ha2⟩ : ∃ a', a' ∈ [s] ++ numL L ∧ keyN a' = min (keyN s) (keyN a) := by
          rcases Nat.le_total (keyN s) (keyN a) with c | c
          · exact ⟨s, by simp, by omega⟩
          · exact ⟨a, List.mem_append_right _ k1, by omega⟩
        obtain ⟨b', hb', hb2⟩ : ∃ b', b' ∈ [s] ++ numL L ∧ keyN b' = max (keyN s) (keyN b) := by
          rcases Nat.le_total (keyN s) (keyN b) with c | c
          · exact ⟨b, List.mem_append_right _ k2, by omega⟩
          · exact ⟨s, by simp, by omega⟩
        refine ⟨a', b', ha', hb', by omega, by omega, ?_⟩
        intro x hx
        rcases List.mem_append.1 hx with c | c
        · obtain rfl : x = s := by simpa using c
          omega
        · have := k5 x c
          omega
theorem ends_none {L : List Nat} (h : numL L = []) : lowK L = 4294967295 ∧ topK L = 0 := by unfold lowK topK; rw [h]; exact ⟨rfl, rfl⟩
/-- The span is that of no samples just if no sample is a number. -/
theorem ends_iff {L : List Nat} (hL : ∀ s ∈ L, s < 4294967296) : (lowK L = 4294967295 ∧ topK L = 0) ↔ numL L = [] := by
  refine ⟨fun h => ?_, ends_none⟩
  by_cases g : numL L = []
  · exact g
  · obtain ⟨a, b, k1, k2, k3, k4, k5⟩ := ends_some hL g
    have := (k5 a k1).2
    omega
theorem preN_mono (c : Nat → Nat) {i j : Nat} (h : i ≤ j) : preN c i ≤ preN c j := by
  induction j with
  | zero => obtain rfl : i = 0 := by omega
            exact Nat.le_refl _
  | succ j ih =>
    rcases Nat.lt_or_ge j i with g | g
    · obtain rfl : i = j + 1 := by omega
      exact Nat.le_refl _
    · exact Nat.le_trans (ih g) (Nat.le_add_right _ _)
theorem preN_cnt (b : Nat) (L : List Nat) : ∀ j, preN (clsC b L) j = L.countP fun s => decide (clsN b s ≤ j)
  | 0 => by
    show clsC b L 0 = _
    unfold clsC
    congr 1
    funext s
    exact decide_eq_decide.2 ⟨fun h => by omega, fun h => by omega⟩
  | j + 1 => by
    show preN (clsC b L) j + clsC b L (j + 1) = _
    rw [preN_cnt b L j]
    unfold clsC
    clear preN_cnt
    induction L with
    | nil => rfl
    | cons a L ih =>
      rw [List.countP_cons, List.countP_cons, List.countP_cons, ← ih]
      by_cases h1 : clsN b a ≤ j
      · have h2 : ¬ clsN b a = j + 1 := by omega
        have h3 : clsN b a ≤ j + 1 := by omega
        simp [h1, h2, h3]
        omega
      · by_cases h2 : clsN b a = j + 1
        · have h3 : clsN b a ≤ j + 1 := by omega
          have h4 : ¬ j + 1 ≤ j := by omega
          simp [h2, h4]
          omega
        · have h3 : ¬ clsN b a ≤ j + 1 := by omega
          simp [h1, h2, h3]
theorem preN_le (b : Nat) (L : List Nat) (j : Nat) : preN (clsC b L) j ≤ L.length := by rw [preN_cnt]; exact List.countP_le_length
end Go.Proofs.YtieojgblamkgoaaGreatDoor
/- Rows of values in memory, told by a function of the place. -/
namespace Go.Proofs.YtieojgblamkgoaaGreatDoor
open Go.RowKit
set_option linter.unusedVariables false
set_option linter.unusedSimpArgs false

/-- A row of values that may be written. -/
structure VR (x : World) (g n : Nat) (F : Nat → Value) : Prop where
  cell : ∀ i, i < n → x.cell? ⟨g, i, none⟩ = some (F i)
  free : ∀ j, x.frozen? ⟨g, j, none⟩ = false
theorem VR.next {x x' : World} {g n : Nat} {F : Nat → Value} (h : VR x g n F) (q : Q x x') : VR x' g n F := ⟨fun i hi => q.cell (h.cell i hi), fun j => by rw [q.2]; exact h.free j⟩
theorem VR.other {x : World} {g n : Nat} {F : Nat → Value} (h : VR x g n F) {p : Addr} (hp : p.block ≠ g) (v : Value) : VR (x.setCell p v) g n F :=
  ⟨fun i hi => (World.cell?_setCell_other _ _ _ _ (fun e => hp (by rw [e]))).trans (h.cell i hi), fun j => by rw [World.frozen?_setCell]; exact h.free j⟩
theorem VR.put {x : World} {g n : Nat} {F G : Nat → Value} (h : VR x g n F) {i : Nat} (hi : i < n) {v : Value} (hv : G i = v) (ho : ∀ j, j < n → j ≠ i → G j = F j) : VR (x.setCell ⟨g, i, none⟩ v) g n G := by
  refine ⟨fun j hj => ?_, fun j => by rw [World.frozen?_setCell]; exact h.free j⟩
  by_cases e : j = i
  · subst e; rw [hv]; exact World.cell?_setCell_same _ _ _ (h.cell j hi)
  · rw [ho j hj e]
    exact (World.cell?_setCell_other _ _ _ _ (fun k => e (by injection k with _ k; exact k.symm))).trans (h.cell j hj)
theorem VR.congr {x : World} {g n : Nat} {F G : Nat → Value} (h : VR x g n F) (hG : ∀ j, j < n → G j = F j) : VR x g n G := ⟨fun i hi => by rw [hG i hi]; exact h.cell i hi, h.free⟩
theorem VR.lt {x : World} {g n : Nat} {F : Nat → Value} (h : VR x g n F) (hn : 1 ≤ n) : g < x.heap.size := World.block_lt_of_cell? _ _ (h.cell 0 hn)
/-- What lies there by now. -/
def sofar (L : Nat → Value) (z : Value) (k : Nat) (j : Nat) : Value := if j < k then L j else z
theorem sofar_zero (L : Nat → Value) (z : Value) : sofar L z 0 = fun _ => z := by funext j; unfold sofar; rw [if_neg (by omega)]
theorem sofar_step {L : Nat → Value} {z : Value} {k n : Nat} : (∀ j, j < n → j ≠ k → sofar L z (k + 1) j = sofar L z k j) ∧ sofar L z (k + 1) k = L k := by
  refine ⟨fun j hj he => ?_, by unfold sofar; rw [if_pos (by omega)]⟩
  unfold sofar
  by_cases h : j < k
  · rw [if_pos h, if_pos (by omega)]
  · rw [if_neg h, if_neg (by omega)]
theorem sofar_all {L : Nat → Value} {z : Value} {n j : Nat} (h : j < n) : sofar L z n j = L j := by unfold sofar; rw [if_pos h]
theorem VR.fill {x : World} {g n k : Nat} {L : Nat → Value} {z v : Value} (h : VR x g n (sofar L z k)) (hk : k < n) (hv : v = L k) : VR (x.setCell ⟨g, k, none⟩ v) g n (sofar L z (k + 1)) :=
  h.put hk (by rw [hv]; exact (sofar_step (n := n)).2) (sofar_step (n := n)).1
theorem VR.full {x : World} {g n : Nat} {L : Nat → Value} {z : Value} (h : VR x g n (sofar L z n)) : VR x g n L := h.congr fun j hj => (sofar_all hj).symm
theorem made_vr {z : Value} (hz : z.cells = #[z]) (e : TypeId) (n : Nat) (w : World) : VR (w.alloc (.cells (madeCells z.cells (n * 1)) e)) w.heap.size n (fun _ => z) := by
  have hb : (w.alloc (.cells (madeCells z.cells (n * 1)) e)).heap[w.heap.size]? = some (.cells (madeCells z.cells (n * 1)) e (0, 0)) := heap_alloc_new w _
  refine ⟨fun j hj => ?_, fun j => frozen_of_row _ _ _ _ _ hb⟩
  rw [cell_of_row _ _ j _ e (0, 0) hb]
  unfold madeCells
  rw [hz]
  simp [hj, Nat.mod_one]
theorem intInfoV : ∃ i, Tryz.prog.info? 3 = some i ∧ i.size = 1 ∧ i.bytes = 8 ∧ i.zero = some (.int .i64 0) := info_of (by kernel_rfl) (by kernel_rfl)
theorem u32InfoV : ∃ i, Tryz.prog.info? 43 = some i ∧ i.size = 1 ∧ i.bytes = 4 ∧ i.zero = some (.int .u32 0) := info_of (by kernel_rfl) (by kernel_rfl)
theorem make_vi (n : Nat) (hn : n ≤ 1048576) : ∃ M : Array Value, (∀ w : World, (Instr.makeSlice 60 (.int .i64 (n : Int)) (.int .i64 (n : Int))).run Tryz.prog w = .ok (.slice (some ⟨w.heap.size, 0, none⟩) n n) (w.alloc (.cells M 3))) ∧
    ∀ w : World, VR (w.alloc (.cells M 3)) w.heap.size n (fun _ => .int .i64 0) := by
  obtain ⟨i, i1, i2, i3, i4⟩ := intInfoV
  refine ⟨madeCells (Value.int .i64 0).cells (n * 1), fun w => ?_, fun w => made_vr rfl _ n w⟩
  have := run_make (P := Tryz.prog) w 60 3 i _ Tryz.underlying60 i1 i4 .i64 .i64 n n (by omega) (by omega) (by rw [i3]; omega) (by omega)
  rw [i2] at this
  simp only [Int.toNat_natCast] at this
  exact this
theorem make_vu (n : Nat) (hn : n ≤ 1048576) : ∃ M : Array Value, (∀ w : World, (Instr.makeSlice 24 (.int .i64 (n : Int)) (.int .i64 (n : Int))).run Tryz.prog w = .ok (.slice (some ⟨w.heap.size, 0, none⟩) n n) (w.alloc (.cells M 43))) ∧
    ∀ w : World, VR (w.alloc (.cells M 43)) w.heap.size n (fun _ => .int .u32 0) := by
  obtain ⟨i, i1, i2, i3, i4⟩ := u32InfoV
  refine ⟨madeCells (Value.int .u32 0).cells (n * 1), fun w => ?_, fun w => made_vr rfl _ n w⟩
  have := run_make (P := Tryz.prog) w 24 43 i _ Tryz.underlying24 i1 i4 .i64 .i64 n n (by omega) (by omega) (by rw [i3]; omega) (by omega)
  rw [i2] at this
  simp only [Int.toNat_natCast] at this
  exact this
end Go.Proofs.YtieojgblamkgoaaGreatDoor
/- stat: its small functions. -/
namespace Go.Proofs.YtieojgblamkgoaaGreatDoor
open Go.RowKit
set_option linter.unusedVariables false
set_option linter.unusedSimpArgs false

/-- May it be a number of bits? -/
def bitsB (n : Int) : Bool := decide (1 ≤ n ∧ n ≤ 12)
set_option maxHeartbeats 1000000 in
theorem isbits_any (n : Int) (w : World) : Calls Tryz.prog 38 #[.int .i64 n] w fun e w' => e = .returned (.bool (bitsB n)) ∧ w' = w := by
  unfold bitsB
  by_cases h1 : 1 ≤ n
  · by_cases h2 : n ≤ 12
    · rw [decide_eq_true ⟨h1, h2⟩]
      go_enter Tryz.func38, Tryz.ntmps38
      go_wp2_with fail
      go_ret
      exact ⟨rfl, rfl⟩
    · rw [decide_eq_false (fun h => h2 h.2)]
      go_enter Tryz.func38, Tryz.ntmps38
      go_wp2_with fail
      go_ret
      exact ⟨rfl, rfl⟩
  · rw [decide_eq_false (fun h => h1 h.1)]
    go_enter Tryz.func38, Tryz.ntmps38
    go_wp2_with fail
    go_ret
    exact ⟨rfl, rfl⟩
/-- A span: a least and a greatest key. -/
def spnV (a b : Nat) : Value := .agg #[.int .u32 (a : Int), .int .u32 (b : Int)]
theorem run_mnu {P : Program} (ts : Array TypeId) (t : TypeId) (x y : Nat) (w : World) : (Builtin.min_ ts t #[.int .u32 (x : Int), .int .u32 (y : Int)]).run P w = .ok (.int .u32 ((min x y : Nat) : Int)) w := by
  rcases Nat.lt_or_ge y x with h | h
  · rw [Nat.min_eq_right (by omega)]; simp [go_sem, h] <;> omega
  · rw [Nat.min_eq_left h]; simp [go_sem, Nat.not_lt.2 h] <;> omega
theorem run_mxu {P : Program} (ts : Array TypeId) (t : TypeId) (x y : Nat) (w : World) : (Builtin.max_ ts t #[.int .u32 (x : Int), .int .u32 (y : Int)]).run P w = .ok (.int .u32 ((max x y : Nat) : Int)) w := by
  rcases Nat.lt_or_ge x y with h | h
  · rw [Nat.max_eq_right (by omega)]; simp [go_sem, h] <;> omega
  · rw [Nat.max_eq_left h]; simp [go_sem, Nat.not_lt.2 h] <;> omega
set_option maxHeartbeats 1000000 in
theorem nospan_any (w : World) : Calls Tryz.prog 41 #[] w fun e w' => e = .returned (spnV 4294967295 0) ∧ Q w w' := by
  unfold spnV
  go_enter Tryz.func41, Tryz.ntmps41
  go_wp2_with fail
  refine bodyPost_ret (v := .agg #[.int .u32 4294967295, .int .u32 0]) (by simp [results, Tryz.results41, go_sem]) rfl ⟨rfl, ?_⟩
  exact (Q.refl w).cells _ _
set_option maxHeartbeats 1000000 in
theorem with_any (a b c d : Nat) (w : World) : Calls Tryz.prog 46 #[spnV a b, spnV c d] w fun e w' => e = .returned (spnV (min a c) (max b d)) ∧ Q w w' := by
  have m1 : ∀ ts t w, (Builtin.min_ ts t #[.int .u32 (a : Int), .int .u32 (c : Int)]).run Tryz.prog w = .ok (.int .u32 ((min a c : Nat) : Int)) w := fun ts t w => run_mnu ts t _ _ w
  have m2 : ∀ ts t w, (Builtin.max_ ts t #[.int .u32 (b : Int), .int .u32 (d : Int)]).run Tryz.prog w = .ok (.int .u32 ((max b d : Nat) : Int)) w := fun ts t w => run_mxu ts t _ _ w
  unfold spnV
  generalize min a c = m at *
  generalize max b d = n at *
  obtain ⟨w1, hw1⟩ : ∃ w1, ((w.alloc (.cells #[.int .u32 (a : Int), .int .u32 (b : Int)] 74)).alloc (.cells #[.int .u32 (c : Int), .int .u32 (d : Int)] 74)).alloc (.cells #[.int .u32 0, .int .u32 0] 74) = w1 := ⟨_, rfl⟩
  have q1 : Hid (Q w w1) := by rw [← hw1]; exact (((Q.refl w).cells _ _).cells _ _).cells _ _
  have z00 : w1.cell? ⟨w.heap.size, 0, none⟩ = some (.int .u32 (a : Int)) := by rw [← hw1]; simp [go_sem]
  have z01 : w1.cell? ⟨w.heap.size, 1, none⟩ = some (.int .u32 (b : Int)) := by rw [← hw1]; simp [go_sem]
  have z10 : w1.cell? ⟨w.heap.size + 1, 0, none⟩ = some (.int .u32 (c : Int)) := by rw [← hw1]; simp [go_sem]
  have z11 : w1.cell? ⟨w.heap.size + 1, 1, none⟩ = some (.int .u32 (d : Int)) := by rw [← hw1]; simp [go_sem]
  have z20 : w1.cell? ⟨w.heap.size + 1 + 1, 0, none⟩ = some (.int .u32 0) := by rw [← hw1]; simp [go_sem]
  have z21 : w1.cell? ⟨w.heap.size + 1 + 1, 1, none⟩ = some (.int .u32 0) := by rw [← hw1]; simp [go_sem]
  have zf : ∀ j, w1.frozen? ⟨w.heap.size + 1 + 1, j, none⟩ = false := fun j => by rw [← hw1]; simp [go_sem]
  go_enter Tryz.func46, Tryz.ntmps46
  go_wp2_with fail
  clear hw1
  refine bodyPost_ret (v := .agg #[.int .u32 (m : Int), .int .u32 (n : Int)]) (by simp [results, Tryz.results46, go_sem, z20, z21]) rfl ⟨rfl, ?_⟩
  exact (q1.out.set (by show w.heap.size ≤ w.heap.size + 1 + 1; omega) _).set (by show w.heap.size ≤ w.heap.size + 1 + 1; omega) _
set_option maxHeartbeats 2000000 in
theorem scls_any (b s : Nat) (h1 : 1 ≤ b) (h2 : b ≤ 12) (hs : s < 4294967296) (H n c : Nat) (w : World) : Calls Tryz.prog 85 #[.agg #[.int .i64 (b : Int), .slice (some ⟨H, 0, none⟩) n c], .int .u32 (s : Int)] w fun e w' => e = .returned (.int .i64 (clsN b s : Nat)) ∧ Q w w' := by
  have K := keyn_any s hs
  have hl := keyN_lt hs
  unfold clsN
  generalize keyN s = k at *
  have hd : k / 2 ^ (32 - b) ≤ k := Nat.div_le_self _ _
  have hc : ((k : Int) / 2 ^ (32 - b)) = ((k / 2 ^ (32 - b) : Nat) : Int) := by simp
  obtain ⟨q, hq⟩ : ∃ q, k / 2 ^ (32 - b) = q := ⟨_, rfl⟩
  rw [hq] at hd hc ⊢
  have HC : Hid ((k : Int) / 2 ^ (32 - b) = (q : Int)) := hc
  clear hc hq
  have HK : Hid (∀ w, Calls Tryz.prog 81 #[.int .u32 (s : Int)] w fun e w' => e = .returned (.int .u32 (k : Int)) ∧ w' = w) := K
  clear K
  obtain ⟨w1, hw1⟩ : ∃ w1, w.alloc (.cells #[.int .i64 (b : Int), .slice (some ⟨H, 0, none⟩) n c] 72) = w1 := ⟨_, rfl⟩
  have q1 : Hid (Q w w1) := by rw [← hw1]; exact (Q.refl w).cells _ _
  have z0 : w1.cell? ⟨w.heap.size, 0, none⟩ = some (.int .i64 (b : Int)) := by rw [← hw1]; simp [go_sem]
  have fz := qw_cell z0
  have n0 := qw_some w1
  go_enter Tryz.func85, Tryz.ntmps85
  go_wp2_with fail
  clear hw1
  have ew : wrap64 ((32 : Int) - (b : Int)) = ((32 - b : Nat) : Int) := by unfold wrap64; omega
  refine wp_region_quiet_Q (by kernel_rfl) (by kernel_rfl) ?_
  repeat (first | go_big_quiet_step (first | (go_at_call 81; exact calls_qs (HK.out _))) | quiet_step (first | (go_at_call 81; exact calls_qs (HK.out _))))
  refine wpQuiet_nil ?_
  intro w4 hw'
  have hq4 := qw_out hw'
  rw [HC.out]
  have ew2 : wrap64 (q : Int) = (q : Int) := by unfold wrap64; omega
  rw [ew2]
  go_wp2_with fail
  go_ret
  exact ⟨rfl, q1.out.trans hq4⟩
/-- A tally: classes of so many bits, and how many have each. -/
def talV (b H c : Nat) : Value := .agg #[.int .i64 (b : Int), .slice (some ⟨H, 0, none⟩) (2 ^ b) c]
set_option maxHeartbeats 2000000 in
set_option maxRecDepth 100000 in
theorem notally_any (b : Nat) (h1 : 1 ≤ b) (h2 : b ≤ 12) (w : World) : Calls Tryz.prog 40 #[.int .i64 (b : Int)] w fun e w' => ∃ H, e = .returned (talV b H (2 ^ b)) ∧ w.heap.size ≤ H ∧ H < w'.heap.size ∧ VR w' H (2 ^ b) (fun _ => .int .i64 0) ∧ Q w w' := by
  have hp : 2 ^ b ≤ 2 ^ 12 := Nat.pow_le_pow_right (by decide) h2
  have hp1 : 1 ≤ 2 ^ b := Nat.one_le_two_pow
  obtain ⟨M, hM, hV⟩ := make_vi (2 ^ b) (by omega)
  have ew : wrap64 ((2 : Int) ^ b) = ((2 ^ b : Nat) : Int) := by
    have : ((2 : Int) ^ b) = ((2 ^ b : Nat) : Int) := by simp
    rw [this]
    unfold wrap64; omega
  unfold talV
  generalize 2 ^ b = N at *
  obtain ⟨w1, hw1⟩ : ∃ w1, w.alloc (.cells #[.int .i64 0, .slice none 0 0] 72) = w1 := ⟨_, rfl⟩
  have q1 : Q w w1 := by rw [← hw1]; exact (Q.refl w).cells _ _
  have s1 : w1.heap.size = w.heap.size + 1 := by rw [← hw1]; simp [go_sem]
  have z0 : w1.cell? ⟨w.heap.size, 0, none⟩ = some (.int .i64 0) := by rw [← hw1]; simp [go_sem]
  have z1 : w1.cell? ⟨w.heap.size, 1, none⟩ = some (.slice none 0 0) := by rw [← hw1]; simp [go_sem]
  have zf : ∀ j, w1.frozen? ⟨w.heap.size, j, none⟩ = false := fun j => by rw [← hw1]; simp [go_sem]
  have hMw := hM w1
  rw [← ew] at hMw
  go_enter Tryz.func40, Tryz.ntmps40
  go_wp2_with fail
  obtain ⟨x, hx⟩ : ∃ x, (w1.setCell ⟨w.heap.size, 0, none⟩ (.int .i64 (b : Int))).setCell ⟨w.heap.size, 1, none⟩ (.slice (some ⟨w.heap.size + 1, 0, none⟩) N N) = x := ⟨_, rfl⟩
  have qx : Q w x := by rw [← hx]; exact (q1.set (Nat.le_refl _) _).set (Nat.le_refl _) _
  have sx : x.heap.size = w.heap.size + 1 := by rw [← hx]; simp [go_sem, s1]
  have y0 : (x.alloc (.cells M 3)).cell? ⟨w.heap.size, 0, none⟩ = some (.int .i64 (b : Int)) := ((Q.refl x).cells _ _).cell (by rw [← hx]; simp [go_sem, z0])
  have y1 : (x.alloc (.cells M 3)).cell? ⟨w.heap.size, 1, none⟩ = some (.slice (some ⟨w.heap.size + 1, 0, none⟩) N N) := ((Q.refl x).cells _ _).cell (by rw [← hx]; simp [go_sem, z0, z1])
  have hv := hV x
  rw [sx] at hv
  rw [hx]
  have sy : (x.alloc (.cells M 3)).heap.size = w.heap.size + 1 + 1 := by simp [go_sem, sx]
  have qy : Q w (x.alloc (.cells M 3)) := qx.cells _ _
  generalize x.alloc (.cells M 3) = y at *
  refine bodyPost_ret (v := .agg #[.int .i64 (b : Int), .slice (some ⟨w.heap.size + 1, 0, none⟩) N N]) (by simp [results, Tryz.results40, go_sem, y0, y1]) rfl ⟨_, rfl, by omega, by omega, hv, qy⟩
end Go.Proofs.YtieojgblamkgoaaGreatDoor

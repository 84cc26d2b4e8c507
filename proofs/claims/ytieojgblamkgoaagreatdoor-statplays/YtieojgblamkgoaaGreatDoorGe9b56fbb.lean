/- The document's Sum, Mean, NaNs, Histogram, Ends of samples (layer 16). -/
import Derived.Test.YtieojgblamkgoaaGreatDoorG829ae80f
import Derived.Test.YtieojgblamkgoaaGreatDoorG9aa7668d
import Derived.Test.YtieojgblamkgoaaGreatDoorG9091cff6
import Derived.Test.YtieojgblamkgoaaGreatDoorG28b2403f
import Derived.Test.YtieojgblamkgoaaGreatDoorGab2760b1
import Derived.Test.YtieojgblamkgoaaGreatDoorG48ed55a6
namespace Go.Proofs.YtieojgblamkgoaaGreatDoor
open Go.RowKit
set_option linter.unusedVariables false
set_option linter.unusedSimpArgs false

set_option maxHeartbeats 400000 in
theorem s16sum_any (v : Value) (S : List Nat) (w : World) (hv : USl w v S) (hn : S.length ≤ 1000000) (hb : ∀ i, S.getD i 0 < 4294967296) :
    Calls Tryz.prog 52 #[v] w fun e w' => e = .returned (.int .u32 (sumV S 1 : Nat)) ∧ Q w w' := by
  have K := rexact_any v S w hv hn hb
  have HK : Hid _ := K
  clear K hv hb
  generalize sumV S 1 = m at *
  go_enter Tryz.func52, Tryz.ntmps52
  go_wp2_with fail
  refine Calls.mono HK.out ?_
  rintro e w1 ⟨rfl, q1⟩
  go_wp2_with fail
  go_ret
  exact ⟨rfl, q1⟩
set_option maxHeartbeats 2000000 in
set_option maxRecDepth 100000 in
theorem s16mean_any (v : Value) (S : List Nat) (w : World) (hv : USl w v S) (hn : S.length ≤ 1000000) (hb : ∀ i, S.getD i 0 < 4294967296) :
    Calls Tryz.prog 54 #[v] w fun e w' => e = .returned (.tuple #[.int .u32 ((smeanV S).1 : Nat), .int .i64 (smeanV S).2]) ∧ Q w w' := by
  obtain ⟨a, c, rfl⟩ := hv.form
  unfold smeanV
  by_cases hz : S = []
  · subst hz
    rw [if_pos rfl]
    clear hv hb hn
    go_enter Tryz.func54, Tryz.ntmps54
    go_wp2_with fail
    go_ret2
    exact ⟨rfl, Q.refl _⟩
  · have h1 : 0 < S.length := List.length_pos_iff.2 hz
    rw [if_neg hz]
    have HO : Hid _ := sof_any (.slice a S.length c) S w hv hn hb
    have HV : Hid (∀ B x, SAt x B S → Calls Tryz.prog 76 #[.pointer (some ⟨B, 0, none⟩), .int .i64 (S.length : Int)] x fun e w' => e = .returned (.tuple #[.int .u32 (sumV S S.length : Nat), .int .i64 0]) ∧ Q x w') := fun B x h => sover_any S B x h hz (sumZ_fits (mem_lt hb) (by omega)) hn S.length h1 hn
    have hb0 : ((S.length : Int) == 0) = false := by rw [beq_eq_false_iff_ne]; omega
    clear hv hb hz
    generalize sumV S S.length = m at *
    go_enter Tryz.func54, Tryz.ntmps54
    go_wp2_with fail
    refine Calls.mono HO.out ?_
    rintro e w1 ⟨rfl, hS, q1⟩
    have KV := HV.out _ _ hS
    clear hS HO HV
    go_wp2_with fail
    refine KV.mono ?_
    rintro e w2 ⟨rfl, q2⟩
    go_wp2_with fail
    go_ret2
    exact ⟨rfl, q1.trans q2⟩
theorem nanC_num {S : List Nat} {i : Nat} (h : i < S.length) : nanC (S.take (i + 1)) = nanC (S.take i) + if nanN (S.getD i 0) = true then 1 else 0 := by
  rw [take_snocS h, nanC_append]
  unfold nanC
  simp [List.countP_cons]
set_option maxHeartbeats 2000000 in
set_option maxRecDepth 100000 in
theorem s16nans_any (v : Value) (S : List Nat) (w : World) (hv : USl w v S) (hb : ∀ i, S.getD i 0 < 4294967296) (hn : S.length ≤ 1000000) :
    Calls Tryz.prog 51 #[v] w fun e w' => e = .returned (.int .i64 (nanC S : Nat)) ∧ w' = w := by
  obtain ⟨a, c, rfl⟩ := hv.form
  have HV : Hid (USl w (.slice a S.length c) S) := hv
  have HB : Hid (∀ i, S.getD i 0 < 4294967296) := hb
  have HNa : Hid (∀ s : Nat, s < 4294967296 → ∀ x : World, Calls Tryz.prog 61 #[.int .u32 (s : Int)] x fun e w' => e = .returned (.bool (nanN s)) ∧ w' = x) := fun s hs x => r4nan_any s hs x
  have HE : Hid (S.take S.length = S) := List.take_of_length_le (Nat.le_refl _)
  clear hv hb
  go_enter Tryz.func51, Tryz.ntmps51
  go_wp2_with fail
  go_loopg [3, 4] S.length (fun m s3 s4 wr => ∃ i : Nat, s3 = .int .i64 ((nanC (S.take i) : Nat) : Int) ∧ s4 = .int .i64 (i : Int) ∧ i + m = S.length ∧ Hid (wr = w))
  case atStart => exact ⟨0, rfl, rfl, by omega, rfl⟩
  case round =>
    obtain ⟨i, rfl, rfl, hi, HX⟩ := hrel
    have hw := HX.out
    subst hw
    clear HX
    by_cases hlt : i < S.length
    · obtain ⟨g, o, cap', hsl, hcap', hI⟩ := HV.out.some (by omega)
      injection hsl with hs1 hs2 hs3
      subst hs1 hs3
      clear hs2
      have hc := hI i hlt
      have K1 := HNa.out _ (HB.out i)
      have hki : (i : Int) < (S.length : Int) := by omega
      have HP : Hid _ := nanC_num hlt
      have hle : nanC (S.take i) ≤ S.length := Nat.le_trans List.countP_le_length (by rw [List.length_take]; omega)
      generalize S.getD i 0 = s at *
      generalize nanC (S.take i) = p at *
      clear hI hcap'
      cases hk : nanN s
      · rw [hk] at K1 HP
        go_wp2_with fail
        refine Calls.mono (K1 _) ?_
        rintro e w3 ⟨rfl, hw⟩
        obtain rfl := hw.symm
        clear hw
        go_wp2_with fail
        go_roundg (S.length - (i + 1))
        case measure => go_light; omega
        case rel => go_light; exact ⟨i + 1, by rw [HP.out]; rfl, by go_num, by omega, rfl⟩
      · rw [hk] at K1 HP
        go_wp2_with fail
        refine Calls.mono (K1 _) ?_
        rintro e w3 ⟨rfl, hw⟩
        obtain rfl := hw.symm
        clear hw
        go_wp2_with fail
        go_roundg (S.length - (i + 1))
        case measure => go_light; omega
        case rel => go_light; exact ⟨i + 1, by rw [HP.out]; simp only [if_true]; go_num, by go_num, by omega, rfl⟩
    · obtain rfl : i = S.length := by omega
      have hge : ¬ (S.length : Int) < (S.length : Int) := by omega
      rw [HE.out]
      go_wp2_with fail
      go_ret
      exact ⟨rfl, rfl⟩
theorem clsC_all {b : Nat} {S : List Nat} {i : Nat} (h : i < S.length) (j : Nat) : clsC b (S.take (i + 1)) j = clsC b (S.take i) j + if clsN b (S.getD i 0) = j then 1 else 0 := by
  rw [take_snocS h, clsC_snoc]
set_option maxHeartbeats 4000000 in
set_option maxRecDepth 100000 in
theorem s16hist_any (v : Value) (S : List Nat) (B : Nat) (w : World) (h1 : 1 ≤ B) (h2 : B ≤ 12) (hv : USl w v S) (hb : ∀ i, S.getD i 0 < 4294967296) (hn : S.length ≤ 1000000) :
    Calls Tryz.prog 50 #[v, .int .i64 (B : Int)] w fun e w' => ∃ u, e = .returned u ∧ ISl w' u (hisL B S) ∧ Q w w' := by
  obtain ⟨ad, cap, rfl⟩ := hv.form
  have hp : 2 ^ B ≤ 2 ^ 12 := Nat.pow_le_pow_right (by decide) h2
  have hp1 : 1 ≤ 2 ^ B := Nat.one_le_two_pow
  obtain ⟨M, hM, hV⟩ := make_vi (2 ^ B) (by omega)
  have ew : wrap64 ((2 : Int) ^ B) = ((2 ^ B : Nat) : Int) := by
    have : ((2 : Int) ^ B) = ((2 ^ B : Nat) : Int) := by simp
    rw [this]
    unfold wrap64; omega
  have hMw := hM w
  rw [← ew] at hMw
  have hVw := hV w
  have q1 : Q w (w.alloc (.cells M 3)) := (Q.refl w).cells _ _
  have HCl : Hid (∀ s : Nat, s < 4294967296 → ∀ x : World, Calls Tryz.prog 62 #[.int .u32 (s : Int), .int .i64 (B : Int)] x fun e w' => e = .returned (.int .i64 (clsN B s : Nat)) ∧ w' = x) := fun s hs x => r16cls_any B s h1 h2 hs x
  have HL : Hid (∀ s : Nat, s < 4294967296 → clsN B s < 2 ^ B) := fun s hs => cls_lt h2 hs
  have HV : Hid (USl w (.slice ad S.length cap) S) := hv
  have HB : Hid (∀ i, S.getD i 0 < 4294967296) := hb
  have HE : Hid (S.take S.length = S) := List.take_of_length_le (Nat.le_refl _)
  have HI : Hid (∀ (x : World) (H : Nat), VR x H (2 ^ B) (fun j => .int .i64 ((clsC B S j : Nat) : Int)) → ISl x (.slice (some ⟨H, 0, none⟩) (2 ^ B) (2 ^ B)) (hisL B S)) := fun x H hx => by
    refine Or.inl ⟨H, 0, 2 ^ B, by rw [hisL_len], fun i hi => ?_⟩
    rw [hisL_len] at hi
    rw [Nat.zero_add, hx.cell i hi, hisL_get hi]
  have HN : Hid (2 ^ B ≤ 4096) := hp
  obtain ⟨N, hN⟩ : ∃ N, 2 ^ B = N := ⟨_, rfl⟩
  rw [hN] at hMw hVw HL HN hp1 HI
  clear hM hV hb hv hp hN ew
  obtain ⟨H, hH⟩ : ∃ H, w.heap.size = H := ⟨_, rfl⟩
  rw [hH] at hMw hVw
  go_enter Tryz.func50, Tryz.ntmps50
  go_wp2_with fail
  generalize w.alloc (.cells M 3) = w2 at *
  have H0 : Hid (VR w2 H N (fun j => .int .i64 ((clsC B (S.take 0) j : Nat) : Int)) ∧ Q w w2) := ⟨hVw.congr fun j _ => by rw [List.take_zero]; rfl, q1⟩
  have HH : Hid (w.heap.size ≤ H) := Nat.le_of_eq hH
  clear hVw q1 hMw
  go_loopg [6] S.length (fun m s6 wr => ∃ i : Nat, s6 = .int .i64 (i : Int) ∧ i + m = S.length ∧ Hid (VR wr H N (fun j => .int .i64 ((clsC B (S.take i) j : Nat) : Int)) ∧ Q w wr))
  case atStart => exact ⟨0, rfl, by omega, H0⟩
  case round =>
    clear H0
    obtain ⟨i, rfl, hi, HX⟩ := hrel
    by_cases hlt : i < S.length
    · obtain ⟨g, o, cap', hsl, hcap', hI⟩ := HV.out.some (by omega)
      injection hsl with hs1 hs2 hs3
      subst hs1 hs3
      clear hs2
      have hc := HX.out.2.cell (hI i hlt)
      have hx := HB.out i
      have hki : (i : Int) < (S.length : Int) := by omega
      have hcn := fun j => clsC_all (b := B) hlt j
      have hcl : ∀ j, clsC B (S.take i) j ≤ S.length := fun j => Nat.le_trans (clsC_le B _ j) (by rw [List.length_take]; omega)
      generalize S.getD i 0 = s at *
      clear hI hcap'
      have hkl := HL.out s hx
      have hce := HX.out.1.cell _ hkl
      have fz := HX.out.1.free (clsN B s)
      have hbd := hcl (clsN B s)
      have HY : Hid (VR (wr.setCell ⟨H, clsN B s, none⟩ (.int .i64 ((clsC B (S.take i) (clsN B s) + 1 : Nat) : Int))) H N (fun j => .int .i64 ((clsC B (S.take (i + 1)) j : Nat) : Int)) ∧ Q w (wr.setCell ⟨H, clsN B s, none⟩ (.int .i64 ((clsC B (S.take i) (clsN B s) + 1 : Nat) : Int)))) := by
        refine ⟨HX.out.1.put hkl ?_ fun j hj hne => ?_, HX.out.2.set HH.out _⟩
        · rw [hcn, if_pos rfl]
        · rw [hcn, if_neg (fun e => hne e.symm), Nat.add_zero]
      have K2 := HCl.out s hx
      clear hcn hcl
      generalize clsC B (S.take i) (clsN B s) = m at *
      generalize clsN B s = k at *
      have hkk : (k : Int) < (N : Int) := by omega
      go_wp2_with fail
      refine Calls.mono (K2 _) ?_
      rintro e w3 ⟨rfl, hw⟩
      obtain rfl := hw.symm
      clear hw
      go_wp2_with fail
      go_roundg (S.length - (i + 1))
      case measure => go_light; omega
      case rel => go_light; exact ⟨i + 1, by go_num, by omega, HY⟩
    · obtain rfl : i = S.length := by omega
      have hge : ¬ (S.length : Int) < (S.length : Int) := by omega
      rw [HE.out] at HX
      have HIs : Hid _ := HI.out _ _ HX.out.1
      go_wp2_with fail
      go_ret
      exact ⟨_, rfl, HIs.out, HX.out.2⟩
end Go.Proofs.YtieojgblamkgoaaGreatDoor
/- The document's Ends of samples. -/
namespace Go.Proofs.YtieojgblamkgoaaGreatDoor
open Go.RowKit
set_option linter.unusedVariables false
set_option linter.unusedSimpArgs false

def enA (T : List Nat) : Nat := if numL T = [] then 0 else fkeyN (lowK T)
def enB (T : List Nat) : Nat := if numL T = [] then 0 else fkeyN (topK T)
theorem num_yes {T : List Nat} {s : Nat} (h : nanN s = true) : numL (T ++ [s]) = numL T := by rw [numL_snoc, h]; simp
theorem num_no {T : List Nat} {s : Nat} (h : nanN s = false) : numL (T ++ [s]) = numL T ++ [s] := by rw [numL_snoc, h]; rfl
theorem low_no {T : List Nat} {s : Nat} (h : nanN s = false) : lowK (T ++ [s]) = min (lowK T) (keyN s) := by rw [lowK_A, num_no h, lowA_snoc, ← lowK_A]
theorem top_no {T : List Nat} {s : Nat} (h : nanN s = false) : topK (T ++ [s]) = max (topK T) (keyN s) := by rw [topK_A, num_no h, topA_snoc, ← topK_A]
theorem low_yes {T : List Nat} {s : Nat} (h : nanN s = true) : lowK (T ++ [s]) = lowK T := by rw [lowK_A, num_yes h, ← lowK_A]
theorem top_yes {T : List Nat} {s : Nat} (h : nanN s = true) : topK (T ++ [s]) = topK T := by rw [topK_A, num_yes h, ← topK_A]
theorem en_yes {T : List Nat} {s : Nat} (h : nanN s = true) : enA (T ++ [s]) = enA T ∧ enB (T ++ [s]) = enB T := by
  unfold enA enB; rw [num_yes h, low_yes h, top_yes h]; exact ⟨rfl, rfl⟩
theorem en_first {T : List Nat} {s : Nat} (hz : numL T = []) (h : nanN s = false) (hs : s < 4294967296) : enA (T ++ [s]) = s ∧ enB (T ++ [s]) = s := by
  have hk := keyN_lt hs
  have e1 : lowK T = 4294967295 := by rw [lowK_A, hz]; rfl
  have e2 : topK T = 0 := by rw [topK_A, hz]; rfl
  unfold enA enB
  rw [num_no h, if_neg (by simp), if_neg (by simp), low_no h, top_no h, e1, e2, Nat.min_eq_right (by omega), Nat.max_eq_right (by omega), fkey_key hs]
  exact ⟨rfl, rfl⟩
theorem en_next {T : List Nat} {s : Nat} (hz : numL T ≠ []) (hT : ∀ z ∈ T, z < 4294967296) (h : nanN s = false) (hs : s < 4294967296) :
    enA (T ++ [s]) = (if keyN s < keyN (enA T) then s else enA T) ∧ enB (T ++ [s]) = (if keyN (enB T) < keyN s then s else enB T) := by
  have l1 := lowK_le T
  have l2 := topK_le hT
  have e1 : enA T = fkeyN (lowK T) := if_neg hz
  have e2 : enB T = fkeyN (topK T) := if_neg hz
  rw [e1, e2, key_fkey (by omega), key_fkey (by omega)]
  have f1 : enA (T ++ [s]) = fkeyN (min (lowK T) (keyN s)) := by unfold enA; rw [num_no h, if_neg (by simp), low_no h]
  have f2 : enB (T ++ [s]) = fkeyN (max (topK T) (keyN s)) := by unfold enB; rw [num_no h, if_neg (by simp), top_no h]
  rw [f1, f2]
  constructor
  · by_cases k : keyN s < lowK T
    · rw [if_pos k, Nat.min_eq_right (by omega), fkey_key hs]
    · rw [if_neg k, Nat.min_eq_left (by omega)]
  · by_cases k : topK T < keyN s
    · rw [if_pos k, Nat.max_eq_right (by omega), fkey_key hs]
    · rw [if_neg k, Nat.max_eq_left (by omega)]
theorem enA_lt {T : List Nat} : enA T < 4294967296 := by
  unfold enA
  split
  · decide
  · exact fkeyN_lt (by have := lowK_le T; omega)
theorem enB_lt {T : List Nat} (hT : ∀ z ∈ T, z < 4294967296) : enB T < 4294967296 := by
  unfold enB
  split
  · decide
  · exact fkeyN_lt (by have := topK_le hT; omega)
theorem ends_en (T : List Nat) : endsV T = if numL T = [] then (0, 0, 161) else (enA T, enB T, 0) := by
  unfold endsV enA enB
  by_cases h : numL T = []
  · rw [if_pos h, if_pos h]
  · rw [if_neg h, if_neg h, if_neg h, if_neg h]
/-- How far the loop has come. -/
structure EnI (T : List Nat) (a b : Nat) (m : Bool) : Prop where
  a : a = enA T
  b : b = enB T
  m : m = decide (numL T ≠ [])
set_option maxHeartbeats 4000000 in
set_option maxRecDepth 100000 in
theorem s16ends_any (v : Value) (S : List Nat) (w : World) (hv : USl w v S) (hb : ∀ i, S.getD i 0 < 4294967296) (hn : S.length ≤ 1000000) :
    Calls Tryz.prog 53 #[v] w fun e w' => e = .returned (.tuple #[.int .u32 ((endsV S).1 : Nat), .int .u32 ((endsV S).2.1 : Nat), .int .i64 (endsV S).2.2]) ∧ w' = w := by
  obtain ⟨ad, c, rfl⟩ := hv.form
  have HV : Hid (USl w (.slice ad S.length c) S) := hv
  have HB : Hid (∀ i, S.getD i 0 < 4294967296) := hb
  have HM : Hid (∀ i, ∀ z ∈ S.take i, z < 4294967296) := fun i z hz => by
    obtain ⟨j, hj, rfl⟩ := List.getElem_of_mem (List.mem_of_mem_take hz)
    have := hb j
    rw [List.getD_eq_getElem?_getD, List.getElem?_eq_getElem hj] at this
    exact this
  have HNa : Hid (∀ s : Nat, s < 4294967296 → ∀ x : World, Calls Tryz.prog 61 #[.int .u32 (s : Int)] x fun e w' => e = .returned (.bool (nanN s)) ∧ w' = x) := fun s hs x => r4nan_any s hs x
  have HKy : Hid (∀ s : Nat, s < 4294967296 → ∀ x : World, Calls Tryz.prog 59 #[.int .u32 (s : Int)] x fun e w' => e = .returned (.int .i64 (keyN s : Nat)) ∧ w' = x) := fun s hs x => r4key_any s hs x
  have HE : Hid (S.take S.length = S) := List.take_of_length_le (Nat.le_refl _)
  clear hv hb
  go_enter Tryz.func53, Tryz.ntmps53
  go_wp2_with fail
  go_loopg [5, 6, 7, 8] S.length (fun m s5 s6 s7 s8 wr => ∃ (i a b : Nat) (q : Bool), s5 = .int .u32 (a : Int) ∧ s6 = .int .u32 (b : Int) ∧ s7 = .bool q ∧ s8 = .int .i64 (i : Int) ∧ i + m = S.length ∧ Hid (EnI (S.take i) a b q ∧ wr = w))
  case atStart => exact ⟨0, 0, 0, false, rfl, rfl, rfl, rfl, by omega, ⟨rfl, rfl, by simp [numL]⟩, rfl⟩
  case round =>
    obtain ⟨i, a, b, q, rfl, rfl, rfl, rfl, hi, HX⟩ := hrel
    have hw := HX.out.2
    subst hw
    have HP : Hid (EnI (S.take i) a b q) := HX.out.1
    clear HX
    by_cases hlt : i < S.length
    · obtain ⟨g, o, cap', hsl, hcap', hI⟩ := HV.out.some (by omega)
      injection hsl with hs1 hs2 hs3
      subst hs1 hs3
      clear hs2
      have hc := hI i hlt
      have hs := HB.out i
      have hki : (i : Int) < (S.length : Int) := by omega
      have HT : Hid (S.take (i + 1) = S.take i ++ [S.getD i 0]) := take_snocS hlt
      have HTm := HM.out i
      generalize S.getD i 0 = s at *
      generalize S.take i = T at *
      clear hI hcap'
      have ha : a < 4294967296 := by rw [HP.out.a]; exact enA_lt
      have hb : b < 4294967296 := by rw [HP.out.b]; exact enB_lt HTm
      cases hk : nanN s
      · have K1 := HNa.out s hs
        rw [hk] at K1
        have K2 := HKy.out s hs
        cases q
        · have hz : numL T = [] := by have := HP.out.m; simpa using this
          have HN : Hid (EnI (T ++ [s]) s s true) := ⟨(en_first hz hk hs).1.symm, (en_first hz hk hs).2.symm, by rw [num_no hk]; simp⟩
          clear HTm hz hk
          go_wp2_with fail
          refine Calls.mono (K1 _) ?_
          rintro e w3 ⟨rfl, hw⟩
          obtain rfl := hw.symm
          clear hw
          go_wp2_with fail
          go_roundg (S.length - (i + 1))
          case measure => go_light; omega
          case rel => go_light; exact ⟨i + 1, s, s, true, rfl, rfl, rfl, by go_num, by omega, by rw [HT.out]; exact HN.out, rfl⟩
        · have hz : numL T ≠ [] := by have := HP.out.m; simpa using this
          have hA := (en_next hz HTm hk hs).1
          have hB := (en_next hz HTm hk hs).2
          rw [← HP.out.a] at hA
          rw [← HP.out.b] at hB
          have hM : (true : Bool) = decide (numL (T ++ [s]) ≠ []) := by rw [num_no hk]; simp
          have K3 := HKy.out a ha
          have K4 := HKy.out b hb
          clear HTm hz hk
          by_cases c1 : keyN s < keyN a
          · rw [if_pos c1] at hA
            have c1' : (keyN s : Int) < (keyN a : Int) := by omega
            by_cases c2 : keyN b < keyN s
            · rw [if_pos c2] at hB
              have c2' : (keyN b : Int) < (keyN s : Int) := by omega
              have HN : Hid (EnI (T ++ [s]) s s true) := ⟨hA.symm, hB.symm, hM⟩
              clear hA hB hM
              go_wp2_with fail
              refine Calls.mono (K1 _) ?_
              rintro e w3 ⟨rfl, hw⟩
              obtain rfl := hw.symm
              clear hw
              go_wp2_with fail
              refine Calls.mono (K2 _) ?_
              rintro e w3 ⟨rfl, hw⟩
              obtain rfl := hw.symm
              clear hw
              go_wp2_with fail
              refine Calls.mono (K3 _) ?_
              rintro e w3 ⟨rfl, hw⟩
              obtain rfl := hw.symm
              clear hw
              go_wp2_with fail
              refine Calls.mono (K2 _) ?_
              rintro e w3 ⟨rfl, hw⟩
              obtain rfl := hw.symm
              clear hw
              go_wp2_with fail
              refine Calls.mono (K4 _) ?_
              rintro e w3 ⟨rfl, hw⟩
              obtain rfl := hw.symm
              clear hw
              go_wp2_with fail
              go_roundg (S.length - (i + 1))
              case measure => go_light; omega
              case rel => go_light; exact ⟨i + 1, s, s, true, rfl, rfl, rfl, by go_num, by omega, by rw [HT.out]; exact HN.out, rfl⟩
            · rw [if_neg c2] at hB
              have c2' : ¬ (keyN b : Int) < (keyN s : Int) := by omega
              have HN : Hid (EnI (T ++ [s]) s b true) := ⟨hA.symm, hB.symm, hM⟩
              clear hA hB hM
              go_wp2_with fail
              refine Calls.mono (K1 _) ?_
              rintro e w3 ⟨rfl, hw⟩
              obtain rfl := hw.symm
              clear hw
              go_wp2_with fail
              refine Calls.mono (K2 _) ?_
              rintro e w3 ⟨rfl, hw⟩
              obtain rfl := hw.symm
              clear hw
              go_wp2_with fail
              refine Calls.mono (K3 _) ?_
              rintro e w3 ⟨rfl, hw⟩
              obtain rfl := hw.symm
              clear hw
              go_wp2_with fail
              refine Calls.mono (K2 _) ?_
              rintro e w3 ⟨rfl, hw⟩
              obtain rfl := hw.symm
              clear hw
              go_wp2_with fail
              refine Calls.mono (K4 _) ?_
              rintro e w3 ⟨rfl, hw⟩
              obtain rfl := hw.symm
              clear hw
              go_wp2_with fail
              go_roundg (S.length - (i + 1))
              case measure => go_light; omega
              case rel => go_light; exact ⟨i + 1, s, b, true, rfl, rfl, rfl, by go_num, by omega, by rw [HT.out]; exact HN.out, rfl⟩
          · rw [if_neg c1] at hA
            have c1' : ¬ (keyN s : Int) < (keyN a : Int) := by omega
            by_cases c2 : keyN b < keyN s
            · rw [if_pos c2] at hB
              have c2' : (keyN b : Int) < (keyN s : Int) := by omega
              have HN : Hid (EnI (T ++ [s]) a s true) := ⟨hA.symm, hB.symm, hM⟩
              clear hA hB hM
              go_wp2_with fail
              refine Calls.mono (K1 _) ?_
              rintro e w3 ⟨rfl, hw⟩
              obtain rfl := hw.symm
              clear hw
              go_wp2_with fail
              refine Calls.mono (K2 _) ?_
              rintro e w3 ⟨rfl, hw⟩
              obtain rfl := hw.symm
              clear hw
              go_wp2_with fail
              refine Calls.mono (K3 _) ?_
              rintro e w3 ⟨rfl, hw⟩
              obtain rfl := hw.symm
              clear hw
              go_wp2_with fail
              refine Calls.mono (K2 _) ?_
              rintro e w3 ⟨rfl, hw⟩
              obtain rfl := hw.symm
              clear hw
              go_wp2_with fail
              refine Calls.mono (K4 _) ?_
              rintro e w3 ⟨rfl, hw⟩
              obtain rfl := hw.symm
              clear hw
              go_wp2_with fail
              go_roundg (S.length - (i + 1))
              case measure => go_light; omega
              case rel => go_light; exact ⟨i + 1, a, s, true, rfl, rfl, rfl, by go_num, by omega, by rw [HT.out]; exact HN.out, rfl⟩
            · rw [if_neg c2] at hB
              have c2' : ¬ (keyN b : Int) < (keyN s : Int) := by omega
              have HN : Hid (EnI (T ++ [s]) a b true) := ⟨hA.symm, hB.symm, hM⟩
              clear hA hB hM
              go_wp2_with fail
              refine Calls.mono (K1 _) ?_
              rintro e w3 ⟨rfl, hw⟩
              obtain rfl := hw.symm
              clear hw
              go_wp2_with fail
              refine Calls.mono (K2 _) ?_
              rintro e w3 ⟨rfl, hw⟩
              obtain rfl := hw.symm
              clear hw
              go_wp2_with fail
              refine Calls.mono (K3 _) ?_
              rintro e w3 ⟨rfl, hw⟩
              obtain rfl := hw.symm
              clear hw
              go_wp2_with fail
              refine Calls.mono (K2 _) ?_
              rintro e w3 ⟨rfl, hw⟩
              obtain rfl := hw.symm
              clear hw
              go_wp2_with fail
              refine Calls.mono (K4 _) ?_
              rintro e w3 ⟨rfl, hw⟩
              obtain rfl := hw.symm
              clear hw
              go_wp2_with fail
              go_roundg (S.length - (i + 1))
              case measure => go_light; omega
              case rel => go_light; exact ⟨i + 1, a, b, true, rfl, rfl, rfl, by go_num, by omega, by rw [HT.out]; exact HN.out, rfl⟩
      · have K1 := HNa.out s hs
        rw [hk] at K1
        have HN : Hid (EnI (T ++ [s]) a b q) := ⟨by rw [(en_yes hk).1]; exact HP.out.a, by rw [(en_yes hk).2]; exact HP.out.b, by rw [num_yes hk]; exact HP.out.m⟩
        clear HTm hk
        go_wp2_with fail
        refine Calls.mono (K1 _) ?_
        rintro e w3 ⟨rfl, hw⟩
        obtain rfl := hw.symm
        clear hw
        go_wp2_with fail
        go_roundg (S.length - (i + 1))
        case measure => go_light; omega
        case rel => go_light; exact ⟨i + 1, a, b, q, rfl, rfl, rfl, by go_num, by omega, by rw [HT.out]; exact HN.out, rfl⟩
    · obtain rfl : i = S.length := by omega
      have hge : ¬ (S.length : Int) < (S.length : Int) := by omega
      have hP := HP.out
      rw [HE.out] at hP
      have hE := ends_en S
      cases q
      · have hz : numL S = [] := by have := hP.m; simpa using this
        rw [if_pos hz] at hE
        clear hP hz HP
        go_wp2_with fail
        refine bodyPost_ret (v := .tuple #[.int .u32 0, .int .u32 0, .int .i64 161]) (by simp [results, Tryz.results53, go_sem]) rfl ⟨by simp [hE], rfl⟩
      · have hz : numL S ≠ [] := by have := hP.m; simpa using this
        rw [if_neg hz, ← hP.a, ← hP.b] at hE
        clear hP hz HP
        go_wp2_with fail
        refine bodyPost_ret (v := .tuple #[.int .u32 (a : Int), .int .u32 (b : Int), .int .i64 0]) (by simp [results, Tryz.results53, go_sem]) rfl ⟨by simp [hE], rfl⟩
end Go.Proofs.YtieojgblamkgoaaGreatDoor
/- The drawn region of the statements' helper same. (gen_tyu.py) -/
namespace Go.Proofs.YtieojgblamkgoaaGreatDoor
open Go.RowKit
set_option linter.unusedVariables false
set_option linter.unusedSimpArgs false
set_option maxRecDepth 100000

section
variable {P : Program} {ρ : Operand → Value} {x : World} {d : Option Tmp} {ty : TypeId} {ps : String} {af : Array Edge} {g : Option (Nat × Bool)}
end
end Go.Proofs.YtieojgblamkgoaaGreatDoor
/- stat: Histogram, NaNs; the statements' helper same. -/
namespace Go.Proofs.YtieojgblamkgoaaGreatDoor
open Go.RowKit
set_option linter.unusedVariables false
set_option linter.unusedSimpArgs false

set_option maxHeartbeats 1000000 in
set_option maxRecDepth 100000 in
theorem snans_any (P A H b kc : Nat) (L : List Nat) (w : World) (h : StAt w P A H b kc L) : Calls Tryz.prog 33 #[.pointer (some ⟨P, 0, none⟩)] w fun e w' => e = .returned (.int .i64 (nanC L : Nat)) ∧ w' = w := by
  have p5 := h.p5
  clear h
  go_enter Tryz.func33, Tryz.ntmps33
  go_wp2_with fail
  go_ret
  exact ⟨rfl, rfl⟩
end Go.Proofs.YtieojgblamkgoaaGreatDoor
/- The statements' helper tells. -/
namespace Go.Proofs.YtieojgblamkgoaaGreatDoor
open Go.RowKit
set_option linter.unusedVariables false
set_option linter.unusedSimpArgs false

set_option maxHeartbeats 1000000 in
set_option maxRecDepth 100000 in
theorem shist_vr (P A H b kc : Nat) (L : List Nat) (w : World) (h : StAt w P A H b kc L) : Calls Tryz.prog 30 #[.pointer (some ⟨P, 0, none⟩)] w fun e w' => ∃ G k, e = .returned (.slice (some ⟨G, 0, none⟩) (2 ^ b) k) ∧ 2 ^ b ≤ k ∧ VR w' G (2 ^ b) (fun j => .int .i64 ((clsC b L j : Nat) : Int)) ∧ w.heap.size ≤ G ∧ Q w w' := by
  have p1 := h.p1
  have p2 := h.p2
  have K := tclone_any b H kc L w h.b2 h.tal h.cap
  have HK : Hid _ := K
  clear h K
  unfold talV at HK
  go_enter Tryz.func30, Tryz.ntmps30
  go_wp2_with fail
  refine Calls.mono HK.out ?_
  rintro e w2 ⟨G, k, rfl, hk, hv, hG, hq⟩
  have HQ : Hid (2 ^ b ≤ k ∧ VR w2 G (2 ^ b) (fun j => .int .i64 ((clsC b L j : Nat) : Int)) ∧ w.heap.size ≤ G ∧ Q w w2) := ⟨hk, hv, hG, hq⟩
  have hf : ∀ w, (Instr.field 72 (.agg #[.int .i64 (b : Int), .slice (some ⟨G, 0, none⟩) (2 ^ b) k]) 1).run Tryz.prog w = .ok (.slice (some ⟨G, 0, none⟩) (2 ^ b) k) w := fun w => by rfl
  clear hv hq hk hG HK
  go_wp2_with fail
  go_ret
  exact ⟨_, _, rfl, HQ.out⟩
/-- Numbers that may be written. -/
structure IpW (x : World) (g n : Nat) : Prop where
  cell : ∀ i, i < n → ∃ z : Int, x.cell? ⟨g, i, none⟩ = some (.int .i64 z)
  free : ∀ j, x.frozen? ⟨g, j, none⟩ = false
theorem IpW.set {x : World} {g n i : Nat} (h : IpW x g n) (z : Int) : IpW (x.setCell ⟨g, i, none⟩ (.int .i64 z)) g n := by
  refine ⟨fun j hj => ?_, fun j => by rw [World.frozen?_setCell]; exact h.free j⟩
  obtain ⟨y, hy⟩ := h.cell j hj
  by_cases e : j = i
  · subst e; exact ⟨z, World.cell?_setCell_same _ _ _ hy⟩
  · exact ⟨y, (World.cell?_setCell_other _ _ _ _ (fun k => e (by injection k with _ k; exact k.symm))).trans hy⟩
set_option maxHeartbeats 8000000 in
set_option maxRecDepth 100000 in
theorem tells_any (P A H b kc : Nat) (L : List Nat) (v : Value) (w : World) (h : StAt w P A H b kc L) (hv : USl w v L) (hb : ∀ i, L.getD i 0 < 4294967296) (hn : L.length ≤ 100000) (hT : Tab w) :
    Calls Tryz.prog 15 #[.pointer (some ⟨P, 0, none⟩), v, .int .i64 (b : Int)] w fun e w' => e = .returned (.bool true) ∧ Q w w' := by
  obtain ⟨va, vc, rfl⟩ := hv.form
  have hm := mem_of_getD hb
  have h1 := h.b1
  have h2 := h.b2
  have hp : 2 ^ b ≤ 2 ^ 12 := Nat.pow_le_pow_right (by decide) h2
  have HS : Hid (∀ x, Q w x → StAt x P A H b kc L ∧ USl x (.slice va L.length vc) L ∧ Tab x) := fun x q => ⟨h.next q, hv.next q, q.tab hT⟩
  have KH : Hid _ := shist_vr P A H b kc L w h
  have KD : Hid (∀ x, Q w x → Calls Tryz.prog 50 #[.slice va L.length vc, .int .i64 (b : Int)] x fun e w' => ∃ u, e = .returned u ∧ ISl w' u (hisL b L) ∧ Q x w') := fun x q => s16hist_any _ L b x h1 h2 (HS.out x q).2.1 hb (by omega)
  have K1 : Hid (∀ x, Q w x → Calls Tryz.prog 34 #[.pointer (some ⟨P, 0, none⟩)] x fun e w' => e = .returned (.tuple #[.int .u32 ((smeanV L).1 : Nat), .int .i64 (smeanV L).2]) ∧ Q x w') := fun x q => smean_any P A H b kc L x (HS.out x q).1 hm (by omega) (HS.out x q).2.2
  have K2 : Hid (∀ x, Q w x → Calls Tryz.prog 54 #[.slice va L.length vc] x fun e w' => e = .returned (.tuple #[.int .u32 ((smeanV L).1 : Nat), .int .i64 (smeanV L).2]) ∧ Q x w') := fun x q => s16mean_any _ L x (HS.out x q).2.1 (by omega) hb
  have K3 : Hid (∀ x, Q w x → Calls Tryz.prog 31 #[.pointer (some ⟨P, 0, none⟩)] x fun e w' => e = .returned (.tuple #[.int .u32 ((endsV L).1 : Nat), .int .u32 ((endsV L).2.1 : Nat), .int .i64 (endsV L).2.2]) ∧ Q x w') := fun x q => sends_any P A H b kc L x (HS.out x q).1 hm
  have K4 : Hid (∀ x, Q w x → Calls Tryz.prog 53 #[.slice va L.length vc] x fun e w' => e = .returned (.tuple #[.int .u32 ((endsV L).1 : Nat), .int .u32 ((endsV L).2.1 : Nat), .int .i64 (endsV L).2.2]) ∧ w' = x) := fun x q => s16ends_any _ L x (HS.out x q).2.1 hb (by omega)
  have K5 : Hid (∀ x, Q w x → Calls Tryz.prog 37 #[.pointer (some ⟨A, 0, none⟩)] x fun e w' => e = .returned (.int .u32 (sumV L 1 : Nat)) ∧ Q x w') := fun x q => by
    obtain ⟨N, hA⟩ := (HS.out x q).1.acc
    exact asum_any L A L.length N x hA (sumZ_fits hm (by omega)) (HS.out x q).2.2
  have K6 : Hid (∀ x, Q w x → Calls Tryz.prog 52 #[.slice va L.length vc] x fun e w' => e = .returned (.int .u32 (sumV L 1 : Nat)) ∧ Q x w') := fun x q => s16sum_any _ L x (HS.out x q).2.1 (by omega) hb
  have K7 : Hid (∀ x, Q w x → Calls Tryz.prog 32 #[.pointer (some ⟨A, 0, none⟩)] x fun e w' => e = .returned (.int .i64 (L.length : Int)) ∧ w' = x) := fun x q => by
    obtain ⟨N, hA⟩ := (HS.out x q).1.acc
    exact acount_any A _ x hA.c
  have K9 : Hid (∀ x, Q w x → Calls Tryz.prog 33 #[.pointer (some ⟨P, 0, none⟩)] x fun e w' => e = .returned (.int .i64 (nanC L : Nat)) ∧ w' = x) := fun x q => snans_any P A H b kc L x (HS.out x q).1
  have K10 : Hid (∀ x, Q w x → Calls Tryz.prog 51 #[.slice va L.length vc] x fun e w' => e = .returned (.int .i64 (nanC L : Nat)) ∧ w' = x) := fun x q => s16nans_any _ L x (HS.out x q).2.1 hb (by omega)
  have HHL : Hid ((hisL b L).length ≤ 100000) := by
    show _ ≤ _
    rw [hisL_len]
    omega
  have HI : Hid (∀ (x : World) (G k : Nat), 2 ^ b ≤ k → VR x G (2 ^ b) (fun j => .int .i64 ((clsC b L j : Nat) : Int)) → ISl x (.slice (some ⟨G, 0, none⟩) (2 ^ b) k) (hisL b L)) := fun x G k _ hx => by
    refine Or.inl ⟨G, 0, k, by rw [hisL_len], fun i hi => ?_⟩
    rw [hisL_len] at hi
    rw [Nat.zero_add, hx.cell i hi, hisL_get hi]
  have HP0 : Hid (∀ x, Q w x → x.cell? ⟨P, 0, none⟩ = some (.pointer (some ⟨A, 0, none⟩))) := fun x q => q.cell h.p0
  have hN : 2 ^ b ≤ 4096 := hp
  clear h hT hb hm h1 h2 hp HS
  generalize (smeanV L).1 = m1 at *
  generalize (smeanV L).2 = m2 at *
  generalize (endsV L).1 = e1 at *
  generalize (endsV L).2.1 = e2 at *
  generalize (endsV L).2.2 = e3 at *
  generalize sumV L 1 = sm at *
  generalize nanC L = nc at *
  generalize hisL b L = hl at *
  generalize 2 ^ b = N at *
  go_enter Tryz.func15, Tryz.ntmps15
  go_wp2_with fail
  refine Calls.mono KH.out ?_
  rintro e x1 ⟨G, k, rfl, hk, hvr, hG, q1⟩
  have H1 : Hid (Q w x1) := q1
  have HV1 : Hid (VR x1 G N (fun j => .int .i64 ((clsC b L j : Nat) : Int))) := hvr
  have HG : Hid (w.heap.size ≤ G) := hG
  have HGx : Hid (G < x1.heap.size ∨ N = 0) := by
    rcases Nat.eq_zero_or_pos N with h | h
    · exact Or.inr h
    · exact Or.inl (hvr.lt h)
  clear q1 hvr hG KH
  go_wp2_with fail
  refine Calls.mono (KD.out _ H1.out) ?_
  rintro e x2 ⟨u, rfl, hu, q2⟩
  have H2 : Hid (Q w x2) := H1.out.trans q2
  have HV2 : Hid (VR x2 G N (fun j => .int .i64 ((clsC b L j : Nat) : Int))) := HV1.out.next q2
  have HU2 : Hid (ISl x2 u hl) := hu
  clear q2 hu HV1 H1 KD
  go_wp2_with fail
  refine Calls.mono (ints_any _ u hl hl x2 (HI.out x2 G k hk HV2.out) HU2.out HHL.out HHL.out) ?_
  rintro e x3 ⟨rfl, q3⟩
  rw [decide_eq_true (rfl : hl = hl)]
  have H3 : Hid (Q w x3) := H2.out.trans q3
  have HV3 : Hid (VR x3 G N (fun j => .int .i64 ((clsC b L j : Nat) : Int))) := HV2.out.next q3
  have c0 := HP0.out x3 H3.out
  clear q3 HV2 H2 HU2 HI HHL
  go_wp2_with fail
  refine Calls.mono (K7.out _ H3.out) ?_
  rintro e x4 ⟨rfl, hw⟩
  obtain rfl := hw.symm
  clear hw
  go_wp2_with fail
  refine Calls.mono (K9.out _ H3.out) ?_
  rintro e x5 ⟨rfl, hw⟩
  obtain rfl := hw.symm
  clear hw
  go_wp2_with fail
  refine Calls.mono (K10.out _ H3.out) ?_
  rintro e x6 ⟨rfl, hw⟩
  obtain rfl := hw.symm
  clear hw
  go_wp2_with fail
  refine Calls.mono (K5.out _ H3.out) ?_
  rintro e x7 ⟨rfl, q7⟩
  have H7 : Hid (Q w x7) := H3.out.trans q7
  have HV7 : Hid (VR x7 G N (fun j => .int .i64 ((clsC b L j : Nat) : Int))) := HV3.out.next q7
  clear q7 H3 HV3 c0
  go_wp2_with fail
  refine Calls.mono (K6.out _ H7.out) ?_
  rintro e x8 ⟨rfl, q8⟩
  have H8 : Hid (Q w x8) := H7.out.trans q8
  have HW8 : Hid (IpW x8 G N) := ⟨fun i hi => ⟨_, (HV7.out.next q8).cell i hi⟩, (HV7.out.next q8).free⟩
  clear q8 H7 HV7 K5 K6 K7 K9 K10
  clear hv
  go_wp2_with fail
  have HX0 : Hid (IpW x8 G N ∧ Fb G x8 x8) := ⟨HW8.out, Fb.refl _ _⟩
  go_loopg [8] N (fun m s8 wr => ∃ i : Nat, s8 = .int .i64 (i : Int) ∧ i + m = N ∧ Hid (IpW wr G N ∧ Fb G x8 wr))
  case atStart => exact ⟨0, rfl, by omega, HX0⟩
  case round =>
    clear HX0
    obtain ⟨i, rfl, hi, HX⟩ := hrel
    by_cases hlt : i < N
    · have hki : (i : Int) < (N : Int) := by omega
      obtain ⟨z, hz⟩ := HX.out.1.cell i hlt
      have fz := HX.out.1.free i
      have HY : Hid (IpW (wr.setCell ⟨G, i, none⟩ (.int .i64 (-1))) G N ∧ Fb G x8 (wr.setCell ⟨G, i, none⟩ (.int .i64 (-1)))) := ⟨HX.out.1.set _, HX.out.2.set rfl _⟩
      go_wp2_with fail
      go_roundg (N - (i + 1))
      case measure => go_light; omega
      case rel => go_light; exact ⟨i + 1, by go_num, by omega, HY⟩
    · obtain rfl : i = N := by omega
      have hge : ¬ (i : Int) < (i : Int) := by omega
      have H9 : Hid (Q w wr) := HX.out.2.q H8.out HG.out
      clear HX HW8 H8
      go_wp2_with fail
      refine Calls.mono (K3.out _ H9.out) ?_
      rintro e y1 ⟨rfl, q1⟩
      have HA : Hid (Q w y1) := H9.out.trans q1
      clear q1 H9 K3
      go_wp2_with fail
      refine Calls.mono (K4.out _ HA.out) ?_
      rintro e y2 ⟨rfl, hw⟩
      obtain rfl := hw.symm
      clear hw K4
      go_wp2_with fail
      refine Calls.mono (K1.out _ HA.out) ?_
      rintro e y3 ⟨rfl, q3⟩
      have HB : Hid (Q w y3) := HA.out.trans q3
      clear q3 HA K1
      go_wp2_with fail
      refine Calls.mono (K2.out _ HB.out) ?_
      rintro e y4 ⟨rfl, q4⟩
      have HC : Hid (Q w y4) := HB.out.trans q4
      clear q4 HB K2
      go_wp2_with fail
      go_ret
      exact ⟨by simp, HC.out⟩
end Go.Proofs.YtieojgblamkgoaaGreatDoor

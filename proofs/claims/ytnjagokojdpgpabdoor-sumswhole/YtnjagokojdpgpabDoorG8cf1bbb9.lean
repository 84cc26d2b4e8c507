/- The statement SumsWhole: its walk. -/
import Derived.Test.YtnjagokojdpgpabDoorGe61b2e22
import Derived.Test.YtnjagokojdpgpabDoorG71eb5ff9
import Derived.Test.YtnjagokojdpgpabDoorG9d79f6b0
import Derived.Test.YtnjagokojdpgpabDoorG48dbb172
namespace Go.Proofs.YtnjagokojdpgpabDoor
open Go.RowKit
set_option linter.unusedVariables false
set_option linter.unusedSimpArgs false

theorem mem_size {L : List Int} {c : Nat} (h : sizeL L ≤ c) : ∀ v ∈ L, v.natAbs ≤ c := by
  induction L with
  | nil => intro v hv; cases hv
  | cons a t ih =>
    rw [sizeL_cons] at h
    intro v hv
    rcases List.mem_cons.1 hv with rfl | hv
    · omega
    · exact ih (by omega) v hv
/-- An append turns no other list of the call's own. -/
theorem other_kept {w w' : World} {base n g : Nat} {e : TypeId} {v u : Value} {xs : List Value} (h : w.ownsRow base e 1 v n xs) (hd : ∀ B, v.ownBlock = some B → u.ownBlock ≠ some B)
    (hB : ∀ B, u.ownBlock ≠ some B → B < w.heap.size → g ≠ B ∧ ∃ C, C ≠ B ∧ Fb C w w') : w'.ownsRow base e 1 v n xs ∧ v.ownBlock ≠ some g := by
  have h' := h
  obtain ⟨h1, ⟨rfl, h2⟩ | ⟨g', cap, cur, rfl, _, hh, _⟩⟩ := h
  · exact ⟨⟨h1, Or.inl ⟨rfl, h2⟩⟩, by simp [Value.ownBlock]⟩
  · obtain ⟨k1, C, k2, f⟩ := hB g' (hd g' rfl) (Array.getElem?_eq_some_iff.1 hh).1
    exact ⟨own_fb h' f (fun e => k2 (by cases e; rfl)), fun e => k1 (by cases e; rfl)⟩
theorem of_fin2 {p : Nat} (hp : p < 4294967296) (fp : rung32 p < 2139095040) (w : World) : Calls Tryd.prog 18 #[.agg #[.int .i64 23, .int .i64 8], .int .u64 (p : Int)] w fun e w' => ∃ pa La Ca, e = .returned (.agg #[.int .i64 2, .bool (sgn32 p), .slice pa La Ca, .int .i64 (-149 + (plc32 (rung32 p) : Int)), .bool false]) ∧ NatAt w' (.slice pa La Ca) (mag32 (rung32 p)) ∧ Q w w' := by
  refine (of32_any p w hp).mono ?_
  rintro e w' ⟨v, rfl, hv, q⟩
  rw [numOf_datum, read_fin32 fp] at hv
  obtain ⟨nv, rfl, hn⟩ := hv
  obtain ⟨pa, ba, La, Ca, rfl, hz⟩ := hn
  exact ⟨_, _, _, rfl, ⟨pa, ba, La, Ca, rfl, hz⟩, q⟩
theorem dot_D {x : Nat} (hx : rung32 x < 2139095040) {W : List Int} (hs : sizeL W ≤ 2 ^ 28) (hb : ∀ y ∈ W, y.natAbs ≤ 268435456) : IsD (sampleZ x) W.sum (dotF (prods W (List.replicate W.length x))) := by
  obtain ⟨m, g, h1, h2, h3⟩ := X_form hx
  have e : prods W (List.replicate W.length x) = W.map fun y => prodV y x := by
    refine List.ext_getElem? fun i => ?_
    rcases Nat.lt_or_ge i W.length with h | h
    · have hp := prods_at W (List.replicate W.length x) (i := i) (by simp; exact h)
      have hl : i < (prods W (List.replicate W.length x)).length := by rw [prods_length]; simp; exact h
      rw [List.getD_eq_getElem?_getD, List.getElem?_eq_getElem hl] at hp
      rw [List.getElem?_eq_getElem hl, List.getElem?_map, List.getElem?_eq_getElem h]
      simp only [Option.getD_some, Option.map_some] at hp ⊢
      rw [hp, List.getD_eq_getElem?_getD, List.getElem?_eq_getElem h, List.getD_eq_getElem?_getD, List.getElem?_replicate, if_pos h]
      rfl
    · rw [List.getElem?_eq_none (by rw [prods_length]; simp; exact h), List.getElem?_eq_none (by simp; exact h)]
  rw [e]
  unfold dotF
  cases W with
  | nil =>
    rw [if_pos (show List.map (fun y => prodV y x) [] = [] from rfl)]
    refine ⟨by decide, ?_, fun h => absurd (Int.zero_mul _) h⟩
    show rung64 0 = rungOf Ieee.double (0 * sampleZ x).natAbs (-1074)
    rw [Int.zero_mul, show (0 : Int).natAbs = 0 from rfl, rungOf_zero]
    decide
  | cons y t =>
    rw [if_neg (by simp)]
    have := fold_D h1 h2 h3 ((y :: t).map fun y => (y, prodV y x)) 0 9223372036854775808 (IsD.nought _) (fun p hp => by
      obtain ⟨z, hz, rfl⟩ := List.mem_map.1 hp
      have := hb z hz
      exact IsD.prod hx (by omega) (by omega)) (by rw [List.map_map]; show 0 + sizeL ((y :: t).map fun z => z) ≤ _; rw [List.map_id', Nat.zero_add]; exact hs)
    rw [List.map_map, List.map_map, Int.zero_add] at this
    have e1 : (y :: t).map (Prod.fst ∘ fun y => (y, prodV y x)) = y :: t := by
      show (y :: t).map (fun z => z) = _
      exact List.map_id' _
    rw [e1] at this
    exact this
theorem alloc_cell (w : World) (c : Array Value) (t : TypeId) (k : Nat) : (w.alloc (.cells c t)).cell? ⟨w.heap.size, k, none⟩ = c[k]? := by
  have h : (w.alloc (.cells c t)).heap[w.heap.size]? = some (.cells c t) := by show (w.heap.push _)[w.heap.size]? = _; simp
  unfold World.cell?; rw [h]; rfl
theorem alloc_frozen (w : World) (c : Array Value) (t : TypeId) (k : Nat) : (w.alloc (.cells c t)).frozen? ⟨w.heap.size, k, none⟩ = false := by
  have h : (w.alloc (.cells c t)).heap[w.heap.size]? = some (.cells c t) := by show (w.heap.push _)[w.heap.size]? = _; simp
  unfold World.frozen?; rw [h]; simp
theorem and63u (x : Nat) (h : x < 18446744073709551616) : bits .and .u64 (x : Int) 9223372036854775807 = ((x % 9223372036854775808 : Nat) : Int) := by
  have h := u64_and (x : Int) 9223372036854775807 (by omega) (by omega) (by decide) (by decide)
  rw [show (9223372036854775807 : Int).toNat = 2 ^ 63 - 1 from rfl, Int.toNat_natCast, Nat.and_two_pow_sub_one_eq_mod] at h
  exact h
theorem fit_prod {x n : Nat} {ex : Int} {s : Bool} (hn : n < 4294967296) (he : -149 + (plc32 (rung32 x) : Int) = ex) (hx : rung32 x < 2139095040) : fitsD (.fin s (mag32 (rung32 x) * n) ex false) := by
  have h1 := mag_lt32 (rung32 x)
  have h2 := plc_le32 hx
  refine ⟨?_, by omega, by omega, fun h => (by cases h)⟩
  have : mag32 (rung32 x) * n < 2 ^ 57 := Nat.lt_of_le_of_lt (Nat.mul_le_mul (Nat.le_of_lt h1) (Nat.le_of_lt hn)) (by decide)
  have := blen_le (n := mag32 (rung32 x) * n) (k := 57) this
  omega
theorem round_D {x n : Nat} {ex k : Int} {s g : Bool} (he : -149 + (plc32 (rung32 x) : Int) = ex) (hs : sgn32 x = s) (hk : k.natAbs = n ∧ decide (k < 0) = g) : IsD (sampleZ x) k (roundD (.fin (s != g) (mag32 (rung32 x) * n) ex false)) := by
  show IsD (sampleZ x) k (Ieee.double.word (s != g) (rungOf Ieee.double (2 * (mag32 (rung32 x) * n) + false.toNat) (ex - 1)))
  have hX : (sampleZ x).natAbs = mag32 (rung32 x) * 2 ^ (plc32 (rung32 x) + 925) := signed_abs _ _ _
  have hr : rungOf Ieee.double (2 * (mag32 (rung32 x) * n) + false.toNat) (ex - 1) = rungOf Ieee.double (k * sampleZ x).natAbs (-1074) := by
    have e2 : ∀ M : Nat, 2 * M + false.toNat = M * 2 ^ 1 := fun M => by rw [Nat.pow_one, Nat.mul_comm]; rfl
    obtain ⟨c, hc⟩ : ∃ c : Nat, c = 925 := ⟨_, rfl⟩
    rw [← hc] at hX
    rw [Int.natAbs_mul, hX, hk.1, e2, rung_scale, ← Nat.mul_assoc, Nat.mul_comm n, rung_scale]
    congr 1
    omega
  rw [hr]
  refine IsD.mk fun hne => ?_
  have hs0 : sampleZ x ≠ 0 := fun e => hne (by rw [e, Int.mul_zero])
  have hk0 : k ≠ 0 := fun e => hne (by rw [e, Int.zero_mul])
  have hsx : sgn32 x = decide (sampleZ x < 0) := signed_sign (s := sgn32 x) (m := mag32 (rung32 x)) (k := plc32 (rung32 x) + 925) hs0
  rw [← hs, hsx, ← hk.2]
  generalize sampleZ x = X at *
  clear hr hX he
  rcases Int.lt_trichotomy k 0 with g1 | g1 | g1
  · rcases Int.lt_trichotomy X 0 with k1 | k1 | k1
    · have := Int.mul_pos_of_neg_of_neg g1 k1
      rw [show decide (k < 0) = true from decide_eq_true g1, show decide (X < 0) = true from decide_eq_true k1, show decide (k * X < 0) = false from decide_eq_false (by omega)]; rfl
    · exact absurd k1 hs0
    · have := Int.mul_neg_of_neg_of_pos g1 k1
      rw [show decide (k < 0) = true from decide_eq_true g1, show decide (X < 0) = false from decide_eq_false (by omega), show decide (k * X < 0) = true from decide_eq_true this]; rfl
  · exact absurd g1 hk0
  · rcases Int.lt_trichotomy X 0 with k1 | k1 | k1
    · have := Int.mul_neg_of_pos_of_neg g1 k1
      rw [show decide (k < 0) = false from decide_eq_false (by omega), show decide (X < 0) = true from decide_eq_true k1, show decide (k * X < 0) = true from decide_eq_true this]; rfl
    · exact absurd k1 hs0
    · have := Int.mul_pos g1 k1
      rw [show decide (k < 0) = false from decide_eq_false (by omega), show decide (X < 0) = false from decide_eq_false (by omega), show decide (k * X < 0) = false from decide_eq_false (by omega)]; rfl
set_option maxHeartbeats 4000000 in
set_option maxRecDepth 100000 in
theorem whole_walk (vl vw : Value) (L0 W0 : List Int) (x : Nat) (w : World) (hl : ISl w vl L0) (hw : ISl w vw W0) (hx : x < 4294967296) (hnl : L0.length ≤ 9223372036854775807) (hnw : W0.length ≤ 9223372036854775807) (hT : Tab w) : Calls Tryd.prog 5 #[vl, .int .u32 (x : Int), vw] w fun e w' => e = .returned (.bool true) ∧ Q w w' := by
  obtain ⟨al, cl, rfl⟩ := hl.form
  obtain ⟨aw, cw, rfl⟩ := hw.form
  have HL0 : Hid (ISl w (.slice al L0.length cl) L0) := hl
  have HW0 : Hid (ISl w (.slice aw W0.length cw) W0) := hw
  have HT : Hid (Tab w) := hT
  clear hl hw hT
  by_cases hm : 2000 < L0.length
  · have hm' : (2000 : Int) < L0.length := by omega
    clear hm
    go_enter Tryd.func5, Tryd.ntmps5
    go_wp2_with fail
    refine (known_any _ HT.out).mono ?_
    rintro e w1 ⟨rfl, q1⟩
    go_wp2_with fail
    go_ret
    exact ⟨rfl, q1⟩
  have hm' : ¬ (2000 : Int) < L0.length := by omega
  by_cases hk : 2000 < W0.length
  · have hk' : (2000 : Int) < W0.length := by omega
    clear hk
    go_enter Tryd.func5, Tryd.ntmps5
    go_wp2_with fail
    refine (known_any _ HT.out).mono ?_
    rintro e w1 ⟨rfl, q1⟩
    go_wp2_with fail
    go_ret
    exact ⟨rfl, q1⟩
  have hk' : ¬ (2000 : Int) < W0.length := by omega
  go_enter Tryd.func5, Tryd.ntmps5
  go_wp2_with fail
  refine (known_any _ HT.out).mono ?_
  rintro e w1 ⟨rfl, q1⟩
  have HQ1 : Hid (Q w w1) := q1
  clear q1
  go_wp2_with fail
  go_loopg [7, 8, 9, 10] L0.length (fun gh s7 s8 s9 s10 wr => ∃ (i : Nat) (L : List Int) (sm : Int) (sz : Nat) (v : Value), s7 = v ∧ s8 = .int .i64 sm ∧ s9 = .int .i64 (sz : Int) ∧ s10 = .int .i64 (i : Int) ∧ i ≤ L0.length ∧ gh = L0.length - i ∧ -16777216 ≤ sm ∧ sm ≤ 16777216 ∧ sz ≤ 16777216 ∧
    Hid (L.length = i ∧ L.sum = sm ∧ sizeL L = sz ∧ sz ≤ 8192 * i) ∧ Hid (wr.ownsRow w1.heap.size 23 1 v i (newsU (L.map iV))) ∧ Hid (Q w1 wr))
  case atStart => exact ⟨0, [], 0, 0, .slice none 0 0, rfl, rfl, rfl, rfl, Nat.zero_le _, rfl, by omega, by omega, by omega, ⟨rfl, rfl, rfl, by omega⟩, ⟨rfl, Or.inl ⟨rfl, rfl⟩⟩, Q.refl _⟩
  case round =>
    obtain ⟨i, L, sm, sz, v, hv7, rfl, rfl, rfl, hi, rfl, hb1, hb2, hb3, HL, HO, HQ⟩ := hrel
    replace hv7 := hv7.symm
    subst hv7
    by_cases hlt : i < L0.length
    · obtain ⟨g1, o1, cap1, hsl, hI1⟩ := HL0.out.some (by omega)
      injection hsl with hs1 hs2 hs3
      subst hs1 hs3
      clear hs2
      have c1 := (HQ1.out.trans HQ.out).cell (hI1 i hlt)
      generalize L0.getD i 0 = y at *
      have hlt' : (i : Int) < (L0.length : Int) := by omega
      clear hI1
      go_wp2_with fail
      refine (place_any y 16384 (by decide) (by decide) _).mono ?_
      rintro e wr' ⟨p, rfl, hp, hw⟩
      subst hw
      obtain ⟨u, e5⟩ : ∃ u : Int, (p : Int) - 8192 = u := ⟨_, rfl⟩
      have hu1 : -8192 ≤ u := by omega
      have hu2 : u < 8192 := by omega
      obtain ⟨a, ha, e6, ha2⟩ : ∃ a : Nat, a ≤ 8192 ∧ max u (-u) = (a : Int) ∧ a = u.natAbs := ⟨u.natAbs, by omega, by omega, rfl⟩
      have HA : Hid (a = u.natAbs) := ha2
      clear ha2
      go_wp2_with fail
      refine (rint_any u (by omega) (by omega) _).mono ?_
      rintro e w3 ⟨rfl, q3⟩
      rw [from_iV]
      have HQ3 : Hid (Q wr' w3) := q3
      clear q3
      have HO3 : Hid (w3.ownsRow w1.heap.size 23 1 v i (newsU (L.map iV))) := own_next HO.out HQ3.out
      go_wp2_with (at_builtin; go_must (refine wpList_addG (w3.alloc (.cells #[.int .u32 ((iV u : Nat) : Int)] 23)) w1 ((HQ.out.trans HQ3.out).cells _ _) rfl (.tmp 54) (.tmp 57) rfl v i (L.map iV) (by simp [Act.eval, Act.put]) (World.ownsRow.alloc HO3.out _) w3.heap.size (iV u) (by simp [Act.eval, Act.put]) (cell_fresh w3 _ _) (by omega) ?_; intro g cap w5 hO5 hQ5 hB5; have HO5 : Hid (w5.ownsRow w1.heap.size 23 1 (.slice (some ⟨g, 0, none⟩) (i + 1) cap) (i + 1) (newsU (L.map iV ++ [iV u]))) := hO5; have HQ5 : Hid (Q w1 w5) := hQ5; clear hO5 hQ5 hB5))
      have HN : Hid ((L ++ [u]).length = i + 1 ∧ (L ++ [u]).sum = sm + u ∧ sizeL (L ++ [u]) = sz + a ∧ sz + a ≤ 8192 * (i + 1)) := ⟨by rw [List.length_append, HL.out.1]; rfl, by rw [List.sum_append, HL.out.2.1]; simp, by rw [sizeL_app, HL.out.2.2.1, HA.out]; simp [sizeL], by have := HL.out.2.2.2; omega⟩
      have HM : Hid ((L ++ [u]).map iV = L.map iV ++ [iV u]) := by show (L ++ [u]).map iV = L.map iV ++ [iV u]; simp
      have hss := sum_size (L ++ [u])
      rw [HN.out.2.1, HN.out.2.2.1] at hss
      have hsz := HN.out.2.2.2
      have hsb1 : -16777216 ≤ sm + u := by omega
      have hsb2 : sm + u ≤ 16777216 := by omega
      have hsb3 : sz + a ≤ 16777216 := by omega
      clear hss hsz
      go_wp2_with fail
      go_roundg (L0.length - (i + 1))
      case measure => go_light; omega
      case rel => go_light; exact ⟨i + 1, L ++ [u], sm + u, sz + a, _, rfl, rfl, by simp, by simp, by omega, rfl, hsb1, hsb2, hsb3, HN, by show World.ownsRow _ _ _ _ _ _ _; rw [HM.out]; exact HO5.out, HQ5⟩
    · obtain rfl : i = L0.length := by omega
      have hge : ¬ (L0.length : Int) < (L0.length : Int) := by omega
      have hsz : (sz : Int) ≤ 16777216 := by omega
      go_wp2_with fail
      refine (rint_any sm (by omega) (by omega) _).mono ?_
      rintro e w3 ⟨rfl, q3⟩
      rw [from_iV]
      have HLL : Hid (sizeL L ≤ 2 ^ 24) := by show sizeL L ≤ 2 ^ 24; rw [HL.out.2.2.1]; exact hb3
      have HLe : Hid ((L.map iV).length = L0.length) := by show (L.map iV).length = L0.length; rw [List.length_map, HL.out.1]
      have HBd : Hid (∀ z ∈ L.map iV, z < 4294967296) := fun z hz => by
        obtain ⟨y, _, rfl⟩ := List.mem_map.1 hz
        exact iV_lt y
      have HV1 : Hid (leftV (L.map iV) = iV sm) := by have := left_iV HLL.out; rw [HL.out.2.1] at this; exact this
      have HV2 : Hid (pairsV (L.map iV) = iV sm) := by have := pairs_iV HLL.out; rw [HL.out.2.1] at this; exact this
      have HV3 : Hid (kahV (L.map iV) = iV sm) := by have := kah_iV HLL.out; rw [HL.out.2.1] at this; exact this
      have HV4 : Hid (sumV (L.map iV) 1 = iV sm) := by have := sumV_iV (L := L) (mem_size HLL.out); rw [HL.out.2.1] at this; exact this
      have HS3 : Hid (USl w3 v (L.map iV)) := own_usl2 (own_next HO.out q3) HLe.out
      have HQ3 : Hid (Q w1 w3) := HQ.out.trans q3
      clear q3 HO HQ
      generalize iV sm = E at *
      obtain ⟨av, cv, hv⟩ := HS3.out.form
      rw [HLe.out] at hv
      subst hv
      go_wp2_with fail
      refine (left_any _ (L.map iV) _ HS3.out (by rw [HLe.out]; omega)).mono ?_
      rintro e w4 ⟨rfl, q4⟩
      rw [HV1.out]
      have HS4 : Hid (USl w4 (.slice av L0.length cv) (L.map iV)) := HS3.out.next q4
      have HQ4 : Hid (Q w1 w4) := HQ3.out.trans q4
      clear q4 HS3 HQ3
      go_wp2_with fail
      refine (pairs_any _ _ (L.map iV) _ (Nat.le_refl _) HS4.out (by rw [HLe.out]; omega)).mono ?_
      rintro e w5 ⟨rfl, q5⟩
      rw [HV2.out]
      have HS5 : Hid (USl w5 (.slice av L0.length cv) (L.map iV)) := HS4.out.next q5
      have HQ5 : Hid (Q w1 w5) := HQ4.out.trans q5
      clear q5 HS4 HQ4
      go_wp2_with fail
      refine (kahan_any _ (L.map iV) _ HS5.out (by rw [HLe.out]; omega)).mono ?_
      rintro e w6 ⟨rfl, q6⟩
      rw [HV3.out]
      have HS6 : Hid (USl w6 (.slice av L0.length cv) (L.map iV)) := HS5.out.next q6
      have HQ6 : Hid (Q w1 w6) := HQ5.out.trans q6
      clear q6 HS5 HQ5
      go_wp2_with fail
      refine (exact_any0 _ (L.map iV) _ HS6.out (getD_lt_all HBd.out) (by rw [HLe.out]; omega) ((HQ1.out.trans HQ6.out).tab HT.out)).mono ?_
      rintro e w7 ⟨rfl, q7⟩
      rw [HV4.out]
      have HQ7 : Hid (Q w w7) := HQ1.out.trans (HQ6.out.trans q7)
      clear q7 HS6 HQ6 HV1 HV2 HV3 HV4 HQ1
      have hand : bits .and .u32 (x : Int) 2147483647 = ((x % 2147483648 : Nat) : Int) := and31u x hx
      by_cases hbig : 2139095040 ≤ x % 2147483648
      · have hbig' : (2139095040 : Int) ≤ ((x % 2147483648 : Nat) : Int) := by omega
        generalize ((x % 2147483648 : Nat) : Int) = xm at *
        go_wp2_with fail
        go_ret
        exact ⟨rfl, HQ7.out⟩
      · have hbig' : ¬ (2139095040 : Int) ≤ ((x % 2147483648 : Nat) : Int) := by omega
        have HX : Hid (rung32 x < 2139095040) := by show x % 2147483648 < 2139095040; omega
        generalize ((x % 2147483648 : Nat) : Int) = xm at *
        clear hbig
        go_wp2_with fail
        clear hand hbig' hsz hge hb1 hb2 hb3 hm hm' HL HLL HLe HBd HL0
        go_loopg [9, 13, 14, 15, 16] W0.length (fun gh s9 s13 s14 s15 s16 wr => ∃ (i : Nat) (W : List Int) (al : Int) (sz : Nat) (vr vw : Value), s9 = .int .i64 (sz : Int) ∧ s13 = .int .i64 al ∧ s14 = vr ∧ s15 = vw ∧ s16 = .int .i64 (i : Int) ∧ i ≤ W0.length ∧ gh = W0.length - i ∧ -131072000 ≤ al ∧ al ≤ 131072000 ∧ sz ≤ 131072000 ∧
          Hid (W.length = i ∧ W.sum = al ∧ sizeL W = sz ∧ sz ≤ 65536 * i ∧ ∀ y ∈ W, y.natAbs ≤ 65536) ∧ Hid (wr.ownsRow w7.heap.size 3 1 vw i (newsI W) ∧ wr.ownsRow w7.heap.size 23 1 vr i (newsU (List.replicate i x)) ∧ ∀ B, vr.ownBlock = some B → vw.ownBlock ≠ some B) ∧ Hid (Q w7 wr))
        case atStart => exact ⟨0, [], 0, 0, .slice none 0 0, .slice none 0 0, rfl, rfl, rfl, rfl, rfl, Nat.zero_le _, rfl, by omega, by omega, by omega, ⟨rfl, rfl, rfl, by omega, fun _ h => by cases h⟩, ⟨⟨rfl, Or.inl ⟨rfl, rfl⟩⟩, ⟨rfl, Or.inl ⟨rfl, rfl⟩⟩, fun B h => by cases h⟩, Q.refl _⟩
        case round =>
          obtain ⟨i, W, al', sz', vr, vw, rfl, rfl, hv14, hv15, rfl, hi, rfl, hb1, hb2, hb3, HL, HO, HQ⟩ := hrel
          replace hv14 := hv14.symm
          subst hv14
          replace hv15 := hv15.symm
          subst hv15
          by_cases hlt : i < W0.length
          · obtain ⟨g1, o1, cap1, hsl, hI1⟩ := HW0.out.some (by omega)
            injection hsl with hs1 hs2 hs3
            subst hs1 hs3
            clear hs2
            have c1 := (HQ7.out.trans HQ.out).cell (hI1 i hlt)
            generalize W0.getD i 0 = y at *
            have hlt' : (i : Int) < (W0.length : Int) := by omega
            clear hI1
            go_wp2_with fail
            refine (place_any y 131072 (by decide) (by decide) _).mono ?_
            rintro e wr' ⟨p, rfl, hp, hw⟩
            subst hw
            obtain ⟨u, e5⟩ : ∃ u : Int, (p : Int) - 65536 = u := ⟨_, rfl⟩
            have hu1 : -65536 ≤ u := by omega
            have hu2 : u < 65536 := by omega
            obtain ⟨a, ha, e6, ha2⟩ : ∃ a : Nat, a ≤ 65536 ∧ max u (-u) = (a : Int) ∧ a = u.natAbs := ⟨u.natAbs, by omega, by omega, rfl⟩
            have HA : Hid (a = u.natAbs) := ha2
            clear ha2
            go_wp2_with (at_builtin; first | refine wpList_addI (wr'.alloc (.cells #[.int .i64 u] 3)) w7 (HQ.out.cells _ _) rfl (.tmp 109) (.tmp 111) rfl vw i W (by simp [Act.eval, Act.put]) (World.ownsRow.alloc HO.out.1 _) wr'.heap.size u (by simp [Act.eval, Act.put]) (cell_fresh wr' _ _) (by omega) ?_; intro g4 cap4 w4 hO4 hQ4 hB4; have HO4 : Hid (w4.ownsRow w7.heap.size 3 1 (.slice (some ⟨g4, 0, none⟩) (i + 1) cap4) (i + 1) (newsI (W ++ [u]))) := hO4; have HQ4 : Hid (Q w7 w4) := hQ4; have HB4 : Hid (w4.ownsRow w7.heap.size 23 1 vr i (newsU (List.replicate i x)) ∧ vr.ownBlock ≠ some g4) := other_kept (World.ownsRow.alloc HO.out.2.1 _) HO.out.2.2 hB4; clear hO4 hQ4 hB4 | refine wpList_addG (w4.alloc (.cells #[.int .u32 (x : Int)] 23)) w7 (HQ4.out.cells _ _) rfl (.tmp 113) (.tmp 115) rfl vr i (List.replicate i x) (by simp [Act.eval, Act.put]) (World.ownsRow.alloc HB4.out.1 _) w4.heap.size x (by simp [Act.eval, Act.put]) (cell_fresh w4 _ _) (by omega) ?_; intro g6 cap6 w6 hO6 hQ6 hB6; have HO6 : Hid (w6.ownsRow w7.heap.size 23 1 (.slice (some ⟨g6, 0, none⟩) (i + 1) cap6) (i + 1) (newsU (List.replicate i x ++ [x]))) := hO6; have HQ6 : Hid (Q w7 w6) := hQ6; have HB6 : Hid (w6.ownsRow w7.heap.size 3 1 (.slice (some ⟨g4, 0, none⟩) (i + 1) cap4) (i + 1) (newsI (W ++ [u])) ∧ Value.ownBlock (.slice (some ⟨g4, 0, none⟩) (i + 1) cap4) ≠ some g6) := other_kept (World.ownsRow.alloc HO4.out _) (fun B h => by cases h; exact HB4.out.2) hB6; clear hO6 hQ6 hB6)
            have HN : Hid ((W ++ [u]).length = i + 1 ∧ (W ++ [u]).sum = al' + u ∧ sizeL (W ++ [u]) = sz' + a ∧ sz' + a ≤ 65536 * (i + 1) ∧ ∀ y ∈ W ++ [u], y.natAbs ≤ 65536) := ⟨by rw [List.length_append, HL.out.1]; rfl, by rw [List.sum_append, HL.out.2.1]; simp, by rw [sizeL_app, HL.out.2.2.1, HA.out]; simp [sizeL], by have := HL.out.2.2.2.1; omega, fun z hz => by
              rcases List.mem_append.1 hz with hz | hz
              · exact HL.out.2.2.2.2 z hz
              · rw [List.mem_singleton.1 hz, ← HA.out]; exact ha⟩
            have HM : Hid (List.replicate (i + 1) x = List.replicate i x ++ [x]) := List.replicate_succ'
            have hss := sum_size (W ++ [u])
            rw [HN.out.2.1, HN.out.2.2.1] at hss
            have hsz := HN.out.2.2.2.1
            have hsb1 : -131072000 ≤ al' + u := by omega
            have hsb2 : al' + u ≤ 131072000 := by omega
            have hsb3 : sz' + a ≤ 131072000 := by omega
            clear hss hsz
            go_wp2_with fail
            go_roundg (W0.length - (i + 1))
            case measure => go_light; omega
            case rel => go_light; exact ⟨i + 1, W ++ [u], al' + u, sz' + a, _, _, by simp, rfl, rfl, rfl, by simp, by omega, rfl, hsb1, hsb2, hsb3, HN, ⟨HB6.out.1, by rw [HM.out]; exact HO6.out, fun B h => by cases h; exact HB6.out.2⟩, HQ6⟩
          · obtain rfl : i = W0.length := by omega
            have hge : ¬ (W0.length : Int) < (W0.length : Int) := by omega
            have hsz : ¬ (268435456 : Int) < (sz' : Int) := by omega
            have HSr : Hid (USl wr vr (List.replicate W0.length x)) := own_usl2 HO.out.2.1 (by simp)
            have HSw : Hid (ISl wr vw W) := own_isl HO.out.1 HL.out.1
            obtain ⟨ar, cr, hv⟩ := HSr.out.form
            rw [List.length_replicate] at hv
            subst hv
            obtain ⟨av2, cv2, hv⟩ := HSw.out.form
            rw [HL.out.1] at hv
            subst hv
            have HD0 : Hid (dotE W (List.replicate W0.length x) = 0) := by
              show dotE W (List.replicate W0.length x) = 0
              unfold dotE
              rw [List.length_replicate, if_neg (by rw [HL.out.1]; simp), if_pos ((fewB_iff W).2 (fun i hi => by
                have := HL.out.2.2.2.2 (W.getD i 0) (by rw [List.getD_eq_getElem?_getD, List.getElem?_eq_getElem hi]; exact List.getElem_mem hi)
                omega))]
            have HDA : Hid (IsD (sampleZ x) al' (dotA W (List.replicate W0.length x))) := by
              show IsD (sampleZ x) al' (dotA W (List.replicate W0.length x))
              unfold dotA
              rw [if_pos HD0.out]
              have := dot_D HX.out (W := W) (by rw [HL.out.2.2.1]; omega) (fun y hy => by have := HL.out.2.2.2.2 y hy; omega)
              rw [HL.out.1, HL.out.2.1] at this
              exact this
            have HXn : Hid (IsD (sampleZ x) al' (dotA W (List.replicate W0.length x)) → True) := fun _ => trivial
            clear HXn
            go_wp2_with fail
            refine (dot64_all _ _ W (List.replicate W0.length x) _ HSw.out HSr.out (by simp; omega) (by rw [HL.out.1]; omega) (getD_lt_all (fun z hz => by rw [List.eq_of_mem_replicate hz]; exact hx))).mono ?_
            rintro e w8 ⟨rfl, q8⟩
            rw [HD0.out]
            have HQ8 : Hid (Q w w8) := HQ7.out.trans (HQ.out.trans q8)
            generalize dotA W (List.replicate W0.length x) = Y at *
            clear q8 HQ HO HSr HSw HL HD0 HQ7
            by_cases hneg : al' < 0
            · obtain ⟨n, e7⟩ : ∃ n : Nat, -al' = (n : Int) := ⟨(-al').toNat, by omega⟩
              have hn4 : n < 4294967296 := by omega
              have HNA : Hid (al'.natAbs = n ∧ decide (al' < 0) = true) := ⟨by omega, decide_eq_true hneg⟩
              go_wp2_with fail
              refine (f32_any _).mono ?_
              rintro e w9 ⟨rfl, q9⟩
              have HQ9 : Hid (Q w w9) := HQ8.out.trans q9
              clear q9 HQ8
              go_wp2_with fail
              refine (of_fin2 hx HX.out _).mono ?_
              rintro e wa ⟨pa, La, Ca, rfl, hN, qa⟩
              have HQa : Hid (Q w wa) := HQ9.out.trans qa
              have HN : Hid (NatAt wa (.slice pa La Ca) (mag32 (rung32 x))) := hN
              clear qa HQ9 hN
              obtain ⟨ex, hex⟩ : ∃ ex : Int, -149 + (plc32 (rung32 x) : Int) = ex := ⟨_, rfl⟩
              have HEX : Hid (-149 + (plc32 (rung32 x) : Int) = ex) := hex
              rw [hex]
              clear hex
              obtain ⟨sx, hsx⟩ : ∃ sx, sgn32 x = sx := ⟨_, rfl⟩
              have HSX : Hid (sgn32 x = sx) := hsx
              rw [hsx]
              clear hsx
              go_wp2_with fail
              refine regionWh (wa := wa) (b := wa.heap.size) (mg := mag32 (rung32 x)) (n := n) (pa := pa) (La := La) (Ca := Ca) (sx := sx) (ng := true) (e := ex) rfl rfl rfl rfl rfl hn4 (Nat.le_refl _) HN.out (lt_cap (k := 24) (mag_lt32 _) (by decide)) ((Q.refl wa).cells _ _) (alloc_cell wa _ _ 0) (alloc_cell wa _ _ 1) (alloc_cell wa _ _ 2) (alloc_cell wa _ _ 3) (alloc_cell wa _ _ 4) (fun k => alloc_frozen wa _ _ k) ?_
              intro wb p4 L4 C4 qb hNb d0 d1 d2 d3 d4
              rw [normWh]
              have HQb : Hid (Q w wb) := HQa.out.trans qb
              have HNum : Hid (NumAt wb (.agg #[.int .i64 2, .bool (sx != true), .slice p4 L4 C4, .int .i64 ex, .bool false]) (.fin (sx != true) (mag32 (rung32 x) * n) ex false)) := ⟨_, rfl, hNb⟩
              have HFit : Hid (fitsD (.fin (sx != true) (mag32 (rung32 x) * n) ex false)) := fit_prod hn4 HEX.out HX.out
              have HV : Hid (IsD (sampleZ x) al' (roundD (.fin (sx != true) (mag32 (rung32 x) * n) ex false))) := round_D HEX.out HSX.out HNA.out
              have SF : Hid (∀ u : QW wb, Calls Tryd.prog 31 #[] u.x fun e w' => e = .returned (.agg #[.int .i64 52, .int .i64 11]) ∧ Q u.x w') := fun u => f64_any u.x
              have SR : Hid (∀ u : QW wb, Calls Tryd.prog 32 #[.agg #[.int .i64 52, .int .i64 11], .agg #[.int .i64 2, .bool (sx != true), .slice p4 L4 C4, .int .i64 ex, .bool false]] u.x fun e1 w' => e1 = .returned (.int .u64 (roundD (.fin (sx != true) (mag32 (rung32 x) * n) ex false) : Int)) ∧ Q u.x w') := fun u => round64_any _ _ u.x (u.q.num HNum.out) HFit.out
              generalize roundD (.fin (sx != true) (mag32 (rung32 x) * n) ex false) = V at *
              generalize (sx != true) = sb at *
              clear HNum HFit HN HQa hNb qb
              have j0 := qw_cell d0
              have j1 := qw_cell d1
              have j2 := qw_cell d2
              have j3 := qw_cell d3
              have j4 := qw_cell d4
              have n0 := qw_some wb
              have HS : Hid (Y = V ∨ (Y % 9223372036854775808 = 0 ∧ V % 9223372036854775808 = 0)) := HDA.out.same HV.out
              have eY : bits .and .u64 (Y : Int) 9223372036854775807 = ((Y % 9223372036854775808 : Nat) : Int) := and63u Y HDA.out.1
              have eV : bits .and .u64 (V : Int) 9223372036854775807 = ((V % 9223372036854775808 : Nat) : Int) := and63u V HV.out.1
              go_wp2_with fail
              refine wp_region_quiet_Q (by kernel_rfl) (by kernel_rfl) ?_
              repeat (first | go_big_quiet_step (first | (go_at_call 31; exact calls_qw (SF.out _)) | (go_at_call 32; exact calls_qw (SR.out _))) | quiet_step (first | (go_at_call 31; exact calls_qw (SF.out _)) | (go_at_call 32; exact calls_qw (SR.out _))))
              refine wpQuiet_nil ?_
              intro wc hw'
              have HQc : Hid (Q w wc) := HQb.out.trans (qw_out hw')
              clear hw' n0 j0 j1 j2 j3 j4 d0 d1 d2 d3 d4 SF SR
              by_cases hYV : Y = V
              · have hYV' : ((Y : Int) == (V : Int)) = true := by rw [hYV]; simp
                go_wp2_with fail
                go_ret
                exact ⟨by first | rfl | simp, HQc.out⟩
              · have hYV' : ((Y : Int) == (V : Int)) = false := by simp; omega
                obtain ⟨hz1, hz2⟩ := HS.out.resolve_left hYV
                rw [hz1] at eY
                rw [hz2] at eV
                clear hz1 hz2
                go_wp2_with fail
                go_ret
                exact ⟨by first | rfl | simp, HQc.out⟩
            · obtain ⟨n, e7⟩ : ∃ n : Nat, al' = (n : Int) := ⟨al'.toNat, by omega⟩
              have hn4 : n < 4294967296 := by omega
              have HNA : Hid (al'.natAbs = n ∧ decide (al' < 0) = false) := ⟨by omega, decide_eq_false hneg⟩
              subst e7
              go_wp2_with fail
              refine (f32_any _).mono ?_
              rintro e w9 ⟨rfl, q9⟩
              have HQ9 : Hid (Q w w9) := HQ8.out.trans q9
              clear q9 HQ8
              go_wp2_with fail
              refine (of_fin2 hx HX.out _).mono ?_
              rintro e wa ⟨pa, La, Ca, rfl, hN, qa⟩
              have HQa : Hid (Q w wa) := HQ9.out.trans qa
              have HN : Hid (NatAt wa (.slice pa La Ca) (mag32 (rung32 x))) := hN
              clear qa HQ9 hN
              obtain ⟨ex, hex⟩ : ∃ ex : Int, -149 + (plc32 (rung32 x) : Int) = ex := ⟨_, rfl⟩
              have HEX : Hid (-149 + (plc32 (rung32 x) : Int) = ex) := hex
              rw [hex]
              clear hex
              obtain ⟨sx, hsx⟩ : ∃ sx, sgn32 x = sx := ⟨_, rfl⟩
              have HSX : Hid (sgn32 x = sx) := hsx
              rw [hsx]
              clear hsx
              go_wp2_with fail
              refine regionWh (wa := wa) (b := wa.heap.size) (mg := mag32 (rung32 x)) (n := n) (pa := pa) (La := La) (Ca := Ca) (sx := sx) (ng := false) (e := ex) rfl rfl rfl rfl rfl hn4 (Nat.le_refl _) HN.out (lt_cap (k := 24) (mag_lt32 _) (by decide)) ((Q.refl wa).cells _ _) (alloc_cell wa _ _ 0) (alloc_cell wa _ _ 1) (alloc_cell wa _ _ 2) (alloc_cell wa _ _ 3) (alloc_cell wa _ _ 4) (fun k => alloc_frozen wa _ _ k) ?_
              intro wb p4 L4 C4 qb hNb d0 d1 d2 d3 d4
              rw [normWh]
              have HQb : Hid (Q w wb) := HQa.out.trans qb
              have HNum : Hid (NumAt wb (.agg #[.int .i64 2, .bool (sx != false), .slice p4 L4 C4, .int .i64 ex, .bool false]) (.fin (sx != false) (mag32 (rung32 x) * n) ex false)) := ⟨_, rfl, hNb⟩
              have HFit : Hid (fitsD (.fin (sx != false) (mag32 (rung32 x) * n) ex false)) := fit_prod hn4 HEX.out HX.out
              have HV : Hid (IsD (sampleZ x) (n : Int) (roundD (.fin (sx != false) (mag32 (rung32 x) * n) ex false))) := round_D HEX.out HSX.out HNA.out
              have SF : Hid (∀ u : QW wb, Calls Tryd.prog 31 #[] u.x fun e w' => e = .returned (.agg #[.int .i64 52, .int .i64 11]) ∧ Q u.x w') := fun u => f64_any u.x
              have SR : Hid (∀ u : QW wb, Calls Tryd.prog 32 #[.agg #[.int .i64 52, .int .i64 11], .agg #[.int .i64 2, .bool (sx != false), .slice p4 L4 C4, .int .i64 ex, .bool false]] u.x fun e1 w' => e1 = .returned (.int .u64 (roundD (.fin (sx != false) (mag32 (rung32 x) * n) ex false) : Int)) ∧ Q u.x w') := fun u => round64_any _ _ u.x (u.q.num HNum.out) HFit.out
              generalize roundD (.fin (sx != false) (mag32 (rung32 x) * n) ex false) = V at *
              generalize (sx != false) = sb at *
              clear HNum HFit HN HQa hNb qb
              have j0 := qw_cell d0
              have j1 := qw_cell d1
              have j2 := qw_cell d2
              have j3 := qw_cell d3
              have j4 := qw_cell d4
              have n0 := qw_some wb
              have HS : Hid (Y = V ∨ (Y % 9223372036854775808 = 0 ∧ V % 9223372036854775808 = 0)) := HDA.out.same HV.out
              have eY : bits .and .u64 (Y : Int) 9223372036854775807 = ((Y % 9223372036854775808 : Nat) : Int) := and63u Y HDA.out.1
              have eV : bits .and .u64 (V : Int) 9223372036854775807 = ((V % 9223372036854775808 : Nat) : Int) := and63u V HV.out.1
              go_wp2_with fail
              refine wp_region_quiet_Q (by kernel_rfl) (by kernel_rfl) ?_
              repeat (first | go_big_quiet_step (first | (go_at_call 31; exact calls_qw (SF.out _)) | (go_at_call 32; exact calls_qw (SR.out _))) | quiet_step (first | (go_at_call 31; exact calls_qw (SF.out _)) | (go_at_call 32; exact calls_qw (SR.out _))))
              refine wpQuiet_nil ?_
              intro wc hw'
              have HQc : Hid (Q w wc) := HQb.out.trans (qw_out hw')
              clear hw' n0 j0 j1 j2 j3 j4 d0 d1 d2 d3 d4 SF SR
              by_cases hYV : Y = V
              · have hYV' : ((Y : Int) == (V : Int)) = true := by rw [hYV]; simp
                go_wp2_with fail
                go_ret
                exact ⟨by first | rfl | simp, HQc.out⟩
              · have hYV' : ((Y : Int) == (V : Int)) = false := by simp; omega
                obtain ⟨hz1, hz2⟩ := HS.out.resolve_left hYV
                rw [hz1] at eY
                rw [hz2] at eV
                clear hz1 hz2
                go_wp2_with fail
                go_ret
                exact ⟨by first | rfl | simp, HQc.out⟩
end Go.Proofs.YtnjagokojdpgpabDoor

/- stat: lists without NaNs, spans of lists, tallies. -/
import Derived.Test.YtieojgblamkgoaaGreatDoorGba4db751
import Derived.Test.YtieojgblamkgoaaGreatDoorG61ebc7cf
import Derived.Test.YtieojgblamkgoaaGreatDoorGc2adee94
import Derived.Test.YtieojgblamkgoaaGreatDoorGb748240f
import Derived.Test.YtieojgblamkgoaaGreatDoorGd2caa4b3
namespace Go.Proofs.YtieojgblamkgoaaGreatDoor
open Go.RowKit
set_option linter.unusedVariables false
set_option linter.unusedSimpArgs false

theorem take_snocS {S : List Nat} {i : Nat} (h : i < S.length) : S.take (i + 1) = S.take i ++ [S.getD i 0] := by
  rw [List.getD_eq_getElem?_getD, List.getElem?_eq_getElem h, List.take_add_one, List.getElem?_eq_getElem h]
  rfl
theorem make_u0 (n : Nat) (hn : n ≤ 1048576) (w : World) : ∃ M : Array Value, (Instr.makeSlice 24 (.int .i64 0) (.int .i64 (n : Int))).run Tryz.prog w = .ok (.slice (some ⟨w.heap.size, 0, none⟩) 0 n) (w.alloc (.cells M 43)) ∧ OwnR w (w.alloc (.cells M 43)) (.slice (some ⟨w.heap.size, 0, none⟩) 0 n) [] := by
  obtain ⟨i, i1, i2, i3, i4⟩ := u32InfoV
  refine ⟨madeCells (Value.int .u32 0).cells (n * 1), ?_, ⟨rfl, Or.inr ⟨w.heap.size, n, _, rfl, Nat.le_refl _, heap_alloc_new w _, Nat.zero_le _, by unfold maxLen; omega, by rw [size_madeCells], by simp [newsR]⟩⟩, (Q.refl w).cells _ _⟩
  have := run_make (P := Tryz.prog) w 24 43 i _ Tryz.underlying24 i1 i4 .i64 .i64 0 n (by omega) (by omega) (by rw [i3]; omega) (by omega)
  rw [i2] at this
  simp only [Int.toNat_natCast] at this
  exact this
theorem numL_snoc (L : List Nat) (s : Nat) : numL (L ++ [s]) = numL L ++ cond (nanN s) [] [s] := by
  rw [numL_append]
  congr 1
  unfold numL
  rw [List.filter_cons]
  cases nanN s <;> rfl
theorem numL_len (L : List Nat) : (numL L).length ≤ L.length := by unfold numL; exact List.length_filter_le _ _
set_option maxHeartbeats 4000000 in
set_option maxRecDepth 100000 in
theorem wnan_any (v : Value) (S : List Nat) (w : World) (hv : USl w v S) (hb : ∀ i, S.getD i 0 < 4294967296) (hn : S.length ≤ 65536) :
    Calls Tryz.prog 67 #[v] w fun e w' => ∃ u, e = .returned u ∧ USl w' u (numL S) ∧ (∀ g o c, u = .slice (some ⟨g, o, none⟩) (numL S).length c → w.heap.size ≤ g) ∧ Q w w' := by
  obtain ⟨ad, cap, rfl⟩ := hv.form
  obtain ⟨M, hM, hO⟩ := make_u0 S.length (by omega) w
  have HV : Hid (USl w (.slice ad S.length cap) S) := hv
  have HB : Hid (∀ i, S.getD i 0 < 4294967296) := hb
  have HO : Hid (OwnR w (w.alloc (.cells M 43)) (.slice (some ⟨w.heap.size, 0, none⟩) 0 S.length) []) := hO
  have HE : Hid (S.take S.length = S) := List.take_of_length_le (Nat.le_refl _)
  clear hv hb hO
  go_enter Tryz.func67, Tryz.ntmps67
  go_wp2_with fail
  generalize w.alloc (.cells M 43) = w1 at *
  go_loopg [3, 11] (S.length) (fun gh s3 s11 wr => ∃ (u : Value) (i : Nat), u = s3 ∧ s11 = .int .i64 (i : Int) ∧ i ≤ S.length ∧ gh = S.length - i ∧ Hid (OwnR w wr u (numL (S.take i))))
  case atStart => exact ⟨_, 0, rfl, rfl, by omega, rfl, HO⟩
  case round =>
    obtain ⟨u, i, rfl, rfl, hi, rfl, HR⟩ := hrel
    by_cases hlt : i < S.length
    · obtain ⟨g, o, cap', hsl, hcap, hI⟩ := HV.out.some (by omega)
      injection hsl with hs1 hs2 hs3
      subst hs1 hs3
      clear hs2
      have hx := HB.out i
      have hc := HR.out.2.cell (hI i hlt)
      have HT : Hid (numL (S.take (i + 1)) = numL (S.take i) ++ cond (nanN (S.getD i 0)) [] [S.getD i 0]) := by
        show numL (S.take (i + 1)) = _
        rw [take_snocS hlt, numL_snoc]
      have hl1 : (numL (S.take i)).length + 1 ≤ 100000 := by
        have h1 := numL_len (S.take i)
        rw [List.length_take] at h1
        omega
      generalize S.getD i 0 = x at *
      generalize numL (S.take i) = l1 at *
      clear hI hcap
      cases hk : nanN x
      · rw [hk] at HT
        go_wp2_with fail
        refine (isnan_any x hx _).mono ?_
        rintro e w3 ⟨rfl, q3⟩
        have HR3 : Hid (OwnR w w3 u l1) := HR.out.next q3
        rw [hk]
        obtain ⟨w6, hw6⟩ : ∃ w6, w3.alloc (.cells #[.int .u32 (x : Int)] 43) = w6 := ⟨_, rfl⟩
        have o6 := HR3.out.next (show Q w3 w6 by rw [← hw6]; exact (Q.refl w3).cells _ _)
        have c6 : w6.cell? ⟨w3.heap.size, 0, none⟩ = some (.int .u32 (x : Int)) := by rw [← hw6]; simp [go_sem]
        have HO6 : Hid _ := And.intro o6 c6
        clear o6 c6
        clear HR HR3
        go_wp2_with (at_builtin; go_must (refine wpList_addR _ w rfl _ _ rfl u l1 rfl HO6.out.1 w3.heap.size x rfl HO6.out.2 (by omega) ?_))
        intro v' w7 ho7
        have HO7 : Hid (OwnR w w7 v' (numL (S.take (i + 1)))) := by
          show OwnR w w7 v' (numL (S.take (i + 1)))
          rw [HT.out]; exact ho7
        clear ho7 hw6 HO6
        go_wp2_with fail
        go_roundg (S.length - (i + 1))
        case measure => go_light; omega
        case rel => go_light; exact ⟨v', i + 1, rfl, by simp, by omega, rfl, HO7⟩
      · rw [hk] at HT
        go_wp2_with fail
        refine (isnan_any x hx _).mono ?_
        rintro e w3 ⟨rfl, q3⟩
        have hr3 := HR.out.next q3
        rw [show l1 = numL (S.take (i + 1)) by rw [HT.out, cond_true, List.append_nil]] at hr3
        have HR3 : Hid _ := hr3
        clear hr3
        rw [hk]
        go_wp2_with fail
        go_roundg (S.length - (i + 1))
        case measure => go_light; omega
        case rel => go_light; exact ⟨u, i + 1, rfl, by simp, by omega, rfl, HR3⟩
    · obtain rfl : i = S.length := by omega
      have hge : ¬ (S.length : Int) < (S.length : Int) := by omega
      go_wp2_with fail
      go_ret
      refine ⟨_, rfl, ?_, ?_, HR.out.2⟩
      · have := HR.out.usl
        rw [HE.out] at this
        exact this
      · intro g o c e
        subst e
        rcases HR.out.1.2 with ⟨e, _⟩ | ⟨g', c', cur, e, hg, _⟩
        · cases e
        · injection e with e
          injection e with e
          injection e with e
          omega
/-- The least and the greatest key of a list. -/
def lowA (L : List Nat) : Nat := L.foldl (fun m s => min m (keyN s)) 4294967295
def topA (L : List Nat) : Nat := L.foldl (fun m s => max m (keyN s)) 0
theorem lowA_snoc (L : List Nat) (s : Nat) : lowA (L ++ [s]) = min (lowA L) (keyN s) := by unfold lowA; rw [List.foldl_append]; rfl
theorem topA_snoc (L : List Nat) (s : Nat) : topA (L ++ [s]) = max (topA L) (keyN s) := by unfold topA; rw [List.foldl_append]; rfl
set_option maxHeartbeats 4000000 in
set_option maxRecDepth 100000 in
theorem spanof_any (v : Value) (S : List Nat) (w : World) (hv : USl w v S) (hb : ∀ i, S.getD i 0 < 4294967296) (hn : S.length ≤ 65536) :
    Calls Tryz.prog 70 #[v] w fun e w' => e = .returned (spnV (lowA S) (topA S)) ∧ Q w w' := by
  obtain ⟨ad, cap, rfl⟩ := hv.form
  have HE : Hid (S.take S.length = S) := List.take_of_length_le (Nat.le_refl _)
  obtain ⟨w1, hw1⟩ : ∃ w1, w.alloc (.cells #[.int .u32 0, .int .u32 0] 74) = w1 := ⟨_, rfl⟩
  have q1 : Q w w1 := by rw [← hw1]; exact (Q.refl w).cells _ _
  have z0 : w1.cell? ⟨w.heap.size, 0, none⟩ = some (.int .u32 0) := by rw [← hw1]; simp [go_sem]
  have z1 : w1.cell? ⟨w.heap.size, 1, none⟩ = some (.int .u32 0) := by rw [← hw1]; simp [go_sem]
  have zf : ∀ j, w1.frozen? ⟨w.heap.size, j, none⟩ = false := fun j => by rw [← hw1]; simp [go_sem]
  have hs1 : w1.heap.size = w.heap.size + 1 := by rw [← hw1]; simp [go_sem]
  have HV : Hid (USl w1 (.slice ad S.length cap) S) := hv.next q1
  have HW : Hid (USl w (.slice ad S.length cap) S) := hv
  have HB : Hid (∀ i, S.getD i 0 < 4294967296) := hb
  clear hv hb
  go_enter Tryz.func70, Tryz.ntmps70
  go_wp2_with fail
  clear hw1
  refine (nospan_any _).mono ?_
  rintro e w2 ⟨rfl, q2⟩
  unfold spnV
  obtain ⟨w3, hw3⟩ : ∃ w3, w2.alloc (.cells #[.int .u32 0, .int .u32 0] 74) = w3 := ⟨_, rfl⟩
  have q3 : Q w2 w3 := by rw [← hw3]; exact (Q.refl w2).cells _ _
  have y0 : w3.cell? ⟨w2.heap.size, 0, none⟩ = some (.int .u32 0) := by rw [← hw3]; simp [go_sem]
  have y1 : w3.cell? ⟨w2.heap.size, 1, none⟩ = some (.int .u32 0) := by rw [← hw3]; simp [go_sem]
  have yf : ∀ j, w3.frozen? ⟨w2.heap.size, j, none⟩ = false := fun j => by rw [← hw3]; simp [go_sem]
  go_wp2_with fail
  obtain ⟨B, hB⟩ : ∃ B, w2.heap.size = B := ⟨_, rfl⟩
  obtain ⟨A, hA⟩ : ∃ A, w.heap.size = A := ⟨_, rfl⟩
  have hq2 := q2.1.size
  rw [hB] at y0 y1 yf ⊢
  rw [hA] at z0 z1 zf hs1 ⊢
  have hAB : A < B := by omega
  have HX : Hid (∀ wr, Q w wr → wr.cell? ⟨A, 0, none⟩ = some (.int .u32 0) → wr.cell? ⟨A, 1, none⟩ = some (.int .u32 0) → ∀ a b c d : Nat, wr.cell? ⟨B, 0, none⟩ = some (.int .u32 (a : Int)) → wr.cell? ⟨B, 1, none⟩ = some (.int .u32 (b : Int)) →
      let z := (wr.setCell ⟨B, 0, none⟩ (.int .u32 (c : Int))).setCell ⟨B, 1, none⟩ (.int .u32 (d : Int))
      Q w z ∧ z.cell? ⟨A, 0, none⟩ = some (.int .u32 0) ∧ z.cell? ⟨A, 1, none⟩ = some (.int .u32 0) ∧ z.cell? ⟨B, 0, none⟩ = some (.int .u32 (c : Int)) ∧ z.cell? ⟨B, 1, none⟩ = some (.int .u32 (d : Int))) := by
    intro wr q a0 a1 a b c d b0 b1
    refine ⟨(q.set (by show w.heap.size ≤ B; omega) _).set (by show w.heap.size ≤ B; omega) _, ?_, ?_, by simp [go_sem, b0, b1], by simp [go_sem, b0, b1]⟩
    · rw [World.cell?_setCell_other _ _ _ _ (fun e => by injection e with e; omega), World.cell?_setCell_other _ _ _ _ (fun e => by injection e with e; omega)]; exact a0
    · rw [World.cell?_setCell_other _ _ _ _ (fun e => by injection e with e; omega), World.cell?_setCell_other _ _ _ _ (fun e => by injection e with e; omega)]; exact a1
  have HS0 := HX.out w3 ((q1.trans q2).trans q3) ((q2.trans q3).cell z0) ((q2.trans q3).cell z1) 0 0 4294967295 0 y0 y1
  have HF : Hid (∀ wr, Q w wr → ∀ j, wr.frozen? ⟨B, j, none⟩ = false) := fun wr q j => by rw [q.2, ← ((q1.trans q2).trans q3).2]; exact yf j
  have HFA : Hid (∀ wr, Q w wr → ∀ j, wr.frozen? ⟨A, j, none⟩ = false) := fun wr q j => by rw [q.2, ← q1.2]; exact zf j
  have HLA : Hid (w.heap.size ≤ A) := Nat.le_of_eq hA
  have HV0 : Hid (∀ wr, Q w wr → wr.cell? ⟨A, 0, none⟩ = some (.int .u32 0) → USl wr (.slice ad S.length cap) S) := fun wr q _ => HW.out.next q
  clear hw3 z0 z1 zf y0 y1 yf q1 q2 q3 hs1 hB hA HV hAB hq2
  generalize (w3.setCell ⟨B, 0, none⟩ (.int .u32 4294967295)).setCell ⟨B, 1, none⟩ (.int .u32 0) = w4 at *
  have HS0 : Hid _ := HS0
  go_loopg [10] (S.length) (fun gh s10 wr => ∃ i : Nat, s10 = .int .i64 (i : Int) ∧ i ≤ S.length ∧ gh = S.length - i ∧ Hid (Q w wr ∧ wr.cell? ⟨A, 0, none⟩ = some (.int .u32 0) ∧ wr.cell? ⟨A, 1, none⟩ = some (.int .u32 0) ∧ wr.cell? ⟨B, 0, none⟩ = some (.int .u32 (lowA (S.take i) : Nat)) ∧ wr.cell? ⟨B, 1, none⟩ = some (.int .u32 (topA (S.take i) : Nat))))
  case atStart => exact ⟨0, rfl, by omega, rfl, HS0.out⟩
  case round =>
    clear HS0
    obtain ⟨i, rfl, hi, rfl, HR⟩ := hrel
    by_cases hlt : i < S.length
    · obtain ⟨g, o, cap', hsl, hcap, hI⟩ := (HV0.out wr HR.out.1 HR.out.2.1).some (by omega)
      injection hsl with hs1 hs2 hs3
      subst hs1 hs3
      clear hs2
      have hx := HB.out i
      have hc := hI i hlt
      have HT1 : Hid (lowA (S.take (i + 1)) = min (lowA (S.take i)) (keyN (S.getD i 0))) := by
        show lowA (S.take (i + 1)) = _
        rw [take_snocS hlt, lowA_snoc]
      have HT2 : Hid (topA (S.take (i + 1)) = max (topA (S.take i)) (keyN (S.getD i 0))) := by
        show topA (S.take (i + 1)) = _
        rw [take_snocS hlt, topA_snoc]
      generalize S.getD i 0 = x at *
      have K := keyn_any x hx
      obtain ⟨a, ha⟩ : ∃ a, lowA (S.take i) = a := ⟨_, rfl⟩
      obtain ⟨b, hb⟩ : ∃ b, topA (S.take i) = b := ⟨_, rfl⟩
      rw [ha] at HR HT1
      rw [hb] at HR HT2
      generalize keyN x = k at *
      have HK : Hid (∀ w, Calls Tryz.prog 81 #[.int .u32 (x : Int)] w fun e w' => e = .returned (.int .u32 (k : Int)) ∧ w' = w) := K
      have b0 := HR.out.2.2.2.1
      have b1 := HR.out.2.2.2.2
      clear hI hcap K ha hb
      go_wp2_with fail
      refine (HK.out _).mono ?_
      rintro e w5 ⟨rfl, hw5⟩
      obtain rfl := hw5.symm
      clear hw5
      go_wp2_with fail
      refine (with_any a b k k _).mono ?_
      unfold spnV
      rintro e w6 ⟨rfl, q6⟩
      have b0 := q6.cell b0
      have b1 := q6.cell b1
      have hq := HR.out.1.trans q6
      have f6 := HF.out w6 hq
      have HN : Hid _ := HX.out w6 hq (q6.cell HR.out.2.1) (q6.cell HR.out.2.2.1) a b (min a k) (max b k) b0 b1
      rw [← HT1.out, ← HT2.out] at HN
      rw [← HT1.out, ← HT2.out]
      clear HR HT1 HT2 hq
      go_wp2_with fail
      go_roundg (S.length - (i + 1))
      case measure => go_light; omega
      case rel => go_light; exact ⟨i + 1, by simp, by omega, rfl, HN⟩
    · obtain rfl : i = S.length := by omega
      have hge : ¬ (S.length : Int) < (S.length : Int) := by omega
      rw [HE.out] at HR
      have b0 := HR.out.2.2.2.1
      have b1 := HR.out.2.2.2.2
      have a0 := HR.out.2.1
      have a1 := HR.out.2.2.1
      have fA := HFA.out wr HR.out.1
      go_wp2_with fail
      unfold spnV
      refine bodyPost_ret (v := .agg #[.int .u32 (lowA S : Nat), .int .u32 (topA S : Nat)]) (by simp [results, Tryz.results70, go_sem, a0, a1]) rfl ⟨rfl, ?_⟩
      exact (HR.out.1.set HLA.out _).set HLA.out _
end Go.Proofs.YtieojgblamkgoaaGreatDoor
/- stat: adding to a tally. -/
namespace Go.Proofs.YtieojgblamkgoaaGreatDoor
open Go.RowKit
set_option linter.unusedVariables false
set_option linter.unusedSimpArgs false

theorem clsC_take {b : Nat} {S : List Nat} {i : Nat} (h : i < S.length) (j : Nat) : clsC b (S.take (i + 1)) j = clsC b (S.take i) j + if clsN b (S.getD i 0) = j then 1 else 0 := by
  rw [take_snocS h, clsC_snoc]
set_option maxHeartbeats 4000000 in
set_option maxRecDepth 100000 in
theorem tadd_any (b H kc : Nat) (c : Nat → Nat) (v : Value) (S : List Nat) (w : World) (h1 : 1 ≤ b) (h2 : b ≤ 12) (hT : VR w H (2 ^ b) (fun j => .int .i64 (c j : Nat))) (hcap : 2 ^ b ≤ kc) (hcs : ∀ j, c j ≤ 35184372087808)
    (hv : USl w v S) (hg : ∀ g o cap, 0 < S.length → v = .slice (some ⟨g, o, none⟩) S.length cap → g ≠ H) (hb : ∀ i, S.getD i 0 < 4294967296) (hn : S.length ≤ 65536) :
    Calls Tryz.prog 69 #[talV b H kc, v] w fun e w' => e = .returned (.tuple #[]) ∧ VR w' H (2 ^ b) (fun j => .int .i64 ((c j + clsC b S j : Nat) : Int)) ∧ Fb H w w' := by
  obtain ⟨ad, cap, rfl⟩ := hv.form
  have HE : Hid (S.take S.length = S) := List.take_of_length_le (Nat.le_refl _)
  obtain ⟨w1, hw1⟩ : ∃ w1, w.alloc (.cells #[.int .i64 (b : Int), .slice (some ⟨H, 0, none⟩) (2 ^ b) kc] 72) = w1 := ⟨_, rfl⟩
  obtain ⟨A, hA⟩ : ∃ A, w.heap.size = A := ⟨_, rfl⟩
  have q1 : Q w w1 := by rw [← hw1]; exact (Q.refl w).cells _ _
  have z0 : w1.cell? ⟨A, 0, none⟩ = some (.int .i64 (b : Int)) := by rw [← hw1, ← hA]; simp [go_sem]
  have z1 : w1.cell? ⟨A, 1, none⟩ = some (.slice (some ⟨H, 0, none⟩) (2 ^ b) kc) := by rw [← hw1, ← hA]; simp [go_sem]
  have hp1 : 1 ≤ 2 ^ b := Nat.one_le_two_pow
  have hHA : H ≠ A := by have := hT.lt hp1; omega
  have HC : Hid (∀ s : Nat, s < 4294967296 → ∀ x : World, Calls Tryz.prog 85 #[.agg #[.int .i64 (b : Int), .slice (some ⟨H, 0, none⟩) (2 ^ b) kc], .int .u32 (s : Int)] x fun e w' => e = .returned (.int .i64 (clsN b s : Nat)) ∧ Q x w') := fun s hs x => scls_any b s h1 h2 hs H (2 ^ b) kc x
  have HL : Hid (∀ s : Nat, s < 4294967296 → clsN b s < 2 ^ b) := fun s hs => cls_lt h2 hs
  have HV : Hid (USl w (.slice ad S.length cap) S) := hv
  have HG : Hid _ := hg
  have HB : Hid (∀ i, S.getD i 0 < 4294967296) := hb
  have HN : Hid (∀ i j, c j + clsC b (S.take i) j ≤ 35184372087808 + 65536) := fun i j => by
    have e1 := clsC_le b (S.take i) j
    have e2 : (S.take i).length ≤ S.length := by rw [List.length_take]; omega
    have := hcs j
    omega
  have HS : Hid (∀ i, i < S.length → ∀ wr, VR wr H (2 ^ b) (fun j => .int .i64 ((c j + clsC b (S.take i) j : Nat) : Int)) → VR (wr.setCell ⟨H, clsN b (S.getD i 0), none⟩ (.int .i64 ((c (clsN b (S.getD i 0)) + clsC b (S.take i) (clsN b (S.getD i 0)) + 1 : Nat) : Int))) H (2 ^ b) (fun j => .int .i64 ((c j + clsC b (S.take (i + 1)) j : Nat) : Int))) := fun i hi wr hr => by
    refine hr.put (HL.out _ (HB.out i)) ?_ fun j hj hne => ?_
    · rw [clsC_take hi, if_pos rfl, Nat.add_assoc]
    · rw [clsC_take hi, if_neg (fun e => hne e.symm), Nat.add_zero]
  have H0 : Hid (VR w1 H (2 ^ b) (fun j => .int .i64 ((c j + clsC b (S.take 0) j : Nat) : Int)) ∧ Fb H w w1) := ⟨(hT.next q1).congr fun j _ => by rw [List.take_zero, clsC_nil]; rfl, q1.fb H⟩
  have HZ : Hid (∀ wr, Fb H w1 wr → wr.cell? ⟨A, 0, none⟩ = some (.int .i64 (b : Int)) ∧ wr.cell? ⟨A, 1, none⟩ = some (.slice (some ⟨H, 0, none⟩) (2 ^ b) kc)) := fun wr f => ⟨f.cell z0 (fun e => hHA e.symm), f.cell z1 (fun e => hHA e.symm)⟩
  have HQ1 : Hid (Q w w1) := q1
  clear hv hg hb hT hcs z0 z1 q1 h1 h2
  unfold talV
  generalize 2 ^ b = N at *
  go_enter Tryz.func69, Tryz.ntmps69
  go_wp2_with fail
  clear hw1
  go_loopg [8] (S.length) (fun gh s8 wr => ∃ i : Nat, s8 = .int .i64 (i : Int) ∧ i ≤ S.length ∧ gh = S.length - i ∧ Hid (VR wr H N (fun j => .int .i64 ((c j + clsC b (S.take i) j : Nat) : Int)) ∧ Fb H w1 wr))
  case atStart => exact ⟨0, rfl, by omega, rfl, H0.out.1, Fb.refl _ _⟩
  case round =>
    clear H0
    obtain ⟨i, rfl, hi, rfl, HR⟩ := hrel
    by_cases hlt : i < S.length
    · obtain ⟨g, o, cap', hsl, hcap', hI⟩ := HV.out.some (by omega)
      have HNe : Hid (g ≠ H) := HG.out g o cap' (by omega) hsl
      injection hsl with hs1 hs2 hs3
      subst hs1 hs3
      clear hs2
      have hx := HB.out i
      have hcl := HL.out _ hx
      have hc := HR.out.2.cell (HQ1.out.cell (hI i hlt)) HNe.out
      have hS := HS.out i hlt
      have hN := HN.out i (clsN b (S.getD i 0))
      have hK := HC.out _ hx
      have hcell := HR.out.1.cell _ hcl
      generalize S.getD i 0 = x at *
      obtain ⟨k, hk⟩ : ∃ k, clsN b x = k := ⟨_, rfl⟩
      rw [hk] at hS hN hK hcell hcl
      obtain ⟨m, hm⟩ : ∃ m, c k + clsC b (S.take i) k = m := ⟨_, rfl⟩
      rw [hm] at hS hN hcell
      have HSx : Hid _ := hS
      have HKx : Hid _ := hK
      clear hS hK hk hm hI hcap'
      have hz := HZ.out wr HR.out.2
      have d0 := qw_cell hz.1
      have d1 := qw_cell hz.2
      have dH := qw_cell hcell
      have n0 := qw_some wr
      have HKw : Hid (∀ n : QW wr, Calls Tryz.prog 85 #[.agg #[.int .i64 (b : Int), .slice (some ⟨H, 0, none⟩) N kc], .int .u32 (x : Int)] n.x fun e w' => e = .returned (.int .i64 (k : Int)) ∧ Q n.x w') := fun n => HKx.out n.x
      clear hz HKx
      go_wp2_with fail
      refine wp_lastR 9 rfl _ rfl (by kernel_rfl) (by kernel_rfl) (by kernel_rfl) ?_
      simp only [List.take_succ_cons, List.take_zero]
      repeat (first | go_big_quiet_step (first | (go_at_call 85; exact calls_qw (HKw.out _))) | quiet_step (first | (go_at_call 85; exact calls_qw (HKw.out _))))
      refine wpQuiet_nil ?_
      intro nn K hK
      have cN := nn.q.cell hcell
      have hrN := HR.out.1.next nn.q
      have HRN : Hid _ := HSx.out nn.x hrN
      have zN := hrN.free k
      have HFN : Hid (Fb H w1 (nn.x.setCell ⟨H, k, none⟩ (.int .i64 ((m + 1 : Nat) : Int)))) := (HR.out.2.trans (nn.q.fb H)).set rfl _
      clear d0 d1 dH n0 hrN HSx HKw
      go_wp2_with fail
      go_roundg (S.length - (i + 1))
      case measure => go_light; omega
      case rel => go_light; exact ⟨i + 1, by simp, by omega, rfl, HRN.out, HFN.out⟩
    · obtain rfl : i = S.length := by omega
      have hge : ¬ (S.length : Int) < (S.length : Int) := by omega
      rw [HE.out] at HR
      go_wp2_with fail
      refine bodyPost_end (results_none Tryz.results69 _ _ _) rfl ⟨rfl, HR.out.1, (HQ1.out.fb H).trans HR.out.2⟩
end Go.Proofs.YtieojgblamkgoaaGreatDoor
/- Numbers of five words: what they stand for. -/
namespace Go.Proofs.YtieojgblamkgoaaGreatDoor
open Go.RowKit
set_option linter.unusedVariables false
set_option linter.unusedSimpArgs false

theorem cyS_add (N T : Nat → Nat) : ∀ i, cyS addC N T i = cyV N T i := by
  intro i
  induction i with
  | zero => rfl
  | succ i ih => show addC _ _ _ = addC _ _ _; rw [ih]
theorem dgS_add (N T : Nat → Nat) : dgS addE addC N T = dgV N T := by
  funext i
  show addE _ _ _ = addE _ _ _
  rw [cyS_add]
theorem dgS_eq (sE sC : Nat → Nat → Nat → Nat) (N T : Nat → Nat) (i : Nat) : dgS sE sC N T i = sE (N i) (T i) (cyS sC N T i) := rfl
theorem cyS_eq (sC : Nat → Nat → Nat → Nat) (N T : Nat → Nat) (i : Nat) : cyS sC N T (i + 1) = sC (N i) (T i) (cyS sC N T i) := rfl
theorem sub_fact {n t c : Nat} (hn : n < m64) (ht : t < m64) (hc : c ≤ 1) : subE n t c + t + c = n + subC n t c * m64 := by
  unfold subE subC m64 at *
  split <;> omega
theorem valW_succ (N : Nat → Nat) (i : Nat) : valW N (i + 1) = valW N i + N i * m64 ^ i := rfl
theorem two64 : (2 : Nat) ^ 64 = m64 := by unfold m64; decide
theorem words_alg {a4 a8 a7 d t n c1 c0 G M : Nat} (ih : a4 + a8 = a7 + c0 * G) (h1 : d + t + c0 = n + c1 * M) : a4 + d * G + (a8 + t * G) = a7 + n * G + c1 * (G * M) := by
  have h2 : (d + t + c0) * G = (n + c1 * M) * G := by rw [h1]
  rw [Nat.add_mul, Nat.add_mul, Nat.add_mul, Nat.mul_assoc, Nat.mul_comm M G] at h2
  omega
theorem sh_alg (X G M : Nat) : 0 + X % M * G + X / M * (G * M) = X * G := by
  have h := Nat.mod_add_div X M
  have h2 : (X % M + M * (X / M)) * G = X * G := by rw [h]
  rw [Nat.add_mul, Nat.mul_comm M, Nat.mul_assoc, Nat.mul_comm M G] at h2
  omega
theorem words_base {X : Nat} (h : X = 0) (a b c G : Nat) (ha : a = 0) (hb : b = 0) (hc : c = 0) : a + b = c + X * G := by
  rw [ha, hb, hc, h, Nat.zero_mul]
theorem valW_none (N : Nat → Nat) : valW N 0 = 0 := rfl
theorem cyS_none (sC : Nat → Nat → Nat → Nat) (N T : Nat → Nat) : cyS sC N T 0 = 0 := rfl
theorem sub_words {N T : Nat → Nat} (hN : ∀ i, N i < m64) (hT : ∀ i, T i < m64) : ∀ i, valW (dgS subE subC N T) i + valW T i = valW N i + cyS subC N T i * m64 ^ i := by
  intro i
  induction i with
  | zero => exact words_base (cyS_none _ _ _) _ _ _ _ (valW_none _) (valW_none _) (valW_none _)
  | succ i ih =>
    rw [valW_succ, valW_succ, valW_succ]
    have h1 : dgS subE subC N T i + T i + cyS subC N T i = N i + cyS subC N T (i + 1) * m64 := by
      rw [dgS_eq, cyS_eq]
      exact sub_fact (hN i) (hT i) (cyS_le ok_sub hN hT i)
    rw [Nat.pow_succ]
    exact words_alg ih h1
theorem subE_lt (n t c : Nat) : subE n t c < m64 := by unfold subE; exact Nat.mod_lt _ (by decide)
theorem dgS_sub_lt (N T : Nat → Nat) (i : Nat) : dgS subE subC N T i < m64 := by rw [dgS_eq]; exact subE_lt _ _ _
theorem sh_div {sz sh : Nat} (h1 : sh < 64) : sz * 2 ^ sh / m64 = sz / 2 ^ (64 - sh) := by
  have : m64 = 2 ^ (64 - sh) * 2 ^ sh := by rw [← Nat.pow_add, show 64 - sh + sh = 64 by omega, two64]
  rw [this, Nat.mul_div_mul_right _ _ (Nat.pow_pos (by decide))]
theorem shW_at (sz i0 sh : Nat) : shW sz i0 sh i0 = sz * 2 ^ sh % m64 := if_pos rfl
theorem shW_next (sz i0 sh : Nat) : shW sz i0 sh (i0 + 1) = sz / 2 ^ (64 - sh) := by unfold shW; rw [if_neg (by omega), if_pos rfl]
theorem shW_off (sz : Nat) {i0 sh k : Nat} (h : k ≠ i0) (h' : k ≠ i0 + 1) : shW sz i0 sh k = 0 := by unfold shW; rw [if_neg h, if_neg h']
/-- A shifted size. -/
theorem sh_val {sz i0 sh : Nat} (h0 : i0 < 4) (h1 : sh < 64) : valW (shW sz i0 sh) 5 = sz * 2 ^ (64 * i0 + sh) := by
  have hlt : ∀ k, k ≤ i0 → valW (shW sz i0 sh) k = 0 := by
    intro k
    induction k with
    | zero => intro _; rfl
    | succ k ih =>
      intro hk
      rw [valW_succ, ih (by omega)]
      rw [shW_off sz (by omega) (by omega)]
      simp
  have hx : valW (shW sz i0 sh) (i0 + 2) = sz * 2 ^ (64 * i0 + sh) := by
    rw [show i0 + 2 = i0 + 1 + 1 from rfl, valW_succ, valW_succ]
    rw [hlt i0 (Nat.le_refl _)]
    have e5 : sz * 2 ^ (64 * i0 + sh) = sz * 2 ^ sh * m64 ^ i0 := by
      rw [Nat.pow_add, Nat.pow_mul, two64, Nat.mul_comm (m64 ^ i0), Nat.mul_assoc]
    rw [shW_at, shW_next, e5, ← sh_div h1, Nat.pow_succ]
    exact sh_alg _ _ _
  have hgt : ∀ k, valW (shW sz i0 sh) (i0 + 2 + k) = valW (shW sz i0 sh) (i0 + 2) := by
    intro k
    induction k with
    | zero => rw [Nat.add_zero]
    | succ k ih =>
      have e1 : valW (shW sz i0 sh) (i0 + 2 + (k + 1)) = valW (shW sz i0 sh) (i0 + 2 + k) + shW sz i0 sh (i0 + 2 + k) * m64 ^ (i0 + 2 + k) := valW_succ _ _
      have e2 : shW sz i0 sh (i0 + 2 + k) = 0 := shW_off sz (by omega) (by omega)
      rw [e1, ih, e2, Nat.zero_mul, Nat.add_zero]
  rw [← hx, ← hgt (3 - i0), show i0 + 2 + (3 - i0) = 5 by omega]
/-- Words that stand for a whole number. -/
structure Rep (N : Nat → Nat) (z : Int) : Prop where
  lt : ∀ i, N i < m64
  eq : ((valW N 5 : Nat) : Int) = z % ((m64 ^ 5 : Nat) : Int)
theorem m5_pos : (0 : Int) < ((m64 ^ 5 : Nat) : Int) := Int.natCast_pos.2 (Nat.pow_pos (by decide))
theorem valW_nil : ∀ i, valW (fun _ => 0) i = 0 := by
  intro i
  induction i with
  | zero => rfl
  | succ i ih => show valW _ i + 0 * _ = 0; rw [ih, Nat.zero_mul]
theorem Rep.nil : Rep (fun _ => 0) 0 := ⟨fun _ => by decide, by rw [valW_nil]; simp⟩
theorem emod_of {a z : Int} {M : Int} (hM : 0 < M) (h0 : 0 ≤ a) (h1 : a < M) (k : Int) (h : a = z + k * M) : a = z % M := by
  have : z % M = a % M := by rw [h, Int.add_mul_emod_self_right]
  rw [this, Int.emod_eq_of_lt h0 h1]
theorem Rep.plus {N M : Nat → Nat} {z y : Int} (h : Rep N z) (g : Rep M y) : Rep (dgV N M) (z + y) := by
  refine ⟨dg_lt N M, ?_⟩
  have hs := sum_words N M 5
  have hl := valW_lt (dg_lt N M) 5
  have h1 : ((valW N 5 + valW M 5 : Nat) : Int) % ((m64 ^ 5 : Nat) : Int) = (z + y) % ((m64 ^ 5 : Nat) : Int) := by
    rw [Int.natCast_add, h.eq, g.eq, Int.emod_add_emod, Int.add_emod_emod]
  rw [← h1, ← hs]
  rw [Int.natCast_add, Int.natCast_mul, Int.add_mul_emod_self_right]
  exact (Int.emod_eq_of_lt (Int.natCast_nonneg _) (by exact_mod_cast hl)).symm
theorem Rep.minus {N T : Nat → Nat} {z : Int} {y : Nat} (h : Rep N z) (hT : ∀ i, T i < m64) (hy : valW T 5 = y) : Rep (dgS subE subC N T) (z - y) := by
  refine ⟨dgS_sub_lt N T, ?_⟩
  have hs := sub_words h.lt hT 5
  have hl := valW_lt (dgS_sub_lt N T) 5
  rw [hy] at hs
  have h1 : ((valW N 5 : Nat) : Int) % ((m64 ^ 5 : Nat) : Int) = z % ((m64 ^ 5 : Nat) : Int) := by rw [h.eq, Int.emod_emod_of_dvd _ (Int.dvd_refl _)]
  have h2 : ((valW (dgS subE subC N T) 5 : Nat) : Int) = (valW N 5 : Int) - y + (cyS subC N T 5 : Int) * ((m64 ^ 5 : Nat) : Int) := by
    have : ((valW (dgS subE subC N T) 5 + y : Nat) : Int) = ((valW N 5 + cyS subC N T 5 * m64 ^ 5 : Nat) : Int) := by rw [hs]
    rw [Int.natCast_add, Int.natCast_add, Int.natCast_mul] at this
    omega
  have h3 : ((valW N 5 : Int) - y) % ((m64 ^ 5 : Nat) : Int) = (z - y) % ((m64 ^ 5 : Nat) : Int) := by
    rw [Int.sub_emod, h1, ← Int.sub_emod]
  rw [← h3]
  exact emod_of m5_pos (Int.natCast_nonneg _) (by exact_mod_cast hl) _ h2
/-- A finite sample in units. -/
def unZ (s : Nat) : Int := if s < 2147483648 then ((szS s * 2 ^ atS s : Nat) : Int) else -((szS s * 2 ^ atS s : Nat) : Int)
theorem atS_lt {s : Nat} (h : s / 8388608 % 256 < 255) : atS s < 256 := by unfold atS; split <;> omega
theorem szS_lt (s : Nat) : szS s < 16777216 := by unfold szS; split <;> omega
theorem sh_at {s : Nat} (h : s / 8388608 % 256 < 255) : valW (shW (szS s) (atS s / 64) (atS s % 64)) 5 = szS s * 2 ^ atS s := by
  have h1 := atS_lt h
  rw [sh_val (by omega) (by omega), show 64 * (atS s / 64) + atS s % 64 = atS s by omega]
theorem shl_lt {s : Nat} (i : Nat) : shW (szS s) (atS s / 64) (atS s % 64) i < m64 := sh_lt (Nat.lt_trans (szS_lt s) (by decide)) i
theorem Rep.add {N : Nat → Nat} {z : Int} {s : Nat} (h : Rep N z) (hs : s / 8388608 % 256 < 255) : Rep (adS N s) (z + unZ s) := by
  unfold adS unZ
  by_cases g : s < 2147483648
  · rw [if_pos g, if_pos g, dgS_add]
    refine h.plus ⟨shl_lt, ?_⟩
    rw [sh_at hs]
    refine (Int.emod_eq_of_lt (Int.natCast_nonneg _) ?_).symm
    have h1 := valW_lt (N := shW (szS s) (atS s / 64) (atS s % 64)) shl_lt 5
    rw [sh_at hs] at h1
    exact_mod_cast h1
  · rw [if_neg g, if_neg g, ← Int.sub_eq_add_neg]
    exact h.minus shl_lt (sh_at hs)
/-- Of a number that isn't too great: its sign, and its size. -/
theorem top_val (N : Nat → Nat) (h : ∀ i, N i < m64) : (9223372036854775808 ≤ N 4 ↔ m64 ^ 5 ≤ 2 * valW N 5) := by
  have h4 : valW N 5 = valW N 4 + N 4 * m64 ^ 4 := rfl
  have h1 := valW_lt h 4
  have e : m64 ^ 5 = 2 * (9223372036854775808 * m64 ^ 4) := by
    rw [Nat.pow_succ, ← Nat.mul_assoc, Nat.mul_comm]
    rfl
  generalize m64 ^ 4 = G at *
  rw [e, h4]
  constructor
  · intro g
    have := Nat.mul_le_mul_right G g
    omega
  · intro g
    rcases Nat.lt_or_ge (N 4) 9223372036854775808 with k | k
    · exfalso
      have := Nat.mul_le_mul_right G (show N 4 + 1 ≤ 9223372036854775808 from k)
      rw [Nat.add_mul, Nat.one_mul] at this
      omega
    · exact k
theorem Rep.pos {N : Nat → Nat} {z : Int} (h : Rep N z) (h0 : 0 ≤ z) (h1 : 2 * z < ((m64 ^ 5 : Nat) : Int)) : ((valW N 5 : Nat) : Int) = z ∧ ¬ 9223372036854775808 ≤ N 4 := by
  have e : ((valW N 5 : Nat) : Int) = z := by rw [h.eq, Int.emod_eq_of_lt h0 (by omega)]
  refine ⟨e, fun g => ?_⟩
  have g := (top_val N h.lt).1 g
  generalize m64 ^ 5 = G at *
  omega
theorem Rep.neg {N : Nat → Nat} {z : Int} (h : Rep N z) (h0 : z < 0) (h1 : -((m64 ^ 5 : Nat) : Int) ≤ 2 * z) : ((valW (negW N) 5 : Nat) : Int) = -z ∧ 9223372036854775808 ≤ N 4 := by
  have e : ((valW N 5 : Nat) : Int) = z + ((m64 ^ 5 : Nat) : Int) := by
    rw [h.eq]
    have : z % ((m64 ^ 5 : Nat) : Int) = (z + ((m64 ^ 5 : Nat) : Int)) % ((m64 ^ 5 : Nat) : Int) := by rw [Int.add_emod_right]
    rw [this, Int.emod_eq_of_lt (by omega) (by omega)]
  have hl := valW_lt h.lt 5
  have hne : valW N 5 ≠ 0 := by
    intro g
    rw [g] at e
    have := m5_pos
    omega
  have hn := neg_words h.lt hne
  constructor
  · generalize m64 ^ 5 = G at *
    omega
  · refine (top_val N h.lt).2 ?_
    generalize m64 ^ 5 = G at *
    omega
theorem neg_lt (N : Nat → Nat) (i : Nat) : negW N i < m64 := dg_lt _ _ i
theorem valW_zero {N : Nat → Nat} : ∀ i, (valW N i = 0 ↔ ∀ j, j < i → N j = 0) := by
  intro i
  induction i with
  | zero => exact ⟨fun _ j h => by omega, fun _ => rfl⟩
  | succ i ih =>
    show valW N i + N i * m64 ^ i = 0 ↔ _
    have hp : 0 < m64 ^ i := Nat.pow_pos (by decide)
    constructor
    · intro h j hj
      have h1 : valW N i = 0 := by omega
      have h2 : N i * m64 ^ i = 0 := by omega
      rcases Nat.lt_or_ge j i with g | g
      · exact ih.1 h1 j g
      · obtain rfl : j = i := by omega
        rcases Nat.mul_eq_zero.1 h2 with k | k
        · exact k
        · omega
    · intro h
      rw [ih.2 (fun j hj => h j (by omega)), h i (by omega)]
      simp
end Go.Proofs.YtieojgblamkgoaaGreatDoor
/- Sums divided: rounded to odd, then once. -/
namespace Go.Proofs.YtieojgblamkgoaaGreatDoor
set_option linter.unusedVariables false
set_option linter.unusedSimpArgs false

/-- So many units divided by d, as a sample's rung. -/
def exR (V d : Nat) : Nat := rungOf Ieee.single (sqV V d 0) (-152)
theorem sqV_zero (V d : Nat) : sqV V d 0 = 2 * (V / d) + if V % d = 0 then 0 else 1 := by
  unfold sqV
  rw [Nat.pow_zero, Nat.mul_one]
theorem top_stick (V d b : Nat) : stick (sqV V d 0) (b + 2) = if V % d = 0 ∧ V / d % 2 ^ b = 0 then V / d / 2 ^ b else 2 * (V / d / 2 ^ b / 2) + 1 := by
  rw [sqV_zero]
  generalize V / d = q
  have hr : ∃ r, (if V % d = 0 then 0 else 1) = r ∧ r ≤ 1 ∧ (r = 0 ↔ V % d = 0) := by
    by_cases h : V % d = 0
    · exact ⟨0, if_pos h, by omega, by omega⟩
    · exact ⟨1, if_neg h, by omega, by omega⟩
  obtain ⟨r, h1, h2, h3⟩ := hr
  rw [h1]
  unfold stick
  have e1 : (2 * q + r) / 2 ^ (b + 2) = q / 2 ^ b / 2 := by
    rw [show b + 2 = 1 + (b + 1) by omega, Nat.pow_add, ← Nat.div_div_eq_div_mul, show (2 * q + r) / 2 ^ 1 = q by omega, Nat.pow_succ, ← Nat.div_div_eq_div_mul]
  have e2 : (2 * q + r) % 2 ^ (b + 2) = 0 ↔ r = 0 ∧ q % 2 ^ (b + 1) = 0 := by
    rw [show 2 ^ (b + 2) = 2 * 2 ^ (b + 1) by rw [show b + 2 = b + 1 + 1 from rfl, Nat.pow_succ, Nat.mul_comm]]
    rw [Nat.mod_mul]
    have : (2 * q + r) / 2 = q := by omega
    rw [this]
    omega
  have e3 : q % 2 ^ (b + 1) = 0 ↔ q % 2 ^ b = 0 ∧ q / 2 ^ b % 2 = 0 := by
    rw [Nat.pow_succ, Nat.mod_mul]
    have hp := Nat.two_pow_pos b
    constructor
    · intro h
      have h4 : q % 2 ^ b = 0 := by omega
      rw [h4, Nat.zero_add] at h
      rcases Nat.mul_eq_zero.1 h with g | g
      · omega
      · exact ⟨h4, g⟩
    · rintro ⟨h4, h5⟩
      rw [h4, h5]
      rfl
  rw [e1]
  by_cases c : V % d = 0 ∧ q % 2 ^ b = 0
  · rw [if_pos c]
    by_cases g : q / 2 ^ b % 2 = 0
    · rw [if_pos (e2.2 ⟨h3.2 c.1, e3.2 ⟨c.2, g⟩⟩)]
      omega
    · rw [if_neg (fun h => g (e3.1 (e2.1 h).2).2)]
      omega
  · rw [if_neg c, if_neg (fun h => c ⟨h3.1 (e2.1 h).1, (e3.1 (e2.1 h).2).1⟩)]
theorem stick_low : ∀ M, M < 4 → rungOf Ieee.single (stick M 2) (-151) = rungOf Ieee.single M (-152) := by decide +kernel
theorem ex_top {V d b : Nat} (hb : b = blen (V / d) - 53) : rungOf Ieee.single (stick (sqV V d 0) (b + 2)) ((b : Int) - 151) = exR V d := by
  unfold exR
  have hz := sqV_zero V d
  rcases Nat.lt_or_ge (sqV V d 0) 4 with h | h
  · have hq : V / d < 2 := by split at hz <;> omega
    have hb0 : b = 0 := by
      have h1 := blen_le (n := V / d) (k := 1) (by omega)
      omega
    subst hb0
    exact stick_low _ h
  · have hM : sqV V d 0 ≠ 0 := by omega
    have hlog : b + 2 ≤ (sqV V d 0).log2 ∧ (b = 0 ∨ b + 53 ≤ (sqV V d 0).log2) := by
      rcases Nat.eq_zero_or_pos b with g | g
      · subst g
        exact ⟨(Nat.le_log2 hM).2 h, Or.inl rfl⟩
      · have hq : V / d ≠ 0 := by
          intro h0
          rw [h0] at hb
          unfold blen at hb
          rw [if_pos rfl] at hb
          omega
        have h1 : blen (V / d) = (V / d).log2 + 1 := if_neg hq
        have h2 : 2 ^ (V / d).log2 ≤ V / d := Nat.log2_self_le hq
        have h3 : 2 ^ ((V / d).log2 + 1) ≤ sqV V d 0 := by
          rw [Nat.pow_succ, hz]
          omega
        have h4 := (Nat.le_log2 hM).2 h3
        exact ⟨by omega, Or.inr (by omega)⟩
    have := rung_stick Ieee.single (M := sqV V d 0) (k := b + 2) (-152) hlog.1 hM (by
      have h5 := last_ge Ieee.single (sqV V d 0) (-152)
      rw [show Ieee.single.leastPlace = -149 by decide] at h5
      rcases hlog.2 with g | g
      · omega
      · unfold lastOf
        rw [show (Ieee.single.fractionBits : Int) = 23 from rfl]
        omega)
    rw [← this]
    congr 1
    omega
theorem top_lt {V d b : Nat} (hb : b = blen (V / d) - 53) : stick (sqV V d 0) (b + 2) < 2 ^ 53 := by
  have h1 := blen_lt (V / d)
  have h2 : V / d / 2 ^ b < 2 ^ 53 := by
    rw [Nat.div_lt_iff_lt_mul (Nat.two_pow_pos b), ← Nat.pow_add]
    exact Nat.lt_of_lt_of_le h1 (Nat.pow_le_pow_right (by decide) (by omega))
  rw [top_stick]
  split
  · exact h2
  · have : (2 : Nat) ^ 53 = 2 * 4503599627370496 := by decide
    omega
theorem top_pos {V d b : Nat} (hV : 0 < V) (hd : 0 < d) (hb : b = blen (V / d) - 53) : 0 < stick (sqV V d 0) (b + 2) := by
  rw [top_stick]
  split
  · rename_i h
    have hq : V / d ≠ 0 := by
      intro h0
      have := Nat.div_add_mod V d
      rw [h0, h.1, Nat.mul_zero] at this
      omega
    have h2 : 2 ^ b ≤ V / d := by
      refine Nat.le_trans (Nat.pow_le_pow_right (by decide) ?_) (Nat.log2_self_le hq)
      have h1 : blen (V / d) = (V / d).log2 + 1 := if_neg hq
      omega
    exact Nat.div_pos h2 (Nat.two_pow_pos b)
  · omega
end Go.Proofs.YtieojgblamkgoaaGreatDoor

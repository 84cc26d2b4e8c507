/- Lists of samples that are the same. -/
import Derived.Test.YtcolhgngiflkhaaG9907aa2c
import Derived.Test.YtcolhgngiflkhaaG3dae3bac
namespace Go.Proofs.Ytcolhgngiflkhaa
open Go.RowKit
set_option linter.unusedVariables false
set_option linter.unusedSimpArgs false

set_option maxHeartbeats 4000000 in
set_option maxRecDepth 100000 in
theorem words_eq (v v' : Value) (xs : List Nat) (w : World) (h : USl w v xs) (h' : USl w v' xs) (hn : xs.length ≤ 9223372036854775807) :
    Calls Try.prog 15 #[v, v'] w fun e w' => e = .returned (.bool true) ∧ Q w w' := by
  obtain ⟨a, cap, ev⟩ := h.form
  obtain ⟨a', cap', ev'⟩ := h'.form
  subst ev ev'
  have HS : Hid (USl w (.slice a xs.length cap) xs) := h
  have HT : Hid (USl w (.slice a' xs.length cap') xs) := h'
  obtain ⟨n, en⟩ : ∃ n, xs.length = n := ⟨_, rfl⟩
  have HN : Hid (xs.length = n) := en
  rw [en] at HS HT hn ⊢
  have hnn : ((n : Int) == (n : Int)) = true := by simp
  clear h h' en
  go_enter Try.func15, Try.ntmps15
  go_wp2_with fail
  go_loopg [5] n (fun m s5 wx => ∃ i : Nat, s5 = .int .i64 i ∧ i + m = n ∧ Hid (Q w wx))
  case atStart => exact ⟨0, rfl, by omega, Q.refl w⟩
  case round =>
    obtain ⟨i, rfl, him, HQ⟩ := hrel
    by_cases hi : i < n
    · have hi0 : (0 : Int) ≤ (i : Int) := by omega
      have hi1 : (i : Int) < (n : Int) := by omega
      obtain ⟨g, o, c, e1, e2, e3⟩ := HS.out.some (by rw [HN.out]; omega)
      obtain ⟨g', o', c', f1, f2, f3⟩ := HT.out.some (by rw [HN.out]; omega)
      injection e1 with e1 hh1 hh2
      clear hh1 hh2
      injection f1 with f1 hh1 hh2
      clear hh1 hh2
      subst e1 f1
      have c1 := HQ.out.cell (e3 i (by rw [HN.out]; exact hi))
      have c2 := HQ.out.cell (f3 i (by rw [HN.out]; exact hi))
      obtain ⟨z, hz⟩ : ∃ z, xs.getD i 0 = z := ⟨_, rfl⟩
      rw [hz] at c1 c2
      have hzz : ((z : Int) == (z : Int)) = true := by simp
      have n0 := qw_some wr
      have d1 := qw_cell c1
      have d2 := qw_cell c2
      clear hz e2 e3 f2 f3
      go_wp2_with fail
      refine wp_region_quiet_Q (by kernel_rfl) (by kernel_rfl) ?_
      repeat (first | go_big_quiet_step (fail) | quiet_step (fail))
      refine wpQuiet_nil ?_
      intro w4 hw'
      have hq4 := qw_out hw'
      have HQ4 : Hid (Q w w4) := HQ.out.trans hq4
      clear hw' n0 d1 d2
      go_wp2_with fail
      go_roundg (n - (i + 1))
      case measure => go_light; omega
      case rel => go_light; exact ⟨i + 1, by go_num, by omega, HQ4⟩
    · have hie : i = n := by omega
      go_wp2_with fail
      go_ret
      exact ⟨rfl, HQ.out⟩
end Go.Proofs.Ytcolhgngiflkhaa
/- The chapter's examples: what they come to. -/
namespace Go.Proofs.Ytcolhgngiflkhaa
open Go.RowKit
set_option linter.unusedVariables false
set_option linter.unusedSimpArgs false

theorem tp_eq {kind F T i : Int} {L M : List (Int × Int)} {S : Int} (hE : tapE kind F T i = 0) (hw : wlsV kind F.toNat T.toNat i.toNat = L) (hs : sumF (zf (L.map Prod.snd)) L.length = S) (hm : missV (zf (L.map Prod.snd)) S L.length = 0) (hM : tpK L (flo (zf (L.map Prod.snd)) S) L.length = M) : tpA kind F T i = M := by
  unfold tpA
  rw [if_pos hE, hw]
  unfold tapsL
  have e : shrV (zf (L.map Prod.snd)) L.length = flo (zf (L.map Prod.snd)) S := by
    funext k
    unfold shrV; rw [hs, hm]; exact shrK_zero _ _ _ _
  rw [e, hM]
theorem t240 : tpA 2 2 4 0 = [(0, 65536)] := tp_eq (L := [(0, 8)]) (S := 8) (by decide) (by decide) (by decide) (by decide) (by decide)
theorem t241 : tpA 2 2 4 1 = [(0, 49152), (1, 16384)] := tp_eq (L := [(0, 6), (1, 2)]) (S := 8) (by decide) (by decide) (by decide) (by decide) (by decide)
theorem t242 : tpA 2 2 4 2 = [(0, 16384), (1, 49152)] := tp_eq (L := [(0, 2), (1, 6)]) (S := 8) (by decide) (by decide) (by decide) (by decide) (by decide)
theorem t243 : tpA 2 2 4 3 = [(1, 65536)] := tp_eq (L := [(1, 8)]) (S := 8) (by decide) (by decide) (by decide) (by decide) (by decide)
theorem b320 : tpA 1 3 2 0 = [(0, 65536)] := tp_eq (L := [(0, 1)]) (S := 1) (by decide) (by decide) (by decide) (by decide) (by decide)
theorem b321 : tpA 1 3 2 1 = [(1, 32768), (2, 32768)] := tp_eq (L := [(1, 1), (2, 1)]) (S := 2) (by decide) (by decide) (by decide) (by decide) (by decide)
theorem b210 : tpA 1 2 1 0 = [(0, 32768), (1, 32768)] := tp_eq (L := [(0, 1), (1, 1)]) (S := 2) (by decide) (by decide) (by decide) (by decide) (by decide)
theorem t110 : tpA 2 1 1 0 = [(0, 65536)] := tp_eq (L := [(0, 2)]) (S := 2) (by decide) (by decide) (by decide) (by decide) (by decide)
theorem row1 : rowL [0, 1065353216] 2 4 = [0, 1048576000, 1061158912, 1065353216] := by
  unfold rowL
  show [smpV (tpA 2 2 4 0) [0, 1065353216], smpV (tpA 2 2 4 1) [0, 1065353216], smpV (tpA 2 2 4 2) [0, 1065353216], smpV (tpA 2 2 4 3) [0, 1065353216]] = _
  rw [t240, t241, t242, t243]
  decide +kernel
theorem row2 : rowL [1065353216, 1073741824, 1082130432] 1 2 = [1065353216, 1077936128] := by
  unfold rowL
  show [smpV (tpA 1 3 2 0) [1065353216, 1073741824, 1082130432], smpV (tpA 1 3 2 1) [1065353216, 1073741824, 1082130432]] = _
  rw [b320, b321]
  decide +kernel
theorem pln1 : (tabN (1 * 1) fun i => whlV 1 2 2 1 1 [0, 1065353216, 1073741824, 1077936128] (i % 1) (i / 1)) = [1069547520] := by
  show [whlV 1 2 2 1 1 [0, 1065353216, 1073741824, 1077936128] 0 0] = _
  unfold whlV colV
  show [smpV (tpA 1 2 1 0) (tabN 2 fun y => smpV (tpA 1 2 1 0) (List.drop (y * 2) [0, 1065353216, 1073741824, 1077936128]))] = _
  rw [b210]
  decide +kernel
theorem prt1 : (tabN (2 * 1) fun i => whlV 2 2 1 4 1 [0, 1065353216] (1 + i % 2) (0 + i / 2)) = [1048576000, 1061158912] := by
  show [whlV 2 2 1 4 1 [0, 1065353216] 1 0, whlV 2 2 1 4 1 [0, 1065353216] 2 0] = _
  unfold whlV colV
  show [smpV (tpA 2 1 1 0) (tabN 1 fun y => smpV (tpA 2 2 4 1) (List.drop (y * 2) [0, 1065353216])), smpV (tpA 2 1 1 0) (tabN 1 fun y => smpV (tpA 2 2 4 2) (List.drop (y * 2) [0, 1065353216]))] = _
  rw [t110, t241, t242]
  decide +kernel
theorem ned1 : fstS ((List.range 2).map fun (k : Nat) => tpA 2 2 4 ((0 + k : Nat) : Int)) 2 = 0 ∧ endS ((List.range 2).map fun (k : Nat) => tpA 2 2 4 ((0 + k : Nat) : Int)) 2 = 2 := by
  have e : ((List.range 2).map fun (k : Nat) => tpA 2 2 4 ((0 + k : Nat) : Int)) = [[(0, 65536)], [(0, 49152), (1, 16384)]] := by
    show [tpA 2 2 4 0, tpA 2 2 4 1] = _
    rw [t240, t241]
  rw [e]
  decide
end Go.Proofs.Ytcolhgngiflkhaa
/- The chapter's examples: known. -/
namespace Go.Proofs.Ytcolhgngiflkhaa
open Go.RowKit
set_option linter.unusedVariables false
set_option linter.unusedSimpArgs false

theorem usl_lit {W w' : World} {M : Array Value} {t : TypeId} {xs : List Nat} (hM : M = (xs.map fun x : Nat => Value.int .u32 (x : Nat)).toArray) (q : Q (W.alloc (.cells M t)) w') : USl w' (.slice (some ⟨W.heap.size, 0, none⟩) xs.length xs.length) xs := by
  have hb : (W.alloc (.cells M t)).heap[W.heap.size]? = some (.cells M t (0, 0)) := heap_alloc_new W _
  have h : UIs (W.alloc (.cells M t)) W.heap.size 0 xs := fun i hi => by
    rw [Nat.zero_add, cell_of_row _ _ i _ t (0, 0) hb, hM, List.getElem?_toArray, List.getElem?_map, List.getElem?_eq_getElem hi, List.getD_eq_getElem?_getD, List.getElem?_eq_getElem hi]
    rfl
  exact (h.next q).usl (Nat.le_refl _)
theorem lit_bd {xs : List Nat} (h : ∀ x ∈ xs, x < 4294967296) (i : Nat) : xs.getD i 0 < 4294967296 := by
  rw [List.getD_eq_getElem?_getD]
  cases g : xs[i]? with
  | none => show 0 < 4294967296; decide
  | some x => exact h x (List.mem_of_getElem? g)
set_option maxHeartbeats 4000000 in
set_option maxRecDepth 100000 in
theorem known10_any (w : World) : Calls Try.prog 6 #[] w fun e w' => e = .returned (.bool true) ∧ Q w w' := by
  have HC1 : Hid (∀ W : World, Calls Try.prog 14 #[.slice (some ⟨W.heap.size, 0, none⟩) 2 2, .int .i64 2, .int .i64 4] (W.alloc (.cells #[.int .u32 0, .int .u32 1065353216] 31)) fun e w' => ∃ b, e = .returned (.tuple #[.slice (some ⟨b, 0, none⟩) 4 4, .int .i64 0]) ∧ Own (W.alloc (.cells #[.int .u32 0, .int .u32 1065353216] 31)) w' b [0, 1048576000, 1061158912, 1065353216]) := fun W => by
    have := row_good (.slice (some ⟨W.heap.size, 0, none⟩) 2 2) [0, 1065353216] 2 4 (W.alloc (.cells #[.int .u32 0, .int .u32 1065353216] 31)) (usl_lit (xs := [0, 1065353216]) rfl (Q.refl _)) (lit_bd (by decide)) (by decide)
    rw [row1] at this
    exact this
  have HC2 : Hid (∀ W : World, Calls Try.prog 14 #[.slice (some ⟨W.heap.size, 0, none⟩) 3 3, .int .i64 1, .int .i64 2] (W.alloc (.cells #[.int .u32 1065353216, .int .u32 1073741824, .int .u32 1082130432] 31)) fun e w' => ∃ b, e = .returned (.tuple #[.slice (some ⟨b, 0, none⟩) 2 2, .int .i64 0]) ∧ Own (W.alloc (.cells #[.int .u32 1065353216, .int .u32 1073741824, .int .u32 1082130432] 31)) w' b [1065353216, 1077936128]) := fun W => by
    have := row_good (.slice (some ⟨W.heap.size, 0, none⟩) 3 3) [1065353216, 1073741824, 1082130432] 1 2 (W.alloc (.cells #[.int .u32 1065353216, .int .u32 1073741824, .int .u32 1082130432] 31)) (usl_lit (xs := [1065353216, 1073741824, 1082130432]) rfl (Q.refl _)) (lit_bd (by decide)) (by decide)
    rw [row2] at this
    exact this
  have HC3 : Hid (∀ W : World, Calls Try.prog 14 #[.slice none 0 0, .int .i64 1, .int .i64 1] W fun e w' => e = .returned (.tuple #[.slice none 0 0, .int .i64 100]) ∧ Q W w') := fun W => row_bad (.slice none 0 0) [] 1 1 W (Or.inr ⟨_, _, rfl, rfl⟩) (by decide) (by decide)
  have HC4 : Hid (∀ W : World, Calls Try.prog 8 #[.agg #[.int .i64 2, .int .i64 2, .slice (some ⟨W.heap.size, 0, none⟩) 4 4], .int .i64 1, .int .i64 1, .int .i64 1] (W.alloc (.cells #[.int .u32 0, .int .u32 1065353216, .int .u32 1073741824, .int .u32 1077936128] 31)) fun e w' => ∃ g, e = .returned (.tuple #[.agg #[.int .i64 1, .int .i64 1, .slice (some ⟨g, 0, none⟩) 1 1], .int .i64 0]) ∧ URow w' g [1069547520] ∧ Q (W.alloc (.cells #[.int .u32 0, .int .u32 1065353216, .int .u32 1073741824, .int .u32 1077936128] 31)) w') := fun W => by
    have := plane_good 1 2 2 1 1 (.slice (some ⟨W.heap.size, 0, none⟩) 4 4) [0, 1065353216, 1073741824, 1077936128] (W.alloc (.cells #[.int .u32 0, .int .u32 1065353216, .int .u32 1073741824, .int .u32 1077936128] 31)) (usl_lit (xs := [0, 1065353216, 1073741824, 1077936128]) rfl (Q.refl _)) rfl (lit_bd (by decide)) (by decide) ⟨by decide, by decide, by decide, by decide, by decide⟩ ⟨by decide, by decide, by decide, by decide, by decide⟩
    rw [pln1] at this
    exact this.mono fun e w' ⟨g, h1, h2, _, h4⟩ => ⟨g, h1, h2, h4⟩
  have HC5 : Hid (∀ W : World, Calls Try.prog 13 #[.agg #[.int .i64 2, .int .i64 1, .slice (some ⟨W.heap.size, 0, none⟩) 2 2], .int .i64 2, .int .i64 4, .int .i64 1, .agg #[.int .i64 1, .int .i64 0, .int .i64 3, .int .i64 1]] (W.alloc (.cells #[.int .u32 0, .int .u32 1065353216] 31)) fun e w' => ∃ g, e = .returned (.tuple #[.agg #[.int .i64 2, .int .i64 1, .slice (some ⟨g, 0, none⟩) 2 2], .int .i64 0]) ∧ URow w' g [1048576000, 1061158912] ∧ Q (W.alloc (.cells #[.int .u32 0, .int .u32 1065353216] 31)) w') := fun W => by
    have := part_good 2 2 1 4 1 1 0 2 1 3 1 (.slice (some ⟨W.heap.size, 0, none⟩) 2 2) [0, 1065353216] (W.alloc (.cells #[.int .u32 0, .int .u32 1065353216] 31)) (usl_lit (xs := [0, 1065353216]) rfl (Q.refl _)) rfl (lit_bd (by decide)) (by decide) ⟨by decide, by decide, by decide, by decide, by decide⟩ ⟨by decide, by decide, by decide, by decide, by decide⟩ rfl rfl (by decide) (by decide) (by decide) (by decide)
    rw [prt1] at this
    exact this.mono fun e w' ⟨g, h1, h2, _, h4⟩ => ⟨g, h1, h2, h4⟩
  have HC6 : Hid (∀ W : World, Calls Try.prog 12 #[.int .i64 2, .int .i64 2, .int .i64 4, .int .i64 0, .int .i64 2] W fun e w' => e = .returned (.tuple #[.int .i64 0, .int .i64 2, .int .i64 0]) ∧ Q W w') := fun W => by
    have := need_good 2 2 4 0 2 2 W rfl (by decide) (by decide) (by decide) (by decide) (by decide) (by decide)
    refine this.mono fun e w' ⟨h1, h2⟩ => ⟨h1.trans ?_, h2⟩
    show Ending.returned (.tuple #[.int .i64 (fstS ((List.range 2).map fun (k : Nat) => tpA 2 2 4 ((0 + k : Nat) : Int)) 2), .int .i64 (endS ((List.range 2).map fun (k : Nat) => tpA 2 2 4 ((0 + k : Nat) : Int)) 2), .int .i64 0]) = _
    rw [ned1.1, ned1.2]
  have HWd : Hid (∀ (v : Value) (xs : List Nat) (W w' : World) (M : Array Value), USl w' v xs → M = (xs.map fun x : Nat => Value.int .u32 (x : Nat)).toArray → w' = W.alloc (.cells M 31) → xs.length ≤ 100 → Calls Try.prog 15 #[v, .slice (some ⟨W.heap.size, 0, none⟩) xs.length xs.length] w' fun e w'' => e = .returned (.bool true) ∧ Q w' w'') := fun v xs W w' M h hM hw hl => by
    subst hw
    exact words_eq _ _ xs _ h (usl_lit hM (Q.refl _)) (by omega)
  go_enter Try.func6, Try.ntmps6
  go_wp2_with fail
  refine (HC1.out w).mono ?_
  rintro e w1 ⟨b1, rfl, o1⟩
  have H1 : Hid (USl w1 (.slice (some ⟨b1, 0, none⟩) 4 4) [0, 1048576000, 1061158912, 1065353216] ∧ Q w w1) := ⟨o1.cells.usl (cap := 4) (by decide), ((Q.refl w).cells _ _).trans o1.q⟩
  clear o1
  go_wp2_with fail
  refine (HC2.out w1).mono ?_
  rintro e w2 ⟨b2, rfl, o2⟩
  have H2 : Hid (USl w2 (.slice (some ⟨b1, 0, none⟩) 4 4) [0, 1048576000, 1061158912, 1065353216] ∧ USl w2 (.slice (some ⟨b2, 0, none⟩) 2 2) [1065353216, 1077936128] ∧ Q w w2) := by
    have q := ((Q.refl w1).cells _ _).trans o2.q
    exact ⟨H1.out.1.next q, o2.cells.usl (cap := 2) (by decide), H1.out.2.trans q⟩
  clear o2
  go_wp2_with fail
  refine (HC3.out w2).mono ?_
  rintro e w3 ⟨rfl, q3⟩
  have H3 : Hid (USl w3 (.slice (some ⟨b1, 0, none⟩) 4 4) [0, 1048576000, 1061158912, 1065353216] ∧ USl w3 (.slice (some ⟨b2, 0, none⟩) 2 2) [1065353216, 1077936128] ∧ Q w w3) := ⟨H2.out.1.next q3, H2.out.2.1.next q3, H2.out.2.2.trans q3⟩
  clear q3
  go_wp2_with fail
  refine (HC4.out w3).mono ?_
  rintro e w4 ⟨b4, rfl, u4, q4⟩
  obtain ⟨w5, hw5⟩ : ∃ w5, w4.alloc (.cells #[.int .i64 1, .int .i64 1, .slice (some ⟨b4, 0, none⟩) 1 1] 24) = w5 := ⟨_, rfl⟩
  have H5 : Hid (USl w5 (.slice (some ⟨b1, 0, none⟩) 4 4) [0, 1048576000, 1061158912, 1065353216] ∧ USl w5 (.slice (some ⟨b2, 0, none⟩) 2 2) [1065353216, 1077936128] ∧ USl w5 (.slice (some ⟨b4, 0, none⟩) 1 1) [1069547520] ∧ w5.cell? ⟨w4.heap.size, 2, none⟩ = some (.slice (some ⟨b4, 0, none⟩) 1 1) ∧ Q w w5) := by
    have q5 : Q w4 w5 := by rw [← hw5]; exact (Q.refl w4).cells _ _
    have q := (((Q.refl w3).cells _ _).trans q4).trans q5
    refine ⟨H3.out.1.next q, H3.out.2.1.next q, (u4.next q5).uis.usl (cap := 1) (by decide), ?_, H3.out.2.2.trans q⟩
    rw [← hw5]; simp [go_sem]
  clear u4 q4
  go_wp2_with fail
  refine (HC5.out w5).mono ?_
  rintro e w6 ⟨b6, rfl, u6, q6⟩
  obtain ⟨w7, hw7⟩ : ∃ w7, w6.alloc (.cells #[.int .i64 2, .int .i64 1, .slice (some ⟨b6, 0, none⟩) 2 2] 24) = w7 := ⟨_, rfl⟩
  have H7 : Hid (USl w7 (.slice (some ⟨b1, 0, none⟩) 4 4) [0, 1048576000, 1061158912, 1065353216] ∧ USl w7 (.slice (some ⟨b2, 0, none⟩) 2 2) [1065353216, 1077936128] ∧ USl w7 (.slice (some ⟨b4, 0, none⟩) 1 1) [1069547520] ∧ USl w7 (.slice (some ⟨b6, 0, none⟩) 2 2) [1048576000, 1061158912] ∧ w7.cell? ⟨w4.heap.size, 2, none⟩ = some (.slice (some ⟨b4, 0, none⟩) 1 1) ∧ w7.cell? ⟨w6.heap.size, 2, none⟩ = some (.slice (some ⟨b6, 0, none⟩) 2 2) ∧ Q w w7) := by
    have q7 : Q w6 w7 := by rw [← hw7]; exact (Q.refl w6).cells _ _
    have q := (((Q.refl w5).cells _ _).trans q6).trans q7
    refine ⟨H5.out.1.next q, H5.out.2.1.next q, H5.out.2.2.1.next q, (u6.next q7).uis.usl (cap := 2) (by decide), q.cell H5.out.2.2.2.1, ?_, H5.out.2.2.2.2.trans q⟩
    rw [← hw7]; simp [go_sem]
  clear u6 q6 hw5
  go_wp2_with fail
  refine (HC6.out w7).mono ?_
  rintro e w8 ⟨rfl, q8⟩
  have H8 : Hid (USl w8 (.slice (some ⟨b1, 0, none⟩) 4 4) [0, 1048576000, 1061158912, 1065353216] ∧ USl w8 (.slice (some ⟨b2, 0, none⟩) 2 2) [1065353216, 1077936128] ∧ USl w8 (.slice (some ⟨b4, 0, none⟩) 1 1) [1069547520] ∧ USl w8 (.slice (some ⟨b6, 0, none⟩) 2 2) [1048576000, 1061158912] ∧ w8.cell? ⟨w4.heap.size, 2, none⟩ = some (.slice (some ⟨b4, 0, none⟩) 1 1) ∧ w8.cell? ⟨w6.heap.size, 2, none⟩ = some (.slice (some ⟨b6, 0, none⟩) 2 2) ∧ Q w w8) := ⟨H7.out.1.next q8, H7.out.2.1.next q8, H7.out.2.2.1.next q8, H7.out.2.2.2.1.next q8, q8.cell H7.out.2.2.2.2.1, q8.cell H7.out.2.2.2.2.2.1, H7.out.2.2.2.2.2.2.trans q8⟩
  clear q8 hw7
  go_wp2_with fail
  refine (HWd.out (.slice (some ⟨b1, 0, none⟩) 4 4) [0, 1048576000, 1061158912, 1065353216] w8 _ _ ((H8.out.1).next ((Q.refl w8).cells _ _)) rfl rfl (by decide)).mono ?_
  rintro e w9 ⟨rfl, q9⟩
  have H9 : Hid (USl w9 (.slice (some ⟨b2, 0, none⟩) 2 2) [1065353216, 1077936128] ∧ USl w9 (.slice (some ⟨b4, 0, none⟩) 1 1) [1069547520] ∧ USl w9 (.slice (some ⟨b6, 0, none⟩) 2 2) [1048576000, 1061158912] ∧ w9.cell? ⟨w4.heap.size, 2, none⟩ = some (.slice (some ⟨b4, 0, none⟩) 1 1) ∧ w9.cell? ⟨w6.heap.size, 2, none⟩ = some (.slice (some ⟨b6, 0, none⟩) 2 2) ∧ Q w w9) := by
    have q := ((Q.refl w8).cells _ _).trans q9
    exact ⟨H8.out.2.1.next q, H8.out.2.2.1.next q, H8.out.2.2.2.1.next q, q.cell H8.out.2.2.2.2.1, q.cell H8.out.2.2.2.2.2.1, H8.out.2.2.2.2.2.2.trans q⟩
  clear q9
  go_wp2_with fail
  refine (HWd.out (.slice (some ⟨b2, 0, none⟩) 2 2) [1065353216, 1077936128] w9 _ _ ((H9.out.1).next ((Q.refl w9).cells _ _)) rfl rfl (by decide)).mono ?_
  rintro e w10 ⟨rfl, q10⟩
  have H10 : Hid (USl w10 (.slice (some ⟨b4, 0, none⟩) 1 1) [1069547520] ∧ USl w10 (.slice (some ⟨b6, 0, none⟩) 2 2) [1048576000, 1061158912] ∧ w10.cell? ⟨w6.heap.size, 2, none⟩ = some (.slice (some ⟨b6, 0, none⟩) 2 2) ∧ Q w w10) := by
    have q := ((Q.refl w9).cells _ _).trans q10
    exact ⟨H9.out.2.1.next q, H9.out.2.2.1.next q, q.cell H9.out.2.2.2.2.1, H9.out.2.2.2.2.2.trans q⟩
  have z4 : w10.cell? ⟨w4.heap.size, 2, none⟩ = some (.slice (some ⟨b4, 0, none⟩) 1 1) := (((Q.refl w9).cells _ _).trans q10).cell H9.out.2.2.2.1
  clear q10
  go_wp2_with fail
  refine (HWd.out (.slice (some ⟨b4, 0, none⟩) 1 1) [1069547520] w10 _ _ ((H10.out.1).next ((Q.refl w10).cells _ _)) rfl rfl (by decide)).mono ?_
  rintro e w11 ⟨rfl, q11⟩
  have H11 : Hid (USl w11 (.slice (some ⟨b6, 0, none⟩) 2 2) [1048576000, 1061158912] ∧ Q w w11) := by
    have q := ((Q.refl w10).cells _ _).trans q11
    exact ⟨H10.out.2.1.next q, H10.out.2.2.2.trans q⟩
  have z6 : w11.cell? ⟨w6.heap.size, 2, none⟩ = some (.slice (some ⟨b6, 0, none⟩) 2 2) := (((Q.refl w10).cells _ _).trans q11).cell H10.out.2.2.1
  clear q11 z4
  go_wp2_with fail
  refine (HWd.out (.slice (some ⟨b6, 0, none⟩) 2 2) [1048576000, 1061158912] w11 _ _ ((H11.out.1).next ((Q.refl w11).cells _ _)) rfl rfl (by decide)).mono ?_
  rintro e w12 ⟨rfl, q12⟩
  have H12 : Hid (Q w w12) := H11.out.2.trans (((Q.refl w11).cells _ _).trans q12)
  clear q12 z6
  go_wp2_with fail
  go_ret
  exact ⟨rfl, H12.out⟩
end Go.Proofs.Ytcolhgngiflkhaa
/- The statement ScaleConstant: its walk. -/
namespace Go.Proofs.Ytcolhgngiflkhaa
open Go.RowKit
set_option linter.unusedVariables false
set_option linter.unusedSimpArgs false

theorem plnE_ok {pw ph : Int} {n : Nat} {kind W H : Int} (hE : plnE pw ph n kind W H = 0) : SizeB W H ∧ tapE kind pw W 0 = 0 ∧ tapE kind ph H 0 = 0 := by
  unfold plnE at hE
  split at hE
  · split at hE
    · rename_i hs
      split at hE
      · rename_i h; exact ⟨sizeB_true.1 hs, h, hE⟩
      · rename_i h; exact absurd hE h
    · cases hE
  · rename_i h; exact absurd hE h
structure Bk2 (W0 wx : World) (B g : Nat) (W H m : Nat) (F : Nat → Nat) : Prop where
  o0 : wx.cell? ⟨B, 0, none⟩ = some (.int .i64 (W : Int))
  o1 : wx.cell? ⟨B, 1, none⟩ = some (.int .i64 (H : Int))
  o2 : wx.cell? ⟨B, 2, none⟩ = some (.slice (some ⟨g, 0, none⟩) m m)
  row : URow wx g (tabN m F)
  q : Q W0 wx
end Go.Proofs.Ytcolhgngiflkhaa

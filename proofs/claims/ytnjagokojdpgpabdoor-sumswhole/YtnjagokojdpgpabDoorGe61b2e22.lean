/- Appending to a list of the call's own in a list of operations, with what is said of the other blocks. -/
import Derived.Test.YtnjagokojdpgpabDoorG63f183a6
import Derived.OwnWalk
import Derived.Deep.AppendLies
import Derived.Deep.RegionLaw
import Derived.Test.YtnjagokojdpgpabDoorG6dedde2a
import Derived.Test.YtnjagokojdpgpabDoorG71eb5ff9
import Derived.Test.YtnjagokojdpgpabDoorG137b6d74
namespace Go.Proofs.YtnjagokojdpgpabDoor
open Go.RowKit

/-- The same, with what is said of the other blocks. -/
theorem run_app_qg {P : Program} (w w0 : World) (q0 : Q w0 w) (t ty : TypeId) (e : TypeId) (i : TypeInfo) (z : Value) (size bytes : Nat) (ht : P.underlying t = some (.slice e)) (hi : P.info? e = some i) (hz : i.zero = some z)
    (hsize : i.size = size) (hby : i.bytes = bytes) (hzs : z.cells.size = size) (hsz : 0 < size)
    (v : Value) (n : Nat) (xs : List Value) (hown : w.ownsRow w0.heap.size e size v n xs)
    (ad : Addr) (m c : Nat) (news : List Value) (hl : news.length = m * size) (hnews : ∀ j u, news[j]? = some u → w.cell? (ad.add j) = some u) (h1 : ∀ u ∈ news, u.oneCell' = true)
    (hm : 0 < m) (h63 : n + m ≤ maxLen) (hbytes : (n + m) * bytes ≤ 140737488355328) :
    ∃ g cap w', (Builtin.append_ #[t, t] ty #[v, .slice (some ad) m c]).run P w = .ok (.slice (some ⟨g, 0, none⟩) (n + m) cap) w' ∧
      w'.ownsRow w0.heap.size e size (.slice (some ⟨g, 0, none⟩) (n + m) cap) (n + m) (xs ++ news) ∧ Q w0 w' ∧ w.grownBy w' v.ownBlock ∧ (v.ownBlock = some g ∨ g = w.heap.size) := by
  obtain ⟨g, cap, w', hr, h2, h3⟩ := run_app_q (P := P) w w0 q0 t ty e i z size bytes ht hi hz hsize hby hzs hsz v n xs hown ad m c news hl hnews h1 hm h63 hbytes
  obtain ⟨g', cap', w'', hr', _, h3', h4', _⟩ := run_append_lies (P := P) w t ty w0.heap.size e i z size bytes ht hi hz hsize hby hzs hsz v n xs hown ad m c news hl hnews h1 hm h63 hbytes q0.1.size _ rfl
  rw [hr] at hr'
  injection hr' with a b
  injection a with a
  injection a with a
  injection a with a
  subst a
  subst b
  exact ⟨g, cap, w', hr, h2, h3, h3', h4'⟩
/-- In a list of operations. -/
theorem wpList_app_qg {P : Program} (w w0 : World) (q0 : Q w0 w) {ops : Array Oper} {rest : List Oper} {o : Oper} {a : Act} {R : Exit → Act → World → Prop} (hgd : o.guard = none) (s x : Operand) (t : TypeId)
    (ho : o.op = .call { callee := .builtin .append, args := #[s, x], argTypes := #[t, t] })
    (e : TypeId) (i : TypeInfo) (z : Value) (size bytes : Nat) (ht : P.underlying t = some (.slice e)) (hi : P.info? e = some i) (hz : i.zero = some z)
    (hsize : i.size = size) (hby : i.bytes = bytes) (hzs : z.cells.size = size) (hsz : 0 < size)
    (v : Value) (n : Nat) (xs : List Value) (hs : a.eval s = v) (hown : w.ownsRow w0.heap.size e size v n xs)
    (ad : Addr) (m c : Nat) (news : List Value) (hx : a.eval x = .slice (some ad) m c) (hl : news.length = m * size) (hnews : ∀ j u, news[j]? = some u → w.cell? (ad.add j) = some u) (h1 : ∀ u ∈ news, u.oneCell' = true)
    (hm : 0 < m) (h63 : n + m ≤ maxLen) (hbytes : (n + m) * bytes ≤ 140737488355328)
    (h : ∀ g cap w', w'.ownsRow w0.heap.size e size (.slice (some ⟨g, 0, none⟩) (n + m) cap) (n + m) (xs ++ news) → Q w0 w' → w.grownBy w' v.ownBlock → (v.ownBlock = some g ∨ g = w.heap.size) → wpList P ops R rest (a.put o.dst (.slice (some ⟨g, 0, none⟩) (n + m) cap)) w') :
    wpList P ops R (o :: rest) a w := by
  obtain ⟨g, cap, w', hr, h2, h3, h4, h5⟩ := run_app_qg (P := P) w w0 q0 t o.type e i z size bytes ht hi hz hsize hby hzs hsz v n xs hown ad m c news hl hnews h1 hm h63 hbytes
  refine wpList_plain hgd fun _ hK => ?_
  unfold Oper.wp execOp
  simp only [ho, resolve, invoke, builtin, Sem.run_bind, Sem.run_pure, Result.andThen_ok, List.map_toArray, List.map_cons, List.map_nil, hs, hx, hr]
  exact hK _ _ (h g cap w' h2 h3 h4 h5)
end Go.Proofs.YtnjagokojdpgpabDoor
/- The statement SumsLong: its walk. -/
namespace Go.Proofs.YtnjagokojdpgpabDoor
open Go.RowKit
set_option linter.unusedVariables false
set_option linter.unusedSimpArgs false

/-- One more sample behind a list of the call's own: which block turns. -/
theorem wpList_addG (w w0 : World) (q0 : Q w0 w) {ops : Array Oper} {rest : List Oper} {o : Oper} {a : Act} {R : Exit → Act → World → Prop} (hgd : o.guard = none) (s x : Operand)
    (ho : o.op = .call { callee := .builtin .append, args := #[s, x], argTypes := #[22, 22] })
    (v : Value) (n : Nat) (L : List Nat) (hs : a.eval s = v) (hown : w.ownsRow w0.heap.size 23 1 v n (newsU L))
    (g0 : Nat) (u : Nat) (hx : a.eval x = .slice (some ⟨g0, 0, none⟩) 1 1) (hu : w.cell? ⟨g0, 0, none⟩ = some (.int .u32 (u : Int))) (h63 : n + 1 ≤ 100000)
    (h : ∀ g cap w', w'.ownsRow w0.heap.size 23 1 (.slice (some ⟨g, 0, none⟩) (n + 1) cap) (n + 1) (newsU (L ++ [u])) → Q w0 w' → (∀ B, v.ownBlock ≠ some B → B < w.heap.size → g ≠ B ∧ ∃ C, C ≠ B ∧ Fb C w w') → wpList Tryd.prog ops R rest (a.put o.dst (.slice (some ⟨g, 0, none⟩) (n + 1) cap)) w') :
    wpList Tryd.prog ops R (o :: rest) a w := by
  obtain ⟨iu, i1, i2, i3, i4⟩ := u32_info
  refine wpList_plain hgd fun _ hK => ?_
  unfold Oper.wp execOp
  have hap : newsU (L ++ [u]) = newsU L ++ [.int .u32 (u : Int)] := by simp [newsU]
  obtain ⟨g, cap, w', hr, ho2, hq, hgb, hgg⟩ := run_app_qg (P := Tryd.prog) w w0 q0 22 o.type 23 iu _ 1 4 Tryd.underlying22 i1 i4 i2 i3 rfl (by decide) v n (newsU L) hown ⟨g0, 0, none⟩ 1 1 [.int .u32 (u : Int)] rfl (fun j z hz => by
    cases j with
    | zero => cases hz; exact hu
    | succ j => cases hz) (fun z hz => by rw [List.mem_singleton.1 hz]; rfl) (by decide) (by unfold maxLen; omega) (by omega)
  simp only [ho, resolve, invoke, builtin, Sem.run_bind, Sem.run_pure, Result.andThen_ok, List.map_toArray, List.map_cons, List.map_nil, hs, hx, hr]
  rw [← hap] at ho2
  refine hK _ _ (h g cap w' ho2 hq fun B hB hlt => ⟨?_, ?_⟩)
  · rcases hgg with h | h
    · intro e; subst e; exact hB h
    · omega
  · cases hv : v.ownBlock with
    | none => exact ⟨w.heap.size, by omega, hgb.os, hgb.tape, hgb.output, hgb.size, fun b hb _ => hgb.block b hb (by rw [hv]; simp), fun a => (hq.2 a).trans (q0.2 a).symm⟩
    | some c => exact ⟨c, fun e => hB (by rw [hv, e]), hgb.os, hgb.tape, hgb.output, hgb.size, fun b hb hne => hgb.block b hb (by rw [hv]; intro e; cases e; exact hne rfl), fun a => (hq.2 a).trans (q0.2 a).symm⟩
theorem own_next {wr wx : World} {base : Nat} {e : TypeId} {size n : Nat} {v : Value} {xs : List Value} (h : wr.ownsRow base e size v n xs) (q : Q wr wx) : wx.ownsRow base e size v n xs := by
  obtain ⟨h1, h2⟩ := h
  refine ⟨h1, ?_⟩
  rcases h2 with h2 | ⟨g, cap, cur, rfl, hb, hg, rest⟩
  · exact Or.inl h2
  · exact Or.inr ⟨g, cap, cur, rfl, hb, (q.1.block g (Array.getElem?_eq_some_iff.1 hg).1).trans hg, rest⟩
theorem own_fb {w w' : World} {base B : Nat} {e : TypeId} {size n : Nat} {v : Value} {xs : List Value} (h : w.ownsRow base e size v n xs) (f : Fb B w w') (hB : v.ownBlock ≠ some B) : w'.ownsRow base e size v n xs := by
  obtain ⟨h1, h2⟩ := h
  refine ⟨h1, ?_⟩
  rcases h2 with h2 | ⟨g, cap, cur, rfl, hb, hg, rest⟩
  · exact Or.inl h2
  · exact Or.inr ⟨g, cap, cur, rfl, hb, (f.block g (Array.getElem?_eq_some_iff.1 hg).1 (fun e => hB (by rw [e]; rfl))).trans hg, rest⟩
theorem own_usl2 {w : World} {base n : Nat} {v : Value} {L : List Nat} (h : w.ownsRow base 23 1 v n (newsU L)) (hn : L.length = n) : USl w v L := by
  have h' := h
  obtain ⟨_, ⟨rfl, h0⟩ | ⟨g', cap', cur, rfl, _⟩⟩ := h
  · exact Or.inr ⟨_, _, rfl, List.eq_nil_of_length_eq_zero (by omega)⟩
  · exact own_usl h' hn
theorem sum_bd : ∀ {L : List Int}, (∀ v ∈ L, v.natAbs ≤ 4194304) → L.sum.natAbs ≤ 4194304 * L.length
  | [], _ => by simp
  | v :: t, h => by
    have h1 := h v (List.mem_cons_self ..)
    have h2 := sum_bd fun u hu => h u (List.mem_cons_of_mem _ hu)
    rw [List.sum_cons, List.length_cons]
    omega
theorem cell_fresh (w : World) (v : Value) (t : TypeId) : (w.alloc (.cells #[v] t)).cell? ⟨w.heap.size, 0, none⟩ = some v := by
  have h : (w.alloc (.cells #[v] t)).heap[w.heap.size]? = some (.cells #[v] t) := by show (w.heap.push _)[w.heap.size]? = _; simp
  unfold World.cell?; rw [h]; rfl
set_option maxHeartbeats 4000000 in
set_option maxRecDepth 100000 in
theorem long_walk (seed count : Int) (w : World) (hT : Tab w) : Calls Tryd.prog 6 #[.int .i64 seed, .int .i64 count] w fun e w' => e = .returned (.bool true) ∧ Q w w' := by
  have HT : Hid (Tab w) := hT
  clear hT
  go_enter Tryd.func6, Tryd.ntmps6
  go_wp2_with fail
  refine (known_any _ HT.out).mono ?_
  rintro e w1 ⟨rfl, q1⟩
  have HQ1 : Hid (Q w w1) := q1
  clear q1
  go_wp2_with fail
  refine (place_any count 20000 (by decide) (by decide) _).mono ?_
  rintro e w1' ⟨n, rfl, hn, hw⟩
  subst hw
  go_wp2_with fail
  refine (place_any seed 2147483647 (by decide) (by decide) _).mono ?_
  rintro e w1'' ⟨s0, rfl, hs0, hw⟩
  subst hw
  go_wp2_with fail
  refine (new_any _).mono ?_
  rintro e w2 ⟨rfl, hA2, q2, hl2⟩
  have HA2 : Hid (AccOf w2 w1''.heap.size [] 0 (fun _ => 0)) := hA2
  have HQ2 : Hid (Q w1'' w2) := q2
  have HL2 : Hid (w1''.heap.size < w2.heap.size) := hl2
  clear hA2 q2 hl2
  obtain ⟨A, hA⟩ : ∃ A, w1''.heap.size = A := ⟨_, rfl⟩
  rw [hA] at HA2 HL2 ⊢
  have HA : Hid (w1''.heap.size = A) := hA
  clear hA
  go_wp2_with fail
  go_loopg [6, 7, 8, 10] n (fun gh s6 s7 s8 s10 wr => ∃ (i s : Nat) (L : List Int) (sm : Int) (v : Value) (N : Nat → Nat), s6 = .int .i64 (s : Int) ∧ s < 2147483648 ∧ s7 = v ∧ s8 = .int .i64 sm ∧ s10 = .int .i64 (i : Int) ∧ i ≤ n ∧ gh = n - i ∧ -83886080000 ≤ sm ∧ sm ≤ 83886080000 ∧
    Hid (L.length = i ∧ L.sum = sm ∧ (∀ v ∈ L, v.natAbs ≤ 4194304)) ∧ Hid (wr.ownsRow w1''.heap.size 23 1 v i (newsU (L.map xV)) ∧ v.ownBlock ≠ some A) ∧ Hid (AccOf wr A (L.map xV) i N) ∧ Hid (Q w1'' wr) ∧ Hid (A < wr.heap.size))
  case atStart => exact ⟨0, s0, [], 0, .slice none 0 0, fun _ => 0, rfl, by omega, rfl, rfl, rfl, Nat.zero_le _, rfl, by omega, by omega, ⟨rfl, rfl, fun _ h => by cases h⟩, ⟨⟨rfl, Or.inl ⟨rfl, rfl⟩⟩, by simp [Value.ownBlock]⟩, HA2.out, HQ2.out, HL2.out⟩
  case round =>
    obtain ⟨i, s, L, sm, v, N, rfl, hs, hv7, rfl, rfl, hi, rfl, hb1, hb2, HL, HO, HAc, HQ, HSz⟩ := hrel
    replace hv7 := hv7.symm
    subst hv7
    by_cases hlt : i < n
    · obtain ⟨s2, hs2, e2⟩ : ∃ s2 : Nat, s2 < 2147483648 ∧ bits .and .i64 ((s : Int) * 1103515 + 12345) 2147483647 = (s2 : Int) := ⟨(s * 1103515 + 12345) % 2147483648, Nat.mod_lt _ (by decide), and31 (s * 1103515 + 12345) (by omega)⟩
      obtain ⟨q, hq, e3⟩ : ∃ q : Nat, q < 2147483648 ∧ (s2 : Int).tdiv 128 = (q : Int) := ⟨s2 / 128, by omega, rfl⟩
      obtain ⟨r, hr, e4⟩ : ∃ r : Nat, r < 8388608 ∧ (q : Int).tmod 8388608 = (r : Int) := ⟨q % 8388608, Nat.mod_lt _ (by decide), rfl⟩
      obtain ⟨u, e5⟩ : ∃ u : Int, (r : Int) - 4194304 = u := ⟨_, rfl⟩
      have hu1 : -4194304 ≤ u := by omega
      have hu2 : u < 4194304 := by omega
      have hlt' : (i : Int) < (n : Int) := by omega
      go_wp2_with fail
      refine (rint_any u (by omega) (by omega) _).mono ?_
      rintro e w3 ⟨rfl, q3⟩
      have hF : Ieee.single.write (.number (decide (u < 0)) u.natAbs 0) < 4294967296 := (by
        have := word_parts32 (decide (u < 0)) (rungOf_le Ieee.single u.natAbs 0)
        rw [← nearest_rung] at this
        exact this.2.2)
      have HF : Hid (roundR (scaleR (min (max (-20) (-1000)) 1000) (numOf Ieee.single (Ieee.single.write (.number (decide (u < 0)) u.natAbs 0)))) = xV u) := from_scale (Nat.lt_of_le_of_lt (show u.natAbs ≤ 4194304 by omega) (by decide))
      generalize Ieee.single.write (.number (decide (u < 0)) u.natAbs 0) = F at *
      have HQ3 : Hid (Q wr w3) := q3
      clear q3
      go_wp2_with fail
      refine (rscale_any F (-20) _ hF).mono ?_
      rintro e w4 ⟨rfl, q4⟩
      rw [HF.out]
      have HQ4 : Hid (Q wr w4) := HQ3.out.trans q4
      clear q4 HQ3 HF hF
      have HO4 : Hid (w4.ownsRow w1''.heap.size 23 1 v i (newsU (L.map xV))) := own_next HO.out.1 HQ4.out
      have HX : Hid (xV u < 4294967296) := xV_lt u
      have HU : Hid (u.natAbs ≤ 4194304) := by show u.natAbs ≤ 4194304; omega
      obtain ⟨m3, e6⟩ : ∃ m3 : Nat, (i : Int).tmod 3 = (m3 : Int) := ⟨i % 3, rfl⟩
      by_cases h3 : m3 = 0
      · have h3' : ((m3 : Int) == 0) = true := by rw [h3]; rfl
        go_wp2_with (at_builtin; go_must (refine wpList_addG (w4.alloc (.cells #[.int .u32 ((xV u : Nat) : Int)] 23)) w1'' ((HQ.out.trans HQ4.out).cells _ _) rfl (.tmp 41) (.tmp 43) rfl v i (L.map xV) (by simp [Act.eval, Act.put]) (World.ownsRow.alloc HO4.out _) w4.heap.size (xV u) (by simp [Act.eval, Act.put]) (cell_fresh w4 _ _) (by omega) ?_; intro g cap w5 hO5 hQ5 hB5; have HO5 : Hid (w5.ownsRow w1''.heap.size 23 1 (.slice (some ⟨g, 0, none⟩) (i + 1) cap) (i + 1) (newsU (L.map xV ++ [xV u]))) := hO5; have HQ5 : Hid (Q w1'' w5) := hQ5; have HB5 : Hid _ := hB5; clear hO5 hQ5 hB5))
        obtain ⟨hgA, C5, hC5, f5⟩ := HB5.out A HO.out.2 (by rw [World.size_alloc]; have := HSz.out; have := HQ4.out.1.size; omega)
        have HgA : Hid (g ≠ A) := hgA
        have HA5 : Hid (AccOf w5 A (L.map xV) i N) := ((HAc.out.next HQ4.out).next ((Q.refl _).cells _ _)).far f5 (Ne.symm hC5)
        have HS5 : Hid (A < w5.heap.size) := by show A < w5.heap.size; have := f5.size; rw [World.size_alloc] at this; have := HSz.out; have := HQ4.out.1.size; omega
        clear hgA hC5 f5 HB5
        refine (acc_add _ [xV u] (L.map xV) A i N _ (HA5.out.next ((Q.refl _).cells _ _)) (own_usl (own_one w5 _ _) rfl) (fun g' o' c' _ e => by injection e with e; injection e with e; injection e with e; have := HS5.out; omega) (getD_lt_all (fun z hz => by rw [List.mem_singleton.1 hz]; exact HX.out)) (by simp; omega)).mono ?_
        rintro e w6 ⟨rfl, ⟨NX, hA6⟩, f6⟩
        have HAX : Hid (AccOf w6 A (L.map xV ++ [xV u]) (i + 1) NX) := hA6
        have HOX : Hid (w6.ownsRow w1''.heap.size 23 1 (.slice (some ⟨g, 0, none⟩) (i + 1) cap) (i + 1) (newsU (L.map xV ++ [xV u]))) := own_fb (World.ownsRow.alloc HO5.out _) f6 (by simp [Value.ownBlock]; exact HgA.out)
        have HQX : Hid (Q w1'' w6) := f6.q (HQ5.out.cells _ _) (Nat.le_of_eq HA.out)
        have HSX : Hid (A < w6.heap.size) := Nat.lt_of_lt_of_le HS5.out (by have := f6.size; rw [World.size_alloc] at this; omega)
        clear hA6 f6 HO5 HQ5 HS5 HA5 HO4 HQ4
        have HN : Hid ((L ++ [u]).length = i + 1 ∧ (L ++ [u]).sum = sm + u ∧ (∀ v ∈ L ++ [u], v.natAbs ≤ 4194304)) := ⟨by rw [List.length_append, HL.out.1]; rfl, by rw [List.sum_append, HL.out.2.1]; simp, fun z hz => by
          rcases List.mem_append.1 hz with hz | hz
          · exact HL.out.2.2 z hz
          · rw [List.mem_singleton.1 hz]; exact HU.out⟩
        have HM : Hid ((L ++ [u]).map xV = L.map xV ++ [xV u]) := by show (L ++ [u]).map xV = L.map xV ++ [xV u]; simp
        have hsb := sum_bd HN.out.2.2
        rw [HN.out.1, HN.out.2.1] at hsb
        have hsb1 : -83886080000 ≤ sm + u := by omega
        have hsb2 : sm + u ≤ 83886080000 := by omega
        clear hsb
        go_wp2_with fail
        go_roundg (n - (i + 1))
        case measure => go_light; omega
        case rel => go_light; exact ⟨i + 1, s2, L ++ [u], sm + u, _, NX, rfl, hs2, rfl, rfl, by simp, by omega, rfl, hsb1, hsb2, HN, ⟨by rw [HM.out]; exact HOX.out, by simp [Value.ownBlock]; exact HgA.out⟩, by show AccOf _ A ((L ++ [u]).map xV) (i + 1) _; rw [HM.out]; exact HAX.out, HQX, HSX⟩
      · have h3' : ((m3 : Int) == 0) = false := by simp; omega
        go_wp2_with (at_builtin; go_must (refine wpList_addG (w4.alloc (.cells #[.int .u32 ((xV u : Nat) : Int)] 23)) w1'' ((HQ.out.trans HQ4.out).cells _ _) rfl (.tmp 41) (.tmp 43) rfl v i (L.map xV) (by simp [Act.eval, Act.put]) (World.ownsRow.alloc HO4.out _) w4.heap.size (xV u) (by simp [Act.eval, Act.put]) (cell_fresh w4 _ _) (by omega) ?_; intro g cap w5 hO5 hQ5 hB5; have HO5 : Hid (w5.ownsRow w1''.heap.size 23 1 (.slice (some ⟨g, 0, none⟩) (i + 1) cap) (i + 1) (newsU (L.map xV ++ [xV u]))) := hO5; have HQ5 : Hid (Q w1'' w5) := hQ5; have HB5 : Hid _ := hB5; clear hO5 hQ5 hB5))
        obtain ⟨hgA, C5, hC5, f5⟩ := HB5.out A HO.out.2 (by rw [World.size_alloc]; have := HSz.out; have := HQ4.out.1.size; omega)
        have HgA : Hid (g ≠ A) := hgA
        have HA5 : Hid (AccOf w5 A (L.map xV) i N) := ((HAc.out.next HQ4.out).next ((Q.refl _).cells _ _)).far f5 (Ne.symm hC5)
        have HS5 : Hid (A < w5.heap.size) := by show A < w5.heap.size; have := f5.size; rw [World.size_alloc] at this; have := HSz.out; have := HQ4.out.1.size; omega
        clear hgA hC5 f5 HB5
        refine (new_any _).mono ?_
        rintro e w6 ⟨rfl, hB6, q6, hl6⟩
        have HB6 : Hid (AccOf w6 w5.heap.size [] 0 (fun _ => 0)) := hB6
        have HA6 : Hid (AccOf w6 A (L.map xV) i N) := HA5.out.next q6
        have HQ56 : Hid (Q w5 w6) := q6
        have HL6 : Hid (w5.heap.size < w6.heap.size) := hl6
        clear hB6 q6 hl6
        obtain ⟨B, hBe⟩ : ∃ B, w5.heap.size = B := ⟨_, rfl⟩
        have HBe : Hid (w5.heap.size = B) := hBe
        rw [hBe] at HB6 HL6 ⊢
        clear hBe
        go_wp2_with fail
        refine (acc_add _ [xV u] [] B 0 _ _ (HB6.out.next ((Q.refl _).cells _ _)) (own_usl (own_one w6 _ _) rfl) (fun g' o' c' _ e => by injection e with e; injection e with e; injection e with e; have := HL6.out; omega) (getD_lt_all (fun z hz => by rw [List.mem_singleton.1 hz]; exact HX.out)) (by simp)).mono ?_
        rintro e w7 ⟨rfl, ⟨N7, hB7⟩, f7⟩
        have HB7 : Hid (AccOf w7 B [xV u] 1 N7) := hB7
        have HAB : Hid (A ≠ B) := by show A ≠ B; have := HS5.out; have := HBe.out; omega
        have HA7 : Hid (AccOf w7 A (L.map xV) i N) := (HA6.out.next ((Q.refl _).cells _ _)).far f7 HAB.out
        have HF7 : Hid (Fb B (w6.alloc (.cells #[.int .u32 ((xV u : Nat) : Int)] 23)) w7) := f7
        clear hB7 f7 HB6 HA6
        go_wp2_with fail
        refine (merge_any (L.map xV) [xV u] A B i 1 N N7 _ HA7.out HB7.out (by omega)).mono ?_
        rintro e w8 ⟨rfl, hA8, f8⟩
        obtain ⟨NX, hNX⟩ : ∃ NX, dgV N N7 = NX := ⟨_, rfl⟩
        rw [hNX] at hA8
        clear hNX
        have HAX : Hid (AccOf w8 A (L.map xV ++ [xV u]) (i + 1) NX) := hA8
        have HgB : Hid (g ≠ B) := by
          obtain ⟨_, ⟨hz, _⟩ | ⟨g', cap', cur, hv, _, hh, _⟩⟩ := HO5.out
          · cases hz
          · injection hv with h1
            injection h1 with h1
            injection h1 with h1
            subst h1
            have := (Array.getElem?_eq_some_iff.1 hh).1
            have := HBe.out
            show g ≠ B
            omega
        have HOX : Hid (w8.ownsRow w1''.heap.size 23 1 (.slice (some ⟨g, 0, none⟩) (i + 1) cap) (i + 1) (newsU (L.map xV ++ [xV u]))) := own_fb (own_fb (World.ownsRow.alloc (own_next HO5.out HQ56.out) _) HF7.out (by simp [Value.ownBlock]; exact HgB.out)) f8 (by simp [Value.ownBlock]; exact HgA.out)
        have HQX : Hid (Q w1'' w8) := f8.q (HF7.out.q ((HQ5.out.trans HQ56.out).cells _ _) (by have := HBe.out; have := HA.out; have := HS5.out; omega)) (Nat.le_of_eq HA.out)
        have HSX : Hid (A < w8.heap.size) := Nat.lt_of_lt_of_le HS5.out (by have := f8.size; have := HF7.out.size; rw [World.size_alloc] at this; have := HQ56.out.1.size; omega)
        clear hA8 f8 HO5 HQ5 HS5 HA5 HO4 HQ4 HB7 HA7 HF7 HAB HBe HgB HQ56 HL6
        have HN : Hid ((L ++ [u]).length = i + 1 ∧ (L ++ [u]).sum = sm + u ∧ (∀ v ∈ L ++ [u], v.natAbs ≤ 4194304)) := ⟨by rw [List.length_append, HL.out.1]; rfl, by rw [List.sum_append, HL.out.2.1]; simp, fun z hz => by
          rcases List.mem_append.1 hz with hz | hz
          · exact HL.out.2.2 z hz
          · rw [List.mem_singleton.1 hz]; exact HU.out⟩
        have HM : Hid ((L ++ [u]).map xV = L.map xV ++ [xV u]) := by show (L ++ [u]).map xV = L.map xV ++ [xV u]; simp
        have hsb := sum_bd HN.out.2.2
        rw [HN.out.1, HN.out.2.1] at hsb
        have hsb1 : -83886080000 ≤ sm + u := by omega
        have hsb2 : sm + u ≤ 83886080000 := by omega
        clear hsb
        go_wp2_with fail
        go_roundg (n - (i + 1))
        case measure => go_light; omega
        case rel => go_light; exact ⟨i + 1, s2, L ++ [u], sm + u, _, NX, rfl, hs2, rfl, rfl, by simp, by omega, rfl, hsb1, hsb2, HN, ⟨by rw [HM.out]; exact HOX.out, by simp [Value.ownBlock]; exact HgA.out⟩, by show AccOf _ A ((L ++ [u]).map xV) (i + 1) _; rw [HM.out]; exact HAX.out, HQX, HSX⟩
    · obtain rfl : i = n := by omega
      have hge : ¬ (i : Int) < (i : Int) := by omega
      go_wp2_with fail
      refine (rint_any sm (by omega) (by omega) _).mono ?_
      rintro e w3 ⟨rfl, q3⟩
      have hF : Ieee.single.write (.number (decide (sm < 0)) sm.natAbs 0) < 4294967296 := (by
        have := word_parts32 (decide (sm < 0)) (rungOf_le Ieee.single sm.natAbs 0)
        rw [← nearest_rung] at this
        exact this.2.2)
      have HF : Hid (roundR (scaleR (min (max (-20) (-1000)) 1000) (numOf Ieee.single (Ieee.single.write (.number (decide (sm < 0)) sm.natAbs 0)))) = xV sm) := from_scale (Nat.lt_of_le_of_lt (show sm.natAbs ≤ 83886080000 by omega) (by decide))
      generalize Ieee.single.write (.number (decide (sm < 0)) sm.natAbs 0) = F at *
      have HQ3 : Hid (Q wr w3) := q3
      clear q3
      go_wp2_with fail
      refine (rscale_any F (-20) _ hF).mono ?_
      rintro e w4 ⟨rfl, q4⟩
      rw [HF.out]
      have HQ4 : Hid (Q wr w4) := HQ3.out.trans q4
      clear q4 HQ3 HF hF
      have HE : Hid (sumV (L.map xV) 1 = xV sm) := by
        have h := sumV_xV (L := L) (fun z hz => Nat.lt_of_le_of_lt (HL.out.2.2 z hz) (by decide))
        rw [HL.out.2.1] at h
        exact h
      have HLen : Hid ((L.map xV).length = i) := by show (L.map xV).length = i; rw [List.length_map, HL.out.1]
      have HBd : Hid (∀ z ∈ L.map xV, z < 4294967296) := fun z hz => by
        obtain ⟨y, _, rfl⟩ := List.mem_map.1 hz
        exact xV_lt y
      have HZ : Hid (2 * (sumZ (L.map xV)).natAbs < m64 ^ 5) := sumZ_fits HBd.out (by rw [HLen.out]; omega)
      go_wp2_with fail
      refine (exact_any0 _ (L.map xV) _ (own_usl2 (own_next HO.out.1 HQ4.out) HLen.out) (getD_lt_all HBd.out) (by rw [HLen.out]; omega) ((HQ1.out.trans (HQ.out.trans HQ4.out)).tab HT.out)).mono ?_
      rintro e w5 ⟨rfl, q5⟩
      rw [HE.out]
      have HQ5 : Hid (Q wr w5) := HQ4.out.trans q5
      have HA5 : Hid (AccOf w5 A (L.map xV) i N) := HAc.out.next HQ5.out
      clear q5 HQ4
      generalize xV sm = E at *
      go_wp2_with fail
      refine (asum_any (L.map xV) A i _ _ HA5.out HZ.out ((HQ1.out.trans (HQ.out.trans HQ5.out)).tab HT.out)).mono ?_
      rintro e w6 ⟨rfl, q6⟩
      rw [HE.out]
      have cA := q6.cell HA5.out.c
      have HQ6 : Hid (Q w w6) := HQ1.out.trans (HQ.out.trans (HQ5.out.trans q6))
      clear q6 HQ5 HA5
      go_wp2_with fail
      refine (acount_any A i _ cA).mono ?_
      rintro e w7 ⟨rfl, rfl⟩
      go_wp2_with fail
      go_ret
      exact ⟨by first | rfl | simp, HQ6.out⟩
end Go.Proofs.YtnjagokojdpgpabDoor
/- The statement SumsWhole: its walk, first part. -/
namespace Go.Proofs.YtnjagokojdpgpabDoor
open Go.RowKit
set_option linter.unusedVariables false
set_option linter.unusedSimpArgs false

theorem i_info : ∃ i, Tryd.prog.info? 3 = some i ∧ i.size = 1 ∧ i.bytes = 8 ∧ i.zero = some (.int .i64 0) := info_of (by kernel_rfl) (by kernel_rfl)
def newsI (L : List Int) : List Value := L.map fun x => .int .i64 x
/-- One more whole number behind a list of the call's own. -/
theorem wpList_addI (w w0 : World) (q0 : Q w0 w) {ops : Array Oper} {rest : List Oper} {o : Oper} {a : Act} {R : Exit → Act → World → Prop} (hgd : o.guard = none) (s x : Operand)
    (ho : o.op = .call { callee := .builtin .append, args := #[s, x], argTypes := #[49, 49] })
    (v : Value) (n : Nat) (L : List Int) (hs : a.eval s = v) (hown : w.ownsRow w0.heap.size 3 1 v n (newsI L))
    (g0 : Nat) (u : Int) (hx : a.eval x = .slice (some ⟨g0, 0, none⟩) 1 1) (hu : w.cell? ⟨g0, 0, none⟩ = some (.int .i64 u)) (h63 : n + 1 ≤ 100000)
    (h : ∀ g cap w', w'.ownsRow w0.heap.size 3 1 (.slice (some ⟨g, 0, none⟩) (n + 1) cap) (n + 1) (newsI (L ++ [u])) → Q w0 w' → (∀ B, v.ownBlock ≠ some B → B < w.heap.size → g ≠ B ∧ ∃ C, C ≠ B ∧ Fb C w w') → wpList Tryd.prog ops R rest (a.put o.dst (.slice (some ⟨g, 0, none⟩) (n + 1) cap)) w') :
    wpList Tryd.prog ops R (o :: rest) a w := by
  obtain ⟨iu, i1, i2, i3, i4⟩ := i_info
  refine wpList_plain hgd fun _ hK => ?_
  unfold Oper.wp execOp
  have hap : newsI (L ++ [u]) = newsI L ++ [.int .i64 u] := by simp [newsI]
  obtain ⟨g, cap, w', hr, ho2, hq, hgb, hgg⟩ := run_app_qg (P := Tryd.prog) w w0 q0 49 o.type 3 iu _ 1 8 Tryd.underlying49 i1 i4 i2 i3 rfl (by decide) v n (newsI L) hown ⟨g0, 0, none⟩ 1 1 [.int .i64 u] rfl (fun j z hz => by
    cases j with
    | zero => cases hz; exact hu
    | succ j => cases hz) (fun z hz => by rw [List.mem_singleton.1 hz]; rfl) (by decide) (by unfold maxLen; omega) (by omega)
  simp only [ho, resolve, invoke, builtin, Sem.run_bind, Sem.run_pure, Result.andThen_ok, List.map_toArray, List.map_cons, List.map_nil, hs, hx, hr]
  rw [← hap] at ho2
  refine hK _ _ (h g cap w' ho2 hq fun B hB hlt => ⟨?_, ?_⟩)
  · rcases hgg with h | h
    · intro e; subst e; exact hB h
    · omega
  · cases hv : v.ownBlock with
    | none => exact ⟨w.heap.size, by omega, hgb.os, hgb.tape, hgb.output, hgb.size, fun b hb _ => hgb.block b hb (by rw [hv]; simp), fun a => (hq.2 a).trans (q0.2 a).symm⟩
    | some c => exact ⟨c, fun e => hB (by rw [hv, e]), hgb.os, hgb.tape, hgb.output, hgb.size, fun b hb hne => hgb.block b hb (by rw [hv]; intro e; cases e; exact hne rfl), fun a => (hq.2 a).trans (q0.2 a).symm⟩
theorem own_isl {w : World} {base n : Nat} {v : Value} {L : List Int} (h : w.ownsRow base 3 1 v n (newsI L)) (hn : L.length = n) : ISl w v L := by
  obtain ⟨_, ⟨rfl, h0⟩ | ⟨g, cap, cur, rfl, _, hh, hc, _, hsz, ht⟩⟩ := h
  · exact Or.inr ⟨_, _, rfl, List.eq_nil_of_length_eq_zero (by omega)⟩
  · refine Or.inl ⟨g, 0, cap, by rw [hn], fun i hi => ?_⟩
    have hg : cur.toList[i]? = some (.int .i64 (L.getD i 0)) := by
      have e : (cur.toList.take (n * 1))[i]? = (newsI L)[i]? := by rw [ht]
      rw [List.getElem?_take, if_pos (by omega)] at e
      rw [e]
      unfold newsI
      rw [List.getElem?_map, List.getElem?_eq_getElem hi, List.getD_eq_getElem?_getD, List.getElem?_eq_getElem hi]
      rfl
    unfold World.cell?
    simp only [hh, Nat.zero_add]
    rw [Array.getElem?_toList] at hg
    exact hg
end Go.Proofs.YtnjagokojdpgpabDoor

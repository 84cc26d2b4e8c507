/- What is said of chains: the walk. -/
import Derived.Test.YtmfniimelibhfaaGafed34c4
import Derived.Test.YtmfniimelibhfaaG765a302d
namespace Go.Proofs.Ytmfniimelibhfaa
open Go.RowKit
set_option linter.unusedVariables false
set_option linter.unusedSimpArgs false

theorem run_app_zeroC {P : Program} (w : World) (t ty e : TypeId) (i : TypeInfo) (ht : P.underlying t = some (.slice e)) (hi : P.info? e = some i) (a : Option Addr) (c : Nat) : (Builtin.append_ #[t, t] ty #[.slice none 0 0, .slice a 0 c]).run P w = .ok (.slice none 0 0) w := by
  cases a <;> simp [Builtin.append_, run_underlying ht, sizeOf, typeInfo, hi, Builtin.lenOf, Builtin.firstCells, loadCells, loadCellsFrom]
/-- Appending samples to nothing. -/
theorem wpList_lend (w : World) {ops : Array Oper} {rest : List Oper} {o : Oper} {a : Act} {R : Exit → Act → World → Prop} (hgd : o.guard = none) (x : Operand)
    (ho : o.op = .call { callee := .builtin .append, args := #[.const (.slice none 0 0), x], argTypes := #[23, 23] })
    (ad : Option Addr) (n c : Nat) (xs : List Nat) (hn : xs.length = n) (h100 : n ≤ 100) (hx : a.eval x = .slice ad n c) (hS : USl w (.slice ad n c) xs)
    (h : ∀ la lc w', Q w w' → USl w' (.slice la n lc) xs → wpList Try.prog ops R rest (a.put o.dst (.slice la n lc)) w') :
    wpList Try.prog ops R (o :: rest) a w := by
  obtain ⟨iu, i1, i2, i3, i4⟩ := u32Info
  refine wpList_plain hgd fun _ hK => ?_
  unfold Oper.wp execOp
  by_cases h0 : n = 0
  · subst h0
    have hr := run_app_zeroC (P := Try.prog) w 23 o.type 30 iu Try.underlying23 i1 ad c
    simp only [ho, resolve, invoke, builtin, Sem.run_bind, Sem.run_pure, Result.andThen_ok, List.map_toArray, List.map_cons, List.map_nil, Act.eval, hr]
    simp only [Act.eval] at hx
    rw [hx, hr]
    exact hK _ _ (h none 0 w (Q.refl w) (Or.inr ⟨_, _, rfl, List.length_eq_zero_iff.1 hn⟩))
  · obtain ⟨g, o', c', e1, e2, e3⟩ := hS.lies (by omega)
    have hx' := hx
    rw [e1] at hx'
    obtain ⟨lc, w', hr, q1, q2, q3, q4, q5⟩ := run_app_new (P := Try.prog) w 23 o.type 30 iu _ Try.underlying23 i1 i4 _ (Or.inl rfl) ⟨g, o', none⟩ xs.length c' (xs.map fun (x : Nat) => Value.int .u32 (x : Int)) (by rw [i2, List.length_map, Nat.mul_one]) (fun j u hj => by
      rw [List.getElem?_map] at hj
      have hjl : j < xs.length := by
        cases g : xs[j]? with
        | none => rw [g] at hj; cases hj
        | some y => exact (List.getElem?_eq_some_iff.1 g).1
      rw [show (⟨g, o', none⟩ : Addr).add j = ⟨g, o' + j, none⟩ by unfold Addr.add; split <;> simp_all]
      rw [e3 j hjl, List.getD_eq_getElem?_getD]
      rw [List.getElem?_eq_getElem hjl] at hj ⊢
      exact hj) (by omega) (by omega) (by rw [i3]; omega)
    simp only [ho, resolve, invoke, builtin, Sem.run_bind, Sem.run_pure, Result.andThen_ok, List.map_toArray, List.map_cons, List.map_nil, Act.eval]
    simp only [Act.eval] at hx'
    rw [hx', hr]
    refine hK _ _ ?_
    have hh := h (some ⟨w.heap.size, 0, none⟩) lc w' q1 (Or.inl ⟨w.heap.size, 0, lc, by rw [hn], by omega, fun j hj => ?_⟩)
    · rw [hn]; exact hh
    · rw [Nat.zero_add]
      refine q4 j _ ?_
      rw [List.getElem?_map, List.getD_eq_getElem?_getD, List.getElem?_eq_getElem hj]; rfl
/-- A list of pointers that is written over. -/
structure Wipe (w wr : World) (z n b : Nat) (ll : List (List (Nat × Nat))) : Prop where
  q : Q w wr
  ch : ChZ wr z b ll
  room : ∀ j, j < n → ∃ v, wr.cell? ⟨z, j, none⟩ = some v
  free : ∀ j, wr.frozen? ⟨z, j, none⟩ = false
  low : w.heap.size ≤ z
theorem Wipe.step {w wr : World} {z n b : Nat} {ll : List (List (Nat × Nat))} (h : Wipe w wr z n b ll) {i : Nat} (hi : i < n) (v : Value) : Wipe w (wr.setCell ⟨z, i, none⟩ v) z n b ll := by
  obtain ⟨u, hu⟩ := h.room i hi
  refine ⟨h.q.set h.low _, h.ch.put _ _, fun j hj => ?_, fun j => ?_, h.low⟩
  · by_cases e : j = i
    · subst e; exact ⟨_, World.cell?_setCell_same _ _ _ hu⟩
    · rw [World.cell?_setCell_other _ _ _ _ (by simp <;> omega)]; exact h.room j hj
  · rw [World.frozen?_setCell]; exact h.free j
/-- A list of samples whose head was written over. -/
structure Rest (w wr : World) (g n : Nat) (f : Nat → Nat) (i : Nat) : Prop where
  q : Q w wr
  low : w.heap.size ≤ g
  rest : ∀ j, i ≤ j → j < n → wr.cell? ⟨g, j, none⟩ = some (.int .u32 (f j : Nat))
  free : ∀ j, wr.frozen? ⟨g, j, none⟩ = false
theorem Rest.next {w wr wx : World} {g n : Nat} {f : Nat → Nat} {i : Nat} (h : Rest w wr g n f i) (q : Q wr wx) : Rest w wx g n f i := ⟨h.q.trans q, h.low, fun j h1 h2 => q.cell (h.rest j h1 h2), fun j => (q.2 _).trans (h.free j)⟩
theorem Rest.step {w wr : World} {g n : Nat} {f : Nat → Nat} {i : Nat} (h : Rest w wr g n f i) (v : Value) : Rest w (wr.setCell ⟨g, i, none⟩ v) g n f (i + 1) :=
  ⟨h.q.set h.low _, h.low, fun j h1 h2 => by rw [World.cell?_setCell_other _ _ _ _ (by simp <;> omega)]; exact h.rest j (by omega) h2, fun j => by rw [World.frozen?_setCell]; exact h.free j⟩

set_option maxHeartbeats 8000000 in
set_option maxRecDepth 100000 in
theorem chains_walk (sv xv yv : Value) (ll : List (List (Nat × Nat))) (xs ys : List Nat) (hf : Fits ll) (hxt : ∀ i, xs.getD i 0 < 4294967296) (hyt : ∀ i, ys.getD i 0 < 4294967296) (bl : ll.length ≤ 9223372036854775807) (bx : xs.length ≤ 9223372036854775807) (bby : ys.length ≤ 9223372036854775807) (w : World) (hk : VLs w sv ll) (hx : USl w xv xs) (hy : USl w yv ys) :
    Calls Try.prog 6 #[sv, xv, yv] w fun e w' => e = .returned (.bool true) ∧ Q w w' := by
  obtain ⟨a, cap, ev⟩ := hk.form
  obtain ⟨a', cap', ex⟩ := hx.form
  obtain ⟨a'', cap'', ey⟩ := hy.form
  subst ev ex ey
  have HK : Hid (VLs w (.slice a ll.length cap) ll) := hk
  have HX : Hid (USl w (.slice a' xs.length cap') xs) := hx
  have HY : Hid (USl w (.slice a'' ys.length cap'') ys) := hy
  have HF : Hid (Fits ll) := hf
  have HU : Hid (∀ i, xs.getD i 0 < 4294967296) := hxt
  have HV : Hid (∀ i, ys.getD i 0 < 4294967296) := hyt
  obtain ⟨N, hN⟩ : ∃ N, ll.length = N := ⟨_, rfl⟩
  obtain ⟨nx, hnx⟩ : ∃ nx, xs.length = nx := ⟨_, rfl⟩
  obtain ⟨ny, hny⟩ : ∃ ny, ys.length = ny := ⟨_, rfl⟩
  have HN : Hid (ll.length = N) := hN
  have HNX : Hid (xs.length = nx) := hnx
  have HNY : Hid (ys.length = ny) := hny
  rw [hN] at HK bl ⊢
  rw [hnx] at HX bx ⊢
  rw [hny] at HY bby ⊢
  obtain ⟨i, i1, i2, i3, i4⟩ := knotInfo
  have HI : Hid (Try.prog.info? 32 = some i ∧ i.size = 2 ∧ i.bytes = 8 ∧ i.zero = some (.agg #[.int .u32 0, .int .u32 0])) := ⟨i1, i2, i3, i4⟩
  clear i1 i2 i3 i4
  obtain ⟨pi, i1, i2, i3, i4⟩ := ptrInfo
  have HP : Hid (Try.prog.info? 25 = some pi ∧ pi.size = 1 ∧ pi.bytes = 8 ∧ pi.zero = some (.pointer none)) := ⟨i1, i2, i3, i4⟩
  clear i1 i2 i3 i4
  clear hk hx hy hf hxt hyt hN hnx hny
  go_enter Try.func6, Try.ntmps6
  go_wp2_with fail
  refine (known_any _).mono ?_
  rintro e w1 ⟨rfl, q1⟩
  by_cases h1 : 12 < N
  · have g1 : (12 : Int) < (N : Int) := by omega
    go_wp2_with fail
    go_ret
    exact ⟨rfl, q1⟩
  · have g1 : ¬ (12 : Int) < (N : Int) := by omega
    have g2 : decide ((12 : Int) < (N : Int)) = false := decide_eq_false g1
    by_cases h2 : 100 < nx
    · have g3 : (100 : Int) < (nx : Int) := by omega
      go_wp2_with fail
      go_ret
      exact ⟨rfl, q1⟩
    · have g3 : ¬ (100 : Int) < (nx : Int) := by omega
      have g4 : decide ((100 : Int) < (nx : Int)) = false := decide_eq_false g3
      by_cases h3 : 30 < ny
      · have g5 : (30 : Int) < (ny : Int) := by omega
        go_wp2_with fail
        go_ret
        exact ⟨rfl, q1⟩
      · have g5 : ¬ (30 : Int) < (ny : Int) := by omega
        have g6 : decide ((30 : Int) < (ny : Int)) = false := decide_eq_false g5
        have Q1 : Hid (Q w w1) := q1
        have A0 : Hid (Alls ll w w1 (.slice none 0 0) 0) := ⟨q1, [], ⟨by simp, Or.inl ⟨rfl, rfl⟩⟩, fun i hi => absurd hi (Nat.not_lt_zero _)⟩
        clear q1
        go_wp2_with fail
        clear g1 g2 g3 g4 g5 g6
        go_loopg [7, 8] N (fun m s7 s8 wr => ∃ k : Nat, s8 = .int .i64 k ∧ k + m = N ∧ Hid (Alls ll w wr s7 k) ∧ Hid (∀ i, i < k → Good (ll.getD i [])))
        case atStart => exact ⟨0, rfl, by omega, A0, (fun i hi => absurd hi (Nat.not_lt_zero _) : ∀ i, i < 0 → Good (ll.getD i []))⟩
        case round =>
          obtain ⟨k, rfl, hm, AK, GK⟩ := hrel
          by_cases hkn : k < N
          · have hkl : k < ll.length := by rw [HN.out]; exact hkn
            have hqx := AK.out.q
            obtain ⟨gx, ox, hae⟩ : ∃ gx ox, a = some ⟨gx, ox, none⟩ := by
              rcases HK.out with ⟨g, o, c, e, _⟩ | ⟨_, _, _, e⟩
              · injection e with e; exact ⟨g, o, e⟩
              · exfalso; rw [e] at hkl; exact Nat.not_lt_zero _ hkl
            subst hae
            obtain ⟨u, cx, ku⟩ : ∃ u, wr.cell? ⟨gx, ox + k, none⟩ = some u ∧ KSl wr u (ll.getD k []) := by
              rcases HK.out with ⟨g, o, c, e, _, h⟩ | ⟨_, _, _, e⟩
              · injection e with e; injection e with e; injection e with e1 e2; subst e1; subst e2
                obtain ⟨u, h1, h2⟩ := h k hkl
                exact ⟨u, hqx.cell h1, h2.next hqx⟩
              · exfalso; rw [e] at hkl; exact Nat.not_lt_zero _ hkl
            obtain ⟨f1, f2⟩ := HF.out _ (getD_mem hkl)
            obtain ⟨L, hL⟩ : ∃ L, ll.getD k [] = L := ⟨_, rfl⟩
            have HLk : Hid (ll.getD k [] = L) := hL
            rw [hL] at ku f1 f2
            obtain ⟨au, cu, rfl⟩ := ku.form
            have KU : Hid (KSl wr (.slice au L.length cu) L) := ku
            have FT : Hid (∀ i, kx L i < 4294967296 ∧ ky L i < 4294967296) := f2
            have hi0 : (0 : Int) ≤ (k : Int) := by omega
            have hi1 : (k : Int) < (N : Int) := by omega
            have HQX : Hid (Q w wr) := hqx
            clear hL hkl ku f2 hqx
            by_cases h64 : 64 < L.length
            · have g1 : (64 : Int) < (L.length : Int) := by omega
              go_wp2_with fail
              go_ret
              exact ⟨rfl, HQX.out⟩
            · have g1 : ¬ (64 : Int) < (L.length : Int) := by omega
              have g2 : decide ((64 : Int) < (L.length : Int)) = false := decide_eq_false g1
              go_wp2_with fail
              refine (rcheck_all _ L (by omega) FT.out _ KU.out).mono ?_
              rintro e wc ⟨qc, r, rfl, hb | ⟨hg, rfl⟩⟩
              · have hr : (r != 0) = true := by
                  rcases hb with ⟨_, e⟩ | ⟨_, _, _, e⟩ | ⟨_, _, _, _, e⟩ <;> rw [e] <;> decide
                clear hb
                go_wp2_with fail
                go_ret
                exact ⟨rfl, HQX.out.trans qc⟩
              · have G2 : Hid (∀ i, i < k + 1 → Good (ll.getD i [])) := by
                  intro i hi
                  by_cases e : i = k
                  · subst e; rw [HLk.out]; exact hg
                  · exact GK.out i (by omega)
                have GD : Hid (Good L) := hg
                have l2 : 2 ≤ L.length := hg.1
                replace AK : Hid (Alls ll w wc u7 k) := AK.out.next qc
                replace cx := qc.cell cx
                obtain ⟨gk', ok, ck, e1, p2, p3⟩ : ∃ gk' ok ck, Value.slice au L.length cu = .slice (some ⟨gk', ok, none⟩) L.length ck ∧ L.length ≤ ck ∧ KIs wc gk' ok L := by
                  rcases KU.out with ⟨g, o, c, e1, e2, e3⟩ | ⟨_, _, _, e⟩
                  · exact ⟨g, o, c, e1, e2, e3.next qc⟩
                  · exfalso; rw [e] at l2; exact absurd l2 (by decide)
                injection e1 with e1 _ e3
                subst e1 e3
                have H1 : Hid (∀ j u, (flat L)[j]? = some u → wc.cell? ((⟨gk', ok, none⟩ : Addr).add j) = some u) := p3.flat_cells
                have H2 : Hid ((flat L).length = L.length * i.size) := by show (flat L).length = L.length * i.size; rw [HI.out.2.1, flat_len]
                have H3 : Hid (L.length * i.bytes ≤ 140737488355328) := by show L.length * i.bytes ≤ 140737488355328; rw [HI.out.2.2.1]; omega
                clear p3 hg qc GK KU HQX
                go_wp2_with (at_builtin; go_must (refine wpList_app _ rfl (.const (.slice none 0 0)) (.tmp 62) 22 rfl 32 i _ Try.underlying22 HI.out.1 HI.out.2.2.2 _ (Or.inl rfl) rfl _ L.length cu (flat L) rfl H2.out (fun j u h => H1.out j u h) (by omega) (by omega) H3.out ?_; intro capn w2 q2 qc2 qs2 q4 q5))
                have K1 : Hid (KIs w2 wc.heap.size 0 L) := KIs.of_flat q4
                have A1 : Hid (Alls ll w w2 u7 k) := AK.out.next q2
                clear qs2 q4 q5 H1 H2 H3 AK cx q2
                refine (new_all _ L (by omega) FT.out _ (Or.inl ⟨_, _, _, rfl, qc2, K1.out⟩)).mono ?_
                rintro e w3 ⟨p2', ⟨r, rfl, hb⟩ | ⟨b, rfl, hc, _⟩⟩
                · exact absurd hb (fun hb => good_bad GD.out hb)
                · have A2 : Hid (Alls ll w w3 u7 k) := A1.out.next p2'
                  have CA : Hid (CAp w3 u7.ownBlock b (ll.getD k [])) := by
                    show CAp w3 u7.ownBlock b (ll.getD k [])
                    rw [HLk.out]
                    exact A1.out.apart hc (by omega)
                  clear hc qc2 p2' A1 K1
                  obtain ⟨ps, o1, o2⟩ := A2.out.it
                  have hpl : ps.length = k := by have := o1.1; omega
                  have O1 : Hid ((w3.alloc (.cells #[.pointer (some ⟨b, 0, none⟩)] 25)).ownsRow w.heap.size 25 1 u7 k ps) := own_next o1 ((Q.refl w3).cells _ _)
                  have QB : Hid (Q w (w3.alloc (.cells #[.pointer (some ⟨b, 0, none⟩)] 25))) := A2.out.q.cells _ _
                  have O2 : Hid (∀ i, i < k → ∃ b', ps[i]? = some (.pointer (some ⟨b', 0, none⟩)) ∧ CAp (w3.alloc (.cells #[.pointer (some ⟨b, 0, none⟩)] 25)) u7.ownBlock b' (ll.getD i [])) := fun i hi => by
                    obtain ⟨b', a1, a2⟩ := o2 i hi
                    exact ⟨b', a1, a2.next ((Q.refl w3).cells _ _)⟩
                  have CB : Hid (CAp (w3.alloc (.cells #[.pointer (some ⟨b, 0, none⟩)] 25)) u7.ownBlock b (ll.getD k [])) := CA.out.next ((Q.refl w3).cells _ _)
                  have m1 : k + 1 ≤ maxLen := by unfold maxLen; omega
                  have m2 : (k + 1) * 8 ≤ 140737488355328 := by omega
                  clear o1 o2 CA A2
                  go_wp2_with (at_builtin; go_must (refine wpList_app_qg _ w QB.out rfl (.tmp 73) (.tmp 75) 53 rfl 25 pi _ 1 8 Try.underlying53 HP.out.1 HP.out.2.2.2 HP.out.2.1 HP.out.2.2.1 rfl (by decide) u7 k ps (by simp [Act.eval, Act.put]) O1.out _ 1 1 [.pointer (some ⟨b, 0, none⟩)] (by simp [Act.eval, Act.put]) rfl (news1 _ _ _) (one1 _) (by decide) m1 m2 ?_; intro g7 cap7 w7 own7 q7 gr7 ho7))
                  have A3 : Hid (Alls ll w w7 (.slice (some ⟨g7, 0, none⟩) (k + 1) cap7) (k + 1)) := Alls.push hpl O2.out CB.out own7 q7 gr7 ho7
                  clear own7 q7 gr7 ho7 O1 O2 QB CB
                  go_roundg (N - (k + 1))
                  case measure => go_light; omega
                  case rel => go_light; exact ⟨k + 1, by go_num, by omega, A3, G2⟩
          · have hkN : k = N := by omega
            have QW : Hid (Q w wr) := AK.out.q
            obtain ⟨ps, o1, o2⟩ := AK.out.it
            rw [hkN] at o1 o2
            by_cases hsz : N < 1 ∨ 8 < N
            · obtain ⟨pa, pc, hu7⟩ : ∃ pa pc, u7 = .slice pa N pc := by
                rcases o1.2 with ⟨e, h0⟩ | ⟨g', cap', cur, e, _⟩
                · exact ⟨_, _, by rw [e, h0]⟩
                · exact ⟨_, _, e⟩
              have JN : Hid (Calls Try.prog 24 #[.slice pa N pc] wr fun e w' => e = .returned (.tuple #[.pointer none, .int .i64 40]) ∧ w' = wr) := join_no pa N pc hsz (by omega) wr
              have hz : ((N : Int) == 0) = true ∨ (((N : Int) == 0) = false ∧ decide ((8 : Int) < (N : Int)) = true ∧ (8 : Int) < (N : Int)) := by
                rcases hsz with h | h
                · left; simp; omega
                · right; exact ⟨by rw [beq_eq_false_iff_ne]; omega, decide_eq_true (by omega), by omega⟩
              rw [hu7]
              rw [hkN]
              have hkN2 : ¬ (N : Int) < (N : Int) := by omega
              clear o1 o2 AK GK hsz hu7 hkn hkN hm
              rcases hz with e0 | ⟨e0, e1, e2⟩
              · go_wp2_with fail
                refine JN.out.mono ?_
                rintro e w2 ⟨rfl, rfl⟩
                go_wp2_with fail
                go_ret
                exact ⟨rfl, QW.out⟩
              · go_wp2_with fail
                refine JN.out.mono ?_
                rintro e w2 ⟨rfl, rfl⟩
                go_wp2_with fail
                go_ret
                exact ⟨rfl, QW.out⟩
            · have n1 : 1 ≤ N := by omega
              have n8 : N ≤ 8 := by omega
              obtain ⟨z, cz, cur, rfl, hz1, hz2, hz3, hz4, hz5, hz6⟩ : ∃ z cz cur, u7 = .slice (some ⟨z, 0, none⟩) N cz ∧ w.heap.size ≤ z ∧ wr.heap[z]? = some (.cells cur 25 (0, 0)) ∧ N ≤ cz ∧ cz ≤ maxLen ∧ cur.size = cz * 1 ∧ cur.toList.take (N * 1) = ps := by
                rcases o1.2 with ⟨_, h0⟩ | h
                · omega
                · exact h
              have GD : Hid (∀ i, i < ll.length → Good (ll.getD i [])) := fun i hi => GK.out i (by rw [HN.out] at hi; omega)
              have PZ : PLz wr z z 0 ll := by
                intro j hj
                rw [HN.out] at hj
                obtain ⟨b, a1, a2⟩ := o2 j hj
                obtain ⟨gg, cc, d1, d2, a3, a4, _, a5⟩ := a2
                refine ⟨b, ?_, ⟨gg, 0, cc, a3, a4, a5, fun e => d2 (by rw [e]; rfl)⟩⟩
                rw [Nat.zero_add, cell_of_row _ _ j cur 25 (0, 0) hz2]
                rw [← hz6, List.getElem?_take, if_pos (by omega)] at a1
                simpa using a1
              have hzl : z < wr.heap.size := by
                rcases Nat.lt_or_ge z wr.heap.size with hlt | hge
                · exact hlt
                · rw [Array.getElem?_eq_none hge] at hz2; cases hz2
              have JA : Hid (Calls Try.prog 24 #[.slice (some ⟨z, 0, none⟩) N cz] wr fun e w' => Q wr w' ∧ ∃ b, e = .returned (.tuple #[.pointer (some ⟨b, 0, none⟩), .int .i64 0]) ∧ ChZ w' z b ll) := by
                have := joinz_any z z 0 cz ll (by rw [HN.out]; exact n1) (by rw [HN.out]; exact n8) wr hzl PZ
                rw [HN.out] at this
                exact this
              have RO : Hid (∀ j, j < N → ∃ v, wr.cell? ⟨z, j, none⟩ = some v) := fun j hj => by
                rw [cell_of_row _ _ j cur 25 (0, 0) hz2]
                exact ⟨_, Array.getElem?_eq_getElem (by omega)⟩
              have FO : Hid (∀ j, wr.frozen? ⟨z, j, none⟩ = false) := fun j => frozen_of_row _ _ _ _ _ hz2
              have e0 : ((N : Int) == 0) = false := by rw [beq_eq_false_iff_ne]; omega
              have e1 : ¬ (8 : Int) < (N : Int) := by omega
              have e2 : decide ((8 : Int) < (N : Int)) = false := decide_eq_false e1
              have HZ : Hid (w.heap.size ≤ z) := hz1
              clear o1 o2 AK GK PZ hz2 hz3 hz4 hz5 hz6 hzl hz1
              go_wp2_with fail
              refine JA.out.mono ?_
              rintro e w2 ⟨q2, b, rfl, hc⟩
              have W0 : Hid (Wipe w w2 z N b ll) := ⟨QW.out.trans q2, hc, fun j hj => by obtain ⟨v, hv⟩ := RO.out j hj; exact ⟨v, q2.cell hv⟩, fun j => (q2.2 _).trans (FO.out j), HZ.out⟩
              clear hc q2 JA RO FO QW
              go_wp2_with fail
              go_loopg [13] N (fun m s13 wx => ∃ i : Nat, s13 = .int .i64 i ∧ i + m = N ∧ Hid (Wipe w wx z N b ll))
              case atStart => exact ⟨0, rfl, by omega, W0⟩
              case round =>
                obtain ⟨j, rfl, hj, WJ⟩ := hrel
                by_cases hjn : j < N
                · have hj0 : (0 : Int) ≤ (j : Int) := by omega
                  have hj1 : (j : Int) < (N : Int) := by omega
                  obtain ⟨u, hu⟩ := WJ.out.room j hjn
                  have fz := WJ.out.free j
                  have WN : Hid (Wipe w (wr.setCell ⟨z, j, none⟩ (.pointer none)) z N b ll) := WJ.out.step hjn _
                  go_wp2_with fail
                  go_roundg (N - (j + 1))
                  case measure => go_light; omega
                  case rel => go_light; exact ⟨j + 1, by go_num, by omega, WN⟩
                · have hjN : j = N := by omega
                  have CH : Hid (ChIs wr b ll) := WJ.out.ch.is
                  have QR : Hid (Q w wr) := WJ.out.q
                  have HXr : Hid (USl wr (.slice a' nx cap') xs) := HX.out.next QR.out
                  generalize wr = wt at *
                  clear W0 WJ
                  go_wp2_with (at_builtin; go_must (refine wpList_lend _ rfl (.tmp 111) rfl a' nx cap' xs HNX.out (by omega) (by simp [Act.eval, Act.put]) HXr.out ?_; intro la lc wl ql ul))
                  have LOK : Hid (LOk ll) := ⟨by rw [HN.out]; exact n1, by rw [HN.out]; exact n8, fun l hl => by
                    obtain ⟨i, hi, rfl⟩ := List.getElem_of_mem hl
                    have := GD.out i hi
                    rw [List.getD_eq_getElem?_getD, List.getElem?_eq_getElem hi] at this
                    exact good_ok this (HF.out _ hl).2⟩
                  have UL : Hid (USl wl (.slice la nx lc) xs) := ul
                  have QL : Hid (Q w wl) := QR.out.trans ql
                  have CHl : Hid (ChIs wl b ll) := CH.out.next ql
                  have MP : Hid (Calls Try.prog 25 #[.func (.func 26) #[.pointer (some ⟨b, 0, none⟩)] #[], .slice la nx lc] wl fun e w' => ∃ g n, e = .returned (.slice (some ⟨g, 0, none⟩) n n) ∧ n = xs.length ∧ Hid (Fill wl w' g n (fun i => chainV ll (xs.getD i 0)) n)) := map_any b ll LOK.out _ xs HU.out (by rw [HNX.out]; omega) wl CHl.out UL.out
                  clear ql ul HXr CH QR
                  go_wp2_with fail
                  refine MP.out.mono ?_
                  rintro e wm ⟨gm, nm, rfl, hnm, FM⟩
                  have hnm2 : nm = nx := by rw [hnm]; exact HNX.out
                  subst hnm2
                  have hnn : ((nm : Int) == (nm : Int)) = true := by simp
                  have QM : Hid (Q wl wm) := FM.out.q
                  have WY : Hid (Calls Try.prog 27 #[.slice la nm lc, .slice a' nm cap'] wm fun e w' => e = .returned (.bool true) ∧ Q wm w') := words_yes _ _ xs wm (UL.out.next QM.out) (HX.out.next (QL.out.trans QM.out)) (by rw [HNX.out]; omega)
                  clear hnm MP
                  go_wp2_with fail
                  refine WY.out.mono ?_
                  rintro e wn ⟨rfl, qn⟩
                  have R0 : Hid (Rest wl wn gm nm (fun i => chainV ll (xs.getD i 0)) 0) := ⟨QM.out.trans qn, FM.out.new, fun j _ hj => qn.cell (FM.out.done j hj), fun j => (qn.2 _).trans (FM.out.free j)⟩
                  obtain ⟨gl, ol, rfl, hll⟩ : ∃ gl ol, a = some ⟨gl, ol, none⟩ ∧ LLs w gl ol ll := HK.out.lls (by rw [HN.out]; exact n1) GD.out
                  have HLL : Hid (LLs w gl ol ll) := hll
                  clear hll qn WY FM UL
                  go_wp2_with fail
                  go_loopg [16] nm (fun m s16 wx => ∃ i : Nat, s16 = .int .i64 i ∧ i + m = nm ∧ Hid (Rest wl wx gm nm (fun i => chainV ll (xs.getD i 0)) i))
                  case atStart => exact ⟨0, rfl, by omega, R0⟩
                  case round =>
                    obtain ⟨p, rfl, hp, RP⟩ := hrel
                    by_cases hpn : p < nm
                    · have hp0 : (0 : Int) ≤ (p : Int) := by omega
                      have hp1 : (p : Int) < (nm : Int) := by omega
                      have QP : Hid (Q w wr) := QL.out.trans RP.out.q
                      obtain ⟨gx, ox, cx, f1, f2, f3⟩ := HX.out.lies (by rw [HNX.out]; omega)
                      injection f1 with f1 hh1 hh2
                      clear hh1 hh2
                      subst f1
                      have c1 := QP.out.cell (f3 p (by rw [HNX.out]; exact hpn))
                      have hxi := HU.out p
                      obtain ⟨x, hxe⟩ : ∃ x, xs.getD p 0 = x := ⟨_, rfl⟩
                      have m1 := RP.out.rest p (Nat.le_refl _) hpn
                      rw [hxe] at c1 hxi m1
                      have AA : Hid (Calls Try.prog 28 #[.slice (some ⟨gl, ol, none⟩) N cap, .int .u32 (x : Int)] wr fun e w' => e = .returned (.int .u32 (chainV ll x : Nat)) ∧ Q wr w') := by
                        have := ratall_any gl ol cap ll LOK.out.all (by rw [HN.out]; omega) x hxi wr (HLL.out.next QP.out)
                        rw [HN.out] at this
                        exact this
                      have BB : Hid (∀ w' : World, Q wr w' → Calls Try.prog 26 #[.pointer (some ⟨b, 0, none⟩), .int .u32 (x : Int)] w' fun e w'' => e = .returned (.int .u32 (chainV ll x : Nat)) ∧ Q w' w'') := fun w' q => ch_at_any b ll LOK.out x hxi w' ((CHl.out.next RP.out.q).next q)
                      have hc2 : (chainV ll x : Nat) = chainV ll x := rfl
                      obtain ⟨v, hv⟩ : ∃ v, chainV ll x = v := ⟨_, rfl⟩
                      rw [hv] at AA BB m1
                      have hvv : ((v : Int) == (v : Int)) = true := by simp
                      clear hv hxe f2 f3 hc2
                      go_wp2_with fail
                      refine AA.out.mono ?_
                      rintro e v1 ⟨rfl, r1⟩
                      replace c1 := r1.cell c1
                      have R1 : Hid (Rest wl v1 gm nm (fun i => chainV ll (xs.getD i 0)) p) := RP.out.next r1
                      replace m1 := r1.cell m1
                      go_wp2_with fail
                      refine (BB.out v1 r1).mono ?_
                      rintro e v2 ⟨rfl, r2⟩
                      replace m1 := r2.cell m1
                      have fz : v2.frozen? ⟨gm, p, none⟩ = false := (r2.2 _).trans (R1.out.free p)
                      have RN : Hid (Rest wl (v2.setCell ⟨gm, p, none⟩ (.int .u32 3)) gm nm (fun i => chainV ll (xs.getD i 0)) (p + 1)) := (R1.out.next r2).step _
                      clear AA BB R1 c1 r1 r2
                      go_wp2_with fail
                      go_roundg (nm - (p + 1))
                      case measure => go_light; omega
                      case rel => go_light; exact ⟨p + 1, by go_num, by omega, RN⟩
                    · have hpe : p = nm := by omega
                      subst hpe
                      have QZ : Hid (Q w wr) := QL.out.trans RP.out.q
                      have CZ : Hid (ChIs wr b ll) := CHl.out.next RP.out.q
                      generalize wr = wz at *
                      clear R0 RP
                      have hFl : (kx (ll.getD 0 []) 0) < 4294967296 := LOK.out.first.1
                      have hLl : (kx (ll.getD 0 []) ((ll.getD 0 []).length - 1)) < 4294967296 := LOK.out.first.2
                      have hkk := LOK.out.keys
                      have hcl := climbs_chain LOK.out
                      have HS : Hid (∀ (y X B : Nat) (H : Bool), X < 4294967296 → B < 4294967296 → checkB (chainV ll) (kx (ll.getD 0 []) 0) (kx (ll.getD 0 []) ((ll.getD 0 []).length - 1)) y X B H = (decide (lpE (chainV ll) (kx (ll.getD 0 []) ((ll.getD 0 []).length - 1)) y = 0) && (decide (X = lpX (chainV ll) (kx (ll.getD 0 []) 0) (kx (ll.getD 0 []) ((ll.getD 0 []).length - 1)) y) && (decide (B = lpB (chainV ll) (kx (ll.getD 0 []) 0) (kx (ll.getD 0 []) ((ll.getD 0 []).length - 1)) y) && decide (H = lpH (chainV ll) (kx (ll.getD 0 []) 0) (kx (ll.getD 0 []) ((ll.getD 0 []).length - 1)) y))))) := fun y X B H hX hB => check_same hFl hLl hkk hcl y X B H hX hB
                      have HLT : Hid (∀ y, lpX (chainV ll) (kx (ll.getD 0 []) 0) (kx (ll.getD 0 []) ((ll.getD 0 []).length - 1)) y < 4294967296 ∧ lpB (chainV ll) (kx (ll.getD 0 []) 0) (kx (ll.getD 0 []) ((ll.getD 0 []).length - 1)) y < 4294967296) := fun y => lp_lt hLl hkk y
                      have HR1 : Hid (∀ (y : Nat) (W : World), y < 4294967296 → Q wz W → Calls Try.prog 15 #[.slice (some ⟨gl, ol, none⟩) N cap, .int .u32 (y : Int)] W fun e w' => e = .returned (.tuple #[prV (lpX (chainV ll) (kx (ll.getD 0 []) 0) (kx (ll.getD 0 []) ((ll.getD 0 []).length - 1)) y) (lpB (chainV ll) (kx (ll.getD 0 []) 0) (kx (ll.getD 0 []) ((ll.getD 0 []).length - 1)) y) (lpH (chainV ll) (kx (ll.getD 0 []) 0) (kx (ll.getD 0 []) ((ll.getD 0 []).length - 1)) y), .int .i64 (lpE (chainV ll) (kx (ll.getD 0 []) ((ll.getD 0 []).length - 1)) y)]) ∧ Q W w') := fun y W hy q => by
                        have := rleast_any gl ol cap ll LOK.out.all LOK.out.one (by have := LOK.out.many; omega) y hy W (HLL.out.next (QZ.out.trans q)) _ _ rfl rfl
                        rw [HN.out] at this
                        exact this
                      have HYz : Hid (USl wz (.slice a'' ny cap'') ys) := HY.out.next QZ.out
                      clear hFl hLl hkk hcl
                      go_wp2_with fail
                      go_loopg [18] ny (fun m s18 wx => ∃ k : Nat, s18 = .int .i64 k ∧ k + m = ny ∧ Hid (Q wz wx))
                      case atStart => exact ⟨0, rfl, by omega, Q.refl _⟩
                      case round =>
                        obtain ⟨t, rfl, ht, HQT⟩ := hrel
                        by_cases htn : t < ny
                        · have ht0 : (0 : Int) ≤ (t : Int) := by omega
                          have ht1 : (t : Int) < (ny : Int) := by omega
                          obtain ⟨gy, oy, cy, f1, f2, f3⟩ := HYz.out.lies (by rw [HNY.out]; omega)
                          injection f1 with f1 hh1 hh2
                          clear hh1 hh2
                          subst f1
                          have cx := HQT.out.cell (f3 t (by rw [HNY.out]; exact htn))
                          have hyk := HV.out t
                          obtain ⟨Y, hY⟩ : ∃ Y, ys.getD t 0 = Y := ⟨_, rfl⟩
                          rw [hY] at cx hyk
                          clear hY f2 f3
                          have R1 := HR1.out Y
                          have R2 : ∀ W, Q wz W → Calls Try.prog 29 #[.pointer (some ⟨b, 0, none⟩), .int .u32 (Y : Int)] W fun e w' => e = .returned (.tuple #[prV (lpX (chainV ll) (kx (ll.getD 0 []) 0) (kx (ll.getD 0 []) ((ll.getD 0 []).length - 1)) Y) (lpB (chainV ll) (kx (ll.getD 0 []) 0) (kx (ll.getD 0 []) ((ll.getD 0 []).length - 1)) Y) (lpH (chainV ll) (kx (ll.getD 0 []) 0) (kx (ll.getD 0 []) ((ll.getD 0 []).length - 1)) Y), .int .i64 (lpE (chainV ll) (kx (ll.getD 0 []) ((ll.getD 0 []).length - 1)) Y)]) ∧ Q W w' := fun W q => ch_cleastm_any b ll LOK.out Y W (CZ.out.next q)
                          have R3 : ∀ (X B : Nat) (H : Bool) (W : World), X < 4294967296 → B < 4294967296 → Q wz W → Calls Try.prog 30 #[.pointer (some ⟨b, 0, none⟩), .int .u32 (Y : Int), prV X B H] W fun e w' => e = .returned (.bool (checkB (chainV ll) (kx (ll.getD 0 []) 0) (kx (ll.getD 0 []) ((ll.getD 0 []).length - 1)) Y X B H)) ∧ Q W w' := fun X B H W hX hB q => ch_ccheckm_any b ll LOK.out Y X B H hX hB W (CZ.out.next q)
                          have S1 := HS.out Y
                          obtain ⟨x1, x2⟩ := HLT.out Y
                          have x3 : lpE (chainV ll) (kx (ll.getD 0 []) ((ll.getD 0 []).length - 1)) Y = 0 ∨ lpE (chainV ll) (kx (ll.getD 0 []) ((ll.getD 0 []).length - 1)) Y = 43 := by unfold lpE; split; exact Or.inl rfl; exact Or.inr rfl
                          generalize lpX (chainV ll) (kx (ll.getD 0 []) 0) (kx (ll.getD 0 []) ((ll.getD 0 []).length - 1)) Y = X at R1 R2 S1 x1
                          generalize lpB (chainV ll) (kx (ll.getD 0 []) 0) (kx (ll.getD 0 []) ((ll.getD 0 []).length - 1)) Y = B at R1 R2 S1 x2
                          generalize lpH (chainV ll) (kx (ll.getD 0 []) 0) (kx (ll.getD 0 []) ((ll.getD 0 []).length - 1)) Y = H at R1 R2 S1
                          generalize lpE (chainV ll) (kx (ll.getD 0 []) ((ll.getD 0 []).length - 1)) Y = E at R1 R2 S1 x3
                          generalize checkB (chainV ll) (kx (ll.getD 0 []) 0) (kx (ll.getD 0 []) ((ll.getD 0 []).length - 1)) Y = D at R3 S1
                          have HR1' : Hid (∀ W : World, Q wz W → Calls Try.prog 15 #[.slice (some ⟨gl, ol, none⟩) N cap, .int .u32 (Y : Int)] W fun e w' => e = .returned (.tuple #[.agg #[.int .u32 X, .int .u32 B, .bool H], .int .i64 E]) ∧ Q W w') := fun W => R1 W hyk
                          have HR2 : Hid (∀ W : World, Q wz W → Calls Try.prog 29 #[.pointer (some ⟨b, 0, none⟩), .int .u32 (Y : Int)] W fun e w' => e = .returned (.tuple #[.agg #[.int .u32 X, .int .u32 B, .bool H], .int .i64 E]) ∧ Q W w') := R2
                          have HR3 : Hid (∀ (X B : Nat) (H : Bool) (W : World), X < 4294967296 → B < 4294967296 → Q wz W → Calls Try.prog 30 #[.pointer (some ⟨b, 0, none⟩), .int .u32 (Y : Int), .agg #[.int .u32 X, .int .u32 B, .bool H]] W fun e w' => e = .returned (.bool (D X B H)) ∧ Q W w') := R3
                          have S2 : Hid (∀ (X_1 B_1 : Nat) (H_1 : Bool), X_1 < 4294967296 → B_1 < 4294967296 → D X_1 B_1 H_1 = (decide (E = 0) && (decide (X_1 = X) && (decide (B_1 = B) && decide (H_1 = H))))) := S1
                          clear R1 R2 R3 S1
                          go_wp2_with fail
                          refine (HR1'.out _ HQT.out).mono ?_
                          rintro e w3 ⟨rfl, q3⟩
                          obtain ⟨w4, hw4⟩ : ∃ w4, w3.alloc (.cells #[.int .u32 (X : Int), .int .u32 (B : Int), .bool H] 39) = w4 := ⟨_, rfl⟩
                          have qq4 : Q w3 w4 := by rw [← hw4]; exact (Q.refl _).cells _ _
                          have c0 : w4.cell? ⟨w3.heap.size, 0, none⟩ = some (.int .u32 X) := by rw [← hw4]; simp [go_sem]
                          have c1 : w4.cell? ⟨w3.heap.size, 1, none⟩ = some (.int .u32 B) := by rw [← hw4]; simp [go_sem]
                          have c2 : w4.cell? ⟨w3.heap.size, 2, none⟩ = some (.bool H) := by rw [← hw4]; simp [go_sem]
                          obtain ⟨bw, hbw⟩ : ∃ bw, w3.heap.size = bw := ⟨_, rfl⟩
                          rw [hbw] at c0 c1 c2
                          replace cx := (q3.trans qq4).cell cx
                          have HQ4 : Hid (Q wz w4) := HQT.out.trans (q3.trans qq4)
                          clear q3 qq4
                          go_wp2_with fail
                          clear hw4 hbw
                          refine (HR2.out _ HQ4.out).mono ?_
                          rintro e w5 ⟨rfl, q5⟩
                          obtain ⟨w6, hw6⟩ : ∃ w6, w5.alloc (.cells #[.int .u32 (X : Int), .int .u32 (B : Int), .bool H] 39) = w6 := ⟨_, rfl⟩
                          have qq6 : Q w5 w6 := by rw [← hw6]; exact (Q.refl _).cells _ _
                          have d0 : w6.cell? ⟨w5.heap.size, 0, none⟩ = some (.int .u32 X) := by rw [← hw6]; simp [go_sem]
                          have d1 : w6.cell? ⟨w5.heap.size, 1, none⟩ = some (.int .u32 B) := by rw [← hw6]; simp [go_sem]
                          have d2 : w6.cell? ⟨w5.heap.size, 2, none⟩ = some (.bool H) := by rw [← hw6]; simp [go_sem]
                          obtain ⟨bq, hbq⟩ : ∃ bq, w5.heap.size = bq := ⟨_, rfl⟩
                          rw [hbq] at d0 d1 d2
                          replace cx := (q5.trans qq6).cell cx
                          replace c0 := (q5.trans qq6).cell c0
                          replace c1 := (q5.trans qq6).cell c1
                          replace c2 := (q5.trans qq6).cell c2
                          have HQ6 : Hid (Q wz w6) := HQ4.out.trans (q5.trans qq6)
                          have n0 := qw_some w6
                          have d0' := qw_cell d0
                          have d1' := qw_cell d1
                          have d2' := qw_cell d2
                          have e0' := qw_cell c0
                          have e1' := qw_cell c1
                          have e2' := qw_cell c2
                          have cx' := qw_cell cx
                          have hb1 : ((X : Int) != (X : Int)) = false := by simp
                          have hb2 : ((X : Int) == (X : Int)) = true := by simp
                          have hb3 : ((B : Int) == (B : Int)) = true := by simp
                          have hb4 : (H == H) = true := by simp
                          obtain ⟨TT, hT⟩ : ∃ TT, decide (E = 0) = TT := ⟨_, rfl⟩
                          rw [hT] at S2
                          have HW : Hid (∀ n : QW w6, Calls Try.prog 30 #[.pointer (some ⟨b, 0, none⟩), .int .u32 (Y : Int), .agg #[.int .u32 X, .int .u32 B, .bool H]] n.x fun e w' => e = .returned (.bool TT) ∧ Q n.x w') := fun n => by
                            have := HR3.out X B H n.x x1 x2 (HQ6.out.trans n.q)
                            rw [S2.out X B H x1 x2] at this
                            simpa using this
                          have x4 : (E = 0 ∧ TT = true) ∨ (E = 43 ∧ TT = false) := by
                            rcases x3 with h | h
                            · rw [h] at hT; exact Or.inl ⟨h, hT.symm⟩
                            · rw [h] at hT; exact Or.inr ⟨h, hT.symm⟩
                          clear x3 hT q5 qq6 HQ4 c0 c1 c2 d0 d1 d2 cx S2 HR1' HR2 HR3
                          go_wp2_with fail
                          clear hw6 hbq
                          rcases x4 with ⟨rfl, rfl⟩ | ⟨rfl, rfl⟩
                          all_goals
                            refine wp_region_quiet_Q (by kernel_rfl) (by kernel_rfl) ?_
                            repeat (first | go_big_quiet_step (first | (go_at_call 30; exact calls_qw (HW.out _))) | quiet_step (first | (go_at_call 30; exact calls_qw (HW.out _))))
                            refine wpQuiet_nil ?_
                            intro w7 hw'
                            have hq7 := qw_out hw'
                            have HQ7 : Hid (Q wz w7) := HQ6.out.trans hq7
                            clear hw' HW d0' d1' d2' e0' e1' e2' cx' n0
                            go_wp2_with fail
                            go_roundg (ny - (t + 1))
                            case measure => go_light; omega
                            case rel => go_light; exact ⟨t + 1, by go_num, by omega, HQ7⟩
                        · have hte : t = ny := by omega
                          have QE : Hid (Q w wr) := QZ.out.trans HQT.out
                          go_wp2_with fail
                          go_ret
                          exact ⟨rfl, QE.out⟩
end Go.Proofs.Ytmfniimelibhfaa

/- Appending to a list of the call's own in a list of operations, with what is said of the other blocks. -/
import Derived.Test.YtmfniimelibhfaaCurveMeetsM12
import Derived.OwnWalk
import Derived.Deep.AppendLies
import Derived.Deep.RegionLaw
import Derived.Test.YtmfniimelibhfaaCurveMeetsM13
namespace Go.Proofs.Ytmfniimelibhfaa
open Go.RowKit

/-- The same, with what is said of the other blocks. -/
theorem run_app_qg {P : Program} (w w0 : World) (q0 : Q w0 w) (t ty : TypeId) (e : TypeId) (i : TypeInfo) (z : Value) (size bytes : Nat) (ht : P.underlying t = some (.slice e)) (hi : P.info? e = some i) (hz : i.zero = some z)
    (hsize : i.size = size) (hby : i.bytes = bytes) (hzs : z.cells.size = size) (hsz : 0 < size)
    (v : Value) (n : Nat) (xs : List Value) (hown : w.ownsRow w0.heap.size e size v n xs)
    (ad : Addr) (m c : Nat) (news : List Value) (hl : news.length = m * size) (hnews : ∀ j u, news[j]? = some u → w.cell? (ad.add j) = some u) (h1 : ∀ u ∈ news, u.oneCell' = true)
    (hm : 0 < m) (h63 : n + m ≤ maxLen) (hbytes : (n + m) * bytes ≤ 140737488355328) :
    ∃ g cap w', (Builtin.append_ #[t, t] ty #[v, .slice (some ad) m c]).run P w = .ok (.slice (some ⟨g, 0, none⟩) (n + m) cap) w' ∧
      w'.ownsRow w0.heap.size e size (.slice (some ⟨g, 0, none⟩) (n + m) cap) (n + m) (xs ++ news) ∧ Q w0 w' ∧ w.grownBy w' v.ownBlock ∧ (v.ownBlock = some g ∨ g = w.heap.size) := by
  obtain ⟨g, cap, w', hr, h2, h3⟩ := run_app_q (P := P) w w0 q0 t ty e i z size bytes ht hi hz hsize hby hzs hsz v n xs hown ad m c news hl hnews h1 hm h63 hbytes
  obtain ⟨g', cap', w'', hr', _, h3', h4', _⟩ := run_append_lies (P := P) w t ty w0.heap.size e i z size bytes ht hi hz hsize hby hzs hsz v n xs hown ad m c news hl hnews h1 hm h63 hbytes q0.1.size _ rfl
  rw [hr] at hr'
  injection hr' with a b
  injection a with a
  injection a with a
  injection a with a
  subst a
  subst b
  exact ⟨g, cap, w', hr, h2, h3, h3', h4'⟩
/-- In a list of operations. -/
theorem wpList_app_qg {P : Program} (w w0 : World) (q0 : Q w0 w) {ops : Array Oper} {rest : List Oper} {o : Oper} {a : Act} {R : Exit → Act → World → Prop} (hgd : o.guard = none) (s x : Operand) (t : TypeId)
    (ho : o.op = .call { callee := .builtin .append, args := #[s, x], argTypes := #[t, t] })
    (e : TypeId) (i : TypeInfo) (z : Value) (size bytes : Nat) (ht : P.underlying t = some (.slice e)) (hi : P.info? e = some i) (hz : i.zero = some z)
    (hsize : i.size = size) (hby : i.bytes = bytes) (hzs : z.cells.size = size) (hsz : 0 < size)
    (v : Value) (n : Nat) (xs : List Value) (hs : a.eval s = v) (hown : w.ownsRow w0.heap.size e size v n xs)
    (ad : Addr) (m c : Nat) (news : List Value) (hx : a.eval x = .slice (some ad) m c) (hl : news.length = m * size) (hnews : ∀ j u, news[j]? = some u → w.cell? (ad.add j) = some u) (h1 : ∀ u ∈ news, u.oneCell' = true)
    (hm : 0 < m) (h63 : n + m ≤ maxLen) (hbytes : (n + m) * bytes ≤ 140737488355328)
    (h : ∀ g cap w', w'.ownsRow w0.heap.size e size (.slice (some ⟨g, 0, none⟩) (n + m) cap) (n + m) (xs ++ news) → Q w0 w' → w.grownBy w' v.ownBlock → (v.ownBlock = some g ∨ g = w.heap.size) → wpList P ops R rest (a.put o.dst (.slice (some ⟨g, 0, none⟩) (n + m) cap)) w') :
    wpList P ops R (o :: rest) a w := by
  obtain ⟨g, cap, w', hr, h2, h3, h4, h5⟩ := run_app_qg (P := P) w w0 q0 t o.type e i z size bytes ht hi hz hsize hby hzs hsz v n xs hown ad m c news hl hnews h1 hm h63 hbytes
  refine wpList_plain hgd fun _ hK => ?_
  unfold Oper.wp execOp
  simp only [ho, resolve, invoke, builtin, Sem.run_bind, Sem.run_pure, Result.andThen_ok, List.map_toArray, List.map_cons, List.map_nil, hs, hx, hr]
  exact hK _ _ (h g cap w' h2 h3 h4 h5)
end Go.Proofs.Ytmfniimelibhfaa
/- Lists of curves that came in: some. -/
namespace Go.Proofs.Ytmfniimelibhfaa
open Go.RowKit
set_option linter.unusedVariables false
set_option linter.unusedSimpArgs false

/-- A curve in memory that lies apart from a block. -/
def CAp (w : World) (row : Option Nat) (b : Nat) (l : List (Nat × Nat)) : Prop := ∃ g cap, some b ≠ row ∧ some g ≠ row ∧ w.cell? ⟨b, 0, none⟩ = some (.slice (some ⟨g, 0, none⟩) l.length cap) ∧ l.length ≤ cap ∧ 1 ≤ l.length ∧ KIs w g 0 l
theorem CAp.next {w w' : World} {row : Option Nat} {b : Nat} {l : List (Nat × Nat)} (h : CAp w row b l) (q : Q w w') : CAp w' row b l := by
  obtain ⟨g, cap, h1, h2, h3, h4, h5, h6⟩ := h
  exact ⟨g, cap, h1, h2, q.cell h3, h4, h5, h6.next q⟩
theorem CAp.grown {w w' : World} {row : Option Nat} {b g' : Nat} {l : List (Nat × Nat)} (h : CAp w row b l) (hg : w.grownBy w' row) (ho : row = some g' ∨ g' = w.heap.size) : CAp w' (some g') b l := by
  obtain ⟨g, cap, h1, h2, h3, h4, h5, h6⟩ := h
  have b1 := cell_in h3
  have b2 := cell_in (h6 0 (by omega)).1
  refine ⟨g, cap, ?_, ?_, hg.cell h3 h1, h4, h5, fun i hi => ⟨hg.cell (h6 i hi).1 h2, hg.cell (h6 i hi).2 h2⟩⟩
  · rcases ho with ho | ho
    · rw [← ho]; exact h1
    · intro e; injection e with e; omega
  · rcases ho with ho | ho
    · rw [← ho]; exact h2
    · intro e; injection e with e; omega
theorem own_next {wr wx : World} {base : Nat} {e : TypeId} {size n : Nat} {v : Value} {xs : List Value} (h : wr.ownsRow base e size v n xs) (q : Q wr wx) : wx.ownsRow base e size v n xs := by
  refine ⟨h.1, ?_⟩
  rcases h.2 with a | ⟨g, cap, cur, h1, h2, h3, h4⟩
  · exact Or.inl a
  · have hg : g < wr.heap.size := by
      rcases Nat.lt_or_ge g wr.heap.size with hlt | hge
      · exact hlt
      · rw [Array.getElem?_eq_none hge] at h3; cases h3
    exact Or.inr ⟨g, cap, cur, h1, h2, (q.1.block g hg).trans h3, h4⟩
/-- How far the list of curves has come. -/
structure Alls (ll : List (List (Nat × Nat))) (w wr : World) (v : Value) (k : Nat) : Prop where
  q : Q w wr
  it : ∃ ps, wr.ownsRow w.heap.size 25 1 v k ps ∧ ∀ i, i < k → ∃ b, ps[i]? = some (.pointer (some ⟨b, 0, none⟩)) ∧ CAp wr v.ownBlock b (ll.getD i [])
theorem Alls.next {ll : List (List (Nat × Nat))} {w wr wx : World} {v : Value} {k : Nat} (h : Alls ll w wr v k) (q : Q wr wx) : Alls ll w wx v k := by
  obtain ⟨ps, h1, h2⟩ := h.it
  refine ⟨h.q.trans q, ps, own_next h1 q, fun i hi => ?_⟩
  obtain ⟨b, a1, a2⟩ := h2 i hi
  exact ⟨b, a1, a2.next q⟩
theorem Alls.apart {ll : List (List (Nat × Nat))} {w wr wx : World} {v : Value} {k b : Nat} {l : List (Nat × Nat)} (h : Alls ll w wr v k) (hc : CNew wx wr.heap.size b l) (h1 : 1 ≤ l.length) : CAp wx v.ownBlock b l := by
  obtain ⟨ps, o1, _⟩ := h.it
  obtain ⟨g, cap, c1, c2, c3, c4, c5⟩ := hc.it
  have key : ∀ x, wr.heap.size ≤ x → some x ≠ v.ownBlock := by
    intro x hx e
    rcases o1.2 with ⟨rfl, _⟩ | ⟨g', cap', cur, rfl, _, h3, _⟩
    · exact absurd e (by simp [Value.ownBlock])
    · simp [Value.ownBlock] at e
      rw [Array.getElem?_eq_none (by omega)] at h3
      cases h3
  exact ⟨g, cap, key _ c1, key _ c2, c3, c4, h1, c5⟩
theorem Alls.push {ll : List (List (Nat × Nat))} {w wb wx : World} {v : Value} {k b g cap : Nat} {ps : List Value} (hp : ps.length = k) (h2 : ∀ i, i < k → ∃ b, ps[i]? = some (.pointer (some ⟨b, 0, none⟩)) ∧ CAp wb v.ownBlock b (ll.getD i [])) (hc : CAp wb v.ownBlock b (ll.getD k []))
    (own : wx.ownsRow w.heap.size 25 1 (.slice (some ⟨g, 0, none⟩) (k + 1) cap) (k + 1) (ps ++ [.pointer (some ⟨b, 0, none⟩)])) (q : Q w wx) (hg : wb.grownBy wx v.ownBlock) (ho : v.ownBlock = some g ∨ g = wb.heap.size) :
    Alls ll w wx (.slice (some ⟨g, 0, none⟩) (k + 1) cap) (k + 1) := by
  refine ⟨q, _, own, fun i hi => ?_⟩
  by_cases e : i = k
  · subst e
    exact ⟨b, by rw [← hp]; simp, hc.grown hg ho⟩
  · obtain ⟨b', a1, a2⟩ := h2 i (by omega)
    exact ⟨b', by rw [List.getElem?_append_left (by omega)]; exact a1, a2.grown hg ho⟩
theorem ptrInfo : ∃ i, Try.prog.info? 25 = some i ∧ i.size = 1 ∧ i.bytes = 8 ∧ i.zero = some (.pointer none) :=
  info_of (by kernel_rfl) (by kernel_rfl)
theorem news1 (W : World) (v0 : Value) (t : TypeId) : ∀ j u, [v0][j]? = some u → (W.alloc (.cells #[v0] t)).cell? ((⟨W.heap.size, 0, none⟩ : Addr).add j) = some u := by
  intro j u hu
  rw [show (⟨W.heap.size, 0, none⟩ : Addr).add j = ⟨W.heap.size, j, none⟩ by unfold Addr.add; split <;> simp_all, cell_of_row _ _ j #[v0] t (0, 0) (heap_alloc_new W _)]
  simpa using hu
theorem one1 (b : Nat) : ∀ u ∈ [Value.pointer (some ⟨b, 0, none⟩)], u.oneCell' = true := by
  intro u hu
  simp at hu
  rw [hu]; rfl

set_option maxHeartbeats 4000000 in
set_option maxRecDepth 100000 in
theorem some_any (g o cap : Nat) (ll : List (List (Nat × Nat))) (hf : Fits ll) (h1 : 1 ≤ ll.length) (h8 : ll.length ≤ 8) (hg : ∀ i, i < ll.length → Good (ll.getD i [])) (w : World) (hk : LLs w g o ll) :
    Calls Try.prog 32 #[.slice (some ⟨g, o, none⟩) ll.length cap] w fun e w' => Q w w' ∧ ∃ b, e = .returned (.pointer (some ⟨b, 0, none⟩)) ∧ ChIs w' b ll := by
  obtain ⟨i, i1, i2, i3, i4⟩ := knotInfo
  have HI : Hid (Try.prog.info? 32 = some i ∧ i.size = 2 ∧ i.bytes = 8 ∧ i.zero = some (.agg #[.int .u32 0, .int .u32 0])) := ⟨i1, i2, i3, i4⟩
  clear i1 i2 i3 i4
  obtain ⟨pi, i1, i2, i3, i4⟩ := ptrInfo
  have HP : Hid (Try.prog.info? 25 = some pi ∧ pi.size = 1 ∧ pi.bytes = 8 ∧ pi.zero = some (.pointer none)) := ⟨i1, i2, i3, i4⟩
  clear i1 i2 i3 i4
  have HK : Hid (LLs w g o ll) := hk
  have HF : Hid (Fits ll) := hf
  have HG : Hid (∀ i, i < ll.length → Good (ll.getD i [])) := hg
  obtain ⟨N, hN⟩ : ∃ N, ll.length = N := ⟨_, rfl⟩
  have HN : Hid (ll.length = N) := hN
  rw [hN] at h1 h8 ⊢
  clear hk hf hN hg
  go_enter Try.func32, Try.ntmps32
  go_wp2_with fail
  have A0 : Hid (Alls ll w w (.slice none 0 0) 0) := ⟨Q.refl w, [], ⟨by simp, Or.inl ⟨rfl, rfl⟩⟩, fun i hi => absurd hi (Nat.not_lt_zero _)⟩
  go_loopg [3, 4] N (fun m s3 s4 wr => ∃ k : Nat, s4 = .int .i64 k ∧ k + m = N ∧ Hid (Alls ll w wr s3 k))
  case atStart => exact ⟨0, rfl, by omega, A0⟩
  case round =>
    obtain ⟨k, rfl, hm, AK⟩ := hrel
    by_cases hkn : k < N
    · have hkl : k < ll.length := by rw [HN.out]; exact hkn
      obtain ⟨gk, ok, ck, p1, p2, p3⟩ := HK.out k hkl
      obtain ⟨f1, f2⟩ := HF.out _ (getD_mem hkl)
      have gd := HG.out k hkl
      obtain ⟨L, hL⟩ : ∃ L, ll.getD k [] = L := ⟨_, rfl⟩
      have HLk : Hid (ll.getD k [] = L) := hL
      rw [hL] at p1 p2 p3 f1 f2 gd
      replace p1 := AK.out.q.cell p1
      replace p3 := p3.next AK.out.q
      have l2 : 2 ≤ L.length := gd.1
      have l64 : L.length ≤ 64 := gd.2.1
      have GD : Hid (Good L) := gd
      have FT : Hid (∀ i, kx L i < 4294967296 ∧ ky L i < 4294967296) := f2
      have H1 : Hid (∀ j u, (flat L)[j]? = some u → wr.cell? ((⟨gk, ok, none⟩ : Addr).add j) = some u) := p3.flat_cells
      have H2 : Hid ((flat L).length = L.length * i.size) := by show (flat L).length = L.length * i.size; rw [HI.out.2.1, flat_len]
      have H3 : Hid (L.length * i.bytes ≤ 140737488355328) := by show L.length * i.bytes ≤ 140737488355328; rw [HI.out.2.2.1]; omega
      have hi0 : (0 : Int) ≤ (k : Int) := by omega
      have hi1 : (k : Int) < (N : Int) := by omega
      clear hL hkl p3 f1 f2 gd
      go_wp2_with (at_builtin; go_must (refine wpList_app _ rfl (.const (.slice none 0 0)) (.tmp 19) 22 rfl 32 i _ Try.underlying22 HI.out.1 HI.out.2.2.2 _ (Or.inl rfl) rfl _ L.length ck (flat L) rfl H2.out (fun j u h => H1.out j u h) (by omega) (by omega) H3.out ?_; intro cap' w1 q1 q2 q3 q4 q5))
      have K1 : Hid (KIs w1 wr.heap.size 0 L) := KIs.of_flat q4
      have A1 : Hid (Alls ll w w1 u3 k) := AK.out.next q1
      clear q3 q4 q5 H1 H2 H3 AK p1
      refine (new_all _ L (by omega) FT.out _ (Or.inl ⟨_, _, _, rfl, q2, K1.out⟩)).mono ?_
      rintro e w2 ⟨p2', ⟨r, rfl, hb⟩ | ⟨b, rfl, hc, _⟩⟩
      · exact absurd hb (fun hb => good_bad GD.out hb)
      · have A2 : Hid (Alls ll w w2 u3 k) := A1.out.next p2'
        have CA : Hid (CAp w2 u3.ownBlock b (ll.getD k [])) := by
          show CAp w2 u3.ownBlock b (ll.getD k [])
          rw [HLk.out]
          exact A1.out.apart hc (by omega)
        clear hc q1 q2 p2' A1 K1
        obtain ⟨ps, o1, o2⟩ := A2.out.it
        have hpl : ps.length = k := by have := o1.1; omega
        have O1 : Hid ((w2.alloc (.cells #[.pointer (some ⟨b, 0, none⟩)] 25)).ownsRow w.heap.size 25 1 u3 k ps) := own_next o1 ((Q.refl w2).cells _ _)
        have QB : Hid (Q w (w2.alloc (.cells #[.pointer (some ⟨b, 0, none⟩)] 25))) := A2.out.q.cells _ _
        have O2 : Hid (∀ i, i < k → ∃ b', ps[i]? = some (.pointer (some ⟨b', 0, none⟩)) ∧ CAp (w2.alloc (.cells #[.pointer (some ⟨b, 0, none⟩)] 25)) u3.ownBlock b' (ll.getD i [])) := fun i hi => by
          obtain ⟨b', a1, a2⟩ := o2 i hi
          exact ⟨b', a1, a2.next ((Q.refl w2).cells _ _)⟩
        have CB : Hid (CAp (w2.alloc (.cells #[.pointer (some ⟨b, 0, none⟩)] 25)) u3.ownBlock b (ll.getD k [])) := CA.out.next ((Q.refl w2).cells _ _)
        have m1 : k + 1 ≤ maxLen := by unfold maxLen; omega
        have m2 : (k + 1) * 8 ≤ 140737488355328 := by omega
        clear o1 o2 CA A2
        go_wp2_with (at_builtin; go_must (refine wpList_app_qg _ w QB.out rfl (.tmp 30) (.tmp 32) 53 rfl 25 pi _ 1 8 Try.underlying53 HP.out.1 HP.out.2.2.2 HP.out.2.1 HP.out.2.2.1 rfl (by decide) u3 k ps (by simp [Act.eval, Act.put]) O1.out _ 1 1 [.pointer (some ⟨b, 0, none⟩)] (by simp [Act.eval, Act.put]) rfl (news1 _ _ _) (one1 _) (by decide) m1 m2 ?_; intro g7 cap7 w7 own7 q7 gr7 ho7))
        have A3 : Hid (Alls ll w w7 (.slice (some ⟨g7, 0, none⟩) (k + 1) cap7) (k + 1)) := Alls.push hpl O2.out CB.out own7 q7 gr7 ho7
        clear own7 q7 gr7 ho7 O1 O2 QB CB
        go_roundg (N - (k + 1))
        case measure => go_light; omega
        case rel => go_light; exact ⟨k + 1, by go_num, by omega, A3⟩
    · have hk : k = N := by omega
      subst hk
      obtain ⟨ps, o1, o2⟩ := AK.out.it
      obtain ⟨g', cap', cur, rfl, h2, h3, h4, h5, h6, h7⟩ : ∃ g' cap' cur, u3 = .slice (some ⟨g', 0, none⟩) k cap' ∧ w.heap.size ≤ g' ∧ wr.heap[g']? = some (.cells cur 25 (0, 0)) ∧ k ≤ cap' ∧ cap' ≤ maxLen ∧ cur.size = cap' * 1 ∧ cur.toList.take (k * 1) = ps := by
        rcases o1.2 with ⟨_, h0⟩ | h
        · omega
        · exact h
      have hpl : PLs wr g' 0 ll := by
        intro j hj
        rw [HN.out] at hj
        obtain ⟨b, a1, a2⟩ := o2 j hj
        obtain ⟨gg, cc, _, _, a3, a4, _, a5⟩ := a2
        refine ⟨b, ?_, ⟨gg, 0, cc, a3, a4, a5⟩⟩
        rw [Nat.zero_add, cell_of_row _ _ j cur 25 (0, 0) h3]
        rw [← h7, List.getElem?_take, if_pos (by omega)] at a1
        simpa using a1
      have JA : Hid (Calls Try.prog 24 #[.slice (some ⟨g', 0, none⟩) k cap'] wr fun e w' => Q wr w' ∧ ∃ b, e = .returned (.tuple #[.pointer (some ⟨b, 0, none⟩), .int .i64 0]) ∧ ChIs w' b ll) := by
        have := join_any g' 0 cap' ll (by rw [HN.out]; exact h1) (by rw [HN.out]; exact h8) wr hpl
        rw [HN.out] at this
        exact this
      have qw := AK.out.q
      clear o1 o2 h3 h4 h5 h6 h7 hpl AK
      go_wp2_with fail
      refine JA.out.mono ?_
      rintro e w8 ⟨q8, b8, rfl, hc8⟩
      have C8 : Hid (ChIs w8 b8 ll) := hc8
      clear hc8 JA
      go_wp2_with fail
      go_ret
      exact ⟨qw.trans q8, b8, rfl, C8.out⟩
end Go.Proofs.Ytmfniimelibhfaa
/- What a chain tells, as numbers. -/
namespace Go.Proofs.Ytmfniimelibhfaa
open Go.RowKit
set_option linter.unusedVariables false
set_option linter.unusedSimpArgs false

theorem at_ends {l : List (Nat × Nat)} (hl : COk l) {x : Nat} (hn : nanN x = false) : srung32 (ky l 0) ≤ srung32 (atV l x) ∧ srung32 (atV l x) ≤ srung32 (ky l (l.length - 1)) := by
  have t := hl.two
  obtain ⟨a, b, c⟩ := above_facts l x
  obtain ⟨_, r0, r1, r2⟩ := at_range hl hn
  by_cases h0 : aboveV l x = 0
  · rw [r0 h0]; exact ⟨Int.le_refl _, ky_mono hl (by omega) (by omega)⟩
  · by_cases h1 : aboveV l x = l.length
    · rw [r1 h1]; exact ⟨ky_mono hl (by omega) (by omega), Int.le_refl _⟩
    · obtain ⟨p, q⟩ := r2 h0 (by omega)
      exact ⟨Int.le_trans (ky_mono hl (by omega) (by omega)) p, Int.le_trans q (ky_mono hl (by omega) (by omega))⟩
theorem chain_last {ll : List (List (Nat × Nat))} {n : Nat} (h : ll.length = n + 1) (x : Nat) : chainV ll x = atV (ll.getD n []) (chainV (ll.take n) x) := by
  have := chain_take (ll := ll) (k := n) (x := x) (by omega)
  rw [List.take_of_length_le (by omega)] at this
  exact this
theorem chain_nan : ∀ {ll : List (List (Nat × Nat))} {x : Nat}, nanN x = true → nanN (chainV ll x) = true := by
  intro ll
  induction ll with
  | nil => intro x h; exact h
  | cons l ll ih =>
    intro x h
    show nanN (chainV ll (atV l x)) = true
    exact ih (by rw [atV_nan h]; rfl)
theorem chain_made {ll : List (List (Nat × Nat))} (h : 1 ≤ ll.length) {x : Nat} (hn : nanN x = true) : chainV ll x = 2143289344 := by
  rw [chain_last (n := ll.length - 1) (by omega), atV_nan (chain_nan hn)]
theorem chain_ends {ll : List (List (Nat × Nat))} {n : Nat} (h : ll.length = n + 1) (hll : ∀ l ∈ ll, COk l) {x : Nat} (hx : x < 4294967296) (hn : nanN x = false) :
    srung32 (ky (ll.getD n []) 0) ≤ srung32 (chainV ll x) ∧ srung32 (chainV ll x) ≤ srung32 (ky (ll.getD n []) ((ll.getD n []).length - 1)) := by
  rw [chain_last h]
  exact at_ends (hll _ (getD_mem (by omega))) (chain_num (fun l hl => hll l (List.mem_of_mem_take hl)) hn hx).1
theorem num_rung {a : Nat} (h : nanN a = false) : rung32 a ≤ 2139095040 := by
  unfold nanN at h
  unfold rung32
  have := of_decide_eq_false h
  omega
theorem order_of {a b : Nat} (ha : nanN a = false) (hb : nanN b = false) : Ieee.single.order a b = some (compare (srung32 a) (srung32 b)) := order_num32 (num_rung ha) (num_rung hb)
theorem order_le {a b : Nat} (ha : nanN a = false) (hb : nanN b = false) (h : srung32 a ≤ srung32 b) : Ieee.single.order a b = some .lt ∨ Ieee.single.order a b = some .eq := by
  rw [order_of ha hb]
  by_cases e : srung32 a < srung32 b
  · left; rw [Int.compare_eq_lt.2 e]
  · right; rw [Int.compare_eq_eq.2 (by omega)]
theorem order_ge {a b : Nat} (ha : nanN a = false) (hb : nanN b = false) (h : srung32 b ≤ srung32 a) : Ieee.single.order a b = some .gt ∨ Ieee.single.order a b = some .eq := by
  rw [order_of ha hb]
  by_cases e : srung32 b < srung32 a
  · left; rw [Int.compare_eq_gt.2 e]
  · right; rw [Int.compare_eq_eq.2 (by omega)]
theorem order_gt {a b : Nat} (ha : nanN a = false) (hb : nanN b = false) (h : ¬ srung32 a ≤ srung32 b) : Ieee.single.order a b = some .gt := by
  rw [order_of ha hb, Int.compare_eq_gt.2 (by omega)]
end Go.Proofs.Ytmfniimelibhfaa
/- The statement on chains that rise: its walk. -/
namespace Go.Proofs.Ytmfniimelibhfaa
open Go.RowKit
set_option linter.unusedVariables false
set_option linter.unusedSimpArgs false

theorem VLs.lls {w : World} {a : Option Addr} {N cap : Nat} {ll : List (List (Nat × Nat))} (h : VLs w (.slice a N cap) ll) (h1 : 1 ≤ ll.length) (hg : ∀ i, i < ll.length → Good (ll.getD i [])) : ∃ g o, a = some ⟨g, o, none⟩ ∧ LLs w g o ll := by
  rcases h with ⟨g, o, c, e, _, h⟩ | ⟨_, _, _, e⟩
  · injection e with e
    refine ⟨g, o, e, fun i hi => ?_⟩
    obtain ⟨u, a1, a2⟩ := h i hi
    rcases a2 with ⟨g', o', c', rfl, b1, b2⟩ | ⟨_, _, _, b⟩
    · exact ⟨g', o', c', a1, b1, b2⟩
    · have := (hg i hi).1
      rw [b] at this
      exact absurd this (by decide)
  · rw [e] at h1; exact absurd h1 (by decide)

set_option maxHeartbeats 4000000 in
set_option maxRecDepth 100000 in
theorem rises_walk (sv xv : Value) (ll : List (List (Nat × Nat))) (xs : List Nat) (hf : Fits ll) (hxt : ∀ i, xs.getD i 0 < 4294967296) (bl : ll.length ≤ 9223372036854775807) (bx : xs.length ≤ 9223372036854775807) (w : World) (hk : VLs w sv ll) (hx : USl w xv xs) :
    Calls Try.prog 7 #[sv, xv] w fun e w' => e = .returned (.bool true) ∧ Q w w' := by
  obtain ⟨a, cap, ev⟩ := hk.form
  obtain ⟨a', cap', ex⟩ := hx.form
  have HK : Hid (VLs w sv ll) := hk
  have HX : Hid (USl w xv xs) := hx
  have HF : Hid (Fits ll) := hf
  have HU : Hid (∀ i, xs.getD i 0 < 4294967296) := hxt
  obtain ⟨N, hN⟩ : ∃ N, ll.length = N := ⟨_, rfl⟩
  have HN : Hid (ll.length = N) := hN
  rw [ev, ex]
  rw [ev] at HK
  rw [ex] at HX
  rw [hN] at HK bl ⊢
  clear hk hx ev ex hxt hf hN
  go_enter Try.func7, Try.ntmps7
  go_wp2_with fail
  refine (known_any _).mono ?_
  rintro e w1 ⟨rfl, q1⟩
  by_cases h1 : 60 < xs.length
  · have g1 : (60 : Int) < (xs.length : Int) := by omega
    go_wp2_with fail
    go_ret
    exact ⟨rfl, q1⟩
  · have g1 : ¬ (60 : Int) < (xs.length : Int) := by omega
    have g2 : decide ((60 : Int) < (xs.length : Int)) = false := decide_eq_false g1
    have HM : Hid (Calls Try.prog 31 #[.slice a N cap] w1 (MayPost ll w1)) := may_any _ ll HF.out (by rw [HN.out]; exact bl) w1 (HK.out.next q1)
    go_wp2_with fail
    refine HM.out.mono ?_
    rintro e w2 ⟨q2, B, rfl, hB⟩
    clear HM
    cases B
    · go_wp2_with fail
      go_ret
      exact ⟨rfl, q1.trans q2⟩
    · obtain ⟨n1, n8, gd⟩ := hB rfl
      have GD : Hid (∀ i, i < ll.length → Good (ll.getD i [])) := gd
      obtain ⟨g, o, rfl, hl⟩ := HK.out.lls n1 gd
      have HL : Hid (LLs w g o ll) := hl
      replace q1 := q1.trans q2
      have OK : Hid (∀ l ∈ ll, COk l) := by
        intro l hl
        obtain ⟨i, hi, rfl⟩ := List.getElem_of_mem hl
        have := gd i hi
        rw [List.getD_eq_getElem?_getD, List.getElem?_eq_getElem hi] at this
        exact good_ok this (HF.out _ hl).2
      have HS : Hid (Calls Try.prog 32 #[.slice (some ⟨g, o, none⟩) N cap] w2 fun e w' => Q w2 w' ∧ ∃ b, e = .returned (.pointer (some ⟨b, 0, none⟩)) ∧ ChIs w' b ll) := by
        have := some_any g o cap ll HF.out n1 n8 gd w2 (hl.next q1)
        rw [HN.out] at this
        exact this
      rw [HN.out] at n1 n8
      clear hB gd hl q2 HK
      go_wp2_with fail
      refine HS.out.mono ?_
      rintro e w3 ⟨q3, b, rfl, hc⟩
      have HC : Hid (ChIs w3 b ll) := hc
      replace q1 := q1.trans q3
      clear hc q3 HS
      obtain ⟨n, rfl⟩ : ∃ n, N = n + 1 := ⟨N - 1, by omega⟩
      obtain ⟨gk, ok, ck, p1, p2, p3⟩ := HL.out.next q1 n (by rw [HN.out]; omega)
      have kd := GD.out n (by rw [HN.out]; omega)
      have E1 : Hid (∀ x, x < 4294967296 → nanN x = false → srung32 (ky (ll.getD n []) 0) ≤ srung32 (chainV ll x) ∧ srung32 (chainV ll x) ≤ srung32 (ky (ll.getD n []) ((ll.getD n []).length - 1))) := fun x hx hn => chain_ends HN.out OK.out hx hn
      have okK := OK.out _ (getD_mem (show n < ll.length by rw [HN.out]; omega))
      obtain ⟨K, hK⟩ : ∃ K, ll.getD n [] = K := ⟨_, rfl⟩
      rw [hK] at p1 p2 p3 kd E1 okK
      clear hK
      obtain ⟨m, hm⟩ : ∃ m, K.length = m + 1 := ⟨K.length - 1, by have := kd.1; omega⟩
      have y0 := (p3 0 (by omega)).2
      have y1 := (p3 m (by omega)).2
      rw [Nat.zero_mul, Nat.add_zero] at y0
      have f0 := fin_nan (okK.fin 0 (by omega)).2
      have f1 := fin_nan (okK.fin m (by omega)).2
      rw [hm, show m + 1 - 1 = m by omega] at E1
      rw [hm] at p1 p2
      obtain ⟨LO, hLO⟩ : ∃ LO, ky K 0 = LO := ⟨_, rfl⟩
      obtain ⟨HI, hHI⟩ : ∃ HI, ky K m = HI := ⟨_, rfl⟩
      rw [hLO] at y0 f0 E1
      rw [hHI] at y1 f1 E1
      have i1 : ((n + 1 : Nat) : Int) - 1 = (n : Int) := by omega
      have i2 : (0 : Int) ≤ (n : Int) := by omega
      have i3 : (n : Int) < ((n + 1 : Nat) : Int) := by omega
      have i4 : ((m + 1 : Nat) : Int) - 1 = (m : Int) := by omega
      have i5 : (0 : Int) ≤ (m : Int) := by omega
      have i6 : (m : Int) < ((m + 1 : Nat) : Int) := by omega
      have i7 : (0 : Int) < ((m + 1 : Nat) : Int) := by omega
      have l1 := f32from
      have m64 : m + 1 ≤ 64 := by have := kd.2.1; omega
      clear p3 kd okK hm hLO hHI
      have n0 := qw_some w3
      have d1 := qw_cell y0
      have d2 := qw_cell y1
      go_wp2_with fail
      refine wp_region_quiet_Q (by kernel_rfl) (by kernel_rfl) ?_
      repeat (first | go_big_quiet_step (fail) | quiet_step (fail))
      refine wpQuiet_nil ?_
      intro w4 hw'
      have hq4 := qw_out hw'
      clear hw' d1 d2 n0 y0 y1 p1 p2
      replace q1 := q1.trans hq4
      replace HC : Hid (ChIs w4 b ll) := HC.out.next hq4
      have HXr : Hid (USl w4 (.slice a' xs.length cap') xs) := HX.out.next q1
      clear HX HL GD hq4
      have CM : Hid (∀ (X : Nat) (W : World), X < 4294967296 → Q w4 W → Calls Try.prog 26 #[.pointer (some ⟨b, 0, none⟩), .int .u32 (X : Int)] W fun e w' => e = .returned (.int .u32 (chainV ll X : Nat)) ∧ Q W w') := fun X W hX hW => chat_any b ll OK.out (by rw [HN.out]; omega) X hX W (HC.out.next hW)
      have MD : Hid (∀ X, nanN X = true → chainV ll X = 2143289344) := fun X h => chain_made (by rw [HN.out]; omega) h
      have NM : Hid (∀ X, X < 4294967296 → nanN X = false → nanN (chainV ll X) = false) := fun X hx h => (chain_num OK.out h hx).1
      have MO : Hid (∀ X Y, nanN X = false → nanN Y = false → srung32 X ≤ srung32 Y → srung32 (chainV ll X) ≤ srung32 (chainV ll Y)) := fun X Y h1 h2 h => chain_mono OK.out h1 h2 h
      go_wp2_with fail
      go_loopg [9] xs.length (fun m s9 wr => ∃ k : Nat, s9 = .int .i64 k ∧ k + m = xs.length ∧ Q w4 wr)
      case atStart => exact ⟨0, rfl, by omega, Q.refl _⟩
      case round =>
        obtain ⟨k, rfl, hm, hqx⟩ := hrel
        by_cases hkn : k < xs.length
        · obtain ⟨gx, ox, hae⟩ : ∃ gx ox, a' = some ⟨gx, ox, none⟩ := by
            rcases HXr.out with ⟨g, o, c, e, _⟩ | ⟨_, _, _, e⟩
            · injection e with e; exact ⟨g, o, e⟩
            · exfalso; rw [e] at hkn; exact Nat.not_lt_zero _ hkn
          subst hae
          have XC : Hid (∀ i, i < xs.length → w4.cell? ⟨gx, ox + i, none⟩ = some (.int .u32 (xs.getD i 0 : Nat))) := by
            intro i hi
            rcases HXr.out with ⟨g, o, c, e, _, h⟩ | ⟨_, _, _, e⟩
            · injection e with e; injection e with e; injection e with e1 e2; subst e1; subst e2; exact h i hi
            · exfalso; rw [e] at hkn; exact Nat.not_lt_zero _ hkn
          have cx := hqx.cell (XC.out k hkn)
          have hxk := HU.out k
          have hi0 : (0 : Int) ≤ (k : Int) := by omega
          have hi1 : (k : Int) < (xs.length : Int) := by omega
          obtain ⟨X, hX⟩ : ∃ X, xs.getD k 0 = X := ⟨_, rfl⟩
          rw [hX] at cx hxk
          clear hX
          cases hn : nanN X
          · have o1 : FloatKind.f32.format.order X X = some .eq := by show Ieee.single.order X X = some .eq; rw [order_of hn hn]; simp
            obtain ⟨e1, e2⟩ := E1.out X hxk hn
            have ny := NM.out X hxk hn
            have CX := fun W h => CM.out X W hxk h
            have MX : Hid (∀ Y, nanN Y = false → srung32 X ≤ srung32 Y → srung32 (chainV ll X) ≤ srung32 (chainV ll Y)) := fun Y hy h => MO.out X Y hn hy h
            obtain ⟨Z, hZ⟩ : ∃ Z, chainV ll X = Z := ⟨_, rfl⟩
            rw [hZ] at e1 e2 ny MX
            have HCX : Hid (∀ W : World, Q w4 W → Calls Try.prog 26 #[.pointer (some ⟨b, 0, none⟩), .int .u32 (X : Int)] W fun e w' => e = .returned (.int .u32 (Z : Nat)) ∧ Q W w') := fun W h => by rw [← hZ]; exact CX W h
            clear CX hZ
            go_wp2_with fail
            refine (HCX.out _ hqx).mono ?_
            rintro e w5 ⟨rfl, q5⟩
            replace hqx := hqx.trans q5
            clear q5 HCX cx
            have og : FloatKind.f32.format.order Z LO = some .gt ∨ FloatKind.f32.format.order Z LO = some .eq := order_ge ny f0 e1
            have ol : FloatKind.f32.format.order Z HI = some .lt ∨ FloatKind.f32.format.order Z HI = some .eq := order_le ny f1 e2
            have NX : Hid (nanN X = false ∧ nanN Z = false) := ⟨hn, ny⟩
            clear e1 e2 hn ny
            rcases og with og | og <;> rcases ol with ol | ol
            all_goals
              go_wp2_with fail
              clear og ol o1
              go_loopg [12] xs.length (fun m s12 wx => ∃ j : Nat, s12 = .int .i64 j ∧ j + m = xs.length ∧ Q w4 wx)
              case atStart => exact ⟨0, rfl, by omega, hqx⟩
              case round =>
                obtain ⟨j, rfl, hmj, hqj⟩ := hrel
                by_cases hjn : j < xs.length
                · have cy := hqj.cell (XC.out j hjn)
                  have hyk := HU.out j
                  have hj0 : (0 : Int) ≤ (j : Int) := by omega
                  have hj1 : (j : Int) < (xs.length : Int) := by omega
                  obtain ⟨Y, hY⟩ : ∃ Y, xs.getD j 0 = Y := ⟨_, rfl⟩
                  rw [hY] at cy hyk
                  clear hY
                  cases hny : nanN Y
                  · by_cases hle : srung32 X ≤ srung32 Y
                    · have oxy : FloatKind.f32.format.order X Y = some .lt ∨ FloatKind.f32.format.order X Y = some .eq := order_le NX.out.1 hny hle
                      have nu := NM.out Y hyk hny
                      have ouv : FloatKind.f32.format.order Z (chainV ll Y) = some .lt ∨ FloatKind.f32.format.order Z (chainV ll Y) = some .eq := order_le NX.out.2 nu (MX.out Y hny hle)
                      have CY := fun W h => CM.out Y W hyk h
                      obtain ⟨U, hU⟩ : ∃ U, chainV ll Y = U := ⟨_, rfl⟩
                      rw [hU] at ouv
                      have HCY : Hid (∀ W : World, Q w4 W → Calls Try.prog 26 #[.pointer (some ⟨b, 0, none⟩), .int .u32 (Y : Int)] W fun e w' => e = .returned (.int .u32 (U : Nat)) ∧ Q W w') := fun W h => by rw [← hU]; exact CY W h
                      clear CY hU nu hle hny
                      rcases oxy with oxy | oxy <;> rcases ouv with ouv | ouv
                      all_goals
                        go_wp2_with fail
                        refine (HCY.out _ hqj).mono ?_
                        rintro e w6 ⟨rfl, q6⟩
                        go_wp2_with fail
                        go_roundg (xs.length - (j + 1))
                        case measure => go_light; omega
                        case rel => go_light; exact ⟨j + 1, by go_num, by omega, hqj.trans q6⟩
                    · have oxy : FloatKind.f32.format.order X Y = some .gt := order_gt NX.out.1 hny hle
                      clear hle hny
                      go_wp2_with fail
                      go_roundg (xs.length - (j + 1))
                      case measure => go_light; omega
                      case rel => go_light; exact ⟨j + 1, by go_num, by omega, hqj⟩
                  · have oxy : FloatKind.f32.format.order X Y = none := order_nan2 X (read32_nan hny)
                    clear hny
                    go_wp2_with fail
                    go_roundg (xs.length - (j + 1))
                    case measure => go_light; omega
                    case rel => go_light; exact ⟨j + 1, by go_num, by omega, hqj⟩
                · go_wp2_with fail
                  go_roundg (xs.length - (k + 1))
                  case measure => go_light; omega
                  case rel => go_light; exact ⟨k + 1, by go_num, by omega, hqj⟩
          · have o1 : FloatKind.f32.format.order X X = none := order_nan2 X (read32_nan hn)
            have HCX : Hid (∀ W : World, Q w4 W → Calls Try.prog 26 #[.pointer (some ⟨b, 0, none⟩), .int .u32 (X : Int)] W fun e w' => e = .returned (.int .u32 2143289344) ∧ Q W w') := fun W h => by
              have := CM.out X W hxk h
              rw [MD.out X hn] at this
              exact this
            clear hn
            go_wp2_with fail
            refine (HCX.out _ hqx).mono ?_
            rintro e w5 ⟨rfl, q5⟩
            go_wp2_with fail
            go_roundg (xs.length - (k + 1))
            case measure => go_light; omega
            case rel => go_light; exact ⟨k + 1, by go_num, by omega, hqx.trans q5⟩
        · go_wp2_with fail
          go_ret
          exact ⟨rfl, q1.trans hqx⟩
end Go.Proofs.Ytmfniimelibhfaa
/- Curves one behind the other: Least and Check. -/
namespace Go.Proofs.Ytmfniimelibhfaa
open Go.RowKit
set_option linter.unusedVariables false
set_option linter.unusedSimpArgs false

/-- Curves that Join takes. -/
structure LOk (ll : List (List (Nat × Nat))) : Prop where
  one : 1 ≤ ll.length
  many : ll.length ≤ 8
  all : ∀ l ∈ ll, COk l
theorem LOk.ok {ll : List (List (Nat × Nat))} (h : LOk ll) : COk (ll.getD 0 []) := h.all _ (getD_mem h.one)
theorem LOk.first {ll : List (List (Nat × Nat))} (h : LOk ll) : kx (ll.getD 0 []) 0 < 4294967296 ∧ kx (ll.getD 0 []) ((ll.getD 0 []).length - 1) < 4294967296 := ⟨(h.ok.lt _).1, (h.ok.lt _).1⟩
theorem LOk.keys {ll : List (List (Nat × Nat))} (h : LOk ll) : keyN (kx (ll.getD 0 []) 0) < keyN (kx (ll.getD 0 []) ((ll.getD 0 []).length - 1)) := ends_keys h.ok
theorem ch_at_any (b : Nat) (ll : List (List (Nat × Nat))) (hl : LOk ll) (x : Nat) (hx : x < 4294967296) (w : World) (hc : ChIs w b ll) :
    Calls Try.prog 26 #[.pointer (some ⟨b, 0, none⟩), .int .u32 x] w fun e w' => e = .returned (.int .u32 (chainV ll x : Nat)) ∧ Q w w' :=
  chat_any b ll hl.all (by have := hl.many; omega) x hx w hc
set_option maxHeartbeats 1000000 in
theorem ch_ends_any (b : Nat) (ll : List (List (Nat × Nat))) (hl : LOk ll) (w : World) (hc : ChIs w b ll) :
    Calls Try.prog 91 #[.pointer (some ⟨b, 0, none⟩)] w fun e w' => e = .returned (.tuple #[.int .u32 (kx (ll.getD 0 []) 0), .int .u32 (kx (ll.getD 0 []) ((ll.getD 0 []).length - 1))]) ∧ Q w w' := by
  obtain ⟨g, cap, c1, c2, c3⟩ := hc.it
  have n8 := hl.many
  have CI : Hid (CIs w g 0 (ll.getD 0 [])) := c3.curve hl.one
  have HO : Hid (COk (ll.getD 0 [])) := hl.ok
  obtain ⟨m, hm⟩ : ∃ m, ll.length = m + 1 := ⟨ll.length - 1, by have := hl.one; omega⟩
  obtain ⟨K, hK⟩ : ∃ K, ll.getD 0 [] = K := ⟨_, rfl⟩
  rw [hK] at CI HO ⊢
  rw [hm] at c1 c2 n8
  have b1 : (0 : Int) < ((m + 1 : Nat) : Int) := by omega
  have hz : (((m + 1 : Nat) : Int) == 0) = false := by simp; omega
  clear hc hl c3 hm hK
  go_enter Try.func91, Try.ntmps91
  go_wp2_with fail
  refine (ends_any g 0 K HO.out _ CI.out).mono ?_
  rintro e w1 ⟨rfl, q1⟩
  go_wp2_with fail
  go_ret2
  exact ⟨rfl, q1⟩
set_option maxHeartbeats 1000000 in
theorem ch_comes_any (b : Nat) (ll : List (List (Nat × Nat))) (hl : LOk ll) (x y : Nat) (hx : x < 4294967296) (w : World) (hc : ChIs w b ll) :
    Calls Try.prog 60 #[.iface 56 (.pointer (some ⟨b, 0, none⟩)), .int .u32 x, .int .u32 y] w fun e w' => e = .returned (.bool (comesB (chainV ll) x y)) ∧ Q w w' := by
  have hm : ∀ w : World, (method 220 56 (.pointer (some ⟨b, 0, none⟩)) "At").run Try.prog w = .ok (26, .pointer (some ⟨b, 0, none⟩)) w := fun _ => by kernel_rfl
  go_enter Try.func60, Try.ntmps60
  go_wp2_with fail
  refine (ch_at_any b ll hl x hx _ hc).mono ?_
  rintro e w1 ⟨rfl, q1⟩
  go_wp2_with fail
  refine (less_any y (chainV ll x) _).mono ?_
  rintro e w2 ⟨rfl, rfl⟩
  cases h1 : lessB y (chainV ll x)
  · have H1 : Hid (lessB y (chainV ll x) = false) := h1
    clear h1
    go_wp2_with fail
    refine (equal_any y (chainV ll x) _).mono ?_
    rintro e w2 ⟨rfl, rfl⟩
    go_wp2_with fail
    go_ret
    exact ⟨ret_bool (by unfold comesB; rw [H1.out]; rfl), q1⟩
  · have H1 : Hid (lessB y (chainV ll x) = true) := h1
    clear h1
    go_wp2_with fail
    go_ret
    exact ⟨ret_bool (by unfold comesB; rw [H1.out]; rfl), q1⟩
set_option maxHeartbeats 2000000 in
theorem ch_leastc_any (b br bp by' bf first n y : Nat) (ll : List (List (Nat × Nat))) (hl : LOk ll) (hf : first < 4294967296) (hn : keyN first + n < 4294967296) (w : World) (hc : ChIs w b ll)
    (c1 : w.cell? ⟨br, 0, none⟩ = some (.iface 56 (.pointer (some ⟨b, 0, none⟩)))) (c2 : w.cell? ⟨bp, 0, none⟩ = some (.func (.func 61) #[] #[.pointer (some ⟨bf, 0, none⟩)])) (c3 : w.cell? ⟨by', 0, none⟩ = some (.int .u32 y)) (c4 : w.cell? ⟨bf, 0, none⟩ = some (.int .u32 first)) :
    Calls Try.prog 65 (#[.int .i64 n] ++ #[.pointer (some ⟨br, 0, none⟩), .pointer (some ⟨bp, 0, none⟩), .pointer (some ⟨by', 0, none⟩)]) w fun e w' => e = .returned (.bool (comesB (chainV ll) (placeN first n) y)) ∧ Q w w' := by
  have hx : placeN first n < 4294967296 := fkeyN_lt hn
  have d1 := qw_cell c1
  have d2 := qw_cell c2
  have d3 := qw_cell c3
  have n0 := qw_some w
  have HD : Hid (w.cell? ⟨bf, 0, none⟩ = some (.int .u32 first)) := c4
  have HC : Hid (ChIs w b ll) := hc
  have HL : Hid (LOk ll) := hl
  clear c1 c2 c3 c4 hc hl
  go_enter Try.func65, Try.ntmps65
  go_wp2_with fail
  refine wp_region_quiet_Q (by kernel_rfl) (by kernel_rfl) ?_
  repeat (first | go_big_quiet_step (first | (go_at_call 61; exact calls_qs (place_any bf first n hf hn _ (QW.q _ |>.cell HD.out))) | (go_at_call 60; exact calls_qw (ch_comes_any b ll HL.out _ y hx _ (HC.out.next (QW.q _))))) | quiet_step (first | (go_at_call 61; exact calls_qs (place_any bf first n hf hn _ (QW.q _ |>.cell HD.out))) | (go_at_call 60; exact calls_qw (ch_comes_any b ll HL.out _ y hx _ (HC.out.next (QW.q _))))))
  refine wpQuiet_nil ?_
  intro w4 hw'
  have hq4 := qw_out hw'
  clear hw'
  go_wp2_with fail
  go_ret
  exact ⟨rfl, hq4⟩
end Go.Proofs.Ytmfniimelibhfaa

/- Appending to a list of the call's own in a list of operations, with what is said of the other blocks. -/
import Derived.Test.YtmfniimelibhfaaGfc616c6a
import Derived.OwnWalk
import Derived.Deep.AppendLies
import Derived.Deep.RegionLaw
import Derived.Test.YtmfniimelibhfaaG9617c3b4
namespace Go.Proofs.Ytmfniimelibhfaa
open Go.RowKit

/-- The same, with what is said of the other blocks. -/
theorem run_app_qg {P : Program} (w w0 : World) (q0 : Q w0 w) (t ty : TypeId) (e : TypeId) (i : TypeInfo) (z : Value) (size bytes : Nat) (ht : P.underlying t = some (.slice e)) (hi : P.info? e = some i) (hz : i.zero = some z)
    (hsize : i.size = size) (hby : i.bytes = bytes) (hzs : z.cells.size = size) (hsz : 0 < size)
    (v : Value) (n : Nat) (xs : List Value) (hown : w.ownsRow w0.heap.size e size v n xs)
    (ad : Addr) (m c : Nat) (news : List Value) (hl : news.length = m * size) (hnews : ∀ j u, news[j]? = some u → w.cell? (ad.add j) = some u) (h1 : ∀ u ∈ news, u.oneCell' = true)
    (hm : 0 < m) (h63 : n + m ≤ maxLen) (hbytes : (n + m) * bytes ≤ 140737488355328) :
    ∃ g cap w', (Builtin.append_ #[t, t] ty #[v, .slice (some ad) m c]).run P w = .ok (.slice (some ⟨g, 0, none⟩) (n + m) cap) w' ∧
      w'.ownsRow w0.heap.size e size (.slice (some ⟨g, 0, none⟩) (n + m) cap) (n + m) (xs ++ news) ∧ Q w0 w' ∧ w.grownBy w' v.ownBlock ∧ (v.ownBlock = some g ∨ g = w.heap.size) := by
  obtain ⟨g, cap, w', hr, h2, h3⟩ := run_app_q (P := P) w w0 q0 t ty e i z size bytes ht hi hz hsize hby hzs hsz v n xs hown ad m c news hl hnews h1 hm h63 hbytes
  obtain ⟨g', cap', w'', hr', _, h3', h4', _⟩ := run_append_lies (P := P) w t ty w0.heap.size e i z size bytes ht hi hz hsize hby hzs hsz v n xs hown ad m c news hl hnews h1 hm h63 hbytes q0.1.size _ rfl
  rw [hr] at hr'
  injection hr' with a b
  injection a with a
  injection a with a
  injection a with a
  subst a
  subst b
  exact ⟨g, cap, w', hr, h2, h3, h3', h4'⟩
/-- In a list of operations. -/
theorem wpList_app_qg {P : Program} (w w0 : World) (q0 : Q w0 w) {ops : Array Oper} {rest : List Oper} {o : Oper} {a : Act} {R : Exit → Act → World → Prop} (hgd : o.guard = none) (s x : Operand) (t : TypeId)
    (ho : o.op = .call { callee := .builtin .append, args := #[s, x], argTypes := #[t, t] })
    (e : TypeId) (i : TypeInfo) (z : Value) (size bytes : Nat) (ht : P.underlying t = some (.slice e)) (hi : P.info? e = some i) (hz : i.zero = some z)
    (hsize : i.size = size) (hby : i.bytes = bytes) (hzs : z.cells.size = size) (hsz : 0 < size)
    (v : Value) (n : Nat) (xs : List Value) (hs : a.eval s = v) (hown : w.ownsRow w0.heap.size e size v n xs)
    (ad : Addr) (m c : Nat) (news : List Value) (hx : a.eval x = .slice (some ad) m c) (hl : news.length = m * size) (hnews : ∀ j u, news[j]? = some u → w.cell? (ad.add j) = some u) (h1 : ∀ u ∈ news, u.oneCell' = true)
    (hm : 0 < m) (h63 : n + m ≤ maxLen) (hbytes : (n + m) * bytes ≤ 140737488355328)
    (h : ∀ g cap w', w'.ownsRow w0.heap.size e size (.slice (some ⟨g, 0, none⟩) (n + m) cap) (n + m) (xs ++ news) → Q w0 w' → w.grownBy w' v.ownBlock → (v.ownBlock = some g ∨ g = w.heap.size) → wpList P ops R rest (a.put o.dst (.slice (some ⟨g, 0, none⟩) (n + m) cap)) w') :
    wpList P ops R (o :: rest) a w := by
  obtain ⟨g, cap, w', hr, h2, h3, h4, h5⟩ := run_app_qg (P := P) w w0 q0 t o.type e i z size bytes ht hi hz hsize hby hzs hsz v n xs hown ad m c news hl hnews h1 hm h63 hbytes
  refine wpList_plain hgd fun _ hK => ?_
  unfold Oper.wp execOp
  simp only [ho, resolve, invoke, builtin, Sem.run_bind, Sem.run_pure, Result.andThen_ok, List.map_toArray, List.map_cons, List.map_nil, hs, hx, hr]
  exact hK _ _ (h g cap w' h2 h3 h4 h5)
end Go.Proofs.Ytmfniimelibhfaa
/- Lists of curves that came in: some. -/
namespace Go.Proofs.Ytmfniimelibhfaa
open Go.RowKit
set_option linter.unusedVariables false
set_option linter.unusedSimpArgs false

/-- A curve in memory that lies apart from a block. -/
def CAp (w : World) (row : Option Nat) (b : Nat) (l : List (Nat × Nat)) : Prop := ∃ g cap, some b ≠ row ∧ some g ≠ row ∧ w.cell? ⟨b, 0, none⟩ = some (.slice (some ⟨g, 0, none⟩) l.length cap) ∧ l.length ≤ cap ∧ 1 ≤ l.length ∧ KIs w g 0 l
theorem CAp.next {w w' : World} {row : Option Nat} {b : Nat} {l : List (Nat × Nat)} (h : CAp w row b l) (q : Q w w') : CAp w' row b l := by
  obtain ⟨g, cap, h1, h2, h3, h4, h5, h6⟩ := h
  exact ⟨g, cap, h1, h2, q.cell h3, h4, h5, h6.next q⟩
theorem CAp.grown {w w' : World} {row : Option Nat} {b g' : Nat} {l : List (Nat × Nat)} (h : CAp w row b l) (hg : w.grownBy w' row) (ho : row = some g' ∨ g' = w.heap.size) : CAp w' (some g') b l := by
  obtain ⟨g, cap, h1, h2, h3, h4, h5, h6⟩ := h
  have b1 := cell_in h3
  have b2 := cell_in (h6 0 (by omega)).1
  refine ⟨g, cap, ?_, ?_, hg.cell h3 h1, h4, h5, fun i hi => ⟨hg.cell (h6 i hi).1 h2, hg.cell (h6 i hi).2 h2⟩⟩
  · rcases ho with ho | ho
    · rw [← ho]; exact h1
    · intro e; injection e with e; omega
  · rcases ho with ho | ho
    · rw [← ho]; exact h2
    · intro e; injection e with e; omega
theorem own_next {wr wx : World} {base : Nat} {e : TypeId} {size n : Nat} {v : Value} {xs : List Value} (h : wr.ownsRow base e size v n xs) (q : Q wr wx) : wx.ownsRow base e size v n xs := by
  refine ⟨h.1, ?_⟩
  rcases h.2 with a | ⟨g, cap, cur, h1, h2, h3, h4⟩
  · exact Or.inl a
  · have hg : g < wr.heap.size := by
      rcases Nat.lt_or_ge g wr.heap.size with hlt | hge
      · exact hlt
      · rw [Array.getElem?_eq_none hge] at h3; cases h3
    exact Or.inr ⟨g, cap, cur, h1, h2, (q.1.block g hg).trans h3, h4⟩
/-- How far the list of curves has come. -/
structure Alls (ll : List (List (Nat × Nat))) (w wr : World) (v : Value) (k : Nat) : Prop where
  q : Q w wr
  it : ∃ ps, wr.ownsRow w.heap.size 25 1 v k ps ∧ ∀ i, i < k → ∃ b, ps[i]? = some (.pointer (some ⟨b, 0, none⟩)) ∧ CAp wr v.ownBlock b (ll.getD i [])
theorem Alls.next {ll : List (List (Nat × Nat))} {w wr wx : World} {v : Value} {k : Nat} (h : Alls ll w wr v k) (q : Q wr wx) : Alls ll w wx v k := by
  obtain ⟨ps, h1, h2⟩ := h.it
  refine ⟨h.q.trans q, ps, own_next h1 q, fun i hi => ?_⟩
  obtain ⟨b, a1, a2⟩ := h2 i hi
  exact ⟨b, a1, a2.next q⟩
theorem Alls.apart {ll : List (List (Nat × Nat))} {w wr wx : World} {v : Value} {k b : Nat} {l : List (Nat × Nat)} (h : Alls ll w wr v k) (hc : CNew wx wr.heap.size b l) (h1 : 1 ≤ l.length) : CAp wx v.ownBlock b l := by
  obtain ⟨ps, o1, _⟩ := h.it
  obtain ⟨g, cap, c1, c2, c3, c4, c5⟩ := hc.it
  have key : ∀ x, wr.heap.size ≤ x → some x ≠ v.ownBlock := by
    intro x hx e
    rcases o1.2 with ⟨rfl, _⟩ | ⟨g', cap', cur, rfl, _, h3, _⟩
    · exact absurd e (by simp [Value.ownBlock])
    · simp [Value.ownBlock] at e
      rw [Array.getElem?_eq_none (by omega)] at h3
      cases h3
  exact ⟨g, cap, key _ c1, key _ c2, c3, c4, h1, c5⟩
theorem Alls.push {ll : List (List (Nat × Nat))} {w wb wx : World} {v : Value} {k b g cap : Nat} {ps : List Value} (hp : ps.length = k) (h2 : ∀ i, i < k → ∃ b, ps[i]? = some (.pointer (some ⟨b, 0, none⟩)) ∧ CAp wb v.ownBlock b (ll.getD i [])) (hc : CAp wb v.ownBlock b (ll.getD k []))
    (own : wx.ownsRow w.heap.size 25 1 (.slice (some ⟨g, 0, none⟩) (k + 1) cap) (k + 1) (ps ++ [.pointer (some ⟨b, 0, none⟩)])) (q : Q w wx) (hg : wb.grownBy wx v.ownBlock) (ho : v.ownBlock = some g ∨ g = wb.heap.size) :
    Alls ll w wx (.slice (some ⟨g, 0, none⟩) (k + 1) cap) (k + 1) := by
  refine ⟨q, _, own, fun i hi => ?_⟩
  by_cases e : i = k
  · subst e
    exact ⟨b, by rw [← hp]; simp, hc.grown hg ho⟩
  · obtain ⟨b', a1, a2⟩ := h2 i (by omega)
    exact ⟨b', by rw [List.getElem?_append_left (by omega)]; exact a1, a2.grown hg ho⟩
theorem ptrInfo : ∃ i, Try.prog.info? 25 = some i ∧ i.size = 1 ∧ i.bytes = 8 ∧ i.zero = some (.pointer none) :=
  info_of (by kernel_rfl) (by kernel_rfl)
theorem news1 (W : World) (v0 : Value) (t : TypeId) : ∀ j u, [v0][j]? = some u → (W.alloc (.cells #[v0] t)).cell? ((⟨W.heap.size, 0, none⟩ : Addr).add j) = some u := by
  intro j u hu
  rw [show (⟨W.heap.size, 0, none⟩ : Addr).add j = ⟨W.heap.size, j, none⟩ by unfold Addr.add; split <;> simp_all, cell_of_row _ _ j #[v0] t (0, 0) (heap_alloc_new W _)]
  simpa using hu
theorem one1 (b : Nat) : ∀ u ∈ [Value.pointer (some ⟨b, 0, none⟩)], u.oneCell' = true := by
  intro u hu
  simp at hu
  rw [hu]; rfl

set_option maxHeartbeats 4000000 in
set_option maxRecDepth 100000 in
theorem some_any (g o cap : Nat) (ll : List (List (Nat × Nat))) (hf : Fits ll) (h1 : 1 ≤ ll.length) (h8 : ll.length ≤ 8) (hg : ∀ i, i < ll.length → Good (ll.getD i [])) (w : World) (hk : LLs w g o ll) :
    Calls Try.prog 32 #[.slice (some ⟨g, o, none⟩) ll.length cap] w fun e w' => Q w w' ∧ ∃ b, e = .returned (.pointer (some ⟨b, 0, none⟩)) ∧ ChIs w' b ll := by
  obtain ⟨i, i1, i2, i3, i4⟩ := knotInfo
  have HI : Hid (Try.prog.info? 32 = some i ∧ i.size = 2 ∧ i.bytes = 8 ∧ i.zero = some (.agg #[.int .u32 0, .int .u32 0])) := ⟨i1, i2, i3, i4⟩
  clear i1 i2 i3 i4
  obtain ⟨pi, i1, i2, i3, i4⟩ := ptrInfo
  have HP : Hid (Try.prog.info? 25 = some pi ∧ pi.size = 1 ∧ pi.bytes = 8 ∧ pi.zero = some (.pointer none)) := ⟨i1, i2, i3, i4⟩
  clear i1 i2 i3 i4
  have HK : Hid (LLs w g o ll) := hk
  have HF : Hid (Fits ll) := hf
  have HG : Hid (∀ i, i < ll.length → Good (ll.getD i [])) := hg
  obtain ⟨N, hN⟩ : ∃ N, ll.length = N := ⟨_, rfl⟩
  have HN : Hid (ll.length = N) := hN
  rw [hN] at h1 h8 ⊢
  clear hk hf hN hg
  go_enter Try.func32, Try.ntmps32
  go_wp2_with fail
  have A0 : Hid (Alls ll w w (.slice none 0 0) 0) := ⟨Q.refl w, [], ⟨by simp, Or.inl ⟨rfl, rfl⟩⟩, fun i hi => absurd hi (Nat.not_lt_zero _)⟩
  go_loopg [3, 4] N (fun m s3 s4 wr => ∃ k : Nat, s4 = .int .i64 k ∧ k + m = N ∧ Hid (Alls ll w wr s3 k))
  case atStart => exact ⟨0, rfl, by omega, A0⟩
  case round =>
    obtain ⟨k, rfl, hm, AK⟩ := hrel
    by_cases hkn : k < N
    · have hkl : k < ll.length := by rw [HN.out]; exact hkn
      obtain ⟨gk, ok, ck, p1, p2, p3⟩ := HK.out k hkl
      obtain ⟨f1, f2⟩ := HF.out _ (getD_mem hkl)
      have gd := HG.out k hkl
      obtain ⟨L, hL⟩ : ∃ L, ll.getD k [] = L := ⟨_, rfl⟩
      have HLk : Hid (ll.getD k [] = L) := hL
      rw [hL] at p1 p2 p3 f1 f2 gd
      replace p1 := AK.out.q.cell p1
      replace p3 := p3.next AK.out.q
      have l2 : 2 ≤ L.length := gd.1
      have l64 : L.length ≤ 64 := gd.2.1
      have GD : Hid (Good L) := gd
      have FT : Hid (∀ i, kx L i < 4294967296 ∧ ky L i < 4294967296) := f2
      have H1 : Hid (∀ j u, (flat L)[j]? = some u → wr.cell? ((⟨gk, ok, none⟩ : Addr).add j) = some u) := p3.flat_cells
      have H2 : Hid ((flat L).length = L.length * i.size) := by show (flat L).length = L.length * i.size; rw [HI.out.2.1, flat_len]
      have H3 : Hid (L.length * i.bytes ≤ 140737488355328) := by show L.length * i.bytes ≤ 140737488355328; rw [HI.out.2.2.1]; omega
      have hi0 : (0 : Int) ≤ (k : Int) := by omega
      have hi1 : (k : Int) < (N : Int) := by omega
      clear hL hkl p3 f1 f2 gd
      go_wp2_with (at_builtin; go_must (refine wpList_app _ rfl (.const (.slice none 0 0)) (.tmp 19) 22 rfl 32 i _ Try.underlying22 HI.out.1 HI.out.2.2.2 _ (Or.inl rfl) rfl _ L.length ck (flat L) rfl H2.out (fun j u h => H1.out j u h) (by omega) (by omega) H3.out ?_; intro cap' w1 q1 q2 q3 q4 q5))
      have K1 : Hid (KIs w1 wr.heap.size 0 L) := KIs.of_flat q4
      have A1 : Hid (Alls ll w w1 u3 k) := AK.out.next q1
      clear q3 q4 q5 H1 H2 H3 AK p1
      refine (new_all _ L (by omega) FT.out _ (Or.inl ⟨_, _, _, rfl, q2, K1.out⟩)).mono ?_
      rintro e w2 ⟨p2', ⟨r, rfl, hb⟩ | ⟨b, rfl, hc, _⟩⟩
      · exact absurd hb (fun hb => good_bad GD.out hb)
      · have A2 : Hid (Alls ll w w2 u3 k) := A1.out.next p2'
        have CA : Hid (CAp w2 u3.ownBlock b (ll.getD k [])) := by
          show CAp w2 u3.ownBlock b (ll.getD k [])
          rw [HLk.out]
          exact A1.out.apart hc (by omega)
        clear hc q1 q2 p2' A1 K1
        obtain ⟨ps, o1, o2⟩ := A2.out.it
        have hpl : ps.length = k := by have := o1.1; omega
        have O1 : Hid ((w2.alloc (.cells #[.pointer (some ⟨b, 0, none⟩)] 25)).ownsRow w.heap.size 25 1 u3 k ps) := own_next o1 ((Q.refl w2).cells _ _)
        have QB : Hid (Q w (w2.alloc (.cells #[.pointer (some ⟨b, 0, none⟩)] 25))) := A2.out.q.cells _ _
        have O2 : Hid (∀ i, i < k → ∃ b', ps[i]? = some (.pointer (some ⟨b', 0, none⟩)) ∧ CAp (w2.alloc (.cells #[.pointer (some ⟨b, 0, none⟩)] 25)) u3.ownBlock b' (ll.getD i [])) := fun i hi => by
          obtain ⟨b', a1, a2⟩ := o2 i hi
          exact ⟨b', a1, a2.next ((Q.refl w2).cells _ _)⟩
        have CB : Hid (CAp (w2.alloc (.cells #[.pointer (some ⟨b, 0, none⟩)] 25)) u3.ownBlock b (ll.getD k [])) := CA.out.next ((Q.refl w2).cells _ _)
        have m1 : k + 1 ≤ maxLen := by unfold maxLen; omega
        have m2 : (k + 1) * 8 ≤ 140737488355328 := by omega
        clear o1 o2 CA A2
        go_wp2_with (at_builtin; go_must (refine wpList_app_qg _ w QB.out rfl (.tmp 30) (.tmp 32) 53 rfl 25 pi _ 1 8 Try.underlying53 HP.out.1 HP.out.2.2.2 HP.out.2.1 HP.out.2.2.1 rfl (by decide) u3 k ps (by simp [Act.eval, Act.put]) O1.out _ 1 1 [.pointer (some ⟨b, 0, none⟩)] (by simp [Act.eval, Act.put]) rfl (news1 _ _ _) (one1 _) (by decide) m1 m2 ?_; intro g7 cap7 w7 own7 q7 gr7 ho7))
        have A3 : Hid (Alls ll w w7 (.slice (some ⟨g7, 0, none⟩) (k + 1) cap7) (k + 1)) := Alls.push hpl O2.out CB.out own7 q7 gr7 ho7
        clear own7 q7 gr7 ho7 O1 O2 QB CB
        go_roundg (N - (k + 1))
        case measure => go_light; omega
        case rel => go_light; exact ⟨k + 1, by go_num, by omega, A3⟩
    · have hk : k = N := by omega
      subst hk
      obtain ⟨ps, o1, o2⟩ := AK.out.it
      obtain ⟨g', cap', cur, rfl, h2, h3, h4, h5, h6, h7⟩ : ∃ g' cap' cur, u3 = .slice (some ⟨g', 0, none⟩) k cap' ∧ w.heap.size ≤ g' ∧ wr.heap[g']? = some (.cells cur 25 (0, 0)) ∧ k ≤ cap' ∧ cap' ≤ maxLen ∧ cur.size = cap' * 1 ∧ cur.toList.take (k * 1) = ps := by
        rcases o1.2 with ⟨_, h0⟩ | h
        · omega
        · exact h
      have hpl : PLs wr g' 0 ll := by
        intro j hj
        rw [HN.out] at hj
        obtain ⟨b, a1, a2⟩ := o2 j hj
        obtain ⟨gg, cc, _, _, a3, a4, _, a5⟩ := a2
        refine ⟨b, ?_, ⟨gg, 0, cc, a3, a4, a5⟩⟩
        rw [Nat.zero_add, cell_of_row _ _ j cur 25 (0, 0) h3]
        rw [← h7, List.getElem?_take, if_pos (by omega)] at a1
        simpa using a1
      have JA : Hid (Calls Try.prog 24 #[.slice (some ⟨g', 0, none⟩) k cap'] wr fun e w' => Q wr w' ∧ ∃ b, e = .returned (.tuple #[.pointer (some ⟨b, 0, none⟩), .int .i64 0]) ∧ ChIs w' b ll) := by
        have := join_any g' 0 cap' ll (by rw [HN.out]; exact h1) (by rw [HN.out]; exact h8) wr hpl
        rw [HN.out] at this
        exact this
      have qw := AK.out.q
      clear o1 o2 h3 h4 h5 h6 h7 hpl AK
      go_wp2_with fail
      refine JA.out.mono ?_
      rintro e w8 ⟨q8, b8, rfl, hc8⟩
      have C8 : Hid (ChIs w8 b8 ll) := hc8
      clear hc8 JA
      go_wp2_with fail
      go_ret
      exact ⟨qw.trans q8, b8, rfl, C8.out⟩
end Go.Proofs.Ytmfniimelibhfaa
/- Curves one behind the other: Join, and a block that the chain does not read. -/
namespace Go.Proofs.Ytmfniimelibhfaa
open Go.RowKit
set_option linter.unusedVariables false
set_option linter.unusedSimpArgs false

/-- Curves handed in, each by its pointer; none has its knots in block z. -/
def PLz (w : World) (z g o : Nat) (ll : List (List (Nat × Nat))) : Prop := ∀ i, i < ll.length → ∃ b, w.cell? ⟨g, o + i, none⟩ = some (.pointer (some ⟨b, 0, none⟩)) ∧ ∃ g' o' cap, w.cell? ⟨b, 0, none⟩ = some (.slice (some ⟨g', o', none⟩) (ll.getD i []).length cap) ∧ (ll.getD i []).length ≤ cap ∧ KIs w g' o' (ll.getD i []) ∧ g' ≠ z
/-- A chain in memory that lies apart from block z. -/
def ChZ (w : World) (z b : Nat) (ll : List (List (Nat × Nat))) : Prop := ∃ g cap, w.cell? ⟨b, 0, none⟩ = some (.slice (some ⟨g, 0, none⟩) ll.length cap) ∧ ll.length ≤ cap ∧ b ≠ z ∧ g ≠ z ∧ ∀ i, i < ll.length → ∃ g' o' c', w.cell? ⟨g, i, none⟩ = some (.slice (some ⟨g', o', none⟩) (ll.getD i []).length c') ∧ (ll.getD i []).length ≤ c' ∧ KIs w g' o' (ll.getD i []) ∧ g' ≠ z
theorem ChZ.is {w : World} {z b : Nat} {ll : List (List (Nat × Nat))} (h : ChZ w z b ll) : ChIs w b ll := by
  obtain ⟨g, cap, h1, h2, _, _, h5⟩ := h
  refine ⟨g, cap, h1, h2, fun i hi => ?_⟩
  obtain ⟨g', o', c', a1, a2, a3, _⟩ := h5 i hi
  exact ⟨g', o', c', by rw [Nat.zero_add]; exact a1, a2, a3⟩
theorem ChZ.put {w : World} {z b : Nat} {ll : List (List (Nat × Nat))} (h : ChZ w z b ll) (j : Nat) (v : Value) : ChZ (w.setCell ⟨z, j, none⟩ v) z b ll := by
  have oth : ∀ (c i : Nat), c ≠ z → (w.setCell ⟨z, j, none⟩ v).cell? ⟨c, i, none⟩ = w.cell? ⟨c, i, none⟩ := fun c i hc => World.cell?_setCell_other _ _ _ _ (by simp [hc])
  obtain ⟨g, cap, h1, h2, h3, h4, h5⟩ := h
  refine ⟨g, cap, by rw [oth _ _ h3]; exact h1, h2, h3, h4, fun i hi => ?_⟩
  obtain ⟨g', o', c', a1, a2, a3, a4⟩ := h5 i hi
  exact ⟨g', o', c', by rw [oth _ _ h4]; exact a1, a2, fun k hk => ⟨by rw [oth _ _ a4]; exact (a3 k hk).1, by rw [oth _ _ a4]; exact (a3 k hk).2⟩, a4⟩
theorem ChZ.next {w w' : World} {z b : Nat} {ll : List (List (Nat × Nat))} (h : ChZ w z b ll) (q : Q w w') : ChZ w' z b ll := by
  obtain ⟨g, cap, h1, h2, h3, h4, h5⟩ := h
  refine ⟨g, cap, q.cell h1, h2, h3, h4, fun i hi => ?_⟩
  obtain ⟨g', o', c', a1, a2, a3, a4⟩ := h5 i hi
  exact ⟨g', o', c', q.cell a1, a2, a3.next q, a4⟩
/-- How far Join has come. -/
structure JoinZ (z : Nat) (ll : List (List (Nat × Nat))) (w wr : World) (g k : Nat) : Prop where
  q : Q w wr
  new : w.heap.size ≤ g
  done : ∀ i, i < k → ∃ g' o' cap, wr.cell? ⟨g, i, none⟩ = some (.slice (some ⟨g', o', none⟩) (ll.getD i []).length cap) ∧ (ll.getD i []).length ≤ cap ∧ KIs w g' o' (ll.getD i []) ∧ g' ≠ z
  room : ∀ j, j < ll.length → ∃ v, wr.cell? ⟨g, j, none⟩ = some v
  free : ∀ j, wr.frozen? ⟨g, j, none⟩ = false
theorem JoinZ.next {z : Nat} {ll : List (List (Nat × Nat))} {w wr wx : World} {g k : Nat} (h : JoinZ z ll w wr g k) (q : Q wr wx) : JoinZ z ll w wx g k where
  q := h.q.trans q
  new := h.new
  done := fun i hi => by obtain ⟨g', o', cap, h1, h2⟩ := h.done i hi; exact ⟨g', o', cap, q.cell h1, h2⟩
  room := fun j hj => by obtain ⟨v, hv⟩ := h.room j hj; exact ⟨v, q.cell hv⟩
  free := fun j => by rw [q.2]; exact h.free j
theorem JoinZ.step {z : Nat} {ll : List (List (Nat × Nat))} {w wr : World} {g k : Nat} (h : JoinZ z ll w wr g k) (hk : k < ll.length) {g' o' cap : Nat} (h2 : (ll.getD k []).length ≤ cap) (h4 : KIs w g' o' (ll.getD k [])) (h5 : g' ≠ z) :
    JoinZ z ll w (wr.setCell ⟨g, k, none⟩ (.slice (some ⟨g', o', none⟩) (ll.getD k []).length cap)) g (k + 1) := by
  obtain ⟨u, hu⟩ := h.room k hk
  refine ⟨h.q.set h.new _, h.new, fun i hi => ?_, fun j hj => ?_, fun j => ?_⟩
  · by_cases e : i = k
    · subst e
      exact ⟨g', o', cap, World.cell?_setCell_same _ _ _ hu, h2, h4, h5⟩
    · rw [World.cell?_setCell_other _ _ _ _ (by simp <;> omega)]
      exact h.done i (by omega)
  · by_cases e : j = k
    · subst e; exact ⟨_, World.cell?_setCell_same _ _ _ hu⟩
    · rw [World.cell?_setCell_other _ _ _ _ (by simp <;> omega)]; exact h.room j hj
  · rw [World.frozen?_setCell]; exact h.free j

set_option maxHeartbeats 4000000 in
set_option maxRecDepth 100000 in
theorem joinz_any (z g o cap : Nat) (ll : List (List (Nat × Nat))) (h1 : 1 ≤ ll.length) (h8 : ll.length ≤ 8) (w : World) (hz : z < w.heap.size) (hk : PLz w z g o ll) :
    Calls Try.prog 24 #[.slice (some ⟨g, o, none⟩) ll.length cap] w fun e w' => Q w w' ∧ ∃ b, e = .returned (.tuple #[.pointer (some ⟨b, 0, none⟩), .int .i64 0]) ∧ ChZ w' z b ll := by
  have HK : Hid (PLz w z g o ll) := hk
  obtain ⟨i, i1, i2, i3, i4⟩ := curveInfo
  obtain ⟨N, hN⟩ : ∃ N, ll.length = N := ⟨_, rfl⟩
  obtain ⟨M, hM⟩ : ∃ M, M = madeCells (Value.agg #[.slice none 0 0]).cells (N * 1) := ⟨_, rfl⟩
  have hms : M.size = N := by rw [hM]; simpa using size_madeCells _ (N * 1)
  rw [hN] at h1 h8 ⊢
  have hmk : ∀ w : World, (Instr.makeSlice 81 (.int .i64 (N : Int)) (.int .i64 (N : Int))).run Try.prog w = .ok (.slice (some ⟨w.heap.size, 0, none⟩) N N) (w.alloc (.cells M 72)) := fun w => by
    have := run_make (P := Try.prog) w 81 72 i _ Try.underlying81 i1 i4 .i64 .i64 N N (by omega) (by omega) (by rw [i3]; omega) (by omega)
    rw [i2] at this
    simp only [Int.toNat_natCast] at this
    rw [hM]
    exact this
  have j1 : ¬ (N : Int) < 1 := by omega
  have j2 : ¬ (8 : Int) < (N : Int) := by omega
  have j3 : decide ((N : Int) < 1) = false := decide_eq_false j1
  have j4 : decide ((8 : Int) < (N : Int)) = false := decide_eq_false j2
  clear hk i1 i2 i3 i4 hM
  go_enter Try.func24, Try.ntmps24
  go_wp2_with fail
  have hb : (w.alloc (.cells M 72)).heap[w.heap.size]? = some (.cells M 72 (0, 0)) := heap_alloc_new w _
  have J0 : Hid (JoinZ z ll w ((w.alloc (.cells M 72)).alloc (.cells #[.slice (some ⟨w.heap.size, 0, none⟩) N N] 83)) w.heap.size 0) := by
    refine ⟨((Q.refl w).cells _ _).cells _ _, Nat.le_refl _, fun i hi => absurd hi (Nat.not_lt_zero _), fun j hj => ?_, fun j => ?_⟩
    · have : (w.alloc (.cells M 72)).cell? ⟨w.heap.size, j, none⟩ = some (M[j]'(by omega)) := by
        rw [cell_of_row _ _ j M 72 (0, 0) hb]
        exact Array.getElem?_eq_getElem (by omega)
      exact ⟨_, cell_1 this _ _⟩
    · rw [((Q.refl _).cells _ _).2]
      exact frozen_of_row _ _ _ _ _ hb
  have C0 : ((w.alloc (.cells M 72)).alloc (.cells #[.slice (some ⟨w.heap.size, 0, none⟩) N N] 83)).cell? ⟨w.heap.size + 1, 0, none⟩ = some (.slice (some ⟨w.heap.size, 0, none⟩) N N) := by simp [go_sem]
  clear hb hmk hms
  generalize World.alloc (w.alloc _) _ = w0 at J0 C0 ⊢
  go_loopg [22] N (fun m s22 wr => ∃ k : Nat, s22 = .int .i64 k ∧ k + m = N ∧ Hid (JoinZ z ll w wr w.heap.size k) ∧ wr.cell? ⟨w.heap.size + 1, 0, none⟩ = some (.slice (some ⟨w.heap.size, 0, none⟩) N N))
  case atStart => exact ⟨0, rfl, by omega, J0, C0⟩
  case round =>
    obtain ⟨k, rfl, hm, JK, CK⟩ := hrel
    by_cases hkn : k < N
    · have hkl : k < ll.length := by omega
      obtain ⟨bk, p1, p2⟩ := HK.out k hkl
      obtain ⟨g', o', c', p3, p4, p5, p6⟩ := p2
      obtain ⟨u, hu⟩ := JK.out.room k hkl
      have z1 := JK.out.free k
      have J1 : Hid (JoinZ z ll w (wr.drew.setCell ⟨w.heap.size, k, none⟩ (.slice (some ⟨g', o', none⟩) (ll.getD k []).length c')) w.heap.size (k + 1)) := (JK.out.next (Q.refl wr).drew).step hkl p4 p5 p6
      replace p1 := JK.out.q.cell p1
      replace p3 := JK.out.q.cell p3
      obtain ⟨L, hL⟩ : ∃ L, (ll.getD k []).length = L := ⟨_, rfl⟩
      rw [hL] at p3 p4 J1
      have hi0 : (0 : Int) ≤ (k : Int) := by omega
      have hi1 : (k : Int) < (N : Int) := by omega
      have CK' : (wr.drew.setCell ⟨w.heap.size, k, none⟩ (.slice (some ⟨g', o', none⟩) L c')).cell? ⟨w.heap.size + 1, 0, none⟩ = some (.slice (some ⟨w.heap.size, 0, none⟩) N N) := by
        rw [World.cell?_setCell_other _ _ _ _ (by simp <;> omega)]
        exact (Q.refl wr).drew.cell CK
      clear hL p5 p6
      go_wp2_with fail
      go_region
      all_goals
        go_wp2_with fail
        go_roundg (N - (k + 1))
        case measure => go_light; omega
        case rel => go_light; exact ⟨k + 1, by go_num, by omega, J1, CK'⟩
    · have hk : k = N := by omega
      subst hk
      go_wp2_with fail
      refine bodyPost_ret (v := .tuple #[.pointer (some ⟨w.heap.size + 1, 0, none⟩), .int .i64 0]) (by simp [results, Try.results24, go_sem]) rfl ⟨JK.out.q, _, rfl, ?_⟩
      refine ⟨w.heap.size, k, by rw [hN]; exact CK, by rw [hN]; exact Nat.le_refl _, by omega, by omega, fun i hi => ?_⟩
      obtain ⟨g', o', c', a1, a2, a3, a4⟩ := JK.out.done i (by omega)
      exact ⟨g', o', c', a1, a2, a3.next JK.out.q, a4⟩
end Go.Proofs.Ytmfniimelibhfaa
/- Curves one behind the other: Least and Check. -/
namespace Go.Proofs.Ytmfniimelibhfaa
open Go.RowKit
set_option linter.unusedVariables false
set_option linter.unusedSimpArgs false

/-- Curves that Join takes. -/
structure LOk (ll : List (List (Nat × Nat))) : Prop where
  one : 1 ≤ ll.length
  many : ll.length ≤ 8
  all : ∀ l ∈ ll, COk l
theorem LOk.ok {ll : List (List (Nat × Nat))} (h : LOk ll) : COk (ll.getD 0 []) := h.all _ (getD_mem h.one)
theorem LOk.first {ll : List (List (Nat × Nat))} (h : LOk ll) : kx (ll.getD 0 []) 0 < 4294967296 ∧ kx (ll.getD 0 []) ((ll.getD 0 []).length - 1) < 4294967296 := ⟨(h.ok.lt _).1, (h.ok.lt _).1⟩
theorem LOk.keys {ll : List (List (Nat × Nat))} (h : LOk ll) : keyN (kx (ll.getD 0 []) 0) < keyN (kx (ll.getD 0 []) ((ll.getD 0 []).length - 1)) := ends_keys h.ok
theorem ch_at_any (b : Nat) (ll : List (List (Nat × Nat))) (hl : LOk ll) (x : Nat) (hx : x < 4294967296) (w : World) (hc : ChIs w b ll) :
    Calls Try.prog 26 #[.pointer (some ⟨b, 0, none⟩), .int .u32 x] w fun e w' => e = .returned (.int .u32 (chainV ll x : Nat)) ∧ Q w w' :=
  chat_any b ll hl.all (by have := hl.many; omega) x hx w hc
set_option maxHeartbeats 1000000 in
theorem ch_ends_any (b : Nat) (ll : List (List (Nat × Nat))) (hl : LOk ll) (w : World) (hc : ChIs w b ll) :
    Calls Try.prog 91 #[.pointer (some ⟨b, 0, none⟩)] w fun e w' => e = .returned (.tuple #[.int .u32 (kx (ll.getD 0 []) 0), .int .u32 (kx (ll.getD 0 []) ((ll.getD 0 []).length - 1))]) ∧ Q w w' := by
  obtain ⟨g, cap, c1, c2, c3⟩ := hc.it
  have n8 := hl.many
  have CI : Hid (CIs w g 0 (ll.getD 0 [])) := c3.curve hl.one
  have HO : Hid (COk (ll.getD 0 [])) := hl.ok
  obtain ⟨m, hm⟩ : ∃ m, ll.length = m + 1 := ⟨ll.length - 1, by have := hl.one; omega⟩
  obtain ⟨K, hK⟩ : ∃ K, ll.getD 0 [] = K := ⟨_, rfl⟩
  rw [hK] at CI HO ⊢
  rw [hm] at c1 c2 n8
  have b1 : (0 : Int) < ((m + 1 : Nat) : Int) := by omega
  have hz : (((m + 1 : Nat) : Int) == 0) = false := by simp; omega
  clear hc hl c3 hm hK
  go_enter Try.func91, Try.ntmps91
  go_wp2_with fail
  refine (ends_any g 0 K HO.out _ CI.out).mono ?_
  rintro e w1 ⟨rfl, q1⟩
  go_wp2_with fail
  go_ret2
  exact ⟨rfl, q1⟩
set_option maxHeartbeats 1000000 in
theorem ch_comes_any (b : Nat) (ll : List (List (Nat × Nat))) (hl : LOk ll) (x y : Nat) (hx : x < 4294967296) (w : World) (hc : ChIs w b ll) :
    Calls Try.prog 60 #[.iface 56 (.pointer (some ⟨b, 0, none⟩)), .int .u32 x, .int .u32 y] w fun e w' => e = .returned (.bool (comesB (chainV ll) x y)) ∧ Q w w' := by
  have hm : ∀ w : World, (method 220 56 (.pointer (some ⟨b, 0, none⟩)) "At").run Try.prog w = .ok (26, .pointer (some ⟨b, 0, none⟩)) w := fun _ => by kernel_rfl
  go_enter Try.func60, Try.ntmps60
  go_wp2_with fail
  refine (ch_at_any b ll hl x hx _ hc).mono ?_
  rintro e w1 ⟨rfl, q1⟩
  go_wp2_with fail
  refine (less_any y (chainV ll x) _).mono ?_
  rintro e w2 ⟨rfl, rfl⟩
  cases h1 : lessB y (chainV ll x)
  · have H1 : Hid (lessB y (chainV ll x) = false) := h1
    clear h1
    go_wp2_with fail
    refine (equal_any y (chainV ll x) _).mono ?_
    rintro e w2 ⟨rfl, rfl⟩
    go_wp2_with fail
    go_ret
    exact ⟨ret_bool (by unfold comesB; rw [H1.out]; rfl), q1⟩
  · have H1 : Hid (lessB y (chainV ll x) = true) := h1
    clear h1
    go_wp2_with fail
    go_ret
    exact ⟨ret_bool (by unfold comesB; rw [H1.out]; rfl), q1⟩
set_option maxHeartbeats 2000000 in
theorem ch_leastc_any (b br bp by' bf first n y : Nat) (ll : List (List (Nat × Nat))) (hl : LOk ll) (hf : first < 4294967296) (hn : keyN first + n < 4294967296) (w : World) (hc : ChIs w b ll)
    (c1 : w.cell? ⟨br, 0, none⟩ = some (.iface 56 (.pointer (some ⟨b, 0, none⟩)))) (c2 : w.cell? ⟨bp, 0, none⟩ = some (.func (.func 61) #[] #[.pointer (some ⟨bf, 0, none⟩)])) (c3 : w.cell? ⟨by', 0, none⟩ = some (.int .u32 y)) (c4 : w.cell? ⟨bf, 0, none⟩ = some (.int .u32 first)) :
    Calls Try.prog 65 (#[.int .i64 n] ++ #[.pointer (some ⟨br, 0, none⟩), .pointer (some ⟨bp, 0, none⟩), .pointer (some ⟨by', 0, none⟩)]) w fun e w' => e = .returned (.bool (comesB (chainV ll) (placeN first n) y)) ∧ Q w w' := by
  have hx : placeN first n < 4294967296 := fkeyN_lt hn
  have d1 := qw_cell c1
  have d2 := qw_cell c2
  have d3 := qw_cell c3
  have n0 := qw_some w
  have HD : Hid (w.cell? ⟨bf, 0, none⟩ = some (.int .u32 first)) := c4
  have HC : Hid (ChIs w b ll) := hc
  have HL : Hid (LOk ll) := hl
  clear c1 c2 c3 c4 hc hl
  go_enter Try.func65, Try.ntmps65
  go_wp2_with fail
  refine wp_region_quiet_Q (by kernel_rfl) (by kernel_rfl) ?_
  repeat (first | go_big_quiet_step (first | (go_at_call 61; exact calls_qs (place_any bf first n hf hn _ (QW.q _ |>.cell HD.out))) | (go_at_call 60; exact calls_qw (ch_comes_any b ll HL.out _ y hx _ (HC.out.next (QW.q _))))) | quiet_step (first | (go_at_call 61; exact calls_qs (place_any bf first n hf hn _ (QW.q _ |>.cell HD.out))) | (go_at_call 60; exact calls_qw (ch_comes_any b ll HL.out _ y hx _ (HC.out.next (QW.q _))))))
  refine wpQuiet_nil ?_
  intro w4 hw'
  have hq4 := qw_out hw'
  clear hw'
  go_wp2_with fail
  go_ret
  exact ⟨rfl, hq4⟩
end Go.Proofs.Ytmfniimelibhfaa

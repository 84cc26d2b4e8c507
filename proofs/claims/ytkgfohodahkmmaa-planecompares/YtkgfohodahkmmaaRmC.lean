/- A Room lends a list. -/
import Derived.Test.YtkgfohodahkmmaaRmB
namespace Go.Proofs.Ytkgfohodahkmmaa
open Go.RowKit
set_option linter.unusedVariables false
set_option linter.unusedSimpArgs false

theorem own_nx {wr wx : World} {base : Nat} {e : TypeId} {size n : Nat} {v : Value} {xs : List Value} (h : wr.ownsRow base e size v n xs) (q : Q wr wx) : wx.ownsRow base e size v n xs := (q.fr (fun _ => True)).row h (fun _ _ => trivial)
theorem alloc_size (w : World) (o : Obj) : (w.alloc o).heap.size = w.heap.size + 1 := by simp
set_option maxHeartbeats 8000000 in
set_option maxRecDepth 100000 in
theorem room_samples (w0 w : World) (q0 : Q w0 w) (r : Nat) {sv wv : Value} {L : List Lend} (h : Rm w0.heap.size w r sv wv L) (hL : L.length ≤ 1000) (v : Value) (S : List Nat) (hS : USl w v S) (hn : S.length ≤ 35184372087808) :
    Calls Try.prog 41 #[.pointer (some ⟨r, 0, none⟩), v] w fun e w' => ∃ g n hh cap sv' wv', e = .returned (.slice (some ⟨g, 0, none⟩) n (n + 5)) ∧ n = S.length ∧ Q w0 w' ∧ w.heap.size ≤ g ∧ Hid (Rm w0.heap.size w' r sv' wv' (L ++ [⟨g, hh, cap, lentL S⟩])) ∧
      Hid (Fr w w' (fun b => b ≠ r ∧ sv.ownBlock ≠ some b ∧ wv.ownBlock ≠ some b)) ∧ Hid (∀ b, b < w.heap.size → Blk r sv' wv' (L ++ [⟨g, hh, cap, lentL S⟩]) b → Blk r sv wv L b) := by
  obtain ⟨a, cap, ev⟩ := hS.form
  subst ev
  obtain ⟨n, en⟩ : ∃ n, S.length = n := ⟨_, rfl⟩
  have HN : Hid (S.length = n) := en
  rw [en] at hn hS ⊢
  obtain ⟨N, eN⟩ : ∃ N, n + 5 = N := ⟨_, rfl⟩
  have hN5 : (n : Int) + 5 = (N : Int) := by omega
  have HNN : Hid (n + 5 = N) := eN
  obtain ⟨M, hM, hmk⟩ := make_row N (by omega)
  obtain ⟨w2, hcp, hfill⟩ := copy_row w n N (by omega) a cap S en hS M hM
  obtain ⟨iu, i1, i2, i3, i4⟩ := u32Info
  have HU : Hid (Try.prog.info? 22 = some iu ∧ iu.size = 1 ∧ iu.bytes = 4 ∧ iu.zero = some (.int .u32 0)) := ⟨i1, i2, i3, i4⟩
  clear i1 i2 i3 i4
  obtain ⟨ir, i1, i2, i3, i4⟩ := rowInfo
  have HI : Hid (Try.prog.info? 23 = some ir ∧ ir.size = 1 ∧ ir.bytes = 24 ∧ ir.zero = some (.slice none 0 0)) := ⟨i1, i2, i3, i4⟩
  clear i1 i2 i3 i4
  have F0 : Hid (Fill w w2 w.heap.size N (lf S) n) := hfill
  have HR : Hid (Rm w0.heap.size w r sv wv L) := h
  have Q0 : Hid (Q w0 w) := q0
  have n1 : n < N := by omega
  clear h q0 hS hfill en eN hM
  go_enter Try.func41, Try.ntmps41
  go_wp2_with fail
  go_loopg [6] 5 (fun m sx wr => ∃ i : Nat, sx = .int .i64 i ∧ i + m = N ∧ n ≤ i ∧ Hid (Fill w wr w.heap.size N (lf S) i))
  case atStart => exact ⟨n, rfl, by have := HNN.out; omega, Nat.le_refl _, F0⟩
  case round =>
    obtain ⟨i, rfl, hm, hni, FI⟩ := hrel
    by_cases hi : i < N
    · have hi0 : (0 : Int) ≤ (i : Int) := by omega
      have hi1 : (i : Int) < (N : Int) := by omega
      obtain ⟨u, hu⟩ := FI.out.room i hi
      have fz := FI.out.free i
      obtain ⟨z, hz⟩ : ∃ z, lf S i = z := ⟨_, rfl⟩
      have hzv : z = (2141192202 + i) % 4294967296 := by rw [← hz]; unfold lf; rw [if_neg (by rw [HN.out]; omega)]
      have hw : IntKind.u32.wrap (2141192202 + (i : Int)) = (z : Int) := by rw [IntKind.wrap_u32, hzv]; omega
      have FN : Hid (Fill w (wr.setCell ⟨w.heap.size, i, none⟩ (.int .u32 (z : Nat))) w.heap.size N (lf S) (i + 1)) := FI.out.step hi hz.symm
      clear hz hzv
      go_wp2_with fail
      go_roundg (N - (i + 1))
      case measure => go_light; omega
      case rel => go_light; exact ⟨i + 1, by go_num, by omega, by omega, FN⟩
    · have hie : i = N := by omega
      have FE : Hid (Fill w wr w.heap.size N (lf S) N) := by rw [hie] at FI; exact FI
      have RM : Hid (Rm w0.heap.size wr r sv wv L) := HR.out.next FE.out.q
      have c0 := RM.out.c0
      have UV : Hid (UIs wr w.heap.size 0 (lentL S)) := fun i hi => by
        rw [lentL_length, HN.out, HNN.out] at hi
        rw [Nat.zero_add, FE.out.done i hi, lentL_get (by rw [HN.out, HNN.out]; exact hi)]
      have O1 : Hid ((wr.alloc (.cells #[.slice (some ⟨w.heap.size, 0, none⟩) N N] 23)).ownsRow w0.heap.size 23 1 sv L.length (L.map Lend.s)) := (RM.out.next ((Q.refl wr).cells _ _)).own
      have QB : Hid (Q w0 (wr.alloc (.cells #[.slice (some ⟨w.heap.size, 0, none⟩) N N] 23))) := (Q0.out.trans FE.out.q).cells _ _
      have m1 : L.length + 1 ≤ maxLen := by unfold maxLen; omega
      have m2 : (L.length + 1) * 24 ≤ 140737488355328 := by omega
      go_wp2_with (at_builtin; go_must (refine wpList_app_qg _ w0 QB.out rfl (.tmp 32) (.tmp 34) 28 rfl 23 ir _ 1 24 Try.underlying28 HI.out.1 HI.out.2.2.2 HI.out.2.1 HI.out.2.2.1 rfl (by decide) sv L.length _ (by simp [Act.eval, Act.put]) O1.out _ 1 1 [.slice (some ⟨w.heap.size, 0, none⟩) N N] (by simp [Act.eval, Act.put]) rfl (news_one _ _ _) (one_slice _ _ _) (by decide) m1 m2 ?_; intro g7 cap7 w7 own7 q7 gr7 ho7; have c07 : w7.cell? ⟨r, 0, none⟩ = some sv := gr7.cell (((Q.refl wr).cells _ _).cell c0) (fun e => RM.out.a1 e.symm); have f07 : w7.frozen? ⟨r, 0, none⟩ = false := ((q7.2 _).trans (Q0.out.2 _).symm).trans (HR.out.free 0)))
      have hrw : r < w.heap.size := cell_in HR.out.c0
      have hrr : r < wr.heap.size := cell_in c0
      have hg7 : g7 ≠ r := by
        rcases ho7 with e | e
        · exact fun e' => RM.out.a1 (by rw [e, e'])
        · rw [alloc_size] at e; omega
      have hgw : w.heap.size < wr.heap.size := by
        obtain ⟨u, hu⟩ := FE.out.room 0 (by omega)
        exact cell_in hu
      have FA : Fr wr (w7.setCell ⟨r, 0, none⟩ (.slice (some ⟨g7, 0, none⟩) (L.length + 1) cap7)) (fun b => b ≠ r ∧ sv.ownBlock ≠ some b) := ((((Q.refl wr).cells _ _).fr _).trans (Fr.app QB.out q7 gr7 (fun x hx hR => hR.2 hx))).set (fun hR => hR.1 rfl) _
      have FR8 : Hid (Fr w (w7.setCell ⟨r, 0, none⟩ (.slice (some ⟨g7, 0, none⟩) (L.length + 1) cap7)) (fun b => b ≠ r ∧ sv.ownBlock ≠ some b ∧ wv.ownBlock ≠ some b)) := (FE.out.q.fr _).trans (FA.mono (fun x hx _ => ⟨hx.1, hx.2.1⟩))
      have OWN8 : Hid ((w7.setCell ⟨r, 0, none⟩ (.slice (some ⟨g7, 0, none⟩) (L.length + 1) cap7)).ownsRow w0.heap.size 23 1 (.slice (some ⟨g7, 0, none⟩) (L.length + 1) cap7) (L.length + 1) (L.map Lend.s ++ [.slice (some ⟨w.heap.size, 0, none⟩) N N])) :=
        ((Fr.refl w7 (fun b => b ≠ r)).set (fun hR => hR rfl) _).row own7 (fun x hx e => hg7 (by injection hx with hx; rw [← e]; exact hx))
      have WERE8 : Hid ((w7.setCell ⟨r, 0, none⟩ (.slice (some ⟨g7, 0, none⟩) (L.length + 1) cap7)).ownsRow w0.heap.size 23 1 wv L.length (L.map Lend.t)) :=
        FA.row RM.out.were (fun x hx => ⟨fun e => RM.out.a2 (by rw [hx, e]), fun e => RM.out.a3 x e hx⟩)
      have c08 : (w7.setCell ⟨r, 0, none⟩ (.slice (some ⟨g7, 0, none⟩) (L.length + 1) cap7)).cell? ⟨r, 0, none⟩ = some (.slice (some ⟨g7, 0, none⟩) (L.length + 1) cap7) := World.cell?_setCell_same _ _ _ c07
      have oth : ∀ j v, j ≠ 0 → wr.cell? ⟨r, j, none⟩ = some v → (w7.setCell ⟨r, 0, none⟩ (.slice (some ⟨g7, 0, none⟩) (L.length + 1) cap7)).cell? ⟨r, j, none⟩ = some v := fun j v hj hc => by
        rw [World.cell?_setCell_other _ _ _ _ (by simp <;> omega)]
        exact gr7.cell (((Q.refl wr).cells _ _).cell hc) (fun e => RM.out.a1 e.symm)
      have c18 := oth 1 _ (by decide) RM.out.c1
      have c28 := oth 2 _ (by decide) RM.out.c2
      have c48 := oth 4 _ (by decide) RM.out.c4
      have c68 := oth 6 _ (by decide) RM.out.c6
      have U8 : Hid (UIs (w7.setCell ⟨r, 0, none⟩ (.slice (some ⟨g7, 0, none⟩) (L.length + 1) cap7)) w.heap.size 0 (lentL S)) := FA.uis UV.out ⟨by omega, fun e => by have := (own_lt HR.out.own e).2; omega⟩
      have Q8 : Hid (Q w0 (w7.setCell ⟨r, 0, none⟩ (.slice (some ⟨g7, 0, none⟩) (L.length + 1) cap7))) := q7.set HR.out.low _
      have hs8 : wr.heap.size + 1 ≤ (w7.setCell ⟨r, 0, none⟩ (.slice (some ⟨g7, 0, none⟩) (L.length + 1) cap7)).heap.size := by
        have := gr7.size
        rw [alloc_size] at this
        simpa [World.setCell] using this
      have HO7 : Hid (sv.ownBlock = some g7 ∨ g7 = wr.heap.size + 1) := by rw [alloc_size] at ho7; exact ho7
      have hg7s : w0.heap.size ≤ g7 ∧ g7 < (w7.setCell ⟨r, 0, none⟩ (.slice (some ⟨g7, 0, none⟩) (L.length + 1) cap7)).heap.size := own_lt OWN8.out rfl
      generalize w7.setCell ⟨r, 0, none⟩ (.slice (some ⟨g7, 0, none⟩) (L.length + 1) cap7) = w8 at *
      clear FA oth own7 q7 gr7 ho7 c07 f07 O1 QB c0
      have H1 : Hid (∀ j u, (celR (lentL S))[j]? = some u → w8.drew.cell? ((⟨w.heap.size, 0, none⟩ : Addr).add j) = some u) := by
        intro j u hj
        have hjl : j < (lentL S).length := by have := (List.getElem?_eq_some_iff.1 hj).1; rw [celR_length] at this; exact this
        rw [celR_get hjl] at hj
        injection hj with hj
        rw [← hj, addr_add]
        exact U8.out j hjl
      have HLN : Hid ((lentL S).length = N) := by show _ = _; rw [lentL_length, HN.out, HNN.out]
      have H2 : Hid ((celR (lentL S)).length = N * iu.size) := by show _ = _; rw [celR_length, HLN.out, HU.out.2.1, Nat.mul_one]
      have H3 : Hid (N * iu.bytes ≤ 140737488355328) := by show _ ≤ _; rw [HU.out.2.2.1]; omega
      have hN0 : 0 < N := by omega
      have hNm : N ≤ 1125899906842624 := by omega
      clear hcp hmk
      go_region_law (first
        | (refine step_app_new _ rfl (.const (.slice none 0 0)) (.tmp 43) 23 rfl 22 iu _ Try.underlying23 HU.out.1 HU.out.2.2.2 _ (Or.inl rfl) rfl _ N N (celR (lentL S)) (by simp [Act.eval, Act.put]) H2.out (fun j u hj => H1.out j u hj) hN0 hNm H3.out ?_; intro capA wA qA qA2 qA3 qA4 qA5; have cA1 : wA.cell? ⟨r, 1, none⟩ = some wv := qA.cell c18; have cA2 : ∀ vv, (wA.alloc (.cells #[vv] 23)).cell? ⟨r, 1, none⟩ = some wv := fun vv => ((Q.refl wA).cells _ _).cell cA1; have QA3 : Hid (wA.heap.size = w8.heap.size + 1) := qA3; clear qA3)
        | (refine step_app_qg _ w0 (((Q8.out.drew).trans qA).cells #[.slice (some ⟨w8.heap.size, 0, none⟩) N capA] 23) rfl (.tmp 42) (.tmp 45) 28 rfl 23 ir _ 1 24 Try.underlying28 HI.out.1 HI.out.2.2.2 HI.out.2.1 HI.out.2.2.1 rfl (by decide) wv L.length _ (by simp [Act.eval, Act.put]) (own_nx WERE8.out (((Q.refl w8).drew.trans qA).cells _ _)) _ 1 1 [.slice (some ⟨w8.heap.size, 0, none⟩) N capA] (by simp [Act.eval, Act.put]) rfl (news_one _ _ _) (one_slice _ _ _) (by decide) m1 m2 ?_; intro g9 cap9 w9 own9 q9 gr9 ho9; have c19 : w9.cell? ⟨r, 1, none⟩ = some wv := gr9.cell (((Q.refl wA).cells _ _).cell cA1) (fun e => RM.out.a2 e.symm); have f19 : w9.frozen? ⟨r, 1, none⟩ = false := ((q9.2 _).trans (Q0.out.2 _).symm).trans (HR.out.free 1)))
      all_goals
        have hn0 : (0 : Int) ≤ (n : Int) := by omega
        have hn2 : (n : Int) ≤ (N : Int) := by omega
        have QW : Q w0 (wA.alloc (.cells #[.slice (some ⟨w8.heap.size, 0, none⟩) N capA] 23)) := ((Q8.out.drew).trans qA).cells _ _
        have FA0 : Fr wA (w9.setCell ⟨r, 1, none⟩ (.slice (some ⟨g9, 0, none⟩) (L.length + 1) cap9)) (fun b => b ≠ r ∧ wv.ownBlock ≠ some b) := ((((Q.refl wA).cells _ _).fr _).trans (Fr.app QW q9 gr9 (fun x hx hR => hR.2 hx))).set (fun hR => hR.1 rfl) _
        have FA : Fr w8 (w9.setCell ⟨r, 1, none⟩ (.slice (some ⟨g9, 0, none⟩) (L.length + 1) cap9)) (fun b => b ≠ r ∧ wv.ownBlock ≠ some b) := (((Q.refl w8).drew.trans qA).fr _).trans FA0
        have hsA := QA3.out
        have hr8 : r < w8.heap.size := cell_in c18
        have HO9 : wv.ownBlock = some g9 ∨ g9 = w8.heap.size + 1 + 1 := by rw [alloc_size, hsA] at ho9; exact ho9
        have hg9 : g9 ≠ r := by
          rcases HO9 with e | e
          · exact fun e' => RM.out.a2 (by rw [e, e'])
          · omega
        have oth : ∀ j v, j ≠ 1 → w8.cell? ⟨r, j, none⟩ = some v → (w9.setCell ⟨r, 1, none⟩ (.slice (some ⟨g9, 0, none⟩) (L.length + 1) cap9)).cell? ⟨r, j, none⟩ = some v := fun j v hj hc => by
          rw [World.cell?_setCell_other _ _ _ _ (by simp <;> omega)]
          exact gr9.cell (((Q.refl wA).cells _ _).cell (qA.cell hc)) (fun e => RM.out.a2 e.symm)
        have wlt : ∀ b, wv.ownBlock = some b → b < wr.heap.size := fun b hb => (own_lt RM.out.were hb).2
        have wlt0 : ∀ b, wv.ownBlock = some b → b < w.heap.size := fun b hb => (own_lt HR.out.were hb).2
        have PUSH : Hid (Rm w0.heap.size (w9.setCell ⟨r, 1, none⟩ (.slice (some ⟨g9, 0, none⟩) (L.length + 1) cap9)) r (.slice (some ⟨g7, 0, none⟩) (L.length + 1) cap7) (.slice (some ⟨g9, 0, none⟩) (L.length + 1) cap9) (L ++ [⟨w.heap.size, w8.heap.size, capA, lentL S⟩])) := by
          refine HR.out.push (FR8.out.trans (FA.mono (fun x hx _ => ⟨hx.1, hx.2.2⟩))) Q0.out.1.size (oth 0 _ (by decide) c08) (World.cell?_setCell_same _ _ _ c19) (oth 2 _ (by decide) c28) (oth 4 _ (by decide) c48) (oth 6 _ (by decide) c68) ?_ ?_ (by rw [HLN.out]; exact qA2) ?_ ?_ (Nat.le_refl _) ?_ ?_ ?_ ?_ ?_
          · rw [HLN.out]
            refine FA.row OWN8.out (fun x hx => ?_)
            injection hx with hx
            have hx : g7 = x := hx
            subst hx
            refine ⟨hg7, fun e => ?_⟩
            rcases HO7.out with o | o
            · exact RM.out.a3 _ o e
            · have := wlt _ e; omega
          · rw [HLN.out]
            exact ((Fr.refl w9 (fun b => b ≠ r)).set (fun hR => hR rfl) _).row own9 (fun x hx e => hg9 (by injection hx with hx; rw [← e]; exact hx))
          · exact FA.uis U8.out ⟨by omega, fun e => by have := wlt0 _ e; omega⟩
          · refine FA0.uis (fun j hj => ?_) ⟨by omega, fun e => by have := wlt _ e; omega⟩
            rw [Nat.zero_add]
            exact qA4 j _ (celR_get hj)
          · have := FA.size; omega
          · omega
          · have := FA0.size; omega
          · rcases HO7.out with o | o
            · exact Or.inl o
            · exact Or.inr ⟨by omega, by omega, by omega⟩
          · rcases HO9 with o | o
            · exact Or.inl o
            · exact Or.inr ⟨by omega, by omega, by omega, by omega⟩
        have FEND : Hid (Fr w (w9.setCell ⟨r, 1, none⟩ (.slice (some ⟨g9, 0, none⟩) (L.length + 1) cap9)) (fun b => b ≠ r ∧ sv.ownBlock ≠ some b ∧ wv.ownBlock ≠ some b)) := FR8.out.trans (FA.mono (fun x hx _ => ⟨hx.1, hx.2.2⟩))
        have QEND : Hid (Q w0 (w9.setCell ⟨r, 1, none⟩ (.slice (some ⟨g9, 0, none⟩) (L.length + 1) cap9))) := q9.set HR.out.low _
        have BLK : Hid (∀ b, b < w.heap.size → Blk r (.slice (some ⟨g7, 0, none⟩) (L.length + 1) cap7) (.slice (some ⟨g9, 0, none⟩) (L.length + 1) cap9) (L ++ [⟨w.heap.size, w8.heap.size, capA, lentL S⟩]) b → Blk r sv wv L b) :=
          blk_push (Nat.le_refl _) (by omega) (by rcases HO7.out with o | o; exact Or.inl o; exact Or.inr (by omega)) (by rcases HO9 with o | o; exact Or.inl o; exact Or.inr (by omega))
        clear FA FA0 QW oth wlt wlt0 own9 q9 gr9 ho9 qA4 qA5 hsA HO9
        go_wp2_with fail
        refine bodyPost_ret (v := .slice (some ⟨w.heap.size, 0, none⟩) n N) (by simp [results, Try.results41, go_sem]) rfl ⟨w.heap.size, n, w8.heap.size, capA, _, _, by rw [HNN.out], rfl, QEND.out, Nat.le_refl _, PUSH, FEND, BLK⟩
end Go.Proofs.Ytkgfohodahkmmaa

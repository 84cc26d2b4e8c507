/- A Book keeps a list. -/
import Derived.Test.YtkgfohodahkmmaaBkA
namespace Go.Proofs.Ytkgfohodahkmmaa
open Go.RowKit
set_option linter.unusedVariables false
set_option linter.unusedSimpArgs false

set_option maxHeartbeats 8000000 in
set_option maxRecDepth 100000 in
theorem book_samples_y (w0 w : World) (q0 : Q w0 w) (k lo : Nat) {R : Nat → Prop} {sv mv : Value} {L : List Kept} (h : Bk R w0.heap.size w k sv mv L) (hlo : ∀ b, BBlk k sv mv L b → b < lo) (hRl : ∀ b, R b → b < lo) (hL : L.length ≤ 1000) (v : Value) (n m : Nat) (hv : NewN lo w v n) (hn : n ≤ 65536) (hm : m ≤ 100000) :
    Calls Try.prog 49 #[.pointer (some ⟨k, 0, none⟩), v, .int .i64 (m : Int)] w fun e w' => e = .returned (.tuple #[]) ∧ ∃ sv' mv' x, Hid (Q w0 w') ∧ Hid (Bk (Left R lo w v) w0.heap.size w' k sv' mv' (L ++ [x])) ∧ Hid (Fr w w' (Left R lo w v)) := by
  obtain ⟨ir, i1, i2, i3, i4⟩ := rowInfo
  have HI : Hid (Try.prog.info? 23 = some ir ∧ ir.size = 1 ∧ ir.bytes = 24 ∧ ir.zero = some (.slice none 0 0)) := ⟨i1, i2, i3, i4⟩
  clear i1 i2 i3 i4
  obtain ⟨ii, i1, i2, i3, i4⟩ := intInfo
  have HJ : Hid (Try.prog.info? 3 = some ii ∧ ii.size = 1 ∧ ii.bytes = 8 ∧ ii.zero = some (.int .i64 0)) := ⟨i1, i2, i3, i4⟩
  clear i1 i2 i3 i4
  have HB : Hid (Bk R w0.heap.size w k sv mv L) := h
  have HBL : Hid (∀ b, BBlk k sv mv L b → b < lo) := hlo
  have HLP : Hid (w0.heap.size ≤ lo) := by have := h.low; have := hlo k (Or.inl rfl); show _ ≤ _; omega
  have HQ0 : Hid (Q w0 w) := q0
  have HFR : Hid (∀ x, R x → x < lo) := hRl
  clear h q0 hlo hRl
  rcases hv with ⟨rfl, rfl⟩ | ⟨g, rfl, g1, g2, g3, g4⟩
  · go_enter Try.func49, Try.ntmps49
    go_wp2_with fail
    go_loopg [6] 0 (fun m s6 wx => s6 = .int .i64 ((0 : Nat) : Int) ∧ m = 0 ∧ wx = w)
    case atStart => exact ⟨rfl, rfl, rfl⟩
    case round =>
      obtain ⟨rfl, hm0, hwr⟩ := hrel
      have QR : Hid (Q w0 wr) := by rw [hwr]; exact HQ0
      have FW : Hid (Fr w wr (Left R lo w (.slice none 0 0))) := by rw [hwr]; exact Fr.refl w _
      have RM : Hid (Bk R w0.heap.size wr k sv mv L) := by rw [hwr]; exact HB
      have MK : Hid (Marked lo wr ⟨none, 0, m⟩) := ⟨Nat.zero_le _, hm, fun _ => rfl, fun g hg => by cases hg⟩
      clear hwr
      have RML : Hid (Bk (Left R lo w (.slice none 0 0)) w0.heap.size wr k sv mv L) := RM.out.more (fun b hb => hb.elim Or.inl (fun h => Or.inr ⟨Nat.lt_of_lt_of_le h.2.1 FW.out.size, fun hc => Nat.not_lt.2 h.1 (HBL.out b hc)⟩))
      have c0 := RM.out.c0
      have O1 : Hid ((wr.alloc (.cells #[.slice none 0 0] 23)).ownsRow w0.heap.size 23 1 sv L.length (L.map Kept.s)) := (RM.out.next ((Q.refl wr).cells _ _)).own
      have QB : Hid (Q w0 (wr.alloc (.cells #[.slice none 0 0] 23))) := QR.out.cells _ _
      have m1 : L.length + 1 ≤ maxLen := by unfold maxLen; omega
      have m2 : (L.length + 1) * 24 ≤ 140737488355328 := by omega
      have m3 : (L.length + 1) * 8 ≤ 140737488355328 := by omega
      go_wp2_with (at_builtin; go_must (refine wpList_app_qg _ w0 QB.out rfl (.tmp 28) (.tmp 30) 28 rfl 23 ir _ 1 24 Try.underlying28 HI.out.1 HI.out.2.2.2 HI.out.2.1 HI.out.2.2.1 rfl (by decide) sv L.length _ (by simp [Act.eval, Act.put]) O1.out _ 1 1 [.slice none 0 0] (by simp [Act.eval, Act.put]) rfl (news_one _ _ _) (one_slice _ _ _) (by decide) m1 m2 ?_; intro g5 cap5 w5 own5 q5 gr5 ho5; have c05 : w5.cell? ⟨k, 0, none⟩ = some sv := gr5.cell (((Q.refl wr).cells _ _).cell c0) (fun e => RM.out.a1 e.symm); have f05 : w5.frozen? ⟨k, 0, none⟩ = false := ((q5.2 _).trans (QR.out.2 _).symm).trans (RM.out.free 0)))
      have hkr : k < wr.heap.size := cell_in c0
      have hg5 : g5 ≠ k := by
        rcases ho5 with e | e
        · exact fun e' => RM.out.a1 (by rw [e, e'])
        · rw [alloc_size] at e; omega
      have FA : Fr wr (w5.setCell ⟨k, 0, none⟩ (.slice (some ⟨g5, 0, none⟩) (L.length + 1) cap5)) (fun b => b ≠ k ∧ sv.ownBlock ≠ some b) := ((((Q.refl wr).cells _ _).fr _).trans (Fr.app QB.out q5 gr5 (fun x hx hR => hR.2 hx))).set (fun hR => hR.1 rfl) _
      have HFA : Hid (Fr wr (w5.setCell ⟨k, 0, none⟩ (.slice (some ⟨g5, 0, none⟩) (L.length + 1) cap5)) (fun b => b ≠ k ∧ sv.ownBlock ≠ some b)) := FA
      have OWN8 : Hid ((w5.setCell ⟨k, 0, none⟩ (.slice (some ⟨g5, 0, none⟩) (L.length + 1) cap5)).ownsRow w0.heap.size 23 1 (.slice (some ⟨g5, 0, none⟩) (L.length + 1) cap5) (L.length + 1) (L.map Kept.s ++ [.slice none 0 0])) :=
        ((Fr.refl w5 (fun b => b ≠ k)).set (fun hR => hR rfl) _).row own5 (fun x hx e => hg5 (by injection hx with hx; rw [← e]; exact hx))
      have WERE8 : Hid ((w5.setCell ⟨k, 0, none⟩ (.slice (some ⟨g5, 0, none⟩) (L.length + 1) cap5)).ownsRow w0.heap.size 3 1 mv L.length (L.map Kept.t)) :=
        FA.row RM.out.marks (fun x hx => ⟨fun e => RM.out.a2 (by rw [hx, e]), fun e => RM.out.a3 x e hx⟩)
      have c08 : (w5.setCell ⟨k, 0, none⟩ (.slice (some ⟨g5, 0, none⟩) (L.length + 1) cap5)).cell? ⟨k, 0, none⟩ = some (.slice (some ⟨g5, 0, none⟩) (L.length + 1) cap5) := World.cell?_setCell_same _ _ _ c05
      have oth : ∀ j v, j ≠ 0 → wr.cell? ⟨k, j, none⟩ = some v → (w5.setCell ⟨k, 0, none⟩ (.slice (some ⟨g5, 0, none⟩) (L.length + 1) cap5)).cell? ⟨k, j, none⟩ = some v := fun j v hj hc => by
        rw [World.cell?_setCell_other _ _ _ _ (by simp <;> omega)]
        exact gr5.cell (((Q.refl wr).cells _ _).cell hc) (fun e => RM.out.a1 e.symm)
      have c18 := oth 1 _ (by decide) RM.out.c1
      have c28 := oth 2 _ (by decide) RM.out.c2
      have c38 := oth 3 _ (by decide) RM.out.c3
      have c48 := oth 4 _ (by decide) RM.out.c4
      have Q8 : Hid (Q w0 (w5.setCell ⟨k, 0, none⟩ (.slice (some ⟨g5, 0, none⟩) (L.length + 1) cap5))) := q5.set HB.out.low _
      have hs8 : wr.heap.size + 1 ≤ (w5.setCell ⟨k, 0, none⟩ (.slice (some ⟨g5, 0, none⟩) (L.length + 1) cap5)).heap.size := by
        have := gr5.size
        rw [alloc_size] at this
        simpa [World.setCell] using this
      have HO5 : Hid (sv.ownBlock = some g5 ∨ g5 = wr.heap.size + 1) := by rw [alloc_size] at ho5; exact ho5
      have hg5s : w0.heap.size ≤ g5 ∧ g5 < (w5.setCell ⟨k, 0, none⟩ (.slice (some ⟨g5, 0, none⟩) (L.length + 1) cap5)).heap.size := own_lt OWN8.out rfl
      have f48 : (w5.setCell ⟨k, 0, none⟩ (.slice (some ⟨g5, 0, none⟩) (L.length + 1) cap5)).frozen? ⟨k, 4, none⟩ = false := (HFA.out.frz _).trans (RM.out.free 4)
      generalize (w5.setCell ⟨k, 0, none⟩ (.slice (some ⟨g5, 0, none⟩) (L.length + 1) cap5)) = w8 at *
      have F48 : Hid (w8.frozen? ⟨k, 4, none⟩ = false) := f48
      have dc : w8.drew.cell? ⟨k, 4, none⟩ = some mv := c48
      have dc2 : ∀ vv, (w8.drew.alloc (.cells #[vv] 3)).cell? ⟨k, 4, none⟩ = some mv := fun vv => ((Q.refl w8.drew).cells _ _).cell dc
      have dc3 : ∀ vv, (w8.alloc (.cells #[vv] 3)).cell? ⟨k, 4, none⟩ = some mv := fun vv => ((Q.refl w8).cells _ _).cell c48
      clear FA oth own5 q5 gr5 ho5 c05 f05 O1 QB c0 f48
      go_region_law (refine step_app_qg _ w0 ((Q8.out.drew).cells #[.int .i64 (m : Int)] 3) rfl (.tmp 39) (.tmp 41) 32 rfl 3 ii _ 1 8 Try.underlying32 HJ.out.1 HJ.out.2.2.2 HJ.out.2.1 HJ.out.2.2.1 rfl (by decide) mv L.length _ (by simp [Act.eval, Act.put]) (own_nx WERE8.out ((Q.refl w8).drew.cells _ _)) _ 1 1 [.int .i64 (m : Int)] (by simp [Act.eval, Act.put]) rfl (news_one _ _ _) (one_int _) (by decide) m1 m3 ?_; intro g6 cap6 w6 own6 q6 gr6 ho6; have c46 : w6.cell? ⟨k, 4, none⟩ = some mv := gr6.cell (((Q.refl w8).drew.cells _ _).cell c48) (fun e => RM.out.a2 e.symm); have f46 : w6.frozen? ⟨k, 4, none⟩ = false := ((q6.2 _).trans (Q8.out.2 _).symm).trans F48.out)
      all_goals
        have QW : Q w0 (w8.drew.alloc (.cells #[.int .i64 (m : Int)] 3)) := (Q8.out.drew).cells _ _
        have FB : Fr w8 (w6.setCell ⟨k, 4, none⟩ (.slice (some ⟨g6, 0, none⟩) (L.length + 1) cap6)) (fun b => b ≠ k ∧ mv.ownBlock ≠ some b) := ((((Q.refl w8).drew.cells _ _).fr _).trans (Fr.app QW q6 gr6 (fun x hx hR => hR.2 hx))).set (fun hR => hR.1 rfl) _
        have hk8 : k < w8.heap.size := cell_in c48
        have HO6 : mv.ownBlock = some g6 ∨ g6 = w8.heap.size + 1 := by rw [alloc_size] at ho6; exact ho6
        have hg6 : g6 ≠ k := by
          rcases HO6 with e | e
          · exact fun e' => RM.out.a2 (by rw [e, e'])
          · omega
        have oth : ∀ j v, j ≠ 4 → w8.cell? ⟨k, j, none⟩ = some v → (w6.setCell ⟨k, 4, none⟩ (.slice (some ⟨g6, 0, none⟩) (L.length + 1) cap6)).cell? ⟨k, j, none⟩ = some v := fun j v hj hc => by
          rw [World.cell?_setCell_other _ _ _ _ (by simp <;> omega)]
          exact gr6.cell (((Q.refl w8).drew.cells _ _).cell hc) (fun e => RM.out.a2 e.symm)
        have wlt : ∀ b, mv.ownBlock = some b → b < wr.heap.size := fun b hb => (own_lt RM.out.marks hb).2
        have FT : Fr wr (w6.setCell ⟨k, 4, none⟩ (.slice (some ⟨g6, 0, none⟩) (L.length + 1) cap6)) (fun b => b ≠ k ∧ sv.ownBlock ≠ some b ∧ mv.ownBlock ≠ some b) := (HFA.out.mono (fun x hx _ => ⟨hx.1, hx.2.1⟩)).trans (FB.mono (fun x hx _ => ⟨hx.1, hx.2.2⟩))
        have PUSH : Hid (Bk (Left R lo w (.slice none 0 0)) w0.heap.size (w6.setCell ⟨k, 4, none⟩ (.slice (some ⟨g6, 0, none⟩) (L.length + 1) cap6)) k (.slice (some ⟨g5, 0, none⟩) (L.length + 1) cap5) (.slice (some ⟨g6, 0, none⟩) (L.length + 1) cap6) (L ++ [⟨none, 0, m⟩])) := by
          refine RML.out.push FT MK.out HLP.out HBL.out (fun b hb => (by intro e; cases e)) (oth 0 _ (by decide) c08) (World.cell?_setCell_same _ _ _ c46) (oth 1 _ (by decide) c18) (oth 2 _ (by decide) c28) (oth 3 _ (by decide) c38) ?_ ?_ ?_ ?_
          · refine FB.row OWN8.out (fun x hx => ?_)
            injection hx with hx
            have hx : g5 = x := hx
            subst hx
            refine ⟨hg5, fun e => ?_⟩
            rcases HO5.out with o | o
            · exact RM.out.a3 _ o e
            · have := wlt _ e; omega
          · exact ((Fr.refl w6 (fun b => b ≠ k)).set (fun hR => hR rfl) _).row own6 (fun x hx e => hg6 (by injection hx with hx; rw [← e]; exact hx))
          · rcases HO5.out with o | o
            · exact Or.inl o
            · exact Or.inr (by omega)
          · rcases HO6 with o | o
            · exact Or.inl o
            · exact Or.inr ⟨by omega, by omega⟩
        have FEND : Hid (Fr w (w6.setCell ⟨k, 4, none⟩ (.slice (some ⟨g6, 0, none⟩) (L.length + 1) cap6)) (Left R lo w (.slice none 0 0))) := FW.out.trans (FT.mono (fun x hx _ => by
          have hf := (RML.out.far x hx).2
          exact ⟨fun e => hf (Or.inl e), fun e => hf (Or.inr (Or.inl e)), fun e => hf (Or.inr (Or.inr (Or.inl e)))⟩))
        have QEND : Hid (Q w0 (w6.setCell ⟨k, 4, none⟩ (.slice (some ⟨g6, 0, none⟩) (L.length + 1) cap6))) := q6.set HB.out.low _
        clear FB FT QW oth wlt own6 q6 gr6 ho6 HO6
        go_wp2_with fail
        refine bodyPost_end (v := .tuple #[]) (by simp [results, Try.results49, go_sem]) rfl ⟨rfl, _, _, ⟨none, 0, m⟩, QEND, PUSH, FEND⟩
  · have F0 : Hid (Mrk w w g n m 0) := ⟨Fr.refl w _, fun i hi => absurd hi (Nat.not_lt_zero _), g3, g4⟩
    have G1 : Hid (lo ≤ g) := g1
    have G2 : Hid (g < w.heap.size) := g2
    clear g1 g2 g3 g4
    have nn : (n : Int) ≤ (n : Int) := Int.le_refl _
    have n0 : (0 : Int) ≤ (n : Int) := by omega
    go_enter Try.func49, Try.ntmps49
    go_wp2_with fail
    go_loopg [6] n (fun m' s6 wx => ∃ i : Nat, s6 = .int .i64 i ∧ i + m' = n ∧ Hid (Mrk w wx g n m i))
    case atStart => exact ⟨0, rfl, by omega, F0⟩
    case round =>
      obtain ⟨i, rfl, him, FI⟩ := hrel
      by_cases hi : i < n
      · have hi0 : (0 : Int) ≤ (i : Int) := by omega
        have hi1 : (i : Int) < (n : Int) := by omega
        obtain ⟨u, hu⟩ := FI.out.room i hi
        have fz := FI.out.free i
        have A := mark_any m i hm (by omega) wr
        obtain ⟨z, hz⟩ : ∃ z, mkv m i = z := ⟨_, rfl⟩
        have hz2 : z ≤ 250 := by rw [← hz]; exact mkv_lt m i
        rw [hz] at A
        have hw : IntKind.u32.wrap (z : Int) = (z : Int) := by rw [IntKind.wrap_u32]; omega
        have FN : Hid (Mrk w (wr.setCell ⟨g, i, none⟩ (.int .u32 (z : Nat))) g n m (i + 1)) := FI.out.step hi hz
        clear hz
        go_wp2_with fail
        refine A.mono ?_
        rintro e w2 ⟨rfl, rfl⟩
        go_wp2_with fail
        go_roundg (n - (i + 1))
        case measure => go_light; omega
        case rel => go_light; exact ⟨i + 1, by go_num, by omega, FN⟩
      · have hie : i = n := by omega
        have FE : Hid (Mrk w wr g n m n) := by rw [hie] at FI; exact FI
        have hgl := G1.out
        have hlp := HLP.out
        have QR : Hid (Q w0 wr) := FE.out.fr.q HQ0.out (fun b hb => by omega)
        have FW : Hid (Fr w wr (Left R lo w (.slice (some ⟨g, 0, none⟩) n n))) := FE.out.fr.mono (fun x hx _ => by
          rcases hx with hx | hx
          · have := HFR.out x hx; omega
          · exact fun e => hx.2.2 (by rw [e]; rfl))
        have RM : Hid (Bk R w0.heap.size wr k sv mv L) := HB.out.keep FE.out.fr (fun b hb => by have := HBL.out b hb; omega)
        have MK : Hid (Marked lo wr ⟨some g, n, m⟩) := ⟨hn, hm, fun h => (by cases h), fun g' hg => by
          injection hg with hg
          subst hg
          exact ⟨G1.out, Nat.lt_of_lt_of_le G2.out FE.out.fr.size, fun j hj => FE.out.done j hj⟩⟩
        clear F0
        have RML : Hid (Bk (Left R lo w (.slice (some ⟨g, 0, none⟩) n n)) w0.heap.size wr k sv mv L) := RM.out.more (fun b hb => hb.elim Or.inl (fun h => Or.inr ⟨Nat.lt_of_lt_of_le h.2.1 FW.out.size, fun hc => Nat.not_lt.2 h.1 (HBL.out b hc)⟩))
        have c0 := RM.out.c0
        have O1 : Hid ((wr.alloc (.cells #[.slice (some ⟨g, 0, none⟩) n n] 23)).ownsRow w0.heap.size 23 1 sv L.length (L.map Kept.s)) := (RM.out.next ((Q.refl wr).cells _ _)).own
        have QB : Hid (Q w0 (wr.alloc (.cells #[.slice (some ⟨g, 0, none⟩) n n] 23))) := QR.out.cells _ _
        have m1 : L.length + 1 ≤ maxLen := by unfold maxLen; omega
        have m2 : (L.length + 1) * 24 ≤ 140737488355328 := by omega
        have m3 : (L.length + 1) * 8 ≤ 140737488355328 := by omega
        go_wp2_with (at_builtin; go_must (refine wpList_app_qg _ w0 QB.out rfl (.tmp 28) (.tmp 30) 28 rfl 23 ir _ 1 24 Try.underlying28 HI.out.1 HI.out.2.2.2 HI.out.2.1 HI.out.2.2.1 rfl (by decide) sv L.length _ (by simp [Act.eval, Act.put]) O1.out _ 1 1 [.slice (some ⟨g, 0, none⟩) n n] (by simp [Act.eval, Act.put]) rfl (news_one _ _ _) (one_slice _ _ _) (by decide) m1 m2 ?_; intro g5 cap5 w5 own5 q5 gr5 ho5; have c05 : w5.cell? ⟨k, 0, none⟩ = some sv := gr5.cell (((Q.refl wr).cells _ _).cell c0) (fun e => RM.out.a1 e.symm); have f05 : w5.frozen? ⟨k, 0, none⟩ = false := ((q5.2 _).trans (QR.out.2 _).symm).trans (RM.out.free 0)))
        have hkr : k < wr.heap.size := cell_in c0
        have hg5 : g5 ≠ k := by
          rcases ho5 with e | e
          · exact fun e' => RM.out.a1 (by rw [e, e'])
          · rw [alloc_size] at e; omega
        have FA : Fr wr (w5.setCell ⟨k, 0, none⟩ (.slice (some ⟨g5, 0, none⟩) (L.length + 1) cap5)) (fun b => b ≠ k ∧ sv.ownBlock ≠ some b) := ((((Q.refl wr).cells _ _).fr _).trans (Fr.app QB.out q5 gr5 (fun x hx hR => hR.2 hx))).set (fun hR => hR.1 rfl) _
        have HFA : Hid (Fr wr (w5.setCell ⟨k, 0, none⟩ (.slice (some ⟨g5, 0, none⟩) (L.length + 1) cap5)) (fun b => b ≠ k ∧ sv.ownBlock ≠ some b)) := FA
        have OWN8 : Hid ((w5.setCell ⟨k, 0, none⟩ (.slice (some ⟨g5, 0, none⟩) (L.length + 1) cap5)).ownsRow w0.heap.size 23 1 (.slice (some ⟨g5, 0, none⟩) (L.length + 1) cap5) (L.length + 1) (L.map Kept.s ++ [.slice (some ⟨g, 0, none⟩) n n])) :=
          ((Fr.refl w5 (fun b => b ≠ k)).set (fun hR => hR rfl) _).row own5 (fun x hx e => hg5 (by injection hx with hx; rw [← e]; exact hx))
        have WERE8 : Hid ((w5.setCell ⟨k, 0, none⟩ (.slice (some ⟨g5, 0, none⟩) (L.length + 1) cap5)).ownsRow w0.heap.size 3 1 mv L.length (L.map Kept.t)) :=
          FA.row RM.out.marks (fun x hx => ⟨fun e => RM.out.a2 (by rw [hx, e]), fun e => RM.out.a3 x e hx⟩)
        have c08 : (w5.setCell ⟨k, 0, none⟩ (.slice (some ⟨g5, 0, none⟩) (L.length + 1) cap5)).cell? ⟨k, 0, none⟩ = some (.slice (some ⟨g5, 0, none⟩) (L.length + 1) cap5) := World.cell?_setCell_same _ _ _ c05
        have oth : ∀ j v, j ≠ 0 → wr.cell? ⟨k, j, none⟩ = some v → (w5.setCell ⟨k, 0, none⟩ (.slice (some ⟨g5, 0, none⟩) (L.length + 1) cap5)).cell? ⟨k, j, none⟩ = some v := fun j v hj hc => by
          rw [World.cell?_setCell_other _ _ _ _ (by simp <;> omega)]
          exact gr5.cell (((Q.refl wr).cells _ _).cell hc) (fun e => RM.out.a1 e.symm)
        have c18 := oth 1 _ (by decide) RM.out.c1
        have c28 := oth 2 _ (by decide) RM.out.c2
        have c38 := oth 3 _ (by decide) RM.out.c3
        have c48 := oth 4 _ (by decide) RM.out.c4
        have Q8 : Hid (Q w0 (w5.setCell ⟨k, 0, none⟩ (.slice (some ⟨g5, 0, none⟩) (L.length + 1) cap5))) := q5.set HB.out.low _
        have hs8 : wr.heap.size + 1 ≤ (w5.setCell ⟨k, 0, none⟩ (.slice (some ⟨g5, 0, none⟩) (L.length + 1) cap5)).heap.size := by
          have := gr5.size
          rw [alloc_size] at this
          simpa [World.setCell] using this
        have HO5 : Hid (sv.ownBlock = some g5 ∨ g5 = wr.heap.size + 1) := by rw [alloc_size] at ho5; exact ho5
        have hg5s : w0.heap.size ≤ g5 ∧ g5 < (w5.setCell ⟨k, 0, none⟩ (.slice (some ⟨g5, 0, none⟩) (L.length + 1) cap5)).heap.size := own_lt OWN8.out rfl
        have f48 : (w5.setCell ⟨k, 0, none⟩ (.slice (some ⟨g5, 0, none⟩) (L.length + 1) cap5)).frozen? ⟨k, 4, none⟩ = false := (HFA.out.frz _).trans (RM.out.free 4)
        generalize (w5.setCell ⟨k, 0, none⟩ (.slice (some ⟨g5, 0, none⟩) (L.length + 1) cap5)) = w8 at *
        have F48 : Hid (w8.frozen? ⟨k, 4, none⟩ = false) := f48
        have dc : w8.drew.cell? ⟨k, 4, none⟩ = some mv := c48
        have dc2 : ∀ vv, (w8.drew.alloc (.cells #[vv] 3)).cell? ⟨k, 4, none⟩ = some mv := fun vv => ((Q.refl w8.drew).cells _ _).cell dc
        have dc3 : ∀ vv, (w8.alloc (.cells #[vv] 3)).cell? ⟨k, 4, none⟩ = some mv := fun vv => ((Q.refl w8).cells _ _).cell c48
        clear FA oth own5 q5 gr5 ho5 c05 f05 O1 QB c0 f48
        go_region_law (refine step_app_qg _ w0 ((Q8.out.drew).cells #[.int .i64 (m : Int)] 3) rfl (.tmp 39) (.tmp 41) 32 rfl 3 ii _ 1 8 Try.underlying32 HJ.out.1 HJ.out.2.2.2 HJ.out.2.1 HJ.out.2.2.1 rfl (by decide) mv L.length _ (by simp [Act.eval, Act.put]) (own_nx WERE8.out ((Q.refl w8).drew.cells _ _)) _ 1 1 [.int .i64 (m : Int)] (by simp [Act.eval, Act.put]) rfl (news_one _ _ _) (one_int _) (by decide) m1 m3 ?_; intro g6 cap6 w6 own6 q6 gr6 ho6; have c46 : w6.cell? ⟨k, 4, none⟩ = some mv := gr6.cell (((Q.refl w8).drew.cells _ _).cell c48) (fun e => RM.out.a2 e.symm); have f46 : w6.frozen? ⟨k, 4, none⟩ = false := ((q6.2 _).trans (Q8.out.2 _).symm).trans F48.out)
        all_goals
          have QW : Q w0 (w8.drew.alloc (.cells #[.int .i64 (m : Int)] 3)) := (Q8.out.drew).cells _ _
          have FB : Fr w8 (w6.setCell ⟨k, 4, none⟩ (.slice (some ⟨g6, 0, none⟩) (L.length + 1) cap6)) (fun b => b ≠ k ∧ mv.ownBlock ≠ some b) := ((((Q.refl w8).drew.cells _ _).fr _).trans (Fr.app QW q6 gr6 (fun x hx hR => hR.2 hx))).set (fun hR => hR.1 rfl) _
          have hk8 : k < w8.heap.size := cell_in c48
          have HO6 : mv.ownBlock = some g6 ∨ g6 = w8.heap.size + 1 := by rw [alloc_size] at ho6; exact ho6
          have hg6 : g6 ≠ k := by
            rcases HO6 with e | e
            · exact fun e' => RM.out.a2 (by rw [e, e'])
            · omega
          have oth : ∀ j v, j ≠ 4 → w8.cell? ⟨k, j, none⟩ = some v → (w6.setCell ⟨k, 4, none⟩ (.slice (some ⟨g6, 0, none⟩) (L.length + 1) cap6)).cell? ⟨k, j, none⟩ = some v := fun j v hj hc => by
            rw [World.cell?_setCell_other _ _ _ _ (by simp <;> omega)]
            exact gr6.cell (((Q.refl w8).drew.cells _ _).cell hc) (fun e => RM.out.a2 e.symm)
          have wlt : ∀ b, mv.ownBlock = some b → b < wr.heap.size := fun b hb => (own_lt RM.out.marks hb).2
          have FT : Fr wr (w6.setCell ⟨k, 4, none⟩ (.slice (some ⟨g6, 0, none⟩) (L.length + 1) cap6)) (fun b => b ≠ k ∧ sv.ownBlock ≠ some b ∧ mv.ownBlock ≠ some b) := (HFA.out.mono (fun x hx _ => ⟨hx.1, hx.2.1⟩)).trans (FB.mono (fun x hx _ => ⟨hx.1, hx.2.2⟩))
          have PUSH : Hid (Bk (Left R lo w (.slice (some ⟨g, 0, none⟩) n n)) w0.heap.size (w6.setCell ⟨k, 4, none⟩ (.slice (some ⟨g6, 0, none⟩) (L.length + 1) cap6)) k (.slice (some ⟨g5, 0, none⟩) (L.length + 1) cap5) (.slice (some ⟨g6, 0, none⟩) (L.length + 1) cap6) (L ++ [⟨some g, n, m⟩])) := by
            refine RML.out.push FT MK.out HLP.out HBL.out (fun b hb => (by intro e; injection e with e; rcases hb with hb | hb; exact absurd (HFR.out b hb) (Nat.not_lt.2 (by rw [← e]; exact G1.out)); exact hb.2.2 (by rw [← e]; rfl))) (oth 0 _ (by decide) c08) (World.cell?_setCell_same _ _ _ c46) (oth 1 _ (by decide) c18) (oth 2 _ (by decide) c28) (oth 3 _ (by decide) c38) ?_ ?_ ?_ ?_
            · refine FB.row OWN8.out (fun x hx => ?_)
              injection hx with hx
              have hx : g5 = x := hx
              subst hx
              refine ⟨hg5, fun e => ?_⟩
              rcases HO5.out with o | o
              · exact RM.out.a3 _ o e
              · have := wlt _ e; omega
            · exact ((Fr.refl w6 (fun b => b ≠ k)).set (fun hR => hR rfl) _).row own6 (fun x hx e => hg6 (by injection hx with hx; rw [← e]; exact hx))
            · rcases HO5.out with o | o
              · exact Or.inl o
              · exact Or.inr (by omega)
            · rcases HO6 with o | o
              · exact Or.inl o
              · exact Or.inr ⟨by omega, by omega⟩
          have FEND : Hid (Fr w (w6.setCell ⟨k, 4, none⟩ (.slice (some ⟨g6, 0, none⟩) (L.length + 1) cap6)) (Left R lo w (.slice (some ⟨g, 0, none⟩) n n))) := FW.out.trans (FT.mono (fun x hx _ => by
            have hf := (RML.out.far x hx).2
            exact ⟨fun e => hf (Or.inl e), fun e => hf (Or.inr (Or.inl e)), fun e => hf (Or.inr (Or.inr (Or.inl e)))⟩))
          have QEND : Hid (Q w0 (w6.setCell ⟨k, 4, none⟩ (.slice (some ⟨g6, 0, none⟩) (L.length + 1) cap6))) := q6.set HB.out.low _
          clear FB FT QW oth wlt own6 q6 gr6 ho6 HO6
          go_wp2_with fail
          refine bodyPost_end (v := .tuple #[]) (by simp [results, Try.results49, go_sem]) rfl ⟨rfl, _, _, ⟨some g, n, m⟩, QEND, PUSH, FEND⟩
theorem New.toN {wp w : World} {v : Value} {n : Nat} (h : New wp w v n) : NewN wp.heap.size w v n := h
theorem book_samples_x (w0 wp w : World) (q0 : Q w0 w) (qp : Q wp w) (k : Nat) {R : Nat → Prop} {sv mv : Value} {L : List Kept} (h : Bk R w0.heap.size wp k sv mv L) (hL : L.length ≤ 1000) (v : Value) (n m : Nat) (hv : New wp w v n) (hn : n ≤ 65536) (hm : m ≤ 100000) :
    Calls Try.prog 49 #[.pointer (some ⟨k, 0, none⟩), v, .int .i64 (m : Int)] w fun e w' => e = .returned (.tuple #[]) ∧ ∃ sv' mv' x, Hid (Q w0 w') ∧ Hid (Bk (Left R wp.heap.size w v) w0.heap.size w' k sv' mv' (L ++ [x])) ∧ Hid (Fr w w' (Left R wp.heap.size w v)) :=
  book_samples_y w0 w q0 k wp.heap.size (h.next qp) (fun b hb => (h.lt hb).2) (fun b hb => (h.far b hb).1) hL v n m hv.toN hn hm
theorem book_samples (w0 wp w : World) (q0 : Q w0 w) (qp : Q wp w) (k : Nat) {R : Nat → Prop} {sv mv : Value} {L : List Kept} (h : Bk R w0.heap.size wp k sv mv L) (hL : L.length ≤ 1000) (v : Value) (n m : Nat) (hv : New wp w v n) (hn : n ≤ 65536) (hm : m ≤ 100000) :
    Calls Try.prog 49 #[.pointer (some ⟨k, 0, none⟩), v, .int .i64 (m : Int)] w fun e w' => e = .returned (.tuple #[]) ∧ ∃ sv' mv' x, Hid (Q w0 w') ∧ Hid (Bk R w0.heap.size w' k sv' mv' (L ++ [x])) ∧ Hid (Fr w w' R) :=
  (book_samples_x w0 wp w q0 qp k h hL v n m hv hn hm).mono fun e w' ⟨he, sv', mv', x, q, b, f⟩ => ⟨he, sv', mv', x, q, b.out.more (fun y hy => Or.inl (Or.inl hy)), f.out.mono (fun y hy _ => Or.inl hy)⟩
end Go.Proofs.Ytkgfohodahkmmaa

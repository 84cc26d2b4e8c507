/- kernel.shares. -/
import Derived.Test.YtdbbpmadkhedlaaG10bb6ad9
import Derived.Test.YtdbbpmadkhedlaaGa28e08de
namespace Go.Proofs.Ytdbbpmadkhedlaa
open Go.RowKit Go.Shelf Go.Lib Go.Sort
set_option linter.unusedVariables false
set_option linter.unusedSimpArgs false

section
variable {P : Program} {l : List Oper} {rd : List Nat} {ords : List (List Nat)} {C : World → Prop} {N : Act → World → Prop} {n : Nat} {p : List Nat} {A : Act} {x : World}
theorem treeA (k : Nat) (hk : (nexts ords p).all (fun j => j == k) = true) {o : Oper} (ho : l[k]? = some o) (h : Does P o A.eval x (fun v x' => (fullB l rd k = false → C x') ∧ wpTree P l rd ords C N n (p ++ [k]) (A.put o.dst v) x')) : wpTree P l rd ords C N (n + 1) p A x := by
  intro k' hk' o' ho'
  have := List.all_eq_true.1 hk k' hk'
  simp only [beq_iff_eq] at this
  subst this
  rw [ho] at ho'
  injection ho' with ho'
  subst ho'
  exact h
theorem treeB (k k2 : Nat) (hk : (nexts ords p).all (fun j => j == k || j == k2) = true) {o o2 : Oper} (ho : l[k]? = some o) (ho2 : l[k2]? = some o2) (h : Does P o A.eval x (fun v x' => (fullB l rd k = false → C x') ∧ wpTree P l rd ords C N n (p ++ [k]) (A.put o.dst v) x'))
    (h2 : Does P o2 A.eval x (fun v x' => (fullB l rd k2 = false → C x') ∧ wpTree P l rd ords C N n (p ++ [k2]) (A.put o2.dst v) x')) : wpTree P l rd ords C N (n + 1) p A x := by
  intro k' hk' o' ho'
  have := List.all_eq_true.1 hk k' hk'
  simp only [Bool.or_eq_true, beq_iff_eq] at this
  rcases this with rfl | rfl
  · rw [ho] at ho'
    injection ho' with ho'
    subst ho'
    exact h
  · rw [ho2] at ho'
    injection ho' with ho'
    subst ho'
    exact h2
theorem treeA_run (k : Nat) (hk : (nexts ords p).all (fun j => j == k) = true) {o : Oper} (ho : l[k]? = some o) {v : Value} {x' : World} (hr : (execOp A.eval o).run P x = .ok (.value v) x') (hC : fullB l rd k = true ∨ C x') (h : wpTree P l rd ords C N n (p ++ [k]) (A.put o.dst v) x') : wpTree P l rd ords C N (n + 1) p A x :=
  treeA k hk ho (does_value hr ⟨fun e => hC.elim (fun f => by rw [f] at e; cases e) id, h⟩)
theorem treeA_skip (k : Nat) (hk : (nexts ords p).all (fun j => j == k) = true) {o : Oper} (ho : l[k]? = some o) {x' : World} (hr : (execOp A.eval o).run P x = .ok .skip x') (hC : fullB l rd k = true ∨ C x') (h : wpTree P l rd ords C N n (p ++ [k]) (A.put o.dst undef) x') : wpTree P l rd ords C N (n + 1) p A x :=
  treeA k hk ho (does_skip hr ⟨fun e => hC.elim (fun f => by rw [f] at e; cases e) id, h⟩)
theorem treeA_call (k : Nat) (hk : (nexts ords p).all (fun j => j == k) = true) {o : Oper} (ho : l[k]? = some o) {f : FuncId} {vs : Array Value} (hr : (execOp A.eval o).run P x = .ok (.enter f vs) x) {G : Value → World → Prop} (hc : Calls P f vs x fun e x' => ∃ v, e = .returned v ∧ G v x') (h : ∀ v x', G v x' → C x' ∧ wpTree P l rd ords C N n (p ++ [k]) (A.put o.dst v) x') : wpTree P l rd ords C N (n + 1) p A x :=
  treeA k hk ho (does_call hr (hc.mono fun e x' ⟨v, h1, h2⟩ => ⟨v, h1, fun _ => (h v x' h2).1, (h v x' h2).2⟩))
theorem treeB_rr (k k2 : Nat) (hk : (nexts ords p).all (fun j => j == k || j == k2) = true) {o o2 : Oper} (ho : l[k]? = some o) (ho2 : l[k2]? = some o2) {v v2 : Value} (hr : (execOp A.eval o).run P x = .ok (.value v) x) (hr2 : (execOp A.eval o2).run P x = .ok (.value v2) x) (hC : C x)
    (h : wpTree P l rd ords C N n (p ++ [k]) (A.put o.dst v) x) (h2 : wpTree P l rd ords C N n (p ++ [k2]) (A.put o2.dst v2) x) : wpTree P l rd ords C N (n + 1) p A x :=
  treeB k k2 hk ho ho2 (does_value hr ⟨fun _ => hC, h⟩) (does_value hr2 ⟨fun _ => hC, h2⟩)
theorem treeB_rs (k k2 : Nat) (hk : (nexts ords p).all (fun j => j == k || j == k2) = true) {o o2 : Oper} (ho : l[k]? = some o) (ho2 : l[k2]? = some o2) {v : Value} {x' : World} (hr : (execOp A.eval o).run P x = .ok (.value v) x) (hr2 : (execOp A.eval o2).run P x = .ok .skip x') (hC : C x) (hC2 : C x')
    (h : wpTree P l rd ords C N n (p ++ [k]) (A.put o.dst v) x) (h2 : wpTree P l rd ords C N n (p ++ [k2]) (A.put o2.dst undef) x') : wpTree P l rd ords C N (n + 1) p A x :=
  treeB k k2 hk ho ho2 (does_value hr ⟨fun _ => hC, h⟩) (does_skip hr2 ⟨fun _ => hC2, h2⟩)
end
section
variable {ρ : Operand → Value} {x : World} {d : Option Tmp} {ty : TypeId} {ps : String} {af : Array Edge} {gd : Option (Nat × Bool)}
theorem run_ixk {j k gg Lw cap i : Nat} (h : ρ (.tmp j) = .slice (some ⟨gg, 0, none⟩) Lw cap) (h' : ρ (.tmp k) = .int .i64 (i : Nat)) (hi : i < Lw) : (execOp ρ { dst := d, op := .indexAddr 51 (.tmp j) (.tmp k), type := ty, pos := ps, after := af, guard := gd }).run Try.prog x = .ok (.value (.pointer (some ⟨gg, i, none⟩))) x := by
  simp [execOp, h, h', go_sem, hi]
theorem run_sti {j k : Nat} {B i : Nat} {n : Int} {u : Value} (h : ρ (.tmp j) = .pointer (some ⟨B, i, none⟩)) (h' : ρ (.tmp k) = .int .i64 n) (c : x.cell? ⟨B, i, none⟩ = some u) (f : x.frozen? ⟨B, i, none⟩ = false) : (execOp ρ { dst := none, op := .store 3 (.tmp j) (.tmp k), type := ty, pos := ps, after := af, guard := gd }).run Try.prog x = .ok .skip (x.setCell ⟨B, i, none⟩ (.int .i64 n)) := by
  simp [execOp, h, h', go_sem, c, f]
theorem run_mvi {j : Nat} {v : Value} (h : ρ (.tmp j) = v) : (execOp ρ { dst := d, op := .move (.tmp j), type := ty, pos := ps, after := af, guard := gd }).run Try.prog x = .ok (.value v) x := by
  rw [← h]; rfl
theorem run_exk0 {j : Nat} {a b : Value} (h : ρ (.tmp j) = .tuple #[a, b]) : (execOp ρ { dst := d, op := .extract (.tmp j) 0, type := ty, pos := ps, after := af, guard := gd }).run Try.prog x = .ok (.value a) x := by
  simp [execOp, h, go_sem]
theorem run_exk1 {j : Nat} {a b : Value} (h : ρ (.tmp j) = .tuple #[a, b]) : (execOp ρ { dst := d, op := .extract (.tmp j) 1, type := ty, pos := ps, after := af, guard := gd }).run Try.prog x = .ok (.value b) x := by
  simp [execOp, h, go_sem]
end
/-- What shares holds while it divides. -/
structure Dv (w wr : World) (v : Value) (zs : List Int) (n g gr go gb i : Nat) (S : Int) : Prop where
  q : Q w wr
  l : IRow wr g (tabI n fun j => if j < i then flo (fun k => zs.getD k 0) S j else 0)
  r : IRow wr gr (tabI n fun j => if j < i then rsV (fun k => zs.getD k 0) S j else 0)
  o : IRow wr go (tabI n fun j => if j < i then (j : Int) else 0)
  box : wr.cell? ⟨gb, 0, none⟩ = some (.slice (some ⟨gr, 0, none⟩) n n)
  sz : g < wr.heap.size ∧ gr < wr.heap.size ∧ go < wr.heap.size
structure Ap (w : World) (g gr go gb : Nat) : Prop where
  l1 : w.heap.size ≤ g
  l2 : w.heap.size ≤ gr
  l3 : w.heap.size ≤ go
  l4 : w.heap.size ≤ gb
  n12 : g ≠ gr
  n13 : g ≠ go
  n14 : g ≠ gb
  n23 : gr ≠ go
  n24 : gr ≠ gb
  n34 : go ≠ gb
theorem Dv.step {w wr x : World} {v : Value} {zs : List Int} {n g gr go gb i : Nat} {S : Int} (h : Dv w wr v zs n g gr go gb i S) (A : Ap w g gr go gb) (hi : i < n) (q : Q wr x) {u m : Int} (hu : u = flo (fun k => zs.getD k 0) S i) (hm : m = rsV (fun k => zs.getD k 0) S i) :
    Dv w (((x.setCell ⟨g, i, none⟩ (.int .i64 u)).setCell ⟨gr, i, none⟩ (.int .i64 m)).setCell ⟨go, i, none⟩ (.int .i64 (i : Int))) v zs n g gr go gb (i + 1) S := by
  have hsz := q.1.size
  refine ⟨(((h.q.trans q).set A.l1 _).set A.l2 _).set A.l3 _, ?_, ?_, ?_, ?_, ?_⟩
  · have := ((((h.l.next q).set (i := i) (by rw [tabI_len]; exact hi) u).other (p := ⟨gr, i, none⟩) (fun e => A.n12 e.symm) (.int .i64 m)).other (p := ⟨go, i, none⟩) (fun e => A.n13 e.symm) (.int .i64 (i : Int)))
    rw [tabI_set (g := fun j => if j < i + 1 then flo (fun k => zs.getD k 0) S j else 0) (by simp [hu]) (fun j hj => by
      by_cases c : j < i
      · simp [c, show j < i + 1 by omega]
      · simp [c, show ¬ j < i + 1 by omega])] at this
    exact this
  · have := ((((h.r.next q).other (p := ⟨g, i, none⟩) A.n12 (.int .i64 u)).set (i := i) (by rw [tabI_len]; exact hi) m).other (p := ⟨go, i, none⟩) (fun e => A.n23 e.symm) (.int .i64 (i : Int)))
    rw [tabI_set (g := fun j => if j < i + 1 then rsV (fun k => zs.getD k 0) S j else 0) (by simp [hm]) (fun j hj => by
      by_cases c : j < i
      · simp [c, show j < i + 1 by omega]
      · simp [c, show ¬ j < i + 1 by omega])] at this
    exact this
  · have := ((((h.o.next q).other (p := ⟨g, i, none⟩) A.n13 (.int .i64 u)).other (p := ⟨gr, i, none⟩) A.n23 (.int .i64 m)).set (i := i) (by rw [tabI_len]; exact hi) (i : Int))
    rw [tabI_set (g := fun j => if j < i + 1 then (j : Int) else 0) (by simp) (fun j hj => by
      by_cases c : j < i
      · simp [c, show j < i + 1 by omega]
      · simp [c, show ¬ j < i + 1 by omega])] at this
    exact this
  · rw [World.cell?_setCell_other _ _ _ _ (fun e => A.n34 (by injection e)), World.cell?_setCell_other _ _ _ _ (fun e => A.n24 (by injection e)), World.cell?_setCell_other _ _ _ _ (fun e => A.n14 (by injection e))]
    exact q.cell h.box
  · simp only [World.size_setCell]
    have := h.sz
    omega
/-- What shares holds while it hands out what is missing. -/
structure Gv (w wr : World) (z : Nat → Int) (n g go j : Nat) (S : Int) : Prop where
  q : Q w wr
  l : IRow wr g (tabI n (shrK z S n j))
  o : IRow wr go (ordL (rsV z S) n)
theorem Gv.step {w wr : World} {z : Nat → Int} {n g go j o : Nat} {S : Int} (h : Gv w wr z n g go j S) (hg : w.heap.size ≤ g) (hne : g ≠ go) (ho : (ordL (rsV z S) n)[j]? = some (o : Int)) (hon : o < n) : Gv w (wr.setCell ⟨g, o, none⟩ (.int .i64 (shrK z S n j o + 1))) z n g go (j + 1) S := by
  obtain ⟨h1, h2⟩ := shrK_hit ho
  refine ⟨h.q.set hg _, ?_, h.o.other hne _⟩
  have := h.l.set (i := o) (by rw [tabI_len]; exact hon) (shrK z S n j o + 1)
  rw [tabI_set (g := shrK z S n (j + 1)) h1.symm (fun i hi => h2 i hi)] at this
  exact this
theorem flo_size {z : Nat → Int} {S : Int} {i : Nat} (hS : 0 < S) (hz : -1099511627776 ≤ z i ∧ z i ≤ 1099511627776) : -72057594037927936 ≤ flo z S i ∧ flo z S i ≤ 72057594037927936 := by
  unfold flo
  have hb := div_down (a := 65536 * z i) hS
  obtain ⟨b1, b2, b3, b4⟩ := tdiv_size (a := 65536 * z i) hS
  have h1 : -72057594037927936 ≤ 65536 * z i / S := by
    rw [Int.le_ediv_iff_mul_le hS]
    have : -72057594037927936 * S ≤ -72057594037927936 * 1 := Int.mul_le_mul_of_nonpos_left (by decide) (by omega)
    omega
  refine ⟨h1, ?_⟩
  have : 65536 * z i / S ≤ 65536 * 1099511627776 := by
    have : 65536 * z i / S < 65536 * 1099511627776 + 1 := by
      rw [Int.ediv_lt_iff_lt_mul hS]
      have : (65536 * 1099511627776 + 1) * 1 ≤ (65536 * 1099511627776 + 1) * S := Int.mul_le_mul_of_nonneg_left (by omega) (by decide)
      omega
    omega
  omega
/-- The numbers of a list by their places. -/
def zf (zs : List Int) (i : Nat) : Int := zs.getD i 0
set_option maxHeartbeats 8000000 in
set_option maxRecDepth 1000000 in
theorem shares_any (v : Value) (zs : List Int) (w : World) (hv : ISl w v zs) (hn1 : 1 ≤ zs.length) (hn : zs.length ≤ 64) (hM : ∀ i, -1099511627776 ≤ zs.getD i 0 ∧ zs.getD i 0 ≤ 1099511627776) (hS : 0 < sumF (zf zs) zs.length) :
    Calls Try.prog 39 #[v] w fun e w' => ∃ g, e = .returned (.slice (some ⟨g, 0, none⟩) zs.length zs.length) ∧ w.heap.size ≤ g ∧ IRow w' g (tabI zs.length (shrV (zf zs) zs.length)) ∧ Q w w' := by
  obtain ⟨gw, ow, cw, rfl, hcw⟩ := hv.some hn1
  obtain ⟨N, eN⟩ : ∃ N, zs.length = N := ⟨_, rfl⟩
  obtain ⟨S, eS⟩ : ∃ S, sumF (zf zs) zs.length = S := ⟨_, rfl⟩
  have hsum : sumI zs zs.length = S := by
    have e : zs = tabI zs.length (fun i => zs.getD i 0) := by
      apply List.ext_getElem?
      intro i
      by_cases hi : i < zs.length
      · rw [tabI_at hi, List.getD_eq_getElem?_getD, List.getElem?_eq_getElem hi]; rfl
      · rw [List.getElem?_eq_none (by omega), List.getElem?_eq_none (by rw [tabI_len]; omega)]
    have h := tabI_sum zs.length (fun i => zs.getD i 0) zs.length (Nat.le_refl _)
    rw [← e] at h
    exact h.trans eS
  have C0 := total_any _ zs w hv hn (fun i => by have := hM i; omega)
  rw [hsum, eN] at C0
  have hS2 : S ≤ 70368744177664 := by
    have h := sumF_mono (f := fun i => zs.getD i 0) (g := fun _ => 1099511627776) zs.length (fun i _ => (hM i).2)
    rw [sumF_const, show sumF (fun i => zs.getD i 0) zs.length = S from eS] at h
    have : (zs.length : Int) * 1099511627776 ≤ 64 * 1099511627776 := Int.mul_le_mul_of_nonneg_right (by omega) (by decide)
    omega
  rw [eS] at hS
  have HW : Hid (∀ i, i < N → w.cell? ⟨gw, ow + i, none⟩ = some (.int .i64 (zs.getD i 0))) := by rw [← eN]; exact hcw
  have HM : Hid (∀ i, -1099511627776 ≤ zs.getD i 0 ∧ zs.getD i 0 ≤ 1099511627776) := hM
  have HS : Hid (sumF (fun i => zs.getD i 0) N = S) := by rw [← eN]; exact eS
  have HF : Hid (shrV (zf zs) N = shrK (fun i => zs.getD i 0) S N (missV (fun i => zs.getD i 0) S N).toNat) := by
    funext i
    show shrK (fun i => zs.getD i 0) (sumF (fun i => zs.getD i 0) N) N (missV (fun i => zs.getD i 0) (sumF (fun i => zs.getD i 0) N) N).toNat i = _
    rw [HS.out]
  rw [eN] at hn hn1 ⊢
  clear hv hM hcw eS eN hsum
  have hn' : N ≤ 1048576 := by omega
  go_enter Try.func39, Try.ntmps39
  go_wp2_with fail
  refine C0.mono ?_
  rintro e w1 ⟨rfl, hw1⟩
  obtain rfl := hw1.symm
  clear C0
  go_wp2_with fail
  refine regionMk (n := N) (ad := some ⟨gw, ow, none⟩) (c := cw) rfl rfl rfl hn' ?_
  intro w2 g gr go gb HMk
  rw [normMk]
  have HA : Hid (Ap w g gr go gb) := ⟨HMk.l1, HMk.l2, HMk.l3, HMk.l4, HMk.n12, HMk.n13, HMk.n14, HMk.n23, HMk.n24, HMk.n34⟩
  have HD : Hid (Dv w w2 (.slice (some ⟨gw, ow, none⟩) N cw) zs N g gr go gb 0 S) := by
    have e : ∀ f : Nat → Int, List.replicate N (0 : Int) = tabI N (fun j => if j < 0 then f j else 0) := fun f => by rw [tabI_zero]; exact tabI_congr (fun i _ => by simp)
    exact ⟨HMk.q, by rw [← e]; exact HMk.r1, by rw [← e (fun j => rsV (fun k => zs.getD k 0) S j)]; exact HMk.r2, by rw [← e (fun j => (j : Int))]; exact HMk.r3, HMk.box, HMk.b1, HMk.b2, HMk.b3⟩
  clear HMk
  go_wp2_with fail
  go_loopg [7, 22] N (fun gh s7 s22 wr => ∃ i : Nat, s22 = .int .i64 (i : Int) ∧ i ≤ N ∧ gh = N - i ∧ Hid (Dv w wr (.slice (some ⟨gw, ow, none⟩) N cw) zs N g gr go gb i S))
  case atStart => exact ⟨0, rfl, Nat.zero_le _, rfl, HD⟩
  case round =>
    clear HD
    obtain ⟨i, rfl, hi, rfl, HD⟩ := hrel
    by_cases hlt : i < N
    · have hltz : (i : Int) < (N : Int) := by omega
      obtain ⟨z, hz⟩ : ∃ z, z = zs.getD i 0 := ⟨_, rfl⟩
      have cz : wr.cell? ⟨gw, ow + i, none⟩ = some (.int .i64 z) := by rw [hz]; exact HD.out.q.cell (HW.out i hlt)
      have cb := HD.out.box
      have bz := HM.out i
      rw [← hz] at bz
      obtain ⟨bz1, bz2⟩ := bz
      have hwz : wrap64 (65536 * z) = 65536 * z := by unfold wrap64; omega
      have hwz' : IntKind.i64.wrap (65536 * z) = 65536 * z := by rw [IntKind.wrap_i64]; omega
      have HU : Hid (65536 * z / S = flo (fun k => zs.getD k 0) S i ∧ 65536 * z % S = rsV (fun k => zs.getD k 0) S i) := by
        refine ⟨by unfold flo; rw [hz], by unfold rsV; rw [hz, Int.toNat_natCast]⟩
      have HCd : Hid (∀ W : World, Calls Try.prog 48 #[.int .i64 (65536 * z), .int .i64 S] W fun e w' => e = .returned (.tuple #[.int .i64 (65536 * z / S), .int .i64 (65536 * z % S)]) ∧ Q W w') := fun W => div_any (65536 * z) S W hS (by omega) (by omega) (by omega)
      have gl : ∀ x, Q wr x → ∃ u, x.cell? ⟨g, i, none⟩ = some u := fun x q => ⟨_, (HD.out.l.next q).cell i _ (tabI_at hlt)⟩
      have grr : ∀ x, Q wr x → ∃ u, x.cell? ⟨gr, i, none⟩ = some u := fun x q => ⟨_, (HD.out.r.next q).cell i _ (tabI_at hlt)⟩
      have gff : ∀ x, Q wr x → x.frozen? ⟨g, i, none⟩ = false ∧ x.frozen? ⟨gr, i, none⟩ = false ∧ x.frozen? ⟨go, i, none⟩ = false := fun x q => ⟨(HD.out.l.next q).free i, (HD.out.r.next q).free i, (HD.out.o.next q).free i⟩
      have goo : ∀ x, Q wr x → ∃ u, x.cell? ⟨go, i, none⟩ = some u := fun x q => ⟨_, (HD.out.o.next q).cell i _ (tabI_at hlt)⟩
      generalize 65536 * z / S = u at HU HCd
      generalize 65536 * z % S = m at HU HCd
      have HG : Hid _ := gl
      have HGr : Hid _ := grr
      have HGf : Hid _ := gff
      have HGo : Hid _ := goo
      clear hz gl grr gff goo
      go_wp2_with fail
      have D0 : (fun x : World => x.cell? ⟨gb, 0, none⟩ = some (.slice (some ⟨gr, 0, none⟩) N N) ∧ x.cell? ⟨gw, ow + i, none⟩ = some (.int .i64 z)) wr.drew := ⟨cb, cz⟩
      have n0 := cw_some (D := (fun x : World => x.cell? ⟨gb, 0, none⟩ = some (.slice (some ⟨gr, 0, none⟩) N N) ∧ x.cell? ⟨gw, ow + i, none⟩ = some (.int .i64 z))) D0
      have f0 := fun n : CW ((fun x : World => x.cell? ⟨gb, 0, none⟩ = some (.slice (some ⟨gr, 0, none⟩) N N) ∧ x.cell? ⟨gw, ow + i, none⟩ = some (.int .i64 z))) => n.h.1
      have f1 := fun n : CW ((fun x : World => x.cell? ⟨gb, 0, none⟩ = some (.slice (some ⟨gr, 0, none⟩) N N) ∧ x.cell? ⟨gw, ow + i, none⟩ = some (.int .i64 z))) => n.h.2
      refine wp_region_mkP [0, 1, 2, 3, 4, 5, 6, 7, 8, 9] [[10, 11, 12, 14, 15, 13, 16, 17], [10, 11, 12, 14, 13, 15, 16, 17], [10, 11, 12, 13, 14, 15, 16, 17], [10, 11, 13, 12, 14, 15, 16, 17]] 8 _ ((fun x : World => x.cell? ⟨gb, 0, none⟩ = some (.slice (some ⟨gr, 0, none⟩) N N) ∧ x.cell? ⟨gw, ow + i, none⟩ = some (.int .i64 z))) (by kernel_rfl) (by kernel_rfl) rfl (by kernel_rfl) D0 ?_
      simp only [List.filterMap_cons, List.filterMap_nil, List.getElem?_cons_zero, List.getElem?_cons_succ]
      repeat (first | go_big_quiet_step (fail) | quiet_step (fail))
      refine wpQuiet_nil ?_
      clear f0 f1 n0
      refine treeA_call 10 (by kernel_rfl) rfl (run_fn 48 #[.tmp 34, .tmp 35] _ rfl (fun _ _ => rfl) (vs := #[.int .i64 (65536 * z), .int .i64 S]) (by kernel_rfl)) (G := fun v x' => v = .tuple #[.int .i64 u, .int .i64 m] ∧ Q wr.drew x') ((HCd.out _).mono fun e x' h => ⟨_, h.1, rfl, h.2⟩) ?_
      rintro vq x5 ⟨rfl, q5⟩
      have hq5 : Q wr x5 := ((Q.refl wr).drew).trans q5
      have D5 : (fun x : World => x.cell? ⟨gb, 0, none⟩ = some (.slice (some ⟨gr, 0, none⟩) N N) ∧ x.cell? ⟨gw, ow + i, none⟩ = some (.int .i64 z)) x5 := ⟨hq5.cell cb, hq5.cell cz⟩
      obtain ⟨y1, cy1⟩ := HG.out x5 hq5
      obtain ⟨y2, cy2⟩ := HGr.out x5 hq5
      obtain ⟨y3, cy3⟩ := HGo.out x5 hq5
      obtain ⟨fy1, fy2, fy3⟩ := HGf.out x5 hq5
      obtain ⟨hA1, hA2, hA3⟩ : g ≠ gr ∧ g ≠ go ∧ gr ≠ go := ⟨HA.out.n12, HA.out.n13, HA.out.n23⟩
      have D6 : (fun x : World => x.cell? ⟨gb, 0, none⟩ = some (.slice (some ⟨gr, 0, none⟩) N N) ∧ x.cell? ⟨gw, ow + i, none⟩ = some (.int .i64 z)) (x5.setCell ⟨g, i, none⟩ (.int .i64 u)) := ⟨(World.cell?_setCell_other _ _ _ _ (fun e => HA.out.n14 (by injection e))).trans D5.1, by
        rw [World.cell?_setCell_other _ _ _ _ (fun e => ?_)]; exact D5.2
        have h1 := HA.out.l1
        have h2 := World.block_lt_of_cell? _ _ (HW.out i hlt)
        injection e with e1 e2
        simp only at h2
        omega⟩
      have cy2' : (x5.setCell ⟨g, i, none⟩ (.int .i64 u)).cell? ⟨gr, i, none⟩ = some y2 := (World.cell?_setCell_other _ _ _ _ (fun e => hA1 (by injection e))).trans cy2
      have fy2' : (x5.setCell ⟨g, i, none⟩ (.int .i64 u)).frozen? ⟨gr, i, none⟩ = false := by rw [World.frozen?_setCell]; exact fy2
      have cy3' : ((x5.setCell ⟨g, i, none⟩ (.int .i64 u)).setCell ⟨gr, i, none⟩ (.int .i64 m)).cell? ⟨go, i, none⟩ = some y3 := (World.cell?_setCell_other _ _ _ _ (fun e => hA3 (by injection e))).trans ((World.cell?_setCell_other _ _ _ _ (fun e => hA2 (by injection e))).trans cy3)
      have fy3' : ((x5.setCell ⟨g, i, none⟩ (.int .i64 u)).setCell ⟨gr, i, none⟩ (.int .i64 m)).frozen? ⟨go, i, none⟩ = false := by rw [World.frozen?_setCell, World.frozen?_setCell]; exact fy3
      have HD9 : Hid (Dv w (((x5.setCell ⟨g, i, none⟩ (.int .i64 u)).setCell ⟨gr, i, none⟩ (.int .i64 m)).setCell ⟨go, i, none⟩ (.int .i64 (i : Int))) (.slice (some ⟨gw, ow, none⟩) N cw) zs N g gr go gb (i + 1) S) := HD.out.step HA.out hlt hq5 HU.out.1 HU.out.2
      clear HD q5 hq5 cy3 fy3 cb cz D0
      refine ⟨D5, ?_⟩
      refine treeA_run 11 (by kernel_rfl) rfl (v := .tuple #[.int .i64 u, .int .i64 m]) (x' := x5) (run_mvi (by kernel_rfl)) (Or.inr D5) ?_
      refine treeB_rr 12 13 (by kernel_rfl) rfl rfl (v := .int .i64 u) (v2 := .int .i64 m) (run_exk0 (b := .int .i64 m) (by kernel_rfl)) (run_exk1 (a := .int .i64 u) (by kernel_rfl)) D5 ?_ ?_
      · refine treeB_rr 13 14 (by kernel_rfl) rfl rfl (v := .int .i64 m) (v2 := .pointer (some ⟨g, i, none⟩)) (run_exk1 (a := .int .i64 u) (by kernel_rfl)) (run_ixk (Lw := N) (cap := N) (by kernel_rfl) (by kernel_rfl) hlt) D5 ?_ ?_
        · refine treeA_run 14 (by kernel_rfl) rfl (v := .pointer (some ⟨g, i, none⟩)) (x' := x5) (run_ixk (Lw := N) (cap := N) (by kernel_rfl) (by kernel_rfl) hlt) (Or.inr D5) ?_
          refine treeA_skip 15 (by kernel_rfl) rfl (x' := (x5.setCell ⟨g, i, none⟩ (.int .i64 u))) (run_sti (i := i) (by kernel_rfl) (by kernel_rfl) cy1 fy1) (Or.inr D6) ?_
          refine treeA_run 16 (by kernel_rfl) rfl (v := .pointer (some ⟨gr, i, none⟩)) (x' := (x5.setCell ⟨g, i, none⟩ (.int .i64 u))) (run_ixk (Lw := N) (cap := N) (by kernel_rfl) (by kernel_rfl) hlt) (Or.inr D6) ?_
          refine treeA_skip 17 (by kernel_rfl) rfl (x' := ((x5.setCell ⟨g, i, none⟩ (.int .i64 u)).setCell ⟨gr, i, none⟩ (.int .i64 m))) (run_sti (i := i) (by kernel_rfl) (by kernel_rfl) cy2' fy2') (Or.inl (by kernel_rfl)) ?_
          refine tree_nil ?_
          go_wp2_with fail
          generalize (((x5.setCell ⟨g, i, none⟩ (.int .i64 u)).setCell ⟨gr, i, none⟩ (.int .i64 m)).setCell ⟨go, i, none⟩ (.int .i64 (i : Int))) = x9 at HD9 ⊢
          go_roundg (N - (i + 1))
          case measure => go_light; omega
          case rel => go_light; exact ⟨i + 1, by simp, by omega, rfl, HD9⟩
        · refine treeB_rs 13 15 (by kernel_rfl) rfl rfl (v := .int .i64 m) (x' := (x5.setCell ⟨g, i, none⟩ (.int .i64 u))) (run_exk1 (a := .int .i64 u) (by kernel_rfl)) (run_sti (i := i) (by kernel_rfl) (by kernel_rfl) cy1 fy1) D5 D6 ?_ ?_
          · refine treeA_skip 15 (by kernel_rfl) rfl (x' := (x5.setCell ⟨g, i, none⟩ (.int .i64 u))) (run_sti (i := i) (by kernel_rfl) (by kernel_rfl) cy1 fy1) (Or.inr D6) ?_
            refine treeA_run 16 (by kernel_rfl) rfl (v := .pointer (some ⟨gr, i, none⟩)) (x' := (x5.setCell ⟨g, i, none⟩ (.int .i64 u))) (run_ixk (Lw := N) (cap := N) (by kernel_rfl) (by kernel_rfl) hlt) (Or.inr D6) ?_
            refine treeA_skip 17 (by kernel_rfl) rfl (x' := ((x5.setCell ⟨g, i, none⟩ (.int .i64 u)).setCell ⟨gr, i, none⟩ (.int .i64 m))) (run_sti (i := i) (by kernel_rfl) (by kernel_rfl) cy2' fy2') (Or.inl (by kernel_rfl)) ?_
            refine tree_nil ?_
            go_wp2_with fail
            generalize (((x5.setCell ⟨g, i, none⟩ (.int .i64 u)).setCell ⟨gr, i, none⟩ (.int .i64 m)).setCell ⟨go, i, none⟩ (.int .i64 (i : Int))) = x9 at HD9 ⊢
            go_roundg (N - (i + 1))
            case measure => go_light; omega
            case rel => go_light; exact ⟨i + 1, by simp, by omega, rfl, HD9⟩
          · refine treeA_run 13 (by kernel_rfl) rfl (v := .int .i64 m) (x' := (x5.setCell ⟨g, i, none⟩ (.int .i64 u))) (run_exk1 (a := .int .i64 u) (by kernel_rfl)) (Or.inr D6) ?_
            refine treeA_run 16 (by kernel_rfl) rfl (v := .pointer (some ⟨gr, i, none⟩)) (x' := (x5.setCell ⟨g, i, none⟩ (.int .i64 u))) (run_ixk (Lw := N) (cap := N) (by kernel_rfl) (by kernel_rfl) hlt) (Or.inr D6) ?_
            refine treeA_skip 17 (by kernel_rfl) rfl (x' := ((x5.setCell ⟨g, i, none⟩ (.int .i64 u)).setCell ⟨gr, i, none⟩ (.int .i64 m))) (run_sti (i := i) (by kernel_rfl) (by kernel_rfl) cy2' fy2') (Or.inl (by kernel_rfl)) ?_
            refine tree_nil ?_
            go_wp2_with fail
            generalize (((x5.setCell ⟨g, i, none⟩ (.int .i64 u)).setCell ⟨gr, i, none⟩ (.int .i64 m)).setCell ⟨go, i, none⟩ (.int .i64 (i : Int))) = x9 at HD9 ⊢
            go_roundg (N - (i + 1))
            case measure => go_light; omega
            case rel => go_light; exact ⟨i + 1, by simp, by omega, rfl, HD9⟩
      · refine treeA_run 12 (by kernel_rfl) rfl (v := .int .i64 u) (x' := x5) (run_exk0 (b := .int .i64 m) (by kernel_rfl)) (Or.inr D5) ?_
        refine treeA_run 14 (by kernel_rfl) rfl (v := .pointer (some ⟨g, i, none⟩)) (x' := x5) (run_ixk (Lw := N) (cap := N) (by kernel_rfl) (by kernel_rfl) hlt) (Or.inr D5) ?_
        refine treeA_skip 15 (by kernel_rfl) rfl (x' := (x5.setCell ⟨g, i, none⟩ (.int .i64 u))) (run_sti (i := i) (by kernel_rfl) (by kernel_rfl) cy1 fy1) (Or.inr D6) ?_
        refine treeA_run 16 (by kernel_rfl) rfl (v := .pointer (some ⟨gr, i, none⟩)) (x' := (x5.setCell ⟨g, i, none⟩ (.int .i64 u))) (run_ixk (Lw := N) (cap := N) (by kernel_rfl) (by kernel_rfl) hlt) (Or.inr D6) ?_
        refine treeA_skip 17 (by kernel_rfl) rfl (x' := ((x5.setCell ⟨g, i, none⟩ (.int .i64 u)).setCell ⟨gr, i, none⟩ (.int .i64 m))) (run_sti (i := i) (by kernel_rfl) (by kernel_rfl) cy2' fy2') (Or.inl (by kernel_rfl)) ?_
        refine tree_nil ?_
        go_wp2_with fail
        generalize (((x5.setCell ⟨g, i, none⟩ (.int .i64 u)).setCell ⟨gr, i, none⟩ (.int .i64 m)).setCell ⟨go, i, none⟩ (.int .i64 (i : Int))) = x9 at HD9 ⊢
        go_roundg (N - (i + 1))
        case measure => go_light; omega
        case rel => go_light; exact ⟨i + 1, by simp, by omega, rfl, HD9⟩
    · have hge : ¬ (i : Int) < (N : Int) := by omega
      obtain rfl : i = N := by omega
      have R0 : Row1 iEnc wr go 0 (placesL i).toArray := by
        refine ⟨iEnc_one, ?_, HD.out.sz.2.2⟩
        have e : (tabI i fun j => if j < i then (j : Int) else 0) = placesL i := by
          unfold placesL
          exact tabI_congr (fun j hj => by simp [hj])
        have := row_holds HD.out.o
        rw [e] at this
        exact this
      have hps : i = (placesL i).toArray.size := by simp [placesL_len]
      have hpd : ∀ k, k < i → (placesL i).toArray[k]! = (k : Int) := fun k hk => by
        rw [getElem!_pos _ k (by simpa [placesL_len] using hk)]
        have := placesL_at hk
        obtain ⟨_, e⟩ := List.getElem?_eq_some_iff.1 this
        simpa using e
      have Cs := sortst_any (rsV (fun k => zs.getD k 0) S) 55 #[.pointer (some ⟨gb, 0, none⟩)] go 0 i i (placesL i).toArray wr (fun _ _ => rfl) (by rw [← hps]; exact cmpr_of (rsV (fun k => zs.getD k 0) S) gb gr go i i wr HD.out.sz.2.2 (fun e => HA.out.n34 e.symm) HA.out.n23 HD.out.box (fun k hk => by have := HD.out.r.cell k _ (tabI_at hk); rw [if_pos hk] at this; exact this)) R0 hps (by omega) hpd
      have HR0 : Hid (Row1 iEnc wr go 0 (placesL i).toArray ∧ i = (placesL i).toArray.size ∧ ∀ k, k < i → (placesL i).toArray[k]! = (k : Int)) := ⟨R0, hps, hpd⟩
      clear R0 hps hpd
      go_wp2_with fail
      refine Cs.mono ?_
      rintro e w6 ⟨rfl, d', s6, p6, t6⟩
      clear Cs
      have hz6 : d'.size = (placesL i).toArray.size := p6.1
      have HG6 : Hid (Gv w w6 (fun k => zs.getD k 0) i g go 0 S) := by
        refine ⟨sv_q s6 HD.out.q HA.out.l3, ?_, ?_⟩
        · have := sv_row s6 HA.out.n13 HD.out.l
          rw [tabI_congr (g := shrK (fun k => zs.getD k 0) S i 0) (fun j hj => by rw [shrK_zero, if_pos hj])] at this
          exact this
        · have := sv_own s6 HR0.out.1 hz6 HD.out.o.free
          rw [ordL_of HR0.out.2.1 HR0.out.2.2 p6 t6] at this
          exact this
      clear s6 p6 t6 hz6 HD HR0
      have C7 := total_any (.slice (some ⟨g, 0, none⟩) i i) (tabI i (shrK (fun k => zs.getD k 0) S i 0)) w6 (by have := HG6.out.l.isl i; rw [tabI_len] at this; exact this) (by rw [tabI_len]; exact hn) (fun k => by
        rw [List.getD_eq_getElem?_getD]
        by_cases hk : k < i
        · rw [tabI_at hk, shrK_zero]
          exact flo_size (z := fun k => zs.getD k 0) hS (HM.out k)
        · rw [List.getElem?_eq_none (by rw [tabI_len]; omega)]; decide)
      rw [tabI_len, tabI_sum i _ i (Nat.le_refl _), sumF_congr (g := flo (fun k => zs.getD k 0) S) i (fun k _ => shrK_zero _ _ _ _)] at C7
      have hm0 := miss_ge (fun k => zs.getD k 0) HS.out.symm hS
      have hm1 := miss_le (fun k => zs.getD k 0) HS.out.symm hS (by omega)
      obtain ⟨mm, hmm⟩ : ∃ mm : Nat, (mm : Int) = missV (fun k => zs.getD k 0) S i := ⟨(missV (fun k => zs.getD k 0) S i).toNat, by omega⟩
      have HMM : Hid ((missV (fun k => zs.getD k 0) S i).toNat = mm) := by show _ = _; omega
      have emm : (65536 : Int) - sumF (flo (fun k => zs.getD k 0) S) i = (mm : Int) := hmm.symm
      have hmN : mm < i := by omega
      generalize sumF (flo (fun k => zs.getD k 0) S) i = T at C7 emm
      clear hm0 hm1 hmm
      go_wp2_with fail
      refine C7.mono ?_
      rintro e w7 ⟨rfl, hw7⟩
      obtain rfl := hw7.symm
      clear C7
      go_wp2_with fail
      go_loopg [8, 52] mm (fun gh s8 s52 wr => ∃ j : Nat, s52 = .int .i64 (j : Int) ∧ j ≤ mm ∧ gh = mm - j ∧ Hid (Gv w wr (fun k => zs.getD k 0) i g go j S))
      case atStart => exact ⟨0, rfl, Nat.zero_le _, rfl, HG6⟩
      case round =>
        clear HG6
        obtain ⟨j, rfl, hj, rfl, HG⟩ := hrel
        by_cases hlt : j < mm
        · have hltz : (j : Int) < (mm : Int) := by omega
          obtain ⟨o, ho, hoN⟩ : ∃ o : Nat, (ordL (rsV (fun k => zs.getD k 0) S) i)[j]? = some (o : Int) ∧ o < i := by
            have hlen : j < (ordL (rsV (fun k => zs.getD k 0) S) i).length := by rw [ordL_len]; omega
            have hm := ordL_mem.1 (List.getElem_mem hlen)
            exact ⟨((ordL (rsV (fun k => zs.getD k 0) S) i)[j]).toNat, by rw [List.getElem?_eq_getElem hlen]; congr 1; omega, by omega⟩
          have hoz : (o : Int) < (i : Int) := by omega
          have hjz : (j : Int) < (i : Int) := by omega
          have hjN : j < i := by omega
          have c1 := HG.out.o.cell j _ ho
          have c2 := HG.out.l.cell o _ (tabI_at hoN)
          have f2 := HG.out.l.free o
          have HG2 : Hid _ := HG.out.step HA.out.l1 HA.out.n13 ho hoN
          obtain ⟨y, hy⟩ : ∃ y, y = shrK (fun k => zs.getD k 0) S i j o := ⟨_, rfl⟩
          have by1 : -72057594037927936 ≤ y ∧ y ≤ 72057594037927937 := by
            rw [hy]; unfold shrK
            have := flo_size (z := fun k => zs.getD k 0) (i := o) hS (HM.out o)
            split <;> omega
          rw [← hy] at c2 HG2
          obtain ⟨by1, by2⟩ := by1
          clear ho HG hy
          go_wp2_with fail
          generalize wr.setCell ⟨g, o, none⟩ (.int .i64 (y + 1)) = w9 at HG2 ⊢
          go_roundg (mm - (j + 1))
          case measure => go_light; omega
          case rel => go_light; exact ⟨j + 1, by simp, by omega, rfl, HG2⟩
        · have hge2 : ¬ (j : Int) < (mm : Int) := by omega
          obtain rfl : j = mm := by omega
          go_wp2_with fail
          go_ret
          refine ⟨g, rfl, HA.out.l1, ?_, HG.out.q⟩
          rw [HF.out, HMM.out]
          exact HG.out.l
end Go.Proofs.Ytdbbpmadkhedlaa
/- kernel.Share. -/
namespace Go.Proofs.Ytdbbpmadkhedlaa
open Go.RowKit
set_option linter.unusedVariables false
set_option linter.unusedSimpArgs false

/-- Are these weights that Share takes? -/
def shOk (zs : List Int) : Prop := 1 ≤ zs.length ∧ zs.length ≤ 64 ∧ anyT zs zs.length = false ∧ 0 < sumF (zf zs) zs.length
theorem anyT_bounds {l : List Int} : ∀ {k : Nat}, anyT l k = false → ∀ i, i < k → -1099511627776 ≤ l.getD i 0 ∧ l.getD i 0 ≤ 1099511627776
  | 0, _, i, hi => by omega
  | k + 1, h, i, hi => by
    have h' : (anyT l k || tooB (l.getD k 0)) = false := h
    rw [Bool.or_eq_false_iff] at h'
    by_cases e : i = k
    · subst e
      have := h'.2
      unfold tooB at this
      rw [Bool.or_eq_false_iff, decide_eq_false_iff_not, decide_eq_false_iff_not] at this
      omega
    · exact anyT_bounds h'.1 i (by omega)
theorem anyT_all {l : List Int} (h : anyT l l.length = false) (i : Nat) : -1099511627776 ≤ l.getD i 0 ∧ l.getD i 0 ≤ 1099511627776 := by
  by_cases hi : i < l.length
  · exact anyT_bounds h i hi
  · rw [List.getD_eq_getElem?_getD, List.getElem?_eq_none (by omega)]; decide
theorem sumI_zf (l : List Int) : ∀ k, sumI l k = sumF (zf l) k
  | 0 => rfl
  | k + 1 => by show sumI l k + l.getD k 0 = sumF (zf l) k + zf l k; rw [sumI_zf l k]; rfl
set_option maxHeartbeats 2000000 in
set_option maxRecDepth 100000 in
theorem share_bad (v : Value) (zs : List Int) (w : World) (hv : ISl w v zs) (hn : zs.length ≤ 35184372088832) (hs : ¬ shOk zs) :
    Calls Try.prog 17 #[v] w fun e w' => e = .returned (.tuple #[.slice none 0 0, .int .i64 91]) ∧ w' = w := by
  have hv' := hv
  obtain ⟨ad, c, rfl⟩ := hv.form
  by_cases h0 : zs.length = 0
  · rw [h0]
    go_enter Try.func17, Try.ntmps17
    go_wp2_with fail
    go_ret2
    exact ⟨rfl, rfl⟩
  · have h0' : ((zs.length : Int) == 0) = false := by simp; intro e; rw [e] at h0; exact h0 rfl
    have h0'' : ¬ (zs.length : Int) = 0 := by omega
    by_cases h1 : 64 < zs.length
    · have h1' : (64 : Int) < (zs.length : Int) := by omega
      have HV : Hid _ := hv
      clear hs hv hv'
      generalize zs.length = N at *
      go_enter Try.func17, Try.ntmps17
      go_wp2_with fail
      go_ret2
      exact ⟨rfl, rfl⟩
    · have h1' : ¬ (64 : Int) < (zs.length : Int) := by omega
      have C1 := conf_any _ zs w hv (by omega)
      cases hb : anyT zs zs.length
      · have hm := anyT_all hb
        have C2 := total_any _ zs w hv (by omega) (fun i => by have := hm i; omega)
        rw [hb] at C1
        have hS : ¬ 0 < sumF (zf zs) zs.length := fun h => hs ⟨by omega, by omega, hb, h⟩
        rw [sumI_zf] at C2
        have hS' : sumF (zf zs) zs.length ≤ 0 := by omega
        generalize sumF (zf zs) zs.length = S at C2 hS'
        clear hs hv hv' hm hb hS
        generalize zs.length = N at *
        go_enter Try.func17, Try.ntmps17
        go_wp2_with (first | (refine C1.mono ?_; rintro e w' ⟨rfl, rfl⟩) | (refine C2.mono ?_; rintro e w' ⟨rfl, rfl⟩))
        go_ret2
        exact ⟨rfl, rfl⟩
      · rw [hb] at C1
        clear hs hv hv' hb
        generalize zs.length = N at *
        go_enter Try.func17, Try.ntmps17
        go_wp2_with (refine C1.mono ?_; rintro e w' ⟨rfl, rfl⟩)
        go_ret2
        exact ⟨rfl, rfl⟩
set_option maxHeartbeats 2000000 in
set_option maxRecDepth 100000 in
theorem share_good (v : Value) (zs : List Int) (w : World) (hv : ISl w v zs) (hs : shOk zs) :
    Calls Try.prog 17 #[v] w fun e w' => ∃ g, e = .returned (.tuple #[.slice (some ⟨g, 0, none⟩) zs.length zs.length, .int .i64 0]) ∧ w.heap.size ≤ g ∧ IRow w' g (tabI zs.length (shrV (zf zs) zs.length)) ∧ Q w w' := by
  obtain ⟨s1, s2, s3, s4⟩ := hs
  have hm := anyT_all s3
  have C1 := conf_any _ zs w hv (by omega)
  have C2 := total_any _ zs w hv (by omega) (fun i => by have := hm i; omega)
  have C3 := shares_any _ zs w hv s1 s2 hm s4
  obtain ⟨ad, c, rfl⟩ := hv.form
  rw [s3] at C1
  rw [sumI_zf] at C2
  have s4' : ¬ sumF (zf zs) zs.length ≤ 0 := by omega
  generalize shrV (zf zs) zs.length = sh at C3 ⊢
  generalize sumF (zf zs) zs.length = S at C2 s4'
  have h0' : ((zs.length : Int) == 0) = false := by simp; intro e; rw [e] at s1; cases s1
  have h0'' : ¬ (zs.length : Int) = 0 := by omega
  have h1' : ¬ (64 : Int) < (zs.length : Int) := by omega
  clear hv hm s3 s4
  generalize zs.length = N at *
  go_enter Try.func17, Try.ntmps17
  go_wp2_with (first | (refine C1.mono ?_; rintro e w' ⟨rfl, rfl⟩) | (refine C2.mono ?_; rintro e w' ⟨rfl, rfl⟩))
  refine C3.mono ?_
  rintro e w3 ⟨g, rfl, h1, h2, h3⟩
  clear C1 C2 C3
  have HH : Hid _ := And.intro h1 (And.intro h2 h3)
  clear h1 h2 h3
  go_wp2_with fail
  go_ret2
  exact ⟨g, rfl, HH.out.1, HH.out.2.1, HH.out.2.2⟩
end Go.Proofs.Ytdbbpmadkhedlaa
/- The kernels' weights. -/
namespace Go.Proofs.Ytdbbpmadkhedlaa
open Go.RowKit
set_option linter.unusedVariables false
set_option linter.unusedSimpArgs false

def absI (d : Int) : Int := (d.natAbs : Int)
theorem absI_max (d : Int) : max d (-d) = absI d := by unfold absI; omega
/-- Cubic's weight, times 2 b^3. -/
def cubV (c b : Int) : Int := if c < b then 3 * c * c * c - 5 * c * c * b + 2 * b * b * b else if c < 2 * b then -c * c * c + 5 * c * c * b - 8 * c * b * b + 4 * b * b * b else 0
theorem mul_bd {x y X Y : Int} (h1 : 0 ≤ x) (h2 : x ≤ X) (h3 : 0 ≤ y) (h4 : y ≤ Y) : 0 ≤ x * y ∧ x * y ≤ X * Y := by
  refine ⟨Int.mul_nonneg h1 h3, ?_⟩
  calc x * y ≤ X * y := Int.mul_le_mul_of_nonneg_right h2 h3
    _ ≤ X * Y := Int.mul_le_mul_of_nonneg_left h4 (by omega)
set_option maxHeartbeats 2000000 in
set_option maxRecDepth 100000 in
theorem cubic_any (c b : Int) (w : World) (c0 : 0 ≤ c) (c1 : c ≤ 8192) (b0 : 0 ≤ b) (b1 : b ≤ 2048) :
    Calls Try.prog 53 #[.int .i64 c, .int .i64 b] w fun e w' => e = .returned (.int .i64 (cubV c b)) ∧ w' = w := by
  have m1 := mul_bd c0 c1 c0 c1
  have m2 := mul_bd b0 b1 b0 b1
  have m3 := mul_bd m1.1 m1.2 c0 c1
  have m4 := mul_bd m1.1 m1.2 b0 b1
  have m5 := mul_bd m2.1 m2.2 b0 b1
  have m6 := mul_bd c0 c1 m2.1 m2.2
  have e1 : 3 * c * c = 3 * (c * c) := Int.mul_assoc _ _ _
  have e2 : 3 * c * c * c = 3 * (c * c * c) := by rw [e1, Int.mul_assoc]
  have e3 : 5 * c * c = 5 * (c * c) := Int.mul_assoc _ _ _
  have e4 : 5 * c * c * b = 5 * (c * c * b) := by rw [e3, Int.mul_assoc]
  have e5 : 2 * b * b = 2 * (b * b) := Int.mul_assoc _ _ _
  have e6 : 2 * b * b * b = 2 * (b * b * b) := by rw [e5, Int.mul_assoc]
  have e7 : -c * c = -(c * c) := Int.neg_mul _ _
  have e8 : -c * c * c = -(c * c * c) := by rw [e7, Int.neg_mul]
  have e9 : 8 * c * b = 8 * (c * b) := Int.mul_assoc _ _ _
  have e10 : 8 * c * b * b = 8 * (c * (b * b)) := by rw [e9, Int.mul_assoc, Int.mul_assoc]
  have e11 : 4 * b * b = 4 * (b * b) := Int.mul_assoc _ _ _
  have e12 : 4 * b * b * b = 4 * (b * b * b) := by rw [e11, Int.mul_assoc]
  have m7 := mul_bd c0 c1 b0 b1
  unfold cubV
  rw [e2, e4, e6, e8, e10, e12]
  have E1 : Hid (3 * c * c = 3 * (c * c)) := e1
  obtain ⟨cc, hcc⟩ : ∃ cc, cc = c * c := ⟨_, rfl⟩
  obtain ⟨bb, hbb⟩ : ∃ bb, bb = b * b := ⟨_, rfl⟩
  obtain ⟨ccc, hccc⟩ : ∃ x, x = c * c * c := ⟨_, rfl⟩
  obtain ⟨ccb, hccb⟩ : ∃ x, x = c * c * b := ⟨_, rfl⟩
  obtain ⟨bbb, hbbb⟩ : ∃ x, x = b * b * b := ⟨_, rfl⟩
  obtain ⟨cbb, hcbb⟩ : ∃ x, x = c * (b * b) := ⟨_, rfl⟩
  obtain ⟨cb, hcb⟩ : ∃ x, x = c * b := ⟨_, rfl⟩
  rw [← hccc] at m3 e2 e8 ⊢
  rw [← hccb] at m4 e4 ⊢
  rw [← hbbb] at m5 e6 e12 ⊢
  rw [← hcbb] at m6 e10 ⊢
  rw [← hcc] at m1 e1 e3 e7
  rw [← hbb] at m2 e5 e11
  rw [← hcb] at m7 e9
  rw [e1] at e2
  rw [e3] at e4
  rw [e5] at e6
  rw [e7] at e8
  rw [e9] at e10
  rw [e11] at e12
  obtain ⟨m1a, m1b⟩ := m1
  obtain ⟨m2a, m2b⟩ := m2
  obtain ⟨m3a, m3b⟩ := m3
  obtain ⟨m4a, m4b⟩ := m4
  obtain ⟨m5a, m5b⟩ := m5
  obtain ⟨m6a, m6b⟩ := m6
  obtain ⟨m7a, m7b⟩ := m7
  have n8 : -cc * c = -ccc := e8
  clear hcc hbb hccc hccb hbbb hcbb hcb E1
  by_cases h1 : c < b
  · rw [if_pos h1]
    go_enter Try.func53, Try.ntmps53
    go_wp2_with fail
    go_ret
    exact ⟨rfl, rfl⟩
  · rw [if_neg h1]
    by_cases h2 : c < 2 * b
    · rw [if_pos h2]
      go_enter Try.func53, Try.ntmps53
      go_wp2_with fail
      go_ret
      exact ⟨rfl, rfl⟩
    · rw [if_neg h2]
      go_enter Try.func53, Try.ntmps53
      go_wp2_with fail
      go_ret
      exact ⟨rfl, rfl⟩
theorem run_mx2 {P : Program} (ts : Array TypeId) (t : TypeId) (x y : Int) (w : World) : (Builtin.max_ ts t #[.int .i64 x, .int .i64 y]).run P w = .ok (.int .i64 (max x y)) w := by
  simp [Builtin.max_, Builtin.max2]
  try (split <;> congr 2 <;> omega)
theorem run_mn2 {P : Program} (ts : Array TypeId) (t : TypeId) (x y : Int) (w : World) : (Builtin.min_ ts t #[.int .i64 x, .int .i64 y]).run P w = .ok (.int .i64 (min x y)) w := by
  simp [Builtin.min_, Builtin.min2]
  try (split <;> congr 2 <;> omega)
set_option maxHeartbeats 1000000 in
theorem ksize_any (d : Int) (w : World) (h1 : -4611686018427387904 ≤ d) (h2 : d ≤ 4611686018427387904) : Calls Try.prog 51 #[.int .i64 d] w fun e w' => e = .returned (.int .i64 (absI d)) ∧ w' = w := by
  have hmx : ∀ (ts : Array TypeId) (t : TypeId) (w : World), (Builtin.max_ ts t #[.int .i64 d, .int .i64 (-d)]).run Try.prog w = .ok (.int .i64 (absI d)) w := fun ts t w => by rw [← absI_max]; exact run_mx2 ts t _ _ w
  generalize absI d = A at hmx ⊢
  go_enter Try.func51, Try.ntmps51
  go_wp2_with fail
  go_ret
  exact ⟨rfl, rfl⟩
/-- A kernel's weight at a distance, in whole numbers. -/
def wgt (kind m d : Int) : Int := if kind = 1 then (if -m ≤ d ∧ d < m then 1 else 0) else if kind = 2 then max (2 * m - absI d) 0 else cubV (absI d) (2 * m)
def rea (kind m : Int) : Int := if kind = 1 then m else if kind = 2 then 2 * m else 4 * m
/-- A kernel's closure. -/
def clo (kind : Int) (b : Nat) : Value := .func (.func (if kind = 1 then 49 else if kind = 2 then 50 else 52)) #[] #[.pointer (some ⟨b, 0, none⟩)]
set_option maxHeartbeats 1000000 in
theorem sh1_any (m d : Int) (b : Nat) (w : World) (hb : w.cell? ⟨b, 0, none⟩ = some (.int .i64 m)) (m0 : 1 ≤ m) (m1 : m ≤ 1024) : Calls Try.prog 49 #[.int .i64 d, .pointer (some ⟨b, 0, none⟩)] w fun e w' => e = .returned (.int .i64 (if -m ≤ d ∧ d < m then 1 else 0)) ∧ w' = w := by
  by_cases h1 : -m ≤ d
  · by_cases h2 : d < m
    · rw [if_pos ⟨h1, h2⟩]
      go_enter Try.func49, Try.ntmps49
      go_wp2_with fail
      go_ret
      exact ⟨rfl, rfl⟩
    · rw [if_neg (fun h => h2 h.2)]
      go_enter Try.func49, Try.ntmps49
      go_wp2_with fail
      go_ret
      exact ⟨rfl, rfl⟩
  · rw [if_neg (fun h => h1 h.1)]
    go_enter Try.func49, Try.ntmps49
    go_wp2_with fail
    go_ret
    exact ⟨rfl, rfl⟩
set_option maxHeartbeats 1000000 in
theorem sh2_any (o d : Int) (b : Nat) (w : World) (hb : w.cell? ⟨b, 0, none⟩ = some (.int .i64 o)) (m0 : 1 ≤ o) (m1 : o ≤ 2048) (h1 : -8192 ≤ d) (h2 : d ≤ 8192) : Calls Try.prog 50 #[.int .i64 d, .pointer (some ⟨b, 0, none⟩)] w fun e w' => e = .returned (.int .i64 (max (o - absI d) 0)) ∧ Q w w' := by
  have HC : Hid (∀ W : World, Calls Try.prog 51 #[.int .i64 d] W fun e w' => e = .returned (.int .i64 (absI d)) ∧ w' = W) := fun W => ksize_any d W (by omega) (by omega)
  have a0 : 0 ≤ absI d := by unfold absI; omega
  have a1 : absI d ≤ 8192 := by unfold absI; omega
  generalize absI d = A at *
  have hmx : ∀ (ts : Array TypeId) (t : TypeId) (w : World), (Builtin.max_ ts t #[.int .i64 (o - A), .int .i64 0]).run Try.prog w = .ok (.int .i64 (max (o - A) 0)) w := fun ts t w => run_mx2 ts t _ _ w
  have HX : Hid (max (o - A) 0 = max (o - A) 0) := rfl
  obtain ⟨M, eM⟩ : ∃ M, max (o - A) 0 = M := ⟨_, rfl⟩
  rw [eM] at hmx ⊢
  have hw : IntKind.i64.wrap (o - A) = o - A := by rw [IntKind.wrap_i64]; omega
  clear eM HX
  go_enter Try.func50, Try.ntmps50
  go_wp2_with fail
  go_quiet (first | (refine (HC.out _).mono ?_; rintro e w' ⟨rfl, rfl⟩; exact ⟨rfl, _, rfl⟩))
  go_wp2_with fail
  go_ret
  exact ⟨rfl, edrewk w _⟩
set_option maxHeartbeats 1000000 in
theorem sh3_any (o d : Int) (b : Nat) (w : World) (hb : w.cell? ⟨b, 0, none⟩ = some (.int .i64 o)) (m0 : 1 ≤ o) (m1 : o ≤ 2048) (h1 : -8192 ≤ d) (h2 : d ≤ 8192) : Calls Try.prog 52 #[.int .i64 d, .pointer (some ⟨b, 0, none⟩)] w fun e w' => e = .returned (.int .i64 (cubV (absI d) o)) ∧ Q w w' := by
  have HC : Hid (∀ W : World, Calls Try.prog 51 #[.int .i64 d] W fun e w' => e = .returned (.int .i64 (absI d)) ∧ w' = W) := fun W => ksize_any d W (by omega) (by omega)
  have a0 : 0 ≤ absI d := by unfold absI; omega
  have a1 : absI d ≤ 8192 := by unfold absI; omega
  generalize absI d = A at *
  have HC2 : Hid (∀ W : World, Calls Try.prog 53 #[.int .i64 A, .int .i64 o] W fun e w' => e = .returned (.int .i64 (cubV A o)) ∧ w' = W) := fun W => cubic_any A o W a0 a1 (by omega) m1
  generalize cubV A o = M at HC2 ⊢
  go_enter Try.func52, Try.ntmps52
  go_wp2_with fail
  go_quiet (first | (refine (HC.out _).mono ?_; rintro e w' ⟨rfl, rfl⟩; exact ⟨rfl, _, rfl⟩) | (refine (HC2.out _).mono ?_; rintro e w' ⟨rfl, rfl⟩; exact ⟨rfl, _, rfl⟩))
  go_wp2_with fail
  go_ret
  exact ⟨rfl, edrewk w _⟩
end Go.Proofs.Ytdbbpmadkhedlaa

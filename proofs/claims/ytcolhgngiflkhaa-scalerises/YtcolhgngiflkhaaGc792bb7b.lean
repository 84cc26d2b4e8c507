/- What one sample is made of. -/
import Derived.Test.YtcolhgngiflkhaaG046d787a
import Derived.Test.YtcolhgngiflkhaaGafc1ede9
import Derived.Test.YtcolhgngiflkhaaG50c16f84
import Derived.Test.YtcolhgngiflkhaaG38a8d75f
namespace Go.Proofs.Ytcolhgngiflkhaa
open Go.RowKit
set_option linter.unusedVariables false
set_option linter.unusedSimpArgs false

/-- The samples at the places of taps. -/
def pickV (L : List (Int × Int)) (S : List Nat) : List Nat := L.map fun e => S.getD e.1.toNat 0
/-- The sample that is made of taps. -/
def smpV (L : List (Int × Int)) (S : List Nat) : Nat := overW (dotF (prods (L.map Prod.snd) (pickV L S)))
/-- Taps as two lists. -/
def BlV (w : World) (v : Value) (L : List (Int × Int)) : Prop := ∃ vp vw, v = .agg #[vp, vw] ∧ ISl w vp (L.map Prod.fst) ∧ ISl w vw (L.map Prod.snd)
theorem BlV.next {w w' : World} {v : Value} {L : List (Int × Int)} (h : BlV w v L) (q : Q w w') : BlV w' v L := by
  obtain ⟨vp, vw, h1, h2, h3⟩ := h
  exact ⟨vp, vw, h1, h2.next q, h3.next q⟩
theorem fill_alloc {w w1 : World} (q : Q w w1) {b : Nat} (hb : w1.heap.size = b) (M : Array Value) (t : TypeId) (n : Nat) (hM : M.size = n) (L : Nat → Nat) : Fill w (w1.alloc (.cells M t)) b n L 0 := by
  subst hb
  have hb : (w1.alloc (.cells M t)).heap[w1.heap.size]? = some (.cells M t (0, 0)) := heap_alloc_new w1 _
  refine ⟨q.cells _ _, q.1.size, fun i hi => by omega, fun j hj => ⟨M[j]'(by omega), ?_⟩, fun j => ?_⟩
  · rw [cell_of_row _ _ j _ t (0, 0) hb, Array.getElem?_eq_getElem (by omega)]
  · unfold World.frozen?; rw [hb]; simp
theorem pickV_at {L : List (Int × Int)} {S : List Nat} {i : Nat} {e : Int × Int} (h : L[i]? = some e) : (pickV L S).getD i 0 = S.getD e.1.toNat 0 := by
  unfold pickV
  rw [List.getD_eq_getElem?_getD, List.getElem?_map, h]; rfl
set_option maxHeartbeats 4000000 in
set_option maxRecDepth 100000 in
theorem blend_of (v vl : Value) (L : List (Int × Int)) (S : List Nat) (w : World) (hv : BlV w v L) (hl : USl w vl S) (h64 : L.length ≤ 64) (hn : S.length ≤ 35184372087808) (hb : ∀ i, S.getD i 0 < 4294967296)
    (hp : ∀ e ∈ L, 0 ≤ e.1 ∧ e.1 < (S.length : Int)) (hw : ∀ e ∈ L, -268435456 ≤ e.2 ∧ e.2 ≤ 268435456) :
    Calls Try.prog 27 #[v, vl] w fun e w' => e = .returned (.int .u32 (smpV L S : Nat)) ∧ Q w w' := by
  obtain ⟨vp, vw, rfl, hP, hW⟩ := hv
  obtain ⟨aP, cP, rfl⟩ := hP.form
  obtain ⟨aW, cW, rfl⟩ := hW.form
  obtain ⟨al, cl, rfl⟩ := hl.form
  obtain ⟨N, eN⟩ : ∃ N, L.length = N := ⟨_, rfl⟩
  obtain ⟨M, eM⟩ : ∃ M, S.length = M := ⟨_, rfl⟩
  have HP : Hid (ISl w (.slice aP N cP) (L.map Prod.fst)) := by rw [List.length_map, eN] at hP; exact hP
  have HW : Hid (ISl w (.slice aW N cW) (L.map Prod.snd)) := by rw [List.length_map, eN] at hW; exact hW
  have HL : Hid (USl w (.slice al M cl) S) := by rw [eM] at hl; exact hl
  rw [List.length_map, List.length_map, eN, eM]
  rw [eN] at h64
  rw [eM] at hn
  have h64z : ¬ (64 : Int) < (N : Int) := by omega
  have HF : Hid (pickV L S = pickV L S ∧ (pickV L S).length = N) := ⟨rfl, by unfold pickV; rw [List.length_map, eN]⟩
  have HE : Hid (L.length = N ∧ S.length = M) := ⟨eN, eM⟩
  have HB : Hid (∀ i, S.getD i 0 < 4294967296) := hb
  have HPl : Hid (∀ e ∈ L, 0 ≤ e.1 ∧ e.1 < (M : Int)) := by rw [← eM]; exact hp
  have HWt : Hid (∀ e ∈ L, -268435456 ≤ e.2 ∧ e.2 ≤ 268435456) := hw
  clear hP hW hl hb hp hw eN eM
  go_enter Try.func27, Try.ntmps27
  go_wp2_with fail
  obtain ⟨w1, hw1⟩ : ∃ w1, w.alloc (.cells #[.slice aP N cP, .slice aW N cW] 64) = w1 := ⟨_, rfl⟩
  have HQ1 : Hid (Q w w1) := by rw [← hw1]; exact (Q.refl w).cells _ _
  have HC1 : Hid (w1.cell? ⟨w.heap.size, 1, none⟩ = some (.slice aW N cW)) := by show w1.cell? ⟨w.heap.size, 1, none⟩ = _; rw [← hw1]; simp [go_sem]
  have HS1 : Hid (w1.heap.size = w.heap.size + 1) := by show w1.heap.size = _; rw [← hw1]; simp
  go_loopg [7, 8, 18] N (fun gh s7 s8 s18 wr => ∃ k : Nat, s18 = .int .i64 (k : Int) ∧ k ≤ N ∧ gh = N - k ∧ Hid (Fill w1 wr (w.heap.size + 1) 64 (fun i => (pickV L S).getD i 0) k))
  case atStart => exact ⟨0, rfl, Nat.zero_le _, rfl, (by show Fill w1 _ _ _ _ _; rw [← hw1]; exact fill_alloc (Q.refl _) (by simp) _ _ 64 rfl _)⟩
  case round =>
    clear hw1
    obtain ⟨k, rfl, hk, rfl, HFl⟩ := hrel
    by_cases hlt : k < N
    · have hltz : (k : Int) < (N : Int) := by omega
      obtain ⟨e, he⟩ : ∃ e, L[k]? = some e := ⟨_, List.getElem?_eq_getElem (by rw [HE.out.1]; exact hlt)⟩
      obtain ⟨pl, wt⟩ := e
      have hpl := HPl.out _ (List.mem_of_getElem? he)
      obtain ⟨P, hP⟩ : ∃ P : Nat, pl = (P : Int) := ⟨pl.toNat, by have := hpl.1; simp only at this; omega⟩
      subst hP
      have hPM : P < M := by have := hpl.2; simp only at this; omega
      have hPz : (P : Int) < (M : Int) := by omega
      have q1 := HQ1.out.trans HFl.out.q
      obtain ⟨g1, o1, d1, hs1, hI1⟩ := (HP.out.next q1).some (by rw [List.length_map, HE.out.1]; omega)
      rw [List.length_map, HE.out.1] at hs1 hI1
      injection hs1 with e1 e2 e3
      subst e1 e3
      have c1 := hI1 k hlt
      rw [List.getD_eq_getElem?_getD, List.getElem?_map, he] at c1
      simp only [Option.map_some, Option.getD_some] at c1
      obtain ⟨g2, o2, d2, hs2, _, hI2⟩ := (HL.out.next q1).some (by rw [HE.out.2]; omega)
      rw [HE.out.2] at hs2
      injection hs2 with e4 e5 e6
      subst e4 e6
      have c2 := hI2 P (by rw [HE.out.2]; exact hPM)
      obtain ⟨x, hx⟩ : ∃ x, x = S.getD P 0 := ⟨_, rfl⟩
      rw [← hx] at c2
      obtain ⟨u, cu⟩ := HFl.out.room k (by omega)
      have fu := HFl.out.free k
      have HF2 : Hid _ := HFl.out.step (by omega : k < 64) (v := x) (by rw [hx, pickV_at he]; simp)
      have hk64 : k < 64 := by omega
      clear he hpl hI1 hI2 e2 e5 hx HFl
      go_wp2_with fail
      generalize wr.setCell ⟨w.heap.size + 1, k, none⟩ (.int .u32 (x : Nat)) = w9 at HF2 ⊢
      go_roundg (N - (k + 1))
      case measure => go_light; omega
      case rel => go_light; exact ⟨k + 1, by simp, by omega, rfl, HF2⟩
    · have hge : ¬ (k : Int) < (N : Int) := by omega
      obtain rfl : k = N := by omega
      have hown : UIs wr (w.heap.size + 1) 0 (pickV L S) := fun i hi => by rw [Nat.zero_add]; exact HFl.out.done i (by rw [HF.out.2] at hi; exact hi)
      have hus : USl wr (.slice (some ⟨w.heap.size + 1, 0, none⟩) k 64) (pickV L S) := by
        have := hown.usl (cap := 64) (by rw [HF.out.2]; exact h64)
        rw [HF.out.2] at this
        exact this
      have c1 := HFl.out.q.cell HC1.out
      have q1 := HQ1.out.trans HFl.out.q
      have C := dot_of (dot_gen (.slice aW k cW) (.slice (some ⟨w.heap.size + 1, 0, none⟩) k 64) (L.map Prod.snd) (pickV L S) wr (HW.out.next q1) hus (by rw [HF.out.2]; omega) (by rw [List.length_map, HF.out.2, HE.out.1]) (fun i => by
        unfold pickV
        rw [List.getD_eq_getElem?_getD, List.getElem?_map]
        cases L[i]? with
        | none => show 0 < 4294967296; decide
        | some e => exact HB.out _) (fun i hi => by
        rw [List.length_map] at hi
        rw [List.getD_eq_getElem?_getD, List.getElem?_map, List.getElem?_eq_getElem hi]
        have := HWt.out _ (List.getElem_mem hi)
        exact ⟨this.2, this.1⟩))
      have HS : Hid (overW (dotF (prods (L.map Prod.snd) (pickV L S))) = smpV L S) := rfl
      rw [HS.out] at C
      obtain ⟨R, hR⟩ : ∃ R, smpV L S = R := ⟨_, rfl⟩
      rw [hR] at C
      have HR : Hid (smpV L S = R) := hR
      clear hR
      have HQ : Hid (Q w wr) := q1
      clear hown hus q1 HFl
      go_wp2_with fail
      refine C.mono ?_
      rintro e w3 ⟨rfl, q3⟩
      clear C
      have HQ3 : Hid (Q w w3) := HQ.out.trans q3
      clear q3
      go_wp2_with fail
      go_ret
      exact ⟨by rw [HR.out]; rfl, HQ3.out⟩
end Go.Proofs.Ytcolhgngiflkhaa
/- blendOf: two rows and a box, in whatever order. -/
namespace Go.Proofs.Ytcolhgngiflkhaa
open Go.RowKit
set_option linter.unusedVariables false
set_option linter.unusedSimpArgs false

def sB2 (i j : Nat) : Sp2 := ⟨fun v val _ => v = .agg #[val i, val j], [i, j], fun h _ e => by rw [h, e i (by simp), e j (by simp)]⟩
/-- A new box for two lists. -/
def boxS (B : Nat) : Sp2 := sP (fun v x => ∃ g, v = .pointer (some ⟨g, 0, none⟩) ∧ B ≤ g ∧ g < x.heap.size ∧ x.cell? ⟨g, 0, none⟩ = some (.slice none 0 0) ∧ x.cell? ⟨g, 1, none⟩ = some (.slice none 0 0) ∧ ∀ j, x.frozen? ⟨g, j, none⟩ = false)
  (fun v x x' ⟨g, h1, h2, h3, h4, h5, h6⟩ q => ⟨g, h1, h2, by have := q.1.size; omega, q.cell h4, q.cell h5, fun j => by rw [q.2]; exact h6 j⟩)
structure Bld2 (B n g gr gb : Nat) (w x : World) : Prop where
  q : Q w x
  l1 : B ≤ g
  l2 : B ≤ gr
  l3 : B ≤ gb
  n12 : g ≠ gr
  n13 : g ≠ gb
  n23 : gr ≠ gb
  r1 : IRow x g (List.replicate n 0)
  r2 : IRow x gr (List.replicate n 0)
  b0 : x.cell? ⟨gb, 0, none⟩ = some (.slice (some ⟨g, 0, none⟩) n n)
  b1 : x.cell? ⟨gb, 1, none⟩ = some (.slice (some ⟨gr, 0, none⟩) n n)
def oBo_0 : Oper := { dst := some 22, op := .move (.tmp 9), type := 66, pos := "line.go:41", after := #[], guard := none }
def oBo_1 : Oper := { dst := some 23, op := .call { callee := .builtin .len, args := #[.tmp 22], argTypes := #[66] }, type := 3, pos := "line.go:41", after := #[⟨0, .data⟩], guard := none }
def oBo_2 : Oper := { dst := some 24, op := .makeSlice 62 (.tmp 23) (.tmp 23), type := 62, pos := "line.go:41", after := #[⟨1, .data⟩, ⟨1, .data⟩], guard := none }
def oBo_3 : Oper := { dst := some 25, op := .move (.tmp 9), type := 66, pos := "line.go:41", after := #[], guard := none }
def oBo_4 : Oper := { dst := some 26, op := .call { callee := .builtin .len, args := #[.tmp 25], argTypes := #[66] }, type := 3, pos := "line.go:41", after := #[⟨3, .data⟩], guard := none }
def oBo_5 : Oper := { dst := some 27, op := .makeSlice 62 (.tmp 26) (.tmp 26), type := 62, pos := "line.go:41", after := #[⟨4, .data⟩, ⟨4, .data⟩], guard := none }
def oBo_6 : Oper := { dst := some 28, op := .build 64 #[(0, .tmp 24), (1, .tmp 27)], type := 64, pos := "line.go:41", after := #[⟨2, .data⟩, ⟨5, .data⟩], guard := none }
def oBo_7 : Oper := { dst := some 11, op := .alloc 64, type := 0, pos := "line.go:41", after := #[], guard := none }
def oBo_8 : Oper := { dst := none, op := .store 64 (.tmp 11) (.tmp 28), type := 0, pos := "line.go:41", after := #[⟨7, .data⟩, ⟨6, .data⟩, ⟨0, .phase⟩, ⟨1, .phase⟩, ⟨2, .phase⟩, ⟨3, .phase⟩, ⟨4, .phase⟩, ⟨5, .phase⟩, ⟨6, .phase⟩, ⟨7, .phase⟩], guard := none }
def opsBo : List Oper := [oBo_0, oBo_1, oBo_2, oBo_3, oBo_4, oBo_5, oBo_6, oBo_7, oBo_8]
def sBo : List Nat := [22, 23, 24, 25, 26, 27, 28, 11]
def spBo (B : Nat) (ad : Option Addr) (n c : Nat) : List Sp2 := [sV (.slice ad n c), sV (.int .i64 (n : Int)), rowS B n, sV (.slice ad n c), sV (.int .i64 (n : Int)), rowS B n, sB2 2 5, boxS B]
structure EnvBo (a0 : Act) (w : World) (B : Nat) (ad : Option Addr) (n c : Nat) : Prop where
  h9 : a0.tmps[9]? = some (.slice ad n c)
  hn : n ≤ 1048576
  hB : B = w.heap.size
theorem yBo_0 {a0 : Act} {w : World} {B : Nat} {ad : Option Addr} {n c : Nat} (E : EnvBo a0 w B ad n c) {R : Exit → Act → World → Prop} {a : Act} {x : World} {val : Nat → Value} (q : Q w x) (oth : ∀ j, j ∉ sBo → a.tmps[j]? = a0.tmps[j]?) (dep : ∀ ed ∈ oBo_0.after, Region.binds .any ed = true → ∀ s' t', (spBo B ad n c)[ed.on]? = some s' → sBo[ed.on]? = some t' → a.tmps[t']? = some (val ed.on) ∧ s'.p (val ed.on) val x) : Yld Try.prog R oBo_0 a x 22 (fun v x' => (sV (.slice ad n c)).p v val x' ∧ (0 ∈ ([2, 5, 7] : List Nat) → x.heap.size ≤ blkV v ∧ blkV v < x'.heap.size)) := by
  exact yld_move ((oth 9 (by decide)).trans E.h9) ⟨rfl, fun h => absurd h (by decide)⟩
theorem yBo_1 {a0 : Act} {w : World} {B : Nat} {ad : Option Addr} {n c : Nat} (E : EnvBo a0 w B ad n c) {R : Exit → Act → World → Prop} {a : Act} {x : World} {val : Nat → Value} (q : Q w x) (oth : ∀ j, j ∉ sBo → a.tmps[j]? = a0.tmps[j]?) (dep : ∀ ed ∈ oBo_1.after, Region.binds .any ed = true → ∀ s' t', (spBo B ad n c)[ed.on]? = some s' → sBo[ed.on]? = some t' → a.tmps[t']? = some (val ed.on) ∧ s'.p (val ed.on) val x) : Yld Try.prog R oBo_1 a x 23 (fun v x' => (sV (.int .i64 (n : Int))).p v val x' ∧ (1 ∈ ([2, 5, 7] : List Nat) → x.heap.size ≤ blkV v ∧ blkV v < x'.heap.size)) := by
  obtain ⟨t0, f0⟩ := dep ⟨0, .data⟩ (by simp [oBo_1]) rfl _ 22 rfl rfl
  have f0 : val 0 = (.slice ad n c) := f0
  rw [f0] at t0
  exact yld_run (x' := x) rfl (by simp [oBo_1, execOp, resolve, invoke, builtin, t0, go_sem]) (Q.refl x) ⟨rfl, fun h => absurd h (by decide)⟩
theorem yBo_2 {a0 : Act} {w : World} {B : Nat} {ad : Option Addr} {n c : Nat} (E : EnvBo a0 w B ad n c) {R : Exit → Act → World → Prop} {a : Act} {x : World} {val : Nat → Value} (q : Q w x) (oth : ∀ j, j ∉ sBo → a.tmps[j]? = a0.tmps[j]?) (dep : ∀ ed ∈ oBo_2.after, Region.binds .any ed = true → ∀ s' t', (spBo B ad n c)[ed.on]? = some s' → sBo[ed.on]? = some t' → a.tmps[t']? = some (val ed.on) ∧ s'.p (val ed.on) val x) : Yld Try.prog R oBo_2 a x 24 (fun v x' => (rowS B n).p v val x' ∧ (2 ∈ ([2, 5, 7] : List Nat) → x.heap.size ≤ blkV v ∧ blkV v < x'.heap.size)) := by
  obtain ⟨t1, f1⟩ := dep ⟨1, .data⟩ (by simp [oBo_2]) rfl _ 23 rfl rfl
  have f1 : val 1 = (.int .i64 (n : Int)) := f1
  rw [f1] at t1
  obtain ⟨M, hM, hF⟩ := make_i n E.hn
  have hrun : (execOp a.eval oBo_2).run Try.prog x = .ok (.value (.slice (some ⟨x.heap.size, 0, none⟩) n n)) (x.alloc (.cells M 3)) := by
    have := tmp_eval t1
    simp [oBo_2, execOp, this, hM]
  have := q.1.size
  have := E.hB
  exact yld_run rfl hrun ((Q.refl x).cells _ _) ⟨⟨_, rfl, by omega, by simp, hF x⟩, fun _ => ⟨Nat.le_refl _, by simp [blkV]⟩⟩
theorem yBo_3 {a0 : Act} {w : World} {B : Nat} {ad : Option Addr} {n c : Nat} (E : EnvBo a0 w B ad n c) {R : Exit → Act → World → Prop} {a : Act} {x : World} {val : Nat → Value} (q : Q w x) (oth : ∀ j, j ∉ sBo → a.tmps[j]? = a0.tmps[j]?) (dep : ∀ ed ∈ oBo_3.after, Region.binds .any ed = true → ∀ s' t', (spBo B ad n c)[ed.on]? = some s' → sBo[ed.on]? = some t' → a.tmps[t']? = some (val ed.on) ∧ s'.p (val ed.on) val x) : Yld Try.prog R oBo_3 a x 25 (fun v x' => (sV (.slice ad n c)).p v val x' ∧ (3 ∈ ([2, 5, 7] : List Nat) → x.heap.size ≤ blkV v ∧ blkV v < x'.heap.size)) := by
  exact yld_move ((oth 9 (by decide)).trans E.h9) ⟨rfl, fun h => absurd h (by decide)⟩
theorem yBo_4 {a0 : Act} {w : World} {B : Nat} {ad : Option Addr} {n c : Nat} (E : EnvBo a0 w B ad n c) {R : Exit → Act → World → Prop} {a : Act} {x : World} {val : Nat → Value} (q : Q w x) (oth : ∀ j, j ∉ sBo → a.tmps[j]? = a0.tmps[j]?) (dep : ∀ ed ∈ oBo_4.after, Region.binds .any ed = true → ∀ s' t', (spBo B ad n c)[ed.on]? = some s' → sBo[ed.on]? = some t' → a.tmps[t']? = some (val ed.on) ∧ s'.p (val ed.on) val x) : Yld Try.prog R oBo_4 a x 26 (fun v x' => (sV (.int .i64 (n : Int))).p v val x' ∧ (4 ∈ ([2, 5, 7] : List Nat) → x.heap.size ≤ blkV v ∧ blkV v < x'.heap.size)) := by
  obtain ⟨t3, f3⟩ := dep ⟨3, .data⟩ (by simp [oBo_4]) rfl _ 25 rfl rfl
  have f3 : val 3 = (.slice ad n c) := f3
  rw [f3] at t3
  exact yld_run (x' := x) rfl (by simp [oBo_4, execOp, resolve, invoke, builtin, t3, go_sem]) (Q.refl x) ⟨rfl, fun h => absurd h (by decide)⟩
theorem yBo_5 {a0 : Act} {w : World} {B : Nat} {ad : Option Addr} {n c : Nat} (E : EnvBo a0 w B ad n c) {R : Exit → Act → World → Prop} {a : Act} {x : World} {val : Nat → Value} (q : Q w x) (oth : ∀ j, j ∉ sBo → a.tmps[j]? = a0.tmps[j]?) (dep : ∀ ed ∈ oBo_5.after, Region.binds .any ed = true → ∀ s' t', (spBo B ad n c)[ed.on]? = some s' → sBo[ed.on]? = some t' → a.tmps[t']? = some (val ed.on) ∧ s'.p (val ed.on) val x) : Yld Try.prog R oBo_5 a x 27 (fun v x' => (rowS B n).p v val x' ∧ (5 ∈ ([2, 5, 7] : List Nat) → x.heap.size ≤ blkV v ∧ blkV v < x'.heap.size)) := by
  obtain ⟨t4, f4⟩ := dep ⟨4, .data⟩ (by simp [oBo_5]) rfl _ 26 rfl rfl
  have f4 : val 4 = (.int .i64 (n : Int)) := f4
  rw [f4] at t4
  obtain ⟨M, hM, hF⟩ := make_i n E.hn
  have hrun : (execOp a.eval oBo_5).run Try.prog x = .ok (.value (.slice (some ⟨x.heap.size, 0, none⟩) n n)) (x.alloc (.cells M 3)) := by
    have := tmp_eval t4
    simp [oBo_5, execOp, this, hM]
  have := q.1.size
  have := E.hB
  exact yld_run rfl hrun ((Q.refl x).cells _ _) ⟨⟨_, rfl, by omega, by simp, hF x⟩, fun _ => ⟨Nat.le_refl _, by simp [blkV]⟩⟩
theorem yBo_6 {a0 : Act} {w : World} {B : Nat} {ad : Option Addr} {n c : Nat} (E : EnvBo a0 w B ad n c) {R : Exit → Act → World → Prop} {a : Act} {x : World} {val : Nat → Value} (q : Q w x) (oth : ∀ j, j ∉ sBo → a.tmps[j]? = a0.tmps[j]?) (dep : ∀ ed ∈ oBo_6.after, Region.binds .any ed = true → ∀ s' t', (spBo B ad n c)[ed.on]? = some s' → sBo[ed.on]? = some t' → a.tmps[t']? = some (val ed.on) ∧ s'.p (val ed.on) val x) : Yld Try.prog R oBo_6 a x 28 (fun v x' => (sB2 2 5).p v val x' ∧ (6 ∈ ([2, 5, 7] : List Nat) → x.heap.size ≤ blkV v ∧ blkV v < x'.heap.size)) := by
  obtain ⟨t2, f2⟩ := dep ⟨2, .data⟩ (by simp [oBo_6]) rfl _ 24 rfl rfl
  obtain ⟨t5, f5⟩ := dep ⟨5, .data⟩ (by simp [oBo_6]) rfl _ 27 rfl rfl
  obtain ⟨g, e2, _⟩ := f2
  obtain ⟨gr, e5, _⟩ := f5
  have t2' := t2
  have t5' := t5
  rw [e2] at t2'
  rw [e5] at t5'
  exact yld_run (x' := x) (v := .agg #[val 2, val 5]) rfl (by rw [e2, e5]; simp [oBo_6, execOp, t2', t5', go_sem]) (Q.refl x) ⟨rfl, fun h => absurd h (by decide)⟩
theorem yBo_7 {a0 : Act} {w : World} {B : Nat} {ad : Option Addr} {n c : Nat} (E : EnvBo a0 w B ad n c) {R : Exit → Act → World → Prop} {a : Act} {x : World} {val : Nat → Value} (q : Q w x) (oth : ∀ j, j ∉ sBo → a.tmps[j]? = a0.tmps[j]?) (dep : ∀ ed ∈ oBo_7.after, Region.binds .any ed = true → ∀ s' t', (spBo B ad n c)[ed.on]? = some s' → sBo[ed.on]? = some t' → a.tmps[t']? = some (val ed.on) ∧ s'.p (val ed.on) val x) : Yld Try.prog R oBo_7 a x 11 (fun v x' => (boxS B).p v val x' ∧ (7 ∈ ([2, 5, 7] : List Nat) → x.heap.size ≤ blkV v ∧ blkV v < x'.heap.size)) := by
  have := q.1.size
  have := E.hB
  exact yld_run (x' := x.alloc (.cells #[.slice none 0 0, .slice none 0 0] 64)) rfl (by simp [oBo_7, execOp, go_sem]) ((Q.refl x).cells _ _) ⟨⟨x.heap.size, rfl, by omega, by simp, by simp [go_sem], by simp [go_sem], fun j => by simp [go_sem]⟩, fun _ => ⟨Nat.le_refl _, by simp [blkV]⟩⟩
theorem hopBo {a0 : Act} {w : World} {B : Nat} {ad : Option Addr} {n c : Nat} (E : EnvBo a0 w B ad n c) {R : Exit → Act → World → Prop} : ∀ (i t : Nat) (o : Oper) (sp : Sp2) (a : Act) (x : World) (val : Nat → Value), sBo[i]? = some t → opsBo[i]? = some o → (spBo B ad n c)[i]? = some sp → Q w x → (∀ j, j ∉ sBo → a.tmps[j]? = a0.tmps[j]?) → (∀ ed ∈ o.after, Region.binds .any ed = true → ∀ s' t', (spBo B ad n c)[ed.on]? = some s' → sBo[ed.on]? = some t' → a.tmps[t']? = some (val ed.on) ∧ s'.p (val ed.on) val x) → Yld Try.prog R o a x t (fun v x' => sp.p v val x' ∧ (i ∈ ([2, 5, 7] : List Nat) → x.heap.size ≤ blkV v ∧ blkV v < x'.heap.size))
  | 0, t, o, sp, a, x, val, ht, ho, hs, q, oth, dep => by
    have e1 : oBo_0 = o := Option.some.inj ho
    have e2 : 22 = t := Option.some.inj ht
    have e3 := Option.some.inj hs
    subst e1 e2 e3
    exact yBo_0 E q oth dep
  | 1, t, o, sp, a, x, val, ht, ho, hs, q, oth, dep => by
    have e1 : oBo_1 = o := Option.some.inj ho
    have e2 : 23 = t := Option.some.inj ht
    have e3 := Option.some.inj hs
    subst e1 e2 e3
    exact yBo_1 E q oth dep
  | 2, t, o, sp, a, x, val, ht, ho, hs, q, oth, dep => by
    have e1 : oBo_2 = o := Option.some.inj ho
    have e2 : 24 = t := Option.some.inj ht
    have e3 := Option.some.inj hs
    subst e1 e2 e3
    exact yBo_2 E q oth dep
  | 3, t, o, sp, a, x, val, ht, ho, hs, q, oth, dep => by
    have e1 : oBo_3 = o := Option.some.inj ho
    have e2 : 25 = t := Option.some.inj ht
    have e3 := Option.some.inj hs
    subst e1 e2 e3
    exact yBo_3 E q oth dep
  | 4, t, o, sp, a, x, val, ht, ho, hs, q, oth, dep => by
    have e1 : oBo_4 = o := Option.some.inj ho
    have e2 : 26 = t := Option.some.inj ht
    have e3 := Option.some.inj hs
    subst e1 e2 e3
    exact yBo_4 E q oth dep
  | 5, t, o, sp, a, x, val, ht, ho, hs, q, oth, dep => by
    have e1 : oBo_5 = o := Option.some.inj ho
    have e2 : 27 = t := Option.some.inj ht
    have e3 := Option.some.inj hs
    subst e1 e2 e3
    exact yBo_5 E q oth dep
  | 6, t, o, sp, a, x, val, ht, ho, hs, q, oth, dep => by
    have e1 : oBo_6 = o := Option.some.inj ho
    have e2 : 28 = t := Option.some.inj ht
    have e3 := Option.some.inj hs
    subst e1 e2 e3
    exact yBo_6 E q oth dep
  | 7, t, o, sp, a, x, val, ht, ho, hs, q, oth, dep => by
    have e1 : oBo_7 = o := Option.some.inj ho
    have e2 : 11 = t := Option.some.inj ht
    have e3 := Option.some.inj hs
    subst e1 e2 e3
    exact yBo_7 E q oth dep
  | i + 8, t, o, sp, a, x, val, ht, ho, hs, q, oth, dep => by cases ht
set_option maxHeartbeats 1000000 in
theorem regionBo {id : Nat} {l : List Oper} {R : Exit → Act → World → Prop} {a0 : Act} {w : World} {B : Nat} {ad : Option Addr} {n c : Nat} (hl : l = opsBo) (hsz : a0.tmps.size = 50) (E : EnvBo a0 w B ad n c)
    (hR : ∀ x g gr gb, Bld2 B n g gr gb w x → R .normal (putAll a0 [(22, .slice ad n c), (23, .int .i64 (n : Int)), (24, .slice (some ⟨g, 0, none⟩) n n), (25, .slice ad n c), (26, .int .i64 (n : Int)), (27, .slice (some ⟨gr, 0, none⟩) n n), (28, .agg #[.slice (some ⟨g, 0, none⟩) n n, .slice (some ⟨gr, 0, none⟩) n n]), (11, .pointer (some ⟨gb, 0, none⟩))]) x) :
    (Code.region id l.toArray true).wp Try.prog R a0 w := by
  subst hl
  refine wp_region_newP 8 sBo (spBo B ad n c) [[], [], [], [], [], [], [2, 5], []] [2, 5, 7] (by kernel_rfl) (by decide +kernel) (by decide +kernel) rfl (by decide) (fun t ht => ?_) (hopBo E) (by decide) (fun a x val q size defers other facts apart => ?_)
  · rw [hsz]
    revert t
    decide
  · obtain ⟨t0, f0⟩ := facts 0 22 _ rfl rfl
    have f0 : val 0 = (.slice ad n c) := f0
    rw [f0] at t0
    obtain ⟨t1, f1⟩ := facts 1 23 _ rfl rfl
    have f1 : val 1 = (.int .i64 (n : Int)) := f1
    rw [f1] at t1
    obtain ⟨t2, f2⟩ := facts 2 24 _ rfl rfl
    obtain ⟨t3, f3⟩ := facts 3 25 _ rfl rfl
    have f3 : val 3 = (.slice ad n c) := f3
    rw [f3] at t3
    obtain ⟨t4, f4⟩ := facts 4 26 _ rfl rfl
    have f4 : val 4 = (.int .i64 (n : Int)) := f4
    rw [f4] at t4
    obtain ⟨t5, f5⟩ := facts 5 27 _ rfl rfl
    obtain ⟨t6, f6⟩ := facts 6 28 _ rfl rfl
    obtain ⟨t7, f7⟩ := facts 7 11 _ rfl rfl
    obtain ⟨g, e2, a1, a2, a3⟩ := f2
    obtain ⟨gr, e5, b1, b2, b3⟩ := f5
    obtain ⟨gb, e7, c1, c2, c3, c4, c5⟩ := f7
    have p25 := apart 2 5 (by simp) (by simp) (by decide)
    have p27 := apart 2 7 (by simp) (by simp) (by decide)
    have p57 := apart 5 7 (by simp) (by simp) (by decide)
    rw [e2, e5] at p25
    rw [e2, e7] at p27
    rw [e5, e7] at p57
    have f6 : val 6 = .agg #[val 2, val 5] := f6
    rw [f6, e2, e5] at t6
    rw [e2] at t2
    rw [e5] at t5
    rw [e7] at t7
    have hA := act_puts (a := a) (a0 := a0) [(22, .slice ad n c), (23, .int .i64 (n : Int)), (24, .slice (some ⟨g, 0, none⟩) n n), (25, .slice ad n c), (26, .int .i64 (n : Int)), (27, .slice (some ⟨gr, 0, none⟩) n n), (28, .agg #[.slice (some ⟨g, 0, none⟩) n n, .slice (some ⟨gr, 0, none⟩) n n]), (11, .pointer (some ⟨gb, 0, none⟩))] (show ([22, 23, 24, 25, 26, 27, 28, 11] : List Nat).Nodup by decide) size defers (fun j hj => other j (by simpa [sBo] using hj)) (fun r hr => ?_)
    · refine ⟨?_⟩
      refine post_skip (x' := (x.setCell ⟨gb, 0, none⟩ (.slice (some ⟨g, 0, none⟩) n n)).setCell ⟨gb, 1, none⟩ (.slice (some ⟨gr, 0, none⟩) n n)) rfl (by simp [oBo_8, execOp, t6, t7, go_sem, c3, c4, c5]) ?_
      show R .normal a _
      rw [hA]
      have hl : w.heap.size ≤ gb := by rw [← E.hB]; exact c1
      have k0 : (x.setCell ⟨gb, 0, none⟩ (.slice (some ⟨g, 0, none⟩) n n)).cell? ⟨gb, 1, none⟩ = some (.slice none 0 0) := (World.cell?_setCell_other _ _ _ _ (fun e => by injection e with _ e; cases e)).trans c4
      exact hR _ g gr gb ⟨(q.set hl _).set hl _, a1, b1, c1, p25, p27, p57, (a3.other (p := ⟨gb, 0, none⟩) (fun e => p27 e.symm) _).other (p := ⟨gb, 1, none⟩) (fun e => p27 e.symm) _, (b3.other (p := ⟨gb, 0, none⟩) (fun e => p57 e.symm) _).other (p := ⟨gb, 1, none⟩) (fun e => p57 e.symm) _, (World.cell?_setCell_other _ _ _ _ (fun e => by injection e with _ e; cases e)).trans (World.cell?_setCell_same _ _ _ c3), World.cell?_setCell_same _ _ _ k0⟩
    · simp only [List.mem_cons, List.not_mem_nil, or_false] at hr
      rcases hr with rfl | rfl | rfl | rfl | rfl | rfl | rfl | rfl
      · exact t0
      · exact t1
      · exact t2
      · exact t3
      · exact t4
      · exact t5
      · exact t6
      · exact t7
set_option maxRecDepth 100000 in
theorem normBo {t0 t1 t2 t3 t4 t5 t6 t7 t8 t9 t10 t11 t12 t13 t14 t15 t16 t17 t18 t19 t20 t21 t22 t23 t24 t25 t26 t27 t28 t29 t30 t31 t32 t33 t34 t35 t36 t37 t38 t39 t40 t41 t42 t43 t44 t45 t46 t47 t48 t49 v22 v23 v24 v25 v26 v27 v28 v11 : Value} {d : List Deferred} : putAll ⟨#[t0, t1, t2, t3, t4, t5, t6, t7, t8, t9, t10, t11, t12, t13, t14, t15, t16, t17, t18, t19, t20, t21, t22, t23, t24, t25, t26, t27, t28, t29, t30, t31, t32, t33, t34, t35, t36, t37, t38, t39, t40, t41, t42, t43, t44, t45, t46, t47, t48, t49], d⟩ [(22, v22), (23, v23), (24, v24), (25, v25), (26, v26), (27, v27), (28, v28), (11, v11)] = ⟨#[t0, t1, t2, t3, t4, t5, t6, t7, t8, t9, t10, v11, t12, t13, t14, t15, t16, t17, t18, t19, t20, t21, v22, v23, v24, v25, v26, v27, v28, t29, t30, t31, t32, t33, t34, t35, t36, t37, t38, t39, t40, t41, t42, t43, t44, t45, t46, t47, t48, t49], d⟩ := by
  kernel_rfl
end Go.Proofs.Ytcolhgngiflkhaa

/- Pictures that came in. -/
import Derived.Test.YtdempklpmggdoaaGa571244e
import Derived.ProofKit
import Derived.OpenShut
import Derived.ShutString
import Derived.ChangeOld
import Derived.Below
import Derived.Deep.Slices
import Derived.Deep.Strs
import Derived.Lib.SmallJoins
import Derived.Test.YtdempklpmggdoaaGf0a65996
namespace Go.Proofs.Ytdempklpmggdoaa
open Go.ChangeShapes Go.WideShapes Go.ChangeAt Go.RowKit Go.Deep
set_option linter.unusedVariables false

theorem prog_own : ownKnob Try.prog.godebug = none := by kernel_rfl
theorem prog_laid : laidOutB Try.prog = true := by kernel_rfl
theorem u32_bd {z : Int} (h : (Lit.int .u32 z).wf = true) : 0 ≤ z ∧ z < 4294967296 := by
  have h' : 0 ≤ z ∧ z ≤ 4294967295 := by simpa [Lit.wf, IntKind.min, IntKind.max, IntKind.signed, IntKind.bits] using h
  omega
theorem i64_bd {z : Int} (h : (Lit.int .i64 z).wf = true) : -9223372036854775808 ≤ z ∧ z ≤ 9223372036854775807 := by
  simpa [Lit.wf, IntKind.min, IntKind.max, IntKind.signed, IntKind.bits] using h
theorem getD_map_toNat (l : List Int) (i : Nat) : (l.map Int.toNat).getD i 0 = (l.getD i 0).toNat := by
  rw [List.getD_eq_getElem?_getD, List.getD_eq_getElem?_getD, List.getElem?_map]
  cases l[i]? <;> rfl
/-- Samples that came in. -/
theorem read_us {H : Type} {enc : TypeId × Value → H} {W : World} {base : Nat} {sp : Nat → Bool} {held : Bool} {v : Value} {fuel : Nat} {x : DataW H × List MemPlace}
    (hf : DataW.trod enc Try.prog W base sp held fuel 45 [v] = some x) :
    ∃ xs : List Nat, USl W v xs ∧ xs.length ≤ maxLen ∧ ∀ i, xs.getD i 0 < 4294967296 := by
  rcases open_ints Try.underlying45 Try.underlying27 (by kernel_rfl) hf with ⟨hcs, _⟩ | ⟨x, len, cap, zs, hcs, _, hl, hm, hz, _, hcell, hwz⟩
  · simp at hcs
    subst hcs
    exact ⟨[], Or.inr ⟨_, _, rfl, rfl⟩, Nat.zero_le _, fun i => by show 0 < _; decide⟩
  · simp at hcs
    subst hcs
    have hzl : len ≤ zs.length := by rw [hz]; split <;> omega
    have bd : ∀ i, (zs.getD i 0) ≥ 0 ∧ zs.getD i 0 < 4294967296 := by
      intro i
      rw [List.getD_eq_getElem?_getD]
      cases h : zs[i]? with
      | none => exact ⟨by decide, by decide⟩
      | some z => exact u32_bd (hwz z (List.mem_of_getElem? h))
    have hlen : ((zs.take len).map Int.toNat).length = len := by simp; omega
    refine ⟨(zs.take len).map Int.toNat, ?_, by rw [hlen]; omega, fun i => ?_⟩
    · by_cases h0 : len = 0
      · subst h0; exact Or.inr ⟨_, _, rfl, by simp⟩
      · obtain ⟨b, off, spot⟩ := x
        have hc := hcell 0 (by omega)
        have hspot : spot = none := by simpa [Addr.add] using World.cell?_spot hc
        subst hspot
        refine Or.inl ⟨b, off, cap, by rw [hlen], by rw [hlen]; exact hl, fun i hi => ?_⟩
        rw [hlen] at hi
        have hc := hcell i (by omega)
        have hadd : (⟨b, off, none⟩ : Addr).add i = ⟨b, off + i, none⟩ := by unfold Addr.add; split <;> simp_all
        rw [hadd] at hc
        rw [hc, getD_map_toNat]
        have e : (zs.take len).getD i 0 = zs.getD i 0 := by
          rw [List.getD_eq_getElem?_getD, List.getD_eq_getElem?_getD, List.getElem?_take, if_pos hi]
        rw [e]
        have := bd i
        congr 2
        omega
    · rw [getD_map_toNat]
      by_cases hi : i < len
      · have e : (zs.take len).getD i 0 = zs.getD i 0 := by
          rw [List.getD_eq_getElem?_getD, List.getD_eq_getElem?_getD, List.getElem?_take, if_pos hi]
        rw [e]; have := bd i; omega
      · have e : (zs.take len).getD i 0 = 0 := by
          rw [List.getD_eq_getElem?_getD, List.getElem?_take, if_neg hi]; rfl
        rw [e]; decide
theorem triple_cells {H : Type} {enc : TypeId × Value → H} {P : Program} {w : World} {base : Nat} {spare : Nat → Bool} {held : Bool} {e : TypeId} {f0 f1 f2 : Field} (he : P.underlying e = some (.struct #[f0, f1, f2]))
    (ce : P.cellsOf e = 3) (o0 : f0.offset = 0) (o1 : f1.offset = 1) (o2 : f2.offset = 2) (c0 : P.cellsOf f0.type = 1) (c1 : P.cellsOf f1.type = 1) (c2 : P.cellsOf f2.type = 1) {n : Nat} {b : Addr} {cs' : List Value} {y : DataW H × List MemPlace}
    (h1 : w.cells? base b 3 = some cs') (h2 : DataW.trod enc P w base spare held n e cs' = some y) :
    ∃ (v0 v1 v2 : Value) (y0 y1 y2 : DataW H × List MemPlace) (k : Nat), w.cell? b = some v0 ∧ w.cell? (b.add 1) = some v1 ∧ w.cell? (b.add 2) = some v2 ∧
      DataW.trod enc P w base spare held k f0.type [v0] = some y0 ∧ DataW.trod enc P w base spare held k f1.type [v1] = some y1 ∧ DataW.trod enc P w base spare held k f2.type [v2] = some y2 := by
  obtain ⟨_, hlen, hcell⟩ := World.cells?_some h1
  obtain ⟨xs, k, hk, hxy, _, hxl, hf⟩ := DataW.trod_struct he h2
  match xs, hxl, cs', hlen with
  | [y0, y1, y2], _, [v0, v1, v2], _ =>
    have g0 := hf 0 f0 rfl
    have g1 := hf 1 f1 rfl
    have g2 := hf 2 f2 rfl
    simp [o0, o1, o2, c0, c1, c2] at g0 g1 g2
    have e0 := hcell 0 (by omega)
    have e1 := hcell 1 (by omega)
    have e2 := hcell 2 (by omega)
    exact ⟨v0, v1, v2, y0, y1, y2, k, by simpa [Addr.add] using e0, by simpa using e1, by simpa using e2, g0, g1, g2⟩
/-- Planes that came in. -/
theorem read_pds {H : Type} {enc : TypeId × Value → H} {W : World} {base : Nat} {sp : Nat → Bool} {held : Bool} {v : Value} {fuel : Nat} {y : DataW H × List MemPlace}
    (hf : DataW.trod enc Try.prog W base sp held fuel 22 [v] = some y) :
    ∃ D : List PD, DSl W v D ∧ D.length ≤ maxLen ∧ ∀ x ∈ D, x.S.length ≤ maxLen ∧ (∀ i, x.S.getD i 0 < 4294967296) ∧ (-9223372036854775808 ≤ x.W ∧ x.W ≤ 9223372036854775807) ∧ (-9223372036854775808 ≤ x.H ∧ x.H ≤ 9223372036854775807) := by
  rcases open_slice Try.underlying22 hf with ⟨hcs, _⟩ | ⟨x, len, cap, m, n, D, Pl, hcs, _, hl, hm, hmm, _, hx⟩
  · simp at hcs
    subst hcs
    exact ⟨[], Or.inl ⟨_, _, rfl, rfl⟩, Nat.zero_le _, fun x hx => by cases hx⟩
  · simp at hcs
    subst hcs
    have hml : len ≤ m := by rw [hmm]; split <;> omega
    have ce : Try.prog.cellsOf 47 = 3 := by kernel_rfl
    have key : ∀ i, ∃ q : PD, i < len → (W.cell? (x.add (i * 3)) = some (.int .i64 q.W) ∧ W.cell? ((x.add (i * 3)).add 1) = some (.int .i64 q.H) ∧ W.cell? ((x.add (i * 3)).add 2) = some (.slice q.ad q.S.length q.cap) ∧ USl W q.sv q.S) ∧ q.S.length ≤ maxLen ∧ (∀ i, q.S.getD i 0 < 4294967296) ∧ (-9223372036854775808 ≤ q.W ∧ q.W ≤ 9223372036854775807) ∧ (-9223372036854775808 ≤ q.H ∧ q.H ≤ 9223372036854775807) := by
      intro i
      by_cases hi : i < len
      · obtain ⟨cs', h1, h2⟩ := hx i (by omega)
        rw [ce] at h1
        obtain ⟨v0, v1, v2, y0, y1, y2, k, c0, c1, c2, t0, t1, t2⟩ := triple_cells Try.underlying47 ce (by kernel_rfl) (by kernel_rfl) (by kernel_rfl) (by kernel_rfl) (by kernel_rfl) (by kernel_rfl) h1 h2
        obtain ⟨n0, e0, _, w0⟩ := DataW.trod_int Try.underlying3 t0
        obtain ⟨n1, e1, _, w1⟩ := DataW.trod_int Try.underlying3 t1
        obtain ⟨S, s1, s2, s3⟩ := read_us t2
        simp at e0 e1
        obtain ⟨a, c, hv⟩ := s1.form
        refine ⟨⟨n0, n1, a, c, S⟩, fun _ => ⟨⟨by rw [c0, e0], by rw [c1, e1], by rw [c2, hv], ?_⟩, s2, s3, i64_bd w0, i64_bd w1⟩⟩
        show USl W (.slice a S.length c) S
        rw [← hv]; exact s1
      · exact ⟨pd0, fun h => absurd h hi⟩
    obtain ⟨f, hf'⟩ : ∃ f : Nat → PD, ∀ i, i < len → (W.cell? (x.add (i * 3)) = some (.int .i64 (f i).W) ∧ W.cell? ((x.add (i * 3)).add 1) = some (.int .i64 (f i).H) ∧ W.cell? ((x.add (i * 3)).add 2) = some (.slice (f i).ad (f i).S.length (f i).cap) ∧ USl W (f i).sv (f i).S) ∧ (f i).S.length ≤ maxLen ∧ (∀ j, (f i).S.getD j 0 < 4294967296) ∧ (-9223372036854775808 ≤ (f i).W ∧ (f i).W ≤ 9223372036854775807) ∧ (-9223372036854775808 ≤ (f i).H ∧ (f i).H ≤ 9223372036854775807) := ⟨fun i => Classical.choose (key i), fun i => Classical.choose_spec (key i)⟩
    have hlen : ((List.range len).map f).length = len := by simp
    have hget : ∀ (i : Nat) (q : PD), ((List.range len).map f)[i]? = some q → i < len ∧ f i = q := fun i q hq => by
      have hil : i < len := by have := (List.getElem?_eq_some_iff.1 hq).1; rw [hlen] at this; exact this
      rw [List.getElem?_map, List.getElem?_range hil] at hq
      exact ⟨hil, Option.some.inj hq⟩
    refine ⟨(List.range len).map f, ?_, by rw [hlen]; omega, fun q hq => ?_⟩
    · by_cases h0 : len = 0
      · subst h0; exact Or.inl ⟨_, _, rfl, by simp⟩
      · obtain ⟨b, off, spot⟩ := x
        have hc := (hf' 0 (by omega)).1.1
        have hspot : spot = none := by simpa [Addr.add] using World.cell?_spot hc
        subst hspot
        refine Or.inr ⟨b, off, cap, by rw [hlen], by rw [hlen]; exact hl, fun i q hq => ?_⟩
        obtain ⟨hil, rfl⟩ := hget i q hq
        obtain ⟨⟨c0, c1, c2, cu⟩, _⟩ := hf' i hil
        have hadd : ∀ o j, (⟨b, o, none⟩ : Addr).add j = ⟨b, o + j, none⟩ := by intro o j; unfold Addr.add; split <;> simp_all
        rw [hadd] at c0
        rw [hadd, hadd] at c1 c2
        exact ⟨c0, c1, c2, cu⟩
    · obtain ⟨i, hi⟩ := List.getElem?_of_mem hq
      obtain ⟨hil, rfl⟩ := hget i q hi
      exact (hf' i hil).2
set_option maxRecDepth 100000 in
/-- A picture that came in. -/
theorem read_pic {H : Type} {enc : TypeId × Value → H} {W : World} {base b0 : Nat} {r : Reach} {sp : Nat → Bool} {held : Bool} {v : Value} {d : DataW H} {p : List MemPlace}
    (hv : Value.okWide Try.prog W r b0 24 v) (h : DataW.Trod enc Try.prog W base sp held 24 v d p) :
    ∃ (s : Int) (sv : Value) (D : List PD), v = .agg #[.int .i64 s, sv] ∧ (-9223372036854775808 ≤ s ∧ s ≤ 9223372036854775807) ∧ DSl W sv D ∧ D.length ≤ maxLen ∧ ∀ x ∈ D, x.S.length ≤ maxLen ∧ (∀ i, x.S.getD i 0 < 4294967296) ∧ (-9223372036854775808 ≤ x.W ∧ x.W ≤ 9223372036854775807) ∧ (-9223372036854775808 ≤ x.H ∧ x.H ≤ 9223372036854775807) := by
  obtain ⟨cs, rfl, hsz⟩ := okWide_struct Try.underlying24 hv
  obtain ⟨fuel, hf⟩ := h
  have hc2 : Try.prog.cellsOf 24 = 2 := by kernel_rfl
  obtain ⟨xs, k, hk, hxy, _, hxl, hfs⟩ := DataW.trod_struct Try.underlying24 hf
  rw [hc2] at hsz
  obtain ⟨l⟩ := cs
  match l, hsz, xs, hxl with
  | [c0, c1], _, [y0, y1], _ =>
    have g0 := hfs 0 _ rfl
    have g1 := hfs 1 _ rfl
    have k1 : Try.prog.cellsOf 3 = 1 := by kernel_rfl
    have k2 : Try.prog.cellsOf 22 = 1 := by kernel_rfl
    simp [Value.cells, k1, k2] at g0 g1
    obtain ⟨n0, e0, _, w0⟩ := DataW.trod_int Try.underlying3 g0
    simp at e0
    obtain ⟨D, h1, h2, h3⟩ := read_pds g1
    exact ⟨n0, c1, D, by rw [e0], i64_bd w0, h1, h2, h3⟩
end Go.Proofs.Ytdempklpmggdoaa
/- Rectangles and nine samples that came in. -/
namespace Go.Proofs.Ytdempklpmggdoaa
open Go.ChangeShapes Go.WideShapes Go.ChangeAt Go.RowKit Go.Deep
set_option linter.unusedVariables false

set_option maxRecDepth 100000 in
theorem read_rect {H : Type} {enc : TypeId × Value → H} {W : World} {base b0 : Nat} {r : Reach} {sp : Nat → Bool} {held : Bool} {v : Value} {d : DataW H} {p : List MemPlace}
    (hv : Value.okWide Try.prog W r b0 26 v) (h : DataW.Trod enc Try.prog W base sp held 26 v d p) :
    ∃ (x0 y0 x1 y1 : Int), v = .agg #[.int .i64 x0, .int .i64 y0, .int .i64 x1, .int .i64 y1] ∧ (-9223372036854775808 ≤ x0 ∧ x0 ≤ 9223372036854775807) ∧ (-9223372036854775808 ≤ y0 ∧ y0 ≤ 9223372036854775807) ∧ (-9223372036854775808 ≤ x1 ∧ x1 ≤ 9223372036854775807) ∧ (-9223372036854775808 ≤ y1 ∧ y1 ≤ 9223372036854775807) := by
  obtain ⟨cs, rfl, hsz⟩ := okWide_struct Try.underlying26 hv
  obtain ⟨fuel, hf⟩ := h
  have hc3 : Try.prog.cellsOf 26 = 4 := by kernel_rfl
  obtain ⟨y0, y1, y2, y3, n, _, hl, t0, t1, t2, t3⟩ := Go.Joins.trod_struct4 Try.underlying26 hf
  rw [hc3] at hsz
  obtain ⟨l⟩ := cs
  match l, hsz with
  | [c0, c1, c2, c3], _ =>
    obtain ⟨n0, e0, _, w0⟩ := DataW.trod_int Try.underlying3 t0
    obtain ⟨n1, e1, _, w1⟩ := DataW.trod_int Try.underlying3 t1
    obtain ⟨n2, e2, _, w2⟩ := DataW.trod_int Try.underlying3 t2
    obtain ⟨n3, e3, _, w3⟩ := DataW.trod_int Try.underlying3 t3
    have k1 : Try.prog.cellsOf 3 = 1 := by kernel_rfl
    rw [k1] at e0 e1 e2 e3
    simp [Value.cells] at e0 e1 e2 e3
    exact ⟨n0, n1, n2, n3, by rw [e0, e1, e2, e3], i64_bd w0, i64_bd w1, i64_bd w2, i64_bd w3⟩
theorem wide_array {P : Program} {w : World} {r : Reach} {base : Nat} {t e : TypeId} {n : Nat} {v : Value} (ht : P.underlying t = some (.array n e)) (h : Value.okWide P w r base t v) : ∃ cs, v = .agg cs ∧ cs.size = P.cellsOf t := by
  simp only [Value.okWide, ht] at h
  obtain ⟨cs, h1, h2, _⟩ := h
  exact ⟨cs, h1, h2⟩
set_option maxRecDepth 100000 in
theorem read_m9 {H : Type} {enc : TypeId × Value → H} {W : World} {base b0 : Nat} {r : Reach} {sp : Nat → Bool} {held : Bool} {v : Value} {d : DataW H} {p : List MemPlace}
    (hv : Value.okWide Try.prog W r b0 28 v) (h : DataW.Trod enc Try.prog W base sp held 28 v d p) :
    ∃ m : Nat → Nat, v = .agg #[.int .u32 ((m 0 : Nat) : Int), .int .u32 ((m 1 : Nat) : Int), .int .u32 ((m 2 : Nat) : Int), .int .u32 ((m 3 : Nat) : Int), .int .u32 ((m 4 : Nat) : Int), .int .u32 ((m 5 : Nat) : Int), .int .u32 ((m 6 : Nat) : Int), .int .u32 ((m 7 : Nat) : Int), .int .u32 ((m 8 : Nat) : Int)] ∧ ∀ i, m i < 4294967296 := by
  obtain ⟨cs, rfl, hsz⟩ := wide_array Try.underlying28 hv
  obtain ⟨fuel, hf⟩ := h
  have hc9 : Try.prog.cellsOf 28 = 9 := by kernel_rfl
  have k1 : Try.prog.cellsOf 27 = 1 := by kernel_rfl
  obtain ⟨xs, n, _, _, _, hl, ht⟩ := DataW.trod_array Try.underlying28 hf
  rw [hc9] at hsz
  obtain ⟨l⟩ := cs
  have key : ∀ i, i < 9 → ∃ z : Nat, l[i]? = some (.int .u32 (z : Int)) ∧ z < 4294967296 := by
    intro i hi
    have hli : i < l.length := by have : l.length = 9 := hsz; omega
    have hxi : i < xs.length := by omega
    have t := ht i hi
    rw [k1, Nat.mul_one, List.getElem?_eq_getElem hxi] at t
    obtain ⟨z, e, _, wz⟩ := DataW.trod_int Try.underlying27 t
    have hb := u32_bd wz
    have e' : (List.drop i l).take 1 = [.int .u32 z] := e
    refine ⟨z.toNat, ?_, by omega⟩
    have h2 : l[i]? = some (.int .u32 z) := by
      have := congrArg (fun q : List Value => q[0]?) e'
      rw [List.getElem?_take_of_lt (by decide), List.getElem?_drop, Nat.add_zero] at this
      exact this
    rw [h2]
    congr 2
    omega
  clear hv hf ht
  match l, hsz, key with
  | [c0, c1, c2, c3, c4, c5, c6, c7, c8], _, key =>
    obtain ⟨z0, e0, b0⟩ := key 0 (by decide)
    obtain ⟨z1, e1, b1⟩ := key 1 (by decide)
    obtain ⟨z2, e2, b2⟩ := key 2 (by decide)
    obtain ⟨z3, e3, b3⟩ := key 3 (by decide)
    obtain ⟨z4, e4, b4⟩ := key 4 (by decide)
    obtain ⟨z5, e5, b5⟩ := key 5 (by decide)
    obtain ⟨z6, e6, b6⟩ := key 6 (by decide)
    obtain ⟨z7, e7, b7⟩ := key 7 (by decide)
    obtain ⟨z8, e8, b8⟩ := key 8 (by decide)
    have e0 : c0 = _ := Option.some.inj e0
    have e1 : c1 = _ := Option.some.inj e1
    have e2 : c2 = _ := Option.some.inj e2
    have e3 : c3 = _ := Option.some.inj e3
    have e4 : c4 = _ := Option.some.inj e4
    have e5 : c5 = _ := Option.some.inj e5
    have e6 : c6 = _ := Option.some.inj e6
    have e7 : c7 = _ := Option.some.inj e7
    have e8 : c8 = _ := Option.some.inj e8
    refine ⟨fun i => [z0, z1, z2, z3, z4, z5, z6, z7, z8].getD i 0, by rw [e0, e1, e2, e3, e4, e5, e6, e7, e8]; rfl, fun i => ?_⟩
    match i with
    | 0 => exact b0
    | 1 => exact b1
    | 2 => exact b2
    | 3 => exact b3
    | 4 => exact b4
    | 5 => exact b5
    | 6 => exact b6
    | 7 => exact b7
    | 8 => exact b8
    | i + 9 => show (0 : Nat) < _; decide
end Go.Proofs.Ytdempklpmggdoaa
/- Appending to a list without room: what lies where, and that all the new room is there. -/
namespace Go.Proofs.Ytdempklpmggdoaa
open Go.RowKit

theorem run_app_room {P : Program} (w : World) (t ty e : TypeId) (i : TypeInfo) (z : Value) (ht : P.underlying t = some (.slice e)) (hi : P.info? e = some i) (hz : i.zero = some z) (hzs : z.cells.size = i.size)
    (v : Value) (hv : v = .slice none 0 0 ∨ ∃ b, v = .slice (some b) 0 0) (ad : Addr) (m c : Nat) (news : List Value) (hl : news.length = m * i.size) (hnews : ∀ j u, news[j]? = some u → w.cell? (ad.add j) = some u)
    (h0 : 0 < m) (h63 : m ≤ 1125899906842624) (hby : m * i.bytes ≤ 140737488355328) :
    ∃ cap w', (Builtin.append_ #[t, t] ty #[v, .slice (some ad) m c]).run P w = .ok (.slice (some ⟨w.heap.size, 0, none⟩) m cap) w' ∧ Q w w' ∧ m ≤ cap ∧ cap ≤ maxLen ∧ w'.heap.size = w.heap.size + 1 ∧
      (∀ j u, news[j]? = some u → w'.cell? ⟨w.heap.size, j, none⟩ = some u) ∧ (∀ j, j < cap * i.size → ∃ u, w'.cell? ⟨w.heap.size, j, none⟩ = some u) ∧ ∀ j, w'.frozen? ⟨w.heap.size, j, none⟩ = false := by
  have hmm : m ≤ maxLen := by unfold maxLen; omega
  have fin : ∀ (n : Nat) (cs : Array Value), (∀ (j : Nat) (u : Value), news[j]? = some u → cs[j]? = some u) → cs.size = n * i.size → Q w (w.drew.alloc (.cells cs e)) ∧ (w.drew.alloc (.cells cs e)).heap.size = w.heap.size + 1 ∧
      (∀ (j : Nat) (u : Value), news[j]? = some u → (w.drew.alloc (.cells cs e)).cell? ⟨w.heap.size, j, none⟩ = some u) ∧ (∀ j, j < n * i.size → ∃ u, (w.drew.alloc (.cells cs e)).cell? ⟨w.heap.size, j, none⟩ = some u) ∧ ∀ j, (w.drew.alloc (.cells cs e)).frozen? ⟨w.heap.size, j, none⟩ = false := by
    intro n cs hcs hs
    have hb : (w.drew.alloc (.cells cs e)).heap[w.heap.size]? = some (.cells cs e (0, 0)) := heap_alloc_new w.drew _
    refine ⟨(Q.refl w).drew.cells _ _, by simp, fun j u hu => ?_, fun j hj => ?_, fun j => frozen_of_row _ _ _ _ _ hb⟩
    · rw [cell_of_row _ _ j cs e (0, 0) hb]
      exact hcs j u hu
    · rw [cell_of_row _ _ j cs e (0, 0) hb]
      exact ⟨_, Array.getElem?_eq_getElem (by omega)⟩
  have key : ∀ (n : Nat) (j : Nat) (u : Value), news[j]? = some u → (news.toArray ++ Builtin.zeroCells z.cells n)[j]? = some u := by
    intro n j u hu
    have hj : j < news.length := (List.getElem?_eq_some_iff.1 hu).1
    rw [Array.getElem?_append_left (by simpa using hj)]
    simpa using hu
  have size : (news.toArray ++ Builtin.zeroCells z.cells (grownCap w m 0 e - m)).size = grownCap w m 0 e * i.size := by
    have := grownCap_ge w m 0 e
    rw [Array.size_append, size_zeroCells, hzs, List.size_toArray, hl, ← Nat.add_mul]
    congr 1; omega
  rcases hv with rfl | ⟨b, rfl⟩
  · have hr := run_append_nil (P := P) w t ty e i z ht hi hz ad m c news hl hnews h0 (by omega) (by omega)
    obtain ⟨q1, q2, q3, q4, q5⟩ := fin _ _ (key (grownCap w m 0 e - m)) size
    exact ⟨_, _, hr, q1, grownCap_ge w m 0 e, grownCap_le_maxLen w m 0 e hmm, q2, q3, q4, q5⟩
  · have hr := run_append_grow (P := P) w t ty e i z ht hi hz b 0 0 [] (by simp) (fun j v h => by simp at h) ad m c news hl hnews (by omega) (by omega) (growslice_fits (by omega) (by rw [Nat.zero_add]; exact hby))
    simp only [Nat.zero_add, Array.empty_append] at hr
    obtain ⟨q1, q2, q3, q4, q5⟩ := fin _ _ (key (grownCap w m 0 e - m)) size
    exact ⟨_, _, hr, q1, grownCap_ge w m 0 e, grownCap_le_maxLen w m 0 e hmm, q2, q3, q4, q5⟩
/-- In a list of operations. -/
theorem wpList_room {P : Program} (w : World) {ops : Array Oper} {rest : List Oper} {o : Oper} {a : Act} {R : Exit → Act → World → Prop} (hgd : o.guard = none) (s x : Operand) (t : TypeId)
    (ho : o.op = .call { callee := .builtin .append, args := #[s, x], argTypes := #[t, t] })
    (e : TypeId) (i : TypeInfo) (z : Value) (ht : P.underlying t = some (.slice e)) (hi : P.info? e = some i) (hz : i.zero = some z) (hzs : z.cells.size = i.size)
    (v : Value) (hv : v = .slice none 0 0 ∨ ∃ b, v = .slice (some b) 0 0) (hs : a.eval s = v) (ad : Addr) (m c : Nat) (news : List Value) (hx : a.eval x = .slice (some ad) m c) (hl : news.length = m * i.size) (hnews : ∀ j u, news[j]? = some u → w.cell? (ad.add j) = some u)
    (h0 : 0 < m) (h63 : m ≤ 1125899906842624) (hby : m * i.bytes ≤ 140737488355328)
    (h : ∀ cap w', Q w w' → m ≤ cap → cap ≤ maxLen → w'.heap.size = w.heap.size + 1 → (∀ j u, news[j]? = some u → w'.cell? ⟨w.heap.size, j, none⟩ = some u) → (∀ j, j < cap * i.size → ∃ u, w'.cell? ⟨w.heap.size, j, none⟩ = some u) → (∀ j, w'.frozen? ⟨w.heap.size, j, none⟩ = false) → wpList P ops R rest (a.put o.dst (.slice (some ⟨w.heap.size, 0, none⟩) m cap)) w') :
    wpList P ops R (o :: rest) a w := by
  obtain ⟨cap, w', hr, h1, h2, h3, h4, h5, h6, h7⟩ := run_app_room (P := P) w t o.type e i z ht hi hz hzs v hv ad m c news hl hnews h0 h63 hby
  refine wpList_plain hgd fun _ hK => ?_
  unfold Oper.wp execOp
  simp only [ho, resolve, invoke, builtin, Sem.run_bind, Sem.run_pure, Result.andThen_ok, List.map_toArray, List.map_cons, List.map_nil, hs, hx, hr]
  exact hK _ _ (h cap w' h1 h2 h3 h4 h5 h6 h7)
end Go.Proofs.Ytdempklpmggdoaa

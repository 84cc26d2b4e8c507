/- A Room lends two planes, in whatever order the boxes come up. -/
import Derived.Test.YtkgfohodahkmmaaRmF
import Derived.Test.YtkgfohodahkmmaaRegU
namespace Go.Proofs.Ytkgfohodahkmmaa
open Go.RowKit
set_option linter.unusedVariables false
set_option linter.unusedSimpArgs false

/-- A lent plane's value. -/
def lentV (W H : Int) (g n : Nat) : Value := .agg #[.int .i64 W, .int .i64 H, .slice (some ⟨g, 0, none⟩) n (n + 5)]
/-- What has been lent by now. -/
def Lnt (W H : Int) (S : List Nat) (W2 H2 : Int) (S2 : List Nat) : Option Value → Option Value → List Lend → Prop
  | none, none, L => L = []
  | some v, none, L => ∃ g hh cap, v = lentV W H g S.length ∧ L = [⟨g, hh, cap, lentL S⟩]
  | some v, some v2, L => ∃ g hh cap g2 hh2 cap2, v = lentV W H g S.length ∧ v2 = lentV W2 H2 g2 S2.length ∧ L = [⟨g, hh, cap, lentL S⟩, ⟨g2, hh2, cap2, lentL S2⟩]
  | none, some _, _ => False
/-- A box that has come up: new, apart from the Room. -/
def Bx (lo r : Nat) (sv wv : Value) (L : List Lend) (x : World) (p : Option Value) : Prop := ∀ q, p = some q → ∃ V, q = .pointer (some ⟨V, 0, none⟩) ∧ lo ≤ V ∧ V < x.heap.size ∧ ¬ Blk r sv wv L V ∧ IBox x V 0 0 (.slice none 0 0) ∧ ∀ j, x.frozen? ⟨V, j, none⟩ = false
theorem Bx.none {lo r : Nat} {sv wv : Value} {L : List Lend} {x : World} : Bx lo r sv wv L x none := fun q h => by cases h
theorem Bx.next {lo r : Nat} {sv wv : Value} {L : List Lend} {x x' : World} {p : Option Value} (h : Bx lo r sv wv L x p) (q : Q x x') : Bx lo r sv wv L x' p := fun z hz => by
  obtain ⟨V, h1, h2, h3, h4, h5, h6⟩ := h z hz
  exact ⟨V, h1, h2, Nat.lt_of_lt_of_le h3 q.1.size, h4, h5.next q, fun j => (q.2 _).trans (h6 j)⟩
theorem Bx.lend {lo r : Nat} {sv wv sv' wv' : Value} {L L' : List Lend} {x x' : World} {p : Option Value} (h : Bx lo r sv wv L x p) (f : Fr x x' (fun b => b ≠ r ∧ sv.ownBlock ≠ some b ∧ wv.ownBlock ≠ some b)) (hb : ∀ b, b < x.heap.size → Blk r sv' wv' L' b → Blk r sv wv L b) : Bx lo r sv' wv' L' x' p := fun z hz => by
  obtain ⟨V, h1, h2, h3, h4, h5, h6⟩ := h z hz
  exact ⟨V, h1, h2, Nat.lt_of_lt_of_le h3 f.size, fun hc => h4 (hb V h3 hc), h5.fr f ⟨fun e => h4 (Or.inl e), fun e => h4 (Or.inr (Or.inl e)), fun e => h4 (Or.inr (Or.inr (Or.inl e)))⟩, fun j => (f.frz _).trans (h6 j)⟩
/-- What holds while two planes are lent. -/
def J2 (w3 : World) (r lo : Nat) (W H : Int) (S : List Nat) (W2 H2 : Int) (S2 : List Nat) (o1 o2 o6 o7 : Option Value) (x : World) : Prop :=
  Q w3 x ∧ lo ≤ x.heap.size ∧ ∃ sv wv L, Rm w3.heap.size x r sv wv L ∧ Lnt W H S W2 H2 S2 o1 o2 L ∧ Bx lo r sv wv L x o6 ∧ Bx lo r sv wv L x o7 ∧ (∀ q, o6 = some q → o7 ≠ some q)
def zeroPl : Obj := .cells #[.int .i64 0, .int .i64 0, .slice none 0 0] 25
theorem J2.alloc {w3 : World} {r lo : Nat} {W H : Int} {S : List Nat} {W2 H2 : Int} {S2 : List Nat} {o1 o2 o6 o7 : Option Value} {x : World} (h : J2 w3 r lo W H S W2 H2 S2 o1 o2 o6 o7 x) :
    (o6 = none → J2 w3 r lo W H S W2 H2 S2 o1 o2 (some (.pointer (some ⟨x.heap.size, 0, none⟩))) o7 (x.alloc zeroPl)) ∧ (o7 = none → J2 w3 r lo W H S W2 H2 S2 o1 o2 o6 (some (.pointer (some ⟨x.heap.size, 0, none⟩))) (x.alloc zeroPl)) := by
  obtain ⟨q, lo', sv, wv, L, rm, ln, b6, b7, ap⟩ := h
  have qa : Q x (x.alloc zeroPl) := (Q.refl x).cells _ _
  have new : Bx lo r sv wv L (x.alloc zeroPl) (some (.pointer (some ⟨x.heap.size, 0, none⟩))) := fun z hz => by
    injection hz with hz
    refine ⟨x.heap.size, hz.symm, lo', by simp, fun hb => ?_, ?_, fun j => ?_⟩
    · have := (rm.lt hb).2; omega
    · unfold zeroPl; exact ⟨by simp [go_sem], by simp [go_sem], by simp [go_sem]⟩
    · unfold zeroPl; simp [go_sem]
  have far : ∀ (o : Option Value), Bx lo r sv wv L x o → o ≠ some (.pointer (some ⟨x.heap.size, 0, none⟩)) := fun o hb e => by
    obtain ⟨V, h1, _, h3, _⟩ := hb _ e
    injection h1 with h1
    injection h1 with h1
    injection h1 with h1
    omega
  refine ⟨fun e => ⟨q.trans qa, Nat.le_trans lo' qa.1.size, sv, wv, L, rm.next qa, ln, new, b7.next qa, fun z hz hz' => ?_⟩, fun e => ⟨q.trans qa, Nat.le_trans lo' qa.1.size, sv, wv, L, rm.next qa, ln, b6.next qa, new, fun z hz hz' => ?_⟩⟩
  · injection hz with hz
    rw [← hz] at hz'
    exact far o7 b7 hz'
  · injection hz' with hz'
    rw [← hz'] at hz
    exact far o6 b6 hz
theorem J2.call1 {w3 : World} {r lo : Nat} {W H : Int} {S : List Nat} {W2 H2 : Int} {S2 : List Nat} {o6 o7 : Option Value} {x : World} (h : J2 w3 r lo W H S W2 H2 S2 none none o6 o7 x) {v : Value} (hS : USl w3 v S) (hn : S.length ≤ 35184372087808) :
    Calls Try.prog 10 #[.pointer (some ⟨r, 0, none⟩), .agg #[.int .i64 W, .int .i64 H, v]] x fun e x' => ∃ v, e = .returned v ∧ J2 w3 r lo W H S W2 H2 S2 (some v) none o6 o7 x' := by
  obtain ⟨q, lo', sv, wv, L, rm, ln, b6, b7, ap⟩ := h
  have ln : L = [] := ln
  subst ln
  refine (room_plane w3 x q r rm (by simp) W H v S (hS.next q) hn).mono ?_
  rintro e x' ⟨g, n, hh, cap, sv', wv', rfl, rfl, q', hg, rm', fr, bl⟩
  exact ⟨_, rfl, q', Nat.le_trans lo' fr.out.size, sv', wv', _, rm'.out, ⟨g, hh, cap, rfl, rfl⟩, b6.lend fr.out bl.out, b7.lend fr.out bl.out, ap⟩
theorem J2.call2 {w3 : World} {r lo : Nat} {W H : Int} {S : List Nat} {W2 H2 : Int} {S2 : List Nat} {v1 : Value} {o6 o7 : Option Value} {x : World} (h : J2 w3 r lo W H S W2 H2 S2 (some v1) none o6 o7 x) {v : Value} (hS : USl w3 v S2) (hn : S2.length ≤ 35184372087808) :
    Calls Try.prog 10 #[.pointer (some ⟨r, 0, none⟩), .agg #[.int .i64 W2, .int .i64 H2, v]] x fun e x' => ∃ v, e = .returned v ∧ J2 w3 r lo W H S W2 H2 S2 (some v1) (some v) o6 o7 x' := by
  obtain ⟨q, lo', sv, wv, L, rm, ⟨g0, hh0, cap0, e0, rfl⟩, b6, b7, ap⟩ := h
  refine (room_plane w3 x q r rm (by simp) W2 H2 v S2 (hS.next q) hn).mono ?_
  rintro e x' ⟨g, n, hh, cap, sv', wv', rfl, rfl, q', hg, rm', fr, bl⟩
  exact ⟨_, rfl, q', Nat.le_trans lo' fr.out.size, sv', wv', _, rm'.out, ⟨g0, hh0, cap0, g, hh, cap, e0, rfl, rfl⟩, b6.lend fr.out bl.out, b7.lend fr.out bl.out, ap⟩
/-- Behind both stores. -/
theorem J2.done {w3 : World} {r lo : Nat} {W H : Int} {S : List Nat} {W2 H2 : Int} {S2 : List Nat} {v1 v2 p6 p7 : Value} {x : World} (h : J2 w3 r lo W H S W2 H2 S2 (some v1) (some v2) (some p6) (some p7) x) (hlo : w3.heap.size ≤ lo) :
    ∃ g hh cap g2 hh2 cap2 sv wv V6 V7, v1 = lentV W H g S.length ∧ v2 = lentV W2 H2 g2 S2.length ∧ p6 = .pointer (some ⟨V6, 0, none⟩) ∧ p7 = .pointer (some ⟨V7, 0, none⟩) ∧ V6 ≠ V7 ∧ lo ≤ V6 ∧ lo ≤ V7 ∧ IBox x V6 0 0 (.slice none 0 0) ∧ IBox x V7 0 0 (.slice none 0 0) ∧ (∀ j, x.frozen? ⟨V6, j, none⟩ = false) ∧ (∀ j, x.frozen? ⟨V7, j, none⟩ = false) ∧
      ∀ x', (∃ a1 a2 a3 b1 b2 b3, x' = (((((x.setCell ⟨V6, 0, none⟩ a1).setCell ⟨V6, 1, none⟩ a2).setCell ⟨V6, 2, none⟩ a3).setCell ⟨V7, 0, none⟩ b1).setCell ⟨V7, 1, none⟩ b2).setCell ⟨V7, 2, none⟩ b3) → Q w3 x' ∧ Rm w3.heap.size x' r sv wv [⟨g, hh, cap, lentL S⟩, ⟨g2, hh2, cap2, lentL S2⟩] := by
  obtain ⟨q, lo', sv, wv, L, rm, ⟨g, hh, cap, g2, hh2, cap2, e1, e2, rfl⟩, b6, b7, ap⟩ := h
  obtain ⟨V6, s1, s2, s3, s4, s5, s6⟩ := b6 _ rfl
  obtain ⟨V7, t1, t2, t3, t4, t5, t6⟩ := b7 _ rfl
  refine ⟨g, hh, cap, g2, hh2, cap2, sv, wv, V6, V7, e1, e2, s1, t1, fun e => ap _ rfl (by rw [s1, t1, e]), s2, t2, s5, t5, s6, t6, ?_⟩
  rintro x' ⟨a1, a2, a3, b1, b2, b3, rfl⟩
  have f : Fr x (((((((x.setCell ⟨V6, 0, none⟩ a1).setCell ⟨V6, 1, none⟩ a2).setCell ⟨V6, 2, none⟩ a3).setCell ⟨V7, 0, none⟩ b1).setCell ⟨V7, 1, none⟩ b2).setCell ⟨V7, 2, none⟩ b3)) (fun b => b ≠ V6 ∧ b ≠ V7) :=
    (((((((Fr.refl x _).set (fun h => h.1 rfl) a1).set (fun h => h.1 rfl) a2).set (fun h => h.1 rfl) a3).set (fun h => h.2 rfl) b1).set (fun h => h.2 rfl) b2).set (fun h => h.2 rfl) b3)
  exact ⟨f.q q (fun b hb => ⟨by omega, by omega⟩), rm.keep f (fun b hb => ⟨fun e => s4 (by rw [← e]; exact hb), fun e => t4 (by rw [← e]; exact hb)⟩)⟩
/-- Laying a plane into a box. -/
theorem store_box (a : Act) (x : World) (V b c : Nat) (W H : Int) (sa : Option Addr) (sn sc : Nat) {u0 u1 u2 : Value} (hb : a.tmps[b]? = some (.pointer (some ⟨V, 0, none⟩))) (hc : a.tmps[c]? = some (.agg #[.int .i64 W, .int .i64 H, .slice sa sn sc])) (c0 : x.cell? ⟨V, 0, none⟩ = some u0) (c1 : x.cell? ⟨V, 1, none⟩ = some u1) (c2 : x.cell? ⟨V, 2, none⟩ = some u2) (hf : ∀ j, x.frozen? ⟨V, j, none⟩ = false)
    (ps : String) (af : Array Edge) (K : Act → World → Prop) (R : Exit → Act → World → Prop) (h : K a (((x.setCell ⟨V, 0, none⟩ (.int .i64 W)).setCell ⟨V, 1, none⟩ (.int .i64 H)).setCell ⟨V, 2, none⟩ (.slice sa sn sc))) :
    Oper.wp Try.prog { dst := none, op := .store 25 (.tmp b) (.tmp c), type := 0, pos := ps, after := af, guard := none } a x K R := by
  have eb := eval_tmp hb
  have ec := eval_tmp hc
  have hrun : (execOp a.eval { dst := none, op := .store 25 (.tmp b) (.tmp c), type := 0, pos := ps, after := af, guard := none }).run Try.prog x = .ok .skip (((x.setCell ⟨V, 0, none⟩ (.int .i64 W)).setCell ⟨V, 1, none⟩ (.int .i64 H)).setCell ⟨V, 2, none⟩ (.slice sa sn sc)) := by
    simp [execOp, hb, hc, go_sem, c0, c1, c2, hf]
  unfold Oper.wp
  rw [hrun, Oper.upon_skip]
  exact h
end Go.Proofs.Ytkgfohodahkmmaa

/- Two calls whose answers are laid into two new boxes, in whatever order. -/
import Derived.Test.YtkgfohodahkmmaaRegT
namespace Go.Proofs.Ytkgfohodahkmmaa
open Go.RowKit
set_option linter.unusedVariables false
set_option linter.unusedSimpArgs false
set_option maxHeartbeats 4000000

/-- What is not to be laid open. -/
structure Shut (p : Prop) : Prop where
  out : p
/-- x, y := f(u, p), f(u, q): the operations. -/
def two (pos : String) (sr sp sq m0 l1 c2 m3 l4 c5 b6 b7 f tr tp : Nat) : List Oper := [
  { dst := some m0, op := .move (.tmp sr), type := tr, pos := pos, after := #[], guard := none },
  { dst := some l1, op := .load tp (.tmp sp), type := tp, pos := pos, after := #[], guard := none },
  { dst := some c2, op := .call { callee := .value (.func f), args := #[.tmp m0, .tmp l1], argTypes := #[tr, tp] }, type := tp, pos := pos, after := #[⟨0, .data⟩, ⟨1, .data⟩], guard := none },
  { dst := some m3, op := .move (.tmp sr), type := tr, pos := pos, after := #[], guard := none },
  { dst := some l4, op := .load tp (.tmp sq), type := tp, pos := pos, after := #[], guard := none },
  { dst := some c5, op := .call { callee := .value (.func f), args := #[.tmp m3, .tmp l4], argTypes := #[tr, tp] }, type := tp, pos := pos, after := #[⟨3, .data⟩, ⟨4, .data⟩, ⟨2, .chain⟩], guard := none },
  { dst := some b6, op := .alloc tp, type := 0, pos := pos, after := #[], guard := none },
  { dst := some b7, op := .alloc tp, type := 0, pos := pos, after := #[], guard := none },
  { dst := none, op := .store tp (.tmp b6) (.tmp c2), type := 0, pos := pos, after := #[⟨6, .data⟩, ⟨2, .data⟩, ⟨5, .chain⟩, ⟨0, .phase⟩, ⟨1, .phase⟩, ⟨2, .phase⟩, ⟨3, .textOnly .lateStores⟩, ⟨4, .textOnly .lateStores⟩, ⟨5, .textOnly .lateStoresUnsure⟩, ⟨6, .phase⟩, ⟨7, .phase⟩], guard := none },
  { dst := none, op := .store tp (.tmp b7) (.tmp c5), type := 0, pos := pos, after := #[⟨7, .data⟩, ⟨5, .data⟩, ⟨8, .chain⟩, ⟨0, .phase⟩, ⟨1, .phase⟩, ⟨2, .phase⟩, ⟨3, .phase⟩, ⟨4, .phase⟩, ⟨5, .phase⟩, ⟨6, .phase⟩, ⟨7, .phase⟩, ⟨8, .phase⟩], guard := none }]
theorem ten {i : Nat} (h : i < 10) : i = 0 ∨ i = 1 ∨ i = 2 ∨ i = 3 ∨ i = 4 ∨ i = 5 ∨ i = 6 ∨ i = 7 ∨ i = 8 ∨ i = 9 := by omega
theorem eight {i : Nat} (h : i < 9) (h8 : i ≠ 8) : i = 0 ∨ i = 1 ∨ i = 2 ∨ i = 3 ∨ i = 4 ∨ i = 5 ∨ i = 6 ∨ i = 7 := by omega
theorem nine {i : Nat} (h : i < 10) (h2 : 9 ≤ i) : i = 9 := by omega
theorem less {i : Nat} (h : i < 10) (h2 : i ≠ 9) : i < 9 := by omega
/-- What an operation that has come up has told. -/
def rd (lst : Array Bool) (a : Act) (i s : Nat) : Option Value := if lst.getD i false = true then a.tmps[s]? else none
theorem rd_ne {lst : Array Bool} {a : Act} {i s k t : Nat} {v : Value} (h1 : i ≠ k) (h2 : s ≠ t) : rd (lst.setIfInBounds i true) (a.put (some s) v) k t = rd lst a k t := by
  unfold rd
  rw [Array.getD_eq_getD_getElem?, Array.getD_eq_getD_getElem?, Array.getElem?_setIfInBounds_ne h1]
  show (if _ then (a.tmps.setIfInBounds s v)[t]? else none) = _
  rw [Array.getElem?_setIfInBounds_ne h2]
theorem rd_eq {lst : Array Bool} {a : Act} {i s : Nat} {v : Value} (h1 : i < lst.size) (h2 : s < a.tmps.size) : rd (lst.setIfInBounds i true) (a.put (some s) v) i s = some v := by
  unfold rd
  rw [Array.getD_eq_getD_getElem?, Array.getElem?_setIfInBounds_self_of_lt h1]
  show (if _ then (a.tmps.setIfInBounds s v)[s]? else none) = _
  rw [Array.getElem?_setIfInBounds_self_of_lt h2]
  rfl
theorem rd_no {lst : Array Bool} {a : Act} {i s : Nat} (h : lst.getD i true = false) : rd lst a i s = none := by
  unfold rd
  rw [if_neg]
  intro e
  rw [Array.getD_eq_getD_getElem?] at e h
  cases g : lst[i]? with
  | none => rw [g] at h; cases h
  | some b => rw [g] at e h; cases b; cases e; cases h
theorem rd_yes {lst : Array Bool} {a : Act} {i s : Nat} (h : lst.getD i false = true) (h2 : s < a.tmps.size) : ∃ v, rd lst a i s = some v ∧ a.tmps[s]? = some v := by
  refine ⟨a.tmps[s], ?_, Array.getElem?_eq_getElem h2⟩
  unfold rd
  rw [if_pos h, Array.getElem?_eq_getElem h2]
theorem got {lst : Array Bool} {i : Nat} (h : lst.getD i true = true) (hi : i < lst.size) : lst.getD i false = true := by
  rw [Array.getD_eq_getD_getElem?, Array.getElem?_eq_getElem hi] at h ⊢
  exact h
theorem put_get {a : Act} {s j : Nat} {v : Value} (h : s ≠ j) : (a.put (some s) v).tmps[j]? = a.tmps[j]? := Array.getElem?_setIfInBounds_ne h
theorem put_self {a : Act} {s : Nat} {v : Value} (h : s < a.tmps.size) : (a.put (some s) v).tmps[s]? = some v := Array.getElem?_setIfInBounds_self_of_lt h
theorem put_defers (a : Act) (s : Nat) (v : Value) : (a.put (some s) v).defers = a.defers := rfl
theorem put_size (a : Act) (s : Nat) (v : Value) : (a.put (some s) v).tmps.size = a.tmps.size := Array.size_setIfInBounds
theorem eval_tmp {a : Act} {s : Nat} {v : Value} (h : a.tmps[s]? = some v) : a.eval (.tmp s) = v := by
  show a.tmps.getD s undef = v
  rw [Array.getD_eq_getD_getElem?, h]; rfl
theorem lst_ne {lst : Array Bool} {i k : Nat} {d : Bool} (h : i ≠ k) : (lst.setIfInBounds i true).getD k d = lst.getD k d := by
  rw [Array.getD_eq_getD_getElem?, Array.getD_eq_getD_getElem?, Array.getElem?_setIfInBounds_ne h]
theorem lst_eq {lst : Array Bool} {i : Nat} {d : Bool} (h : i < lst.size) : (lst.setIfInBounds i true).getD i d = true := by
  rw [Array.getD_eq_getD_getElem?, Array.getElem?_setIfInBounds_self_of_lt h]; rfl
/-- What holds while the calls and the boxes come up. -/
structure TSt (J : Option Value → Option Value → Option Value → Option Value → World → Prop) (ur vp vq : Value) (r0 r1 r2 r3 r4 r5 r6 r7 : Option Value) (x : World) : Prop where
  e0 : ∀ v, r0 = some v → v = ur
  e1 : ∀ v, r1 = some v → v = vp
  e3 : ∀ v, r3 = some v → v = ur
  e4 : ∀ v, r4 = some v → v = vq
  d2 : r2 ≠ none → r0 ≠ none ∧ r1 ≠ none
  d5 : r5 ≠ none → r2 ≠ none ∧ r3 ≠ none ∧ r4 ≠ none
  j : J r2 r5 r6 r7 x
structure TIn (J : Option Value → Option Value → Option Value → Option Value → World → Prop) (a0 : Act) (ur vp vq : Value) (m0 l1 c2 m3 l4 c5 b6 b7 : Nat) (lst : Array Bool) (a : Act) (x : World) : Prop where
  size : a.tmps.size = a0.tmps.size
  defers : a.defers = a0.defers
  other : ∀ j, m0 ≠ j → l1 ≠ j → c2 ≠ j → m3 ≠ j → l4 ≠ j → c5 ≠ j → b6 ≠ j → b7 ≠ j → a.tmps[j]? = a0.tmps[j]?
  ls : lst.size = 10
  n8 : lst.getD 8 true = false
  n9 : lst.getD 9 true = false
  st : TSt J ur vp vq (rd lst a 0 m0) (rd lst a 1 l1) (rd lst a 2 c2) (rd lst a 3 m3) (rd lst a 4 l4) (rd lst a 5 c5) (rd lst a 6 b6) (rd lst a 7 b7) x
def twoEnd (a0 : Act) (ur vp vq v1 v2 p6 p7 : Value) (m0 l1 c2 m3 l4 c5 b6 b7 : Nat) : Act := (((((((a0.put (some m0) ur).put (some l1) vp).put (some c2) v1).put (some m3) ur).put (some l4) vq).put (some c5) v2).put (some b6) p6).put (some b7) p7
theorem two_final {a a0 : Act} {ur vp vq y2 y5 y6 y7 : Value} {m0 l1 c2 m3 l4 c5 b6 b7 : Nat} (size : a.tmps.size = a0.tmps.size) (defers : a.defers = a0.defers) (other : ∀ j, m0 ≠ j → l1 ≠ j → c2 ≠ j → m3 ≠ j → l4 ≠ j → c5 ≠ j → b6 ≠ j → b7 ≠ j → a.tmps[j]? = a0.tmps[j]?)
    (yt0 : a.tmps[m0]? = some ur) (yt1 : a.tmps[l1]? = some vp) (yt2 : a.tmps[c2]? = some y2) (yt3 : a.tmps[m3]? = some ur) (yt4 : a.tmps[l4]? = some vq) (yt5 : a.tmps[c5]? = some y5) (yt6 : a.tmps[b6]? = some y6) (yt7 : a.tmps[b7]? = some y7)
    (z0 : m0 < a0.tmps.size) (z1 : l1 < a0.tmps.size) (z2 : c2 < a0.tmps.size) (z3 : m3 < a0.tmps.size) (z4 : l4 < a0.tmps.size) (z5 : c5 < a0.tmps.size) (z6 : b6 < a0.tmps.size) (z7 : b7 < a0.tmps.size) :
    a = twoEnd a0 ur vp vq y2 y5 y6 y7 m0 l1 c2 m3 l4 c5 b6 b7 := by
  have ht : a.tmps = (twoEnd a0 ur vp vq y2 y5 y6 y7 m0 l1 c2 m3 l4 c5 b6 b7).tmps := by
    apply Array.ext_getElem?
    intro j
    unfold twoEnd
    by_cases q7 : b7 = j
    · subst q7; rw [yt7]; rw [put_self (by simp only [put_size]; assumption)]
    · rw [put_get q7]
      by_cases q6 : b6 = j
      · subst q6; rw [yt6]; rw [put_self (by simp only [put_size]; assumption)]
      · rw [put_get q6]
        by_cases q5 : c5 = j
        · subst q5; rw [yt5]; rw [put_self (by simp only [put_size]; assumption)]
        · rw [put_get q5]
          by_cases q4 : l4 = j
          · subst q4; rw [yt4]; rw [put_self (by simp only [put_size]; assumption)]
          · rw [put_get q4]
            by_cases q3 : m3 = j
            · subst q3; rw [yt3]; rw [put_self (by simp only [put_size]; assumption)]
            · rw [put_get q3]
              by_cases q2 : c2 = j
              · subst q2; rw [yt2]; rw [put_self (by simp only [put_size]; assumption)]
              · rw [put_get q2]
                by_cases q1 : l1 = j
                · subst q1; rw [yt1]; rw [put_self (by simp only [put_size]; assumption)]
                · rw [put_get q1]
                  by_cases q0 : m0 = j
                  · subst q0; rw [yt0]; rw [put_self z0]
                  · rw [put_get q0]
                    exact other j q0 q1 q2 q3 q4 q5 q6 q7
  have hf : a.defers = (twoEnd a0 ur vp vq y2 y5 y6 y7 m0 l1 c2 m3 l4 c5 b6 b7).defers := by unfold twoEnd; simp only [put_defers]; exact defers
  cases a
  simp only at ht hf
  rw [ht, hf]
set_option maxHeartbeats 4000000 in
theorem wp_two {P : Program} {id : Nat} {R : Exit → Act → World → Prop} {a0 : Act} {w : World} (J : Option Value → Option Value → Option Value → Option Value → World → Prop)
    (pos : String) (sr sp sq m0 l1 c2 m3 l4 c5 b6 b7 f tr tp : Nat) (ur vp vq pp pq : Value) (Z : Obj)
    (hm : P.follows .mixedOrders = true) (hd : [m0, l1, c2, m3, l4, c5, b6, b7].Nodup) (hmax : ∀ s ∈ [m0, l1, c2, m3, l4, c5, b6, b7], s < a0.tmps.size)
    (nr : sr ∉ [m0, l1, c2, m3, l4, c5, b6, b7]) (np : sp ∉ [m0, l1, c2, m3, l4, c5, b6, b7]) (nq : sq ∉ [m0, l1, c2, m3, l4, c5, b6, b7])
    (hr : a0.tmps[sr]? = some ur) (hp : a0.tmps[sp]? = some pp) (hq : a0.tmps[sq]? = some pq)
    (h0 : J none none none none w.drew)
    (hl1 : ∀ (ρ : Operand → Value) (t : TypeId) (ps : String) (d : Option Tmp) (af : Array Edge) o1 o2 o6 o7 x, J o1 o2 o6 o7 x → ρ (.tmp sp) = pp → (execOp ρ { dst := d, op := .load tp (.tmp sp), type := t, pos := ps, after := af, guard := none }).run P x = .ok (.value vp) x)
    (hl4 : ∀ (ρ : Operand → Value) (t : TypeId) (ps : String) (d : Option Tmp) (af : Array Edge) o1 o2 o6 o7 x, J o1 o2 o6 o7 x → ρ (.tmp sq) = pq → (execOp ρ { dst := d, op := .load tp (.tmp sq), type := t, pos := ps, after := af, guard := none }).run P x = .ok (.value vq) x)
    (hen : ∀ (args : Array Value) (x : World), (callFunc f args).run P x = .ok (.enter f args) x)
    (hc2 : ∀ o6 o7 x, J none none o6 o7 x → Calls P f #[ur, vp] x fun e x' => ∃ v, e = .returned v ∧ J (some v) none o6 o7 x')
    (hc5 : ∀ v1 o6 o7 x, J (some v1) none o6 o7 x → Calls P f #[ur, vq] x fun e x' => ∃ v, e = .returned v ∧ J (some v1) (some v) o6 o7 x')
    (hal : ∀ (ρ : Operand → Value) (t : TypeId) (ps : String) (d : Option Tmp) (af : Array Edge) (x : World), (execOp ρ { dst := d, op := .alloc tp, type := t, pos := ps, after := af, guard := none }).run P x = .ok (.value (.pointer (some ⟨x.heap.size, 0, none⟩))) (x.alloc Z))
    (ha6 : ∀ o1 o2 o7 x, J o1 o2 none o7 x → J o1 o2 (some (.pointer (some ⟨x.heap.size, 0, none⟩))) o7 (x.alloc Z))
    (ha7 : ∀ o1 o2 o6 x, J o1 o2 o6 none x → J o1 o2 o6 (some (.pointer (some ⟨x.heap.size, 0, none⟩))) (x.alloc Z))
    (hE : ∀ (a : Act) v1 v2 p6 p7 x, J (some v1) (some v2) (some p6) (some p7) x → a.tmps[b6]? = some p6 → a.tmps[c2]? = some v1 → a.tmps[b7]? = some p7 → a.tmps[c5]? = some v2 → a = twoEnd a0 ur vp vq v1 v2 p6 p7 m0 l1 c2 m3 l4 c5 b6 b7 → ∀ (af8 af9 : Array Edge), Shut (Oper.wp P { dst := none, op := .store tp (.tmp b6) (.tmp c2), type := 0, pos := pos, after := af8, guard := none } a x
      (fun a' x' => Oper.wp P { dst := none, op := .store tp (.tmp b7) (.tmp c5), type := 0, pos := pos, after := af9, guard := none } a' x' (fun a'' x'' => R .normal a'' x'') R) R)) :
    (Code.region id (two pos sr sp sq m0 l1 c2 m3 l4 c5 b6 b7 f tr tp).toArray true).wp P R a0 w := by
  have n01 : m0 ≠ l1 := fun e => by simp [e] at hd
  have n02 : m0 ≠ c2 := fun e => by simp [e] at hd
  have n03 : m0 ≠ m3 := fun e => by simp [e] at hd
  have n04 : m0 ≠ l4 := fun e => by simp [e] at hd
  have n05 : m0 ≠ c5 := fun e => by simp [e] at hd
  have n06 : m0 ≠ b6 := fun e => by simp [e] at hd
  have n07 : m0 ≠ b7 := fun e => by simp [e] at hd
  have n10 : l1 ≠ m0 := fun e => by simp [e] at hd
  have n12 : l1 ≠ c2 := fun e => by simp [e] at hd
  have n13 : l1 ≠ m3 := fun e => by simp [e] at hd
  have n14 : l1 ≠ l4 := fun e => by simp [e] at hd
  have n15 : l1 ≠ c5 := fun e => by simp [e] at hd
  have n16 : l1 ≠ b6 := fun e => by simp [e] at hd
  have n17 : l1 ≠ b7 := fun e => by simp [e] at hd
  have n20 : c2 ≠ m0 := fun e => by simp [e] at hd
  have n21 : c2 ≠ l1 := fun e => by simp [e] at hd
  have n23 : c2 ≠ m3 := fun e => by simp [e] at hd
  have n24 : c2 ≠ l4 := fun e => by simp [e] at hd
  have n25 : c2 ≠ c5 := fun e => by simp [e] at hd
  have n26 : c2 ≠ b6 := fun e => by simp [e] at hd
  have n27 : c2 ≠ b7 := fun e => by simp [e] at hd
  have n30 : m3 ≠ m0 := fun e => by simp [e] at hd
  have n31 : m3 ≠ l1 := fun e => by simp [e] at hd
  have n32 : m3 ≠ c2 := fun e => by simp [e] at hd
  have n34 : m3 ≠ l4 := fun e => by simp [e] at hd
  have n35 : m3 ≠ c5 := fun e => by simp [e] at hd
  have n36 : m3 ≠ b6 := fun e => by simp [e] at hd
  have n37 : m3 ≠ b7 := fun e => by simp [e] at hd
  have n40 : l4 ≠ m0 := fun e => by simp [e] at hd
  have n41 : l4 ≠ l1 := fun e => by simp [e] at hd
  have n42 : l4 ≠ c2 := fun e => by simp [e] at hd
  have n43 : l4 ≠ m3 := fun e => by simp [e] at hd
  have n45 : l4 ≠ c5 := fun e => by simp [e] at hd
  have n46 : l4 ≠ b6 := fun e => by simp [e] at hd
  have n47 : l4 ≠ b7 := fun e => by simp [e] at hd
  have n50 : c5 ≠ m0 := fun e => by simp [e] at hd
  have n51 : c5 ≠ l1 := fun e => by simp [e] at hd
  have n52 : c5 ≠ c2 := fun e => by simp [e] at hd
  have n53 : c5 ≠ m3 := fun e => by simp [e] at hd
  have n54 : c5 ≠ l4 := fun e => by simp [e] at hd
  have n56 : c5 ≠ b6 := fun e => by simp [e] at hd
  have n57 : c5 ≠ b7 := fun e => by simp [e] at hd
  have n60 : b6 ≠ m0 := fun e => by simp [e] at hd
  have n61 : b6 ≠ l1 := fun e => by simp [e] at hd
  have n62 : b6 ≠ c2 := fun e => by simp [e] at hd
  have n63 : b6 ≠ m3 := fun e => by simp [e] at hd
  have n64 : b6 ≠ l4 := fun e => by simp [e] at hd
  have n65 : b6 ≠ c5 := fun e => by simp [e] at hd
  have n67 : b6 ≠ b7 := fun e => by simp [e] at hd
  have n70 : b7 ≠ m0 := fun e => by simp [e] at hd
  have n71 : b7 ≠ l1 := fun e => by simp [e] at hd
  have n72 : b7 ≠ c2 := fun e => by simp [e] at hd
  have n73 : b7 ≠ m3 := fun e => by simp [e] at hd
  have n74 : b7 ≠ l4 := fun e => by simp [e] at hd
  have n75 : b7 ≠ c5 := fun e => by simp [e] at hd
  have n76 : b7 ≠ b6 := fun e => by simp [e] at hd
  have z0 : m0 < a0.tmps.size := hmax _ (by simp)
  have z1 : l1 < a0.tmps.size := hmax _ (by simp)
  have z2 : c2 < a0.tmps.size := hmax _ (by simp)
  have z3 : m3 < a0.tmps.size := hmax _ (by simp)
  have z4 : l4 < a0.tmps.size := hmax _ (by simp)
  have z5 : c5 < a0.tmps.size := hmax _ (by simp)
  have z6 : b6 < a0.tmps.size := hmax _ (by simp)
  have z7 : b7 < a0.tmps.size := hmax _ (by simp)
  have nr0 : m0 ≠ sr := fun e => nr (by simp [e])
  have nr1 : l1 ≠ sr := fun e => nr (by simp [e])
  have nr2 : c2 ≠ sr := fun e => nr (by simp [e])
  have nr3 : m3 ≠ sr := fun e => nr (by simp [e])
  have nr4 : l4 ≠ sr := fun e => nr (by simp [e])
  have nr5 : c5 ≠ sr := fun e => nr (by simp [e])
  have nr6 : b6 ≠ sr := fun e => nr (by simp [e])
  have nr7 : b7 ≠ sr := fun e => nr (by simp [e])
  have np0 : m0 ≠ sp := fun e => np (by simp [e])
  have np1 : l1 ≠ sp := fun e => np (by simp [e])
  have np2 : c2 ≠ sp := fun e => np (by simp [e])
  have np3 : m3 ≠ sp := fun e => np (by simp [e])
  have np4 : l4 ≠ sp := fun e => np (by simp [e])
  have np5 : c5 ≠ sp := fun e => np (by simp [e])
  have np6 : b6 ≠ sp := fun e => np (by simp [e])
  have np7 : b7 ≠ sp := fun e => np (by simp [e])
  have nq0 : m0 ≠ sq := fun e => nq (by simp [e])
  have nq1 : l1 ≠ sq := fun e => nq (by simp [e])
  have nq2 : c2 ≠ sq := fun e => nq (by simp [e])
  have nq3 : m3 ≠ sq := fun e => nq (by simp [e])
  have nq4 : l4 ≠ sq := fun e => nq (by simp [e])
  have nq5 : c5 ≠ sq := fun e => nq (by simp [e])
  have nq6 : b6 ≠ sq := fun e => nq (by simp [e])
  have nq7 : b7 ≠ sq := fun e => nq (by simp [e])
  let St : List Oper := two pos sr sp sq m0 l1 c2 m3 l4 c5 b6 b7 f tr tp
  have hlen : ∀ i o, (two pos sr sp sq m0 l1 c2 m3 l4 c5 b6 b7 f tr tp).toArray[i]? = some o → i < 10 := fun i o h => by
    have := (Array.getElem?_eq_some_iff.1 h).1
    exact this
  refine wp_region_inv (fun lst a x => TIn J a0 ur vp vq m0 l1 c2 m3 l4 c5 b6 b7 lst a x ∨ (lst.size = 10 ∧ (∀ i, i < 9 → lst.getD i true = true) ∧ lst.getD 9 true = false ∧ Oper.wp P { dst := none, op := .store tp (.tmp b7) (.tmp c5), type := 0, pos := pos, after := #[⟨7, .data⟩, ⟨5, .data⟩, ⟨8, .chain⟩, ⟨0, .phase⟩, ⟨1, .phase⟩, ⟨2, .phase⟩, ⟨3, .phase⟩, ⟨4, .phase⟩, ⟨5, .phase⟩, ⟨6, .phase⟩, ⟨7, .phase⟩, ⟨8, .phase⟩], guard := none } a x (fun a'' x'' => R .normal a'' x'') R) ∨ ((∀ i, i < 10 → lst.getD i true = true) ∧ R .normal a x)) hm ?_ ?_ ?_
  · refine Or.inl ⟨rfl, rfl, fun j _ _ _ _ _ _ _ _ => rfl, by rfl, by rfl, by rfl, ⟨fun v h => ?_, fun v h => ?_, fun v h => ?_, fun v h => ?_, fun h => ?_, fun h => ?_, h0⟩⟩
    all_goals (first | (cases h; done) | exact absurd rfl h)
  · intro lst a x i o hI ho hl hdep
    have hi := hlen i o ho
    rcases hI with T | ⟨p1, p2, p3, p4⟩ | ⟨p1, p2⟩
    · have hsz := T.size
      have sr' : a.tmps[sr]? = some ur := (T.other sr nr0 nr1 nr2 nr3 nr4 nr5 nr6 nr7).trans hr
      have sp' : a.tmps[sp]? = some pp := (T.other sp np0 np1 np2 np3 np4 np5 np6 np7).trans hp
      have sq' : a.tmps[sq]? = some pq := (T.other sq nq0 nq1 nq2 nq3 nq4 nq5 nq6 nq7).trans hq
      have ls := T.ls
      have st := T.st
      have li : ∀ i, i < 10 → i < lst.size := fun i h => by rw [ls]; exact h
      have zi : ∀ s, s < a0.tmps.size → s < a.tmps.size := fun s h => by rw [hsz]; exact h
      have oth : ∀ (s : Nat) (v : Value) (j : Nat), s ≠ j → a.tmps[j]? = a0.tmps[j]? → (a.put (some s) v).tmps[j]? = a0.tmps[j]? := fun s v j h e => (put_get h).trans e
      obtain rfl | rfl | rfl | rfl | rfl | rfl | rfl | rfl | rfl | rfl : i = 0 ∨ i = 1 ∨ i = 2 ∨ i = 3 ∨ i = 4 ∨ i = 5 ∨ i = 6 ∨ i = 7 ∨ i = 8 ∨ i = 9 := ten hi
      · have ho' : o = { dst := some m0, op := .move (.tmp sr), type := tr, pos := pos, after := #[], guard := none } := by injection ho with ho; exact ho.symm
        subst ho'
        have hn := rd_no (a := a) (s := m0) hl
        refine ⟨rfl, ?_⟩
        exact Or.inl ⟨(put_size _ _ _).trans hsz, T.defers, fun j x0 x1 x2 x3 x4 x5 x6 x7 => oth _ _ j x0 (T.other j x0 x1 x2 x3 x4 x5 x6 x7), by rw [Array.size_setIfInBounds]; exact ls, by rw [lst_ne (by decide)]; exact T.n8, by rw [lst_ne (by decide)]; exact T.n9, by rw [rd_eq (li 0 (by decide)) (zi _ z0), rd_ne (by decide) n01, rd_ne (by decide) n02, rd_ne (by decide) n03, rd_ne (by decide) n04, rd_ne (by decide) n05, rd_ne (by decide) n06, rd_ne (by decide) n07]; exact ⟨fun v h => by injection h with h; exact h.symm.trans (eval_tmp sr'), st.e1, st.e3, st.e4, fun h => ⟨by simp, (st.d2 h).2⟩, st.d5, st.j⟩⟩
      · have ho' : o = { dst := some l1, op := .load tp (.tmp sp), type := tp, pos := pos, after := #[], guard := none } := by injection ho with ho; exact ho.symm
        subst ho'
        refine ⟨rfl, ?_⟩
        unfold Oper.wp
        rw [hl1 a.eval _ _ _ _ _ _ _ _ x st.j (eval_tmp sp')]
        exact Or.inl ⟨(put_size _ _ _).trans hsz, T.defers, fun j x0 x1 x2 x3 x4 x5 x6 x7 => oth _ _ j x1 (T.other j x0 x1 x2 x3 x4 x5 x6 x7), by rw [Array.size_setIfInBounds]; exact ls, by rw [lst_ne (by decide)]; exact T.n8, by rw [lst_ne (by decide)]; exact T.n9, by rw [rd_ne (by decide) n10, rd_eq (li 1 (by decide)) (zi _ z1), rd_ne (by decide) n12, rd_ne (by decide) n13, rd_ne (by decide) n14, rd_ne (by decide) n15, rd_ne (by decide) n16, rd_ne (by decide) n17]; exact ⟨st.e0, fun v h => by injection h with h; exact h.symm, st.e3, st.e4, fun h => ⟨(st.d2 h).1, by simp⟩, st.d5, st.j⟩⟩
      · have ho' : o = { dst := some c2, op := .call { callee := .value (.func f), args := #[.tmp m0, .tmp l1], argTypes := #[tr, tp] }, type := tp, pos := pos, after := #[⟨0, .data⟩, ⟨1, .data⟩], guard := none } := by injection ho with ho; exact ho.symm
        subst ho'
        refine ⟨rfl, ?_⟩
        have g0 : lst.getD 0 false = true := hdep ⟨0, .data⟩ (by simp) rfl
        have g1 : lst.getD 1 false = true := hdep ⟨1, .data⟩ (by simp) rfl
        obtain ⟨y0, yr0, yt0⟩ := rd_yes (a := a) (s := m0) g0 (zi _ z0)
        obtain ⟨y1, yr1, yt1⟩ := rd_yes (a := a) (s := l1) g1 (zi _ z1)
        have h2n : rd lst a 2 c2 = none := rd_no hl
        have h5n : rd lst a 5 c5 = none := by
          cases g : rd lst a 5 c5 with
          | none => rfl
          | some v => exact absurd h2n (st.d5 (by rw [g]; simp)).1
        have hj := st.j
        rw [h2n, h5n] at hj
        have w0 := st.e0 _ yr0
        have w1 := st.e1 _ yr1
        unfold Oper.wp
        show Oper.upon P _ a _ R ((callFunc f (#[] ++ (#[Operand.tmp m0, .tmp l1].map a.eval) ++ #[])).run P x)
        rw [show (#[] ++ (#[Operand.tmp m0, .tmp l1].map a.eval) ++ #[] : Array Value) = #[a.eval (.tmp m0), a.eval (.tmp l1)] by simp, eval_tmp yt0, eval_tmp yt1, w0, w1, hen, Oper.upon_enter]
        refine (hc2 _ _ x hj).mono ?_
        rintro e x' ⟨v, rfl, hj'⟩
        exact Or.inl ⟨(put_size _ _ _).trans hsz, T.defers, fun j x0 x1 x2 x3 x4 x5 x6 x7 => oth _ _ j x2 (T.other j x0 x1 x2 x3 x4 x5 x6 x7), by rw [Array.size_setIfInBounds]; exact ls, by rw [lst_ne (by decide)]; exact T.n8, by rw [lst_ne (by decide)]; exact T.n9, by rw [rd_ne (by decide) n20, rd_ne (by decide) n21, rd_eq (li 2 (by decide)) (zi _ z2), rd_ne (by decide) n23, rd_ne (by decide) n24, rd_ne (by decide) n25, rd_ne (by decide) n26, rd_ne (by decide) n27]; exact ⟨st.e0, st.e1, st.e3, st.e4, fun _ => ⟨by rw [yr0]; simp, by rw [yr1]; simp⟩, fun h => absurd h5n h, by rw [h5n]; exact hj'⟩⟩
      · have ho' : o = { dst := some m3, op := .move (.tmp sr), type := tr, pos := pos, after := #[], guard := none } := by injection ho with ho; exact ho.symm
        subst ho'
        refine ⟨rfl, ?_⟩
        exact Or.inl ⟨(put_size _ _ _).trans hsz, T.defers, fun j x0 x1 x2 x3 x4 x5 x6 x7 => oth _ _ j x3 (T.other j x0 x1 x2 x3 x4 x5 x6 x7), by rw [Array.size_setIfInBounds]; exact ls, by rw [lst_ne (by decide)]; exact T.n8, by rw [lst_ne (by decide)]; exact T.n9, by rw [rd_ne (by decide) n30, rd_ne (by decide) n31, rd_ne (by decide) n32, rd_eq (li 3 (by decide)) (zi _ z3), rd_ne (by decide) n34, rd_ne (by decide) n35, rd_ne (by decide) n36, rd_ne (by decide) n37]; exact ⟨st.e0, st.e1, fun v h => by injection h with h; exact h.symm.trans (eval_tmp sr'), st.e4, st.d2, fun h => ⟨(st.d5 h).1, by simp, (st.d5 h).2.2⟩, st.j⟩⟩
      · have ho' : o = { dst := some l4, op := .load tp (.tmp sq), type := tp, pos := pos, after := #[], guard := none } := by injection ho with ho; exact ho.symm
        subst ho'
        refine ⟨rfl, ?_⟩
        unfold Oper.wp
        rw [hl4 a.eval _ _ _ _ _ _ _ _ x st.j (eval_tmp sq')]
        exact Or.inl ⟨(put_size _ _ _).trans hsz, T.defers, fun j x0 x1 x2 x3 x4 x5 x6 x7 => oth _ _ j x4 (T.other j x0 x1 x2 x3 x4 x5 x6 x7), by rw [Array.size_setIfInBounds]; exact ls, by rw [lst_ne (by decide)]; exact T.n8, by rw [lst_ne (by decide)]; exact T.n9, by rw [rd_ne (by decide) n40, rd_ne (by decide) n41, rd_ne (by decide) n42, rd_ne (by decide) n43, rd_eq (li 4 (by decide)) (zi _ z4), rd_ne (by decide) n45, rd_ne (by decide) n46, rd_ne (by decide) n47]; exact ⟨st.e0, st.e1, st.e3, fun v h => by injection h with h; exact h.symm, st.d2, fun h => ⟨(st.d5 h).1, (st.d5 h).2.1, by simp⟩, st.j⟩⟩
      · have ho' : o = { dst := some c5, op := .call { callee := .value (.func f), args := #[.tmp m3, .tmp l4], argTypes := #[tr, tp] }, type := tp, pos := pos, after := #[⟨3, .data⟩, ⟨4, .data⟩, ⟨2, .chain⟩], guard := none } := by injection ho with ho; exact ho.symm
        subst ho'
        refine ⟨rfl, ?_⟩
        have g3 : lst.getD 3 false = true := hdep ⟨3, .data⟩ (by simp) rfl
        have g4 : lst.getD 4 false = true := hdep ⟨4, .data⟩ (by simp) rfl
        have g2 : lst.getD 2 false = true := hdep ⟨2, .chain⟩ (by simp) rfl
        obtain ⟨y3, yr3, yt3⟩ := rd_yes (a := a) (s := m3) g3 (zi _ z3)
        obtain ⟨y4, yr4, yt4⟩ := rd_yes (a := a) (s := l4) g4 (zi _ z4)
        obtain ⟨y2, yr2, yt2⟩ := rd_yes (a := a) (s := c2) g2 (zi _ z2)
        have h5n : rd lst a 5 c5 = none := rd_no hl
        have hj := st.j
        rw [yr2, h5n] at hj
        have w0 := st.e3 _ yr3
        have w1 := st.e4 _ yr4
        unfold Oper.wp
        show Oper.upon P _ a _ R ((callFunc f (#[] ++ (#[Operand.tmp m3, .tmp l4].map a.eval) ++ #[])).run P x)
        rw [show (#[] ++ (#[Operand.tmp m3, .tmp l4].map a.eval) ++ #[] : Array Value) = #[a.eval (.tmp m3), a.eval (.tmp l4)] by simp, eval_tmp yt3, eval_tmp yt4, w0, w1, hen, Oper.upon_enter]
        refine (hc5 _ _ _ x hj).mono ?_
        rintro e x' ⟨v, rfl, hj'⟩
        exact Or.inl ⟨(put_size _ _ _).trans hsz, T.defers, fun j x0 x1 x2 x3 x4 x5 x6 x7 => oth _ _ j x5 (T.other j x0 x1 x2 x3 x4 x5 x6 x7), by rw [Array.size_setIfInBounds]; exact ls, by rw [lst_ne (by decide)]; exact T.n8, by rw [lst_ne (by decide)]; exact T.n9, by rw [rd_ne (by decide) n50, rd_ne (by decide) n51, rd_ne (by decide) n52, rd_ne (by decide) n53, rd_ne (by decide) n54, rd_eq (li 5 (by decide)) (zi _ z5), rd_ne (by decide) n56, rd_ne (by decide) n57]; exact ⟨st.e0, st.e1, st.e3, st.e4, st.d2, fun _ => ⟨by rw [yr2]; simp, by rw [yr3]; simp, by rw [yr4]; simp⟩, by rw [yr2]; exact hj'⟩⟩
      · have ho' : o = { dst := some b6, op := .alloc tp, type := 0, pos := pos, after := #[], guard := none } := by injection ho with ho; exact ho.symm
        subst ho'
        refine ⟨rfl, ?_⟩
        have hn : rd lst a 6 b6 = none := rd_no hl
        have hj := st.j
        rw [hn] at hj
        unfold Oper.wp
        rw [hal a.eval _ _ _ _ x]
        exact Or.inl ⟨(put_size _ _ _).trans hsz, T.defers, fun j x0 x1 x2 x3 x4 x5 x6 x7 => oth _ _ j x6 (T.other j x0 x1 x2 x3 x4 x5 x6 x7), by rw [Array.size_setIfInBounds]; exact ls, by rw [lst_ne (by decide)]; exact T.n8, by rw [lst_ne (by decide)]; exact T.n9, by rw [rd_ne (by decide) n60, rd_ne (by decide) n61, rd_ne (by decide) n62, rd_ne (by decide) n63, rd_ne (by decide) n64, rd_ne (by decide) n65, rd_eq (li 6 (by decide)) (zi _ z6), rd_ne (by decide) n67]; exact ⟨st.e0, st.e1, st.e3, st.e4, st.d2, st.d5, ha6 _ _ _ x hj⟩⟩
      · have ho' : o = { dst := some b7, op := .alloc tp, type := 0, pos := pos, after := #[], guard := none } := by injection ho with ho; exact ho.symm
        subst ho'
        refine ⟨rfl, ?_⟩
        have hn : rd lst a 7 b7 = none := rd_no hl
        have hj := st.j
        rw [hn] at hj
        unfold Oper.wp
        rw [hal a.eval _ _ _ _ x]
        exact Or.inl ⟨(put_size _ _ _).trans hsz, T.defers, fun j x0 x1 x2 x3 x4 x5 x6 x7 => oth _ _ j x7 (T.other j x0 x1 x2 x3 x4 x5 x6 x7), by rw [Array.size_setIfInBounds]; exact ls, by rw [lst_ne (by decide)]; exact T.n8, by rw [lst_ne (by decide)]; exact T.n9, by rw [rd_ne (by decide) n70, rd_ne (by decide) n71, rd_ne (by decide) n72, rd_ne (by decide) n73, rd_ne (by decide) n74, rd_ne (by decide) n75, rd_ne (by decide) n76, rd_eq (li 7 (by decide)) (zi _ z7)]; exact ⟨st.e0, st.e1, st.e3, st.e4, st.d2, st.d5, ha7 _ _ _ x hj⟩⟩
      · have ho' : o = { dst := none, op := .store tp (.tmp b6) (.tmp c2), type := 0, pos := pos, after := #[⟨6, .data⟩, ⟨2, .data⟩, ⟨5, .chain⟩, ⟨0, .phase⟩, ⟨1, .phase⟩, ⟨2, .phase⟩, ⟨3, .textOnly .lateStores⟩, ⟨4, .textOnly .lateStores⟩, ⟨5, .textOnly .lateStoresUnsure⟩, ⟨6, .phase⟩, ⟨7, .phase⟩], guard := none } := by injection ho with ho; exact ho.symm
        subst ho'
        refine ⟨rfl, ?_⟩
        have g0 : lst.getD 0 false = true := hdep ⟨0, .phase⟩ (by simp) rfl
        have g1 : lst.getD 1 false = true := hdep ⟨1, .phase⟩ (by simp) rfl
        have g2 : lst.getD 2 false = true := hdep ⟨2, .phase⟩ (by simp) rfl
        have g5 : lst.getD 5 false = true := hdep ⟨5, .chain⟩ (by simp) rfl
        have g6 : lst.getD 6 false = true := hdep ⟨6, .phase⟩ (by simp) rfl
        have g7 : lst.getD 7 false = true := hdep ⟨7, .phase⟩ (by simp) rfl
        obtain ⟨y0, yr0, yt0⟩ := rd_yes (a := a) (s := m0) g0 (zi _ z0)
        obtain ⟨y1, yr1, yt1⟩ := rd_yes (a := a) (s := l1) g1 (zi _ z1)
        obtain ⟨y2, yr2, yt2⟩ := rd_yes (a := a) (s := c2) g2 (zi _ z2)
        obtain ⟨y5, yr5, yt5⟩ := rd_yes (a := a) (s := c5) g5 (zi _ z5)
        obtain ⟨y6, yr6, yt6⟩ := rd_yes (a := a) (s := b6) g6 (zi _ z6)
        obtain ⟨y7, yr7, yt7⟩ := rd_yes (a := a) (s := b7) g7 (zi _ z7)
        have d5 := st.d5 (by rw [yr5]; simp)
        have g3 : lst.getD 3 false = true := by
          cases g : lst.getD 3 false with
          | true => rfl
          | false => exact absurd (show rd lst a 3 m3 = none by unfold rd; rw [if_neg (by rw [g]; simp)]) d5.2.1
        have g4 : lst.getD 4 false = true := by
          cases g : lst.getD 4 false with
          | true => rfl
          | false => exact absurd (show rd lst a 4 l4 = none by unfold rd; rw [if_neg (by rw [g]; simp)]) d5.2.2
        obtain ⟨y3, yr3, yt3⟩ := rd_yes (a := a) (s := m3) g3 (zi _ z3)
        obtain ⟨y4, yr4, yt4⟩ := rd_yes (a := a) (s := l4) g4 (zi _ z4)
        have w0 := st.e0 _ yr0
        have w1 := st.e1 _ yr1
        have w3 := st.e3 _ yr3
        have w4 := st.e4 _ yr4
        rw [w0] at yt0
        rw [w1] at yt1
        rw [w3] at yt3
        rw [w4] at yt4
        have hj := st.j
        rw [yr2, yr5, yr6, yr7] at hj
        have hA : a = twoEnd a0 ur vp vq y2 y5 y6 y7 m0 l1 c2 m3 l4 c5 b6 b7 := two_final T.size T.defers T.other yt0 yt1 yt2 yt3 yt4 yt5 yt6 yt7 z0 z1 z2 z3 z4 z5 z6 z7
        have hE' := hE a y2 y5 y6 y7 x hj yt6 yt2 yt7 yt5 hA #[⟨6, .data⟩, ⟨2, .data⟩, ⟨5, .chain⟩, ⟨0, .phase⟩, ⟨1, .phase⟩, ⟨2, .phase⟩, ⟨3, .textOnly .lateStores⟩, ⟨4, .textOnly .lateStores⟩, ⟨5, .textOnly .lateStoresUnsure⟩, ⟨6, .phase⟩, ⟨7, .phase⟩] #[⟨7, .data⟩, ⟨5, .data⟩, ⟨8, .chain⟩, ⟨0, .phase⟩, ⟨1, .phase⟩, ⟨2, .phase⟩, ⟨3, .phase⟩, ⟨4, .phase⟩, ⟨5, .phase⟩, ⟨6, .phase⟩, ⟨7, .phase⟩, ⟨8, .phase⟩]
        have big : ∀ k, lst.getD k false = true → lst.getD k true = true := fun k h => by
          rw [Array.getD_eq_getD_getElem?] at h ⊢
          cases g : lst[k]? with
          | none => rfl
          | some b => rw [g] at h; exact h
        refine Oper.wp_mono (fun a' x' h => Or.inr (Or.inl ⟨by rw [Array.size_setIfInBounds]; exact ls, fun i hi => ?_, by rw [lst_ne (by decide)]; exact T.n9, h⟩)) hE'.out
        by_cases e8 : 8 = i
        · subst e8; exact lst_eq (li 8 (by decide))
        · rw [lst_ne e8]
          refine big i ?_
          obtain rfl | rfl | rfl | rfl | rfl | rfl | rfl | rfl : i = 0 ∨ i = 1 ∨ i = 2 ∨ i = 3 ∨ i = 4 ∨ i = 5 ∨ i = 6 ∨ i = 7 := eight hi (fun e => e8 e.symm)
          all_goals assumption
      · have := hdep
        have ho' : o = { dst := none, op := .store tp (.tmp b7) (.tmp c5), type := 0, pos := pos, after := #[⟨7, .data⟩, ⟨5, .data⟩, ⟨8, .chain⟩, ⟨0, .phase⟩, ⟨1, .phase⟩, ⟨2, .phase⟩, ⟨3, .phase⟩, ⟨4, .phase⟩, ⟨5, .phase⟩, ⟨6, .phase⟩, ⟨7, .phase⟩, ⟨8, .phase⟩], guard := none } := by injection ho with ho; exact ho.symm
        subst ho'
        have g8 : lst.getD 8 false = true := hdep ⟨8, .phase⟩ (by simp) rfl
        have := T.n8
        rw [Array.getD_eq_getD_getElem?] at g8 this
        cases g : lst[8]? with
        | none => rw [g] at this; cases this
        | some b => rw [g] at this g8; cases b; cases g8; cases this
    · have hi9 : i = 9 := by
        rcases Nat.lt_or_ge i 9 with h | h
        · have := p2 i h; rw [hl] at this; cases this
        · exact nine hi h
      subst hi9
      have ho' : o = { dst := none, op := .store tp (.tmp b7) (.tmp c5), type := 0, pos := pos, after := #[⟨7, .data⟩, ⟨5, .data⟩, ⟨8, .chain⟩, ⟨0, .phase⟩, ⟨1, .phase⟩, ⟨2, .phase⟩, ⟨3, .phase⟩, ⟨4, .phase⟩, ⟨5, .phase⟩, ⟨6, .phase⟩, ⟨7, .phase⟩, ⟨8, .phase⟩], guard := none } := by injection ho with ho; exact ho.symm
      subst ho'
      refine ⟨rfl, Oper.wp_mono (fun a' x' hR => Or.inr (Or.inr ⟨fun i hi => ?_, hR⟩)) p4⟩
      by_cases e : 9 = i
      · subst e; exact lst_eq (by rw [p1]; decide)
      · rw [lst_ne e]; exact p2 i (less hi (fun h => e h.symm))
    · have := p1 i hi
      rw [hl] at this
      cases this
  · intro lst a x hI hn
    rcases hI with T | ⟨p1, p2, p3, p4⟩ | ⟨p1, p2⟩
    · exfalso
      have ls := T.ls
      have li : ∀ i, i < 10 → i < lst.size := fun i h => by rw [ls]; exact h
      have g0 := got (hn 0 { dst := some m0, op := .move (.tmp sr), type := tr, pos := pos, after := #[], guard := none } rfl (by simp)) (li 0 (by decide))
      have g0' : lst[0]?.getD false = true := by simpa using g0
      have g1 := got (hn 1 { dst := some l1, op := .load tp (.tmp sp), type := tp, pos := pos, after := #[], guard := none } rfl (by simp)) (li 1 (by decide))
      have g1' : lst[1]?.getD false = true := by simpa using g1
      have g3 := got (hn 3 { dst := some m3, op := .move (.tmp sr), type := tr, pos := pos, after := #[], guard := none } rfl (by simp)) (li 3 (by decide))
      have g3' : lst[3]?.getD false = true := by simpa using g3
      have g4 := got (hn 4 { dst := some l4, op := .load tp (.tmp sq), type := tp, pos := pos, after := #[], guard := none } rfl (by simp)) (li 4 (by decide))
      have g4' : lst[4]?.getD false = true := by simpa using g4
      have g6 := got (hn 6 { dst := some b6, op := .alloc tp, type := 0, pos := pos, after := #[], guard := none } rfl (by simp)) (li 6 (by decide))
      have g6' : lst[6]?.getD false = true := by simpa using g6
      have g7 := got (hn 7 { dst := some b7, op := .alloc tp, type := 0, pos := pos, after := #[], guard := none } rfl (by simp)) (li 7 (by decide))
      have g7' : lst[7]?.getD false = true := by simpa using g7
      have g2 := got (hn 2 { dst := some c2, op := .call { callee := .value (.func f), args := #[.tmp m0, .tmp l1], argTypes := #[tr, tp] }, type := tp, pos := pos, after := #[⟨0, .data⟩, ⟨1, .data⟩], guard := none } rfl (by simp [g0', g1'])) (li 2 (by decide))
      have g2' : lst[2]?.getD false = true := by simpa using g2
      have g5 := got (hn 5 { dst := some c5, op := .call { callee := .value (.func f), args := #[.tmp m3, .tmp l4], argTypes := #[tr, tp] }, type := tp, pos := pos, after := #[⟨3, .data⟩, ⟨4, .data⟩, ⟨2, .chain⟩], guard := none } rfl (by simp [g2', g3', g4'])) (li 5 (by decide))
      have g5' : lst[5]?.getD false = true := by simpa using g5
      have g8 := got (hn 8 { dst := none, op := .store tp (.tmp b6) (.tmp c2), type := 0, pos := pos, after := #[⟨6, .data⟩, ⟨2, .data⟩, ⟨5, .chain⟩, ⟨0, .phase⟩, ⟨1, .phase⟩, ⟨2, .phase⟩, ⟨3, .textOnly .lateStores⟩, ⟨4, .textOnly .lateStores⟩, ⟨5, .textOnly .lateStoresUnsure⟩, ⟨6, .phase⟩, ⟨7, .phase⟩], guard := none } rfl (by simp [g0', g1', g2', g3', g4', g5', g6', g7'])) (li 8 (by decide))
      have g8' : lst[8]?.getD false = true := by simpa using g8
      have := T.n8
      rw [Array.getD_eq_getD_getElem?] at g8 this
      cases g : lst[8]? with
      | none => rw [g] at this; cases this
      | some b => rw [g] at this g8; cases b; cases g8; cases this
    · exfalso
      have g : ∀ i, i < 9 → lst.getD i false = true := fun i hi => got (p2 i hi) (by rw [p1]; exact Nat.lt_succ_of_lt hi)
      have g0' : lst[0]?.getD false = true := by simpa using g 0 (by decide)
      have g1' : lst[1]?.getD false = true := by simpa using g 1 (by decide)
      have g2' : lst[2]?.getD false = true := by simpa using g 2 (by decide)
      have g3' : lst[3]?.getD false = true := by simpa using g 3 (by decide)
      have g4' : lst[4]?.getD false = true := by simpa using g 4 (by decide)
      have g5' : lst[5]?.getD false = true := by simpa using g 5 (by decide)
      have g6' : lst[6]?.getD false = true := by simpa using g 6 (by decide)
      have g7' : lst[7]?.getD false = true := by simpa using g 7 (by decide)
      have g8' : lst[8]?.getD false = true := by simpa using g 8 (by decide)
      have g9 := hn 9 { dst := none, op := .store tp (.tmp b7) (.tmp c5), type := 0, pos := pos, after := #[⟨7, .data⟩, ⟨5, .data⟩, ⟨8, .chain⟩, ⟨0, .phase⟩, ⟨1, .phase⟩, ⟨2, .phase⟩, ⟨3, .phase⟩, ⟨4, .phase⟩, ⟨5, .phase⟩, ⟨6, .phase⟩, ⟨7, .phase⟩, ⟨8, .phase⟩], guard := none } rfl (by simp [g0', g1', g2', g3', g4', g5', g6', g7', g8'])
      rw [p3] at g9
      cases g9
    · exact p2
theorem wp_two_at {P : Program} {id : Nat} {R : Exit → Act → World → Prop} {a0 : Act} {w : World} {l : List Oper} (J : Option Value → Option Value → Option Value → Option Value → World → Prop)
    (pos : String) (sr sp sq m0 l1 c2 m3 l4 c5 b6 b7 f tr tp : Nat) (ur vp vq pp pq : Value) (Z : Obj) (hl : l = two pos sr sp sq m0 l1 c2 m3 l4 c5 b6 b7 f tr tp)
    (hm : P.follows .mixedOrders = true) (hd : [m0, l1, c2, m3, l4, c5, b6, b7].Nodup) (hmax : ∀ s ∈ [m0, l1, c2, m3, l4, c5, b6, b7], s < a0.tmps.size)
    (nr : sr ∉ [m0, l1, c2, m3, l4, c5, b6, b7]) (np : sp ∉ [m0, l1, c2, m3, l4, c5, b6, b7]) (nq : sq ∉ [m0, l1, c2, m3, l4, c5, b6, b7])
    (hr : a0.tmps[sr]? = some ur) (hp : a0.tmps[sp]? = some pp) (hq : a0.tmps[sq]? = some pq)
    (h0 : J none none none none w.drew)
    (hl1 : ∀ (ρ : Operand → Value) (t : TypeId) (ps : String) (d : Option Tmp) (af : Array Edge) o1 o2 o6 o7 x, J o1 o2 o6 o7 x → ρ (.tmp sp) = pp → (execOp ρ { dst := d, op := .load tp (.tmp sp), type := t, pos := ps, after := af, guard := none }).run P x = .ok (.value vp) x)
    (hl4 : ∀ (ρ : Operand → Value) (t : TypeId) (ps : String) (d : Option Tmp) (af : Array Edge) o1 o2 o6 o7 x, J o1 o2 o6 o7 x → ρ (.tmp sq) = pq → (execOp ρ { dst := d, op := .load tp (.tmp sq), type := t, pos := ps, after := af, guard := none }).run P x = .ok (.value vq) x)
    (hen : ∀ (args : Array Value) (x : World), (callFunc f args).run P x = .ok (.enter f args) x)
    (hc2 : ∀ o6 o7 x, J none none o6 o7 x → Calls P f #[ur, vp] x fun e x' => ∃ v, e = .returned v ∧ J (some v) none o6 o7 x')
    (hc5 : ∀ v1 o6 o7 x, J (some v1) none o6 o7 x → Calls P f #[ur, vq] x fun e x' => ∃ v, e = .returned v ∧ J (some v1) (some v) o6 o7 x')
    (hal : ∀ (ρ : Operand → Value) (t : TypeId) (ps : String) (d : Option Tmp) (af : Array Edge) (x : World), (execOp ρ { dst := d, op := .alloc tp, type := t, pos := ps, after := af, guard := none }).run P x = .ok (.value (.pointer (some ⟨x.heap.size, 0, none⟩))) (x.alloc Z))
    (ha6 : ∀ o1 o2 o7 x, J o1 o2 none o7 x → J o1 o2 (some (.pointer (some ⟨x.heap.size, 0, none⟩))) o7 (x.alloc Z))
    (ha7 : ∀ o1 o2 o6 x, J o1 o2 o6 none x → J o1 o2 o6 (some (.pointer (some ⟨x.heap.size, 0, none⟩))) (x.alloc Z))
    (hE : ∀ (a : Act) v1 v2 p6 p7 x, J (some v1) (some v2) (some p6) (some p7) x → a.tmps[b6]? = some p6 → a.tmps[c2]? = some v1 → a.tmps[b7]? = some p7 → a.tmps[c5]? = some v2 → a = twoEnd a0 ur vp vq v1 v2 p6 p7 m0 l1 c2 m3 l4 c5 b6 b7 → ∀ (af8 af9 : Array Edge), Shut (Oper.wp P { dst := none, op := .store tp (.tmp b6) (.tmp c2), type := 0, pos := pos, after := af8, guard := none } a x
      (fun a' x' => Oper.wp P { dst := none, op := .store tp (.tmp b7) (.tmp c5), type := 0, pos := pos, after := af9, guard := none } a' x' (fun a'' x'' => R .normal a'' x'') R) R)) :
    (Code.region id l.toArray true).wp P R a0 w := by
  subst hl
  exact wp_two J pos sr sp sq m0 l1 c2 m3 l4 c5 b6 b7 f tr tp ur vp vq pp pq Z hm hd hmax nr np nq hr hp hq h0 hl1 hl4 hen hc2 hc5 hal ha6 ha7 hE
end Go.Proofs.Ytkgfohodahkmmaa

/- What a matrix, bounds and the least keep: lists; and what does not go together. -/
import Derived.Test.YtlelgifdnhnphabG0836f8a9
namespace Go.Proofs.Ytlelgifdnhnphab
open Go.RowKit
set_option linter.unusedVariables false
set_option linter.unusedSimpArgs false

theorem chg_get {F : Nat → Nat} : ∀ {l : List (List Nat)} {i k : Nat} {S T : List Nat} {j : Nat}, l[k]? = some S → (chgL F (-1) i l)[k]? = some T → j < S.length → T.getD j 0 = F (S.getD j 0)
  | [], i, k, S, T, j, h, h', hj => by simp at h
  | A :: t, i, 0, S, T, j, h, h', hj => by
    obtain rfl : A = S := by simpa using h
    obtain rfl : chgS F (-1) i A = T := by simpa [chgL] using h'
    unfold chgS
    rw [if_pos (by rfl : chgB (-1) i = true), List.getD_eq_getElem?_getD, List.getElem?_map, List.getD_eq_getElem?_getD, List.getElem?_eq_getElem hj]
    rfl
  | A :: t, i, k + 1, S, T, j, h, h', hj => chg_get (l := t) (i := i + 1) (k := k) (by simpa using h) (by simpa [chgL] using h') hj
theorem chgL_all (F : Nat → Nat) : ∀ (i : Nat) (l : List (List Nat)), chgL F (-1) i l = l.map (List.map F)
  | i, [] => rfl
  | i, A :: t => by
    show chgS F (-1) i A :: chgL F (-1) (i + 1) t = _
    rw [chgL_all F (i + 1) t]
    unfold chgS
    rw [if_pos (by rfl : chgB (-1) i = true)]
    rfl
theorem mixL_len (F0 F1 F2 : Nat → Nat → Nat → Nat) (A : List (List Nat)) : (mixL F0 F1 F2 A).length = A.length := by
  match A with
  | [] => rfl
  | [_] => rfl
  | [_, _] => rfl
  | _ :: _ :: _ :: _ => rfl
theorem keep_all {L M : List PL} {N : Nat} {x0 x1 x2 : PL} {r : List PL} (hL : L = x0 :: x1 :: x2 :: r) (hl : ∀ x ∈ L, x.S.length = N) (hM : M.map PL.S = mixL (mixM idM 0) (mixM idM 1) (mixM idM 2) (L.map PL.S)) :
    ∀ (k : Nat) (x y : PL) (i : Nat), k < 3 → L[k]? = some x → M[k]? = some y → i < N → rung32 (x0.S.getD i 0) < 2139095040 → rung32 (x1.S.getD i 0) < 2139095040 → rung32 (x2.S.getD i 0) < 2139095040 → srung32 (y.S.getD i 0) = srung32 (x.S.getD i 0) ∧ nanN (y.S.getD i 0) = false ∧ nanN (x.S.getD i 0) = false := by
  intro k x y i hk hx hy hi f0 f1 f2
  have hy' : (M.map PL.S)[k]? = some y.S := by rw [List.getElem?_map, hy]; rfl
  rw [hM] at hy'
  subst hL
  have l0 : i < x0.S.length := by rw [hl x0 (by simp)]; exact hi
  obtain ⟨K0, K1, K2⟩ := keep_row f0 f1 f2
  match k, hk with
  | 0, _ =>
    obtain rfl : x0 = x := by simpa using hx
    have : mix3 (mixM idM 0) x0.S x1.S x2.S = y.S := Option.some.inj hy'
    rw [← this, mix3_get l0]
    exact ⟨K0.1, K0.2, fin_num f0⟩
  | 1, _ =>
    obtain rfl : x1 = x := by simpa using hx
    have : mix3 (mixM idM 1) x0.S x1.S x2.S = y.S := Option.some.inj hy'
    rw [← this, mix3_get l0]
    exact ⟨K1.1, K1.2, fin_num f1⟩
  | 2, _ =>
    obtain rfl : x2 = x := by simpa using hx
    have : mix3 (mixM idM 2) x0.S x1.S x2.S = y.S := Option.some.inj hy'
    rw [← this, mix3_get l0]
    exact ⟨K2.1, K2.2, fin_num f2⟩
theorem Hid.mk' {p : Prop} (h : p) : Hid p := h
theorem getD_in {A : List (List Nat)} {j : Nat} (hj : j < A.length) : A.getD j [] ∈ A := by
  rw [List.getD_eq_getElem?_getD, List.getElem?_eq_getElem hj]
  exact List.getElem_mem hj
theorem zTo_swap {G : Nat → Nat → Nat} {A B : List (List Nat)} {n N : Nat} (hA : A.length = n) (hB : B.length = n) (la : ∀ S ∈ A, S.length = N) (lb : ∀ S ∈ B, S.length = N) (hc : ∀ s t, G s t = G t s) : zTo G A B n = zTo G B A n := by
  apply List.ext_getElem?
  intro j
  rcases Nat.lt_or_ge j n with hj | hj
  · rw [zTo_get (by omega), zTo_get (by omega), if_pos hj, if_pos hj]
    have h1 := la _ (getD_in (A := A) (j := j) (by omega))
    have h2 := lb _ (getD_in (A := B) (j := j) (by omega))
    congr 1
    apply list_ext (by rw [zip2_len, zip2_len]; omega)
    intro i hi
    rw [zip2_len] at hi
    rw [zip2_get hi, zip2_get (by omega), hc]
  · rw [List.getElem?_eq_none (by rw [zTo_len]; omega), List.getElem?_eq_none (by rw [zTo_len]; omega)]
theorem zip2_same {G : Nat → Nat → Nat} {S : List Nat} {a b s : Nat} (h : S.length = a * b) : zip2 G S (sameS a b s) = S.map (fun x => G x s) := by
  apply list_ext (by rw [zip2_len, List.length_map])
  intro i hi
  rw [zip2_len] at hi
  rw [zip2_get hi]
  unfold sameS
  rw [tab_get (by omega)]
  rw [List.getD_eq_getElem?_getD, List.getD_eq_getElem?_getD, List.getElem?_map, List.getElem?_eq_getElem hi]
  rfl
theorem zTo_same {G : Nat → Nat → Nat} {A : List (List Nat)} {n a b s : Nat} (hA : A.length = n) (la : ∀ S ∈ A, S.length = a * b) : zTo G A (List.replicate n (sameS a b s)) n = A.map (List.map fun x => G x s) := by
  apply List.ext_getElem?
  intro j
  rcases Nat.lt_or_ge j n with hj | hj
  · rw [zTo_get (by omega), if_pos hj, List.getElem?_map]
    have h1 := la _ (getD_in (A := A) (j := j) (by omega))
    have e1 : (List.replicate n (sameS a b s)).getD j [] = sameS a b s := by
      rw [List.getD_eq_getElem?_getD, List.getElem?_replicate, if_pos hj]; rfl
    rw [e1, zip2_same h1]
    rw [List.getD_eq_getElem?_getD, List.getElem?_eq_getElem (by omega)]
    rfl
  · rw [List.getElem?_eq_none (by rw [zTo_len]; omega), List.getElem?_eq_none (by rw [List.length_map]; omega)]
theorem bounds_one (lo hi : Nat) (S : List Nat) : List.map (fun x => leastG x hi) (List.map (fun x => greatG x lo) S) = List.map (boundsV lo hi) S := by
  rw [List.map_map]
  apply List.map_congr_left
  intro s _
  rw [bounds_two, Function.comp_apply]
theorem bounds_map (lo hi : Nat) (A : List (List Nat)) : List.map (List.map fun x => leastG x hi) (List.map (List.map fun x => greatG x lo) A) = List.map (List.map (boundsV lo hi)) A := by
  induction A with
  | nil => simp only [List.map_nil]
  | cons S t ih => rw [List.map_cons, List.map_cons, List.map_cons, bounds_one, ih]
theorem bounds_all {A : List (List Nat)} {n a b lo hi : Nat} (hA : A.length = n) (la : ∀ S ∈ A, S.length = a * b) : zTo leastG (zTo greatG A (List.replicate n (sameS a b lo)) n) (List.replicate n (sameS a b hi)) n = chgL (boundsV lo hi) (-1) 0 A := by
  rw [zTo_same hA la, zTo_same (by rw [List.length_map]; exact hA) (fun S hS => by obtain ⟨T, hT, rfl⟩ := List.mem_map.1 hS; rw [List.length_map]; exact la T hT), chgL_all, bounds_map]
theorem Pc.lens {w : World} {g o a b : Nat} {L : List PL} (h : Pc w g o a b L) : ∀ S ∈ L.map PL.S, S.length = a * b := fun S hS => by
  obtain ⟨x, hx, rfl⟩ := List.mem_map.1 hS
  exact (h.it x hx).len
theorem least_err {w : World} {sp sp' : Int} {g o cap g' o' cap' a b n a' b' n' : Nat} {L L' : List PL} (h : Pc w g o a b L) (hn : L.length = n) (hcap : n ≤ cap) (h' : Pc w g' o' a' b' L') (hn' : L'.length = n') (hcap' : n' ≤ cap') (hsp : spcB sp n = true) (hsp' : spcB sp' n' = true) (hne : ¬ (n = n' ∧ a = a' ∧ b = b' ∧ sp = sp')) :
    ∃ c : Int, (∀ x, Q w x → Calls Try.prog 11 #[.int .i64 4, .agg #[.int .i64 sp, .slice (some ⟨g, o, none⟩) n cap], .agg #[.int .i64 sp', .slice (some ⟨g', o', none⟩) n' cap']] x fun e w' => e = .returned (.tuple #[.agg #[.int .i64 0, .slice none 0 0], .int .i64 c]) ∧ Q x w') ∧
      (∀ x, Q w x → Calls Try.prog 11 #[.int .i64 4, .agg #[.int .i64 sp', .slice (some ⟨g', o', none⟩) n' cap'], .agg #[.int .i64 sp, .slice (some ⟨g, o, none⟩) n cap]] x fun e w' => e = .returned (.tuple #[.agg #[.int .i64 0, .slice none 0 0], .int .i64 c]) ∧ Q x w') := by
  rcases Decidable.em (n = n') with rfl | h1
  · rcases Decidable.em (a = a' ∧ b = b') with ⟨rfl, rfl⟩ | h2
    · have h3 : sp ≠ sp' := fun e => hne ⟨rfl, rfl, rfl, e⟩
      exact ⟨81, fun x q => two_81 kind_least x sp sp' g o cap g' o' cap' a b n L L' (h.next q) hn hcap (h'.next q) hn' hcap' hsp hsp' h3,
        fun x q => two_81 kind_least x sp' sp g' o' cap' g o cap a b n L' L (h'.next q) hn' hcap' (h.next q) hn hcap hsp' hsp (fun e => h3 e.symm)⟩
    · exact ⟨80, fun x q => two_80b kind_least x sp sp' g o cap g' o' cap' a b n a' b' L L' (h.next q) hn hcap (h'.next q) hn' hcap' hsp hsp' h2,
        fun x q => two_80b kind_least x sp' sp g' o' cap' g o cap a' b' n a b L' L (h'.next q) hn' hcap' (h.next q) hn hcap hsp' hsp (fun ⟨e1, e2⟩ => h2 ⟨e1.symm, e2.symm⟩)⟩
  · exact ⟨80, fun x q => two_80a kind_least x sp sp' g o cap g' o' cap' a b n n' a' b' L L' (h.next q) hn hcap (h'.next q) hn' hcap' hsp hsp' h1,
      fun x q => two_80a kind_least x sp' sp g' o' cap' g o cap a' b' n' n a b L' L (h'.next q) hn' hcap' (h.next q) hn hcap hsp' hsp (fun e => h1 e.symm)⟩
end Go.Proofs.Ytlelgifdnhnphab

/- Another order of a list, told by a number: the same samples. -/
import Derived.Test.YtnjagokojdpgpabDoorGaf472e8d
import Derived.Test.YtnjagokojdpgpabDoorG63f183a6
import Derived.Test.YtnjagokojdpgpabDoorG647e1c64
import Derived.Test.YtnjagokojdpgpabDoorG0994402e
import Derived.Laws.BitsAll
import Derived.Test.YtnjagokojdpgpabDoorGf2e33605
import Derived.Test.YtnjagokojdpgpabDoorG78ab3046
import Derived.Test.YtnjagokojdpgpabDoorG6dedde2a
namespace Go.Proofs.YtnjagokojdpgpabDoor
open Go.RowKit
set_option linter.unusedVariables false
set_option linter.unusedSimpArgs false

theorem tmod_bd (k : Int) {n : Int} (hn : 0 < n) : -n < k.tmod n ∧ k.tmod n < n := by
  have h := Int.tmod_lt_of_pos k hn
  refine ⟨?_, h⟩
  have := Int.tmod_lt_of_pos (-k) hn
  rw [Int.neg_tmod] at this
  omega
set_option maxHeartbeats 1000000 in
theorem place_any (k n : Int) (hn : 0 < n) (hn' : n < 4611686018427387904) (w : World) : Calls Tryd.prog 10 #[.int .i64 k, .int .i64 n] w fun e w' => ∃ p : Nat, e = .returned (.int .i64 (p : Int)) ∧ (p : Int) < n ∧ w' = w := by
  obtain ⟨h1, h2⟩ := tmod_bd k hn
  have hz : n ≠ 0 := by omega
  have HN : Hid (0 < n) := hn
  generalize hr : k.tmod n = r at *
  by_cases h0 : r < 0
  · have HR : Hid (∃ p : Nat, r + n = (p : Int) ∧ (p : Int) < n) := ⟨(r + n).toNat, by omega, by omega⟩
    go_enter Tryd.func10, Tryd.ntmps10
    go_wp2_with fail
    go_ret
    obtain ⟨p, hp, hq⟩ := HR.out
    exact ⟨p, congrArg (fun z : Int => Ending.returned (Value.int .i64 z)) hp, hq, rfl⟩
  · have HR : Hid (∃ p : Nat, r = (p : Int) ∧ (p : Int) < n) := ⟨r.toNat, by omega, by omega⟩
    go_enter Tryd.func10, Tryd.ntmps10
    go_wp2_with fail
    go_ret
    obtain ⟨p, hp, hq⟩ := HR.out
    exact ⟨p, congrArg (fun z : Int => Ending.returned (Value.int .i64 z)) hp, hq, rfl⟩
theorem run_app_zeroU {P : Program} (w : World) (t ty e : TypeId) (i : TypeInfo) (ht : P.underlying t = some (.slice e)) (hi : P.info? e = some i) (a : Option Addr) (c : Nat) : (Builtin.append_ #[t, t] ty #[.slice none 0 0, .slice a 0 c]).run P w = .ok (.slice none 0 0) w := by
  cases a <;> simp [Builtin.append_, run_underlying ht, sizeOf, typeInfo, hi, Builtin.lenOf, Builtin.firstCells, loadCells, loadCellsFrom]
theorem wpList_appz (w : World) {ops : Array Oper} {rest : List Oper} {o : Oper} {a : Act} {R : Exit → Act → World → Prop} (hgd : o.guard = none) (x : Operand)
    (ho : o.op = .call { callee := .builtin .append, args := #[.const (.slice none 0 0), x], argTypes := #[22, 22] })
    (ad : Option Addr) (c : Nat) (hx : a.eval x = .slice ad 0 c)
    (h : wpList Tryd.prog ops R rest (a.put o.dst (.slice none 0 0)) w) :
    wpList Tryd.prog ops R (o :: rest) a w := by
  obtain ⟨iu, i1, i2, i3, i4⟩ := u32_info
  refine wpList_plain hgd fun _ hK => ?_
  unfold Oper.wp execOp
  have hr := run_app_zeroU (P := Tryd.prog) w 22 o.type 23 iu Tryd.underlying22 i1 ad c
  simp only [ho, resolve, invoke, builtin, Sem.run_bind, Sem.run_pure, Result.andThen_ok, List.map_toArray, List.map_cons, List.map_nil, Act.eval, hr]
  simp only [Act.eval] at hx
  rw [hx, hr]
  exact hK _ _ h
theorem swap_perm (l : List Nat) {i j : Nat} (hi : i < l.length) (hj : j < l.length) : ((l.set i (l.getD j 0)).set j (l.getD i 0)).Perm l := by
  have h := Array.swap_perm (xs := l.toArray) (i := i) (j := j) (by simpa using hi) (by simpa using hj)
  have h2 := Array.perm_iff_toList_perm.1 h
  rw [List.getD_eq_getElem?_getD, List.getD_eq_getElem?_getD, List.getElem?_eq_getElem hi, List.getElem?_eq_getElem hj]
  simpa [Array.swap] using h2
theorem and31 (s : Nat) (h1 : s < 9223372036854775808) : bits .and .i64 (s : Int) 2147483647 = ((s % 2147483648 : Nat) : Int) := by
  have h := i64_and s 2147483647 h1 (by decide)
  rw [show (2147483647 : Nat) = 2 ^ 31 - 1 from rfl, Nat.and_two_pow_sub_one_eq_mod] at h
  exact h
theorem swap_uis {x : World} {g : Nat} {l : List Nat} (h : UIs x g 0 l) {i j : Nat} (hi : i < l.length) (hj : j < l.length) :
    UIs ((x.drew.setCell ⟨g, 0 + i, none⟩ (.int .u32 (l.getD j 0 : Nat))).setCell ⟨g, 0 + j, none⟩ (.int .u32 (l.getD i 0 : Nat))) g 0 ((l.set i (l.getD j 0)).set j (l.getD i 0)) := by
  intro k hk
  have hk' : k < l.length := by simpa using hk
  have hx : ∀ m, m < l.length → x.drew.cell? ⟨g, 0 + m, none⟩ = some (.int .u32 (l.getD m 0 : Nat)) := fun m hm => h m hm
  generalize x.drew = y at *
  by_cases ej : k = j
  · subst ej
    have : ∃ u, (y.setCell ⟨g, 0 + i, none⟩ (.int .u32 (l.getD k 0 : Nat))).cell? ⟨g, 0 + k, none⟩ = some u := by
      by_cases ei : i = k
      · subst ei; exact ⟨_, World.cell?_setCell_same _ _ _ (hx i hi)⟩
      · exact ⟨_, by rw [World.cell?_setCell_other _ _ _ _ (fun e => by injection e with _ e; omega)]; exact hx k hk'⟩
    obtain ⟨u, hu⟩ := this
    rw [World.cell?_setCell_same _ _ _ hu]
    rw [List.getD_eq_getElem?_getD (l := (l.set i (l.getD k 0)).set k (l.getD i 0)), List.getElem?_set, if_pos rfl, if_pos (by simpa using hk')]
    rfl
  · rw [World.cell?_setCell_other _ _ _ _ (fun e => by injection e with _ e; omega)]
    rw [List.getD_eq_getElem?_getD (l := (l.set i (l.getD j 0)).set j (l.getD i 0)), List.getElem?_set, if_neg (fun e => ej e.symm), List.getElem?_set]
    by_cases ei : i = k
    · subst ei
      rw [World.cell?_setCell_same _ _ _ (hx i hi), if_pos rfl, if_pos hi]
      rfl
    · rw [World.cell?_setCell_other _ _ _ _ (fun e => by injection e with _ e; omega), if_neg ei, hx k hk', List.getD_eq_getElem?_getD]
set_option maxHeartbeats 4000000 in
set_option maxRecDepth 100000 in
theorem shuffled_any (v : Value) (S : List Nat) (w : World) (hv : USl w v S) (hn : S.length ≤ 2000) (k : Int) :
    Calls Tryd.prog 8 #[v, .int .i64 k] w fun e w' => ∃ la lc, ∃ S' : List Nat, e = .returned (.slice la S.length lc) ∧ S'.Perm S ∧ ((S.length = 0 ∧ la = none ∧ lc = 0) ∨ (0 < S.length ∧ la = some ⟨w.heap.size, 0, none⟩ ∧ S.length ≤ lc ∧ UIs w' w.heap.size 0 S' ∧ w.heap.size < w'.heap.size)) ∧ Q w w' := by
  obtain ⟨a, c, rfl⟩ := hv.form
  obtain ⟨iu, i1, i2, i3, i4⟩ := u32_info
  by_cases h0 : S.length = 0
  · have hS : S = [] := List.eq_nil_of_length_eq_zero h0
    subst hS
    clear hv
    go_enter Tryd.func8, Tryd.ntmps8
    go_wp2_with (at_builtin; go_must (refine wpList_appz w rfl (.tmp 9) rfl a c (by simp [Act.eval, Act.put]) ?_))
    refine (place_any k 2147483647 (by decide) (by decide) _).mono ?_
    rintro e w1 ⟨p, rfl, hp, rfl⟩
    go_wp2_with fail
    go_loopg [6, 7] 0 (fun gh s6 s7 wr => s6 = .int .i64 (p : Int) ∧ s7 = .int .i64 (-1) ∧ gh = 0 ∧ wr = w1)
    case atStart => exact ⟨rfl, rfl, rfl, rfl⟩
    case round =>
      obtain ⟨rfl, rfl, rfl, rfl⟩ := hrel
      go_wp2_with fail
      go_ret
      exact ⟨none, 0, [], rfl, List.Perm.refl _, Or.inl ⟨by first | trivial | rfl, rfl, rfl⟩, Q.refl _⟩
  · obtain ⟨g, o, cap, hsl, hcap, hI⟩ := hv.some (by omega)
    injection hsl with hs1 hs2 hs3
    subst hs1 hs3
    clear hs2
    have HI : Hid (UIs w g o S) := hI
    have HZ : Hid (0 < S.length) := by show 0 < S.length; omega
    have hl : (newsU S).length = S.length := by simp [newsU]
    have HA : Hid (∀ j u, (newsU S)[j]? = some u → w.cell? ((⟨g, o, none⟩ : Addr).add j) = some u) := fun j u hu => by
      obtain ⟨hj, rfl⟩ := news_at hu
      rw [show (⟨g, o, none⟩ : Addr).add j = ⟨g, o + j, none⟩ by unfold Addr.add; split <;> simp_all]
      exact hI j hj
    have H1 : Hid (Tryd.prog.info? 23 = some iu ∧ iu.size = 1 ∧ iu.bytes = 4 ∧ iu.zero = some (.int .u32 0)) := ⟨i1, i2, i3, i4⟩
    have HN : Hid ((newsU S).length = S.length) := hl
    clear hv hI h0 i1 i2 i3 i4 hl
    go_enter Tryd.func8, Tryd.ntmps8
    go_wp2_with (at_builtin; go_must (refine wpList_app w rfl (.const (.slice none 0 0)) (.tmp 9) 22 rfl 23 iu _ Tryd.underlying22 H1.out.1 H1.out.2.2.2 _ (Or.inl rfl) (by simp [Act.eval, Act.put]) ⟨g, o, none⟩ S.length c (newsU S) (by simp [Act.eval, Act.put]) (by rw [H1.out.2.1, HN.out, Nat.mul_one]) HA.out HZ.out (by omega) (by rw [H1.out.2.2.1]; omega) ?_; intro lc w1 q1 hc1 hs1 hI1 hf1; have HQ1 : Hid (Q w w1) := q1; have HS1 : Hid (w1.heap.size = w.heap.size + 1) := hs1; have HI1 : Hid (∀ j u, (newsU S)[j]? = some u → w1.cell? ⟨w.heap.size, j, none⟩ = some u) := hI1; have HF1 : Hid (∀ j, w1.frozen? ⟨w.heap.size, j, none⟩ = false) := hf1; clear q1 hs1 hI1 hf1))
    refine (place_any k 2147483647 (by decide) (by decide) _).mono ?_
    rintro e w2 ⟨p, rfl, hp, hw⟩
    subst hw
    have HU : Hid (UIs w2 w.heap.size 0 S) := fun j hj => by
      rw [Nat.zero_add]
      refine HI1.out j _ ?_
      unfold newsU
      rw [List.getElem?_map, List.getD_eq_getElem?_getD, List.getElem?_eq_getElem hj]; rfl
    have HB : Hid (w.heap.size < w2.heap.size) := by show w.heap.size < w2.heap.size; rw [HS1.out]; omega
    have HB' : Hid (w.heap.size ≤ w.heap.size) := Nat.le_refl _
    clear HI1 HA
    generalize hb : w.heap.size = b at *
    have Hb : Hid (w.heap.size = b) := hb
    clear hb
    obtain ⟨n, hn1⟩ : ∃ n, S.length = n + 1 := ⟨S.length - 1, by have := HZ.out; omega⟩
    have en : (S.length : Int) - 1 = (n : Int) := by omega
    have HN1 : Hid (S.length = n + 1) := hn1
    have hnS : n < S.length := by omega
    clear hn1
    go_wp2_with fail
    go_loopg [6, 7] n (fun gh s6 s7 wr => ∃ i s : Nat, ∃ S' : List Nat, s6 = .int .i64 (s : Int) ∧ s < 2147483648 ∧ s7 = .int .i64 (i : Int) ∧ i < S.length ∧ gh = i ∧ Hid (S'.Perm S) ∧ Hid (UIs wr b 0 S') ∧ Hid (∀ j, wr.frozen? ⟨b, j, none⟩ = false) ∧ Hid (Q w wr) ∧ Hid (b < wr.heap.size))
    case atStart => exact ⟨n, p, S, rfl, by omega, rfl, by omega, rfl, List.Perm.refl _, HU.out, HF1.out, HQ1.out, HB.out⟩
    case round =>
      obtain ⟨i, s, S', rfl, hs, rfl, hi, hgh, HP, HU', HF, HQ, HBB⟩ := hrel
      replace hgh := hgh.symm
      subst hgh
      by_cases h0 : 0 < i
      · have hl' := HP.out.length_eq
        have HL' : Hid (S'.length = S.length) := hl'
        clear hl'
        obtain ⟨s2, hs2, e2⟩ : ∃ s2 : Nat, s2 < 2147483648 ∧ bits .and .i64 ((s : Int) * 1103515 + 12345) 2147483647 = (s2 : Int) := ⟨(s * 1103515 + 12345) % 2147483648, Nat.mod_lt _ (by decide), and31 (s * 1103515 + 12345) (by omega)⟩
        obtain ⟨q, hq, e3⟩ : ∃ q : Nat, q < 2147483648 ∧ (s2 : Int).tdiv 64 = (q : Int) := ⟨s2 / 64, by omega, rfl⟩
        obtain ⟨j, hj, e4⟩ : ∃ j : Nat, j ≤ i ∧ (q : Int).tmod ((i : Int) + 1) = (j : Int) := ⟨q % (i + 1), by have := Nat.mod_lt q (show 0 < i + 1 by omega); omega, rfl⟩
        have hne : (i : Int) + 1 ≠ 0 := by omega
        go_wp2_with fail
        refine regionSw (g := b) (o := 0) (L := S.length) (c := lc) (i := i) (j := j) (si := S'.getD i 0) (sj := S'.getD j 0) rfl rfl rfl rfl rfl hi (by omega) (HU'.out i (by rw [HL'.out]; exact hi)) (HU'.out j (by rw [HL'.out]; omega)) HF.out ?_
        intro wn hwn
        rw [normSw]
        have HU2 : Hid (UIs wn b 0 ((S'.set i (S'.getD j 0)).set j (S'.getD i 0))) := by rw [hwn]; exact swap_uis HU'.out (by rw [HL'.out]; exact hi) (by rw [HL'.out]; omega)
        have HP2 : Hid (((S'.set i (S'.getD j 0)).set j (S'.getD i 0)).Perm S) := (swap_perm S' (by rw [HL'.out]; exact hi) (by rw [HL'.out]; omega)).trans HP.out
        have HF2 : Hid (∀ j, wn.frozen? ⟨b, j, none⟩ = false) := fun m => by rw [hwn, World.frozen?_setCell, World.frozen?_setCell]; exact HF.out m
        have HQ2 : Hid (Q w wn) := by rw [hwn]; exact (HQ.out.drew.set (Nat.le_of_eq Hb.out) _).set (Nat.le_of_eq Hb.out) _
        have HB2 : Hid (b < wn.heap.size) := by show b < wn.heap.size; rw [hwn]; simpa [go_sem] using HBB.out
        generalize (S'.set i (S'.getD j 0)).set j (S'.getD i 0) = S2 at *
        clear hwn HP HU' HF HQ HBB HL'
        generalize S'.getD i 0 = si at *
        generalize S'.getD j 0 = sj at *
        obtain ⟨i', rfl⟩ : ∃ i', i = i' + 1 := ⟨i - 1, by omega⟩
        have e5 : ((i' + 1 : Nat) : Int) - 1 = (i' : Int) := by omega
        go_wp2_with fail
        go_roundg i'
        case measure => go_light; omega
        case rel => go_light; exact ⟨i', s2, S2, rfl, hs2, by first | rfl | simp, by omega, rfl, HP2, HU2, HF2, HQ2, HB2⟩
      · obtain rfl : i = 0 := by omega
        go_wp2_with fail
        go_ret
        have hb := Hb.out
        subst hb
        exact ⟨_, _, S', rfl, HP.out, Or.inr ⟨HZ.out, rfl, hc1, HU'.out, HBB.out⟩, HQ.out⟩
end Go.Proofs.YtnjagokojdpgpabDoor
/- Regions that draw their order, whose last operation waits, at last, for all others (by way of some that it waits for). -/
namespace Go.Proofs.YtnjagokojdpgpabDoor
open Go.RowKit
set_option linter.unusedVariables false

def lastR (pre : List Oper) (st : Oper) : Bool :=
  ((List.range pre.length).all fun k => match pre[k]? with
    | some o => o.guard.isNone && o.after.toList.all fun e => !(Region.binds .any e) || decide (e.on < k)
    | none => true) &&
  ((st.guard.isNone && st.after.toList.all fun e => !(Region.binds .any e) || decide (e.on < pre.length)) && (List.range pre.length).all fun k => (reach pre 3 ((st.after.toList.filter (Region.binds .any)).map (·.on))).contains k)
theorem lastR_pre {pre : List Oper} {st : Oper} (h : lastR pre st = true) {k : Nat} {o : Oper} (hk : pre[k]? = some o) : o.guard = none ∧ ∀ e ∈ o.after, Region.binds .any e = true → e.on < k := by
  unfold lastR at h
  rw [Bool.and_eq_true] at h
  have hlt : k < pre.length := (List.getElem?_eq_some_iff.1 hk).1
  have h1 := List.all_eq_true.1 h.1 k (List.mem_range.2 hlt)
  rw [hk] at h1
  simp only [Bool.and_eq_true] at h1
  refine ⟨by simpa using h1.1, fun e he hb => ?_⟩
  have h2 := List.all_eq_true.1 h1.2 e (by simpa using he)
  rw [hb] at h2
  simpa using h2
theorem lastR_st {pre : List Oper} {st : Oper} (h : lastR pre st = true) : st.guard = none ∧ (∀ k, k < pre.length → k ∈ reach pre 3 ((st.after.toList.filter (Region.binds .any)).map (·.on))) ∧ ∀ e ∈ st.after, Region.binds .any e = true → e.on < pre.length := by
  unfold lastR at h
  simp only [Bool.and_eq_true] at h
  refine ⟨by simpa using h.2.1.1, fun k hk => ?_, fun e he hb => ?_⟩
  · have h1 := List.all_eq_true.1 h.2.2 k (List.mem_range.2 hk)
    simpa using h1
  · have h2 := List.all_eq_true.1 h.2.1.2 e (by simpa using he)
    rw [hb] at h2
    simpa using h2
theorem ready_ltR {pre : List Oper} {st : Oper} (hB : lastR pre st = true) {listed : Array Bool} (hs : listed.size = pre.length) (hc : ∀ (j : Nat) (o : Oper), listed.getD j false = true → pre[j]? = some o → ∀ e ∈ o.after, Region.binds .any e = true → listed.getD e.on false = true) {i : Nat} (hi : i ∈ Region.ready .any (pre ++ [st]).toArray (listed.push false)) :
    (i < pre.length ∧ i ∈ Region.ready .any pre.toArray listed) ∨ (i = pre.length ∧ ∀ k, k < pre.length → listed.getD k false = true) := by
  obtain ⟨h1, o, ho, h2⟩ := mem_ready.1 hi
  rcases Nat.lt_trichotomy i pre.length with h | h | h
  · left
    refine ⟨h, mem_ready.2 ⟨?_, o, ?_, fun e he hb => ?_⟩⟩
    · rw [← push_getD_lt listed true (by omega)]; exact h1
    · rw [← ops_lt (st := st) h]; exact ho
    · have hk : pre[i]? = some o := by rw [ops_lt h] at ho; simpa using ho
      have := (lastR_pre hB hk).2 e he hb
      rw [← push_getD_lt listed false (by omega)]
      exact h2 e he hb
  · right
    refine ⟨h, fun k hk => ?_⟩
    have hst : o = st := by
      rw [h] at ho
      simp at ho
      exact ho.symm
    subst hst
    obtain ⟨g1, g2, g3⟩ := lastR_st hB
    refine deps_got hc (fun e he hb => ?_) k (g2 k hk)
    have := g3 e he hb
    rw [← push_getD_lt listed false (by omega)]
    exact h2 e he hb
  · exfalso
    rw [List.getElem?_toArray, List.getElem?_eq_none (by simp; omega)] at ho
    cases ho
theorem ready_backR {pre : List Oper} {st : Oper} (hB : lastR pre st = true) {listed : Array Bool} (hs : listed.size = pre.length) {i : Nat} (hi : i ∈ Region.ready .any pre.toArray listed) : i ∈ Region.ready .any (pre ++ [st]).toArray (listed.push false) := by
  obtain ⟨h1, o, ho, h2⟩ := mem_ready.1 hi
  have h : i < pre.length := by
    have := (List.getElem?_eq_some_iff.1 (show pre[i]? = some o by simpa using ho)).1
    exact this
  refine mem_ready.2 ⟨?_, o, ?_, fun e he hb => ?_⟩
  · rw [push_getD_lt listed true (by omega)]; exact h1
  · rw [ops_lt h]; exact ho
  · have hk : pre[i]? = some o := by simpa using ho
    have := (lastR_pre hB hk).2 e he hb
    rw [push_getD_lt listed false (by omega)]
    exact h2 e he hb
theorem ready_nilR {pre : List Oper} {st : Oper} (hB : lastR pre st = true) {listed : Array Bool} (hs : listed.size = pre.length) (hr : Region.ready .any pre.toArray listed = []) : ∀ k, k < pre.length → listed.getD k false = true := by
  intro k
  induction k using Nat.strongRecOn with
  | ind k ih =>
    intro hk
    have hk' : k < listed.size := by omega
    cases hl : listed.getD k false with
    | true => rfl
    | false =>
      exfalso
      obtain ⟨o, ho⟩ : ∃ o, pre[k]? = some o := ⟨_, List.getElem?_eq_getElem hk⟩
      have : k ∈ Region.ready .any pre.toArray listed := by
        refine mem_ready.2 ⟨?_, o, by simpa using ho, fun e he hb => ?_⟩
        · rw [Array.getD_eq_getD_getElem?, Array.getElem?_eq_getElem hk'] at hl ⊢; exact hl
        · have := (lastR_pre hB ho).2 e he hb
          exact ih e.on this (by omega)
      rw [hr] at this
      cases this
theorem wpAny_lastR {P : Program} {pre : List Oper} {st : Oper} {C : World → Prop} {Q : Act → Prop} {Q' : Exit → Act → World → Prop} (hB : lastR pre st = true)
    (hQ : ∀ a w, C w → Q a → st.wp P a w (fun a' w' => Q' .normal a' w') Q') : ∀ (fuel : Nat) (listed : Array Bool) (a : Act) (w : World), listed.size = pre.length → (∀ (j : Nat) (o : Oper), listed.getD j false = true → pre[j]? = some o → ∀ e ∈ o.after, Region.binds .any e = true → listed.getD e.on false = true) → C w →
    wpAnyQ P .any pre.toArray C Q fuel listed a → wpAny P .any (pre ++ [st]).toArray Q' (fuel + 1) (listed.push false) a w := by
  have done : ∀ (fuel : Nat) (listed : Array Bool) (a : Act) (w : World), listed.size = pre.length → (∀ (j : Nat) (o : Oper), listed.getD j false = true → pre[j]? = some o → ∀ e ∈ o.after, Region.binds .any e = true → listed.getD e.on false = true) → C w → (∀ k, k < pre.length → listed.getD k false = true) → Q a → wpAny P .any (pre ++ [st]).toArray Q' (fuel + 1) (listed.push false) a w := by
    intro fuel listed a w hs hc hC hall hq
    obtain ⟨g1, g2, g3⟩ := lastR_st hB
    have hrn : pre.length ∈ Region.ready .any (pre ++ [st]).toArray (listed.push false) := by
      refine mem_ready.2 ⟨?_, st, by simp, fun e he hb => ?_⟩
      · rw [← hs]; exact push_getD_eq _ _
      · have := g3 e he hb
        rw [push_getD_lt listed false (by omega)]
        exact hall _ this
    refine ⟨fun hr => (by rw [hr] at hrn; cases hrn), fun i hi => ?_⟩
    have hin : i = pre.length := by
      rcases ready_ltR hB hs hc hi with ⟨h1, h2⟩ | ⟨h1, _⟩
      · exfalso
        obtain ⟨h3, _⟩ := mem_ready.1 h2
        have h4 := hall i h1
        rw [Array.getD_eq_getD_getElem?, Array.getElem?_eq_getElem (by omega)] at h3 h4
        simp at h3 h4
        rw [h4] at h3
        cases h3
      · exact h1
    subst hin
    unfold wpOp
    have hget : (pre ++ [st]).toArray[pre.length]? = some st := by simp
    rw [hget]
    simp only
    rw [if_pos (by unfold Region.wanted; rw [g1])]
    refine Or.inl (Oper.wp_mono (fun a' w' h => ?_) (hQ a w hC hq))
    refine wpAny_done ?_ h fuel
    cases hrr : Region.ready .any (pre ++ [st]).toArray ((listed.push false).setIfInBounds pre.length true) with
    | nil => rfl
    | cons j js =>
      exfalso
      have hj : j ∈ Region.ready .any (pre ++ [st]).toArray ((listed.push false).setIfInBounds pre.length true) := by rw [hrr]; exact List.mem_cons_self
      obtain ⟨h3, o, ho, _⟩ := mem_ready.1 hj
      have hj2 : j < (pre ++ [st]).length := by
        have := (List.getElem?_eq_some_iff.1 (show (pre ++ [st])[j]? = some o by simpa using ho)).1
        exact this
      rw [List.length_append, List.length_singleton] at hj2
      rw [Array.getD_eq_getD_getElem?, Array.getElem?_setIfInBounds] at h3
      by_cases e : pre.length = j
      · rw [if_pos e, if_pos (by rw [Array.size_push]; omega)] at h3
        cases h3
      · rw [if_neg e, Array.getElem?_push_lt (by omega)] at h3
        have h4 := hall j (by omega)
        rw [Array.getD_eq_getD_getElem?, Array.getElem?_eq_getElem (by omega)] at h4
        simp at h3 h4
        rw [h4] at h3
        cases h3
  intro fuel
  induction fuel with
  | zero =>
    intro listed a w hs hc hC h
    exact done 0 listed a w hs hc hC (ready_nilR hB hs h.1) h.2
  | succ fuel ih =>
    intro listed a w hs hc hC h
    cases hr : Region.ready .any pre.toArray listed with
    | nil => exact done (fuel + 1) listed a w hs hc hC (ready_nilR hB hs hr) (h.1 hr)
    | cons j js =>
      have hj : j ∈ Region.ready .any pre.toArray listed := by rw [hr]; exact List.mem_cons_self
      refine ⟨fun hn => (by have := ready_backR (st := st) hB hs hj; rw [hn] at this; cases this), fun i hi => ?_⟩
      rcases ready_ltR hB hs hc hi with ⟨h1, h2⟩ | ⟨_, h2⟩
      · have hq := h.2 i h2
        obtain ⟨o, ho⟩ : ∃ o, pre[i]? = some o := ⟨_, List.getElem?_eq_getElem h1⟩
        have hg := (lastR_pre hB ho).1
        unfold qOp at hq
        unfold wpOp
        rw [ops_lt h1]
        rw [show pre.toArray[i]? = some o by simpa using ho] at hq ⊢
        simp only at hq ⊢
        have hwt : ∀ y, Region.wanted o y = true := fun y => by unfold Region.wanted; rw [hg]
        rw [if_pos (hwt _)] at hq ⊢
        refine Or.inl (Oper.wp_of_quiet hC (fun a' w' hC' hk => ?_) hq)
        rw [push_set listed (by omega)]
        have hd : ∀ e ∈ o.after, Region.binds .any e = true → listed.getD e.on false = true := by
          obtain ⟨_, o2, ho2, hd⟩ := mem_ready.1 h2
          have e2 : o = o2 := by
            rw [show pre.toArray[i]? = some o by simpa using ho] at ho2
            injection ho2
          rw [e2]
          exact hd
        exact ih (listed.setIfInBounds i true) a' w' (by simpa using hs) (closed_set ho hc hd) hC' hk
      · exfalso
        obtain ⟨h3, o, ho, _⟩ := mem_ready.1 hj
        have hj2 : j < pre.length := (List.getElem?_eq_some_iff.1 (show pre[j]? = some o by simpa using ho)).1
        have h4 := h2 j hj2
        rw [Array.getD_eq_getD_getElem?, Array.getElem?_eq_getElem (by omega)] at h3 h4
        simp at h3 h4
        rw [h4] at h3
        cases h3
/-- The region's wp: the walk of all operations but the last, each quiet in the worlds that differ by new blocks; then the last one. -/
theorem wp_region_lastR {P : Program} {id : Nat} {R : Exit → Act → World → Prop} {a : Act} {w : World} {l : List Oper} (pre : List Oper) (st : Oper) (hl : l = pre ++ [st]) (hm : P.follows .mixedOrders = true) (hB : Region.lexB .any pre.toArray = true) (hL : lastR pre st = true)
    (h : wpQuiet P pre.toArray (fun w' => ∃ n : QW w, w' = n.x) (fun a' => ∀ (n : QW w) (K : Act → World → Prop), (∀ a'' w'', R .normal a'' w'' → K a'' w'') → st.wp P a' n.x K R) pre a) : (Code.region id l.toArray true).wp P R a w := by
  subst hl
  refine wp_region_any hm ?_
  have hq := wpAnyQ_lex (C := fun w' => ∃ n : QW w, w' = n.x) (md := .any) (by simp only [Region.lexB, Bool.and_eq_true] at hB; exact hB.1) pre 0 (Array.replicate pre.length false) a (by simp) (by simp only [Region.lexB, Bool.and_eq_true] at hB; simpa using hB.2) h
  have := wpAny_lastR (Q' := R) hL (fun a' w' hC hq => by obtain ⟨n, rfl⟩ := hC; exact hq n _ (fun _ _ h => h)) pre.length (Array.replicate pre.length false) a w.drew (by simp) (fun j o hj => by rw [Array.getD_eq_getD_getElem?, Array.getElem?_replicate] at hj; split at hj <;> cases hj) ⟨⟨w.drew, (Q.refl w).drew⟩, rfl⟩ hq
  have e : (Array.replicate pre.length false).push false = Array.replicate (pre ++ [st]).toArray.size false := by
    rw [show (pre ++ [st]).toArray.size = pre.length + 1 by simp, Array.replicate_succ]
  rw [e] at this
  simpa using this
theorem wp_lastR {P : Program} {id : Nat} {R : Exit → Act → World → Prop} {a : Act} {w : World} {l : List Oper} (n : Nat) (hn : l.length = n + 1) (st : Oper) (hst : l[n]? = some st) (hm : P.follows .mixedOrders = true) (hB : Region.lexB .any (l.take n).toArray = true) (hL : lastR (l.take n) st = true)
    (h : wpQuiet P (l.take n).toArray (fun w' => ∃ n : QW w, w' = n.x) (fun a' => ∀ (n : QW w) (K : Act → World → Prop), (∀ a'' w'', R .normal a'' w'' → K a'' w'') → st.wp P a' n.x K R) (l.take n) a) : (Code.region id l.toArray true).wp P R a w := by
  refine wp_region_lastR (l.take n) st ?_ hm hB hL h
  have h1 : n < l.length := by omega
  have h2 : l[n] = st := by rw [List.getElem?_eq_getElem h1] at hst; injection hst
  rw [← h2, List.take_append_getElem h1, List.take_of_length_le (by omega)]
end Go.Proofs.YtnjagokojdpgpabDoor
/- Accumulators: New, Copy, Merge, Exact. -/
namespace Go.Proofs.YtnjagokojdpgpabDoor
open Go.RowKit
set_option linter.unusedVariables false
set_option linter.unusedSimpArgs false

theorem Q.fbn {w w' : World} {B : Nat} (f : Fb B w w') (h : w.heap.size ≤ B) : Q w w' := f.q (Q.refl w) h
def accObj (a0 a1 a2 a3 a4 m c : Int) : Obj := .cells #[.int .u64 a0, .int .u64 a1, .int .u64 a2, .int .u64 a3, .int .u64 a4, .int .i64 m, .int .i64 c] 66
theorem acc_made (w : World) (l : List Nat) (c : Nat) (N : Nat → Nat) (hr : Rep N (sumZ l)) : AccOf (w.alloc (accObj (N 0) (N 1) (N 2) (N 3) (N 4) (metV l : Nat) c)) w.heap.size l c N := by
  unfold accObj
  refine ⟨fun j hj => ?_, hr, by simp [go_sem], by simp [go_sem], fun j => by simp [go_sem]⟩
  rcases j with _ | _ | _ | _ | _ | j
  · simp [go_sem]
  · simp [go_sem]
  · simp [go_sem]
  · simp [go_sem]
  · simp [go_sem]
  · omega
theorem acc_nil (w : World) : AccOf (w.alloc (accObj 0 0 0 0 0 0 0)) w.heap.size [] 0 (fun _ => 0) := acc_made w [] 0 (fun _ => 0) Rep.nil
theorem acc_q (w : World) (a0 a1 a2 a3 a4 m c : Int) : Q w (w.alloc (accObj a0 a1 a2 a3 a4 m c)) := (Q.refl w).cells _ _
set_option maxHeartbeats 400000 in
theorem new_any (w : World) : Calls Tryd.prog 11 #[] w fun e w' => e = .returned (.pointer (some ⟨w.heap.size, 0, none⟩)) ∧ AccOf w' w.heap.size [] 0 (fun _ => 0) ∧ Q w w' ∧ w.heap.size < w'.heap.size := by
  go_enter Tryd.func11, Tryd.ntmps11
  go_wp2_with fail
  go_ret
  exact ⟨rfl, acc_nil w, acc_q w 0 0 0 0 0 0 0, by simp [go_sem]⟩
set_option maxHeartbeats 1000000 in
set_option maxRecDepth 100000 in
theorem copy_any (l : List Nat) (B c : Nat) (N : Nat → Nat) (w : World) (hA : AccOf w B l c N) : Calls Tryd.prog 37 #[.pointer (some ⟨B, 0, none⟩)] w fun e w' => e = .returned (.pointer (some ⟨w.heap.size, 0, none⟩)) ∧ AccOf w' w.heap.size l c N ∧ Q w w' ∧ w.heap.size < w'.heap.size := by
  have c0 := hA.n 0 (by decide)
  have c1 := hA.n 1 (by decide)
  have c2 := hA.n 2 (by decide)
  have c3 := hA.n 3 (by decide)
  have c4 := hA.n 4 (by decide)
  have c5 := hA.m
  have c6 := hA.c
  have HR : Hid (Rep N (sumZ l)) := hA.r
  clear hA
  go_enter Tryd.func37, Tryd.ntmps37
  go_wp2_with fail
  go_ret
  exact ⟨rfl, acc_made w l c N HR.out, acc_q w _ _ _ _ _ _ _, by simp [go_sem]⟩
theorem USl.block {w : World} {v : Value} {S : List Nat} (h : USl w v S) (h0 : 0 < S.length) {g o cap : Nat} (e : v = .slice (Option.some ⟨g, o, none⟩) S.length cap) : g < w.heap.size := by
  obtain ⟨g', o', cap', e', _, hI⟩ := h.some h0
  rw [e] at e'
  injection e' with e1
  injection e1 with e1
  injection e1 with e1
  subst e1
  have hc := hI 0 h0
  rcases Nat.lt_or_ge g w.heap.size with k | k
  · exact k
  · have : w.heap[g]? = none := Array.getElem?_eq_none k
    simp [World.cell?, this] at hc
set_option maxHeartbeats 1000000 in
theorem exact_any0 (v : Value) (S : List Nat) (w : World) (hv : USl w v S) (hb : ∀ i, S.getD i 0 < 4294967296) (hn : S.length ≤ 2147483648) (hT : Tab w) :
    Calls Tryd.prog 9 #[v] w fun e w' => e = .returned (.int .u32 (sumV S 1 : Nat)) ∧ Q w w' := by
  have hm : ∀ s ∈ S, s < 4294967296 := fun s hs => by
    obtain ⟨i, hi, rfl⟩ := List.getElem_of_mem hs
    have := hb i
    rw [List.getD_eq_getElem?_getD, List.getElem?_eq_getElem hi] at this
    exact this
  have HZ : Hid (2 * (sumZ S).natAbs < m64 ^ 5) := sumZ_fits hm hn
  have HV : Hid (USl w v S) := hv
  have HG : Hid (∀ g o cap, 0 < S.length → v = .slice (some ⟨g, o, none⟩) S.length cap → g < w.heap.size) := fun g o cap h0 e => hv.block h0 e
  have HB : Hid (∀ i, S.getD i 0 < 4294967296) := hb
  have HT : Hid (Tab w) := hT
  clear hv hb hT hm
  go_enter Tryd.func9, Tryd.ntmps9
  go_wp2_with fail
  have q0 : Q w (w.alloc (accObj 0 0 0 0 0 0 0)) := acc_q w 0 0 0 0 0 0 0
  refine (acc_add v S [] w.heap.size 0 (fun _ => 0) _ (acc_nil w) (HV.out.next q0) (fun g o cap h0 e => Nat.ne_of_lt (HG.out g o cap h0 e)) HB.out (by omega)).mono ?_
  rintro e w1 ⟨rfl, ⟨N', hA⟩, hF⟩
  rw [List.nil_append] at hA
  have HQ : Hid (Q w w1) := hF.q q0 (Nat.le_refl _)
  clear q0 hF
  go_wp2_with fail
  refine (asum_any S w.heap.size _ N' _ hA HZ.out (HQ.out.tab HT.out)).mono ?_
  rintro e w2 ⟨rfl, q2⟩
  go_wp2_with fail
  go_ret
  exact ⟨rfl, HQ.out.trans q2⟩
theorem exact_any (v : Value) (S : List Nat) (w : World) (hv : USl w v S) (hg : ∀ g o cap, v = .slice (some ⟨g, o, none⟩) S.length cap → g < w.heap.size) (hb : ∀ i, S.getD i 0 < 4294967296) (hn : S.length ≤ 2147483648) (hT : Tab w) :
    Calls Tryd.prog 9 #[v] w fun e w' => e = .returned (.int .u32 (sumV S 1 : Nat)) ∧ Q w w' := exact_any0 v S w hv hb hn hT
/-- Five words written. -/
def put5 (w : World) (A : Nat) (D : Nat → Nat) : World := ((((w.setCell ⟨A, 0, none⟩ (.int .u64 (D 0 : Nat))).setCell ⟨A, 1, none⟩ (.int .u64 (D 1 : Nat))).setCell ⟨A, 2, none⟩ (.int .u64 (D 2 : Nat))).setCell ⟨A, 3, none⟩ (.int .u64 (D 3 : Nat))).setCell ⟨A, 4, none⟩ (.int .u64 (D 4 : Nat))
theorem put5_fb {w : World} {A : Nat} {D : Nat → Nat} : Fb A w (put5 w A D) := (((((Fb.refl A w).set rfl _).set rfl _).set rfl _).set rfl _).set rfl _
theorem put5_off {w : World} {A B j : Nat} {D : Nat → Nat} (h : 5 ≤ j) : (put5 w A D).cell? ⟨B, j, none⟩ = w.cell? ⟨B, j, none⟩ := by
  unfold put5
  rw [World.cell?_setCell_other _ _ _ _ (fun e => by injection e with _ e; omega), World.cell?_setCell_other _ _ _ _ (fun e => by injection e with _ e; omega), World.cell?_setCell_other _ _ _ _ (fun e => by injection e with _ e; omega), World.cell?_setCell_other _ _ _ _ (fun e => by injection e with _ e; omega), World.cell?_setCell_other _ _ _ _ (fun e => by injection e with _ e; omega)]
theorem put5_in {w : World} {A : Nat} {N D : Nat → Nat} (h : WIs w A N) : WIs (put5 w A D) A D := by
  have c0 := h 0 (by decide)
  have c1 := h 1 (by decide)
  have c2 := h 2 (by decide)
  have c3 := h 3 (by decide)
  have c4 := h 4 (by decide)
  unfold put5
  intro j hj
  rcases j with _ | _ | _ | _ | _ | j
  · simp [go_sem, c0, c1, c2, c3, c4]
  · simp [go_sem, c0, c1, c2, c3, c4]
  · simp [go_sem, c0, c1, c2, c3, c4]
  · simp [go_sem, c0, c1, c2, c3, c4]
  · simp [go_sem, c0, c1, c2, c3, c4]
  · omega
set_option maxHeartbeats 4000000 in
set_option maxRecDepth 100000 in
theorem merge_any (l m : List Nat) (A B c c' : Nat) (N M : Nat → Nat) (w : World) (hA : AccOf w A l c N) (hB : AccOf w B m c' M) (hn : c + c' ≤ 35184372087808) :
    Calls Tryd.prog 13 #[.pointer (some ⟨A, 0, none⟩), .pointer (some ⟨B, 0, none⟩)] w fun e w' => e = .returned (.tuple #[]) ∧ AccOf w' A (l ++ m) (c + c') (dgV N M) ∧ Fb A w w' := by
  have a0 := hA.n 0 (by decide)
  have a1 := hA.n 1 (by decide)
  have a2 := hA.n 2 (by decide)
  have a3 := hA.n 3 (by decide)
  have a4 := hA.n 4 (by decide)
  have b0 := hB.n 0 (by decide)
  have b1 := hB.n 1 (by decide)
  have b2 := hB.n 2 (by decide)
  have b3 := hB.n 3 (by decide)
  have b4 := hB.n 4 (by decide)
  have da0 := qw_cell a0
  have da1 := qw_cell a1
  have da2 := qw_cell a2
  have da3 := qw_cell a3
  have da4 := qw_cell a4
  have db0 := qw_cell b0
  have db1 := qw_cell b1
  have db2 := qw_cell b2
  have db3 := qw_cell b3
  have db4 := qw_cell b4
  have n0 := qw_some w
  have HA : Hid (AccOf w A l c N) := hA
  have HB : Hid (AccOf w B m c' M) := hB
  have HP : Hid (∀ n : QW w, Calls Tryd.prog 40 #[.agg #[.int .u64 (N 0 : Nat), .int .u64 (N 1 : Nat), .int .u64 (N 2 : Nat), .int .u64 (N 3 : Nat), .int .u64 (N 4 : Nat)], .agg #[.int .u64 (M 0 : Nat), .int .u64 (M 1 : Nat), .int .u64 (M 2 : Nat), .int .u64 (M 3 : Nat), .int .u64 (M 4 : Nat)]] n.x fun e w' => e = .returned (.agg #[.int .u64 (dgV N M 0 : Nat), .int .u64 (dgV N M 1 : Nat), .int .u64 (dgV N M 2 : Nat), .int .u64 (dgV N M 3 : Nat), .int .u64 (dgV N M 4 : Nat)]) ∧ Q n.x w') := fun n => nplus_any N M hA.r.lt hB.r.lt n.x
  clear hA hB a0 a1 a2 a3 a4 b0 b1 b2 b3 b4
  go_enter Tryd.func13, Tryd.ntmps13
  go_wp2_with fail
  refine wp_lastR 12 rfl _ rfl (by kernel_rfl) (by kernel_rfl) (by kernel_rfl) ?_
  simp only [List.take_succ_cons, List.take_zero]
  repeat (first | go_big_quiet_step (first | (go_at_call 40; exact calls_qw (HP.out _))) | quiet_step (first | (go_at_call 40; exact calls_qw (HP.out _))))
  refine wpQuiet_nil ?_
  intro nn K hK
  have HA1 : Hid (AccOf nn.x A l c N) := HA.out.next nn.q
  have HB1 : Hid (AccOf nn.x B m c' M) := HB.out.next nn.q
  have HQ1 : Hid (Q w nn.x) := nn.q
  clear HP da0 da1 da2 da3 da4 db0 db1 db2 db3 db4 n0
  have e0 := HA1.out.n 0 (by decide)
  have e1 := HA1.out.n 1 (by decide)
  have e2 := HA1.out.n 2 (by decide)
  have e3 := HA1.out.n 3 (by decide)
  have e4 := HA1.out.n 4 (by decide)
  have z0 := HA1.out.z
  go_wp2_with fail
  have HF2 : Hid (Fb A w (put5 nn.x A (dgV N M))) := (HQ1.out.fb A).trans put5_fb
  have HN2 : Hid (WIs (put5 nn.x A (dgV N M)) A (dgV N M)) := put5_in HA1.out.n
  have a5 : (put5 nn.x A (dgV N M)).cell? ⟨A, 5, none⟩ = some (.int .i64 (metV l : Nat)) := by rw [put5_off (by decide)]; exact HA1.out.m
  have a6 : (put5 nn.x A (dgV N M)).cell? ⟨A, 6, none⟩ = some (.int .i64 (c : Nat)) := by rw [put5_off (by decide)]; exact HA1.out.c
  have b5 : (put5 nn.x A (dgV N M)).cell? ⟨B, 5, none⟩ = some (.int .i64 (metV m : Nat)) := by rw [put5_off (by decide)]; exact HB1.out.m
  have b6 : (put5 nn.x A (dgV N M)).cell? ⟨B, 6, none⟩ = some (.int .i64 (c' : Nat)) := by rw [put5_off (by decide)]; exact HB1.out.c
  have z2 : ∀ j, (put5 nn.x A (dgV N M)).frozen? ⟨A, j, none⟩ = false := fun j => by rw [put5_fb.frz]; exact z0 j
  have HR : Hid (Rep (dgV N M) (sumZ (l ++ m))) := by
    show Rep (dgV N M) (sumZ (l ++ m))
    rw [sumZ_append]; exact HA.out.r.plus HB.out.r
  obtain ⟨y, hy⟩ : ∃ y, put5 nn.x A (dgV N M) = y := ⟨_, rfl⟩
  rw [hy] at a5 a6 b5 b6 z2 HF2 HN2
  unfold put5 at hy
  rw [hy]
  clear hy e0 e1 e2 e3 e4 z0 HA1 HB1 HQ1 HA HB
  have hor := or_small (metV l) (metV_lt l) (metV m) (metV_lt m)
  have HM : Hid (metV (l ++ m) = metV l ||| metV m) := metV_append l m
  generalize metV l = ml at *
  generalize metV m = mm at *
  have da5 := qw_cell a5
  have db5 := qw_cell b5
  have n0 := qw_some y
  refine wp_lastR 11 rfl _ rfl (by kernel_rfl) (by kernel_rfl) (by kernel_rfl) ?_
  simp only [List.take_succ_cons, List.take_zero]
  repeat (first | go_big_quiet_step (fail) | quiet_step (fail))
  refine wpQuiet_nil ?_
  intro n2 K2 hK2
  have f5 := n2.q.cell a5
  have f6 := n2.q.cell a6
  have g6 := n2.q.cell b6
  have zf : ∀ j, n2.x.frozen? ⟨A, j, none⟩ = false := fun j => by rw [n2.q.2]; exact z2 j
  have HF3 : Hid (Fb A w n2.x) := HF2.out.trans (n2.q.fb A)
  have HN3 : Hid (WIs n2.x A (dgV N M)) := fun j hj => n2.q.cell (HN2.out j hj)
  clear da5 db5 n0 a5 a6 b5 b6 z2 HF2 HN2
  generalize n2.x = y2 at *
  have z5 := zf 5
  go_wp2_with fail
  have h6 : (y2.setCell ⟨A, 5, none⟩ (.int .i64 ((ml ||| mm : Nat) : Int))).cell? ⟨A, 6, none⟩ = some (.int .i64 (c : Nat)) := by rw [set_off (by decide)]; exact f6
  have k6 : (y2.setCell ⟨A, 5, none⟩ (.int .i64 ((ml ||| mm : Nat) : Int))).cell? ⟨B, 6, none⟩ = some (.int .i64 (c' : Nat)) := by
    rw [World.cell?_setCell_other _ _ _ _ (fun e => by injection e with _ e; omega)]; exact g6
  have h5 : (y2.setCell ⟨A, 5, none⟩ (.int .i64 ((ml ||| mm : Nat) : Int))).cell? ⟨A, 5, none⟩ = some (.int .i64 ((ml ||| mm : Nat) : Int)) := set_same f5
  have HN4 : Hid (WIs (y2.setCell ⟨A, 5, none⟩ (.int .i64 ((ml ||| mm : Nat) : Int))) A (dgV N M)) := fun j hj => by rw [set_off (by omega)]; exact HN3.out j hj
  have z4 : ∀ j, (y2.setCell ⟨A, 5, none⟩ (.int .i64 ((ml ||| mm : Nat) : Int))).frozen? ⟨A, j, none⟩ = false := fun j => by rw [World.frozen?_setCell]; exact zf j
  have HF4 : Hid (Fb A w (y2.setCell ⟨A, 5, none⟩ (.int .i64 ((ml ||| mm : Nat) : Int)))) := HF3.out.set rfl _
  generalize y2.setCell ⟨A, 5, none⟩ (.int .i64 ((ml ||| mm : Nat) : Int)) = y3 at *
  clear f5 f6 g6 zf HF3 HN3 z5 hor
  have da6 := qw_cell h6
  have db6 := qw_cell k6
  have n0 := qw_some y3
  have ew : wrap64 ((c : Int) + (c' : Int)) = ((c + c' : Nat) : Int) := by unfold wrap64; omega
  refine wp_lastR 11 rfl _ rfl (by kernel_rfl) (by kernel_rfl) (by kernel_rfl) ?_
  simp only [List.take_succ_cons, List.take_zero]
  repeat (first | go_big_quiet_step (fail) | quiet_step (fail))
  refine wpQuiet_nil ?_
  intro n3 K3 hK3
  have f5 := n3.q.cell h5
  have f6 := n3.q.cell h6
  have zf : ∀ j, n3.x.frozen? ⟨A, j, none⟩ = false := fun j => by rw [n3.q.2]; exact z4 j
  have HF5 : Hid (Fb A w n3.x) := HF4.out.trans (n3.q.fb A)
  have HN5 : Hid (WIs n3.x A (dgV N M)) := fun j hj => n3.q.cell (HN4.out j hj)
  clear da6 db6 n0 h5 h6 k6 z4 HF4 HN4
  generalize n3.x = y4 at *
  have z6 := zf 6
  have HX : Hid (AccOf (y4.setCell ⟨A, 6, none⟩ (.int .i64 ((c + c' : Nat) : Int))) A (l ++ m) (c + c') (dgV N M)) := by
    have h : AccOf y4 A (l ++ m) c (dgV N M) := ⟨HN5.out, HR.out, by rw [HM.out]; exact f5, f6, zf⟩
    exact h.cnt
  have HY : Hid (Fb A w (y4.setCell ⟨A, 6, none⟩ (.int .i64 ((c + c' : Nat) : Int)))) := HF5.out.set rfl _
  go_wp2_with fail
  refine bodyPost_end (results_none Tryd.results13 _ _ _) rfl ⟨rfl, HX.out, HY.out⟩
end Go.Proofs.YtnjagokojdpgpabDoor

/- A region that draws its order and stores nothing: each operation with a fact that lasts; those that are guarded are known to be let through, or known to be left out. -/
import Derived.Test.YtedafbbpcpebbaaGa34b2b13
import Derived.Test.YtedafbbpcpebbaaG159b1f7b
import Derived.Test.YtedafbbpcpebbaaGd42ab7df
namespace Go.Proofs.Ytedafbbpcpebbaa
open Go.RowKit
set_option linter.unusedVariables false
set_option linter.unusedSimpArgs false

theorem dst_mem {l : List Oper} {s : List Nat} (hs : l.map (fun o : Oper => o.dst) = s.map some) {k j : Nat} (h : dstOf l k = some j) : s[k]? = some j := by
  unfold dstOf at h
  have h1 : (l.map (fun o : Oper => o.dst))[k]? = (s.map some)[k]? := by rw [hs]
  rw [List.getElem?_map, List.getElem?_map] at h1
  cases hl : l[k]? with
  | none => rw [hl] at h; cases h
  | some o =>
    rw [hl] at h h1
    cases hk : s[k]? with
    | none => rw [hk] at h1; cases h1
    | some t =>
      rw [hk] at h1
      have h2 : some o.dst = some (some t) := h1
      injection h2 with h2
      have h3 : o.dst = some j := h
      rw [h2] at h3
      injection h3 with h3
      rw [h3]
theorem dst_of {l : List Oper} {s : List Nat} (hs : l.map (fun o : Oper => o.dst) = s.map some) {k j : Nat} (h : s[k]? = some j) : dstOf l k = some j := by
  have h1 : (l.map (fun o : Oper => o.dst))[k]? = (s.map some)[k]? := by rw [hs]
  rw [List.getElem?_map, List.getElem?_map, h] at h1
  unfold dstOf
  cases hl : l[k]? with
  | none => rw [hl] at h1; cases h1
  | some o =>
    rw [hl] at h1
    have h2 : some o.dst = some (some j) := h1
    injection h2
set_option maxHeartbeats 1000000 in
theorem wp_region_factsS {P : Program} {id : Nat} {R : Exit → Act → World → Prop} {a0 : Act} {w : World} {l : List Oper} (s : List Nat) (F : Nat → Value → World → Prop) (skip : Nat → Bool)
    (hm : P.follows .mixedOrders = true) (hB : regS l = true) (hs : l.map (fun o : Oper => o.dst) = s.map some) (hmax : ∀ t ∈ s, t < a0.tmps.size)
    (hst : ∀ i v x x', F i v x → Q x x' → F i v x')
    (hgu : ∀ (i : Nat) (o : Oper) (g : Nat) (b : Bool), l[i]? = some o → o.guard = some (g, b) → ∀ v x, F g v x → (v = .bool b ↔ skip i = false))
    (hgn : ∀ (i : Nat) (o : Oper), l[i]? = some o → o.guard = none → skip i = false)
    (hsk : ∀ i x, skip i = true → F i undef x)
    (hop : ∀ i t o (a : Act) x, skip i = false → s[i]? = some t → l[i]? = some o → Q w x → (∀ j, j ∉ s → a.tmps[j]? = a0.tmps[j]?) → (∀ ed ∈ o.after, Region.binds .any ed = true → ∀ t', s[ed.on]? = some t' → ∃ v, a.tmps[t']? = some v ∧ F ed.on v x) → Yld P R o a x t (F i))
    (hend : ∀ (a : Act) x, Q w x → a.tmps.size = a0.tmps.size → a.defers = a0.defers → (∀ j, j ∉ s → a.tmps[j]? = a0.tmps[j]?) → (∀ i t, s[i]? = some t → ∃ v, a.tmps[t]? = some v ∧ F i v x) → Shut (R .normal a x)) :
    (Code.region id l.toArray true).wp P R a0 w := by
  have oth : ∀ {a : Act}, (∀ j, (∀ k, dstOf l k ≠ some j) → a.tmps[j]? = a0.tmps[j]?) → ∀ j, j ∉ s → a.tmps[j]? = a0.tmps[j]? := fun h j hj => h j (fun k hk => hj (List.mem_of_getElem? (dst_mem hs hk)))
  refine wp_region_slots (fun done val x => Q w x ∧ ∀ i, done i = true → F i (val i) x) hm hB (fun i t h => hmax t (List.mem_of_getElem? (dst_mem hs h))) ⟨(Q.refl w).drew, fun i h => by cases h⟩ ?_ ?_ ?_
  · intro i o a x done val ho hd hdep I hoth hvals hg
    have hil : i < l.length := (List.getElem?_eq_some_iff.1 ho).1
    have hlen : l.length = s.length := by have := congrArg List.length hs; simpa using this
    obtain ⟨t, ht⟩ : ∃ t, s[i]? = some t := ⟨_, List.getElem?_eq_getElem (by omega)⟩
    have hdst : o.dst = some t := by rw [← dstOf_at ho]; exact dst_of hs ht
    have hski : skip i = false := by
      cases hgd : o.guard with
      | none => exact hgn i o ho hgd
      | some gb =>
        obtain ⟨g, b⟩ := gb
        obtain ⟨⟨ed, he, hb, hon⟩, _⟩ := (regS_at hB ho).1 g b hgd
        have hdone := hdep ed he hb
        rw [hon] at hdone
        exact (hgu i o g b ho hgd (val g) x (I.2 g hdone)).1 (hg g b hgd)
    have hrun := hop i t o a x hski ht ho I.1 (oth hoth) (fun ed he hb t' ht' => ⟨val ed.on, hvals ed.on t' (hdep ed he hb) (dst_of hs ht'), I.2 ed.on (hdep ed he hb)⟩)
    refine ⟨Oper.wp_mono ?_ hrun.out⟩
    rintro a' x' ⟨v, rfl, q', hf⟩
    refine ⟨v, by rw [hdst], I.1.trans q', fun j hj => ?_⟩
    by_cases e : j = i
    · subst e; rw [upd_eq]; exact hf
    · rw [upd_ne _ _ e] at hj ⊢
      exact hst _ _ _ _ (I.2 j hj) q'
  · intro i o x done val g b ho hd hdep I hgd hne
    have hsk' : skip i = true := by
      cases h : skip i with
      | true => rfl
      | false =>
        obtain ⟨⟨ed, he, hb, hon⟩, _⟩ := (regS_at hB ho).1 g b hgd
        have hdone := hdep ed he hb
        rw [hon] at hdone
        exact absurd ((hgu i o g b ho hgd (val g) x (I.2 g hdone)).2 h) hne
    refine ⟨I.1, fun j hj => ?_⟩
    by_cases e : j = i
    · subst e; rw [upd_eq]; exact hsk _ _ hsk'
    · rw [upd_ne _ _ e] at hj ⊢
      exact I.2 j hj
  · intro a x val I size defers other vals
    refine hend a x I.1 size defers (oth other) (fun i t ht => ⟨val i, vals i t (dst_of hs ht), I.2 i ?_⟩)
    have hlen : l.length = s.length := by have := congrArg List.length hs; simpa using this
    have := (List.getElem?_eq_some_iff.1 ht).1
    exact decide_eq_true (by omega)
end Go.Proofs.Ytedafbbpcpebbaa
/- Keys of samples as plain numbers; what Key and FromKey return. -/
namespace Go.Proofs.Ytedafbbpcpebbaa
open Go.RowKit

def keyN (s : Nat) : Nat := if s < 2147483648 then s + 2147483648 else 4294967295 - s
def fkeyN (k : Nat) : Nat := if 2147483648 ≤ k then k - 2147483648 else 4294967295 - k
theorem keyN_lt {s : Nat} (h : s < 4294967296) : keyN s < 4294967296 := by unfold keyN; split <;> omega
theorem fkeyN_lt {s : Nat} (h : s < 4294967296) : fkeyN s < 4294967296 := by unfold fkeyN; split <;> omega
theorem keyV_N {s : Nat} (h : s < 4294967296) : keyV (s : Int) = (keyN s : Int) := by
  unfold keyN
  by_cases g : s < 2147483648
  · rw [keyV_lo (by omega), if_pos g]; omega
  · rw [keyV_hi (by omega), if_neg g]; omega
theorem keyN_inj {a b : Nat} (ha : a < 4294967296) (hb : b < 4294967296) (h : keyN a = keyN b) : a = b := by
  unfold keyN at h; split at h <;> split at h <;> omega
theorem fkey_key {s : Nat} (h : s < 4294967296) : fkeyN (keyN s) = s := by
  unfold keyN fkeyN; split <;> split <;> omega
theorem key_fkey {k : Nat} (h : k < 4294967296) : keyN (fkeyN k) = k := by
  unfold keyN fkeyN; split <;> split <;> omega

theorem not_hi (k : Int) (h0 : 2147483648 ≤ k) (h1 : k ≤ 4294967295) : bits .andNot .u32 k 2147483648 = k - 2147483648 := by go_bits2
set_option maxHeartbeats 400000 in
theorem fromkey_any (k : Nat) (h1 : k < 4294967296) (w : World) :
    Calls Try.prog 79 #[.int .u32 k] w fun e w' => e = .returned (.int .u32 (fkeyN k : Nat)) ∧ w' = w := by
  by_cases h : k < 2147483648
  · have e1 := and_lo k (by omega) (by omega)
    go_enter Try.func79, Try.ntmps79
    go_wp2
    go_ret
    exact ⟨ret_int (by unfold fkeyN; rw [if_neg (by omega)]; omega), rfl⟩
  · have e1 := and_hi k (by omega) (by omega)
    have e2 := not_hi k (by omega) (by omega)
    go_enter Try.func79, Try.ntmps79
    go_wp2
    go_ret
    exact ⟨ret_int (by unfold fkeyN; rw [if_pos (by omega)]; omega), rfl⟩
set_option maxHeartbeats 400000 in
theorem keyn_any (s : Nat) (h1 : s < 4294967296) (w : World) :
    Calls Try.prog 77 #[.int .u32 s] w fun e w' => e = .returned (.int .u32 (keyN s : Nat)) ∧ w' = w := by
  have := key_any s (by omega) (by omega) w
  rw [keyV_N h1] at this
  exact this
end Go.Proofs.Ytedafbbpcpebbaa
/- Lifting: keys that go round; what Lift and Drop return, the program's and the document's. -/
namespace Go.Proofs.Ytedafbbpcpebbaa
open Go.RowKit
set_option linter.unusedVariables false

/-- A half, rounded down, of a number that goes round 2^32. -/
def hlfN (d : Nat) : Nat := if d < 2147483648 then d / 2 else d / 2 + 2147483648
theorem hlfN_lt {d : Nat} (h : d < 4294967296) : hlfN d < 4294967296 := by unfold hlfN; split <;> omega
def addN (a b : Nat) : Nat := (a + b) % 4294967296
def lesN (a b : Nat) : Nat := (a + 4294967296 - b) % 4294967296
theorem addN_lt (a b : Nat) : addN a b < 4294967296 := Nat.mod_lt _ (by decide)
theorem lesN_lt (a b : Nat) : lesN a b < 4294967296 := Nat.mod_lt _ (by decide)
theorem addN_comm (a b : Nat) : addN a b = addN b a := by unfold addN; rw [Nat.add_comm]
theorem add_e (a b : Nat) : ((a : Int) + (b : Int)) % 4294967296 = (addN a b : Nat) := by unfold addN; omega
theorem sub_e (a b : Nat) (hb : b < 4294967296) : ((a : Int) - (b : Int)) % 4294967296 = (lesN a b : Nat) := by unfold lesN; omega
theorem add_h (a : Nat) : ((a : Int) + 2147483648) % 4294967296 = (addN a 2147483648 : Nat) := by unfold addN; omega
theorem sub_h (a : Nat) : ((a : Int) - 2147483648) % 4294967296 = (lesN a 2147483648 : Nat) := by unfold lesN; omega
theorem sp_drewN {a b : World} (h : Q a b) (n : Nat) : Q a (b.drewN n) := h.trans ⟨⟨rfl, rfl, rfl, Nat.le_refl _, fun _ _ => rfl⟩, fun _ => rfl⟩
set_option maxHeartbeats 400000 in
theorem halved_any (d : Nat) (hd : d < 4294967296) (w : World) : Calls Try.prog 78 #[.int .u32 (d : Int)] w fun e w' => e = .returned (.int .u32 (hlfN d : Nat)) ∧ w' = w := by
  go_enter Try.func78, Try.ntmps78
  go_wp2_with fail
  go_ret
  exact ⟨ret_int (by unfold hlfN wrap32; split <;> omega), rfl⟩
set_option maxHeartbeats 400000 in
theorem fromdiff_any (d : Nat) (hd : d < 4294967296) (w : World) : Calls Try.prog 80 #[.int .u32 (d : Int)] w fun e w' => e = .returned (.int .u32 (fkeyN (addN d 2147483648) : Nat)) ∧ w' = w := by
  have e1 := add_h d
  go_enter Try.func80, Try.ntmps80
  go_wp2_with fail
  refine (fromkey_any _ (addN_lt d 2147483648) _).mono ?_
  rintro e w1 ⟨rfl, rfl⟩
  go_wp2_with fail
  go_ret
  exact ⟨rfl, rfl⟩
set_option maxHeartbeats 400000 in
theorem differ_any (d : Nat) (hd : d < 4294967296) (w : World) : Calls Try.prog 81 #[.int .u32 (d : Int)] w fun e w' => e = .returned (.int .u32 (lesN (keyN d) 2147483648 : Nat)) ∧ w' = w := by
  have e1 := sub_h (keyN d)
  go_enter Try.func81, Try.ntmps81
  go_wp2_with fail
  refine (keyn_any _ hd _).mono ?_
  rintro e w1 ⟨rfl, rfl⟩
  go_wp2_with fail
  go_ret
  exact ⟨ret_int e1, rfl⟩
def lcoN (r b : Nat) : Nat := lesN (keyN r) (keyN b)
def ltN (r b : Nat) : Nat := addN (keyN b) (hlfN (lcoN r b))
def lcgN (r g b : Nat) : Nat := lesN (keyN g) (ltN r b)
def lyN (r g b : Nat) : Nat := addN (ltN r b) (hlfN (lcgN r g b))
def lift0 (r g b : Nat) : Nat := fkeyN (lyN r g b)
def lift1 (r g b : Nat) : Nat := fkeyN (addN (lcgN r g b) 2147483648)
def lift2 (r g b : Nat) : Nat := fkeyN (addN (lcoN r b) 2147483648)
def dfN (d : Nat) : Nat := lesN (keyN d) 2147483648
def dtN (y cg : Nat) : Nat := lesN (keyN y) (hlfN (dfN cg))
def dbN (y cg co : Nat) : Nat := lesN (dtN y cg) (hlfN (dfN co))
def drop0 (y cg co : Nat) : Nat := fkeyN (addN (dbN y cg co) (dfN co))
def drop1 (y cg co : Nat) : Nat := fkeyN (addN (dfN cg) (dtN y cg))
def drop2 (y cg co : Nat) : Nat := fkeyN (dbN y cg co)
def a3 (x y z : Nat) : Value := .agg #[.int .u32 (x : Nat), .int .u32 (y : Nat), .int .u32 (z : Nat)]
def t3 (x y z : Nat) : Value := .tuple #[.int .u32 (x : Nat), .int .u32 (y : Nat), .int .u32 (z : Nat)]
/-- A method's three samples in a box, and the box of its answer. -/
structure B3 (w wz : World) (r g b : Nat) : Prop where
  q : Q w wz
  d0 : wz.cell? ⟨w.heap.size + 1, 0, none⟩ = some (.int .u32 (r : Int))
  d1 : wz.cell? ⟨w.heap.size + 1, 1, none⟩ = some (.int .u32 (g : Int))
  d2 : wz.cell? ⟨w.heap.size + 1, 2, none⟩ = some (.int .u32 (b : Int))
  k0 : wz.cell? ⟨w.heap.size + 1 + 1, 0, none⟩ = some (.int .u32 0)
  k1 : wz.cell? ⟨w.heap.size + 1 + 1, 1, none⟩ = some (.int .u32 0)
  k2 : wz.cell? ⟨w.heap.size + 1 + 1, 2, none⟩ = some (.int .u32 0)
  f0 : wz.frozen? ⟨w.heap.size + 1 + 1, 0, none⟩ = false
  f1 : wz.frozen? ⟨w.heap.size + 1 + 1, 1, none⟩ = false
  f2 : wz.frozen? ⟨w.heap.size + 1 + 1, 2, none⟩ = false
theorem b3_of (w : World) (t : TypeId) (r g b : Nat) : B3 w (((w.alloc (Obj.cells #[] t)).alloc (Obj.cells #[.int .u32 (r : Int), .int .u32 (g : Int), .int .u32 (b : Int)] 47)).alloc (Obj.cells #[.int .u32 0, .int .u32 0, .int .u32 0] 47)) r g b where
  q := (((Q.refl w).cells _ _).cells _ _).cells _ _
  d0 := by simp [go_sem]
  d1 := by simp [go_sem]
  d2 := by simp [go_sem]
  k0 := by simp [go_sem]
  k1 := by simp [go_sem]
  k2 := by simp [go_sem]
  f0 := by simp [go_sem]
  f1 := by simp [go_sem]
  f2 := by simp [go_sem]
theorem B3.next {w wz w4 : World} {r g b : Nat} (h : B3 w wz r g b) (q : Q wz w4) : B3 w w4 r g b :=
  ⟨h.q.trans q, q.cell h.d0, q.cell h.d1, q.cell h.d2, q.cell h.k0, q.cell h.k1, q.cell h.k2, (q.2 _).trans h.f0, (q.2 _).trans h.f1, (q.2 _).trans h.f2⟩
set_option maxHeartbeats 2000000 in
theorem lfrom_any (r g b : Nat) (hr : r < 4294967296) (hg : g < 4294967296) (hb : b < 4294967296) (w : World) : Calls Try.prog 47 #[.agg #[], .agg #[.int .u32 (r : Int), .int .u32 (g : Int), .int .u32 (b : Int)]] w fun e w' => e = .returned (a3 (lift0 r g b) (lift1 r g b) (lift2 r g b)) ∧ Q w w' := by
  have e1 := sub_e (keyN r) (keyN b) (keyN_lt hb)
  have e2 := add_e (keyN b) (hlfN (lesN (keyN r) (keyN b)))
  have e3 := sub_e (keyN g) (addN (keyN b) (hlfN (lesN (keyN r) (keyN b)))) (addN_lt _ _)
  have e4 := add_e (addN (keyN b) (hlfN (lesN (keyN r) (keyN b)))) (hlfN (lesN (keyN g) (addN (keyN b) (hlfN (lesN (keyN r) (keyN b))))))
  have KV : Hid (∀ (s : Nat) (h : s < 4294967296) (w : World), Calls Try.prog 77 #[.int .u32 s] w fun e w' => e = .returned (.int .u32 (keyN s : Nat)) ∧ w' = w) := keyn_any
  go_enter Try.func47, Try.ntmps47
  go_wp2_with fail
  have hB : Hid (B3 w _ r g b) := b3_of w 60 r g b
  generalize (((w.alloc (Obj.cells #[] 60)).alloc (Obj.cells #[.int .u32 (r : Int), .int .u32 (g : Int), .int .u32 (b : Int)] 47)).alloc (Obj.cells #[.int .u32 0, .int .u32 0, .int .u32 0] 47)) = wz at hB ⊢
  have d0 := qw_cell hB.out.d0
  have d1 := qw_cell hB.out.d1
  have d2 := qw_cell hB.out.d2
  have n0 := qw_some wz
  refine wp_region_quiet_Q (by kernel_rfl) (by kernel_rfl) ?_
  repeat (first | go_big_quiet_step (first | (go_at_call 77; exact calls_qs (KV.out _ (by assumption) _))) | quiet_step (first | (go_at_call 77; exact calls_qs (KV.out _ (by assumption) _))))
  refine wpQuiet_nil ?_
  intro w4 hw'
  have hq4 := qw_out hw'
  clear hw' d0 d1 d2 n0 KV
  replace hB : Hid (B3 w w4 r g b) := hB.out.next hq4
  clear hq4
  go_wp2_with fail
  refine (halved_any _ (lesN_lt _ _) _).mono ?_
  rintro e w1 ⟨rfl, rfl⟩
  go_wp2_with fail
  refine (halved_any _ (lesN_lt _ _) _).mono ?_
  rintro e w1 ⟨rfl, rfl⟩
  go_wp2_with fail
  refine (fromkey_any _ (addN_lt _ _) _).mono ?_
  rintro e w1 ⟨rfl, rfl⟩
  go_wp2_with fail
  refine (fromdiff_any _ (lesN_lt _ _) _).mono ?_
  rintro e w1 ⟨rfl, rfl⟩
  go_wp2_with fail
  refine (fromdiff_any _ (lesN_lt _ _) _).mono ?_
  rintro e w1 ⟨rfl, rfl⟩
  have hk0 := hB.out.k0
  have hk1 := hB.out.k1
  have hk2 := hB.out.k2
  have hf0 := hB.out.f0
  have hf1 := hB.out.f1
  have hf2 := hB.out.f2
  go_wp2_with fail
  refine bodyPost_ret (v := a3 (lift0 r g b) (lift1 r g b) (lift2 r g b)) (by simp [results, Try.results47, go_sem, hk0, hk1, hk2, a3, lift0, lift1, lift2, lyN, ltN, lcgN, lcoN]) rfl ⟨rfl, ?_⟩
  exact ((hB.out.q.set (by show _ ≤ w.heap.size + 1 + 1; omega) _).set (by show _ ≤ w.heap.size + 1 + 1; omega) _).set (by show _ ≤ w.heap.size + 1 + 1; omega) _
set_option maxHeartbeats 2000000 in
theorem lto_any (r g b : Nat) (hr : r < 4294967296) (hg : g < 4294967296) (hb : b < 4294967296) (w : World) : Calls Try.prog 51 #[.agg #[], .agg #[.int .u32 (r : Int), .int .u32 (g : Int), .int .u32 (b : Int)]] w fun e w' => e = .returned (a3 (drop0 r g b) (drop1 r g b) (drop2 r g b)) ∧ Q w w' := by
  have e1 := sub_e (keyN r) (hlfN (lesN (keyN g) 2147483648)) (hlfN_lt (lesN_lt _ _))
  have e2 := sub_e (lesN (keyN r) (hlfN (lesN (keyN g) 2147483648))) (hlfN (lesN (keyN b) 2147483648)) (hlfN_lt (lesN_lt _ _))
  have e3 := add_e (lesN (lesN (keyN r) (hlfN (lesN (keyN g) 2147483648))) (hlfN (lesN (keyN b) 2147483648))) (lesN (keyN b) 2147483648)
  have e4 := add_e (lesN (keyN g) 2147483648) (lesN (keyN r) (hlfN (lesN (keyN g) 2147483648)))
  have KV : Hid (∀ (s : Nat) (h : s < 4294967296) (w : World), Calls Try.prog 77 #[.int .u32 s] w fun e w' => e = .returned (.int .u32 (keyN s : Nat)) ∧ w' = w) := keyn_any
  have DV : Hid (∀ (s : Nat) (h : s < 4294967296) (w : World), Calls Try.prog 81 #[.int .u32 s] w fun e w' => e = .returned (.int .u32 (lesN (keyN s) 2147483648 : Nat)) ∧ w' = w) := differ_any
  go_enter Try.func51, Try.ntmps51
  go_wp2_with fail
  have hB : Hid (B3 w _ r g b) := b3_of w 60 r g b
  generalize (((w.alloc (Obj.cells #[] 60)).alloc (Obj.cells #[.int .u32 (r : Int), .int .u32 (g : Int), .int .u32 (b : Int)] 47)).alloc (Obj.cells #[.int .u32 0, .int .u32 0, .int .u32 0] 47)) = wz at hB ⊢
  have d0 := qw_cell hB.out.d0
  have d1 := qw_cell hB.out.d1
  have d2 := qw_cell hB.out.d2
  have n0 := qw_some wz
  refine wp_region_quiet_Q (by kernel_rfl) (by kernel_rfl) ?_
  repeat (first | go_big_quiet_step (first | (go_at_call 77; exact calls_qs (KV.out _ (by assumption) _)) | (go_at_call 81; exact calls_qs (DV.out _ (by assumption) _))) | quiet_step (first | (go_at_call 77; exact calls_qs (KV.out _ (by assumption) _)) | (go_at_call 81; exact calls_qs (DV.out _ (by assumption) _))))
  refine wpQuiet_nil ?_
  intro w4 hw'
  have hq4 := qw_out hw'
  clear hw' d0 d1 d2 n0 KV DV
  replace hB : Hid (B3 w w4 r g b) := hB.out.next hq4
  clear hq4
  go_wp2_with fail
  refine (halved_any _ (lesN_lt _ _) _).mono ?_
  rintro e w1 ⟨rfl, rfl⟩
  go_wp2_with fail
  refine (halved_any _ (lesN_lt _ _) _).mono ?_
  rintro e w1 ⟨rfl, rfl⟩
  go_wp2_with fail
  refine (fromkey_any _ (addN_lt _ _) _).mono ?_
  rintro e w1 ⟨rfl, rfl⟩
  go_wp2_with fail
  refine (fromkey_any _ (addN_lt _ _) _).mono ?_
  rintro e w1 ⟨rfl, rfl⟩
  go_wp2_with fail
  refine (fromkey_any _ (lesN_lt _ _) _).mono ?_
  rintro e w1 ⟨rfl, rfl⟩
  have hk0 := hB.out.k0
  have hk1 := hB.out.k1
  have hk2 := hB.out.k2
  have hf0 := hB.out.f0
  have hf1 := hB.out.f1
  have hf2 := hB.out.f2
  go_wp2_with fail
  refine bodyPost_ret (v := a3 (drop0 r g b) (drop1 r g b) (drop2 r g b)) (by simp [results, Try.results51, go_sem, hk0, hk1, hk2, a3, drop0, drop1, drop2, dbN, dtN, dfN]) rfl ⟨rfl, ?_⟩
  exact ((hB.out.q.set (by show _ ≤ w.heap.size + 1 + 1; omega) _).set (by show _ ≤ w.heap.size + 1 + 1; omega) _).set (by show _ ≤ w.heap.size + 1 + 1; omega) _
set_option maxHeartbeats 1000000 in
theorem lift_any (r g b : Nat) (hr : r < 4294967296) (hg : g < 4294967296) (hb : b < 4294967296) (w : World) : Calls Try.prog 18 #[.int .u32 (r : Int), .int .u32 (g : Int), .int .u32 (b : Int)] w fun e w' => e = .returned (t3 (lift0 r g b) (lift1 r g b) (lift2 r g b)) ∧ Q w w' := by
  go_enter Try.func18, Try.ntmps18
  go_wp2_with fail
  refine (lfrom_any r g b hr hg hb _).mono ?_
  rintro e w1 ⟨rfl, q1⟩
  have HQ : Hid (Q w w1) := q1
  clear q1
  unfold a3
  go_wp2_with fail
  go_quiet (fail)
  have HZ : Hid (Q w ((w1.alloc (Obj.cells #[.int .u32 ((lift0 r g b : Nat) : Int), .int .u32 ((lift1 r g b : Nat) : Int), .int .u32 ((lift2 r g b : Nat) : Int)] 47)).drewN nq)) := sp_drewN (HQ.out.cells _ _) _
  generalize ((w1.alloc (Obj.cells #[.int .u32 ((lift0 r g b : Nat) : Int), .int .u32 ((lift1 r g b : Nat) : Int), .int .u32 ((lift2 r g b : Nat) : Int)] 47)).drewN nq) = wq at HZ ⊢
  go_wp2_with fail
  refine bodyPost_ret (v := t3 (lift0 r g b) (lift1 r g b) (lift2 r g b)) (by simp [results, Try.results18, go_sem, t3]) rfl ⟨rfl, HZ.out⟩
set_option maxHeartbeats 1000000 in
theorem drop_any (r g b : Nat) (hr : r < 4294967296) (hg : g < 4294967296) (hb : b < 4294967296) (w : World) : Calls Try.prog 20 #[.int .u32 (r : Int), .int .u32 (g : Int), .int .u32 (b : Int)] w fun e w' => e = .returned (t3 (drop0 r g b) (drop1 r g b) (drop2 r g b)) ∧ Q w w' := by
  go_enter Try.func20, Try.ntmps20
  go_wp2_with fail
  refine (lto_any r g b hr hg hb _).mono ?_
  rintro e w1 ⟨rfl, q1⟩
  have HQ : Hid (Q w w1) := q1
  clear q1
  unfold a3
  go_wp2_with fail
  go_quiet (fail)
  have HZ : Hid (Q w ((w1.alloc (Obj.cells #[.int .u32 ((drop0 r g b : Nat) : Int), .int .u32 ((drop1 r g b : Nat) : Int), .int .u32 ((drop2 r g b : Nat) : Int)] 47)).drewN nq)) := sp_drewN (HQ.out.cells _ _) _
  generalize ((w1.alloc (Obj.cells #[.int .u32 ((drop0 r g b : Nat) : Int), .int .u32 ((drop1 r g b : Nat) : Int), .int .u32 ((drop2 r g b : Nat) : Int)] 47)).drewN nq) = wq at HZ ⊢
  go_wp2_with fail
  refine bodyPost_ret (v := t3 (drop0 r g b) (drop1 r g b) (drop2 r g b)) (by simp [results, Try.results20, go_sem, t3]) rfl ⟨rfl, HZ.out⟩
set_option maxHeartbeats 400000 in
theorem r7key_any (s : Nat) (h1 : s < 4294967296) (w : World) :
    Calls Try.prog 48 #[.int .u32 s] w fun e w' => e = .returned (.int .u32 (keyN s : Nat)) ∧ w' = w := by
  by_cases h : s < 2147483648
  · have e1 : ((s : Int) / 2147483648 == 0) = true := by rw [beq_iff_eq]; omega
    go_enter Try.func48, Try.ntmps48
    go_wp2
    go_ret
    exact ⟨ret_int (by unfold keyN; rw [if_pos (by omega)]; omega), rfl⟩
  · have e1 : ((s : Int) / 2147483648 == 0) = false := by rw [beq_eq_false_iff_ne]; omega
    go_enter Try.func48, Try.ntmps48
    go_wp2
    go_ret
    exact ⟨ret_int (by unfold keyN; rw [if_neg (by omega)]; omega), rfl⟩
set_option maxHeartbeats 400000 in
theorem r7fromkey_any (k : Nat) (h1 : k < 4294967296) (w : World) :
    Calls Try.prog 50 #[.int .u32 k] w fun e w' => e = .returned (.int .u32 (fkeyN k : Nat)) ∧ w' = w := by
  by_cases h : k < 2147483648
  · have e1 : ((k : Int) / 2147483648 == 1) = false := by rw [beq_eq_false_iff_ne]; omega
    go_enter Try.func50, Try.ntmps50
    go_wp2
    go_ret
    exact ⟨ret_int (by unfold fkeyN; rw [if_neg (by omega)]; omega), rfl⟩
  · have e1 : ((k : Int) / 2147483648 == 1) = true := by rw [beq_iff_eq]; omega
    go_enter Try.func50, Try.ntmps50
    go_wp2
    go_ret
    exact ⟨ret_int (by unfold fkeyN; rw [if_pos (by omega)]; omega), rfl⟩
theorem and_low32 (n : Int) : bits .and .i64 n 4294967295 = n % 4294967296 := by
  show IntKind.i64.wrap ((BitVec.ofInt 64 n &&& BitVec.ofInt 64 4294967295).toNat : Int) = _
  rw [BitVec.toNat_and, BitVec.toNat_ofInt, BitVec.toNat_ofInt, show ((4294967295 : Int) % ((2 ^ 64 : Nat) : Int)).toNat = 2 ^ 32 - 1 from by decide, Nat.and_two_pow_sub_one_eq_mod, IntKind.wrap_i64]
  omega
theorem tm_even {n : Int} (h : n % 2 = 0) : n.tmod 2 = 0 := Int.tmod_eq_zero_of_dvd (by omega)
theorem tm_odd {n : Int} (h : n % 2 = 1) : n.tmod 2 ≠ 0 := fun e => by have := Int.dvd_of_tmod_eq_zero e; omega
theorem td_even {n : Int} (h : n % 2 = 0) : n.tdiv 2 = n / 2 := by
  obtain ⟨k, rfl⟩ : ∃ k, n = 2 * k := ⟨n / 2, by omega⟩
  rw [Int.mul_tdiv_cancel_left _ (by decide)]; omega
set_option maxHeartbeats 400000 in
theorem r7half_any (d : Nat) (hd : d < 4294967296) (w : World) : Calls Try.prog 49 #[.int .u32 (d : Int)] w fun e w' => e = .returned (.int .u32 (hlfN d : Nat)) ∧ w' = w := by
  have HK : Hid (∀ n : Int, bits .and .i64 n 4294967295 = n % 4294967296) := and_low32
  by_cases h : d < 2147483648
  · have e1 : decide ((2147483648 : Int) ≤ (d : Int)) = false := decide_eq_false (by omega)
    by_cases h2 : d % 2 = 0
    · have e2 : ((d : Int) % 2 == 0) = true := by rw [beq_iff_eq]; omega
      go_enter Try.func49, Try.ntmps49
      go_wp2
      go_ret
      exact ⟨ret_int (by rw [HK.out]; unfold hlfN; rw [if_pos h]; omega), rfl⟩
    · have e2 : ((d : Int) % 2 == 0) = false := by rw [beq_eq_false_iff_ne]; omega
      go_enter Try.func49, Try.ntmps49
      go_wp2
      go_ret
      exact ⟨ret_int (by rw [HK.out]; unfold hlfN; rw [if_pos h]; omega), rfl⟩
  · have e1 : (2147483648 : Int) ≤ (d : Int) := by omega
    by_cases h2 : d % 2 = 0
    · have e2 : ((((d : Int) - 4294967296).tmod 2) == 0) = true := by rw [beq_iff_eq]; exact tm_even (by omega)
      go_enter Try.func49, Try.ntmps49
      go_wp2
      go_ret
      exact ⟨ret_int (by rw [HK.out, td_even (by omega)]; unfold hlfN; rw [if_neg h]; omega), rfl⟩
    · have e2 : ((((d : Int) - 4294967296).tmod 2) == 0) = false := by rw [beq_eq_false_iff_ne]; exact tm_odd (by omega)
      go_enter Try.func49, Try.ntmps49
      go_wp2
      go_ret
      exact ⟨ret_int (by rw [HK.out, td_even (by omega)]; unfold hlfN; rw [if_neg h]; omega), rfl⟩
set_option maxHeartbeats 1000000 in
theorem rlift_any (r g b : Nat) (hr : r < 4294967296) (hg : g < 4294967296) (hb : b < 4294967296) (w : World) : Calls Try.prog 19 #[.int .u32 (r : Int), .int .u32 (g : Int), .int .u32 (b : Int)] w fun e w' => e = .returned (t3 (lift0 r g b) (lift1 r g b) (lift2 r g b)) ∧ Q w w' := by
  have e1 := sub_e (keyN r) (keyN b) (keyN_lt hb)
  have e2 := add_e (keyN b) (hlfN (lesN (keyN r) (keyN b)))
  have e3 := sub_e (keyN g) (addN (keyN b) (hlfN (lesN (keyN r) (keyN b)))) (addN_lt _ _)
  have e4 := add_e (addN (keyN b) (hlfN (lesN (keyN r) (keyN b)))) (hlfN (lesN (keyN g) (addN (keyN b) (hlfN (lesN (keyN r) (keyN b))))))
  have e5 := add_h (lesN (keyN r) (keyN b))
  have e6 := add_h (lesN (keyN g) (addN (keyN b) (hlfN (lesN (keyN r) (keyN b)))))
  go_enter Try.func19, Try.ntmps19
  go_wp2_with fail
  refine (r7key_any _ hr _).mono ?_
  rintro e w1 ⟨rfl, rfl⟩
  go_wp2_with fail
  refine (r7key_any _ hb _).mono ?_
  rintro e w1 ⟨rfl, rfl⟩
  go_wp2_with fail
  refine (r7key_any _ hb _).mono ?_
  rintro e w1 ⟨rfl, rfl⟩
  go_wp2_with fail
  refine (r7half_any _ (lesN_lt _ _) _).mono ?_
  rintro e w1 ⟨rfl, rfl⟩
  go_wp2_with fail
  refine (r7key_any _ hg _).mono ?_
  rintro e w1 ⟨rfl, rfl⟩
  go_wp2_with fail
  refine (r7half_any _ (lesN_lt _ _) _).mono ?_
  rintro e w1 ⟨rfl, rfl⟩
  go_wp2_with fail
  refine (r7fromkey_any _ (addN_lt _ _) _).mono ?_
  rintro e w1 ⟨rfl, rfl⟩
  go_wp2_with fail
  refine (r7fromkey_any _ (addN_lt _ _) _).mono ?_
  rintro e w1 ⟨rfl, rfl⟩
  go_wp2_with fail
  refine (r7fromkey_any _ (addN_lt _ _) _).mono ?_
  rintro e w1 ⟨rfl, rfl⟩
  go_wp2_with fail
  go_ret3
  exact ⟨rfl, Q.refl _⟩
set_option maxHeartbeats 1000000 in
theorem rdrop_any (r g b : Nat) (hr : r < 4294967296) (hg : g < 4294967296) (hb : b < 4294967296) (w : World) : Calls Try.prog 21 #[.int .u32 (r : Int), .int .u32 (g : Int), .int .u32 (b : Int)] w fun e w' => e = .returned (t3 (drop0 r g b) (drop1 r g b) (drop2 r g b)) ∧ Q w w' := by
  have e1 := sub_h (keyN g)
  have e2 := sub_h (keyN b)
  have e3 := sub_e (keyN r) (hlfN (lesN (keyN g) 2147483648)) (hlfN_lt (lesN_lt _ _))
  have e4 := sub_e (lesN (keyN r) (hlfN (lesN (keyN g) 2147483648))) (hlfN (lesN (keyN b) 2147483648)) (hlfN_lt (lesN_lt _ _))
  have e5 := add_e (lesN (keyN b) 2147483648) (lesN (lesN (keyN r) (hlfN (lesN (keyN g) 2147483648))) (hlfN (lesN (keyN b) 2147483648)))
  have e6 := add_e (lesN (keyN g) 2147483648) (lesN (keyN r) (hlfN (lesN (keyN g) 2147483648)))
  go_enter Try.func21, Try.ntmps21
  go_wp2_with fail
  refine (r7key_any _ hg _).mono ?_
  rintro e w1 ⟨rfl, rfl⟩
  go_wp2_with fail
  refine (r7key_any _ hb _).mono ?_
  rintro e w1 ⟨rfl, rfl⟩
  go_wp2_with fail
  refine (r7key_any _ hr _).mono ?_
  rintro e w1 ⟨rfl, rfl⟩
  go_wp2_with fail
  refine (r7half_any _ (lesN_lt _ _) _).mono ?_
  rintro e w1 ⟨rfl, rfl⟩
  go_wp2_with fail
  refine (r7half_any _ (lesN_lt _ _) _).mono ?_
  rintro e w1 ⟨rfl, rfl⟩
  go_wp2_with fail
  refine (r7fromkey_any _ (addN_lt _ _) _).mono ?_
  rintro e w1 ⟨rfl, rfl⟩
  go_wp2_with fail
  refine (r7fromkey_any _ (addN_lt _ _) _).mono ?_
  rintro e w1 ⟨rfl, rfl⟩
  go_wp2_with fail
  refine (r7fromkey_any _ (lesN_lt _ _) _).mono ?_
  rintro e w1 ⟨rfl, rfl⟩
  go_wp2_with fail
  go_ret3
  exact ⟨congrArg Ending.returned (by unfold t3 drop0 drop1 drop2 dbN dtN dfN; rw [addN_comm (lesN (keyN b) 2147483648)]; rfl), Q.refl _⟩
end Go.Proofs.Ytedafbbpcpebbaa

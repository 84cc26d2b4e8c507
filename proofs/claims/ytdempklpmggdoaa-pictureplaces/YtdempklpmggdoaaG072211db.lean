/- What is done to each sample: Map's loop, and a picture's planes one by one. -/
import Derived.Test.YtdempklpmggdoaaG2ffc47ac
import Derived.Test.YtdempklpmggdoaaG593b3e97
namespace Go.Proofs.Ytdempklpmggdoaa
open Go.RowKit
set_option linter.unusedVariables false
set_option linter.unusedSimpArgs false

/-- A function of a sample. -/
structure Fun1 (f : FuncId) (recv : Value) (F : Nat → Nat) : Prop where
  en : ∀ (args : Array Value) (x : World), (callFunc f args).run Try.prog x = .ok (.enter f args) x
  c : ∀ (s : Nat), s < 4294967296 → ∀ x : World, Calls Try.prog f #[recv, .int .u32 (s : Int)] x fun e x' => e = .returned (.int .u32 ((F s : Nat) : Int)) ∧ Q x x'
  lt : ∀ (s : Nat), s < 4294967296 → F s < 4294967296
theorem getD_map (F : Nat → Nat) (S : List Nat) {i : Nat} (h : i < S.length) : (S.map F).getD i 0 = F (S.getD i 0) := by
  rw [List.getD_eq_getElem?_getD, List.getElem?_map, List.getD_eq_getElem?_getD, List.getElem?_eq_getElem h]; rfl
set_option maxHeartbeats 4000000 in
set_option maxRecDepth 100000 in
theorem cmap_any (f : FuncId) (recv : Value) (F : Nat → Nat) (hF : Fun1 f recv F) (w : World) (n : Nat) (x : PL) (h : Gd w n x) (h1 : 1 ≤ n) (h2 : n ≤ 65536) :
    Calls Try.prog 63 #[.func (.func f) #[recv] #[], .slice (some ⟨x.g, x.o, none⟩) x.S.length x.cap] w fun e w' => ∃ y : PL, e = .returned (.slice (some ⟨y.g, y.o, none⟩) y.S.length y.cap) ∧ y.S = x.S.map F ∧ Hid (Mine w.heap.size w' n y) ∧ Q w w' := by
  have HG : Hid (Gd w n x) := h
  have HF : Hid (Fun1 f recv F) := hF
  have HL : Hid (x.S.length = n) := h.len
  rw [HL.out]
  obtain ⟨M, hmk, hfill⟩ := make_u32 n (by omega)
  have F0 : Hid (Fill w (w.alloc (.cells M 27)) w.heap.size n (fun i => F (x.S.getD i 0)) 0) := by
    obtain ⟨p1, p2, p3, p4, p5⟩ := hfill w
    exact ⟨p1, p2, fun i hi => absurd hi (Nat.not_lt_zero _), p4, p5⟩
  have en := hF.en
  clear h hF hfill
  go_enter Try.func63, Try.ntmps63
  go_wp2_with fail
  go_loopg [13] n (fun m s13 wx => ∃ i : Nat, s13 = .int .i64 i ∧ i + m = n ∧ Hid (Fill w wx w.heap.size n (fun i => F (x.S.getD i 0)) i))
  case atStart => exact ⟨0, rfl, by omega, F0⟩
  case round =>
    obtain ⟨i, rfl, him, FI⟩ := hrel
    by_cases hi : i < n
    · have hi0 : (0 : Int) ≤ (i : Int) := by omega
      have hi1 : (i : Int) < (n : Int) := by omega
      have c1 := FI.out.q.cell (HG.out.us i (by rw [HL.out]; exact hi))
      have hxi := HG.out.lt i
      obtain ⟨q, hxe⟩ : ∃ q, x.S.getD i 0 = q := ⟨_, rfl⟩
      have HV : Hid (F q = (fun i => F (x.S.getD i 0)) i) := by show _ = F (x.S.getD i 0); rw [hxe]
      rw [hxe] at c1 hxi
      have A := HF.out.c q hxi wr
      obtain ⟨z, hz⟩ : ∃ z, F q = z := ⟨_, rfl⟩
      rw [hz] at A HV
      clear hxe hz
      go_wp2_with fail
      refine A.mono ?_
      rintro e w2 ⟨rfl, q2⟩
      have F2 := FI.out.next q2
      obtain ⟨u, hu⟩ := F2.room i hi
      have fz := F2.free i
      have FN : Hid (Fill w (w2.setCell ⟨w.heap.size, i, none⟩ (.int .u32 (z : Nat))) w.heap.size n (fun i => F (x.S.getD i 0)) (i + 1)) := F2.step hi HV.out
      clear A F2
      go_wp2_with fail
      go_roundg (n - (i + 1))
      case measure => go_light; omega
      case rel => go_light; exact ⟨i + 1, by go_num, by omega, FN⟩
    · have hie : i = n := by omega
      have FE : Hid (Fill w wr w.heap.size n (fun i => F (x.S.getD i 0)) n) := by rw [hie] at FI; exact FI
      go_wp2_with fail
      have hlen : (x.S.map F).length = n := by rw [List.length_map]; exact HL.out
      refine bodyPost_ret (v := .slice (some ⟨w.heap.size, 0, none⟩) n n) (by simp [results, Try.results63, go_sem]) rfl ⟨⟨w.heap.size, 0, n, x.S.map F⟩, by show _ = Ending.returned (.slice _ (x.S.map F).length _); rw [hlen], rfl, ⟨rfl, Nat.le_refl _, ?_, ⟨hlen, by show (x.S.map F).length ≤ n; omega, fun j hj => ?_, fun j => ?_⟩, FE.out.free, FE.out.room, by show n ≤ maxLen; unfold maxLen; omega⟩, FE.out.q⟩
      · obtain ⟨u, hu⟩ := FE.out.room 0 (by omega)
        exact cell_in hu
      · have hj : j < (x.S.map F).length := hj
        rw [hlen] at hj
        show wr.cell? ⟨w.heap.size, 0 + j, none⟩ = some (.int .u32 (((x.S.map F).getD j 0 : Nat) : Int))
        rw [Nat.zero_add, getD_map F x.S (by rw [HL.out]; exact hj)]
        exact FE.out.done j hj
      · show (x.S.map F).getD j 0 < _
        by_cases hj : j < n
        · rw [getD_map F x.S (by rw [HL.out]; exact hj)]; exact HF.out.lt _ (HG.out.lt j)
        · rw [List.getD_eq_getElem?_getD, List.getElem?_eq_none (by omega)]; decide
/-- The planes of a picture that are changed. -/
def chgB (n : Int) (i : Nat) : Bool := n == -1 || n == (i : Int)
set_option maxHeartbeats 2000000 in
set_option maxRecDepth 100000 in
theorem samples_any (f : FuncId) (recv : Value) (F : Nat → Nat) (hF : Fun1 f recv F) (k : Int) (i : Nat) (w : World) (n : Nat) (x : PL) (h : Gd w n x) (h1 : 1 ≤ n) (h2 : n ≤ 65536) :
    Calls Try.prog 48 #[.agg #[.int .i64 k, .func (.func f) #[recv] #[]], .int .i64 (i : Int), .slice (some ⟨x.g, x.o, none⟩) x.S.length x.cap] w fun e w' => ∃ u, e = .returned u ∧ ∃ y : PL, u = .slice (some ⟨y.g, y.o, none⟩) y.S.length y.cap ∧ y.S = (if chgB k i = true then x.S.map F else x.S) ∧ Hid (Mine w.heap.size w' n y) ∧ Q w w' := by
  have HG : Hid (Gd w n x) := h
  have HF : Hid (Fun1 f recv F) := hF
  have qa : Hid (∀ c t, Q w (w.alloc (.cells c t))) := fun c t => (Q.refl w).cells c t
  have hv : ∀ y : PL, y.v = .slice (some ⟨y.g, y.o, none⟩) y.S.length y.cap := fun y => rfl
  clear h hF
  have yes : chgB k i = true → (k = -1 ∨ (k ≠ -1 ∧ k = i)) := fun hc => by
    unfold chgB at hc
    simp only [Bool.or_eq_true, beq_iff_eq] at hc
    omega
  cases hc : chgB k i
  · have k1 : k ≠ -1 ∧ k ≠ (i : Int) := by
      unfold chgB at hc
      simp only [Bool.or_eq_false_iff, beq_eq_false_iff_ne] at hc
      exact hc
    have b1 : (k != -1) = true := by rw [bne_iff_ne]; exact k1.1
    have b2 : (k != (i : Int)) = true := by rw [bne_iff_ne]; exact k1.2
    have b3 : (k == -1) = false := by rw [beq_eq_false_iff_ne]; exact k1.1
    have b4 : (k == (i : Int)) = false := by rw [beq_eq_false_iff_ne]; exact k1.2
    clear hc k1 yes
    go_enter Try.func48, Try.ntmps48
    go_wp2_with fail
    refine (clone_us _ n x (HG.out.next (qa.out _ _)) h1 h2).mono ?_
    rintro e w1 ⟨y, rfl, hy, hm, hq⟩
    have HY : Hid (y.S = _) := hy
    clear hy
    have hs := hq.1.size
    rw [hv]
    go_wp2_with fail
    refine bodyPost_ret (v := .slice (some ⟨y.g, y.o, none⟩) y.S.length y.cap) (by simp [results, Try.results48, go_sem]) rfl ⟨_, rfl, y, rfl, HY.out, hm.out.mono (by simp), (qa.out _ _).trans hq⟩
  · rcases yes hc with rfl | ⟨k1, rfl⟩
    · clear hc yes
      go_enter Try.func48, Try.ntmps48
      go_wp2_with fail
      refine (cmap_any f recv F HF.out _ n x (HG.out.next (qa.out _ _)) h1 h2).mono ?_
      rintro e w1 ⟨y, rfl, hy, hm, hq⟩
      have HY : Hid (y.S = _) := hy
      clear hy
      go_wp2_with fail
      refine bodyPost_ret (v := .slice (some ⟨y.g, y.o, none⟩) y.S.length y.cap) (by simp [results, Try.results48, go_sem]) rfl ⟨_, rfl, y, rfl, HY.out, hm.out.mono (by simp), (qa.out _ _).trans hq⟩
    · have b1 : ((i : Int) != -1) = true := by rw [bne_iff_ne]; exact k1
      have b3 : ((i : Int) == -1) = false := by rw [beq_eq_false_iff_ne]; exact k1
      clear hc yes
      go_enter Try.func48, Try.ntmps48
      go_wp2_with fail
      refine (cmap_any f recv F HF.out _ n x (HG.out.next (qa.out _ _)) h1 h2).mono ?_
      rintro e w1 ⟨y, rfl, hy, hm, hq⟩
      have HY : Hid (y.S = _) := hy
      clear hy
      go_wp2_with fail
      refine bodyPost_ret (v := .slice (some ⟨y.g, y.o, none⟩) y.S.length y.cap) (by simp [results, Try.results48, go_sem]) rfl ⟨_, rfl, y, rfl, HY.out, hm.out.mono (by simp), (qa.out _ _).trans hq⟩
end Go.Proofs.Ytdempklpmggdoaa
/- A picture's samples changed one by one. -/
namespace Go.Proofs.Ytdempklpmggdoaa
open Go.RowKit
set_option linter.unusedVariables false
set_option linter.unusedSimpArgs false

set_option maxHeartbeats 1000000 in
theorem hasplane_yes (sp k : Int) (p : Option Addr) (n c : Nat) (h0 : 0 ≤ k) (h1 : k < n) (w : World) : Calls Try.prog 47 #[.agg #[.int .i64 sp, .slice p n c], .int .i64 k] w fun e w' => e = .returned (.bool true) ∧ Q w w' := by
  have q0 : Hid (∀ c t, Q w (w.alloc (.cells c t))) := fun c t => (Q.refl w).cells c t
  go_enter Try.func47, Try.ntmps47
  go_wp2_with fail
  go_ret
  exact ⟨rfl, q0.out _ _⟩
def chgS (F : Nat → Nat) (k : Int) (i : Nat) (S : List Nat) : List Nat := if chgB k i = true then S.map F else S
def chgL (F : Nat → Nat) (k : Int) : Nat → List (List Nat) → List (List Nat)
  | _, [] => []
  | i, S :: t => chgS F k i S :: chgL F k (i + 1) t
theorem chgL_snoc (F : Nat → Nat) (k : Int) (S : List Nat) : ∀ (i : Nat) (l : List (List Nat)), chgL F k i (l ++ [S]) = chgL F k i l ++ [chgS F k (i + l.length) S]
  | i, [] => rfl
  | i, T :: t => by
    show chgS F k i T :: chgL F k (i + 1) (t ++ [S]) = chgS F k i T :: (chgL F k (i + 1) t ++ [chgS F k (i + (t.length + 1)) S])
    rw [chgL_snoc F k S (i + 1) t]
    rw [show i + 1 + t.length = i + (t.length + 1) by omega]
theorem chgL_len (F : Nat → Nat) (k : Int) : ∀ (i : Nat) (l : List (List Nat)), (chgL F k i l).length = l.length
  | i, [] => rfl
  | i, T :: t => by show _ + 1 = _ + 1; rw [chgL_len F k (i + 1) t]
set_option maxHeartbeats 4000000 in
set_option maxRecDepth 100000 in
theorem change_good (f : FuncId) (recv : Value) (F : Nat → Nat) (hF : Fun1 f recv F) (w : World) (sp k : Int) (g o cap a b n : Nat) (L : List PL) (h : Pc w g o a b L) (hn : L.length = n) (hcap : n ≤ cap) (hsp : spcB sp n = true) (hk : k = -1 ∨ (0 ≤ k ∧ k < n)) :
    Calls Try.prog 29 #[.agg #[.int .i64 k, .func (.func f) #[recv] #[]], .agg #[.int .i64 sp, .slice (some ⟨g, o, none⟩) n cap]] w fun e w' => ∃ g' cap' M, e = .returned (.tuple #[.agg #[.int .i64 sp, .slice (some ⟨g', 0, none⟩) n cap'], .int .i64 0]) ∧ M.map PL.S = chgL F k 0 (L.map PL.S) ∧ Hid (Nw w.heap.size w' g' cap' a b M) ∧ Q w w' := by
  have HP : Hid (Pc w g o a b L) := h
  have HF : Hid (Fun1 f recv F) := hF
  have HN : Hid (L.length = n) := hn
  have n4 : n ≤ 4 := by rw [← hn]; exact h.n4
  have n1 : 1 ≤ n := by rw [← hn]; exact h.n1
  have HSP : Hid (spcB sp n = true) := hsp
  have l1 := enters_of Try.func48 (by kernel_rfl) rfl
  clear h hn hsp hF
  have HK : Hid (k = -1 ∨ (0 ≤ k ∧ k < n)) := hk
  clear hk
  have qa : Hid (∀ a b c d e f, Q w (((w.alloc (.cells a b)).alloc (.cells c d)).alloc (.cells e f))) := fun a b c d e f => (((Q.refl w).cells _ _).cells _ _).cells _ _
  go_enter Try.func29, Try.ntmps29
  go_wp2_with fail
  refine (pcheck_good (HP.out.next (qa.out _ _ _ _ _ _)) HN.out hcap HSP.out).mono ?_
  rintro e w1 ⟨rfl, q1⟩
  have HQ1 : Hid (Q w w1) := (qa.out _ _ _ _ _ _).trans q1
  have c0 : w1.cell? ⟨w.heap.size, 0, none⟩ = some (.int .i64 k) := q1.cell (by simp [go_sem])
  have c1 : w1.cell? ⟨w.heap.size, 1, none⟩ = some (.func (.func f) #[recv] #[]) := q1.cell (by simp [go_sem])
  have p0 : w1.cell? ⟨w.heap.size + 1, 0, none⟩ = some (.int .i64 sp) := q1.cell (by simp [go_sem])
  have p1 : w1.cell? ⟨w.heap.size + 1, 1, none⟩ = some (.slice (some ⟨g, o, none⟩) n cap) := q1.cell (by simp [go_sem])
  have r0 : w1.cell? ⟨w.heap.size + 1 + 1, 0, none⟩ = some (.int .i64 0) := q1.cell (by simp [go_sem])
  have r1 : w1.cell? ⟨w.heap.size + 1 + 1, 1, none⟩ = some (.slice none 0 0) := q1.cell (by simp [go_sem])
  have rf : ∀ j, w1.frozen? ⟨w.heap.size + 1 + 1, j, none⟩ = false := fun j => (q1.2 _).trans (by simp [go_sem])
  clear q1
  have hlt2 : w.heap.size + 1 + 1 < w1.heap.size := cell_in r0
  rcases HK.out with rfl | ⟨k0, k1⟩
  · have HQ2 := HQ1
    generalize w1 = w2 at *
    have p0' := fun c t => ((Q.refl w2).cells c t).cell p0
    have p1' := fun c t => ((Q.refl w2).cells c t).cell p1
    go_wp2_with fail
    have q23 : Q w2 (w2.alloc (Obj.cells #[Value.int IntKind.i64 sp, Value.slice none 0 0] 24)) := (Q.refl w2).cells _ _
    have hz3 : (w2.alloc (Obj.cells #[Value.int IntKind.i64 sp, Value.slice none 0 0] 24)).heap.size = w2.heap.size + 1 := by simp
    have HB : Hid (Bld (w2.heap.size + 1) (w2.alloc (Obj.cells #[Value.int IntKind.i64 sp, Value.slice none 0 0] 24)) w2.heap.size sp (.slice none 0 0) a b []) := Bld.start (by simp [go_sem]) (by simp [go_sem]) (fun j => by simp [go_sem]) (by omega) a b
    generalize (w2.alloc (Obj.cells #[Value.int IntKind.i64 sp, Value.slice none 0 0] 24)) = w3 at *
    clear p0' p1'
    have HQ3 : Hid (Q w w3) := HQ2.out.trans q23
    replace c0 := q23.cell c0
    replace c1 := q23.cell c1
    replace r0 := q23.cell r0
    replace r1 := q23.cell r1
    replace rf : ∀ j, w3.frozen? ⟨w.heap.size + 1 + 1, j, none⟩ = false := fun j => (q23.2 _).trans (rf j)
    have hb3 : w.heap.size + 1 + 1 < w2.heap.size := hlt2
    go_loopg [33] n (fun m s33 wx => ∃ (i : Nat) (v : Value) (M : List PL), s33 = .int .i64 i ∧ i + m = n ∧ Hid (M.map PL.S = chgL F (-1) 0 ((L.take i).map PL.S)) ∧ Hid (Bld (w2.heap.size + 1) wx w2.heap.size sp v a b M) ∧ Hid (Q w wx) ∧ Hid (Fr w3 wx (fun b => b ≠ w2.heap.size ∧ b < w2.heap.size + 1)))
    case atStart => exact ⟨0, _, [], rfl, by omega, rfl, HB, HQ3, Fr.refl _ _⟩
    case round =>
      obtain ⟨i, v, M, rfl, him, HS, HB, HQ, HF8⟩ := hrel
      have hml : M.length = i := by have := congrArg List.length HS.out; rw [List.length_map, chgL_len, List.length_map, List.length_take, HN.out] at this; omega
      by_cases hi : i < n
      · have hi0 : (0 : Int) ≤ (i : Int) := by omega
        have hi1 : (i : Int) < (n : Int) := by omega
        obtain ⟨x, hx⟩ : ∃ x, L[i]? = some x := ⟨_, List.getElem?_eq_getElem (by rw [HN.out]; exact hi)⟩
        obtain ⟨d0, d1, d2⟩ := (HP.out.row.next HQ.out) i x hx
        unfold PL.v at d2
        have hgx : Hid (Gd w (a * b) x) := HP.out.it x (List.mem_of_getElem? hx)
        have HX : Hid (L[i]? = some x) := hx
        have c0r := HF8.out.cell c0 ⟨by show w.heap.size ≠ _; omega, by show w.heap.size < _; omega⟩
        have c1r := HF8.out.cell c1 ⟨by show w.heap.size ≠ _; omega, by show w.heap.size < _; omega⟩
        clear hx
        go_wp2_with fail
        have hq3 : Q wr (wr.alloc (Obj.cells #[Value.int IntKind.i64 ↑a, Value.int IntKind.i64 ↑b, Value.slice (some { block := x.g, off := x.o }) x.S.length x.cap] 47)) := (Q.refl wr).cells _ _
        have k0 : (wr.alloc (Obj.cells #[Value.int IntKind.i64 ↑a, Value.int IntKind.i64 ↑b, Value.slice (some { block := x.g, off := x.o }) x.S.length x.cap] 47)).cell? ⟨wr.heap.size, 0, none⟩ = some (.int .i64 (a : Int)) := by simp [go_sem]
        have k1 : (wr.alloc (Obj.cells #[Value.int IntKind.i64 ↑a, Value.int IntKind.i64 ↑b, Value.slice (some { block := x.g, off := x.o }) x.S.length x.cap] 47)).cell? ⟨wr.heap.size, 1, none⟩ = some (.int .i64 (b : Int)) := by simp [go_sem]
        have k2 : (wr.alloc (Obj.cells #[Value.int IntKind.i64 ↑a, Value.int IntKind.i64 ↑b, Value.slice (some { block := x.g, off := x.o }) x.S.length x.cap] 47)).cell? ⟨wr.heap.size, 2, none⟩ = some (.slice (some ⟨x.g, x.o, none⟩) x.S.length x.cap) := by simp [go_sem]
        generalize (wr.alloc (Obj.cells #[Value.int IntKind.i64 ↑a, Value.int IntKind.i64 ↑b, Value.slice (some { block := x.g, off := x.o }) x.S.length x.cap] 47)) = w4 at *
        have HB3 : Hid (Bld (w2.heap.size + 1) w4 w2.heap.size sp v a b M) := HB.out.next hq3
        have HQ4 : Hid (Q w w4) := HQ.out.trans hq3
        have t1 := HB3.out.c1
        have f1 := qw_cell t1
        have f2 := qw_cell k0
        have f3 := qw_cell k1
        have f4 := qw_cell k2
        have f5 := qw_cell (hq3.cell c0r)
        have f6 := qw_cell (hq3.cell c1r)
        have n0 := qw_some w4
        clear d0 d1 d2
        refine wp_region_mk [0, 1, 2, 3, 4, 5, 6, 7, 8, 9] [[10, 11, 12, 13, 14, 15]] 6 _ (by kernel_rfl) (by kernel_rfl) rfl (by kernel_rfl) ?_
        simp only [List.filterMap_cons, List.filterMap_nil, List.getElem?_cons_zero, List.getElem?_cons_succ]
        repeat (first | go_big_quiet_step (fail) | quiet_step (fail))
        refine wpQuiet_nil ?_
        intro x4 hx4
        clear f1 f2 f3 f4 f5 f6 n0
        refine tree_call 10 rfl rfl (run_fn 48 #[.tmp 44, .tmp 45, .tmp 47] _ rfl l1 (vs := #[.agg #[.int .i64 (-1), .func (.func f) #[recv] #[]], .int .i64 (i : Int), .slice (some ⟨x.g, x.o, none⟩) x.S.length x.cap]) (by simp [Act.eval])) (samples_any f recv F HF.out (-1) i x4 (a * b) x (hgx.out.next (HQ4.out.trans hx4)) HP.out.size.pos HP.out.size.ab) ?_
        rintro u w5 ⟨y, rfl, hy, hm, hq5⟩
        have hq35 : Q w4 w5 := hx4.trans hq5
        refine ⟨hq35, ?_⟩
        have HY : Hid (y.S = chgS F (-1) i x.S) := hy
        clear hy
        have HB5 := HB3.out.next (hq35.cells #[.int .i64 (a : Int), .int .i64 (b : Int), .slice (some ⟨y.g, y.o, none⟩) y.S.length y.cap] 47)
        have hz4 : w2.heap.size + 1 ≤ w4.heap.size := by have := HF8.out.size; have := hq3.1.size; omega
        have hlow := hm.out.low
        have hs34 := hx4.1.size
        obtain ⟨g7, cap7, w7, hr7, ct7, cf7, HB7, HQ7, HF7⟩ := HB5.app (HQ4.out.trans (hq35.cells _ _)) (by omega) (by have := hq35.1.size; simp; omega) (y := y) ((hm.out.next ((Q.refl w5).cells _ _)).mono (by omega)) (fun e => by have := (own_lt HB3.out.row.own e).2; omega) (fun z hz' e => by have := (HB3.out.row.it z hz').1.high; omega) (by omega) (ad := ⟨w5.heap.size, 0, none⟩) (c := 1) (one_pl a b y)
        refine tree_run 11 rfl rfl (v := .agg #[.int .i64 (a : Int), .int .i64 (b : Int), .slice (some ⟨y.g, y.o, none⟩) y.S.length y.cap]) (x' := w5) (by simp [execOp, go_sem]) hq35 ?_
        refine tree_run 12 rfl rfl (v := .slice (some ⟨w5.heap.size, 0, none⟩) 1 1) (x' := w5.alloc (.cells #[.int .i64 (a : Int), .int .i64 (b : Int), .slice (some ⟨y.g, y.o, none⟩) y.S.length y.cap] 47)) (by simp [execOp, go_sem]) (hq35.cells _ _) ?_
        refine tree_runF 13 rfl rfl rfl (x' := w7) (run_appop rfl (v := v) (v' := .slice (some ⟨w5.heap.size, 0, none⟩) 1 1) (by simp [Act.eval, Act.put]) (by simp [Act.eval, Act.put]) hr7) ?_
        refine tree_runF 14 rfl rfl rfl (v := .pointer (some ⟨w2.heap.size, 1, none⟩)) (x' := w7) (by simp [execOp, go_sem]) ?_
        refine tree_skipF 15 rfl rfl rfl (x' := w7.setCell ⟨w2.heap.size, 1, none⟩ (.slice (some ⟨g7, 0, none⟩) (M.length + 1) cap7)) (by simp [execOp, go_sem, ct7, cf7]) ?_
        refine tree_nil ?_
        have HM : Hid ((M ++ [y]).map PL.S = chgL F (-1) 0 ((L.take (i + 1)).map PL.S)) := by
          show _ = _
          rw [List.take_add_one, HX.out, List.map_append, List.map_append, HS.out]
          show _ ++ [y.S] = chgL F (-1) 0 ((L.take i).map PL.S ++ [x.S])
          rw [chgL_snoc, List.length_map, List.length_take, HN.out, Nat.zero_add, show min i n = i by omega, HY.out]
        have HF9 : Hid (Fr w3 (w7.setCell ⟨w2.heap.size, 1, none⟩ (.slice (some ⟨g7, 0, none⟩) (M.length + 1) cap7)) (fun b => b ≠ w2.heap.size ∧ b < w2.heap.size + 1)) := (HF8.out.trans ((hq3.trans (hq35.cells _ _)).fr _)).trans (HF7.out.mono (fun z hz' _ => ⟨hz'.1, fun e => by have := (own_lt HB3.out.row.own e).1; omega⟩))
        generalize w7.setCell ⟨w2.heap.size, 1, none⟩ (.slice (some ⟨g7, 0, none⟩) (M.length + 1) cap7) = w8 at *
        clear hr7 ct7 cf7 HB5 hm hq5 hq35 hx4 t1 hq3 k0 k1 k2 c0r c1r
        go_wp2_with fail
        go_roundg (n - (i + 1))
        case measure => go_light; omega
        case rel => go_light; exact ⟨i + 1, _, _, by go_num, by omega, HM, HB7, HQ7, HF9⟩
      · have hie : i = n := by omega
        have HM : Hid (M.map PL.S = chgL F (-1) 0 (L.map PL.S)) := by have := HS.out; rw [hie, List.take_of_length_le (by rw [HN.out]; exact Nat.le_refl _)] at this; exact this
        have t0 := HB.out.c0
        have t1 := HB.out.c1
        have r0r := HF8.out.cell r0 ⟨by show w.heap.size + 1 + 1 ≠ _; omega, by show w.heap.size + 1 + 1 < _; omega⟩
        have r1r := HF8.out.cell r1 ⟨by show w.heap.size + 1 + 1 ≠ _; omega, by show w.heap.size + 1 + 1 < _; omega⟩
        have rfr : ∀ j, wr.frozen? ⟨w.heap.size + 1 + 1, j, none⟩ = false := fun j => (HF8.out.frz _).trans (rf j)
        obtain ⟨hvo, ⟨hv1, hv2⟩ | ⟨gv, capv, cur, hv1, hv2⟩⟩ := HB.out.row.own
        · omega
        · subst hv1
          have HW : Hid (Nw (w2.heap.size + 1) wr gv capv a b M) := HB.out.row.nw HP.out.size (by omega) (by omega)
          rw [hml, hie] at t1
          clear hv2 hvo
          go_wp2_with fail
          have F9 : Fr wr ((wr.setCell ⟨w.heap.size + 1 + 1, 0, none⟩ (.int .i64 sp)).setCell ⟨w.heap.size + 1 + 1, 1, none⟩ (.slice (some ⟨gv, 0, none⟩) n capv)) (fun b => b ≠ w.heap.size + 1 + 1) := ((Fr.refl wr _).set (fun h => h rfl) _).set (fun h => h rfl) _
          refine bodyPost_ret (v := .tuple #[.agg #[.int .i64 sp, .slice (some ⟨gv, 0, none⟩) n capv], .int .i64 0]) (by simp [results, Try.results29, go_sem, r0r, r1r]) rfl ⟨gv, capv, M, rfl, HM.out, (HW.out.keep F9 (by have := HW.out.low; omega) (fun x hx => by have := (HW.out.it x hx).1.low; omega)).mono (by omega), (HQ.out.set (by show _ ≤ w.heap.size + 1 + 1; omega) _).set (by show _ ≤ w.heap.size + 1 + 1; omega) _⟩
  · have b1 : (k != -1) = true := by rw [bne_iff_ne]; omega
    have b3 : (k == -1) = false := by rw [beq_eq_false_iff_ne]; omega
    go_wp2_with fail
    refine (hasplane_yes sp k (some ⟨g, o, none⟩) n cap k0 k1 w1).mono ?_
    rintro e w2 ⟨rfl, q2⟩
    have HQ2 : Hid (Q w w2) := HQ1.out.trans q2
    replace hlt2 : w.heap.size + 1 + 1 < w2.heap.size := Nat.lt_of_lt_of_le hlt2 q2.1.size
    replace c0 := q2.cell c0
    replace c1 := q2.cell c1
    replace p0 := q2.cell p0
    replace p1 := q2.cell p1
    replace r0 := q2.cell r0
    replace r1 := q2.cell r1
    replace rf : ∀ j, w2.frozen? ⟨w.heap.size + 1 + 1, j, none⟩ = false := fun j => (q2.2 _).trans (rf j)
    clear q2
    have p0' := fun c t => ((Q.refl w2).cells c t).cell p0
    have p1' := fun c t => ((Q.refl w2).cells c t).cell p1
    go_wp2_with fail
    have q23 : Q w2 (w2.alloc (Obj.cells #[Value.int IntKind.i64 sp, Value.slice none 0 0] 24)) := (Q.refl w2).cells _ _
    have hz3 : (w2.alloc (Obj.cells #[Value.int IntKind.i64 sp, Value.slice none 0 0] 24)).heap.size = w2.heap.size + 1 := by simp
    have HB : Hid (Bld (w2.heap.size + 1) (w2.alloc (Obj.cells #[Value.int IntKind.i64 sp, Value.slice none 0 0] 24)) w2.heap.size sp (.slice none 0 0) a b []) := Bld.start (by simp [go_sem]) (by simp [go_sem]) (fun j => by simp [go_sem]) (by omega) a b
    generalize (w2.alloc (Obj.cells #[Value.int IntKind.i64 sp, Value.slice none 0 0] 24)) = w3 at *
    clear p0' p1'
    have HQ3 : Hid (Q w w3) := HQ2.out.trans q23
    replace c0 := q23.cell c0
    replace c1 := q23.cell c1
    replace r0 := q23.cell r0
    replace r1 := q23.cell r1
    replace rf : ∀ j, w3.frozen? ⟨w.heap.size + 1 + 1, j, none⟩ = false := fun j => (q23.2 _).trans (rf j)
    have hb3 : w.heap.size + 1 + 1 < w2.heap.size := hlt2
    go_loopg [33] n (fun m s33 wx => ∃ (i : Nat) (v : Value) (M : List PL), s33 = .int .i64 i ∧ i + m = n ∧ Hid (M.map PL.S = chgL F (k) 0 ((L.take i).map PL.S)) ∧ Hid (Bld (w2.heap.size + 1) wx w2.heap.size sp v a b M) ∧ Hid (Q w wx) ∧ Hid (Fr w3 wx (fun b => b ≠ w2.heap.size ∧ b < w2.heap.size + 1)))
    case atStart => exact ⟨0, _, [], rfl, by omega, rfl, HB, HQ3, Fr.refl _ _⟩
    case round =>
      obtain ⟨i, v, M, rfl, him, HS, HB, HQ, HF8⟩ := hrel
      have hml : M.length = i := by have := congrArg List.length HS.out; rw [List.length_map, chgL_len, List.length_map, List.length_take, HN.out] at this; omega
      by_cases hi : i < n
      · have hi0 : (0 : Int) ≤ (i : Int) := by omega
        have hi1 : (i : Int) < (n : Int) := by omega
        obtain ⟨x, hx⟩ : ∃ x, L[i]? = some x := ⟨_, List.getElem?_eq_getElem (by rw [HN.out]; exact hi)⟩
        obtain ⟨d0, d1, d2⟩ := (HP.out.row.next HQ.out) i x hx
        unfold PL.v at d2
        have hgx : Hid (Gd w (a * b) x) := HP.out.it x (List.mem_of_getElem? hx)
        have HX : Hid (L[i]? = some x) := hx
        have c0r := HF8.out.cell c0 ⟨by show w.heap.size ≠ _; omega, by show w.heap.size < _; omega⟩
        have c1r := HF8.out.cell c1 ⟨by show w.heap.size ≠ _; omega, by show w.heap.size < _; omega⟩
        clear hx
        go_wp2_with fail
        have hq3 : Q wr (wr.alloc (Obj.cells #[Value.int IntKind.i64 ↑a, Value.int IntKind.i64 ↑b, Value.slice (some { block := x.g, off := x.o }) x.S.length x.cap] 47)) := (Q.refl wr).cells _ _
        have k0 : (wr.alloc (Obj.cells #[Value.int IntKind.i64 ↑a, Value.int IntKind.i64 ↑b, Value.slice (some { block := x.g, off := x.o }) x.S.length x.cap] 47)).cell? ⟨wr.heap.size, 0, none⟩ = some (.int .i64 (a : Int)) := by simp [go_sem]
        have k1 : (wr.alloc (Obj.cells #[Value.int IntKind.i64 ↑a, Value.int IntKind.i64 ↑b, Value.slice (some { block := x.g, off := x.o }) x.S.length x.cap] 47)).cell? ⟨wr.heap.size, 1, none⟩ = some (.int .i64 (b : Int)) := by simp [go_sem]
        have k2 : (wr.alloc (Obj.cells #[Value.int IntKind.i64 ↑a, Value.int IntKind.i64 ↑b, Value.slice (some { block := x.g, off := x.o }) x.S.length x.cap] 47)).cell? ⟨wr.heap.size, 2, none⟩ = some (.slice (some ⟨x.g, x.o, none⟩) x.S.length x.cap) := by simp [go_sem]
        generalize (wr.alloc (Obj.cells #[Value.int IntKind.i64 ↑a, Value.int IntKind.i64 ↑b, Value.slice (some { block := x.g, off := x.o }) x.S.length x.cap] 47)) = w4 at *
        have HB3 : Hid (Bld (w2.heap.size + 1) w4 w2.heap.size sp v a b M) := HB.out.next hq3
        have HQ4 : Hid (Q w w4) := HQ.out.trans hq3
        have t1 := HB3.out.c1
        have f1 := qw_cell t1
        have f2 := qw_cell k0
        have f3 := qw_cell k1
        have f4 := qw_cell k2
        have f5 := qw_cell (hq3.cell c0r)
        have f6 := qw_cell (hq3.cell c1r)
        have n0 := qw_some w4
        clear d0 d1 d2
        refine wp_region_mk [0, 1, 2, 3, 4, 5, 6, 7, 8, 9] [[10, 11, 12, 13, 14, 15]] 6 _ (by kernel_rfl) (by kernel_rfl) rfl (by kernel_rfl) ?_
        simp only [List.filterMap_cons, List.filterMap_nil, List.getElem?_cons_zero, List.getElem?_cons_succ]
        repeat (first | go_big_quiet_step (fail) | quiet_step (fail))
        refine wpQuiet_nil ?_
        intro x4 hx4
        clear f1 f2 f3 f4 f5 f6 n0
        refine tree_call 10 rfl rfl (run_fn 48 #[.tmp 44, .tmp 45, .tmp 47] _ rfl l1 (vs := #[.agg #[.int .i64 (k), .func (.func f) #[recv] #[]], .int .i64 (i : Int), .slice (some ⟨x.g, x.o, none⟩) x.S.length x.cap]) (by simp [Act.eval])) (samples_any f recv F HF.out (k) i x4 (a * b) x (hgx.out.next (HQ4.out.trans hx4)) HP.out.size.pos HP.out.size.ab) ?_
        rintro u w5 ⟨y, rfl, hy, hm, hq5⟩
        have hq35 : Q w4 w5 := hx4.trans hq5
        refine ⟨hq35, ?_⟩
        have HY : Hid (y.S = chgS F (k) i x.S) := hy
        clear hy
        have HB5 := HB3.out.next (hq35.cells #[.int .i64 (a : Int), .int .i64 (b : Int), .slice (some ⟨y.g, y.o, none⟩) y.S.length y.cap] 47)
        have hz4 : w2.heap.size + 1 ≤ w4.heap.size := by have := HF8.out.size; have := hq3.1.size; omega
        have hlow := hm.out.low
        have hs34 := hx4.1.size
        obtain ⟨g7, cap7, w7, hr7, ct7, cf7, HB7, HQ7, HF7⟩ := HB5.app (HQ4.out.trans (hq35.cells _ _)) (by omega) (by have := hq35.1.size; simp; omega) (y := y) ((hm.out.next ((Q.refl w5).cells _ _)).mono (by omega)) (fun e => by have := (own_lt HB3.out.row.own e).2; omega) (fun z hz' e => by have := (HB3.out.row.it z hz').1.high; omega) (by omega) (ad := ⟨w5.heap.size, 0, none⟩) (c := 1) (one_pl a b y)
        refine tree_run 11 rfl rfl (v := .agg #[.int .i64 (a : Int), .int .i64 (b : Int), .slice (some ⟨y.g, y.o, none⟩) y.S.length y.cap]) (x' := w5) (by simp [execOp, go_sem]) hq35 ?_
        refine tree_run 12 rfl rfl (v := .slice (some ⟨w5.heap.size, 0, none⟩) 1 1) (x' := w5.alloc (.cells #[.int .i64 (a : Int), .int .i64 (b : Int), .slice (some ⟨y.g, y.o, none⟩) y.S.length y.cap] 47)) (by simp [execOp, go_sem]) (hq35.cells _ _) ?_
        refine tree_runF 13 rfl rfl rfl (x' := w7) (run_appop rfl (v := v) (v' := .slice (some ⟨w5.heap.size, 0, none⟩) 1 1) (by simp [Act.eval, Act.put]) (by simp [Act.eval, Act.put]) hr7) ?_
        refine tree_runF 14 rfl rfl rfl (v := .pointer (some ⟨w2.heap.size, 1, none⟩)) (x' := w7) (by simp [execOp, go_sem]) ?_
        refine tree_skipF 15 rfl rfl rfl (x' := w7.setCell ⟨w2.heap.size, 1, none⟩ (.slice (some ⟨g7, 0, none⟩) (M.length + 1) cap7)) (by simp [execOp, go_sem, ct7, cf7]) ?_
        refine tree_nil ?_
        have HM : Hid ((M ++ [y]).map PL.S = chgL F (k) 0 ((L.take (i + 1)).map PL.S)) := by
          show _ = _
          rw [List.take_add_one, HX.out, List.map_append, List.map_append, HS.out]
          show _ ++ [y.S] = chgL F (k) 0 ((L.take i).map PL.S ++ [x.S])
          rw [chgL_snoc, List.length_map, List.length_take, HN.out, Nat.zero_add, show min i n = i by omega, HY.out]
        have HF9 : Hid (Fr w3 (w7.setCell ⟨w2.heap.size, 1, none⟩ (.slice (some ⟨g7, 0, none⟩) (M.length + 1) cap7)) (fun b => b ≠ w2.heap.size ∧ b < w2.heap.size + 1)) := (HF8.out.trans ((hq3.trans (hq35.cells _ _)).fr _)).trans (HF7.out.mono (fun z hz' _ => ⟨hz'.1, fun e => by have := (own_lt HB3.out.row.own e).1; omega⟩))
        generalize w7.setCell ⟨w2.heap.size, 1, none⟩ (.slice (some ⟨g7, 0, none⟩) (M.length + 1) cap7) = w8 at *
        clear hr7 ct7 cf7 HB5 hm hq5 hq35 hx4 t1 hq3 k0 k1 k2 c0r c1r
        go_wp2_with fail
        go_roundg (n - (i + 1))
        case measure => go_light; omega
        case rel => go_light; exact ⟨i + 1, _, _, by go_num, by omega, HM, HB7, HQ7, HF9⟩
      · have hie : i = n := by omega
        have HM : Hid (M.map PL.S = chgL F (k) 0 (L.map PL.S)) := by have := HS.out; rw [hie, List.take_of_length_le (by rw [HN.out]; exact Nat.le_refl _)] at this; exact this
        have t0 := HB.out.c0
        have t1 := HB.out.c1
        have r0r := HF8.out.cell r0 ⟨by show w.heap.size + 1 + 1 ≠ _; omega, by show w.heap.size + 1 + 1 < _; omega⟩
        have r1r := HF8.out.cell r1 ⟨by show w.heap.size + 1 + 1 ≠ _; omega, by show w.heap.size + 1 + 1 < _; omega⟩
        have rfr : ∀ j, wr.frozen? ⟨w.heap.size + 1 + 1, j, none⟩ = false := fun j => (HF8.out.frz _).trans (rf j)
        obtain ⟨hvo, ⟨hv1, hv2⟩ | ⟨gv, capv, cur, hv1, hv2⟩⟩ := HB.out.row.own
        · omega
        · subst hv1
          have HW : Hid (Nw (w2.heap.size + 1) wr gv capv a b M) := HB.out.row.nw HP.out.size (by omega) (by omega)
          rw [hml, hie] at t1
          clear hv2 hvo
          go_wp2_with fail
          have F9 : Fr wr ((wr.setCell ⟨w.heap.size + 1 + 1, 0, none⟩ (.int .i64 sp)).setCell ⟨w.heap.size + 1 + 1, 1, none⟩ (.slice (some ⟨gv, 0, none⟩) n capv)) (fun b => b ≠ w.heap.size + 1 + 1) := ((Fr.refl wr _).set (fun h => h rfl) _).set (fun h => h rfl) _
          refine bodyPost_ret (v := .tuple #[.agg #[.int .i64 sp, .slice (some ⟨gv, 0, none⟩) n capv], .int .i64 0]) (by simp [results, Try.results29, go_sem, r0r, r1r]) rfl ⟨gv, capv, M, rfl, HM.out, (HW.out.keep F9 (by have := HW.out.low; omega) (fun x hx => by have := (HW.out.it x hx).1.low; omega)).mono (by omega), (HQ.out.set (by show _ ≤ w.heap.size + 1 + 1; omega) _).set (by show _ ≤ w.heap.size + 1 + 1; omega) _⟩
end Go.Proofs.Ytdempklpmggdoaa
/- Affine and Between. -/
namespace Go.Proofs.Ytdempklpmggdoaa
open Go.RowKit
set_option linter.unusedVariables false
set_option linter.unusedSimpArgs false

def affineV (A B s : Nat) : Nat := toldD (fmaD s A B)
def boundsV (lo hi s : Nat) : Nat := (leastV (greatestV (s : Int) lo) hi).toNat
theorem greatV_bd {a b : Int} (a0 : 0 ≤ a) (a1 : a ≤ 4294967295) (b0 : 0 ≤ b) (b1 : b ≤ 4294967295) : 0 ≤ greatestV a b ∧ greatestV a b ≤ 4294967295 := by unfold greatestV; split <;> omega
theorem leastV_bd {a b : Int} (a0 : 0 ≤ a) (a1 : a ≤ 4294967295) (b0 : 0 ≤ b) (b1 : b ≤ 4294967295) : 0 ≤ leastV a b ∧ leastV a b ≤ 4294967295 := by unfold leastV; split <;> omega
set_option maxHeartbeats 1000000 in
theorem affine_fun (A B : Nat) (hA : A < 4294967296) (hB : B < 4294967296) : Fun1 28 (.agg #[.int .u32 (A : Int), .int .u32 (B : Int)]) (affineV A B) where
  en := enters_of Try.func28 (by kernel_rfl) rfl
  lt := fun s _ => toldD_lt _
  c := fun s hs w => by
    have qa : Hid (∀ c t, Q w (w.alloc (.cells c t))) := fun c t => (Q.refl w).cells c t
    have HC : Hid (∀ w : World, Calls Try.prog 46 #[.int .u32 (s : Int), .int .u32 (A : Int), .int .u32 (B : Int)] w fun e w' => e = .returned (.int .u32 ((affineV A B s : Nat) : Int)) ∧ Q w w') := fun w => cfma_any s A B w
    generalize affineV A B s = z at *
    go_enter Try.func28, Try.ntmps28
    go_wp2_with fail
    refine (HC.out _).mono ?_
    rintro e w1 ⟨rfl, q1⟩
    go_wp2_with fail
    go_ret
    exact ⟨rfl, (qa.out _ _).trans q1⟩
set_option maxHeartbeats 1000000 in
theorem between_any (s lo hi : Int) (a0 : 0 ≤ s) (a1 : s ≤ 4294967295) (b0 : 0 ≤ lo) (b1 : lo ≤ 4294967295) (c0 : 0 ≤ hi) (c1 : hi ≤ 4294967295) (w : World) : Calls Try.prog 55 #[.int .u32 s, .int .u32 lo, .int .u32 hi] w fun e w' => e = .returned (.int .u32 (leastV (greatestV s lo) hi)) ∧ w' = w := by
  obtain ⟨g0, g1⟩ := greatV_bd a0 a1 b0 b1
  have HG : Hid (∀ w : World, Calls Try.prog 54 #[.int .u32 s, .int .u32 lo] w fun e w' => e = .returned (.int .u32 (greatestV s lo)) ∧ w' = w) := fun w => greatest_any s lo a0 a1 b0 b1 w
  generalize greatestV s lo = z at *
  have HL : Hid (∀ w : World, Calls Try.prog 53 #[.int .u32 z, .int .u32 hi] w fun e w' => e = .returned (.int .u32 (leastV z hi)) ∧ w' = w) := fun w => least_any z hi g0 g1 c0 c1 w
  generalize leastV z hi = y at *
  go_enter Try.func55, Try.ntmps55
  go_wp2_with fail
  refine (HG.out _).mono ?_
  rintro e w1 ⟨rfl, rfl⟩
  go_wp2_with fail
  refine (HL.out _).mono ?_
  rintro e w1 ⟨rfl, rfl⟩
  go_wp2_with fail
  go_ret
  exact ⟨rfl, rfl⟩
set_option maxHeartbeats 1000000 in
theorem bounds_fun (A B : Nat) (hA : A < 4294967296) (hB : B < 4294967296) : Fun1 34 (.agg #[.int .u32 (A : Int), .int .u32 (B : Int)]) (boundsV A B) where
  en := enters_of Try.func34 (by kernel_rfl) rfl
  lt := fun s hs => by
    obtain ⟨g0, g1⟩ := greatV_bd (a := (s : Int)) (b := (A : Int)) (by omega) (by omega) (by omega) (by omega)
    obtain ⟨l0, l1⟩ := leastV_bd (b := (B : Int)) g0 g1 (by omega) (by omega)
    unfold boundsV
    omega
  c := fun s hs w => by
    obtain ⟨g0, g1⟩ := greatV_bd (a := (s : Int)) (b := (A : Int)) (by omega) (by omega) (by omega) (by omega)
    obtain ⟨l0, l1⟩ := leastV_bd (b := (B : Int)) g0 g1 (by omega) (by omega)
    have qa : Hid (∀ c t, Q w (w.alloc (.cells c t))) := fun c t => (Q.refl w).cells c t
    have hz : ((boundsV A B s : Nat) : Int) = leastV (greatestV (s : Int) A) B := by unfold boundsV; omega
    have HC : Hid (∀ w : World, Calls Try.prog 55 #[.int .u32 (s : Int), .int .u32 (A : Int), .int .u32 (B : Int)] w fun e w' => e = .returned (.int .u32 ((boundsV A B s : Nat) : Int)) ∧ w' = w) := fun w => by rw [hz]; exact between_any s A B (by omega) (by omega) (by omega) (by omega) (by omega) (by omega) w
    generalize boundsV A B s = z at *
    clear hz g0 g1 l0 l1
    go_enter Try.func34, Try.ntmps34
    go_wp2_with fail
    refine (HC.out _).mono ?_
    rintro e w1 ⟨rfl, rfl⟩
    go_wp2_with fail
    go_ret
    exact ⟨rfl, qa.out _ _⟩
set_option maxHeartbeats 1000000 in
set_option maxRecDepth 100000 in
theorem affine_good (A B : Nat) (hA : A < 4294967296) (hB : B < 4294967296) (w : World) (sp k : Int) (g o cap a b n : Nat) (L : List PL) (h : Pc w g o a b L) (hn : L.length = n) (hcap : n ≤ cap) (hsp : spcB sp n = true) (hk : k = -1 ∨ (0 ≤ k ∧ k < n)) :
    Calls Try.prog 10 #[.agg #[.int .i64 sp, .slice (some ⟨g, o, none⟩) n cap], .int .i64 k, .int .u32 (A : Int), .int .u32 (B : Int)] w fun e w' => ∃ g' cap' M, e = .returned (.tuple #[.agg #[.int .i64 sp, .slice (some ⟨g', 0, none⟩) n cap'], .int .i64 0]) ∧ M.map PL.S = chgL (affineV A B) k 0 (L.map PL.S) ∧ Hid (Nw w.heap.size w' g' cap' a b M) ∧ Q w w' := by
  have qa : Hid (∀ a b c d, Q w ((w.alloc (.cells a b)).alloc (.cells c d))) := fun a b c d => ((Q.refl w).cells _ _).cells _ _
  have HP : Hid (Pc w g o a b L) := h
  have HF : Hid (Fun1 28 (.agg #[.int .u32 (A : Int), .int .u32 (B : Int)]) (affineV A B)) := affine_fun A B hA hB
  have HN : Hid (L.length = n) := hn
  have HSP : Hid (spcB sp n = true) := hsp
  have HK : Hid (k = -1 ∨ (0 ≤ k ∧ k < n)) := hk
  clear h hn hsp hk
  go_enter Try.func10, Try.ntmps10
  go_wp2_with fail
  refine (change_good 28 (.agg #[.int .u32 (A : Int), .int .u32 (B : Int)]) (affineV A B) HF.out _ sp k g o cap a b n L (HP.out.next (qa.out _ _ _ _)) HN.out hcap HSP.out HK.out).mono ?_
  rintro e w3 ⟨g3, cap3, M, rfl, hM, HW, q3⟩
  have r0 : w3.cell? ⟨w.heap.size + 1, 0, none⟩ = some (.int .i64 0) := q3.cell (by simp [go_sem])
  have r1 : w3.cell? ⟨w.heap.size + 1, 1, none⟩ = some (.slice none 0 0) := q3.cell (by simp [go_sem])
  have rf : ∀ j, w3.frozen? ⟨w.heap.size + 1, j, none⟩ = false := fun j => (q3.2 _).trans (by simp [go_sem])
  have HQ3 : Hid (Q w w3) := (qa.out _ _ _ _).trans q3
  have HM : Hid (M.map PL.S = chgL (affineV A B) k 0 (L.map PL.S)) := hM
  have HW' : Hid (Nw (w.heap.size + 2) w3 g3 cap3 a b M) := HW.out.mono (by simp)
  clear q3 hM HW
  go_wp2_with fail
  have F9 : Fr w3 ((w3.setCell ⟨w.heap.size + 1, 0, none⟩ (.int .i64 sp)).setCell ⟨w.heap.size + 1, 1, none⟩ (.slice (some ⟨g3, 0, none⟩) n cap3)) (fun b => b ≠ w.heap.size + 1) := ((Fr.refl w3 _).set (fun h => h rfl) _).set (fun h => h rfl) _
  refine bodyPost_ret (v := .tuple #[.agg #[.int .i64 sp, .slice (some ⟨g3, 0, none⟩) n cap3], .int .i64 0]) (by simp [results, Try.results10, go_sem, r0, r1]) rfl ⟨g3, cap3, M, rfl, HM.out, (HW'.out.keep F9 (by have := HW'.out.low; omega) (fun x hx => by have := (HW'.out.it x hx).1.low; omega)).mono (by omega), (HQ3.out.set (by show _ ≤ w.heap.size + 1; omega) _).set (by show _ ≤ w.heap.size + 1; omega) _⟩
set_option maxHeartbeats 1000000 in
set_option maxRecDepth 100000 in
theorem bounds_good (A B : Nat) (hA : A < 4294967296) (hB : B < 4294967296) (w : World) (sp k : Int) (g o cap a b n : Nat) (L : List PL) (h : Pc w g o a b L) (hn : L.length = n) (hcap : n ≤ cap) (hsp : spcB sp n = true) (hk : k = -1 ∨ (0 ≤ k ∧ k < n)) :
    Calls Try.prog 14 #[.agg #[.int .i64 sp, .slice (some ⟨g, o, none⟩) n cap], .int .i64 k, .int .u32 (A : Int), .int .u32 (B : Int)] w fun e w' => ∃ g' cap' M, e = .returned (.tuple #[.agg #[.int .i64 sp, .slice (some ⟨g', 0, none⟩) n cap'], .int .i64 0]) ∧ M.map PL.S = chgL (boundsV A B) k 0 (L.map PL.S) ∧ Hid (Nw w.heap.size w' g' cap' a b M) ∧ Q w w' := by
  have qa : Hid (∀ a b c d, Q w ((w.alloc (.cells a b)).alloc (.cells c d))) := fun a b c d => ((Q.refl w).cells _ _).cells _ _
  have HP : Hid (Pc w g o a b L) := h
  have HF : Hid (Fun1 34 (.agg #[.int .u32 (A : Int), .int .u32 (B : Int)]) (boundsV A B)) := bounds_fun A B hA hB
  have HN : Hid (L.length = n) := hn
  have HSP : Hid (spcB sp n = true) := hsp
  have HK : Hid (k = -1 ∨ (0 ≤ k ∧ k < n)) := hk
  clear h hn hsp hk
  go_enter Try.func14, Try.ntmps14
  go_wp2_with fail
  refine (change_good 34 (.agg #[.int .u32 (A : Int), .int .u32 (B : Int)]) (boundsV A B) HF.out _ sp k g o cap a b n L (HP.out.next (qa.out _ _ _ _)) HN.out hcap HSP.out HK.out).mono ?_
  rintro e w3 ⟨g3, cap3, M, rfl, hM, HW, q3⟩
  have r0 : w3.cell? ⟨w.heap.size + 1, 0, none⟩ = some (.int .i64 0) := q3.cell (by simp [go_sem])
  have r1 : w3.cell? ⟨w.heap.size + 1, 1, none⟩ = some (.slice none 0 0) := q3.cell (by simp [go_sem])
  have rf : ∀ j, w3.frozen? ⟨w.heap.size + 1, j, none⟩ = false := fun j => (q3.2 _).trans (by simp [go_sem])
  have HQ3 : Hid (Q w w3) := (qa.out _ _ _ _).trans q3
  have HM : Hid (M.map PL.S = chgL (boundsV A B) k 0 (L.map PL.S)) := hM
  have HW' : Hid (Nw (w.heap.size + 2) w3 g3 cap3 a b M) := HW.out.mono (by simp)
  clear q3 hM HW
  go_wp2_with fail
  have F9 : Fr w3 ((w3.setCell ⟨w.heap.size + 1, 0, none⟩ (.int .i64 sp)).setCell ⟨w.heap.size + 1, 1, none⟩ (.slice (some ⟨g3, 0, none⟩) n cap3)) (fun b => b ≠ w.heap.size + 1) := ((Fr.refl w3 _).set (fun h => h rfl) _).set (fun h => h rfl) _
  refine bodyPost_ret (v := .tuple #[.agg #[.int .i64 sp, .slice (some ⟨g3, 0, none⟩) n cap3], .int .i64 0]) (by simp [results, Try.results14, go_sem, r0, r1]) rfl ⟨g3, cap3, M, rfl, HM.out, (HW'.out.keep F9 (by have := HW'.out.low; omega) (fun x hx => by have := (HW'.out.it x hx).1.low; omega)).mono (by omega), (HQ3.out.set (by show _ ≤ w.heap.size + 1; omega) _).set (by show _ ≤ w.heap.size + 1; omega) _⟩
end Go.Proofs.Ytdempklpmggdoaa

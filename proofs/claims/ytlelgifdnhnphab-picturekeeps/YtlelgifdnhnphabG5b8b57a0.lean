/- Check: the walk. -/
import Derived.Test.YtlelgifdnhnphabGab648a0f
import Derived.Test.YtlelgifdnhnphabGb17ebe9c
import Derived.Test.YtlelgifdnhnphabG393e0c75
import Derived.Test.YtlelgifdnhnphabG9fe853db
import Derived.Test.YtlelgifdnhnphabGb8e5fd96
namespace Go.Proofs.Ytlelgifdnhnphab
open Go.RowKit
set_option linter.unusedVariables false
set_option linter.unusedSimpArgs false

set_option maxHeartbeats 8000000 in
set_option maxRecDepth 100000 in
theorem pcheck_any (w : World) (sp : Int) (v : Value) (D : List PD) (h : DSl w v D) (hl : ∀ x ∈ D, x.S.length ≤ 9223372036854775807) (hD : D.length ≤ 9223372036854775807) :
    Calls Try.prog 6 #[.agg #[.int .i64 sp, v]] w fun e w' => e = .returned (.int .i64 (chkP sp D)) ∧ Q w w' := by
  obtain ⟨ad, cap, rfl⟩ := h.form
  have HD : Hid (DSl w (.slice ad D.length cap) D) := h
  obtain ⟨n, hn⟩ : ∃ n, D.length = n := ⟨_, rfl⟩
  have HN : Hid (D.length = n) := hn
  have HL : Hid (∀ x ∈ D, x.S.length ≤ 9223372036854775807) := hl
  have q0 : Hid (∀ c t, Q w (w.alloc (.cells c t))) := fun c t => (Q.refl w).cells c t
  rw [hn] at hD ⊢
  clear h hn hl
  cases hnb : numB n
  · have A : ∀ w : World, Calls Try.prog 15 #[.int .i64 (n : Int)] w fun e w' => e = .returned (.bool false) ∧ w' = w := fun w => hnb ▸ isnumber_any n w
    have e : chkP sp D = 80 := by unfold chkP; rw [HN.out, hnb]; rfl
    rw [e]
    clear e hnb
    go_enter Try.func6, Try.ntmps6
    go_wp2_with fail
    refine (A _).mono ?_
    rintro e w1 ⟨rfl, rfl⟩
    go_wp2_with fail
    go_ret
    exact ⟨rfl, q0.out _ _⟩
  · have A : ∀ w : World, Calls Try.prog 15 #[.int .i64 (n : Int)] w fun e w' => e = .returned (.bool true) ∧ w' = w := fun w => hnb ▸ isnumber_any n w
    have hn14 : 1 ≤ n ∧ n ≤ 4 := by unfold numB at hnb; simp at hnb; omega
    have HNB : Hid (numB n = true) := hnb
    obtain ⟨g, o, c, e1, e2, e3⟩ := HD.out.some (by rw [HN.out]; omega)
    injection e1 with e1 e4 e5
    subst e1 e5
    have HI : Hid (DIs w g o D) := e3
    rw [HN.out] at e2
    clear e3 e4 hnb HD
    go_enter Try.func6, Try.ntmps6
    go_wp2_with fail
    refine (A _).mono ?_
    rintro e w1 ⟨rfl, rfl⟩
    go_wp2_with fail
    have HQ1 : Hid (Q w (w.alloc (Obj.cells #[Value.int IntKind.i64 sp, Value.slice (some { block := g, off := o }) n cap] 24))) := q0.out _ _
    have b0 : (w.alloc (Obj.cells #[Value.int IntKind.i64 sp, Value.slice (some { block := g, off := o }) n cap] 24)).cell? ⟨w.heap.size, 0, none⟩ = some (.int .i64 sp) := by simp [go_sem]
    have b1 : (w.alloc (Obj.cells #[Value.int IntKind.i64 sp, Value.slice (some { block := g, off := o }) n cap] 24)).cell? ⟨w.heap.size, 1, none⟩ = some (.slice (some ⟨g, o, none⟩) n cap) := by simp [go_sem]
    have HI1 : Hid (DIs (w.alloc (Obj.cells #[Value.int IntKind.i64 sp, Value.slice (some { block := g, off := o }) n cap] 24)) g o D) := HI.out.next HQ1.out
    generalize (w.alloc (Obj.cells #[Value.int IntKind.i64 sp, Value.slice (some { block := g, off := o }) n cap] 24)) = w1 at *
    go_loopg [16] n (fun m s16 wx => ∃ i : Nat, s16 = .int .i64 i ∧ i + m = n ∧ Hid (∀ (j : Nat) (y : PD), j < i → D[j]? = some y → y.chk = 0) ∧ Hid (Q w1 wx))
    case atStart => exact ⟨0, rfl, by omega, fun j y hj => absurd hj (Nat.not_lt_zero _), Q.refl _⟩
    case round =>
      obtain ⟨i, rfl, him, HC, HQ⟩ := hrel
      by_cases hi : i < n
      · have hi0 : (0 : Int) ≤ (i : Int) := by omega
        have hi1 : (i : Int) < (n : Int) := by omega
        obtain ⟨x, hx⟩ : ∃ x, D[i]? = some x := ⟨_, List.getElem?_eq_getElem (by rw [HN.out]; exact hi)⟩
        obtain ⟨c0, c1, c2, _⟩ := (HI1.out.next HQ.out) i x hx
        have hxl := HL.out x (List.mem_of_getElem? hx)
        have HX : Hid (D[i]? = some x) := hx
        clear hx
        go_wp2_with fail
        refine (check_any x.W x.H x.ad x.S.length x.cap hxl _).mono ?_
        rintro e w3 ⟨rfl, q3⟩
        have HQ3 : Hid (Q w1 w3) := (HQ.out.cells _ _).trans q3
        obtain ⟨ck, hck⟩ : ∃ ck, chk x.W x.H x.S.length = ck := ⟨_, rfl⟩
        have HCK : Hid (x.chk = ck) := hck
        rw [hck]
        clear hck q3 c0 c1 c2
        by_cases h0 : ck = 0
        · subst h0
          have HC' : Hid (∀ (j : Nat) (y : PD), j < i + 1 → D[j]? = some y → y.chk = 0) := fun j y hj hy => by
            by_cases e : j = i
            · subst e
              have := HX.out.symm.trans hy
              injection this with this
              rw [← this]; exact HCK.out
            · exact HC.out j y (by omega) hy
          go_wp2_with fail
          go_roundg (n - (i + 1))
          case measure => go_light; omega
          case rel => go_light; exact ⟨i + 1, by go_num, by omega, HC', HQ3⟩
        · have h1 : (ck != 0) = true := by rw [bne_iff_ne]; exact h0
          have h2 : (ck == 0) = false := by rw [beq_eq_false_iff_ne]; exact h0
          have HE : Hid (chkP sp D = ck) := by
            show chkP sp D = ck
            have := firstE_at HX.out HC.out (by rw [HCK.out]; exact h0)
            unfold chkP
            rw [HN.out, if_pos HNB.out, this, HCK.out, if_neg h0]
          clear h0
          go_wp2_with fail
          go_ret
          exact ⟨by rw [HE.out]; rfl, HQ1.out.trans HQ3.out⟩
      · have HF : Hid (firstE D = 0) := firstE_ok (fun j y hy => HC.out j y (by have := (List.getElem?_eq_some_iff.1 hy).1; rw [HN.out] at this; omega) hy)
        have p1 := HQ.out.cell b1
        go_wp2_with fail
        obtain ⟨d, hd⟩ : ∃ d, D[0]? = some d := ⟨_, List.getElem?_eq_getElem (by rw [HN.out]; omega)⟩
        have HD0 : Hid (D.getD 0 pd0 = d) := by show D.getD 0 pd0 = d; rw [List.getD_eq_getElem?_getD, hd]; rfl
        have HI0 : Hid (DIs w1 g o D) := HI1
        have hn1 : (0 : Int) < (n : Int) := by omega
        have hie : n ≤ i := by omega
        have QR : Hid (Q w1 wr) := HQ
        generalize wr = wo at *
        go_loopg [29] n (fun m s29 wx => ∃ i : Nat, s29 = .int .i64 i ∧ i + m = n ∧ Hid (∀ (j : Nat) (y : PD), j < i → D[j]? = some y → y.like d = true) ∧ Hid (Q w1 wx))
        case atStart => exact ⟨0, rfl, by omega, fun j y hj => absurd hj (Nat.not_lt_zero _), QR⟩
        case round =>
          obtain ⟨i, rfl, him, HC, HQ⟩ := hrel
          by_cases hi : i < n
          · have hi0 : (0 : Int) ≤ (i : Int) := by omega
            have hi1 : (i : Int) < (n : Int) := by omega
            obtain ⟨x, hx⟩ : ∃ x, D[i]? = some x := ⟨_, List.getElem?_eq_getElem (by rw [HN.out]; exact hi)⟩
            obtain ⟨c0, c1, c2, _⟩ := (HI1.out.next HQ.out) i x hx
            obtain ⟨d0, d1, d2, _⟩ := (HI1.out.next HQ.out) 0 d hd
            rw [Nat.zero_mul, Nat.add_zero] at d0 d1 d2
            have p1 := HQ.out.cell b1
            have HX : Hid (D[i]? = some x) := hx
            clear hx
            go_wp2_with fail
            have q3 : Q wr (wr.alloc (Obj.cells #[Value.int IntKind.i64 x.W, Value.int IntKind.i64 x.H, Value.slice x.ad x.S.length x.cap] 34)) := (Q.refl wr).cells _ _
            have k0 : (wr.alloc (Obj.cells #[Value.int IntKind.i64 x.W, Value.int IntKind.i64 x.H, Value.slice x.ad x.S.length x.cap] 34)).cell? ⟨wr.heap.size, 0, none⟩ = some (.int .i64 x.W) := by simp [go_sem]
            have k1 : (wr.alloc (Obj.cells #[Value.int IntKind.i64 x.W, Value.int IntKind.i64 x.H, Value.slice x.ad x.S.length x.cap] 34)).cell? ⟨wr.heap.size, 1, none⟩ = some (.int .i64 x.H) := by simp [go_sem]
            have k2 : (wr.alloc (Obj.cells #[Value.int IntKind.i64 x.W, Value.int IntKind.i64 x.H, Value.slice x.ad x.S.length x.cap] 34)).cell? ⟨wr.heap.size, 2, none⟩ = some (.slice x.ad x.S.length x.cap) := by simp [go_sem]
            generalize (wr.alloc (Obj.cells #[Value.int IntKind.i64 x.W, Value.int IntKind.i64 x.H, Value.slice x.ad x.S.length x.cap] 34)) = w3 at *
            have n0 := qw_some w3
            have f0 := qw_cell k0
            have f1 := qw_cell k1
            have f2 := qw_cell k2
            have f3 := qw_cell (q3.cell d0)
            have f4 := qw_cell (q3.cell d1)
            have f5 := qw_cell (q3.cell d2)
            have f6 := qw_cell (q3.cell p1)
            have HQ3 : Hid (Q w1 w3) := HQ.out.trans q3
            obtain ⟨bb, hbb⟩ : ∃ bb, x.like d = bb := ⟨_, rfl⟩
            have HO : Hid (∀ w : World, Calls Try.prog 17 #[.agg #[.int .i64 x.W, .int .i64 x.H, .slice x.ad x.S.length x.cap], .agg #[.int .i64 d.W, .int .i64 d.H, .slice d.ad d.S.length d.cap]] w fun e w' => e = .returned (.bool bb) ∧ Q w w') := fun w => by rw [← hbb]; exact onesize_any x.W x.H d.W d.H x.ad d.ad x.S.length x.cap d.S.length d.cap w
            have HBB : Hid (x.like d = bb) := hbb
            clear hbb k0 k1 k2 d0 d1 d2 p1 c0 c1 c2
            refine wp_region_quiet_Q (by kernel_rfl) (by kernel_rfl) ?_
            repeat (first | go_big_quiet_step (first | (go_at_call 17; exact calls_qw (HO.out _))) | quiet_step (first | (go_at_call 17; exact calls_qw (HO.out _))))
            refine wpQuiet_nil ?_
            intro w4 hw'
            have HQ4 : Hid (Q w1 w4) := HQ3.out.trans (qw_out hw')
            clear hw' f0 f1 f2 f3 f4 f5 f6 n0
            cases bb
            · have HE : Hid (chkP sp D = 80) := by
                show chkP sp D = 80
                unfold chkP
                rw [HN.out, if_pos HNB.out, if_pos HF.out, HD0.out, if_neg]
                intro hall
                have := List.all_eq_true.1 hall x (List.mem_of_getElem? HX.out)
                rw [HBB.out] at this; cases this
              go_wp2_with fail
              go_ret
              exact ⟨by rw [HE.out]; rfl, HQ1.out.trans HQ4.out⟩
            · have HC' : Hid (∀ (j : Nat) (y : PD), j < i + 1 → D[j]? = some y → y.like d = true) := fun j y hj hy => by
                by_cases e : j = i
                · subst e
                  have := HX.out.symm.trans hy
                  injection this with this
                  rw [← this]; exact HBB.out
                · exact HC.out j y (by omega) hy
              go_wp2_with fail
              go_roundg (n - (i + 1))
              case measure => go_light; omega
              case rel => go_light; exact ⟨i + 1, by go_num, by omega, HC', HQ4⟩
          · have HALL : Hid ((D.all fun x => x.like (D.getD 0 pd0)) = true) := by
              show _ = _
              rw [HD0.out, List.all_eq_true]
              intro y hy
              obtain ⟨j, hj⟩ := List.getElem?_of_mem hy
              exact HC.out j y (by have := (List.getElem?_eq_some_iff.1 hj).1; rw [HN.out] at this; omega) hj
            have p0 := HQ.out.cell b0
            have p1 := HQ.out.cell b1
            cases hsp : spcB sp n
            · have HS : Hid (∀ w : World, Calls Try.prog 18 #[.int .i64 sp, .int .i64 (n : Int)] w fun e w' => e = .returned (.bool false) ∧ w' = w) := fun w => hsp ▸ isspace8_any sp n w
              have HE : Hid (chkP sp D = 81) := by
                show chkP sp D = 81
                unfold chkP
                rw [HN.out, if_pos HNB.out, if_pos HF.out, if_pos HALL.out, hsp]; rfl
              clear hsp
              go_wp2_with fail
              refine (HS.out _).mono ?_
              rintro e w5 ⟨rfl, rfl⟩
              go_wp2_with fail
              go_ret
              exact ⟨by rw [HE.out]; rfl, HQ1.out.trans HQ.out⟩
            · have HS : Hid (∀ w : World, Calls Try.prog 18 #[.int .i64 sp, .int .i64 (n : Int)] w fun e w' => e = .returned (.bool true) ∧ w' = w) := fun w => hsp ▸ isspace8_any sp n w
              have HE : Hid (chkP sp D = 0) := by
                show chkP sp D = 0
                unfold chkP
                rw [HN.out, if_pos HNB.out, if_pos HF.out, if_pos HALL.out, hsp]; rfl
              clear hsp
              go_wp2_with fail
              refine (HS.out _).mono ?_
              rintro e w5 ⟨rfl, rfl⟩
              go_wp2_with fail
              go_ret
              exact ⟨by rw [HE.out]; rfl, HQ1.out.trans HQ.out⟩
/-- A picture with which nothing is wrong. -/
theorem chkP_zero {w : World} {sp : Int} {v : Value} {D : List PD} (h : DSl w v D) (hc : chkP sp D = 0) (hlt : ∀ x ∈ D, ∀ i, x.S.getD i 0 < 4294967296) : ∃ g o cap a b L, v = .slice (some ⟨g, o, none⟩) L.length cap ∧ L.length ≤ cap ∧ Pc w g o a b L ∧ spcB sp L.length = true ∧ L.map PL.S = D.map PD.S := by
  unfold chkP at hc
  by_cases h1 : numB D.length = true
  · rw [if_pos h1] at hc
    by_cases h2 : firstE D = 0
    · rw [if_pos h2] at hc
      by_cases h3 : (D.all fun x => x.like (D.getD 0 pd0)) = true
      · rw [if_pos h3] at hc
        by_cases h4 : spcB sp D.length = true
        · have hn14 : 1 ≤ D.length ∧ D.length ≤ 4 := by unfold numB at h1; simp at h1; omega
          obtain ⟨g, o, c, e1, e2, e3⟩ := h.some hn14.1
          obtain ⟨d, hd⟩ : ∃ d, D[0]? = some d := ⟨_, List.getElem?_eq_getElem (by omega)⟩
          have hd0 : D.getD 0 pd0 = d := by rw [List.getD_eq_getElem?_getD, hd]; rfl
          rw [hd0] at h3
          obtain ⟨a, b, ha, hb, hs, hl⟩ := chk_zero (firstE_zero h2 d (List.mem_of_getElem? hd))
          have key : ∀ x ∈ D, x.W = a ∧ x.H = b ∧ x.S.length = a * b := fun x hx => by
            have hl := List.all_eq_true.1 h3 x hx
            unfold PD.like at hl
            simp at hl
            obtain ⟨a', b', ha', hb', _, hl'⟩ := chk_zero (firstE_zero h2 x hx)
            have e1 : a' = a := by have := hl.1; omega
            have e2 : b' = b := by have := hl.2; omega
            subst e1 e2
            exact ⟨ha', hb', hl'⟩
          have cell : ∀ x ∈ D, ∃ gx ox, x.ad = some ⟨gx, ox, none⟩ ∧ x.S.length ≤ x.cap ∧ UIs w gx ox x.S := fun x hx => by
            obtain ⟨i, hi⟩ := List.getElem?_of_mem hx
            obtain ⟨_, _, _, hu⟩ := e3 i x hi
            obtain ⟨gx, ox, cx, f1, f2, f3⟩ := hu.some (by rw [(key x hx).2.2]; exact hs.pos)
            unfold PD.sv at f1
            injection f1 with f1 f4 f5
            exact ⟨gx, ox, f1, by rw [f5]; exact f2, f3⟩
          have mk : ∃ L : List PL, L.length = D.length ∧ L.map PL.S = D.map PD.S ∧ ∀ (i : Nat) (x : PL), L[i]? = some x → ∃ y : PD, D[i]? = some y ∧ y.ad = some ⟨x.g, x.o, none⟩ ∧ y.S = x.S ∧ y.cap = x.cap := by
            refine ⟨D.map fun y => ⟨(y.ad.getD ⟨0, 0, none⟩).block, (y.ad.getD ⟨0, 0, none⟩).off, y.cap, y.S⟩, by simp, by rw [List.map_map]; rfl, fun i x hx => ?_⟩
            rw [List.getElem?_map] at hx
            cases hy : D[i]? with
            | none => rw [hy] at hx; cases hx
            | some y =>
              rw [hy] at hx
              have hx := Option.some.inj hx
              obtain ⟨gx, ox, f1, _⟩ := cell y (List.mem_of_getElem? hy)
              refine ⟨y, rfl, ?_, by rw [← hx], by rw [← hx]⟩
              rw [← hx]
              simp only [f1, Option.getD_some]
          obtain ⟨L, hL, hLS, hLx⟩ := mk
          refine ⟨g, o, c, a, b, L, by rw [hL]; exact e1, by rw [hL]; exact e2, ⟨hs, by omega, by omega, fun i x hx => ?_, fun x hx => ?_⟩, by rw [hL]; exact h4, hLS⟩
          · obtain ⟨y, hy, g1, g2, g3⟩ := hLx i x hx
            obtain ⟨k0, k1, k2, _⟩ := e3 i y hy
            obtain ⟨kW, kH, _⟩ := key y (List.mem_of_getElem? hy)
            refine ⟨by rw [k0, kW], by rw [k1, kH], ?_⟩
            rw [k2, g1, g2, g3]; rfl
          · obtain ⟨i, hi⟩ := List.getElem?_of_mem hx
            obtain ⟨y, hy, g1, g2, g3⟩ := hLx i x hi
            have hym := List.mem_of_getElem? hy
            obtain ⟨_, _, kl⟩ := key y hym
            obtain ⟨gx, ox, f1, f2, f3⟩ := cell y hym
            rw [g1] at f1
            injection f1 with f1
            injection f1 with f1 f4
            rw [← f1, ← f4] at f3
            refine ⟨by rw [← g2]; exact kl, by rw [← g2, ← g3]; exact f2, by rw [← g2]; exact f3, by rw [← g2]; exact hlt y hym⟩
        · rw [if_neg h4] at hc; exact absurd hc (by decide)
      · rw [if_neg h3] at hc; exact absurd hc (by decide)
    · rw [if_neg h2] at hc; exact absurd hc h2
  · rw [if_neg h1] at hc; exact absurd hc (by decide)
end Go.Proofs.Ytlelgifdnhnphab
/- Arithmetic of binary64 whatever comes of it; what space's number, sample, Log and Exp return. -/
namespace Go.Proofs.Ytlelgifdnhnphab
open Go.RowKit
set_option linter.unusedVariables false

/-- A word that an operation tells, drawn where it has no answer; the world behind it. -/
def resW (op : BinOp) (x y : Nat) (w : World) : Nat := match floatBits op .f64 x y with
  | none => nanw .f64 x y w
  | some r => r
def resU (op : BinOp) (x y : Nat) (w : World) : World := match floatBits op .f64 x y with
  | none => w.drew
  | some r => w
theorem resU_q (op : BinOp) (x y : Nat) (w : World) : Q w (resU op x y w) := by
  unfold resU; split
  · exact (Q.refl w).drew
  · exact Q.refl w
theorem run_res (op : BinOp) (hop : op = .add ∨ op = .sub ∨ op = .mul ∨ op = .quo) (t : TypeId) (x y : Nat) (P : Program) (w : World) :
    (binOp op t (.float .f64 x) (.float .f64 y)).run P w = .ok (.float .f64 (resW op x y w)) (resU op x y w) := by
  unfold resW resU
  cases h : floatBits op .f64 x y with
  | none => exact run_arith_none op hop t .f64 x y h P w
  | some r => exact run_float_arith w op t .f64 x y r h
theorem same7 (x : Nat) (w : World) : (convert 37 37 (.float .f64 x)).run Try.prog w = .ok (.float .f64 x) w :=
  run_convert_float_float w 37 37 .f64 .f64 x x (by kernel_rfl) Try.underlying37 rfl
def opD : BinOp → Ieee.Datum → Ieee.Datum → Option Ieee.Datum
  | .add, a, b => a.sum b
  | .sub, a, b => a.sum b.opposite
  | .mul, a, b => a.product b
  | .quo, a, b => a.quotient 54 b
  | _, _, _ => none
theorem bits_op (op : BinOp) (hop : op = .add ∨ op = .sub ∨ op = .mul ∨ op = .quo) (x y : Nat) : floatBits op .f64 x y = (opD op (Ieee.double.read x) (Ieee.double.read y)).map Ieee.double.write := by
  rcases hop with rfl | rfl | rfl | rfl <;> rfl
theorem opD_num {op : BinOp} {a b d : Ieee.Datum} (h : opD op a b = some d) : d.isNaN = false := by
  unfold opD at h
  split at h
  · exact sum_num h
  · exact sum_num h
  · exact product_num h
  · exact quotient_num h
  · cases h
theorem can_res (op : BinOp) (hop : op = .add ∨ op = .sub ∨ op = .mul ∨ op = .quo) (x y : Nat) (w : World) : canW (resW op x y w) = told64 (opD op (Ieee.double.read x) (Ieee.double.read y)) := by
  unfold resW
  rw [bits_op op hop]
  cases h : opD op (Ieee.double.read x) (Ieee.double.read y) with
  | none => exact can_none x y w
  | some d => exact can_some (opD_num h)
theorem resW_lt (op : BinOp) (hop : op = .add ∨ op = .sub ∨ op = .mul ∨ op = .quo) (x y : Nat) (w : World) : resW op x y w < 18446744073709551616 := by
  unfold resW
  rw [bits_op op hop]
  cases h : opD op (Ieee.double.read x) (Ieee.double.read y) with
  | none => exact (nanw64 x y w).2
  | some d => exact write64_lt d
def narW (x : Nat) : Nat := toldD (some (Ieee.double.read x))
end Go.Proofs.Ytlelgifdnhnphab
/- YCC: what ToYCC and FromYCC return. -/
namespace Go.Proofs.Ytlelgifdnhnphab
open Go.RowKit
set_option linter.unusedVariables false

abbrev isA (op : BinOp) : Prop := op = .add ∨ op = .sub ∨ op = .mul ∨ op = .quo
def opT (op : BinOp) (x y : Nat) : Nat := told64 (opD op (Ieee.double.read x) (Ieee.double.read y))
theorem opD_nan1 {op : BinOp} (hop : isA op) {a : Ieee.Datum} (h : a.isNaN = true) (b : Ieee.Datum) : told64 (opD op a b) = 9221120237041090560 := by
  obtain ⟨s, t, rfl⟩ := isNaN_cases h
  rcases hop with rfl | rfl | rfl | rfl <;> cases b <;> rfl
theorem opD_nan2 {op : BinOp} (hop : isA op) {b : Ieee.Datum} (h : b.isNaN = true) (a : Ieee.Datum) : told64 (opD op a b) = 9221120237041090560 := by
  obtain ⟨s, t, rfl⟩ := isNaN_cases h
  rcases hop with rfl | rfl | rfl | rfl <;> cases a <;> rfl
theorem can_cases (x : Nat) : canW x = x ∨ ((Ieee.double.read x).isNaN = true ∧ (Ieee.double.read (canW x)).isNaN = true) := by
  unfold canW
  cases h : nan64 x
  · left; rfl
  · right; rw [if_pos rfl]; exact ⟨read64_nan h, read64_nan made64⟩
theorem opT_can {op : BinOp} (hop : isA op) (x y : Nat) : opT op (canW x) (canW y) = opT op x y := by
  unfold opT
  rcases can_cases x with h | ⟨h, g⟩
  · rw [h]
    rcases can_cases y with h | ⟨h, g⟩
    · rw [h]
    · rw [opD_nan2 hop h, opD_nan2 hop g]
  · rw [opD_nan1 hop h, opD_nan1 hop g]
theorem res_can {op : BinOp} (hop : isA op) {x y X Y : Nat} {w : World} (hx : canW x = X) (hy : canW y = Y) : canW (resW op x y w) = opT op X Y := by
  rw [can_res op hop, ← hx, ← hy, opT_can hop]; rfl
theorem narW_can (x : Nat) : narW (canW x) = narW x := by
  unfold canW
  cases h : nan64 x
  · rfl
  · rw [if_pos rfl]; unfold narW; rw [nar_nan h, nar_nan made64]
theorem narW_of {x X : Nat} (h : canW x = X) : narW x = narW X := by rw [← h, narW_can]
theorem can_wide (a : Nat) : canW (wideW a) = wideW a := by
  unfold wideW
  cases h : nanN a
  · show canW (wideN a) = wideN a
    unfold canW; rw [wideN_nan h]; rfl
  · show canW 9221120237041090560 = 9221120237041090560
    unfold canW; rw [made64]; rfl
def yS (r b : Nat) : Nat := opT .add (wideW r) (wideW b)
def yD (g : Nat) : Nat := opT .mul 4611686018427387904 (wideW g)
def ycc0 (r g b : Nat) : Nat := narW (opT .quo (opT .add (yS r b) (yD g)) 4616189618054758400)
def ycc1 (r g b : Nat) : Nat := narW (opT .quo (opT .sub (yD g) (yS r b)) 4616189618054758400)
def ycc2 (r g b : Nat) : Nat := narW (opT .quo (opT .sub (wideW r) (wideW b)) 4611686018427387904)
def rT (y cg : Nat) : Nat := opT .sub (wideW y) (wideW cg)
def rgb0 (y cg co : Nat) : Nat := narW (opT .add (rT y cg) (wideW co))
def rgb1 (y cg co : Nat) : Nat := narW (opT .add (wideW y) (wideW cg))
def rgb2 (y cg co : Nat) : Nat := narW (opT .sub (rT y cg) (wideW co))
theorem ret_a3 {a b c x y z : Nat} (h : a = x) (g : b = y) (k : c = z) : Value.agg #[.int .u32 (a : Nat), .int .u32 (b : Nat), .int .u32 (c : Nat)] = a3 x y z := by rw [h, g, k]; rfl
theorem hA1 : isA .add := Or.inl rfl
theorem hA2 : isA .sub := Or.inr (Or.inl rfl)
theorem hA3 : isA .mul := Or.inr (Or.inr (Or.inl rfl))
theorem hA4 : isA .quo := Or.inr (Or.inr (Or.inr rfl))
theorem can_2 : canW 4611686018427387904 = 4611686018427387904 := by decide +kernel
theorem can_4 : canW 4616189618054758400 = 4616189618054758400 := by decide +kernel
end Go.Proofs.Ytlelgifdnhnphab
/- By powers of two, in binary64. -/
namespace Go.Proofs.Ytlelgifdnhnphab
open Go.RowKit
set_option linter.unusedVariables false

theorem told64_num (s : Bool) (m : Nat) (p : Int) : told64 (some (.number s m p)) = Ieee.double.word s (rungOf Ieee.double m p) := by
  rw [told64_some rfl]; show Ieee.double.nearest s m p = _; rw [nearest_rung]
theorem told64_inf (s : Bool) : told64 (some (.infinity s)) = Ieee.double.word s 9218868437227405312 := by
  rw [told64_some rfl]; show Ieee.double.word s Ieee.double.infRung = _; rw [inf64]
theorem mul_power64 (s : Bool) (m : Nat) (p q : Int) : told64 ((Ieee.Datum.number s m p).product (.number false 4503599627370496 q)) = Ieee.double.word s (rungOf Ieee.double m (p + q + 52)) := by
  show told64 (some (.number (s ^^ false) (m * 2 ^ 52) (p + q))) = _
  rw [xor_f, told64_num, rung_scale]; rfl
theorem quo_power64 (s : Bool) {m : Nat} (hm : m < 9007199254740992) (p q : Int) : told64 ((Ieee.Datum.number s m p).quotient 54 (.number false 4503599627370496 q)) = Ieee.double.word s (rungOf Ieee.double m (p - q - 52)) := by
  have hl2 : (4503599627370496 : Nat).log2 = 52 := by decide
  have hl : m.log2 ≤ 52 := by
    by_cases h0 : m = 0
    · subst h0; decide
    · have := (Nat.log2_lt h0).2 (show m < 2 ^ 53 from hm); omega
  obtain ⟨B, hB⟩ : ∃ B, B = 54 + (4503599627370496 : Nat).log2 - m.log2 := ⟨_, rfl⟩
  have hB1 : 54 ≤ B := by omega
  have em : (Ieee.Datum.number s m p).quotient 54 (.number false 4503599627370496 q) = some (.number (s ^^ false) (2 * ((m <<< B) / 4503599627370496) + ((m <<< B) % 4503599627370496 != 0).toNat) (p - q - (B : Int) - 1)) := by
    rw [hB]; simp [Ieee.Datum.quotient]
  have e1 : m <<< B = m * 2 ^ (B - 52) * 4503599627370496 := by
    rw [Nat.shiftLeft_eq, Nat.mul_assoc, show (4503599627370496 : Nat) = 2 ^ 52 from rfl, ← Nat.pow_add, show B - 52 + 52 = B by omega]
  rw [em, e1, Nat.mul_div_cancel _ (by decide), Nat.mul_mod_left, xor_f, told64_num]
  refine congrArg (Ieee.double.word s) ?_
  show rungOf Ieee.double (2 * (m * 2 ^ (B - 52)) + 0) _ = _
  have e2 : 2 * (m * 2 ^ (B - 52)) + 0 = m * 2 ^ (B - 51) := by
    rw [show B - 51 = (B - 52) + 1 by omega, Nat.pow_succ, Nat.add_zero, Nat.mul_comm 2, Nat.mul_assoc]
  rw [e2, rung_scale]
  congr 1; omega
/-- A word times 2^n, rounded. -/
def shfR (n : Int) : RNum → RNum
  | ⟨some (.inr (s, m, e, g))⟩ => .fin s m (e + n) g
  | x => x
def shfW (x : Nat) (n : Int) : Nat := roundD (shfR n (numOf Ieee.double x))
theorem shfW_nan {x : Nat} (h : (Ieee.double.read x).isNaN = true) (n : Int) : shfW x n = 9221120237041090560 := by
  obtain ⟨s, t, e⟩ := isNaN_cases h
  unfold shfW; rw [numOf_datum, e]; rfl
theorem shfW_inf {x : Nat} {s : Bool} (h : Ieee.double.read x = .infinity s) (n : Int) : shfW x n = Ieee.double.word s 9218868437227405312 := by
  unfold shfW; rw [numOf_datum, h]; rfl
theorem shfW_num {x : Nat} {s : Bool} {m : Nat} {p : Int} (h : Ieee.double.read x = .number s m p) (n : Int) : shfW x n = Ieee.double.word s (rungOf Ieee.double m (p + n)) := by
  unfold shfW; rw [numOf_datum, h]
  show roundD (.fin s m (p + n) false) = _
  rw [roundD_fin', nearest_rung]
theorem read_mag {x : Nat} {s : Bool} {m : Nat} {p : Int} (h : Ieee.double.read x = .number s m p) : m < 9007199254740992 := by
  rcases Nat.lt_trichotomy (rung64 x) 9218868437227405312 with g | g | g
  · rw [read_fin64 g] at h
    injection h with _ h _
    rw [← h]; exact mag_lt64 _
  · rw [read_inf64 g] at h; cases h
  · rw [read_nan64 g] at h; cases h
theorem quo_shf (x c : Nat) (q n : Int) (hc : Ieee.double.read c = .number false 4503599627370496 q) (hn : n = -q - 52) : opT .quo x c = shfW x n := by
  unfold opT opD
  rw [hc]
  dsimp only
  cases h : Ieee.double.read x with
  | nan s t => rw [shfW_nan (by rw [h]; rfl)]; rfl
  | infinity s =>
    rw [shfW_inf h, show (Ieee.Datum.infinity s).quotient 54 (.number false 4503599627370496 q) = some (.infinity (s ^^ false)) from rfl, told64_inf, xor_f]
  | number s m p =>
    rw [shfW_num h, quo_power64 s (read_mag h)]
    congr 2; omega
theorem mul_shf (x c : Nat) (q n : Int) (hc : Ieee.double.read c = .number false 4503599627370496 q) (hn : n = q + 52) : opT .mul x c = shfW x n := by
  unfold opT opD
  rw [hc]
  dsimp only
  cases h : Ieee.double.read x with
  | nan s t => rw [shfW_nan (by rw [h]; rfl)]; rfl
  | infinity s =>
    rw [shfW_inf h, show (Ieee.Datum.infinity s).product (.number false 4503599627370496 q) = some (.infinity (s ^^ false)) from rfl, told64_inf, xor_f]
  | number s m p =>
    rw [shfW_num h, mul_power64 s]
    congr 2; omega
theorem opT_comm (x y : Nat) : opT .mul x y = opT .mul y x := by
  unfold opT opD; dsimp only; rw [product_comm]
theorem read_c2 : Ieee.double.read 4611686018427387904 = .number false 4503599627370496 (-51) := by decide
theorem read_c4 : Ieee.double.read 4616189618054758400 = .number false 4503599627370496 (-50) := by decide
theorem read_c23 : Ieee.double.read 4710765210229538816 = .number false 4503599627370496 (-29) := by decide
theorem quo_4 (x : Nat) : opT .quo x 4616189618054758400 = shfW x (-2) := quo_shf x _ _ _ read_c4 (by omega)
theorem quo_2 (x : Nat) : opT .quo x 4611686018427387904 = shfW x (-1) := quo_shf x _ _ _ read_c2 (by omega)
theorem mul_2 (x : Nat) : opT .mul 4611686018427387904 x = shfW x 1 := by rw [opT_comm]; exact mul_shf x _ _ _ read_c2 (by omega)
theorem quo_23 (x : Nat) : opT .quo x 4710765210229538816 = shfW x (-23) := quo_shf x _ _ _ read_c23 (by omega)
theorem mul_23 (x : Nat) : opT .mul x 4710765210229538816 = shfW x 23 := mul_shf x _ _ _ read_c23 (by omega)
theorem opT_add (x y : Nat) : opT .add x y = add64V x y := rfl
end Go.Proofs.Ytlelgifdnhnphab

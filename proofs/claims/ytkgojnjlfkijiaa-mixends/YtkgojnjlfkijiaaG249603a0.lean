/- MixEnds: the walk. (gen_mends.py) -/
import Derived.Test.YtkgojnjlfkijiaaGecf1c6c4
namespace Go.Proofs.Ytkgojnjlfkijiaa
open Go.RowKit
set_option linter.unusedVariables false
set_option linter.unusedSimpArgs false

theorem mnames_walk (w : World) : Calls Try.prog 3 #[] w fun e w' => e = .returned (.bool true) ∧ Q w w' := by
  go_enter Try.func3, Try.ntmps3
  go_wp2_with fail
  refine (known15_any _).mono ?_
  rintro e w1 ⟨rfl, q1⟩
  go_wp2_with fail
  go_ret
  exact ⟨rfl, q1⟩
set_option maxHeartbeats 4000000 in
set_option maxRecDepth 100000 in
theorem mends_ff (s sa d : Nat) (hs : s < 4294967296) (ha : sa < 4294967296) (hd : d < 4294967296) (fd : rung32 d < 2139095040) (fs : rung32 s < 2139095040) (w : World) :
    Calls Try.prog 4 #[.int .u32 (s : Int), .int .u32 (sa : Int), .int .u32 (d : Int)] w fun e w' => e = .returned (.bool true) ∧ Q w w' := by
  have HFD : Hid (∀ x, Calls Try.prog 7 #[.int .u32 (d : Int)] x fun e w' => e = .returned (.bool true) ∧ w' = x) := fun x => by have := fin15_any d hd x; rw [decide_eq_true fd] at this; exact this
  have HFS : Hid (∀ x, Calls Try.prog 7 #[.int .u32 (s : Int)] x fun e w' => e = .returned (.bool true) ∧ w' = x) := fun x => by have := fin15_any s hs x; rw [decide_eq_true fs] at this; exact this
  have W1 : Hid (∀ x, Calls Try.prog 9 #[.int .i64 1, .int .u32 (s : Int), .int .u32 1065353216, .int .u32 (d : Int), .int .u32 (sa : Int)] x fun e w' => e = .returned (.int .u32 (mxV 1 s 1065353216 d sa : Nat)) ∧ Q x w') := fun x => way15_any 1 s 1065353216 d sa (by decide) (by decide) hs (by decide) hd ha x
  have V1 : Hid (∀ x, Calls Try.prog 8 #[.int .u32 (mxV 1 s 1065353216 d sa : Nat), .int .u32 (s : Int)] x fun e w' => e = .returned (.bool true) ∧ w' = x) := fun x => by have := value15_any (mxV 1 s 1065353216 d sa) s (mxV_lt _ _ _ _ _) hs x; rw [ends1 hs fd] at this; exact this
  have W2 : Hid (∀ x, Calls Try.prog 9 #[.int .i64 1, .int .u32 0, .int .u32 0, .int .u32 (d : Int), .int .u32 (sa : Int)] x fun e w' => e = .returned (.int .u32 (mxV 1 0 0 d sa : Nat)) ∧ Q x w') := fun x => way15_any 1 0 0 d sa (by decide) (by decide) (by decide) (by decide) hd ha x
  have V2 : Hid (∀ x, Calls Try.prog 8 #[.int .u32 (mxV 1 0 0 d sa : Nat), .int .u32 (d : Int)] x fun e w' => e = .returned (.bool true) ∧ w' = x) := fun x => by have := value15_any (mxV 1 0 0 d sa) d (mxV_lt _ _ _ _ _) hd x; rw [ends2 hd] at this; exact this
  have W3 : Hid (∀ x, Calls Try.prog 9 #[.int .i64 2, .int .u32 (s : Int), .int .u32 (sa : Int), .int .u32 (d : Int), .int .u32 1065353216] x fun e w' => e = .returned (.int .u32 (mxV 2 s sa d 1065353216 : Nat)) ∧ Q x w') := fun x => way15_any 2 s sa d 1065353216 (by decide) (by decide) hs ha hd (by decide) x
  have V3 : Hid (∀ x, Calls Try.prog 8 #[.int .u32 (mxV 2 s sa d 1065353216 : Nat), .int .u32 (s : Int)] x fun e w' => e = .returned (.bool true) ∧ w' = x) := fun x => by have := value15_any (mxV 2 s sa d 1065353216) s (mxV_lt _ _ _ _ _) hs x; rw [ends3 hs] at this; exact this
  have W4 : Hid (∀ x, Calls Try.prog 9 #[.int .i64 3, .int .u32 (s : Int), .int .u32 (sa : Int), .int .u32 (d : Int), .int .u32 0] x fun e w' => e = .returned (.int .u32 (mxV 3 s sa d 0 : Nat)) ∧ Q x w') := fun x => way15_any 3 s sa d 0 (by decide) (by decide) hs ha hd (by decide) x
  have V4 : Hid (∀ x, Calls Try.prog 8 #[.int .u32 (mxV 3 s sa d 0 : Nat), .int .u32 (s : Int)] x fun e w' => e = .returned (.bool true) ∧ w' = x) := fun x => by have := value15_any (mxV 3 s sa d 0) s (mxV_lt _ _ _ _ _) hs x; rw [ends4 hs] at this; exact this
  have W5 : Hid (∀ x, Calls Try.prog 9 #[.int .i64 3, .int .u32 (s : Int), .int .u32 (sa : Int), .int .u32 (d : Int), .int .u32 1065353216] x fun e w' => e = .returned (.int .u32 (mxV 3 s sa d 1065353216 : Nat)) ∧ Q x w') := fun x => way15_any 3 s sa d 1065353216 (by decide) (by decide) hs ha hd (by decide) x
  have V5 : Hid (∀ x, Calls Try.prog 8 #[.int .u32 (mxV 3 s sa d 1065353216 : Nat), .int .u32 0] x fun e w' => e = .returned (.bool true) ∧ w' = x) := fun x => by have := value15_any (mxV 3 s sa d 1065353216) 0 (mxV_lt _ _ _ _ _) (by decide) x; rw [ends5 fs] at this; exact this
  have W6 : Hid (∀ x, Calls Try.prog 9 #[.int .i64 2, .int .u32 (s : Int), .int .u32 (sa : Int), .int .u32 (d : Int), .int .u32 0] x fun e w' => e = .returned (.int .u32 (mxV 2 s sa d 0 : Nat)) ∧ Q x w') := fun x => way15_any 2 s sa d 0 (by decide) (by decide) hs ha hd (by decide) x
  have V6 : Hid (∀ x, Calls Try.prog 8 #[.int .u32 (mxV 2 s sa d 0 : Nat), .int .u32 0] x fun e w' => e = .returned (.bool true) ∧ w' = x) := fun x => by have := value15_any (mxV 2 s sa d 0) 0 (mxV_lt _ _ _ _ _) (by decide) x; rw [ends6 fs] at this; exact this
  generalize mxV 1 s 1065353216 d sa = v1 at *
  generalize mxV 1 0 0 d sa = v2 at *
  generalize mxV 2 s sa d 1065353216 = v3 at *
  generalize mxV 3 s sa d 0 = v4 at *
  generalize mxV 3 s sa d 1065353216 = v5 at *
  generalize mxV 2 s sa d 0 = v6 at *
  clear hs ha hd fd fs
  go_enter Try.func4, Try.ntmps4
  go_wp2_with fail
  refine (known15_any _).mono ?_
  rintro e w1 ⟨rfl, q1⟩
  have HQ : Hid (Q w w1) := q1
  clear q1
  go_wp2_with fail
  refine (HFD.out _).mono ?_
  rintro e w2 ⟨rfl, rfl⟩
  go_wp2_with fail
  refine (W1.out _).mono ?_
  rintro e x1 ⟨rfl, q1⟩
  have HQ : Hid (Q w x1) := HQ.out.trans q1
  clear q1
  go_wp2_with fail
  refine (V1.out _).mono ?_
  rintro e y1 ⟨rfl, rfl⟩
  go_wp2_with fail
  refine (W2.out _).mono ?_
  rintro e x2 ⟨rfl, q2⟩
  have HQ : Hid (Q w x2) := HQ.out.trans q2
  clear q2
  go_wp2_with fail
  refine (V2.out _).mono ?_
  rintro e y2 ⟨rfl, rfl⟩
  go_wp2_with fail
  refine (W3.out _).mono ?_
  rintro e x3 ⟨rfl, q3⟩
  have HQ : Hid (Q w x3) := HQ.out.trans q3
  clear q3
  go_wp2_with fail
  refine (V3.out _).mono ?_
  rintro e y3 ⟨rfl, rfl⟩
  go_wp2_with fail
  refine (W4.out _).mono ?_
  rintro e x4 ⟨rfl, q4⟩
  have HQ : Hid (Q w x4) := HQ.out.trans q4
  clear q4
  go_wp2_with fail
  refine (V4.out _).mono ?_
  rintro e y4 ⟨rfl, rfl⟩
  go_wp2_with fail
  refine (HFS.out _).mono ?_
  rintro e w3 ⟨rfl, rfl⟩
  go_wp2_with fail
  refine (W5.out _).mono ?_
  rintro e x5 ⟨rfl, q5⟩
  have HQ : Hid (Q w x5) := HQ.out.trans q5
  clear q5
  go_wp2_with fail
  refine (V5.out _).mono ?_
  rintro e y5 ⟨rfl, rfl⟩
  go_wp2_with fail
  refine (W6.out _).mono ?_
  rintro e x6 ⟨rfl, q6⟩
  have HQ : Hid (Q w x6) := HQ.out.trans q6
  clear q6
  go_wp2_with fail
  refine (V6.out _).mono ?_
  rintro e y6 ⟨rfl, rfl⟩
  go_wp2_with fail
  go_ret
  exact ⟨rfl, HQ.out⟩
set_option maxHeartbeats 4000000 in
set_option maxRecDepth 100000 in
theorem mends_fn (s sa d : Nat) (hs : s < 4294967296) (ha : sa < 4294967296) (hd : d < 4294967296) (fd : rung32 d < 2139095040) (fs : ¬ rung32 s < 2139095040) (w : World) :
    Calls Try.prog 4 #[.int .u32 (s : Int), .int .u32 (sa : Int), .int .u32 (d : Int)] w fun e w' => e = .returned (.bool true) ∧ Q w w' := by
  have HFD : Hid (∀ x, Calls Try.prog 7 #[.int .u32 (d : Int)] x fun e w' => e = .returned (.bool true) ∧ w' = x) := fun x => by have := fin15_any d hd x; rw [decide_eq_true fd] at this; exact this
  have HFS : Hid (∀ x, Calls Try.prog 7 #[.int .u32 (s : Int)] x fun e w' => e = .returned (.bool false) ∧ w' = x) := fun x => by have := fin15_any s hs x; rw [decide_eq_false fs] at this; exact this
  have W1 : Hid (∀ x, Calls Try.prog 9 #[.int .i64 1, .int .u32 (s : Int), .int .u32 1065353216, .int .u32 (d : Int), .int .u32 (sa : Int)] x fun e w' => e = .returned (.int .u32 (mxV 1 s 1065353216 d sa : Nat)) ∧ Q x w') := fun x => way15_any 1 s 1065353216 d sa (by decide) (by decide) hs (by decide) hd ha x
  have V1 : Hid (∀ x, Calls Try.prog 8 #[.int .u32 (mxV 1 s 1065353216 d sa : Nat), .int .u32 (s : Int)] x fun e w' => e = .returned (.bool true) ∧ w' = x) := fun x => by have := value15_any (mxV 1 s 1065353216 d sa) s (mxV_lt _ _ _ _ _) hs x; rw [ends1 hs fd] at this; exact this
  have W2 : Hid (∀ x, Calls Try.prog 9 #[.int .i64 1, .int .u32 0, .int .u32 0, .int .u32 (d : Int), .int .u32 (sa : Int)] x fun e w' => e = .returned (.int .u32 (mxV 1 0 0 d sa : Nat)) ∧ Q x w') := fun x => way15_any 1 0 0 d sa (by decide) (by decide) (by decide) (by decide) hd ha x
  have V2 : Hid (∀ x, Calls Try.prog 8 #[.int .u32 (mxV 1 0 0 d sa : Nat), .int .u32 (d : Int)] x fun e w' => e = .returned (.bool true) ∧ w' = x) := fun x => by have := value15_any (mxV 1 0 0 d sa) d (mxV_lt _ _ _ _ _) hd x; rw [ends2 hd] at this; exact this
  have W3 : Hid (∀ x, Calls Try.prog 9 #[.int .i64 2, .int .u32 (s : Int), .int .u32 (sa : Int), .int .u32 (d : Int), .int .u32 1065353216] x fun e w' => e = .returned (.int .u32 (mxV 2 s sa d 1065353216 : Nat)) ∧ Q x w') := fun x => way15_any 2 s sa d 1065353216 (by decide) (by decide) hs ha hd (by decide) x
  have V3 : Hid (∀ x, Calls Try.prog 8 #[.int .u32 (mxV 2 s sa d 1065353216 : Nat), .int .u32 (s : Int)] x fun e w' => e = .returned (.bool true) ∧ w' = x) := fun x => by have := value15_any (mxV 2 s sa d 1065353216) s (mxV_lt _ _ _ _ _) hs x; rw [ends3 hs] at this; exact this
  have W4 : Hid (∀ x, Calls Try.prog 9 #[.int .i64 3, .int .u32 (s : Int), .int .u32 (sa : Int), .int .u32 (d : Int), .int .u32 0] x fun e w' => e = .returned (.int .u32 (mxV 3 s sa d 0 : Nat)) ∧ Q x w') := fun x => way15_any 3 s sa d 0 (by decide) (by decide) hs ha hd (by decide) x
  have V4 : Hid (∀ x, Calls Try.prog 8 #[.int .u32 (mxV 3 s sa d 0 : Nat), .int .u32 (s : Int)] x fun e w' => e = .returned (.bool true) ∧ w' = x) := fun x => by have := value15_any (mxV 3 s sa d 0) s (mxV_lt _ _ _ _ _) hs x; rw [ends4 hs] at this; exact this
  generalize mxV 1 s 1065353216 d sa = v1 at *
  generalize mxV 1 0 0 d sa = v2 at *
  generalize mxV 2 s sa d 1065353216 = v3 at *
  generalize mxV 3 s sa d 0 = v4 at *
  clear hs ha hd fd fs
  go_enter Try.func4, Try.ntmps4
  go_wp2_with fail
  refine (known15_any _).mono ?_
  rintro e w1 ⟨rfl, q1⟩
  have HQ : Hid (Q w w1) := q1
  clear q1
  go_wp2_with fail
  refine (HFD.out _).mono ?_
  rintro e w2 ⟨rfl, rfl⟩
  go_wp2_with fail
  refine (W1.out _).mono ?_
  rintro e x1 ⟨rfl, q1⟩
  have HQ : Hid (Q w x1) := HQ.out.trans q1
  clear q1
  go_wp2_with fail
  refine (V1.out _).mono ?_
  rintro e y1 ⟨rfl, rfl⟩
  go_wp2_with fail
  refine (W2.out _).mono ?_
  rintro e x2 ⟨rfl, q2⟩
  have HQ : Hid (Q w x2) := HQ.out.trans q2
  clear q2
  go_wp2_with fail
  refine (V2.out _).mono ?_
  rintro e y2 ⟨rfl, rfl⟩
  go_wp2_with fail
  refine (W3.out _).mono ?_
  rintro e x3 ⟨rfl, q3⟩
  have HQ : Hid (Q w x3) := HQ.out.trans q3
  clear q3
  go_wp2_with fail
  refine (V3.out _).mono ?_
  rintro e y3 ⟨rfl, rfl⟩
  go_wp2_with fail
  refine (W4.out _).mono ?_
  rintro e x4 ⟨rfl, q4⟩
  have HQ : Hid (Q w x4) := HQ.out.trans q4
  clear q4
  go_wp2_with fail
  refine (V4.out _).mono ?_
  rintro e y4 ⟨rfl, rfl⟩
  go_wp2_with fail
  refine (HFS.out _).mono ?_
  rintro e w3 ⟨rfl, rfl⟩
  go_wp2_with fail
  go_ret
  exact ⟨rfl, HQ.out⟩
set_option maxHeartbeats 4000000 in
set_option maxRecDepth 100000 in
theorem mends_nf (s sa d : Nat) (hs : s < 4294967296) (ha : sa < 4294967296) (hd : d < 4294967296) (fd : ¬ rung32 d < 2139095040) (fs : rung32 s < 2139095040) (w : World) :
    Calls Try.prog 4 #[.int .u32 (s : Int), .int .u32 (sa : Int), .int .u32 (d : Int)] w fun e w' => e = .returned (.bool true) ∧ Q w w' := by
  have HFD : Hid (∀ x, Calls Try.prog 7 #[.int .u32 (d : Int)] x fun e w' => e = .returned (.bool false) ∧ w' = x) := fun x => by have := fin15_any d hd x; rw [decide_eq_false fd] at this; exact this
  have HFS : Hid (∀ x, Calls Try.prog 7 #[.int .u32 (s : Int)] x fun e w' => e = .returned (.bool true) ∧ w' = x) := fun x => by have := fin15_any s hs x; rw [decide_eq_true fs] at this; exact this
  have W2 : Hid (∀ x, Calls Try.prog 9 #[.int .i64 1, .int .u32 0, .int .u32 0, .int .u32 (d : Int), .int .u32 (sa : Int)] x fun e w' => e = .returned (.int .u32 (mxV 1 0 0 d sa : Nat)) ∧ Q x w') := fun x => way15_any 1 0 0 d sa (by decide) (by decide) (by decide) (by decide) hd ha x
  have V2 : Hid (∀ x, Calls Try.prog 8 #[.int .u32 (mxV 1 0 0 d sa : Nat), .int .u32 (d : Int)] x fun e w' => e = .returned (.bool true) ∧ w' = x) := fun x => by have := value15_any (mxV 1 0 0 d sa) d (mxV_lt _ _ _ _ _) hd x; rw [ends2 hd] at this; exact this
  have W3 : Hid (∀ x, Calls Try.prog 9 #[.int .i64 2, .int .u32 (s : Int), .int .u32 (sa : Int), .int .u32 (d : Int), .int .u32 1065353216] x fun e w' => e = .returned (.int .u32 (mxV 2 s sa d 1065353216 : Nat)) ∧ Q x w') := fun x => way15_any 2 s sa d 1065353216 (by decide) (by decide) hs ha hd (by decide) x
  have V3 : Hid (∀ x, Calls Try.prog 8 #[.int .u32 (mxV 2 s sa d 1065353216 : Nat), .int .u32 (s : Int)] x fun e w' => e = .returned (.bool true) ∧ w' = x) := fun x => by have := value15_any (mxV 2 s sa d 1065353216) s (mxV_lt _ _ _ _ _) hs x; rw [ends3 hs] at this; exact this
  have W4 : Hid (∀ x, Calls Try.prog 9 #[.int .i64 3, .int .u32 (s : Int), .int .u32 (sa : Int), .int .u32 (d : Int), .int .u32 0] x fun e w' => e = .returned (.int .u32 (mxV 3 s sa d 0 : Nat)) ∧ Q x w') := fun x => way15_any 3 s sa d 0 (by decide) (by decide) hs ha hd (by decide) x
  have V4 : Hid (∀ x, Calls Try.prog 8 #[.int .u32 (mxV 3 s sa d 0 : Nat), .int .u32 (s : Int)] x fun e w' => e = .returned (.bool true) ∧ w' = x) := fun x => by have := value15_any (mxV 3 s sa d 0) s (mxV_lt _ _ _ _ _) hs x; rw [ends4 hs] at this; exact this
  have W5 : Hid (∀ x, Calls Try.prog 9 #[.int .i64 3, .int .u32 (s : Int), .int .u32 (sa : Int), .int .u32 (d : Int), .int .u32 1065353216] x fun e w' => e = .returned (.int .u32 (mxV 3 s sa d 1065353216 : Nat)) ∧ Q x w') := fun x => way15_any 3 s sa d 1065353216 (by decide) (by decide) hs ha hd (by decide) x
  have V5 : Hid (∀ x, Calls Try.prog 8 #[.int .u32 (mxV 3 s sa d 1065353216 : Nat), .int .u32 0] x fun e w' => e = .returned (.bool true) ∧ w' = x) := fun x => by have := value15_any (mxV 3 s sa d 1065353216) 0 (mxV_lt _ _ _ _ _) (by decide) x; rw [ends5 fs] at this; exact this
  have W6 : Hid (∀ x, Calls Try.prog 9 #[.int .i64 2, .int .u32 (s : Int), .int .u32 (sa : Int), .int .u32 (d : Int), .int .u32 0] x fun e w' => e = .returned (.int .u32 (mxV 2 s sa d 0 : Nat)) ∧ Q x w') := fun x => way15_any 2 s sa d 0 (by decide) (by decide) hs ha hd (by decide) x
  have V6 : Hid (∀ x, Calls Try.prog 8 #[.int .u32 (mxV 2 s sa d 0 : Nat), .int .u32 0] x fun e w' => e = .returned (.bool true) ∧ w' = x) := fun x => by have := value15_any (mxV 2 s sa d 0) 0 (mxV_lt _ _ _ _ _) (by decide) x; rw [ends6 fs] at this; exact this
  generalize mxV 1 0 0 d sa = v2 at *
  generalize mxV 2 s sa d 1065353216 = v3 at *
  generalize mxV 3 s sa d 0 = v4 at *
  generalize mxV 3 s sa d 1065353216 = v5 at *
  generalize mxV 2 s sa d 0 = v6 at *
  clear hs ha hd fd fs
  go_enter Try.func4, Try.ntmps4
  go_wp2_with fail
  refine (known15_any _).mono ?_
  rintro e w1 ⟨rfl, q1⟩
  have HQ : Hid (Q w w1) := q1
  clear q1
  go_wp2_with fail
  refine (HFD.out _).mono ?_
  rintro e w2 ⟨rfl, rfl⟩
  go_wp2_with fail
  refine (W2.out _).mono ?_
  rintro e x2 ⟨rfl, q2⟩
  have HQ : Hid (Q w x2) := HQ.out.trans q2
  clear q2
  go_wp2_with fail
  refine (V2.out _).mono ?_
  rintro e y2 ⟨rfl, rfl⟩
  go_wp2_with fail
  refine (W3.out _).mono ?_
  rintro e x3 ⟨rfl, q3⟩
  have HQ : Hid (Q w x3) := HQ.out.trans q3
  clear q3
  go_wp2_with fail
  refine (V3.out _).mono ?_
  rintro e y3 ⟨rfl, rfl⟩
  go_wp2_with fail
  refine (W4.out _).mono ?_
  rintro e x4 ⟨rfl, q4⟩
  have HQ : Hid (Q w x4) := HQ.out.trans q4
  clear q4
  go_wp2_with fail
  refine (V4.out _).mono ?_
  rintro e y4 ⟨rfl, rfl⟩
  go_wp2_with fail
  refine (HFS.out _).mono ?_
  rintro e w3 ⟨rfl, rfl⟩
  go_wp2_with fail
  refine (W5.out _).mono ?_
  rintro e x5 ⟨rfl, q5⟩
  have HQ : Hid (Q w x5) := HQ.out.trans q5
  clear q5
  go_wp2_with fail
  refine (V5.out _).mono ?_
  rintro e y5 ⟨rfl, rfl⟩
  go_wp2_with fail
  refine (W6.out _).mono ?_
  rintro e x6 ⟨rfl, q6⟩
  have HQ : Hid (Q w x6) := HQ.out.trans q6
  clear q6
  go_wp2_with fail
  refine (V6.out _).mono ?_
  rintro e y6 ⟨rfl, rfl⟩
  go_wp2_with fail
  go_ret
  exact ⟨rfl, HQ.out⟩
set_option maxHeartbeats 4000000 in
set_option maxRecDepth 100000 in
theorem mends_nn (s sa d : Nat) (hs : s < 4294967296) (ha : sa < 4294967296) (hd : d < 4294967296) (fd : ¬ rung32 d < 2139095040) (fs : ¬ rung32 s < 2139095040) (w : World) :
    Calls Try.prog 4 #[.int .u32 (s : Int), .int .u32 (sa : Int), .int .u32 (d : Int)] w fun e w' => e = .returned (.bool true) ∧ Q w w' := by
  have HFD : Hid (∀ x, Calls Try.prog 7 #[.int .u32 (d : Int)] x fun e w' => e = .returned (.bool false) ∧ w' = x) := fun x => by have := fin15_any d hd x; rw [decide_eq_false fd] at this; exact this
  have HFS : Hid (∀ x, Calls Try.prog 7 #[.int .u32 (s : Int)] x fun e w' => e = .returned (.bool false) ∧ w' = x) := fun x => by have := fin15_any s hs x; rw [decide_eq_false fs] at this; exact this
  have W2 : Hid (∀ x, Calls Try.prog 9 #[.int .i64 1, .int .u32 0, .int .u32 0, .int .u32 (d : Int), .int .u32 (sa : Int)] x fun e w' => e = .returned (.int .u32 (mxV 1 0 0 d sa : Nat)) ∧ Q x w') := fun x => way15_any 1 0 0 d sa (by decide) (by decide) (by decide) (by decide) hd ha x
  have V2 : Hid (∀ x, Calls Try.prog 8 #[.int .u32 (mxV 1 0 0 d sa : Nat), .int .u32 (d : Int)] x fun e w' => e = .returned (.bool true) ∧ w' = x) := fun x => by have := value15_any (mxV 1 0 0 d sa) d (mxV_lt _ _ _ _ _) hd x; rw [ends2 hd] at this; exact this
  have W3 : Hid (∀ x, Calls Try.prog 9 #[.int .i64 2, .int .u32 (s : Int), .int .u32 (sa : Int), .int .u32 (d : Int), .int .u32 1065353216] x fun e w' => e = .returned (.int .u32 (mxV 2 s sa d 1065353216 : Nat)) ∧ Q x w') := fun x => way15_any 2 s sa d 1065353216 (by decide) (by decide) hs ha hd (by decide) x
  have V3 : Hid (∀ x, Calls Try.prog 8 #[.int .u32 (mxV 2 s sa d 1065353216 : Nat), .int .u32 (s : Int)] x fun e w' => e = .returned (.bool true) ∧ w' = x) := fun x => by have := value15_any (mxV 2 s sa d 1065353216) s (mxV_lt _ _ _ _ _) hs x; rw [ends3 hs] at this; exact this
  have W4 : Hid (∀ x, Calls Try.prog 9 #[.int .i64 3, .int .u32 (s : Int), .int .u32 (sa : Int), .int .u32 (d : Int), .int .u32 0] x fun e w' => e = .returned (.int .u32 (mxV 3 s sa d 0 : Nat)) ∧ Q x w') := fun x => way15_any 3 s sa d 0 (by decide) (by decide) hs ha hd (by decide) x
  have V4 : Hid (∀ x, Calls Try.prog 8 #[.int .u32 (mxV 3 s sa d 0 : Nat), .int .u32 (s : Int)] x fun e w' => e = .returned (.bool true) ∧ w' = x) := fun x => by have := value15_any (mxV 3 s sa d 0) s (mxV_lt _ _ _ _ _) hs x; rw [ends4 hs] at this; exact this
  generalize mxV 1 0 0 d sa = v2 at *
  generalize mxV 2 s sa d 1065353216 = v3 at *
  generalize mxV 3 s sa d 0 = v4 at *
  clear hs ha hd fd fs
  go_enter Try.func4, Try.ntmps4
  go_wp2_with fail
  refine (known15_any _).mono ?_
  rintro e w1 ⟨rfl, q1⟩
  have HQ : Hid (Q w w1) := q1
  clear q1
  go_wp2_with fail
  refine (HFD.out _).mono ?_
  rintro e w2 ⟨rfl, rfl⟩
  go_wp2_with fail
  refine (W2.out _).mono ?_
  rintro e x2 ⟨rfl, q2⟩
  have HQ : Hid (Q w x2) := HQ.out.trans q2
  clear q2
  go_wp2_with fail
  refine (V2.out _).mono ?_
  rintro e y2 ⟨rfl, rfl⟩
  go_wp2_with fail
  refine (W3.out _).mono ?_
  rintro e x3 ⟨rfl, q3⟩
  have HQ : Hid (Q w x3) := HQ.out.trans q3
  clear q3
  go_wp2_with fail
  refine (V3.out _).mono ?_
  rintro e y3 ⟨rfl, rfl⟩
  go_wp2_with fail
  refine (W4.out _).mono ?_
  rintro e x4 ⟨rfl, q4⟩
  have HQ : Hid (Q w x4) := HQ.out.trans q4
  clear q4
  go_wp2_with fail
  refine (V4.out _).mono ?_
  rintro e y4 ⟨rfl, rfl⟩
  go_wp2_with fail
  refine (HFS.out _).mono ?_
  rintro e w3 ⟨rfl, rfl⟩
  go_wp2_with fail
  go_ret
  exact ⟨rfl, HQ.out⟩
theorem mends_walk (s sa d : Nat) (hs : s < 4294967296) (ha : sa < 4294967296) (hd : d < 4294967296) (w : World) :
    Calls Try.prog 4 #[.int .u32 (s : Int), .int .u32 (sa : Int), .int .u32 (d : Int)] w fun e w' => e = .returned (.bool true) ∧ Q w w' := by
  by_cases fd : rung32 d < 2139095040
  · by_cases fs : rung32 s < 2139095040
    · exact mends_ff s sa d hs ha hd fd fs w
    · exact mends_fn s sa d hs ha hd fd fs w
  · by_cases fs : rung32 s < 2139095040
    · exact mends_nf s sa d hs ha hd fd fs w
    · exact mends_nn s sa d hs ha hd fd fs w
end Go.Proofs.Ytkgojnjlfkijiaa

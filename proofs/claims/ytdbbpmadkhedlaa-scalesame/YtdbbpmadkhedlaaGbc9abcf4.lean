/- kernel.shapeOf; what a kernel's closure tells. -/
import Derived.Test.YtdbbpmadkhedlaaGede12367
import Derived.Laws.EntriesVeiled
import Derived.Test.YtdbbpmadkhedlaaG10bb6ad9
namespace Go.Proofs.Ytdbbpmadkhedlaa
open Go.RowKit
set_option linter.unusedVariables false
set_option linter.unusedSimpArgs false

/-- Which function a kernel is. -/
def kfn (kind : Int) : Nat := if kind = 1 then 49 else if kind = 2 then 50 else 52
theorem kfn_enters (kind : Int) : ∀ args w, (callFunc (kfn kind) args).run Try.prog w = .ok (.enter (kfn kind) args) w := by
  unfold kfn
  split
  · exact fun _ _ => rfl
  · split
    · exact fun _ _ => rfl
    · exact fun _ _ => rfl
/-- What the box of a kernel's closure holds. -/
def kbx (kind m : Int) : Int := if kind = 1 then m else 2 * m
theorem kfn_any (kind m d : Int) (b : Nat) (w : World) (hk : kind = 1 ∨ kind = 2 ∨ kind = 3) (hb : w.cell? ⟨b, 0, none⟩ = some (.int .i64 (kbx kind m))) (m0 : 1 ≤ m) (m1 : m ≤ 1024) (h1 : -8192 ≤ d) (h2 : d ≤ 8192) :
    Calls Try.prog (kfn kind) #[.int .i64 d, .pointer (some ⟨b, 0, none⟩)] w fun e w' => e = .returned (.int .i64 (wgt kind m d)) ∧ Q w w' := by
  rcases hk with rfl | rfl | rfl
  · exact (sh1_any m d b w hb m0 m1).mono fun e w' ⟨h1, h2⟩ => ⟨h1, by rw [h2]; exact Q.refl w⟩
  · exact sh2_any (2 * m) d b w hb (by omega) (by omega) h1 h2
  · exact sh3_any (2 * m) d b w hb (by omega) (by omega) h1 h2
theorem rea_size {kind m : Int} (m0 : 1 ≤ m) : m ≤ rea kind m ∧ rea kind m ≤ 4 * m := by unfold rea; split; omega; split <;> omega
set_option maxHeartbeats 2000000 in
set_option maxRecDepth 100000 in
theorem shape_any (kind m : Int) (w : World) (hk : kind = 1 ∨ kind = 2 ∨ kind = 3) (m0 : 1 ≤ m) (m1 : m ≤ 1024) :
    Calls Try.prog 38 #[.int .i64 kind, .int .i64 m] w fun e w' => ∃ b, e = .returned (.agg #[.int .i64 (rea kind m), .func (.func (kfn kind)) #[] #[.pointer (some ⟨b, 0, none⟩)]]) ∧ w'.cell? ⟨b, 0, none⟩ = some (.int .i64 (kbx kind m)) ∧ Q w w' := by
  have q1 : Q w (((w.alloc (.cells #[.int .i64 m] 3)).alloc (.cells #[.int .i64 0, .nilFunc] 81)).alloc (.cells #[.int .i64 (2 * m)] 3)) := (((Q.refl w).cells _ _).cells _ _).cells _ _
  rcases hk with rfl | rfl | rfl
  · have HR : Hid (rea 1 m = m ∧ kbx 1 m = m ∧ kfn 1 = 49) := ⟨rfl, rfl, rfl⟩
    rw [HR.out.1, HR.out.2.1, HR.out.2.2]
    have e4 : 2 * (2 * m) = 4 * m := by omega
    go_enter Try.func38, Try.ntmps38
    go_wp2_with fail
    try simp only [Exit.inBlock, Exit.then]
    refine bodyPost_ret (v := .agg #[.int .i64 (m), .func (.func 49) #[] #[.pointer (some ⟨w.heap.size, 0, none⟩)]]) (by simp [results, Try.results38, go_sem]) rfl ⟨w.heap.size, rfl, by simp [go_sem], ?_⟩
    exact (((Q.refl w).cells _ _).cells _ _).cells _ _
  · have HR : Hid (rea 2 m = 2 * m ∧ kbx 2 m = 2 * m ∧ kfn 2 = 50) := ⟨rfl, rfl, rfl⟩
    rw [HR.out.1, HR.out.2.1, HR.out.2.2]
    have e4 : 2 * (2 * m) = 4 * m := by omega
    go_enter Try.func38, Try.ntmps38
    go_wp2_with fail
    try simp only [Exit.inBlock, Exit.then]
    refine bodyPost_ret (v := .agg #[.int .i64 (2 * m), .func (.func 50) #[] #[.pointer (some ⟨w.heap.size + 2, 0, none⟩)]]) (by simp [results, Try.results38, go_sem]) rfl ⟨w.heap.size + 2, rfl, by simp [go_sem], ?_⟩
    exact (((Q.refl w).cells _ _).cells _ _).cells _ _
  · have HR : Hid (rea 3 m = 4 * m ∧ kbx 3 m = 2 * m ∧ kfn 3 = 52) := ⟨rfl, rfl, rfl⟩
    rw [HR.out.1, HR.out.2.1, HR.out.2.2]
    have e4 : 2 * (2 * m) = 4 * m := by omega
    go_enter Try.func38, Try.ntmps38
    go_wp2_with fail
    try simp only [Exit.inBlock, Exit.then]
    refine bodyPost_ret (v := .agg #[.int .i64 (4 * m), .func (.func 52) #[] #[.pointer (some ⟨w.heap.size + 2, 0, none⟩)]]) (by simp [results, Try.results38, go_sem]) rfl ⟨w.heap.size + 2, rfl, by simp [go_sem], ?_⟩
    exact (((Q.refl w).cells _ _).cells _ _).cells _ _
end Go.Proofs.Ytdbbpmadkhedlaa
/- Places and their weights, plain: gone through in order, those at one place together. -/
namespace Go.Proofs.Ytdbbpmadkhedlaa
set_option linter.unusedVariables false
set_option linter.unusedSimpArgs false

theorem last_form {L : List (Int × Int)} {e : Int × Int} (h : L.getLast? = some e) : L.dropLast ++ [e] = L := by
  obtain ⟨ys, rfl⟩ := List.getLast?_eq_some_iff.1 h
  rw [List.dropLast_concat]
/-- One more weight. -/
def wput (L : List (Int × Int)) (p n : Int) : List (Int × Int) :=
  if n = 0 then L else match L.getLast? with
  | some e => if e.1 = p then L.dropLast ++ [(p, e.2 + n)] else L ++ [(p, n)]
  | none => L ++ [(p, n)]
/-- The weights f of a, a + 1, .. at the places pl. -/
def wrun (f pl : Int → Int) (a : Int) : Nat → List (Int × Int)
  | 0 => []
  | j + 1 => wput (wrun f pl a j) (pl (a + j)) (f (a + j))
theorem wput_zero (L : List (Int × Int)) (p : Int) : wput L p 0 = L := by unfold wput; rw [if_pos rfl]
theorem wput_new {L : List (Int × Int)} {p n : Int} (hn : n ≠ 0) (h : ∀ e, L.getLast? = some e → e.1 ≠ p) : wput L p n = L ++ [(p, n)] := by
  unfold wput
  rw [if_neg hn]
  cases hl : L.getLast? with
  | none => rfl
  | some e => simp only; rw [if_neg (h e hl)]
theorem wput_more {L : List (Int × Int)} {p n : Int} {e : Int × Int} (hn : n ≠ 0) (h : L.getLast? = some e) (he : e.1 = p) : wput L p n = L.dropLast ++ [(p, e.2 + n)] := by
  unfold wput
  rw [if_neg hn, h]
  simp only
  rw [if_pos he]
theorem wput_cases (L : List (Int × Int)) (p n : Int) : wput L p n = L ∧ n = 0 ∨ (n ≠ 0 ∧ wput L p n = L ++ [(p, n)] ∧ ∀ e, L.getLast? = some e → e.1 ≠ p) ∨ ∃ M x, n ≠ 0 ∧ L = M ++ [(p, x)] ∧ wput L p n = M ++ [(p, x + n)] := by
  by_cases hn : n = 0
  · subst hn; exact Or.inl ⟨wput_zero L p, rfl⟩
  · cases hl : L.getLast? with
    | none => exact Or.inr (Or.inl ⟨hn, wput_new hn (fun e he => by rw [hl] at he; cases he), fun e he => by cases he⟩)
    | some e =>
      by_cases he : e.1 = p
      · refine Or.inr (Or.inr ⟨L.dropLast, e.2, hn, ?_, wput_more hn hl he⟩)
        have := last_form hl
        rw [← this]
        simp [← he]
      · exact Or.inr (Or.inl ⟨hn, wput_new hn (fun e' h' => by rw [hl] at h'; cases h'; exact he), fun e' h' => by cases h'; exact he⟩)
def sndSum (L : List (Int × Int)) : Int := (L.map Prod.snd).sum
theorem sndSum_put (L : List (Int × Int)) (p n : Int) : sndSum (wput L p n) = sndSum L + n := by
  unfold sndSum
  rcases wput_cases L p n with ⟨h, e⟩ | ⟨_, h, _⟩ | ⟨M, x, _, h1, h2⟩
  · rw [h, e]; omega
  · rw [h]; simp
  · rw [h1] at h2 ⊢; rw [h2]; simp; omega
theorem wput_len (L : List (Int × Int)) (p n : Int) : (wput L p n).length ≤ L.length + 1 := by
  rcases wput_cases L p n with ⟨h, e⟩ | ⟨_, h, _⟩ | ⟨M, x, _, h1, h2⟩
  · rw [h]; omega
  · rw [h]; simp
  · rw [h1] at h2 ⊢; rw [h2]; simp
theorem wrun_len (f pl : Int → Int) (a : Int) : ∀ j, (wrun f pl a j).length ≤ j
  | 0 => Nat.le_refl _
  | j + 1 => by have := wput_len (wrun f pl a j) (pl (a + j)) (f (a + j)); have := wrun_len f pl a j; show (wput _ _ _).length ≤ _; omega
theorem wrun_sum (f pl : Int → Int) (a : Int) : ∀ j, sndSum (wrun f pl a j) = sumF (fun i => f (a + i)) j
  | 0 => rfl
  | j + 1 => by show sndSum (wput _ _ _) = sumF _ j + f (a + j); rw [sndSum_put, wrun_sum f pl a j]
/-- What holds of all weights. -/
theorem wrun_bound {f pl : Int → Int} {a B : Int} (hB : 0 ≤ B) (hf : ∀ k, -B ≤ f k ∧ f k ≤ B) : ∀ j, ∀ e ∈ wrun f pl a j, -((j : Int) * B) ≤ e.2 ∧ e.2 ≤ (j : Int) * B
  | 0, e, he => by cases he
  | j + 1, e, he => by
    have ih := wrun_bound (pl := pl) (a := a) hB hf j
    have hm : ((j + 1 : Nat) : Int) * B = (j : Int) * B + B := by rw [Int.natCast_add, Int.add_mul]; simp
    rw [hm]
    have h1 := hf (a + j)
    have h0 : 0 ≤ (j : Int) * B := Int.mul_nonneg (by omega) hB
    rcases wput_cases (wrun f pl a j) (pl (a + j)) (f (a + j)) with ⟨h, e'⟩ | ⟨_, h, _⟩ | ⟨M, x, _, h1', h2⟩
    · have he : e ∈ wput (wrun f pl a j) (pl (a + j)) (f (a + j)) := he
      rw [h] at he; have := ih e he; omega
    · have he : e ∈ wput (wrun f pl a j) (pl (a + j)) (f (a + j)) := he
      rw [h, List.mem_append, List.mem_singleton] at he
      rcases he with he | rfl
      · have := ih e he; omega
      · show _ ≤ f (a + j) ∧ f (a + j) ≤ _; omega
    · have he : e ∈ wput (wrun f pl a j) (pl (a + j)) (f (a + j)) := he
      rw [h2, List.mem_append, List.mem_singleton] at he
      rcases he with he | rfl
      · have := ih e (by rw [h1']; exact List.mem_append_left _ he); omega
      · have := ih (pl (a + j), x) (by rw [h1']; simp)
        show _ ≤ x + f (a + j) ∧ x + f (a + j) ≤ _
        simp only at this
        omega
/-- Places rise. -/
theorem wrun_rises {f pl : Int → Int} {a : Int} (hp : ∀ x y, x ≤ y → pl x ≤ pl y) : ∀ j, (wrun f pl a j).Pairwise (fun x y => x.1 < y.1) ∧ ∀ e ∈ wrun f pl a j, e.1 ≤ pl (a + j)
  | 0 => ⟨List.Pairwise.nil, fun e he => by cases he⟩
  | j + 1 => by
    obtain ⟨ih1, ih2⟩ := wrun_rises (f := f) (a := a) hp j
    have hn := hp (a + j) (a + ((j + 1 : Nat) : Int)) (by omega)
    show (wput _ _ _).Pairwise _ ∧ ∀ e ∈ wput _ _ _, _
    rcases wput_cases (wrun f pl a j) (pl (a + j)) (f (a + j)) with ⟨h, e'⟩ | ⟨_, h, h3⟩ | ⟨M, x, _, h1', h2⟩
    · rw [h]; exact ⟨ih1, fun e he => Int.le_trans (ih2 e he) hn⟩
    · rw [h]
      refine ⟨List.pairwise_append.2 ⟨ih1, List.pairwise_singleton _ _, fun e he e2 he2 => ?_⟩, fun e he => ?_⟩
      · rw [List.mem_singleton] at he2
        subst he2
        show e.1 < pl (a + j)
        have h5 := ih2 e he
        -- the last one is not at this place, and none is behind it
        cases hl : (wrun f pl a j).getLast? with
        | none => rw [List.getLast?_eq_none_iff] at hl; rw [hl] at he; cases he
        | some z =>
          have hz := h3 z hl
          have hzm : z ∈ wrun f pl a j := List.mem_of_getLast? hl
          have hz2 := ih2 z hzm
          have hez : e = z ∨ e.1 < z.1 := by
            have e1 := last_form hl
            rw [← e1] at he ih1
            rcases List.mem_append.1 he with he | he
            · exact Or.inr ((List.pairwise_append.1 ih1).2.2 e he z (by simp))
            · exact Or.inl (List.mem_singleton.1 he)
          rcases hez with rfl | hez
          · omega
          · omega
      · rcases List.mem_append.1 he with he | he
        · exact Int.le_trans (ih2 e he) hn
        · rw [List.mem_singleton] at he; subst he; exact hn
    · rw [h2]
      rw [h1'] at ih1 ih2
      refine ⟨?_, fun e he => ?_⟩
      · rw [List.pairwise_append] at ih1 ⊢
        refine ⟨ih1.1, List.pairwise_singleton _ _, fun e he e2 he2 => ?_⟩
        rw [List.mem_singleton] at he2
        subst he2
        exact ih1.2.2 e he (pl (a + j), x) (by simp)
      · rcases List.mem_append.1 he with he | he
        · exact Int.le_trans (ih2 e (List.mem_append_left _ he)) hn
        · rw [List.mem_singleton] at he; subst he; exact hn
/-- A property of all places. -/
theorem wrun_all {f pl : Int → Int} {a : Int} {P : Int → Prop} (hp : ∀ k, P (pl k)) : ∀ j, ∀ e ∈ wrun f pl a j, P e.1
  | 0, e, he => by cases he
  | j + 1, e, he => by
    have ih := wrun_all (f := f) (a := a) hp j
    have he : e ∈ wput (wrun f pl a j) (pl (a + j)) (f (a + j)) := he
    rcases wput_cases (wrun f pl a j) (pl (a + j)) (f (a + j)) with ⟨h, e'⟩ | ⟨_, h, _⟩ | ⟨M, x, _, h1', h2⟩
    · rw [h] at he; exact ih e he
    · rw [h] at he
      rcases List.mem_append.1 he with he | he
      · exact ih e he
      · rw [List.mem_singleton] at he; subst he; exact hp _
    · rw [h2] at he
      rcases List.mem_append.1 he with he | he
      · exact ih e (by rw [h1']; exact List.mem_append_left _ he)
      · rw [List.mem_singleton] at he; subst he; exact hp _
/-- Weights that aren't below 0 stay above 0. -/
theorem wrun_pos {f pl : Int → Int} {a : Int} (hf : ∀ k, 0 ≤ f k) : ∀ j, ∀ e ∈ wrun f pl a j, 0 < e.2
  | 0, e, he => by cases he
  | j + 1, e, he => by
    have ih := wrun_pos (pl := pl) (a := a) hf j
    have h0 := hf (a + j)
    have he : e ∈ wput (wrun f pl a j) (pl (a + j)) (f (a + j)) := he
    rcases wput_cases (wrun f pl a j) (pl (a + j)) (f (a + j)) with ⟨h, e'⟩ | ⟨hn, h, _⟩ | ⟨M, x, hn, h1', h2⟩
    · rw [h] at he; exact ih e he
    · rw [h] at he
      rcases List.mem_append.1 he with he | he
      · exact ih e he
      · rw [List.mem_singleton] at he; subst he; show 0 < f (a + j); omega
    · rw [h2] at he
      rcases List.mem_append.1 he with he | he
      · exact ih e (by rw [h1']; exact List.mem_append_left _ he)
      · rw [List.mem_singleton] at he; subst he
        have := ih (pl (a + j), x) (by rw [h1']; simp)
        show 0 < x + f (a + j)
        simp only at this
        omega
end Go.Proofs.Ytdbbpmadkhedlaa

/- PicturePlaces: Two of two pictures, and of their pieces. -/
import Derived.Test.YtdempklpmggdoaaG437eb16c
namespace Go.Proofs.Ytdempklpmggdoaa
open Go.RowKit
set_option linter.unusedVariables false
set_option linter.unusedSimpArgs false

/-- An answer of whatever kind. -/
def AnyP (w : World) (e : Ending) (w' : World) : Prop := ∃ s q m k er, e = .returned (.tuple #[.agg #[.int .i64 s, .slice q m k], .int .i64 er]) ∧ Q w w'
theorem two_some (k : Int) (w : World) (sp sp' : Int) (g o cap g' o' cap' a b n m a' b' : Nat) (L L' : List PL) (h : Pc w g o a b L) (hn : L.length = n) (hcap : n ≤ cap) (h' : Pc w g' o' a' b' L') (hn' : L'.length = m) (hcap' : m ≤ cap') (hsp : spcB sp n = true) (hsp' : spcB sp' m = true) :
    Calls Try.prog 12 #[.int .i64 k, .agg #[.int .i64 sp, .slice (some ⟨g, o, none⟩) n cap], .agg #[.int .i64 sp', .slice (some ⟨g', o', none⟩) m cap']] w fun e w' => AnyP w e w' := by
  rcases kinds k with ⟨f, G, hk⟩ | hk
  · by_cases h1 : n = m
    · subst h1
      by_cases h2 : a = a' ∧ b = b'
      · obtain ⟨rfl, rfl⟩ := h2
        by_cases h3 : sp = sp'
        · subst h3
          exact (two_good hk w sp g o cap g' o' cap' a b n L L' h hn hcap h' hn' hcap' hsp).mono fun e w' ⟨g1, k1, M, e1, e2, e3, e4⟩ => ⟨_, _, _, _, _, e1, e4⟩
        · exact (two_81 hk w sp sp' g o cap g' o' cap' a b n L L' h hn hcap h' hn' hcap' hsp hsp' h3).mono fun e w' ⟨e1, e4⟩ => ⟨_, _, _, _, _, e1, e4⟩
      · exact (two_80b hk w sp sp' g o cap g' o' cap' a b n a' b' L L' h hn hcap h' hn' hcap' hsp hsp' h2).mono fun e w' ⟨e1, e4⟩ => ⟨_, _, _, _, _, e1, e4⟩
    · exact (two_80a hk w sp sp' g o cap g' o' cap' a b n m a' b' L L' h hn hcap h' hn' hcap' hsp hsp' h1).mono fun e w' ⟨e1, e4⟩ => ⟨_, _, _, _, _, e1, e4⟩
  · exact (two_kind hk w sp sp' g o cap g' o' cap' a b n m a' b' L L' h hn hcap h' hn' hcap' hsp hsp').mono fun e w' ⟨e1, e4⟩ => ⟨_, _, _, _, _, e1, e4⟩
/-- Two of a good picture and of what Crop answers of another one. -/
theorem two_cro {x0 y0 x1 y1 : Int} (k : Int) (w : World) (sp sp' : Int) (g o cap a b n a' b' m : Nat) (L L' : List PL) (h : Pc w g o a b L) (hn : L.length = n) (hcap : n ≤ cap) (hsp : spcB sp n = true) (hsp' : spcB sp' m = true) {spY : Int} {py : Option Addr} {ny cy : Nat} {eY : Int} (hc : Cro x0 y0 x1 y1 sp' a' b' m L' w spY py ny cy eY) :
    Calls Try.prog 12 #[.int .i64 k, .agg #[.int .i64 sp, .slice (some ⟨g, o, none⟩) n cap], .agg #[.int .i64 spY, .slice py ny cy]] w fun e w' => AnyP w e w' := by
  rcases hc with ⟨_, rfl, rfl, rfl, rfl, rfl⟩ | ⟨X, Y, c, d, gY, M, _, _, _, _, _, rfl, rfl, rfl, h4, rfl, h5, h6, h7⟩
  · exact (two_nil k w sp g o cap a b n L h hn hcap hsp).mono fun e w' ⟨e1, e4⟩ => ⟨_, _, _, _, _, e1, e4⟩
  · exact two_some k w sp sp' g o cap gY 0 cy a b n m c d L M h hn hcap h5 h6 h4 hsp hsp'
/-- What Two answers of two pictures and of their pieces: pieces. -/
theorem two_u {x0 y0 x1 y1 : Int} {X Y c d : Nat} (hX : (X : Int) = x0) (hY : (Y : Int) = y0) (hx1 : x1 = (X + c : Nat)) (hy1 : y1 = (Y + d : Nat)) (k : Int) (w : World) (sp sp' : Int) (g o cap a b n g' o' cap' a' b' m gX cx : Nat) (L L' MX : List PL) (hr : Rct a b X Y c d)
    (h : Pc w g o a b L) (hn : L.length = n) (hcap : n ≤ cap) (h' : Pc w g' o' a' b' L') (hn' : L'.length = m) (hcap' : m ≤ cap') (hsp : spcB sp n = true) (hsp' : spcB sp' m = true)
    (hPX : Pc w gX 0 c d MX) (hLX : MX.length = n) (hcx : n ≤ cx) (hMX : MX.map PL.S = (L.map PL.S).map (cutL a X Y c d)) {spY : Int} {py : Option Addr} {ny cy : Nat} {eY : Int} (hc : Cro x0 y0 x1 y1 sp' a' b' m L' w spY py ny cy eY) :
    ∃ ok s m1 er A, ((ok = true ∧ er = 0) ∨ (ok = false ∧ ¬ er = 0)) ∧
      (∀ u, Q w u → Calls Try.prog 12 #[.int .i64 k, .agg #[.int .i64 sp, .slice (some ⟨g, o, none⟩) n cap], .agg #[.int .i64 sp', .slice (some ⟨g', o', none⟩) m cap']] u fun e w' => ∃ q k1, e = .returned (.tuple #[.agg #[.int .i64 s, .slice q m1 k1], .int .i64 er]) ∧ Q u w' ∧ (ok = true → ∃ gC C, q = some ⟨gC, 0, none⟩ ∧ m1 ≤ k1 ∧ C.length = m1 ∧ Nw u.heap.size w' gC k1 a b C ∧ C.map PL.S = A)) ∧
      (∀ u, Q w u → Calls Try.prog 12 #[.int .i64 k, .agg #[.int .i64 sp, .slice (some ⟨gX, 0, none⟩) n cx], .agg #[.int .i64 spY, .slice py ny cy]] u fun e w' => ∃ s2 q m2 k1 er2, e = .returned (.tuple #[.agg #[.int .i64 s2, .slice q m2 k1], .int .i64 er2]) ∧ Q u w' ∧ (ok = true → s2 = s ∧ m2 = m1 ∧ er2 = 0 ∧ ∃ gC C, q = some ⟨gC, 0, none⟩ ∧ m1 ≤ k1 ∧ C.length = m1 ∧ Nw u.heap.size w' gC k1 c d C ∧ C.map PL.S = A.map (cutL a X Y c d))) := by
  have bad : ∀ u, Q w u → Calls Try.prog 12 #[.int .i64 k, .agg #[.int .i64 sp, .slice (some ⟨gX, 0, none⟩) n cx], .agg #[.int .i64 spY, .slice py ny cy]] u fun e w' => ∃ s2 q m2 k1 er2, e = .returned (.tuple #[.agg #[.int .i64 s2, .slice q m2 k1], .int .i64 er2]) ∧ Q u w' ∧ (false = true → s2 = 0 ∧ m2 = 0 ∧ er2 = 0 ∧ ∃ gC C, q = some ⟨gC, 0, none⟩ ∧ 0 ≤ k1 ∧ C.length = 0 ∧ Nw u.heap.size w' gC k1 c d C ∧ C.map PL.S = ([] : List (List Nat)).map (cutL a X Y c d)) := fun u q => (two_cro k u sp sp' gX 0 cx c d n a' b' m MX L' (hPX.next q) hLX hcx hsp hsp' (hc.next q)).mono fun e w' ⟨s2, q2, m2, k2, e2, h1, h2⟩ => ⟨s2, q2, m2, k2, e2, h1, h2, fun h => by cases h⟩
  rcases kinds k with ⟨f, G, hk⟩ | hk
  · by_cases h1 : n = m
    · by_cases h2 : a = a' ∧ b = b'
      · by_cases h3 : sp = sp'
        · subst h1 h3
          obtain ⟨rfl, rfl⟩ := h2
          rcases hc with ⟨hw, _⟩ | ⟨X2, Y2, c2, d2, gY, M, e1, e2, e3, e4, hr2, rfl, rfl, rfl, hcy, rfl, hPY, hLY, hMY⟩
          · rw [rct_wiB hX hY hx1 hy1 hr] at hw
            cases hw
          · obtain rfl : X = X2 := by omega
            obtain rfl : Y = Y2 := by omega
            obtain rfl : c = c2 := by omega
            obtain rfl : d = d2 := by omega
            refine ⟨true, sp, n, 0, zTo G (L.map PL.S) (L'.map PL.S) n, Or.inl ⟨rfl, rfl⟩, fun u q => ?_, fun u q => ?_⟩
            · refine (two_good hk u sp g o cap g' o' cap' a b n L L' (h.next q) hn hcap (h'.next q) hn' hcap' hsp).mono fun e w' ⟨g1, k1, M1, f1, f2, f3, f4⟩ => ⟨_, _, f1, f4, fun _ => ⟨g1, M1, rfl, ?_, ?_, f3.out, f2⟩⟩
              · have := f3.out.room
                have l2 := congrArg List.length f2
                rw [List.length_map, zTo_len, List.length_map, hn] at l2
                omega
              · have l2 := congrArg List.length f2
                rw [List.length_map, zTo_len, List.length_map, hn] at l2
                exact l2
            · refine (two_good hk u sp gX 0 cx gY 0 cy c d n MX M (hPX.next q) hLX hcx (hPY.next q) hLY hcy hsp).mono fun e w' ⟨g1, k1, M1, f1, f2, f3, f4⟩ => ⟨_, _, _, _, _, f1, f4, fun _ => ⟨rfl, rfl, rfl, g1, M1, rfl, ?_, ?_, f3.out, ?_⟩⟩
              · have := f3.out.room
                have l2 := congrArg List.length f2
                rw [List.length_map, zTo_len, List.length_map, hLX] at l2
                omega
              · have l2 := congrArg List.length f2
                rw [List.length_map, zTo_len, List.length_map, hLX] at l2
                exact l2
              · rw [f2, hMX, hMY]
                refine cut_zTo hr (fun S hS => ?_) (by rw [List.length_map, hn]) (by rw [List.length_map, hn']) G
                obtain ⟨x, hx, rfl⟩ := List.mem_map.1 hS
                exact (h.it x hx).len
        · subst h1
          obtain ⟨rfl, rfl⟩ := h2
          exact ⟨false, 0, 0, 81, [], Or.inr ⟨rfl, by decide⟩, fun u q => (two_81 hk u sp sp' g o cap g' o' cap' a b n L L' (h.next q) hn hcap (h'.next q) hn' hcap' hsp hsp' h3).mono fun e w' ⟨e1, e4⟩ => ⟨_, _, e1, e4, fun h => by cases h⟩, bad⟩
      · subst h1
        exact ⟨false, 0, 0, 80, [], Or.inr ⟨rfl, by decide⟩, fun u q => (two_80b hk u sp sp' g o cap g' o' cap' a b n a' b' L L' (h.next q) hn hcap (h'.next q) hn' hcap' hsp hsp' h2).mono fun e w' ⟨e1, e4⟩ => ⟨_, _, e1, e4, fun h => by cases h⟩, bad⟩
    · exact ⟨false, 0, 0, 80, [], Or.inr ⟨rfl, by decide⟩, fun u q => (two_80a hk u sp sp' g o cap g' o' cap' a b n m a' b' L L' (h.next q) hn hcap (h'.next q) hn' hcap' hsp hsp' h1).mono fun e w' ⟨e1, e4⟩ => ⟨_, _, e1, e4, fun h => by cases h⟩, bad⟩
  · exact ⟨false, 0, 0, 83, [], Or.inr ⟨rfl, by decide⟩, fun u q => (two_kind hk u sp sp' g o cap g' o' cap' a b n m a' b' L L' (h.next q) hn hcap (h'.next q) hn' hcap' hsp hsp').mono fun e w' ⟨e1, e4⟩ => ⟨_, _, e1, e4, fun h => by cases h⟩, bad⟩
end Go.Proofs.Ytdempklpmggdoaa

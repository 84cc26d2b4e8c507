/- Appending to a list of the call's own in a list of operations, with what is said of the other blocks. -/
import Derived.Test.YtieojgblamkgoaaGreatDoorG68853cf1
import Derived.OwnWalk
import Derived.Deep.AppendLies
import Derived.Deep.RegionLaw
namespace Go.Proofs.YtieojgblamkgoaaGreatDoor
open Go.RowKit

/-- The same, with what is said of the other blocks. -/
theorem run_app_qg {P : Program} (w w0 : World) (q0 : Q w0 w) (t ty : TypeId) (e : TypeId) (i : TypeInfo) (z : Value) (size bytes : Nat) (ht : P.underlying t = some (.slice e)) (hi : P.info? e = some i) (hz : i.zero = some z)
    (hsize : i.size = size) (hby : i.bytes = bytes) (hzs : z.cells.size = size) (hsz : 0 < size)
    (v : Value) (n : Nat) (xs : List Value) (hown : w.ownsRow w0.heap.size e size v n xs)
    (ad : Addr) (m c : Nat) (news : List Value) (hl : news.length = m * size) (hnews : ∀ j u, news[j]? = some u → w.cell? (ad.add j) = some u) (h1 : ∀ u ∈ news, u.oneCell' = true)
    (hm : 0 < m) (h63 : n + m ≤ maxLen) (hbytes : (n + m) * bytes ≤ 140737488355328) :
    ∃ g cap w', (Builtin.append_ #[t, t] ty #[v, .slice (some ad) m c]).run P w = .ok (.slice (some ⟨g, 0, none⟩) (n + m) cap) w' ∧
      w'.ownsRow w0.heap.size e size (.slice (some ⟨g, 0, none⟩) (n + m) cap) (n + m) (xs ++ news) ∧ Q w0 w' ∧ w.grownBy w' v.ownBlock ∧ (v.ownBlock = some g ∨ g = w.heap.size) := by
  obtain ⟨g, cap, w', hr, h2, h3⟩ := run_app_q (P := P) w w0 q0 t ty e i z size bytes ht hi hz hsize hby hzs hsz v n xs hown ad m c news hl hnews h1 hm h63 hbytes
  obtain ⟨g', cap', w'', hr', _, h3', h4', _⟩ := run_append_lies (P := P) w t ty w0.heap.size e i z size bytes ht hi hz hsize hby hzs hsz v n xs hown ad m c news hl hnews h1 hm h63 hbytes q0.1.size _ rfl
  rw [hr] at hr'
  injection hr' with a b
  injection a with a
  injection a with a
  injection a with a
  subst a
  subst b
  exact ⟨g, cap, w', hr, h2, h3, h3', h4'⟩
end Go.Proofs.YtieojgblamkgoaaGreatDoor

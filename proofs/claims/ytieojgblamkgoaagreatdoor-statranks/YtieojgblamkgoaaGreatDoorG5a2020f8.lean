/- Where a curve comes to something first. -/
import Derived.Test.YtieojgblamkgoaaGreatDoorGfd09a4cb
import Derived.Test.YtieojgblamkgoaaGreatDoorGde2946d9
import Derived.Deep.RegionWith
namespace Go.Proofs.YtieojgblamkgoaaGreatDoor
open Go.RowKit

/-- Is it, at x, not below y? -/
def comesB (f : Nat → Nat) (x y : Nat) : Bool := lessB y (f x) || equalB y (f x)
/-- The n-th place from a sample on, by key. -/
def placeN (first n : Nat) : Nat := fkeyN (keyN first + n)
end Go.Proofs.YtieojgblamkgoaaGreatDoor

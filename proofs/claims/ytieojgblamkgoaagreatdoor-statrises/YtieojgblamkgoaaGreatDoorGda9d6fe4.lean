/- What the reference's small functions of a form return: F32, top, bias, sign, Made. -/
import Derived.Test.YtieojgblamkgoaaGreatDoorGd2caa4b3
import Derived.RegionTactic
import Derived.ChangeAlike
import Derived.Deep.QuietTactic
import Derived.BigQuiet
import Derived.Deep.RegionWith
import Derived.Deep.RegionHeld3
namespace Go.Proofs.YtieojgblamkgoaaGreatDoor
open Go.RowKit

end Go.Proofs.YtieojgblamkgoaaGreatDoor

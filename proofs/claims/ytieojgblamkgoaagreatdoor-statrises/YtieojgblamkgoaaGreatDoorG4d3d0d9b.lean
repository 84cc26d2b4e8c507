/- Borders: the program's and the document's; the document's Size and Check. -/
import Derived.Test.YtieojgblamkgoaaGreatDoorG99d426f3
import Derived.Shelf.Abstract
namespace Go.Proofs.YtieojgblamkgoaaGreatDoor
open Go.RowKit
set_option linter.unusedVariables false
set_option linter.unusedSimpArgs false

end Go.Proofs.YtieojgblamkgoaaGreatDoor
/- The document's Size, Check and Border. -/
namespace Go.Proofs.YtieojgblamkgoaaGreatDoor
open Go.RowKit
end Go.Proofs.YtieojgblamkgoaaGreatDoor

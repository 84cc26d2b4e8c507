/- Appending to a list without room: what lies where. -/
import Derived.Test.YtmgpaheobhfioaaDoorG3bfe62d6
import Derived.Laws.Append
import Derived.Laws.AppendOwn
import Derived.OwnWalk
namespace Go.Proofs.YtmgpaheobhfioaaDoor
open Go.RowKit

end Go.Proofs.YtmgpaheobhfioaaDoor

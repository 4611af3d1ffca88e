import Derived.Test.YtdbciaihnikibacDoorRxW
/- The text of an operation: the document's own. -/
namespace Go.Proofs.YtdbciaihnikibacDoor
open Go.RowKit
end Go.Proofs.YtdbciaihnikibacDoor


/- The text of an operation: the document's own. -/
namespace Go.Proofs.YtdbciaihnikibacDoor
open Go.RowKit
end Go.Proofs.YtdbciaihnikibacDoor

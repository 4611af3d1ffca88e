import Derived.Test.YtdbciaihnikibacDoorRxK
import Derived.Deep.RegionHeldLaw
/- The form of a statement, the document's own reckoning: a part. -/
namespace Go.Proofs.YtdbciaihnikibacDoor
open Go.RowKit
end Go.Proofs.YtdbciaihnikibacDoor


/- The form of a statement, the document's own reckoning: a part. -/
namespace Go.Proofs.YtdbciaihnikibacDoor
open Go.RowKit
end Go.Proofs.YtdbciaihnikibacDoor


/- The form of a statement, the document's own reckoning: a part. -/
namespace Go.Proofs.YtdbciaihnikibacDoor
open Go.RowKit
end Go.Proofs.YtdbciaihnikibacDoor


/- The form of a statement, the document's own reckoning: a part. -/
namespace Go.Proofs.YtdbciaihnikibacDoor
open Go.RowKit
end Go.Proofs.YtdbciaihnikibacDoor


/- The form of a statement: the document's own reckoning, whole. -/
namespace Go.Proofs.YtdbciaihnikibacDoor
open Go.RowKit
end Go.Proofs.YtdbciaihnikibacDoor

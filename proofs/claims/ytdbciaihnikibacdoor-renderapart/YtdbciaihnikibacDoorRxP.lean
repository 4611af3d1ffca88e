import Derived.Test.YtdbciaihnikibacDoorRxO
/- What is wrong with a statement itself, the document's own reckoning: a part. -/
namespace Go.Proofs.YtdbciaihnikibacDoor
open Go.RowKit
end Go.Proofs.YtdbciaihnikibacDoor


/- What is wrong with a statement itself, the document's own reckoning: a part. -/
namespace Go.Proofs.YtdbciaihnikibacDoor
open Go.RowKit
end Go.Proofs.YtdbciaihnikibacDoor


/- What is wrong with a statement itself: the document's own reckoning, whole. -/
namespace Go.Proofs.YtdbciaihnikibacDoor
open Go.RowKit
end Go.Proofs.YtdbciaihnikibacDoor

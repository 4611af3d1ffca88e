import Derived.Test.YtdbciaihnikibacDoorRxZ
/- Texts of statements: kind 9. -/
namespace Go.Proofs.YtdbciaihnikibacDoor
open Go.RowKit
end Go.Proofs.YtdbciaihnikibacDoor


/- Texts of statements: kind 10. -/
namespace Go.Proofs.YtdbciaihnikibacDoor
open Go.RowKit
end Go.Proofs.YtdbciaihnikibacDoor


/- Texts of statements: kind 11. -/
namespace Go.Proofs.YtdbciaihnikibacDoor
open Go.RowKit
end Go.Proofs.YtdbciaihnikibacDoor

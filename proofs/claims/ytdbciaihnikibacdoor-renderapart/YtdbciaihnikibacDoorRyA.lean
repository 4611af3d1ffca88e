import Derived.Test.YtdbciaihnikibacDoorRxZ
/- Texts of statements: kind 1. -/
namespace Go.Proofs.YtdbciaihnikibacDoor
open Go.RowKit
end Go.Proofs.YtdbciaihnikibacDoor


/- Texts of statements: kind 2. -/
namespace Go.Proofs.YtdbciaihnikibacDoor
open Go.RowKit
end Go.Proofs.YtdbciaihnikibacDoor


/- Texts of statements: kind 3. -/
namespace Go.Proofs.YtdbciaihnikibacDoor
open Go.RowKit
end Go.Proofs.YtdbciaihnikibacDoor


/- Texts of statements: kind 4. -/
namespace Go.Proofs.YtdbciaihnikibacDoor
open Go.RowKit
end Go.Proofs.YtdbciaihnikibacDoor

/- At every code the law LowerChecks answers true: what lower.Check tells of the code is what the document's own reckoning tells. Conditions: the tables are as the program's text lays them (tied by the card); code of any size, whose memory does not lead round to itself. -/
import Derived.Test.YtbhhkaobkdeolaaGreatDoorMcm
import Derived.Test.YtbhhkaobkdeolaaGreatDoorMce
import Derived.Test.YtbhhkaobkdeolaaGreatDoorMcl
namespace Go.Proofs.YtbhhkaobkdeolaaGreatDoor
theorem lowerChecks_card : Rows.LowerChecksCardSaid := LowerChecks.card (fun l m ua uc W hG hT => lchecks_law l m ua uc W hG (fun w' hb => lbegun_any w' (hT.kp (Kp.of_below (S := []) hb))))
#print axioms lowerChecks_card
end Go.Proofs.YtbhhkaobkdeolaaGreatDoor

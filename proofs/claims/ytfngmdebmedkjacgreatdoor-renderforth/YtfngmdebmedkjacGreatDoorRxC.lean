import Derived.Test.YtfngmdebmedkjacGreatDoorRxA
/- When two programs are the same: the document's own reckoning of expressions. -/
namespace Go.Proofs.YtfngmdebmedkjacGreatDoor
open Go.RowKit

theorem quiet_j {P : Program} {f : FuncId} {args : Array Value} {w : World} {j n : Nat} {v : Value}
    (h : Calls P f args (w.drewN (j + n)) fun e w' => e = .returned v ∧ ∃ m, w' = (w.drewN (j + n)).drewN m) : Calls P f args (w.drewN (j + n)) fun e w'' => e = .returned v ∧ ∃ m, w'' = w.drewN (j + m) :=
  h.mono fun _ _ ⟨he, m, hm⟩ => ⟨he, n + m, by rw [hm, World.drewN_drewN, Nat.add_assoc]⟩
end Go.Proofs.YtfngmdebmedkjacGreatDoor


/- When two programs are the same: statements. -/
namespace Go.Proofs.YtfngmdebmedkjacGreatDoor
open Go.RowKit
theorem wS_nth (n : Nat) (l : List Sx.Tr) (hw : Sx.wS (n + 1) l ≤ 1000000000) : ∀ (i : Nat) d, l[i]? = some d → Sx.wE n (Sx.sE d) + Sx.wS n (Sx.sB d) + Sx.wS n (Sx.sO d) ≤ 1000000000 := fun i d hd => by
  have h1 : Sx.sum (fun d => Sx.wE n (Sx.sE d) + Sx.wS n (Sx.sB d) + Sx.wS n (Sx.sO d)) (l.take (i + 1)) = Sx.sum (fun d => Sx.wE n (Sx.sE d) + Sx.wS n (Sx.sB d) + Sx.wS n (Sx.sO d)) (l.take i) + (Sx.wE n (Sx.sE d) + Sx.wS n (Sx.sB d) + Sx.wS n (Sx.sO d)) := Sx.sum_take _ l i d hd
  have h2 := Sx.sum_take_le (fun d => Sx.wE n (Sx.sE d) + Sx.wS n (Sx.sB d) + Sx.wS n (Sx.sO d)) l (i + 1)
  have : l.length + Sx.sum (fun d => Sx.wE n (Sx.sE d) + Sx.wS n (Sx.sB d) + Sx.wS n (Sx.sO d)) l = Sx.wS (n + 1) l := rfl
  omega

end Go.Proofs.YtfngmdebmedkjacGreatDoor


/- When two programs are the same: the document's own reckoning of statements. -/
namespace Go.Proofs.YtfngmdebmedkjacGreatDoor
open Go.RowKit
end Go.Proofs.YtfngmdebmedkjacGreatDoor

import Derived.Test.YtfngmdebmedkjacGreatDoorRenPj
import Derived.Test.YtfngmdebmedkjacGreatDoorRyA
import Derived.Test.YtfngmdebmedkjacGreatDoorRxS
import Derived.Test.YtfngmdebmedkjacGreatDoorRxE
/- It begins as the document says: one program printed, one type looked at. -/
namespace Go.Proofs.YtfngmdebmedkjacGreatDoor
open Go.RowKit

/-- The program of which it is tried. -/
def Rn.one : List Sx.Tr := [Sx.tG [97] 0 [] []]
theorem one_sl (w : World) : Sl (RG (w.alloc (.cells #[.string (bs [97]), .int .i64 0, .slice none 0 0, .slice none 0 0] 50)) (fun _ => True) 1) (w.alloc (.cells #[.string (bs [97]), .int .i64 0, .slice none 0 0, .slice none 0 0] 50)) (fun _ => True) Rn.one (.slice (some ⟨w.heap.size, 0, none⟩) Rn.one.length 1) := by
  refine ⟨_, _, rfl, .inr ⟨w.heap.size, 0, [.string (bs [97]), .int .i64 0, .slice none 0 0, .slice none 0 0], rfl, trivial, ⟨[.string (bs [97]), .int .i64 0, .slice none 0 0, .slice none 0 0], [], rfl, ⟨[97], 0, [], [], _, _, rfl, rfl, Sl.nil _ _ _ _ _, Sl.nil _ _ _ _ _⟩, rfl⟩, ?_⟩⟩
  intro j u hu
  match j, hu with
  | 0, hu => simp at hu; subst hu; simp [go_sem]
  | 1, hu => simp at hu; subst hu; simp [go_sem]
  | 2, hu => simp at hu; subst hu; simp [go_sem]
  | 3, hu => simp at hu; subst hu; simp [go_sem]
theorem one_nm : Nm 1 Rn.one := by
  have h : ∀ (i : Nat) d, Rn.one[i]? = some d → d = Sx.tG [97] 0 [] [] := fun i d hd => by
    match i, hd with
    | 0, hd => cases hd; rfl
  refine ⟨by decide, by decide, fun i d hd => ?_, fun i d hd => ?_, fun i d hd => ?_⟩
  · rw [h i d hd]; decide
  · rw [h i d hd]; decide
  · rw [h i d hd]
    refine ⟨by decide, fun i p hp => ?_, fun i t ht => ?_⟩
    · simp [Sx.gP, Sx.tG] at hp
    · simp [Sx.gB, Sx.tG] at ht
theorem one_told : Rn.told 1 Rn.one = (0, 0) := by decide
theorem one_text : Rn.ptx 1 Rn.one = [115, 116, 97, 103, 101, 32, 97, 40, 41, 32, 123, 10, 125, 10] := by decide
set_option maxRecDepth 100000 in
set_option maxHeartbeats 1000000 in
theorem rbegun_any (w : World) (hT : Tb w) : Calls Tryz.prog 8 #[] w fun e w' => e = .returned (.bool true) ∧ Kp [] w w' := by
  have K1 : Hid (Kp [] w (w.alloc (.cells #[.string (bs [97]), .int .i64 0, .slice none 0 0, .slice none 0 0] 50))) := hide ((Kp.refl _ _).alloc _)
  have HC := hide (print_any 1 _ _ Rn.one _ 1 (hT.kp K1.out) (one_sl w) one_nm)
  rw [one_told, one_text] at HC
  change Hid (Calls _ _ #[.agg #[.slice (some ⟨w.heap.size, 0, none⟩) 1 1]] _ _) at HC
  have HTy := hide (fun W => rType_any [114, 115, 105] 2 W (by simp))
  rw [show Rn.isT [114, 115, 105] 2 = true from by decide] at HTy
  have e1 := bsl [115, 116, 97, 103, 101, 32, 97, 40, 41, 32, 123, 10, 125, 10]
  clear hT
  go_enter Tryz.func8, Tryz.ntmps8
  go_wp2_with fail
  refine HC.out.mono ?_
  rintro e w2 ⟨rfl, hk2⟩
  have K2 := hide (K1.out.trans hk2)
  clear hk2 HC
  go_wp2_with fail
  refine (HTy.out _).mono ?_
  rintro e w3 ⟨rfl, hk3⟩
  go_wp2
  go_ret
  exact ⟨rfl, (K2.out.alloc _).trans hk3⟩
end Go.Proofs.YtfngmdebmedkjacGreatDoor

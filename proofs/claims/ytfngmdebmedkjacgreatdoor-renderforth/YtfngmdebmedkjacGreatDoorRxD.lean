import Derived.Test.YtfngmdebmedkjacGreatDoorRxC
import Derived.Lib.SliceRun
/- When two programs are the same: parameters, stages, programs. -/
namespace Go.Proofs.YtfngmdebmedkjacGreatDoor
open Go.RowKit

theorem RP_len (d : Sx.Tr) (c : List Value) (h : RP d c) : c.length = 2 := by
  obtain ⟨nm, T, _, rfl⟩ := h
  rfl
theorem PL.nth {w : World} {P : Nat → Prop} {l : List Sx.Tr} {a : Option Addr} {cap : Nat} (h : Sl RP w P l (.slice a l.length cap)) (i : Nat) (hi : i < l.length) :
    ∃ b off nm T, a = some ⟨b, off, none⟩ ∧ P b ∧ l[i]? = some (Sx.tP nm T) ∧ w.cell? ⟨b, off + i * 2, none⟩ = some (.string (bs nm)) ∧ w.cell? ⟨b, off + i * 2 + 1, none⟩ = some (.string (bs T)) := by
  obtain ⟨a', cap', hv, h⟩ := h
  cases hv
  rcases h with h | ⟨b, off, cs, ha, hb, hr, hc⟩
  · subst h; simp at hi
  · obtain ⟨c, hR, hcu⟩ := hr.at RP_len i _ (List.getElem?_eq_getElem hi)
    obtain ⟨nm, T, hd, rfl⟩ := hR
    have hx := fun j u hu => hc _ u (hcu j u hu)
    simp only [← Nat.add_assoc] at hx
    exact ⟨b, off, nm, T, ha, hb, by rw [List.getElem?_eq_getElem hi, hd], hx 0 _ rfl, hx 1 _ rfl⟩
theorem uPar : Tryz.prog.underlying 51 = some (.struct (Tryz.prog.fieldsOf 51)) := by kernel_rfl
theorem heldPar : Tryz.prog.stoodInHeld 51 = false := by kernel_rfl
theorem bs_same (a b : List UInt8) : ((bs a).toList == (bs b).toList) = (a == b) := by
  by_cases h : a = b
  · subst h; simp
  · rw [bs_ne h]; symm; simpa using h
theorem neqP (a b c d : List UInt8) (w : World) : Sem.run Tryz.prog (binOp .neq 51 (.agg #[.string (bs a), .string (bs b)]) (.agg #[.string (bs c), .string (bs d)])) w = .ok (.bool (!((a, b) == (c, d)))) w := by
  have u9 := Tryz.underlying9
  have a9 := Tryz.isAgg9
  have z9 := Tryz.sizeOf9
  rw [run_neq_struct, show (10000 : Nat) = 9999 + 1 from rfl, run_equalIn_agg w 9999 51 _ _ uPar heldPar]
  simp only [Program.fieldsOf, Tryz.underlying51]
  have h1 := bs_same a c
  have h2 := bs_same b d
  by_cases q1 : a = c
  · by_cases q2 : b = d
    · subst q1 q2
      go_simp
    · have r2 := bs_ne q2
      subst q1
      go_simp
  · have r1 := bs_ne q1
    go_simp

theorem wG_nth (n : Nat) (l : List Sx.Tr) (hw : Sx.wG n l ≤ 1000000000) : ∀ (i : Nat) d, l[i]? = some d → Sx.wS n (Sx.gB d) ≤ 1000000000 := fun i d hd => by
  have h1 : Sx.sum (fun d => Sx.wS n (Sx.gB d)) (l.take (i + 1)) = Sx.sum (fun d => Sx.wS n (Sx.gB d)) (l.take i) + Sx.wS n (Sx.gB d) := Sx.sum_take _ l i d hd
  have h2 := Sx.sum_take_le (fun d => Sx.wS n (Sx.gB d)) l (i + 1)
  have : Sx.sum (fun d => Sx.wS n (Sx.gB d)) l = Sx.wG n l := rfl
  omega
/-- A program that is not too great. -/
structure Sm (n : Nat) (l : List Sx.Tr) : Prop where
  len : l.length ≤ 1000000
  ps : ∀ (i : Nat) d, l[i]? = some d → (Sx.gP d).length ≤ 1000000
  w : Sx.wG n l ≤ 1000000

end Go.Proofs.YtfngmdebmedkjacGreatDoor


/- What is too great. -/
namespace Go.Proofs.YtfngmdebmedkjacGreatDoor
open Go.RowKit

/-- No list is longer than there can be. -/
def LbE : Nat → List Sx.Tr → Prop
  | 0, _ => True
  | n + 1, l => l.length ≤ 9223372036854775807 ∧ ∀ (i : Nat) d, l[i]? = some d → LbE n (Sx.eL d)
def LbS : Nat → List Sx.Tr → Prop
  | 0, _ => True
  | n + 1, l => l.length ≤ 9223372036854775807 ∧ ∀ (i : Nat) d, l[i]? = some d → LbE n (Sx.sE d) ∧ LbS n (Sx.sB d) ∧ LbS n (Sx.sO d)

end Go.Proofs.YtfngmdebmedkjacGreatDoor


/- What is too great: programs. -/
namespace Go.Proofs.YtfngmdebmedkjacGreatDoor
open Go.RowKit

structure LbG (n : Nat) (l : List Sx.Tr) : Prop where
  len : l.length ≤ 9223372036854775807
  each : ∀ (i : Nat) d, l[i]? = some d → LbS n (Sx.gB d) ∧ (Sx.gP d).length ≤ 9223372036854775807

def GP (n : Nat) (l : List Sx.Tr) (w : World) (e : Ending) (w' : World) : Prop := ∃ g, e = .returned (.bool g) ∧ (g = false → Sm n l) ∧ Kp [] w w'

end Go.Proofs.YtfngmdebmedkjacGreatDoor

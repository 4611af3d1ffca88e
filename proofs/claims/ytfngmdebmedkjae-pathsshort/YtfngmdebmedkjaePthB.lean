import Derived.Test.YtfngmdebmedkjaePthA
/- What comes of an instruction, handed over one by one: the program's own way. -/
namespace Go.Proofs.Ytfngmdebmedkjae
open Go.RowKit

/-- What a function that is handed what comes keeps in memory of it: in blocks that are none of X. -/
structure Clo (N : List Nat) (I : (Nat → Prop) → World → List Nat → Prop) (f : FuncId) (caps : List Value) : Prop where
  grow : ∀ (X : Nat → Prop) (w1 w2 : World) d, I X w1 d → Below w1.heap.size w1 w2 → I (fun b => X b ∨ (w1.heap.size ≤ b ∧ b < w2.heap.size)) w2 d
  less : ∀ (X Y : Nat → Prop) (w1 : World) d, (∀ b, Y b → X b) → I X w1 d → I Y w1 d
  call : ∀ (X : Nat → Prop) (w1 : World) (d : List Nat) (v : Nat) (rest : List Nat), d ++ v :: rest = N → I X w1 d → Calls Try.prog f (.int .i64 v :: caps).toArray w1 fun e w2 => e = .returned (.tuple #[]) ∧ I X w2 (d ++ [v]) ∧ Kx X w1 w2
theorem Clo.past {n : List Nat} {I : (Nat → Prop) → World → List Nat → Prop} {f : FuncId} {caps : List Value} (h : Clo n I f caps) {X : Nat → Prop} {w w' : World} {d : List Nat} (hi : I X w d) (hb : Below w.heap.size w w') : I X w' d :=
  h.less _ _ _ _ (fun _ hx => .inl hx) (h.grow _ _ _ _ hi hb)
theorem on_at {p : Pa.Pr} {j : Nat} {x : Int × Int} (hx : p[j]? = some x) (h17 : x.1 ≠ 17) (hj : j < p.length) : Pa.on p j = Pa.one p true (Pa.lo x j) ++ Pa.one p (Pa.hi x j != Pa.lo x j) (Pa.hi x j) := by
  unfold Pa.on
  rw [Int.toNat_natCast, hx, Pa.isI_iff.2 ⟨by omega, by omega⟩]
  simp [h17]
theorem on_17 {p : Pa.Pr} {j : Nat} {x : Int × Int} (hx : p[j]? = some x) (h17 : x.1 = 17) : Pa.on p j = [] := by
  unfold Pa.on
  rw [Int.toNat_natCast, hx]
  simp [h17]
theorem on_no {p : Pa.Pr} {i : Int} (h : Pa.isI p i = false) : Pa.on p i = [] := by
  unfold Pa.on
  rw [h]
  rfl
theorem one_yes {p : Pa.Pr} {b : Bool} {k : Int} (hb : b = true) (h : Pa.isI p k = true) : Pa.one p b k = [k.toNat] := by
  unfold Pa.one; rw [hb, h]; rfl
theorem one_no {p : Pa.Pr} {b : Bool} {k : Int} (h : b = false ∨ Pa.isI p k = false) : Pa.one p b k = [] := by
  unfold Pa.one
  rcases h with h | h <;> rw [h] <;> simp
end Go.Proofs.Ytfngmdebmedkjae

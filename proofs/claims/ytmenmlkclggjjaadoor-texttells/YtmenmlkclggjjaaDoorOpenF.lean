/- A slice of faults that came in, opened: what it reads as is a list of pairs, wherever it lies. -/
import Derived.Test.YtmenmlkclggjjaaDoorOrderF
import Derived.ProofKit
import Derived.OpenShut
import Derived.Deep.SlicePairs
namespace Go.Proofs.YtmenmlkclggjjaaDoor
open Go.ChangeShapes Go.WideShapes Go.ChangeAt Go.RowKit

theorem laidOut : laidOutB Tryd.prog = true := by kernel_rfl
theorem cells24 : Tryd.prog.cellsOf 24 = 2 := by kernel_rfl
theorem cells3 : Tryd.prog.cellsOf 3 = 1 := by kernel_rfl

theorem addr_add (b off k : Nat) : (⟨b, off, none⟩ : Addr).add k = ⟨b, off + k, none⟩ := by
  unfold Addr.add; split <;> simp_all

theorem open_faults {H : Type} {enc : TypeId × Value → H} {W : World} {a : Option Addr} {len cap : Nat} {d : DataW H} {ps : List MemPlace}
    (h : DataW.Trod enc Tryd.prog W 0 (fun _ => true) true 31 (.slice a len cap) d ps) : len ≤ maxLen ∧ ∃ l : List (Int × Int), l.length = len ∧ FSlice W (.slice a len cap) l := by
  obtain ⟨fuel, hf⟩ := h
  rcases Go.Deep.open_slice_pairs Tryd.underlying31 Tryd.underlying24 cells24 rfl rfl cells3 cells3 hf with ⟨hcs, _⟩ | ⟨a', len', cap', m, n, V0, V1, D0, D1, P0, P1, hcs, _, hl, hm, hmm, _, hx⟩
  · simp [Value.cells] at hcs
    obtain ⟨rfl, rfl, rfl⟩ := hcs
    exact ⟨by simp, [], rfl, .inl ⟨rfl, _, _, rfl⟩⟩
  · simp [Value.cells] at hcs
    obtain ⟨rfl, rfl, rfl⟩ := hcs
    have hmc : m = cap := by simpa using hmm
    subst hmc
    refine ⟨by omega, (List.range len).map fun i => (intOf (V0 i), intOf (V1 i)), by simp, ?_⟩
    by_cases h0 : len = 0
    · subst h0
      exact .inl ⟨rfl, _, _, rfl⟩
    · right
      obtain ⟨b, off, spot⟩ := a'
      have hc0 := (hx 0 (by omega)).1
      have hspot : spot = none := by simpa [Addr.add] using World.cell?_spot hc0
      subst hspot
      refine ⟨by simp; omega, b, off, m, by simp, ?_, ?_⟩
      · rw [addr_add] at hc0
        exact World.block_lt_of_cell? W ⟨b, off + 0 * 2, none⟩ hc0
      · intro i hi
        have hi' : i < len := by simpa using hi
        obtain ⟨g0, g1, t0, t1⟩ := hx i (by omega)
        obtain ⟨x0, e0, _, _⟩ := DataW.trod_int Tryd.underlying3 t0
        obtain ⟨x1, e1, _, _⟩ := DataW.trod_int Tryd.underlying3 t1
        simp at e0 e1
        rw [addr_add] at g0 g1
        have ex : ((List.range len).map fun i => (intOf (V0 i), intOf (V1 i)))[i]?.getD (0, 0) = (x0, x1) := by
          simp [hi', e0, e1, intOf]
        rw [ex, g0, e0]
        refine ⟨rfl, ?_⟩
        rw [← e1, ← g1]
        rfl
end Go.Proofs.YtmenmlkclggjjaaDoor

import Derived.Test.YtbepaimbbclejaaStY
import Derived.Deep.RegionHeld3
import Derived.Deep.LoopGhost
/- Steps of channels, in memory: rows of them. -/
namespace Go.Proofs.Ytbepaimbbclejaa
open Go.RowKit

/-- A step. -/
structure Cp where
  d : Int
  e : Int
  t : Int
  n : Int
  g : Bool
def CpR (w : World) (v : Value) (L : List Cp) : Prop :=
  ∃ a c, v = .slice a L.length c ∧ (L ≠ [] → ∃ g o, a = some ⟨g, o, none⟩ ∧ ∀ (k : Nat) x, L[k]? = some x → w.cell? ⟨g, o + k * 5, none⟩ = some (.int .i64 x.d) ∧ w.cell? ⟨g, o + k * 5 + 1, none⟩ = some (.int .i64 x.e) ∧ w.cell? ⟨g, o + k * 5 + 2, none⟩ = some (.int .i64 x.t) ∧ w.cell? ⟨g, o + k * 5 + 3, none⟩ = some (.int .i64 x.n) ∧ w.cell? ⟨g, o + k * 5 + 4, none⟩ = some (.bool x.g))
theorem CpR.keep {w w' : World} {v : Value} {L : List Cp} (h : CpR w v L) (hb : Below w.heap.size w w') : CpR w' v L := by
  obtain ⟨a, c, h1, h2⟩ := h
  refine ⟨a, c, h1, fun hn => ?_⟩
  obtain ⟨g, o, h3, h4⟩ := h2 hn
  exact ⟨g, o, h3, fun k x hx => ⟨bsome hb (h4 k x hx).1, bsome hb (h4 k x hx).2.1, bsome hb (h4 k x hx).2.2.1, bsome hb (h4 k x hx).2.2.2.1, bsome hb (h4 k x hx).2.2.2.2⟩⟩
theorem BX.new (w : World) {B : Nat} (hB : B ≤ w.heap.size) : BX (fun b => b = w.heap.size) B (w.alloc (.cells #[.slice none 0 0, .slice none 0 0, .slice none 0 0, .slice none 0 0] 32)) w.heap.size Bk.c0 := by
  refine ⟨.slice none 0 0, .slice none 0 0, .slice none 0 0, .slice none 0 0, [], ⟨by simp [go_sem], by simp [go_sem], by simp [go_sem], by simp [go_sem], fun k => by simp [go_sem], hB, World.ownsRow_nil _ _ _ _, World.ownsRow_nil _ _ _ _, World.ownsRow_nil _ _ _ _, World.ownsRow_nil _ _ _ _, fun k M v hM => by simp [Bk.c0] at hM, ?_⟩, fun b => ⟨fun h => ⟨0, by rw [h]; rfl⟩, fun ⟨j, hj⟩ => ?_⟩⟩
  · intro i j x hi hj
    have key : ∀ i, (obs w.heap.size (.slice none 0 0) (.slice none 0 0) (.slice none 0 0) (.slice none 0 0) [])[i]? = some (some x) → i = 0 := fun i hi => by
      match i, hi with
      | 0, _ => rfl
      | 1, hi => simp [obs, Value.ownBlock] at hi
      | 2, hi => simp [obs, Value.ownBlock] at hi
      | 3, hi => simp [obs, Value.ownBlock] at hi
      | 4, hi => simp [obs, Value.ownBlock] at hi
      | i + 5, hi => simp [obs] at hi
    rw [key i hi, key j hj]
  · match j, hj with
    | 0, hj => simpa [obs] using hj.symm
    | 1, hj => simp [obs, Value.ownBlock] at hj
    | 2, hj => simp [obs, Value.ownBlock] at hj
    | 3, hj => simp [obs, Value.ownBlock] at hj
    | 4, hj => simp [obs, Value.ownBlock] at hj
    | j + 5, hj => simp [obs] at hj
end Go.Proofs.Ytbepaimbbclejaa

import Derived.Test.YtdbciaihnikibacDoorRxR
/- The first fault of a program: the document's own reckoning. -/
namespace Go.Proofs.YtdbciaihnikibacDoor
open Go.RowKit
/-- What the reckoning keeps beside it: the program's box, the answer. -/
structure FB (w : World) (v : Value) (wr : World) : Prop where
  kp : Kp [] w wr
  bx : wr.cell? ⟨w.heap.size, 0, none⟩ = some v
  r0 : wr.cell? ⟨w.heap.size + 1, 0, none⟩ = some (.int .i64 0)
  r1 : wr.cell? ⟨w.heap.size + 1, 1, none⟩ = some (.int .i64 0)
  f0 : wr.frozen? ⟨w.heap.size + 1, 0, none⟩ = false
  f1 : wr.frozen? ⟨w.heap.size + 1, 1, none⟩ = false
theorem FB.go {w wr w' : World} {v : Value} (h : FB w v wr) (hk : Kp [] wr w') : FB w v w' :=
  ⟨h.kp.trans hk, hk.some h.bx (by simp), hk.some h.r0 (by simp), hk.some h.r1 (by simp), (hk.frozen (p := ⟨w.heap.size + 1, 0, none⟩) (World.block_lt_of_cell? _ _ h.r0) (by simp)).trans h.f0, (hk.frozen (p := ⟨w.heap.size + 1, 1, none⟩) (World.block_lt_of_cell? _ _ h.r1) (by simp)).trans h.f1⟩

end Go.Proofs.YtdbciaihnikibacDoor

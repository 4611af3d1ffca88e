/- Tokens and faults, asked whether they are one: where they are the same. -/
import Derived.Test.YtlipncdfmloijabDoorTokG
import Derived.Test.YtlipncdfmloijabDoorTokJ
import Derived.Lib.SliceRun
namespace Go.Proofs.YtlipncdfmloijabDoor
open Go.RowKit

theorem uTok : Tryd.prog.underlying 29 = some (.struct (Tryd.prog.fieldsOf 29)) := by kernel_rfl
theorem heldTok : Tryd.prog.stoodInHeld 29 = false := by kernel_rfl
theorem uFlt : Tryd.prog.underlying 25 = some (.struct (Tryd.prog.fieldsOf 25)) := by kernel_rfl
theorem heldFlt : Tryd.prog.stoodInHeld 25 = false := by kernel_rfl

theorem eqlF_same (x y : Int) (w : World) : Sem.run Tryd.prog (binOp .eql 25 (.agg #[.int .i64 x, .int .i64 y]) (.agg #[.int .i64 x, .int .i64 y])) w = .ok (.bool true) w := by
  have u3 := Tryd.underlying3
  have a3 := Tryd.isAgg3
  have z3 := Tryd.sizeOf3
  rw [run_eql_struct, show (10000 : Nat) = 9999 + 1 from rfl, run_equalIn_agg w 9999 25 _ _ uFlt heldFlt]
  simp only [Program.fieldsOf, Tryd.underlying25]
  go_simp
theorem neqT_same (k p : Int) (t : ByteArray) (n : Int) (w : World) : Sem.run Tryd.prog (binOp .neq 29 (.agg #[.int .i64 k, .int .i64 p, .string t, .int .i64 n]) (.agg #[.int .i64 k, .int .i64 p, .string t, .int .i64 n])) w = .ok (.bool false) w := by
  have u3 := Tryd.underlying3
  have a3 := Tryd.isAgg3
  have z3 := Tryd.sizeOf3
  have u2 := Tryd.underlying2
  have a2 := Tryd.isAgg2
  have z2 := Tryd.sizeOf2
  have u9 := Tryd.underlying9
  have a9 := Tryd.isAgg9
  have z9 := Tryd.sizeOf9
  rw [run_neq_struct, show (10000 : Nat) = 9999 + 1 from rfl, run_equalIn_agg w 9999 29 _ _ uTok heldTok]
  simp only [Program.fieldsOf, Tryd.underlying29]
  go_simp
end Go.Proofs.YtlipncdfmloijabDoor

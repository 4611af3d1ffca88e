/- The library's copy of a text as it lies in this program: the shelf's numbers, and that the body is the one that the contract was proved of. -/
import Derived.Shelf.Strconv.Clone
import Derived.Test.YtlipncdfmloijabDoorProg
namespace Go.Proofs.YtlipncdfmloijabDoor
open Go.Shelf Go.RowKit
def cloneRen : Go.Shelf.Ren := ⟨fun | 316 => 18 | n => n, fun | 37 => 42 | 127 => 43 | n => n, fun | n => n⟩
theorem cloneLays : Go.Proofs.LaysM.n316 Tryd.prog cloneRen := {
  mixed := by kernel_rfl
  f316 := Tryd.func18.trans (congrArg some (by kernel_rfl))
  t0 := Tryd.underlying0
  a0 := Tryd.isAgg0
  z0 := Tryd.sizeOf0
  v0 := Tryd.zeroValue0
  t3 := Tryd.underlying3
  a3 := Tryd.isAgg3
  z3 := Tryd.sizeOf3
  v3 := Tryd.zeroValue3
  t4 := Tryd.underlying4
  a4 := Tryd.isAgg4
  z4 := Tryd.sizeOf4
  v4 := Tryd.zeroValue4
  t9 := Tryd.underlying9
  a9 := Tryd.isAgg9
  z9 := Tryd.sizeOf9
  v9 := Tryd.zeroValue9
  t37 := Tryd.underlying42
  a37 := Tryd.isAgg42
  z37 := Tryd.sizeOf42
  v37 := Tryd.zeroValue42
  t127 := Tryd.underlying43
  a127 := Tryd.isAgg43
  z127 := Tryd.sizeOf43
  v127 := Tryd.zeroValue43
  t5 := Tryd.underlying5
  a5 := Tryd.isAgg5
  z5 := Tryd.sizeOf5
  v5 := Tryd.zeroValue5
  i0 := by kernel_rfl
  i3 := by kernel_rfl
  i4 := by kernel_rfl
  i5 := by kernel_rfl
  i9 := by kernel_rfl
  i37 := by kernel_rfl
  i127 := by kernel_rfl }
theorem cloneIn_any (s : ByteArray) (w : World) (hlim : s.size ≤ 281474976710656) :
    Calls Tryd.prog 18 #[.string s] w fun e w' => e = .returned (.string s) ∧ Below w.heap.size w w' := Any.stringslite_Clone cloneLays s w hlim
end Go.Proofs.YtlipncdfmloijabDoor

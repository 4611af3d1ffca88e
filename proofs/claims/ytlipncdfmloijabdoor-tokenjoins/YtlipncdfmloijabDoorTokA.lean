/- Contracts of the small functions of the tokens: letters, digits, blanks; a copy of a text; a prefix; a byte among the signs. -/
import Derived.Test.YtlipncdfmloijabDoorProg
import Derived.Test.YtlipncdfmloijabDoorTok
import Derived.WalkKit
import Derived.WalkSpells
import Derived.WalkLawsBesides
import Derived.Lib.Bytealg
import Derived.Laws.Strings3
import Derived.Lib.Walk
import Derived.Lib.Slices
namespace Go.Proofs.YtlipncdfmloijabDoor
open Go.RowKit

theorem hide {p : Prop} (h : p) : Hid p := h

theorem Tk.isL_int (b : UInt8) : Tk.isL b = (decide ((97 : Int) ≤ (b.toNat : Int)) && decide ((b.toNat : Int) ≤ 122)) := by
  unfold Tk.isL
  congr 1 <;> simp only [decide_eq_decide] <;> omega
theorem Tk.isD_int (b : UInt8) : Tk.isD b = (decide ((48 : Int) ≤ (b.toNat : Int)) && decide ((b.toNat : Int) ≤ 57)) := by
  unfold Tk.isD
  congr 1 <;> simp only [decide_eq_decide] <;> omega
theorem Tk.isB_int (b : UInt8) : Tk.isB b = ((b.toNat : Int) == 32 || (b.toNat : Int) == 9 || (b.toNat : Int) == 10 || (b.toNat : Int) == 13) := by
  unfold Tk.isB
  rw [Bool.eq_iff_iff]
  simp only [Bool.or_eq_true, beq_iff_eq]
  omega

set_option maxHeartbeats 400000 in
theorem isLetter_any (b : UInt8) (w : World) : Calls Tryd.prog 10 #[.int .u8 (b.toNat : Int)] w fun e w' => e = .returned (.bool (Tk.isL b)) ∧ w' = w := by
  rw [Tk.isL_int]
  go_enter Tryd.func10, Tryd.ntmps10
  go_wp2
  all_goals
    go_ret
    first
    | (simp [*]; done)
    | (simp [*]; omega)
set_option maxHeartbeats 400000 in
theorem isDigit_any (b : UInt8) (w : World) : Calls Tryd.prog 14 #[.int .u8 (b.toNat : Int)] w fun e w' => e = .returned (.bool (Tk.isD b)) ∧ w' = w := by
  rw [Tk.isD_int]
  go_enter Tryd.func14, Tryd.ntmps14
  go_wp2
  all_goals
    go_ret
    first
    | (simp [*]; done)
    | (simp [*]; omega)
set_option maxHeartbeats 400000 in
theorem isBlank_any (b : UInt8) (w : World) : Calls Tryd.prog 12 #[.int .u8 (b.toNat : Int)] w fun e w' => e = .returned (.bool (Tk.isB b)) ∧ w' = w := by
  rw [Tk.isB_int]
  go_enter Tryd.func12, Tryd.ntmps12
  go_wp2
  all_goals
    go_ret
    first
    | (simp [*]; done)
    | (simp [*]; omega)

set_option maxHeartbeats 1000000 in
theorem hasPrefixIn_any (s p : ByteArray) (w : World) :
    Calls Tryd.prog 22 #[.string s, .string p] w fun e w' => e = .returned (.bool (Lib.hasPrefix s.data.toList p.data.toList)) ∧ w' = w := by
  have hE := Lib.hasPrefix_raw s p
  by_cases hle : p.size ≤ s.size
  · rw [show decide (p.size ≤ s.size) = true from by simpa using hle] at hE
    have HE := hide hE
    clear hE
    go_enter Tryd.func22, Tryd.ntmps22
    go_wp2
    go_ret
    rw [← HE.out]
    exact ⟨rfl, rfl⟩
  · rw [show decide (p.size ≤ s.size) = false from by simpa using hle] at hE
    have HE := hide hE
    clear hE
    go_enter Tryd.func22, Tryd.ntmps22
    go_wp2
    go_ret
    rw [← HE.out]
    exact ⟨rfl, rfl⟩
set_option maxHeartbeats 1000000 in
theorem hasPrefix_any (s p : ByteArray) (w : World) :
    Calls Tryd.prog 20 #[.string s, .string p] w fun e w' => e = .returned (.bool (Lib.hasPrefix s.data.toList p.data.toList)) ∧ w' = w := by
  go_enter Tryd.func20, Tryd.ntmps20
  go_wp2_with (go_at_call 22; refine (hasPrefixIn_any _ _ _).mono ?_; rintro e w' ⟨rfl, hw⟩; rw [hw])
  go_ret
  exact ⟨rfl, rfl⟩

set_option maxRecDepth 100000 in
set_option maxHeartbeats 1000000 in
theorem indexByteIn_any (s : ByteArray) (c : Int) (w : World) :
    Calls Tryd.prog 23 #[.string s, .int .u8 c] w fun e w' => e = .returned (.int .i64 (Lib.indexByte s.data.toList c.toNat.toUInt8)) ∧ w' = w := by
  go_enter Tryd.func23, Tryd.ntmps23
  go_wp2
  rw [run_callFunc_extern Tryd.func24 (by kernel_rfl) (by kernel_rfl) (by kernel_rfl) (e := Extern.BytealgIndexByte.indexByte) (by kernel_rfl), Lib.run_indexByteString]
  simp only [Result.andThen]
  rw [Oper.upon_value]
  go_wp2
  go_ret
  exact ⟨rfl, rfl⟩
set_option maxHeartbeats 1000000 in
theorem indexByte_any (s : ByteArray) (c : Int) (w : World) :
    Calls Tryd.prog 21 #[.string s, .int .u8 c] w fun e w' => e = .returned (.int .i64 (Lib.indexByte s.data.toList c.toNat.toUInt8)) ∧ w' = w := by
  go_enter Tryd.func21, Tryd.ntmps21
  go_wp2_with (go_at_call 23; refine (indexByteIn_any _ _ _).mono ?_; rintro e w' ⟨rfl, hw⟩; rw [hw])
  go_ret
  exact ⟨rfl, rfl⟩
end Go.Proofs.YtlipncdfmloijabDoor

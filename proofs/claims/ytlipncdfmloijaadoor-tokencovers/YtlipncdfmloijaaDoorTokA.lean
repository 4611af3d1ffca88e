/- Contracts of the small functions of the tokens: letters, digits, blanks; a copy of a text; a prefix; a byte among the signs. -/
import Derived.Test.YtlipncdfmloijaaDoorProg
import Derived.Test.YtlipncdfmloijaaDoorTok
import Derived.WalkKit
import Derived.WalkSpells
import Derived.WalkLawsBesides
import Derived.Lib.Bytealg
import Derived.Laws.Strings3
import Derived.Lib.Walk
import Derived.Lib.Slices
namespace Go.Proofs.YtlipncdfmloijaaDoor
open Go.RowKit

theorem hide {p : Prop} (h : p) : Hid p := h

theorem Tk.isL_int (b : UInt8) : Tk.isL b = (decide ((97 : Int) ≤ (b.toNat : Int)) && decide ((b.toNat : Int) ≤ 122)) := by
  unfold Tk.isL
  congr 1 <;> simp only [decide_eq_decide] <;> omega
theorem Tk.isD_int (b : UInt8) : Tk.isD b = (decide ((48 : Int) ≤ (b.toNat : Int)) && decide ((b.toNat : Int) ≤ 57)) := by
  unfold Tk.isD
  congr 1 <;> simp only [decide_eq_decide] <;> omega
theorem Tk.isB_int (b : UInt8) : Tk.isB b = ((b.toNat : Int) == 32 || (b.toNat : Int) == 9 || (b.toNat : Int) == 10 || (b.toNat : Int) == 13) := by
  unfold Tk.isB
  rw [Bool.eq_iff_iff]
  simp only [Bool.or_eq_true, beq_iff_eq]
  omega

set_option maxHeartbeats 400000 in
theorem isLetter_any (b : UInt8) (w : World) : Calls Tryd.prog 49 #[.int .u8 (b.toNat : Int)] w fun e w' => e = .returned (.bool (Tk.isL b)) ∧ w' = w := by
  rw [Tk.isL_int]
  go_enter Tryd.func49, Tryd.ntmps49
  go_wp2
  all_goals
    go_ret
    first
    | (simp [*]; done)
    | (simp [*]; omega)
set_option maxHeartbeats 400000 in
theorem isDigit_any (b : UInt8) (w : World) : Calls Tryd.prog 61 #[.int .u8 (b.toNat : Int)] w fun e w' => e = .returned (.bool (Tk.isD b)) ∧ w' = w := by
  rw [Tk.isD_int]
  go_enter Tryd.func61, Tryd.ntmps61
  go_wp2
  all_goals
    go_ret
    first
    | (simp [*]; done)
    | (simp [*]; omega)
set_option maxHeartbeats 400000 in
theorem isBlank_any (b : UInt8) (w : World) : Calls Tryd.prog 59 #[.int .u8 (b.toNat : Int)] w fun e w' => e = .returned (.bool (Tk.isB b)) ∧ w' = w := by
  rw [Tk.isB_int]
  go_enter Tryd.func59, Tryd.ntmps59
  go_wp2
  all_goals
    go_ret
    first
    | (simp [*]; done)
    | (simp [*]; omega)

set_option maxHeartbeats 1000000 in
theorem hasPrefixIn_any (s p : ByteArray) (w : World) :
    Calls Tryd.prog 90 #[.string s, .string p] w fun e w' => e = .returned (.bool (Lib.hasPrefix s.data.toList p.data.toList)) ∧ w' = w := by
  have hE := Lib.hasPrefix_raw s p
  by_cases hle : p.size ≤ s.size
  · rw [show decide (p.size ≤ s.size) = true from by simpa using hle] at hE
    have HE := hide hE
    clear hE
    go_enter Tryd.func90, Tryd.ntmps90
    go_wp2
    go_ret
    rw [← HE.out]
    exact ⟨rfl, rfl⟩
  · rw [show decide (p.size ≤ s.size) = false from by simpa using hle] at hE
    have HE := hide hE
    clear hE
    go_enter Tryd.func90, Tryd.ntmps90
    go_wp2
    go_ret
    rw [← HE.out]
    exact ⟨rfl, rfl⟩
set_option maxHeartbeats 1000000 in
theorem hasPrefix_any (s p : ByteArray) (w : World) :
    Calls Tryd.prog 79 #[.string s, .string p] w fun e w' => e = .returned (.bool (Lib.hasPrefix s.data.toList p.data.toList)) ∧ w' = w := by
  go_enter Tryd.func79, Tryd.ntmps79
  go_wp2_with (go_at_call 90; refine (hasPrefixIn_any _ _ _).mono ?_; rintro e w' ⟨rfl, hw⟩; rw [hw])
  go_ret
  exact ⟨rfl, rfl⟩

set_option maxRecDepth 100000 in
set_option maxHeartbeats 1000000 in
theorem indexByteIn_any (s : ByteArray) (c : Int) (w : World) :
    Calls Tryd.prog 91 #[.string s, .int .u8 c] w fun e w' => e = .returned (.int .i64 (Lib.indexByte s.data.toList c.toNat.toUInt8)) ∧ w' = w := by
  go_enter Tryd.func91, Tryd.ntmps91
  go_wp2
  rw [run_callFunc_extern Tryd.func97 (by kernel_rfl) (by kernel_rfl) (by kernel_rfl) (e := Extern.BytealgIndexByte.indexByte) (by kernel_rfl), Lib.run_indexByteString]
  simp only [Result.andThen]
  rw [Oper.upon_value]
  go_wp2
  go_ret
  exact ⟨rfl, rfl⟩
set_option maxHeartbeats 1000000 in
theorem indexByte_any (s : ByteArray) (c : Int) (w : World) :
    Calls Tryd.prog 80 #[.string s, .int .u8 c] w fun e w' => e = .returned (.int .i64 (Lib.indexByte s.data.toList c.toNat.toUInt8)) ∧ w' = w := by
  go_enter Tryd.func80, Tryd.ntmps80
  go_wp2_with (go_at_call 91; refine (indexByteIn_any _ _ _).mono ?_; rintro e w' ⟨rfl, hw⟩; rw [hw])
  go_ret
  exact ⟨rfl, rfl⟩
end Go.Proofs.YtlipncdfmloijaaDoor

/- Contracts of the two functions that tell where the lines of a text begin: both make a new row of the same numbers. -/
import Derived.Test.YtmenmlkclggjjaaDoorSmall
namespace Go.Proofs.YtmenmlkclggjjaaDoor
open Go.RowKit

theorem Tryd.info3 : (Tryd.prog.info? 3).map (fun i => (i.zero, i.size, i.bytes)) = some (some (.int .i64 0), 1, 8) := by kernel_rfl

/-- The cells of a row of numbers. -/
def nums (l : List Nat) : List Value := l.map fun (k : Nat) => Value.int .i64 (k : Int)
theorem nums_len (l : List Nat) : (nums l).length = l.length := by simp [nums]
theorem nums_app (a b : List Nat) : nums (a ++ b) = nums a ++ nums b := by simp [nums]

theorem own_first (w : World) (x : Value) : (w.alloc (.cells #[x] 3)).ownsRow w.heap.size 3 1 (.slice (some ⟨w.heap.size, 0, none⟩) 1 1) 1 [x] :=
  ⟨by simp, .inr ⟨w.heap.size, 1, #[x], rfl, Nat.le_refl _, heap_alloc_new w _, Nat.le_refl _, by simp [maxLen], by simp, by simp⟩⟩

theorem rel_hit {w wr w1 : World} {l : List UInt8} {k : Nat} {v v' : Value} {o : Obj} (hx : l[k]?.getD 0 = 10)
    (hown : wr.ownsRow w.heap.size 3 1 v (Pl.begs l k).length (nums (Pl.begs l k))) (hnx : Below w.heap.size w wr)
    (hown' : w1.ownsRow w.heap.size 3 1 v' ((Pl.begs l k).length + 1) (nums (Pl.begs l k) ++ [.int .i64 ((k : Int) + 1)])) (hgrow : (wr.alloc o).grownBy w1 v.ownBlock) :
    w1.ownsRow w.heap.size 3 1 v' (Pl.begs l (k + 1)).length (nums (Pl.begs l (k + 1))) ∧ Below w.heap.size w w1 := by
  have e1 := Pl.begs_hit l k hx
  have hs := hnx.size
  refine ⟨?_, (hnx.alloc (by omega) o).grown hgrow (by simp; omega) (fun j hj => (hown.lt j hj).1)⟩
  rw [e1, nums_app]
  simpa [nums] using hown'

set_option maxHeartbeats 400000 in
theorem lines_no (s : ByteArray) (w : World) (hs : s.size ≤ maxLen) (hbig : 12000 < s.size) :
    Calls Tryd.prog 11 #[.string s] w fun e w' => e = .returned (.slice none 0 0) ∧ w' = w := by
  unfold maxLen at hs
  go_enter Tryd.func11, Tryd.ntmps11
  go_wp2
  go_ret
  exact ⟨rfl, rfl⟩

set_option maxHeartbeats 400000 in
theorem rlines_no (s : ByteArray) (w : World) (hs : s.size ≤ maxLen) (hbig : 12000 < s.size) :
    Calls Tryd.prog 12 #[.string s] w fun e w' => e = .returned (.slice none 0 0) ∧ w' = w := by
  unfold maxLen at hs
  go_enter Tryd.func12, Tryd.ntmps12
  go_wp2
  go_ret
  exact ⟨rfl, rfl⟩

set_option maxHeartbeats 400000 in
theorem lines_yes (s : ByteArray) (w : World) (hs : s.size ≤ 12000) :
    Calls Tryd.prog 11 #[.string s] w fun e w' => ∃ v, e = .returned v ∧ w'.ownsRow w.heap.size 3 1 v (Pl.begs s.data.toList s.size).length (nums (Pl.begs s.data.toList s.size)) ∧ Below w.heap.size w w' := by
  obtain ⟨i0, hi, hz0, hz1, hz2⟩ := info_parts Tryd.info3
  have d1 : decide ((12000 : Int) < (s.size : Int)) = false := by simp; omega
  go_enter Tryd.func11, Tryd.ntmps11
  go_wp2
  go_loopw [3, 11] (fun v i wr => ∃ k : Nat, k ≤ s.size ∧ i = .int .i64 k ∧ wr.ownsRow w.heap.size 3 1 v (Pl.begs s.data.toList k).length (nums (Pl.begs s.data.toList k)) ∧ Below w.heap.size w wr) (fun _ i _ => s.size - (intOf i).toNat)
  case atStart => exact ⟨0, Nat.zero_le _, rfl, own_first w _, (Below.refl _ _).alloc (Nat.le_refl _) _⟩
  case round =>
    obtain ⟨k, hk, rfl, hown, hnx⟩ := hrel
    have h1 := Pl.begs_len s.data.toList k
    have h3 := hnx.size
    by_cases hlt : k < s.size
    · go_wp2_with (at_builtin; refine wpList_append_own _ rfl _ _ 28 rfl w.heap.size 3 i0 (.int .i64 0) 1 8 Tryd.underlying28 hi hz0 hz1 hz2 rfl (by decide) _ _ _ rfl (hown.alloc _) ⟨wr.heap.size, 0, none⟩ 1 1 [.int .i64 ((k : Int) + 1)] rfl rfl ?c1 ?c2 ?c3 ?c4 ?c5 ?_)
      case c1 => exact cell_one_new _ _ _
      case c2 => intro u hu; simp at hu; subst hu; rfl
      case c3 => unfold maxLen; omega
      case c4 => omega
      case c5 => simp; omega
      · intro v' w1 hown' hgrow _
        have ht : (↑s[k].toNat == (10 : Int)) = true := by assumption
        have R := rel_hit (byte_yes s k hlt ht) hown hnx hown' hgrow
        clear hown' hgrow hown hnx
        go_wp2
        go_roundw
        case rel => exact ⟨k + 1, by omega, by go_num, R.1, R.2⟩
        case measure => simp [intOf]; omega
      · have ht : (↑s[k].toNat == (10 : Int)) = false := by assumption
        have e1 := Pl.begs_miss s.data.toList k (byte_no s k hlt ht)
        have R : wr.ownsRow w.heap.size 3 1 u3 (Pl.begs s.data.toList (k + 1)).length (nums (Pl.begs s.data.toList (k + 1))) := by rw [e1]; exact hown
        go_roundw
        case rel => exact ⟨k + 1, by omega, by go_num, R, hnx⟩
        case measure => simp [intOf]; omega
    · obtain rfl : k = s.size := by omega
      go_wp2
      go_ret
      exact ⟨_, rfl, hown, hnx⟩

set_option maxHeartbeats 400000 in
theorem rlines_yes (s : ByteArray) (w : World) (hs : s.size ≤ 12000) :
    Calls Tryd.prog 12 #[.string s] w fun e w' => ∃ v, e = .returned v ∧ w'.ownsRow w.heap.size 3 1 v (Pl.begs s.data.toList s.size).length (nums (Pl.begs s.data.toList s.size)) ∧ Below w.heap.size w w' := by
  obtain ⟨i0, hi, hz0, hz1, hz2⟩ := info_parts Tryd.info3
  have d1 : decide ((12000 : Int) < (s.size : Int)) = false := by simp; omega
  go_enter Tryd.func12, Tryd.ntmps12
  go_wp2
  go_loopw [3, 4] (fun v i wr => ∃ k : Nat, k ≤ s.size ∧ i = .int .i64 k ∧ wr.ownsRow w.heap.size 3 1 v (Pl.begs s.data.toList k).length (nums (Pl.begs s.data.toList k)) ∧ Below w.heap.size w wr) (fun _ i _ => s.size - (intOf i).toNat)
  case atStart => exact ⟨0, Nat.zero_le _, rfl, own_first w _, (Below.refl _ _).alloc (Nat.le_refl _) _⟩
  case round =>
    obtain ⟨k, hk, rfl, hown, hnx⟩ := hrel
    have h1 := Pl.begs_len s.data.toList k
    have h3 := hnx.size
    by_cases hlt : k < s.size
    · go_wp2_with (at_builtin; refine wpList_append_own _ rfl _ _ 28 rfl w.heap.size 3 i0 (.int .i64 0) 1 8 Tryd.underlying28 hi hz0 hz1 hz2 rfl (by decide) _ _ _ rfl (hown.alloc _) ⟨wr.heap.size, 0, none⟩ 1 1 [.int .i64 ((k : Int) + 1)] rfl rfl ?c1 ?c2 ?c3 ?c4 ?c5 ?_)
      case c1 => exact cell_one_new _ _ _
      case c2 => intro u hu; simp at hu; subst hu; rfl
      case c3 => unfold maxLen; omega
      case c4 => omega
      case c5 => simp; omega
      · intro v' w1 hown' hgrow _
        have ht : (↑s[k].toNat == (10 : Int)) = true := by assumption
        have R := rel_hit (byte_yes s k hlt ht) hown hnx hown' hgrow
        clear hown' hgrow hown hnx
        go_wp2
        go_roundw
        case rel => exact ⟨k + 1, by omega, by go_num, R.1, R.2⟩
        case measure => simp [intOf]; omega
      · have ht : (↑s[k].toNat == (10 : Int)) = false := by assumption
        have e1 := Pl.begs_miss s.data.toList k (byte_no s k hlt ht)
        have R : wr.ownsRow w.heap.size 3 1 u3 (Pl.begs s.data.toList (k + 1)).length (nums (Pl.begs s.data.toList (k + 1))) := by rw [e1]; exact hown
        go_roundw
        case rel => exact ⟨k + 1, by omega, by go_num, R, hnx⟩
        case measure => simp [intOf]; omega
    · obtain rfl : k = s.size := by omega
      go_wp2
      go_ret
      exact ⟨_, rfl, hown, hnx⟩
end Go.Proofs.YtmenmlkclggjjaaDoor

import Derived.Test.YtibhbbgpeckkfaaRnkO
import Derived.Sort.Grow
/- Two edges held against each other, as package ranks does it. -/
namespace Go.Proofs.Ytibhbbgpeckkfaa
open Go.RowKit

def cmpI (a b : Int) : Int := if a < b then -1 else if b < a then 1 else 0
def cmpE (x y : Int × Int) : Int := if x.1 = y.1 then cmpI x.2 y.2 else cmpI x.1 y.1
theorem cmpI_z (a b : Int) : cmpI a b = 0 ↔ a = b := by
  unfold cmpI
  by_cases h1 : a < b
  · rw [if_pos h1]; constructor <;> intro h <;> omega
  · rw [if_neg h1]
    by_cases h2 : b < a
    · rw [if_pos h2]; constructor <;> intro h <;> omega
    · rw [if_neg h2]; constructor
      · intro _; omega
      · intro _; rfl
set_option maxHeartbeats 400000 in
theorem cmp_any (a b : Int) (w : World) : Calls Try.prog 32 #[.int .i64 a, .int .i64 b] w fun e w' => e = .returned (.int .i64 (cmpI a b)) ∧ w' = w := by
  unfold cmpI
  by_cases h1 : a < b
  · rw [if_pos h1]
    go_enter Try.func32, Try.ntmps32
    go_wp2
    go_ret
    exact ⟨rfl, rfl⟩
  · rw [if_neg h1]
    by_cases h2 : b < a
    · rw [if_pos h2]
      go_enter Try.func32, Try.ntmps32
      go_wp2
      go_ret
      exact ⟨rfl, rfl⟩
    · rw [if_neg h2]
      go_enter Try.func32, Try.ntmps32
      go_wp2
      go_ret
      exact ⟨rfl, rfl⟩
set_option maxRecDepth 100000 in
set_option maxHeartbeats 1000000 in
theorem compare_any (x y : Int × Int) (g1 g2 : Nat) (w : World) (a0 : w.cell? ⟨g1, 0, none⟩ = some (.int .i64 x.1)) (a1 : w.cell? ⟨g1, 1, none⟩ = some (.int .i64 x.2)) (b0 : w.cell? ⟨g2, 0, none⟩ = some (.int .i64 y.1)) (b1 : w.cell? ⟨g2, 1, none⟩ = some (.int .i64 y.2)) :
    Calls Try.prog 25 #[.slice (some ⟨g1, 0, none⟩) 2 2, .slice (some ⟨g2, 0, none⟩) 2 2] w fun e w' => e = .returned (.int .i64 (cmpE x y)) ∧ w' = w := by
  obtain ⟨x1, x2⟩ := x
  obtain ⟨y1, y2⟩ := y
  simp only at a0 a1 b0 b1
  have C1 := hide (cmp_any x1 y1 w)
  have C2 := hide (cmp_any x2 y2 w)
  have EA : Hid (cmpI x1 y1 ≠ 0 → cmpE (x1, x2) (y1, y2) = cmpI x1 y1) := hide (fun h => if_neg (fun e => h ((cmpI_z _ _).2 e)))
  have EB : Hid (cmpI x1 y1 = 0 → cmpE (x1, x2) (y1, y2) = cmpI x2 y2) := hide (fun h => if_pos ((cmpI_z _ _).1 h))
  generalize cmpI x1 y1 = r1 at *
  generalize cmpI x2 y2 = r2 at *
  generalize cmpE (x1, x2) (y1, y2) = r3 at *
  go_enter Try.func25, Try.ntmps25
  go_wp2
  go_loop [11] (fun iv => iv = .int .i64 0 ∨ (iv = .int .i64 1 ∧ Hid (r1 = 0)) ∨ (iv = .int .i64 2 ∧ Hid (r1 = 0) ∧ Hid (r2 = 0))) (fun iv => 2 - (intOf iv).toNat)
  case atStart => exact .inl rfl
  case round =>
    rcases hrel with rfl | ⟨rfl, h1⟩ | ⟨rfl, h1, h2⟩
    · go_wp2_with fail
      refine C1.out.mono ?_
      rintro e w1 ⟨rfl, rfl⟩
      by_cases hz : r1 = 0
      · have e0 : (r1 != 0) = false := by simpa using hz
        have HZ := hide hz
        clear hz
        go_wp2
        go_round
        case rel => exact .inr (.inl ⟨rfl, HZ⟩)
        case measure => simp [intOf]
      · have e0 : (r1 != 0) = true := by simpa using hz
        have HZ := hide (EA.out hz)
        clear hz
        go_wp2
        go_ret
        exact ⟨by rw [HZ.out]; rfl, rfl⟩
    · go_wp2_with fail
      refine C2.out.mono ?_
      rintro e w1 ⟨rfl, rfl⟩
      by_cases hz : r2 = 0
      · have e0 : (r2 != 0) = false := by simpa using hz
        have HZ := hide hz
        clear hz
        go_wp2
        go_round
        case rel => exact .inr (.inr ⟨rfl, h1, HZ⟩)
        case measure => simp [intOf]
      · have e0 : (r2 != 0) = true := by simpa using hz
        have HZ := hide (EB.out h1.out)
        clear hz
        go_wp2
        go_ret
        exact ⟨by rw [HZ.out]; rfl, rfl⟩
    · have HZ := hide ((EB.out h1.out).trans h2.out)
      go_wp2
      go_ret
      exact ⟨by rw [HZ.out]; rfl, rfl⟩
set_option maxRecDepth 100000 in
set_option maxHeartbeats 1000000 in
/-- The comparison that newGraph hands the sort: two blocks are laid. -/
theorem less_any (x y : Int × Int) (W : World) : Calls Try.prog 24 #[.agg #[.int .i64 x.1, .int .i64 x.2], .agg #[.int .i64 y.1, .int .i64 y.2]] W fun e w' => e = .returned (.int .i64 (cmpE x y)) ∧ ∃ q os', w' = Go.Sort.grow (W.drewN q) os' := by
  have hcon := fun W' a0 a1 b0 b1 => compare_any x y W.heap.size (W.heap.size + 1) W' a0 a1 b0 b1
  generalize cmpE x y = r at hcon ⊢
  have HC := hide hcon
  clear hcon
  go_enter Try.func24, Try.ntmps24
  go_wp2
  go_quiet ((go_at_call 25; exact Calls.quiet_of_same (HC.out _ (by simp [go_sem]) (by simp [go_sem]) (by simp [go_sem]) (by simp [go_sem]))))
  go_wp2
  go_ret
  exact ⟨rfl, _, _, by rw [Go.Sort.alloc_eq_grow, Go.Sort.alloc_eq_grow, Go.Sort.grow_grow]; rfl⟩
end Go.Proofs.Ytibhbbgpeckkfaa

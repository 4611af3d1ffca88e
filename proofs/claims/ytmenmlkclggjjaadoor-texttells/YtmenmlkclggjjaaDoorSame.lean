/- Contracts: two rows of the same numbers are the same; the search among the beginnings of lines finds how many there are up to a place. -/
import Derived.Test.YtmenmlkclggjjaaDoorLines
import Derived.Deep.QuietTactic
import Derived.BigQuiet
namespace Go.Proofs.YtmenmlkclggjjaaDoor
open Go.RowKit

theorem own_cells {w : World} {B : Nat} {v : Value} {l : List Nat} (h : w.ownsRow B 3 1 v l.length (nums l)) (hp : 0 < l.length) :
    ∃ g cap, v = .slice (some ⟨g, 0, none⟩) l.length cap ∧ B ≤ g ∧ g < w.heap.size ∧ l.length ≤ cap ∧ cap ≤ maxLen ∧ ∀ k, k < l.length → w.cell? ⟨g, k, none⟩ = some (.int .i64 ((l[k]?.getD 0 : Nat) : Int)) := by
  rcases h.2 with ⟨_, h0⟩ | ⟨g, cap, cur, hv, hb, hg, hnc, hcm, _, _⟩
  · omega
  · refine ⟨g, cap, hv, hb, (h.lt g (by rw [hv]; rfl)).2, hnc, hcm, fun k hk => ?_⟩
    have := h.cells (g := g) (by rw [hv]; rfl) k (.int .i64 ((l[k]?.getD 0 : Nat) : Int)) (by simp [nums, List.getElem?_eq_getElem hk])
    have hadd : (⟨g, 0, none⟩ : Addr).add k = ⟨g, k, none⟩ := by unfold Addr.add; split <;> simp_all
    rw [hadd] at this
    exact this

set_option maxHeartbeats 400000 in
theorem same_zero (a1 a2 : Option Addr) (c1 c2 : Nat) (w : World) :
    Calls Tryd.prog 10 #[.slice a1 0 c1, .slice a2 0 c2] w fun e w' => e = .returned (.bool true) ∧ w' = w := by
  go_enter Tryd.func10, Tryd.ntmps10
  go_wp2
  go_loop [5] (fun i => i = .int .i64 0) (fun i => 0)
  case atStart => rfl
  case round =>
    obtain rfl := hrel
    go_wp2
    go_ret
    exact ⟨rfl, rfl⟩

set_option maxHeartbeats 400000 in
theorem same_some (l : List Nat) (g1 g2 c1 c2 : Nat) (w : World) (hn : l.length ≤ 12001)
    (h1 : ∀ k, k < l.length → w.cell? ⟨g1, k, none⟩ = some (.int .i64 ((l[k]?.getD 0 : Nat) : Int)))
    (h2 : ∀ k, k < l.length → w.cell? ⟨g2, k, none⟩ = some (.int .i64 ((l[k]?.getD 0 : Nat) : Int))) :
    Calls Tryd.prog 10 #[.slice (some ⟨g1, 0, none⟩) l.length c1, .slice (some ⟨g2, 0, none⟩) l.length c2] w fun e w' => e = .returned (.bool true) ∧ Below w.heap.size w w' := by
  go_enter Tryd.func10, Tryd.ntmps10
  go_wp2
  go_loopw [5] (fun i wr => ∃ k : Nat, k ≤ l.length ∧ i = .int .i64 k ∧ ∃ n, wr = w.drewN n) (fun i _ => l.length - (intOf i).toNat)
  case atStart => exact ⟨0, Nat.zero_le _, rfl, 0, rfl⟩
  case round =>
    obtain ⟨k, hk, rfl, n, rfl⟩ := hrel
    by_cases hlt : k < l.length
    · have g1c := h1 k hlt
      have g2c := h2 k hlt
      go_wp2
      go_quiet (fail)
      go_wp2
      go_roundw
      case rel => exact ⟨k + 1, by omega, by go_num, _, rfl⟩
      case measure => simp [intOf]; omega
    · go_wp2
      go_ret
      exact ⟨rfl, below_drewN (Below.refl _ _) _⟩

/-- Two rows that are owned and hold the same numbers. -/
theorem same_any (l : List Nat) (B1 B2 : Nat) (v1 v2 : Value) (w : World) (hn : l.length ≤ 12001) (hp : 0 < l.length) (h1 : w.ownsRow B1 3 1 v1 l.length (nums l)) (h2 : w.ownsRow B2 3 1 v2 l.length (nums l)) :
    Calls Tryd.prog 10 #[v1, v2] w fun e w' => e = .returned (.bool true) ∧ Below w.heap.size w w' := by
  obtain ⟨g1, c1, rfl, _, _, _, _, hc1⟩ := own_cells h1 hp
  obtain ⟨g2, c2, rfl, _, _, _, _, hc2⟩ := own_cells h2 hp
  exact same_some l g1 g2 c1 c2 w hn hc1 hc2

set_option maxHeartbeats 400000 in
/-- The search among beginnings: how many of them are not behind the place. -/
theorem search_any (l : List Nat) (g p q cap a : Nat) (w : World) (hn : l.length ≤ 12001)
    (hp : w.cell? ⟨p, 0, none⟩ = some (.slice (some ⟨g, 0, none⟩) l.length cap)) (hq : w.cell? ⟨q, 0, none⟩ = some (.int .i64 a))
    (hc : ∀ k, k < l.length → w.cell? ⟨g, k, none⟩ = some (.int .i64 ((l[k]?.getD 0 : Nat) : Int)))
    (hup : ∀ i j, i ≤ j → j < l.length → l[i]?.getD 0 ≤ l[j]?.getD 0) :
    Calls Tryd.prog 34 #[.int .i64 l.length, .func (.func 35) #[] #[.pointer (some ⟨p, 0, none⟩), .pointer (some ⟨q, 0, none⟩)]] w fun e w' => ∃ r : Nat, e = .returned (.int .i64 r) ∧ r ≤ l.length ∧ (∀ k, k < r → l[k]?.getD 0 ≤ a) ∧ (r < l.length → a < l[r]?.getD 0) ∧ Below w.heap.size w w' := by
  go_enter Tryd.func34, Tryd.ntmps34
  go_wp2
  go_loopw [5, 6] (fun i j wr => ∃ x y : Nat, x ≤ y ∧ y ≤ l.length ∧ i = .int .i64 x ∧ j = .int .i64 y ∧ (∀ k, k < x → l[k]?.getD 0 ≤ a) ∧ (y < l.length → a < l[y]?.getD 0) ∧ ∃ n, wr = w.drewN n) (fun i j _ => (intOf j - intOf i).toNat)
  case atStart => exact ⟨0, l.length, Nat.zero_le _, Nat.le_refl _, rfl, rfl, by omega, by omega, 0, rfl⟩
  case round =>
    obtain ⟨x, y, hxy, hyn, rfl, rfl, hlo, hhi, n, rfl⟩ := hrel
    have HL := hide hlo
    have HH := hide hhi
    have HU := hide hup
    clear hlo hhi hup
    by_cases hlt : x < y
    · obtain ⟨m, hm⟩ : ∃ m : Nat, ((x : Int) + (y : Int)) / 2 = (m : Int) := ⟨(x + y) / 2, by omega⟩
      have hm1 : x ≤ m := by omega
      have hm2 : m < y := by omega
      have hcm := hc m (by omega)
      clear hc
      go_wp2
      go_quiet (fail)
      go_wp2
      · have ht : (!decide (a < l[m]?.getD 0)) = true := by assumption
        have hle : l[m]?.getD 0 ≤ a := by simpa using ht
        have hlo : ∀ k, k < m + 1 → l[k]?.getD 0 ≤ a := fun k hk => Nat.le_trans (HU.out k m (by omega) (by omega)) hle
        go_roundw
        case rel => exact ⟨m + 1, y, by omega, hyn, by go_num, rfl, hlo, HH.out, _, rfl⟩
        case measure => simp [intOf]; omega
      · have ht : (!decide (a < l[m]?.getD 0)) = false := by assumption
        have hgt : a < l[m]?.getD 0 := by simpa using ht
        go_roundw
        case rel => exact ⟨x, m, by omega, by omega, rfl, rfl, HL.out, fun _ => hgt, _, rfl⟩
        case measure => simp [intOf]; omega
    · obtain rfl : x = y := by omega
      go_wp2
      go_ret
      exact ⟨x, rfl, hyn, HL.out, HH.out, below_drewN (Below.refl _ _) _⟩
end Go.Proofs.YtmenmlkclggjjaaDoor

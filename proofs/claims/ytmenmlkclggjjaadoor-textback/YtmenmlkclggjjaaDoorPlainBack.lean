/- Plain mathematics: beginnings of lines rise, each but the first stands behind a newline; lines that are put ahead move lines alone. -/
import Derived.Test.YtmenmlkclggjjaaDoorPlain
namespace Go.Proofs.YtmenmlkclggjjaaDoor
namespace Pl

theorem begs_strict (l : List UInt8) (n : Nat) : ∀ i, i + 1 < (begs l n).length → (begs l n)[i]?.getD 0 < (begs l n)[i + 1]?.getD 0 := by
  induction n with
  | zero => intro i hi; simp [begs] at hi
  | succ n ih =>
    intro i hi
    by_cases h : l[n]?.getD 0 = 10
    · rw [begs_hit l n h] at hi ⊢
      simp at hi
      by_cases hc : i + 1 < (begs l n).length
      · rw [List.getElem?_append_left hc, List.getElem?_append_left (by omega)]
        exact ih i hc
      · have hil : i < (begs l n).length := by omega
        rw [List.getElem?_append_left hil, List.getElem?_append_right (by omega), List.getElem?_eq_getElem hil]
        have := begs_le l n _ (List.getElem_mem hil)
        rw [show i + 1 - (begs l n).length = 0 from by omega]
        simp
        omega
    · rw [begs_miss l n h] at hi ⊢
      exact ih i hi

theorem begs_nl (l : List UInt8) (n : Nat) : ∀ i, 0 < i → i < (begs l n).length → ∃ j, (begs l n)[i]?.getD 0 = j + 1 ∧ j < n ∧ l[j]?.getD 0 = 10 := by
  induction n with
  | zero => intro i h0 hi; simp [begs] at hi; omega
  | succ n ih =>
    intro i h0 hi
    by_cases h : l[n]?.getD 0 = 10
    · rw [begs_hit l n h] at hi ⊢
      simp at hi
      by_cases hc : i < (begs l n).length
      · obtain ⟨j, h1, h2, h3⟩ := ih i h0 hc
        exact ⟨j, by rw [List.getElem?_append_left hc]; exact h1, by omega, h3⟩
      · refine ⟨n, ?_, by omega, h⟩
        rw [List.getElem?_append_right (by omega), show i - (begs l n).length = 0 from by omega]
        simp
    · rw [begs_miss l n h] at hi ⊢
      obtain ⟨j, h1, h2, h3⟩ := ih i h0 hi
      exact ⟨j, h1, by omega, h3⟩

theorem begs_local (a b : List UInt8) (k : Nat) (hk : k ≤ a.length) : begs (a ++ b) k = begs a k := by
  induction k with
  | zero => rfl
  | succ k ih =>
    have e : (a ++ b)[k]?.getD 0 = a[k]?.getD 0 := by rw [List.getElem?_append_left (by omega)]
    simp only [begs, e, ih (by omega)]

theorem ahead_at (a s : List UInt8) (k : Nat) : (a ++ 10 :: s)[a.length + 1 + k]?.getD 0 = s[k]?.getD 0 := by
  rw [List.getElem?_append_right (by omega), show a.length + 1 + k - a.length = k + 1 from by omega, List.getElem?_cons_succ]

theorem ahead_lines (a s : List UInt8) (k : Nat) : (begs (a ++ 10 :: s) (a.length + 1 + k)).length = (begs s k).length + (begs a a.length).length := by
  induction k with
  | zero =>
    have h : (a ++ 10 :: s)[a.length]?.getD 0 = 10 := by simp
    rw [show a.length + 1 + 0 = a.length + 1 from rfl, begs_hit _ _ h, begs_local a (10 :: s) a.length (Nat.le_refl _)]
    simp [begs]
    omega
  | succ k ih =>
    have e := ahead_at a s k
    rw [show a.length + 1 + (k + 1) = a.length + 1 + k + 1 from rfl]
    by_cases h : s[k]?.getD 0 = 10
    · rw [begs_hit _ _ (e.trans h), begs_hit s k h]
      simp [ih]
      omega
    · rw [begs_miss _ _ (by rw [e]; exact h), begs_miss s k h, ih]

theorem ahead_last (a s : List UInt8) (k : Nat) : last (a ++ 10 :: s) (a.length + 1 + k) = a.length + 1 + last s k := by
  induction k with
  | zero =>
    have h : (a ++ 10 :: s)[a.length]?.getD 0 = 10 := by simp
    rw [show a.length + 1 + 0 = a.length + 1 from rfl, last_hit _ _ h]
    simp [last]
  | succ k ih =>
    have e := ahead_at a s k
    rw [show a.length + 1 + (k + 1) = a.length + 1 + k + 1 from rfl]
    by_cases h : s[k]?.getD 0 = 10
    · rw [last_hit _ _ (e.trans h), last_hit s k h]
      omega
    · rw [last_miss _ _ (by rw [e]; exact h), last_miss s k h, ih]
end Pl
end Go.Proofs.YtmenmlkclggjjaaDoor

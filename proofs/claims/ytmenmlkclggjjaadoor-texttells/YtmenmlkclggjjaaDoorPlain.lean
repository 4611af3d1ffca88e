/- Plain mathematics on lists and numbers: where the lines of a text begin, the line and the column of a place. It imports nothing of the program. -/
namespace Go.Proofs.YtmenmlkclggjjaaDoor
namespace Pl

/-- Where lines begin, among the first k bytes and behind them. -/
def begs (l : List UInt8) : Nat → List Nat
  | 0 => [0]
  | k + 1 => if l[k]?.getD 0 = 10 then begs l k ++ [k + 1] else begs l k

/-- Where the line begins that the place k is in. -/
def last (l : List UInt8) : Nat → Nat
  | 0 => 0
  | k + 1 => if l[k]?.getD 0 = 10 then k + 1 else last l k

theorem begs_hit (l : List UInt8) (k : Nat) (h : l[k]?.getD 0 = 10) : begs l (k + 1) = begs l k ++ [k + 1] := by simp [begs, h]
theorem begs_miss (l : List UInt8) (k : Nat) (h : ¬ l[k]?.getD 0 = 10) : begs l (k + 1) = begs l k := by simp [begs, h]
theorem last_hit (l : List UInt8) (k : Nat) (h : l[k]?.getD 0 = 10) : last l (k + 1) = k + 1 := by simp [last, h]
theorem last_miss (l : List UInt8) (k : Nat) (h : ¬ l[k]?.getD 0 = 10) : last l (k + 1) = last l k := by simp [last, h]

theorem begs_pos (l : List UInt8) (k : Nat) : 0 < (begs l k).length := by
  induction k with
  | zero => simp [begs]
  | succ k ih => by_cases h : l[k]?.getD 0 = 10 <;> simp [begs, h] ; exact ih

theorem begs_len (l : List UInt8) (k : Nat) : (begs l k).length ≤ k + 1 := by
  induction k with
  | zero => simp [begs]
  | succ k ih =>
    by_cases h : l[k]?.getD 0 = 10
    · rw [begs_hit l k h]; simp; omega
    · rw [begs_miss l k h]; omega

theorem last_le (l : List UInt8) (k : Nat) : last l k ≤ k := by
  induction k with
  | zero => simp [last]
  | succ k ih =>
    by_cases h : l[k]?.getD 0 = 10
    · rw [last_hit l k h]; omega
    · rw [last_miss l k h]; omega

theorem begs_last (l : List UInt8) (k : Nat) : (begs l k)[(begs l k).length - 1]? = some (last l k) := by
  induction k with
  | zero => simp [begs, last]
  | succ k ih =>
    by_cases h : l[k]?.getD 0 = 10
    · rw [begs_hit l k h, last_hit l k h]; simp
    · rw [begs_miss l k h, last_miss l k h]; exact ih

theorem begs_le (l : List UInt8) (k : Nat) : ∀ x, x ∈ begs l k → x ≤ k := by
  induction k with
  | zero => intro x hx; simp [begs] at hx; omega
  | succ k ih =>
    intro x hx
    by_cases h : l[k]?.getD 0 = 10
    · rw [begs_hit l k h] at hx
      rcases List.mem_append.1 hx with hx | hx
      · have := ih x hx; omega
      · simp at hx; omega
    · rw [begs_miss l k h] at hx
      have := ih x hx; omega

theorem begs_pre (l : List UInt8) (a : Nat) : ∀ d, ∃ t, begs l (a + d) = begs l a ++ t ∧ ∀ x, x ∈ t → a < x := by
  intro d
  induction d with
  | zero => exact ⟨[], by simp, by simp⟩
  | succ d ih =>
    obtain ⟨t, ht, hx⟩ := ih
    by_cases h : l[a + d]?.getD 0 = 10
    · refine ⟨t ++ [a + d + 1], ?_, ?_⟩
      · rw [show a + (d + 1) = a + d + 1 from rfl, begs_hit l (a + d) h, ht, List.append_assoc]
      · intro x hm
        rcases List.mem_append.1 hm with hm | hm
        · exact hx x hm
        · simp at hm; omega
    · exact ⟨t, by rw [show a + (d + 1) = a + d + 1 from rfl, begs_miss l (a + d) h, ht], hx⟩

theorem begs_low (l : List UInt8) (a n : Nat) (h : a ≤ n) (i : Nat) (hi : i < (begs l a).length) : (begs l n)[i]?.getD 0 ≤ a := by
  obtain ⟨t, ht, _⟩ := begs_pre l a (n - a)
  rw [show a + (n - a) = n from by omega] at ht
  rw [ht, List.getElem?_append_left hi, List.getElem?_eq_getElem hi]
  exact begs_le l a _ (List.getElem_mem hi)

theorem begs_high (l : List UInt8) (a n : Nat) (h : a ≤ n) (i : Nat) (hi : (begs l a).length ≤ i) (hn : i < (begs l n).length) : a < (begs l n)[i]?.getD 0 := by
  obtain ⟨t, ht, hx⟩ := begs_pre l a (n - a)
  rw [show a + (n - a) = n from by omega] at ht
  rw [ht] at hn ⊢
  rw [List.getElem?_append_right hi]
  have hlt : i - (begs l a).length < t.length := by simp at hn; omega
  rw [List.getElem?_eq_getElem hlt]
  exact hx _ (List.getElem_mem hlt)

theorem begs_len_mono (l : List UInt8) (a n : Nat) (h : a ≤ n) : (begs l a).length ≤ (begs l n).length := by
  obtain ⟨t, ht, _⟩ := begs_pre l a (n - a)
  rw [show a + (n - a) = n from by omega] at ht
  rw [ht]; simp

/-- What a search finds: the number of lines begun up to the place. -/
theorem found (l : List UInt8) (a n i : Nat) (h : a ≤ n) (hi : i ≤ (begs l n).length)
    (lo : ∀ k, k < i → (begs l n)[k]?.getD 0 ≤ a) (hi2 : i < (begs l n).length → a < (begs l n)[i]?.getD 0) : i = (begs l a).length := by
  have hm := begs_len_mono l a n h
  rcases Nat.lt_trichotomy i (begs l a).length with hc | hc | hc
  · have h1 := begs_low l a n h i hc
    have h2 := hi2 (by omega)
    omega
  · exact hc
  · have h1 := begs_high l a n h (begs l a).length (Nat.le_refl _) (by omega)
    have h2 := lo _ hc
    omega

theorem begs_at_last (l : List UInt8) (a n : Nat) (h : a ≤ n) : (begs l n)[(begs l a).length - 1]?.getD 0 = last l a := by
  obtain ⟨t, ht, _⟩ := begs_pre l a (n - a)
  rw [show a + (n - a) = n from by omega] at ht
  have hp := begs_pos l a
  rw [ht, List.getElem?_append_left (by omega), begs_last]
  rfl

theorem byte_at (s : ByteArray) (k : Nat) (h : k < s.size) : s.data.toList[k]?.getD 0 = s[k] := by
  have h' : k < s.data.toList.length := by simpa using h
  rw [List.getElem?_eq_getElem h']
  simp [ByteArray.getElem_eq_getElem_data]

end Pl
end Go.Proofs.YtmenmlkclggjjaaDoor

import Derived.Test.YtibhbbgpeckkfaaRnkK
/- A table of truths that is made row by row. -/
namespace Go.Proofs.Ytibhbbgpeckkfaa
open Go.RowKit

theorem Try.infoBool : (Try.prog.info? 4).map (fun i => (i.zero, i.size, i.bytes)) = some (some (.bool false), 1, 1) := by kernel_rfl
theorem Try.infoBools : (Try.prog.info? 37).map (fun i => (i.zero, i.size, i.bytes)) = some (some (.slice none 0 0), 1, 24) := by kernel_rfl
theorem madeB_get (x : Value) (n k : Nat) (h : k < n) : (madeCells #[x] n)[k]? = some x := by
  unfold madeCells
  rw [Array.getElem?_map]
  simp [h, Nat.mod_one]
theorem make_bools (n : Nat) (hn : n ≤ 300) : ∃ Z : Array Value, (∀ k, k < n → Z[k]? = some (.bool false)) ∧ ∀ w : World, (Instr.makeSlice 37 (.int .i64 (n : Int)) (.int .i64 (n : Int))).run Try.prog w = .ok (.slice (some ⟨w.heap.size, 0, none⟩) n n) (w.alloc (.cells Z 4)) := by
  obtain ⟨i0, hi, hz0, hz1, hz2⟩ := info_parts Try.infoBool
  refine ⟨madeCells #[Value.bool false] n, madeB_get _ n, fun w => ?_⟩
  have := run_make (P := Try.prog) w 37 4 i0 (.bool false) Try.underlying37 hi hz0 .i64 .i64 (n : Int) (n : Int) (by omega) (Int.le_refl _) (by rw [hz2]; omega) (by omega)
  rw [hz1] at this
  simpa [Value.cells] using this
theorem make_rows (n : Nat) (hn : n ≤ 300) : ∃ Z : Array Value, (∀ k, k < n → Z[k]? = some (.slice none 0 0)) ∧ ∀ w : World, (Instr.makeSlice 36 (.int .i64 (n : Int)) (.int .i64 (n : Int))).run Try.prog w = .ok (.slice (some ⟨w.heap.size, 0, none⟩) n n) (w.alloc (.cells Z 37)) := by
  obtain ⟨i0, hi, hz0, hz1, hz2⟩ := info_parts Try.infoBools
  refine ⟨madeCells #[Value.slice none 0 0] n, madeB_get _ n, fun w => ?_⟩
  have := run_make (P := Try.prog) w 36 37 i0 (.slice none 0 0) Try.underlying36 hi hz0 .i64 .i64 (n : Int) (n : Int) (by omega) (Int.le_refl _) (by rw [hz2]; omega) (by omega)
  rw [hz1] at this
  simpa [Value.cells] using this
/-- The table, made up to a row. -/
structure HP (hb n i : Nat) (gs : Nat → Nat) (w : World) : Prop where
  row : ∀ j, j < i → w.cell? ⟨hb, j, none⟩ = some (.slice (some ⟨gs j, 0, none⟩) n n)
  rest : ∀ j, i ≤ j → j < n → w.cell? ⟨hb, j, none⟩ = some (.slice none 0 0)
  at' : ∀ j k, j < i → k < n → w.cell? ⟨gs j, k, none⟩ = some (.bool false)
  thaw : ∀ j k, j < i → w.frozen? ⟨gs j, k, none⟩ = false
  thb : ∀ k, w.frozen? ⟨hb, k, none⟩ = false
  inj : ∀ j k, j < i → k < i → gs j = gs k → j = k
  ne : ∀ j, j < i → gs j ≠ hb ∧ gs j < w.heap.size
  hlt : hb < w.heap.size
theorem HP.zero (w : World) (Z : Array Value) (n : Nat) (gs : Nat → Nat) (hZ : ∀ k, k < n → Z[k]? = some (.slice none 0 0)) : HP w.heap.size n 0 gs (w.alloc (.cells Z 37)) :=
  ⟨fun j hj => absurd hj (Nat.not_lt_zero _), fun j _ hj => by have := hZ j hj; simp [go_sem, this], fun j _ hj => absurd hj (Nat.not_lt_zero _), fun j _ hj => absurd hj (Nat.not_lt_zero _), fun k => by simp [go_sem], fun j _ hj => absurd hj (Nat.not_lt_zero _), fun j hj => absurd hj (Nat.not_lt_zero _), by simp⟩
theorem HP.next {hb n i : Nat} {gs : Nat → Nat} {w : World} (h : HP hb n i gs w) (hi : i < n) (Z : Array Value) (hZ : ∀ k, k < n → Z[k]? = some (.bool false)) :
    HP hb n (i + 1) (fun j => if j = i then w.heap.size else gs j) ((w.alloc (.cells Z 4)).setCell ⟨hb, i, none⟩ (.slice (some ⟨w.heap.size, 0, none⟩) n n)) := by
  have ka : Below w.heap.size w (w.alloc (.cells Z 4)) := (Below.refl _ _).alloc (Nat.le_refl _) _
  have hlt := h.hlt
  have hot : ∀ (b k : Nat) (u : Value), b ≠ hb ∨ k ≠ i → (w.alloc (.cells Z 4)).cell? ⟨b, k, none⟩ = some u → ((w.alloc (.cells Z 4)).setCell ⟨hb, i, none⟩ (.slice (some ⟨w.heap.size, 0, none⟩) n n)).cell? ⟨b, k, none⟩ = some u := fun b k u hn hu => by
    rw [World.cell?_setCell_other _ _ _ _ (fun e => by injection e with e1 e2; rcases hn with hn | hn <;> omega)]
    exact hu
  refine ⟨fun j hj => ?_, fun j hj hjn => hot _ _ _ (.inr (by omega)) (bsome ka (h.rest j (by omega) hjn)), fun j k hj hk => ?_, fun j k hj => ?_, fun k => ?_, fun j k hj hk e => ?_, fun j hj => ?_, by simp [World.setCell]; omega⟩
  · by_cases hji : j = i
    · subst hji
      simp only [if_true]
      exact World.cell?_setCell_same _ _ _ (bsome ka (h.rest j (Nat.le_refl _) hi))
    · simp only [if_neg hji]
      exact hot _ _ _ (.inr hji) (bsome ka (h.row j (by omega)))
  · by_cases hji : j = i
    · subst hji
      simp only [if_true]
      exact hot _ _ _ (.inl (by omega)) (by have := hZ k hk; simp [go_sem, this])
    · simp only [if_neg hji]
      exact hot _ _ _ (.inl (h.ne j (by omega)).1) (bsome ka (h.at' j k (by omega) hk))
  · by_cases hji : j = i
    · subst hji
      simp only [if_true]
      simp [go_sem]
    · simp only [if_neg hji]
      have h1 := (ka.frozen (p := ⟨gs j, k, none⟩) (h.ne j (by omega)).2).trans (h.thaw j k (by omega))
      simp [go_sem, h1]
  · have h1 := (ka.frozen (p := ⟨hb, k, none⟩) hlt).trans (h.thb k)
    simp [go_sem, h1]
  · by_cases h1 : j = i
    · by_cases h2 : k = i
      · omega
      · have e : (if j = i then w.heap.size else gs j) = (if k = i then w.heap.size else gs k) := e
        rw [if_pos h1, if_neg h2] at e
        have := (h.ne k (by omega)).2
        omega
    · by_cases h2 : k = i
      · have e : (if j = i then w.heap.size else gs j) = (if k = i then w.heap.size else gs k) := e
        rw [if_neg h1, if_pos h2] at e
        have := (h.ne j (by omega)).2
        omega
      · have e : (if j = i then w.heap.size else gs j) = (if k = i then w.heap.size else gs k) := e
        rw [if_neg h1, if_neg h2] at e
        exact h.inj j k (by omega) (by omega) e
  · by_cases hji : j = i
    · simp only [if_pos hji]
      exact ⟨by omega, by simp [World.setCell]⟩
    · simp only [if_neg hji]
      have := h.ne j (by omega)
      exact ⟨this.1, by simp [World.setCell]; omega⟩
theorem HP.done {hb n : Nat} {gs : Nat → Nat} {w : World} (h : HP hb n n gs w) : HM hb n gs w (fun _ _ => false) :=
  ⟨h.row, h.at', h.thaw, h.inj, h.ne⟩
theorem HM.same {hb n : Nat} {gs : Nat → Nat} {w : World} {M M' : Nat → Nat → Bool} (h : HM hb n gs w M) (he : ∀ i j, M i j = M' i j) : HM hb n gs w M' :=
  ⟨h.row, fun i j hi hj => by rw [← he i j]; exact h.at' i j hi hj, h.thaw, h.inj, h.ne⟩
/-- Is there such an edge? -/
def hasE (E : Rk.Eg) (i j : Nat) : Bool := decide ((i, j) ∈ E)
theorem hasE_next {E : Rk.Eg} {t : Nat} {e : Nat × Nat} (he : E[t]? = some e) (i j : Nat) : (hasE (E.take t) i j || (decide (i = e.1) && decide (j = e.2))) = hasE (E.take (t + 1)) i j := by
  unfold hasE
  rw [List.take_add_one, he]
  by_cases h : (i, j) ∈ E.take t
  · simp [h]
  · obtain ⟨x, y⟩ := e
    simp [h]
end Go.Proofs.Ytibhbbgpeckkfaa

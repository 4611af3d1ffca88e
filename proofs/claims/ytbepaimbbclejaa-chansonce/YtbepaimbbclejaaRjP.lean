import Derived.Test.YtbepaimbbclejaaChA
import Derived.Laws.CopyOwn
/- Rings of items: a row that goes round, plain. -/
namespace Go.Proofs.Ytbepaimbbclejaa

theorem rot_get {α : Type} (C : List α) (f k : Nat) (hf : f < C.length) (hk : k < C.length) : (C.drop f ++ C.take f)[k]? = C[(f + k) % C.length]? := by
  by_cases h : f + k < C.length
  · rw [List.getElem?_append_left (by rw [List.length_drop]; omega), List.getElem?_drop, Nat.mod_eq_of_lt h]
  · rw [List.getElem?_append_right (by rw [List.length_drop]; omega), List.length_drop, List.getElem?_take, if_pos (by omega), Nat.mod_eq_sub_mod (by omega), Nat.mod_eq_of_lt (by omega)]
    congr 1
    omega
theorem map_splice {α β : Type} (f : α → β) (L : List α) (o : Nat) (cs : List α) : (splice L o cs).map f = splice (L.map f) o (cs.map f) := by
  simp [splice]
theorem splice_nil {α : Type} (L : List α) (o : Nat) : splice L o [] = L := by simp [splice]
/-- What a new row of so many cells holds. -/
def rowOf {α : Type} (z : α) (C : List α) (f n : Nat) : List α :=
  splice (splice (List.replicate n z) 0 ((C.drop f).take n)) ((C.drop f).take n).length ((C.take f).take (n - ((C.drop f).take n).length))
theorem rowOf_eq {α : Type} (z : α) (C : List α) (f n : Nat) : ∃ R, rowOf z C f n = (C.drop f ++ C.take f).take n ++ R ∧ ((f < C.length ∨ C = []) → R.length = n - C.length) := by
  have e1 : ((C.drop f).take n).length ≤ n := by rw [List.length_take]; exact Nat.min_le_left _ _
  have e2 : ((C.take f).take (n - ((C.drop f).take n).length)).length ≤ n - ((C.drop f).take n).length := by rw [List.length_take]; exact Nat.min_le_left _ _
  refine ⟨(List.replicate n z).drop (((C.drop f).take n).length + ((C.take f).take (n - ((C.drop f).take n).length)).length), ?_, ?_⟩
  · rw [List.take_append]
    have e3 : n - ((C.drop f).take n).length = n - (C.drop f).length := by rw [List.length_take]; omega
    unfold rowOf splice
    rw [e3] at *
    simp only [List.take_zero, List.nil_append, Nat.zero_add]
    rw [List.take_left' rfl, List.drop_append, List.drop_drop]
    rw [show List.drop ((List.take n (List.drop f C)).length + (List.take (n - (List.drop f C).length) (List.take f C)).length) (List.take n (List.drop f C)) = [] from List.drop_eq_nil_of_le (by omega)]
    simp
  · intro hf
    rw [List.length_drop, List.length_replicate, List.length_take, List.length_take, List.length_take, List.length_drop]
    rcases hf with hf | rfl
    · omega
    · simp
theorem rowOf_len {α : Type} (z : α) (C : List α) (f n : Nat) (hf : f < C.length ∨ C = []) : (rowOf z C f n).length = n := by
  obtain ⟨R, h1, h2⟩ := rowOf_eq z C f n
  rw [h1, List.length_append, h2 hf, List.length_take, List.length_append, List.length_drop, List.length_take]
  rcases hf with hf | rfl
  · omega
  · simp
theorem rowOf_get {α : Type} (z : α) (C : List α) (f n k : Nat) (hf : f < C.length) (hk : k < C.length) (hn : k < n) : (rowOf z C f n)[k]? = C[(f + k) % C.length]? := by
  obtain ⟨R, h1, -⟩ := rowOf_eq z C f n
  rw [h1, List.getElem?_append_left (by rw [List.length_take, List.length_append, List.length_drop, List.length_take]; omega), List.getElem?_take, if_pos hn, rot_get C f k hf hk]
/-- What a ring holds stands in a new row from its head on. -/
theorem rowOf_held {α : Type} (z : α) (C M : List α) (f n : Nat) (hM : M.length ≤ C.length) (hn : M.length ≤ n) (hf : f < C.length ∨ C = []) (h : ∀ (k : Nat) x, M[k]? = some x → C[(f + k) % C.length]? = some x) : ∀ (k : Nat) x, M[k]? = some x → (rowOf z C f n)[k]? = some x := by
  intro k x hx
  have hk := (List.getElem?_eq_some_iff.1 hx).1
  rcases hf with hf | rfl
  · rw [rowOf_get z C f n k hf (by omega) (by omega)]
    exact h k x hx
  · have : ([] : List α).length = 0 := rfl
    omega
theorem rowOf_all {α : Type} (z : α) (C M : List α) (f : Nat) (hM : M.length ≤ C.length) (hf : f < C.length ∨ C = []) (h : ∀ (k : Nat) x, M[k]? = some x → C[(f + k) % C.length]? = some x) : rowOf z C f M.length = M := by
  apply List.ext_getElem?
  intro k
  by_cases hk : k < M.length
  · rw [List.getElem?_eq_getElem hk]
    exact rowOf_held z C M f M.length hM (Nat.le_refl _) hf h k _ (List.getElem?_eq_getElem hk)
  · rw [List.getElem?_eq_none (l := M) (by omega), List.getElem?_eq_none (by rw [rowOf_len z C f _ hf]; omega)]
/-- One more is put. -/
theorem ring_put {α : Type} {C M : List α} {f : Nat} (x : α) (hM : M.length < C.length) (h : ∀ (k : Nat) x, M[k]? = some x → C[(f + k) % C.length]? = some x) :
    ∀ (k : Nat) y, (M ++ [x])[k]? = some y → (C.set ((f + M.length) % C.length) x)[(f + k) % (C.set ((f + M.length) % C.length) x).length]? = some y := by
  intro k y hy
  have hl : (f + M.length) % C.length < C.length := Nat.mod_lt _ (by omega)
  have hk := (List.getElem?_eq_some_iff.1 hy).1
  rw [List.length_append, List.length_cons, List.length_nil] at hk
  rw [List.length_set]
  by_cases e : k = M.length
  · subst e
    rw [List.getElem?_set_self hl]
    simpa using hy
  · rw [List.getElem?_append_left (by omega)] at hy
    rw [List.getElem?_set_ne]
    · exact h k y hy
    · intro e2
      have hn : 0 < C.length := by omega
      have a1 := Nat.div_add_mod (f + M.length) C.length
      have a2 := Nat.div_add_mod (f + k) C.length
      rw [e2] at a1
      have a3 : C.length * ((f + M.length) / C.length) - C.length * ((f + k) / C.length) = M.length - k := by omega
      rw [← Nat.mul_sub] at a3
      rcases Nat.eq_zero_or_pos ((f + M.length) / C.length - (f + k) / C.length) with z | z
      · rw [z, Nat.mul_zero] at a3; omega
      · have := Nat.le_mul_of_pos_right C.length z
        omega
/-- The first one is taken. -/
theorem ring_take {α : Type} {C M : List α} {f : Nat} {x : α} (z : α) (hf : f < C.length) (hM : M.length + 1 ≤ C.length) (h : ∀ (k : Nat) y, (x :: M)[k]? = some y → C[(f + k) % C.length]? = some y) :
    ∀ (k : Nat) y, M[k]? = some y → (C.set f z)[((f + 1) % C.length + k) % (C.set f z).length]? = some y := by
  intro k y hy
  have hk := (List.getElem?_eq_some_iff.1 hy).1
  have hc := h (k + 1) y (by simpa using hy)
  rw [List.length_set, Nat.mod_add_mod, show f + 1 + k = f + (k + 1) by omega]
  rw [List.getElem?_set_ne]
  · exact hc
  · intro e
    by_cases e2 : f + (k + 1) < C.length
    · rw [Nat.mod_eq_of_lt e2] at e; omega
    · rw [Nat.mod_eq_sub_mod (by omega), Nat.mod_eq_of_lt (by omega)] at e; omega
end Go.Proofs.Ytbepaimbbclejaa

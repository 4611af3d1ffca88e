import Derived.Test.YtibhbbgpeckkfaaRnkI
/- What RanksOrder leans on (plain), and a table of truths in memory. -/
namespace Go.Proofs.Ytibhbbgpeckkfaa
open Go.RowKit

namespace Rk
/-- A rank above 0 is one above some other's. -/
theorem Rks.prev {n : Nat} {E : Eg} {r : Nat → Nat} (h : Rks n E r) {b : Nat} (hb : b < n) : r b = 0 ∨ ∃ a, (a, b) ∈ E ∧ r b = r a + 1 := by
  obtain ⟨l, h1, h2⟩ := h.way b hb
  rcases List.eq_nil_or_concat l with rfl | ⟨l', a, rfl⟩
  · exact .inl h2.symm
  · right
    simp only [List.concat_eq_append, List.append_assoc, List.cons_append, List.nil_append, List.length_append, List.length_cons, List.length_nil] at h1 h2
    have h3 : Ch E ((l' ++ [a]) ++ [b]) := by simpa using h1
    have h4 : (a, b) ∈ E := (h1.right : Ch E [a, b]).1
    have h5 := h.most (h3.left : Ch E (l' ++ [a]))
    have h6 := h.up _ h4
    simp only at h6
    exact ⟨a, h4, by omega⟩
theorem ch_at {E : Eg} : ∀ {l : List Nat} {i x y : Nat}, Ch E l → l[i]? = some x → l[i + 1]? = some y → (x, y) ∈ E
  | [], i, x, y, _, h, _ => by simp at h
  | [a], i, x, y, _, _, h => by simp at h
  | a :: b :: r, 0, x, y, hc, h1, h2 => by
    obtain rfl : a = x := by simpa using h1
    obtain rfl : b = y := by simpa using h2
    exact hc.1
  | a :: b :: r, i + 1, x, y, hc, h1, h2 => ch_at hc.2 (by simpa using h1) (by simpa using h2)
/-- A round goes by edges. -/
theorem Cl.edge {E : Eg} {o : List Nat} (h : Cl E o) {i x y : Nat} (hx : o[i]? = some x) (hy : o[i + 1]? = some y) : (x, y) ∈ E := by
  cases o with
  | nil => exact h.elim
  | cons a m =>
    have h1 : Ch E ((a :: m) ++ [a]) := h
    exact ch_at h1.left hx hy
theorem Cl.last {E : Eg} {o : List Nat} (h : Cl E o) {i x y : Nat} (hx : o[i]? = some x) (hi : i + 1 = o.length) (hy : o[0]? = some y) : (x, y) ∈ E := by
  cases o with
  | nil => exact h.elim
  | cons a m =>
    obtain rfl : a = y := by simpa using hy
    have h1 : Ch E ((a :: m) ++ [a]) := h
    refine ch_at (i := i) h1 ?_ ?_
    · rw [List.getElem?_append_left (by omega)]; exact hx
    · rw [List.getElem?_append_right (by omega), show i + 1 - (a :: m).length = 0 by omega]; rfl
/-- A round is seen from its least node on. -/
theorem Rnd.first {E : Eg} {o : List Nat} (h : Rnd E o) {i x y : Nat} (hi : 0 < i) (hx : o[i]? = some x) (hy : o[0]? = some y) : y < x := by
  rcases h with ⟨rfl, -⟩ | ⟨h1, h2⟩
  · simp at hx
  · cases o with
    | nil => simp at hx
    | cons a m =>
      obtain rfl : a = y := by simpa using hy
      obtain ⟨j, rfl⟩ : ∃ j, i = j + 1 := ⟨i - 1, by omega⟩
      have hx' : m[j]? = some x := by simpa using hx
      have hj := (List.getElem?_eq_some_iff.1 hx').1
      have hm : m = m.take j ++ x :: m.drop (j + 1) := by
        have := (List.getElem?_eq_some_iff.1 hx').2
        rw [← this, ← List.drop_eq_getElem_cons hj, List.take_append_drop]
      have hr := h1
      rw [hm] at hr
      have hrot := Cl.rot hr
      have hlen : (x :: (m.drop (j + 1) ++ a :: m.take j)).length = (a :: m).length := by simp; omega
      have hl := (h2 _ hrot).2 hlen.symm
      have hle : a ≤ x := by rcases hl with h | ⟨h, -⟩ <;> omega
      rcases Nat.lt_or_ge a x with h | h
      · exact h
      · exfalso
        have e : x = a := by omega
        subst e
        have h3 : Ch E ((x :: (m.take j ++ [x])) ++ (m.drop (j + 1) ++ [x])) := by
          have : Ch E (x :: ((m.take j ++ x :: m.drop (j + 1)) ++ [x])) := hr
          simpa using this
        have h4 : Cl E (x :: m.take j) := h3.left
        have := (h2 _ h4).1
        simp at this
        omega
/-- Where a walk comes again to a node, it has gone a closed one. -/
theorem Rnd.walk {E : Eg} {o wk : List Nat} (h : Rnd E o) {j k a : Nat} (hc : Ch E wk) (hj : wk[j]? = some k) (hl : wk[wk.length - 1]? = some a) (he : (a, k) ∈ E) : o.length ≤ wk.length - j := by
  have hlt := (List.getElem?_eq_some_iff.1 hj).1
  have hd : wk.drop j = k :: wk.drop (j + 1) := by
    rw [List.drop_eq_getElem_cons hlt, (List.getElem?_eq_some_iff.1 hj).2]
  have hw : Ch E (wk.drop j) := by
    have : Ch E (wk.take j ++ wk.drop j) := by rw [List.take_append_drop]; exact hc
    exact this.right
  have hcl : Cl E (wk.drop j) := by
    rw [hd] at hw ⊢
    obtain ⟨p, q, hpq⟩ : ∃ p q, k :: wk.drop (j + 1) = p ++ [q] := by
      rcases List.eq_nil_or_concat (k :: wk.drop (j + 1)) with h | ⟨p, q, h⟩
      · cases h
      · exact ⟨p, q, by rw [h, List.concat_eq_append]⟩
    have hq : q = a := by
      have h1 : (wk.drop j)[wk.length - 1 - j]? = some a := by rw [List.getElem?_drop, show j + (wk.length - 1 - j) = wk.length - 1 by omega]; exact hl
      have hp : p.length = wk.length - 1 - j := by
        have := congrArg List.length hpq
        rw [← hd] at this
        simp at this
        omega
      rw [hd, hpq, ← hp, List.getElem?_append_right (Nat.le_refl _), Nat.sub_self] at h1
      simpa using h1
    show Ch E ((k :: wk.drop (j + 1)) ++ [k])
    rw [hpq] at hw ⊢
    have := Ch.snoc hw (b := k) (hq ▸ he)
    simpa using this
  rcases h with ⟨rfl, -⟩ | ⟨-, h⟩
  · exact Nat.zero_le _
  · have := (h _ hcl).1
    simpa using this
end Rk
/-- A table of truths: rows in blocks of their own. -/
structure HM (hb n : Nat) (gs : Nat → Nat) (w : World) (M : Nat → Nat → Bool) : Prop where
  row : ∀ i, i < n → w.cell? ⟨hb, i, none⟩ = some (.slice (some ⟨gs i, 0, none⟩) n n)
  at' : ∀ i j, i < n → j < n → w.cell? ⟨gs i, j, none⟩ = some (.bool (M i j))
  thaw : ∀ i j, i < n → w.frozen? ⟨gs i, j, none⟩ = false
  inj : ∀ i j, i < n → j < n → gs i = gs j → i = j
  ne : ∀ i, i < n → gs i ≠ hb ∧ gs i < w.heap.size
theorem HM.keep {hb n : Nat} {gs : Nat → Nat} {w w' : World} {M : Nat → Nat → Bool} (h : HM hb n gs w M) (hk : Below w.heap.size w w') : HM hb n gs w' M :=
  ⟨fun i hi => bsome hk (h.row i hi), fun i j hi hj => bsome hk (h.at' i j hi hj), fun i j hi => (hk.frozen (p := ⟨gs i, j, none⟩) (h.ne i hi).2).trans (h.thaw i j hi), h.inj, fun i hi => ⟨(h.ne i hi).1, Nat.lt_of_lt_of_le (h.ne i hi).2 hk.size⟩⟩
theorem HM.set {hb n : Nat} {gs : Nat → Nat} {w : World} {M : Nat → Nat → Bool} (h : HM hb n gs w M) {a b : Nat} (ha : a < n) (hb' : b < n) : HM hb n gs (w.setCell ⟨gs a, b, none⟩ (.bool true)) (fun i j => M i j || (decide (i = a) && decide (j = b))) := by
  refine ⟨fun i hi => ?_, fun i j hi hj => ?_, fun i j hi => ?_, h.inj, fun i hi => ⟨(h.ne i hi).1, by simpa [World.setCell] using (h.ne i hi).2⟩⟩
  · rw [World.cell?_setCell_other _ _ _ _ (fun e => by injection e with e; exact (h.ne a ha).1 e)]
    exact h.row i hi
  · by_cases hij : i = a ∧ j = b
    · obtain ⟨rfl, rfl⟩ := hij
      rw [World.cell?_setCell_same _ _ _ (h.at' i j hi hj)]
      simp
    · rw [World.cell?_setCell_other _ _ _ _ (fun e => by
        injection e with e1 e2
        exact hij ⟨(h.inj a i ha hi e1).symm, e2.symm⟩)]
      rw [h.at' i j hi hj]
      have : (decide (i = a) && decide (j = b)) = false := by simpa using hij
      rw [this, Bool.or_false]
  · have := h.thaw i j hi
    simp [go_sem, this]
end Go.Proofs.Ytibhbbgpeckkfaa

/- Plain mathematics of faults put in order: a fault is a pair (code, place); by place, of one place by code, each once, none of code 0. -/
namespace Go.Proofs.YtmenmlkclggjjaaDoor
namespace Pl

/-- A fault stands ahead of another. -/
def flt (x y : Int × Int) : Bool := decide (x.2 < y.2) || (decide (x.2 = y.2) && decide (x.1 < y.1))

theorem flt_iff (x y : Int × Int) : flt x y = true ↔ x.2 < y.2 ∨ (x.2 = y.2 ∧ x.1 < y.1) := by simp [flt]
theorem flt_no (x y : Int × Int) : flt x y = false ↔ ¬ (x.2 < y.2 ∨ (x.2 = y.2 ∧ x.1 < y.1)) := by
  rw [← flt_iff]; simp
theorem flt_trans {x y z : Int × Int} (h1 : flt x y = true) (h2 : flt y z = true) : flt x z = true := by
  rw [flt_iff] at *; omega
theorem flt_irrefl (x : Int × Int) : flt x x = false := by rw [flt_no]; omega
theorem flt_eq {x y : Int × Int} (h1 : flt x y = false) (h2 : flt y x = false) : x = y := by
  rw [flt_no] at *
  obtain ⟨a, b⟩ := x
  obtain ⟨c, d⟩ := y
  simp at h1 h2 ⊢
  omega

/-- Rising. -/
def Up (l : List (Int × Int)) : Prop := l.Pairwise fun x y => flt x y = true

/-- Put one in, where it belongs. -/
def ins (x : Int × Int) : List (Int × Int) → List (Int × Int)
  | [] => [x]
  | y :: r => if flt y x then y :: ins x r else if y = x then y :: r else x :: y :: r

theorem mem_ins (x z : Int × Int) (l : List (Int × Int)) : z ∈ ins x l ↔ z = x ∨ z ∈ l := by
  induction l with
  | nil => simp [ins]
  | cons y r ih =>
    simp only [ins]
    by_cases h : flt y x = true
    · rw [if_pos h]
      simp only [List.mem_cons, ih]
      constructor
      · rintro (h | h | h)
        · exact .inr (.inl h)
        · exact .inl h
        · exact .inr (.inr h)
      · rintro (h | h | h)
        · exact .inr (.inl h)
        · exact .inl h
        · exact .inr (.inr h)
    · rw [if_neg h]
      by_cases e : y = x
      · rw [if_pos e]
        simp only [List.mem_cons]
        constructor
        · rintro (h | h)
          · exact .inr (.inl h)
          · exact .inr (.inr h)
        · rintro (h | h | h)
          · exact .inl (h.trans e.symm)
          · exact .inl h
          · exact .inr h
      · rw [if_neg e]
        simp

theorem ins_up (x : Int × Int) (l : List (Int × Int)) (h : Up l) : Up (ins x l) := by
  induction l with
  | nil => simp [ins, Up]
  | cons y r ih =>
    have hr : Up r := (List.pairwise_cons.1 h).2
    have hy := (List.pairwise_cons.1 h).1
    simp only [ins]
    by_cases c : flt y x = true
    · rw [if_pos c]
      refine List.pairwise_cons.2 ⟨?_, ih hr⟩
      intro z hz
      rcases (mem_ins x z r).1 hz with rfl | hz
      · exact c
      · exact hy z hz
    · rw [if_neg c]
      by_cases e : y = x
      · rw [if_pos e]; exact h
      · rw [if_neg e]
        have hxy : flt x y = true := by
          cases hc : flt x y with
          | true => rfl
          | false => exact absurd (flt_eq (by simpa using c) hc) e
        refine List.pairwise_cons.2 ⟨?_, h⟩
        intro z hz
        rcases List.mem_cons.1 hz with rfl | hz
        · exact hxy
        · exact flt_trans hxy (hy z hz)

/-- Put in order: the document's own way, one after another. -/
def ordTo (l : List (Int × Int)) : Nat → List (Int × Int)
  | 0 => []
  | k + 1 => if (l[k]?.getD (0, 0)).1 = 0 then ordTo l k else ins (l[k]?.getD (0, 0)) (ordTo l k)
def ord (l : List (Int × Int)) : List (Int × Int) := ordTo l l.length

theorem ordTo_up (l : List (Int × Int)) (k : Nat) : Up (ordTo l k) := by
  induction k with
  | zero => simp [ordTo, Up]
  | succ k ih =>
    simp only [ordTo]
    by_cases h : (l[k]?.getD (0, 0)).1 = 0
    · rw [if_pos h]; exact ih
    · rw [if_neg h]; exact ins_up _ _ ih

theorem mem_ordTo (l : List (Int × Int)) (k : Nat) (hk : k ≤ l.length) (z : Int × Int) : z ∈ ordTo l k ↔ z ∈ l.take k ∧ z.1 ≠ 0 := by
  induction k with
  | zero => simp [ordTo]
  | succ k ih =>
    have hk' : k < l.length := by omega
    have e : l.take (k + 1) = l.take k ++ [l[k]?.getD (0, 0)] := by
      rw [List.take_add_one, List.getElem?_eq_getElem hk']; rfl
    rw [e]
    simp only [ordTo, List.mem_append, List.mem_singleton]
    by_cases h : (l[k]?.getD (0, 0)).1 = 0
    · rw [if_pos h, ih (by omega)]
      constructor
      · rintro ⟨h1, h2⟩; exact ⟨.inl h1, h2⟩
      · rintro ⟨h1 | h1, h2⟩
        · exact ⟨h1, h2⟩
        · rw [h1] at h2; exact absurd h h2
    · rw [if_neg h, mem_ins, ih (by omega)]
      constructor
      · rintro (rfl | ⟨h1, h2⟩)
        · exact ⟨.inr rfl, h⟩
        · exact ⟨.inl h1, h2⟩
      · rintro ⟨h1 | h1, h2⟩
        · exact .inr ⟨h1, h2⟩
        · exact .inl h1

theorem ord_up (l : List (Int × Int)) : Up (ord l) := ordTo_up l _
theorem mem_ord (l : List (Int × Int)) (z : Int × Int) : z ∈ ord l ↔ z ∈ l ∧ z.1 ≠ 0 := by
  rw [ord, mem_ordTo l l.length (Nat.le_refl _) z, List.take_length]

theorem ordTo_len (l : List (Int × Int)) (k : Nat) : (ordTo l k).length ≤ k := by
  induction k with
  | zero => simp [ordTo]
  | succ k ih =>
    simp only [ordTo]
    have hi : ∀ (x : Int × Int) (r : List (Int × Int)), (ins x r).length ≤ r.length + 1 := by
      intro x r
      induction r with
      | nil => simp [ins]
      | cons y r ih =>
        simp only [ins]
        split
        · simp; omega
        · split <;> simp
    by_cases h : (l[k]?.getD (0, 0)).1 = 0
    · rw [if_pos h]; omega
    · rw [if_neg h]
      have := hi (l[k]?.getD (0, 0)) (ordTo l k)
      omega

/-- Two rising lists of the same things are one. -/
theorem up_unique : ∀ (a b : List (Int × Int)), Up a → Up b → (∀ z, z ∈ a ↔ z ∈ b) → a = b
  | [], [], _, _, _ => rfl
  | [], y :: _, _, _, h => by have := (h y).2 (by simp); simp at this
  | x :: _, [], _, _, h => by have := (h x).1 (by simp); simp at this
  | x :: a, y :: b, ha, hb, h => by
    have ha1 := (List.pairwise_cons.1 ha).1
    have hb1 := (List.pairwise_cons.1 hb).1
    have hxy : x = y := by
      have h1 := (h x).1 (by simp)
      have h2 := (h y).2 (by simp)
      rcases List.mem_cons.1 h1 with e | h1
      · exact e
      · rcases List.mem_cons.1 h2 with e | h2
        · exact e.symm
        · have c := flt_trans (ha1 y h2) (hb1 x h1)
          rw [flt_irrefl] at c
          cases c
    subst hxy
    have hrest : a = b := by
      refine up_unique a b (List.pairwise_cons.1 ha).2 (List.pairwise_cons.1 hb).2 fun z => ?_
      constructor
      · intro hz
        rcases List.mem_cons.1 ((h z).1 (List.mem_cons_of_mem _ hz)) with e | hz'
        · subst e
          have c := ha1 z hz
          rw [flt_irrefl] at c
          cases c
        · exact hz'
      · intro hz
        rcases List.mem_cons.1 ((h z).2 (List.mem_cons_of_mem _ hz)) with e | hz'
        · subst e
          have c := hb1 z hz
          rw [flt_irrefl] at c
          cases c
        · exact hz'
    rw [hrest]

/-- Put in order again it stays. -/
theorem ord_ord (l : List (Int × Int)) : ord (ord l) = ord l := by
  refine up_unique _ _ (ord_up _) (ord_up _) fun z => ?_
  rw [mem_ord, mem_ord]
  constructor
  · exact fun h => h.1
  · exact fun h => ⟨h, h.2⟩
end Pl
end Go.Proofs.YtmenmlkclggjjaaDoor

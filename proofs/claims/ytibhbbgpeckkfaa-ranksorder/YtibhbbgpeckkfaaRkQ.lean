import Derived.Test.YtibhbbgpeckkfaaRkP
import Derived.Test.YtibhbbgpeckkfaaPthP
/- Graphs as rows: nodes settled one by one, and the search for a round (plain). -/
namespace Go.Proofs.Ytibhbbgpeckkfaa.Rk

def row (A : List (List Nat)) (i : Nat) : List Nat := A.getD i []
/-- The rows of a graph: of each node those that its edges lead to, rising. -/
structure Adj (n : Nat) (E : Eg) (A : List (List Nat)) : Prop where
  len : A.length = n
  up : ∀ i, (row A i).Pairwise (· < ·)
  mem : ∀ i j, j ∈ row A i ↔ (i, j) ∈ E
  inn : In n E
theorem Adj.lt {n : Nat} {E : Eg} {A : List (List Nat)} (h : Adj n E A) {i j : Nat} (hj : j ∈ row A i) : i < n ∧ j < n := h.inn _ ((h.mem i j).1 hj)
theorem Adj.nd {n : Nat} {E : Eg} {A : List (List Nat)} (h : Adj n E A) (i : Nat) : (row A i).Nodup := (h.up i).imp (fun h => Nat.ne_of_lt h)
theorem Adj.few {n : Nat} {E : Eg} {A : List (List Nat)} (h : Adj n E A) (i : Nat) : (row A i).length ≤ n := nodup_le n _ (h.nd i) (fun _ hx => (h.lt hx).2)
theorem row_get {A : List (List Nat)} {i : Nat} (hi : i < A.length) : A[i]? = some (row A i) := by
  unfold row
  rw [List.getD_eq_getElem?_getD, List.getElem?_eq_getElem hi]
  rfl

/-! Counting. -/
def cnt (p : Nat → Bool) : Nat → Nat
  | 0 => 0
  | n + 1 => cnt p n + (if p n then 1 else 0)
theorem cnt_congr {p q : Nat → Bool} : ∀ {n : Nat}, (∀ y, y < n → p y = q y) → cnt p n = cnt q n
  | 0, _ => rfl
  | n + 1, h => by
    simp only [cnt]
    rw [cnt_congr (fun y hy => h y (Nat.lt_succ_of_lt hy)), h n (Nat.lt_succ_self n)]
theorem cnt_le (p : Nat → Bool) : ∀ n, cnt p n ≤ n
  | 0 => Nat.le_refl _
  | n + 1 => by
    have := cnt_le p n
    simp only [cnt]
    split <;> omega
theorem cnt_zero {p : Nat → Bool} : ∀ {n : Nat}, cnt p n = 0 ↔ ∀ y, y < n → p y = false
  | 0 => ⟨fun _ y hy => absurd hy (Nat.not_lt_zero y), fun _ => rfl⟩
  | n + 1 => by
    simp only [cnt]
    constructor
    · intro h y hy
      have h1 : cnt p n = 0 := by omega
      by_cases e : y = n
      · subst e
        cases hp : p y with
        | false => rfl
        | true => rw [hp] at h; simp at h
      · exact cnt_zero.1 h1 y (by omega)
    · intro h
      rw [cnt_zero.2 (fun y hy => h y (by omega)), h n (Nat.lt_succ_self n)]
      rfl
theorem cnt_off {p q : Nat → Bool} {x : Nat} (hp : p x = true) (hq : q x = false) (h : ∀ y, y ≠ x → q y = p y) : ∀ {n : Nat}, x < n → cnt p n = cnt q n + 1
  | 0, hx => absurd hx (Nat.not_lt_zero x)
  | n + 1, hx => by
    simp only [cnt]
    by_cases e : x = n
    · subst e
      rw [hp, hq, cnt_congr (p := p) (q := q) (n := x) (fun y hy => (h y (by omega)).symm)]
      rfl
    · rw [cnt_off hp hq h (n := n) (by omega), h n (fun e' => e e'.symm)]
      omega

/-! Edges that come to each node. -/
structure CM (n : Nat) (D : Nat → Nat → Bool) (c : List Nat) : Prop where
  len : c.length = n
  cnt : ∀ v, v < n → g c v = cnt (fun a => D a v) n
theorem CM.step {n : Nat} {D D' : Nat → Nat → Bool} {c : List Nat} (h : CM n D c) {a t : Nat} (ha : a < n) (ht : t < n) (hd : D a t = false) (hD : ∀ x y, D' x y = (D x y || (x == a && y == t))) : CM n D' (c.set t (g c t + 1)) := by
  refine ⟨by simpa using h.len, fun v hv => ?_⟩
  rw [g_set _ _ _ _ (by rw [h.len]; exact ht)]
  by_cases e : t = v
  · subst e
    rw [if_pos rfl, h.cnt t ht]
    refine (cnt_off (x := a) (by simp [hD]) (by simpa using hd) (fun y hy => ?_) ha).symm
    simp [hD, hy]
  · rw [if_neg e, h.cnt v hv]
    refine cnt_congr (fun y _ => ?_)
    have : (v == t) = false := by simp; omega
    simp [hD, this]
theorem CM.zero (n : Nat) {D : Nat → Nat → Bool} (hD : ∀ x y, D x y = false) : CM n D (List.replicate n 0) := by
  refine ⟨List.length_replicate, fun v hv => ?_⟩
  rw [cnt_zero.2 (fun y _ => hD y v)]
  simp [g, List.getD_eq_getElem?_getD, hv]
theorem CM.cong {n : Nat} {D D' : Nat → Nat → Bool} {c : List Nat} (h : CM n D c) (hD : ∀ x y, x < n → D x y = D' x y) : CM n D' c :=
  ⟨h.len, fun v hv => by rw [h.cnt v hv]; exact cnt_congr (fun y hy => hD y v hy)⟩
/-- Edges looked at row by row. -/
def pr (A : List (List Nat)) (i j a t : Nat) : Bool := (decide (a < i) && decide (t ∈ row A a)) || (decide (a = i) && decide (t ∈ (row A a).take j))
theorem take_step {r : List Nat} {j t : Nat} (h : r[j]? = some t) : r.take (j + 1) = r.take j ++ [t] := by rw [List.take_add_one, h]; rfl
theorem pr_step {A : List (List Nat)} {i j t : Nat} (h : (row A i)[j]? = some t) (x y : Nat) : pr A i (j + 1) x y = (pr A i j x y || (x == i && y == t)) := by
  unfold pr
  by_cases e : x = i
  · subst e
    rw [take_step h]
    simp only [List.mem_append, List.mem_singleton, decide_true, Bool.true_and, beq_self_eq_true]
    rw [Bool.or_assoc]
    congr 1
    by_cases h1 : y ∈ (row A x).take j <;> by_cases h2 : y = t <;> simp [h1, h2]
  · have : (x == i) = false := by simpa using e
    simp [e, this]
theorem nodup_at {r : List Nat} (h : r.Nodup) {j t : Nat} (ht : r[j]? = some t) : t ∉ r.take j := by
  intro hm
  obtain ⟨i, hi, e⟩ := List.getElem_of_mem hm
  rw [List.length_take] at hi
  rw [List.getElem_take] at e
  have h1 : r[i]? = some t := by rw [List.getElem?_eq_getElem (by omega), e]
  have := (List.getElem?_inj (by omega) h).1 (h1.trans ht.symm)
  omega
theorem pr_new {n : Nat} {E : Eg} {A : List (List Nat)} (hA : Adj n E A) {i j t : Nat} (h : (row A i)[j]? = some t) : pr A i j i t = false := by
  have := nodup_at (hA.nd i) h
  simp [pr, this]
theorem pr_next {A : List (List Nat)} (i : Nat) (x y : Nat) : pr A (i + 1) 0 x y = pr A i (row A i).length x y := by
  unfold pr
  by_cases e : x = i
  · subst e
    simp
  · by_cases h : x < i
    · have : x < i + 1 := by omega
      simp [h, this, e]
    · have : ¬ x < i + 1 := by omega
      simp [h, this, e]
theorem pr_all {A : List (List Nat)} (n x y : Nat) (hx : x < n) : pr A n 0 x y = decide (y ∈ row A x) := by simp [pr, hx]

/-! Nodes settled one by one. -/
structure KI (n : Nat) (E : Eg) (A : List (List Nat)) (D : Nat → Nat → Bool) (o r S : List Nat) : Prop where
  ol : o.length = n
  rl : r.length = n
  sub : ∀ a t, D a t = true → a ∈ S
  nd : S.Nodup
  lt : ∀ x ∈ S, x < n
  cnt : ∀ v, v < n → g o v = cnt (fun a => decide (v ∈ row A a) && !D a v) n
  zero : ∀ v, v < n → (v ∈ S ↔ g o v = 0)
  way : ∀ v, v < n → ∃ l, Ch E (l ++ [v]) ∧ l.length = g r v
  up : ∀ a t, D a t = true → g r a < g r t
theorem KI.few {n : Nat} {E : Eg} {A : List (List Nat)} {D : Nat → Nat → Bool} {o r S : List Nat} (h : KI n E A D o r S) : S.length ≤ n := nodup_le n S h.nd h.lt
theorem KI.pos {n : Nat} {E : Eg} {A : List (List Nat)} {D : Nat → Nat → Bool} {o r S : List Nat} (h : KI n E A D o r S) (hA : Adj n E A) {a t : Nat} (ht : t ∈ row A a) (hd : D a t = false) : 0 < g o t ∧ t ∉ S := by
  have hl := hA.lt ht
  have h0 : g o t ≠ 0 := fun e => by
    rw [h.cnt t hl.2] at e
    have := cnt_zero.1 e a hl.1
    simp [ht, hd] at this
  exact ⟨by omega, fun hm => h0 ((h.zero t hl.2).1 hm)⟩
theorem KI.step {n : Nat} {E : Eg} {A : List (List Nat)} {D D' : Nat → Nat → Bool} {o r S : List Nat} (h : KI n E A D o r S) (hA : Adj n E A) {a t : Nat} (ha : a ∈ S) (ht : t ∈ row A a) (hd : D a t = false)
    (hD : ∀ x y, D' x y = (D x y || (x == a && y == t))) : KI n E A D' (o.set t (g o t - 1)) (r.set t (max (g r t) (g r a + 1))) (if g o t - 1 = 0 then S ++ [t] else S) := by
  obtain ⟨h0, hts⟩ := h.pos hA ht hd
  have hl := hA.lt ht
  have hat : a ≠ t := fun e => hts (e ▸ ha)
  have gr : ∀ x, g (r.set t (max (g r t) (g r a + 1))) x = if t = x then max (g r t) (g r a + 1) else g r x := fun x => g_set _ _ _ _ (by rw [h.rl]; exact hl.2)
  have go : ∀ x, g (o.set t (g o t - 1)) x = if t = x then g o t - 1 else g o x := fun x => g_set _ _ _ _ (by rw [h.ol]; exact hl.2)
  have hsub : ∀ x ∈ S, x ∈ (if g o t - 1 = 0 then S ++ [t] else S) := fun x hx => by
    split
    · exact List.mem_append_left _ hx
    · exact hx
  refine ⟨by simpa using h.ol, by simpa using h.rl, fun x y hxy => ?_, ?_, fun x hx => ?_, fun v hv => ?_, fun v hv => ?_, fun v hv => ?_, fun x y hxy => ?_⟩
  · rw [hD] at hxy
    simp only [Bool.or_eq_true, Bool.and_eq_true, beq_iff_eq] at hxy
    rcases hxy with hxy | ⟨rfl, -⟩
    · exact hsub _ (h.sub x y hxy)
    · exact hsub _ ha
  · split
    · rw [List.nodup_append]
      refine ⟨h.nd, by simp, fun x hx y hy => ?_⟩
      rw [List.mem_singleton.1 hy]
      exact fun e => hts (e ▸ hx)
    · exact h.nd
  · split at hx
    · rcases List.mem_append.1 hx with hx | hx
      · exact h.lt x hx
      · rw [List.mem_singleton.1 hx]; exact hl.2
    · exact h.lt x hx
  · rw [go]
    by_cases e : t = v
    · subst e
      rw [if_pos rfl]
      have := h.cnt t hv
      have h2 := cnt_off (p := fun x => decide (t ∈ row A x) && !D x t) (q := fun x => decide (t ∈ row A x) && !D' x t) (x := a) (by simp [ht, hd]) (by simp [hD]) (fun y hy => (by have hya : (y == a) = false := (by simpa using hy); simp [hD, hya])) hl.1
      omega
    · rw [if_neg e, h.cnt v hv]
      refine cnt_congr (fun y _ => ?_)
      have : (v == t) = false := by simp; omega
      simp [hD, this]
  · rw [go]
    by_cases e : t = v
    · subst e
      rw [if_pos rfl]
      split
      · rename_i h1
        exact ⟨fun _ => h1, fun _ => by simp⟩
      · rename_i h1
        exact ⟨fun hm => absurd hm hts, fun h2 => absurd h2 h1⟩
    · rw [if_neg e, ← h.zero v hv]
      split
      · simp only [List.mem_append, List.mem_singleton]
        exact ⟨fun hx => hx.resolve_right (fun e' => e e'.symm), .inl⟩
      · exact Iff.rfl
  · rw [gr]
    by_cases e : t = v
    · subst e
      rw [if_pos rfl]
      rcases Nat.le_total (g r t) (g r a + 1) with h1 | h1
      · rw [Nat.max_eq_right h1]
        obtain ⟨l, h2, h3⟩ := h.way a hl.1
        refine ⟨l ++ [a], ?_, by simp [h3]⟩
        simpa using Ch.snoc h2 (b := t) ((hA.mem a t).1 ht)
      · rw [Nat.max_eq_left h1]
        exact h.way t hv
    · rw [if_neg e]
      exact h.way v hv
  · rw [hD] at hxy
    simp only [Bool.or_eq_true, Bool.and_eq_true, beq_iff_eq] at hxy
    rw [gr, gr]
    rcases hxy with hxy | ⟨rfl, rfl⟩
    · have h1 := h.up x y hxy
      have h2 : t ≠ x := fun e => hts (e ▸ h.sub x y hxy)
      rw [if_neg h2]
      by_cases e : t = y
      · subst e
        rw [if_pos rfl]
        have := Nat.le_max_left (g r t) (g r a + 1)
        omega
      · rw [if_neg e]
        exact h1
    · rw [if_neg (fun e => hat e.symm), if_pos rfl]
      have := Nat.le_max_right (g r y) (g r x + 1)
      omega
theorem KI.cong {n : Nat} {E : Eg} {A : List (List Nat)} {D D' : Nat → Nat → Bool} {o r S : List Nat} (h : KI n E A D o r S) (hD : ∀ x y, D x y = D' x y) : KI n E A D' o r S := by
  have : D = D' := funext fun x => funext fun y => hD x y
  exact this ▸ h
/-- Edges gone along: of those that are done, and so many of one more. -/
def dn (A : List (List Nat)) (T : List Nat) (f j a t : Nat) : Bool := (decide (a ∈ T) && decide (t ∈ row A a)) || (decide (a = f) && decide (t ∈ (row A a).take j))
theorem dn_step {A : List (List Nat)} {T : List Nat} {f j t : Nat} (h : (row A f)[j]? = some t) (x y : Nat) : dn A T f (j + 1) x y = (dn A T f j x y || (x == f && y == t)) := by
  unfold dn
  by_cases e : x = f
  · subst e
    rw [take_step h]
    simp only [List.mem_append, List.mem_singleton, decide_true, Bool.true_and, beq_self_eq_true]
    rw [Bool.or_assoc]
    congr 1
    by_cases h1 : y ∈ (row A x).take j <;> by_cases h2 : y = t <;> simp [h1, h2]
  · have : (x == f) = false := by simpa using e
    simp [e, this]
theorem dn_new {n : Nat} {E : Eg} {A : List (List Nat)} (hA : Adj n E A) {T : List Nat} {f j t : Nat} (hf : f ∉ T) (h : (row A f)[j]? = some t) : dn A T f j f t = false := by
  have := nodup_at (hA.nd f) h
  simp [dn, this, hf]
theorem dn_next {A : List (List Nat)} (T : List Nat) (f f' x y : Nat) : dn A T f (row A f).length x y = dn A (T ++ [f]) f' 0 x y := by
  unfold dn
  by_cases e : x = f
  · subst e
    simp
  · simp [e]
theorem dn_zero {A : List (List Nat)} (T : List Nat) (f f' x y : Nat) : dn A T f 0 x y = dn A T f' 0 x y := by simp [dn]
def zs (o : List Nat) (i : Nat) : List Nat := (List.range i).filter fun v => g o v == 0
theorem zs_step (o : List Nat) (i : Nat) : zs o (i + 1) = if g o i = 0 then zs o i ++ [i] else zs o i := by
  unfold zs
  rw [List.range_succ, List.filter_append]
  by_cases h : g o i = 0 <;> simp [h]
theorem zs_len (o : List Nat) (i : Nat) : (zs o i).length ≤ i := Nat.le_trans (List.length_filter_le _ _) (by simp)
theorem KI.start {n : Nat} {E : Eg} {A : List (List Nat)} {c : List Nat} (h : CM n (fun a v => decide (v ∈ row A a)) c) (f : Nat) : KI n E A (dn A [] f 0) c (List.replicate n 0) (zs c n) := by
  have hd : ∀ x y, dn A [] f 0 x y = false := fun x y => by simp [dn]
  refine ⟨h.len, List.length_replicate, fun a t ht => (by rw [hd] at ht; cases ht), (List.nodup_range).filter _, fun x hx => List.mem_range.1 (List.mem_filter.1 hx).1, fun v hv => ?_, fun v hv => ?_, fun v hv => ⟨[], trivial, ?_⟩, fun a t ht => (by rw [hd] at ht; cases ht)⟩
  · rw [h.cnt v hv]
    exact cnt_congr (fun y _ => by simp [hd])
  · unfold zs
    rw [List.mem_filter, List.mem_range]
    simp [hv]
  · simp [g, List.getD_eq_getElem?_getD, hv]
theorem miss : ∀ (n : Nat) (S : List Nat), S.length < n → ∃ v, v < n ∧ v ∉ S
  | 0, _, h => absurd h (Nat.not_lt_zero _)
  | n + 1, S, h => by
    by_cases hn : n ∈ S
    · have hl := List.length_erase_of_mem hn
      have hp : 0 < S.length := List.length_pos_of_mem hn
      obtain ⟨v, h1, h2⟩ := miss n (S.erase n) (by omega)
      exact ⟨v, by omega, fun hv => h2 ((List.mem_erase_of_ne (by omega)).2 hv)⟩
    · exact ⟨n, Nat.lt_succ_self n, hn⟩
theorem KI.done {n : Nat} {E : Eg} {A : List (List Nat)} {o r S : List Nat} {f : Nat} (h : KI n E A (dn A S f 0) o r S) (hA : Adj n E A) : (S.length = n → Rks n E (g r)) ∧ (S.length ≠ n → Cyc E) := by
  constructor
  · intro hn
    refine ⟨fun e he => ?_, h.way⟩
    have hs : e.1 ∈ S := by
      apply Classical.byContradiction
      intro hx
      have := nodup_le n (e.1 :: S) (List.nodup_cons.2 ⟨hx, h.nd⟩) (fun x hx => by
        rcases List.mem_cons.1 hx with rfl | hx
        · exact (hA.inn e he).1
        · exact h.lt x hx)
      simp at this
      omega
    refine h.up e.1 e.2 ?_
    have := (hA.mem e.1 e.2).2 he
    simp [dn, hs, this]
  · intro hn
    have hl := h.few
    obtain ⟨v, hv, hvs⟩ := miss n S (by omega)
    have hp : ∀ x, x < n → x ∉ S → ∃ a, a < n ∧ a ∉ S ∧ (a, x) ∈ E := by
      intro x hx hxs
      have h0 : g o x ≠ 0 := fun e => hxs ((h.zero x hx).2 e)
      rw [h.cnt x hx] at h0
      apply Classical.byContradiction
      intro hno
      apply h0
      rw [cnt_zero]
      intro a ha
      cases hd : (decide (x ∈ row A a) && !dn A S f 0 a x) with
      | false => rfl
      | true =>
        exfalso
        apply hno
        simp only [Bool.and_eq_true, decide_eq_true_eq, Bool.not_eq_true'] at hd
        refine ⟨a, ha, fun has => ?_, (hA.mem a x).1 hd.1⟩
        have h2 := hd.2
        simp [dn, has, hd.1] at h2
    have hw : ∀ m, ∃ x l, x < n ∧ x ∉ S ∧ Ch E (x :: l) ∧ l.length = m := by
      intro m
      induction m with
      | zero => exact ⟨v, [], hv, hvs, trivial, rfl⟩
      | succ m ih =>
        obtain ⟨x, l, h1, h2, h3, h4⟩ := ih
        obtain ⟨a, g1, g2, g3⟩ := hp x h1 h2
        exact ⟨a, x :: l, g1, g2, ⟨g3, h3⟩, by simp [h4]⟩
    obtain ⟨x, l, -, -, h3, h4⟩ := hw n
    exact cyc_long hA.inn (by omega) h3 (by simp [h4])

/-! The search for a round from its least node on. -/
def nxv (A : List (List Nat)) (v u : Nat) : List Nat := (row A u).filter fun t => decide (v < t)
theorem mem_nxv {n : Nat} {E : Eg} {A : List (List Nat)} (hA : Adj n E A) {v u t : Nat} : t ∈ nxv A v u ↔ (u, t) ∈ E ∧ v < t := by
  unfold nxv
  rw [List.mem_filter, hA.mem]
  simp
theorem Inv_upto {nx : Nat → List Nat} {n a : Nat} {ah : List Int} {ln : List Nat} {k : Nat} {d : List Nat} {g : Nat → List Nat} (h : Pa.Inv nx n a ah ln k d g) {y : Nat} (hy : ln[k]? = some y) {v : Nat} {l : List Nat} (hw : Pa.Way nx a v l) : (v ∈ ln ∧ Pa.Le (g v) l) ∨ Pa.Sl (g y) l := by
  induction hw with
  | one => exact .inl ⟨Pa.get_mem h.z, .inl h.zg⟩
  | @snoc u v l hw' hv ih =>
    have hsl : ∀ x : Nat, Pa.Sl l (l ++ [x]) := fun x => .inl (by simp)
    rcases ih with ⟨hu, hle⟩ | hs
    · obtain ⟨i', hi'⟩ := List.getElem?_of_mem hu
      by_cases hik : i' < k
      · left
        have hm := h.done i' u hik hi' v hv
        refine ⟨hm, ?_⟩
        obtain ⟨j, hj⟩ := List.getElem?_of_mem hm
        by_cases h0 : j = 0
        · subst h0
          rw [h.z] at hj
          cases hj
          rw [h.zg]
          have := hw'.pos
          exact .inr (.inl (by simp; omega))
        · obtain ⟨i, w, -, -, h3, -, -, h6, -, h8⟩ := h.par j v (by omega) hj
          rw [h6]
          refine Pa.Le_snoc (Pa.Le_trans ?_ hle) v
          have hii := h8 i' u hi' hv
          by_cases e : i = i'
          · subst e
            rw [hi'] at h3
            cases h3
            exact .inl rfl
          · exact .inr (h.ord i i' w u (by omega) h3 hi')
      · right
        have h1 : Pa.Le (g y) (g u) := by
          by_cases e : k = i'
          · subst e
            rw [hy] at hi'
            cases hi'
            exact .inl rfl
          · exact .inr (h.ord k i' y u (by omega) hy hi')
        rcases Pa.Le_trans h1 hle with e | e
        · rw [e]; exact hsl v
        · exact Pa.Sl_trans e (hsl v)
    · exact .inr (Pa.Sl_trans hs (hsl v))
theorem ch_fw {n : Nat} {E : Eg} {A : List (List Nat)} (hA : Adj n E A) {v : Nat} : ∀ (m : List Nat) (a : Nat), Ch E (a :: (m ++ [v])) → (∀ x ∈ m, v < x) → ∃ b, Pa.Fw (nxv A v) b a (a :: m) ∧ (b, v) ∈ E
  | [], a, h, _ => ⟨a, Pa.Fw.one, h.1⟩
  | x :: m, a, h, hm => by
    obtain ⟨b, h1, h2⟩ := ch_fw hA m x h.2 (fun y hy => hm y (List.mem_cons_of_mem _ hy))
    exact ⟨b, Pa.Fw.cons ((mem_nxv hA).2 ⟨h.1, hm x (List.mem_cons_self ..)⟩) h1, h2⟩
theorem way_ch {n : Nat} {E : Eg} {A : List (List Nat)} (hA : Adj n E A) {v y : Nat} {p : List Nat} (h : Pa.Way (nxv A v) v y p) : (∃ r, p = v :: r ∧ ∀ x ∈ r, v < x) ∧ Ch E p ∧ ∃ q, p = q ++ [y] := by
  induction h with
  | one => exact ⟨⟨[], rfl, by simp⟩, trivial, [], rfl⟩
  | @snoc u t l _ ht ih =>
    obtain ⟨⟨r, rfl, hr⟩, hc, q, hq⟩ := ih
    have he := (mem_nxv hA).1 ht
    refine ⟨⟨r ++ [t], rfl, fun x hx => ?_⟩, ?_, _, rfl⟩
    · rcases List.mem_append.1 hx with hx | hx
      · exact hr x hx
      · rw [List.mem_singleton.1 hx]; exact he.2
    · rw [hq] at hc ⊢
      simpa using Ch.snoc hc he.1
/-- What is found from a node on. -/
def RO (E : Eg) (v : Nat) (o : List Nat) : Prop :=
  (o = [] ∧ ∀ m, ¬ Ch (fromE E v) (v :: (m ++ [v]))) ∨ (∃ r, o = v :: r ∧ Ch (fromE E v) (v :: (r ++ [v])) ∧ ∀ m, Ch (fromE E v) (v :: (m ++ [v])) → Pa.Le o (v :: m))
/-- Closed walks that come back only at their end are enough. -/
theorem once {E : Eg} {v : Nat} : ∀ (k : Nat) (m : List Nat), m.length = k → Ch (fromE E v) (v :: (m ++ [v])) → ∃ m', Ch (fromE E v) (v :: (m' ++ [v])) ∧ (∀ x ∈ m', v < x) ∧ (m' = m ∨ m'.length < m.length) := by
  intro k
  induction k using Nat.strongRecOn with
  | _ k ih =>
    intro m hk hc
    by_cases hv : v ∈ m
    · obtain ⟨p, s, rfl⟩ := List.append_of_mem hv
      have h1 : Ch (fromE E v) ((v :: (p ++ [v])) ++ (s ++ [v])) := by simpa using hc
      obtain ⟨m', g1, g2, g3⟩ := ih p.length (by rw [← hk]; simp) p rfl h1.left
      refine ⟨m', g1, g2, .inr ?_⟩
      rcases g3 with rfl | g3
      · simp
      · simp; omega
    · refine ⟨m, hc, fun x hx => ?_, .inl rfl⟩
      have h1 := hc.ge (by simp) x (by simp [hx])
      have : x ≠ v := fun e => hv (e ▸ hx)
      omega
theorem ch_all {E : Eg} {v : Nat} {l : List Nat} (h : Ch (fromE E v) l) : Ch E l := Ch.sub (fun _ he => (mem_fromE.1 he).1) h
/-- How far the search has come. -/
structure BS (n : Nat) (A : List (List Nat)) (v : Nat) (ah : List Int) (ln : List Nat) (k : Nat) (d : List Nat) (g : Nat → List Nat) : Prop where
  inv : Pa.Inv (nxv A v) n v (ah.set v (v : Int)) ln k d g
  av : ah[v]? = some (-1)
  nb : ∀ (i : Nat) u, i < k → ln[i]? = some u → v ∉ row A u
theorem BS.back {n : Nat} {E : Eg} {A : List (List Nat)} {v : Nat} {ah : List Int} {ln : List Nat} {k : Nat} {d : List Nat} {g : Nat → List Nat} (h : BS n A v ah ln k d g) (hA : Adj n E A) {u : Nat} (hu : ln[k]? = some u) (hb : v ∈ row A u) : RO E v (g u) := by
  have hw := h.inv.way k u hu
  obtain ⟨⟨r, hr, hr2⟩, hc, q, hq⟩ := way_ch hA hw
  have he := (hA.mem u v).1 hb
  have hcl : Ch E (v :: (r ++ [v])) := by
    have h1 : Ch E (q ++ [u]) := hq ▸ hc
    have h2 : Ch E ((q ++ [u]) ++ [v]) := by simpa using Ch.snoc h1 he
    rw [← hq, hr] at h2
    simpa using h2
  have hge : ∀ x ∈ v :: (r ++ [v]), v ≤ x := fun x hx => by
    simp at hx
    rcases hx with rfl | hx | rfl
    · exact Nat.le_refl _
    · exact Nat.le_of_lt (hr2 x hx)
    · exact Nat.le_refl _
  refine .inr ⟨r, hr, Ch.up hcl hge, fun m hm => ?_⟩
  obtain ⟨m', g1, g2, g3⟩ := once m.length m rfl hm
  have hle : Pa.Le (g u) (v :: m') := by
    obtain ⟨b, f1, f2⟩ := ch_fw hA m' v (ch_all g1) g2
    rcases Inv_upto h.inv hu (Pa.fw_way f1) with ⟨hbl, hl⟩ | hs
    · obtain ⟨i, hi⟩ := List.getElem?_of_mem hbl
      by_cases hik : i < k
      · exact absurd ((hA.mem b v).2 f2) (h.nb i b hik hi)
      · refine Pa.Le_trans ?_ hl
        by_cases e : k = i
        · subst e
          rw [hu] at hi
          cases hi
          exact .inl rfl
        · exact .inr (h.inv.ord k i u b (by omega) hu hi)
    · exact .inr hs
  rcases g3 with rfl | g3
  · exact hle
  · refine Pa.Le_trans hle (.inr (.inl ?_))
    simp
    omega
theorem BS.none {n : Nat} {E : Eg} {A : List (List Nat)} {v : Nat} {ah : List Int} {ln : List Nat} {d : List Nat} {g : Nat → List Nat} (h : BS n A v ah ln ln.length d g) (hA : Adj n E A) : RO E v [] := by
  refine .inl ⟨rfl, fun m hm => ?_⟩
  obtain ⟨m', g1, g2, g3⟩ := once m.length m rfl hm
  obtain ⟨b, f1, f2⟩ := ch_fw hA m' v (ch_all g1) g2
  obtain ⟨hbl, -⟩ := h.inv.best (Pa.fw_way f1)
  obtain ⟨i, hi⟩ := List.getElem?_of_mem hbl
  exact h.nb i b (List.getElem?_eq_some_iff.1 hi).1 hi ((hA.mem b v).2 f2)
theorem BS.start {n : Nat} {A : List (List Nat)} {v : Nat} (hv : v < n) : BS n A v (List.replicate n (-1 : Int)) [v] 0 [] (fun _ => [v]) :=
  ⟨Pa.Inv.start hv, by simp [hv], fun i u hi => absurd hi (Nat.not_lt_zero _)⟩
theorem BS.next {n : Nat} {A : List (List Nat)} {v : Nat} {ah : List Int} {ln : List Nat} {k : Nat} {g : Nat → List Nat} {u : Nat} (hu : ln[k]? = some u) (h : BS n A v ah ln k (nxv A v u) g) (hb : v ∉ row A u) : BS n A v ah ln (k + 1) [] g := by
  refine ⟨Pa.Inv.next hu h.inv, h.av, fun i x hi hx => ?_⟩
  by_cases e : i = k
  · subst e
    rw [hu] at hx
    cases hx
    exact hb
  · exact h.nb i x (by omega) hx
/-- So many of a node's row were looked at. -/
def dv (A : List (List Nat)) (v u j : Nat) : List Nat := ((row A u).take j).filter fun t => decide (v < t)
theorem dv_zero (A : List (List Nat)) (v u : Nat) : dv A v u 0 = [] := rfl
theorem dv_all (A : List (List Nat)) (v u : Nat) : dv A v u (row A u).length = nxv A v u := by unfold dv nxv; rw [List.take_length]
theorem dv_step {A : List (List Nat)} {v u j t : Nat} (h : (row A u)[j]? = some t) : dv A v u (j + 1) = if v < t then dv A v u j ++ [t] else dv A v u j := by
  unfold dv
  rw [take_step h, List.filter_append]
  by_cases ht : v < t <;> simp [ht]
theorem dv_split {A : List (List Nat)} {v u j t : Nat} (h : (row A u)[j]? = some t) (ht : v < t) : ∃ rest, dv A v u j ++ t :: rest = nxv A v u := by
  refine ⟨((row A u).drop (j + 1)).filter fun t => decide (v < t), ?_⟩
  unfold dv nxv
  have hj := (List.getElem?_eq_some_iff.1 h).1
  have e : (row A u).drop j = t :: (row A u).drop (j + 1) := by rw [List.drop_eq_getElem_cons hj, (List.getElem?_eq_some_iff.1 h).2]
  conv => rhs; rw [← List.take_append_drop j (row A u), e, List.filter_append, List.filter_cons]
  simp [ht]
theorem BS.low {n : Nat} {A : List (List Nat)} {v : Nat} {ah : List Int} {ln : List Nat} {k j : Nat} {g : Nat → List Nat} {u t : Nat} (h : BS n A v ah ln k (dv A v u j) g) (ht : (row A u)[j]? = some t) (hl : ¬ v < t) : BS n A v ah ln k (dv A v u (j + 1)) g := by
  rw [dv_step ht, if_neg hl]
  exact h
theorem BS.skip {n : Nat} {A : List (List Nat)} {v : Nat} {ah : List Int} {ln : List Nat} {k j : Nat} {g : Nat → List Nat} {u t : Nat} (h : BS n A v ah ln k (dv A v u j) g) (ht : (row A u)[j]? = some t) (hl : v < t) (hn : t < n) (ha : ah[t]? ≠ some (-1)) : BS n A v ah ln k (dv A v u (j + 1)) g := by
  rw [dv_step ht, if_pos hl]
  refine ⟨h.inv.skip hn ?_, h.av, h.nb⟩
  rw [List.getElem?_set_ne (by omega)]
  exact ha
theorem BS.add {n : Nat} {E : Eg} {A : List (List Nat)} (hA : Adj n E A) {v : Nat} {ah : List Int} {ln : List Nat} {k j : Nat} {g : Nat → List Nat} {u t : Nat} (h : BS n A v ah ln k (dv A v u j) g) (hu : ln[k]? = some u) (ht : (row A u)[j]? = some t) (hl : v < t) (hn : t < n) (ha : ah[t]? = some (-1)) :
    BS n A v (ah.set t (u : Int)) (ln ++ [t]) k (dv A v u (j + 1)) (fun x => if x = t then g u ++ [t] else g x) := by
  rw [dv_step ht, if_pos hl]
  obtain ⟨rest, hrest⟩ := dv_split ht hl
  have hne : t ≠ v := by omega
  refine ⟨?_, by rw [List.getElem?_set_ne hne]; exact h.av, fun i x hi hx => ?_⟩
  · have := h.inv.add hu ((hA.up u).filter _) hrest hn (by rw [List.getElem?_set_ne (by omega)]; exact ha)
    rw [List.set_comm _ _ (Ne.symm hne)] at this
    exact this
  · have hk := (List.getElem?_eq_some_iff.1 hu).1
    rw [List.getElem?_append_left (by omega)] at hx
    exact h.nb i x hi hx
/-- The best of those that are found so far. -/
def RB (E : Eg) (n : Nat) (o : List Nat) : Prop :=
  (o = [] ∧ ∀ u m, u < n → ¬ Ch (fromE E u) (u :: (m ++ [u]))) ∨
  (∃ v r, v < n ∧ o = v :: r ∧ Ch (fromE E v) (v :: (r ++ [v])) ∧ (∀ m, Ch (fromE E v) (v :: (m ++ [v])) → Pa.Le o (v :: m)) ∧ ∀ u m, u < n → Ch (fromE E u) (u :: (m ++ [u])) → o.length ≤ m.length + 1 ∧ (o.length = m.length + 1 → v ≤ u))
theorem RB.zero (E : Eg) : RB E 0 [] := .inl ⟨rfl, fun _ _ h => absurd h (Nat.not_lt_zero _)⟩
theorem RB.next {E : Eg} {n : Nat} {o f : List Nat} (h : RB E n o) (k : RO E n f) : RB E (n + 1) (if f ≠ [] ∧ (o = [] ∨ f.length < o.length) then f else o) := by
  rcases k with ⟨rfl, k⟩ | ⟨r, rfl, k1, k2⟩
  · rw [if_neg (fun hh => hh.1 rfl)]
    rcases h with ⟨rfl, h⟩ | ⟨v, r, h1, h2, h3, h4, h5⟩
    · refine .inl ⟨rfl, fun u m hu hc => ?_⟩
      by_cases e : u = n
      · subst e; exact k m hc
      · exact h u m (by omega) hc
    · refine .inr ⟨v, r, by omega, h2, h3, h4, fun u m hu hc => ?_⟩
      by_cases e : u = n
      · subst e; exact absurd hc (k m)
      · exact h5 u m (by omega) hc
  · by_cases hb : o = [] ∨ (n :: r).length < o.length
    · rw [if_pos ⟨by simp, hb⟩]
      refine .inr ⟨n, r, Nat.lt_succ_self n, rfl, k1, k2, fun u m hu hc => ?_⟩
      by_cases e : u = n
      · subst e
        have := Pa.Le_len (k2 m hc)
        exact ⟨by simpa using this, fun _ => Nat.le_refl _⟩
      · rcases h with ⟨rfl, h⟩ | ⟨v, r', h1, h2, h3, h4, h5⟩
        · exact absurd hc (h u m (by omega))
        · have := (h5 u m (by omega) hc).1
          have hl : (n :: r).length < o.length := by
            rcases hb with hb | hb
            · rw [hb] at h2; cases h2
            · exact hb
          exact ⟨by omega, fun e => by omega⟩
    · rw [if_neg (fun hh => hb hh.2)]
      rcases h with ⟨rfl, h⟩ | ⟨v, r', h1, h2, h3, h4, h5⟩
      · exact absurd (.inl rfl) hb
      · refine .inr ⟨v, r', by omega, h2, h3, h4, fun u m hu hc => ?_⟩
        by_cases e : u = n
        · subst e
          have h6 := Pa.Le_len (k2 m hc)
          have h7 : ¬ (u :: r).length < o.length := fun hh => hb (.inr hh)
          simp only [List.length_cons] at h6 h7
          exact ⟨by omega, fun _ => by omega⟩
        · exact h5 u m (by omega) hc
theorem fl_lx : ∀ {a b : List Nat}, Pa.FL a b → Lx a b
  | [], _, h => by simp [Pa.FL] at h
  | _ :: _, [], h => by simp [Pa.FL] at h
  | x :: a, y :: b, h => by
    rcases h with h | ⟨h1, h2⟩
    · exact .inl h
    · exact .inr ⟨h1, fl_lx h2⟩
theorem le_lx {a b : List Nat} (h : Pa.Le a b) (hl : a.length = b.length) : Lx a b := by
  rcases h with rfl | h | ⟨-, h⟩
  · exact Lx.refl _
  · omega
  · exact fl_lx h
theorem RB.done {E : Eg} {n : Nat} {o : List Nat} (h : RB E n o) (hE : In n E) : Rnd E o := by
  rcases h with ⟨rfl, h⟩ | ⟨v, r, h1, rfl, h3, h4, h5⟩
  · refine .inl ⟨rfl, ?_⟩
    rintro ⟨x, m, hc⟩
    obtain ⟨u, l, g1, -, -⟩ := Cl.least (o := x :: m) hc
    exact h u l ((g1.lt (in_from hE u) (by simp)) u (by simp)) g1
  · refine .inr ⟨ch_all h3, fun o' hc => ?_⟩
    obtain ⟨u, l, g1, g2, g3⟩ := hc.least
    have hu := (g1.lt (in_from hE u) (by simp)) u (by simp)
    have h6 := h5 u l hu g1
    rw [g2] at h6
    refine ⟨h6.1, fun e => ?_⟩
    have hvu := h6.2 e
    cases o' with
    | nil => exact hc.elim
    | cons x m =>
      have hx := g3 x (by simp)
      by_cases hlt : v < x
      · exact .inl hlt
      · obtain rfl : v = x := by omega
        have hup : Ch (fromE E v) (v :: (m ++ [v])) := Ch.up hc (fun z hz => by
          simp at hz
          rcases hz with rfl | hz | rfl
          · exact Nat.le_refl _
          · exact Nat.le_trans hvu (g3 z (by simp [hz]))
          · exact Nat.le_refl _)
        exact le_lx (h4 m hup) e
/-! Rows made of edges in order. -/
def elt (e f : Nat × Nat) : Prop := e.1 < f.1 ∨ (e.1 = f.1 ∧ e.2 < f.2)
def rw' (C : Eg) (i : Nat) : List Nat := (C.filter fun e => e.1 == i).map Prod.snd
theorem rw_snoc (C : Eg) (a b i : Nat) : rw' (C ++ [(a, b)]) i = if a = i then rw' C i ++ [b] else rw' C i := by
  unfold rw'
  rw [List.filter_append, List.map_append]
  by_cases h : a = i <;> simp [h]
theorem adj_of {n : Nat} {E C : Eg} {A : List (List Nat)} (hs : C.Pairwise elt) (hm : ∀ e, e ∈ C ↔ e ∈ E) (hE : In n E) (hl : A.length = n) (hr : ∀ i, i < n → row A i = rw' C i) : Adj n E A := by
  have hro : ∀ i, n ≤ i → row A i = [] := fun i hi => by simp [row, List.getD_eq_getElem?_getD, List.getElem?_eq_none (show A.length ≤ i by omega)]
  refine ⟨hl, fun i => ?_, fun i j => ?_, hE⟩
  · by_cases hi : i < n
    · rw [hr i hi]
      unfold rw'
      rw [List.pairwise_map]
      refine List.Pairwise.imp_of_mem ?_ (hs.filter _)
      intro x y hx hy hxy
      have h1 : x.1 = i := by simpa using (List.mem_filter.1 hx).2
      have h2 : y.1 = i := by simpa using (List.mem_filter.1 hy).2
      rcases hxy with h | h
      · omega
      · exact h.2
    · rw [hro i (by omega)]
      exact List.Pairwise.nil
  · by_cases hi : i < n
    · rw [hr i hi, ← hm]
      unfold rw'
      rw [List.mem_map]
      constructor
      · rintro ⟨⟨a, b⟩, h1, rfl⟩
        obtain ⟨h2, h3⟩ := List.mem_filter.1 h1
        have : a = i := by simpa using h3
        rw [← this]
        exact h2
      · intro h
        exact ⟨(i, j), List.mem_filter.2 ⟨h, by simp⟩, rfl⟩
    · rw [hro i (by omega)]
      constructor
      · intro h; cases h
      · intro h
        have := (hE _ h).1
        simp only at this
        omega
end Go.Proofs.Ytibhbbgpeckkfaa.Rk

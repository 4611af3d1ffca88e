
/- Ways through code, plain: what comes of an instruction, ways, the shortest ones and the first of them in their numbers. -/
namespace Go.Proofs.Ytibhbbgpeckkfaa.Pa

/-- Of each instruction its Op and its To. -/
abbrev Pr := List (Int × Int)
def isI (p : Pr) (i : Int) : Bool := decide (0 ≤ i) && decide (i < (p.length : Int))
theorem isI_iff {p : Pr} {i : Int} : isI p i = true ↔ 0 ≤ i ∧ i < (p.length : Int) := by simp [isI]
theorem isI_no {p : Pr} {i : Int} : isI p i = false ↔ i < 0 ∨ (p.length : Int) ≤ i := by
  rw [Bool.eq_false_iff, ne_eq, isI_iff]; omega
/-- Whether k may come of an instruction at i. -/
def cx (x : Int × Int) (i k : Int) : Bool :=
  if x.1 = 17 then false else if x.1 = 15 then k == x.2 else if x.1 = 14 ∨ x.1 = 13 ∨ x.1 = 11 then k == i + 1 || k == x.2 else k == i + 1
def comes (p : Pr) (i k : Int) : Bool := isI p i && isI p k && cx (p[i.toNat]?.getD (17, 0)) i k
/-- The two that come of it, the lower one first. -/
def lo (x : Int × Int) (i : Int) : Int := if x.1 = 15 then x.2 else if x.1 = 14 ∨ x.1 = 13 ∨ x.1 = 11 then min (i + 1) x.2 else i + 1
def hi (x : Int × Int) (i : Int) : Int := if x.1 = 15 then x.2 else if x.1 = 14 ∨ x.1 = 13 ∨ x.1 = 11 then max (i + 1) x.2 else i + 1
def one (p : Pr) (b : Bool) (k : Int) : List Nat := if b && isI p k then [k.toNat] else []
def on (p : Pr) (i : Int) : List Nat :=
  if isI p i && (p[i.toNat]?.getD (17, 0)).1 != 17 then
    one p true (lo (p[i.toNat]?.getD (17, 0)) i) ++ one p (hi (p[i.toNat]?.getD (17, 0)) i != lo (p[i.toNat]?.getD (17, 0)) i) (hi (p[i.toNat]?.getD (17, 0)) i)
  else []
theorem lo_le (x : Int × Int) (i : Int) : lo x i ≤ hi x i := by
  unfold lo hi; split
  · exact Int.le_refl _
  · split <;> omega
theorem cx_iff (x : Int × Int) (i k : Int) : cx x i k = true ↔ x.1 ≠ 17 ∧ (k = lo x i ∨ k = hi x i) := by
  unfold cx lo hi
  by_cases h1 : x.1 = 17
  · simp [h1]
  · by_cases h2 : x.1 = 15
    · simp [h2]
    · by_cases h3 : x.1 = 14 ∨ x.1 = 13 ∨ x.1 = 11
      · rw [if_neg h1, if_neg h2, if_pos h3, if_neg h2, if_pos h3, if_neg h2, if_pos h3]
        simp only [Bool.or_eq_true, beq_iff_eq]
        omega
      · rw [if_neg h1, if_neg h2, if_neg h3, if_neg h2, if_neg h3, if_neg h2, if_neg h3]
        simp [h1]
theorem mem_one {p : Pr} {b : Bool} {k : Int} {v : Nat} : v ∈ one p b k ↔ b = true ∧ isI p k = true ∧ (v : Int) = k := by
  unfold one
  cases b with
  | false => simp
  | true =>
    cases h : isI p k with
    | false => simp
    | true =>
      have := isI_iff.1 h
      simp
      omega
theorem mem_on {p : Pr} {i : Int} {v : Nat} : v ∈ on p i ↔ comes p i v = true := by
  unfold on comes
  have hl := lo_le (p[i.toNat]?.getD (17, 0)) i
  cases hi' : isI p i with
  | false => simp
  | true =>
    have hc := cx_iff (p[i.toNat]?.getD (17, 0)) i v
    generalize p[i.toNat]?.getD (17, 0) = x at *
    by_cases hx : x.1 = 17
    · have : cx x i v = false := by simp [cx, hx]
      simp [hx, this]
    · have h17 : (x.1 != 17) = true := by simpa using hx
      simp only [h17, Bool.and_self, if_true, List.mem_append, mem_one, Bool.and_eq_true, hc, bne_iff_ne]
      constructor
      · rintro (⟨-, h1, h2⟩ | ⟨h0, h1, h2⟩)
        · exact ⟨⟨trivial, by rw [h2]; exact h1⟩, hx, .inl h2⟩
        · exact ⟨⟨trivial, by rw [h2]; exact h1⟩, hx, .inr h2⟩
      · rintro ⟨⟨-, h1⟩, -, h2 | h2⟩
        · exact .inl ⟨trivial, by rw [← h2]; exact h1, h2⟩
        · by_cases he : hi x i = lo x i
          · exact .inl ⟨trivial, by rw [← he, ← h2]; exact h1, by rw [← he]; exact h2⟩
          · exact .inr ⟨he, by rw [← h2]; exact h1, h2⟩
theorem on_lt {p : Pr} {i : Int} {v : Nat} (h : v ∈ on p i) : v < p.length := by
  have := mem_on.1 h
  unfold comes at this
  simp only [Bool.and_eq_true] at this
  have := isI_iff.1 this.1.2
  omega
theorem on_in {p : Pr} {i : Int} {v : Nat} (h : v ∈ on p i) : 0 ≤ i ∧ i < (p.length : Int) := by
  have := mem_on.1 h
  unfold comes at this
  simp only [Bool.and_eq_true] at this
  exact isI_iff.1 this.1.1
theorem on_sorted (p : Pr) (i : Int) : (on p i).Pairwise (· < ·) := by
  unfold on
  split
  · have hl := lo_le (p[i.toNat]?.getD (17, 0)) i
    generalize p[i.toNat]?.getD (17, 0) = x at *
    rw [List.pairwise_append]
    refine ⟨?_, ?_, ?_⟩
    · unfold one; split <;> simp
    · unfold one; split <;> simp
    · intro a ha b hb
      obtain ⟨-, -, h1⟩ := mem_one.1 ha
      obtain ⟨h0, -, h2⟩ := mem_one.1 hb
      simp only [bne_iff_ne] at h0
      omega
  · exact List.Pairwise.nil
theorem on_len (p : Pr) (i : Int) : (on p i).length ≤ 2 := by
  unfold on one
  split
  · rw [List.length_append]
    split <;> split <;> simp
  · simp
/-- Two rising lists of the same numbers are the same. -/
theorem sorted_ext : ∀ (a b : List Nat), a.Pairwise (· < ·) → b.Pairwise (· < ·) → (∀ v, v ∈ a ↔ v ∈ b) → a = b
  | [], [], _, _, _ => rfl
  | [], y :: b, _, _, h => absurd ((h y).2 (by simp)) (by simp)
  | x :: a, [], _, _, h => absurd ((h x).1 (by simp)) (by simp)
  | x :: a, y :: b, ha, hb, h => by
    obtain ⟨ha1, ha2⟩ := List.pairwise_cons.1 ha
    obtain ⟨hb1, hb2⟩ := List.pairwise_cons.1 hb
    have hxy : x = y := by
      rcases List.mem_cons.1 ((h x).1 (by simp)) with h1 | h1
      · exact h1
      · rcases List.mem_cons.1 ((h y).2 (by simp)) with h2 | h2
        · exact h2.symm
        · have := hb1 x h1; have := ha1 y h2; omega
    subst hxy
    rw [sorted_ext a b ha2 hb2 (fun v => ?_)]
    constructor
    · intro hv
      rcases List.mem_cons.1 ((h v).1 (by simp [hv])) with h1 | h1
      · subst h1; exact absurd (ha1 v hv) (by omega)
      · exact h1
    · intro hv
      rcases List.mem_cons.1 ((h v).2 (by simp [hv])) with h1 | h1
      · subst h1; exact absurd (hb1 v hv) (by omega)
      · exact h1
theorem range_sorted (n : Nat) : (List.range n).Pairwise (· < ·) := List.pairwise_lt_range
theorem on_filter (p : Pr) (i : Int) : (List.range p.length).filter (fun (k : Nat) => comes p i (k : Int)) = on p i := by
  refine sorted_ext _ _ ((range_sorted _).filter _) (on_sorted p i) (fun v => ?_)
  rw [List.mem_filter, mem_on, List.mem_range]
  refine ⟨fun h => h.2, fun h => ⟨on_lt (mem_on.2 h), h⟩⟩

/-- A list is ahead of another of the same length where they differ first. -/
def FL : List Nat → List Nat → Prop
  | x :: a, y :: b => x < y ∨ (x = y ∧ FL a b)
  | _, _ => False
def Sl (a b : List Nat) : Prop := a.length < b.length ∨ (a.length = b.length ∧ FL a b)
def Le (a b : List Nat) : Prop := a = b ∨ Sl a b
theorem FL_app : ∀ (a b c d : List Nat), FL a b → FL (a ++ c) (b ++ d)
  | [], _, _, _, h => by simp [FL] at h
  | _ :: _, [], _, _, h => by simp [FL] at h
  | x :: a, y :: b, c, d, h => by
    simp only [FL, List.cons_append] at h ⊢
    rcases h with h | ⟨h1, h2⟩
    · exact .inl h
    · exact .inr ⟨h1, FL_app a b c d h2⟩
theorem FL_last (a : List Nat) {x y : Nat} (h : x < y) : FL (a ++ [x]) (a ++ [y]) := by
  induction a with
  | nil => exact .inl h
  | cons z r ih => exact .inr ⟨rfl, ih⟩
theorem FL_trans : ∀ (a b c : List Nat), FL a b → FL b c → FL a c
  | [], _, _, h, _ => by simp [FL] at h
  | _ :: _, [], _, h, _ => by simp [FL] at h
  | _ :: _, _ :: _, [], _, h => by simp [FL] at h
  | x :: a, y :: b, z :: c, h, g => by
    simp only [FL] at h g ⊢
    rcases h with h | ⟨h1, h2⟩ <;> rcases g with g | ⟨g1, g2⟩
    · exact .inl (by omega)
    · exact .inl (by omega)
    · exact .inl (by omega)
    · exact .inr ⟨by omega, FL_trans a b c h2 g2⟩
theorem FL_irr : ∀ (a : List Nat), ¬ FL a a
  | [], h => h
  | x :: a, h => by
    simp only [FL] at h
    rcases h with h | ⟨-, h⟩
    · omega
    · exact FL_irr a h
theorem Sl_trans {a b c : List Nat} (h : Sl a b) (g : Sl b c) : Sl a c := by
  unfold Sl at *
  rcases h with h | ⟨h1, h2⟩ <;> rcases g with g | ⟨g1, g2⟩
  · exact .inl (by omega)
  · exact .inl (by omega)
  · exact .inl (by omega)
  · exact .inr ⟨by omega, FL_trans _ _ _ h2 g2⟩
theorem Sl_irr (a : List Nat) : ¬ Sl a a := by
  rintro (h | ⟨-, h⟩)
  · omega
  · exact FL_irr a h
theorem Le_trans {a b c : List Nat} (h : Le a b) (g : Le b c) : Le a c := by
  rcases h with rfl | h
  · exact g
  · rcases g with rfl | g
    · exact .inr h
    · exact .inr (Sl_trans h g)
theorem Le_anti {a b : List Nat} (h : Le a b) (g : Le b a) : a = b := by
  rcases h with h | h
  · exact h
  · rcases g with g | g
    · exact g.symm
    · exact absurd (Sl_trans h g) (Sl_irr a)
theorem Sl_snoc {a b : List Nat} (h : Sl a b) (x y : Nat) : Sl (a ++ [x]) (b ++ [y]) := by
  rcases h with h | ⟨h1, h2⟩
  · exact .inl (by simp; omega)
  · exact .inr ⟨by simp; omega, FL_app _ _ _ _ h2⟩
theorem Le_snoc {a b : List Nat} (h : Le a b) (x : Nat) : Le (a ++ [x]) (b ++ [x]) := by
  rcases h with rfl | h
  · exact .inl rfl
  · exact .inr (Sl_snoc h x x)
theorem Le_cons {a b : List Nat} (h : Le a b) (x : Nat) : Le (x :: a) (x :: b) := by
  rcases h with rfl | h | ⟨h1, h2⟩
  · exact .inl rfl
  · exact .inr (.inl (by simp; omega))
  · exact .inr (.inr ⟨by simp; omega, .inr ⟨rfl, h2⟩⟩)
theorem Le_len {a b : List Nat} (h : Le a b) : a.length ≤ b.length := by
  rcases h with rfl | h | ⟨h1, h2⟩ <;> omega

section
variable (nx : Nat → List Nat)
/-- A way, made longer at its end. -/
inductive Way (a : Nat) : Nat → List Nat → Prop
  | one : Way a a [a]
  | snoc {u v : Nat} {l : List Nat} : Way a u l → v ∈ nx u → Way a v (l ++ [v])
/-- A way, made longer at its beginning. -/
inductive Fw (b : Nat) : Nat → List Nat → Prop
  | one : Fw b b [b]
  | cons {a c : Nat} {l : List Nat} : c ∈ nx a → Fw b c l → Fw b a (a :: l)
end
variable {nx : Nat → List Nat}
theorem Way.cons {a c v : Nat} {l : List Nat} (hc : c ∈ nx a) (h : Way nx c v l) : Way nx a v (a :: l) := by
  induction h with
  | one => exact Way.snoc Way.one hc
  | snoc _ hv ih => exact Way.snoc ih hv
theorem Fw.snoc {a u v : Nat} {l : List Nat} (h : Fw nx u a l) (hv : v ∈ nx u) : Fw nx v a (l ++ [v]) := by
  induction h with
  | one => exact Fw.cons hv Fw.one
  | cons hc _ ih => exact Fw.cons hc ih
theorem way_fw {a v : Nat} {l : List Nat} (h : Way nx a v l) : Fw nx v a l := by
  induction h with
  | one => exact Fw.one
  | snoc _ hv ih => exact ih.snoc hv
theorem fw_way {a v : Nat} {l : List Nat} (h : Fw nx v a l) : Way nx a v l := by
  induction h with
  | one => exact Way.one
  | cons hc _ ih => exact ih.cons hc
theorem Way.pos {a v : Nat} {l : List Nat} (h : Way nx a v l) : 0 < l.length := by
  cases h <;> simp
theorem Fw.pos {a v : Nat} {l : List Nat} (h : Fw nx v a l) : 0 < l.length := by
  cases h <;> simp
theorem Fw.head {a v : Nat} {l : List Nat} (h : Fw nx v a l) : ∃ t, l = a :: t := by
  cases h
  · exact ⟨[], rfl⟩
  · exact ⟨_, rfl⟩

/-- Numbers below n, each once: no more than n. -/
theorem few : ∀ (n : Nat) (l : List Nat), l.Nodup → (∀ v ∈ l, v < n) → l.length ≤ n
  | 0, [], _, _ => Nat.le_refl _
  | 0, x :: _, _, h => absurd (h x (by simp)) (by omega)
  | n + 1, l, hd, h => by
    by_cases hn : n ∈ l
    · have h1 := few n (l.erase n) (hd.erase n) (fun v hv => by
        have h2 := (List.Nodup.mem_erase_iff hd).1 hv
        have := h v h2.2
        have := h2.1
        omega)
      rw [List.length_erase_of_mem hn] at h1
      omega
    · have := few n l hd (fun v hv => by
        have := h v hv
        have : v ≠ n := fun e => hn (e ▸ hv)
        omega)
      omega

/-- How far the search has come: ah tells the one ahead of each that was found, ln those that were found in their order, k how many of them were gone on from, d what was looked at of the next one; g is each one's way. -/
structure Inv (nx : Nat → List Nat) (n a : Nat) (ah : List Int) (ln : List Nat) (k : Nat) (d : List Nat) (g : Nat → List Nat) : Prop where
  len : ah.length = n
  lt : ∀ v ∈ ln, v < n
  mem : ∀ v, v < n → (v ∈ ln ↔ ah[v]? ≠ some (-1))
  z : ln[0]? = some a
  za : ah[a]? = some (a : Int)
  zg : g a = [a]
  nd : ln.Nodup
  par : ∀ (j : Nat) v, 0 < j → ln[j]? = some v → ∃ (i : Nat) (u : Nat), i < j ∧ i ≤ k ∧ ln[i]? = some u ∧ ah[v]? = some (u : Int) ∧ v ∈ nx u ∧ g v = g u ++ [v] ∧ (i = k → v ∈ d) ∧ ∀ (i' : Nat) u', ln[i']? = some u' → v ∈ nx u' → i ≤ i'
  ord : ∀ (j j' : Nat) v v', j < j' → ln[j]? = some v → ln[j']? = some v' → Sl (g v) (g v')
  done : ∀ (i : Nat) u, i < k → ln[i]? = some u → ∀ v ∈ nx u, v ∈ ln
  dk : ∀ v ∈ d, v ∈ ln
theorem Inv.start {n a : Nat} (ha : a < n) : Inv nx n a ((List.replicate n (-1 : Int)).set a (a : Int)) [a] 0 [] (fun _ => [a]) := by
  have hs : ((List.replicate n (-1 : Int)).set a (a : Int))[a]? = some (a : Int) := by
    rw [List.getElem?_set_self (by simpa using ha)]
  refine ⟨by simp, by simpa using ha, fun v hv => ?_, rfl, hs, rfl, by simp, fun j v hj h => ?_, fun j j' v v' hj h h' => ?_, fun i u hi => absurd hi (by omega), by simp⟩
  · rw [List.mem_singleton]
    by_cases e : v = a
    · subst e
      rw [hs]
      simp
    · rw [List.getElem?_set_ne (by omega)]
      simp [e, hv]
  · obtain ⟨j, rfl⟩ : ∃ i, j = i + 1 := ⟨j - 1, by omega⟩
    simp at h
  · obtain ⟨j', rfl⟩ : ∃ i, j' = i + 1 := ⟨j' - 1, by omega⟩
    simp at h'
theorem Inv.few {n a : Nat} {ah : List Int} {ln : List Nat} {k : Nat} {d : List Nat} {g : Nat → List Nat} (h : Inv nx n a ah ln k d g) : ln.length ≤ n := Pa.few n ln h.nd h.lt
theorem Inv.skip {n a : Nat} {ah : List Int} {ln : List Nat} {k : Nat} {d : List Nat} {g : Nat → List Nat} (h : Inv nx n a ah ln k d g) {v : Nat} (hn : v < n) (hv : ah[v]? ≠ some (-1)) : Inv nx n a ah ln k (d ++ [v]) g := by
  refine ⟨h.len, h.lt, h.mem, h.z, h.za, h.zg, h.nd, fun j x hj hx => ?_, h.ord, h.done, fun x hx => ?_⟩
  · obtain ⟨i, u, h1, h2, h3, h4, h5, h6, h7, h8⟩ := h.par j x hj hx
    exact ⟨i, u, h1, h2, h3, h4, h5, h6, fun e => by simp [h7 e], h8⟩
  · rcases List.mem_append.1 hx with hx | hx
    · exact h.dk x hx
    · rw [List.mem_singleton.1 hx]
      exact (h.mem v hn).2 hv
theorem Inv.next {n a : Nat} {ah : List Int} {ln : List Nat} {k : Nat} {g : Nat → List Nat} {u : Nat} (hu : ln[k]? = some u) (h : Inv nx n a ah ln k (nx u) g) : Inv nx n a ah ln (k + 1) [] g := by
  refine ⟨h.len, h.lt, h.mem, h.z, h.za, h.zg, h.nd, fun j x hj hx => ?_, h.ord, fun i x hi hx => ?_, by simp⟩
  · obtain ⟨i, u, h1, h2, h3, h4, h5, h6, h7, h8⟩ := h.par j x hj hx
    exact ⟨i, u, h1, by omega, h3, h4, h5, h6, fun e => by omega, h8⟩
  · by_cases e : i = k
    · subst e
      rw [hu] at hx
      cases hx
      exact h.dk
    · exact h.done i x (by omega) hx
theorem get_app {α : Type} {l : List α} {x y : α} {j : Nat} (h : (l ++ [x])[j]? = some y) : (j < l.length ∧ l[j]? = some y) ∨ (j = l.length ∧ y = x) := by
  by_cases hj : j < l.length
  · rw [List.getElem?_append_left hj] at h
    exact .inl ⟨hj, h⟩
  · rw [List.getElem?_append_right (by omega)] at h
    cases hk : j - l.length with
    | zero => rw [hk] at h; simp at h; exact .inr ⟨by omega, h.symm⟩
    | succ k => rw [hk] at h; simp at h
theorem get_mem {α : Type} {l : List α} {x : α} {j : Nat} (h : l[j]? = some x) : x ∈ l := List.mem_of_getElem? h
theorem Inv.gpos {n a : Nat} {ah : List Int} {ln : List Nat} {k : Nat} {d : List Nat} {g : Nat → List Nat} (h : Inv nx n a ah ln k d g) {j v : Nat} (hv : ln[j]? = some v) : 0 < (g v).length := by
  by_cases hj : j = 0
  · subst hj
    rw [h.z] at hv
    cases hv
    rw [h.zg]
    simp
  · obtain ⟨i, u, -, -, -, -, -, h6, -⟩ := h.par j v (by omega) hv
    rw [h6]
    simp
theorem Inv.add {n a : Nat} {ah : List Int} {ln : List Nat} {k : Nat} {d rest : List Nat} {g : Nat → List Nat} {u v : Nat} (h : Inv nx n a ah ln k d g) (hu : ln[k]? = some u) (hs : (nx u).Pairwise (· < ·)) (he : d ++ v :: rest = nx u) (hn : v < n) (hv : ah[v]? = some (-1)) :
    Inv nx n a (ah.set v (u : Int)) (ln ++ [v]) k (d ++ [v]) (fun x => if x = v then g u ++ [v] else g x) := by
  have hnot : v ∉ ln := fun hm => (h.mem v hn).1 hm hv
  have hne : ∀ x ∈ ln, x ≠ v := fun x hx e => hnot (e ▸ hx)
  have hva : a ≠ v := hne a (get_mem h.z)
  have hvx : v ∈ nx u := by rw [← he]; simp
  have hk : k < ln.length := (List.getElem?_eq_some_iff.1 hu).1
  have hset : ∀ x, x ≠ v → (ah.set v (u : Int))[x]? = ah[x]? := fun x hx => List.getElem?_set_ne (by omega)
  have hself : (ah.set v (u : Int))[v]? = some (u : Int) := List.getElem?_set_self (by rw [h.len]; exact hn)
  have hold : ∀ (j : Nat) x, ln[j]? = some x → (ln ++ [v])[j]? = some x := fun j x hx => by
    rw [List.getElem?_append_left (List.getElem?_eq_some_iff.1 hx).1]; exact hx
  have hg : ∀ x ∈ ln, (if x = v then g u ++ [v] else g x) = g x := fun x hx => if_neg (hne x hx)
  refine ⟨by rw [List.length_set]; exact h.len, fun x hx => ?_, fun x hx => ?_, hold 0 a h.z, by rw [hset a hva]; exact h.za, by rw [hg a (get_mem h.z)]; exact h.zg, ?_, fun j x hj hx => ?_, fun j j' x x' hj hx hx' => ?_, fun i x hi hx y hy => ?_, fun x hx => ?_⟩
  · rcases List.mem_append.1 hx with hx | hx
    · exact h.lt x hx
    · rw [List.mem_singleton.1 hx]; exact hn
  · by_cases e : x = v
    · subst e
      rw [hself]
      simp
    · rw [hset x e, ← h.mem x hx]
      simp [e]
  · rw [List.nodup_append]
    refine ⟨h.nd, by simp, fun x hx y hy => ?_⟩
    rw [List.mem_singleton.1 hy]
    exact hne x hx
  · rcases get_app hx with ⟨hj', hx'⟩ | ⟨hj', rfl⟩
    · obtain ⟨i, w, h1, h2, h3, h4, h5, h6, h7, h8⟩ := h.par j x hj hx'
      refine ⟨i, w, h1, h2, hold i w h3, by rw [hset x (hne x (get_mem hx'))]; exact h4, h5, ?_, fun e => by simp [h7 e], fun i' u' hi' hxu => ?_⟩
      · rw [hg x (get_mem hx'), hg w (get_mem h3)]; exact h6
      · rcases get_app hi' with ⟨-, g1⟩ | ⟨g1, -⟩
        · exact h8 i' u' g1 hxu
        · omega
    · refine ⟨k, u, by omega, Nat.le_refl _, hold k u hu, hself, hvx, ?_, fun _ => by simp, fun i' u' hi' hxu => ?_⟩
      · rw [if_pos rfl, hg u (get_mem hu)]
      · rcases get_app hi' with ⟨-, g1⟩ | ⟨g1, -⟩
        · apply Nat.le_of_not_lt
          intro hlt
          exact hnot (h.done i' u' hlt g1 x hxu)
        · omega
  · rcases get_app hx' with ⟨hj', gx'⟩ | ⟨hj', rfl⟩
    · have gx : ln[j]? = some x := by rw [List.getElem?_append_left (by omega)] at hx; exact hx
      rw [hg x (get_mem gx), hg x' (get_mem gx')]
      exact h.ord j j' x x' hj gx gx'
    · have gx : ln[j]? = some x := by rw [List.getElem?_append_left (by omega)] at hx; exact hx
      rw [hg x (get_mem gx), if_pos rfl]
      by_cases h0 : j = 0
      · subst h0
        rw [h.z] at gx
        cases gx
        have := h.gpos hu
        rw [h.zg]
        exact .inl (by simp; omega)
      · obtain ⟨i, w, h1, h2, h3, h4, h5, h6, h7, h8⟩ := h.par j x (by omega) gx
        rw [h6]
        by_cases hik : i = k
        · subst hik
          rw [hu] at h3
          cases h3
          have hd := h7 rfl
          have hlt : x < x' := by
            rw [← he] at hs
            exact (List.pairwise_append.1 hs).2.2 x hd x' (by simp)
          exact .inr ⟨by simp, FL_last _ hlt⟩
        · exact Sl_snoc (h.ord i k w u (by omega) h3 hu) x x'
  · rcases get_app hx with ⟨-, gx⟩ | ⟨g1, -⟩
    · exact List.mem_append_left _ (h.done i x hi gx y hy)
    · omega
  · rcases List.mem_append.1 hx with hx | hx
    · exact List.mem_append_left _ (h.dk x hx)
    · exact List.mem_append_right _ hx
/-- All that was found has its way, and no way is ahead of it. -/
theorem Inv.way {n a : Nat} {ah : List Int} {ln : List Nat} {k : Nat} {d : List Nat} {g : Nat → List Nat} (h : Inv nx n a ah ln k d g) : ∀ (j : Nat) v, ln[j]? = some v → Way nx a v (g v) := by
  intro j
  induction j using Nat.strongRecOn with
  | ind j ih =>
    intro v hv
    by_cases h0 : j = 0
    · subst h0
      rw [h.z] at hv
      cases hv
      rw [h.zg]
      exact Way.one
    · obtain ⟨i, u, h1, -, h3, -, h5, h6, -⟩ := h.par j v (by omega) hv
      rw [h6]
      exact Way.snoc (ih i h1 u h3) h5
theorem Inv.best {n a : Nat} {ah : List Int} {ln : List Nat} {d : List Nat} {g : Nat → List Nat} (h : Inv nx n a ah ln ln.length d g) {v : Nat} {l : List Nat} (hw : Way nx a v l) : v ∈ ln ∧ Le (g v) l := by
  induction hw with
  | one => exact ⟨get_mem h.z, .inl h.zg⟩
  | @snoc u v l hw' hv ih =>
    obtain ⟨hu, hle⟩ := ih
    obtain ⟨i', hi'⟩ := List.getElem?_of_mem hu
    have hm := h.done i' u (List.getElem?_eq_some_iff.1 hi').1 hi' v hv
    refine ⟨hm, ?_⟩
    obtain ⟨j, hj⟩ := List.getElem?_of_mem hm
    by_cases h0 : j = 0
    · subst h0
      rw [h.z] at hj
      cases hj
      rw [h.zg]
      have := hw'.pos
      exact .inr (.inl (by simp; omega))
    · obtain ⟨i, w, -, -, h3, -, -, h6, -, h8⟩ := h.par j v (by omega) hj
      rw [h6]
      refine Le_snoc (Le_trans ?_ hle) v
      have hii := h8 i' u hi' hv
      by_cases e : i = i'
      · subst e
        rw [hi'] at h3
        cases h3
        exact .inl rfl
      · exact .inr (h.ord i i' w u (by omega) h3 hi')
end Go.Proofs.Ytibhbbgpeckkfaa.Pa

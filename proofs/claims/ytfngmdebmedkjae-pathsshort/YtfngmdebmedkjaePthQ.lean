import Derived.Test.YtfngmdebmedkjaePthP
/- Ways, plain, second part: how far it is to one, by going over all again and again; what is reached so. -/
namespace Go.Proofs.Ytfngmdebmedkjae.Pa

def far : Int := 1073741824
/-- Each number is that of some way, or far off. -/
structure Aw (nx : Nat → List Nat) (n : Nat) (to : Int) (D : List Int) : Prop where
  len : D.length = n
  z : ∀ t : Nat, to = (t : Int) → t < n → D[t]? = some 0
  pos : ∀ (i : Nat) x, D[i]? = some x → 0 ≤ x ∧ x ≤ far
  sound : ∀ (i : Nat) x, D[i]? = some x → x < far → ∃ (t : Nat) (l : List Nat), to = (t : Int) ∧ Fw nx t i l ∧ (l.length : Int) = x + 1
/-- Nothing gets nearer any more. -/
def Shut (nx : Nat → List Nat) (D : List Int) : Prop := ∀ (i k : Nat) x y, D[i]? = some x → k ∈ nx i → D[k]? = some y → x ≤ y + 1
theorem Aw.start {nx : Nat → List Nat} {n : Nat} {to : Int} : Aw nx n to (if 0 ≤ to ∧ to < (n : Int) then (List.replicate n far).set to.toNat 0 else List.replicate n far) := by
  have hget : ∀ (i : Nat) x, (List.replicate n far)[i]? = some x → x = far := fun i x h => by
    rw [List.getElem?_replicate] at h
    split at h
    · exact (Option.some.inj h).symm
    · cases h
  split
  · rename_i hc
    obtain ⟨t, rfl⟩ : ∃ t : Nat, to = (t : Int) := ⟨to.toNat, by omega⟩
    have ht : t < n := by omega
    rw [Int.toNat_natCast]
    have hs : ((List.replicate n far).set t 0)[t]? = some 0 := List.getElem?_set_self (by simpa using ht)
    refine ⟨by simp, fun t' e _ => ?_, fun i x hx => ?_, fun i x hx hlt => ?_⟩
    · obtain rfl : t = t' := by omega
      exact hs
    · by_cases e : i = t
      · subst e
        rw [hs] at hx
        cases hx
        exact ⟨Int.le_refl _, by decide⟩
      · rw [List.getElem?_set_ne (by omega)] at hx
        rw [hget i x hx]
        exact ⟨by decide, Int.le_refl _⟩
    · by_cases e : i = t
      · subst e
        rw [hs] at hx
        cases hx
        exact ⟨i, [i], rfl, Fw.one, by simp⟩
      · rw [List.getElem?_set_ne (by omega)] at hx
        have := hget i x hx
        omega
  · rename_i hc
    refine ⟨by simp, fun t e ht => ?_, fun i x hx => ?_, fun i x hx hlt => ?_⟩
    · omega
    · rw [hget i x hx]
      exact ⟨by decide, Int.le_refl _⟩
    · have := hget i x hx
      omega
theorem Aw.lower {nx : Nat → List Nat} {n : Nat} {to : Int} {D : List Int} (h : Aw nx n to D) {i k : Nat} {x y : Int} (hx : D[i]? = some x) (hk : k ∈ nx i) (hy : D[k]? = some y) (hlt : y + 1 < x) : Aw nx n to (D.set i (y + 1)) := by
  have hi : i < D.length := (List.getElem?_eq_some_iff.1 hx).1
  have hs : (D.set i (y + 1))[i]? = some (y + 1) := List.getElem?_set_self hi
  have hp := h.pos i x hx
  have hq := h.pos k y hy
  refine ⟨by simpa using h.len, fun t e ht => ?_, fun i' x' hx' => ?_, fun i' x' hx' hlt' => ?_⟩
  · by_cases e' : t = i
    · subst e'
      have := h.z t e ht
      rw [hx] at this
      cases this
      omega
    · rw [List.getElem?_set_ne (by omega)]
      exact h.z t e ht
  · by_cases e : i' = i
    · subst e
      rw [hs] at hx'
      cases hx'
      omega
    · rw [List.getElem?_set_ne (by omega)] at hx'
      exact h.pos i' x' hx'
  · by_cases e : i' = i
    · subst e
      rw [hs] at hx'
      cases hx'
      obtain ⟨t, l, h1, h2, h3⟩ := h.sound k y hy (by omega)
      exact ⟨t, i' :: l, h1, Fw.cons hk h2, by simp; omega⟩
    · rw [List.getElem?_set_ne (by omega)] at hx'
      exact h.sound i' x' hx' hlt'
/-- The numbers together. -/
def tot : List Int → Nat
  | [] => 0
  | x :: r => x.toNat + tot r
theorem tot_set : ∀ (D : List Int) (i : Nat) (x z : Int), D[i]? = some x → 0 ≤ z → z < x → tot (D.set i z) < tot D
  | [], _, _, _, h, _, _ => by simp at h
  | a :: r, 0, x, z, h, h1, h2 => by
    simp at h
    subst h
    simp only [List.set_cons_zero, tot]
    omega
  | a :: r, i + 1, x, z, h, h1, h2 => by
    simp at h
    have := tot_set r i x z (by simpa using h) h1 h2
    simp only [List.set_cons_succ, tot]
    omega
theorem Aw.far_le {nx : Nat → List Nat} {n : Nat} {to : Int} {D : List Int} (h : Aw nx n to D) (hlt : ∀ i v, v ∈ nx i → v < n ∧ i < n) (hs : Shut nx D) {t i : Nat} {l : List Nat} (hto : to = (t : Int)) (hf : Fw nx t i l) : ∀ x, D[i]? = some x → x + 1 ≤ (l.length : Int) := by
  induction hf with
  | one =>
    intro x hx
    have hi : t < n := by rw [← h.len]; exact (List.getElem?_eq_some_iff.1 hx).1
    have := h.z t hto hi
    rw [hx] at this
    cases this
    simp
  | @cons a c l hc hf ih =>
    intro x hx
    obtain ⟨y, hy⟩ : ∃ y, D[c]? = some y := ⟨_, List.getElem?_eq_getElem (by rw [h.len]; exact (hlt a c hc).1)⟩
    have h1 := ih y hy
    have h2 := hs a c x y hx hc hy
    simp
    omega
/-- A way that no other is shorter than, nor ahead of. -/
def Best (nx : Nat → List Nat) (t a : Nat) (L : List Nat) : Prop := Fw nx t a L ∧ ∀ l, Fw nx t a l → Le L l
theorem Best.one {nx : Nat → List Nat} {t : Nat} : Best nx t t [t] := by
  refine ⟨Fw.one, fun l hl => ?_⟩
  have := hl.pos
  obtain ⟨r, rfl⟩ := hl.head
  cases r with
  | nil => exact .inl rfl
  | cons y r => exact .inr (.inl (by simp))
theorem Best.eq {nx : Nat → List Nat} {t a : Nat} {L M : List Nat} (h : Best nx t a L) (g : Best nx t a M) : L = M := Le_anti (h.2 M g.1) (g.2 L h.1)
theorem Best.step {nx : Nat → List Nat} {n t : Nat} {D : List Int} (h : Aw nx n t D) (hlt : ∀ i v, v ∈ nx i → v < n ∧ i < n) (hs : Shut nx D) {a x : Nat} {d : Int} {L : List Nat} (ha : D[a]? = some d) (hd : d < far) (hx : x ∈ nx a) (hdx : D[x]? = some (d - 1))
    (hmin : ∀ y ∈ nx a, D[y]? = some (d - 1) → x ≤ y) (hb : Best nx t x L) : Best nx t a (a :: L) := by
  have hp := h.pos x _ hdx
  have hL : (L.length : Int) = d := by
    obtain ⟨t', l, e, h1, h2⟩ := h.sound x _ hdx (by omega)
    obtain rfl : t = t' := by omega
    have h3 := Le_len (hb.2 l h1)
    have h4 := h.far_le hlt hs rfl hb.1 _ hdx
    omega
  refine ⟨Fw.cons hx hb.1, fun l hl => ?_⟩
  cases hl with
  | one =>
    have hn : t < n := by rw [← h.len]; exact (List.getElem?_eq_some_iff.1 ha).1
    have := h.z t rfl hn
    rw [ha] at this
    cases this
    omega
  | @cons _ y l0 hy hl0 =>
    have hyn := (hlt a y hy).1
    obtain ⟨z, hz⟩ : ∃ z, D[y]? = some z := ⟨_, List.getElem?_eq_getElem (by rw [h.len]; exact hyn)⟩
    have h1 := h.far_le hlt hs rfl hl0 z hz
    have h2 := hs a y d z ha hy hz
    by_cases hlen : L.length < l0.length
    · exact .inr (.inl (by simp; omega))
    · obtain rfl : z = d - 1 := by omega
      have hxy := hmin y hy hz
      by_cases e : x = y
      · subst e
        exact Le_cons (hb.2 l0 hl0) a
      · obtain ⟨r, rfl⟩ := hb.1.head
        obtain ⟨r', rfl⟩ := hl0.head
        refine .inr (.inr ⟨?_, .inr ⟨rfl, .inl (by omega)⟩⟩)
        simp at hlen h1 hL ⊢
        omega
theorem Aw.find {nx : Nat → List Nat} {n : Nat} {to : Int} {D : List Int} (h : Aw nx n to D) (hlt : ∀ i v, v ∈ nx i → v < n ∧ i < n) (hs : Shut nx D) {a : Nat} {d : Int} (ha : D[a]? = some d) (hd : d < far) (h0 : 0 < d) : ∃ x ∈ nx a, D[x]? = some (d - 1) := by
  obtain ⟨t, l, e, h1, h2⟩ := h.sound a d ha hd
  cases h1 with
  | one => simp at h2; omega
  | @cons _ y l0 hy hl0 =>
    have hyn := (hlt a y hy).1
    obtain ⟨z, hz⟩ : ∃ z, D[y]? = some z := ⟨_, List.getElem?_eq_getElem (by rw [h.len]; exact hyn)⟩
    have h3 := h.far_le hlt hs e hl0 z hz
    have h4 := hs a y d z ha hy hz
    simp at h2
    obtain rfl : z = d - 1 := by omega
    exact ⟨y, hy, hz⟩
theorem Aw.end {nx : Nat → List Nat} {n : Nat} {to : Int} {D : List Int} (h : Aw nx n to D) {a : Nat} (ha : D[a]? = some 0) : to = (a : Int) := by
  obtain ⟨t, l, e, h1, h2⟩ := h.sound a 0 ha (by decide)
  cases h1 with
  | one => exact e
  | cons _ hl => have := hl.pos; simp at h2; omega
theorem Aw.none {nx : Nat → List Nat} {n : Nat} {to : Int} {D : List Int} (h : Aw nx n to D) (hlt : ∀ i v, v ∈ nx i → v < n ∧ i < n) (hs : Shut nx D) {a : Nat} (ha : D[a]? = some far) (hn : (n : Int) < far) {t : Nat} (hto : to = (t : Int)) (l : List Nat) (hl : Best nx t a l) (hlen : l.length ≤ n) : False := by
  have := h.far_le hlt hs hto hl.1 far ha
  omega

/-- What is known to be come to. -/
structure Rc (nx : Nat → List Nat) (n : Nat) (B : List Bool) : Prop where
  len : B.length = n
  z : 0 < n → B[0]? = some true
  sound : ∀ i : Nat, B[i]? = some true → ∃ l, Way nx 0 i l
def ShutB (nx : Nat → List Nat) (B : List Bool) : Prop := ∀ i k : Nat, B[i]? = some true → k ∈ nx i → B[k]? = some true
theorem Rc.start {nx : Nat → List Nat} {n : Nat} : Rc nx n ((List.replicate n false).set 0 true) := by
  refine ⟨by simp, fun hn => List.getElem?_set_self (by simpa using hn), fun i hi => ?_⟩
  by_cases e : i = 0
  · subst e
    exact ⟨[0], Way.one⟩
  · rw [List.getElem?_set_ne (by omega), List.getElem?_replicate] at hi
    split at hi <;> simp at hi
theorem Rc.more {nx : Nat → List Nat} {n : Nat} {B : List Bool} (h : Rc nx n B) {i k : Nat} (hi : B[i]? = some true) (hk : k ∈ nx i) : Rc nx n (B.set k true) := by
  refine ⟨by simpa using h.len, fun hn => ?_, fun j hj => ?_⟩
  · by_cases e : k = 0
    · subst e
      exact List.getElem?_set_self (by rw [h.len]; exact hn)
    · rw [List.getElem?_set_ne (by omega)]
      exact h.z hn
  · by_cases e : j = k
    · subst e
      obtain ⟨l, hl⟩ := h.sound i hi
      exact ⟨_, Way.snoc hl hk⟩
    · rw [List.getElem?_set_ne (by omega)] at hj
      exact h.sound j hj
theorem Rc.all {nx : Nat → List Nat} {n : Nat} {B : List Bool} (h : Rc nx n B) (hs : ShutB nx B) (hn : 0 < n) {v : Nat} {l : List Nat} (hw : Way nx 0 v l) : B[v]? = some true := by
  induction hw with
  | one => exact h.z hn
  | snoc _ hv ih => exact hs _ _ ih hv
/-- How many are not. -/
def nots : List Bool → Nat
  | [] => 0
  | b :: r => (if b then 0 else 1) + nots r
theorem nots_set : ∀ (B : List Bool) (k : Nat), B[k]? = some false → nots (B.set k true) < nots B
  | [], _, h => by simp at h
  | a :: r, 0, h => by
    simp at h
    subst h
    simp [nots]
  | a :: r, k + 1, h => by
    have := nots_set r k (by simpa using h)
    simp only [List.set_cons_succ, nots]
    omega
/-- What is reached, rising. -/
def reached (p : Pr) (B : List Bool) : List Nat := (List.range p.length).filter fun (k : Nat) => B[k]? == some true
end Go.Proofs.Ytfngmdebmedkjae.Pa

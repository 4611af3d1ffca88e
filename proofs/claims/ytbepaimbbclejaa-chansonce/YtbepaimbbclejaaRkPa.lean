import Derived.Test.YtbepaimbbclejaaProg
import Derived.WalkKit
import Derived.WalkSpells
import Derived.WalkLawsBesides
import Derived.Deep.QuietTactic
import Derived.BigQuiet
import Derived.Deep.AppendLies
/- Graphs as lists of edges: walks, ranks, rounds (plain). -/
namespace Go.Proofs.Ytbepaimbbclejaa.Rk

abbrev Eg := List (Nat × Nat)
/-- Each goes by an edge to the next one. -/
def Ch (E : Eg) : List Nat → Prop
  | a :: b :: r => (a, b) ∈ E ∧ Ch E (b :: r)
  | _ => True
theorem Ch.tail {E : Eg} {a : Nat} {r : List Nat} (h : Ch E (a :: r)) : Ch E r := by
  cases r with
  | nil => trivial
  | cons b r => exact h.2
theorem Ch.right {E : Eg} : ∀ {p q : List Nat}, Ch E (p ++ q) → Ch E q
  | [], _, h => h
  | _ :: p, _, h => Ch.right (p := p) h.tail
theorem Ch.left {E : Eg} : ∀ {p q : List Nat}, Ch E (p ++ q) → Ch E p
  | [], _, _ => trivial
  | [_], _, _ => trivial
  | _ :: b :: p, _, h => ⟨h.1, Ch.left (p := b :: p) h.2⟩
theorem Ch.snoc {E : Eg} : ∀ {p : List Nat} {a b : Nat}, Ch E (p ++ [a]) → (a, b) ∈ E → Ch E (p ++ [a, b])
  | [], _, _, _, h => ⟨h, trivial⟩
  | [_], _, _, h, k => ⟨h.1, k, trivial⟩
  | _ :: y :: p, _, _, h, k => ⟨h.1, Ch.snoc (p := y :: p) h.2 k⟩
theorem Ch.join {E : Eg} : ∀ {p q : List Nat} {a : Nat}, Ch E (p ++ [a]) → Ch E (a :: q) → Ch E (p ++ a :: q)
  | [], _, _, _, h => h
  | [_], _, _, h, k => ⟨h.1, k⟩
  | _ :: y :: p, _, _, h, k => ⟨h.1, Ch.join (p := y :: p) h.2 k⟩
/-- All nodes are below n. -/
def In (n : Nat) (E : Eg) : Prop := ∀ e ∈ E, e.1 < n ∧ e.2 < n
theorem Ch.lt {E : Eg} {n : Nat} (hE : In n E) : ∀ {l : List Nat}, Ch E l → 2 ≤ l.length → ∀ x ∈ l, x < n
  | [a, b], h, _, x, hx => by
    have := hE _ h.1
    simp at hx
    rcases hx with rfl | rfl
    · exact this.1
    · exact this.2
  | a :: b :: c :: r, h, _, x, hx => by
    rcases List.mem_cons.1 hx with rfl | hx
    · exact (hE _ h.1).1
    · exact Ch.lt hE h.2 (by simp) x hx
theorem dup : ∀ {l : List Nat}, ¬ l.Nodup → ∃ p x m s, l = p ++ x :: (m ++ x :: s)
  | [], h => absurd List.nodup_nil h
  | a :: r, h => by
    by_cases ha : a ∈ r
    · obtain ⟨m, s, rfl⟩ := List.append_of_mem ha
      exact ⟨[], a, m, s, rfl⟩
    · obtain ⟨p, x, m, s, rfl⟩ := dup (l := r) (fun hr => h (List.nodup_cons.2 ⟨ha, hr⟩))
      exact ⟨a :: p, x, m, s, rfl⟩
theorem nodup_le : ∀ (n : Nat) (l : List Nat), l.Nodup → (∀ x ∈ l, x < n) → l.length ≤ n
  | 0, l, _, h => by
    cases l with
    | nil => simp
    | cons a r => exact absurd (h a (List.mem_cons_self ..)) (Nat.not_lt_zero _)
  | n + 1, l, hn, h => by
    have h1 := nodup_le n (l.erase n) (hn.erase n) (fun x hx => by
      have hm := (hn.mem_erase_iff).1 hx
      have := h x hm.2
      have := hm.1
      omega)
    by_cases hm : n ∈ l
    · rw [List.length_erase_of_mem hm] at h1
      omega
    · rw [List.erase_of_not_mem hm] at h1
      omega
/-- There is a closed walk. -/
def Cyc (E : Eg) : Prop := ∃ x m, Ch E (x :: (m ++ [x]))
theorem cyc_long {E : Eg} {n : Nat} (hE : In n E) (h0 : 0 < n) {l : List Nat} (h : Ch E l) (hl : n < l.length) : Cyc E := by
  by_cases hn : l.Nodup
  · have := nodup_le n l hn (h.lt hE (by omega))
    omega
  · obtain ⟨p, x, m, s, rfl⟩ := dup hn
    have h3 : Ch E (x :: (m ++ x :: s)) := h.right
    have h4 : Ch E ((x :: m ++ [x]) ++ s) := by simpa using h3
    exact ⟨x, m, by simpa using h4.left⟩
/-- Ranks: they rise along all edges, and of each there is a way as long. -/
structure Rks (n : Nat) (E : Eg) (r : Nat → Nat) : Prop where
  up : ∀ e ∈ E, r e.1 < r e.2
  way : ∀ v, v < n → ∃ l, Ch E (l ++ [v]) ∧ l.length = r v
theorem Rks.ge {n : Nat} {E : Eg} {r : Nat → Nat} (h : ∀ e ∈ E, r e.1 < r e.2) : ∀ (l : List Nat) (a v : Nat), Ch E (a :: (l ++ [v])) → r a + l.length + 1 ≤ r v
  | [], a, v, hc => h _ hc.1
  | b :: l, a, v, hc => by
    have h1 := h _ hc.1
    have h2 := Rks.ge (n := n) h l b v hc.2
    simp only [List.length_cons] at h2 ⊢
    simp only at h1
    omega
theorem Rks.most {n : Nat} {E : Eg} {r : Nat → Nat} (h : Rks n E r) {l : List Nat} {v : Nat} (hc : Ch E (l ++ [v])) : l.length ≤ r v := by
  cases l with
  | nil => exact Nat.zero_le _
  | cons a l =>
    have := Rks.ge (n := n) h.up l a v hc
    simp only [List.length_cons]
    omega
theorem Rks.one {n : Nat} {E : Eg} {r s : Nat → Nat} (h : Rks n E r) (k : Rks n E s) {v : Nat} (hv : v < n) : r v = s v := by
  obtain ⟨l, h1, h2⟩ := h.way v hv
  obtain ⟨m, k1, k2⟩ := k.way v hv
  have := k.most h1
  have := h.most k1
  omega
theorem Rks.acyc {n : Nat} {E : Eg} {r : Nat → Nat} (h : Rks n E r) : ¬ Cyc E := by
  rintro ⟨x, m, hc⟩
  have := Rks.ge (n := n) h.up m x x hc
  omega

/-! The document's ranks. -/
def g (o : List Nat) (v : Nat) : Nat := o.getD v 0
theorem g_set (o : List Nat) (b x v : Nat) (hb : b < o.length) : g (o.set b x) v = if b = v then x else g o v := by
  unfold g
  rw [List.getD_eq_getElem?_getD, List.getD_eq_getElem?_getD, List.getElem?_set]
  by_cases h : b = v
  · rw [if_pos h, if_pos h, if_pos (h ▸ hb)]
    rfl
  · rw [if_neg h, if_neg h]
def rp1 (s : List Nat × Bool) (e : Nat × Nat) : List Nat × Bool := if g s.1 e.2 < g s.1 e.1 + 1 then (s.1.set e.2 (g s.1 e.1 + 1), true) else s
def rp (E : Eg) (s : List Nat × Bool) : List Nat × Bool := E.foldl rp1 s
def rr (E : Eg) : Nat → List Nat → Option (List Nat)
  | 0, _ => none
  | k + 1, o => if (rp E (o, false)).2 then rr E k (rp E (o, false)).1 else some (rp E (o, false)).1
/-- What is so of the ranks while they are raised. -/
structure Ach (n : Nat) (E : Eg) (o : List Nat) : Prop where
  len : o.length = n
  way : ∀ v, v < n → ∃ l, Ch E (l ++ [v]) ∧ l.length = g o v
theorem Ach.one {n : Nat} {E : Eg} {s : List Nat × Bool} {e : Nat × Nat} (h : Ach n E s.1) (hE : In n E) (he : e ∈ E) : Ach n E (rp1 s e).1 := by
  unfold rp1
  split
  · refine ⟨by simp [h.len], fun v hv => ?_⟩
    have h2 := (hE e he).2
    simp only
    rw [g_set _ _ _ _ (by rw [h.len]; exact h2)]
    split
    · rename_i hb
      obtain ⟨l, h3, h4⟩ := h.way e.1 (hE e he).1
      refine ⟨l ++ [e.1], ?_, by simp [h4]⟩
      have := Ch.snoc h3 (b := e.2) he
      rw [← hb]
      simpa using this
    · exact h.way v hv
  · exact h
theorem rp1_mono {s : List Nat × Bool} {e : Nat × Nat} {n : Nat} (hl : s.1.length = n) (he : e.2 < n) (v : Nat) : g s.1 v ≤ g (rp1 s e).1 v := by
  unfold rp1
  split
  · rename_i h
    simp only
    rw [g_set _ _ _ _ (by omega)]
    split
    · rename_i hb
      subst hb
      omega
    · exact Nat.le_refl _
  · exact Nat.le_refl _
theorem Ach.all {n : Nat} {E : Eg} (hE : In n E) : ∀ (l : Eg) (s : List Nat × Bool), Ach n E s.1 → (∀ e ∈ l, e ∈ E) → Ach n E (rp l s).1 ∧ ∀ v, g s.1 v ≤ g (rp l s).1 v
  | [], s, h, _ => ⟨h, fun _ => Nat.le_refl _⟩
  | e :: l, s, h, hl => by
    have he := hl e (List.mem_cons_self ..)
    obtain ⟨h1, h2⟩ := Ach.all hE l (rp1 s e) (h.one hE he) (fun x hx => hl x (List.mem_cons_of_mem _ hx))
    exact ⟨h1, fun v => Nat.le_trans (rp1_mono h.len (hE e he).2 v) (h2 v)⟩
theorem rp_flag : ∀ (l : Eg) (s : List Nat × Bool), s.2 = true → (rp l s).2 = true
  | [], _, h => h
  | e :: l, s, h => rp_flag l (rp1 s e) (by unfold rp1; split; rfl; exact h)
theorem rp_still : ∀ (l : Eg) (o : List Nat), (rp l (o, false)).2 = false → (rp l (o, false)).1 = o ∧ ∀ e ∈ l, g o e.1 < g o e.2
  | [], _, _ => ⟨rfl, fun e he => by cases he⟩
  | e :: l, o, h => by
    have hr : rp (e :: l) (o, false) = rp l (rp1 (o, false) e) := rfl
    rw [hr] at h ⊢
    by_cases hc : g o e.2 < g o e.1 + 1
    · have h1 : rp1 (o, false) e = (o.set e.2 (g o e.1 + 1), true) := by unfold rp1; rw [if_pos hc]
      rw [h1, rp_flag l _ rfl] at h
      cases h
    · have h1 : rp1 (o, false) e = (o, false) := by unfold rp1; rw [if_neg hc]
      rw [h1] at h ⊢
      obtain ⟨h2, h3⟩ := rp_still l o h
      refine ⟨h2, fun x hx => ?_⟩
      rcases List.mem_cons.1 hx with rfl | hx
      · omega
      · exact h3 x hx
theorem rp_edge {n : Nat} {E : Eg} (hE : In n E) : ∀ (l : Eg) (s : List Nat × Bool), Ach n E s.1 → (∀ e ∈ l, e ∈ E) → ∀ e ∈ l, ∀ k, k ≤ g s.1 e.1 → k + 1 ≤ g (rp l s).1 e.2
  | [], _, _, _, e, he, _, _ => by cases he
  | x :: l, s, h, hl, e, he, k, hk => by
    have hx := hl x (List.mem_cons_self ..)
    have hl' : ∀ e ∈ l, e ∈ E := fun y hy => hl y (List.mem_cons_of_mem _ hy)
    rcases List.mem_cons.1 he with rfl | he
    · have h1 : k + 1 ≤ g (rp1 s e).1 e.2 := by
        unfold rp1
        split
        · simp only
          rw [g_set _ _ _ _ (by rw [h.len]; exact (hE e hx).2), if_pos rfl]
          omega
        · omega
      exact Nat.le_trans h1 ((Ach.all hE l (rp1 s e) (h.one hE hx) hl').2 _)
    · exact rp_edge hE l (rp1 s x) (h.one hE hx) hl' e he k (Nat.le_trans hk (rp1_mono h.len (hE x hx).2 _))
/-- All ways of so many edges are told. -/
def Lv (E : Eg) (t : Nat) (o : List Nat) : Prop := ∀ (l : List Nat) (v : Nat), Ch E (l ++ [v]) → l.length ≤ t → l.length ≤ g o v
theorem Lv.next {n : Nat} {E : Eg} (hE : In n E) {t : Nat} {o : List Nat} (h : Lv E t o) (ha : Ach n E o) (b : Bool) : Lv E (t + 1) (rp E (o, b)).1 := by
  intro l v hc hl
  rcases List.eq_nil_or_concat l with rfl | ⟨l', a, rfl⟩
  · exact Nat.zero_le _
  · simp only [List.concat_eq_append, List.append_assoc, List.cons_append, List.nil_append, List.length_append, List.length_cons, List.length_nil] at hc hl ⊢
    have h1 : Ch E (l' ++ [a]) := by
      have : Ch E ((l' ++ [a]) ++ [v]) := by simpa using hc
      exact this.left
    have h2 : (a, v) ∈ E := (hc.right : Ch E [a, v]).1
    have h3 := h l' a h1 (by omega)
    have := rp_edge hE E (o, b) ha (fun e he => he) (a, v) h2 l'.length h3
    simpa using this
theorem rp_change : ∀ (l : Eg) (s : List Nat × Bool), s.2 = false → (rp l s).2 = true → ∃ p e q, l = p ++ e :: q ∧ rp p s = (s.1, false) ∧ g s.1 e.2 < g s.1 e.1 + 1
  | [], s, h, h' => by rw [show rp [] s = s from rfl, h] at h'; cases h'
  | e :: l, s, h, h' => by
    by_cases hc : g s.1 e.2 < g s.1 e.1 + 1
    · exact ⟨[], e, l, rfl, by cases s; simp only at h; subst h; rfl, hc⟩
    · have h1 : rp1 s e = s := by unfold rp1; rw [if_neg hc]
      have h2 : rp (e :: l) s = rp l s := by show rp l (rp1 s e) = _; rw [h1]
      rw [h2] at h'
      obtain ⟨p, x, q, rfl, h3, h4⟩ := rp_change l s h h'
      exact ⟨e :: p, x, q, rfl, by show rp p (rp1 s e) = _; rw [h1]; exact h3, h4⟩
theorem rr_some {n : Nat} {E : Eg} (hE : In n E) : ∀ (k : Nat) (o o' : List Nat), Ach n E o → rr E k o = some o' → Ach n E o' ∧ ∀ e ∈ E, g o' e.1 < g o' e.2
  | 0, _, _, _, h => by cases h
  | k + 1, o, o', ha, h => by
    simp only [rr] at h
    split at h
    · exact rr_some hE k _ o' (Ach.all hE E (o, false) ha (fun e he => he)).1 h
    · rename_i hf
      have hf' : (rp E (o, false)).2 = false := by simpa using hf
      obtain ⟨h1, h2⟩ := rp_still E o hf'
      rw [h1] at h
      cases h
      exact ⟨ha, h2⟩
theorem rr_none {n : Nat} {E : Eg} (hE : In n E) : ∀ (k t : Nat) (o : List Nat), Ach n E o → Lv E t o → t + k = n + 1 → 0 < k → rr E k o = none → Cyc E
  | 0, _, _, _, _, _, h0, _ => absurd h0 (Nat.lt_irrefl _)
  | k + 1, t, o, ha, hv, hk, _, h => by
    simp only [rr] at h
    split at h
    · rename_i hf
      cases k with
      | succ k => exact rr_none hE (k + 1) (t + 1) _ (Ach.all hE E (o, false) ha (fun e he => he)).1 (hv.next hE ha false) (by omega) (by omega) h
      | zero =>
        obtain ⟨p, e, q, hp, -, hc⟩ := rp_change E (o, false) rfl hf
        have he : e ∈ E := by rw [hp]; simp
        obtain ⟨l, h1, h2⟩ := ha.way e.1 (hE e he).1
        have h3 : Ch E ((l ++ [e.1]) ++ [e.2]) := by simpa using Ch.snoc h1 (b := e.2) he
        by_cases hlt : (l ++ [e.1]).length ≤ t
        · have h4 := hv (l ++ [e.1]) e.2 h3 hlt
          simp only [List.length_append, List.length_cons, List.length_nil] at h4
          simp only at hc
          omega
        · exact cyc_long hE (by have := (hE e he).1; omega) h3 (by simp at hlt ⊢; omega)
    · cases h
theorem ach_zero (n : Nat) (E : Eg) : Ach n E (List.replicate n 0) := by
  refine ⟨List.length_replicate, fun v hv => ⟨[], trivial, ?_⟩⟩
  unfold g
  rw [List.getD_eq_getElem?_getD, List.getElem?_replicate, if_pos hv]
  rfl
/-- What the document's Ranks tells. -/
theorem rr_ok {n : Nat} {E : Eg} (hE : In n E) : match rr E (n + 1) (List.replicate n 0) with
    | some o => o.length = n ∧ Rks n E (g o)
    | none => Cyc E := by
  cases h : rr E (n + 1) (List.replicate n 0) with
  | some o =>
    obtain ⟨h1, h2⟩ := rr_some hE _ _ _ (ach_zero n E) h
    exact ⟨h1.len, ⟨h2, h1.way⟩⟩
  | none => exact rr_none hE (n + 1) 0 _ (ach_zero n E) (fun l v _ hl => by omega) (by omega) (by omega) h
/-! Rounds. -/
/-- A closed walk. -/
def Cl (E : Eg) : List Nat → Prop
  | [] => False
  | x :: m => Ch E (x :: (m ++ [x]))
theorem Cl.cyc {E : Eg} {o : List Nat} (h : Cl E o) : Cyc E := by
  cases o with
  | nil => exact h.elim
  | cons x m => exact ⟨x, m, h⟩
theorem Cl.rot {E : Eg} {x y : Nat} {p q : List Nat} (h : Cl E (x :: (p ++ y :: q))) : Cl E (y :: (q ++ x :: p)) := by
  have h1 : Ch E ((x :: p) ++ (y :: (q ++ [x]))) := by simpa [Cl] using h
  have h2 : Ch E (y :: (q ++ [x])) := h1.right
  have h3 : Ch E (((x :: p) ++ [y]) ++ (q ++ [x])) := by simpa using h1
  have h4 : Ch E (x :: (p ++ [y])) := by simpa using h3.left
  have h5 : Ch E ((y :: q) ++ [x]) := by simpa using h2
  have h6 := Ch.join h5 h4
  simpa [Cl] using h6
/-- Ahead, or the same. -/
def Lx : List Nat → List Nat → Prop
  | a :: p, b :: q => a < b ∨ (a = b ∧ Lx p q)
  | _, _ => True
theorem Lx.refl : ∀ l, Lx l l
  | [] => trivial
  | _ :: l => .inr ⟨rfl, Lx.refl l⟩
theorem Lx.anti : ∀ {p q : List Nat}, p.length = q.length → Lx p q → Lx q p → p = q
  | [], [], _, _, _ => rfl
  | [], _ :: _, h, _, _ => by simp at h
  | _ :: _, [], h, _, _ => by simp at h
  | a :: p, b :: q, h, h1, h2 => by
    rcases h1 with h1 | ⟨rfl, h1⟩
    · rcases h2 with h2 | ⟨h2, -⟩ <;> omega
    · rcases h2 with h2 | ⟨-, h2⟩
      · omega
      · rw [Lx.anti (by simpa using h) h1 h2]
/-- The round that is told. -/
def Rnd (E : Eg) (o : List Nat) : Prop := (o = [] ∧ ¬ Cyc E) ∨ (Cl E o ∧ ∀ o', Cl E o' → o.length ≤ o'.length ∧ (o.length = o'.length → Lx o o'))
theorem Rnd.one {E : Eg} {o o' : List Nat} (h : Rnd E o) (k : Rnd E o') : o = o' := by
  rcases h with ⟨rfl, h⟩ | ⟨h1, h2⟩
  · rcases k with ⟨rfl, -⟩ | ⟨k1, -⟩
    · rfl
    · exact absurd k1.cyc h
  · rcases k with ⟨-, k⟩ | ⟨k1, k2⟩
    · exact absurd h1.cyc k
    · have e : o.length = o'.length := Nat.le_antisymm (h2 _ k1).1 (k2 _ h1).1
      exact Lx.anti e ((h2 _ k1).2 e) ((k2 _ h1).2 e.symm)
/-- Edges among nodes from one on. -/
def fromE (E : Eg) (v : Nat) : Eg := E.filter fun e => decide (v ≤ e.1) && decide (v ≤ e.2)
theorem mem_fromE {E : Eg} {v : Nat} {e : Nat × Nat} : e ∈ fromE E v ↔ e ∈ E ∧ v ≤ e.1 ∧ v ≤ e.2 := by simp [fromE]
theorem Ch.sub {E F : Eg} (h : ∀ e ∈ E, e ∈ F) : ∀ {l : List Nat}, Ch E l → Ch F l
  | [], _ => trivial
  | [_], _ => trivial
  | _ :: _ :: _, hc => ⟨h _ hc.1, Ch.sub h hc.2⟩
theorem Ch.up {E : Eg} {v : Nat} : ∀ {l : List Nat}, Ch E l → (∀ x ∈ l, v ≤ x) → Ch (fromE E v) l
  | [], _, _ => trivial
  | [_], _, _ => trivial
  | a :: b :: r, hc, h => ⟨mem_fromE.2 ⟨hc.1, h a (by simp), h b (by simp)⟩, Ch.up hc.2 (fun x hx => h x (List.mem_cons_of_mem _ hx))⟩
theorem Ch.ge {E : Eg} {v : Nat} : ∀ {l : List Nat}, Ch (fromE E v) l → 2 ≤ l.length → ∀ x ∈ l, v ≤ x
  | [a, b], h, _, x, hx => by
    have := mem_fromE.1 h.1
    simp at hx
    rcases hx with rfl | rfl
    · exact this.2.1
    · exact this.2.2
  | a :: b :: c :: r, h, _, x, hx => by
    rcases List.mem_cons.1 hx with rfl | hx
    · exact (mem_fromE.1 h.1).2.1
    · exact Ch.ge h.2 (by simp) x hx
/-- The same ends, and no more edges than there are nodes. -/
theorem short {E : Eg} {n : Nat} (hE : In n E) (b : Nat) : ∀ (k : Nat) (l : List Nat) (a : Nat), l.length = k → Ch E (a :: (l ++ [b])) → ∃ l', l'.length + 1 ≤ n ∧ l'.length ≤ l.length ∧ Ch E (a :: (l' ++ [b])) := by
  intro k
  induction k using Nat.strongRecOn with
  | _ k ih =>
    intro l a hk hc
    by_cases hn : l.length + 1 ≤ n
    · exact ⟨l, hn, Nat.le_refl _, hc⟩
    · have h0 : Ch E ((a :: l) ++ [b]) := by simpa using hc
      by_cases hd : (a :: l).Nodup
      · exfalso
        have := nodup_le n (a :: l) hd (fun x hx => Ch.lt hE hc (by simp) x (by
          rcases List.mem_cons.1 hx with rfl | hx
          · simp
          · simp [hx]))
        simp at this
        omega
      · obtain ⟨p, x, m, s, e⟩ := dup hd
        rw [e] at h0
        have h1 : Ch E ((p ++ x :: m) ++ (x :: (s ++ [b]))) := by simpa using h0
        have h2 : Ch E (x :: (s ++ [b])) := h1.right
        have h3 : Ch E ((p ++ [x]) ++ (m ++ x :: (s ++ [b]))) := by simpa using h0
        have h4 := Ch.join h3.left h2
        cases p with
        | nil =>
          have ex : a = x := by simp at e; exact e.1
          have el : l = m ++ x :: s := by simp at e; exact e.2
          obtain ⟨l', g1, g2, g3⟩ := ih s.length (by rw [← hk, el]; simp; omega) s a rfl (by rw [ex]; simpa using h4)
          exact ⟨l', g1, by rw [el]; simp; omega, g3⟩
        | cons y p =>
          have ex : a = y := by simp at e; exact e.1
          have el : l = p ++ x :: (m ++ x :: s) := by simp at e; exact e.2
          obtain ⟨l', g1, g2, g3⟩ := ih (p ++ x :: s).length (by rw [← hk, el]; simp; omega) (p ++ x :: s) a rfl (by rw [ex]; simpa using h4)
          exact ⟨l', g1, by rw [el]; simp at g2 ⊢; omega, g3⟩
def far : Nat := 1073741824
def dst (o : List Nat) (to b : Nat) : Nat := if b = to then 1 else if g o b < far then g o b + 1 else far
/-- How far it is to a node: what is told is a way, and no edge makes it shorter. -/
structure Sh (n : Nat) (E : Eg) (to : Nat) (o : List Nat) : Prop where
  len : o.length = n
  le : ∀ v, g o v ≤ far
  way : ∀ v, g o v < far → v < n → ∃ m, Ch E (v :: (m ++ [to])) ∧ m.length + 1 = g o v
  fix : ∀ e ∈ E, g o e.1 ≤ dst o to e.2
theorem Sh.least {E : Eg} {to : Nat} {o : List Nat} (h : ∀ e ∈ E, g o e.1 ≤ dst o to e.2) : ∀ (m : List Nat) (v : Nat), Ch E (v :: (m ++ [to])) → m.length < far → g o v ≤ m.length + 1
  | [], v, hc, _ => by
    have := h _ hc.1
    unfold dst at this
    rw [if_pos rfl] at this
    simpa using this
  | x :: m, v, hc, hm => by
    have h1 := h _ hc.1
    have h2 := Sh.least h m x hc.2 (by simp at hm; omega)
    unfold dst at h1
    simp only [List.length_cons] at hm ⊢
    simp only at h1
    split at h1
    · omega
    · split at h1 <;> omega
theorem Sh.min {n : Nat} {E : Eg} {to : Nat} {o : List Nat} (h : Sh n E to o) (hE : In n E) (hn : n < far) {m : List Nat} {v : Nat} (hc : Ch E (v :: (m ++ [to]))) : g o v ≤ m.length + 1 ∧ g o v < far := by
  obtain ⟨l, h1, h2, h3⟩ := short hE to m.length m v rfl hc
  have h4 := Sh.least h.fix l v h3 (by omega)
  exact ⟨by omega, by omega⟩
theorem in_from {n : Nat} {E : Eg} (h : In n E) (v : Nat) : In n (fromE E v) := fun e he => h e (mem_fromE.1 he).1
/-- The least number of a list. -/
theorem least_of : ∀ (l : List Nat) (x : Nat), ∃ y p q, x :: l = p ++ y :: q ∧ ∀ z ∈ x :: l, y ≤ z
  | [], x => ⟨x, [], [], rfl, fun z hz => by simp at hz; omega⟩
  | a :: l, x => by
    obtain ⟨y, p, q, e, h⟩ := least_of l a
    by_cases hxy : x ≤ y
    · refine ⟨x, [], a :: l, rfl, fun z hz => ?_⟩
      rcases List.mem_cons.1 hz with rfl | hz
      · exact Nat.le_refl _
      · exact Nat.le_trans hxy (h z hz)
    · refine ⟨y, x :: p, q, by rw [e]; rfl, fun z hz => ?_⟩
      rcases List.mem_cons.1 hz with rfl | hz
      · omega
      · exact h z hz
/-- Each closed walk is one from its least node on. -/
theorem Cl.least {E : Eg} {o : List Nat} (h : Cl E o) : ∃ v m, Ch (fromE E v) (v :: (m ++ [v])) ∧ m.length + 1 = o.length ∧ ∀ z ∈ o, v ≤ z := by
  cases o with
  | nil => exact h.elim
  | cons x l =>
    obtain ⟨y, p, q, e, hy⟩ := least_of l x
    cases p with
    | nil =>
      have e1 : x = y := by simp at e; exact e.1
      refine ⟨x, l, Ch.up h (fun z hz => ?_), rfl, fun z hz => e1 ▸ hy z hz⟩
      subst e1
      refine hy z ?_
      simp at hz ⊢
      rcases hz with rfl | hz | rfl
      · simp
      · exact .inr hz
      · simp
    | cons a p =>
      have e1 : x = a := by simp at e; exact e.1
      have e2 : l = p ++ y :: q := by simp at e; exact e.2
      subst e1 e2
      have hr := Cl.rot h
      refine ⟨y, q ++ x :: p, Ch.up hr (fun z hz => ?_), by simp; omega, hy⟩
      refine hy z ?_
      simp at hz ⊢
      rcases hz with rfl | hz | rfl | hz | rfl
      · exact .inr (.inr (.inl rfl))
      · exact .inr (.inr (.inr hz))
      · exact .inl rfl
      · exact .inr (.inl hz)
      · exact .inr (.inr (.inl rfl))
/-- The least closed walks: so many edges, from this node on. -/
structure Bst (E : Eg) (best v : Nat) : Prop where
  way : ∃ m, Ch (fromE E v) (v :: (m ++ [v])) ∧ m.length + 1 = best
  least : ∀ u m, Ch (fromE E u) (u :: (m ++ [u])) → best ≤ m.length + 1 ∧ (best = m.length + 1 → v ≤ u)
theorem Bst.cl {E : Eg} {best v : Nat} (h : Bst E best v) {o : List Nat} (ho : Cl E o) : best ≤ o.length ∧ (best = o.length → ∀ z ∈ o, v ≤ z) := by
  obtain ⟨u, m, h1, h2, h3⟩ := ho.least
  have h4 := h.least u m h1
  rw [h2] at h4
  exact ⟨h4.1, fun e z hz => Nat.le_trans (h4.2 e) (h3 z hz)⟩
/-- A round's beginning: it may be made whole, and nothing is ahead of it. -/
structure Beg (E : Eg) (best v : Nat) (o : List Nat) (at' : Nat) : Prop where
  whole : ∃ m, Ch (fromE E v) ((o ++ [at']) ++ (m ++ [v])) ∧ o.length + 1 + m.length = best
  head : ∃ r, o ++ [at'] = v :: r
  ahead : ∀ o', Cl E o' → o'.length = best → Lx (o ++ [at']) o'
theorem Beg.first {E : Eg} {best v : Nat} (h : Bst E best v) : Beg E best v [] v := by
  obtain ⟨m, h1, h2⟩ := h.way
  refine ⟨⟨m, h1, by simp; omega⟩, ⟨[], rfl⟩, fun o' hc hl => ?_⟩
  cases o' with
  | nil => exact hc.elim
  | cons x l =>
    have := (h.cl hc).2 hl.symm x (by simp)
    by_cases hx : v < x
    · exact .inl hx
    · exact .inr ⟨by omega, trivial⟩
theorem Lx.more {k : Nat} : ∀ {p o' : List Nat}, Lx p o' → p.length < o'.length → (∀ x s, o' = p ++ x :: s → k ≤ x) → Lx (p ++ [k]) o'
  | [], [], _, h, _ => absurd h (Nat.lt_irrefl _)
  | [], x :: s, _, _, hk => by
    have := hk x s rfl
    by_cases hx : k < x
    · exact .inl hx
    · exact .inr ⟨by omega, trivial⟩
  | _ :: _, [], _, h, _ => absurd h (Nat.not_lt_zero _)
  | a :: p, b :: q, h, hl, hk => by
    rcases h with h | ⟨rfl, h⟩
    · exact .inl h
    · exact .inr ⟨rfl, Lx.more h (by simpa using hl) (fun x s e => hk x s (by rw [e]; rfl))⟩
theorem next_is {n : Nat} {E : Eg} (hE : In n E) (hn : n < far) {best v : Nat} (hB : Bst E best v) {d : List Nat} (hd : Sh n (fromE E v) v d) {p r s : List Nat} {a x : Nat} (hp : p ++ [a] = v :: r)
    (hc : Ch (fromE E v) ((p ++ [a]) ++ x :: (s ++ [v]))) (hl : p.length + 1 + s.length + 1 = best) : v < x ∧ g d x = s.length + 1 := by
  have hr : r.length = p.length := by
    have := congrArg List.length hp
    simp at this
    omega
  have hx : v ≤ x := hc.ge (by simp; omega) x (by simp)
  have hxn : x < n := hc.lt (in_from hE v) (by simp; omega) x (by simp)
  have h1 : Ch (fromE E v) (x :: (s ++ [v])) := hc.right
  have h2 : Ch (fromE E v) ((p ++ [a]) ++ [x]) := by
    have : Ch (fromE E v) (((p ++ [a]) ++ [x]) ++ (s ++ [v])) := by simpa using hc
    exact this.left
  have hne : x ≠ v := fun e => by
    rw [hp, e] at h2
    have := (hB.least v r h2).1
    omega
  obtain ⟨h3, h4⟩ := hd.min (in_from hE v) hn h1
  refine ⟨by omega, Nat.le_antisymm h3 ?_⟩
  obtain ⟨m, h5, h6⟩ := hd.way x h4 hxn
  have h7 := Ch.join h2 h5
  rw [hp] at h7
  have h8 := (hB.least v (r ++ x :: m) (by simpa using h7)).1
  simp at h8
  omega
/-- There is a next one. -/
theorem Beg.some {n : Nat} {E : Eg} (hE : In n E) (hn : n < far) {best v : Nat} (hB : Bst E best v) {d : List Nat} (hd : Sh n (fromE E v) v d) {o : List Nat} {a : Nat} (h : Beg E best v o a) (hl : o.length + 1 < best) :
    ∃ k, (a, k) ∈ E ∧ v < k ∧ g d k = best - (o.length + 1) := by
  obtain ⟨m, h1, h2⟩ := h.whole
  obtain ⟨r, hr⟩ := h.head
  cases m with
  | nil => simp at h2; omega
  | cons x s =>
    have h3 := next_is hE hn hB hd hr h1 (by simp at h2; omega)
    have h4 : Ch (fromE E v) (o ++ ([a, x] ++ (s ++ [v]))) := by simpa using h1
    have h5 : Ch (fromE E v) ([a, x] ++ (s ++ [v])) := h4.right
    exact ⟨x, (mem_fromE.1 h5.left.1).1, h3.1, by simp at h2; omega⟩
/-- The least next one is right. -/
theorem Beg.next {n : Nat} {E : Eg} (hE : In n E) (hn : n < far) {best v : Nat} (hB : Bst E best v) {d : List Nat} (hd : Sh n (fromE E v) v d) {o : List Nat} {a k : Nat} (h : Beg E best v o a) (hl : o.length + 1 < best)
    (h1 : (a, k) ∈ E) (h2 : v < k) (h3 : g d k = best - (o.length + 1)) (hk : ∀ x, (a, x) ∈ E → v < x → g d x = best - (o.length + 1) → k ≤ x) : Beg E best v (o ++ [a]) k := by
  obtain ⟨r, hr⟩ := h.head
  obtain ⟨m0, w1, w2⟩ := h.whole
  have ha : v ≤ a := w1.ge (by simp; omega) a (by simp)
  have hkn : k < n := (hE _ h1).2
  have hbf : best < far ∨ g d k < far := by
    by_cases hx : g d k < far
    · exact .inr hx
    · exfalso
      obtain ⟨x, g1, g2, g3⟩ := Beg.some hE hn hB hd h hl
      cases m0 with
      | nil => simp at w2; omega
      | cons x s =>
        have w3 := next_is hE hn hB hd hr w1 (by simp at w2; omega)
        have w4 := (hd.min (in_from hE v) hn (w1.right : Ch (fromE E v) (x :: (s ++ [v])))).2
        simp at w2
        omega
  have hkf : g d k < far := by
    rcases hbf with hb | hb
    · omega
    · exact hb
  obtain ⟨m, h4, h5⟩ := hd.way k hkf hkn
  have h6 : Ch (fromE E v) ((o ++ [a]) ++ [k]) := by
    have := Ch.snoc (w1.left : Ch (fromE E v) (o ++ [a])) (b := k) (mem_fromE.2 ⟨h1, ha, by show v ≤ k; omega⟩)
    simpa using this
  refine ⟨⟨m, by simpa using Ch.join h6 h4, by simp; omega⟩, ⟨r ++ [k], by rw [hr]; rfl⟩, fun o' hc' hl' => ?_⟩
  refine Lx.more (h.ahead o' hc' hl') (by simp; omega) (fun x s e => ?_)
  have hall := (hB.cl hc').2 hl'.symm
  have hc2 : Ch (fromE E v) (o' ++ [v]) := by
    have e2 : o' = v :: (r ++ x :: s) := by rw [e, hr]; rfl
    rw [e2] at hc' hall ⊢
    exact Ch.up hc' (fun z hz => by
      simp at hz
      rcases hz with rfl | hz | rfl | hz | rfl
      · exact Nat.le_refl _
      · exact hall z (by simp [hz])
      · exact hall z (by simp)
      · exact hall z (by simp [hz])
      · exact Nat.le_refl _)
  rw [e] at hc2
  have hc3 : Ch (fromE E v) ((o ++ [a]) ++ x :: (s ++ [v])) := by simpa using hc2
  have hls : o.length + 1 + s.length + 1 = best := by
    rw [← hl', e]
    simp
    omega
  have h7 := next_is hE hn hB hd hr hc3 hls
  have h8 : Ch (fromE E v) (o ++ ([a, x] ++ (s ++ [v]))) := by simpa using hc3
  have h9 : Ch (fromE E v) ([a, x] ++ (s ++ [v])) := h8.right
  exact hk x (mem_fromE.1 h9.left.1).1 h7.1 (by omega)
theorem Beg.done {E : Eg} {best v : Nat} (hB : Bst E best v) {o : List Nat} {a : Nat} (h : Beg E best v o a) (hl : o.length + 1 = best) : Rnd E (o ++ [a]) := by
  obtain ⟨m, h1, h2⟩ := h.whole
  obtain ⟨r, hr⟩ := h.head
  have hm : m = [] := List.eq_nil_of_length_eq_zero (by omega)
  subst hm
  refine .inr ⟨?_, fun o' hc => ?_⟩
  · rw [hr] at h1 ⊢
    exact Ch.sub (fun e he => (mem_fromE.1 he).1) h1
  · have h3 := (hB.cl hc).1
    refine ⟨by simp; omega, fun e => h.ahead o' hc (by simp at e; omega)⟩
/-- What is told of the nodes so far. -/
def Fnd (E : Eg) (n best : Nat) (f : Int) : Prop :=
  (best = far ∧ f = -1 ∧ ∀ u m, u < n → ¬ Ch (fromE E u) (u :: (m ++ [u]))) ∨
  (best < far ∧ ∃ v : Nat, f = (v : Int) ∧ v < n ∧ (∃ m, Ch (fromE E v) (v :: (m ++ [v])) ∧ m.length + 1 = best) ∧ ∀ u m, u < n → Ch (fromE E u) (u :: (m ++ [u])) → best ≤ m.length + 1 ∧ (best = m.length + 1 → v ≤ u))
theorem Fnd.zero (E : Eg) : Fnd E 0 far (-1) := .inl ⟨rfl, rfl, fun _ _ h => absurd h (Nat.not_lt_zero _)⟩
theorem Fnd.next {N n best : Nat} {E : Eg} {f : Int} {d : List Nat} (h : Fnd E n best f) (hE : In N E) (hN : N < far) (hn : n < N) (hd : Sh N (fromE E n) n d) :
    Fnd E (n + 1) (if g d n < best then g d n else best) (if g d n < best then (n : Int) else f) := by
  have hm := fun m hc => hd.min (in_from hE n) hN (m := m) (v := n) hc
  by_cases hlt : g d n < best
  · rw [if_pos hlt, if_pos hlt]
    have hbf : best ≤ far := by rcases h with ⟨h, -⟩ | ⟨h, -⟩ <;> omega
    refine .inr ⟨by omega, n, rfl, by omega, hd.way n (by omega) hn, fun u m hu hc => ?_⟩
    by_cases hun : u = n
    · subst hun
      exact ⟨(hm m hc).1, fun _ => Nat.le_refl _⟩
    · rcases h with ⟨-, -, h⟩ | ⟨-, v, -, -, -, h⟩
      · exact absurd hc (h u m (by omega))
      · have := (h u m (by omega) hc).1
        exact ⟨by omega, fun e => by omega⟩
  · rw [if_neg hlt, if_neg hlt]
    rcases h with ⟨h1, h2, h3⟩ | ⟨h1, v, h2, h3, h4, h5⟩
    · refine .inl ⟨h1, h2, fun u m hu hc => ?_⟩
      by_cases hun : u = n
      · subst hun
        have := (hm m hc).2
        omega
      · exact h3 u m (by omega) hc
    · refine .inr ⟨h1, v, h2, by omega, h4, fun u m hu hc => ?_⟩
      by_cases hun : u = n
      · subst hun
        have := (hm m hc).1
        exact ⟨by omega, fun _ => by omega⟩
      · exact h5 u m (by omega) hc
theorem Fnd.done {N best : Nat} {E : Eg} {f : Int} (h : Fnd E N best f) (hE : In N E) : (f = -1 ∧ Rnd E []) ∨ ∃ v : Nat, f = (v : Int) ∧ v < N ∧ best < far ∧ Bst E best v := by
  rcases h with ⟨-, h2, h3⟩ | ⟨h1, v, h2, h3, h4, h5⟩
  · refine .inl ⟨h2, .inl ⟨rfl, ?_⟩⟩
    rintro ⟨x, m, hc⟩
    obtain ⟨u, l, g1, -, -⟩ := Cl.least (o := x :: m) hc
    exact h3 u l ((g1.lt (in_from hE u) (by simp)) u (by simp)) g1
  · exact .inr ⟨v, h2, h3, h1, h4, fun u m hc => h5 u m ((hc.lt (in_from hE u) (by simp)) u (by simp)) hc⟩
end Go.Proofs.Ytbepaimbbclejaa.Rk
/- Small tools for package ranks: what a call keeps; rows of numbers; rows of edges. -/
namespace Go.Proofs.Ytbepaimbbclejaa
open Go.RowKit

theorem hide {p : Prop} (h : p) : Hid p := h
theorem bcell {W w1 : World} (hb : Below W.heap.size W w1) : (∀ b o, b < W.heap.size → w1.cell? ⟨b, o, none⟩ = W.cell? ⟨b, o, none⟩) ∧ (∀ b o, b < W.heap.size → w1.frozen? ⟨b, o, none⟩ = W.frozen? ⟨b, o, none⟩) :=
  ⟨fun b o h => hb.cell (p := ⟨b, o, none⟩) h, fun b o h => hb.frozen (p := ⟨b, o, none⟩) h⟩
theorem Try.info3 : (Try.prog.info? 3).map (fun i => (i.zero, i.size, i.bytes)) = some (some (.int .i64 0), 1, 8) := by kernel_rfl

/-- Of the blocks that were there, those of X are as they were. -/
structure Kx (X : Nat → Prop) (w w' : World) : Prop where
  os : w'.os = w.os
  tape : w'.tape = w.tape
  output : w'.output = w.output
  size : w.heap.size ≤ w'.heap.size
  block : ∀ k, k < w.heap.size → X k → w'.heap[k]? = w.heap[k]?
theorem Kx.refl (X : Nat → Prop) (w : World) : Kx X w w := ⟨rfl, rfl, rfl, Nat.le_refl _, fun _ _ _ => rfl⟩
theorem Kx.trans {X : Nat → Prop} {a b c : World} (h : Kx X a b) (k : Kx X b c) : Kx X a c :=
  ⟨k.os.trans h.os, k.tape.trans h.tape, k.output.trans h.output, Nat.le_trans h.size k.size, fun i hi hn => (k.block i (Nat.lt_of_lt_of_le hi h.size) hn).trans (h.block i hi hn)⟩
theorem Kx.mono {X Y : Nat → Prop} {a b : World} (h : Kx X a b) (hs : ∀ k, k < a.heap.size → Y k → X k) : Kx Y a b :=
  ⟨h.os, h.tape, h.output, h.size, fun i hi hn => h.block i hi (hs i hi hn)⟩
theorem Kx.of_below {X : Nat → Prop} {w w' : World} (h : Below w.heap.size w w') : Kx X w w' := ⟨h.os, h.tape, h.output, h.size, fun k hk _ => h.block k hk⟩
theorem Kx.below {w w' : World} (h : Kx (fun _ => True) w w') : Below w.heap.size w w' := ⟨h.os, h.tape, h.output, h.size, fun k hk => h.block k hk trivial⟩
theorem Kx.below_of {X : Nat → Prop} {w w' : World} (h : Kx X w w') (hX : ∀ k, k < w.heap.size → X k) : Below w.heap.size w w' := ⟨h.os, h.tape, h.output, h.size, fun k hk => h.block k hk (hX k hk)⟩
theorem Kx.cell {X : Nat → Prop} {w w' : World} (h : Kx X w w') {p : Addr} {v : Value} (hv : w.cell? p = some v) (hX : X p.block) : w'.cell? p = some v :=
  (World.cell?_of_block (w := w) (h.block p.block (World.block_lt_of_cell? w p hv) hX)).trans hv
theorem Kx.frozen {X : Nat → Prop} {w w' : World} (h : Kx X w w') {p : Addr} (hp : p.block < w.heap.size) (hX : X p.block) : w'.frozen? p = w.frozen? p := World.frozen?_of_block (w := w) (h.block p.block hp hX)
theorem Kx.alloc {X : Nat → Prop} {a w : World} (h : Kx X a w) (o : Obj) : Kx X a (w.alloc o) :=
  h.trans ⟨rfl, rfl, rfl, by simp, fun k hk _ => Below.heap_alloc _ _ _ hk⟩
theorem Kx.drewN {X : Nat → Prop} {a w : World} (h : Kx X a w) (n : Nat) : Kx X a (w.drewN n) := ⟨h.os, h.tape, h.output, h.size, h.block⟩
theorem Kx.set {X : Nat → Prop} {a w : World} (h : Kx X a w) {p : Addr} (hp : a.heap.size ≤ p.block ∨ ¬ X p.block) (u : Value) : Kx X a (w.setCell p u) :=
  ⟨h.os, h.tape, h.output, by simpa [World.setCell] using h.size, fun k hk hn => (Below.heap_setCell _ _ _ _ (fun e => by
    subst e
    rcases hp with hp | hp
    · omega
    · exact hp hn)).trans (h.block k hk hn)⟩
theorem Kx.grown {X : Nat → Prop} {a w w' : World} {row : Option Nat} (h : Kx X a w) (hg : w.grownBy w' row) (hr : ∀ k, row = some k → a.heap.size ≤ k ∨ ¬ X k) : Kx X a w' :=
  ⟨hg.os.trans h.os, hg.tape.trans h.tape, hg.output.trans h.output, Nat.le_trans h.size hg.size, fun k hk hn => (hg.block k (Nat.lt_of_lt_of_le hk h.size) (fun e => by
    rcases hr k e.symm with h1 | h1
    · omega
    · exact h1 hn)).trans (h.block k hk hn)⟩
theorem btrans {a b c : World} (h : Below a.heap.size a b) (k : Below b.heap.size b c) : Below a.heap.size a c := h.trans (k.mono h.size)
theorem bsome {w w' : World} (h : Below w.heap.size w w') {p : Addr} {v : Value} (hv : w.cell? p = .some v) : w'.cell? p = .some v :=
  (h.cell (World.block_lt_of_cell? w p hv)).trans hv

/-- Numbers as cells. -/
def ints (l : List Int) : List Value := l.map fun k => Value.int .i64 k
def up (l : List Nat) : List Int := l.map fun (k : Nat) => (k : Int)
theorem ints_len (l : List Int) : (ints l).length = l.length := by simp [ints]
theorem up_len (l : List Nat) : (up l).length = l.length := by simp [up]
theorem ints_app (a b : List Int) : ints (a ++ b) = ints a ++ ints b := by simp [ints]
theorem up_app (a b : List Nat) : up (a ++ b) = up a ++ up b := by simp [up]
theorem up_get {l : List Nat} {k v : Nat} (h : l[k]? = some v) : (up l)[k]? = some (v : Int) := by simp [up, h]
/-- A row of numbers that can be read. -/
def IR (w : World) (v : Value) (l : List Int) : Prop :=
  ∃ a c, v = .slice a l.length c ∧ (l ≠ [] → ∃ g o, a = some ⟨g, o, none⟩ ∧ ∀ (k : Nat) x, l[k]? = some x → w.cell? ⟨g, o + k, none⟩ = some (.int .i64 x))
theorem IR.keep {w w' : World} {v : Value} {l : List Int} (h : IR w v l) (hb : Below w.heap.size w w') : IR w' v l := by
  obtain ⟨a, c, h1, h2⟩ := h
  refine ⟨a, c, h1, fun hn => ?_⟩
  obtain ⟨g, o, h3, h4⟩ := h2 hn
  exact ⟨g, o, h3, fun k x hx => bsome hb (h4 k x hx)⟩
theorem IR.keepX {X : Nat → Prop} {w w' : World} {v : Value} {l : List Int} (h : IR w v l) (hb : Kx X w w') (hX : ∀ g, v.ownBlock = some g → X g) : IR w' v l := by
  obtain ⟨a, c, h1, h2⟩ := h
  refine ⟨a, c, h1, fun hn => ?_⟩
  obtain ⟨g, o, h3, h4⟩ := h2 hn
  refine ⟨g, o, h3, fun k x hx => hb.cell (h4 k x hx) (hX g ?_)⟩
  rw [h1, h3]; rfl
theorem add_off (g k : Nat) : (⟨g, 0, none⟩ : Addr).add k = ⟨g, k, none⟩ := by unfold Addr.add; split <;> simp_all
theorem own_ir {w : World} {B : Nat} {v : Value} {l : List Int} (h : w.ownsRow B 3 1 v l.length (ints l)) : IR w v l := by
  rcases h.2 with ⟨hv, h0⟩ | ⟨g, cap, cur, hv, hb, hg, hnc, hcm, _, _⟩
  · refine ⟨none, 0, by rw [hv, h0], fun hn => ?_⟩
    exact absurd (List.length_eq_zero_iff.1 h0) hn
  · refine ⟨_, cap, hv, fun _ => ⟨g, 0, rfl, fun k x hx => ?_⟩⟩
    have := h.cells (g := g) (by rw [hv]; rfl) k (.int .i64 x) (by simp [ints, hx])
    rw [add_off] at this
    rw [Nat.zero_add]
    exact this
theorem cell_one_new (w : World) (x : Value) (t : TypeId) : ∀ j u, [x][j]? = some u → (w.alloc (.cells #[x] t)).cell? ((⟨w.heap.size, 0, none⟩ : Addr).add j) = some u := by
  intro j u hu
  match j, hu with
  | 0, hu => simp at hu; subst hu; simp [go_sem, Addr.add]

theorem own_keep {B : Nat} {w w' : World} {v : Value} {n : Nat} {xs : List Value} (h : w.ownsRow B 3 1 v n xs) (hk : ∀ g, v.ownBlock = some g → w'.heap[g]? = w.heap[g]?) : w'.ownsRow B 3 1 v n xs := by
  refine ⟨h.1, ?_⟩
  rcases h.2 with h | ⟨g, cap, cur, hv, hb, hg, rest⟩
  · exact .inl h
  · exact .inr ⟨g, cap, cur, hv, hb, by rw [hk g (by rw [hv]; rfl)]; exact hg, rest⟩
/-- A row of numbers that is written in place. -/
structure AR (ga : Nat) (w : World) (ah : List Int) : Prop where
  cell : ∀ (k : Nat) x, ah[k]? = some x → w.cell? ⟨ga, k, none⟩ = some (.int .i64 x)
  thaw : ∀ k, w.frozen? ⟨ga, k, none⟩ = false
  lt : ga < w.heap.size
theorem AR.keep {ga : Nat} {w w' : World} {ah : List Int} (h : AR ga w ah) (hb : w'.heap[ga]? = w.heap[ga]?) (hs : w.heap.size ≤ w'.heap.size) : AR ga w' ah :=
  ⟨fun k x hx => (World.cell?_of_block (w := w) (a := ⟨ga, k, none⟩) hb).trans (h.cell k x hx), fun k => (World.frozen?_of_block (w := w) (a := ⟨ga, k, none⟩) hb).trans (h.thaw k), by have := h.lt; omega⟩
theorem AR.below {ga : Nat} {w w' : World} {ah : List Int} (h : AR ga w ah) (hb : Below w.heap.size w w') : AR ga w' ah := h.keep (hb.block ga h.lt) hb.size
theorem AR.set {ga : Nat} {w : World} {ah : List Int} (h : AR ga w ah) {v : Nat} {x : Int} (hv : ah[v]? = some x) (y : Int) : AR ga (w.setCell ⟨ga, v, none⟩ (.int .i64 y)) (ah.set v y) := by
  have hc := h.cell v x hv
  refine ⟨fun k z hz => ?_, fun k => ?_, by simpa [World.setCell] using h.lt⟩
  · by_cases e : k = v
    · subst e
      rw [List.getElem?_set_self (List.getElem?_eq_some_iff.1 hv).1] at hz
      cases hz
      simp [go_sem, hc]
    · rw [List.getElem?_set_ne (by omega)] at hz
      have := h.cell k z hz
      simp [go_sem, this]
  · have := h.thaw k
    simp [go_sem, this]

theorem made_get (n k : Nat) (h : k < n) : (madeCells #[Value.int .i64 0] n)[k]? = some (.int .i64 0) := by
  unfold madeCells
  rw [Array.getElem?_map]
  simp [h, Nat.mod_one]
theorem make_ints (n : Nat) (hn : n ≤ 300) : ∃ Z : Array Value, (∀ k, k < n → Z[k]? = some (.int .i64 0)) ∧ ∀ w : World, (Instr.makeSlice 28 (.int .i64 (n : Int)) (.int .i64 (n : Int))).run Try.prog w = .ok (.slice (some ⟨w.heap.size, 0, none⟩) n n) (w.alloc (.cells Z 3)) := by
  obtain ⟨i0, hi, hz0, hz1, hz2⟩ := info_parts Try.info3
  refine ⟨madeCells #[Value.int .i64 0] n, made_get n, fun w => ?_⟩
  have := run_make (P := Try.prog) w 28 3 i0 (.int .i64 0) Try.underlying28 hi hz0 .i64 .i64 (n : Int) (n : Int) (by omega) (Int.le_refl _) (by rw [hz2]; omega) (by omega)
  rw [hz1] at this
  simpa [Value.cells] using this
theorem ar_new (w : World) (Z : Array Value) (n : Nat) (hZ : ∀ k, k < n → Z[k]? = some (.int .i64 0)) : AR w.heap.size (w.alloc (.cells Z 3)) (List.replicate n 0) := by
  refine ⟨fun k x hx => ?_, fun k => by simp [go_sem], by simp⟩
  rw [List.getElem?_replicate] at hx
  split at hx
  · rename_i hk
    cases hx
    have := hZ k hk
    simp [go_sem, this]
  · cases hx
/-- A row of edges that can be read. -/
def ER (w : World) (v : Value) (E : List (Int × Int)) : Prop :=
  ∃ a c, v = .slice a E.length c ∧ (E ≠ [] → ∃ g o, a = some ⟨g, o, none⟩ ∧ ∀ (k : Nat) x, E[k]? = some x → w.cell? ⟨g, o + k * 2, none⟩ = some (.int .i64 x.1) ∧ w.cell? ⟨g, o + k * 2 + 1, none⟩ = some (.int .i64 x.2))
theorem ER.keepX {X : Nat → Prop} {w w' : World} {v : Value} {E : List (Int × Int)} (h : ER w v E) (hb : Kx X w w') (hX : ∀ g, v.ownBlock = some g → X g) : ER w' v E := by
  obtain ⟨a, c, h1, h2⟩ := h
  refine ⟨a, c, h1, fun hn => ?_⟩
  obtain ⟨g, o, h3, h4⟩ := h2 hn
  have hg : X g := hX g (by rw [h1, h3]; rfl)
  exact ⟨g, o, h3, fun k x hx => ⟨hb.cell (h4 k x hx).1 hg, hb.cell (h4 k x hx).2 hg⟩⟩
theorem ER.keep {w w' : World} {v : Value} {E : List (Int × Int)} (h : ER w v E) (hb : Below w.heap.size w w') : ER w' v E := h.keepX (X := fun _ => True) (Kx.of_below hb) (fun _ _ => trivial)
theorem ER.lt {w : World} {v : Value} {E : List (Int × Int)} (h : ER w v E) (hE : E ≠ []) : ∀ g, v.ownBlock = some g → g < w.heap.size := by
  obtain ⟨a, c, rfl, h2⟩ := h
  obtain ⟨g, o, rfl, h4⟩ := h2 hE
  obtain ⟨x, hx⟩ : ∃ x, E[0]? = some x := ⟨_, List.getElem?_eq_getElem (List.length_pos_iff.2 hE)⟩
  intro g' hg
  have e : g' = g := by simpa [Value.ownBlock] using hg.symm
  subst e
  exact World.block_lt_of_cell? _ _ (h4 0 x hx).1
end Go.Proofs.Ytbepaimbbclejaa

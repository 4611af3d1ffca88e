import Derived.Test.YtibhbbgpeckkfaaRnkH
/- Edges in another order, twice, and one more (plain). -/
namespace Go.Proofs.Ytibhbbgpeckkfaa
open Go.RowKit

namespace Rk
theorem mem_turn {α : Type} (E : List α) (k : Nat) (e : α) : e ∈ (E.drop k ++ E.take k) ++ E.drop k ↔ e ∈ E := by
  have h : e ∈ E ↔ e ∈ E.take k ++ E.drop k := by rw [List.take_append_drop]
  rw [h]
  simp only [List.mem_append]
  constructor
  · rintro ((h | h) | h)
    · exact .inr h
    · exact .inl h
    · exact .inr h
  · rintro (h | h)
    · exact .inl (.inr h)
    · exact .inr h
theorem Rks.congr {n : Nat} {E F : Eg} {r : Nat → Nat} (h : Rks n E r) (he : ∀ e, e ∈ E ↔ e ∈ F) : Rks n F r :=
  ⟨fun e h1 => h.up e ((he e).2 h1), fun v hv => by
    obtain ⟨l, h1, h2⟩ := h.way v hv
    exact ⟨l, h1.sub fun e h => (he e).1 h, h2⟩⟩
theorem Cyc.sub {E F : Eg} (h : Cyc E) (he : ∀ e ∈ E, e ∈ F) : Cyc F := by
  obtain ⟨x, m, h⟩ := h
  exact ⟨x, m, h.sub he⟩
theorem Cl.sub {E F : Eg} {o : List Nat} (h : Cl E o) (he : ∀ e ∈ E, e ∈ F) : Cl F o := by
  cases o with
  | nil => exact h.elim
  | cons x m => exact Ch.sub he h
theorem Rnd.congr {E F : Eg} {o : List Nat} (h : Rnd E o) (he : ∀ e, e ∈ E ↔ e ∈ F) : Rnd F o := by
  rcases h with ⟨h1, h2⟩ | ⟨h1, h2⟩
  · exact .inl ⟨h1, fun hc => h2 (hc.sub fun e h => (he e).2 h)⟩
  · exact .inr ⟨h1.sub fun e h => (he e).1 h, fun o' ho => h2 o' (ho.sub fun e h => (he e).2 h)⟩
theorem Rnd.pos {E : Eg} {o : List Nat} (h : Rnd E o) (hc : Cyc E) : 0 < o.length := by
  rcases h with ⟨-, h⟩ | ⟨h, -⟩
  · exact absurd hc h
  · cases o with
    | nil => exact h.elim
    | cons x m => simp
theorem Rnd.shorter {E F : Eg} {o u : List Nat} (h : Rnd E o) (k : Rnd F u) (he : ∀ e ∈ E, e ∈ F) (hc : Cyc E) : u.length ≤ o.length := by
  rcases h with ⟨-, h⟩ | ⟨h1, -⟩
  · exact absurd hc h
  · rcases k with ⟨rfl, -⟩ | ⟨-, k⟩
    · exact Nat.zero_le _
    · exact (k o (h1.sub he)).1
theorem Rks.higher {n : Nat} {E F : Eg} {r q : Nat → Nat} (h : Rks n E r) (k : Rks n F q) (he : ∀ e ∈ E, e ∈ F) {v : Nat} (hv : v < n) : r v ≤ q v := by
  obtain ⟨l, h1, h2⟩ := h.way v hv
  rw [← h2]
  exact k.most (h1.sub he)
theorem in_of {n : Nat} {E F : Eg} (h : In n E) (he : ∀ e ∈ F, e ∈ E) : In n F := fun e h1 => h e (he e h1)
end Rk
theorem up2_app (A B : Rk.Eg) : up2 (A ++ B) = up2 A ++ up2 B := by simp [up2]
theorem up2_drop (A : Rk.Eg) (k : Nat) : up2 (A.drop k) = (up2 A).drop k := by simp [up2]
theorem up2_take (A : Rk.Eg) (k : Nat) : up2 (A.take k) = (up2 A).take k := by simp [up2]
theorem ecells_app (A B : List (Int × Int)) : ecells (A ++ B) = ecells A ++ ecells B := by simp [ecells]
/-- A graph that is right stays so, with edges of its own. -/
theorem gfl_in {N : Nat} {E : Rk.Eg} (hN : N ≤ 1000) (hE : Rk.In N E) (hl : E.length ≤ 20000) : gfl (N : Int) (up2 E) = (0, 0) := by
  unfold gfl
  rw [if_neg (by rw [up2_len]; omega)]
  have : ∀ (i : Nat) (F : Rk.Eg), (∀ e ∈ F, e ∈ E) → gfe (N : Int) i (up2 F) = (0, 0) := by
    intro i F
    induction F generalizing i with
    | nil => intro _; rfl
    | cons e r ih =>
      intro h
      have h1 := hE e (h e (List.mem_cons_self ..))
      show (if gbad (N : Int) ((e.1 : Int), (e.2 : Int)) then (14, (i : Int)) else gfe (N : Int) (i + 1) (up2 r)) = (0, 0)
      rw [if_neg (by simp [gbad]; omega)]
      exact ih (i + 1) (fun x hx => h x (List.mem_cons_of_mem _ hx))
  exact this 0 E (fun e he => he)
theorem kpick (x : Int) (n : Nat) (h0 : 0 < n) (hn : n ≤ 1000) : ∃ q : Nat, q < n ∧ wrap64 ((IntKind.u64.wrap x).tmod (n : Int)) = (q : Int) := by
  have h0' : 0 ≤ IntKind.u64.wrap x := by rw [IntKind.wrap_u64]; omega
  have h1 := Int.tmod_eq_emod_of_nonneg (b := (n : Int)) h0'
  have h2 := Int.emod_nonneg (IntKind.u64.wrap x) (b := (n : Int)) (by omega)
  have h3 := Int.emod_lt_of_pos (IntKind.u64.wrap x) (b := (n : Int)) (by omega)
  rw [h1]
  generalize IntKind.u64.wrap x % (n : Int) = z at *
  refine ⟨z.toNat, by omega, ?_⟩
  unfold wrap64
  omega
end Go.Proofs.Ytibhbbgpeckkfaa

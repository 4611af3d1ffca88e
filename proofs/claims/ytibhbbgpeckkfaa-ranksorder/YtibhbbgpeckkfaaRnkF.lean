import Derived.Test.YtibhbbgpeckkfaaRnkE
/- What package ranks answers, in plain words. -/
namespace Go.Proofs.Ytibhbbgpeckkfaa
open Go.RowKit

theorem gfe_nz {n : Int} : ∀ (L : List (Int × Int)) (i : Nat), (gfe n i L).1 = 0 → gfe n i L = (0, 0) ∧ ∀ e ∈ L, gbad n e = false
  | [], _, _ => ⟨rfl, fun e he => by cases he⟩
  | e :: r, i, h => by
    simp only [gfe] at h ⊢
    by_cases hb : gbad n e = true
    · rw [if_pos hb] at h
      simp at h
    · rw [if_neg hb] at h ⊢
      obtain ⟨h1, h2⟩ := gfe_nz r (i + 1) h
      refine ⟨h1, fun x hx => ?_⟩
      rcases List.mem_cons.1 hx with rfl | hx
      · simpa using hb
      · exact h2 x hx
theorem gfl_ok {n : Int} {L : List (Int × Int)} (h : (gfl n L).1 = 0) : gfl n L = (0, 0) ∧ L.length ≤ 20000 ∧ ∃ (N : Nat) (E : Rk.Eg), n = (N : Int) ∧ N ≤ 1000 ∧ L = up2 E ∧ Rk.In N E := by
  unfold gfl at h ⊢
  by_cases hb : n < 0 ∨ 1000 < n ∨ 20000 < L.length
  · rw [if_pos hb] at h
    simp at h
  · rw [if_neg hb] at h ⊢
    obtain ⟨h1, h2⟩ := gfe_nz L 0 h
    refine ⟨h1, by omega, n.toNat, L.map (fun e => (e.1.toNat, e.2.toNat)), by omega, by omega, ?_, ?_⟩
    · unfold up2
      rw [List.map_map]
      conv => lhs; rw [← List.map_id L]
      refine List.map_congr_left (fun e he => ?_)
      have := h2 e he
      simp [gbad] at this
      show e = (((e.1.toNat : Nat) : Int), ((e.2.toNat : Nat) : Int))
      rw [Int.toNat_of_nonneg (by omega), Int.toNat_of_nonneg (by omega)]
    · intro e he
      obtain ⟨x, hx, rfl⟩ := List.mem_map.1 he
      have := h2 x hx
      simp [gbad] at this
      simp only
      omega
/-- What Ranks answers. -/
def KR (n : Int) (L : List (Int × Int)) (w : World) (e : Ending) (w' : World) : Prop :=
  ∃ (a : Option Addr) (k c : Nat) (F : Int × Int), e = .returned (.tuple #[.slice a k c, .agg #[.int .i64 F.1, .int .i64 F.2]]) ∧ Below w.heap.size w w' ∧ (∀ ad, a = some ad → w.heap.size ≤ ad.block) ∧
    (((gfl n L).1 ≠ 0 ∧ k = 0 ∧ F = gfl n L) ∨
     ((gfl n L).1 = 0 ∧ ∀ (N : Nat) (E : Rk.Eg), n = (N : Int) → L = up2 E → (∃ o, o.length = N ∧ k = N ∧ F = (0, 0) ∧ Rk.Rks N E (Rk.g o) ∧ IR w' (.slice a k c) (up o)) ∨ (Rk.Cyc E ∧ k = 0 ∧ F = (17, -1))))
/-- What Round answers. -/
def KO (n : Int) (L : List (Int × Int)) (w : World) (e : Ending) (w' : World) : Prop :=
  ∃ (a : Option Addr) (k c : Nat) (F : Int × Int), e = .returned (.tuple #[.slice a k c, .agg #[.int .i64 F.1, .int .i64 F.2]]) ∧ Below w.heap.size w w' ∧ (∀ ad, a = some ad → w.heap.size ≤ ad.block) ∧
    (((gfl n L).1 ≠ 0 ∧ k = 0 ∧ F = gfl n L) ∨
     ((gfl n L).1 = 0 ∧ F = (0, 0) ∧ ∀ (E : Rk.Eg), L = up2 E → ∃ o, k = o.length ∧ Rk.Rnd E o ∧ IR w' (.slice a k c) (up o)))
theorem up2_inj : ∀ {A B : Rk.Eg}, up2 A = up2 B → A = B
  | [], [], _ => rfl
  | [], b :: B, h => by simp [up2] at h
  | a :: A, [], h => by simp [up2] at h
  | a :: A, b :: B, h => by
    simp only [up2, List.map_cons, List.cons.injEq, Prod.mk.injEq] at h
    obtain ⟨⟨h1, h2⟩, h3⟩ := h
    have e1 : a = b := Prod.ext (by omega) (by omega)
    rw [e1, up2_inj (A := A) (B := B) h3]
end Go.Proofs.Ytibhbbgpeckkfaa

import Derived.Test.YtfngmdebmedkjaePthK
/- What comes of an instruction: the document's own reckoning. -/
namespace Go.Proofs.Ytfngmdebmedkjae
open Go.RowKit

theorem cx_17 {x : Int × Int} {i k : Int} (h : x.1 = 17) : Pa.cx x i k = false := by simp [Pa.cx, h]
theorem cx_15 {x : Int × Int} {i k : Int} (h : x.1 = 15) : Pa.cx x i k = (k == x.2) := by simp [Pa.cx, h]
theorem cx_3 {x : Int × Int} {i k : Int} (h : x.1 = 14 ∨ x.1 = 13 ∨ x.1 = 11) : Pa.cx x i k = (k == i + 1 || k == x.2) := by
  rcases h with h | h | h <;> simp [Pa.cx, h]
theorem cx_0 {x : Int × Int} {i k : Int} (h : x.1 ≠ 17) (h2 : x.1 ≠ 15) (h3 : ¬ (x.1 = 14 ∨ x.1 = 13 ∨ x.1 = 11)) : Pa.cx x i k = (k == i + 1) := by simp [Pa.cx, h, h2, h3]
theorem beq_no {a b : Int} (h : a ≠ b) : (a == b) = false := by simpa using h
theorem beq_yes {a b : Int} (h : a = b) : (a == b) = true := by simpa using h
theorem dec_no {p : Prop} [Decidable p] (h : ¬ p) : decide p = false := by simpa using h

set_option maxRecDepth 100000 in
set_option maxHeartbeats 1000000 in
theorem comes_any (c : Cp) (i k : Int) (w : World) (h : PM c w) :
    Calls Try.prog 23 #[c.v, .int .i64 i, .int .i64 k] w fun e w' => e = .returned (.bool (Pa.comes c.p i k)) ∧ Below w.heap.size w w' := by
  obtain ⟨hl, hne, hr⟩ := h
  obtain ⟨g, o, cc, a, nm, vs, pr, bl, p⟩ := c
  unfold Cp.v
  dsimp only at *
  by_cases i0 : i < 0
  · have e : Pa.comes p i k = false := by unfold Pa.comes; rw [Pa.isI_no.2 (.inl i0)]; rfl
    rw [e]
    go_enter Try.func23, Try.ntmps23
    go_wp2
    go_ret
    exact ⟨rfl, (Below.refl _ _).alloc (Nat.le_refl _) _⟩
  have d1 := dec_no i0
  by_cases k0 : k < 0
  · have e : Pa.comes p i k = false := by unfold Pa.comes; rw [Pa.isI_no (i := k) |>.2 (.inl k0)]; simp
    rw [e]
    go_enter Try.func23, Try.ntmps23
    go_wp2
    go_ret
    exact ⟨rfl, (Below.refl _ _).alloc (Nat.le_refl _) _⟩
  have d2 := dec_no k0
  by_cases i1 : (p.length : Int) ≤ i
  · have e : Pa.comes p i k = false := by unfold Pa.comes; rw [Pa.isI_no.2 (.inr i1)]; rfl
    rw [e]
    go_enter Try.func23, Try.ntmps23
    go_wp2
    go_ret
    exact ⟨rfl, (Below.refl _ _).alloc (Nat.le_refl _) _⟩
  have d3 := dec_no i1
  by_cases k1 : (p.length : Int) ≤ k
  · have e : Pa.comes p i k = false := by unfold Pa.comes; rw [Pa.isI_no (i := k) |>.2 (.inr k1)]; simp
    rw [e]
    go_enter Try.func23, Try.ntmps23
    go_wp2
    go_ret
    exact ⟨rfl, (Below.refl _ _).alloc (Nat.le_refl _) _⟩
  have d4 := dec_no k1
  obtain ⟨j, rfl⟩ : ∃ j : Nat, i = (j : Int) := ⟨i.toNat, by omega⟩
  obtain ⟨x, hx⟩ : ∃ x, p[j]? = some x := ⟨_, List.getElem?_eq_getElem (by omega)⟩
  have e : Pa.comes p j k = Pa.cx x j k := by
    unfold Pa.comes
    rw [Pa.isI_iff.2 ⟨by omega, by omega⟩, Pa.isI_iff.2 ⟨by omega, by omega⟩, Int.toNat_natCast, hx]
    rfl
  rw [e]
  obtain rfl := hne (by rintro rfl; simp at hx)
  obtain ⟨u1, u2, u3, u5, a6, n6, c6, a7, n7, c7, u8, u9, u10, h0, h1, h2, h3, h4, h5, h6, h7, h8, h9, h10⟩ := hr j x hx
  have hjl : j < p.length := by omega
  have hgl : g < w.heap.size := World.block_lt_of_cell? _ _ h0
  clear hne hr e hx
  obtain ⟨op, to⟩ := x
  dsimp only at *
  by_cases o17 : op = 17
  · rw [cx_17 o17]
    subst o17
    go_enter Try.func23, Try.ntmps23
    go_wp2
    go_ret
    exact ⟨rfl, ((Below.refl _ _).alloc (Nat.le_refl _) _).alloc (by simp) _⟩
  have b17 := beq_no o17
  by_cases o15 : op = 15
  · rw [cx_15 o15]
    subst o15
    go_enter Try.func23, Try.ntmps23
    go_wp2
    go_ret
    exact ⟨rfl, ((Below.refl _ _).alloc (Nat.le_refl _) _).alloc (by simp) _⟩
  have b15 := beq_no o15
  by_cases o3 : op = 14 ∨ op = 13 ∨ op = 11
  · rw [cx_3 o3]
    by_cases ks : k = (j : Int) + 1
    · have bk := beq_yes ks
      rw [bk, Bool.true_or]
      rcases o3 with o3 | o3 | o3
      all_goals
        subst o3
        go_enter Try.func23, Try.ntmps23
        go_wp2
        go_ret
        exact ⟨rfl, ((Below.refl _ _).alloc (Nat.le_refl _) _).alloc (by simp) _⟩
    · have bk := beq_no ks
      rw [bk, Bool.false_or]
      rcases o3 with o3 | o3 | o3
      all_goals
        subst o3
        go_enter Try.func23, Try.ntmps23
        go_wp2
        go_ret
        exact ⟨rfl, ((Below.refl _ _).alloc (Nat.le_refl _) _).alloc (by simp) _⟩
  rw [cx_0 o17 o15 o3]
  have b14 := beq_no (fun e => o3 (.inl e))
  have b13 := beq_no (fun e => o3 (.inr (.inl e)))
  have b11 := beq_no (fun e => o3 (.inr (.inr e)))
  clear o3 o15 o17
  go_enter Try.func23, Try.ntmps23
  go_wp2
  go_ret
  exact ⟨rfl, ((Below.refl _ _).alloc (Nat.le_refl _) _).alloc (by simp) _⟩
end Go.Proofs.Ytfngmdebmedkjae

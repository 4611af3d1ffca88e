import Derived.Test.YtdnlnpdaplonfabDoorSnJ
import Derived.Test.YtdnlnpdaplonfabDoorSynGs
import Derived.ChangeArms
/- Arguments that come in: programs are trees. -/
namespace Go.Proofs.YtdnlnpdaplonfabDoor
open Go.RowKit

theorem spot_none {w : World} {a : Addr} {v : Value} (h : w.cell? a = some v) : a = ⟨a.block, a.off, none⟩ := by
  obtain ⟨b, o, sp⟩ := a
  cases sp with
  | none => rfl
  | some x =>
    unfold World.cell? at h
    split at h <;> simp at h
theorem rows_build {w : World} {R : Sx.Tr → List Value → Prop} {Q : Sx.Tr → Prop} {b off z : Nat} (hz : ∀ d c, R d c → c.length = z) (len : Nat)
    (h : ∀ i, i < len → ∃ d c, R d c ∧ Q d ∧ ∀ (j : Nat) u, c[j]? = some u → w.cell? ⟨b, off + (i * z + j), none⟩ = some u) :
    ∃ l cs, l.length = len ∧ Rw R l cs ∧ (∀ (j : Nat) u, cs[j]? = some u → w.cell? ⟨b, off + j, none⟩ = some u) ∧ ∀ (i : Nat) d, l[i]? = some d → Q d := by
  induction len with
  | zero => exact ⟨[], [], rfl, rfl, by simp, by simp⟩
  | succ len ih =>
    obtain ⟨l, cs, h1, h2, h3, h4⟩ := ih (fun i hi => h i (by omega))
    obtain ⟨d, c, g1, g2, g3⟩ := h len (by omega)
    have hl := h2.len hz
    refine ⟨l ++ [d], cs ++ c, by simp [h1], h2.snoc g1, fun j u hu => ?_, fun i e hi => ?_⟩
    · by_cases hj : j < cs.length
      · rw [List.getElem?_append_left hj] at hu
        exact h3 j u hu
      · rw [List.getElem?_append_right (by omega)] at hu
        have := g3 _ u hu
        rwa [show len * z + (j - cs.length) = j from by rw [hl, h1] at *; omega] at this
    · by_cases hil : i < l.length
      · rw [List.getElem?_append_left hil] at hi
        exact h4 i e hi
      · rw [List.getElem?_append_right (by omega)] at hi
        cases hk : i - l.length with
        | zero => rw [hk] at hi; simp at hi; subst hi; exact g2
        | succ k => rw [hk] at hi; simp at hi
section
variable {H : Type} {enc : TypeId × Value → H} {W : World} {spare : Nat → Bool}
theorem open_rows {t e : TypeId} {z fuel : Nat} {v : Value} {x : DataW H × List MemPlace} (ht : Tryd.prog.underlying t = some (.slice e)) (hc : Tryd.prog.cellsOf e = z) (hz0 : 0 < z) {R : Sx.Tr → List Value → Prop} {Q : Sx.Tr → Prop} (hz : ∀ d c, R d c → c.length = z)
    (h : DataW.trod enc Tryd.prog W 0 spare true fuel t [v] = some x) (he : ∀ n cs y, fuel = n + 1 → DataW.trod enc Tryd.prog W 0 spare true n e cs = some y → ∃ d, R d cs ∧ Q d) :
    ∃ l, Sl R W (fun _ => True) l v ∧ l.length ≤ 9223372036854775807 ∧ ∀ (i : Nat) d, l[i]? = some d → Q d := by
  rcases DataW.trod_slice ht h with ⟨h0, -⟩ | ⟨a, len, cap, elems, rest, n, hf, h0, -, -, hlc, hcm, hel, hall, -⟩
  · simp at h0
    subst h0
    exact ⟨[], Sl.nil _ _ _ _ _, by simp, by simp⟩
  · simp at h0
    subst h0
    have hlen : len ≤ 9223372036854775807 := by unfold maxLen at hcm; omega
    by_cases h0 : len = 0
    · subst h0
      exact ⟨[], Sl.nil _ _ _ _ _, by simp, by simp⟩
    · have hone : ∀ i, i < len → ∃ cs y, W.cells? 0 (a.add (i * z)) z = some cs ∧ DataW.trod enc Tryd.prog W 0 spare true n e cs = some y := fun i hi => by
        have h1 := hall i hi
        rw [List.getElem?_eq_getElem (by omega), hc] at h1
        obtain ⟨cs, h2, h3⟩ := Option.bind_eq_some_iff.1 h1
        exact ⟨cs, _, h2, h3⟩
      have ha : a = ⟨a.block, a.off, none⟩ := by
        obtain ⟨cs, y, h1, -⟩ := hone 0 (by omega)
        obtain ⟨-, h2, h3⟩ := World.cells?_some h1
        have h4 := h3 0 hz0
        rw [List.getElem?_eq_getElem (by omega)] at h4
        have h5 := spot_none h4
        obtain ⟨b, o, sp⟩ := a
        simpa [Addr.add] using h5
      obtain ⟨b, o, sp⟩ := a
      simp only [Addr.mk.injEq, true_and] at ha
      subst ha
      obtain ⟨l, cs, h1, h2, h3, h4⟩ := rows_build (w := W) (R := R) (Q := Q) (b := b) (off := o) hz len (fun i hi => by
        obtain ⟨cs, y, g1, g2⟩ := hone i hi
        obtain ⟨d, g3, g4⟩ := he n cs y hf g2
        obtain ⟨-, g5, g6⟩ := World.cells?_some g1
        refine ⟨d, cs, g3, g4, fun j u hu => ?_⟩
        have hj : j < z := by
          have := (List.getElem?_eq_some_iff.1 hu).1
          omega
        have g7 := g6 j hj
        rw [hu, Addr.add_mid, Addr.add_mid, Nat.add_assoc] at g7
        exact g7)
      exact ⟨l, ⟨_, cap, by rw [h1], .inr ⟨b, o, cs, rfl, trivial, h2, h3⟩⟩, by omega, h4⟩
/-- A field of one cell. -/
theorem field_at {t : TypeId} {fs : Array Field} {fuel : Nat} {cs : List Value} {x : DataW H × List MemPlace} (ht : Tryd.prog.underlying t = some (.struct fs)) (h : DataW.trod enc Tryd.prog W 0 spare true fuel t cs = some x) :
    cs.length = Tryd.prog.cellsOf t ∧ ∃ n, fuel = n + 1 ∧ ∀ (i : Nat) (f : Field), fs[i]? = some f → f.offset = i → Tryd.prog.cellsOf f.type = 1 → i < Tryd.prog.cellsOf t → ∃ u y, cs[i]? = some u ∧ DataW.trod enc Tryd.prog W 0 spare true n f.type [u] = some y := by
  obtain ⟨xs, n, hf, -, hl, hx, hall⟩ := DataW.trod_struct ht h
  refine ⟨hl, n, hf, fun i f hfi ho hc hi => ?_⟩
  have h1 := hall i f hfi
  have hix : i < xs.length := by
    rw [hx]
    rcases Nat.lt_or_ge i fs.size with h' | h'
    · exact h'
    · rw [Array.getElem?_eq_none h'] at hfi; cases hfi
  rw [List.getElem?_eq_getElem hix, ho, hc] at h1
  have hic : i < cs.length := by omega
  have h2 : (cs.drop i).take 1 = [cs[i]] := by
    rw [List.drop_eq_getElem_cons hic]
    rfl
  rw [h2] at h1
  exact ⟨cs[i], _, List.getElem?_eq_getElem hic, h1⟩
end
end Go.Proofs.YtdnlnpdaplonfabDoor

import Derived.Test.YtbepaimbbclejaaStZa
import Derived.ChangeArms
import Derived.OpenShut
import Derived.Deep.MidRow
import Derived.Carry
/- Arguments that come in: rows of steps. -/
namespace Go.Proofs.Ytbepaimbbclejaa
open Go.RowKit Go.ChangeShapes

theorem spot_none {w : World} {a : Addr} {v : Value} (h : w.cell? a = some v) : a = ⟨a.block, a.off, none⟩ := by
  obtain ⟨b, o, sp⟩ := a
  cases sp with
  | none => rfl
  | some x =>
    unfold World.cell? at h
    split at h <;> simp at h
theorem pick {α : Type} {R : Nat → α → Prop} (len : Nat) (h : ∀ i, i < len → ∃ x, R i x) : ∃ l : List α, l.length = len ∧ ∀ (i : Nat) x, l[i]? = some x → R i x := by
  induction len with
  | zero => exact ⟨[], rfl, by simp⟩
  | succ len ih =>
    obtain ⟨l, h1, h2⟩ := ih (fun i hi => h i (by omega))
    obtain ⟨x, hx⟩ := h len (by omega)
    refine ⟨l ++ [x], by simp [h1], fun i y hy => ?_⟩
    rcases Nat.lt_or_ge i l.length with h3 | h3
    · rw [List.getElem?_append_left h3] at hy
      exact h2 i y hy
    · rw [List.getElem?_append_right h3] at hy
      have h4 : i - l.length = 0 := by
        have := (List.getElem?_eq_some_iff.1 hy).1
        simp at this; omega
      rw [h4] at hy
      simp at hy
      subst hy
      obtain rfl : i = len := by omega
      exact hx
section
variable {H : Type} {enc : TypeId × Value → H} {W : World} {spare : Nat → Bool}
theorem open_slice {t e : TypeId} {z fuel : Nat} {v : Value} {x : DataW H × List MemPlace} (ht : Try.prog.underlying t = some (.slice e)) (hc : Try.prog.cellsOf e = z) (hz0 : 0 < z)
    (h : DataW.trod enc Try.prog W 0 spare true fuel t [v] = some x) :
    ∃ (len cap : Nat) (a : Option Addr), v = .slice a len cap ∧ len ≤ 9223372036854775807 ∧ (0 < len → ∃ b o, a = some ⟨b, o, none⟩ ∧ ∀ i, i < len → ∃ cs n y, cs.length = z ∧ DataW.trod enc Try.prog W 0 spare true n e cs = some y ∧ ∀ (j : Nat) u, cs[j]? = some u → W.cell? ⟨b, o + i * z + j, none⟩ = some u) := by
  rcases DataW.trod_slice ht h with ⟨h0, -⟩ | ⟨a, len, cap, elems, rest, n, hf, h0, -, -, hlc, hcm, hel, hall, -⟩
  · simp at h0
    subst h0
    exact ⟨0, 0, none, rfl, by omega, fun h => absurd h (by omega)⟩
  · simp at h0
    subst h0
    have hlen : len ≤ 9223372036854775807 := by unfold maxLen at hcm; omega
    refine ⟨len, cap, some a, rfl, hlen, fun hpos => ?_⟩
    have hone : ∀ i, i < len → ∃ cs y, W.cells? 0 (a.add (i * z)) z = some cs ∧ DataW.trod enc Try.prog W 0 spare true n e cs = some y := fun i hi => by
      have h1 := hall i hi
      rw [List.getElem?_eq_getElem (by omega), hc] at h1
      obtain ⟨cs, h2, h3⟩ := Option.bind_eq_some_iff.1 h1
      exact ⟨cs, _, h2, h3⟩
    have ha : a = ⟨a.block, a.off, none⟩ := by
      obtain ⟨cs, y, h1, -⟩ := hone 0 hpos
      obtain ⟨-, h2, h3⟩ := World.cells?_some h1
      have h4 := h3 0 hz0
      rw [List.getElem?_eq_getElem (by omega)] at h4
      have h5 := spot_none h4
      obtain ⟨b, o, sp⟩ := a
      simpa [Addr.add] using h5
    obtain ⟨b, o, sp⟩ := a
    simp only [Addr.mk.injEq, true_and] at ha
    subst ha
    refine ⟨b, o, rfl, fun i hi => ?_⟩
    obtain ⟨cs, y, g1, g2⟩ := hone i hi
    obtain ⟨-, g5, g6⟩ := World.cells?_some g1
    refine ⟨cs, n, y, g5, g2, fun j u hu => ?_⟩
    have hj : j < z := by
      have := (List.getElem?_eq_some_iff.1 hu).1
      omega
    have g7 := g6 j hj
    rw [hu, Addr.add_mid, Addr.add_mid] at g7
    exact g7
theorem c3 : Try.prog.cellsOf 3 = 1 := by kernel_rfl
theorem field_at {t : TypeId} {fs : Array Field} {fuel : Nat} {cs : List Value} {x : DataW H × List MemPlace} (ht : Try.prog.underlying t = some (.struct fs)) (h : DataW.trod enc Try.prog W 0 spare true fuel t cs = some x) :
    cs.length = Try.prog.cellsOf t ∧ ∃ n, fuel = n + 1 ∧ ∀ (i : Nat) (f : Field), fs[i]? = some f → f.offset = i → Try.prog.cellsOf f.type = 1 → i < Try.prog.cellsOf t → ∃ u y, cs[i]? = some u ∧ DataW.trod enc Try.prog W 0 spare true n f.type [u] = some y := by
  obtain ⟨xs, n, hf, -, hl, hx, hall⟩ := DataW.trod_struct ht h
  refine ⟨hl, n, hf, fun i f hfi ho hc hi => ?_⟩
  have h1 := hall i f hfi
  have hix : i < xs.length := by
    rw [hx]
    rcases Nat.lt_or_ge i fs.size with h' | h'
    · exact h'
    · rw [Array.getElem?_eq_none h'] at hfi; cases hfi
  rw [List.getElem?_eq_getElem hix, ho, hc] at h1
  have hic : i < cs.length := by omega
  have h2 : (cs.drop i).take 1 = [cs[i]] := by
    rw [List.drop_eq_getElem_cons hic]
    rfl
  rw [h2] at h1
  exact ⟨cs[i], _, List.getElem?_eq_getElem hic, h1⟩
theorem c4 : Try.prog.cellsOf 4 = 1 := by kernel_rfl
theorem cSt : Try.prog.cellsOf 35 = 5 := by kernel_rfl
theorem open_cps {fuel : Nat} {v : Value} {x : DataW H × List MemPlace} (h : DataW.trod enc Try.prog W 0 spare true fuel 22 [v] = some x) : ∃ L, CpR W v L ∧ L.length ≤ 9223372036854775807 := by
  obtain ⟨len, cap, a, rfl, hl, hr⟩ := open_slice Try.underlying22 cSt (by decide) h
  by_cases h0 : 0 < len
  · obtain ⟨b, o, rfl, hc⟩ := hr h0
    obtain ⟨l, h1, h2⟩ := pick (α := Cp) (R := fun i x => W.cell? ⟨b, o + i * 5, none⟩ = some (.int .i64 x.d) ∧ W.cell? ⟨b, o + i * 5 + 1, none⟩ = some (.int .i64 x.e) ∧ W.cell? ⟨b, o + i * 5 + 2, none⟩ = some (.int .i64 x.t) ∧ W.cell? ⟨b, o + i * 5 + 3, none⟩ = some (.int .i64 x.n) ∧ W.cell? ⟨b, o + i * 5 + 4, none⟩ = some (.bool x.g)) len (fun i hi => by
      obtain ⟨cs, n, y, q1, q2, q3⟩ := hc i hi
      obtain ⟨-, m, -, hfld⟩ := field_at Try.underlying35 q2
      rw [cSt] at hfld
      obtain ⟨z0, w0, k0, r0⟩ := hfld 0 _ rfl rfl c3 (by decide)
      obtain ⟨z1, w1, k1, r1⟩ := hfld 1 _ rfl rfl c3 (by decide)
      obtain ⟨z2, w2, k2, r2⟩ := hfld 2 _ rfl rfl c3 (by decide)
      obtain ⟨z3, w3, k3, r3⟩ := hfld 3 _ rfl rfl c3 (by decide)
      obtain ⟨z4, w4, k4, r4⟩ := hfld 4 _ rfl rfl c4 (by decide)
      obtain ⟨s0, e0, -, -⟩ := DataW.trod_int Try.underlying3 r0
      obtain ⟨s1, e1, -, -⟩ := DataW.trod_int Try.underlying3 r1
      obtain ⟨s2, e2, -, -⟩ := DataW.trod_int Try.underlying3 r2
      obtain ⟨s3, e3, -, -⟩ := DataW.trod_int Try.underlying3 r3
      obtain ⟨s4, e4, -⟩ := DataW.trod_bool Try.underlying4 r4
      simp at e0 e1 e2 e3 e4
      subst e0 e1 e2 e3 e4
      exact ⟨⟨s0, s1, s2, s3, s4⟩, by have := q3 0 _ k0; rwa [Nat.add_zero] at this, q3 1 _ k1, q3 2 _ k2, q3 3 _ k3, q3 4 _ k4⟩)
    subst h1
    exact ⟨l, ⟨_, cap, rfl, fun _ => ⟨b, o, rfl, h2⟩⟩, hl⟩
  · obtain rfl : len = 0 := by omega
    exact ⟨[], ⟨a, cap, rfl, fun h => absurd rfl h⟩, Nat.zero_le _⟩
end
end Go.Proofs.Ytbepaimbbclejaa

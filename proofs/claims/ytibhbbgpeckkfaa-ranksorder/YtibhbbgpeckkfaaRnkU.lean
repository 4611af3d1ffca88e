import Derived.Test.YtibhbbgpeckkfaaRnkAd
import Derived.ChangeArms
import Derived.OpenShut
import Derived.Deep.MidRow
import Derived.Carry
/- Arguments that come in: a row of numbers, a row of edges. -/
namespace Go.Proofs.Ytibhbbgpeckkfaa
open Go.RowKit Go.ChangeShapes

theorem spot_none {w : World} {a : Addr} {v : Value} (h : w.cell? a = some v) : a = ⟨a.block, a.off, none⟩ := by
  obtain ⟨b, o, sp⟩ := a
  cases sp with
  | none => rfl
  | some x =>
    unfold World.cell? at h
    split at h <;> simp at h
theorem pick {α : Type} {R : Nat → α → Prop} (len : Nat) (h : ∀ i, i < len → ∃ x, R i x) : ∃ l : List α, l.length = len ∧ ∀ (i : Nat) x, l[i]? = some x → R i x := by
  induction len with
  | zero => exact ⟨[], rfl, by simp⟩
  | succ len ih =>
    obtain ⟨l, h1, h2⟩ := ih (fun i hi => h i (by omega))
    obtain ⟨x, hx⟩ := h len (by omega)
    refine ⟨l ++ [x], by simp [h1], fun i y hy => ?_⟩
    rcases Pa.get_app hy with ⟨-, h3⟩ | ⟨h3, rfl⟩
    · exact h2 i y h3
    · rw [h3, h1]; exact hx
section
variable {H : Type} {enc : TypeId × Value → H} {W : World} {spare : Nat → Bool}
theorem open_slice {t e : TypeId} {z fuel : Nat} {v : Value} {x : DataW H × List MemPlace} (ht : Try.prog.underlying t = some (.slice e)) (hc : Try.prog.cellsOf e = z) (hz0 : 0 < z)
    (h : DataW.trod enc Try.prog W 0 spare true fuel t [v] = some x) :
    ∃ (len cap : Nat) (a : Option Addr), v = .slice a len cap ∧ len ≤ 9223372036854775807 ∧ (0 < len → ∃ b o, a = some ⟨b, o, none⟩ ∧ ∀ i, i < len → ∃ cs n y, cs.length = z ∧ DataW.trod enc Try.prog W 0 spare true n e cs = some y ∧ ∀ (j : Nat) u, cs[j]? = some u → W.cell? ⟨b, o + i * z + j, none⟩ = some u) := by
  rcases DataW.trod_slice ht h with ⟨h0, -⟩ | ⟨a, len, cap, elems, rest, n, hf, h0, -, -, hlc, hcm, hel, hall, -⟩
  · simp at h0
    subst h0
    exact ⟨0, 0, none, rfl, by omega, fun h => absurd h (by omega)⟩
  · simp at h0
    subst h0
    have hlen : len ≤ 9223372036854775807 := by unfold maxLen at hcm; omega
    refine ⟨len, cap, some a, rfl, hlen, fun hpos => ?_⟩
    have hone : ∀ i, i < len → ∃ cs y, W.cells? 0 (a.add (i * z)) z = some cs ∧ DataW.trod enc Try.prog W 0 spare true n e cs = some y := fun i hi => by
      have h1 := hall i hi
      rw [List.getElem?_eq_getElem (by omega), hc] at h1
      obtain ⟨cs, h2, h3⟩ := Option.bind_eq_some_iff.1 h1
      exact ⟨cs, _, h2, h3⟩
    have ha : a = ⟨a.block, a.off, none⟩ := by
      obtain ⟨cs, y, h1, -⟩ := hone 0 hpos
      obtain ⟨-, h2, h3⟩ := World.cells?_some h1
      have h4 := h3 0 hz0
      rw [List.getElem?_eq_getElem (by omega)] at h4
      have h5 := spot_none h4
      obtain ⟨b, o, sp⟩ := a
      simpa [Addr.add] using h5
    obtain ⟨b, o, sp⟩ := a
    simp only [Addr.mk.injEq, true_and] at ha
    subst ha
    refine ⟨b, o, rfl, fun i hi => ?_⟩
    obtain ⟨cs, y, g1, g2⟩ := hone i hi
    obtain ⟨-, g5, g6⟩ := World.cells?_some g1
    refine ⟨cs, n, y, g5, g2, fun j u hu => ?_⟩
    have hj : j < z := by
      have := (List.getElem?_eq_some_iff.1 hu).1
      omega
    have g7 := g6 j hj
    rw [hu, Addr.add_mid, Addr.add_mid] at g7
    exact g7
theorem c3 : Try.prog.cellsOf 3 = 1 := by kernel_rfl
theorem cEd : Try.prog.cellsOf 30 = 2 := by kernel_rfl
theorem open_ints {fuel : Nat} {v : Value} {x : DataW H × List MemPlace} (h : DataW.trod enc Try.prog W 0 spare true fuel 27 [v] = some x) : ∃ l, IR W v l ∧ l.length ≤ 9223372036854775807 := by
  obtain ⟨len, cap, a, rfl, hl, hr⟩ := open_slice Try.underlying27 c3 (by decide) h
  by_cases h0 : 0 < len
  · obtain ⟨b, o, rfl, hc⟩ := hr h0
    obtain ⟨l, h1, h2⟩ := pick (R := fun i x => W.cell? ⟨b, o + i, none⟩ = some (.int .i64 x)) len (fun i hi => by
      obtain ⟨cs, n, y, q1, q2, q3⟩ := hc i hi
      match cs, q1 with
      | [u], _ =>
        obtain ⟨z, e, -, -⟩ := DataW.trod_int Try.underlying3 q2
        simp at e
        subst e
        have := q3 0 _ rfl
        rw [Nat.mul_one, Nat.add_zero] at this
        exact ⟨z, this⟩)
    exact ⟨l, ⟨_, cap, by rw [h1], fun _ => ⟨b, o, rfl, h2⟩⟩, by omega⟩
  · obtain rfl : len = 0 := by omega
    exact ⟨[], ⟨a, cap, rfl, fun h => absurd rfl h⟩, by simp⟩
theorem open_edges {fuel : Nat} {v : Value} {x : DataW H × List MemPlace} (h : DataW.trod enc Try.prog W 0 spare true fuel 22 [v] = some x) : ∃ L, ER W v L ∧ L.length ≤ 9223372036854775807 ∧ (∀ c, v = .slice none 0 c → c = 0) ∧ ∀ a m c, v = .slice a m c → m ≤ c := by
  have hnc : (∀ c, v = .slice none 0 c → c = 0) ∧ ∀ a m c, v = .slice a m c → m ≤ c := by
    rcases DataW.trod_slice Try.underlying22 h with ⟨h0, -⟩ | ⟨a, len, cap, elems, rest, n, hf, h0, -, -, hlc, -⟩
    · simp at h0
      subst h0
      refine ⟨fun c e => ?_, fun a m c e => ?_⟩
      · simp only [Value.slice.injEq] at e; omega
      · simp only [Value.slice.injEq] at e; omega
    · simp at h0
      subst h0
      refine ⟨fun c e => ?_, fun a m c e => ?_⟩
      · simp only [Value.slice.injEq] at e
        cases e.1
      · simp only [Value.slice.injEq] at e; omega
  obtain ⟨len, cap, a, rfl, hl, hr⟩ := open_slice Try.underlying22 cEd (by decide) h
  by_cases h0 : 0 < len
  · obtain ⟨b, o, rfl, hc⟩ := hr h0
    obtain ⟨l, h1, h2⟩ := pick (α := Int × Int) (R := fun i x => W.cell? ⟨b, o + i * 2, none⟩ = some (.int .i64 x.1) ∧ W.cell? ⟨b, o + i * 2 + 1, none⟩ = some (.int .i64 x.2)) len (fun i hi => by
      obtain ⟨cs, n, y, q1, q2, q3⟩ := hc i hi
      match cs, q1 with
      | [u, u'], _ =>
        obtain ⟨xs, m, -, -, -, hxl, hall⟩ := DataW.trod_array Try.underlying30 q2
        rw [c3] at hall
        have g0 := hall 0 (by decide)
        have g1 := hall 1 (by decide)
        rw [List.getElem?_eq_getElem (by omega)] at g0 g1
        obtain ⟨z, e, -, -⟩ := DataW.trod_int Try.underlying3 (cs := [u]) g0
        obtain ⟨z', e', -, -⟩ := DataW.trod_int Try.underlying3 (cs := [u']) g1
        simp at e e'
        subst e e'
        have w0 := q3 0 _ rfl
        have w1 := q3 1 _ rfl
        rw [Nat.add_zero] at w0
        exact ⟨(z, z'), w0, w1⟩)
    exact ⟨l, ⟨_, cap, by rw [h1], fun _ => ⟨b, o, rfl, h2⟩⟩, by omega, hnc⟩
  · obtain rfl : len = 0 := by omega
    exact ⟨[], ⟨a, cap, rfl, fun h => absurd rfl h⟩, by simp, hnc⟩
end
section
variable {H : Type} {enc : TypeId × Value → H} {P : Program} {w : World} {base : Nat} {spare : Nat → Bool} {held : Bool}
theorem trodAll_five {t t' t'' t3 t4 : TypeId} {args : Array Value} {ds : List (DataW H)} {ps : List MemPlace} (h : DataW.TrodAll enc P w base spare held [t, t', t'', t3, t4] args.toList ds ps) :
    ∃ v v' v'' v3 v4 d d' d'' d3 d4 p p' p'' p3 p4, args = #[v, v', v'', v3, v4] ∧ ds = [d, d', d'', d3, d4] ∧ ps = p ++ p' ++ p'' ++ p3 ++ p4 ∧ DataW.Trod enc P w base spare held t v d p ∧ DataW.Trod enc P w base spare held t' v' d' p' ∧ DataW.Trod enc P w base spare held t'' v'' d'' p'' ∧ DataW.Trod enc P w base spare held t3 v3 d3 p3 ∧ DataW.Trod enc P w base spare held t4 v4 d4 p4 := by
  obtain ⟨v, vs, d, ds', p, q, hargs, rfl, rfl, hd, hrest⟩ := trodAll_cons h
  obtain ⟨v', vs', d', ds'', p', q', rfl, rfl, rfl, hd', hrest'⟩ := trodAll_cons hrest
  obtain ⟨v'', vs'', d'', es, p'', q'', rfl, rfl, rfl, hd'', hrest''⟩ := trodAll_cons hrest'
  obtain ⟨v3, vs3, d3, ds3, p3, q3, rfl, rfl, rfl, hd3, hrest3⟩ := trodAll_cons hrest''
  obtain ⟨v4, vs4, d4, ds4, p4, q4, rfl, rfl, rfl, hd4, hrest4⟩ := trodAll_cons hrest3
  obtain ⟨rfl, rfl, rfl⟩ := trodAll_nil hrest4
  exact ⟨v, v', v'', v3, v4, d, d', d'', d3, d4, p, p', p'', p3, p4, by cases args; simp_all, rfl, by simp, hd, hd', hd'', hd3, hd4⟩
theorem trodAll_mk5 {t t' t'' t3 t4 : TypeId} {v v' v'' v3 v4 : Value} {d d' d'' d3 d4 : DataW H} {p p' p'' p3 p4 : List MemPlace} (h : DataW.Trod enc P w base spare held t v d p) (h' : DataW.Trod enc P w base spare held t' v' d' p')
    (h'' : DataW.Trod enc P w base spare held t'' v'' d'' p'') (h3 : DataW.Trod enc P w base spare held t3 v3 d3 p3) (h4 : DataW.Trod enc P w base spare held t4 v4 d4 p4) : DataW.TrodAll enc P w base spare held [t, t', t'', t3, t4] [v, v', v'', v3, v4] [d, d', d'', d3, d4] (p ++ (p' ++ (p'' ++ (p3 ++ p4)))) := ⟨p, _, h, trodAll_mk4 h' h'' h3 h4, rfl⟩
end
end Go.Proofs.Ytibhbbgpeckkfaa

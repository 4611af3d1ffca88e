import Derived.Test.YtfngmdebmedkjaePthT
import Derived.ChangeArms
import Derived.Deep.MidRow
/- Arguments that come in: a stage as code, a row of numbers. -/
namespace Go.Proofs.Ytfngmdebmedkjae
open Go.RowKit

theorem spot_none {w : World} {a : Addr} {v : Value} (h : w.cell? a = some v) : a = ⟨a.block, a.off, none⟩ := by
  obtain ⟨b, o, sp⟩ := a
  cases sp with
  | none => rfl
  | some x =>
    unfold World.cell? at h
    split at h <;> simp at h
theorem pick {α : Type} {R : Nat → α → Prop} (len : Nat) (h : ∀ i, i < len → ∃ x, R i x) : ∃ l : List α, l.length = len ∧ ∀ (i : Nat) x, l[i]? = some x → R i x := by
  induction len with
  | zero => exact ⟨[], rfl, by simp⟩
  | succ len ih =>
    obtain ⟨l, h1, h2⟩ := ih (fun i hi => h i (by omega))
    obtain ⟨x, hx⟩ := h len (by omega)
    refine ⟨l ++ [x], by simp [h1], fun i y hy => ?_⟩
    rcases Pa.get_app hy with ⟨-, h3⟩ | ⟨h3, rfl⟩
    · exact h2 i y h3
    · rw [h3, h1]; exact hx
section
variable {H : Type} {enc : TypeId × Value → H} {W : World} {spare : Nat → Bool}
theorem open_slice {t e : TypeId} {z fuel : Nat} {v : Value} {x : DataW H × List MemPlace} (ht : Try.prog.underlying t = some (.slice e)) (hc : Try.prog.cellsOf e = z) (hz0 : 0 < z)
    (h : DataW.trod enc Try.prog W 0 spare true fuel t [v] = some x) :
    ∃ (len cap : Nat) (a : Option Addr), v = .slice a len cap ∧ len ≤ 9223372036854775807 ∧ (0 < len → ∃ b o, a = some ⟨b, o, none⟩ ∧ ∀ i, i < len → ∃ cs n y, cs.length = z ∧ DataW.trod enc Try.prog W 0 spare true n e cs = some y ∧ ∀ (j : Nat) u, cs[j]? = some u → W.cell? ⟨b, o + i * z + j, none⟩ = some u) := by
  rcases DataW.trod_slice ht h with ⟨h0, -⟩ | ⟨a, len, cap, elems, rest, n, hf, h0, -, -, hlc, hcm, hel, hall, -⟩
  · simp at h0
    subst h0
    exact ⟨0, 0, none, rfl, by omega, fun h => absurd h (by omega)⟩
  · simp at h0
    subst h0
    have hlen : len ≤ 9223372036854775807 := by unfold maxLen at hcm; omega
    refine ⟨len, cap, some a, rfl, hlen, fun hpos => ?_⟩
    have hone : ∀ i, i < len → ∃ cs y, W.cells? 0 (a.add (i * z)) z = some cs ∧ DataW.trod enc Try.prog W 0 spare true n e cs = some y := fun i hi => by
      have h1 := hall i hi
      rw [List.getElem?_eq_getElem (by omega), hc] at h1
      obtain ⟨cs, h2, h3⟩ := Option.bind_eq_some_iff.1 h1
      exact ⟨cs, _, h2, h3⟩
    have ha : a = ⟨a.block, a.off, none⟩ := by
      obtain ⟨cs, y, h1, -⟩ := hone 0 hpos
      obtain ⟨-, h2, h3⟩ := World.cells?_some h1
      have h4 := h3 0 hz0
      rw [List.getElem?_eq_getElem (by omega)] at h4
      have h5 := spot_none h4
      obtain ⟨b, o, sp⟩ := a
      simpa [Addr.add] using h5
    obtain ⟨b, o, sp⟩ := a
    simp only [Addr.mk.injEq, true_and] at ha
    subst ha
    refine ⟨b, o, rfl, fun i hi => ?_⟩
    obtain ⟨cs, y, g1, g2⟩ := hone i hi
    obtain ⟨-, g5, g6⟩ := World.cells?_some g1
    refine ⟨cs, n, y, g5, g2, fun j u hu => ?_⟩
    have hj : j < z := by
      have := (List.getElem?_eq_some_iff.1 hu).1
      omega
    have g7 := g6 j hj
    rw [hu, Addr.add_mid, Addr.add_mid] at g7
    exact g7
theorem field_at {t : TypeId} {fs : Array Field} {fuel : Nat} {cs : List Value} {x : DataW H × List MemPlace} (ht : Try.prog.underlying t = some (.struct fs)) (h : DataW.trod enc Try.prog W 0 spare true fuel t cs = some x) :
    cs.length = Try.prog.cellsOf t ∧ ∃ n, fuel = n + 1 ∧ ∀ (i : Nat) (f : Field), fs[i]? = some f → f.offset = i → Try.prog.cellsOf f.type = 1 → i < Try.prog.cellsOf t → ∃ u y, cs[i]? = some u ∧ DataW.trod enc Try.prog W 0 spare true n f.type [u] = some y := by
  obtain ⟨xs, n, hf, -, hl, hx, hall⟩ := DataW.trod_struct ht h
  refine ⟨hl, n, hf, fun i f hfi ho hc hi => ?_⟩
  have h1 := hall i f hfi
  have hix : i < xs.length := by
    rw [hx]
    rcases Nat.lt_or_ge i fs.size with h' | h'
    · exact h'
    · rw [Array.getElem?_eq_none h'] at hfi; cases hfi
  rw [List.getElem?_eq_getElem hix, ho, hc] at h1
  have hic : i < cs.length := by omega
  have h2 : (cs.drop i).take 1 = [cs[i]] := by
    rw [List.drop_eq_getElem_cons hic]
    rfl
  rw [h2] at h1
  exact ⟨cs[i], _, List.getElem?_eq_getElem hic, h1⟩
theorem c3 : Try.prog.cellsOf 3 = 1 := by kernel_rfl
theorem c9 : Try.prog.cellsOf 9 = 1 := by kernel_rfl
theorem cPr : Try.prog.cellsOf 26 = 5 := by kernel_rfl
theorem cIn : Try.prog.cellsOf 40 = 11 := by kernel_rfl
theorem cIs : Try.prog.cellsOf 24 = 1 := by kernel_rfl
theorem cVa : Try.prog.cellsOf 42 = 2 := by kernel_rfl
theorem cVs : Try.prog.cellsOf 22 = 1 := by kernel_rfl
theorem cBs : Try.prog.cellsOf 23 = 1 := by kernel_rfl
theorem cPu : Try.prog.cellsOf 37 = 1 := by kernel_rfl
theorem cAr : Try.prog.cellsOf 44 = 2 := by kernel_rfl
theorem cAs : Try.prog.cellsOf 38 = 1 := by kernel_rfl
theorem slice_val {t e : TypeId} {fuel : Nat} {v : Value} {x : DataW H × List MemPlace} (ht : Try.prog.underlying t = some (.slice e)) (h : DataW.trod enc Try.prog W 0 spare true fuel t [v] = some x) : ∃ (a : Option Addr) (n k : Nat), v = .slice a n k := by
  rcases DataW.trod_slice ht h with ⟨h0, -⟩ | ⟨a, len, cap, elems, rest, n, hf, h0, -⟩
  · simp at h0
    subst h0
    exact ⟨_, _, _, rfl⟩
  · simp at h0
    subst h0
    exact ⟨_, _, _, rfl⟩
theorem open_ints {fuel : Nat} {v : Value} {x : DataW H × List MemPlace} (h : DataW.trod enc Try.prog W 0 spare true fuel 30 [v] = some x) : ∃ l, IR W v l ∧ l.length ≤ 9223372036854775807 := by
  obtain ⟨len, cap, a, rfl, hl, hr⟩ := open_slice Try.underlying30 c3 (by decide) h
  by_cases h0 : 0 < len
  · obtain ⟨b, o, rfl, hc⟩ := hr h0
    obtain ⟨l, h1, h2⟩ := pick (R := fun i x => W.cell? ⟨b, o + i, none⟩ = some (.int .i64 x)) len (fun i hi => by
      obtain ⟨cs, n, y, q1, q2, q3⟩ := hc i hi
      match cs, q1 with
      | [u], _ =>
        obtain ⟨z, e, -, -⟩ := DataW.trod_int Try.underlying3 q2
        simp at e
        subst e
        have := q3 0 _ rfl
        rw [Nat.mul_one, Nat.add_zero] at this
        exact ⟨z, this⟩)
    exact ⟨l, ⟨_, cap, by rw [h1], fun _ => ⟨b, o, rfl, h2⟩⟩, by omega⟩
  · obtain rfl : len = 0 := by omega
    exact ⟨[], ⟨a, cap, rfl, fun h => absurd rfl h⟩, by simp⟩
theorem open_arg {fuel : Nat} {v : Value} {x : DataW H × List MemPlace} (h : DataW.trod enc Try.prog W 0 spare true fuel 38 [v] = some x) : ∃ (a7 : Option Addr) (n7 c7 : Nat), v = .slice a7 n7 c7 ∧ (0 < n7 → ∃ g o, a7 = some ⟨g, o, none⟩ ∧ ∀ j, j < n7 → ∃ a n k, W.cell? ⟨g, o + j * 2, none⟩ = some (.slice a n k)) := by
  obtain ⟨len, cap, a, rfl, hl, hr⟩ := open_slice Try.underlying38 cAr (by decide) h
  refine ⟨a, len, cap, rfl, fun h0 => ?_⟩
  obtain ⟨b, o, rfl, hc⟩ := hr h0
  refine ⟨b, o, rfl, fun j hj => ?_⟩
  obtain ⟨cs, n, y, q1, q2, q3⟩ := hc j hj
  obtain ⟨-, m, -, hfld⟩ := field_at Try.underlying44 q2
  rw [cAr] at hfld
  obtain ⟨u, y0, g0, t0⟩ := hfld 0 _ rfl rfl cPu (by decide)
  obtain ⟨a0, n0, k0, rfl⟩ := slice_val Try.underlying37 t0
  exact ⟨a0, n0, k0, by have := q3 0 _ g0; rwa [Nat.add_zero] at this⟩
theorem open_proc {fuel : Nat} {cs : List Value} {x : DataW H × List MemPlace} (h : DataW.trod enc Try.prog W 0 spare true fuel 26 cs = some x) : ∃ c : Cp, cs = [c.nm, c.vs, c.pr, c.bl, .slice c.a c.p.length c.c] ∧ GM c W := by
  obtain ⟨hl, m, -, hfld⟩ := field_at Try.underlying26 h
  rw [cPr] at hl hfld
  obtain ⟨u0, y0, g0, t0⟩ := hfld 0 _ rfl rfl c9 (by decide)
  obtain ⟨u1, y1, g1, t1⟩ := hfld 1 _ rfl rfl cVs (by decide)
  obtain ⟨u2, y2, g2, t2⟩ := hfld 2 _ rfl rfl c3 (by decide)
  obtain ⟨u3, y3, g3, t3⟩ := hfld 3 _ rfl rfl cBs (by decide)
  obtain ⟨u4, y4, g4, t4⟩ := hfld 4 _ rfl rfl cIs (by decide)
  obtain ⟨s, e0, -, -⟩ := DataW.trod_string Try.underlying9 t0
  simp at e0
  subst e0
  obtain ⟨nv, kv, av, rfl, -, hv⟩ := open_slice Try.underlying22 cVa (by decide) t1
  obtain ⟨ab, nb, kb, rfl⟩ := slice_val Try.underlying23 t3
  obtain ⟨len, cap, a, rfl, -, hi⟩ := open_slice Try.underlying24 cIn (by decide) t4
  have hvs : 0 < nv → ∃ g o, av = some ⟨g, o, none⟩ ∧ ∀ i, i < nv → ∃ s t, W.cell? ⟨g, o + i * 2, none⟩ = some (.string s) ∧ W.cell? ⟨g, o + i * 2 + 1, none⟩ = some (.string t) := fun h0 => by
    obtain ⟨b, o, rfl, hc⟩ := hv h0
    refine ⟨b, o, rfl, fun i hi => ?_⟩
    obtain ⟨cs, n, y, q1, q2, q3⟩ := hc i hi
    obtain ⟨-, m, -, hfld⟩ := field_at Try.underlying42 q2
    rw [cVa] at hfld
    obtain ⟨z0, y0, k0, r0⟩ := hfld 0 _ rfl rfl c9 (by decide)
    obtain ⟨z1, y1, k1, r1⟩ := hfld 1 _ rfl rfl c9 (by decide)
    obtain ⟨s0, e0, -, -⟩ := DataW.trod_string Try.underlying9 r0
    obtain ⟨s1, e1, -, -⟩ := DataW.trod_string Try.underlying9 r1
    simp at e0 e1
    subst e0 e1
    exact ⟨s0, s1, by have := q3 0 _ k0; rwa [Nat.add_zero] at this, q3 1 _ k1⟩
  have hrows : ∃ (g o : Nat) (p : Pa.Pr), p.length = len ∧ (p ≠ [] → a = some ⟨g, o, none⟩) ∧ ∀ (i : Nat) x, p[i]? = some x → ∃ (u1 u2 u3 : Int) (u5 : ByteArray) (a6 : Option Addr) (n6 c6 : Nat) (a7 : Option Addr) (n7 c7 : Nat) (u8 u9 u10 : Int), W.cell? ⟨g, o + i * 11, none⟩ = some (.int .i64 x.1) ∧ W.cell? ⟨g, o + i * 11 + 1, none⟩ = some (.int .i64 u1) ∧ W.cell? ⟨g, o + i * 11 + 2, none⟩ = some (.int .i64 u2) ∧ W.cell? ⟨g, o + i * 11 + 3, none⟩ = some (.int .i64 u3) ∧
    W.cell? ⟨g, o + i * 11 + 4, none⟩ = some (.int .i64 x.2) ∧ W.cell? ⟨g, o + i * 11 + 5, none⟩ = some (.string u5) ∧ W.cell? ⟨g, o + i * 11 + 6, none⟩ = some (.slice a6 n6 c6) ∧ W.cell? ⟨g, o + i * 11 + 7, none⟩ = some (.slice a7 n7 c7) ∧ W.cell? ⟨g, o + i * 11 + 8, none⟩ = some (.int .i64 u8) ∧ W.cell? ⟨g, o + i * 11 + 9, none⟩ = some (.int .i64 u9) ∧ W.cell? ⟨g, o + i * 11 + 10, none⟩ = some (.int .i64 u10) ∧
    (0 < n7 → ∃ g o, a7 = some ⟨g, o, none⟩ ∧ ∀ j, j < n7 → ∃ a n k, W.cell? ⟨g, o + j * 2, none⟩ = some (.slice a n k)) := by
    by_cases h0 : 0 < len
    · obtain ⟨b, o, rfl, hc⟩ := hi h0
      refine ⟨b, o, ?_⟩
      obtain ⟨p, h1, h2⟩ := pick (α := Int × Int) (R := fun i x => ∃ (u1 u2 u3 : Int) (u5 : ByteArray) (a6 : Option Addr) (n6 c6 : Nat) (a7 : Option Addr) (n7 c7 : Nat) (u8 u9 u10 : Int), W.cell? ⟨b, o + i * 11, none⟩ = some (.int .i64 x.1) ∧ W.cell? ⟨b, o + i * 11 + 1, none⟩ = some (.int .i64 u1) ∧ W.cell? ⟨b, o + i * 11 + 2, none⟩ = some (.int .i64 u2) ∧ W.cell? ⟨b, o + i * 11 + 3, none⟩ = some (.int .i64 u3) ∧
    W.cell? ⟨b, o + i * 11 + 4, none⟩ = some (.int .i64 x.2) ∧ W.cell? ⟨b, o + i * 11 + 5, none⟩ = some (.string u5) ∧ W.cell? ⟨b, o + i * 11 + 6, none⟩ = some (.slice a6 n6 c6) ∧ W.cell? ⟨b, o + i * 11 + 7, none⟩ = some (.slice a7 n7 c7) ∧ W.cell? ⟨b, o + i * 11 + 8, none⟩ = some (.int .i64 u8) ∧ W.cell? ⟨b, o + i * 11 + 9, none⟩ = some (.int .i64 u9) ∧ W.cell? ⟨b, o + i * 11 + 10, none⟩ = some (.int .i64 u10) ∧
    (0 < n7 → ∃ g o, a7 = some ⟨g, o, none⟩ ∧ ∀ j, j < n7 → ∃ a n k, W.cell? ⟨g, o + j * 2, none⟩ = some (.slice a n k))) len (fun i hi => by
        obtain ⟨cs, n, y, q1, q2, q3⟩ := hc i hi
        obtain ⟨-, m, -, hfld⟩ := field_at Try.underlying40 q2
        rw [cIn] at hfld
        obtain ⟨z0, w0, k0, r0⟩ := hfld 0 _ rfl rfl c3 (by decide)
        obtain ⟨z1, w1, k1, r1⟩ := hfld 1 _ rfl rfl c3 (by decide)
        obtain ⟨z2, w2, k2, r2⟩ := hfld 2 _ rfl rfl c3 (by decide)
        obtain ⟨z3, w3, k3, r3⟩ := hfld 3 _ rfl rfl c3 (by decide)
        obtain ⟨z4, w4, k4, r4⟩ := hfld 4 _ rfl rfl c3 (by decide)
        obtain ⟨z5, w5, k5, r5⟩ := hfld 5 _ rfl rfl c9 (by decide)
        obtain ⟨z6, w6, k6, r6⟩ := hfld 6 _ rfl rfl cPu (by decide)
        obtain ⟨z7, w7, k7, r7⟩ := hfld 7 _ rfl rfl cAs (by decide)
        obtain ⟨z8, w8, k8, r8⟩ := hfld 8 _ rfl rfl c3 (by decide)
        obtain ⟨z9, w9, k9, r9⟩ := hfld 9 _ rfl rfl c3 (by decide)
        obtain ⟨z10, w10, k10, r10⟩ := hfld 10 _ rfl rfl c3 (by decide)
        obtain ⟨v0, e0, -, -⟩ := DataW.trod_int Try.underlying3 r0
        obtain ⟨v1, e1, -, -⟩ := DataW.trod_int Try.underlying3 r1
        obtain ⟨v2, e2, -, -⟩ := DataW.trod_int Try.underlying3 r2
        obtain ⟨v3, e3, -, -⟩ := DataW.trod_int Try.underlying3 r3
        obtain ⟨v4, e4, -, -⟩ := DataW.trod_int Try.underlying3 r4
        obtain ⟨v5, e5, -, -⟩ := DataW.trod_string Try.underlying9 r5
        obtain ⟨v8, e8, -, -⟩ := DataW.trod_int Try.underlying3 r8
        obtain ⟨v9, e9, -, -⟩ := DataW.trod_int Try.underlying3 r9
        obtain ⟨v10, e10, -, -⟩ := DataW.trod_int Try.underlying3 r10
        simp at e0 e1 e2 e3 e4 e5 e8 e9 e10
        subst e0 e1 e2 e3 e4 e5 e8 e9 e10
        obtain ⟨a6, n6, c6, rfl⟩ := slice_val Try.underlying37 r6
        obtain ⟨a7, n7, c7, rfl, h7⟩ := open_arg r7
        exact ⟨(v0, v4), v1, v2, v3, v5, a6, n6, c6, a7, n7, c7, v8, v9, v10, by have := q3 0 _ k0; rwa [Nat.add_zero] at this, q3 1 _ k1, q3 2 _ k2, q3 3 _ k3, q3 4 _ k4, q3 5 _ k5, q3 6 _ k6, q3 7 _ k7, q3 8 _ k8, q3 9 _ k9, q3 10 _ k10, h7⟩)
      exact ⟨p, h1, fun _ => rfl, h2⟩
    · exact ⟨0, 0, [], by simp; omega, fun h => absurd rfl h, by simp⟩
  obtain ⟨g, o, p, hp1, hp2, hp3⟩ := hrows
  refine ⟨⟨g, o, cap, a, .string s, .slice av nv kv, u2, .slice ab nb kb, p⟩, ?_, ⟨hp2, ⟨s, rfl⟩, ⟨nv, kv, av, rfl, hvs⟩, ⟨nb, kb, ab, rfl⟩, hp3⟩⟩
  dsimp only
  rw [hp1]
  match cs, hl with
  | [z0, z1, z2, z3, z4], _ =>
    simp at g0 g1 g2 g3 g4
    rw [g0, g1, g2, g3, g4]
end
end Go.Proofs.Ytfngmdebmedkjae

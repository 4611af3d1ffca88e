import Derived.Test.YtfngmdebmedkjacGreatDoorRxE
import Derived.Test.YtfngmdebmedkjacGreatDoorRxD
import Derived.ChangeArms
/- Arguments that come in: programs are trees. -/
namespace Go.Proofs.YtfngmdebmedkjacGreatDoor
open Go.RowKit

theorem spot_none {w : World} {a : Addr} {v : Value} (h : w.cell? a = some v) : a = ⟨a.block, a.off, none⟩ := by
  obtain ⟨b, o, sp⟩ := a
  cases sp with
  | none => rfl
  | some x =>
    unfold World.cell? at h
    split at h <;> simp at h
theorem rows_build {w : World} {R : Sx.Tr → List Value → Prop} {Q : Sx.Tr → Prop} {b off z : Nat} (hz : ∀ d c, R d c → c.length = z) (len : Nat)
    (h : ∀ i, i < len → ∃ d c, R d c ∧ Q d ∧ ∀ (j : Nat) u, c[j]? = some u → w.cell? ⟨b, off + (i * z + j), none⟩ = some u) :
    ∃ l cs, l.length = len ∧ Rw R l cs ∧ (∀ (j : Nat) u, cs[j]? = some u → w.cell? ⟨b, off + j, none⟩ = some u) ∧ ∀ (i : Nat) d, l[i]? = some d → Q d := by
  induction len with
  | zero => exact ⟨[], [], rfl, rfl, by simp, by simp⟩
  | succ len ih =>
    obtain ⟨l, cs, h1, h2, h3, h4⟩ := ih (fun i hi => h i (by omega))
    obtain ⟨d, c, g1, g2, g3⟩ := h len (by omega)
    have hl := h2.len hz
    refine ⟨l ++ [d], cs ++ c, by simp [h1], h2.snoc g1, fun j u hu => ?_, fun i e hi => ?_⟩
    · by_cases hj : j < cs.length
      · rw [List.getElem?_append_left hj] at hu
        exact h3 j u hu
      · rw [List.getElem?_append_right (by omega)] at hu
        have := g3 _ u hu
        rwa [show len * z + (j - cs.length) = j from by rw [hl, h1] at *; omega] at this
    · by_cases hil : i < l.length
      · rw [List.getElem?_append_left hil] at hi
        exact h4 i e hi
      · rw [List.getElem?_append_right (by omega)] at hi
        cases hk : i - l.length with
        | zero => rw [hk] at hi; simp at hi; subst hi; exact g2
        | succ k => rw [hk] at hi; simp at hi
section
variable {H : Type} {enc : TypeId × Value → H} {W : World} {spare : Nat → Bool}
theorem open_rows {t e : TypeId} {z fuel : Nat} {v : Value} {x : DataW H × List MemPlace} (ht : Tryz.prog.underlying t = some (.slice e)) (hc : Tryz.prog.cellsOf e = z) (hz0 : 0 < z) {R : Sx.Tr → List Value → Prop} {Q : Sx.Tr → Prop} (hz : ∀ d c, R d c → c.length = z)
    (h : DataW.trod enc Tryz.prog W 0 spare true fuel t [v] = some x) (he : ∀ n cs y, fuel = n + 1 → DataW.trod enc Tryz.prog W 0 spare true n e cs = some y → ∃ d, R d cs ∧ Q d) :
    ∃ l, Sl R W (fun _ => True) l v ∧ l.length ≤ 9223372036854775807 ∧ ∀ (i : Nat) d, l[i]? = some d → Q d := by
  rcases DataW.trod_slice ht h with ⟨h0, -⟩ | ⟨a, len, cap, elems, rest, n, hf, h0, -, -, hlc, hcm, hel, hall, -⟩
  · simp at h0
    subst h0
    exact ⟨[], Sl.nil _ _ _ _ _, by simp, by simp⟩
  · simp at h0
    subst h0
    have hlen : len ≤ 9223372036854775807 := by unfold maxLen at hcm; omega
    by_cases h0 : len = 0
    · subst h0
      exact ⟨[], Sl.nil _ _ _ _ _, by simp, by simp⟩
    · have hone : ∀ i, i < len → ∃ cs y, W.cells? 0 (a.add (i * z)) z = some cs ∧ DataW.trod enc Tryz.prog W 0 spare true n e cs = some y := fun i hi => by
        have h1 := hall i hi
        rw [List.getElem?_eq_getElem (by omega), hc] at h1
        obtain ⟨cs, h2, h3⟩ := Option.bind_eq_some_iff.1 h1
        exact ⟨cs, _, h2, h3⟩
      have ha : a = ⟨a.block, a.off, none⟩ := by
        obtain ⟨cs, y, h1, -⟩ := hone 0 (by omega)
        obtain ⟨-, h2, h3⟩ := World.cells?_some h1
        have h4 := h3 0 hz0
        rw [List.getElem?_eq_getElem (by omega)] at h4
        have h5 := spot_none h4
        obtain ⟨b, o, sp⟩ := a
        simpa [Addr.add] using h5
      obtain ⟨b, o, sp⟩ := a
      simp only [Addr.mk.injEq, true_and] at ha
      subst ha
      obtain ⟨l, cs, h1, h2, h3, h4⟩ := rows_build (w := W) (R := R) (Q := Q) (b := b) (off := o) hz len (fun i hi => by
        obtain ⟨cs, y, g1, g2⟩ := hone i hi
        obtain ⟨d, g3, g4⟩ := he n cs y hf g2
        obtain ⟨-, g5, g6⟩ := World.cells?_some g1
        refine ⟨d, cs, g3, g4, fun j u hu => ?_⟩
        have hj : j < z := by
          have := (List.getElem?_eq_some_iff.1 hu).1
          omega
        have g7 := g6 j hj
        rw [hu, Addr.add_mid, Addr.add_mid, Nat.add_assoc] at g7
        exact g7)
      exact ⟨l, ⟨_, cap, by rw [h1], .inr ⟨b, o, cs, rfl, trivial, h2, h3⟩⟩, by omega, h4⟩
/-- A field of one cell. -/
theorem field_at {t : TypeId} {fs : Array Field} {fuel : Nat} {cs : List Value} {x : DataW H × List MemPlace} (ht : Tryz.prog.underlying t = some (.struct fs)) (h : DataW.trod enc Tryz.prog W 0 spare true fuel t cs = some x) :
    cs.length = Tryz.prog.cellsOf t ∧ ∃ n, fuel = n + 1 ∧ ∀ (i : Nat) (f : Field), fs[i]? = some f → f.offset = i → Tryz.prog.cellsOf f.type = 1 → i < Tryz.prog.cellsOf t → ∃ u y, cs[i]? = some u ∧ DataW.trod enc Tryz.prog W 0 spare true n f.type [u] = some y := by
  obtain ⟨xs, n, hf, -, hl, hx, hall⟩ := DataW.trod_struct ht h
  refine ⟨hl, n, hf, fun i f hfi ho hc hi => ?_⟩
  have h1 := hall i f hfi
  have hix : i < xs.length := by
    rw [hx]
    rcases Nat.lt_or_ge i fs.size with h' | h'
    · exact h'
    · rw [Array.getElem?_eq_none h'] at hfi; cases hfi
  rw [List.getElem?_eq_getElem hix, ho, hc] at h1
  have hic : i < cs.length := by omega
  have h2 : (cs.drop i).take 1 = [cs[i]] := by
    rw [List.drop_eq_getElem_cons hic]
    rfl
  rw [h2] at h1
  exact ⟨cs[i], _, List.getElem?_eq_getElem hic, h1⟩
end
end Go.Proofs.YtfngmdebmedkjacGreatDoor


/- Arguments that come in: expressions, statements, stages. -/
namespace Go.Proofs.YtfngmdebmedkjacGreatDoor
open Go.RowKit

theorem cE : Tryz.prog.cellsOf 137 = 4 := by kernel_rfl
theorem cS : Tryz.prog.cellsOf 97 = 9 := by kernel_rfl
theorem cG : Tryz.prog.cellsOf 50 = 4 := by kernel_rfl
theorem cP : Tryz.prog.cellsOf 51 = 2 := by kernel_rfl
theorem c2 : Tryz.prog.cellsOf 2 = 1 := by kernel_rfl
theorem c3 : Tryz.prog.cellsOf 3 = 1 := by kernel_rfl
theorem c9 : Tryz.prog.cellsOf 9 = 1 := by kernel_rfl
theorem cEs : Tryz.prog.cellsOf 95 = 1 := by kernel_rfl
theorem cSs : Tryz.prog.cellsOf 48 = 1 := by kernel_rfl
theorem cPs : Tryz.prog.cellsOf 47 = 1 := by kernel_rfl
theorem cGs : Tryz.prog.cellsOf 22 = 1 := by kernel_rfl
theorem bs_id (s : ByteArray) : bs s.data.toList = s := by simp [bs]
theorem four {α : Type} {l : List α} {a b c d : α} (hl : l.length = 4) (h0 : l[0]? = some a) (h1 : l[1]? = some b) (h2 : l[2]? = some c) (h3 : l[3]? = some d) : l = [a, b, c, d] := by
  match l, hl with
  | [w, x, y, z], _ => simp at h0 h1 h2 h3; rw [h0, h1, h2, h3]
section
variable {H : Type} {enc : TypeId × Value → H} {W : World} {spare : Nat → Bool}
theorem open_EL (fuel : Nat) : ∀ (N : Nat), fuel ≤ N → ∀ (v : Value) (x : DataW H × List MemPlace), DataW.trod enc Tryz.prog W 0 spare true fuel 95 [v] = some x → ∃ l, EL W (fun _ => True) N l v ∧ LbE N l := by
  induction fuel using Nat.strongRecOn with
  | ind fuel ih =>
    intro N hN v x h
    cases fuel with
    | zero => simp [DataW.trod] at h
    | succ f =>
      obtain ⟨N', rfl⟩ : ∃ N', N = N' + 1 := ⟨N - 1, by omega⟩
      obtain ⟨l, h1, h2, h3⟩ := open_rows (R := RE W (fun _ => True) N') (Q := fun d => LbE N' (Sx.eL d)) Tryz.underlying95 cE (by decide) RE_len h (fun n cs y hf hy => by
        obtain ⟨hl, m, hm, hfld⟩ := field_at Tryz.underlying137 hy
        rw [cE] at hl hfld
        obtain ⟨u0, y0, g0, t0⟩ := hfld 0 _ rfl rfl c3 (by decide)
        obtain ⟨u1, y1, g1, t1⟩ := hfld 1 _ rfl rfl c9 (by decide)
        obtain ⟨u2, y2, g2, t2⟩ := hfld 2 _ rfl rfl c2 (by decide)
        obtain ⟨u3, y3, g3, t3⟩ := hfld 3 _ rfl rfl cEs (by decide)
        obtain ⟨op, e0, -, -⟩ := DataW.trod_int Tryz.underlying3 t0
        obtain ⟨s, e1, -, -⟩ := DataW.trod_string Tryz.underlying9 t1
        obtain ⟨k, e2, -, -⟩ := DataW.trod_int Tryz.underlying2 t2
        simp at e0 e1 e2
        subst e0 e1 e2
        obtain ⟨L, hL, hLb⟩ := ih m (by omega) N' (by omega) u3 y3 t3
        refine ⟨Sx.tE op s.data.toList k L, ⟨op, s.data.toList, k, L, u3, rfl, ?_, hL⟩, hLb⟩
        rw [bs_id]
        exact four hl g0 g1 g2 g3)
      exact ⟨l, EL.of_sl h1, h2, h3⟩
theorem open_SL (fuel : Nat) : ∀ (N : Nat), fuel ≤ N → ∀ (v : Value) (x : DataW H × List MemPlace), DataW.trod enc Tryz.prog W 0 spare true fuel 48 [v] = some x → ∃ l, SL W (fun _ => True) N l v ∧ LbS N l := by
  induction fuel using Nat.strongRecOn with
  | ind fuel ih =>
    intro N hN v x h
    cases fuel with
    | zero => simp [DataW.trod] at h
    | succ f =>
      obtain ⟨N', rfl⟩ : ∃ N', N = N' + 1 := ⟨N - 1, by omega⟩
      obtain ⟨l, h1, h2, h3⟩ := open_rows (R := RS W (fun _ => True) N') (Q := fun d => LbE N' (Sx.sE d) ∧ LbS N' (Sx.sB d) ∧ LbS N' (Sx.sO d)) Tryz.underlying48 cS (by decide) RS_len h (fun n cs y hf hy => by
        obtain ⟨hl, m, hm, hfld⟩ := field_at Tryz.underlying97 hy
        rw [cS] at hl hfld
        obtain ⟨u0, y0, g0, t0⟩ := hfld 0 _ rfl rfl c3 (by decide)
        obtain ⟨u1, y1, g1, t1⟩ := hfld 1 _ rfl rfl c3 (by decide)
        obtain ⟨u2, y2, g2, t2⟩ := hfld 2 _ rfl rfl c9 (by decide)
        obtain ⟨u3, y3, g3, t3⟩ := hfld 3 _ rfl rfl c9 (by decide)
        obtain ⟨u4, y4, g4, t4⟩ := hfld 4 _ rfl rfl c9 (by decide)
        obtain ⟨u5, y5, g5, t5⟩ := hfld 5 _ rfl rfl c3 (by decide)
        obtain ⟨u6, y6, g6, t6⟩ := hfld 6 _ rfl rfl cEs (by decide)
        obtain ⟨u7, y7, g7, t7⟩ := hfld 7 _ rfl rfl cSs (by decide)
        obtain ⟨u8, y8, g8, t8⟩ := hfld 8 _ rfl rfl cSs (by decide)
        obtain ⟨D, e0, -, -⟩ := DataW.trod_int Tryz.underlying3 t0
        obtain ⟨at', e1, -, -⟩ := DataW.trod_int Tryz.underlying3 t1
        obtain ⟨A, e2, -, -⟩ := DataW.trod_string Tryz.underlying9 t2
        obtain ⟨B, e3, -, -⟩ := DataW.trod_string Tryz.underlying9 t3
        obtain ⟨T, e4, -, -⟩ := DataW.trod_string Tryz.underlying9 t4
        obtain ⟨k, e5, -, -⟩ := DataW.trod_int Tryz.underlying3 t5
        simp at e0 e1 e2 e3 e4 e5
        subst e0 e1 e2 e3 e4 e5
        obtain ⟨E, hE, hEb⟩ := open_EL m N' (by omega) u6 y6 t6
        obtain ⟨body, hB, hBb⟩ := ih m (by omega) N' (by omega) u7 y7 t7
        obtain ⟨els, hL, hLb⟩ := ih m (by omega) N' (by omega) u8 y8 t8
        refine ⟨Sx.tS D at' A.data.toList B.data.toList T.data.toList k E body els, ⟨D, at', A.data.toList, B.data.toList, T.data.toList, k, E, body, els, u6, u7, u8, rfl, ?_, hE, hB, hL⟩, hEb, hBb, hLb⟩
        rw [bs_id, bs_id, bs_id]
        match cs, hl with
        | [z0, z1, z2, z3, z4, z5, z6, z7, z8], _ =>
          simp at g0 g1 g2 g3 g4 g5 g6 g7 g8
          rw [g0, g1, g2, g3, g4, g5, g6, g7, g8])
      exact ⟨l, h1, h2, h3⟩
theorem open_PL (fuel : Nat) (v : Value) (x : DataW H × List MemPlace) (h : DataW.trod enc Tryz.prog W 0 spare true fuel 47 [v] = some x) : ∃ l, Sl RP W (fun _ => True) l v ∧ l.length ≤ 9223372036854775807 := by
  obtain ⟨l, h1, h2, -⟩ := open_rows (R := RP) (Q := fun _ => True) Tryz.underlying47 cP (by decide) RP_len h (fun n cs y hf hy => by
    obtain ⟨hl, m, hm, hfld⟩ := field_at Tryz.underlying51 hy
    rw [cP] at hl hfld
    obtain ⟨u0, y0, g0, t0⟩ := hfld 0 _ rfl rfl c9 (by decide)
    obtain ⟨u1, y1, g1, t1⟩ := hfld 1 _ rfl rfl c9 (by decide)
    obtain ⟨A, e0, -, -⟩ := DataW.trod_string Tryz.underlying9 t0
    obtain ⟨B, e1, -, -⟩ := DataW.trod_string Tryz.underlying9 t1
    simp at e0 e1
    subst e0 e1
    refine ⟨Sx.tP A.data.toList B.data.toList, ⟨A.data.toList, B.data.toList, rfl, ?_⟩, trivial⟩
    rw [bs_id, bs_id]
    match cs, hl with
    | [z0, z1], _ =>
      simp at g0 g1
      rw [g0, g1])
  exact ⟨l, h1, h2⟩
theorem open_GL (fuel N : Nat) (hN : fuel ≤ N) (v : Value) (x : DataW H × List MemPlace) (h : DataW.trod enc Tryz.prog W 0 spare true fuel 22 [v] = some x) : ∃ l, Sl (RG W (fun _ => True) N) W (fun _ => True) l v ∧ LbG N l := by
  obtain ⟨l, h1, h2, h3⟩ := open_rows (R := RG W (fun _ => True) N) (Q := fun d => LbS N (Sx.gB d) ∧ (Sx.gP d).length ≤ 9223372036854775807) Tryz.underlying22 cG (by decide) RG_len h (fun n cs y hf hy => by
    obtain ⟨hl, m, hm, hfld⟩ := field_at Tryz.underlying50 hy
    rw [cG] at hl hfld
    obtain ⟨u0, y0, g0, t0⟩ := hfld 0 _ rfl rfl c9 (by decide)
    obtain ⟨u1, y1, g1, t1⟩ := hfld 1 _ rfl rfl c3 (by decide)
    obtain ⟨u2, y2, g2, t2⟩ := hfld 2 _ rfl rfl cPs (by decide)
    obtain ⟨u3, y3, g3, t3⟩ := hfld 3 _ rfl rfl cSs (by decide)
    obtain ⟨A, e0, -, -⟩ := DataW.trod_string Tryz.underlying9 t0
    obtain ⟨k, e1, -, -⟩ := DataW.trod_int Tryz.underlying3 t1
    simp at e0 e1
    subst e0 e1
    obtain ⟨ps, hP, hPb⟩ := open_PL m u2 y2 t2
    obtain ⟨body, hB, hBb⟩ := open_SL m N (by omega) u3 y3 t3
    refine ⟨Sx.tG A.data.toList k ps body, ⟨A.data.toList, k, ps, body, u2, u3, rfl, ?_, hP, hB⟩, hBb, hPb⟩
    rw [bs_id]
    exact four hl g0 g1 g2 g3)
  exact ⟨l, h1, h2, h3⟩
end
end Go.Proofs.YtfngmdebmedkjacGreatDoor

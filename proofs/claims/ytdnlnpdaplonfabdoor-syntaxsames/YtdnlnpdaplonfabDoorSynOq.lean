import Derived.Test.YtdnlnpdaplonfabDoorSynOp
/- Arguments that come in: expressions, statements, stages. -/
namespace Go.Proofs.YtdnlnpdaplonfabDoor
open Go.RowKit

theorem cE : Tryd.prog.cellsOf 88 = 4 := by kernel_rfl
theorem cS : Tryd.prog.cellsOf 53 = 9 := by kernel_rfl
theorem cG : Tryd.prog.cellsOf 45 = 4 := by kernel_rfl
theorem cP : Tryd.prog.cellsOf 68 = 2 := by kernel_rfl
theorem c2 : Tryd.prog.cellsOf 2 = 1 := by kernel_rfl
theorem c3 : Tryd.prog.cellsOf 3 = 1 := by kernel_rfl
theorem c9 : Tryd.prog.cellsOf 9 = 1 := by kernel_rfl
theorem cEs : Tryd.prog.cellsOf 51 = 1 := by kernel_rfl
theorem cSs : Tryd.prog.cellsOf 43 = 1 := by kernel_rfl
theorem cPs : Tryd.prog.cellsOf 42 = 1 := by kernel_rfl
theorem cGs : Tryd.prog.cellsOf 31 = 1 := by kernel_rfl
theorem bs_id (s : ByteArray) : bs s.data.toList = s := by simp [bs]
theorem four {α : Type} {l : List α} {a b c d : α} (hl : l.length = 4) (h0 : l[0]? = some a) (h1 : l[1]? = some b) (h2 : l[2]? = some c) (h3 : l[3]? = some d) : l = [a, b, c, d] := by
  match l, hl with
  | [w, x, y, z], _ => simp at h0 h1 h2 h3; rw [h0, h1, h2, h3]
section
variable {H : Type} {enc : TypeId × Value → H} {W : World} {spare : Nat → Bool}
theorem open_EL (fuel : Nat) : ∀ (N : Nat), fuel ≤ N → ∀ (v : Value) (x : DataW H × List MemPlace), DataW.trod enc Tryd.prog W 0 spare true fuel 51 [v] = some x → ∃ l, EL W (fun _ => True) N l v ∧ LbE N l := by
  induction fuel using Nat.strongRecOn with
  | ind fuel ih =>
    intro N hN v x h
    cases fuel with
    | zero => simp [DataW.trod] at h
    | succ f =>
      obtain ⟨N', rfl⟩ : ∃ N', N = N' + 1 := ⟨N - 1, by omega⟩
      obtain ⟨l, h1, h2, h3⟩ := open_rows (R := RE W (fun _ => True) N') (Q := fun d => LbE N' (Sx.eL d)) Tryd.underlying51 cE (by decide) RE_len h (fun n cs y hf hy => by
        obtain ⟨hl, m, hm, hfld⟩ := field_at Tryd.underlying88 hy
        rw [cE] at hl hfld
        obtain ⟨u0, y0, g0, t0⟩ := hfld 0 _ rfl rfl c3 (by decide)
        obtain ⟨u1, y1, g1, t1⟩ := hfld 1 _ rfl rfl c9 (by decide)
        obtain ⟨u2, y2, g2, t2⟩ := hfld 2 _ rfl rfl c2 (by decide)
        obtain ⟨u3, y3, g3, t3⟩ := hfld 3 _ rfl rfl cEs (by decide)
        obtain ⟨op, e0, -, -⟩ := DataW.trod_int Tryd.underlying3 t0
        obtain ⟨s, e1, -, -⟩ := DataW.trod_string Tryd.underlying9 t1
        obtain ⟨k, e2, -, -⟩ := DataW.trod_int Tryd.underlying2 t2
        simp at e0 e1 e2
        subst e0 e1 e2
        obtain ⟨L, hL, hLb⟩ := ih m (by omega) N' (by omega) u3 y3 t3
        refine ⟨Sx.tE op s.data.toList k L, ⟨op, s.data.toList, k, L, u3, rfl, ?_, hL⟩, hLb⟩
        rw [bs_id]
        exact four hl g0 g1 g2 g3)
      exact ⟨l, EL.of_sl h1, h2, h3⟩
theorem open_SL (fuel : Nat) : ∀ (N : Nat), fuel ≤ N → ∀ (v : Value) (x : DataW H × List MemPlace), DataW.trod enc Tryd.prog W 0 spare true fuel 43 [v] = some x → ∃ l, SL W (fun _ => True) N l v ∧ LbS N l := by
  induction fuel using Nat.strongRecOn with
  | ind fuel ih =>
    intro N hN v x h
    cases fuel with
    | zero => simp [DataW.trod] at h
    | succ f =>
      obtain ⟨N', rfl⟩ : ∃ N', N = N' + 1 := ⟨N - 1, by omega⟩
      obtain ⟨l, h1, h2, h3⟩ := open_rows (R := RS W (fun _ => True) N') (Q := fun d => LbE N' (Sx.sE d) ∧ LbS N' (Sx.sB d) ∧ LbS N' (Sx.sO d)) Tryd.underlying43 cS (by decide) RS_len h (fun n cs y hf hy => by
        obtain ⟨hl, m, hm, hfld⟩ := field_at Tryd.underlying53 hy
        rw [cS] at hl hfld
        obtain ⟨u0, y0, g0, t0⟩ := hfld 0 _ rfl rfl c3 (by decide)
        obtain ⟨u1, y1, g1, t1⟩ := hfld 1 _ rfl rfl c3 (by decide)
        obtain ⟨u2, y2, g2, t2⟩ := hfld 2 _ rfl rfl c9 (by decide)
        obtain ⟨u3, y3, g3, t3⟩ := hfld 3 _ rfl rfl c9 (by decide)
        obtain ⟨u4, y4, g4, t4⟩ := hfld 4 _ rfl rfl c9 (by decide)
        obtain ⟨u5, y5, g5, t5⟩ := hfld 5 _ rfl rfl c3 (by decide)
        obtain ⟨u6, y6, g6, t6⟩ := hfld 6 _ rfl rfl cEs (by decide)
        obtain ⟨u7, y7, g7, t7⟩ := hfld 7 _ rfl rfl cSs (by decide)
        obtain ⟨u8, y8, g8, t8⟩ := hfld 8 _ rfl rfl cSs (by decide)
        obtain ⟨D, e0, -, -⟩ := DataW.trod_int Tryd.underlying3 t0
        obtain ⟨at', e1, -, -⟩ := DataW.trod_int Tryd.underlying3 t1
        obtain ⟨A, e2, -, -⟩ := DataW.trod_string Tryd.underlying9 t2
        obtain ⟨B, e3, -, -⟩ := DataW.trod_string Tryd.underlying9 t3
        obtain ⟨T, e4, -, -⟩ := DataW.trod_string Tryd.underlying9 t4
        obtain ⟨k, e5, -, -⟩ := DataW.trod_int Tryd.underlying3 t5
        simp at e0 e1 e2 e3 e4 e5
        subst e0 e1 e2 e3 e4 e5
        obtain ⟨E, hE, hEb⟩ := open_EL m N' (by omega) u6 y6 t6
        obtain ⟨body, hB, hBb⟩ := ih m (by omega) N' (by omega) u7 y7 t7
        obtain ⟨els, hL, hLb⟩ := ih m (by omega) N' (by omega) u8 y8 t8
        refine ⟨Sx.tS D at' A.data.toList B.data.toList T.data.toList k E body els, ⟨D, at', A.data.toList, B.data.toList, T.data.toList, k, E, body, els, u6, u7, u8, rfl, ?_, hE, hB, hL⟩, hEb, hBb, hLb⟩
        rw [bs_id, bs_id, bs_id]
        match cs, hl with
        | [z0, z1, z2, z3, z4, z5, z6, z7, z8], _ =>
          simp at g0 g1 g2 g3 g4 g5 g6 g7 g8
          rw [g0, g1, g2, g3, g4, g5, g6, g7, g8])
      exact ⟨l, h1, h2, h3⟩
theorem open_PL (fuel : Nat) (v : Value) (x : DataW H × List MemPlace) (h : DataW.trod enc Tryd.prog W 0 spare true fuel 42 [v] = some x) : ∃ l, Sl RP W (fun _ => True) l v ∧ l.length ≤ 9223372036854775807 := by
  obtain ⟨l, h1, h2, -⟩ := open_rows (R := RP) (Q := fun _ => True) Tryd.underlying42 cP (by decide) RP_len h (fun n cs y hf hy => by
    obtain ⟨hl, m, hm, hfld⟩ := field_at Tryd.underlying68 hy
    rw [cP] at hl hfld
    obtain ⟨u0, y0, g0, t0⟩ := hfld 0 _ rfl rfl c9 (by decide)
    obtain ⟨u1, y1, g1, t1⟩ := hfld 1 _ rfl rfl c9 (by decide)
    obtain ⟨A, e0, -, -⟩ := DataW.trod_string Tryd.underlying9 t0
    obtain ⟨B, e1, -, -⟩ := DataW.trod_string Tryd.underlying9 t1
    simp at e0 e1
    subst e0 e1
    refine ⟨Sx.tP A.data.toList B.data.toList, ⟨A.data.toList, B.data.toList, rfl, ?_⟩, trivial⟩
    rw [bs_id, bs_id]
    match cs, hl with
    | [z0, z1], _ =>
      simp at g0 g1
      rw [g0, g1])
  exact ⟨l, h1, h2⟩
theorem open_GL (fuel N : Nat) (hN : fuel ≤ N) (v : Value) (x : DataW H × List MemPlace) (h : DataW.trod enc Tryd.prog W 0 spare true fuel 31 [v] = some x) : ∃ l, Sl (RG W (fun _ => True) N) W (fun _ => True) l v ∧ LbG N l := by
  obtain ⟨l, h1, h2, h3⟩ := open_rows (R := RG W (fun _ => True) N) (Q := fun d => LbS N (Sx.gB d) ∧ (Sx.gP d).length ≤ 9223372036854775807) Tryd.underlying31 cG (by decide) RG_len h (fun n cs y hf hy => by
    obtain ⟨hl, m, hm, hfld⟩ := field_at Tryd.underlying45 hy
    rw [cG] at hl hfld
    obtain ⟨u0, y0, g0, t0⟩ := hfld 0 _ rfl rfl c9 (by decide)
    obtain ⟨u1, y1, g1, t1⟩ := hfld 1 _ rfl rfl c3 (by decide)
    obtain ⟨u2, y2, g2, t2⟩ := hfld 2 _ rfl rfl cPs (by decide)
    obtain ⟨u3, y3, g3, t3⟩ := hfld 3 _ rfl rfl cSs (by decide)
    obtain ⟨A, e0, -, -⟩ := DataW.trod_string Tryd.underlying9 t0
    obtain ⟨k, e1, -, -⟩ := DataW.trod_int Tryd.underlying3 t1
    simp at e0 e1
    subst e0 e1
    obtain ⟨ps, hP, hPb⟩ := open_PL m u2 y2 t2
    obtain ⟨body, hB, hBb⟩ := open_SL m N (by omega) u3 y3 t3
    refine ⟨Sx.tG A.data.toList k ps body, ⟨A.data.toList, k, ps, body, u2, u3, rfl, ?_, hP, hB⟩, hBb, hPb⟩
    rw [bs_id]
    exact four hl g0 g1 g2 g3)
  exact ⟨l, h1, h2, h3⟩
end
end Go.Proofs.YtdnlnpdaplonfabDoor

import Derived.Test.YtdbciaihnikibacGreatDoorRenLa
import Derived.Test.YtdbciaihnikibacGreatDoorRxS
import Derived.Test.YtdbciaihnikibacGreatDoorRenSb
/- The law RenderPrints: it answers true. -/
namespace Go.Proofs.YtdbciaihnikibacGreatDoor
open Go.RowKit

theorem GL.keep {w w' : World} {P : Nat → Prop} {n : Nat} {l : List Sx.Tr} {v : Value} (h : Sl (RG w P n) w P l v) (hk : Kp [] w w') : Sl (RG w' P n) w' P l v := h.keep hk (by simp) (fun d c h => h.keep hk (by simp))
theorem Rn.told_ok {n : Nat} {l : List Sx.Tr} (h : (Rn.told n l).1 = 0) : (Rn.pf n l).1 = 0 := by
  by_cases hf : (Rn.pf n l).1 = 0
  · exact hf
  · unfold Rn.told at h
    rw [if_pos hf] at h
    exact h

set_option maxRecDepth 100000 in
set_option maxHeartbeats 2000000 in
theorem prints_any (N : Nat) (w : World) (hT : Tb w) (P : Nat → Prop) (l : List Sx.Tr) (a : Option Addr) (cap : Nat) (h : Sl (RG w P N) w P l (.slice a l.length cap)) (hb : LbG N l) :
    Calls Tryz.prog 3 #[.agg #[.slice a l.length cap]] w fun e w' => e = .returned (.bool true) ∧ Kp [] w w' := by
  have HT := hide hT
  have H1 := hide h
  have HB := hide hb
  clear hT h hb
  go_enter Tryz.func3, Tryz.ntmps3
  go_wp2_with fail
  refine (rbegun_any _ (HT.out.kp ((Kp.refl _ _).alloc _))).mono ?_
  rintro e w1 ⟨rfl, hk1⟩
  have K1 : Hid (Kp [] w w1) := hide (((Kp.refl [] _).alloc _).trans hk1)
  have x0 : w1.cell? ⟨w.heap.size, 0, none⟩ = some (.slice a l.length cap) := hk1.some (by simp [go_sem]) (by simp)
  clear hk1
  go_wp2_with fail
  refine (greatN_any N _ P l a cap (GL.keep H1.out K1.out) HB.out).mono ?_
  rintro e w2 ⟨g, rfl, hg, hk2⟩
  have K2 := hide (K1.out.trans hk2)
  have y0 := hk2.some x0 (by simp)
  clear hk2 x0
  cases g with
  | true =>
    go_wp2
    go_ret
    exact ⟨rfl, K2.out⟩
  | false =>
    obtain ⟨hs, hgn⟩ := hg rfl
    obtain ⟨hNm, hlow⟩ := lower_GL hs hgn
    have HS := hide hs
    have HNm := hide hNm
    have HLow := hide hlow
    clear hg hs hgn hNm hlow
    go_wp2_with fail
    refine (copyProgram_any N _ P l a cap (GL.keep H1.out K2.out) HS.out).mono ?_
    rintro e w3 ⟨a3, cap3, rfl, hs3, hk3⟩
    have K3 := hide (K2.out.trans hk3)
    have HCp := hide hs3
    have z0 := hk3.some y0 (by simp)
    have hb0 := World.block_lt_of_cell? _ _ z0
    clear hk3 hs3 y0
    have KA : Hid (Kp [] w3 (w3.alloc (.cells #[.slice a3 l.length cap3] 24))) := hide ((Kp.refl _ _).alloc _)
    have CP := hide (print_any (min N 1000002) _ _ l a3 cap3 (HT.out.kp (K3.out.trans KA.out)) (HLow.out _ _ _ (GL.keep HCp.out KA.out)) HNm.out)
    have C3 : Hid (∀ w', Kp [] w w' → Calls Tryz.prog 12 #[.agg #[.slice a l.length cap]] w' fun e w'' => e = .returned (.agg #[.int .i64 (Rn.told (min N 1000002) l).1, .int .i64 (Rn.told (min N 1000002) l).2]) ∧ Kp [] w' w'') := hide (fun w' k => renderFault_any _ w' P l a cap (HT.out.kp k) (HLow.out _ _ _ (GL.keep H1.out k)) HNm.out)
    have C4 : Hid (∀ w', Kp [] w3 w' → Calls Tryz.prog 13 #[.agg #[.slice a3 l.length cap3], .agg #[.slice a l.length cap], .bool true] w' fun e w'' => e = .returned (.bool true) ∧ Kp [] w' w'') := hide (fun w' k => rsameT_any N w' _ P l a3 a cap3 cap (GL.keep HCp.out k) (GL.keep H1.out (K3.out.trans k)) HS.out)
    have C5 : Hid (∀ w', Kp [] w w' → (Rn.told (min N 1000002) l).1 = 0 → Calls Tryz.prog 14 #[.agg #[.slice a l.length cap]] w' fun e w'' => e = .returned (.string (bs (Rn.pt (min N 1000002) l))) ∧ Kp [] w' w'') := hide (fun w' k h0 => by
      obtain ⟨-, -, p3, p4⟩ := Rn.pf_ok (Rn.told_ok h0)
      exact rtext_any _ w' P l a cap (HT.out.kp k) (HLow.out _ _ _ (GL.keep H1.out k)) HNm.out p3 p4)
    have EX : Hid (Rn.ptx (min N 1000002) l = if (Rn.told (min N 1000002) l).1 ≠ 0 then [] else Rn.pt (min N 1000002) l) := rfl
    generalize Rn.told (min N 1000002) l = F at *
    generalize Rn.pt (min N 1000002) l = X at *
    generalize Rn.ptx (min N 1000002) l = Y at *
    by_cases hF : F.1 = 0
    · have q1 : (F.1 != 0) = false := by simpa using hF
      have q2 : (F.1 == 0) = true := by simpa using hF
      have eY : Y = X := by rw [EX.out, if_neg (by simpa using hF)]
      subst eY
      have C5' := hide (fun w' k => C5.out w' k hF)
      clear EX C5 hF
      go_wp2_with fail
      refine CP.out.mono ?_
      rintro e w4 ⟨rfl, hk4⟩
      have K4 := hide (KA.out.trans hk4)
      have u0 := K4.out.some z0 (by simp)
      have v0 : w4.cell? ⟨w3.heap.size, 0, none⟩ = some (.slice a3 l.length cap3) := hk4.some (by simp [go_sem]) (by simp)
      have hb4 := World.block_lt_of_cell? _ _ v0
      have hb4' := World.block_lt_of_cell? _ _ u0
      clear hk4 CP
      go_wp2_with fail
      refine (C3.out _ (K3.out.trans (K4.out.alloc _))).mono ?_
      rintro e w5 ⟨rfl, hk5⟩
      have K5 := hide ((K4.out.alloc (.cells #[.int .i64 F.1, .int .i64 F.2] 29)).trans hk5)
      have s0 := K5.out.some z0 (by simp)
      have t0 : w5.cell? ⟨w3.heap.size, 0, none⟩ = some (.slice a3 l.length cap3) := (((Kp.refl [] w4).alloc _).trans hk5).some v0 (by simp)
      have f0 : w5.cell? ⟨w4.heap.size, 0, none⟩ = some (.int .i64 F.1) := hk5.some (by simp [go_sem]) (by simp)
      have f1 : w5.cell? ⟨w4.heap.size, 1, none⟩ = some (.int .i64 F.2) := hk5.some (by simp [go_sem]) (by simp)
      have hb5 := World.block_lt_of_cell? _ _ s0
      have hb6 := World.block_lt_of_cell? _ _ t0
      have hb7 := World.block_lt_of_cell? _ _ f0
      clear hk5
      go_wp2_with fail
      refine (C4.out _ (K5.out.alloc _)).mono ?_
      rintro e w6 ⟨rfl, hk6⟩
      have K6 := hide ((K5.out.alloc (.cells #[.int .i64 F.1, .int .i64 F.2] 29)).trans hk6)
      have r0 := K6.out.some z0 (by simp)
      have g0 : w6.cell? ⟨w5.heap.size, 0, none⟩ = some (.int .i64 F.1) := hk6.some (by simp [go_sem]) (by simp)
      clear hk6
      go_wp2_with fail
      refine (C5'.out _ (K3.out.trans K6.out)).mono ?_
      rintro e w7 ⟨rfl, hk7⟩
      go_wp2
      go_ret
      exact ⟨rfl, (K3.out.trans K6.out).trans hk7⟩
    · have q1 : (F.1 != 0) = true := by simpa using hF
      have eY : Y = [] := by rw [EX.out, if_pos hF]
      subst eY
      have e0 : (bs []).toList = [] := bs0
      clear EX C5 hF
      go_wp2_with fail
      refine CP.out.mono ?_
      rintro e w4 ⟨rfl, hk4⟩
      have K4 := hide (KA.out.trans hk4)
      have u0 := K4.out.some z0 (by simp)
      have v0 : w4.cell? ⟨w3.heap.size, 0, none⟩ = some (.slice a3 l.length cap3) := hk4.some (by simp [go_sem]) (by simp)
      have hb4 := World.block_lt_of_cell? _ _ v0
      have hb4' := World.block_lt_of_cell? _ _ u0
      clear hk4 CP
      go_wp2_with fail
      refine (C3.out _ (K3.out.trans (K4.out.alloc _))).mono ?_
      rintro e w5 ⟨rfl, hk5⟩
      have K5 := hide ((K4.out.alloc (.cells #[.int .i64 F.1, .int .i64 F.2] 29)).trans hk5)
      have s0 := K5.out.some z0 (by simp)
      have t0 : w5.cell? ⟨w3.heap.size, 0, none⟩ = some (.slice a3 l.length cap3) := (((Kp.refl [] w4).alloc _).trans hk5).some v0 (by simp)
      have f0 : w5.cell? ⟨w4.heap.size, 0, none⟩ = some (.int .i64 F.1) := hk5.some (by simp [go_sem]) (by simp)
      have f1 : w5.cell? ⟨w4.heap.size, 1, none⟩ = some (.int .i64 F.2) := hk5.some (by simp [go_sem]) (by simp)
      have hb5 := World.block_lt_of_cell? _ _ s0
      have hb6 := World.block_lt_of_cell? _ _ t0
      have hb7 := World.block_lt_of_cell? _ _ f0
      clear hk5
      go_wp2_with fail
      refine (C4.out _ (K5.out.alloc _)).mono ?_
      rintro e w6 ⟨rfl, hk6⟩
      have K6 := hide ((K5.out.alloc (.cells #[.int .i64 F.1, .int .i64 F.2] 29)).trans hk6)
      have g0 : w6.cell? ⟨w5.heap.size, 0, none⟩ = some (.int .i64 F.1) := hk6.some (by simp [go_sem]) (by simp)
      clear hk6
      go_wp2
      go_ret
      exact ⟨rfl, K3.out.trans K6.out⟩
end Go.Proofs.YtdbciaihnikibacGreatDoor

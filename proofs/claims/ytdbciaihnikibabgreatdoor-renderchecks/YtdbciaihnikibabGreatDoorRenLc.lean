import Derived.Test.YtdbciaihnikibabGreatDoorRenLa
import Derived.Test.YtdbciaihnikibabGreatDoorRxS
/- The law RenderChecks: it answers true. -/
namespace Go.Proofs.YtdbciaihnikibabGreatDoor
open Go.RowKit

set_option maxRecDepth 100000 in
set_option maxHeartbeats 1000000 in
theorem check_any (n : Nat) (w : World) (P : Nat → Prop) (l : List Sx.Tr) (a : Option Addr) (c : Nat) (hT : Tb w) (h : Sl (RG w P n) w P l (.slice a l.length c)) (hN : Nm n l) :
    Calls Tryz.prog 6 #[.agg #[.slice a l.length c]] w fun e w' => e = .returned (.agg #[.int .i64 (Rn.told n l).1, .int .i64 (Rn.told n l).2]) ∧ Kp [] w w' := by
  have K2 : Hid (Kp [] w ((w.alloc (.cells #[.slice a l.length c] 24)).alloc (.cells #[.int .i64 0, .int .i64 0] 28))) := hide (((Kp.refl _ _).alloc _).alloc _)
  have HC := hide (print_any n _ P l a c (hT.kp K2.out) (h.keep K2.out (by simp) (fun d c h => h.keep K2.out (by simp))) hN)
  have B2 : Hid (FB w (.slice a l.length c) ((w.alloc (.cells #[.slice a l.length c] 24)).alloc (.cells #[.int .i64 0, .int .i64 0] 28))) := hide ⟨K2.out, by simp [go_sem], by simp [go_sem], by simp [go_sem], by simp [go_sem], by simp [go_sem]⟩
  clear h hT hN K2
  generalize Rn.told n l = F at *
  go_enter Tryz.func6, Tryz.ntmps6
  go_wp2_with fail
  refine HC.out.mono ?_
  rintro e w3 ⟨rfl, hk3⟩
  obtain ⟨k5, -, r0, r1, f0, f1⟩ := B2.out.go hk3
  have hb4 := World.block_lt_of_cell? _ _ r0
  clear hk3 HC
  go_wp2
  refine bodyPost_ret (v := .agg #[.int .i64 F.1, .int .i64 F.2]) (by simp [results, Tryz.results6, go_sem, r0, r1, hb4]) rfl ⟨rfl, ?_⟩
  exact ((k5.nb (by omega) _ _).nb (by omega) _ _).alloc _
theorem GL.keep {w w' : World} {P : Nat → Prop} {n : Nat} {l : List Sx.Tr} {v : Value} (h : Sl (RG w P n) w P l v) (hk : Kp [] w w') : Sl (RG w' P n) w' P l v := h.keep hk (by simp) (fun d c h => h.keep hk (by simp))

set_option maxRecDepth 100000 in
set_option maxHeartbeats 2000000 in
theorem checks_any (N : Nat) (w : World) (hT : Tb w) (P : Nat → Prop) (l : List Sx.Tr) (a : Option Addr) (cap : Nat) (t : List UInt8) (ends : Int) (h : Sl (RG w P N) w P l (.slice a l.length cap)) (hb : LbG N l) :
    Calls Tryz.prog 3 #[.agg #[.slice a l.length cap], .string (bs t), .int .i64 ends] w fun e w' => e = .returned (.bool true) ∧ Kp [] w w' := by
  have HT := hide hT
  have H1 := hide h
  have HB := hide hb
  have zt := bsz t
  clear hT h hb
  go_enter Tryz.func3, Tryz.ntmps3
  go_wp2_with fail
  refine (rbegun_any _ (HT.out.kp ((Kp.refl _ _).alloc _))).mono ?_
  rintro e w1 ⟨rfl, hk1⟩
  have K1 : Hid (Kp [] w w1) := hide (((Kp.refl [] _).alloc _).trans hk1)
  have x0 : w1.cell? ⟨w.heap.size, 0, none⟩ = some (.slice a l.length cap) := hk1.some (by simp [go_sem]) (by simp)
  clear hk1
  go_wp2_with fail
  refine (greatN_any N _ P l a cap (GL.keep H1.out K1.out) HB.out).mono ?_
  rintro e w2 ⟨g, rfl, hg, hk2⟩
  have K2 := hide (K1.out.trans hk2)
  have y0 := hk2.some x0 (by simp)
  clear hk2 x0
  cases g with
  | true =>
    go_wp2
    go_ret
    exact ⟨rfl, K2.out⟩
  | false =>
    obtain ⟨hs, hgn⟩ := hg rfl
    obtain ⟨hNm, hlow⟩ := lower_GL hs hgn
    have HS := hide hs
    have HNm := hide hNm
    have HLow := hide hlow
    clear hg hs hgn hNm hlow
    by_cases hlg : 1000 < t.length
    · have d1 : decide ((1000 : Int) < (t.length : Int)) = true := by simp; omega
      go_wp2
      go_ret
      exact ⟨rfl, K2.out⟩
    · have d1 : decide ((1000 : Int) < (t.length : Int)) = false := by simp; omega
      have C1 : Hid (∀ w', Kp [] w w' → Calls Tryz.prog 7 #[.agg #[.slice a l.length cap]] w' fun e w'' => ∃ a' cap', e = .returned (.agg #[.slice a' l.length cap']) ∧ Sl (RG w'' (fun b => w'.heap.size ≤ b) N) w'' (fun b => w'.heap.size ≤ b) l (.slice a' l.length cap') ∧ Kp [] w' w'') := hide (fun w' k => copyProgram_any N w' P l a cap (GL.keep H1.out k) HS.out)
      have C2 : Hid (∀ w' Q a' cap', Kp [] w w' → Sl (RG w' Q N) w' Q l (.slice a' l.length cap') → Calls Tryz.prog 6 #[.agg #[.slice a' l.length cap']] w' fun e w'' => e = .returned (.agg #[.int .i64 (Rn.told (min N 1000002) l).1, .int .i64 (Rn.told (min N 1000002) l).2]) ∧ Kp [] w' w'') := hide (fun w' Q a' cap' k hq => check_any _ w' Q l a' cap' (HT.out.kp k) (HLow.out _ _ _ hq) HNm.out)
      have C3 : Hid (∀ w', Kp [] w w' → Calls Tryz.prog 8 #[.agg #[.slice a l.length cap]] w' fun e w'' => e = .returned (.agg #[.int .i64 (Rn.told (min N 1000002) l).1, .int .i64 (Rn.told (min N 1000002) l).2]) ∧ Kp [] w' w'') := hide (fun w' k => renderFault_any _ w' P l a cap (HT.out.kp k) (HLow.out _ _ _ (GL.keep H1.out k)) HNm.out)
      have C4 : Hid (∀ w', Calls Tryz.prog 9 #[.string (bs t), .int .i64 ends] w' fun e w'' => e = .returned (.bool (Rn.isT t ends)) ∧ Kp [] w' w'') := hide (fun w' => rType_any t ends w' (by omega))
      have C5 : Hid (∀ w', Calls Tryz.prog 10 #[.string (bs t), .int .i64 ends] w' fun e w'' => e = .returned (.bool (Rn.isT t ends)) ∧ w'' = w') := hide (fun w' => rIsType_any t ends w' (by omega))
      generalize Rn.told (min N 1000002) l = F at *
      generalize Rn.isT t ends = X at *
      go_wp2_with fail
      go_region_held_law (fun w' => w'.cell? ⟨w.heap.size, 0, none⟩ = some (.slice a l.length cap)) ((first | assumption | go_keep))
        ((first
          | (go_at_call 6; refine (C2.out _ _ a3 cap3 L1.out HCp.out).mono ?_; rintro e w4 ⟨rfl, hk4⟩; have L2 := hide (L1.out.trans hk4); have s0 := hk4.some q0 (by simp); clear hk4)
          | (go_at_call 8; refine (C3.out _ L2.out).mono ?_; rintro e w5 ⟨rfl, hk5⟩; have L3 := hide (L2.out.trans hk5); have t0 := hk5.some s0 (by simp); clear hk5)
          | (go_at_call 9; refine (C4.out _).mono ?_; rintro e w6 ⟨rfl, hk6⟩; have L4 := hide (L3.out.trans hk6); have u0 := hk6.some t0 (by simp); clear hk6)
          | (go_at_call 10; refine (C5.out _).mono ?_; rintro e w7 ⟨rfl, rfl⟩)
          | (go_at_call 7; refine (C1.out _ K2.out.drew).mono ?_; rintro e w3 ⟨a3, cap3, rfl, hs3, hk3⟩; have L1 := hide (K2.out.drew.trans hk3); have HCp := hide hs3; have q0 : w3.cell? ⟨w.heap.size, 0, none⟩ = some (.slice a l.length cap) := hk3.some (by simpa [go_sem] using y0) (by simp); clear hk3 hs3)))
      go_wp2
      go_ret
      exact ⟨rfl, L4.out⟩
end Go.Proofs.YtdbciaihnikibabGreatDoor

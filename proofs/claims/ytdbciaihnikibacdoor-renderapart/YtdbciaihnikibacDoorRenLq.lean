import Derived.Test.YtdbciaihnikibacDoorRenLa
import Derived.Test.YtdbciaihnikibacDoorRxS
import Derived.Test.YtdbciaihnikibacDoorRxD
import Derived.Test.YtdbciaihnikibacDoorRzB
/- The law RenderApart: it answers true. -/
namespace Go.Proofs.YtdbciaihnikibacDoor
open Go.RowKit

theorem GL.kept {w w' : World} {P : Nat → Prop} {n : Nat} {l : List Sx.Tr} {v : Value} (h : Sl (RG w P n) w P l v) (hk : Kp [] w w') : Sl (RG w' P n) w' P l v := h.keep hk (by simp) (fun d c h => h.keep hk (by simp))
set_option maxRecDepth 100000 in
set_option maxHeartbeats 2000000 in
theorem apart_any (N : Nat) (hN : 1000003 ≤ N) (w : World) (hT : Tb w) (P P2 : Nat → Prop) (l m : List Sx.Tr) (a a2 : Option Addr) (cap cap2 : Nat)
    (h : Sl (RG w P N) w P l (.slice a l.length cap)) (hb : LbG N l) (h2 : Sl (RG w P2 N) w P2 m (.slice a2 m.length cap2)) (hb2 : LbG N m) :
    Calls Tryd.prog 3 #[.agg #[.slice a l.length cap], .agg #[.slice a2 m.length cap2]] w fun e w' => e = .returned (.bool true) ∧ Kp [] w w' := by
  have HT := hide hT
  have H1 := hide h
  have H2 := hide h2
  have HB := hide hb
  have HB2 := hide hb2
  have en : min N 1000002 = 1000002 := by omega
  clear hT h hb h2 hb2
  go_enter Tryd.func3, Tryd.ntmps3
  go_wp2_with fail
  refine (rbegun_any _ (HT.out.kp (((Kp.refl _ _).alloc _).alloc _))).mono ?_
  rintro e w1 ⟨rfl, hk1⟩
  have K1 : Hid (Kp [] w w1) := hide ((((Kp.refl [] _).alloc _).alloc _).trans hk1)
  have x0 : w1.cell? ⟨w.heap.size, 0, none⟩ = some (.slice a l.length cap) := hk1.some (by simp [go_sem]) (by simp)
  have x1 : w1.cell? ⟨w.heap.size + 1, 0, none⟩ = some (.slice a2 m.length cap2) := hk1.some (by simp [go_sem]) (by simp)
  clear hk1
  go_wp2_with fail
  refine (greatN_any N _ P l a cap (GL.kept H1.out K1.out) HB.out).mono ?_
  rintro e w2 ⟨g, rfl, hg, hk2⟩
  have K2 := hide (K1.out.trans hk2)
  have y0 := hk2.some x0 (by simp)
  have y1 := hk2.some x1 (by simp)
  clear hk2 x0 x1
  cases g with
  | true =>
    go_wp2
    go_ret
    exact ⟨rfl, K2.out⟩
  | false =>
  obtain ⟨hs, hgn⟩ := hg rfl
  obtain ⟨hNm, hlow⟩ := lower_GL hs hgn
  rw [en] at hNm hlow
  have HS := hide hs
  have HNm := hide hNm
  have HLow := hide hlow
  clear hg hs hgn hNm hlow
  go_wp2_with fail
  refine (greatN_any N _ P2 m a2 cap2 (GL.kept H2.out K2.out) HB2.out).mono ?_
  rintro e w3 ⟨g, rfl, hg, hk3⟩
  have K3 := hide (K2.out.trans hk3)
  have z0 := hk3.some y0 (by simp)
  have z1 := hk3.some y1 (by simp)
  clear hk3 y0 y1
  cases g with
  | true =>
    go_wp2
    go_ret
    exact ⟨rfl, K3.out⟩
  | false =>
  obtain ⟨hs, hgn⟩ := hg rfl
  obtain ⟨hNm, hlow⟩ := lower_GL hs hgn
  rw [en] at hNm hlow
  have CA : Hid (∀ w', Kp [] w w' → Calls Tryd.prog 6 #[.agg #[.slice a l.length cap]] w' fun e w'' => e = .returned (.tuple #[.string (bs (Rn.ptx 1000002 l)), .agg #[.int .i64 (Rn.told 1000002 l).1, .int .i64 (Rn.told 1000002 l).2]]) ∧ Kp [] w' w'') :=
    hide (fun w' k => print_any 1000002 w' P l a cap (HT.out.kp k) (HLow.out _ _ _ (GL.kept H1.out k)) HNm.out)
  have CB : Hid (∀ w', Kp [] w w' → Calls Tryd.prog 6 #[.agg #[.slice a2 m.length cap2]] w' fun e w'' => e = .returned (.tuple #[.string (bs (Rn.ptx 1000002 m)), .agg #[.int .i64 (Rn.told 1000002 m).1, .int .i64 (Rn.told 1000002 m).2]]) ∧ Kp [] w' w'') :=
    hide (fun w' k => print_any 1000002 w' P2 m a2 cap2 (HT.out.kp k) (hlow _ _ _ (GL.kept H2.out k)) hNm)
  have CS : Hid (∀ w', Kp [] w w' → Calls Tryd.prog 7 #[.agg #[.slice a l.length cap], .agg #[.slice a2 m.length cap2]] w' fun e w'' => e = .returned (.bool (Sx.sameG N l m)) ∧ Kp [] w' w'') :=
    hide (fun w' k => same_any N w' P P2 l m a a2 cap cap2 (GL.kept H1.out k) (GL.kept H2.out k) HS.out)
  have EQ : Hid ((Rn.told 1000002 l).1 = 0 → (Rn.told 1000002 m).1 = 0 → ((bs (Rn.ptx 1000002 l)).toList = (bs (Rn.ptx 1000002 m)).toList ↔ Sx.sameG N l m = true)) := hide (fun h1 h2 => by
    have e1 : Rn.ptx 1000002 l = Rn.pt 1000002 l := by show (if _ ≠ _ then _ else _) = _; rw [if_neg (by simpa using h1)]
    have e2 : Rn.ptx 1000002 m = Rn.pt 1000002 m := by show (if _ ≠ _ then _ else _) = _; rw [if_neg (by simpa using h2)]
    rw [bsl, bsl, e1, e2]
    exact Rb.apart 1000002 N (by omega) (by omega) l m h1 h2)
  clear hg hs hgn hNm hlow HNm HLow HS H1 H2 HB HB2 HT
  generalize Rn.told 1000002 l = F at *
  generalize Rn.told 1000002 m = G at *
  generalize bs (Rn.ptx 1000002 l) = X at *
  generalize bs (Rn.ptx 1000002 m) = Y at *
  generalize Sx.sameG N l m = Z at *
  go_wp2_with fail
  refine (CA.out _ K3.out).mono ?_
  rintro e w4 ⟨rfl, hk4⟩
  have K4 := hide (K3.out.trans hk4)
  have u0 := hk4.some z0 (by simp)
  have u1 := hk4.some z1 (by simp)
  have hb4 := World.block_lt_of_cell? _ _ u0
  have hb4' := World.block_lt_of_cell? _ _ u1
  clear hk4 z0 z1
  go_wp2_with fail
  refine (CB.out _ (K4.out.alloc _)).mono ?_
  rintro e w5 ⟨rfl, hk5⟩
  have K5 := hide ((K4.out.alloc (.cells #[.int .i64 F.1, .int .i64 F.2] 28)).trans hk5)
  have k5 : Kp [] w4 w5 := ((Kp.refl [] w4).alloc _).trans hk5
  have v0 := k5.some u0 (by simp)
  have v1 := k5.some u1 (by simp)
  have f0 : w5.cell? ⟨w4.heap.size, 0, none⟩ = some (.int .i64 F.1) := hk5.some (by simp [go_sem]) (by simp)
  have hb5 := World.block_lt_of_cell? _ _ v0
  have hb6 := World.block_lt_of_cell? _ _ v1
  have hb7 := World.block_lt_of_cell? _ _ f0
  clear hk5 k5
  by_cases hF : F.1 = 0
  · by_cases hG : G.1 = 0
    · have q1 : (F.1 != 0) = false := by simpa using hF
      have q2 : (G.1 != 0) = false := by simpa using hG
      have hq := EQ.out hF hG
      clear EQ CA CB hF hG
      go_wp2_with fail
      refine (CS.out _ (K5.out.alloc _)).mono ?_
      rintro e w6 ⟨rfl, hk6⟩
      have K6 := hide ((K5.out.alloc (.cells #[.int .i64 G.1, .int .i64 G.2] 28)).trans hk6)
      clear hk6
      go_wp2
      go_ret
      refine ⟨?_, K6.out⟩
      cases Z <;> simp_all
    · have q1 : (F.1 != 0) = false := by simpa using hF
      have q2 : (G.1 != 0) = true := by simpa using hG
      clear EQ CA CB CS hF hG
      go_wp2
      go_ret
      exact ⟨rfl, K5.out.alloc _⟩
  · have q1 : (F.1 != 0) = true := by simpa using hF
    clear EQ CA CB CS hF
    go_wp2
    go_ret
    exact ⟨rfl, K5.out.alloc _⟩
end Go.Proofs.YtdbciaihnikibacDoor

import Derived.Test.YtibhbbgpeckkfaaRnkS
/- That package ranks has begun. -/
namespace Go.Proofs.Ytibhbbgpeckkfaa
open Go.RowKit

namespace Rk
def E1 : Eg := [(0, 1), (1, 2), (0, 2)]
def E2 : Eg := [(0, 1), (1, 2), (2, 1)]
theorem rks1 : Rks 3 E1 (g [0, 1, 2]) := by
  refine ⟨by decide, fun v hv => ?_⟩
  match v, hv with
  | 0, _ => exact ⟨[], trivial, rfl⟩
  | 1, _ => exact ⟨[0], ⟨by decide, trivial⟩, rfl⟩
  | 2, _ => exact ⟨[0, 1], ⟨by decide, by decide, trivial⟩, rfl⟩
theorem rks1_is {o : List Nat} (h : Rks 3 E1 (g o)) (hl : o.length = 3) : o = [0, 1, 2] := by
  have h0 := h.one rks1 (v := 0) (by decide)
  have h1 := h.one rks1 (v := 1) (by decide)
  have h2 := h.one rks1 (v := 2) (by decide)
  match o, hl with
  | [a, b, c], _ =>
    have e0 : a = 0 := h0
    have e1 : b = 1 := h1
    have e2 : c = 2 := h2
    rw [e0, e1, e2]
theorem edge2 {x y : Nat} (h : (x, y) ∈ E2) : (x = 0 ∧ y = 1) ∨ (x = 1 ∧ y = 2) ∨ (x = 2 ∧ y = 1) := by
  simpa [E2] using h
theorem rnd2 : Rnd E2 [1, 2] := by
  refine .inr ⟨⟨by decide, by decide, trivial⟩, fun o' hc => ?_⟩
  match o', hc with
  | [x], hc => rcases edge2 hc.1 with h | h | h <;> omega
  | [x, y], hc =>
    refine ⟨by simp, fun _ => ?_⟩
    have h1 := edge2 hc.1
    have h2 := edge2 hc.2.1
    by_cases hx : 1 < x
    · exact .inl hx
    · have e1 : x = 1 := by omega
      have e2 : y = 2 := by omega
      rw [e1, e2]
      exact Lx.refl _
  | x :: y :: z :: r, _ => exact ⟨by simp, fun e => by simp at e⟩
end Rk
theorem er_new (w : World) (t : TypeId) (a b c d e f : Int) (s : Nat) (hs : s = w.heap.size) : ER (w.alloc (.cells #[.int .i64 a, .int .i64 b, .int .i64 c, .int .i64 d, .int .i64 e, .int .i64 f] t)) (.slice (some ⟨s, 0, none⟩) 3 3) [(a, b), (c, d), (e, f)] := by
  subst hs
  refine ⟨_, 3, rfl, fun _ => ⟨w.heap.size, 0, rfl, fun k x hx => ?_⟩⟩
  match k, hx with
  | 0, hx => cases hx; constructor <;> simp [go_sem]
  | 1, hx => cases hx; constructor <;> simp [go_sem]
  | 2, hx => cases hx; constructor <;> simp [go_sem]
  | k + 3, hx => simp at hx
theorem ir_new3 (w : World) (t : TypeId) (a b c : Int) (s : Nat) (hs : s = w.heap.size) : IR (w.alloc (.cells #[.int .i64 a, .int .i64 b, .int .i64 c] t)) (.slice (some ⟨s, 0, none⟩) 3 3) [a, b, c] := by
  subst hs
  refine ⟨_, 3, rfl, fun _ => ⟨w.heap.size, 0, rfl, fun k x hx => ?_⟩⟩
  match k, hx with
  | 0, hx => cases hx; simp [go_sem]
  | 1, hx => cases hx; simp [go_sem]
  | 2, hx => cases hx; simp [go_sem]
  | k + 3, hx => simp at hx
theorem ir_new2 (w : World) (t : TypeId) (a b : Int) (s : Nat) (hs : s = w.heap.size) : IR (w.alloc (.cells #[.int .i64 a, .int .i64 b] t)) (.slice (some ⟨s, 0, none⟩) 2 2) [a, b] := by
  subst hs
  refine ⟨_, 2, rfl, fun _ => ⟨w.heap.size, 0, rfl, fun k x hx => ?_⟩⟩
  match k, hx with
  | 0, hx => cases hx; simp [go_sem]
  | 1, hx => cases hx; simp [go_sem]
  | k + 2, hx => simp at hx

theorem begun_r {w w' : World} {e : Ending} (h : KR 3 [(0, 1), (1, 2), (0, 2)] w e w') : ∃ a c, e = .returned (.tuple #[.slice a 3 c, .agg #[.int .i64 0, .int .i64 0]]) ∧ IR w' (.slice a 3 c) [0, 1, 2] ∧ Below w.heap.size w w' := by
  have g1 : gfl 3 [(0, 1), (1, 2), (0, 2)] = (0, 0) := by decide
  obtain ⟨a1, k1, c1, F1, rfl, hb1, -, hq1⟩ := h
  rcases hq1 with ⟨hq1, -⟩ | ⟨-, hq1⟩
  · rw [g1] at hq1; exact absurd rfl hq1
  · rcases hq1 3 Rk.E1 rfl rfl with ⟨o1, hl1, rfl, rfl, hr1, hi1⟩ | ⟨hq, -⟩
    · have e1 := Rk.rks1_is hr1 hl1
      subst e1
      exact ⟨_, _, rfl, hi1, hb1⟩
    · exact absurd hq Rk.rks1.acyc
theorem begun_o {w w' : World} {e : Ending} (h : KO 3 [(0, 1), (1, 2), (2, 1)] w e w') : ∃ a c, e = .returned (.tuple #[.slice a 2 c, .agg #[.int .i64 0, .int .i64 0]]) ∧ IR w' (.slice a 2 c) [1, 2] ∧ Below w.heap.size w w' := by
  have g1 : gfl 3 [(0, 1), (1, 2), (2, 1)] = (0, 0) := by decide
  obtain ⟨a1, k1, c1, F1, rfl, hb1, -, hq1⟩ := h
  rcases hq1 with ⟨hq1, -⟩ | ⟨-, rfl, hq1⟩
  · rw [g1] at hq1; exact absurd rfl hq1
  · obtain ⟨o, rfl, hr, hi⟩ := hq1 Rk.E2 rfl
    have e1 := hr.one Rk.rnd2
    subst e1
    exact ⟨_, _, rfl, hi, hb1⟩

set_option maxRecDepth 100000 in
set_option maxHeartbeats 2000000 in
theorem rbegun_any (w : World) : Calls Try.prog 6 #[] w fun e w' => e = .returned (.bool true) ∧ Below w.heap.size w w' := by
  go_enter Try.func6, Try.ntmps6
  go_wp2_with fail
  refine (rkRanks_any 3 [(0, 1), (1, 2), (0, 2)] _ _ (er_new _ _ _ _ _ _ _ _ _ (by simp)) (fun _ => by decide)).mono ?_
  intro e w1 h1
  obtain ⟨a1, c1, rfl, hi1, hb1⟩ := begun_r h1
  have HB1 : Hid (Below w.heap.size w w1) := hide (btrans ((Below.refl _ _).alloc (Nat.le_refl _) _) hb1)
  have HI1 := hide hi1
  clear hb1 hi1 h1
  go_wp2_with fail
  refine (rkRound_any 3 [(0, 1), (1, 2), (2, 1)] _ _ (er_new _ _ _ _ _ _ _ _ _ (by simp)) (fun _ => by decide)).mono ?_
  intro e w2 h2
  obtain ⟨a2, c2, rfl, hi2, hb2⟩ := begun_o h2
  have kb : Below w1.heap.size w1 w2 := btrans (((Below.refl _ _).alloc (Nat.le_refl _) _).alloc (by simp) _) hb2
  have HB2 := hide (btrans HB1.out kb)
  have HI1' := hide (HI1.out.keep kb)
  have HI2 := hide hi2
  have x0 : w2.cell? ⟨w1.heap.size, 0, none⟩ = some (.int .i64 0) := bsome hb2 (by simp [go_sem])
  have hx0 := World.block_lt_of_cell? _ _ x0
  clear kb hb2 hi2 h2 HB1 HI1
  go_wp2_with fail
  refine (same_any [0, 1, 2] _ _ _ (by decide) (HI1'.out.keep (((Below.refl _ _).alloc (Nat.le_refl _) _).alloc (by simp) _)) (ir_new3 _ _ _ _ _ _ (by simp))).mono ?_
  rintro e w3 ⟨rfl, hb3⟩
  have kb : Below w2.heap.size w2 w3 := btrans (((Below.refl _ _).alloc (Nat.le_refl _) _).alloc (by simp) _) hb3
  have HB3 := hide (btrans HB2.out kb)
  have HI2' := hide (HI2.out.keep kb)
  clear kb hb3 HB2 HI2 HI1'
  go_wp2_with fail
  refine (same_any [1, 2] _ _ _ (by decide) (HI2'.out.keep ((Below.refl _ _).alloc (Nat.le_refl _) _)) (ir_new2 _ _ _ _ _ (by simp))).mono ?_
  rintro e w4 ⟨rfl, hb4⟩
  have HB4 := hide (btrans HB3.out (btrans ((Below.refl _ _).alloc (Nat.le_refl _) _) hb4))
  clear hb4 HB3 HI2'
  go_wp2
  go_ret
  exact ⟨rfl, HB4.out⟩
end Go.Proofs.Ytibhbbgpeckkfaa

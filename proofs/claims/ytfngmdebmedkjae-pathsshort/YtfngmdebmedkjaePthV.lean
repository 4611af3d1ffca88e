import Derived.Test.YtfngmdebmedkjaePthM
import Derived.Test.YtfngmdebmedkjaePthE
/- It begins as the document says: one stage of three instructions. -/
namespace Go.Proofs.Ytfngmdebmedkjae
open Go.RowKit

/-- The stage of which it is tried. -/
def Pa.bg : Pa.Pr := [(14, 2), (15, 0), (17, 0)]
theorem bg0 : nxp Pa.bg 0 = [1, 2] := by decide
theorem bg1 : nxp Pa.bg 1 = [0] := by decide
theorem bg2 : nxp Pa.bg 2 = [] := by decide
theorem bg_fw2 {l : List Nat} (h : Pa.Fw (nxp Pa.bg) 2 2 l) : l = [2] := by
  cases h with
  | one => rfl
  | cons hc _ => rw [bg2] at hc; cases hc
theorem bg_best : Pa.Best (nxp Pa.bg) 2 1 [1, 0, 2] := by
  have f2 : Pa.Fw (nxp Pa.bg) 2 2 [2] := Pa.Fw.one
  have f0 : Pa.Fw (nxp Pa.bg) 2 0 [0, 2] := Pa.Fw.cons (by rw [bg0]; simp) f2
  refine ⟨Pa.Fw.cons (by rw [bg1]; simp) f0, fun l hl => ?_⟩
  cases hl with
  | @cons _ c l0 hc h0 =>
    rw [bg1] at hc
    obtain rfl : c = 0 := by simpa using hc
    cases h0 with
    | @cons _ d l1 hd h1 =>
      rw [bg0] at hd
      rcases (show d = 1 ∨ d = 2 by simpa using hd) with rfl | rfl
      · cases h1 with
        | @cons _ e l2 he h2 =>
          have := h2.pos
          exact .inr (.inl (by simp; omega))
      · rw [bg_fw2 h1]
        exact .inl rfl
theorem bg_path {L : List Nat} (h : PTH Pa.bg 1 2 L) : L = [1, 0, 2] := by
  rcases h with ⟨a, t, h1, h2, -, -, h5, -⟩ | ⟨-, h2⟩
  · obtain rfl : a = 1 := by omega
    obtain rfl : t = 2 := by omega
    exact h5.eq bg_best
  · exact absurd bg_best.1 (h2 1 2 rfl rfl (by decide) (by decide) _)
theorem bg_reach {ah : List Int} (h : SPR Pa.bg 0 ah) : rcs ah 3 = [0, 1, 2] := by
  obtain ⟨ln, g, hi⟩ := h.2.2 0 rfl (by decide)
  have w0 : Pa.Way (nxp Pa.bg) 0 0 [0] := Pa.Way.one
  have w1 : Pa.Way (nxp Pa.bg) 0 1 ([0] ++ [1]) := Pa.Way.snoc w0 (by rw [bg0]; simp)
  have w2 : Pa.Way (nxp Pa.bg) 0 2 ([0] ++ [2]) := Pa.Way.snoc w0 (by rw [bg0]; simp)
  have m0 := (hi.mem 0 (by decide)).1 (hi.best w0).1
  have m1 := (hi.mem 1 (by decide)).1 (hi.best w1).1
  have m2 := (hi.mem 2 (by decide)).1 (hi.best w2).1
  unfold rcs
  simp [List.range, List.range.loop, m0, m1, m2]
theorem ir_lit {w : World} {g cap : Nat} {l : List Int} (h : ∀ (k : Nat) x, l[k]? = some x → w.cell? ⟨g, k, none⟩ = some (.int .i64 x)) : IR w (.slice (some ⟨g, 0, none⟩) l.length cap) l :=
  ⟨_, _, rfl, fun _ => ⟨g, 0, rfl, fun k x hx => by rw [Nat.zero_add]; exact h k x hx⟩⟩

def bgC (g : Nat) : Cp := ⟨g, 0, 3, some ⟨g, 0, none⟩, .string ⟨#[]⟩, .slice none 0 0, .int .i64 0, .slice none 0 0, Pa.bg⟩
theorem bg_pm (w : World) : PM (bgC w.heap.size) ((w.alloc (.cells #[.int .i64 14, .int .i64 0, .int .i64 0, .int .i64 0, .int .i64 2, .string ⟨#[]⟩, .slice none 0 0, .slice none 0 0, .int .i64 0, .int .i64 0, .int .i64 0, .int .i64 15, .int .i64 0, .int .i64 0, .int .i64 0, .int .i64 0, .string ⟨#[]⟩, .slice none 0 0, .slice none 0 0, .int .i64 0, .int .i64 0, .int .i64 0, .int .i64 17, .int .i64 0, .int .i64 0, .int .i64 0, .int .i64 0, .string ⟨#[]⟩, .slice none 0 0, .slice none 0 0, .int .i64 0, .int .i64 0, .int .i64 0] 40)).alloc (.cells #[.string ⟨#[]⟩, .slice none 0 0, .int .i64 0, .slice none 0 0, .slice (some ⟨w.heap.size, 0, none⟩) 3 3] 26)) := by
  refine ⟨(by decide : Pa.bg.length ≤ 300), fun _ => rfl, fun i x hx => ?_⟩
  match i, hx with
  | 0, hx =>
    cases hx
    refine ⟨0, 0, 0, ⟨#[]⟩, none, 0, 0, none, 0, 0, 0, 0, 0, ?_, ?_, ?_, ?_, ?_, ?_, ?_, ?_, ?_, ?_, ?_⟩ <;> simp [go_sem, bgC]
  | 1, hx =>
    cases hx
    refine ⟨0, 0, 0, ⟨#[]⟩, none, 0, 0, none, 0, 0, 0, 0, 0, ?_, ?_, ?_, ?_, ?_, ?_, ?_, ?_, ?_, ?_, ?_⟩ <;> simp [go_sem, bgC]
  | 2, hx =>
    cases hx
    refine ⟨0, 0, 0, ⟨#[]⟩, none, 0, 0, none, 0, 0, 0, 0, 0, ?_, ?_, ?_, ?_, ?_, ?_, ?_, ?_, ?_, ?_, ?_⟩ <;> simp [go_sem, bgC]

set_option maxRecDepth 100000 in
set_option maxHeartbeats 2000000 in
theorem begun_any (w : World) : Calls Try.prog 5 #[] w fun e w' => e = .returned (.bool true) ∧ Below w.heap.size w w' := by
  have HN : Hid (∀ w', Below ((w.alloc (.cells #[.int .i64 14, .int .i64 0, .int .i64 0, .int .i64 0, .int .i64 2, .string ⟨#[]⟩, .slice none 0 0, .slice none 0 0, .int .i64 0, .int .i64 0, .int .i64 0, .int .i64 15, .int .i64 0, .int .i64 0, .int .i64 0, .int .i64 0, .string ⟨#[]⟩, .slice none 0 0, .slice none 0 0, .int .i64 0, .int .i64 0, .int .i64 0, .int .i64 17, .int .i64 0, .int .i64 0, .int .i64 0, .int .i64 0, .string ⟨#[]⟩, .slice none 0 0, .slice none 0 0, .int .i64 0, .int .i64 0, .int .i64 0] 40)).alloc (.cells #[.string ⟨#[]⟩, .slice none 0 0, .int .i64 0, .slice none 0 0, .slice (some ⟨w.heap.size, 0, none⟩) 3 3] 26)).heap.size ((w.alloc (.cells #[.int .i64 14, .int .i64 0, .int .i64 0, .int .i64 0, .int .i64 2, .string ⟨#[]⟩, .slice none 0 0, .slice none 0 0, .int .i64 0, .int .i64 0, .int .i64 0, .int .i64 15, .int .i64 0, .int .i64 0, .int .i64 0, .int .i64 0, .string ⟨#[]⟩, .slice none 0 0, .slice none 0 0, .int .i64 0, .int .i64 0, .int .i64 0, .int .i64 17, .int .i64 0, .int .i64 0, .int .i64 0, .int .i64 0, .string ⟨#[]⟩, .slice none 0 0, .slice none 0 0, .int .i64 0, .int .i64 0, .int .i64 0] 40)).alloc (.cells #[.string ⟨#[]⟩, .slice none 0 0, .int .i64 0, .slice none 0 0, .slice (some ⟨w.heap.size, 0, none⟩) 3 3] 26)) w' → Calls Try.prog 10 #[.agg #[.string ⟨#[]⟩, .slice none 0 0, .int .i64 0, .slice none 0 0, .slice (some ⟨w.heap.size, 0, none⟩) 3 3], .int .i64 0] w' fun e w'' => ∃ v, e = .returned v ∧ IR w'' v [1, 2] ∧ Below w'.heap.size w' w'') := hide (fun w' hb => by
    refine (next_any (bgC w.heap.size) 0 w' ((bg_pm w).keep hb)).mono fun e w'' ⟨v, h1, h2, h3⟩ => ⟨v, h1, ?_, h3⟩
    have e : up (Pa.on (bgC w.heap.size).p 0) = [1, 2] := (by decide : up (Pa.on Pa.bg 0) = [1, 2])
    have := own_ir (l := up (Pa.on (bgC w.heap.size).p 0)) (by rw [up_len]; exact h2)
    rw [e] at this
    exact this)
  have HP : Hid (∀ w', Below ((w.alloc (.cells #[.int .i64 14, .int .i64 0, .int .i64 0, .int .i64 0, .int .i64 2, .string ⟨#[]⟩, .slice none 0 0, .slice none 0 0, .int .i64 0, .int .i64 0, .int .i64 0, .int .i64 15, .int .i64 0, .int .i64 0, .int .i64 0, .int .i64 0, .string ⟨#[]⟩, .slice none 0 0, .slice none 0 0, .int .i64 0, .int .i64 0, .int .i64 0, .int .i64 17, .int .i64 0, .int .i64 0, .int .i64 0, .int .i64 0, .string ⟨#[]⟩, .slice none 0 0, .slice none 0 0, .int .i64 0, .int .i64 0, .int .i64 0] 40)).alloc (.cells #[.string ⟨#[]⟩, .slice none 0 0, .int .i64 0, .slice none 0 0, .slice (some ⟨w.heap.size, 0, none⟩) 3 3] 26)).heap.size ((w.alloc (.cells #[.int .i64 14, .int .i64 0, .int .i64 0, .int .i64 0, .int .i64 2, .string ⟨#[]⟩, .slice none 0 0, .slice none 0 0, .int .i64 0, .int .i64 0, .int .i64 0, .int .i64 15, .int .i64 0, .int .i64 0, .int .i64 0, .int .i64 0, .string ⟨#[]⟩, .slice none 0 0, .slice none 0 0, .int .i64 0, .int .i64 0, .int .i64 0, .int .i64 17, .int .i64 0, .int .i64 0, .int .i64 0, .int .i64 0, .string ⟨#[]⟩, .slice none 0 0, .slice none 0 0, .int .i64 0, .int .i64 0, .int .i64 0] 40)).alloc (.cells #[.string ⟨#[]⟩, .slice none 0 0, .int .i64 0, .slice none 0 0, .slice (some ⟨w.heap.size, 0, none⟩) 3 3] 26)) w' → Calls Try.prog 8 #[.agg #[.string ⟨#[]⟩, .slice none 0 0, .int .i64 0, .slice none 0 0, .slice (some ⟨w.heap.size, 0, none⟩) 3 3], .int .i64 1, .int .i64 2] w' fun e w'' => ∃ v, e = .returned v ∧ IR w'' v [1, 0, 2] ∧ Below w'.heap.size w' w'') := hide (fun w' hb => by
    refine (path_any (bgC w.heap.size) 1 2 w' ((bg_pm w).keep hb)).mono fun e w'' ⟨v, L, h1, h2, h3, h4⟩ => ⟨v, h1, ?_, h4⟩
    have e := bg_path h3
    subst e
    exact h2)
  have HR : Hid (∀ w', Below ((w.alloc (.cells #[.int .i64 14, .int .i64 0, .int .i64 0, .int .i64 0, .int .i64 2, .string ⟨#[]⟩, .slice none 0 0, .slice none 0 0, .int .i64 0, .int .i64 0, .int .i64 0, .int .i64 15, .int .i64 0, .int .i64 0, .int .i64 0, .int .i64 0, .string ⟨#[]⟩, .slice none 0 0, .slice none 0 0, .int .i64 0, .int .i64 0, .int .i64 0, .int .i64 17, .int .i64 0, .int .i64 0, .int .i64 0, .int .i64 0, .string ⟨#[]⟩, .slice none 0 0, .slice none 0 0, .int .i64 0, .int .i64 0, .int .i64 0] 40)).alloc (.cells #[.string ⟨#[]⟩, .slice none 0 0, .int .i64 0, .slice none 0 0, .slice (some ⟨w.heap.size, 0, none⟩) 3 3] 26)).heap.size ((w.alloc (.cells #[.int .i64 14, .int .i64 0, .int .i64 0, .int .i64 0, .int .i64 2, .string ⟨#[]⟩, .slice none 0 0, .slice none 0 0, .int .i64 0, .int .i64 0, .int .i64 0, .int .i64 15, .int .i64 0, .int .i64 0, .int .i64 0, .int .i64 0, .string ⟨#[]⟩, .slice none 0 0, .slice none 0 0, .int .i64 0, .int .i64 0, .int .i64 0, .int .i64 17, .int .i64 0, .int .i64 0, .int .i64 0, .int .i64 0, .string ⟨#[]⟩, .slice none 0 0, .slice none 0 0, .int .i64 0, .int .i64 0, .int .i64 0] 40)).alloc (.cells #[.string ⟨#[]⟩, .slice none 0 0, .int .i64 0, .slice none 0 0, .slice (some ⟨w.heap.size, 0, none⟩) 3 3] 26)) w' → Calls Try.prog 13 #[.agg #[.string ⟨#[]⟩, .slice none 0 0, .int .i64 0, .slice none 0 0, .slice (some ⟨w.heap.size, 0, none⟩) 3 3]] w' fun e w'' => ∃ v, e = .returned v ∧ IR w'' v [0, 1, 2] ∧ Below w'.heap.size w' w'') := hide (fun w' hb => by
    refine (reach_any (bgC w.heap.size) w' ((bg_pm w).keep hb)).mono fun e w'' ⟨v, ah, h1, h2, h3, h4⟩ => ⟨v, h1, ?_, h4⟩
    have e : rcs ah (bgC w.heap.size).p.length = [0, 1, 2] := bg_reach h3
    rw [e] at h2
    exact h2)
  have HB0 : Hid (Below w.heap.size w ((w.alloc (.cells #[.int .i64 14, .int .i64 0, .int .i64 0, .int .i64 0, .int .i64 2, .string ⟨#[]⟩, .slice none 0 0, .slice none 0 0, .int .i64 0, .int .i64 0, .int .i64 0, .int .i64 15, .int .i64 0, .int .i64 0, .int .i64 0, .int .i64 0, .string ⟨#[]⟩, .slice none 0 0, .slice none 0 0, .int .i64 0, .int .i64 0, .int .i64 0, .int .i64 17, .int .i64 0, .int .i64 0, .int .i64 0, .int .i64 0, .string ⟨#[]⟩, .slice none 0 0, .slice none 0 0, .int .i64 0, .int .i64 0, .int .i64 0] 40)).alloc (.cells #[.string ⟨#[]⟩, .slice none 0 0, .int .i64 0, .slice none 0 0, .slice (some ⟨w.heap.size, 0, none⟩) 3 3] 26))) := hide (((Below.refl _ _).alloc (Nat.le_refl _) _).alloc (by simp) _)
  have y0 : ((w.alloc (.cells #[.int .i64 14, .int .i64 0, .int .i64 0, .int .i64 0, .int .i64 2, .string ⟨#[]⟩, .slice none 0 0, .slice none 0 0, .int .i64 0, .int .i64 0, .int .i64 0, .int .i64 15, .int .i64 0, .int .i64 0, .int .i64 0, .int .i64 0, .string ⟨#[]⟩, .slice none 0 0, .slice none 0 0, .int .i64 0, .int .i64 0, .int .i64 0, .int .i64 17, .int .i64 0, .int .i64 0, .int .i64 0, .int .i64 0, .string ⟨#[]⟩, .slice none 0 0, .slice none 0 0, .int .i64 0, .int .i64 0, .int .i64 0] 40)).alloc (.cells #[.string ⟨#[]⟩, .slice none 0 0, .int .i64 0, .slice none 0 0, .slice (some ⟨w.heap.size, 0, none⟩) 3 3] 26)).cell? ⟨w.heap.size + 1, 0, none⟩ = some (.string ⟨#[]⟩) := by simp [go_sem]
  have y1 : ((w.alloc (.cells #[.int .i64 14, .int .i64 0, .int .i64 0, .int .i64 0, .int .i64 2, .string ⟨#[]⟩, .slice none 0 0, .slice none 0 0, .int .i64 0, .int .i64 0, .int .i64 0, .int .i64 15, .int .i64 0, .int .i64 0, .int .i64 0, .int .i64 0, .string ⟨#[]⟩, .slice none 0 0, .slice none 0 0, .int .i64 0, .int .i64 0, .int .i64 0, .int .i64 17, .int .i64 0, .int .i64 0, .int .i64 0, .int .i64 0, .string ⟨#[]⟩, .slice none 0 0, .slice none 0 0, .int .i64 0, .int .i64 0, .int .i64 0] 40)).alloc (.cells #[.string ⟨#[]⟩, .slice none 0 0, .int .i64 0, .slice none 0 0, .slice (some ⟨w.heap.size, 0, none⟩) 3 3] 26)).cell? ⟨w.heap.size + 1, 1, none⟩ = some (.slice none 0 0) := by simp [go_sem]
  have y2 : ((w.alloc (.cells #[.int .i64 14, .int .i64 0, .int .i64 0, .int .i64 0, .int .i64 2, .string ⟨#[]⟩, .slice none 0 0, .slice none 0 0, .int .i64 0, .int .i64 0, .int .i64 0, .int .i64 15, .int .i64 0, .int .i64 0, .int .i64 0, .int .i64 0, .string ⟨#[]⟩, .slice none 0 0, .slice none 0 0, .int .i64 0, .int .i64 0, .int .i64 0, .int .i64 17, .int .i64 0, .int .i64 0, .int .i64 0, .int .i64 0, .string ⟨#[]⟩, .slice none 0 0, .slice none 0 0, .int .i64 0, .int .i64 0, .int .i64 0] 40)).alloc (.cells #[.string ⟨#[]⟩, .slice none 0 0, .int .i64 0, .slice none 0 0, .slice (some ⟨w.heap.size, 0, none⟩) 3 3] 26)).cell? ⟨w.heap.size + 1, 2, none⟩ = some (.int .i64 0) := by simp [go_sem]
  have y3 : ((w.alloc (.cells #[.int .i64 14, .int .i64 0, .int .i64 0, .int .i64 0, .int .i64 2, .string ⟨#[]⟩, .slice none 0 0, .slice none 0 0, .int .i64 0, .int .i64 0, .int .i64 0, .int .i64 15, .int .i64 0, .int .i64 0, .int .i64 0, .int .i64 0, .string ⟨#[]⟩, .slice none 0 0, .slice none 0 0, .int .i64 0, .int .i64 0, .int .i64 0, .int .i64 17, .int .i64 0, .int .i64 0, .int .i64 0, .int .i64 0, .string ⟨#[]⟩, .slice none 0 0, .slice none 0 0, .int .i64 0, .int .i64 0, .int .i64 0] 40)).alloc (.cells #[.string ⟨#[]⟩, .slice none 0 0, .int .i64 0, .slice none 0 0, .slice (some ⟨w.heap.size, 0, none⟩) 3 3] 26)).cell? ⟨w.heap.size + 1, 3, none⟩ = some (.slice none 0 0) := by simp [go_sem]
  have y4 : ((w.alloc (.cells #[.int .i64 14, .int .i64 0, .int .i64 0, .int .i64 0, .int .i64 2, .string ⟨#[]⟩, .slice none 0 0, .slice none 0 0, .int .i64 0, .int .i64 0, .int .i64 0, .int .i64 15, .int .i64 0, .int .i64 0, .int .i64 0, .int .i64 0, .string ⟨#[]⟩, .slice none 0 0, .slice none 0 0, .int .i64 0, .int .i64 0, .int .i64 0, .int .i64 17, .int .i64 0, .int .i64 0, .int .i64 0, .int .i64 0, .string ⟨#[]⟩, .slice none 0 0, .slice none 0 0, .int .i64 0, .int .i64 0, .int .i64 0] 40)).alloc (.cells #[.string ⟨#[]⟩, .slice none 0 0, .int .i64 0, .slice none 0 0, .slice (some ⟨w.heap.size, 0, none⟩) 3 3] 26)).cell? ⟨w.heap.size + 1, 4, none⟩ = some (.slice (some ⟨w.heap.size, 0, none⟩) 3 3) := by simp [go_sem]
  go_enter Try.func5, Try.ntmps5
  go_wp2_with fail
  generalize ((w.alloc (.cells #[.int .i64 14, .int .i64 0, .int .i64 0, .int .i64 0, .int .i64 2, .string ⟨#[]⟩, .slice none 0 0, .slice none 0 0, .int .i64 0, .int .i64 0, .int .i64 0, .int .i64 15, .int .i64 0, .int .i64 0, .int .i64 0, .int .i64 0, .string ⟨#[]⟩, .slice none 0 0, .slice none 0 0, .int .i64 0, .int .i64 0, .int .i64 0, .int .i64 17, .int .i64 0, .int .i64 0, .int .i64 0, .int .i64 0, .string ⟨#[]⟩, .slice none 0 0, .slice none 0 0, .int .i64 0, .int .i64 0, .int .i64 0] 40)).alloc (.cells #[.string ⟨#[]⟩, .slice none 0 0, .int .i64 0, .slice none 0 0, .slice (some ⟨w.heap.size, 0, none⟩) 3 3] 26)) = W at *
  refine (HN.out _ (Below.refl _ _)).mono ?_
  rintro e w1 ⟨v1, rfl, hi1, hb1⟩
  have I1 := hide hi1
  have K1 := hide hb1
  have a0 := bsome hb1 y0
  have a1 := bsome hb1 y1
  have a2 := bsome hb1 y2
  have a3 := bsome hb1 y3
  have a4 := bsome hb1 y4
  clear hi1 hb1 y0 y1 y2 y3 y4
  go_wp2_with fail
  refine (same_any [1, 2] v1 _ _ (by decide) (I1.out.keep ((Below.refl _ _).alloc (Nat.le_refl _) _)) (ir_lit (l := [1, 2]) (fun k x hx => by match k, hx with | 0, hx => (cases hx; simp [go_sem]) | 1, hx => (cases hx; simp [go_sem])))).mono ?_
  rintro e w2 ⟨rfl, hb2⟩
  have hb2' : Below w1.heap.size w1 w2 := btrans ((Below.refl _ _).alloc (Nat.le_refl _) _) hb2
  have K2 := hide (btrans K1.out hb2')
  have b0 := bsome hb2' a0
  have b1 := bsome hb2' a1
  have b2 := bsome hb2' a2
  have b3 := bsome hb2' a3
  have b4 := bsome hb2' a4
  clear hb2 hb2' a0 a1 a2 a3 a4 I1
  go_wp2_with fail
  refine (HP.out _ K2.out).mono ?_
  rintro e w3 ⟨v3, rfl, hi3, hb3⟩
  have I3 := hide hi3
  have K3 := hide (btrans K2.out hb3)
  have c0 := bsome hb3 b0
  have c1 := bsome hb3 b1
  have c2 := bsome hb3 b2
  have c3 := bsome hb3 b3
  have c4 := bsome hb3 b4
  clear hi3 hb3 b0 b1 b2 b3 b4
  go_wp2_with fail
  refine (same_any [1, 0, 2] v3 _ _ (by decide) (I3.out.keep ((Below.refl _ _).alloc (Nat.le_refl _) _)) (ir_lit (l := [1, 0, 2]) (fun k x hx => by match k, hx with | 0, hx => (cases hx; simp [go_sem]) | 1, hx => (cases hx; simp [go_sem]) | 2, hx => (cases hx; simp [go_sem])))).mono ?_
  rintro e w4 ⟨rfl, hb4⟩
  have hb4' : Below w3.heap.size w3 w4 := btrans ((Below.refl _ _).alloc (Nat.le_refl _) _) hb4
  have K4 := hide (btrans K3.out hb4')
  have d0 := bsome hb4' c0
  have d1 := bsome hb4' c1
  have d2 := bsome hb4' c2
  have d3 := bsome hb4' c3
  have d4 := bsome hb4' c4
  clear hb4 hb4' c0 c1 c2 c3 c4 I3
  go_wp2_with fail
  refine (HR.out _ K4.out).mono ?_
  rintro e w5 ⟨v5, rfl, hi5, hb5⟩
  have I5 := hide hi5
  have K5 := hide (btrans K4.out hb5)
  clear hi5 hb5 d0 d1 d2 d3 d4
  go_wp2_with fail
  refine (same_any [0, 1, 2] v5 _ _ (by decide) (I5.out.keep ((Below.refl _ _).alloc (Nat.le_refl _) _)) (ir_lit (l := [0, 1, 2]) (fun k x hx => by match k, hx with | 0, hx => (cases hx; simp [go_sem]) | 1, hx => (cases hx; simp [go_sem]) | 2, hx => (cases hx; simp [go_sem])))).mono ?_
  rintro e w6 ⟨rfl, hb6⟩
  have K6 : Hid (Below w.heap.size w w6) := hide (btrans HB0.out (btrans K5.out (btrans ((Below.refl _ _).alloc (Nat.le_refl _) _) hb6)))
  clear hb6 I5
  go_wp2
  go_ret
  exact ⟨rfl, K6.out⟩
end Go.Proofs.Ytfngmdebmedkjae

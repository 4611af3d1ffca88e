import Derived.Test.YtdnlnpdaplonfabDoorSynBe
import Derived.Test.YtdnlnpdaplonfabDoorSnM
import Derived.Test.YtdnlnpdaplonfabDoorSynEv
import Derived.Test.YtdnlnpdaplonfabDoorSynCr
import Derived.Test.YtdnlnpdaplonfabDoorSynOq
/- The law SyntaxSames: it answers true. -/
namespace Go.Proofs.YtdnlnpdaplonfabDoor
open Go.RowKit

theorem sbegun (w : World) (hw : WTab w) : Calls Tryd.prog 10 #[] w fun e w' => e = .returned (.bool true) ∧ Kp [] w w' := sbegun_any parse_text w hw
theorem GL.keep {w w' : World} {P : Nat → Prop} {n : Nat} {l : List Sx.Tr} {v : Value} (h : Sl (RG w P n) w P l v) (hk : Kp [] w w') : Sl (RG w' P n) w' P l v := h.keep hk (by simp) (fun d c h => h.keep hk (by simp))

set_option maxRecDepth 100000 in
set_option maxHeartbeats 4000000 in
theorem sames_any (n : Nat) (w : World) (hw : WTab w) (P P2 : Nat → Prop) (l m : List Sx.Tr) (a a2 : Option Addr) (cap cap2 : Nat) (h : Sl (RG w P n) w P l (.slice a l.length cap)) (hb : LbG n l) (h2 : Sl (RG w P2 n) w P2 m (.slice a2 m.length cap2)) (hb2 : LbG n m) :
    Calls Tryd.prog 5 #[.agg #[.slice a l.length cap], .agg #[.slice a2 m.length cap2]] w fun e w' => e = .returned (.bool true) ∧ Kp [] w w' := by
  have HW := hide hw
  have H1 := hide h
  have H2 := hide h2
  have HB := hide hb
  have HB2 := hide hb2
  clear hw h h2 hb hb2
  go_enter Tryd.func5, Tryd.ntmps5
  go_wp2_with fail
  refine (sbegun _ (HW.out.below (((Below.refl _ _).alloc (Nat.le_refl _) _).alloc (by simp) _))).mono ?_
  rintro e w1 ⟨rfl, hk1⟩
  have K1 : Hid (Kp [] w w1) := (((Kp.refl [] _).alloc _).alloc _).trans hk1
  have x0 : w1.cell? ⟨w.heap.size, 0, none⟩ = some (.slice a l.length cap) := hk1.some (by simp [go_sem]) (by simp)
  have x1 : w1.cell? ⟨w.heap.size + 1, 0, none⟩ = some (.slice a2 m.length cap2) := hk1.some (by simp [go_sem]) (by simp)
  clear hk1
  go_wp2_with fail
  refine (great_any n _ P l a cap (GL.keep H1.out K1.out) HB.out).mono ?_
  rintro e w2 ⟨g, rfl, hg, hk2⟩
  have K2 := hide (K1.out.trans hk2)
  have y0 := hk2.some x0 (by simp)
  have y1 := hk2.some x1 (by simp)
  clear hk2 x0 x1
  cases g with
  | true =>
    go_wp2
    go_ret
    exact ⟨rfl, K2.out⟩
  | false =>
    have HS := hide (hg rfl)
    clear hg
    go_wp2_with fail
    refine (great_any n _ P2 m a2 cap2 (GL.keep H2.out K2.out) HB2.out).mono ?_
    rintro e w3 ⟨g, rfl, hg, hk3⟩
    have K3 := hide (K2.out.trans hk3)
    have z0 := hk3.some y0 (by simp)
    have z1 := hk3.some y1 (by simp)
    clear hk3 y0 y1
    cases g with
    | true =>
      go_wp2
      go_ret
      exact ⟨rfl, K3.out⟩
    | false =>
      clear hg
      have C1 : Hid (∀ w', Kp [] w w' → Calls Tryd.prog 17 #[.agg #[.slice a l.length cap], .agg #[.slice a2 m.length cap2]] w' fun e w'' => e = .returned (.bool (Sx.sameG n l m)) ∧ Kp [] w' w'') := fun w' k => same_any n w' P P2 l m a a2 cap cap2 (GL.keep H1.out k) (GL.keep H2.out k) HS.out
      have C2 : Hid (∀ w', Kp [] w w' → Calls Tryd.prog 13 #[.agg #[.slice a l.length cap], .agg #[.slice a2 m.length cap2], .bool false] w' fun e w'' => e = .returned (.bool (Sx.sameG n l m)) ∧ Kp [] w' w'') := fun w' k => rsame_any n w' P P2 l m a a2 cap cap2 (GL.keep H1.out k) (GL.keep H2.out k) HS.out
      have C3 : Hid (∀ w', Kp [] w w' → Calls Tryd.prog 18 #[.agg #[.slice a l.length cap]] w' fun e w'' => ∃ a' cap', e = .returned (.agg #[.slice a' l.length cap']) ∧ Sl (RG w'' (fun b => w'.heap.size ≤ b) n) w'' (fun b => w'.heap.size ≤ b) l (.slice a' l.length cap') ∧ Kp [] w' w'') := fun w' k => copyProgram_any n w' P l a cap (GL.keep H1.out k) HS.out
      have C4 : Hid (∀ w' Q a' cap', Kp [] w w' → Sl (RG w' Q n) w' Q l (.slice a' l.length cap') → Calls Tryd.prog 17 #[.agg #[.slice a l.length cap], .agg #[.slice a' l.length cap']] w' fun e w'' => e = .returned (.bool true) ∧ Kp [] w' w'') := fun w' Q a' cap' k hq => by
        have := same_any n w' P Q l l a a' cap cap' (GL.keep H1.out k) hq HS.out
        rw [Sx.sameG_refl] at this
        exact this
      have hcn : Sx.cntG n l ≤ 1000000000 := by have := Sx.cntG_le n l; have := HS.out.w; omega
      have hln : l.length ≤ 1000000000 := by have := HS.out.len; omega
      have C5 : Hid (∀ w', Kp [] w w' → Calls Tryd.prog 14 #[.agg #[.slice a l.length cap]] w' fun e w'' => e = .returned (.int .i64 (Sx.cntG n l)) ∧ Kp [] w' w'') := fun w' k => count_any n (countBlock_any n) w' P l a cap (GL.keep H1.out k) hcn hln
      have C6 : Hid (∀ w', Kp [] w w' → Calls Tryd.prog 15 #[.agg #[.slice a l.length cap]] w' fun e w'' => e = .returned (.int .i64 (Sx.cntG n l)) ∧ Kp [] w' w'') := fun w' k => rcount_any n (countStmts_any n) w' P l a cap (GL.keep H1.out k) hcn hln
      clear hcn hln
      generalize Sx.sameG n l m = X at *
      generalize Sx.cntG n l = Y at *
      go_wp2_with fail
      go_region_held_law (fun w' => w'.cell? ⟨w.heap.size, 0, none⟩ = some (.slice a l.length cap) ∧ w'.cell? ⟨w.heap.size + 1, 0, none⟩ = some (.slice a2 m.length cap2)) ((first | exact ⟨by assumption, by assumption⟩ | go_keep))
        ((first
          | (go_at_call 13; refine (C2.out _ L1.out).mono ?_; rintro e w5 ⟨rfl, hk5⟩; have L2 := hide (L1.out.trans hk5); have s0 := hk5.some q0 (by simp); have s1 := hk5.some q1 (by simp); clear hk5)
          | (go_at_call 18; refine (C3.out _ L2.out).mono ?_; rintro e w6 ⟨a6, cap6, rfl, hs6, hk6⟩; have L3 := hide (L2.out.trans hk6); have HC := hide hs6; have t0 := hk6.some s0 (by simp); have t1 := hk6.some s1 (by simp); clear hk6 hs6)
          | (have hL3 := L3; clear hL3; go_at_call 17; refine (C4.out _ _ a6 cap6 L3.out HC.out).mono ?_; rintro e w7 ⟨rfl, hk7⟩; have L4 := hide (L3.out.trans hk7); have u0 := hk7.some t0 (by simp); have u1 := hk7.some t1 (by simp); clear hk7)
          | (go_at_call 14; refine (C5.out _ L4.out).mono ?_; rintro e w8 ⟨rfl, hk8⟩; have L5 := hide (L4.out.trans hk8); have v0 := hk8.some u0 (by simp); have v1 := hk8.some u1 (by simp); clear hk8)
          | (go_at_call 15; refine (C6.out _ L5.out).mono ?_; rintro e w9 ⟨rfl, hk9⟩; have L6 := hide (L5.out.trans hk9); have r0 := hk9.some v0 (by simp); have r1 := hk9.some v1 (by simp); clear hk9)
          | (go_at_call 17; refine (C1.out _ K3.out.drew).mono ?_; rintro e w4 ⟨rfl, hk4⟩; have L1 := hide (K3.out.drew.trans hk4); have q0 : w4.cell? ⟨w.heap.size, 0, none⟩ = some (.slice a l.length cap) := hk4.some (by simpa [go_sem] using z0) (by simp); have q1 : w4.cell? ⟨w.heap.size + 1, 0, none⟩ = some (.slice a2 m.length cap2) := hk4.some (by simpa [go_sem] using z1) (by simp); clear hk4)))
      go_wp2
      go_ret
      exact ⟨rfl, L6.out⟩
end Go.Proofs.YtdnlnpdaplonfabDoor

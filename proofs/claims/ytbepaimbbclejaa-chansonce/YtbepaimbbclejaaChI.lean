import Derived.Test.YtbepaimbbclejaaChH
import Derived.Test.YtbepaimbbclejaaChF
import Derived.Deep.RegionLaw
import Derived.Deep.Cut
import Derived.Deep.CutRange
import Derived.Deep.LoopGhost
import Derived.BigRegion
import Derived.BigQuiet
/- The document's book: Drop. -/
namespace Go.Proofs.Ytbepaimbbclejaa
open Go.RowKit

section
variable {B : Nat} {w : World} {q : Nat} {ve vs vi vg : Value} {iv : List Value} {E : List En} {S : List Int} {I : List (List (Int × Int))} {G : List Bool}
/-- A store into the row of ends. -/
theorem BK.seth {g c k : Nat} {x : En} (h : BK B w q (.slice (some ⟨g, 0, none⟩) E.length c) vs vi vg iv E S I G) (hx : E[k]? = some x) (y : Int) : BK B (w.setCell ⟨g, k * 4 + 2, none⟩ (.int .i64 y)) q (.slice (some ⟨g, 0, none⟩) E.length c) vs vi vg iv (E.set k { x with h := y }) S I G ∧ BC w (w.setCell ⟨g, k * 4 + 2, none⟩ (.int .i64 y)) (obs q (.slice (some ⟨g, 0, none⟩) E.length c) vs vi vg iv) (obs q (.slice (some ⟨g, 0, none⟩) E.length c) vs vi vg iv) := by
  have hk : Kx (fun b => some b ≠ (Value.slice (some ⟨g, 0, none⟩) E.length c).ownBlock) w (w.setCell ⟨g, k * 4 + 2, none⟩ (.int .i64 y)) := (Kx.refl _ _).set (p := ⟨g, k * 4 + 2, none⟩) (.inr (fun e => e rfl)) _
  exact ⟨h.ends hk (h.lg.seth hx y).o, ⟨hk.mono (fun b _ hb e => hb 1 (show some _ = _ by rw [← e])), fun j b hj => .inl ⟨j, hj⟩⟩⟩
theorem BK.setd {g c k : Nat} {x : En} (h : BK B w q (.slice (some ⟨g, 0, none⟩) E.length c) vs vi vg iv E S I G) (hx : E[k]? = some x) (y : Int) : BK B (w.setCell ⟨g, k * 4 + 3, none⟩ (.int .i64 y)) q (.slice (some ⟨g, 0, none⟩) E.length c) vs vi vg iv (E.set k { x with d := y }) S I G ∧ BC w (w.setCell ⟨g, k * 4 + 3, none⟩ (.int .i64 y)) (obs q (.slice (some ⟨g, 0, none⟩) E.length c) vs vi vg iv) (obs q (.slice (some ⟨g, 0, none⟩) E.length c) vs vi vg iv) := by
  have hk : Kx (fun b => some b ≠ (Value.slice (some ⟨g, 0, none⟩) E.length c).ownBlock) w (w.setCell ⟨g, k * 4 + 3, none⟩ (.int .i64 y)) := (Kx.refl _ _).set (p := ⟨g, k * 4 + 3, none⟩) (.inr (fun e => e rfl)) _
  exact ⟨h.ends hk (h.lg.setd hx y).o, ⟨hk.mono (fun b _ hb e => hb 1 (show some _ = _ by rw [← e])), fun j b hj => .inl ⟨j, hj⟩⟩⟩
theorem BK.setg {g c k : Nat} (h : BK B w q ve vs vi (.slice (some ⟨g, 0, none⟩) G.length c) iv E S I G) (y : Bool) : BK B (w.setCell ⟨g, k, none⟩ (.bool y)) q ve vs vi (.slice (some ⟨g, 0, none⟩) G.length c) iv E S I (G.set k y) ∧ BC w (w.setCell ⟨g, k, none⟩ (.bool y)) (obs q ve vs vi (.slice (some ⟨g, 0, none⟩) G.length c) iv) (obs q ve vs vi (.slice (some ⟨g, 0, none⟩) G.length c) iv) := by
  have hk : Kx (fun b => some b ≠ (Value.slice (some ⟨g, 0, none⟩) G.length c).ownBlock) w (w.setCell ⟨g, k, none⟩ (.bool y)) := (Kx.refl _ _).set (p := ⟨g, k, none⟩) (.inr (fun e => e rfl)) _
  refine ⟨h.gones hk ?_, ⟨hk.mono (fun b _ hb e => hb 4 (show some _ = _ by rw [← e])), fun j b hj => .inl ⟨j, hj⟩⟩⟩
  rw [List.length_set, List.map_set]
  exact (h.og.stored k (.bool y)).1
end
/-- What Drop does, with so much fuel. -/
def DropT (B q f : Nat) : Prop := ∀ (w : World) (ve vs vi vg : Value) (iv : List Value) (S : List Int) (s : Bs) (e : Int), BK B w q ve vs vi vg iv s.e S s.i s.g → BOk s.e S s.i s.g → Bk.tot s.i < f →
    Calls Try.prog 32 #[.pointer (some ⟨q, 0, none⟩), .int .i64 e] w fun r w' => r = .returned (.bool (Bk.drop f s e).2) ∧ ∃ iv', BK B w' q ve vs vi vg iv' (Bk.drop f s e).1.e S (Bk.drop f s e).1.i (Bk.drop f s e).1.g ∧ BC w w' (obs q ve vs vi vg iv) (obs q ve vs vi vg iv')
set_option maxRecDepth 100000
set_option maxHeartbeats 2000000
theorem bdrop_step (B q f : Nat) (ih : DropT B q f) : DropT B q (f + 1) := by
  intro w ve vs vi vg iv S s e h o hf
  obtain ⟨E, I, G⟩ := s
  simp only at h o hf
  have HA := hide (rbAt_any h.lg e)
  rcases Ld.cs E e with ⟨k, x, rfl, hx, hk, h1, h2⟩ | ⟨h1, h2, -⟩
  · rw [h1, h2] at HA
    have hlE := o.le
    obtain ⟨ge, ce, hve, -⟩ := h.lg.at hx
    subst hve
    have HH := hide h
    have HX := hide hx
    have k0 : (0 : Int) ≤ (k : Int) := by omega
    have k1 : (k : Int) < (E.length : Int) := by omega
    by_cases hd : x.h = -2
    · have dd : (x.h == -2) = true := by rw [hd]; rfl
      have hr : Bk.drop (f + 1) ⟨E, I, G⟩ (k : Int) = (⟨E.set k { x with d := wp1 x.d }, I, G⟩, false) := by
        unfold Bk.drop
        simp only [h1, h2, hd, if_true, Bool.true_eq_false, if_false, Int.toNat_natCast]
      rw [hr]
      clear h o hx h1 h2 hd hr
      go_enter Try.func32, Try.ntmps32
      go_wp2_with fail
      refine HA.out.mono ?_
      rintro r w1 ⟨rfl, hb⟩
      have HB2 := hide (hb.alloc hb.size (.cells #[.int .i64 x.c, .bool x.s, .int .i64 x.h, .int .i64 x.d] 48))
      have hbn := hb.size
      clear hb
      go_upto_region 4 with fail
      have z0 : (w1.alloc (.cells #[.int .i64 x.c, .bool x.s, .int .i64 x.h, .int .i64 x.d] 48)).cell? ⟨w1.heap.size, 0, none⟩ = some (.int .i64 x.c) := by simp [go_sem]
      have z1 : (w1.alloc (.cells #[.int .i64 x.c, .bool x.s, .int .i64 x.h, .int .i64 x.d] 48)).cell? ⟨w1.heap.size, 1, none⟩ = some (.bool x.s) := by simp [go_sem]
      have z2 : (w1.alloc (.cells #[.int .i64 x.c, .bool x.s, .int .i64 x.h, .int .i64 x.d] 48)).cell? ⟨w1.heap.size, 2, none⟩ = some (.int .i64 x.h) := by simp [go_sem]
      generalize w1.alloc (.cells #[.int .i64 x.c, .bool x.s, .int .i64 x.h, .int .i64 x.d] 48) = W at *
      obtain ⟨bx, hbx⟩ : ∃ bx, w1.heap.size = bx := ⟨_, rfl⟩
      rw [hbx] at z0 z1 z2 hbn ⊢
      clear hbx
      have H1 := hide (HH.out.keep HB2.out)
      have HNB : Hid (∀ j : Nat, (obs q (.slice (some ⟨ge, 0, none⟩) E.length ce) vs vi vg iv)[j]? ≠ some (some bx)) := hide (HH.out.new hbn)
      obtain ⟨ge', ce', hve, hgq, c1, c2, c3, c4, cf⟩ := H1.out.lg.at HX.out
      obtain ⟨rfl, rfl⟩ : ge = ge' ∧ ce = ce' := by simpa using hve
      have q0 := H1.out.c0
      have cf3 := cf (k * 4 + 3)
      have cf2 := cf (k * 4 + 2)
      have hgx : ¬ bx = ge := fun e => HNB.out 1 (by rw [e]; rfl)
      have hqx : ¬ bx = q := fun e => HNB.out 0 (by rw [e]; rfl)
      have HU := hide (H1.out.setd HX.out (wp1 x.d))
      have HE1 : Hid (wp1 x.d = wrap64 (x.d + 1)) := hide rfl
      clear cf hve
      go_wp2
      go_ret
      exact ⟨rfl, iv, HU.out.1, (BC.of_below HB2.out _).trans HU.out.2⟩
    · have dd : (x.h == -2) = false := beq_eq_false_iff_ne.2 hd
      cases hsx : x.s with
      | true =>
        have hr : Bk.drop (f + 1) ⟨E, I, G⟩ (k : Int) = (⟨E.set k { x with h := -2, d := wp1 x.d }, I, G⟩, true) := by
          unfold Bk.drop
          simp only [h1, h2, hd, hsx, if_true, Bool.true_eq_false, if_false, Int.toNat_natCast]
        rw [hr]
        have HSX := hide hsx
        clear h o hx h1 h2 hd hr hsx
        go_enter Try.func32, Try.ntmps32
        go_wp2_with fail
        refine HA.out.mono ?_
        rintro r w1 ⟨rfl, hb⟩
        have HB2 := hide (hb.alloc hb.size (.cells #[.int .i64 x.c, .bool x.s, .int .i64 x.h, .int .i64 x.d] 48))
        have hbn := hb.size
        clear hb
        go_upto_region 4 with fail
        have z0 : (w1.alloc (.cells #[.int .i64 x.c, .bool x.s, .int .i64 x.h, .int .i64 x.d] 48)).cell? ⟨w1.heap.size, 0, none⟩ = some (.int .i64 x.c) := by simp [go_sem]
        have z1 : (w1.alloc (.cells #[.int .i64 x.c, .bool x.s, .int .i64 x.h, .int .i64 x.d] 48)).cell? ⟨w1.heap.size, 1, none⟩ = some (.bool x.s) := by simp [go_sem]
        have z2 : (w1.alloc (.cells #[.int .i64 x.c, .bool x.s, .int .i64 x.h, .int .i64 x.d] 48)).cell? ⟨w1.heap.size, 2, none⟩ = some (.int .i64 x.h) := by simp [go_sem]
        generalize w1.alloc (.cells #[.int .i64 x.c, .bool x.s, .int .i64 x.h, .int .i64 x.d] 48) = W at *
        obtain ⟨bx, hbx⟩ : ∃ bx, w1.heap.size = bx := ⟨_, rfl⟩
        rw [hbx] at z0 z1 z2 hbn ⊢
        clear hbx
        have H1 := hide (HH.out.keep HB2.out)
        have HNB : Hid (∀ j : Nat, (obs q (.slice (some ⟨ge, 0, none⟩) E.length ce) vs vi vg iv)[j]? ≠ some (some bx)) := hide (HH.out.new hbn)
        obtain ⟨ge', ce', hve, hgq, c1, c2, c3, c4, cf⟩ := H1.out.lg.at HX.out
        obtain ⟨rfl, rfl⟩ : ge = ge' ∧ ce = ce' := by simpa using hve
        have q0 := H1.out.c0
        have cf3 := cf (k * 4 + 3)
        have cf2 := cf (k * 4 + 2)
        have hgx : ¬ bx = ge := fun e => HNB.out 1 (by rw [e]; rfl)
        have hqx : ¬ bx = q := fun e => HNB.out 0 (by rw [e]; rfl)
        have HU := hide (H1.out.setd HX.out (wp1 x.d))
        have HE1 : Hid (wp1 x.d = wrap64 (x.d + 1)) := hide rfl
        clear cf hve
        rw [HSX.out] at z1
        have HU2 := hide (BK.seth (x := { x with d := wp1 x.d }) (k := k) (E := E.set k { x with d := wp1 x.d }) (by rw [List.length_set]; exact HU.out.1) (List.getElem?_set_self hk) (-2))
        rw [List.set_set, List.length_set] at HU2
        go_wp2
        go_ret
        exact ⟨rfl, iv, HU2.out.1, (BC.of_below HB2.out _).trans (HU.out.2.trans HU2.out.2)⟩
      | false =>
        obtain ⟨c, sl, M, g0, hc, hS, hI, hG, hcl, hMl⟩ := o.chan hx
        have hr : Bk.drop (f + 1) ⟨E, I, G⟩ (k : Int) = (Bk.each (fun s e => (Bk.drop f s e).1) M ⟨E.set k { x with h := -2, d := wp1 x.d }, I.set c [], G.set c true⟩, true) := by
          rw [Bk.drop]
          simp only [h1, h2, hd, hsx, Bool.true_eq_false, Bool.false_eq_true, if_false, Int.toNat_natCast, hc, List.getD_eq_getElem?_getD, hI, Option.getD_some]
        rw [hr]
        have HSX := hide hsx
        have HHC := hide hc
        have HI0 := hide hI
        have HG0 := hide hG
        have HOK := hide o
        have HIH := hide ih
        have hcI : c < I.length := by rw [o.lI]; exact hcl
        have hcG : c < G.length := by rw [o.lG]; exact hcl
        have hlI : I.length ≤ 100000 := by rw [o.lI]; exact o.ls
        have hlG : G.length ≤ 100000 := by rw [o.lG]; exact o.ls
        have HTT : Hid (M ≠ [] → Bk.tot (I.set c []) < f) := hide (fun hn => by have := Bk.tot_set hI; have := List.length_pos_iff.2 hn; omega)
        have c0' : (0 : Int) ≤ (c : Int) := by omega
        have c1' : (c : Int) < (I.length : Int) := by omega
        have c2' : (c : Int) < (G.length : Int) := by omega
        clear h o hx h1 h2 hd hr hsx hc hS hI hG ih hf
        go_enter Try.func32, Try.ntmps32
        go_wp2_with fail
        refine HA.out.mono ?_
        rintro r w1 ⟨rfl, hb⟩
        have HB2 := hide (hb.alloc hb.size (.cells #[.int .i64 x.c, .bool x.s, .int .i64 x.h, .int .i64 x.d] 48))
        have hbn := hb.size
        clear hb
        go_upto_region 4 with fail
        have z0 : (w1.alloc (.cells #[.int .i64 x.c, .bool x.s, .int .i64 x.h, .int .i64 x.d] 48)).cell? ⟨w1.heap.size, 0, none⟩ = some (.int .i64 x.c) := by simp [go_sem]
        have z1 : (w1.alloc (.cells #[.int .i64 x.c, .bool x.s, .int .i64 x.h, .int .i64 x.d] 48)).cell? ⟨w1.heap.size, 1, none⟩ = some (.bool x.s) := by simp [go_sem]
        have z2 : (w1.alloc (.cells #[.int .i64 x.c, .bool x.s, .int .i64 x.h, .int .i64 x.d] 48)).cell? ⟨w1.heap.size, 2, none⟩ = some (.int .i64 x.h) := by simp [go_sem]
        generalize w1.alloc (.cells #[.int .i64 x.c, .bool x.s, .int .i64 x.h, .int .i64 x.d] 48) = W at *
        obtain ⟨bx, hbx⟩ : ∃ bx, w1.heap.size = bx := ⟨_, rfl⟩
        rw [hbx] at z0 z1 z2 hbn ⊢
        clear hbx
        have H1 := hide (HH.out.keep HB2.out)
        have HNB : Hid (∀ j : Nat, (obs q (.slice (some ⟨ge, 0, none⟩) E.length ce) vs vi vg iv)[j]? ≠ some (some bx)) := hide (HH.out.new hbn)
        obtain ⟨ge', ce', hve, hgq, c1, c2, c3, c4, cf⟩ := H1.out.lg.at HX.out
        obtain ⟨rfl, rfl⟩ : ge = ge' ∧ ce = ce' := by simpa using hve
        have q0 := H1.out.c0
        have cf3 := cf (k * 4 + 3)
        have cf2 := cf (k * 4 + 2)
        have hgx : ¬ bx = ge := fun e => HNB.out 1 (by rw [e]; rfl)
        have hqx : ¬ bx = q := fun e => HNB.out 0 (by rw [e]; rfl)
        have HU := hide (H1.out.setd HX.out (wp1 x.d))
        have HE1 : Hid (wp1 x.d = wrap64 (x.d + 1)) := hide rfl
        clear cf hve
        rw [HSX.out] at z1
        rw [HHC.out] at z0
        have HU2 := hide (BK.seth (x := { x with d := wp1 x.d }) (k := k) (E := E.set k { x with d := wp1 x.d }) (by rw [List.length_set]; exact HU.out.1) (List.getElem?_set_self hk) (-2))
        rw [List.set_set, List.length_set] at HU2
        have HC2 := hide ((BC.of_below HB2.out _).trans (HU.out.2.trans HU2.out.2))
        go_upto_region 10 with fail
        have y0 : ((W.setCell ⟨ge, k * 4 + 3, none⟩ (.int .i64 (wp1 x.d))).setCell ⟨ge, k * 4 + 2, none⟩ (.int .i64 (-2))).cell? ⟨bx, 0, none⟩ = some (.int .i64 (c : Int)) := by
          rw [World.cell?_setCell_other _ _ _ _ (fun e' => by injection e' with e1; omega), World.cell?_setCell_other _ _ _ _ (fun e' => by injection e' with e1; omega)]
          exact z0
        rw [show wrap64 (x.d + 1) = wp1 x.d from rfl]
        obtain ⟨W2, hW2⟩ : ∃ W2, (W.setCell ⟨ge, k * 4 + 3, none⟩ (.int .i64 (wp1 x.d))).setCell ⟨ge, k * 4 + 2, none⟩ (.int .i64 (-2)) = W2 := ⟨_, rfl⟩
        rw [hW2] at HU2 HC2 y0 ⊢
        clear hW2 z0 z1 z2 c1 c2 c3 c4 q0 cf3 cf2 HU
        obtain ⟨gg, cg, hvg, d1, df⟩ := HU2.out.1.atG HG0.out
        subst hvg
        obtain ⟨gi, ci, al, cal, hvi, hiv, d2, dfi, hio⟩ := HU2.out.1.atI HI0.out
        subst hvi
        have q3 := HU2.out.1.c3
        have q2 := HU2.out.1.c2
        have dfc := df c
        have hxg : ¬ bx = gg := fun e => HNB.out 4 (by rw [e]; rfl)
        have hxi : ¬ bx = gi := fun e => HNB.out 3 (by rw [e]; rfl)
        have hqg : ¬ q = gg := fun e => HU2.out.1.qn.2.2.2 (by rw [e]; rfl)
        have HU3 := hide (HU2.out.1.setg (k := c) true)
        clear df dfi hio hiv
        go_wp2
        go_region
        go_upto_region 11 with fail
        have HU4 := hide (HU3.out.1.keep (w' := (W2.setCell ⟨gg, c, none⟩ (.bool true)).drew) (below_drewN (Below.refl _ _) 1))
        have HC4 := hide ((HC2.out.trans HU3.out.2).trans (BC.of_below (w' := (W2.setCell ⟨gg, c, none⟩ (.bool true)).drew) (below_drewN (Below.refl _ _) 1) _))
        have y1 : (W2.setCell ⟨gg, c, none⟩ (.bool true)).drew.cell? ⟨bx, 0, none⟩ = some (.int .i64 (c : Int)) := by
          show (W2.setCell ⟨gg, c, none⟩ (.bool true)).cell? ⟨bx, 0, none⟩ = _
          rw [World.cell?_setCell_other _ _ _ _ (fun e' => by injection e' with e1; omega)]
          exact y0
        obtain ⟨W3, hW3⟩ : ∃ W3, (W2.setCell ⟨gg, c, none⟩ (.bool true)).drew = W3 := ⟨_, rfl⟩
        rw [hW3] at HU4 HC4 y1 ⊢
        clear hW3 y0 d1 d2 q2 q3 dfc HU2 HC2 HU3
        obtain ⟨gi', ci', a2, ca2, hvi, hiv, d2, dfi, hio⟩ := HU4.out.atI HI0.out
        obtain ⟨rfl, rfl⟩ : gi = gi' ∧ ci = ci' := by simpa using hvi
        have q2 := HU4.out.c2
        have dfc := dfi c
        have HIO := hide hio
        have HIV := hide hiv
        clear hvi hio hiv dfi
        go_wp2
        go_quiet (fail)
        go_wp2
        go_region
        go_upto_region 13 with fail
        have HI3 : Hid (BK B (W3.drewN (nq + 1)) q (.slice (some ⟨ge, 0, none⟩) E.length ce) vs (.slice (some ⟨gi, 0, none⟩) I.length ci) (.slice (some ⟨gg, 0, none⟩) G.length cg) iv (E.set k { x with h := -2, d := wp1 x.d }) S I (G.set c true)) := hide (HU4.out.keep (below_drewN (Below.refl _ _) (nq + 1)))
        have HC5 := hide (HC4.out.trans (BC.of_below (w' := W3.drewN (nq + 1)) (below_drewN (Below.refl _ _) (nq + 1)) _))
        have HI5 := hide (HI3.out.setit (k := c) (M' := []) (v' := .slice none 0 0) HI0.out HIV.out rfl (Kx.refl _ _) (.inl ⟨rfl, rfl⟩) (.inl rfl))
        have HC6 := hide (HC5.out.trans HI5.out.2)
        have HIO5 : Hid (IO B ((W3.drewN (nq + 1)).setCell ⟨gi, c, none⟩ (.slice none 0 0)) (.slice a2 M.length ca2) M) := hide (HIO.out.keep (fun g hg => (Below.heap_setCell _ _ _ _ (fun e => by
          have e' : g = gi := e
          have := HU4.out.dj (5 + c) 3 g (by rw [obs_it HIV.out, hg]) (by rw [e']; rfl)
          omega)).trans rfl))
        have HNO : Hid (∀ gl, (Value.slice a2 M.length ca2).ownBlock = some gl → ∀ j : Nat, (obs q (.slice (some ⟨ge, 0, none⟩) E.length ce) vs (.slice (some ⟨gi, 0, none⟩) I.length ci) (.slice (some ⟨gg, 0, none⟩) G.length cg) (iv.set c (.slice none 0 0)))[j]? ≠ some (some gl)) := hide (fun gl hgl j hj => by
          have hcv : c < iv.length := (List.getElem?_eq_some_iff.1 HIV.out).1
          have eqo : obs q (.slice (some ⟨ge, 0, none⟩) E.length ce) vs (.slice (some ⟨gi, 0, none⟩) I.length ci) (.slice (some ⟨gg, 0, none⟩) G.length cg) (iv.set c (.slice none 0 0)) = (obs q (.slice (some ⟨ge, 0, none⟩) E.length ce) vs (.slice (some ⟨gi, 0, none⟩) I.length ci) (.slice (some ⟨gg, 0, none⟩) G.length cg) iv).set (5 + c) none := by
            rw [Nat.add_comm 5 c]
            show _ :: _ :: _ :: _ :: _ :: (iv.set c (.slice none 0 0)).map Value.ownBlock = _ :: _ :: _ :: _ :: _ :: (iv.map Value.ownBlock).set c none
            rw [List.map_set]
            rfl
          rw [eqo] at hj
          by_cases e : j = 5 + c
          · subst e
            rw [List.getElem?_set] at hj
            simp only [if_true] at hj
            split at hj <;> cases hj
          · rw [List.getElem?_set_ne (fun e' => e e'.symm)] at hj
            exact e (HU4.out.dj j (5 + c) gl hj (by rw [obs_it HIV.out, hgl])))
        have HRL : Hid (Rl ⟨E, I, G⟩ ⟨E.set k { x with h := -2, d := wp1 x.d }, I.set c [], G.set c true⟩) := hide (Rl.trans (Rl.sete (s := ⟨E, I, G⟩) (y := { x with h := -2, d := wp1 x.d }) HX.out rfl rfl) (Rl.seti c (G.set c true) (by simp)))
        obtain ⟨W5, hW5⟩ : ∃ W5, (W3.drewN (nq + 1)).setCell ⟨gi, c, none⟩ (.slice none 0 0) = W5 := ⟨_, rfl⟩
        rw [hW5] at HI5 HC6 HIO5 ⊢
        clear hW5 HI3 HC5 HU4 HC4 y1 d2 q2 dfc HIV HIO HNB hgx hqx hxg hxi hqg
        generalize hs3 : (⟨E.set k { x with h := -2, d := wp1 x.d }, I.set c [], G.set c true⟩ : Bs) = s3 at *
        have HS3 := hide hs3
        have HT3 : Hid (M ≠ [] → Bk.tot s3.i < f) := hide (fun hn => by rw [← hs3]; exact HTT.out hn)
        have HI6 : Hid (BK B W5 q (.slice (some ⟨ge, 0, none⟩) E.length ce) vs (.slice (some ⟨gi, 0, none⟩) I.length ci) (.slice (some ⟨gg, 0, none⟩) G.length cg) (iv.set c (.slice none 0 0)) s3.e S s3.i s3.g) := hide (by rw [← hs3]; exact HI5.out.1)
        clear hs3 HI5 HTT
        go_wp2
        go_loopg [8] M.length (fun gh jv wr => ∃ (j : Nat) (ivr : List Value), gh = M.length - j ∧ j ≤ M.length ∧ jv = .int .i64 j ∧ Hid (BK B wr q (.slice (some ⟨ge, 0, none⟩) E.length ce) vs (.slice (some ⟨gi, 0, none⟩) I.length ci) (.slice (some ⟨gg, 0, none⟩) G.length cg) ivr (Bk.each (fun s e => (Bk.drop f s e).1) (M.take j) s3).e S (Bk.each (fun s e => (Bk.drop f s e).1) (M.take j) s3).i (Bk.each (fun s e => (Bk.drop f s e).1) (M.take j) s3).g) ∧ Hid (BC w wr (obs q (.slice (some ⟨ge, 0, none⟩) E.length ce) vs (.slice (some ⟨gi, 0, none⟩) I.length ci) (.slice (some ⟨gg, 0, none⟩) G.length cg) iv) (obs q (.slice (some ⟨ge, 0, none⟩) E.length ce) vs (.slice (some ⟨gi, 0, none⟩) I.length ci) (.slice (some ⟨gg, 0, none⟩) G.length cg) ivr)) ∧ Hid (IO B wr (.slice a2 M.length ca2) M) ∧ Hid (∀ gl, (Value.slice a2 M.length ca2).ownBlock = some gl → ∀ j : Nat, (obs q (.slice (some ⟨ge, 0, none⟩) E.length ce) vs (.slice (some ⟨gi, 0, none⟩) I.length ci) (.slice (some ⟨gg, 0, none⟩) G.length cg) ivr)[j]? ≠ some (some gl)))
        case atStart => exact ⟨0, _, rfl, Nat.zero_le _, rfl, HI6, HC6, HIO5, HNO⟩
        case round =>
          clear HI6 HC6 HIO5 HNO
          obtain ⟨j, ivr, rfl, hj, rfl, HBr, HCr, HIr, HNr⟩ := hrel
          by_cases hjl : j < M.length
          · have dj : decide ((j : Int) < (M.length : Int)) = true := decide_eq_true (by omega)
            obtain ⟨it, hit⟩ : ∃ it, M[j]? = some it := ⟨_, List.getElem?_eq_getElem hjl⟩
            obtain ⟨gl, ol, cl, hlv, e1, e2⟩ := HIr.out.at hit
            obtain ⟨rfl, rfl⟩ : a2 = some ⟨gl, ol, none⟩ ∧ ca2 = cl := by simpa using hlv
            have j0 : (0 : Int) ≤ (j : Int) := by omega
            have j1 : (j : Int) < (M.length : Int) := by omega
            have HET := hide (Bk.each_take (d := fun s e => (Bk.drop f s e).1) hit s3)
            have HRE := hide (Bk.each_rl (d := fun s e => (Bk.drop f s e).1) (fun s e => Bk.drop_rl f s e) (M.take j) s3)
            have HMN : Hid (M ≠ []) := hide (fun e => by rw [e] at hjl; cases hjl)
            clear hlv hit
            generalize Bk.each (fun s e => (Bk.drop f s e).1) (M.take j) s3 = sj at *
            by_cases hi0 : 0 ≤ it.2
            · have d3 : decide (0 ≤ it.2) = true := decide_eq_true hi0
              rw [if_pos hi0] at HET
              have CD := hide (HIH.out wr _ _ _ _ ivr S sj it.2 HBr.out (Rl.ok (Rl.trans HRL.out HRE.out) HOK.out) (Nat.lt_of_le_of_lt HRE.out.tt (HT3.out HMN.out)))
              clear hi0
              go_wp2_with fail
              refine CD.out.mono ?_
              rintro r w6 ⟨rfl, iv6, hb6, hc6⟩
              have HB7 := hide hb6
              rw [← HET.out] at HB7
              have HI7 := hide (HIr.out.keep (fun g hg => hc6.k.block g (HIr.out.lt g hg).2 (HNr.out g hg)))
              have HN7 : Hid (∀ gl', (Value.slice (some ⟨gl, ol, none⟩) M.length ca2).ownBlock = some gl' → ∀ j : Nat, (obs q (.slice (some ⟨ge, 0, none⟩) E.length ce) vs (.slice (some ⟨gi, 0, none⟩) I.length ci) (.slice (some ⟨gg, 0, none⟩) G.length cg) iv6)[j]? ≠ some (some gl')) := hide (fun gl' hgl j hj => by
                rcases hc6.n j gl' hj with ⟨i', hi'⟩ | hs
                · exact HNr.out gl' hgl i' hi'
                · have := (HIr.out.lt gl' hgl).2; omega)
              have HC7 := hide (HCr.out.trans hc6)
              clear hb6 hc6 CD
              go_wp2
              go_roundg (M.length - (j + 1))
              case measure => omega
              case rel => exact ⟨j + 1, iv6, rfl, by omega, by go_num, HB7, HC7, HI7, HN7⟩
            · have d3 : decide (0 ≤ it.2) = false := decide_eq_false hi0
              rw [if_neg hi0] at HET
              rw [← HET.out] at HBr
              clear hi0
              go_wp2
              go_roundg (M.length - (j + 1))
              case measure => omega
              case rel => exact ⟨j + 1, ivr, rfl, by omega, by go_num, HBr, HCr, HIr, HNr⟩
          · obtain rfl : j = M.length := by omega
            have dj : decide ((M.length : Int) < (M.length : Int)) = false := by simp
            rw [List.take_length] at HBr
            go_wp2
            go_ret
            refine ⟨rfl, ivr, ?_, HCr.out⟩
            rw [HS3.out]
            exact HBr.out
  · rw [h1, h2] at HA
    have hr : Bk.drop (f + 1) ⟨E, I, G⟩ e = (⟨E, I, G⟩, false) := by
      unfold Bk.drop
      simp only [h1, if_true]
    rw [hr]
    have HH := hide h
    clear h o h1 h2 hr
    go_enter Try.func32, Try.ntmps32
    go_wp2_with fail
    refine HA.out.mono ?_
    rintro r w1 ⟨rfl, hb⟩
    have hb2 := hb.alloc hb.size (.cells #[.int .i64 Ld.z.c, .bool Ld.z.s, .int .i64 Ld.z.h, .int .i64 Ld.z.d] 48)
    have HB2 := hide hb2
    clear hb hb2
    go_wp2
    go_ret
    exact ⟨rfl, iv, HH.out.keep HB2.out, BC.of_below HB2.out _⟩
theorem bdrop_any (B q : Nat) : ∀ f, DropT B q f := by
  intro f
  induction f with
  | zero => intro w ve vs vi vg iv S s e h o hf; exact absurd hf (Nat.not_lt_zero _)
  | succ f ih => exact bdrop_step B q f ih
end Go.Proofs.Ytbepaimbbclejaa

import Derived.Test.YtfngmdebmedkjadPthF
/- Is it a way: the document's own reckoning. -/
namespace Go.Proofs.Ytfngmdebmedkjad
open Go.RowKit

set_option maxRecDepth 100000 in
set_option maxHeartbeats 2000000 in
theorem isWay_any (c : Cp) (v : Value) (l : List Int) (w : World) (h : PM c w) (hl : IR w v l) (hn : l.length ≤ 1000000) :
    Calls Try.prog 12 #[c.v, v] w fun e w' => ∃ q : Bool, e = .returned (.bool q) ∧ (q = true ↔ isW c.p l) ∧ Below w.heap.size w w' := by
  obtain ⟨a1, c1, rfl, h1⟩ := hl
  have HL : Hid (∀ i to w', Below w.heap.size w w' → Calls Try.prog 16 #[c.v, .int .i64 i, .int .i64 to] w' fun e w'' => e = .returned (.bool (Pa.comes c.p i to)) ∧ Below w'.heap.size w' w'') := hide (fun i to w' hb => comes_any c i to w' (h.keep hb))
  clear h
  unfold Cp.v at *
  obtain ⟨g, o, cc, a, nm, vs, pr, bl, p⟩ := c
  dsimp only at *
  by_cases h0 : l = []
  · subst h0
    have d0 : ((((([] : List Int)).length : Nat) : Int) == 0) = true := rfl
    go_enter Try.func12, Try.ntmps12
    go_wp2
    go_quiet (fail)
    go_wp2
    go_ret
    exact ⟨false, rfl, by simp [isW], below_drewN ((Below.refl _ _).alloc (Nat.le_refl _) _) _⟩
  obtain ⟨g1, o1, rfl, q1⟩ := h1 h0
  have H1 := hide q1
  have hlen : 0 < l.length := List.length_pos_iff.2 h0
  have d0 : ((l.length : Int) == 0) = false := beq_no (by omega)
  obtain ⟨y0, hy0⟩ : ∃ x, l[0]? = some x := ⟨_, List.getElem?_eq_getElem hlen⟩
  have z0 : w.cell? ⟨g1, o1, none⟩ = some (.int .i64 y0) := H1.out 0 y0 hy0
  have zl := World.block_lt_of_cell? _ _ z0
  dsimp only at zl
  have HY0 := hide hy0
  clear h1 h0 q1 hy0
  have hbw : Hid (Below w.heap.size w (w.alloc (.cells #[nm, vs, pr, bl, .slice a p.length cc] 26))) := hide ((Below.refl _ _).alloc (Nat.le_refl _) _)
  by_cases hneg : y0 < 0
  · have d1 : decide (y0 < 0) = true := by simpa using hneg
    have HW := hide (isW_no0 (p := p) HY0.out (Pa.isI_no.2 (.inl hneg)))
    go_enter Try.func12, Try.ntmps12
    go_wp2
    go_quiet (fail)
    go_wp2
    go_ret
    exact ⟨false, rfl, by simpa using HW.out, below_drewN hbw.out _⟩
  have d1 : decide (y0 < 0) = false := dec_no hneg
  by_cases hbig : (p.length : Int) ≤ y0
  · have d2 : decide ((p.length : Int) ≤ y0) = true := by simpa using hbig
    have HW := hide (isW_no0 (p := p) HY0.out (Pa.isI_no.2 (.inr hbig)))
    go_enter Try.func12, Try.ntmps12
    go_wp2
    go_quiet (fail)
    go_wp2
    go_ret
    exact ⟨false, rfl, by simpa using HW.out, below_drewN hbw.out _⟩
  have d2 : decide ((p.length : Int) ≤ y0) = false := dec_no hbig
  have hq : Pa.isI p y0 = true := Pa.isI_iff.2 ⟨by omega, by omega⟩
  have HQ := hide hq
  clear hq
  go_enter Try.func12, Try.ntmps12
  go_wp2
  go_quiet (fail)
  go_wp2
  generalize hw1 : w.alloc (.cells #[nm, vs, pr, bl, .slice a p.length cc] 26) = w1 at *
  have x0 : w1.cell? ⟨w.heap.size, 0, none⟩ = some nm := by rw [← hw1]; simp [go_sem]
  have x1 : w1.cell? ⟨w.heap.size, 1, none⟩ = some vs := by rw [← hw1]; simp [go_sem]
  have x2 : w1.cell? ⟨w.heap.size, 2, none⟩ = some pr := by rw [← hw1]; simp [go_sem]
  have x3 : w1.cell? ⟨w.heap.size, 3, none⟩ = some bl := by rw [← hw1]; simp [go_sem]
  have x4 : w1.cell? ⟨w.heap.size, 4, none⟩ = some (.slice a p.length cc) := by rw [← hw1]; simp [go_sem]
  clear hw1
  go_loopw [5] (fun i wr => ∃ k : Nat, k + 1 ≤ l.length ∧ i = .int .i64 ((k : Int) + 1) ∧ Hid (stp p l k) ∧ Hid (Below w1.heap.size w1 wr)) (fun i _ => l.length - (intOf i).toNat)
  case atStart => exact ⟨0, by omega, rfl, hide (fun j x y hj => absurd hj (by omega)), hide (below_drewN (Below.refl _ _) _)⟩
  case round =>
    obtain ⟨k, hk, rfl, HS, HB⟩ := hrel
    by_cases hlt : k + 1 < l.length
    · have hltI : (k : Int) + 1 < (l.length : Int) := by omega
      have i1 : (0 : Int) ≤ (k : Int) := by omega
      have i2 : (k : Int) < (l.length : Int) := by omega
      have i3 : (0 : Int) ≤ (k : Int) + 1 := by omega
      have i6 : (k : Int) + 1 - 1 = (k : Int) := by omega
      have i5 : IntKind.i64.wrap ((k : Int) + 1 - 1) = (k : Int) := by rw [IntKind.wrap_i64]; omega
      have i7 : IntKind.i64.wrap (k : Int) = (k : Int) := by rw [IntKind.wrap_i64]; omega
      obtain ⟨x, hx⟩ : ∃ x, l[k]? = some x := ⟨_, List.getElem?_eq_getElem (by omega)⟩
      obtain ⟨y, hy⟩ : ∃ y, l[k + 1]? = some y := ⟨_, List.getElem?_eq_getElem hlt⟩
      have t0 := bsome HB.out x0
      have t1 := bsome HB.out x1
      have t2 := bsome HB.out x2
      have t3 := bsome HB.out x3
      have t4 := bsome HB.out x4
      have HBw := hide (btrans hbw.out HB.out)
      have t5 := bsome HBw.out (H1.out k x hx)
      have t6 := bsome HBw.out (H1.out (k + 1) y hy)
      have HX := hide hx
      have HY := hide hy
      clear hx hy
      cases hc : Pa.comes p x y with
      | false =>
          have HL0 := hide (fun w' (hb : Below wr.heap.size wr w') => HL.out x y w' (btrans HBw.out hb))
          rw [hc] at HL0
          go_wp2
          go_region_held3 (fun w' => w'.cell? ⟨w.heap.size, 0, none⟩ = some nm ∧ w'.cell? ⟨w.heap.size, 1, none⟩ = some vs ∧ w'.cell? ⟨w.heap.size, 2, none⟩ = some pr ∧ w'.cell? ⟨w.heap.size, 3, none⟩ = some bl ∧ w'.cell? ⟨w.heap.size, 4, none⟩ = some (.slice a p.length cc) ∧ w'.cell? ⟨g1, o1 + k, none⟩ = some (.int .i64 x) ∧ w'.cell? ⟨g1, o1 + (k + 1), none⟩ = some (.int .i64 y)) ((first | exact ⟨by assumption, by assumption, by assumption, by assumption, by assumption, by assumption, by assumption⟩ | go_keep))
            ((go_at_call 16; refine (HL0.out _ (by exact ⟨rfl, rfl, rfl, Nat.le_refl _, fun _ _ => rfl⟩)).mono ?_; rintro e w3 ⟨rfl, hb3⟩; have k3 : Below wr.heap.size wr w3 := ⟨hb3.os, hb3.tape, hb3.output, hb3.size, hb3.block⟩; clear hb3; have r0 := bsome k3 t0; have r1 := bsome k3 t1; have r2 := bsome k3 t2; have r3 := bsome k3 t3; have r4 := bsome k3 t4; have r5 := bsome k3 t5; have r6 := bsome k3 t6))
          go_wp2
          go_ret
          exact ⟨false, rfl, by simpa using isW_noj HX.out HY.out hc, btrans HBw.out k3⟩
      | true =>
          have HL0 := hide (fun w' (hb : Below wr.heap.size wr w') => HL.out x y w' (btrans HBw.out hb))
          rw [hc] at HL0
          go_wp2
          go_region_held3 (fun w' => w'.cell? ⟨w.heap.size, 0, none⟩ = some nm ∧ w'.cell? ⟨w.heap.size, 1, none⟩ = some vs ∧ w'.cell? ⟨w.heap.size, 2, none⟩ = some pr ∧ w'.cell? ⟨w.heap.size, 3, none⟩ = some bl ∧ w'.cell? ⟨w.heap.size, 4, none⟩ = some (.slice a p.length cc) ∧ w'.cell? ⟨g1, o1 + k, none⟩ = some (.int .i64 x) ∧ w'.cell? ⟨g1, o1 + (k + 1), none⟩ = some (.int .i64 y)) ((first | exact ⟨by assumption, by assumption, by assumption, by assumption, by assumption, by assumption, by assumption⟩ | go_keep))
            ((go_at_call 16; refine (HL0.out _ (by exact ⟨rfl, rfl, rfl, Nat.le_refl _, fun _ _ => rfl⟩)).mono ?_; rintro e w3 ⟨rfl, hb3⟩; have k3 : Below wr.heap.size wr w3 := ⟨hb3.os, hb3.tape, hb3.output, hb3.size, hb3.block⟩; clear hb3; have r0 := bsome k3 t0; have r1 := bsome k3 t1; have r2 := bsome k3 t2; have r3 := bsome k3 t3; have r4 := bsome k3 t4; have r5 := bsome k3 t5; have r6 := bsome k3 t6))
          clear t0 t1 t2 t3 t4 t5 t6
          go_wp2
          go_roundw
          case rel => exact ⟨k + 1, by omega, by go_num, hide (stp_succ HS.out HX.out HY.out hc), hide (btrans HB.out k3)⟩
          case measure => simp [intOf]; omega
    · go_wp2
      go_ret
      have : k = l.length - 1 := by omega
      subst this
      exact ⟨true, rfl, by simpa using ⟨⟨y0, HY0.out, HQ.out⟩, HS.out⟩, btrans hbw.out HB.out⟩
end Go.Proofs.Ytfngmdebmedkjad

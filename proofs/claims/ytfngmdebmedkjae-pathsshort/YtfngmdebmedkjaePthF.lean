import Derived.Test.YtfngmdebmedkjaePthE
import Derived.Deep.RegionHeld3
/- Is it a way: both reckonings. -/
namespace Go.Proofs.Ytfngmdebmedkjae
open Go.RowKit

/-- The first k steps are steps. -/
def stp (p : Pa.Pr) (l : List Int) (k : Nat) : Prop := ∀ (j : Nat) x y, j < k → l[j]? = some x → l[j + 1]? = some y → Pa.comes p x y = true
/-- Is it a way? -/
def isW (p : Pa.Pr) (l : List Int) : Prop := (∃ x, l[0]? = some x ∧ Pa.isI p x = true) ∧ stp p l (l.length - 1)
theorem isW_no0 {p : Pa.Pr} {l : List Int} {x : Int} (h : l[0]? = some x) (hx : Pa.isI p x = false) : ¬ isW p l := by
  rintro ⟨⟨y, h1, h2⟩, -⟩
  rw [h] at h1
  cases h1
  rw [hx] at h2
  cases h2
theorem isW_noj {p : Pa.Pr} {l : List Int} {j : Nat} {x y : Int} (h : l[j]? = some x) (h' : l[j + 1]? = some y) (hc : Pa.comes p x y = false) : ¬ isW p l := by
  rintro ⟨-, hs⟩
  have hj := (List.getElem?_eq_some_iff.1 h').1
  have := hs j x y (by omega) h h'
  rw [hc] at this
  cases this

theorem stp_succ {p : Pa.Pr} {l : List Int} {k : Nat} {x y : Int} (h : stp p l k) (hx : l[k]? = some x) (hy : l[k + 1]? = some y) (hc : Pa.comes p x y = true) : stp p l (k + 1) := by
  intro j x' y' hj hx' hy'
  by_cases e : j = k
  · subst e
    rw [hx] at hx'
    rw [hy] at hy'
    cases hx'
    cases hy'
    exact hc
  · exact h j x' y' (by omega) hx' hy'

set_option maxRecDepth 100000 in
set_option maxHeartbeats 2000000 in
theorem is_any (c : Cp) (v : Value) (l : List Int) (w : World) (h : PM c w) (hl : IR w v l) (hn : l.length ≤ 1000000) :
    Calls Try.prog 11 #[c.v, v] w fun e w' => ∃ q : Bool, e = .returned (.bool q) ∧ (q = true ↔ isW c.p l) ∧ Below w.heap.size w w' := by
  obtain ⟨a1, c1, rfl, h1⟩ := hl
  have HI := hide (fun i w' => isIns_any c i w')
  have HL : Hid (∀ i to w', Below w.heap.size w w' → Calls Try.prog 21 #[c.v, .int .i64 i, .int .i64 to] w' fun e w'' => e = .returned (.bool (Pa.comes c.p i to)) ∧ Below w'.heap.size w' w'') := hide (fun i to w' hb => leads_any c i to w' (h.keep hb))
  clear h
  unfold Cp.v at *
  obtain ⟨g, o, cc, a, nm, vs, pr, bl, p⟩ := c
  dsimp only at *
  by_cases h0 : l = []
  · subst h0
    have d0 : ((((([] : List Int)).length : Nat) : Int) == 0) = true := rfl
    go_enter Try.func11, Try.ntmps11
    go_wp2
    go_quiet (fail)
    go_wp2
    go_ret
    exact ⟨false, rfl, by simp [isW], below_drewN ((Below.refl _ _).alloc (Nat.le_refl _) _) _⟩
  obtain ⟨g1, o1, rfl, q1⟩ := h1 h0
  have H1 := hide q1
  have hlen : 0 < l.length := List.length_pos_iff.2 h0
  have d0 : ((l.length : Int) == 0) = false := beq_no (by omega)
  obtain ⟨y0, hy0⟩ : ∃ x, l[0]? = some x := ⟨_, List.getElem?_eq_getElem hlen⟩
  have z0 : w.cell? ⟨g1, o1, none⟩ = some (.int .i64 y0) := H1.out 0 y0 hy0
  have zl := World.block_lt_of_cell? _ _ z0
  have HY0 := hide hy0
  clear h1 h0 q1 hy0
  have hbw : Hid (Below w.heap.size w (w.alloc (.cells #[nm, vs, pr, bl, .slice a p.length cc] 26))) := hide ((Below.refl _ _).alloc (Nat.le_refl _) _)
  have x0 : (w.alloc (.cells #[nm, vs, pr, bl, .slice a p.length cc] 26)).cell? ⟨w.heap.size, 0, none⟩ = some nm := by simp [go_sem]
  have x1 : (w.alloc (.cells #[nm, vs, pr, bl, .slice a p.length cc] 26)).cell? ⟨w.heap.size, 1, none⟩ = some vs := by simp [go_sem]
  have x2 : (w.alloc (.cells #[nm, vs, pr, bl, .slice a p.length cc] 26)).cell? ⟨w.heap.size, 2, none⟩ = some pr := by simp [go_sem]
  have x3 : (w.alloc (.cells #[nm, vs, pr, bl, .slice a p.length cc] 26)).cell? ⟨w.heap.size, 3, none⟩ = some bl := by simp [go_sem]
  have x4 : (w.alloc (.cells #[nm, vs, pr, bl, .slice a p.length cc] 26)).cell? ⟨w.heap.size, 4, none⟩ = some (.slice a p.length cc) := by simp [go_sem]
  have x5 : (w.alloc (.cells #[nm, vs, pr, bl, .slice a p.length cc] 26)).cell? ⟨g1, o1, none⟩ = some (.int .i64 y0) := bsome hbw.out z0
  cases hq : Pa.isI p y0 with
  | false =>
    have HI0 := hide (HI.out y0)
    rw [hq] at HI0
    go_enter Try.func11, Try.ntmps11
    go_wp2
    generalize w.alloc (.cells #[nm, vs, pr, bl, .slice a p.length cc] 26) = w1 at *
    go_region_held3 (fun w' => w'.cell? ⟨w.heap.size, 0, none⟩ = some nm ∧ w'.cell? ⟨w.heap.size, 1, none⟩ = some vs ∧ w'.cell? ⟨w.heap.size, 2, none⟩ = some pr ∧ w'.cell? ⟨w.heap.size, 3, none⟩ = some bl ∧ w'.cell? ⟨w.heap.size, 4, none⟩ = some (.slice a p.length cc) ∧ w'.cell? ⟨g1, o1, none⟩ = some (.int .i64 y0)) ((first | exact ⟨by assumption, by assumption, by assumption, by assumption, by assumption, by assumption⟩ | go_keep))
      ((go_at_call 15; refine (HI0.out _).mono ?_; rintro e w2 ⟨rfl, hb2⟩; have kw2 : Below w1.heap.size w1 w2 := ⟨hb2.os, hb2.tape, hb2.output, hb2.size, hb2.block⟩; clear hb2; have s0w2 := bsome kw2 x0; have s1w2 := bsome kw2 x1; have s2w2 := bsome kw2 x2; have s3w2 := bsome kw2 x3; have s4w2 := bsome kw2 x4; have s5w2 := bsome kw2 x5))
    all_goals
      go_wp2
      go_ret
      exact ⟨false, rfl, by simpa using isW_no0 HY0.out hq, btrans hbw.out kw2⟩
  | true =>
    have HI0 := hide (HI.out y0)
    rw [hq] at HI0
    go_enter Try.func11, Try.ntmps11
    go_wp2
    generalize w.alloc (.cells #[nm, vs, pr, bl, .slice a p.length cc] 26) = w1 at *
    go_region_held3 (fun w' => w'.cell? ⟨w.heap.size, 0, none⟩ = some nm ∧ w'.cell? ⟨w.heap.size, 1, none⟩ = some vs ∧ w'.cell? ⟨w.heap.size, 2, none⟩ = some pr ∧ w'.cell? ⟨w.heap.size, 3, none⟩ = some bl ∧ w'.cell? ⟨w.heap.size, 4, none⟩ = some (.slice a p.length cc) ∧ w'.cell? ⟨g1, o1, none⟩ = some (.int .i64 y0)) ((first | exact ⟨by assumption, by assumption, by assumption, by assumption, by assumption, by assumption⟩ | go_keep))
      ((go_at_call 15; refine (HI0.out _).mono ?_; rintro e w2 ⟨rfl, hb2⟩; have kw2 : Below w1.heap.size w1 w2 := ⟨hb2.os, hb2.tape, hb2.output, hb2.size, hb2.block⟩; clear hb2; have s0w2 := bsome kw2 x0; have s1w2 := bsome kw2 x1; have s2w2 := bsome kw2 x2; have s3w2 := bsome kw2 x3; have s4w2 := bsome kw2 x4; have s5w2 := bsome kw2 x5))
    clear x0 x1 x2 x3 x4 x5
    go_wp2
    go_loopw [20] (fun i wr => ∃ k : Nat, k + 1 ≤ l.length ∧ i = .int .i64 k ∧ Hid (stp p l k) ∧ Hid (Below w2.heap.size w2 wr)) (fun i _ => l.length - (intOf i).toNat)
    case atStart => exact ⟨0, by omega, rfl, hide (fun j x y hj => absurd hj (by omega)), hide (Below.refl _ _)⟩
    case round =>
      obtain ⟨k, hk, rfl, HS, HB⟩ := hrel
      by_cases hlt : k + 1 < l.length
      · have hltI : (k : Int) < (l.length : Int) - 1 := by omega
        have i1 : (0 : Int) ≤ (k : Int) := by omega
        have i2 : (k : Int) < (l.length : Int) := by omega
        have i3 : (0 : Int) ≤ (k : Int) + 1 := by omega
        have i4 : (k : Int) + 1 < (l.length : Int) := by omega
        have i5 : IntKind.i64.wrap ((k : Int) + 1) = (k : Int) + 1 := by rw [IntKind.wrap_i64]; omega
        obtain ⟨x, hx⟩ : ∃ x, l[k]? = some x := ⟨_, List.getElem?_eq_getElem (by omega)⟩
        obtain ⟨y, hy⟩ : ∃ y, l[k + 1]? = some y := ⟨_, List.getElem?_eq_getElem hlt⟩
        have t0 := bsome HB.out s0w2
        have t1 := bsome HB.out s1w2
        have t2 := bsome HB.out s2w2
        have t3 := bsome HB.out s3w2
        have t4 := bsome HB.out s4w2
        have HBw := hide (btrans (btrans hbw.out kw2) HB.out)
        have t5 := bsome HBw.out (H1.out k x hx)
        have t6 := bsome HBw.out (H1.out (k + 1) y hy)
        have HX := hide hx
        have HY := hide hy
        clear hx hy
        cases hc : Pa.comes p x y with
        | false =>
          have HL0 := hide (fun w' (hb : Below wr.heap.size wr w') => HL.out x y w' (btrans HBw.out hb))
          rw [hc] at HL0
          go_wp2
          go_region_held3 (fun w' => w'.cell? ⟨w.heap.size, 0, none⟩ = some nm ∧ w'.cell? ⟨w.heap.size, 1, none⟩ = some vs ∧ w'.cell? ⟨w.heap.size, 2, none⟩ = some pr ∧ w'.cell? ⟨w.heap.size, 3, none⟩ = some bl ∧ w'.cell? ⟨w.heap.size, 4, none⟩ = some (.slice a p.length cc) ∧ w'.cell? ⟨g1, o1 + k, none⟩ = some (.int .i64 x) ∧ w'.cell? ⟨g1, o1 + (k + 1), none⟩ = some (.int .i64 y)) ((first | exact ⟨by assumption, by assumption, by assumption, by assumption, by assumption, by assumption, by assumption⟩ | go_keep))
            ((go_at_call 21; refine (HL0.out _ (by exact ⟨rfl, rfl, rfl, Nat.le_refl _, fun _ _ => rfl⟩)).mono ?_; rintro e w3 ⟨rfl, hb3⟩; have k3 : Below wr.heap.size wr w3 := ⟨hb3.os, hb3.tape, hb3.output, hb3.size, hb3.block⟩; clear hb3; have r0 := bsome k3 t0; have r1 := bsome k3 t1; have r2 := bsome k3 t2; have r3 := bsome k3 t3; have r4 := bsome k3 t4; have r5 := bsome k3 t5; have r6 := bsome k3 t6))
          go_wp2
          go_ret
          exact ⟨false, rfl, by simpa using isW_noj HX.out HY.out hc, btrans HBw.out k3⟩
        | true =>
          have HL0 := hide (fun w' (hb : Below wr.heap.size wr w') => HL.out x y w' (btrans HBw.out hb))
          rw [hc] at HL0
          go_wp2
          go_region_held3 (fun w' => w'.cell? ⟨w.heap.size, 0, none⟩ = some nm ∧ w'.cell? ⟨w.heap.size, 1, none⟩ = some vs ∧ w'.cell? ⟨w.heap.size, 2, none⟩ = some pr ∧ w'.cell? ⟨w.heap.size, 3, none⟩ = some bl ∧ w'.cell? ⟨w.heap.size, 4, none⟩ = some (.slice a p.length cc) ∧ w'.cell? ⟨g1, o1 + k, none⟩ = some (.int .i64 x) ∧ w'.cell? ⟨g1, o1 + (k + 1), none⟩ = some (.int .i64 y)) ((first | exact ⟨by assumption, by assumption, by assumption, by assumption, by assumption, by assumption, by assumption⟩ | go_keep))
            ((go_at_call 21; refine (HL0.out _ (by exact ⟨rfl, rfl, rfl, Nat.le_refl _, fun _ _ => rfl⟩)).mono ?_; rintro e w3 ⟨rfl, hb3⟩; have k3 : Below wr.heap.size wr w3 := ⟨hb3.os, hb3.tape, hb3.output, hb3.size, hb3.block⟩; clear hb3; have r0 := bsome k3 t0; have r1 := bsome k3 t1; have r2 := bsome k3 t2; have r3 := bsome k3 t3; have r4 := bsome k3 t4; have r5 := bsome k3 t5; have r6 := bsome k3 t6))
          clear t0 t1 t2 t3 t4 t5 t6
          go_wp2
          go_roundw
          case rel => exact ⟨k + 1, by omega, by go_num, hide (stp_succ HS.out HX.out HY.out hc), hide (btrans HB.out k3)⟩
          case measure => simp [intOf]; omega
      · go_wp2
        go_ret
        have : k = l.length - 1 := by omega
        subst this
        exact ⟨true, rfl, by simpa using ⟨⟨y0, HY0.out, hq⟩, HS.out⟩, btrans (btrans hbw.out kw2) HB.out⟩
end Go.Proofs.Ytfngmdebmedkjae

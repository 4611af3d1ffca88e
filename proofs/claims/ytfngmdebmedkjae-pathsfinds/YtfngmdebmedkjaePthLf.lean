import Derived.Test.YtfngmdebmedkjaePthS
import Derived.Test.YtfngmdebmedkjaePthT
import Derived.Test.YtfngmdebmedkjaePthV
import Derived.Deep.RegionHeld3
/- The law PathsFinds: it answers true. -/
namespace Go.Proofs.Ytfngmdebmedkjae
open Go.RowKit

set_option maxRecDepth 100000 in
set_option maxHeartbeats 4000000 in
theorem finds_any (c : Cp) (i k : Int) (w : World) (h : GM c w) :
    Calls Try.prog 3 #[c.v, .int .i64 i, .int .i64 k] w fun e w' => e = .returned (.bool true) ∧ Below w.heap.size w w' := by
  have HM := hide h
  have HG := hide (fun w' (hb : Below w.heap.size w w') => great_any c w' (h.keep hb))
  have HP : Hid (c.p.length ≤ 300 → ∀ w', Below w.heap.size w w' → Calls Try.prog 8 #[c.v, .int .i64 i, .int .i64 k] w' fun e w'' => ∃ (v : Value) (L : List Nat), e = .returned v ∧ IR w'' v (up L) ∧ PTH c.p i k L ∧ Below w'.heap.size w' w'') := hide (fun hf w' hb => path_any c i k w' ((h.keep hb).pm hf))
  have HW : Hid (c.p.length ≤ 300 → ∀ w', Below w.heap.size w w' → Calls Try.prog 9 #[c.v, .int .i64 i, .int .i64 k] w' fun e w'' => ∃ (v : Value) (L : List Nat), e = .returned v ∧ IR w'' v (up L) ∧ PTH0 c.p i k L ∧ Below w'.heap.size w' w'') := hide (fun hf w' hb => wayTo_any c i k w' ((h.keep hb).pm hf))
  clear h
  rw [show c.v = .agg #[c.nm, c.vs, c.pr, c.bl, .slice c.a c.p.length c.c] from rfl] at HG HP HW ⊢
  have HB0 : Hid (Below w.heap.size w (w.alloc (.cells #[c.nm, c.vs, c.pr, c.bl, .slice c.a c.p.length c.c] 26))) := hide ((Below.refl _ _).alloc (Nat.le_refl _) _)
  have y0 : (w.alloc (.cells #[c.nm, c.vs, c.pr, c.bl, .slice c.a c.p.length c.c] 26)).cell? ⟨w.heap.size, 0, none⟩ = some c.nm := by simp [go_sem]
  have y1 : (w.alloc (.cells #[c.nm, c.vs, c.pr, c.bl, .slice c.a c.p.length c.c] 26)).cell? ⟨w.heap.size, 1, none⟩ = some c.vs := by simp [go_sem]
  have y2 : (w.alloc (.cells #[c.nm, c.vs, c.pr, c.bl, .slice c.a c.p.length c.c] 26)).cell? ⟨w.heap.size, 2, none⟩ = some c.pr := by simp [go_sem]
  have y3 : (w.alloc (.cells #[c.nm, c.vs, c.pr, c.bl, .slice c.a c.p.length c.c] 26)).cell? ⟨w.heap.size, 3, none⟩ = some c.bl := by simp [go_sem]
  have y4 : (w.alloc (.cells #[c.nm, c.vs, c.pr, c.bl, .slice c.a c.p.length c.c] 26)).cell? ⟨w.heap.size, 4, none⟩ = some (.slice c.a c.p.length c.c) := by simp [go_sem]
  go_enter Try.func3, Try.ntmps3
  go_wp2_with fail
  refine (begun_any _).mono ?_
  rintro e w1 ⟨rfl, hb1⟩
  have K1 := hide (btrans HB0.out hb1)
  have z0 := bsome hb1 y0
  have z1 := bsome hb1 y1
  have z2 := bsome hb1 y2
  have z3 := bsome hb1 y3
  have z4 := bsome hb1 y4
  clear hb1 HB0 y0 y1 y2 y3 y4
  go_wp2_with fail
  refine (HG.out _ K1.out).mono ?_
  rintro e w2 ⟨q, rfl, hq, hb2⟩
  have K2 := hide (btrans K1.out hb2)
  have x0 := bsome hb2 z0
  have x1 := bsome hb2 z1
  have x2 := bsome hb2 z2
  have x3 := bsome hb2 z3
  have x4 := bsome hb2 z4
  clear hb2 z0 z1 z2 z3 z4
  cases q with
  | true =>
    go_wp2
    go_ret
    exact ⟨rfl, K2.out⟩
  | false =>
    have hf := hq rfl
    have CP := hide (fun w' (hb : Below w2.heap.size w2 w') => HP.out hf w' (btrans K2.out hb))
    have CW := hide (fun w' (hb : Below w2.heap.size w2 w') => HW.out hf w' (btrans K2.out hb))
    clear HP HW HG hq K1
    go_wp2
    go_region_held3 (fun w' => w'.cell? ⟨w.heap.size, 0, none⟩ = some c.nm ∧ w'.cell? ⟨w.heap.size, 1, none⟩ = some c.vs ∧ w'.cell? ⟨w.heap.size, 2, none⟩ = some c.pr ∧ w'.cell? ⟨w.heap.size, 3, none⟩ = some c.bl ∧ w'.cell? ⟨w.heap.size, 4, none⟩ = some (.slice c.a c.p.length c.c)) ((first | exact ⟨by assumption, by assumption, by assumption, by assumption, by assumption⟩ | go_keep))
      ((first
        | (go_at_call 8; refine (CP.out _ (by first | exact ⟨rfl, rfl, rfl, Nat.le_refl _, fun _ _ => rfl⟩ | exact kW)).mono ?_; rintro e wP ⟨vP, LP, rfl, hPi, hPp, hbP⟩; have kP : Below w2.heap.size w2 wP := (by first | exact ⟨hbP.os, hbP.tape, hbP.output, hbP.size, hbP.block⟩ | exact btrans kW hbP); have IP := hide hPi; have QP := hide hPp; (try have IW2 := hide (IW.out.keep hbP)); clear hPi hPp hbP; have p0 := bsome kP x0; have p1 := bsome kP x1; have p2 := bsome kP x2; have p3 := bsome kP x3; have p4 := bsome kP x4)
        | (go_at_call 9; refine (CW.out _ (by first | exact ⟨rfl, rfl, rfl, Nat.le_refl _, fun _ _ => rfl⟩ | exact kP)).mono ?_; rintro e wW ⟨vW, LW, rfl, hWi, hWp, hbW⟩; have kW : Below w2.heap.size w2 wW := (by first | exact ⟨hbW.os, hbW.tape, hbW.output, hbW.size, hbW.block⟩ | exact btrans kP hbW); have IW := hide hWi; have QW := hide hWp; (try have IP2 := hide (IP.out.keep hbW)); clear hWi hWp hbW; have r0 := bsome kW x0; have r1 := bsome kW x1; have r2 := bsome kW x2; have r3 := bsome kW x3; have r4 := bsome kW x4)
        | (go_at_call 7; refine (same_any (up LP) vP vW _ (by rw [up_len]; have := QP.out.len; omega) (by first | exact IP.out | exact IP2.out) (by rw [PTH0.eq QP.out.zero QW.out]; first | exact IW2.out | exact IW.out)).mono ?_; rintro e wS ⟨rfl, hbS⟩; have kS : Below w2.heap.size w2 wS := (by first | exact btrans kW hbS | exact btrans kP hbS); clear hbS; have s0 := bsome kS x0; have s1 := bsome kS x1; have s2 := bsome kS x2; have s3 := bsome kS x3; have s4 := bsome kS x4)))
    all_goals
      go_wp2
      go_ret
      exact ⟨rfl, btrans K2.out kS⟩
end Go.Proofs.Ytfngmdebmedkjae

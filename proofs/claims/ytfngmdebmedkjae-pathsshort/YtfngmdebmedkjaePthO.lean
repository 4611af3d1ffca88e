import Derived.Test.YtfngmdebmedkjaePthN
/- How far it is to one: its walk. -/
namespace Go.Proofs.Ytfngmdebmedkjae
open Go.RowKit

set_option linter.unusedSimpArgs false in
set_option maxRecDepth 100000 in
set_option maxHeartbeats 4000000 in
theorem away_any (c : Cp) (to : Int) (w : World) (h : PM c w) :
    Calls Try.prog 17 #[c.v, .int .i64 to] w fun e w' => ∃ (ga ca : Nat) (D : List Int), e = .returned (.slice (some ⟨ga, 0, none⟩) c.p.length ca) ∧ (∀ (k : Nat) x, D[k]? = some x → w'.cell? ⟨ga, k, none⟩ = some (.int .i64 x)) ∧ Pa.Aw (nxp c.p) c.p.length to D ∧ Pa.Shut (nxp c.p) D ∧ Below w.heap.size w w' := by
  have hfew := h.few
  obtain ⟨Z, hZ, mk⟩ := make_ints c.p.length hfew
  have HZ := hide hZ
  have HM := hide h
  have HG : Hid (c.p ≠ [] → c.g < w.heap.size) := hide (fun hne => by
    obtain ⟨x, hx⟩ : ∃ x, c.p[0]? = some x := ⟨_, List.getElem?_eq_getElem (List.length_pos_iff.2 hne)⟩
    obtain ⟨u1, u2, u3, u5, a6, n6, c6, a7, n7, c7, u8, u9, u10, h0, -⟩ := h.row 0 x hx
    exact World.block_lt_of_cell? _ _ h0)
  clear hZ h
  rw [show c.v = .agg #[c.nm, c.vs, c.pr, c.bl, .slice c.a c.p.length c.c] from rfl]
  go_enter Try.func17, Try.ntmps17
  go_wp2
  have HB2 : Hid (Below w.heap.size w ((w.alloc (.cells #[c.nm, c.vs, c.pr, c.bl, .slice c.a c.p.length c.c] 26)).alloc (.cells Z 3))) := hide (((Below.refl _ _).alloc (Nat.le_refl _) _).alloc (by simp) _)
  have HA2 : Hid (AR (w.heap.size + 1) ((w.alloc (.cells #[c.nm, c.vs, c.pr, c.bl, .slice c.a c.p.length c.c] 26)).alloc (.cells Z 3)) (List.replicate c.p.length 0)) := by
    have h1 := ar_new (w.alloc (.cells #[c.nm, c.vs, c.pr, c.bl, .slice c.a c.p.length c.c] 26)) Z c.p.length HZ.out
    have h2 : w.heap.size + 1 = (w.alloc (.cells #[c.nm, c.vs, c.pr, c.bl, .slice c.a c.p.length c.c] 26)).heap.size := by simp
    rw [h2]
    exact h1
  have z0 : ((w.alloc (.cells #[c.nm, c.vs, c.pr, c.bl, .slice c.a c.p.length c.c] 26)).alloc (.cells Z 3)).cell? ⟨w.heap.size, 0, none⟩ = some c.nm := by simp [go_sem]
  have z1 : ((w.alloc (.cells #[c.nm, c.vs, c.pr, c.bl, .slice c.a c.p.length c.c] 26)).alloc (.cells Z 3)).cell? ⟨w.heap.size, 1, none⟩ = some c.vs := by simp [go_sem]
  have z2 : ((w.alloc (.cells #[c.nm, c.vs, c.pr, c.bl, .slice c.a c.p.length c.c] 26)).alloc (.cells Z 3)).cell? ⟨w.heap.size, 2, none⟩ = some c.pr := by simp [go_sem]
  have z3 : ((w.alloc (.cells #[c.nm, c.vs, c.pr, c.bl, .slice c.a c.p.length c.c] 26)).alloc (.cells Z 3)).cell? ⟨w.heap.size, 3, none⟩ = some c.bl := by simp [go_sem]
  have z4 : ((w.alloc (.cells #[c.nm, c.vs, c.pr, c.bl, .slice c.a c.p.length c.c] 26)).alloc (.cells Z 3)).cell? ⟨w.heap.size, 4, none⟩ = some (.slice c.a c.p.length c.c) := by simp [go_sem]
  have HM2 : Hid (PM c ((w.alloc (.cells #[c.nm, c.vs, c.pr, c.bl, .slice c.a c.p.length c.c] 26)).alloc (.cells Z 3))) := hide (HM.out.keep HB2.out)
  generalize ((w.alloc (.cells #[c.nm, c.vs, c.pr, c.bl, .slice c.a c.p.length c.c] 26)).alloc (.cells Z 3)) = w2 at *
  clear HZ mk HM
  go_loopw [6] (fun iv wr => ∃ k : Nat, k ≤ c.p.length ∧ iv = .int .i64 k ∧ Hid (AR (w.heap.size + 1) wr (fif c.p.length k)) ∧ Hid (Kx (fun b => b ≠ w.heap.size + 1) w2 wr)) (fun iv _ => c.p.length - (intOf iv).toNat)
  case atStart => exact ⟨0, Nat.zero_le _, rfl, hide (by unfold fif; simpa using HA2.out), hide (Kx.refl _ _)⟩
  case round =>
    obtain ⟨k, hk, rfl, HA, HK⟩ := hrel
    by_cases hlt : k < c.p.length
    · have c0 := HA.out.cell k 0 (fif_get hlt)
      have f0 := HA.out.thaw k
      have RA := hide (HA.out.set (fif_get hlt) 1073741824)
      rw [fif_set hlt] at RA
      have RK := hide (HK.out.set (p := ⟨w.heap.size + 1, k, none⟩) (.inr (fun e => e rfl)) (.int .i64 1073741824))
      clear HA HK
      go_wp2
      go_roundw
      case rel => exact ⟨k + 1, by omega, by go_num, RA, RK⟩
      case measure => simp [intOf]; omega
    · obtain rfl : k = c.p.length := by omega
      rw [fif_all] at HA
      have HW0 := hide (Pa.Aw.start (nx := nxp c.p) (n := c.p.length) (to := to))
      by_cases hto : 0 ≤ to ∧ to < (c.p.length : Int)
      · rw [if_pos hto] at HW0
        obtain ⟨t1, t2⟩ := hto
        obtain ⟨t, rfl⟩ : ∃ t : Nat, to = (t : Int) := ⟨to.toNat, by omega⟩
        rw [Int.toNat_natCast] at HW0
        have hrep : (List.replicate c.p.length Pa.far)[t]? = some Pa.far := by rw [List.getElem?_replicate, if_pos (by omega)]
        have c0 := HA.out.cell t _ hrep
        have f0 := HA.out.thaw t
        have HA5 := hide (HA.out.set hrep 0)
        have HK5 := hide (HK.out.set (p := ⟨w.heap.size + 1, t, none⟩) (.inr (fun e => e rfl)) (.int .i64 0))
        have HW5 := HW0
        clear hrep HA HK HW0
        unfold Pa.far at c0
        go_wp2
        clear c0 f0
        have HB5 : Hid (Below w.heap.size w (wr.setCell ⟨w.heap.size + 1, t, none⟩ (.int .i64 0))) := hide (((Kx.of_below (X := fun b => b < w.heap.size) HB2.out).trans (HK5.out.mono (fun b _ hb => by omega))).below_of (fun b hb => hb))
        have HM5 : Hid (c.p ≠ [] → PM c (wr.setCell ⟨w.heap.size + 1, t, none⟩ (.int .i64 0))) := hide (fun _ => HM2.out.keepX HK5.out (by have := HG.out (by intro e; rw [e] at t2; simp at t2; omega); (try dsimp only); omega))
        have x0 := HK5.out.cell z0 (by (try dsimp only); omega)
        have x1 := HK5.out.cell z1 (by (try dsimp only); omega)
        have x2 := HK5.out.cell z2 (by (try dsimp only); omega)
        have x3 := HK5.out.cell z3 (by (try dsimp only); omega)
        have x4 := HK5.out.cell z4 (by (try dsimp only); omega)
        generalize wr.setCell ⟨w.heap.size + 1, t, none⟩ (.int .i64 0) = w5 at *
        clear z0 z1 z2 z3 z4 HK5 HM2 HB2 HA2
        go_loopw [7] (fun mv wr => ∃ (D : List Int) (m : Bool), mv = .bool m ∧ Hid (AR (w.heap.size + 1) wr D) ∧ Hid (Pa.Aw (nxp c.p) c.p.length (t : Int) D) ∧ Hid (m = false → Pa.Shut (nxp c.p) D) ∧ Hid (Kx (fun b => b ≠ w.heap.size + 1) w5 wr)) (fun mv wr => 2 * msr wr (w.heap.size + 1) c.p.length + bo mv)
        case atStart => exact ⟨_, true, rfl, HA5, HW5, hide (fun e => by cases e), hide (Kx.refl _ _)⟩
        case round =>
          obtain ⟨D, m, rfl, HA, HW, HS, HK⟩ := hrel
          cases m with
          | false =>
            go_wp2
            go_ret
            have RB : Hid (Below w.heap.size w wr) := hide (((Kx.of_below (X := fun b => b < w.heap.size) HB5.out).trans (HK.out.mono (fun b _ hb => by omega))).below_of (fun b hb => hb))
            first | exact ⟨w.heap.size + 1, c.p.length, D, rfl, HA.out.cell, HW.out, HS.out rfl, RB.out⟩ | exact ⟨w.heap.size + 1, ⟨c.p.length, rfl⟩, D, HA.out.cell, HW.out, HS.out rfl, RB.out⟩ | exact ⟨w.heap.size + 1, ⟨c.p.length, rfl⟩, D, HA.out.cell, HW.out, HS.out trivial, RB.out⟩
          | true =>
            obtain ⟨wo, hwo⟩ : ∃ x, x = wr := ⟨_, rfl⟩
            subst hwo
            have HMo : Hid (msr wo (w.heap.size + 1) c.p.length = Pa.tot D) := hide (by rw [← HW.out.len]; exact msr_is HA.out)
            go_wp2
            go_loopw [7, 8] (fun mv iv wr => ∃ (D' : List Int) (m' : Bool) (i : Nat), mv = .bool m' ∧ iv = .int .i64 i ∧ i ≤ c.p.length ∧ Hid (AR (w.heap.size + 1) wr D') ∧ Hid (PS c.p (t : Int) D D' m' i) ∧ Hid (Kx (fun b => b ≠ w.heap.size + 1) w5 wr)) (fun _ iv _ => c.p.length - (intOf iv).toNat)
            case atStart => exact ⟨D, false, 0, rfl, rfl, Nat.zero_le _, HA, hide ⟨HW.out, Nat.le_refl _, (fun e => by cases e), fun _ => ⟨rfl, fun j k x y hj => absurd hj (by omega)⟩⟩, HK⟩
            case round =>
              obtain ⟨D', m', i, rfl, rfl, hin, HA', HP, HK'⟩ := hrel
              by_cases hlt : i < c.p.length
              · obtain ⟨⟨op, tt⟩, hx⟩ : ∃ x, c.p[i]? = some x := ⟨_, List.getElem?_eq_getElem hlt⟩
                have HX := hide hx
                have PMm := hide ((HM5.out (by intro e; rw [e] at hlt; simp at hlt)).keepX HK'.out (by have := HG.out (by intro e; rw [e] at hlt; simp at hlt); (try dsimp only); omega))
                obtain ⟨u1, u2, u3, u5, a6, n6, c6, a7, n7, c7, u8, u9, u10, -, -, -, -, h4, -⟩ := PMm.out.row i _ hx
                dsimp only at h4
                have hca := PMm.out.ne (by intro e; rw [e] at hlt; simp at hlt)
                have y4 := HK'.out.cell x4 (by (try dsimp only); omega)
                rw [hca] at y4
                obtain ⟨wm, hwm⟩ : ∃ x, x = wr := ⟨_, rfl⟩
                subst hwm
                have hgm := World.block_lt_of_cell? _ _ h4
                have hwm0 := World.block_lt_of_cell? _ _ y4
                dsimp only at hgm hwm0
                have hgam := HA'.out.lt
                clear hx
                go_wp2
                have e0 : (wm.alloc (.cells #[.int .i64 ((i : Int) + 1), .int .i64 tt] 3)).cell? ⟨wm.heap.size, 0, none⟩ = some (.int .i64 ((i : Int) + 1)) := by simp [go_sem]
                have e1 : (wm.alloc (.cells #[.int .i64 ((i : Int) + 1), .int .i64 tt] 3)).cell? ⟨wm.heap.size, 1, none⟩ = some (.int .i64 tt) := by simp [go_sem]
                have HB6 : Hid (Below wm.heap.size wm (wm.alloc (.cells #[.int .i64 ((i : Int) + 1), .int .i64 tt] 3))) := hide ((Below.refl _ _).alloc (Nat.le_refl _) _)
                have HA6 := hide (HA'.out.below HB6.out)
                have HK6 := hide (HK'.out.trans (Kx.of_below HB6.out))
                clear HB6
                generalize wm.alloc (.cells #[.int .i64 ((i : Int) + 1), .int .i64 tt] 3) = w6 at *
                clear h4 y4 HA' hca
                go_loopw [7, 10] (fun mv kv wr => ∃ (D2 : List Int) (m2 : Bool) (k : Nat), mv = .bool m2 ∧ kv = .int .i64 k ∧ k ≤ 2 ∧ Hid (AR (w.heap.size + 1) wr D2) ∧ Hid (PS c.p (t : Int) D D2 m2 i) ∧ Hid (m2 = false → (0 < k → Shut1 c.p D i ((i : Int) + 1)) ∧ (1 < k → Shut1 c.p D i tt)) ∧ Hid (Kx (fun b => b ≠ w.heap.size + 1) w6 wr)) (fun _ kv _ => 2 - (intOf kv).toNat)
                case atStart => exact ⟨D', m', 0, rfl, rfl, by omega, HA6, HP, hide (fun _ => ⟨fun h => absurd h (by omega), fun h => absurd h (by omega)⟩), hide (Kx.refl _ _)⟩
                case round =>
                  obtain ⟨D2, m2, k, rfl, rfl, hk2, HA2, HP2, HS2, HK2⟩ := hrel
                  by_cases hlt2 : k < 2
                  · obtain ⟨q, t5, hq0, hq1⟩ : ∃ q : Int, wr.cell? ⟨wm.heap.size, k, none⟩ = some (.int .i64 q) ∧ (k = 0 → q = (i : Int) + 1) ∧ (k = 1 → q = tt) := by
                      have f0 := HK2.out.cell e0 (by (try dsimp only); omega)
                      have f1 := HK2.out.cell e1 (by (try dsimp only); omega)
                      rcases (show k = 0 ∨ k = 1 by omega) with rfl | rfl
                      · exact ⟨_, f0, fun _ => rfl, fun h => absurd h (by omega)⟩
                      · exact ⟨_, f1, fun h => absurd h (by omega), fun _ => rfl⟩
                    have K62 : Hid (Kx (fun b => b ≠ w.heap.size + 1) w5 wr) := hide (HK6.out.trans HK2.out)
                    have t0 := K62.out.cell x0 (by (try dsimp only); omega)
                    have t1 := K62.out.cell x1 (by (try dsimp only); omega)
                    have t2 := K62.out.cell x2 (by (try dsimp only); omega)
                    have t3 := K62.out.cell x3 (by (try dsimp only); omega)
                    have t4 := K62.out.cell x4 (by (try dsimp only); omega)
                    have PMr := hide ((HM5.out (by intro e; rw [e] at hlt; simp at hlt)).keepX K62.out (by have := HG.out (by intro e; rw [e] at hlt; simp at hlt); (try dsimp only); omega))
                    have HQ := hide (show (k = 0 → q = (i : Int) + 1) ∧ (k = 1 → q = tt) from ⟨hq0, hq1⟩)
                    have HCM := hide (fun w' (hb : Below wr.heap.size wr w') => comes_any c i q w' (PMr.out.keep hb))
                    rw [show c.v = .agg #[c.nm, c.vs, c.pr, c.bl, .slice c.a c.p.length c.c] from rfl] at HCM
                    have i1 : (0 : Int) ≤ (k : Int) := by omega
                    have i2 : (k : Int) < 2 := by omega
                    clear hq0 hq1
                    cases hc : Pa.comes c.p i q with
                    | false =>
                      rw [hc] at HCM
                      have R2 : Hid (m2 = false → (0 < k + 1 → Shut1 c.p D i ((i : Int) + 1)) ∧ (1 < k + 1 → Shut1 c.p D i tt)) := by
                        refine hide (fun hm => ?_)
                        have hno : Shut1 c.p D i q := fun v x y hv _ hvn _ => by
                          have := Pa.mem_on.1 hvn
                          rw [hv, hc] at this
                          cases this
                        obtain ⟨s0, s1⟩ := HS2.out hm
                        refine ⟨fun _ => ?_, fun h => ?_⟩
                        · rcases (show k = 0 ∨ 0 < k by omega) with h0 | h0
                          · rw [← HQ.out.1 h0]; exact hno
                          · exact s0 h0
                        · rw [← HQ.out.2 (by omega)]; exact hno
                      go_wp2
                      have HSX : Hid (∀ w', Below wr.heap.size wr w' → w'.cell? ⟨w.heap.size, 0, none⟩ = some c.nm ∧ w'.cell? ⟨w.heap.size, 1, none⟩ = some c.vs ∧ w'.cell? ⟨w.heap.size, 2, none⟩ = some c.pr ∧ w'.cell? ⟨w.heap.size, 3, none⟩ = some c.bl ∧ w'.cell? ⟨w.heap.size, 4, none⟩ = some (.slice c.a c.p.length c.c) ∧ w'.cell? ⟨wm.heap.size, k, none⟩ = some (.int .i64 q)) := hide (fun w' hb => ⟨bsome hb t0, bsome hb t1, bsome hb t2, bsome hb t3, bsome hb t4, bsome hb t5⟩)
                      refine wp_region_held_drew (S := fun w' => w'.cell? ⟨w.heap.size, 0, none⟩ = some c.nm ∧ w'.cell? ⟨w.heap.size, 1, none⟩ = some c.vs ∧ w'.cell? ⟨w.heap.size, 2, none⟩ = some c.pr ∧ w'.cell? ⟨w.heap.size, 3, none⟩ = some c.bl ∧ w'.cell? ⟨w.heap.size, 4, none⟩ = some (.slice c.a c.p.length c.c) ∧ w'.cell? ⟨wm.heap.size, k, none⟩ = some (.int .i64 q)) (by kernel_rfl) (HSX.out _ ⟨rfl, rfl, rfl, Nat.le_refl _, fun _ _ => rfl⟩) (fun hH => ?_)
                      refine wpAnyH_take (i := 0) (oi := _) (v := ?_) rfl (by kernel_rfl) (by kernel_rfl) (by kernel_rfl) (fun _ _ _ h => h) (Or.inl ⟨by rfl, ?_⟩) (by assumption) ?_
                      rotate_left
                      focus (intro w' hSw; (try dsimp only at hSw); go_simp; (first | done | with_reducible rfl | (rw [if_neg (by omega)]; try with_reducible rfl)))
                      try simp only [Act.put, List.getElem_toArray, List.getElem_cons_succ, List.getElem_cons_zero, List.setIfInBounds_toArray, List.set_cons_zero, List.set_cons_succ]
                      refine wpAnyH_take (i := 1) (oi := _) (v := ?_) rfl (by kernel_rfl) (by kernel_rfl) (by kernel_rfl) (fun _ _ _ h => h) (Or.inl ⟨by rfl, ?_⟩) (by assumption) ?_
                      rotate_left
                      focus (intro w' hSw; (try dsimp only at hSw); go_simp; (first | done | with_reducible rfl | (rw [if_neg (by omega)]; try with_reducible rfl)))
                      try simp only [Act.put, List.getElem_toArray, List.getElem_cons_succ, List.getElem_cons_zero, List.setIfInBounds_toArray, List.set_cons_zero, List.set_cons_succ]
                      refine wpAnyH_take (i := 2) (oi := _) (v := ?_) rfl (by kernel_rfl) (by kernel_rfl) (by kernel_rfl) (fun _ _ _ h => h) (Or.inl ⟨by rfl, ?_⟩) (by assumption) ?_
                      rotate_left
                      focus (intro w' hSw; (try dsimp only at hSw); go_simp; (first | done | with_reducible rfl | (rw [if_neg (by omega)]; try with_reducible rfl)))
                      try simp only [Act.put, List.getElem_toArray, List.getElem_cons_succ, List.getElem_cons_zero, List.setIfInBounds_toArray, List.set_cons_zero, List.set_cons_succ]
                      refine wpAnyH_take (i := 3) (oi := _) (v := ?_) rfl (by kernel_rfl) (by kernel_rfl) (by kernel_rfl) (fun _ _ _ h => h) (Or.inl ⟨by rfl, ?_⟩) (by assumption) ?_
                      rotate_left
                      focus (intro w' hSw; (try dsimp only at hSw); go_simp; (first | done | with_reducible rfl | (rw [if_neg (by omega)]; try with_reducible rfl)))
                      try simp only [Act.put, List.getElem_toArray, List.getElem_cons_succ, List.getElem_cons_zero, List.setIfInBounds_toArray, List.set_cons_zero, List.set_cons_succ]
                      refine wpAnyH_take (i := 4) (oi := _) (v := ?_) rfl (by kernel_rfl) (by kernel_rfl) (by kernel_rfl) (fun _ _ _ h => h) (Or.inl ⟨by rfl, ?_⟩) (by assumption) ?_
                      rotate_left
                      focus (intro w' hSw; (try dsimp only at hSw); go_simp; (first | done | with_reducible rfl | (rw [if_neg (by omega)]; try with_reducible rfl)))
                      try simp only [Act.put, List.getElem_toArray, List.getElem_cons_succ, List.getElem_cons_zero, List.setIfInBounds_toArray, List.set_cons_zero, List.set_cons_succ]
                      refine wpAnyH_take (i := 5) (oi := _) (v := ?_) rfl (by kernel_rfl) (by kernel_rfl) (by kernel_rfl) (fun _ _ _ h => h) (Or.inl ⟨by rfl, ?_⟩) (by assumption) ?_
                      rotate_left
                      focus (intro w' hSw; (try dsimp only at hSw); go_simp; (first | done | with_reducible rfl | (rw [if_neg (by omega)]; try with_reducible rfl)))
                      try simp only [Act.put, List.getElem_toArray, List.getElem_cons_succ, List.getElem_cons_zero, List.setIfInBounds_toArray, List.set_cons_zero, List.set_cons_succ]
                      refine wpAnyH_ready (rs := [6]) (by kernel_rfl) (by simp) ?_
                      refine AllReadyH.cons rfl (fun K hK => ?_) AllReadyH.nil
                      go_simp
                      refine (HCM.out _ (by exact ⟨rfl, rfl, rfl, Nat.le_refl _, fun _ _ => rfl⟩)).mono ?_
                      rintro e w3 ⟨rfl, hb3⟩
                      have k3 : Below wr.heap.size wr w3 := ⟨hb3.os, hb3.tape, hb3.output, hb3.size, hb3.block⟩
                      clear hb3
                      try go_wp2
                      refine hK.out _ _ (HSX.out _ k3) (fun hH2 => ?_)
                      clear hK K hH
                      refine wpAnyH_take (i := 7) (oi := _) (v := ?_) rfl (by kernel_rfl) (by kernel_rfl) (by kernel_rfl) (fun _ _ _ h => h) (Or.inl ⟨by rfl, ?_⟩) (by assumption) ?_
                      rotate_left
                      focus (intro w' hSw; (try dsimp only at hSw); go_simp; (first | done | with_reducible rfl | (rw [if_neg (by omega)]; try with_reducible rfl)))
                      try simp only [Act.put, List.getElem_toArray, List.getElem_cons_succ, List.getElem_cons_zero, List.setIfInBounds_toArray, List.set_cons_zero, List.set_cons_succ]
                      refine wpAnyH_take (i := 8) (oi := _) (v := undef) rfl (by kernel_rfl) (by kernel_rfl) (by kernel_rfl) (fun _ _ _ h => h) (Or.inr ⟨by kernel_rfl, rfl⟩) (by assumption) ?_
                      try simp only [Act.put, List.getElem_toArray, List.getElem_cons_succ, List.getElem_cons_zero, List.setIfInBounds_toArray, List.set_cons_zero, List.set_cons_succ]
                      refine wpAnyH_take (i := 9) (oi := _) (v := undef) rfl (by kernel_rfl) (by kernel_rfl) (by kernel_rfl) (fun _ _ _ h => h) (Or.inr ⟨by kernel_rfl, rfl⟩) (by assumption) ?_
                      try simp only [Act.put, List.getElem_toArray, List.getElem_cons_succ, List.getElem_cons_zero, List.setIfInBounds_toArray, List.set_cons_zero, List.set_cons_succ]
                      refine wpAnyH_take (i := 10) (oi := _) (v := undef) rfl (by kernel_rfl) (by kernel_rfl) (by kernel_rfl) (fun _ _ _ h => h) (Or.inr ⟨by kernel_rfl, rfl⟩) (by assumption) ?_
                      try simp only [Act.put, List.getElem_toArray, List.getElem_cons_succ, List.getElem_cons_zero, List.setIfInBounds_toArray, List.set_cons_zero, List.set_cons_succ]
                      refine wpAnyH_take (i := 11) (oi := _) (v := undef) rfl (by kernel_rfl) (by kernel_rfl) (by kernel_rfl) (fun _ _ _ h => h) (Or.inr ⟨by kernel_rfl, rfl⟩) (by assumption) ?_
                      try simp only [Act.put, List.getElem_toArray, List.getElem_cons_succ, List.getElem_cons_zero, List.setIfInBounds_toArray, List.set_cons_zero, List.set_cons_succ]
                      refine wpAnyH_take (i := 12) (oi := _) (v := undef) rfl (by kernel_rfl) (by kernel_rfl) (by kernel_rfl) (fun _ _ _ h => h) (Or.inr ⟨by kernel_rfl, rfl⟩) (by assumption) ?_
                      try simp only [Act.put, List.getElem_toArray, List.getElem_cons_succ, List.getElem_cons_zero, List.setIfInBounds_toArray, List.set_cons_zero, List.set_cons_succ]
                      refine wpAnyH_take (i := 13) (oi := _) (v := undef) rfl (by kernel_rfl) (by kernel_rfl) (by kernel_rfl) (fun _ _ _ h => h) (Or.inr ⟨by kernel_rfl, rfl⟩) (by assumption) ?_
                      try simp only [Act.put, List.getElem_toArray, List.getElem_cons_succ, List.getElem_cons_zero, List.setIfInBounds_toArray, List.set_cons_zero, List.set_cons_succ]
                      refine wpAnyH_take (i := 14) (oi := _) (v := undef) rfl (by kernel_rfl) (by kernel_rfl) (by kernel_rfl) (fun _ _ _ h => h) (Or.inr ⟨by kernel_rfl, rfl⟩) (by assumption) ?_
                      try simp only [Act.put, List.getElem_toArray, List.getElem_cons_succ, List.getElem_cons_zero, List.setIfInBounds_toArray, List.set_cons_zero, List.set_cons_succ]
                      refine wpAnyH_take (i := 15) (oi := _) (v := undef) rfl (by kernel_rfl) (by kernel_rfl) (by kernel_rfl) (fun _ _ _ h => h) (Or.inr ⟨by kernel_rfl, rfl⟩) (by assumption) ?_
                      try simp only [Act.put, List.getElem_toArray, List.getElem_cons_succ, List.getElem_cons_zero, List.setIfInBounds_toArray, List.set_cons_zero, List.set_cons_succ]
                      refine wpAnyH_take (i := 16) (oi := _) (v := undef) rfl (by kernel_rfl) (by kernel_rfl) (by kernel_rfl) (fun _ _ _ h => h) (Or.inr ⟨by kernel_rfl, rfl⟩) (by assumption) ?_
                      try simp only [Act.put, List.getElem_toArray, List.getElem_cons_succ, List.getElem_cons_zero, List.setIfInBounds_toArray, List.set_cons_zero, List.set_cons_succ]
                      refine wpAnyH_take (i := 17) (oi := _) (v := undef) rfl (by kernel_rfl) (by kernel_rfl) (by kernel_rfl) (fun _ _ _ h => h) (Or.inr ⟨by kernel_rfl, rfl⟩) (by assumption) ?_
                      try simp only [Act.put, List.getElem_toArray, List.getElem_cons_succ, List.getElem_cons_zero, List.setIfInBounds_toArray, List.set_cons_zero, List.set_cons_succ]
                      refine wpAnyH_take (i := 18) (oi := _) (v := undef) rfl (by kernel_rfl) (by kernel_rfl) (by kernel_rfl) (fun _ _ _ h => h) (Or.inr ⟨by kernel_rfl, rfl⟩) (by assumption) ?_
                      try simp only [Act.put, List.getElem_toArray, List.getElem_cons_succ, List.getElem_cons_zero, List.setIfInBounds_toArray, List.set_cons_zero, List.set_cons_succ]
                      refine wpAnyH_take (i := 19) (oi := _) (v := undef) rfl (by kernel_rfl) (by kernel_rfl) (by kernel_rfl) (fun _ _ _ h => h) (Or.inr ⟨by kernel_rfl, rfl⟩) (by assumption) ?_
                      try simp only [Act.put, List.getElem_toArray, List.getElem_cons_succ, List.getElem_cons_zero, List.setIfInBounds_toArray, List.set_cons_zero, List.set_cons_succ]
                      refine wpAnyH_take (i := 20) (oi := _) (v := undef) rfl (by kernel_rfl) (by kernel_rfl) (by kernel_rfl) (fun _ _ _ h => h) (Or.inr ⟨by kernel_rfl, rfl⟩) (by assumption) ?_
                      try simp only [Act.put, List.getElem_toArray, List.getElem_cons_succ, List.getElem_cons_zero, List.setIfInBounds_toArray, List.set_cons_zero, List.set_cons_succ]
                      refine wpAnyH_take (i := 21) (oi := _) (v := ?_) rfl (by kernel_rfl) (by kernel_rfl) (by kernel_rfl) (fun _ _ _ h => h) (Or.inl ⟨by rfl, ?_⟩) (by assumption) ?_
                      rotate_left
                      focus (intro w' hSw; (try dsimp only at hSw); go_simp; (first | done | with_reducible rfl | (rw [if_neg (by omega)]; try with_reducible rfl)))
                      try simp only [Act.put, List.getElem_toArray, List.getElem_cons_succ, List.getElem_cons_zero, List.setIfInBounds_toArray, List.set_cons_zero, List.set_cons_succ]
                      refine wpAnyH_done (by kernel_rfl) ?_ _
                      try simp only [Act.put, List.getElem_toArray, List.getElem_cons_succ, List.getElem_cons_zero, List.setIfInBounds_toArray, List.set_cons_zero, List.set_cons_succ]
                      have RA := hide (HA2.out.below k3)
                      have RK := hide (HK2.out.trans (Kx.of_below k3))
                      clear t0 t1 t2 t3 t4 t5
                      go_wp2
                      go_roundw
                      case rel => exact ⟨D2, m2, k + 1, rfl, by go_num, by omega, RA, HP2, R2, RK⟩
                      case measure => simp [intOf]; omega
                    | true =>
                      rw [hc] at HCM
                      have hqI : Pa.isI c.p q = true := by
                        unfold Pa.comes at hc
                        simp only [Bool.and_eq_true] at hc
                        exact hc.1.2
                      obtain ⟨j1, j2⟩ := Pa.isI_iff.1 hqI
                      obtain ⟨v, rfl⟩ : ∃ v : Nat, q = (v : Int) := ⟨q.toNat, by omega⟩
                      have hvn : v < c.p.length := by omega
                      have hvx : v ∈ nxp c.p i := Pa.mem_on.2 hc
                      have hD2 := HP2.out.aw.len
                      obtain ⟨y, hy⟩ : ∃ y, D2[v]? = some y := ⟨_, List.getElem?_eq_getElem (by omega)⟩
                      obtain ⟨x, hx⟩ : ∃ x, D2[i]? = some x := ⟨_, List.getElem?_eq_getElem (by omega)⟩
                      have t6 := HA2.out.cell v y hy
                      have t7 := HA2.out.cell i x hx
                      have hyp := HP2.out.aw.pos v y hy
                      have hxp := HP2.out.aw.pos i x hx
                      unfold Pa.far at hyp hxp
                      have j3 : (i : Int) < (c.p.length : Int) := by omega
                      have j4 : (0 : Int) ≤ (i : Int) := by omega
                      have j5 : IntKind.i64.wrap (y + 1) = y + 1 := by rw [IntKind.wrap_i64]; omega
                      by_cases hne : y + 1 < x
                      · have d1 : decide (y + 1 < x) = true := by simpa using hne
                        have RP := hide (HP2.out.nearer hvx hx hy hne)
                        have f7 := HA2.out.thaw i
                        have HX2 := hide hx
                        clear hx hy hvx hc
                        go_wp2
                        go_region_held3 (fun w' => w'.cell? ⟨w.heap.size, 0, none⟩ = some c.nm ∧ w'.cell? ⟨w.heap.size, 1, none⟩ = some c.vs ∧ w'.cell? ⟨w.heap.size, 2, none⟩ = some c.pr ∧ w'.cell? ⟨w.heap.size, 3, none⟩ = some c.bl ∧ w'.cell? ⟨w.heap.size, 4, none⟩ = some (.slice c.a c.p.length c.c) ∧ w'.cell? ⟨wm.heap.size, k, none⟩ = some (.int .i64 (v : Int)) ∧ w'.cell? ⟨w.heap.size + 1, v, none⟩ = some (.int .i64 y) ∧ w'.cell? ⟨w.heap.size + 1, i, none⟩ = some (.int .i64 x)) ((first | exact ⟨by assumption, by assumption, by assumption, by assumption, by assumption, by assumption, by assumption, by assumption⟩ | go_keep))
                          ((go_at_call 23; refine (HCM.out _ (by exact ⟨rfl, rfl, rfl, Nat.le_refl _, fun _ _ => rfl⟩)).mono ?_; rintro e w3 ⟨rfl, hb3⟩; have k3 : Below wr.heap.size wr w3 := ⟨hb3.os, hb3.tape, hb3.output, hb3.size, hb3.block⟩; clear hb3; have r0 := bsome k3 t0; have r1 := bsome k3 t1; have r2 := bsome k3 t2; have r3 := bsome k3 t3; have r4 := bsome k3 t4; have r5 := bsome k3 t5; have r6 := bsome k3 t6; have r7 := bsome k3 t7))
                        have RA := hide ((HA2.out.below k3).set HX2.out (y + 1))
                        have f8 : w3.frozen? ⟨w.heap.size + 1, i, none⟩ = false := (HA2.out.below k3).thaw i
                        have RK := hide ((HK2.out.trans (Kx.of_below k3)).set (p := ⟨w.heap.size + 1, i, none⟩) (.inr (fun e => e rfl)) (.int .i64 (y + 1)))
                        clear t0 t1 t2 t3 t4 t5 t6 t7 r0 r1 r2 r3 r4
                        go_wp2
                        go_roundw
                        case rel => exact ⟨_, true, k + 1, rfl, by go_num, by omega, RA, RP, hide (fun e => by cases e), RK⟩
                        case measure => simp [intOf]; omega
                      · have d1 : decide (y + 1 < x) = false := dec_no hne
                        have R2 : Hid (m2 = false → (0 < k + 1 → Shut1 c.p D i ((i : Int) + 1)) ∧ (1 < k + 1 → Shut1 c.p D i tt)) := by
                          refine hide (fun hm => ?_)
                          have hDD := (HP2.out.eq hm).1
                          have hno : Shut1 c.p D i (v : Int) := fun v' x' y' hv' hx' _ hy' => by
                            obtain rfl : v' = v := by omega
                            rw [← hDD] at hx' hy'
                            rw [hx] at hx'
                            rw [hy] at hy'
                            cases hx'
                            cases hy'
                            omega
                          obtain ⟨s0, s1⟩ := HS2.out hm
                          refine ⟨fun _ => ?_, fun h => ?_⟩
                          · rcases (show k = 0 ∨ 0 < k by omega) with h0 | h0
                            · rw [← HQ.out.1 h0]; exact hno
                            · exact s0 h0
                          · rw [← HQ.out.2 (by omega)]; exact hno
                        clear hx hy hvx hc
                        go_wp2
                        go_region_held3 (fun w' => w'.cell? ⟨w.heap.size, 0, none⟩ = some c.nm ∧ w'.cell? ⟨w.heap.size, 1, none⟩ = some c.vs ∧ w'.cell? ⟨w.heap.size, 2, none⟩ = some c.pr ∧ w'.cell? ⟨w.heap.size, 3, none⟩ = some c.bl ∧ w'.cell? ⟨w.heap.size, 4, none⟩ = some (.slice c.a c.p.length c.c) ∧ w'.cell? ⟨wm.heap.size, k, none⟩ = some (.int .i64 (v : Int)) ∧ w'.cell? ⟨w.heap.size + 1, v, none⟩ = some (.int .i64 y) ∧ w'.cell? ⟨w.heap.size + 1, i, none⟩ = some (.int .i64 x)) ((first | exact ⟨by assumption, by assumption, by assumption, by assumption, by assumption, by assumption, by assumption, by assumption⟩ | go_keep))
                          ((go_at_call 23; refine (HCM.out _ (by exact ⟨rfl, rfl, rfl, Nat.le_refl _, fun _ _ => rfl⟩)).mono ?_; rintro e w3 ⟨rfl, hb3⟩; have k3 : Below wr.heap.size wr w3 := ⟨hb3.os, hb3.tape, hb3.output, hb3.size, hb3.block⟩; clear hb3; have r0 := bsome k3 t0; have r1 := bsome k3 t1; have r2 := bsome k3 t2; have r3 := bsome k3 t3; have r4 := bsome k3 t4; have r5 := bsome k3 t5; have r6 := bsome k3 t6; have r7 := bsome k3 t7))
                        have RA := hide (HA2.out.below k3)
                        have RK := hide (HK2.out.trans (Kx.of_below k3))
                        clear t0 t1 t2 t3 t4 t5 t6 t7 r0 r1 r2 r3 r4
                        go_wp2
                        go_roundw
                        case rel => exact ⟨D2, m2, k + 1, rfl, by go_num, by omega, RA, HP2, R2, RK⟩
                        case measure => simp [intOf]; omega
                  · obtain rfl : k = 2 := by omega
                    have RP : Hid (PS c.p (t : Int) D D2 m2 (i + 1)) := hide ⟨HP2.out.aw, HP2.out.le, HP2.out.lt, fun hm => ⟨(HP2.out.eq hm).1, shut_next HX.out (HP2.out.eq hm).2 ((HS2.out hm).1 (by omega)) ((HS2.out hm).2 (by omega))⟩⟩
                    have RK := hide (HK6.out.trans HK2.out)
                    go_wp2
                    go_roundw
                    case rel => exact ⟨D2, m2, i + 1, rfl, by go_num, by omega, HA2, RP, RK⟩
                    case measure => simp [intOf]; omega
              · obtain rfl : i = c.p.length := by omega
                have HMn : Hid (msr wr (w.heap.size + 1) c.p.length = Pa.tot D') := hide (by rw [← HP.out.aw.len]; exact msr_is HA'.out)
                go_wp2
                go_roundw
                case rel => exact ⟨D', m', rfl, HA', hide HP.out.aw, hide (fun hm => by rw [(HP.out.eq hm).1]; exact shut_all (HP.out.eq hm).2), HK'⟩
                case measure =>
                  show 2 * msr wr (w.heap.size + 1) c.p.length + bo (.bool m') < 2 * msr wo (w.heap.size + 1) c.p.length + bo (.bool true)
                  rw [HMn.out, HMo.out]
                  cases m' with
                  | true => have := HP.out.lt rfl; show 2 * Pa.tot D' + 1 < 2 * Pa.tot D + 1; omega
                  | false => have := HP.out.le; show 2 * Pa.tot D' + 0 < 2 * Pa.tot D + 1; omega
      · rw [if_neg hto] at HW0
        have HA5 := HA
        have HW5 := HW0
        have dd : (decide (0 ≤ to) && decide (to < (c.p.length : Int))) = false := by
          rw [Bool.and_eq_false_iff]
          by_cases h0 : 0 ≤ to
          · exact .inr (dec_no (fun h1 => hto ⟨h0, h1⟩))
          · exact .inl (dec_no h0)
        have HB5 : Hid (Below w.heap.size w wr) := hide (((Kx.of_below (X := fun b => b < w.heap.size) HB2.out).trans (HK.out.mono (fun b _ hb => by omega))).below_of (fun b hb => hb))
        have HM5 : Hid (c.p ≠ [] → PM c wr) := hide (fun hne => HM2.out.keepX HK.out (by have := HG.out hne; (try dsimp only); omega))
        have x0 := HK.out.cell z0 (by (try dsimp only); omega)
        have x1 := HK.out.cell z1 (by (try dsimp only); omega)
        have x2 := HK.out.cell z2 (by (try dsimp only); omega)
        have x3 := HK.out.cell z3 (by (try dsimp only); omega)
        have x4 := HK.out.cell z4 (by (try dsimp only); omega)
        clear HA HW0 z0 z1 z2 z3 z4 HM2 HB2 HA2
        by_cases h0 : 0 ≤ to
        · have d1 : decide (to < (c.p.length : Int)) = false := dec_no (fun h1 => hto ⟨h0, h1⟩)
          clear hto dd
          go_wp2
          generalize wr = w5 at *
          clear HK
          go_loopw [7] (fun mv wr => ∃ (D : List Int) (m : Bool), mv = .bool m ∧ Hid (AR (w.heap.size + 1) wr D) ∧ Hid (Pa.Aw (nxp c.p) c.p.length to D) ∧ Hid (m = false → Pa.Shut (nxp c.p) D) ∧ Hid (Kx (fun b => b ≠ w.heap.size + 1) w5 wr)) (fun mv wr => 2 * msr wr (w.heap.size + 1) c.p.length + bo mv)
          case atStart => exact ⟨_, true, rfl, HA5, HW5, hide (fun e => by cases e), hide (Kx.refl _ _)⟩
          case round =>
            obtain ⟨D, m, rfl, HA, HW, HS, HK⟩ := hrel
            cases m with
            | false =>
              go_wp2
              go_ret
              have RB : Hid (Below w.heap.size w wr) := hide (((Kx.of_below (X := fun b => b < w.heap.size) HB5.out).trans (HK.out.mono (fun b _ hb => by omega))).below_of (fun b hb => hb))
              first | exact ⟨w.heap.size + 1, c.p.length, D, rfl, HA.out.cell, HW.out, HS.out rfl, RB.out⟩ | exact ⟨w.heap.size + 1, ⟨c.p.length, rfl⟩, D, HA.out.cell, HW.out, HS.out rfl, RB.out⟩ | exact ⟨w.heap.size + 1, ⟨c.p.length, rfl⟩, D, HA.out.cell, HW.out, HS.out trivial, RB.out⟩
            | true =>
              obtain ⟨wo, hwo⟩ : ∃ x, x = wr := ⟨_, rfl⟩
              subst hwo
              have HMo : Hid (msr wo (w.heap.size + 1) c.p.length = Pa.tot D) := hide (by rw [← HW.out.len]; exact msr_is HA.out)
              go_wp2
              go_loopw [7, 8] (fun mv iv wr => ∃ (D' : List Int) (m' : Bool) (i : Nat), mv = .bool m' ∧ iv = .int .i64 i ∧ i ≤ c.p.length ∧ Hid (AR (w.heap.size + 1) wr D') ∧ Hid (PS c.p to D D' m' i) ∧ Hid (Kx (fun b => b ≠ w.heap.size + 1) w5 wr)) (fun _ iv _ => c.p.length - (intOf iv).toNat)
              case atStart => exact ⟨D, false, 0, rfl, rfl, Nat.zero_le _, HA, hide ⟨HW.out, Nat.le_refl _, (fun e => by cases e), fun _ => ⟨rfl, fun j k x y hj => absurd hj (by omega)⟩⟩, HK⟩
              case round =>
                obtain ⟨D', m', i, rfl, rfl, hin, HA', HP, HK'⟩ := hrel
                by_cases hlt : i < c.p.length
                · obtain ⟨⟨op, tt⟩, hx⟩ : ∃ x, c.p[i]? = some x := ⟨_, List.getElem?_eq_getElem hlt⟩
                  have HX := hide hx
                  have PMm := hide ((HM5.out (by intro e; rw [e] at hlt; simp at hlt)).keepX HK'.out (by have := HG.out (by intro e; rw [e] at hlt; simp at hlt); (try dsimp only); omega))
                  obtain ⟨u1, u2, u3, u5, a6, n6, c6, a7, n7, c7, u8, u9, u10, -, -, -, -, h4, -⟩ := PMm.out.row i _ hx
                  dsimp only at h4
                  have hca := PMm.out.ne (by intro e; rw [e] at hlt; simp at hlt)
                  have y4 := HK'.out.cell x4 (by (try dsimp only); omega)
                  rw [hca] at y4
                  obtain ⟨wm, hwm⟩ : ∃ x, x = wr := ⟨_, rfl⟩
                  subst hwm
                  have hgm := World.block_lt_of_cell? _ _ h4
                  have hwm0 := World.block_lt_of_cell? _ _ y4
                  dsimp only at hgm hwm0
                  have hgam := HA'.out.lt
                  clear hx
                  go_wp2
                  have e0 : (wm.alloc (.cells #[.int .i64 ((i : Int) + 1), .int .i64 tt] 3)).cell? ⟨wm.heap.size, 0, none⟩ = some (.int .i64 ((i : Int) + 1)) := by simp [go_sem]
                  have e1 : (wm.alloc (.cells #[.int .i64 ((i : Int) + 1), .int .i64 tt] 3)).cell? ⟨wm.heap.size, 1, none⟩ = some (.int .i64 tt) := by simp [go_sem]
                  have HB6 : Hid (Below wm.heap.size wm (wm.alloc (.cells #[.int .i64 ((i : Int) + 1), .int .i64 tt] 3))) := hide ((Below.refl _ _).alloc (Nat.le_refl _) _)
                  have HA6 := hide (HA'.out.below HB6.out)
                  have HK6 := hide (HK'.out.trans (Kx.of_below HB6.out))
                  clear HB6
                  generalize wm.alloc (.cells #[.int .i64 ((i : Int) + 1), .int .i64 tt] 3) = w6 at *
                  clear h4 y4 HA' hca
                  go_loopw [7, 10] (fun mv kv wr => ∃ (D2 : List Int) (m2 : Bool) (k : Nat), mv = .bool m2 ∧ kv = .int .i64 k ∧ k ≤ 2 ∧ Hid (AR (w.heap.size + 1) wr D2) ∧ Hid (PS c.p to D D2 m2 i) ∧ Hid (m2 = false → (0 < k → Shut1 c.p D i ((i : Int) + 1)) ∧ (1 < k → Shut1 c.p D i tt)) ∧ Hid (Kx (fun b => b ≠ w.heap.size + 1) w6 wr)) (fun _ kv _ => 2 - (intOf kv).toNat)
                  case atStart => exact ⟨D', m', 0, rfl, rfl, by omega, HA6, HP, hide (fun _ => ⟨fun h => absurd h (by omega), fun h => absurd h (by omega)⟩), hide (Kx.refl _ _)⟩
                  case round =>
                    obtain ⟨D2, m2, k, rfl, rfl, hk2, HA2, HP2, HS2, HK2⟩ := hrel
                    by_cases hlt2 : k < 2
                    · obtain ⟨q, t5, hq0, hq1⟩ : ∃ q : Int, wr.cell? ⟨wm.heap.size, k, none⟩ = some (.int .i64 q) ∧ (k = 0 → q = (i : Int) + 1) ∧ (k = 1 → q = tt) := by
                        have f0 := HK2.out.cell e0 (by (try dsimp only); omega)
                        have f1 := HK2.out.cell e1 (by (try dsimp only); omega)
                        rcases (show k = 0 ∨ k = 1 by omega) with rfl | rfl
                        · exact ⟨_, f0, fun _ => rfl, fun h => absurd h (by omega)⟩
                        · exact ⟨_, f1, fun h => absurd h (by omega), fun _ => rfl⟩
                      have K62 : Hid (Kx (fun b => b ≠ w.heap.size + 1) w5 wr) := hide (HK6.out.trans HK2.out)
                      have t0 := K62.out.cell x0 (by (try dsimp only); omega)
                      have t1 := K62.out.cell x1 (by (try dsimp only); omega)
                      have t2 := K62.out.cell x2 (by (try dsimp only); omega)
                      have t3 := K62.out.cell x3 (by (try dsimp only); omega)
                      have t4 := K62.out.cell x4 (by (try dsimp only); omega)
                      have PMr := hide ((HM5.out (by intro e; rw [e] at hlt; simp at hlt)).keepX K62.out (by have := HG.out (by intro e; rw [e] at hlt; simp at hlt); (try dsimp only); omega))
                      have HQ := hide (show (k = 0 → q = (i : Int) + 1) ∧ (k = 1 → q = tt) from ⟨hq0, hq1⟩)
                      have HCM := hide (fun w' (hb : Below wr.heap.size wr w') => comes_any c i q w' (PMr.out.keep hb))
                      rw [show c.v = .agg #[c.nm, c.vs, c.pr, c.bl, .slice c.a c.p.length c.c] from rfl] at HCM
                      have i1 : (0 : Int) ≤ (k : Int) := by omega
                      have i2 : (k : Int) < 2 := by omega
                      clear hq0 hq1
                      cases hc : Pa.comes c.p i q with
                      | false =>
                        rw [hc] at HCM
                        have R2 : Hid (m2 = false → (0 < k + 1 → Shut1 c.p D i ((i : Int) + 1)) ∧ (1 < k + 1 → Shut1 c.p D i tt)) := by
                          refine hide (fun hm => ?_)
                          have hno : Shut1 c.p D i q := fun v x y hv _ hvn _ => by
                            have := Pa.mem_on.1 hvn
                            rw [hv, hc] at this
                            cases this
                          obtain ⟨s0, s1⟩ := HS2.out hm
                          refine ⟨fun _ => ?_, fun h => ?_⟩
                          · rcases (show k = 0 ∨ 0 < k by omega) with h0 | h0
                            · rw [← HQ.out.1 h0]; exact hno
                            · exact s0 h0
                          · rw [← HQ.out.2 (by omega)]; exact hno
                        go_wp2
                        have HSX : Hid (∀ w', Below wr.heap.size wr w' → w'.cell? ⟨w.heap.size, 0, none⟩ = some c.nm ∧ w'.cell? ⟨w.heap.size, 1, none⟩ = some c.vs ∧ w'.cell? ⟨w.heap.size, 2, none⟩ = some c.pr ∧ w'.cell? ⟨w.heap.size, 3, none⟩ = some c.bl ∧ w'.cell? ⟨w.heap.size, 4, none⟩ = some (.slice c.a c.p.length c.c) ∧ w'.cell? ⟨wm.heap.size, k, none⟩ = some (.int .i64 q)) := hide (fun w' hb => ⟨bsome hb t0, bsome hb t1, bsome hb t2, bsome hb t3, bsome hb t4, bsome hb t5⟩)
                        refine wp_region_held_drew (S := fun w' => w'.cell? ⟨w.heap.size, 0, none⟩ = some c.nm ∧ w'.cell? ⟨w.heap.size, 1, none⟩ = some c.vs ∧ w'.cell? ⟨w.heap.size, 2, none⟩ = some c.pr ∧ w'.cell? ⟨w.heap.size, 3, none⟩ = some c.bl ∧ w'.cell? ⟨w.heap.size, 4, none⟩ = some (.slice c.a c.p.length c.c) ∧ w'.cell? ⟨wm.heap.size, k, none⟩ = some (.int .i64 q)) (by kernel_rfl) (HSX.out _ ⟨rfl, rfl, rfl, Nat.le_refl _, fun _ _ => rfl⟩) (fun hH => ?_)
                        refine wpAnyH_take (i := 0) (oi := _) (v := ?_) rfl (by kernel_rfl) (by kernel_rfl) (by kernel_rfl) (fun _ _ _ h => h) (Or.inl ⟨by rfl, ?_⟩) (by assumption) ?_
                        rotate_left
                        focus (intro w' hSw; (try dsimp only at hSw); go_simp; (first | done | with_reducible rfl | (rw [if_neg (by omega)]; try with_reducible rfl)))
                        try simp only [Act.put, List.getElem_toArray, List.getElem_cons_succ, List.getElem_cons_zero, List.setIfInBounds_toArray, List.set_cons_zero, List.set_cons_succ]
                        refine wpAnyH_take (i := 1) (oi := _) (v := ?_) rfl (by kernel_rfl) (by kernel_rfl) (by kernel_rfl) (fun _ _ _ h => h) (Or.inl ⟨by rfl, ?_⟩) (by assumption) ?_
                        rotate_left
                        focus (intro w' hSw; (try dsimp only at hSw); go_simp; (first | done | with_reducible rfl | (rw [if_neg (by omega)]; try with_reducible rfl)))
                        try simp only [Act.put, List.getElem_toArray, List.getElem_cons_succ, List.getElem_cons_zero, List.setIfInBounds_toArray, List.set_cons_zero, List.set_cons_succ]
                        refine wpAnyH_take (i := 2) (oi := _) (v := ?_) rfl (by kernel_rfl) (by kernel_rfl) (by kernel_rfl) (fun _ _ _ h => h) (Or.inl ⟨by rfl, ?_⟩) (by assumption) ?_
                        rotate_left
                        focus (intro w' hSw; (try dsimp only at hSw); go_simp; (first | done | with_reducible rfl | (rw [if_neg (by omega)]; try with_reducible rfl)))
                        try simp only [Act.put, List.getElem_toArray, List.getElem_cons_succ, List.getElem_cons_zero, List.setIfInBounds_toArray, List.set_cons_zero, List.set_cons_succ]
                        refine wpAnyH_take (i := 3) (oi := _) (v := ?_) rfl (by kernel_rfl) (by kernel_rfl) (by kernel_rfl) (fun _ _ _ h => h) (Or.inl ⟨by rfl, ?_⟩) (by assumption) ?_
                        rotate_left
                        focus (intro w' hSw; (try dsimp only at hSw); go_simp; (first | done | with_reducible rfl | (rw [if_neg (by omega)]; try with_reducible rfl)))
                        try simp only [Act.put, List.getElem_toArray, List.getElem_cons_succ, List.getElem_cons_zero, List.setIfInBounds_toArray, List.set_cons_zero, List.set_cons_succ]
                        refine wpAnyH_take (i := 4) (oi := _) (v := ?_) rfl (by kernel_rfl) (by kernel_rfl) (by kernel_rfl) (fun _ _ _ h => h) (Or.inl ⟨by rfl, ?_⟩) (by assumption) ?_
                        rotate_left
                        focus (intro w' hSw; (try dsimp only at hSw); go_simp; (first | done | with_reducible rfl | (rw [if_neg (by omega)]; try with_reducible rfl)))
                        try simp only [Act.put, List.getElem_toArray, List.getElem_cons_succ, List.getElem_cons_zero, List.setIfInBounds_toArray, List.set_cons_zero, List.set_cons_succ]
                        refine wpAnyH_take (i := 5) (oi := _) (v := ?_) rfl (by kernel_rfl) (by kernel_rfl) (by kernel_rfl) (fun _ _ _ h => h) (Or.inl ⟨by rfl, ?_⟩) (by assumption) ?_
                        rotate_left
                        focus (intro w' hSw; (try dsimp only at hSw); go_simp; (first | done | with_reducible rfl | (rw [if_neg (by omega)]; try with_reducible rfl)))
                        try simp only [Act.put, List.getElem_toArray, List.getElem_cons_succ, List.getElem_cons_zero, List.setIfInBounds_toArray, List.set_cons_zero, List.set_cons_succ]
                        refine wpAnyH_ready (rs := [6]) (by kernel_rfl) (by simp) ?_
                        refine AllReadyH.cons rfl (fun K hK => ?_) AllReadyH.nil
                        go_simp
                        refine (HCM.out _ (by exact ⟨rfl, rfl, rfl, Nat.le_refl _, fun _ _ => rfl⟩)).mono ?_
                        rintro e w3 ⟨rfl, hb3⟩
                        have k3 : Below wr.heap.size wr w3 := ⟨hb3.os, hb3.tape, hb3.output, hb3.size, hb3.block⟩
                        clear hb3
                        try go_wp2
                        refine hK.out _ _ (HSX.out _ k3) (fun hH2 => ?_)
                        clear hK K hH
                        refine wpAnyH_take (i := 7) (oi := _) (v := ?_) rfl (by kernel_rfl) (by kernel_rfl) (by kernel_rfl) (fun _ _ _ h => h) (Or.inl ⟨by rfl, ?_⟩) (by assumption) ?_
                        rotate_left
                        focus (intro w' hSw; (try dsimp only at hSw); go_simp; (first | done | with_reducible rfl | (rw [if_neg (by omega)]; try with_reducible rfl)))
                        try simp only [Act.put, List.getElem_toArray, List.getElem_cons_succ, List.getElem_cons_zero, List.setIfInBounds_toArray, List.set_cons_zero, List.set_cons_succ]
                        refine wpAnyH_take (i := 8) (oi := _) (v := undef) rfl (by kernel_rfl) (by kernel_rfl) (by kernel_rfl) (fun _ _ _ h => h) (Or.inr ⟨by kernel_rfl, rfl⟩) (by assumption) ?_
                        try simp only [Act.put, List.getElem_toArray, List.getElem_cons_succ, List.getElem_cons_zero, List.setIfInBounds_toArray, List.set_cons_zero, List.set_cons_succ]
                        refine wpAnyH_take (i := 9) (oi := _) (v := undef) rfl (by kernel_rfl) (by kernel_rfl) (by kernel_rfl) (fun _ _ _ h => h) (Or.inr ⟨by kernel_rfl, rfl⟩) (by assumption) ?_
                        try simp only [Act.put, List.getElem_toArray, List.getElem_cons_succ, List.getElem_cons_zero, List.setIfInBounds_toArray, List.set_cons_zero, List.set_cons_succ]
                        refine wpAnyH_take (i := 10) (oi := _) (v := undef) rfl (by kernel_rfl) (by kernel_rfl) (by kernel_rfl) (fun _ _ _ h => h) (Or.inr ⟨by kernel_rfl, rfl⟩) (by assumption) ?_
                        try simp only [Act.put, List.getElem_toArray, List.getElem_cons_succ, List.getElem_cons_zero, List.setIfInBounds_toArray, List.set_cons_zero, List.set_cons_succ]
                        refine wpAnyH_take (i := 11) (oi := _) (v := undef) rfl (by kernel_rfl) (by kernel_rfl) (by kernel_rfl) (fun _ _ _ h => h) (Or.inr ⟨by kernel_rfl, rfl⟩) (by assumption) ?_
                        try simp only [Act.put, List.getElem_toArray, List.getElem_cons_succ, List.getElem_cons_zero, List.setIfInBounds_toArray, List.set_cons_zero, List.set_cons_succ]
                        refine wpAnyH_take (i := 12) (oi := _) (v := undef) rfl (by kernel_rfl) (by kernel_rfl) (by kernel_rfl) (fun _ _ _ h => h) (Or.inr ⟨by kernel_rfl, rfl⟩) (by assumption) ?_
                        try simp only [Act.put, List.getElem_toArray, List.getElem_cons_succ, List.getElem_cons_zero, List.setIfInBounds_toArray, List.set_cons_zero, List.set_cons_succ]
                        refine wpAnyH_take (i := 13) (oi := _) (v := undef) rfl (by kernel_rfl) (by kernel_rfl) (by kernel_rfl) (fun _ _ _ h => h) (Or.inr ⟨by kernel_rfl, rfl⟩) (by assumption) ?_
                        try simp only [Act.put, List.getElem_toArray, List.getElem_cons_succ, List.getElem_cons_zero, List.setIfInBounds_toArray, List.set_cons_zero, List.set_cons_succ]
                        refine wpAnyH_take (i := 14) (oi := _) (v := undef) rfl (by kernel_rfl) (by kernel_rfl) (by kernel_rfl) (fun _ _ _ h => h) (Or.inr ⟨by kernel_rfl, rfl⟩) (by assumption) ?_
                        try simp only [Act.put, List.getElem_toArray, List.getElem_cons_succ, List.getElem_cons_zero, List.setIfInBounds_toArray, List.set_cons_zero, List.set_cons_succ]
                        refine wpAnyH_take (i := 15) (oi := _) (v := undef) rfl (by kernel_rfl) (by kernel_rfl) (by kernel_rfl) (fun _ _ _ h => h) (Or.inr ⟨by kernel_rfl, rfl⟩) (by assumption) ?_
                        try simp only [Act.put, List.getElem_toArray, List.getElem_cons_succ, List.getElem_cons_zero, List.setIfInBounds_toArray, List.set_cons_zero, List.set_cons_succ]
                        refine wpAnyH_take (i := 16) (oi := _) (v := undef) rfl (by kernel_rfl) (by kernel_rfl) (by kernel_rfl) (fun _ _ _ h => h) (Or.inr ⟨by kernel_rfl, rfl⟩) (by assumption) ?_
                        try simp only [Act.put, List.getElem_toArray, List.getElem_cons_succ, List.getElem_cons_zero, List.setIfInBounds_toArray, List.set_cons_zero, List.set_cons_succ]
                        refine wpAnyH_take (i := 17) (oi := _) (v := undef) rfl (by kernel_rfl) (by kernel_rfl) (by kernel_rfl) (fun _ _ _ h => h) (Or.inr ⟨by kernel_rfl, rfl⟩) (by assumption) ?_
                        try simp only [Act.put, List.getElem_toArray, List.getElem_cons_succ, List.getElem_cons_zero, List.setIfInBounds_toArray, List.set_cons_zero, List.set_cons_succ]
                        refine wpAnyH_take (i := 18) (oi := _) (v := undef) rfl (by kernel_rfl) (by kernel_rfl) (by kernel_rfl) (fun _ _ _ h => h) (Or.inr ⟨by kernel_rfl, rfl⟩) (by assumption) ?_
                        try simp only [Act.put, List.getElem_toArray, List.getElem_cons_succ, List.getElem_cons_zero, List.setIfInBounds_toArray, List.set_cons_zero, List.set_cons_succ]
                        refine wpAnyH_take (i := 19) (oi := _) (v := undef) rfl (by kernel_rfl) (by kernel_rfl) (by kernel_rfl) (fun _ _ _ h => h) (Or.inr ⟨by kernel_rfl, rfl⟩) (by assumption) ?_
                        try simp only [Act.put, List.getElem_toArray, List.getElem_cons_succ, List.getElem_cons_zero, List.setIfInBounds_toArray, List.set_cons_zero, List.set_cons_succ]
                        refine wpAnyH_take (i := 20) (oi := _) (v := undef) rfl (by kernel_rfl) (by kernel_rfl) (by kernel_rfl) (fun _ _ _ h => h) (Or.inr ⟨by kernel_rfl, rfl⟩) (by assumption) ?_
                        try simp only [Act.put, List.getElem_toArray, List.getElem_cons_succ, List.getElem_cons_zero, List.setIfInBounds_toArray, List.set_cons_zero, List.set_cons_succ]
                        refine wpAnyH_take (i := 21) (oi := _) (v := ?_) rfl (by kernel_rfl) (by kernel_rfl) (by kernel_rfl) (fun _ _ _ h => h) (Or.inl ⟨by rfl, ?_⟩) (by assumption) ?_
                        rotate_left
                        focus (intro w' hSw; (try dsimp only at hSw); go_simp; (first | done | with_reducible rfl | (rw [if_neg (by omega)]; try with_reducible rfl)))
                        try simp only [Act.put, List.getElem_toArray, List.getElem_cons_succ, List.getElem_cons_zero, List.setIfInBounds_toArray, List.set_cons_zero, List.set_cons_succ]
                        refine wpAnyH_done (by kernel_rfl) ?_ _
                        try simp only [Act.put, List.getElem_toArray, List.getElem_cons_succ, List.getElem_cons_zero, List.setIfInBounds_toArray, List.set_cons_zero, List.set_cons_succ]
                        have RA := hide (HA2.out.below k3)
                        have RK := hide (HK2.out.trans (Kx.of_below k3))
                        clear t0 t1 t2 t3 t4 t5
                        go_wp2
                        go_roundw
                        case rel => exact ⟨D2, m2, k + 1, rfl, by go_num, by omega, RA, HP2, R2, RK⟩
                        case measure => simp [intOf]; omega
                      | true =>
                        rw [hc] at HCM
                        have hqI : Pa.isI c.p q = true := by
                          unfold Pa.comes at hc
                          simp only [Bool.and_eq_true] at hc
                          exact hc.1.2
                        obtain ⟨j1, j2⟩ := Pa.isI_iff.1 hqI
                        obtain ⟨v, rfl⟩ : ∃ v : Nat, q = (v : Int) := ⟨q.toNat, by omega⟩
                        have hvn : v < c.p.length := by omega
                        have hvx : v ∈ nxp c.p i := Pa.mem_on.2 hc
                        have hD2 := HP2.out.aw.len
                        obtain ⟨y, hy⟩ : ∃ y, D2[v]? = some y := ⟨_, List.getElem?_eq_getElem (by omega)⟩
                        obtain ⟨x, hx⟩ : ∃ x, D2[i]? = some x := ⟨_, List.getElem?_eq_getElem (by omega)⟩
                        have t6 := HA2.out.cell v y hy
                        have t7 := HA2.out.cell i x hx
                        have hyp := HP2.out.aw.pos v y hy
                        have hxp := HP2.out.aw.pos i x hx
                        unfold Pa.far at hyp hxp
                        have j3 : (i : Int) < (c.p.length : Int) := by omega
                        have j4 : (0 : Int) ≤ (i : Int) := by omega
                        have j5 : IntKind.i64.wrap (y + 1) = y + 1 := by rw [IntKind.wrap_i64]; omega
                        by_cases hne : y + 1 < x
                        · have d1 : decide (y + 1 < x) = true := by simpa using hne
                          have RP := hide (HP2.out.nearer hvx hx hy hne)
                          have f7 := HA2.out.thaw i
                          have HX2 := hide hx
                          clear hx hy hvx hc
                          go_wp2
                          go_region_held3 (fun w' => w'.cell? ⟨w.heap.size, 0, none⟩ = some c.nm ∧ w'.cell? ⟨w.heap.size, 1, none⟩ = some c.vs ∧ w'.cell? ⟨w.heap.size, 2, none⟩ = some c.pr ∧ w'.cell? ⟨w.heap.size, 3, none⟩ = some c.bl ∧ w'.cell? ⟨w.heap.size, 4, none⟩ = some (.slice c.a c.p.length c.c) ∧ w'.cell? ⟨wm.heap.size, k, none⟩ = some (.int .i64 (v : Int)) ∧ w'.cell? ⟨w.heap.size + 1, v, none⟩ = some (.int .i64 y) ∧ w'.cell? ⟨w.heap.size + 1, i, none⟩ = some (.int .i64 x)) ((first | exact ⟨by assumption, by assumption, by assumption, by assumption, by assumption, by assumption, by assumption, by assumption⟩ | go_keep))
                            ((go_at_call 23; refine (HCM.out _ (by exact ⟨rfl, rfl, rfl, Nat.le_refl _, fun _ _ => rfl⟩)).mono ?_; rintro e w3 ⟨rfl, hb3⟩; have k3 : Below wr.heap.size wr w3 := ⟨hb3.os, hb3.tape, hb3.output, hb3.size, hb3.block⟩; clear hb3; have r0 := bsome k3 t0; have r1 := bsome k3 t1; have r2 := bsome k3 t2; have r3 := bsome k3 t3; have r4 := bsome k3 t4; have r5 := bsome k3 t5; have r6 := bsome k3 t6; have r7 := bsome k3 t7))
                          have RA := hide ((HA2.out.below k3).set HX2.out (y + 1))
                          have f8 : w3.frozen? ⟨w.heap.size + 1, i, none⟩ = false := (HA2.out.below k3).thaw i
                          have RK := hide ((HK2.out.trans (Kx.of_below k3)).set (p := ⟨w.heap.size + 1, i, none⟩) (.inr (fun e => e rfl)) (.int .i64 (y + 1)))
                          clear t0 t1 t2 t3 t4 t5 t6 t7 r0 r1 r2 r3 r4
                          go_wp2
                          go_roundw
                          case rel => exact ⟨_, true, k + 1, rfl, by go_num, by omega, RA, RP, hide (fun e => by cases e), RK⟩
                          case measure => simp [intOf]; omega
                        · have d1 : decide (y + 1 < x) = false := dec_no hne
                          have R2 : Hid (m2 = false → (0 < k + 1 → Shut1 c.p D i ((i : Int) + 1)) ∧ (1 < k + 1 → Shut1 c.p D i tt)) := by
                            refine hide (fun hm => ?_)
                            have hDD := (HP2.out.eq hm).1
                            have hno : Shut1 c.p D i (v : Int) := fun v' x' y' hv' hx' _ hy' => by
                              obtain rfl : v' = v := by omega
                              rw [← hDD] at hx' hy'
                              rw [hx] at hx'
                              rw [hy] at hy'
                              cases hx'
                              cases hy'
                              omega
                            obtain ⟨s0, s1⟩ := HS2.out hm
                            refine ⟨fun _ => ?_, fun h => ?_⟩
                            · rcases (show k = 0 ∨ 0 < k by omega) with h0 | h0
                              · rw [← HQ.out.1 h0]; exact hno
                              · exact s0 h0
                            · rw [← HQ.out.2 (by omega)]; exact hno
                          clear hx hy hvx hc
                          go_wp2
                          go_region_held3 (fun w' => w'.cell? ⟨w.heap.size, 0, none⟩ = some c.nm ∧ w'.cell? ⟨w.heap.size, 1, none⟩ = some c.vs ∧ w'.cell? ⟨w.heap.size, 2, none⟩ = some c.pr ∧ w'.cell? ⟨w.heap.size, 3, none⟩ = some c.bl ∧ w'.cell? ⟨w.heap.size, 4, none⟩ = some (.slice c.a c.p.length c.c) ∧ w'.cell? ⟨wm.heap.size, k, none⟩ = some (.int .i64 (v : Int)) ∧ w'.cell? ⟨w.heap.size + 1, v, none⟩ = some (.int .i64 y) ∧ w'.cell? ⟨w.heap.size + 1, i, none⟩ = some (.int .i64 x)) ((first | exact ⟨by assumption, by assumption, by assumption, by assumption, by assumption, by assumption, by assumption, by assumption⟩ | go_keep))
                            ((go_at_call 23; refine (HCM.out _ (by exact ⟨rfl, rfl, rfl, Nat.le_refl _, fun _ _ => rfl⟩)).mono ?_; rintro e w3 ⟨rfl, hb3⟩; have k3 : Below wr.heap.size wr w3 := ⟨hb3.os, hb3.tape, hb3.output, hb3.size, hb3.block⟩; clear hb3; have r0 := bsome k3 t0; have r1 := bsome k3 t1; have r2 := bsome k3 t2; have r3 := bsome k3 t3; have r4 := bsome k3 t4; have r5 := bsome k3 t5; have r6 := bsome k3 t6; have r7 := bsome k3 t7))
                          have RA := hide (HA2.out.below k3)
                          have RK := hide (HK2.out.trans (Kx.of_below k3))
                          clear t0 t1 t2 t3 t4 t5 t6 t7 r0 r1 r2 r3 r4
                          go_wp2
                          go_roundw
                          case rel => exact ⟨D2, m2, k + 1, rfl, by go_num, by omega, RA, HP2, R2, RK⟩
                          case measure => simp [intOf]; omega
                    · obtain rfl : k = 2 := by omega
                      have RP : Hid (PS c.p to D D2 m2 (i + 1)) := hide ⟨HP2.out.aw, HP2.out.le, HP2.out.lt, fun hm => ⟨(HP2.out.eq hm).1, shut_next HX.out (HP2.out.eq hm).2 ((HS2.out hm).1 (by omega)) ((HS2.out hm).2 (by omega))⟩⟩
                      have RK := hide (HK6.out.trans HK2.out)
                      go_wp2
                      go_roundw
                      case rel => exact ⟨D2, m2, i + 1, rfl, by go_num, by omega, HA2, RP, RK⟩
                      case measure => simp [intOf]; omega
                · obtain rfl : i = c.p.length := by omega
                  have HMn : Hid (msr wr (w.heap.size + 1) c.p.length = Pa.tot D') := hide (by rw [← HP.out.aw.len]; exact msr_is HA'.out)
                  go_wp2
                  go_roundw
                  case rel => exact ⟨D', m', rfl, HA', hide HP.out.aw, hide (fun hm => by rw [(HP.out.eq hm).1]; exact shut_all (HP.out.eq hm).2), HK'⟩
                  case measure =>
                    show 2 * msr wr (w.heap.size + 1) c.p.length + bo (.bool m') < 2 * msr wo (w.heap.size + 1) c.p.length + bo (.bool true)
                    rw [HMn.out, HMo.out]
                    cases m' with
                    | true => have := HP.out.lt rfl; show 2 * Pa.tot D' + 1 < 2 * Pa.tot D + 1; omega
                    | false => have := HP.out.le; show 2 * Pa.tot D' + 0 < 2 * Pa.tot D + 1; omega
        · have d1 : decide (0 ≤ to) = false := dec_no h0
          clear hto dd
          go_wp2
          generalize wr = w5 at *
          clear HK
          go_loopw [7] (fun mv wr => ∃ (D : List Int) (m : Bool), mv = .bool m ∧ Hid (AR (w.heap.size + 1) wr D) ∧ Hid (Pa.Aw (nxp c.p) c.p.length to D) ∧ Hid (m = false → Pa.Shut (nxp c.p) D) ∧ Hid (Kx (fun b => b ≠ w.heap.size + 1) w5 wr)) (fun mv wr => 2 * msr wr (w.heap.size + 1) c.p.length + bo mv)
          case atStart => exact ⟨_, true, rfl, HA5, HW5, hide (fun e => by cases e), hide (Kx.refl _ _)⟩
          case round =>
            obtain ⟨D, m, rfl, HA, HW, HS, HK⟩ := hrel
            cases m with
            | false =>
              go_wp2
              go_ret
              have RB : Hid (Below w.heap.size w wr) := hide (((Kx.of_below (X := fun b => b < w.heap.size) HB5.out).trans (HK.out.mono (fun b _ hb => by omega))).below_of (fun b hb => hb))
              first | exact ⟨w.heap.size + 1, c.p.length, D, rfl, HA.out.cell, HW.out, HS.out rfl, RB.out⟩ | exact ⟨w.heap.size + 1, ⟨c.p.length, rfl⟩, D, HA.out.cell, HW.out, HS.out rfl, RB.out⟩ | exact ⟨w.heap.size + 1, ⟨c.p.length, rfl⟩, D, HA.out.cell, HW.out, HS.out trivial, RB.out⟩
            | true =>
              obtain ⟨wo, hwo⟩ : ∃ x, x = wr := ⟨_, rfl⟩
              subst hwo
              have HMo : Hid (msr wo (w.heap.size + 1) c.p.length = Pa.tot D) := hide (by rw [← HW.out.len]; exact msr_is HA.out)
              go_wp2
              go_loopw [7, 8] (fun mv iv wr => ∃ (D' : List Int) (m' : Bool) (i : Nat), mv = .bool m' ∧ iv = .int .i64 i ∧ i ≤ c.p.length ∧ Hid (AR (w.heap.size + 1) wr D') ∧ Hid (PS c.p to D D' m' i) ∧ Hid (Kx (fun b => b ≠ w.heap.size + 1) w5 wr)) (fun _ iv _ => c.p.length - (intOf iv).toNat)
              case atStart => exact ⟨D, false, 0, rfl, rfl, Nat.zero_le _, HA, hide ⟨HW.out, Nat.le_refl _, (fun e => by cases e), fun _ => ⟨rfl, fun j k x y hj => absurd hj (by omega)⟩⟩, HK⟩
              case round =>
                obtain ⟨D', m', i, rfl, rfl, hin, HA', HP, HK'⟩ := hrel
                by_cases hlt : i < c.p.length
                · obtain ⟨⟨op, tt⟩, hx⟩ : ∃ x, c.p[i]? = some x := ⟨_, List.getElem?_eq_getElem hlt⟩
                  have HX := hide hx
                  have PMm := hide ((HM5.out (by intro e; rw [e] at hlt; simp at hlt)).keepX HK'.out (by have := HG.out (by intro e; rw [e] at hlt; simp at hlt); (try dsimp only); omega))
                  obtain ⟨u1, u2, u3, u5, a6, n6, c6, a7, n7, c7, u8, u9, u10, -, -, -, -, h4, -⟩ := PMm.out.row i _ hx
                  dsimp only at h4
                  have hca := PMm.out.ne (by intro e; rw [e] at hlt; simp at hlt)
                  have y4 := HK'.out.cell x4 (by (try dsimp only); omega)
                  rw [hca] at y4
                  obtain ⟨wm, hwm⟩ : ∃ x, x = wr := ⟨_, rfl⟩
                  subst hwm
                  have hgm := World.block_lt_of_cell? _ _ h4
                  have hwm0 := World.block_lt_of_cell? _ _ y4
                  dsimp only at hgm hwm0
                  have hgam := HA'.out.lt
                  clear hx
                  go_wp2
                  have e0 : (wm.alloc (.cells #[.int .i64 ((i : Int) + 1), .int .i64 tt] 3)).cell? ⟨wm.heap.size, 0, none⟩ = some (.int .i64 ((i : Int) + 1)) := by simp [go_sem]
                  have e1 : (wm.alloc (.cells #[.int .i64 ((i : Int) + 1), .int .i64 tt] 3)).cell? ⟨wm.heap.size, 1, none⟩ = some (.int .i64 tt) := by simp [go_sem]
                  have HB6 : Hid (Below wm.heap.size wm (wm.alloc (.cells #[.int .i64 ((i : Int) + 1), .int .i64 tt] 3))) := hide ((Below.refl _ _).alloc (Nat.le_refl _) _)
                  have HA6 := hide (HA'.out.below HB6.out)
                  have HK6 := hide (HK'.out.trans (Kx.of_below HB6.out))
                  clear HB6
                  generalize wm.alloc (.cells #[.int .i64 ((i : Int) + 1), .int .i64 tt] 3) = w6 at *
                  clear h4 y4 HA' hca
                  go_loopw [7, 10] (fun mv kv wr => ∃ (D2 : List Int) (m2 : Bool) (k : Nat), mv = .bool m2 ∧ kv = .int .i64 k ∧ k ≤ 2 ∧ Hid (AR (w.heap.size + 1) wr D2) ∧ Hid (PS c.p to D D2 m2 i) ∧ Hid (m2 = false → (0 < k → Shut1 c.p D i ((i : Int) + 1)) ∧ (1 < k → Shut1 c.p D i tt)) ∧ Hid (Kx (fun b => b ≠ w.heap.size + 1) w6 wr)) (fun _ kv _ => 2 - (intOf kv).toNat)
                  case atStart => exact ⟨D', m', 0, rfl, rfl, by omega, HA6, HP, hide (fun _ => ⟨fun h => absurd h (by omega), fun h => absurd h (by omega)⟩), hide (Kx.refl _ _)⟩
                  case round =>
                    obtain ⟨D2, m2, k, rfl, rfl, hk2, HA2, HP2, HS2, HK2⟩ := hrel
                    by_cases hlt2 : k < 2
                    · obtain ⟨q, t5, hq0, hq1⟩ : ∃ q : Int, wr.cell? ⟨wm.heap.size, k, none⟩ = some (.int .i64 q) ∧ (k = 0 → q = (i : Int) + 1) ∧ (k = 1 → q = tt) := by
                        have f0 := HK2.out.cell e0 (by (try dsimp only); omega)
                        have f1 := HK2.out.cell e1 (by (try dsimp only); omega)
                        rcases (show k = 0 ∨ k = 1 by omega) with rfl | rfl
                        · exact ⟨_, f0, fun _ => rfl, fun h => absurd h (by omega)⟩
                        · exact ⟨_, f1, fun h => absurd h (by omega), fun _ => rfl⟩
                      have K62 : Hid (Kx (fun b => b ≠ w.heap.size + 1) w5 wr) := hide (HK6.out.trans HK2.out)
                      have t0 := K62.out.cell x0 (by (try dsimp only); omega)
                      have t1 := K62.out.cell x1 (by (try dsimp only); omega)
                      have t2 := K62.out.cell x2 (by (try dsimp only); omega)
                      have t3 := K62.out.cell x3 (by (try dsimp only); omega)
                      have t4 := K62.out.cell x4 (by (try dsimp only); omega)
                      have PMr := hide ((HM5.out (by intro e; rw [e] at hlt; simp at hlt)).keepX K62.out (by have := HG.out (by intro e; rw [e] at hlt; simp at hlt); (try dsimp only); omega))
                      have HQ := hide (show (k = 0 → q = (i : Int) + 1) ∧ (k = 1 → q = tt) from ⟨hq0, hq1⟩)
                      have HCM := hide (fun w' (hb : Below wr.heap.size wr w') => comes_any c i q w' (PMr.out.keep hb))
                      rw [show c.v = .agg #[c.nm, c.vs, c.pr, c.bl, .slice c.a c.p.length c.c] from rfl] at HCM
                      have i1 : (0 : Int) ≤ (k : Int) := by omega
                      have i2 : (k : Int) < 2 := by omega
                      clear hq0 hq1
                      cases hc : Pa.comes c.p i q with
                      | false =>
                        rw [hc] at HCM
                        have R2 : Hid (m2 = false → (0 < k + 1 → Shut1 c.p D i ((i : Int) + 1)) ∧ (1 < k + 1 → Shut1 c.p D i tt)) := by
                          refine hide (fun hm => ?_)
                          have hno : Shut1 c.p D i q := fun v x y hv _ hvn _ => by
                            have := Pa.mem_on.1 hvn
                            rw [hv, hc] at this
                            cases this
                          obtain ⟨s0, s1⟩ := HS2.out hm
                          refine ⟨fun _ => ?_, fun h => ?_⟩
                          · rcases (show k = 0 ∨ 0 < k by omega) with h0 | h0
                            · rw [← HQ.out.1 h0]; exact hno
                            · exact s0 h0
                          · rw [← HQ.out.2 (by omega)]; exact hno
                        go_wp2
                        have HSX : Hid (∀ w', Below wr.heap.size wr w' → w'.cell? ⟨w.heap.size, 0, none⟩ = some c.nm ∧ w'.cell? ⟨w.heap.size, 1, none⟩ = some c.vs ∧ w'.cell? ⟨w.heap.size, 2, none⟩ = some c.pr ∧ w'.cell? ⟨w.heap.size, 3, none⟩ = some c.bl ∧ w'.cell? ⟨w.heap.size, 4, none⟩ = some (.slice c.a c.p.length c.c) ∧ w'.cell? ⟨wm.heap.size, k, none⟩ = some (.int .i64 q)) := hide (fun w' hb => ⟨bsome hb t0, bsome hb t1, bsome hb t2, bsome hb t3, bsome hb t4, bsome hb t5⟩)
                        refine wp_region_held_drew (S := fun w' => w'.cell? ⟨w.heap.size, 0, none⟩ = some c.nm ∧ w'.cell? ⟨w.heap.size, 1, none⟩ = some c.vs ∧ w'.cell? ⟨w.heap.size, 2, none⟩ = some c.pr ∧ w'.cell? ⟨w.heap.size, 3, none⟩ = some c.bl ∧ w'.cell? ⟨w.heap.size, 4, none⟩ = some (.slice c.a c.p.length c.c) ∧ w'.cell? ⟨wm.heap.size, k, none⟩ = some (.int .i64 q)) (by kernel_rfl) (HSX.out _ ⟨rfl, rfl, rfl, Nat.le_refl _, fun _ _ => rfl⟩) (fun hH => ?_)
                        refine wpAnyH_take (i := 0) (oi := _) (v := ?_) rfl (by kernel_rfl) (by kernel_rfl) (by kernel_rfl) (fun _ _ _ h => h) (Or.inl ⟨by rfl, ?_⟩) (by assumption) ?_
                        rotate_left
                        focus (intro w' hSw; (try dsimp only at hSw); go_simp; (first | done | with_reducible rfl | (rw [if_neg (by omega)]; try with_reducible rfl)))
                        try simp only [Act.put, List.getElem_toArray, List.getElem_cons_succ, List.getElem_cons_zero, List.setIfInBounds_toArray, List.set_cons_zero, List.set_cons_succ]
                        refine wpAnyH_take (i := 1) (oi := _) (v := ?_) rfl (by kernel_rfl) (by kernel_rfl) (by kernel_rfl) (fun _ _ _ h => h) (Or.inl ⟨by rfl, ?_⟩) (by assumption) ?_
                        rotate_left
                        focus (intro w' hSw; (try dsimp only at hSw); go_simp; (first | done | with_reducible rfl | (rw [if_neg (by omega)]; try with_reducible rfl)))
                        try simp only [Act.put, List.getElem_toArray, List.getElem_cons_succ, List.getElem_cons_zero, List.setIfInBounds_toArray, List.set_cons_zero, List.set_cons_succ]
                        refine wpAnyH_take (i := 2) (oi := _) (v := ?_) rfl (by kernel_rfl) (by kernel_rfl) (by kernel_rfl) (fun _ _ _ h => h) (Or.inl ⟨by rfl, ?_⟩) (by assumption) ?_
                        rotate_left
                        focus (intro w' hSw; (try dsimp only at hSw); go_simp; (first | done | with_reducible rfl | (rw [if_neg (by omega)]; try with_reducible rfl)))
                        try simp only [Act.put, List.getElem_toArray, List.getElem_cons_succ, List.getElem_cons_zero, List.setIfInBounds_toArray, List.set_cons_zero, List.set_cons_succ]
                        refine wpAnyH_take (i := 3) (oi := _) (v := ?_) rfl (by kernel_rfl) (by kernel_rfl) (by kernel_rfl) (fun _ _ _ h => h) (Or.inl ⟨by rfl, ?_⟩) (by assumption) ?_
                        rotate_left
                        focus (intro w' hSw; (try dsimp only at hSw); go_simp; (first | done | with_reducible rfl | (rw [if_neg (by omega)]; try with_reducible rfl)))
                        try simp only [Act.put, List.getElem_toArray, List.getElem_cons_succ, List.getElem_cons_zero, List.setIfInBounds_toArray, List.set_cons_zero, List.set_cons_succ]
                        refine wpAnyH_take (i := 4) (oi := _) (v := ?_) rfl (by kernel_rfl) (by kernel_rfl) (by kernel_rfl) (fun _ _ _ h => h) (Or.inl ⟨by rfl, ?_⟩) (by assumption) ?_
                        rotate_left
                        focus (intro w' hSw; (try dsimp only at hSw); go_simp; (first | done | with_reducible rfl | (rw [if_neg (by omega)]; try with_reducible rfl)))
                        try simp only [Act.put, List.getElem_toArray, List.getElem_cons_succ, List.getElem_cons_zero, List.setIfInBounds_toArray, List.set_cons_zero, List.set_cons_succ]
                        refine wpAnyH_take (i := 5) (oi := _) (v := ?_) rfl (by kernel_rfl) (by kernel_rfl) (by kernel_rfl) (fun _ _ _ h => h) (Or.inl ⟨by rfl, ?_⟩) (by assumption) ?_
                        rotate_left
                        focus (intro w' hSw; (try dsimp only at hSw); go_simp; (first | done | with_reducible rfl | (rw [if_neg (by omega)]; try with_reducible rfl)))
                        try simp only [Act.put, List.getElem_toArray, List.getElem_cons_succ, List.getElem_cons_zero, List.setIfInBounds_toArray, List.set_cons_zero, List.set_cons_succ]
                        refine wpAnyH_ready (rs := [6]) (by kernel_rfl) (by simp) ?_
                        refine AllReadyH.cons rfl (fun K hK => ?_) AllReadyH.nil
                        go_simp
                        refine (HCM.out _ (by exact ⟨rfl, rfl, rfl, Nat.le_refl _, fun _ _ => rfl⟩)).mono ?_
                        rintro e w3 ⟨rfl, hb3⟩
                        have k3 : Below wr.heap.size wr w3 := ⟨hb3.os, hb3.tape, hb3.output, hb3.size, hb3.block⟩
                        clear hb3
                        try go_wp2
                        refine hK.out _ _ (HSX.out _ k3) (fun hH2 => ?_)
                        clear hK K hH
                        refine wpAnyH_take (i := 7) (oi := _) (v := ?_) rfl (by kernel_rfl) (by kernel_rfl) (by kernel_rfl) (fun _ _ _ h => h) (Or.inl ⟨by rfl, ?_⟩) (by assumption) ?_
                        rotate_left
                        focus (intro w' hSw; (try dsimp only at hSw); go_simp; (first | done | with_reducible rfl | (rw [if_neg (by omega)]; try with_reducible rfl)))
                        try simp only [Act.put, List.getElem_toArray, List.getElem_cons_succ, List.getElem_cons_zero, List.setIfInBounds_toArray, List.set_cons_zero, List.set_cons_succ]
                        refine wpAnyH_take (i := 8) (oi := _) (v := undef) rfl (by kernel_rfl) (by kernel_rfl) (by kernel_rfl) (fun _ _ _ h => h) (Or.inr ⟨by kernel_rfl, rfl⟩) (by assumption) ?_
                        try simp only [Act.put, List.getElem_toArray, List.getElem_cons_succ, List.getElem_cons_zero, List.setIfInBounds_toArray, List.set_cons_zero, List.set_cons_succ]
                        refine wpAnyH_take (i := 9) (oi := _) (v := undef) rfl (by kernel_rfl) (by kernel_rfl) (by kernel_rfl) (fun _ _ _ h => h) (Or.inr ⟨by kernel_rfl, rfl⟩) (by assumption) ?_
                        try simp only [Act.put, List.getElem_toArray, List.getElem_cons_succ, List.getElem_cons_zero, List.setIfInBounds_toArray, List.set_cons_zero, List.set_cons_succ]
                        refine wpAnyH_take (i := 10) (oi := _) (v := undef) rfl (by kernel_rfl) (by kernel_rfl) (by kernel_rfl) (fun _ _ _ h => h) (Or.inr ⟨by kernel_rfl, rfl⟩) (by assumption) ?_
                        try simp only [Act.put, List.getElem_toArray, List.getElem_cons_succ, List.getElem_cons_zero, List.setIfInBounds_toArray, List.set_cons_zero, List.set_cons_succ]
                        refine wpAnyH_take (i := 11) (oi := _) (v := undef) rfl (by kernel_rfl) (by kernel_rfl) (by kernel_rfl) (fun _ _ _ h => h) (Or.inr ⟨by kernel_rfl, rfl⟩) (by assumption) ?_
                        try simp only [Act.put, List.getElem_toArray, List.getElem_cons_succ, List.getElem_cons_zero, List.setIfInBounds_toArray, List.set_cons_zero, List.set_cons_succ]
                        refine wpAnyH_take (i := 12) (oi := _) (v := undef) rfl (by kernel_rfl) (by kernel_rfl) (by kernel_rfl) (fun _ _ _ h => h) (Or.inr ⟨by kernel_rfl, rfl⟩) (by assumption) ?_
                        try simp only [Act.put, List.getElem_toArray, List.getElem_cons_succ, List.getElem_cons_zero, List.setIfInBounds_toArray, List.set_cons_zero, List.set_cons_succ]
                        refine wpAnyH_take (i := 13) (oi := _) (v := undef) rfl (by kernel_rfl) (by kernel_rfl) (by kernel_rfl) (fun _ _ _ h => h) (Or.inr ⟨by kernel_rfl, rfl⟩) (by assumption) ?_
                        try simp only [Act.put, List.getElem_toArray, List.getElem_cons_succ, List.getElem_cons_zero, List.setIfInBounds_toArray, List.set_cons_zero, List.set_cons_succ]
                        refine wpAnyH_take (i := 14) (oi := _) (v := undef) rfl (by kernel_rfl) (by kernel_rfl) (by kernel_rfl) (fun _ _ _ h => h) (Or.inr ⟨by kernel_rfl, rfl⟩) (by assumption) ?_
                        try simp only [Act.put, List.getElem_toArray, List.getElem_cons_succ, List.getElem_cons_zero, List.setIfInBounds_toArray, List.set_cons_zero, List.set_cons_succ]
                        refine wpAnyH_take (i := 15) (oi := _) (v := undef) rfl (by kernel_rfl) (by kernel_rfl) (by kernel_rfl) (fun _ _ _ h => h) (Or.inr ⟨by kernel_rfl, rfl⟩) (by assumption) ?_
                        try simp only [Act.put, List.getElem_toArray, List.getElem_cons_succ, List.getElem_cons_zero, List.setIfInBounds_toArray, List.set_cons_zero, List.set_cons_succ]
                        refine wpAnyH_take (i := 16) (oi := _) (v := undef) rfl (by kernel_rfl) (by kernel_rfl) (by kernel_rfl) (fun _ _ _ h => h) (Or.inr ⟨by kernel_rfl, rfl⟩) (by assumption) ?_
                        try simp only [Act.put, List.getElem_toArray, List.getElem_cons_succ, List.getElem_cons_zero, List.setIfInBounds_toArray, List.set_cons_zero, List.set_cons_succ]
                        refine wpAnyH_take (i := 17) (oi := _) (v := undef) rfl (by kernel_rfl) (by kernel_rfl) (by kernel_rfl) (fun _ _ _ h => h) (Or.inr ⟨by kernel_rfl, rfl⟩) (by assumption) ?_
                        try simp only [Act.put, List.getElem_toArray, List.getElem_cons_succ, List.getElem_cons_zero, List.setIfInBounds_toArray, List.set_cons_zero, List.set_cons_succ]
                        refine wpAnyH_take (i := 18) (oi := _) (v := undef) rfl (by kernel_rfl) (by kernel_rfl) (by kernel_rfl) (fun _ _ _ h => h) (Or.inr ⟨by kernel_rfl, rfl⟩) (by assumption) ?_
                        try simp only [Act.put, List.getElem_toArray, List.getElem_cons_succ, List.getElem_cons_zero, List.setIfInBounds_toArray, List.set_cons_zero, List.set_cons_succ]
                        refine wpAnyH_take (i := 19) (oi := _) (v := undef) rfl (by kernel_rfl) (by kernel_rfl) (by kernel_rfl) (fun _ _ _ h => h) (Or.inr ⟨by kernel_rfl, rfl⟩) (by assumption) ?_
                        try simp only [Act.put, List.getElem_toArray, List.getElem_cons_succ, List.getElem_cons_zero, List.setIfInBounds_toArray, List.set_cons_zero, List.set_cons_succ]
                        refine wpAnyH_take (i := 20) (oi := _) (v := undef) rfl (by kernel_rfl) (by kernel_rfl) (by kernel_rfl) (fun _ _ _ h => h) (Or.inr ⟨by kernel_rfl, rfl⟩) (by assumption) ?_
                        try simp only [Act.put, List.getElem_toArray, List.getElem_cons_succ, List.getElem_cons_zero, List.setIfInBounds_toArray, List.set_cons_zero, List.set_cons_succ]
                        refine wpAnyH_take (i := 21) (oi := _) (v := ?_) rfl (by kernel_rfl) (by kernel_rfl) (by kernel_rfl) (fun _ _ _ h => h) (Or.inl ⟨by rfl, ?_⟩) (by assumption) ?_
                        rotate_left
                        focus (intro w' hSw; (try dsimp only at hSw); go_simp; (first | done | with_reducible rfl | (rw [if_neg (by omega)]; try with_reducible rfl)))
                        try simp only [Act.put, List.getElem_toArray, List.getElem_cons_succ, List.getElem_cons_zero, List.setIfInBounds_toArray, List.set_cons_zero, List.set_cons_succ]
                        refine wpAnyH_done (by kernel_rfl) ?_ _
                        try simp only [Act.put, List.getElem_toArray, List.getElem_cons_succ, List.getElem_cons_zero, List.setIfInBounds_toArray, List.set_cons_zero, List.set_cons_succ]
                        have RA := hide (HA2.out.below k3)
                        have RK := hide (HK2.out.trans (Kx.of_below k3))
                        clear t0 t1 t2 t3 t4 t5
                        go_wp2
                        go_roundw
                        case rel => exact ⟨D2, m2, k + 1, rfl, by go_num, by omega, RA, HP2, R2, RK⟩
                        case measure => simp [intOf]; omega
                      | true =>
                        rw [hc] at HCM
                        have hqI : Pa.isI c.p q = true := by
                          unfold Pa.comes at hc
                          simp only [Bool.and_eq_true] at hc
                          exact hc.1.2
                        obtain ⟨j1, j2⟩ := Pa.isI_iff.1 hqI
                        obtain ⟨v, rfl⟩ : ∃ v : Nat, q = (v : Int) := ⟨q.toNat, by omega⟩
                        have hvn : v < c.p.length := by omega
                        have hvx : v ∈ nxp c.p i := Pa.mem_on.2 hc
                        have hD2 := HP2.out.aw.len
                        obtain ⟨y, hy⟩ : ∃ y, D2[v]? = some y := ⟨_, List.getElem?_eq_getElem (by omega)⟩
                        obtain ⟨x, hx⟩ : ∃ x, D2[i]? = some x := ⟨_, List.getElem?_eq_getElem (by omega)⟩
                        have t6 := HA2.out.cell v y hy
                        have t7 := HA2.out.cell i x hx
                        have hyp := HP2.out.aw.pos v y hy
                        have hxp := HP2.out.aw.pos i x hx
                        unfold Pa.far at hyp hxp
                        have j3 : (i : Int) < (c.p.length : Int) := by omega
                        have j4 : (0 : Int) ≤ (i : Int) := by omega
                        have j5 : IntKind.i64.wrap (y + 1) = y + 1 := by rw [IntKind.wrap_i64]; omega
                        by_cases hne : y + 1 < x
                        · have d1 : decide (y + 1 < x) = true := by simpa using hne
                          have RP := hide (HP2.out.nearer hvx hx hy hne)
                          have f7 := HA2.out.thaw i
                          have HX2 := hide hx
                          clear hx hy hvx hc
                          go_wp2
                          go_region_held3 (fun w' => w'.cell? ⟨w.heap.size, 0, none⟩ = some c.nm ∧ w'.cell? ⟨w.heap.size, 1, none⟩ = some c.vs ∧ w'.cell? ⟨w.heap.size, 2, none⟩ = some c.pr ∧ w'.cell? ⟨w.heap.size, 3, none⟩ = some c.bl ∧ w'.cell? ⟨w.heap.size, 4, none⟩ = some (.slice c.a c.p.length c.c) ∧ w'.cell? ⟨wm.heap.size, k, none⟩ = some (.int .i64 (v : Int)) ∧ w'.cell? ⟨w.heap.size + 1, v, none⟩ = some (.int .i64 y) ∧ w'.cell? ⟨w.heap.size + 1, i, none⟩ = some (.int .i64 x)) ((first | exact ⟨by assumption, by assumption, by assumption, by assumption, by assumption, by assumption, by assumption, by assumption⟩ | go_keep))
                            ((go_at_call 23; refine (HCM.out _ (by exact ⟨rfl, rfl, rfl, Nat.le_refl _, fun _ _ => rfl⟩)).mono ?_; rintro e w3 ⟨rfl, hb3⟩; have k3 : Below wr.heap.size wr w3 := ⟨hb3.os, hb3.tape, hb3.output, hb3.size, hb3.block⟩; clear hb3; have r0 := bsome k3 t0; have r1 := bsome k3 t1; have r2 := bsome k3 t2; have r3 := bsome k3 t3; have r4 := bsome k3 t4; have r5 := bsome k3 t5; have r6 := bsome k3 t6; have r7 := bsome k3 t7))
                          have RA := hide ((HA2.out.below k3).set HX2.out (y + 1))
                          have f8 : w3.frozen? ⟨w.heap.size + 1, i, none⟩ = false := (HA2.out.below k3).thaw i
                          have RK := hide ((HK2.out.trans (Kx.of_below k3)).set (p := ⟨w.heap.size + 1, i, none⟩) (.inr (fun e => e rfl)) (.int .i64 (y + 1)))
                          clear t0 t1 t2 t3 t4 t5 t6 t7 r0 r1 r2 r3 r4
                          go_wp2
                          go_roundw
                          case rel => exact ⟨_, true, k + 1, rfl, by go_num, by omega, RA, RP, hide (fun e => by cases e), RK⟩
                          case measure => simp [intOf]; omega
                        · have d1 : decide (y + 1 < x) = false := dec_no hne
                          have R2 : Hid (m2 = false → (0 < k + 1 → Shut1 c.p D i ((i : Int) + 1)) ∧ (1 < k + 1 → Shut1 c.p D i tt)) := by
                            refine hide (fun hm => ?_)
                            have hDD := (HP2.out.eq hm).1
                            have hno : Shut1 c.p D i (v : Int) := fun v' x' y' hv' hx' _ hy' => by
                              obtain rfl : v' = v := by omega
                              rw [← hDD] at hx' hy'
                              rw [hx] at hx'
                              rw [hy] at hy'
                              cases hx'
                              cases hy'
                              omega
                            obtain ⟨s0, s1⟩ := HS2.out hm
                            refine ⟨fun _ => ?_, fun h => ?_⟩
                            · rcases (show k = 0 ∨ 0 < k by omega) with h0 | h0
                              · rw [← HQ.out.1 h0]; exact hno
                              · exact s0 h0
                            · rw [← HQ.out.2 (by omega)]; exact hno
                          clear hx hy hvx hc
                          go_wp2
                          go_region_held3 (fun w' => w'.cell? ⟨w.heap.size, 0, none⟩ = some c.nm ∧ w'.cell? ⟨w.heap.size, 1, none⟩ = some c.vs ∧ w'.cell? ⟨w.heap.size, 2, none⟩ = some c.pr ∧ w'.cell? ⟨w.heap.size, 3, none⟩ = some c.bl ∧ w'.cell? ⟨w.heap.size, 4, none⟩ = some (.slice c.a c.p.length c.c) ∧ w'.cell? ⟨wm.heap.size, k, none⟩ = some (.int .i64 (v : Int)) ∧ w'.cell? ⟨w.heap.size + 1, v, none⟩ = some (.int .i64 y) ∧ w'.cell? ⟨w.heap.size + 1, i, none⟩ = some (.int .i64 x)) ((first | exact ⟨by assumption, by assumption, by assumption, by assumption, by assumption, by assumption, by assumption, by assumption⟩ | go_keep))
                            ((go_at_call 23; refine (HCM.out _ (by exact ⟨rfl, rfl, rfl, Nat.le_refl _, fun _ _ => rfl⟩)).mono ?_; rintro e w3 ⟨rfl, hb3⟩; have k3 : Below wr.heap.size wr w3 := ⟨hb3.os, hb3.tape, hb3.output, hb3.size, hb3.block⟩; clear hb3; have r0 := bsome k3 t0; have r1 := bsome k3 t1; have r2 := bsome k3 t2; have r3 := bsome k3 t3; have r4 := bsome k3 t4; have r5 := bsome k3 t5; have r6 := bsome k3 t6; have r7 := bsome k3 t7))
                          have RA := hide (HA2.out.below k3)
                          have RK := hide (HK2.out.trans (Kx.of_below k3))
                          clear t0 t1 t2 t3 t4 t5 t6 t7 r0 r1 r2 r3 r4
                          go_wp2
                          go_roundw
                          case rel => exact ⟨D2, m2, k + 1, rfl, by go_num, by omega, RA, HP2, R2, RK⟩
                          case measure => simp [intOf]; omega
                    · obtain rfl : k = 2 := by omega
                      have RP : Hid (PS c.p to D D2 m2 (i + 1)) := hide ⟨HP2.out.aw, HP2.out.le, HP2.out.lt, fun hm => ⟨(HP2.out.eq hm).1, shut_next HX.out (HP2.out.eq hm).2 ((HS2.out hm).1 (by omega)) ((HS2.out hm).2 (by omega))⟩⟩
                      have RK := hide (HK6.out.trans HK2.out)
                      go_wp2
                      go_roundw
                      case rel => exact ⟨D2, m2, i + 1, rfl, by go_num, by omega, HA2, RP, RK⟩
                      case measure => simp [intOf]; omega
                · obtain rfl : i = c.p.length := by omega
                  have HMn : Hid (msr wr (w.heap.size + 1) c.p.length = Pa.tot D') := hide (by rw [← HP.out.aw.len]; exact msr_is HA'.out)
                  go_wp2
                  go_roundw
                  case rel => exact ⟨D', m', rfl, HA', hide HP.out.aw, hide (fun hm => by rw [(HP.out.eq hm).1]; exact shut_all (HP.out.eq hm).2), HK'⟩
                  case measure =>
                    show 2 * msr wr (w.heap.size + 1) c.p.length + bo (.bool m') < 2 * msr wo (w.heap.size + 1) c.p.length + bo (.bool true)
                    rw [HMn.out, HMo.out]
                    cases m' with
                    | true => have := HP.out.lt rfl; show 2 * Pa.tot D' + 1 < 2 * Pa.tot D + 1; omega
                    | false => have := HP.out.le; show 2 * Pa.tot D' + 0 < 2 * Pa.tot D + 1; omega
end Go.Proofs.Ytfngmdebmedkjae

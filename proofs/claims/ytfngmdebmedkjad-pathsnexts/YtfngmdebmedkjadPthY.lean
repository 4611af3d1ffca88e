import Derived.Test.YtfngmdebmedkjadPthX
/- What is reached: the document's own reckoning. -/
namespace Go.Proofs.Ytfngmdebmedkjad
open Go.RowKit

set_option maxRecDepth 100000 in
set_option maxHeartbeats 1000000 in
theorem reached_nil (nm vs pr bl : Value) (a : Option Addr) (cc : Nat) (w : World) : Calls Try.prog 10 #[.agg #[nm, vs, pr, bl, .slice a 0 cc]] w fun e w' => e = .returned (.slice none 0 0) ∧ Below w.heap.size w w' := by
  obtain ⟨Z, -, mk0⟩ := make_bools 0 (by omega)
  have mk : ∀ w : World, (Instr.makeSlice 47 (.int .i64 0) (.int .i64 0)).run Try.prog w = .ok (.slice (some ⟨w.heap.size, 0, none⟩) 0 0) (w.alloc (.cells Z 4)) := mk0
  clear mk0
  have HB : Hid (Below w.heap.size w ((w.alloc (.cells #[nm, vs, pr, bl, .slice a 0 cc] 26)).alloc (.cells Z 4))) := hide (((Below.refl _ _).alloc (Nat.le_refl _) _).alloc (by simp) _)
  go_enter Try.func10, Try.ntmps10
  go_wp2
  generalize (w.alloc (.cells #[nm, vs, pr, bl, .slice a 0 cc] 26)).alloc (.cells Z 4) = w2 at *
  go_loopw [4] (fun mv wr => ∃ m : Bool, mv = .bool m ∧ wr = w2) (fun mv _ => bo mv)
  case atStart => exact ⟨true, rfl, rfl⟩
  case round =>
    obtain ⟨m, rfl, hw⟩ := hrel
    obtain rfl := hw.symm
    cases m with
    | false =>
      go_wp2
      go_loopw [8, 9] (fun v iv wr => v = .slice none 0 0 ∧ iv = .int .i64 0 ∧ wr = w2) (fun _ _ _ => 0)
      case atStart => exact ⟨rfl, rfl, rfl⟩
      case round =>
        obtain ⟨rfl, rfl, hw⟩ := hrel
        obtain rfl := hw.symm
        go_wp2
        go_ret
        exact ⟨rfl, HB.out⟩
    | true =>
      go_wp2
      go_loopw [4, 5] (fun mv iv wr => mv = .bool false ∧ iv = .int .i64 0 ∧ wr = w2) (fun _ _ _ => 0)
      case atStart => exact ⟨rfl, rfl, rfl⟩
      case round =>
        obtain ⟨rfl, rfl, hw⟩ := hrel
        obtain rfl := hw.symm
        go_wp2
        go_roundw
        case rel => first | exact ⟨false, rfl, rfl⟩ | exact ⟨false, rfl, trivial⟩
        case measure => show bo (.bool false) < bo (.bool true); decide

set_option linter.unusedSimpArgs false in
set_option maxRecDepth 100000 in
set_option maxHeartbeats 4000000 in
theorem reached_any (c : Cp) (w : World) (h : PM c w) :
    Calls Try.prog 10 #[c.v] w fun e w' => ∃ (v : Value) (B : List Bool), e = .returned v ∧ IR w' v (up (mks B c.p.length)) ∧ Pa.Rc (nxp c.p) c.p.length B ∧ Pa.ShutB (nxp c.p) B ∧ Below w.heap.size w w' := by
  obtain ⟨i0, hi, hz0, hz1, hz2⟩ := info_parts Try.info3
  have hfew := h.few
  obtain ⟨Z, hZ, mk⟩ := make_bools c.p.length hfew
  have HZ := hide hZ
  have HM := hide h
  have HG : Hid (c.p ≠ [] → c.g < w.heap.size) := hide (fun hne => by
    obtain ⟨x, hx⟩ : ∃ x, c.p[0]? = some x := ⟨_, List.getElem?_eq_getElem (List.length_pos_iff.2 hne)⟩
    obtain ⟨u1, u2, u3, u5, a6, n6, c6, a7, n7, c7, u8, u9, u10, h0, -⟩ := h.row 0 x hx
    exact World.block_lt_of_cell? _ _ h0)
  clear hZ h
  rw [show c.v = .agg #[c.nm, c.vs, c.pr, c.bl, .slice c.a c.p.length c.c] from rfl]
  have HB2 : Hid (Below w.heap.size w ((w.alloc (.cells #[c.nm, c.vs, c.pr, c.bl, .slice c.a c.p.length c.c] 26)).alloc (.cells Z 4))) := hide (((Below.refl _ _).alloc (Nat.le_refl _) _).alloc (by simp) _)
  have HA2 : Hid (BR (w.heap.size + 1) ((w.alloc (.cells #[c.nm, c.vs, c.pr, c.bl, .slice c.a c.p.length c.c] 26)).alloc (.cells Z 4)) (List.replicate c.p.length false)) := by
    have h1 := br_new (w.alloc (.cells #[c.nm, c.vs, c.pr, c.bl, .slice c.a c.p.length c.c] 26)) Z c.p.length HZ.out
    have h2 : w.heap.size + 1 = (w.alloc (.cells #[c.nm, c.vs, c.pr, c.bl, .slice c.a c.p.length c.c] 26)).heap.size := by simp
    rw [h2]
    exact h1
  have z0 : ((w.alloc (.cells #[c.nm, c.vs, c.pr, c.bl, .slice c.a c.p.length c.c] 26)).alloc (.cells Z 4)).cell? ⟨w.heap.size, 0, none⟩ = some c.nm := by simp [go_sem]
  have z1 : ((w.alloc (.cells #[c.nm, c.vs, c.pr, c.bl, .slice c.a c.p.length c.c] 26)).alloc (.cells Z 4)).cell? ⟨w.heap.size, 1, none⟩ = some c.vs := by simp [go_sem]
  have z2 : ((w.alloc (.cells #[c.nm, c.vs, c.pr, c.bl, .slice c.a c.p.length c.c] 26)).alloc (.cells Z 4)).cell? ⟨w.heap.size, 2, none⟩ = some c.pr := by simp [go_sem]
  have z3 : ((w.alloc (.cells #[c.nm, c.vs, c.pr, c.bl, .slice c.a c.p.length c.c] 26)).alloc (.cells Z 4)).cell? ⟨w.heap.size, 3, none⟩ = some c.bl := by simp [go_sem]
  have z4 : ((w.alloc (.cells #[c.nm, c.vs, c.pr, c.bl, .slice c.a c.p.length c.c] 26)).alloc (.cells Z 4)).cell? ⟨w.heap.size, 4, none⟩ = some (.slice c.a c.p.length c.c) := by simp [go_sem]
  have HM2 : Hid (PM c ((w.alloc (.cells #[c.nm, c.vs, c.pr, c.bl, .slice c.a c.p.length c.c] 26)).alloc (.cells Z 4))) := hide (HM.out.keep HB2.out)
  have HW5 := hide (Pa.Rc.start (nx := nxp c.p) (n := c.p.length))
  clear HZ HM
  by_cases hn0 : 0 < c.p.length
  · have d0 : decide ((0 : Int) < (c.p.length : Int)) = true := by simp; omega
    have hrep : (List.replicate c.p.length false)[0]? = some false := by rw [List.getElem?_replicate, if_pos hn0]
    have c0 := HA2.out.cell 0 _ hrep
    have f0 := HA2.out.thaw 0
    have HA5 := hide (HA2.out.set hrep true)
    have HK5 : Hid (Kx (fun b => b ≠ w.heap.size + 1) ((w.alloc (.cells #[c.nm, c.vs, c.pr, c.bl, .slice c.a c.p.length c.c] 26)).alloc (.cells Z 4)) (((w.alloc (.cells #[c.nm, c.vs, c.pr, c.bl, .slice c.a c.p.length c.c] 26)).alloc (.cells Z 4)).setCell ⟨w.heap.size + 1, 0, none⟩ (.bool true))) := hide ((Kx.refl _ _).set (p := ⟨w.heap.size + 1, 0, none⟩) (.inr (fun e => e rfl)) (.bool true))
    clear hrep
    have hW : ((w.alloc (.cells #[c.nm, c.vs, c.pr, c.bl, .slice c.a c.p.length c.c] 26)).alloc (.cells Z 4)).setCell ⟨w.heap.size + 1, 0, none⟩ (.bool true) = (w.alloc (.cells #[c.nm, c.vs, c.pr, c.bl, .slice c.a c.p.length c.c] 26)).alloc (.cells (Z.setIfInBounds 0 (.bool true)) 4) := by simp [go_sem]
    have HWW := hide hW
    clear hW
    go_enter Try.func10, Try.ntmps10
    go_wp2
    rw [← HWW.out]
    clear HWW
    generalize ((w.alloc (.cells #[c.nm, c.vs, c.pr, c.bl, .slice c.a c.p.length c.c] 26)).alloc (.cells Z 4)) = w2 at *
    clear c0 f0 mk
    have HB5 : Hid (Below w.heap.size w (w2.setCell ⟨w.heap.size + 1, 0, none⟩ (.bool true))) := hide (((Kx.of_below (X := fun b => b < w.heap.size) HB2.out).trans (HK5.out.mono (fun b _ hb => by omega))).below_of (fun b hb => hb))
    have HM5 : Hid (c.p ≠ [] → PM c (w2.setCell ⟨w.heap.size + 1, 0, none⟩ (.bool true))) := hide (fun hne => HM2.out.keepX HK5.out (by have := HG.out hne; (try dsimp only); omega))
    have x0 := HK5.out.cell z0 (by (try dsimp only); omega)
    have x1 := HK5.out.cell z1 (by (try dsimp only); omega)
    have x2 := HK5.out.cell z2 (by (try dsimp only); omega)
    have x3 := HK5.out.cell z3 (by (try dsimp only); omega)
    have x4 := HK5.out.cell z4 (by (try dsimp only); omega)
    generalize w2.setCell ⟨w.heap.size + 1, 0, none⟩ (.bool true) = w5 at *
    clear z0 z1 z2 z3 z4 HK5 HM2 HB2 HA2
    go_loopw [4] (fun mv wr => ∃ (B0 : List Bool) (m : Bool), mv = .bool m ∧ Hid (BR (w.heap.size + 1) wr B0) ∧ Hid (Pa.Rc (nxp c.p) c.p.length B0) ∧ Hid (m = false → Pa.ShutB (nxp c.p) B0) ∧ Hid (Kx (fun b => b ≠ w.heap.size + 1) w5 wr)) (fun mv wr => 2 * msrB wr (w.heap.size + 1) c.p.length + bo mv)
    case atStart => exact ⟨_, true, rfl, HA5, HW5, hide (fun e => by cases e), hide (Kx.refl _ _)⟩
    case round =>
      obtain ⟨B0, m, rfl, HA, HW, HS, HK⟩ := hrel
      cases m with
      | false =>
        have hBl := HW.out.len
        have hgal := HA.out.lt
        have RB : Hid (Below w.heap.size w wr) := hide (((Kx.of_below (X := fun b => b < w.heap.size) HB5.out).trans (HK.out.mono (fun b _ hb => by omega))).below_of (fun b hb => hb))
        have RS := hide (HS.out rfl)
        clear HS HK
        obtain ⟨wo, hwo⟩ : ∃ x, x = wr := ⟨_, rfl⟩
        subst hwo
        go_wp2
        go_loopw [8, 9] (fun v iv wr => ∃ k : Nat, k ≤ c.p.length ∧ iv = .int .i64 k ∧ Hid (wr.ownsRow wo.heap.size 3 1 v (mks B0 k).length (ints (up (mks B0 k)))) ∧ Hid (Below wo.heap.size wo wr)) (fun _ iv _ => c.p.length - (intOf iv).toNat)
        case atStart => exact ⟨0, Nat.zero_le _, rfl, hide (World.ownsRow_nil _ _ _ _), hide (Below.refl _ _)⟩
        case round =>
          obtain ⟨k, hk, rfl, HO, HB⟩ := hrel
          have hrl := mks_len B0 k
          have hs1 := HB.out.size
          by_cases hlt : k < c.p.length
          · obtain ⟨x, hx⟩ : ∃ x, B0[k]? = some x := ⟨_, List.getElem?_eq_getElem (by omega)⟩
            have c0 := bsome HB.out (HA.out.cell k x hx)
            cases x with
            | false =>
              have HO2 : Hid (wr.ownsRow wo.heap.size 3 1 u8 (mks B0 (k + 1)).length (ints (up (mks B0 (k + 1))))) := by rw [mks_no hx]; exact HO
              clear hx HO
              go_wp2
              go_roundw
              case rel => exact ⟨k + 1, by omega, by go_num, HO2, HB⟩
              case measure => simp [intOf]; omega
            | true =>
              have HY := hide (mks_yes hx)
              clear hx
              go_wp2_with (at_builtin; refine wpList_append_lies _ rfl _ _ 27 rfl wo.heap.size 3 i0 (.int .i64 0) 1 8 Try.underlying27 hi hz0 hz1 hz2 rfl (by decide) _ _ _ rfl (HO.out.alloc _) ⟨wr.heap.size, 0, none⟩ 1 1 [.int .i64 k] rfl rfl (by exact cell_one_new _ _ _) ?c2 (by decide) ?c4 ?c5 ?c6 _ rfl ?_)
              case c2 => first | rfl | (intro u hu; simp at hu; subst hu; rfl)
              case c4 => unfold maxLen; omega
              case c5 => omega
              case c6 => first | omega | (simp; omega)
              intro gg cap w2' hown hgrow hat hlt2
              have HB2' : Hid (Below wo.heap.size wo w2') := hide ((HB.out.alloc hs1 _).grown hgrow (by simp; omega) (fun j hj => (HO.out.lt j hj).1))
              have HO2 : Hid (w2'.ownsRow wo.heap.size 3 1 (.slice (some ⟨gg, 0, none⟩) ((mks B0 k).length + 1) cap) (mks B0 (k + 1)).length (ints (up (mks B0 (k + 1))))) := by
                rw [HY.out, up_app, ints_app, List.length_append]
                exact hown
              clear hown hgrow hat HY HO HB
              go_wp2
              go_roundw
              case rel => exact ⟨k + 1, by omega, by go_num, HO2, HB2'⟩
              case measure => simp [intOf]; omega
          · obtain rfl : k = c.p.length := by omega
            have RI : Hid (IR wr u8 (up (mks B0 c.p.length))) := hide (by
              have := HO.out
              rw [← up_len] at this
              exact own_ir this)
            have RBB := hide (btrans RB.out HB.out)
            clear HO HB
            go_wp2
            go_ret
            first | exact ⟨_, B0, rfl, RI.out, HW.out, RS.out, RBB.out⟩ | exact ⟨_, rfl, B0, RI.out, HW.out, RS.out, RBB.out⟩
      | true =>
        obtain ⟨wo, hwo⟩ : ∃ x, x = wr := ⟨_, rfl⟩
        subst hwo
        have HMo : Hid (msrB wo (w.heap.size + 1) c.p.length = Pa.nots B0) := hide (by rw [← HW.out.len]; exact msrB_is HA.out)
        go_wp2
        go_loopw [4, 5] (fun mv iv wr => ∃ (B' : List Bool) (m' : Bool) (i : Nat), mv = .bool m' ∧ iv = .int .i64 i ∧ i ≤ c.p.length ∧ Hid (BR (w.heap.size + 1) wr B') ∧ Hid (PB c.p B0 B' m' i) ∧ Hid (Kx (fun b => b ≠ w.heap.size + 1) w5 wr)) (fun _ iv _ => c.p.length - (intOf iv).toNat)
        case atStart => exact ⟨B0, false, 0, rfl, rfl, Nat.zero_le _, HA, hide ⟨HW.out, Nat.le_refl _, (fun e => by cases e), fun _ => ⟨rfl, fun j k hj => absurd hj (by omega)⟩⟩, HK⟩
        case round =>
          obtain ⟨B', m', i, rfl, rfl, hin, HA', HP, HK'⟩ := hrel
          by_cases hlt : i < c.p.length
          · obtain ⟨⟨op, tt⟩, hx⟩ : ∃ x, c.p[i]? = some x := ⟨_, List.getElem?_eq_getElem hlt⟩
            have HX := hide hx
            have PMm := hide ((HM5.out (by intro e; rw [e] at hlt; simp at hlt)).keepX HK'.out (by have := HG.out (by intro e; rw [e] at hlt; simp at hlt); (try dsimp only); omega))
            obtain ⟨u1, u2, u3, u5, a6, n6, c6, a7, n7, c7, u8', u9', u10', -, -, -, -, h4, -⟩ := PMm.out.row i _ hx
            dsimp only at h4
            have hca := PMm.out.ne (by intro e; rw [e] at hlt; simp at hlt)
            have y4 := HK'.out.cell x4 (by (try dsimp only); omega)
            rw [hca] at y4
            obtain ⟨wm, hwm⟩ : ∃ x, x = wr := ⟨_, rfl⟩
            subst hwm
            have hgm := World.block_lt_of_cell? _ _ h4
            have hwm0 := World.block_lt_of_cell? _ _ y4
            dsimp only at hgm hwm0
            have hgam := HA'.out.lt
            clear hx
            go_wp2
            have e0 : (wm.alloc (.cells #[.int .i64 ((i : Int) + 1), .int .i64 tt] 3)).cell? ⟨wm.heap.size, 0, none⟩ = some (.int .i64 ((i : Int) + 1)) := by simp [go_sem]
            have e1 : (wm.alloc (.cells #[.int .i64 ((i : Int) + 1), .int .i64 tt] 3)).cell? ⟨wm.heap.size, 1, none⟩ = some (.int .i64 tt) := by simp [go_sem]
            have HB6 : Hid (Below wm.heap.size wm (wm.alloc (.cells #[.int .i64 ((i : Int) + 1), .int .i64 tt] 3))) := hide ((Below.refl _ _).alloc (Nat.le_refl _) _)
            have HA6 := hide (HA'.out.below HB6.out)
            have HK6 := hide (HK'.out.trans (Kx.of_below HB6.out))
            clear HB6
            generalize wm.alloc (.cells #[.int .i64 ((i : Int) + 1), .int .i64 tt] 3) = w6 at *
            clear h4 y4 HA' hca
            go_loopw [4, 7] (fun mv kv wr => ∃ (B2 : List Bool) (m2 : Bool) (k : Nat), mv = .bool m2 ∧ kv = .int .i64 k ∧ k ≤ 2 ∧ Hid (BR (w.heap.size + 1) wr B2) ∧ Hid (PB c.p B0 B2 m2 i) ∧ Hid (m2 = false → (0 < k → Shut1B c.p B0 i ((i : Int) + 1)) ∧ (1 < k → Shut1B c.p B0 i tt)) ∧ Hid (Kx (fun b => b ≠ w.heap.size + 1) w6 wr)) (fun _ kv _ => 2 - (intOf kv).toNat)
            case atStart => exact ⟨B', m', 0, rfl, rfl, by omega, HA6, HP, hide (fun _ => ⟨fun h => absurd h (by omega), fun h => absurd h (by omega)⟩), hide (Kx.refl _ _)⟩
            case round =>
              obtain ⟨B2, m2, k, rfl, rfl, hk2, HA2, HP2, HS2, HK2⟩ := hrel
              by_cases hlt2 : k < 2
              · obtain ⟨q, t5, hq0, hq1⟩ : ∃ q : Int, wr.cell? ⟨wm.heap.size, k, none⟩ = some (.int .i64 q) ∧ (k = 0 → q = (i : Int) + 1) ∧ (k = 1 → q = tt) := by
                  have f0 := HK2.out.cell e0 (by (try dsimp only); omega)
                  have f1 := HK2.out.cell e1 (by (try dsimp only); omega)
                  rcases (show k = 0 ∨ k = 1 by omega) with rfl | rfl
                  · exact ⟨_, f0, fun _ => rfl, fun h => absurd h (by omega)⟩
                  · exact ⟨_, f1, fun h => absurd h (by omega), fun _ => rfl⟩
                have K62 : Hid (Kx (fun b => b ≠ w.heap.size + 1) w5 wr) := hide (HK6.out.trans HK2.out)
                have t0 := K62.out.cell x0 (by (try dsimp only); omega)
                have t1 := K62.out.cell x1 (by (try dsimp only); omega)
                have t2 := K62.out.cell x2 (by (try dsimp only); omega)
                have t3 := K62.out.cell x3 (by (try dsimp only); omega)
                have t4 := K62.out.cell x4 (by (try dsimp only); omega)
                have PMr := hide ((HM5.out (by intro e; rw [e] at hlt; simp at hlt)).keepX K62.out (by have := HG.out (by intro e; rw [e] at hlt; simp at hlt); (try dsimp only); omega))
                have HQ := hide (show (k = 0 → q = (i : Int) + 1) ∧ (k = 1 → q = tt) from ⟨hq0, hq1⟩)
                have HCM := hide (fun w' (hb : Below wr.heap.size wr w') => comes_any c i q w' (PMr.out.keep hb))
                rw [show c.v = .agg #[c.nm, c.vs, c.pr, c.bl, .slice c.a c.p.length c.c] from rfl] at HCM
                have i1 : (0 : Int) ≤ (k : Int) := by omega
                have i2 : (k : Int) < 2 := by omega
                have hBl := HP2.out.rc.len
                obtain ⟨b, hb⟩ : ∃ b, B2[i]? = some b := ⟨_, List.getElem?_eq_getElem (by omega)⟩
                have t6 := HA2.out.cell i b hb
                have j3 : (i : Int) < (c.p.length : Int) := by omega
                have j4 : (0 : Int) ≤ (i : Int) := by omega
                clear hq0 hq1
                cases b with
                | false =>
                  have R2 : Hid (m2 = false → (0 < k + 1 → Shut1B c.p B0 i ((i : Int) + 1)) ∧ (1 < k + 1 → Shut1B c.p B0 i tt)) := by
                    refine hide (fun hm => ?_)
                    have hDD := (HP2.out.eq hm).1
                    have hno : Shut1B c.p B0 i q := fun v _ hi' _ => by
                      rw [← hDD, hb] at hi'
                      cases hi'
                    obtain ⟨s0, s1⟩ := HS2.out hm
                    refine ⟨fun _ => ?_, fun h => ?_⟩
                    · rcases (show k = 0 ∨ 0 < k by omega) with h0 | h0
                      · rw [← HQ.out.1 h0]; exact hno
                      · exact s0 h0
                    · rw [← HQ.out.2 (by omega)]; exact hno

                  clear hb
                  go_wp2
                  go_quiet (fail)
                  have RA := hide (HA2.out.below (below_drewN (Below.refl _ _) nq))
                  have RK := hide (HK2.out.drewN nq)
                  clear t0 t1 t2 t3 t4 t5 t6
                  go_wp2
                  go_roundw
                  case rel => exact ⟨B2, m2, k + 1, rfl, by go_num, by omega, RA, HP2, R2, RK⟩
                  case measure => simp [intOf]; omega
                | true =>
                  cases hc : Pa.comes c.p i q with
                  | false =>
                    rw [hc] at HCM
                    have R2 : Hid (m2 = false → (0 < k + 1 → Shut1B c.p B0 i ((i : Int) + 1)) ∧ (1 < k + 1 → Shut1B c.p B0 i tt)) := by
                      refine hide (fun hm => ?_)
                      have hDD := (HP2.out.eq hm).1
                      have hno : Shut1B c.p B0 i q := fun v hv _ hvn => by
                        have := Pa.mem_on.1 hvn
                        rw [hv, hc] at this
                        cases this
                      obtain ⟨s0, s1⟩ := HS2.out hm
                      refine ⟨fun _ => ?_, fun h => ?_⟩
                      · rcases (show k = 0 ∨ 0 < k by omega) with h0 | h0
                        · rw [← HQ.out.1 h0]; exact hno
                        · exact s0 h0
                      · rw [← HQ.out.2 (by omega)]; exact hno

                    clear hb
                    go_wp2
                    have HSX : Hid (∀ w', Below wr.heap.size wr w' → w'.cell? ⟨w.heap.size, 0, none⟩ = some c.nm ∧ w'.cell? ⟨w.heap.size, 1, none⟩ = some c.vs ∧ w'.cell? ⟨w.heap.size, 2, none⟩ = some c.pr ∧ w'.cell? ⟨w.heap.size, 3, none⟩ = some c.bl ∧ w'.cell? ⟨w.heap.size, 4, none⟩ = some (.slice c.a c.p.length c.c) ∧ w'.cell? ⟨wm.heap.size, k, none⟩ = some (.int .i64 q) ∧ w'.cell? ⟨w.heap.size + 1, i, none⟩ = some (.bool true)) := hide (fun w' hb => ⟨bsome hb t0, bsome hb t1, bsome hb t2, bsome hb t3, bsome hb t4, bsome hb t5, bsome hb t6⟩)
                    refine wp_region_held_drew (S := fun w' => w'.cell? ⟨w.heap.size, 0, none⟩ = some c.nm ∧ w'.cell? ⟨w.heap.size, 1, none⟩ = some c.vs ∧ w'.cell? ⟨w.heap.size, 2, none⟩ = some c.pr ∧ w'.cell? ⟨w.heap.size, 3, none⟩ = some c.bl ∧ w'.cell? ⟨w.heap.size, 4, none⟩ = some (.slice c.a c.p.length c.c) ∧ w'.cell? ⟨wm.heap.size, k, none⟩ = some (.int .i64 q) ∧ w'.cell? ⟨w.heap.size + 1, i, none⟩ = some (.bool true)) (by kernel_rfl) (HSX.out _ ⟨rfl, rfl, rfl, Nat.le_refl _, fun _ _ => rfl⟩) (fun hH => ?_)
                    refine wpAnyH_take (i := 0) (oi := _) (v := ?_) rfl (by kernel_rfl) (by kernel_rfl) (by kernel_rfl) (fun _ _ _ h => h) (Or.inl ⟨by kernel_rfl, ?_⟩) (by assumption) ?_
                    rotate_left
                    focus (intro w' hSw; (try dsimp only at hSw); go_simp; (first | done | with_reducible rfl | (rw [if_neg (by omega)]; try with_reducible rfl)))
                    try simp only [Act.put, List.getElem_toArray, List.getElem_cons_succ, List.getElem_cons_zero, List.setIfInBounds_toArray, List.set_cons_zero, List.set_cons_succ]
                    refine wpAnyH_take (i := 1) (oi := _) (v := ?_) rfl (by kernel_rfl) (by kernel_rfl) (by kernel_rfl) (fun _ _ _ h => h) (Or.inl ⟨by kernel_rfl, ?_⟩) (by assumption) ?_
                    rotate_left
                    focus (intro w' hSw; (try dsimp only at hSw); go_simp; (first | done | with_reducible rfl | (rw [if_neg (by omega)]; try with_reducible rfl)))
                    try simp only [Act.put, List.getElem_toArray, List.getElem_cons_succ, List.getElem_cons_zero, List.setIfInBounds_toArray, List.set_cons_zero, List.set_cons_succ]
                    refine wpAnyH_take (i := 2) (oi := _) (v := ?_) rfl (by kernel_rfl) (by kernel_rfl) (by kernel_rfl) (fun _ _ _ h => h) (Or.inl ⟨by kernel_rfl, ?_⟩) (by assumption) ?_
                    rotate_left
                    focus (intro w' hSw; (try dsimp only at hSw); go_simp; (first | done | with_reducible rfl | (rw [if_neg (by omega)]; try with_reducible rfl)))
                    try simp only [Act.put, List.getElem_toArray, List.getElem_cons_succ, List.getElem_cons_zero, List.setIfInBounds_toArray, List.set_cons_zero, List.set_cons_succ]
                    refine wpAnyH_take (i := 3) (oi := _) (v := ?_) rfl (by kernel_rfl) (by kernel_rfl) (by kernel_rfl) (fun _ _ _ h => h) (Or.inl ⟨by kernel_rfl, ?_⟩) (by assumption) ?_
                    rotate_left
                    focus (intro w' hSw; (try dsimp only at hSw); go_simp; (first | done | with_reducible rfl | (rw [if_neg (by omega)]; try with_reducible rfl)))
                    try simp only [Act.put, List.getElem_toArray, List.getElem_cons_succ, List.getElem_cons_zero, List.setIfInBounds_toArray, List.set_cons_zero, List.set_cons_succ]
                    refine wpAnyH_take (i := 4) (oi := _) (v := ?_) rfl (by kernel_rfl) (by kernel_rfl) (by kernel_rfl) (fun _ _ _ h => h) (Or.inl ⟨by kernel_rfl, ?_⟩) (by assumption) ?_
                    rotate_left
                    focus (intro w' hSw; (try dsimp only at hSw); go_simp; (first | done | with_reducible rfl | (rw [if_neg (by omega)]; try with_reducible rfl)))
                    try simp only [Act.put, List.getElem_toArray, List.getElem_cons_succ, List.getElem_cons_zero, List.setIfInBounds_toArray, List.set_cons_zero, List.set_cons_succ]
                    refine wpAnyH_take (i := 5) (oi := _) (v := ?_) rfl (by kernel_rfl) (by kernel_rfl) (by kernel_rfl) (fun _ _ _ h => h) (Or.inl ⟨by kernel_rfl, ?_⟩) (by assumption) ?_
                    rotate_left
                    focus (intro w' hSw; (try dsimp only at hSw); go_simp; (first | done | with_reducible rfl | (rw [if_neg (by omega)]; try with_reducible rfl)))
                    try simp only [Act.put, List.getElem_toArray, List.getElem_cons_succ, List.getElem_cons_zero, List.setIfInBounds_toArray, List.set_cons_zero, List.set_cons_succ]
                    refine wpAnyH_take (i := 6) (oi := _) (v := ?_) rfl (by kernel_rfl) (by kernel_rfl) (by kernel_rfl) (fun _ _ _ h => h) (Or.inl ⟨by kernel_rfl, ?_⟩) (by assumption) ?_
                    rotate_left
                    focus (intro w' hSw; (try dsimp only at hSw); go_simp; (first | done | with_reducible rfl | (rw [if_neg (by omega)]; try with_reducible rfl)))
                    try simp only [Act.put, List.getElem_toArray, List.getElem_cons_succ, List.getElem_cons_zero, List.setIfInBounds_toArray, List.set_cons_zero, List.set_cons_succ]
                    refine wpAnyH_take (i := 7) (oi := _) (v := ?_) rfl (by kernel_rfl) (by kernel_rfl) (by kernel_rfl) (fun _ _ _ h => h) (Or.inl ⟨by kernel_rfl, ?_⟩) (by assumption) ?_
                    rotate_left
                    focus (intro w' hSw; (try dsimp only at hSw); go_simp; (first | done | with_reducible rfl | (rw [if_neg (by omega)]; try with_reducible rfl)))
                    try simp only [Act.put, List.getElem_toArray, List.getElem_cons_succ, List.getElem_cons_zero, List.setIfInBounds_toArray, List.set_cons_zero, List.set_cons_succ]
                    refine wpAnyH_take (i := 8) (oi := _) (v := ?_) rfl (by kernel_rfl) (by kernel_rfl) (by kernel_rfl) (fun _ _ _ h => h) (Or.inl ⟨by kernel_rfl, ?_⟩) (by assumption) ?_
                    rotate_left
                    focus (intro w' hSw; (try dsimp only at hSw); go_simp; (first | done | with_reducible rfl | (rw [if_neg (by omega)]; try with_reducible rfl)))
                    try simp only [Act.put, List.getElem_toArray, List.getElem_cons_succ, List.getElem_cons_zero, List.setIfInBounds_toArray, List.set_cons_zero, List.set_cons_succ]
                    refine wpAnyH_take (i := 9) (oi := _) (v := ?_) rfl (by kernel_rfl) (by kernel_rfl) (by kernel_rfl) (fun _ _ _ h => h) (Or.inl ⟨by kernel_rfl, ?_⟩) (by assumption) ?_
                    rotate_left
                    focus (intro w' hSw; (try dsimp only at hSw); go_simp; (first | done | with_reducible rfl | (rw [if_neg (by omega)]; try with_reducible rfl)))
                    try simp only [Act.put, List.getElem_toArray, List.getElem_cons_succ, List.getElem_cons_zero, List.setIfInBounds_toArray, List.set_cons_zero, List.set_cons_succ]
                    refine wpAnyH_take (i := 10) (oi := _) (v := ?_) rfl (by kernel_rfl) (by kernel_rfl) (by kernel_rfl) (fun _ _ _ h => h) (Or.inl ⟨by kernel_rfl, ?_⟩) (by assumption) ?_
                    rotate_left
                    focus (intro w' hSw; (try dsimp only at hSw); go_simp; (first | done | with_reducible rfl | (rw [if_neg (by omega)]; try with_reducible rfl)))
                    try simp only [Act.put, List.getElem_toArray, List.getElem_cons_succ, List.getElem_cons_zero, List.setIfInBounds_toArray, List.set_cons_zero, List.set_cons_succ]
                    refine wpAnyH_ready (rs := [11]) (by kernel_rfl) (by simp) ?_
                    refine AllReadyH.cons rfl (fun K hK => ?_) AllReadyH.nil
                    go_simp
                    refine (HCM.out _ (by exact ⟨rfl, rfl, rfl, Nat.le_refl _, fun _ _ => rfl⟩)).mono ?_
                    rintro e w3 ⟨rfl, hb3⟩
                    have k3 : Below wr.heap.size wr w3 := ⟨hb3.os, hb3.tape, hb3.output, hb3.size, hb3.block⟩
                    clear hb3
                    try go_wp2
                    refine hK.out _ _ (HSX.out _ k3) (fun hH2 => ?_)
                    clear hK K hH
                    refine wpAnyH_take (i := 12) (oi := _) (v := ?_) rfl (by kernel_rfl) (by kernel_rfl) (by kernel_rfl) (fun _ _ _ h => h) (Or.inl ⟨by kernel_rfl, ?_⟩) (by assumption) ?_
                    rotate_left
                    focus (intro w' hSw; (try dsimp only at hSw); go_simp; (first | done | with_reducible rfl | (rw [if_neg (by omega)]; try with_reducible rfl)))
                    try simp only [Act.put, List.getElem_toArray, List.getElem_cons_succ, List.getElem_cons_zero, List.setIfInBounds_toArray, List.set_cons_zero, List.set_cons_succ]
                    refine wpAnyH_take (i := 13) (oi := _) (v := ?_) rfl (by kernel_rfl) (by kernel_rfl) (by kernel_rfl) (fun _ _ _ h => h) (Or.inl ⟨by kernel_rfl, ?_⟩) (by assumption) ?_
                    rotate_left
                    focus (intro w' hSw; (try dsimp only at hSw); go_simp; (first | done | with_reducible rfl | (rw [if_neg (by omega)]; try with_reducible rfl)))
                    try simp only [Act.put, List.getElem_toArray, List.getElem_cons_succ, List.getElem_cons_zero, List.setIfInBounds_toArray, List.set_cons_zero, List.set_cons_succ]
                    refine wpAnyH_take (i := 14) (oi := _) (v := undef) rfl (by kernel_rfl) (by kernel_rfl) (by kernel_rfl) (fun _ _ _ h => h) (Or.inr ⟨by kernel_rfl, rfl⟩) (by assumption) ?_
                    try simp only [Act.put, List.getElem_toArray, List.getElem_cons_succ, List.getElem_cons_zero, List.setIfInBounds_toArray, List.set_cons_zero, List.set_cons_succ]
                    refine wpAnyH_take (i := 15) (oi := _) (v := undef) rfl (by kernel_rfl) (by kernel_rfl) (by kernel_rfl) (fun _ _ _ h => h) (Or.inr ⟨by kernel_rfl, rfl⟩) (by assumption) ?_
                    try simp only [Act.put, List.getElem_toArray, List.getElem_cons_succ, List.getElem_cons_zero, List.setIfInBounds_toArray, List.set_cons_zero, List.set_cons_succ]
                    refine wpAnyH_take (i := 16) (oi := _) (v := undef) rfl (by kernel_rfl) (by kernel_rfl) (by kernel_rfl) (fun _ _ _ h => h) (Or.inr ⟨by kernel_rfl, rfl⟩) (by assumption) ?_
                    try simp only [Act.put, List.getElem_toArray, List.getElem_cons_succ, List.getElem_cons_zero, List.setIfInBounds_toArray, List.set_cons_zero, List.set_cons_succ]
                    refine wpAnyH_take (i := 17) (oi := _) (v := undef) rfl (by kernel_rfl) (by kernel_rfl) (by kernel_rfl) (fun _ _ _ h => h) (Or.inr ⟨by kernel_rfl, rfl⟩) (by assumption) ?_
                    try simp only [Act.put, List.getElem_toArray, List.getElem_cons_succ, List.getElem_cons_zero, List.setIfInBounds_toArray, List.set_cons_zero, List.set_cons_succ]
                    refine wpAnyH_take (i := 18) (oi := _) (v := undef) rfl (by kernel_rfl) (by kernel_rfl) (by kernel_rfl) (fun _ _ _ h => h) (Or.inr ⟨by kernel_rfl, rfl⟩) (by assumption) ?_
                    try simp only [Act.put, List.getElem_toArray, List.getElem_cons_succ, List.getElem_cons_zero, List.setIfInBounds_toArray, List.set_cons_zero, List.set_cons_succ]
                    refine wpAnyH_take (i := 19) (oi := _) (v := undef) rfl (by kernel_rfl) (by kernel_rfl) (by kernel_rfl) (fun _ _ _ h => h) (Or.inr ⟨by kernel_rfl, rfl⟩) (by assumption) ?_
                    try simp only [Act.put, List.getElem_toArray, List.getElem_cons_succ, List.getElem_cons_zero, List.setIfInBounds_toArray, List.set_cons_zero, List.set_cons_succ]
                    refine wpAnyH_take (i := 20) (oi := _) (v := undef) rfl (by kernel_rfl) (by kernel_rfl) (by kernel_rfl) (fun _ _ _ h => h) (Or.inr ⟨by kernel_rfl, rfl⟩) (by assumption) ?_
                    try simp only [Act.put, List.getElem_toArray, List.getElem_cons_succ, List.getElem_cons_zero, List.setIfInBounds_toArray, List.set_cons_zero, List.set_cons_succ]
                    refine wpAnyH_take (i := 21) (oi := _) (v := undef) rfl (by kernel_rfl) (by kernel_rfl) (by kernel_rfl) (fun _ _ _ h => h) (Or.inr ⟨by kernel_rfl, rfl⟩) (by assumption) ?_
                    try simp only [Act.put, List.getElem_toArray, List.getElem_cons_succ, List.getElem_cons_zero, List.setIfInBounds_toArray, List.set_cons_zero, List.set_cons_succ]
                    refine wpAnyH_take (i := 22) (oi := _) (v := ?_) rfl (by kernel_rfl) (by kernel_rfl) (by kernel_rfl) (fun _ _ _ h => h) (Or.inl ⟨by kernel_rfl, ?_⟩) (by assumption) ?_
                    rotate_left
                    focus (intro w' hSw; (try dsimp only at hSw); go_simp; (first | done | with_reducible rfl | (rw [if_neg (by omega)]; try with_reducible rfl)))
                    try simp only [Act.put, List.getElem_toArray, List.getElem_cons_succ, List.getElem_cons_zero, List.setIfInBounds_toArray, List.set_cons_zero, List.set_cons_succ]
                    refine wpAnyH_done (by kernel_rfl) ?_ _
                    try simp only [Act.put, List.getElem_toArray, List.getElem_cons_succ, List.getElem_cons_zero, List.setIfInBounds_toArray, List.set_cons_zero, List.set_cons_succ]
                    have RA := hide (HA2.out.below k3)
                    have RK := hide (HK2.out.trans (Kx.of_below k3))
                    clear t0 t1 t2 t3 t4 t5 t6
                    go_wp2
                    go_roundw
                    case rel => exact ⟨B2, m2, k + 1, rfl, by go_num, by omega, RA, HP2, R2, RK⟩
                    case measure => simp [intOf]; omega
                  | true =>
                    rw [hc] at HCM
                    have hqI : Pa.isI c.p q = true := by
                      unfold Pa.comes at hc
                      simp only [Bool.and_eq_true] at hc
                      exact hc.1.2
                    obtain ⟨j1, j2⟩ := Pa.isI_iff.1 hqI
                    obtain ⟨v, rfl⟩ : ∃ v : Nat, q = (v : Int) := ⟨q.toNat, by omega⟩
                    have hvn : v < c.p.length := by omega
                    have hvx : v ∈ nxp c.p i := Pa.mem_on.2 hc
                    obtain ⟨y, hy⟩ : ∃ y, B2[v]? = some y := ⟨_, List.getElem?_eq_getElem (by omega)⟩
                    have t7 := HA2.out.cell v y hy
                    cases y with
                    | false =>
                      have RP := hide (HP2.out.more hvx hb hy)
                      have HX2 := hide hy
                      clear hy hvx hc hb
                      go_wp2
                      go_region_held3 (fun w' => w'.cell? ⟨w.heap.size, 0, none⟩ = some c.nm ∧ w'.cell? ⟨w.heap.size, 1, none⟩ = some c.vs ∧ w'.cell? ⟨w.heap.size, 2, none⟩ = some c.pr ∧ w'.cell? ⟨w.heap.size, 3, none⟩ = some c.bl ∧ w'.cell? ⟨w.heap.size, 4, none⟩ = some (.slice c.a c.p.length c.c) ∧ w'.cell? ⟨wm.heap.size, k, none⟩ = some (.int .i64 (v : Int)) ∧ w'.cell? ⟨w.heap.size + 1, i, none⟩ = some (.bool true) ∧ w'.cell? ⟨w.heap.size + 1, v, none⟩ = some (.bool false)) ((first | exact ⟨by assumption, by assumption, by assumption, by assumption, by assumption, by assumption, by assumption, by assumption⟩ | go_keep))
                        ((go_at_call 16; refine (HCM.out _ (by exact ⟨rfl, rfl, rfl, Nat.le_refl _, fun _ _ => rfl⟩)).mono ?_; rintro e w3 ⟨rfl, hb3⟩; have k3 : Below wr.heap.size wr w3 := ⟨hb3.os, hb3.tape, hb3.output, hb3.size, hb3.block⟩; clear hb3; have r0 := bsome k3 t0; have r1 := bsome k3 t1; have r2 := bsome k3 t2; have r3 := bsome k3 t3; have r4 := bsome k3 t4; have r5 := bsome k3 t5; have r6 := bsome k3 t6; have r7 := bsome k3 t7))
                      have RA := hide ((HA2.out.below k3).set HX2.out true)
                      have f8 : w3.frozen? ⟨w.heap.size + 1, v, none⟩ = false := (HA2.out.below k3).thaw v
                      have RK := hide ((HK2.out.trans (Kx.of_below k3)).set (p := ⟨w.heap.size + 1, v, none⟩) (.inr (fun e => e rfl)) (.bool true))
                      clear t0 t1 t2 t3 t4 t5 t6 t7 r0 r1 r2 r3 r4 r6
                      go_wp2
                      go_roundw
                      case rel => exact ⟨_, true, k + 1, rfl, by go_num, by omega, RA, RP, hide (fun e => by cases e), RK⟩
                      case measure => simp [intOf]; omega
                    | true =>
                      have R2 : Hid (m2 = false → (0 < k + 1 → Shut1B c.p B0 i ((i : Int) + 1)) ∧ (1 < k + 1 → Shut1B c.p B0 i tt)) := by
                        refine hide (fun hm => ?_)
                        have hDD := (HP2.out.eq hm).1
                        have hno : Shut1B c.p B0 i (v : Int) := fun v' hv' _ _ => by
                          obtain rfl : v' = v := by omega
                          rw [← hDD]
                          exact hy
                        obtain ⟨s0, s1⟩ := HS2.out hm
                        refine ⟨fun _ => ?_, fun h => ?_⟩
                        · rcases (show k = 0 ∨ 0 < k by omega) with h0 | h0
                          · rw [← HQ.out.1 h0]; exact hno
                          · exact s0 h0
                        · rw [← HQ.out.2 (by omega)]; exact hno

                      clear hy hvx hc hb
                      go_wp2
                      go_region_held3 (fun w' => w'.cell? ⟨w.heap.size, 0, none⟩ = some c.nm ∧ w'.cell? ⟨w.heap.size, 1, none⟩ = some c.vs ∧ w'.cell? ⟨w.heap.size, 2, none⟩ = some c.pr ∧ w'.cell? ⟨w.heap.size, 3, none⟩ = some c.bl ∧ w'.cell? ⟨w.heap.size, 4, none⟩ = some (.slice c.a c.p.length c.c) ∧ w'.cell? ⟨wm.heap.size, k, none⟩ = some (.int .i64 (v : Int)) ∧ w'.cell? ⟨w.heap.size + 1, i, none⟩ = some (.bool true) ∧ w'.cell? ⟨w.heap.size + 1, v, none⟩ = some (.bool true)) ((first | exact ⟨by assumption, by assumption, by assumption, by assumption, by assumption, by assumption, by assumption, by assumption⟩ | go_keep))
                        ((go_at_call 16; refine (HCM.out _ (by exact ⟨rfl, rfl, rfl, Nat.le_refl _, fun _ _ => rfl⟩)).mono ?_; rintro e w3 ⟨rfl, hb3⟩; have k3 : Below wr.heap.size wr w3 := ⟨hb3.os, hb3.tape, hb3.output, hb3.size, hb3.block⟩; clear hb3; have r0 := bsome k3 t0; have r1 := bsome k3 t1; have r2 := bsome k3 t2; have r3 := bsome k3 t3; have r4 := bsome k3 t4; have r5 := bsome k3 t5; have r6 := bsome k3 t6; have r7 := bsome k3 t7))
                      have RA := hide (HA2.out.below k3)
                      have RK := hide (HK2.out.trans (Kx.of_below k3))
                      clear t0 t1 t2 t3 t4 t5 t6 t7 r0 r1 r2 r3 r4 r6
                      go_wp2
                      go_roundw
                      case rel => exact ⟨B2, m2, k + 1, rfl, by go_num, by omega, RA, HP2, R2, RK⟩
                      case measure => simp [intOf]; omega
              · obtain rfl : k = 2 := by omega
                have RP : Hid (PB c.p B0 B2 m2 (i + 1)) := hide ⟨HP2.out.rc, HP2.out.le, HP2.out.lt, fun hm => ⟨(HP2.out.eq hm).1, shutB_next HX.out (HP2.out.eq hm).2 ((HS2.out hm).1 (by omega)) ((HS2.out hm).2 (by omega))⟩⟩
                have RK := hide (HK6.out.trans HK2.out)
                go_wp2
                go_roundw
                case rel => exact ⟨B2, m2, i + 1, rfl, by go_num, by omega, HA2, RP, RK⟩
                case measure => simp [intOf]; omega
          · obtain rfl : i = c.p.length := by omega
            have HMn : Hid (msrB wr (w.heap.size + 1) c.p.length = Pa.nots B') := hide (by rw [← HP.out.rc.len]; exact msrB_is HA'.out)
            go_wp2
            go_roundw
            case rel => exact ⟨B', m', rfl, HA', hide HP.out.rc, hide (fun hm => by rw [(HP.out.eq hm).1]; exact shutB_all (HP.out.eq hm).2), HK'⟩
            case measure =>
              show 2 * msrB wr (w.heap.size + 1) c.p.length + bo (.bool m') < 2 * msrB wo (w.heap.size + 1) c.p.length + bo (.bool true)
              rw [HMn.out, HMo.out]
              cases m' with
              | true => have := HP.out.lt rfl; show 2 * Pa.nots B' + 1 < 2 * Pa.nots B0 + 1; omega
              | false => have := HP.out.le; show 2 * Pa.nots B' + 0 < 2 * Pa.nots B0 + 1; omega
  · have hz : c.p = [] := List.length_eq_zero_iff.1 (by omega)
    have hz0 : c.p.length = 0 := by rw [hz]; rfl
    rw [hz0]
    refine (reached_nil c.nm c.vs c.pr c.bl c.a c.c w).mono fun e w' ⟨h1, h2⟩ => ⟨_, [], h1, own_ir (World.ownsRow_nil _ 0 _ _), ⟨by simp, fun h => absurd h (by omega), fun i h => by simp at h⟩, fun i k h => by simp at h, h2⟩
end Go.Proofs.Ytfngmdebmedkjad

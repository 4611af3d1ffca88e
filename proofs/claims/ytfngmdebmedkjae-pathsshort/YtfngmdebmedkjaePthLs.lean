import Derived.Test.YtfngmdebmedkjaePthZ
import Derived.Test.YtfngmdebmedkjaePthT
import Derived.Test.YtfngmdebmedkjaePthV
/- The law PathsShort: it answers true. -/
namespace Go.Proofs.Ytfngmdebmedkjae
open Go.RowKit

theorem up_ne {l : List Nat} (h : 0 < l.length) : up l ≠ [] := by
  intro e
  have := congrArg List.length e
  rw [up_len] at this
  simp only [List.length_nil] at this
  omega
theorem pick_at (x : Int) (n : Nat) (h0 : 0 < n) (hn : n ≤ 2) : ∃ q : Nat, q < n ∧ wrap64 ((IntKind.u64.wrap x).tmod (n : Int)) = (q : Int) := by
  have h0' : 0 ≤ IntKind.u64.wrap x := by rw [IntKind.wrap_u64]; omega
  have h1 := Int.tmod_eq_emod_of_nonneg (b := (n : Int)) h0'
  have h2 := Int.emod_nonneg (IntKind.u64.wrap x) (b := (n : Int)) (by omega)
  have h3 := Int.emod_lt_of_pos (IntKind.u64.wrap x) (b := (n : Int)) (by omega)
  rw [h1]
  generalize IntKind.u64.wrap x % (n : Int) = z at *
  refine ⟨z.toNat, by omega, ?_⟩
  unfold wrap64
  omega

set_option maxRecDepth 100000 in
set_option maxHeartbeats 8000000 in
theorem short_law (c : Cp) (vp : Value) (l : List Int) (w : World) (h : GM c w) (hl : IR w vp l) (hln : l.length ≤ 9223372036854775807) :
    Calls Try.prog 4 #[c.v, vp] w fun e w' => e = .returned (.bool true) ∧ Below w.heap.size w w' := by
  obtain ⟨i0, hi, hz0, hz1, hz2⟩ := info_parts Try.info3
  have HM := hide h
  have HG := hide (fun w' (hb : Below w.heap.size w w') => great_any c w' (h.keep hb))
  rw [show c.v = .agg #[c.nm, c.vs, c.pr, c.bl, .slice c.a c.p.length c.c] from rfl] at HG
  obtain ⟨aw, cw, rfl, hpk⟩ := hl
  have HPK := hide hpk
  clear h hpk
  have HB0 : Hid (Below w.heap.size w (w.alloc (.cells #[c.nm, c.vs, c.pr, c.bl, .slice c.a c.p.length c.c] 26))) := hide ((Below.refl _ _).alloc (Nat.le_refl _) _)
  have y0 : (w.alloc (.cells #[c.nm, c.vs, c.pr, c.bl, .slice c.a c.p.length c.c] 26)).cell? ⟨w.heap.size, 0, none⟩ = some c.nm := by simp [go_sem]
  have y1 : (w.alloc (.cells #[c.nm, c.vs, c.pr, c.bl, .slice c.a c.p.length c.c] 26)).cell? ⟨w.heap.size, 1, none⟩ = some c.vs := by simp [go_sem]
  have y2 : (w.alloc (.cells #[c.nm, c.vs, c.pr, c.bl, .slice c.a c.p.length c.c] 26)).cell? ⟨w.heap.size, 2, none⟩ = some c.pr := by simp [go_sem]
  have y3 : (w.alloc (.cells #[c.nm, c.vs, c.pr, c.bl, .slice c.a c.p.length c.c] 26)).cell? ⟨w.heap.size, 3, none⟩ = some c.bl := by simp [go_sem]
  have y4 : (w.alloc (.cells #[c.nm, c.vs, c.pr, c.bl, .slice c.a c.p.length c.c] 26)).cell? ⟨w.heap.size, 4, none⟩ = some (.slice c.a c.p.length c.c) := by simp [go_sem]
  have hv : c.v = .agg #[c.nm, c.vs, c.pr, c.bl, .slice c.a c.p.length c.c] := rfl
  rw [hv]
  have HV := hide hv
  clear hv
  obtain ⟨bp, hbp⟩ : ∃ b : Bool, b = decide ((300 : Int) < (l.length : Int)) := ⟨_, rfl⟩
  obtain ⟨bz, hbz⟩ : ∃ b : Bool, b = ((c.p.length : Int) == 0) := ⟨_, rfl⟩
  have dp := hbp.symm
  have dz := hbz.symm
  clear hbp hbz
  go_enter Try.func4, Try.ntmps4
  go_wp2_with fail
  refine (begun_any _).mono ?_
  rintro e w1 ⟨rfl, hb1⟩
  have K1 := hide (btrans HB0.out hb1)
  have z0 := bsome hb1 y0
  have z1 := bsome hb1 y1
  have z2 := bsome hb1 y2
  have z3 := bsome hb1 y3
  have z4 := bsome hb1 y4
  clear hb1 HB0 y0 y1 y2 y3 y4
  go_wp2_with fail
  refine (HG.out _ K1.out).mono ?_
  rintro e w2 ⟨q, rfl, hq, hb2⟩
  have K2 := hide (btrans K1.out hb2)
  have x0 := bsome hb2 z0
  have x1 := bsome hb2 z1
  have x2 := bsome hb2 z2
  have x3 := bsome hb2 z3
  have x4 := bsome hb2 z4
  clear hb2 z0 z1 z2 z3 z4
  cases q with
  | true =>
    go_wp2
    go_ret
    exact ⟨rfl, K2.out⟩
  | false =>
    have hf := hq rfl
    cases bp with
    | true =>
      go_wp2
      go_ret
      exact ⟨rfl, K2.out⟩
    | false =>
      cases bz with
      | true =>
        go_wp2
        go_ret
        exact ⟨rfl, K2.out⟩
      | false =>
        have hpl : l.length ≤ 300 := by have := of_decide_eq_false dp; omega
        have hn0 : 0 < c.p.length := by
          have : (c.p.length : Int) ≠ 0 := by simpa using dz
          omega
        have PMx : Hid (∀ w', Below w2.heap.size w2 w' → PM c w') := hide (fun w' hb => (HM.out.keep (btrans K2.out hb)).pm hf)
        have CN : Hid (∀ (u : Nat) w', Below w2.heap.size w2 w' → Calls Try.prog 10 #[.agg #[c.nm, c.vs, c.pr, c.bl, .slice c.a c.p.length c.c], .int .i64 u] w' fun e w'' => ∃ v, e = .returned v ∧ IR w'' v (up (nxp c.p u)) ∧ Below w'.heap.size w' w'') := hide (fun u w' hb => by
          rw [← HV.out]
          exact (next_any c u w' (PMx.out w' hb)).mono fun e w'' ⟨v, h1, h2, h3⟩ => ⟨v, h1, own_ir (by rw [up_len]; exact h2), h3⟩)
        have CP : Hid (∀ (u : Nat) w', Below w2.heap.size w2 w' → Calls Try.prog 8 #[.agg #[c.nm, c.vs, c.pr, c.bl, .slice c.a c.p.length c.c], .int .i64 0, .int .i64 u] w' fun e w'' => ∃ (v : Value) (L : List Nat), e = .returned v ∧ IR w'' v (up L) ∧ PTH c.p 0 (u : Int) L ∧ Below w'.heap.size w' w'') := hide (fun u w' hb => by
          rw [← HV.out]
          exact path_any c 0 u w' (PMx.out w' hb))
        have CI : Hid (∀ (v : Value) (L : List Nat) w', Below w2.heap.size w2 w' → IR w' v (up L) → L.length ≤ 1000 → isW c.p (up L) → Calls Try.prog 11 #[.agg #[c.nm, c.vs, c.pr, c.bl, .slice c.a c.p.length c.c], v] w' fun e w'' => e = .returned (.bool true) ∧ Below w'.heap.size w' w'') := hide (fun v L w' hb hI hL hW => by
          rw [← HV.out]
          refine (is_any c v (up L) w' (PMx.out w' hb) hI (by rw [up_len]; omega)).mono fun e w'' ⟨q, h1, h2, h3⟩ => ⟨?_, h3⟩
          rw [h1, h2.2 hW])
        have CR : Hid (∀ w', Below w2.heap.size w2 w' → Calls Try.prog 13 #[.agg #[c.nm, c.vs, c.pr, c.bl, .slice c.a c.p.length c.c]] w' fun e w'' => ∃ (v : Value) (ah : List Int), e = .returned v ∧ IR w'' v (up (rcs ah c.p.length)) ∧ SPR c.p 0 ah ∧ Below w'.heap.size w' w'') := hide (fun w' hb => by
          rw [← HV.out]
          exact reach_any c w' (PMx.out w' hb))
        have HPK2 : Hid (l ≠ [] → ∃ g o, aw = some ⟨g, o, none⟩ ∧ ∀ (k : Nat) x, l[k]? = some x → w2.cell? ⟨g, o + k, none⟩ = some (.int .i64 x)) := hide (fun hne => by
          obtain ⟨g, o, h1, h2⟩ := HPK.out hne
          exact ⟨g, o, h1, fun k x hx => bsome K2.out (h2 k x hx)⟩)
        clear HG hq K1 HM PMx HV HPK
        go_wp2
        go_loopw [5, 6, 7] (fun av vv iv wr => ∃ (u k : Nat) (Wk : List Nat), av = .int .i64 u ∧ iv = .int .i64 k ∧ k ≤ l.length ∧ Wk.length ≤ k + 1 ∧ Hid (Pa.Way (nxp c.p) 0 u Wk) ∧ Hid (wr.ownsRow w2.heap.size 3 1 vv Wk.length (ints (up Wk))) ∧ Hid (Below w2.heap.size w2 wr)) (fun _ _ iv _ => l.length - (intOf iv).toNat)
        case atStart => exact ⟨0, 0, [0], rfl, rfl, Nat.zero_le _, by simp, hide Pa.Way.one, hide (own_first w2 (.int .i64 0)), hide ((Below.refl _ _).alloc (Nat.le_refl _) _)⟩
        case round =>
          obtain ⟨u, k, Wk, rfl, rfl, hk, hWl, HWy, HO, HB⟩ := hrel
          by_cases hlt : k < l.length
          · obtain ⟨xk, hxk⟩ : ∃ x, l[k]? = some x := ⟨_, List.getElem?_eq_getElem hlt⟩
            obtain ⟨gp, op, rfl, hpc⟩ := HPK2.out (by rintro rfl; simp at hlt)
            have cp := bsome HB.out (hpc k xk hxk)
            have r0 := bsome HB.out x0
            have r1 := bsome HB.out x1
            have r2 := bsome HB.out x2
            have r3 := bsome HB.out x3
            have r4 := bsome HB.out x4
            clear hpc hxk
            obtain ⟨wo, hwo⟩ : ∃ q, q = wr := ⟨_, rfl⟩
            subst hwo
            go_wp2_with fail
            refine (CN.out u _ HB.out).mono ?_
            rintro e w3 ⟨v3, rfl, hi3, hb3⟩
            obtain ⟨a3, c3, rfl, hc3⟩ := hi3
            rw [up_len]
            have K3 := hide (btrans HB.out hb3)
            have cp3 := bsome hb3 cp
            have HO3 : Hid (w3.ownsRow w2.heap.size 3 1 u6 Wk.length (ints (up Wk))) := hide (own_keep HO.out (fun g hg => hb3.block g (HO.out.lt g hg).2))
            clear HO cp
            by_cases hN : nxp c.p u = []
            · have hN0 : (nxp c.p u).length = 0 := by rw [hN]; rfl
              rw [hN0]
              have KE := K3
              have r0 := bsome K3.out x0
              have r1 := bsome K3.out x1
              have r2 := bsome K3.out x2
              have r3 := bsome K3.out x3
              have r4 := bsome K3.out x4
              clear K3 hc3 HO3 hN hN0 hb3
              go_wp2_with fail
              refine (CR.out _ KE.out).mono ?_
              rintro e w8 ⟨v8, ah, rfl, hi8, hs8, hb8⟩
              obtain ⟨a8, c8, rfl, hc8⟩ := hi8
              rw [up_len]
              have K8 := hide (btrans KE.out hb8)
              have HS8 := hide hs8
              have HC8 := hide hc8
              have m0 := bsome K8.out x0
              have m1 := bsome K8.out x1
              have m2 := bsome K8.out x2
              have m3 := bsome K8.out x3
              have m4 := bsome K8.out x4
              have hal : ah.length = c.p.length := hs8.1
              have hr8 := rcs_len ah c.p.length
              clear hc8 hs8 hb8 KE
              go_wp2
              go_loopw [11, 12] (fun iv kv wr => ∃ ii : Nat, ii ≤ c.p.length ∧ iv = .int .i64 ii ∧ kv = .int .i64 ((rcs ah ii).length : Nat) ∧ Hid (Below w8.heap.size w8 wr)) (fun iv _ _ => c.p.length - (intOf iv).toNat)
              case atStart => exact ⟨0, Nat.zero_le _, rfl, rfl, hide (Below.refl _ _)⟩
              case round =>
                obtain ⟨ii, hii, rfl, rfl, HB9⟩ := hrel
                have n0 := bsome HB9.out m0
                have n1 := bsome HB9.out m1
                have n2 := bsome HB9.out m2
                have n3 := bsome HB9.out m3
                have n4 := bsome HB9.out m4
                by_cases hlt9 : ii < c.p.length
                · obtain ⟨xa, hxa⟩ : ∃ x, ah[ii]? = some x := ⟨_, List.getElem?_eq_getElem (by omega)⟩
                  have hri := rcs_len ah ii
                  obtain ⟨f1, f2⟩ := rcs_is hlt9 hxa
                  have HPP := hide (fun L h => pth_pos (L := L) HS8.out hlt9 hxa h)
                  by_cases hx1 : xa = -1
                  · have HRN : Hid (rcs ah (ii + 1) = rcs ah ii) := hide (by subst hx1; exact rcs_no hxa)
                    by_cases hkl : (rcs ah ii).length < (rcs ah c.p.length).length
                    · have d6 : decide (((rcs ah ii).length : Int) < ((rcs ah c.p.length).length : Int)) = true := by simp; omega
                      obtain ⟨rv, hrv⟩ : ∃ v, (rcs ah c.p.length)[(rcs ah ii).length]? = some v := ⟨_, List.getElem?_eq_getElem hkl⟩
                      obtain ⟨g8, o8, rfl, hce8⟩ := HC8.out (up_ne (by omega))
                      have cr := bsome HB9.out (hce8 _ _ (up_get hrv))
                      have hne : (rv : Int) ≠ (ii : Int) := by have := f2 hx1 rv hrv; omega
                      have d7 := beq_no hne
                      clear hce8 hrv f1 f2 hxa
                      go_wp2_with fail
                      refine (CP.out ii _ (btrans K8.out HB9.out)).mono ?_
                      rintro e w9 ⟨v9, L9, rfl, hi9, hp9, hb9⟩
                      obtain ⟨a9, c9, rfl, -⟩ := hi9
                      rw [up_len]
                      have hL0 : L9.length = 0 := Nat.le_zero.1 (Nat.le_of_not_lt (fun h => (HPP.out L9 hp9).1 h hx1))
                      have K9 := hide (btrans HB9.out hb9)
                      rw [hL0]
                      clear hp9 hb9
                      go_wp2
                      go_roundw
                      case rel => exact ⟨ii + 1, by omega, by go_num, by rw [HRN.out], K9⟩
                      case measure => simp [intOf]; omega
                    · have d6 : decide (((rcs ah ii).length : Int) < ((rcs ah c.p.length).length : Int)) = false := by simp; omega
                      clear f1 f2 hxa
                      go_wp2_with fail
                      refine (CP.out ii _ (btrans K8.out HB9.out)).mono ?_
                      rintro e w9 ⟨v9, L9, rfl, hi9, hp9, hb9⟩
                      obtain ⟨a9, c9, rfl, -⟩ := hi9
                      rw [up_len]
                      have hL0 : L9.length = 0 := Nat.le_zero.1 (Nat.le_of_not_lt (fun h => (HPP.out L9 hp9).1 h hx1))
                      have K9 := hide (btrans HB9.out hb9)
                      rw [hL0]
                      clear hp9 hb9
                      go_wp2
                      go_roundw
                      case rel => exact ⟨ii + 1, by omega, by go_num, by rw [HRN.out], K9⟩
                      case measure => simp [intOf]; omega
                  · have HRY : Hid ((rcs ah (ii + 1)).length = (rcs ah ii).length + 1) := hide (by rw [rcs_yes hxa hx1]; simp)
                    have hrv := f1 hx1
                    have hkl : (rcs ah ii).length < (rcs ah c.p.length).length := (List.getElem?_eq_some_iff.1 hrv).1
                    have d6 : decide (((rcs ah ii).length : Int) < ((rcs ah c.p.length).length : Int)) = true := by simp; omega
                    obtain ⟨g8, o8, rfl, hce8⟩ := HC8.out (up_ne (by omega))
                    have cr := bsome HB9.out (hce8 _ _ (up_get hrv))
                    have d7 : ((ii : Int) == (ii : Int)) = true := by simp
                    clear hce8 hrv f1 f2 hxa
                    go_wp2_with fail
                    refine (CP.out ii _ (btrans K8.out HB9.out)).mono ?_
                    rintro e w9 ⟨v9, L9, rfl, hi9, hp9, hb9⟩
                    obtain ⟨a9, c9, rfl, -⟩ := hi9
                    rw [up_len]
                    have hL0 : 0 < L9.length := (HPP.out L9 hp9).2 hx1
                    have d8 : decide ((0 : Int) < (L9.length : Int)) = true := by simp; omega
                    have K9 := hide (btrans HB9.out hb9)
                    clear hp9 hb9
                    go_wp2
                    go_roundw
                    case rel => exact ⟨ii + 1, by omega, by go_num, by rw [HRY.out]; go_num, K9⟩
                    case measure => simp [intOf]; omega
                · go_wp2
                  go_ret
                  exact ⟨rfl, btrans K2.out (btrans K8.out HB9.out)⟩
            · obtain ⟨g3, o3, rfl, hce⟩ := hc3 (by intro e; exact hN (by simpa [up] using e))
              have hNl : (nxp c.p u).length ≤ 2 := Pa.on_len c.p (u : Int)
              have hNp : 0 < (nxp c.p u).length := List.length_pos_iff.2 hN
              have b3 : (((nxp c.p u).length : Int) == 0) = false := beq_no (by omega)
              obtain ⟨qq, hqn, hqe⟩ := pick_at xk (nxp c.p u).length hNp hNl
              obtain ⟨xx, hxx⟩ : ∃ x, (nxp c.p u)[qq]? = some x := ⟨_, List.getElem?_eq_getElem hqn⟩
              have cx := hce qq _ (up_get hxx)
              have HWy4 := hide (Pa.Way.snoc HWy.out (List.mem_of_getElem? hxx))
              have hs3 := K3.out.size
              have t0 := bsome K3.out x0
              have t1 := bsome K3.out x1
              have t2 := bsome K3.out x2
              have t3 := bsome K3.out x3
              have t4 := bsome K3.out x4
              clear hc3 hce hxx hN hb3 r0 r1 r2 r3 r4 HWy
              go_wp2_with (at_builtin; refine wpList_append_lies _ rfl _ _ 30 rfl w2.heap.size 3 i0 (.int .i64 0) 1 8 Try.underlying30 hi hz0 hz1 hz2 rfl (by decide) _ _ _ rfl (HO3.out.alloc _) ⟨w3.heap.size, 0, none⟩ 1 1 [.int .i64 xx] rfl rfl (by exact cell_one_new _ _ _) ?c2 (by decide) ?c4 ?c5 ?c6 _ rfl ?_)
              case c2 => first | rfl | (intro u hu; simp at hu; subst hu; rfl)
              case c4 => unfold maxLen; omega
              case c5 => omega
              case c6 => first | omega | (simp; omega)
              intro gn cap w4 hown hgrow hat hlt4
              have hK4 : Below w2.heap.size w2 w4 := (K3.out.alloc hs3 _).grown hgrow (by simp; omega) (fun j hj => (HO3.out.lt j hj).1)
              have K4 := hide hK4
              have HO4 : Hid (w4.ownsRow w2.heap.size 3 1 (.slice (some ⟨gn, 0, none⟩) (Wk.length + 1) cap) (Wk ++ [xx]).length (ints (up (Wk ++ [xx])))) := by
                rw [up_app, ints_app, List.length_append]
                exact hown
              have HI4 : Hid (IR w4 (.slice (some ⟨gn, 0, none⟩) (Wk.length + 1) cap) (up (Wk ++ [xx]))) := hide (own_ir (by rw [up_len]; exact HO4.out))
              have q0 := bsome K4.out x0
              have q1 := bsome K4.out x1
              have q2 := bsome K4.out x2
              have q3 := bsome K4.out x3
              have q4 := bsome K4.out x4
              clear hown hgrow hat hK4 HO3 t0 t1 t2 t3 t4 cx hqe K3
              go_wp2_with fail
              refine (CP.out xx _ K4.out).mono ?_
              rintro e w5 ⟨v5, L, rfl, hi5, hp5, hb5⟩
              obtain ⟨hLw, hLe⟩ := pth_way HWy4.out hn0 hp5
              have hLlen := Pa.Le_len hLe
              rw [List.length_append] at hLlen
              simp only [List.length_cons, List.length_nil] at hLlen
              have hLp := hLw.pos
              have HIv : Hid (IR w5 v5 (up L)) := hide hi5
              obtain ⟨a5, c5, rfl, hc5⟩ := hi5
              obtain ⟨g5, o5, rfl, hce5⟩ := hc5 (up_ne (by omega))
              have ce0 := hce5 0 _ (up_get (way_first hLw))
              have ce1 := hce5 (L.length - 1) _ (up_get (way_last hLw))
              rw [Nat.add_zero] at ce0
              have HWL := hide (way_isW hLw hn0)
              have HWW := hide (way_isW HWy4.out hn0)
              have HLE := hide hLe
              have K5 := hide (btrans K4.out hb5)
              have HI5 := hide (HI4.out.keep hb5)
              have HO5 : Hid (w5.ownsRow w2.heap.size 3 1 (.slice (some ⟨gn, 0, none⟩) (Wk.length + 1) cap) (Wk ++ [xx]).length (ints (up (Wk ++ [xx])))) := hide (own_keep HO4.out (fun g hg => hb5.block g (HO4.out.lt g hg).2))
              have q0 := bsome hb5 q0
              have q1 := bsome hb5 q1
              have q2 := bsome hb5 q2
              have q3 := bsome hb5 q3
              have q4 := bsome hb5 q4
              rw [up_len] at HIv ⊢
              clear hc5 hce5 hp5 hLw hLe hb5 HI4 HO4
              go_wp2_with fail
              refine (CI.out _ L _ K5.out HIv.out (by omega) HWL.out).mono ?_
              rintro e w6 ⟨rfl, hb6⟩
              have K6 := hide (btrans K5.out hb6)
              have HI6 := hide (HI5.out.keep hb6)
              have HIv6 := hide (HIv.out.keep hb6)
              have HO6 : Hid (w6.ownsRow w2.heap.size 3 1 (.slice (some ⟨gn, 0, none⟩) (Wk.length + 1) cap) (Wk ++ [xx]).length (ints (up (Wk ++ [xx])))) := hide (own_keep HO5.out (fun g hg => hb6.block g (HO5.out.lt g hg).2))
              have ce0 := bsome hb6 ce0
              have ce1 := bsome hb6 ce1
              have q0 := bsome hb6 q0
              have q1 := bsome hb6 q1
              have q2 := bsome hb6 q2
              have q3 := bsome hb6 q3
              have q4 := bsome hb6 q4
              clear hb6 HI5 HIv HO5
              go_wp2_with fail
              refine (CI.out _ (Wk ++ [xx]) _ K6.out HI6.out (by simp; omega) HWW.out).mono ?_
              rintro e w7 ⟨rfl, hb7⟩
              have K7 := hide (btrans K6.out hb7)
              have HI7 := hide (HI6.out.keep hb7)
              have HIv7 := hide (HIv6.out.keep hb7)
              have HO7 : Hid (w7.ownsRow w2.heap.size 3 1 (.slice (some ⟨gn, 0, none⟩) (Wk.length + 1) cap) (Wk ++ [xx]).length (ints (up (Wk ++ [xx])))) := hide (own_keep HO6.out (fun g hg => hb7.block g (HO6.out.lt g hg).2))
              have ce0 := bsome hb7 ce0
              have ce1 := bsome hb7 ce1
              have d5 : decide (((Wk.length : Int) + 1) < (L.length : Int)) = false := by simp; omega
              have d5' : decide (((Wk.length + 1 : Nat) : Int) < (L.length : Int)) = false := by simp; omega
              have l1 : (0 : Int) ≤ (L.length : Int) - 1 := by omega
              have l2 : ((L.length : Int) - 1).toNat = L.length - 1 := by omega
              clear hb7 HI6 HIv6 HO6 q0 q1 q2 q3 q4
              by_cases hEq : L.length = Wk.length + 1
              · have HNA := hide (na_le HLE.out (by rw [List.length_append]; exact hEq))
                have d9 : ((L.length : Int) == (Wk.length : Int) + 1) = true := by simp; omega
                have d9' : ((L.length : Int) == ((Wk.length + 1 : Nat) : Int)) = true := by simp; omega
                have HEQ := hide hEq
                clear hEq
                go_wp2_with fail
                refine (above_any (up L) (up (Wk ++ [xx])) _ _ _ (by rw [up_len]; omega) (by rw [up_len]; simp; omega) HIv7.out HI7.out HNA.out).mono ?_
                rintro e w8 ⟨rfl, hb8⟩
                have K8 := hide (btrans K7.out hb8)
                have HO8 : Hid (w8.ownsRow w2.heap.size 3 1 (.slice (some ⟨gn, 0, none⟩) (Wk.length + 1) cap) (Wk ++ [xx]).length (ints (up (Wk ++ [xx])))) := hide (own_keep HO7.out (fun g hg => hb8.block g (HO7.out.lt g hg).2))
                clear hb8
                go_wp2
                go_roundw
                case rel => exact ⟨xx, k + 1, Wk ++ [xx], rfl, by go_num, by omega, by simp; omega, HWy4, HO8, K8⟩
                case measure => simp [intOf]; omega
              · have d9 : ((L.length : Int) == (Wk.length : Int) + 1) = false := beq_no (by omega)
                have d9' : ((L.length : Int) == ((Wk.length + 1 : Nat) : Int)) = false := beq_no (by omega)
                go_wp2
                go_roundw
                case rel => exact ⟨xx, k + 1, Wk ++ [xx], rfl, by go_num, by omega, by simp; omega, HWy4, HO7, K7⟩
                case measure => simp [intOf]; omega
          · have r0 := bsome HB.out x0
            have r1 := bsome HB.out x1
            have r2 := bsome HB.out x2
            have r3 := bsome HB.out x3
            have r4 := bsome HB.out x4
            have KE := HB
            clear HO HWy HB
            go_wp2_with fail
            refine (CR.out _ KE.out).mono ?_
            rintro e w8 ⟨v8, ah, rfl, hi8, hs8, hb8⟩
            obtain ⟨a8, c8, rfl, hc8⟩ := hi8
            rw [up_len]
            have K8 := hide (btrans KE.out hb8)
            have HS8 := hide hs8
            have HC8 := hide hc8
            have m0 := bsome K8.out x0
            have m1 := bsome K8.out x1
            have m2 := bsome K8.out x2
            have m3 := bsome K8.out x3
            have m4 := bsome K8.out x4
            have hal : ah.length = c.p.length := hs8.1
            have hr8 := rcs_len ah c.p.length
            clear hc8 hs8 hb8 KE
            go_wp2
            go_loopw [11, 12] (fun iv kv wr => ∃ ii : Nat, ii ≤ c.p.length ∧ iv = .int .i64 ii ∧ kv = .int .i64 ((rcs ah ii).length : Nat) ∧ Hid (Below w8.heap.size w8 wr)) (fun iv _ _ => c.p.length - (intOf iv).toNat)
            case atStart => exact ⟨0, Nat.zero_le _, rfl, rfl, hide (Below.refl _ _)⟩
            case round =>
              obtain ⟨ii, hii, rfl, rfl, HB9⟩ := hrel
              have n0 := bsome HB9.out m0
              have n1 := bsome HB9.out m1
              have n2 := bsome HB9.out m2
              have n3 := bsome HB9.out m3
              have n4 := bsome HB9.out m4
              by_cases hlt9 : ii < c.p.length
              · obtain ⟨xa, hxa⟩ : ∃ x, ah[ii]? = some x := ⟨_, List.getElem?_eq_getElem (by omega)⟩
                have hri := rcs_len ah ii
                obtain ⟨f1, f2⟩ := rcs_is hlt9 hxa
                have HPP := hide (fun L h => pth_pos (L := L) HS8.out hlt9 hxa h)
                by_cases hx1 : xa = -1
                · have HRN : Hid (rcs ah (ii + 1) = rcs ah ii) := hide (by subst hx1; exact rcs_no hxa)
                  by_cases hkl : (rcs ah ii).length < (rcs ah c.p.length).length
                  · have d6 : decide (((rcs ah ii).length : Int) < ((rcs ah c.p.length).length : Int)) = true := by simp; omega
                    obtain ⟨rv, hrv⟩ : ∃ v, (rcs ah c.p.length)[(rcs ah ii).length]? = some v := ⟨_, List.getElem?_eq_getElem hkl⟩
                    obtain ⟨g8, o8, rfl, hce8⟩ := HC8.out (up_ne (by omega))
                    have cr := bsome HB9.out (hce8 _ _ (up_get hrv))
                    have hne : (rv : Int) ≠ (ii : Int) := by have := f2 hx1 rv hrv; omega
                    have d7 := beq_no hne
                    clear hce8 hrv f1 f2 hxa
                    go_wp2_with fail
                    refine (CP.out ii _ (btrans K8.out HB9.out)).mono ?_
                    rintro e w9 ⟨v9, L9, rfl, hi9, hp9, hb9⟩
                    obtain ⟨a9, c9, rfl, -⟩ := hi9
                    rw [up_len]
                    have hL0 : L9.length = 0 := Nat.le_zero.1 (Nat.le_of_not_lt (fun h => (HPP.out L9 hp9).1 h hx1))
                    have K9 := hide (btrans HB9.out hb9)
                    rw [hL0]
                    clear hp9 hb9
                    go_wp2
                    go_roundw
                    case rel => exact ⟨ii + 1, by omega, by go_num, by rw [HRN.out], K9⟩
                    case measure => simp [intOf]; omega
                  · have d6 : decide (((rcs ah ii).length : Int) < ((rcs ah c.p.length).length : Int)) = false := by simp; omega
                    clear f1 f2 hxa
                    go_wp2_with fail
                    refine (CP.out ii _ (btrans K8.out HB9.out)).mono ?_
                    rintro e w9 ⟨v9, L9, rfl, hi9, hp9, hb9⟩
                    obtain ⟨a9, c9, rfl, -⟩ := hi9
                    rw [up_len]
                    have hL0 : L9.length = 0 := Nat.le_zero.1 (Nat.le_of_not_lt (fun h => (HPP.out L9 hp9).1 h hx1))
                    have K9 := hide (btrans HB9.out hb9)
                    rw [hL0]
                    clear hp9 hb9
                    go_wp2
                    go_roundw
                    case rel => exact ⟨ii + 1, by omega, by go_num, by rw [HRN.out], K9⟩
                    case measure => simp [intOf]; omega
                · have HRY : Hid ((rcs ah (ii + 1)).length = (rcs ah ii).length + 1) := hide (by rw [rcs_yes hxa hx1]; simp)
                  have hrv := f1 hx1
                  have hkl : (rcs ah ii).length < (rcs ah c.p.length).length := (List.getElem?_eq_some_iff.1 hrv).1
                  have d6 : decide (((rcs ah ii).length : Int) < ((rcs ah c.p.length).length : Int)) = true := by simp; omega
                  obtain ⟨g8, o8, rfl, hce8⟩ := HC8.out (up_ne (by omega))
                  have cr := bsome HB9.out (hce8 _ _ (up_get hrv))
                  have d7 : ((ii : Int) == (ii : Int)) = true := by simp
                  clear hce8 hrv f1 f2 hxa
                  go_wp2_with fail
                  refine (CP.out ii _ (btrans K8.out HB9.out)).mono ?_
                  rintro e w9 ⟨v9, L9, rfl, hi9, hp9, hb9⟩
                  obtain ⟨a9, c9, rfl, -⟩ := hi9
                  rw [up_len]
                  have hL0 : 0 < L9.length := (HPP.out L9 hp9).2 hx1
                  have d8 : decide ((0 : Int) < (L9.length : Int)) = true := by simp; omega
                  have K9 := hide (btrans HB9.out hb9)
                  clear hp9 hb9
                  go_wp2
                  go_roundw
                  case rel => exact ⟨ii + 1, by omega, by go_num, by rw [HRY.out]; go_num, K9⟩
                  case measure => simp [intOf]; omega
              · go_wp2
                go_ret
                exact ⟨rfl, btrans K2.out (btrans K8.out HB9.out)⟩
end Go.Proofs.Ytfngmdebmedkjae

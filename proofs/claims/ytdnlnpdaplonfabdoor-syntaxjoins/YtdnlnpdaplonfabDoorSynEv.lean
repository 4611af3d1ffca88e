import Derived.Test.YtdnlnpdaplonfabDoorSynEu
/- When two programs are the same: the document's own reckoning. -/
namespace Go.Proofs.YtdnlnpdaplonfabDoor
open Go.RowKit

set_option maxRecDepth 100000 in
set_option maxHeartbeats 2000000 in
theorem rsame_any (n : Nat) (w : World) (P P2 : Nat → Prop) (l m : List Sx.Tr) (a a2 : Option Addr) (cap cap2 : Nat) (h : Sl (RG w P n) w P l (.slice a l.length cap)) (h2 : Sl (RG w P2 n) w P2 m (.slice a2 m.length cap2)) (hs : Sm n l) :
    Calls Tryd.prog 13 #[.agg #[.slice a l.length cap], .agg #[.slice a2 m.length cap2], .bool false] w fun e w' => e = .returned (.bool (Sx.sameG n l m)) ∧ Kp [] w w' := by
  have HS := hide h
  have HS2 := hide h2
  have IH := hide (sameStmts_any n)
  have hl : l.length ≤ 1000000000 := by have := hs.len; omega
  have HWT := hide (wG_nth n l (by have := hs.w; omega))
  have HPS := hide hs.ps
  clear h h2 hs
  by_cases hlen : l.length = m.length
  · have r1 : ((l.length : Int) != (m.length : Int)) = false := by simp; omega
    have HLEN := hide hlen
    clear hlen
    go_enter Tryd.func13, Tryd.ntmps13
    go_wp2
    go_loopw [7] (fun iv wr => ∃ k : Nat, k ≤ l.length ∧ iv = .int .i64 k ∧ Hid (Sx.sameG n l m = Sx.all2 (fun a b => Sx.gN a == Sx.gN b && Sx.sameP (Sx.gP a) (Sx.gP b) && Sx.sameS n (Sx.gB a) (Sx.gB b)) (l.drop k) (m.drop k)) ∧ Hid (Kp [] w wr) ∧ wr.cell? ⟨w.heap.size, 0, none⟩ = some (.slice a l.length cap) ∧ wr.cell? ⟨w.heap.size + 1, 0, none⟩ = some (.slice a2 m.length cap2)) (fun iv _ => l.length - (intOf iv).toNat)
    case atStart => exact ⟨0, Nat.zero_le _, rfl, rfl, ((Kp.refl _ _).alloc _).alloc _, by simp [go_sem], by simp [go_sem]⟩
    case round =>
      obtain ⟨wo, hwo⟩ : ∃ wo, wo = wr := ⟨_, rfl⟩
      subst hwo
      obtain ⟨k, hk, rfl, HE, HK, p0, p1⟩ := hrel
      by_cases hlt : k < l.length
      · obtain ⟨b, off, nm, at', ps, body, uP, uB, rfl, -, hd, m0, m1, m2, m3, hP, hB⟩ := GL.nth (HS.out.keep HK.out (by simp) (fun d c h => h.keep HK.out (by simp))) k hlt
        have hlt2 : k < m.length := by have := HLEN.out; omega
        obtain ⟨b2, off2, nm2, at2, ps2, body2, uP2, uB2, rfl, -, hd2, n0, n1, n2, n3, hP2, hB2⟩ := GL.nth (HS2.out.keep HK.out (by simp) (fun d c h => h.keep HK.out (by simp))) k hlt2
        obtain ⟨aP, cP, rfl, -⟩ := id hP
        obtain ⟨aB, cB, rfl⟩ := hB.slice
        obtain ⟨aP2, cP2, rfl, -⟩ := id hP2
        obtain ⟨aB2, cB2, rfl⟩ := hB2.slice
        have hwt : Sx.wS n body ≤ 1000000000 := HWT.out k _ hd
        have hps : ps.length ≤ 1000000 := HPS.out k _ hd
        have hst := Sx.all2_drop (p := fun a b => Sx.gN a == Sx.gN b && Sx.sameP (Sx.gP a) (Sx.gP b) && Sx.sameS n (Sx.gB a) (Sx.gB b)) hd hd2
        have HST1 : Hid (Sx.sameG n l m = ((nm == nm2 && Sx.sameP ps ps2 && Sx.sameS n body body2) && Sx.all2 (fun a b => Sx.gN a == Sx.gN b && Sx.sameP (Sx.gP a) (Sx.gP b) && Sx.sameS n (Sx.gB a) (Sx.gB b)) (l.drop (k + 1)) (m.drop (k + 1)))) := HE.out.trans hst
        have HCP := hide hP
        have HCB := hide hB
        have HCP2 := hide hP2
        have HCB2 := hide hB2
        have hn1 := World.new_ne wo _ m0
        have hn2 := World.new_ne wo _ n0
        have hn3 := World.new_ne wo _ p0
        have hn4 := World.new_ne wo _ p1
        have hblt := World.block_lt_of_cell? _ _ m0
        have hblt2 := World.block_lt_of_cell? _ _ n0
        have hblt3 := World.block_lt_of_cell? _ _ p0
        have hblt4 := World.block_lt_of_cell? _ _ p1
        have hk0 : (0 : Int) ≤ (k : Int) := by omega
        have hk1 : (k : Int) < (l.length : Int) := by omega
        have hk2 : (k : Int) < (m.length : Int) := by omega
        clear hst hP hB hP2 hB2 hd hd2
        go_wp2_with fail
        go_region_held_law (fun w' => w'.cell? ⟨w.heap.size, 0, none⟩ = some (.slice (some ⟨b, off, none⟩) l.length cap) ∧ w'.cell? ⟨w.heap.size + 1, 0, none⟩ = some (.slice (some ⟨b2, off2, none⟩) m.length cap2) ∧ w'.cell? ⟨b, off + k * 4, none⟩ = some (.string (bs nm)) ∧ w'.cell? ⟨b, off + k * 4 + 1, none⟩ = some (.int .i64 at') ∧ w'.cell? ⟨b, off + k * 4 + 2, none⟩ = some (.slice aP ps.length cP) ∧ w'.cell? ⟨b, off + k * 4 + 3, none⟩ = some (.slice aB body.length cB) ∧ w'.cell? ⟨b2, off2 + k * 4, none⟩ = some (.string (bs nm2)) ∧ w'.cell? ⟨b2, off2 + k * 4 + 1, none⟩ = some (.int .i64 at2) ∧ w'.cell? ⟨b2, off2 + k * 4 + 2, none⟩ = some (.slice aP2 ps2.length cP2) ∧ w'.cell? ⟨b2, off2 + k * 4 + 3, none⟩ = some (.slice aB2 body2.length cB2)) (go_keep) (fail)
        · have HEq := hide (fun w' (h : Kp [] wo w') => HK.out.trans h)
          have HN := hide (fun w' (h : Kp [] wo w') => (⟨h.some p0 (by simp), h.some p1 (by simp)⟩ : w'.cell? ⟨w.heap.size, 0, none⟩ = some (.slice (some ⟨b, off, none⟩) l.length cap) ∧ w'.cell? ⟨w.heap.size + 1, 0, none⟩ = some (.slice (some ⟨b2, off2, none⟩) m.length cap2)))
          clear p0 p1 m0 m1 m2 m3 n0 n1 n2 n3
          by_cases q1 : nm = nm2
          · by_cases q2 : ps.length = ps2.length
            · have t2 : ((ps.length : Int) != (ps2.length : Int)) = false := by simp; omega
              have HL2 := hide q2
              subst q1
              clear q2
              go_wp2_with fail
              refine (IH.out _ P P2 body body2 _ _ (HCB.out.keep (((Kp.refl [] _).alloc _).alloc _).drew (by simp)) (HCB2.out.keep (((Kp.refl [] _).alloc _).alloc _).drew (by simp)) hwt).mono ?_
              rintro e w1 ⟨rfl, hk1⟩
              have K1 : Hid (Kp [] wo w1) := (((Kp.refl [] _).alloc _).alloc _).drew.trans hk1
              have e2 : w1.cell? ⟨wo.heap.size, 2, none⟩ = some (.slice aP ps.length cP) := hk1.some (by simp [go_sem]) (by simp)
              have f2 : w1.cell? ⟨wo.heap.size + 1, 2, none⟩ = some (.slice aP2 ps2.length cP2) := hk1.some (by simp [go_sem]) (by simp)
              have HST2 : Hid (Sx.sameG n l m = ((Sx.sameP ps ps2 && Sx.sameS n body body2) && Sx.all2 (fun a b => Sx.gN a == Sx.gN b && Sx.sameP (Sx.gP a) (Sx.gP b) && Sx.sameS n (Sx.gB a) (Sx.gB b)) (l.drop (k + 1)) (m.drop (k + 1)))) := by
                show _ = _
                rw [HST1.out]
                simp
              clear hk1 HST1
              generalize Sx.sameS n body body2 = Y at *
              cases Y with
              | false =>
                go_wp2
                go_ret
                exact ⟨by rw [HST2.out]; simp, HEq.out _ K1.out⟩
              | true =>
                have HQ1 := hide (HCP.out.keep K1.out (by simp) (fun _ _ h => h))
                have HQ2 := hide (HCP2.out.keep K1.out (by simp) (fun _ _ h => h))
                go_wp2
                go_loopw [10] (fun iv wr => ∃ q : Nat, q ≤ ps.length ∧ iv = .int .i64 q ∧ Hid (Sx.sameP ps ps2 = Sx.all2 (fun a b => Sx.pH a == Sx.pH b) (ps.drop q) (ps2.drop q)) ∧ ∃ j, wr = w1.drewN j) (fun iv _ => ps.length - (intOf iv).toNat)
                case atStart => exact ⟨0, Nat.zero_le _, rfl, rfl, 0, rfl⟩
                case round =>
                  obtain ⟨q, hq, rfl, HE2, j, rfl⟩ := hrel
                  by_cases hlq : q < ps.length
                  · obtain ⟨g, og, nm, T, rfl, -, hd, s0, s1⟩ := PL.nth HQ1.out q hlq
                    have hlq2 : q < ps2.length := by have := HL2.out; omega
                    obtain ⟨g2, og2, nm2, T2, rfl, -, hd2, t0, t1⟩ := PL.nth HQ2.out q hlq2
                    have hst := Sx.all2_drop (p := fun a b => Sx.pH a == Sx.pH b) hd hd2
                    have HST3 : Hid (Sx.sameP ps ps2 = (((nm, T) == (nm2, T2)) && Sx.all2 (fun a b => Sx.pH a == Sx.pH b) (ps.drop (q + 1)) (ps2.drop (q + 1)))) := HE2.out.trans hst
                    have hne := neqP nm T nm2 T2
                    have hk0 : (0 : Int) ≤ (q : Int) := by omega
                    have hk1 : (q : Int) < (ps.length : Int) := by omega
                    have hk2 : (q : Int) < (ps2.length : Int) := by omega
                    clear hst hd hd2
                    generalize ((nm, T) == (nm2, T2)) = Bo at *
                    cases Bo with
                    | true =>
                      go_wp2
                      go_quiet (fail)
                      go_wp2
                      go_roundw
                      case rel => exact ⟨q + 1, by omega, by go_num, by show _ = _; rw [HST3.out, Bool.true_and], _, rfl⟩
                      case measure => simp [intOf]; omega
                    | false =>
                      go_wp2
                      go_quiet (fail)
                      go_wp2
                      go_ret
                      exact ⟨by rw [HST2.out, HST3.out]; rfl, HEq.out _ ((K1.out.drewN _).drewN _)⟩
                  · obtain rfl : q = ps.length := by omega
                    have HSP : Hid (Sx.sameP ps ps2 = true) := by
                      show _ = _
                      rw [HE2.out, List.drop_length, HL2.out, List.drop_length]
                      rfl
                    obtain ⟨x0, x1⟩ := HN.out _ (K1.out.drewN j)
                    go_wp2
                    go_roundw
                    case rel => exact ⟨k + 1, by omega, by go_num, by show _ = _; rw [HST2.out, HSP.out]; rfl, HEq.out _ (K1.out.drewN _), x0, x1⟩
                    case measure => simp [intOf]; omega
            · have t2 : ((ps.length : Int) != (ps2.length : Int)) = true := by simp; omega
              subst q1
              go_wp2
              go_ret
              exact ⟨by rw [HST1.out, show Sx.sameP ps ps2 = false from Sx.all2_len q2]; simp, HEq.out _ (((Kp.refl [] _).alloc _).alloc _).drew⟩
          · have t1 := bs_ne q1
            go_wp2
            go_ret
            exact ⟨by rw [HST1.out]; simp [q1], HEq.out _ (((Kp.refl [] _).alloc _).alloc _).drew⟩
        · have HEq := hide (fun w' (h : Kp [] wo w') => HK.out.trans h)
          have HN := hide (fun w' (h : Kp [] wo w') => (⟨h.some p0 (by simp), h.some p1 (by simp)⟩ : w'.cell? ⟨w.heap.size, 0, none⟩ = some (.slice (some ⟨b, off, none⟩) l.length cap) ∧ w'.cell? ⟨w.heap.size + 1, 0, none⟩ = some (.slice (some ⟨b2, off2, none⟩) m.length cap2)))
          clear p0 p1 m0 m1 m2 m3 n0 n1 n2 n3
          by_cases q1 : nm = nm2
          · by_cases q2 : ps.length = ps2.length
            · have t2 : ((ps.length : Int) != (ps2.length : Int)) = false := by simp; omega
              have HL2 := hide q2
              subst q1
              clear q2
              go_wp2_with fail
              refine (IH.out _ P P2 body body2 _ _ (HCB.out.keep (((Kp.refl [] _).alloc _).alloc _).drew (by simp)) (HCB2.out.keep (((Kp.refl [] _).alloc _).alloc _).drew (by simp)) hwt).mono ?_
              rintro e w1 ⟨rfl, hk1⟩
              have K1 : Hid (Kp [] wo w1) := (((Kp.refl [] _).alloc _).alloc _).drew.trans hk1
              have e2 : w1.cell? ⟨wo.heap.size + 1, 2, none⟩ = some (.slice aP ps.length cP) := hk1.some (by simp [go_sem]) (by simp)
              have f2 : w1.cell? ⟨wo.heap.size, 2, none⟩ = some (.slice aP2 ps2.length cP2) := hk1.some (by simp [go_sem]) (by simp)
              have HST2 : Hid (Sx.sameG n l m = ((Sx.sameP ps ps2 && Sx.sameS n body body2) && Sx.all2 (fun a b => Sx.gN a == Sx.gN b && Sx.sameP (Sx.gP a) (Sx.gP b) && Sx.sameS n (Sx.gB a) (Sx.gB b)) (l.drop (k + 1)) (m.drop (k + 1)))) := by
                show _ = _
                rw [HST1.out]
                simp
              clear hk1 HST1
              generalize Sx.sameS n body body2 = Y at *
              cases Y with
              | false =>
                go_wp2
                go_ret
                exact ⟨by rw [HST2.out]; simp, HEq.out _ K1.out⟩
              | true =>
                have HQ1 := hide (HCP.out.keep K1.out (by simp) (fun _ _ h => h))
                have HQ2 := hide (HCP2.out.keep K1.out (by simp) (fun _ _ h => h))
                go_wp2
                go_loopw [10] (fun iv wr => ∃ q : Nat, q ≤ ps.length ∧ iv = .int .i64 q ∧ Hid (Sx.sameP ps ps2 = Sx.all2 (fun a b => Sx.pH a == Sx.pH b) (ps.drop q) (ps2.drop q)) ∧ ∃ j, wr = w1.drewN j) (fun iv _ => ps.length - (intOf iv).toNat)
                case atStart => exact ⟨0, Nat.zero_le _, rfl, rfl, 0, rfl⟩
                case round =>
                  obtain ⟨q, hq, rfl, HE2, j, rfl⟩ := hrel
                  by_cases hlq : q < ps.length
                  · obtain ⟨g, og, nm, T, rfl, -, hd, s0, s1⟩ := PL.nth HQ1.out q hlq
                    have hlq2 : q < ps2.length := by have := HL2.out; omega
                    obtain ⟨g2, og2, nm2, T2, rfl, -, hd2, t0, t1⟩ := PL.nth HQ2.out q hlq2
                    have hst := Sx.all2_drop (p := fun a b => Sx.pH a == Sx.pH b) hd hd2
                    have HST3 : Hid (Sx.sameP ps ps2 = (((nm, T) == (nm2, T2)) && Sx.all2 (fun a b => Sx.pH a == Sx.pH b) (ps.drop (q + 1)) (ps2.drop (q + 1)))) := HE2.out.trans hst
                    have hne := neqP nm T nm2 T2
                    have hk0 : (0 : Int) ≤ (q : Int) := by omega
                    have hk1 : (q : Int) < (ps.length : Int) := by omega
                    have hk2 : (q : Int) < (ps2.length : Int) := by omega
                    clear hst hd hd2
                    generalize ((nm, T) == (nm2, T2)) = Bo at *
                    cases Bo with
                    | true =>
                      go_wp2
                      go_quiet (fail)
                      go_wp2
                      go_roundw
                      case rel => exact ⟨q + 1, by omega, by go_num, by show _ = _; rw [HST3.out, Bool.true_and], _, rfl⟩
                      case measure => simp [intOf]; omega
                    | false =>
                      go_wp2
                      go_quiet (fail)
                      go_wp2
                      go_ret
                      exact ⟨by rw [HST2.out, HST3.out]; rfl, HEq.out _ ((K1.out.drewN _).drewN _)⟩
                  · obtain rfl : q = ps.length := by omega
                    have HSP : Hid (Sx.sameP ps ps2 = true) := by
                      show _ = _
                      rw [HE2.out, List.drop_length, HL2.out, List.drop_length]
                      rfl
                    obtain ⟨x0, x1⟩ := HN.out _ (K1.out.drewN j)
                    go_wp2
                    go_roundw
                    case rel => exact ⟨k + 1, by omega, by go_num, by show _ = _; rw [HST2.out, HSP.out]; rfl, HEq.out _ (K1.out.drewN _), x0, x1⟩
                    case measure => simp [intOf]; omega
            · have t2 : ((ps.length : Int) != (ps2.length : Int)) = true := by simp; omega
              subst q1
              go_wp2
              go_ret
              exact ⟨by rw [HST1.out, show Sx.sameP ps ps2 = false from Sx.all2_len q2]; simp, HEq.out _ (((Kp.refl [] _).alloc _).alloc _).drew⟩
          · have t1 := bs_ne q1
            go_wp2
            go_ret
            exact ⟨by rw [HST1.out]; simp [q1], HEq.out _ (((Kp.refl [] _).alloc _).alloc _).drew⟩
      · obtain rfl : k = l.length := by omega
        go_wp2
        go_ret
        refine ⟨?_, HK.out⟩
        rw [HE.out, List.drop_length, HLEN.out, List.drop_length]
        rfl
  · have r1 : ((l.length : Int) != (m.length : Int)) = true := by simp; omega
    go_enter Tryd.func13, Tryd.ntmps13
    go_wp2
    go_ret
    exact ⟨by rw [show Sx.sameG n l m = false from Sx.all2_len hlen]; rfl, ((Kp.refl _ _).alloc _).alloc _⟩
end Go.Proofs.YtdnlnpdaplonfabDoor

import Derived.Test.YtdbciaihnikibacGreatDoorRenSa
/- A program and its copy are the same, places too: the document's own reckoning, whole. -/
namespace Go.Proofs.YtdbciaihnikibacGreatDoor
open Go.RowKit

set_option maxRecDepth 100000 in
set_option maxHeartbeats 2000000 in
theorem rsameT_any (n : Nat) (w : World) (P P2 : Nat → Prop) (l : List Sx.Tr) (a a2 : Option Addr) (cap cap2 : Nat) (h : Sl (RG w P n) w P l (.slice a l.length cap)) (h2 : Sl (RG w P2 n) w P2 l (.slice a2 l.length cap2)) (hs : Sm n l) :
    Calls Tryz.prog 13 #[.agg #[.slice a l.length cap], .agg #[.slice a2 l.length cap2], .bool true] w fun e w' => e = .returned (.bool true) ∧ Kp [] w w' := by
  have HS := hide h
  have HS2 := hide h2
  have IH := hide (sameStmtsT_any n)
  have hl : l.length ≤ 1000000000 := by have := hs.len; omega
  have HWT := hide (wG_nth n l (by have := hs.w; omega))
  have HPS := hide hs.ps
  clear h h2 hs
  go_enter Tryz.func13, Tryz.ntmps13
  go_wp2
  go_loopw [7] (fun iv wr => ∃ k : Nat, k ≤ l.length ∧ iv = .int .i64 k ∧ Hid (Kp [] w wr) ∧ wr.cell? ⟨w.heap.size, 0, none⟩ = some (.slice a l.length cap) ∧ wr.cell? ⟨w.heap.size + 1, 0, none⟩ = some (.slice a2 l.length cap2)) (fun iv _ => l.length - (intOf iv).toNat)
  case atStart => exact ⟨0, Nat.zero_le _, rfl, ((Kp.refl _ _).alloc _).alloc _, by simp [go_sem], by simp [go_sem]⟩
  case round =>
    obtain ⟨wo, hwo⟩ : ∃ wo, wo = wr := ⟨_, rfl⟩
    subst hwo
    obtain ⟨k, hk, rfl, HK, p0, p1⟩ := hrel
    by_cases hlt : k < l.length
    · obtain ⟨b, off, nm, at', ps, body, uP, uB, rfl, -, hd, m0, m1, m2, m3, hP, hB⟩ := GL.nth (HS.out.keep HK.out (by simp) (fun d c h => h.keep HK.out (by simp))) k hlt
      obtain ⟨b2, off2, nm2, at2, ps2, body2, uP2, uB2, rfl, -, hd2, n0, n1, n2, n3, hP2, hB2⟩ := GL.nth (HS2.out.keep HK.out (by simp) (fun d c h => h.keep HK.out (by simp))) k hlt
      obtain ⟨rfl, rfl, rfl, rfl⟩ := Sx.tG_inj (Option.some.inj (hd.symm.trans hd2))
      obtain ⟨aP, cP, rfl, -⟩ := id hP
      obtain ⟨aB, cB, rfl⟩ := hB.slice
      obtain ⟨aP2, cP2, rfl, -⟩ := id hP2
      obtain ⟨aB2, cB2, rfl⟩ := hB2.slice
      have hwt : Sx.wS n body2 ≤ 1000000000 := HWT.out k _ hd
      have hps : ps2.length ≤ 1000000 := HPS.out k _ hd
      have HCP := hide hP
      have HCB := hide hB
      have HCP2 := hide hP2
      have HCB2 := hide hB2
      have hn1 := World.new_ne wo _ m0
      have hn2 := World.new_ne wo _ n0
      have hn3 := World.new_ne wo _ p0
      have hn4 := World.new_ne wo _ p1
      have hblt := World.block_lt_of_cell? _ _ m0
      have hblt2 := World.block_lt_of_cell? _ _ n0
      have hblt3 := World.block_lt_of_cell? _ _ p0
      have hblt4 := World.block_lt_of_cell? _ _ p1
      have hk0 : (0 : Int) ≤ (k : Int) := by omega
      have hk1 : (k : Int) < (l.length : Int) := by omega
      have HEq := hide (fun w' (h : Kp [] wo w') => HK.out.trans h)
      have HN := hide (fun w' (h : Kp [] wo w') => (⟨h.some p0 (by simp), h.some p1 (by simp)⟩ : w'.cell? ⟨w.heap.size, 0, none⟩ = some (.slice (some ⟨b, off, none⟩) l.length cap) ∧ w'.cell? ⟨w.heap.size + 1, 0, none⟩ = some (.slice (some ⟨b2, off2, none⟩) l.length cap2)))
      clear hP hB hP2 hB2 hd hd2
      go_wp2_with fail
      go_region_held_law (fun w' => w'.cell? ⟨w.heap.size, 0, none⟩ = some (.slice (some ⟨b, off, none⟩) l.length cap) ∧ w'.cell? ⟨w.heap.size + 1, 0, none⟩ = some (.slice (some ⟨b2, off2, none⟩) l.length cap2) ∧ w'.cell? ⟨b, off + k * 4, none⟩ = some (.string (bs nm2)) ∧ w'.cell? ⟨b, off + k * 4 + 1, none⟩ = some (.int .i64 at2) ∧ w'.cell? ⟨b, off + k * 4 + 2, none⟩ = some (.slice aP ps2.length cP) ∧ w'.cell? ⟨b, off + k * 4 + 3, none⟩ = some (.slice aB body2.length cB) ∧ w'.cell? ⟨b2, off2 + k * 4, none⟩ = some (.string (bs nm2)) ∧ w'.cell? ⟨b2, off2 + k * 4 + 1, none⟩ = some (.int .i64 at2) ∧ w'.cell? ⟨b2, off2 + k * 4 + 2, none⟩ = some (.slice aP2 ps2.length cP2) ∧ w'.cell? ⟨b2, off2 + k * 4 + 3, none⟩ = some (.slice aB2 body2.length cB2)) (go_keep) (fail)
      · go_wp2_with fail
        refine (IH.out _ P P2 body2 _ _ (HCB.out.keep (((Kp.refl [] _).alloc _).alloc _).drew (by simp)) (HCB2.out.keep (((Kp.refl [] _).alloc _).alloc _).drew (by simp)) hwt).mono ?_
        rintro e w1 ⟨rfl, hk1⟩
        have K1 : Hid (Kp [] wo w1) := (((Kp.refl [] _).alloc _).alloc _).drew.trans hk1
        have e2 : w1.cell? ⟨wo.heap.size, 2, none⟩ = some (.slice aP ps2.length cP) := hk1.some (by simp [go_sem]) (by simp)
        have f2 : w1.cell? ⟨wo.heap.size + 1, 2, none⟩ = some (.slice aP2 ps2.length cP2) := hk1.some (by simp [go_sem]) (by simp)
        clear hk1
        have HQ1 := hide (HCP.out.keep K1.out (by simp) (fun _ _ h => h))
        have HQ2 := hide (HCP2.out.keep K1.out (by simp) (fun _ _ h => h))
        go_wp2
        go_loopw [10] (fun iv wr => ∃ q : Nat, q ≤ ps2.length ∧ iv = .int .i64 q ∧ ∃ j, wr = w1.drewN j) (fun iv _ => ps2.length - (intOf iv).toNat)
        case atStart => exact ⟨0, Nat.zero_le _, rfl, 0, rfl⟩
        case round =>
          obtain ⟨q, hq, rfl, j, rfl⟩ := hrel
          by_cases hlq : q < ps2.length
          · obtain ⟨g, og, nm, T, rfl, -, hd, s0, s1⟩ := PL.nth HQ1.out q hlq
            obtain ⟨g2, og2, nm2, T2, rfl, -, hd2, t0, t1⟩ := PL.nth HQ2.out q hlq
            obtain ⟨rfl, rfl⟩ := Sx.tP_inj (Option.some.inj (hd.symm.trans hd2))
            have hne := neqP nm2 T2 nm2 T2
            have hk0 : (0 : Int) ≤ (q : Int) := by omega
            have hk1 : (q : Int) < (ps2.length : Int) := by omega
            rw [show ((nm2, T2) == (nm2, T2)) = true from by simp] at hne
            clear hd hd2
            go_wp2
            go_quiet (fail)
            go_wp2
            go_roundw
            case rel => exact ⟨q + 1, by omega, by go_num, _, rfl⟩
            case measure => simp [intOf]; omega
          · obtain rfl : q = ps2.length := by omega
            obtain ⟨x0, x1⟩ := HN.out _ (K1.out.drewN j)
            go_wp2
            go_roundw
            case rel => exact ⟨k + 1, by omega, by go_num, HEq.out _ (K1.out.drewN _), x0, x1⟩
            case measure => simp [intOf]; omega
      · go_wp2_with fail
        refine (IH.out _ P P2 body2 _ _ (HCB.out.keep (((Kp.refl [] _).alloc _).alloc _).drew (by simp)) (HCB2.out.keep (((Kp.refl [] _).alloc _).alloc _).drew (by simp)) hwt).mono ?_
        rintro e w1 ⟨rfl, hk1⟩
        have K1 : Hid (Kp [] wo w1) := (((Kp.refl [] _).alloc _).alloc _).drew.trans hk1
        have e2 : w1.cell? ⟨wo.heap.size + 1, 2, none⟩ = some (.slice aP ps2.length cP) := hk1.some (by simp [go_sem]) (by simp)
        have f2 : w1.cell? ⟨wo.heap.size, 2, none⟩ = some (.slice aP2 ps2.length cP2) := hk1.some (by simp [go_sem]) (by simp)
        clear hk1
        have HQ1 := hide (HCP.out.keep K1.out (by simp) (fun _ _ h => h))
        have HQ2 := hide (HCP2.out.keep K1.out (by simp) (fun _ _ h => h))
        go_wp2
        go_loopw [10] (fun iv wr => ∃ q : Nat, q ≤ ps2.length ∧ iv = .int .i64 q ∧ ∃ j, wr = w1.drewN j) (fun iv _ => ps2.length - (intOf iv).toNat)
        case atStart => exact ⟨0, Nat.zero_le _, rfl, 0, rfl⟩
        case round =>
          obtain ⟨q, hq, rfl, j, rfl⟩ := hrel
          by_cases hlq : q < ps2.length
          · obtain ⟨g, og, nm, T, rfl, -, hd, s0, s1⟩ := PL.nth HQ1.out q hlq
            obtain ⟨g2, og2, nm2, T2, rfl, -, hd2, t0, t1⟩ := PL.nth HQ2.out q hlq
            obtain ⟨rfl, rfl⟩ := Sx.tP_inj (Option.some.inj (hd.symm.trans hd2))
            have hne := neqP nm2 T2 nm2 T2
            have hk0 : (0 : Int) ≤ (q : Int) := by omega
            have hk1 : (q : Int) < (ps2.length : Int) := by omega
            rw [show ((nm2, T2) == (nm2, T2)) = true from by simp] at hne
            clear hd hd2
            go_wp2
            go_quiet (fail)
            go_wp2
            go_roundw
            case rel => exact ⟨q + 1, by omega, by go_num, _, rfl⟩
            case measure => simp [intOf]; omega
          · obtain rfl : q = ps2.length := by omega
            obtain ⟨x0, x1⟩ := HN.out _ (K1.out.drewN j)
            go_wp2
            go_roundw
            case rel => exact ⟨k + 1, by omega, by go_num, HEq.out _ (K1.out.drewN _), x0, x1⟩
            case measure => simp [intOf]; omega
    · obtain rfl : k = l.length := by omega
      have d1 : decide ((l.length : Int) < (l.length : Int)) = false := by simp
      go_wp2
      go_ret
      exact ⟨rfl, HK.out⟩
end Go.Proofs.YtdbciaihnikibacGreatDoor

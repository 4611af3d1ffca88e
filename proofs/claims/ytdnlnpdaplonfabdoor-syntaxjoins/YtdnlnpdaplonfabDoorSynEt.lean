import Derived.Test.YtdnlnpdaplonfabDoorSynEs
/- When two programs are the same: the document's own reckoning of statements. -/
namespace Go.Proofs.YtdnlnpdaplonfabDoor
open Go.RowKit

def QSR (n : Nat) : Prop := ∀ (w : World) (P P2 : Nat → Prop) (l m : List Sx.Tr) (u v : Value), SL w P n l u → SL w P2 n m v → Sx.wS n l ≤ 1000000000 →
  Calls Tryd.prog 32 #[u, v, .bool false] w fun e w' => e = .returned (.bool (Sx.sameS n l m)) ∧ Kp [] w w'

set_option maxRecDepth 100000 in
set_option maxHeartbeats 2000000 in
theorem sameStmts_step (n : Nat) (ih : QSR n) : QSR (n + 1) := by
  intro w P P2 l m u v h h2 hw
  obtain ⟨a, cap, rfl⟩ := h.slice
  obtain ⟨a2, cap2, rfl⟩ := h2.slice
  have HS := hide h
  have HS2 := hide h2
  have IH := hide ih
  have HEQ := hide (sameExprs_any n)
  have hl : l.length ≤ 1000000000 := by have : l.length + _ = Sx.wS (n + 1) l := rfl; omega
  have HWT := hide (wS_nth n l hw)
  clear h h2 ih hw
  by_cases hlen : l.length = m.length
  · have r1 : ((l.length : Int) != (m.length : Int)) = false := by simp; omega
    have HLEN := hide hlen
    clear hlen
    go_enter Tryd.func32, Tryd.ntmps32
    go_wp2
    go_loopw [7] (fun iv wr => ∃ k : Nat, k ≤ l.length ∧ iv = .int .i64 k ∧ Hid (Sx.sameS (n + 1) l m = Sx.all2 (fun a b => Sx.sH a == Sx.sH b && Sx.sameE n (Sx.sE a) (Sx.sE b) && Sx.sameS n (Sx.sB a) (Sx.sB b) && Sx.sameS n (Sx.sO a) (Sx.sO b)) (l.drop k) (m.drop k)) ∧ Hid (Kp [] w wr)) (fun iv _ => l.length - (intOf iv).toNat)
    case atStart => exact ⟨0, Nat.zero_le _, rfl, rfl, Kp.refl _ _⟩
    case round =>
      obtain ⟨k, hk, rfl, HE, HK⟩ := hrel
      by_cases hlt : k < l.length
      · obtain ⟨b, off, D, at', A, B, T, N, E, body, els, uE, uB, uL, rfl, -, hd, m0, m1, m2, m3, m4, m5, m6, m7, m8, hE, hB, hL⟩ := (HS.out.keep HK.out (by simp)).nth k hlt
        have hlt2 : k < m.length := by have := HLEN.out; omega
        obtain ⟨b2, off2, D2, at2, A2, B2, T2, N2, E2, body2, els2, uE2, uB2, uL2, rfl, -, hd2, n0, n1, n2, n3, n4, n5, n6, n7, n8, hE2, hB2, hL2⟩ := (HS2.out.keep HK.out (by simp)).nth k hlt2
        obtain ⟨aE, cE, rfl⟩ := hE.slice
        obtain ⟨aB, cB, rfl⟩ := hB.slice
        obtain ⟨aL, cL, rfl⟩ := hL.slice
        obtain ⟨aE2, cE2, rfl⟩ := hE2.slice
        obtain ⟨aB2, cB2, rfl⟩ := hB2.slice
        obtain ⟨aL2, cL2, rfl⟩ := hL2.slice
        have hwt : Sx.wE n E + Sx.wS n body + Sx.wS n els ≤ 1000000000 := HWT.out k _ hd
        have hst := Sx.all2_drop (p := fun a b => Sx.sH a == Sx.sH b && Sx.sameE n (Sx.sE a) (Sx.sE b) && Sx.sameS n (Sx.sB a) (Sx.sB b) && Sx.sameS n (Sx.sO a) (Sx.sO b)) hd hd2
        have HST1 : Hid (Sx.sameS (n + 1) l m = (((D, A, B, T, N) == (D2, A2, B2, T2, N2) && Sx.sameE n E E2 && Sx.sameS n body body2 && Sx.sameS n els els2) && Sx.all2 (fun a b => Sx.sH a == Sx.sH b && Sx.sameE n (Sx.sE a) (Sx.sE b) && Sx.sameS n (Sx.sB a) (Sx.sB b) && Sx.sameS n (Sx.sO a) (Sx.sO b)) (l.drop (k + 1)) (m.drop (k + 1)))) := HE.out.trans hst
        have HCE := hide hE
        have HCB := hide hB
        have HCL := hide hL
        have HCE2 := hide hE2
        have HCB2 := hide hB2
        have HCL2 := hide hL2
        have hblt := World.block_lt_of_cell? _ _ m0
        have hblt2 := World.block_lt_of_cell? _ _ n0
        have hk0 : (0 : Int) ≤ (k : Int) := by omega
        have hk1 : (k : Int) < (l.length : Int) := by omega
        have hk2 : (k : Int) < (m.length : Int) := by omega
        clear hst hE hB hL hE2 hB2 hL2 hd hd2
        have hn1 := World.new_ne wr _ m0
        have hn2 := World.new_ne wr _ n0
        go_wp2_with fail
        go_region_held_law (fun w' => w'.cell? ⟨b, off + k * 9, none⟩ = some (.int .i64 D) ∧ w'.cell? ⟨b, off + k * 9 + 1, none⟩ = some (.int .i64 at') ∧ w'.cell? ⟨b, off + k * 9 + 2, none⟩ = some (.string (bs A)) ∧ w'.cell? ⟨b, off + k * 9 + 3, none⟩ = some (.string (bs B)) ∧ w'.cell? ⟨b, off + k * 9 + 4, none⟩ = some (.string (bs T)) ∧ w'.cell? ⟨b, off + k * 9 + 5, none⟩ = some (.int .i64 N) ∧ w'.cell? ⟨b, off + k * 9 + 6, none⟩ = some (.slice aE E.length cE) ∧ w'.cell? ⟨b, off + k * 9 + 7, none⟩ = some (.slice aB body.length cB) ∧ w'.cell? ⟨b, off + k * 9 + 8, none⟩ = some (.slice aL els.length cL) ∧ w'.cell? ⟨b2, off2 + k * 9, none⟩ = some (.int .i64 D2) ∧ w'.cell? ⟨b2, off2 + k * 9 + 1, none⟩ = some (.int .i64 at2) ∧ w'.cell? ⟨b2, off2 + k * 9 + 2, none⟩ = some (.string (bs A2)) ∧ w'.cell? ⟨b2, off2 + k * 9 + 3, none⟩ = some (.string (bs B2)) ∧ w'.cell? ⟨b2, off2 + k * 9 + 4, none⟩ = some (.string (bs T2)) ∧ w'.cell? ⟨b2, off2 + k * 9 + 5, none⟩ = some (.int .i64 N2) ∧ w'.cell? ⟨b2, off2 + k * 9 + 6, none⟩ = some (.slice aE2 E2.length cE2) ∧ w'.cell? ⟨b2, off2 + k * 9 + 7, none⟩ = some (.slice aB2 body2.length cB2) ∧ w'.cell? ⟨b2, off2 + k * 9 + 8, none⟩ = some (.slice aL2 els2.length cL2)) (go_keep) (fail)
        · have hEq : ∀ w', Kp [] wr w' → Kp [] w w' := fun w' h => HK.out.trans h
          have HEq := hide hEq
          clear hEq
          by_cases q1 : D = D2
          · by_cases q2 : A = A2
            · by_cases q3 : B = B2
              · by_cases q4 : T = T2
                · by_cases q5 : N = N2
                  · subst q1 q2 q3 q4 q5
                    generalize hx : Sx.sameE n E E2 = X at *
                    generalize hy : Sx.sameS n body body2 = Y at *
                    have HX := hide hx
                    have HY := hide hy
                    clear hx hy
                    go_wp2_with fail
                    refine (HEQ.out _ P P2 E E2 _ _ (HCE.out.keep (((Kp.refl [] _).alloc _).alloc _).drew (by simp)) (HCE2.out.keep (((Kp.refl [] _).alloc _).alloc _).drew (by simp)) (by omega)).mono ?_
                    rintro e w1 ⟨rfl, jj, rfl⟩
                    rw [HX.out]
                    cases X with
                    | false =>
                      go_wp2
                      go_ret
                      exact ⟨by rw [HST1.out]; simp, HEq.out _ ((((Kp.refl [] _).alloc _).alloc _).drewN _)⟩
                    | true =>
                      go_wp2_with fail
                      refine (IH.out _ P P2 body body2 _ _ (HCB.out.keep ((((Kp.refl [] _).alloc _).alloc _).drewN _) (by simp)) (HCB2.out.keep ((((Kp.refl [] _).alloc _).alloc _).drewN _) (by simp)) (by omega)).mono ?_
                      rintro e w2 ⟨rfl, hk⟩
                      rw [HY.out]
                      have K2 : Hid (Kp [] wr w2) := ((((Kp.refl [] _).alloc _).alloc _).drewN _).trans hk
                      have e8 : w2.cell? ⟨wr.heap.size, 8, none⟩ = some (.slice aL els.length cL) := hk.some (by simp [go_sem]) (by simp)
                      have f8 : w2.cell? ⟨wr.heap.size + 1, 8, none⟩ = some (.slice aL2 els2.length cL2) := hk.some (by simp [go_sem]) (by simp)
                      clear hk
                      cases Y with
                      | false =>
                        go_wp2
                        go_ret
                        exact ⟨by rw [HST1.out]; simp, HEq.out _ K2.out⟩
                      | true =>
                        go_wp2_with fail
                        refine (IH.out _ P P2 els els2 _ _ (HCL.out.keep K2.out (by simp)) (HCL2.out.keep K2.out (by simp)) (by omega)).mono ?_
                        rintro e w3 ⟨rfl, hk⟩
                        have K3 := hide (K2.out.trans hk)
                        have HST2 : Hid (Sx.sameS (n + 1) l m = (Sx.sameS n els els2 && Sx.all2 (fun a b => Sx.sH a == Sx.sH b && Sx.sameE n (Sx.sE a) (Sx.sE b) && Sx.sameS n (Sx.sB a) (Sx.sB b) && Sx.sameS n (Sx.sO a) (Sx.sO b)) (l.drop (k + 1)) (m.drop (k + 1)))) := by
                          show _ = _
                          rw [HST1.out]
                          simp
                        clear hk HST1
                        generalize Sx.sameS n els els2 = Z at *
                        cases Z with
                        | true =>
                          go_wp2
                          go_roundw
                          case rel => exact ⟨k + 1, by omega, by go_num, by show _ = _; rw [HST2.out, Bool.true_and], HEq.out _ K3.out⟩
                          case measure => simp [intOf]; omega
                        | false =>
                          go_wp2
                          go_ret
                          exact ⟨by rw [HST2.out]; rfl, HEq.out _ K3.out⟩
                  · have r5 : (N != N2) = true := by simpa using q5
                    subst q1 q2 q3 q4
                    go_wp2
                    go_ret
                    exact ⟨by rw [HST1.out]; simp [q5], HEq.out _ (((Kp.refl [] _).alloc _).alloc _).drew⟩
                · have r4 := bs_ne q4
                  subst q1 q2 q3
                  go_wp2
                  go_ret
                  exact ⟨by rw [HST1.out]; simp [q4], HEq.out _ (((Kp.refl [] _).alloc _).alloc _).drew⟩
              · have r3 := bs_ne q3
                subst q1 q2
                go_wp2
                go_ret
                exact ⟨by rw [HST1.out]; simp [q3], HEq.out _ (((Kp.refl [] _).alloc _).alloc _).drew⟩
            · have r2 := bs_ne q2
              subst q1
              go_wp2
              go_ret
              exact ⟨by rw [HST1.out]; simp [q2], HEq.out _ (((Kp.refl [] _).alloc _).alloc _).drew⟩
          · have r1 : (D != D2) = true := by simpa using q1
            go_wp2
            go_ret
            exact ⟨by rw [HST1.out]; simp [q1], HEq.out _ (((Kp.refl [] _).alloc _).alloc _).drew⟩
        · have hEq : ∀ w', Kp [] wr w' → Kp [] w w' := fun w' h => HK.out.trans h
          have HEq := hide hEq
          clear hEq
          by_cases q1 : D = D2
          · by_cases q2 : A = A2
            · by_cases q3 : B = B2
              · by_cases q4 : T = T2
                · by_cases q5 : N = N2
                  · subst q1 q2 q3 q4 q5
                    generalize hx : Sx.sameE n E E2 = X at *
                    generalize hy : Sx.sameS n body body2 = Y at *
                    have HX := hide hx
                    have HY := hide hy
                    clear hx hy
                    go_wp2_with fail
                    refine (HEQ.out _ P P2 E E2 _ _ (HCE.out.keep (((Kp.refl [] _).alloc _).alloc _).drew (by simp)) (HCE2.out.keep (((Kp.refl [] _).alloc _).alloc _).drew (by simp)) (by omega)).mono ?_
                    rintro e w1 ⟨rfl, jj, rfl⟩
                    rw [HX.out]
                    cases X with
                    | false =>
                      go_wp2
                      go_ret
                      exact ⟨by rw [HST1.out]; simp, HEq.out _ ((((Kp.refl [] _).alloc _).alloc _).drewN _)⟩
                    | true =>
                      go_wp2_with fail
                      refine (IH.out _ P P2 body body2 _ _ (HCB.out.keep ((((Kp.refl [] _).alloc _).alloc _).drewN _) (by simp)) (HCB2.out.keep ((((Kp.refl [] _).alloc _).alloc _).drewN _) (by simp)) (by omega)).mono ?_
                      rintro e w2 ⟨rfl, hk⟩
                      rw [HY.out]
                      have K2 : Hid (Kp [] wr w2) := ((((Kp.refl [] _).alloc _).alloc _).drewN _).trans hk
                      have e8 : w2.cell? ⟨wr.heap.size + 1, 8, none⟩ = some (.slice aL els.length cL) := hk.some (by simp [go_sem]) (by simp)
                      have f8 : w2.cell? ⟨wr.heap.size, 8, none⟩ = some (.slice aL2 els2.length cL2) := hk.some (by simp [go_sem]) (by simp)
                      clear hk
                      cases Y with
                      | false =>
                        go_wp2
                        go_ret
                        exact ⟨by rw [HST1.out]; simp, HEq.out _ K2.out⟩
                      | true =>
                        go_wp2_with fail
                        refine (IH.out _ P P2 els els2 _ _ (HCL.out.keep K2.out (by simp)) (HCL2.out.keep K2.out (by simp)) (by omega)).mono ?_
                        rintro e w3 ⟨rfl, hk⟩
                        have K3 := hide (K2.out.trans hk)
                        have HST2 : Hid (Sx.sameS (n + 1) l m = (Sx.sameS n els els2 && Sx.all2 (fun a b => Sx.sH a == Sx.sH b && Sx.sameE n (Sx.sE a) (Sx.sE b) && Sx.sameS n (Sx.sB a) (Sx.sB b) && Sx.sameS n (Sx.sO a) (Sx.sO b)) (l.drop (k + 1)) (m.drop (k + 1)))) := by
                          show _ = _
                          rw [HST1.out]
                          simp
                        clear hk HST1
                        generalize Sx.sameS n els els2 = Z at *
                        cases Z with
                        | true =>
                          go_wp2
                          go_roundw
                          case rel => exact ⟨k + 1, by omega, by go_num, by show _ = _; rw [HST2.out, Bool.true_and], HEq.out _ K3.out⟩
                          case measure => simp [intOf]; omega
                        | false =>
                          go_wp2
                          go_ret
                          exact ⟨by rw [HST2.out]; rfl, HEq.out _ K3.out⟩
                  · have r5 : (N != N2) = true := by simpa using q5
                    subst q1 q2 q3 q4
                    go_wp2
                    go_ret
                    exact ⟨by rw [HST1.out]; simp [q5], HEq.out _ (((Kp.refl [] _).alloc _).alloc _).drew⟩
                · have r4 := bs_ne q4
                  subst q1 q2 q3
                  go_wp2
                  go_ret
                  exact ⟨by rw [HST1.out]; simp [q4], HEq.out _ (((Kp.refl [] _).alloc _).alloc _).drew⟩
              · have r3 := bs_ne q3
                subst q1 q2
                go_wp2
                go_ret
                exact ⟨by rw [HST1.out]; simp [q3], HEq.out _ (((Kp.refl [] _).alloc _).alloc _).drew⟩
            · have r2 := bs_ne q2
              subst q1
              go_wp2
              go_ret
              exact ⟨by rw [HST1.out]; simp [q2], HEq.out _ (((Kp.refl [] _).alloc _).alloc _).drew⟩
          · have r1 : (D != D2) = true := by simpa using q1
            go_wp2
            go_ret
            exact ⟨by rw [HST1.out]; simp [q1], HEq.out _ (((Kp.refl [] _).alloc _).alloc _).drew⟩
      · obtain rfl : k = l.length := by omega
        go_wp2
        go_ret
        refine ⟨?_, HK.out⟩
        rw [HE.out, List.drop_length, HLEN.out, List.drop_length]
        rfl
  · have r1 : ((l.length : Int) != (m.length : Int)) = true := by simp; omega
    go_enter Tryd.func32, Tryd.ntmps32
    go_wp2
    go_ret
    exact ⟨by rw [show Sx.sameS (n + 1) l m = false from Sx.all2_len hlen]; rfl, Kp.refl _ _⟩
theorem sameStmts_any (n : Nat) : QSR n := by
  induction n with
  | zero => intro w P P2 l m u v h; cases h
  | succ n ih => exact sameStmts_step n ih
end Go.Proofs.YtdnlnpdaplonfabDoor

import Derived.Test.YtdbciaihnikibacGreatDoorRxD
/- A program and its copy are the same, places too: the document's own reckoning. -/
namespace Go.Proofs.YtdbciaihnikibacGreatDoor
open Go.RowKit

theorem Sx.tS_inj {D D2 at' at2 N N2 : Int} {A A2 B B2 T T2 : List UInt8} {E E2 b b2 o o2 : List Sx.Tr} (h : Sx.tS D at' A B T N E b o = Sx.tS D2 at2 A2 B2 T2 N2 E2 b2 o2) : D2 = D ∧ at2 = at' ∧ A2 = A ∧ B2 = B ∧ T2 = T ∧ N2 = N ∧ E2 = E ∧ b2 = b ∧ o2 = o := by
  unfold Sx.tS at h
  cases h
  exact ⟨rfl, rfl, rfl, rfl, rfl, rfl, rfl, rfl, rfl⟩
theorem Sx.tG_inj {nm nm2 : List UInt8} {at' at2 : Int} {ps ps2 b b2 : List Sx.Tr} (h : Sx.tG nm at' ps b = Sx.tG nm2 at2 ps2 b2) : nm2 = nm ∧ at2 = at' ∧ ps2 = ps ∧ b2 = b := by
  unfold Sx.tG at h
  cases h
  exact ⟨rfl, rfl, rfl, rfl⟩
theorem Sx.tP_inj {nm nm2 T T2 : List UInt8} (h : Sx.tP nm T = Sx.tP nm2 T2) : nm2 = nm ∧ T2 = T := by
  unfold Sx.tP at h
  cases h
  exact ⟨rfl, rfl⟩
/-- Contract: statements and their copy. -/
def QST (n : Nat) : Prop := ∀ (w : World) (P P2 : Nat → Prop) (l : List Sx.Tr) (u v : Value), SL w P n l u → SL w P2 n l v → Sx.wS n l ≤ 1000000000 →
  Calls Tryz.prog 33 #[u, v, .bool true] w fun e w' => e = .returned (.bool true) ∧ Kp [] w w'

set_option maxRecDepth 100000 in
set_option maxHeartbeats 2000000 in
theorem sameStmtsT_step (n : Nat) (ih : QST n) : QST (n + 1) := by
  intro w P P2 l u v h h2 hw
  obtain ⟨a, cap, rfl⟩ := h.slice
  obtain ⟨a2, cap2, rfl⟩ := h2.slice
  have HS := hide h
  have HS2 := hide h2
  have IH := hide ih
  have HEQ := hide (sameExprs_any n)
  have hl : l.length ≤ 1000000000 := by have : l.length + _ = Sx.wS (n + 1) l := rfl; omega
  have HWT := hide (wS_nth n l hw)
  clear h h2 ih hw
  go_enter Tryz.func33, Tryz.ntmps33
  go_wp2
  go_loopw [7] (fun iv wr => ∃ k : Nat, k ≤ l.length ∧ iv = .int .i64 k ∧ Hid (Kp [] w wr)) (fun iv _ => l.length - (intOf iv).toNat)
  case atStart => exact ⟨0, Nat.zero_le _, rfl, Kp.refl _ _⟩
  case round =>
    obtain ⟨k, hk, rfl, HK⟩ := hrel
    by_cases hlt : k < l.length
    · obtain ⟨b, off, D, at', A, B, T, N, E, body, els, uE, uB, uL, rfl, -, hd, m0, m1, m2, m3, m4, m5, m6, m7, m8, hE, hB, hL⟩ := (HS.out.keep HK.out (by simp)).nth k hlt
      obtain ⟨b2, off2, D2, at2, A2, B2, T2, N2, E2, body2, els2, uE2, uB2, uL2, rfl, -, hd2, n0, n1, n2, n3, n4, n5, n6, n7, n8, hE2, hB2, hL2⟩ := (HS2.out.keep HK.out (by simp)).nth k hlt
      obtain ⟨rfl, rfl, rfl, rfl, rfl, rfl, rfl, rfl, rfl⟩ := Sx.tS_inj (Option.some.inj (hd.symm.trans hd2))
      obtain ⟨aE, cE, rfl⟩ := hE.slice
      obtain ⟨aB, cB, rfl⟩ := hB.slice
      obtain ⟨aL, cL, rfl⟩ := hL.slice
      obtain ⟨aE2, cE2, rfl⟩ := hE2.slice
      obtain ⟨aB2, cB2, rfl⟩ := hB2.slice
      obtain ⟨aL2, cL2, rfl⟩ := hL2.slice
      have hwt := HWT.out k _ hd
      change Sx.wE n E2 + Sx.wS n body2 + Sx.wS n els2 ≤ 1000000000 at hwt
      have HCE := hide hE
      have HCB := hide hB
      have HCL := hide hL
      have HCE2 := hide hE2
      have HCB2 := hide hB2
      have HCL2 := hide hL2
      have hblt := World.block_lt_of_cell? _ _ m0
      have hblt2 := World.block_lt_of_cell? _ _ n0
      have hk0 : (0 : Int) ≤ (k : Int) := by omega
      have hk1 : (k : Int) < (l.length : Int) := by omega
      clear hE hB hL hE2 hB2 hL2 hd hd2
      have hn1 := World.new_ne wr _ m0
      have hn2 := World.new_ne wr _ n0
      go_wp2_with fail
      go_region_held_law (fun w' => w'.cell? ⟨b, off + k * 9, none⟩ = some (.int .i64 D2) ∧ w'.cell? ⟨b, off + k * 9 + 1, none⟩ = some (.int .i64 at2) ∧ w'.cell? ⟨b, off + k * 9 + 2, none⟩ = some (.string (bs A2)) ∧ w'.cell? ⟨b, off + k * 9 + 3, none⟩ = some (.string (bs B2)) ∧ w'.cell? ⟨b, off + k * 9 + 4, none⟩ = some (.string (bs T2)) ∧ w'.cell? ⟨b, off + k * 9 + 5, none⟩ = some (.int .i64 N2) ∧ w'.cell? ⟨b, off + k * 9 + 6, none⟩ = some (.slice aE E2.length cE) ∧ w'.cell? ⟨b, off + k * 9 + 7, none⟩ = some (.slice aB body2.length cB) ∧ w'.cell? ⟨b, off + k * 9 + 8, none⟩ = some (.slice aL els2.length cL) ∧ w'.cell? ⟨b2, off2 + k * 9, none⟩ = some (.int .i64 D2) ∧ w'.cell? ⟨b2, off2 + k * 9 + 1, none⟩ = some (.int .i64 at2) ∧ w'.cell? ⟨b2, off2 + k * 9 + 2, none⟩ = some (.string (bs A2)) ∧ w'.cell? ⟨b2, off2 + k * 9 + 3, none⟩ = some (.string (bs B2)) ∧ w'.cell? ⟨b2, off2 + k * 9 + 4, none⟩ = some (.string (bs T2)) ∧ w'.cell? ⟨b2, off2 + k * 9 + 5, none⟩ = some (.int .i64 N2) ∧ w'.cell? ⟨b2, off2 + k * 9 + 6, none⟩ = some (.slice aE2 E2.length cE2) ∧ w'.cell? ⟨b2, off2 + k * 9 + 7, none⟩ = some (.slice aB2 body2.length cB2) ∧ w'.cell? ⟨b2, off2 + k * 9 + 8, none⟩ = some (.slice aL2 els2.length cL2)) (go_keep) (fail)
      · go_wp2_with fail
        refine (HEQ.out _ P P2 E2 E2 _ _ (HCE.out.keep (((Kp.refl [] _).alloc _).alloc _).drew (by simp)) (HCE2.out.keep (((Kp.refl [] _).alloc _).alloc _).drew (by simp)) (by omega)).mono ?_
        rintro e w1 ⟨rfl, jj, rfl⟩
        rw [Sx.sameE_refl]
        go_wp2_with fail
        refine (IH.out _ P P2 body2 _ _ (HCB.out.keep ((((Kp.refl [] _).alloc _).alloc _).drewN _) (by simp)) (HCB2.out.keep ((((Kp.refl [] _).alloc _).alloc _).drewN _) (by simp)) (by omega)).mono ?_
        rintro e w2 ⟨rfl, hk⟩
        have K2 : Hid (Kp [] wr w2) := ((((Kp.refl [] _).alloc _).alloc _).drewN _).trans hk
        have e8 : w2.cell? ⟨wr.heap.size, 8, none⟩ = some (.slice aL els2.length cL) := hk.some (by simp [go_sem]) (by simp)
        have f8 : w2.cell? ⟨wr.heap.size + 1, 8, none⟩ = some (.slice aL2 els2.length cL2) := hk.some (by simp [go_sem]) (by simp)
        clear hk
        go_wp2_with fail
        refine (IH.out _ P P2 els2 _ _ (HCL.out.keep K2.out (by simp)) (HCL2.out.keep K2.out (by simp)) (by omega)).mono ?_
        rintro e w3 ⟨rfl, hk⟩
        have K3 := hide (HK.out.trans (K2.out.trans hk))
        clear hk
        go_wp2
        go_roundw
        case rel => exact ⟨k + 1, by omega, by go_num, K3.out⟩
        case measure => simp [intOf]; omega
      · go_wp2_with fail
        refine (HEQ.out _ P P2 E2 E2 _ _ (HCE.out.keep (((Kp.refl [] _).alloc _).alloc _).drew (by simp)) (HCE2.out.keep (((Kp.refl [] _).alloc _).alloc _).drew (by simp)) (by omega)).mono ?_
        rintro e w1 ⟨rfl, jj, rfl⟩
        rw [Sx.sameE_refl]
        go_wp2_with fail
        refine (IH.out _ P P2 body2 _ _ (HCB.out.keep ((((Kp.refl [] _).alloc _).alloc _).drewN _) (by simp)) (HCB2.out.keep ((((Kp.refl [] _).alloc _).alloc _).drewN _) (by simp)) (by omega)).mono ?_
        rintro e w2 ⟨rfl, hk⟩
        have K2 : Hid (Kp [] wr w2) := ((((Kp.refl [] _).alloc _).alloc _).drewN _).trans hk
        have e8 : w2.cell? ⟨wr.heap.size + 1, 8, none⟩ = some (.slice aL els2.length cL) := hk.some (by simp [go_sem]) (by simp)
        have f8 : w2.cell? ⟨wr.heap.size, 8, none⟩ = some (.slice aL2 els2.length cL2) := hk.some (by simp [go_sem]) (by simp)
        clear hk
        go_wp2_with fail
        refine (IH.out _ P P2 els2 _ _ (HCL.out.keep K2.out (by simp)) (HCL2.out.keep K2.out (by simp)) (by omega)).mono ?_
        rintro e w3 ⟨rfl, hk⟩
        have K3 := hide (HK.out.trans (K2.out.trans hk))
        clear hk
        go_wp2
        go_roundw
        case rel => exact ⟨k + 1, by omega, by go_num, K3.out⟩
        case measure => simp [intOf]; omega
    · obtain rfl : k = l.length := by omega
      have d1 : decide ((l.length : Int) < (l.length : Int)) = false := by simp
      go_wp2
      go_ret
      exact ⟨rfl, HK.out⟩
theorem sameStmtsT_any (n : Nat) : QST n := by
  induction n with
  | zero => intro w P P2 l u v h; cases h
  | succ n ih => exact sameStmtsT_step n ih
end Go.Proofs.YtdbciaihnikibacGreatDoor

import Derived.Test.YtdbciaihnikibacGreatDoorRxA
/- When two programs are the same: the document's own reckoning of expressions. -/
namespace Go.Proofs.YtdbciaihnikibacGreatDoor
open Go.RowKit

theorem quiet_j {P : Program} {f : FuncId} {args : Array Value} {w : World} {j n : Nat} {v : Value}
    (h : Calls P f args (w.drewN (j + n)) fun e w' => e = .returned v ∧ ∃ m, w' = (w.drewN (j + n)).drewN m) : Calls P f args (w.drewN (j + n)) fun e w'' => e = .returned v ∧ ∃ m, w'' = w.drewN (j + m) :=
  h.mono fun _ _ ⟨he, m, hm⟩ => ⟨he, n + m, by rw [hm, World.drewN_drewN, Nat.add_assoc]⟩
theorem eqExpr_any (n : Nat) : QE n := by
  induction n with
  | zero => intro w P P2 l m u v h; cases h
  | succ n ih => exact eqExpr_step n ih
end Go.Proofs.YtdbciaihnikibacGreatDoor


/- When two programs are the same: statements. -/
namespace Go.Proofs.YtdbciaihnikibacGreatDoor
open Go.RowKit

def QS (n : Nat) : Prop := ∀ (w : World) (P P2 : Nat → Prop) (l m : List Sx.Tr) (u v : Value), SL w P n l u → SL w P2 n m v → Sx.wS n l ≤ 1000000000 →
  Calls Tryz.prog 106 #[u, v, .func (.func 107) #[] #[]] w fun e w' => e = .returned (.bool (Sx.sameS n l m)) ∧ Kp [] w w'

theorem wS_nth (n : Nat) (l : List Sx.Tr) (hw : Sx.wS (n + 1) l ≤ 1000000000) : ∀ (i : Nat) d, l[i]? = some d → Sx.wE n (Sx.sE d) + Sx.wS n (Sx.sB d) + Sx.wS n (Sx.sO d) ≤ 1000000000 := fun i d hd => by
  have h1 : Sx.sum (fun d => Sx.wE n (Sx.sE d) + Sx.wS n (Sx.sB d) + Sx.wS n (Sx.sO d)) (l.take (i + 1)) = Sx.sum (fun d => Sx.wE n (Sx.sE d) + Sx.wS n (Sx.sB d) + Sx.wS n (Sx.sO d)) (l.take i) + (Sx.wE n (Sx.sE d) + Sx.wS n (Sx.sB d) + Sx.wS n (Sx.sO d)) := Sx.sum_take _ l i d hd
  have h2 := Sx.sum_take_le (fun d => Sx.wE n (Sx.sE d) + Sx.wS n (Sx.sB d) + Sx.wS n (Sx.sO d)) l (i + 1)
  have : l.length + Sx.sum (fun d => Sx.wE n (Sx.sE d) + Sx.wS n (Sx.sB d) + Sx.wS n (Sx.sO d)) l = Sx.wS (n + 1) l := rfl
  omega

set_option maxRecDepth 100000 in
set_option maxHeartbeats 400000 in
theorem sameBlock_of (n : Nat) (h : QS n) (w : World) (P P2 : Nat → Prop) (l m : List Sx.Tr) (u v : Value) (h1 : SL w P n l u) (h2 : SL w P2 n m v) (hw : Sx.wS n l ≤ 1000000000) :
    Calls Tryz.prog 69 #[u, v] w fun e w' => e = .returned (.bool (Sx.sameS n l m)) ∧ Kp [] w w' := by
  have H := hide (h w P P2 l m u v h1 h2 hw)
  clear h h1 h2
  go_enter Tryz.func69, Tryz.ntmps69
  go_wp2_with fail
  refine H.out.mono ?_
  rintro e w1 ⟨rfl, hk⟩
  go_wp2
  go_ret
  exact ⟨rfl, hk⟩

set_option maxRecDepth 100000 in
set_option maxHeartbeats 2000000 in
theorem sameStmt_any (n : Nat) (ih : QS n) (w : World) (P P2 : Nat → Prop) (D D2 at' at2 N N2 : Int) (A A2 B B2 T T2 : List UInt8) (E E2 body body2 els els2 : List Sx.Tr) (aE aE2 aB aB2 aL aL2 : Option Addr) (cE cE2 cB cB2 cL cL2 : Nat)
    (hE : EL w P n E (.slice aE E.length cE)) (hE2 : EL w P2 n E2 (.slice aE2 E2.length cE2)) (hB : SL w P n body (.slice aB body.length cB)) (hB2 : SL w P2 n body2 (.slice aB2 body2.length cB2))
    (hL : SL w P n els (.slice aL els.length cL)) (hL2 : SL w P2 n els2 (.slice aL2 els2.length cL2)) (hw : Sx.wE n E + Sx.wS n body + Sx.wS n els ≤ 1000000000) :
    Calls Tryz.prog 107 #[.agg #[.int .i64 D, .int .i64 at', .string (bs A), .string (bs B), .string (bs T), .int .i64 N, .slice aE E.length cE, .slice aB body.length cB, .slice aL els.length cL],
      .agg #[.int .i64 D2, .int .i64 at2, .string (bs A2), .string (bs B2), .string (bs T2), .int .i64 N2, .slice aE2 E2.length cE2, .slice aB2 body2.length cB2, .slice aL2 els2.length cL2]] w fun e w' =>
      e = .returned (.bool (((D, A, B, T, N) == (D2, A2, B2, T2, N2)) && Sx.sameE n E E2 && Sx.sameS n body body2 && Sx.sameS n els els2)) ∧ Kp [] w w' := by
  have HSB := hide (sameBlock_of n ih)
  have HEQ := hide (eqExpr_any n)
  have HE := hide hE
  have HE2 := hide hE2
  have HB := hide hB
  have HB2 := hide hB2
  have HL := hide hL
  have HL2 := hide hL2
  clear ih hE hE2 hB hB2 hL hL2
  by_cases q1 : D = D2
  · by_cases q2 : A = A2
    · by_cases q3 : B = B2
      · by_cases q4 : T = T2
        · by_cases q5 : N = N2
          · subst q1 q2 q3 q4 q5
            generalize hx : Sx.sameE n E E2 = X at *
            generalize hy : Sx.sameS n body body2 = Y at *
            have HX := hide hx
            have HY := hide hy
            clear hx hy
            cases X with
            | false =>
              go_enter Tryz.func107, Tryz.ntmps107
              go_wp2_with (go_at_call 147; refine (HEQ.out _ P P2 E E2 _ _ ?_ ?_ ?_).mono ?_; exact HE.out.keep (((Kp.refl [] _).alloc _).alloc _) (by simp); exact HE2.out.keep (((Kp.refl [] _).alloc _).alloc _) (by simp); omega; rintro e w1 ⟨rfl, hk⟩; rw [HX.out])
              go_ret
              exact ⟨by simp, (((Kp.refl [] _).alloc _).alloc _).trans hk⟩
            | true =>
              have HN : Hid (Kp [] w ((w.alloc (.cells #[.int .i64 D, .int .i64 at', .string (bs A), .string (bs B), .string (bs T), .int .i64 N, .slice aE E.length cE, .slice aB body.length cB, .slice aL els.length cL] 97)).alloc (.cells #[.int .i64 D, .int .i64 at2, .string (bs A), .string (bs B), .string (bs T), .int .i64 N, .slice aE2 E2.length cE2, .slice aB2 body2.length cB2, .slice aL2 els2.length cL2] 97))) := ((Kp.refl [] _).alloc _).alloc _
              go_enter Tryz.func107, Tryz.ntmps107
              go_wp2_with fail
              refine (HEQ.out _ P P2 E E2 _ _ (HE.out.keep HN.out (by simp)) (HE2.out.keep HN.out (by simp)) (by omega)).mono ?_
              rintro e w1 ⟨rfl, hk⟩
              rw [HX.out]
              have K1 := hide (HN.out.trans hk)
              have c7 : w1.cell? ⟨w.heap.size, 7, none⟩ = some (.slice aB body.length cB) := hk.some (by simp [go_sem]) (by simp)
              have c8 : w1.cell? ⟨w.heap.size, 8, none⟩ = some (.slice aL els.length cL) := hk.some (by simp [go_sem]) (by simp)
              have d7 : w1.cell? ⟨w.heap.size + 1, 7, none⟩ = some (.slice aB2 body2.length cB2) := hk.some (by simp [go_sem]) (by simp)
              have d8 : w1.cell? ⟨w.heap.size + 1, 8, none⟩ = some (.slice aL2 els2.length cL2) := hk.some (by simp [go_sem]) (by simp)
              clear hk
              go_wp2_with fail
              refine (HSB.out _ P P2 body body2 _ _ (HB.out.keep K1.out (by simp)) (HB2.out.keep K1.out (by simp)) (by omega)).mono ?_
              rintro e w2 ⟨rfl, hk⟩
              rw [HY.out]
              have K2 := hide (K1.out.trans hk)
              have e8 := hk.some c8 (by simp)
              have f8 := hk.some d8 (by simp)
              clear hk c7 c8 d7 d8
              cases Y with
              | false =>
                go_wp2
                go_ret
                exact ⟨by simp, K2.out⟩
              | true =>
                go_wp2_with fail
                refine (HSB.out _ P P2 els els2 _ _ (HL.out.keep K2.out (by simp)) (HL2.out.keep K2.out (by simp)) (by omega)).mono ?_
                rintro e w3 ⟨rfl, hk⟩
                have K3 := hide (K2.out.trans hk)
                clear hk
                go_wp2
                go_ret
                exact ⟨by simp, K3.out⟩
          · have r5 : (N == N2) = false := by simpa using q5
            subst q1 q2 q3 q4
            go_enter Tryz.func107, Tryz.ntmps107
            go_wp2
            go_ret
            exact ⟨by simp [q5], ((Kp.refl [] _).alloc _).alloc _⟩
        · have r4 := bs_ne q4
          subst q1 q2 q3
          go_enter Tryz.func107, Tryz.ntmps107
          go_wp2
          go_ret
          exact ⟨by simp [q4], ((Kp.refl [] _).alloc _).alloc _⟩
      · have r3 := bs_ne q3
        subst q1 q2
        go_enter Tryz.func107, Tryz.ntmps107
        go_wp2
        go_ret
        exact ⟨by simp [q3], ((Kp.refl [] _).alloc _).alloc _⟩
    · have r2 := bs_ne q2
      subst q1
      go_enter Tryz.func107, Tryz.ntmps107
      go_wp2
      go_ret
      exact ⟨by simp [q2], ((Kp.refl [] _).alloc _).alloc _⟩
  · have r1 : (D == D2) = false := by simpa using q1
    go_enter Tryz.func107, Tryz.ntmps107
    go_wp2
    go_ret
    exact ⟨by simp [q1], ((Kp.refl [] _).alloc _).alloc _⟩

set_option maxRecDepth 100000 in
set_option maxHeartbeats 2000000 in
theorem eqStmt_step (n : Nat) (ih : QS n) : QS (n + 1) := by
  intro w P P2 l m u v h h2 hw
  obtain ⟨a, cap, rfl⟩ := h.slice
  obtain ⟨a2, cap2, rfl⟩ := h2.slice
  have HS := hide h
  have HS2 := hide h2
  have IH := hide (sameStmt_any n ih)
  have hl : l.length ≤ 1000000000 := by have : l.length + _ = Sx.wS (n + 1) l := rfl; omega
  have HWT := hide (wS_nth n l hw)
  clear h h2 ih hw
  by_cases hlen : l.length = m.length
  · have r1 : ((l.length : Int) != (m.length : Int)) = false := by simp; omega
    have HLEN := hide hlen
    clear hlen
    go_enter Tryz.func106, Tryz.ntmps106
    go_wp2
    go_loopw [17] (fun iv wr => ∃ k : Nat, k ≤ l.length ∧ iv = .int .i64 k ∧ Hid (Sx.sameS (n + 1) l m = Sx.all2 (fun a b => Sx.sH a == Sx.sH b && Sx.sameE n (Sx.sE a) (Sx.sE b) && Sx.sameS n (Sx.sB a) (Sx.sB b) && Sx.sameS n (Sx.sO a) (Sx.sO b)) (l.drop k) (m.drop k)) ∧ Hid (Kp [] w wr)) (fun iv _ => l.length - (intOf iv).toNat)
    case atStart => exact ⟨0, Nat.zero_le _, rfl, rfl, Kp.refl _ _⟩
    case round =>
      obtain ⟨k, hk, rfl, HE, HK⟩ := hrel
      by_cases hlt : k < l.length
      · obtain ⟨b, off, D, at', A, B, T, N, E, body, els, uE, uB, uL, rfl, -, hd, m0, m1, m2, m3, m4, m5, m6, m7, m8, hE, hB, hL⟩ := (HS.out.keep HK.out (by simp)).nth k hlt
        have hlt2 : k < m.length := by have := HLEN.out; omega
        obtain ⟨b2, off2, D2, at2, A2, B2, T2, N2, E2, body2, els2, uE2, uB2, uL2, rfl, -, hd2, n0, n1, n2, n3, n4, n5, n6, n7, n8, hE2, hB2, hL2⟩ := (HS2.out.keep HK.out (by simp)).nth k hlt2
        obtain ⟨aE, cE, rfl⟩ := hE.slice
        obtain ⟨aB, cB, rfl⟩ := hB.slice
        obtain ⟨aL, cL, rfl⟩ := hL.slice
        obtain ⟨aE2, cE2, rfl⟩ := hE2.slice
        obtain ⟨aB2, cB2, rfl⟩ := hB2.slice
        obtain ⟨aL2, cL2, rfl⟩ := hL2.slice
        have hwt : Sx.wE n E + Sx.wS n body + Sx.wS n els ≤ 1000000000 := HWT.out k _ hd
        have hst := Sx.all2_drop (p := fun a b => Sx.sH a == Sx.sH b && Sx.sameE n (Sx.sE a) (Sx.sE b) && Sx.sameS n (Sx.sB a) (Sx.sB b) && Sx.sameS n (Sx.sO a) (Sx.sO b)) hd hd2
        have HST1 : Hid (Sx.sameS (n + 1) l m = (((D, A, B, T, N) == (D2, A2, B2, T2, N2) && Sx.sameE n E E2 && Sx.sameS n body body2 && Sx.sameS n els els2) && Sx.all2 (fun a b => Sx.sH a == Sx.sH b && Sx.sameE n (Sx.sE a) (Sx.sE b) && Sx.sameS n (Sx.sB a) (Sx.sB b) && Sx.sameS n (Sx.sO a) (Sx.sO b)) (l.drop (k + 1)) (m.drop (k + 1)))) := HE.out.trans hst
        have HCE := hide hE
        have HCB := hide hB
        have HCL := hide hL
        have HCE2 := hide hE2
        have HCB2 := hide hB2
        have HCL2 := hide hL2
        have hblt := World.block_lt_of_cell? _ _ m0
        have hblt2 := World.block_lt_of_cell? _ _ n0
        clear hst hE hB hL hE2 hB2 hL2 hd hd2
        go_wp2_with fail
        refine (IH.out _ P P2 D D2 at' at2 N N2 A A2 B B2 T T2 E E2 body body2 els els2 aE aE2 aB aB2 aL aL2 cE cE2 cB cB2 cL cL2 (HCE.out.keep (((Kp.refl [] _).alloc _).alloc _) (by simp)) (HCE2.out.keep (((Kp.refl [] _).alloc _).alloc _) (by simp)) (HCB.out.keep (((Kp.refl [] _).alloc _).alloc _) (by simp)) (HCB2.out.keep (((Kp.refl [] _).alloc _).alloc _) (by simp))
          (HCL.out.keep (((Kp.refl [] _).alloc _).alloc _) (by simp)) (HCL2.out.keep (((Kp.refl [] _).alloc _).alloc _) (by simp)) hwt).mono ?_
        rintro e w1 ⟨rfl, hk1⟩
        have K1 : Hid (Kp [] w w1) := HK.out.trans ((((Kp.refl [] _).alloc _).alloc _).trans hk1)
        clear hk1
        generalize ((D, A, B, T, N) == (D2, A2, B2, T2, N2) && Sx.sameE n E E2 && Sx.sameS n body body2 && Sx.sameS n els els2) = Bo at *
        cases Bo with
        | true =>
          go_wp2
          go_roundw
          case rel => exact ⟨k + 1, by omega, by go_num, by show _ = _; rw [HST1.out, Bool.true_and], K1.out⟩
          case measure => simp [intOf]; omega
        | false =>
          go_wp2
          go_ret
          exact ⟨by rw [HST1.out]; rfl, K1.out⟩
      · obtain rfl : k = l.length := by omega
        go_wp2
        go_ret
        refine ⟨?_, HK.out⟩
        rw [HE.out, List.drop_length, HLEN.out, List.drop_length]
        rfl
  · have r1 : ((l.length : Int) != (m.length : Int)) = true := by simp; omega
    go_enter Tryz.func106, Tryz.ntmps106
    go_wp2
    go_ret
    exact ⟨by rw [show Sx.sameS (n + 1) l m = false from Sx.all2_len hlen]; rfl, Kp.refl _ _⟩
theorem eqStmt_any (n : Nat) : QS n := by
  induction n with
  | zero => intro w P P2 l m u v h; cases h
  | succ n ih => exact eqStmt_step n ih
end Go.Proofs.YtdbciaihnikibacGreatDoor


/- When two programs are the same: the document's own reckoning of statements. -/
namespace Go.Proofs.YtdbciaihnikibacGreatDoor
open Go.RowKit
end Go.Proofs.YtdbciaihnikibacGreatDoor

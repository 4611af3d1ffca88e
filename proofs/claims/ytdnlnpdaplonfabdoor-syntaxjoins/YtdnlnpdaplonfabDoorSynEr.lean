import Derived.Test.YtdnlnpdaplonfabDoorSynEq
/- When two programs are the same: the document's own reckoning of expressions. -/
namespace Go.Proofs.YtdnlnpdaplonfabDoor
open Go.RowKit

theorem quiet_j {P : Program} {f : FuncId} {args : Array Value} {w : World} {j n : Nat} {v : Value}
    (h : Calls P f args (w.drewN (j + n)) fun e w' => e = .returned v ∧ ∃ m, w' = (w.drewN (j + n)).drewN m) : Calls P f args (w.drewN (j + n)) fun e w'' => e = .returned v ∧ ∃ m, w'' = w.drewN (j + m) :=
  h.mono fun _ _ ⟨he, m, hm⟩ => ⟨he, n + m, by rw [hm, World.drewN_drewN, Nat.add_assoc]⟩
def QER (n : Nat) : Prop := ∀ (w : World) (P P2 : Nat → Prop) (l m : List Sx.Tr) (u v : Value), EL w P n l u → EL w P2 n m v → Sx.wE n l ≤ 1000000000 →
  Calls Tryd.prog 59 #[u, v] w fun e w' => e = .returned (.bool (Sx.sameE n l m)) ∧ ∃ j, w' = w.drewN j

set_option maxRecDepth 100000 in
set_option maxHeartbeats 1000000 in
theorem sameExprs_step (n : Nat) (ih : QER n) : QER (n + 1) := by
  intro w P P2 l m u v h h2 hw
  obtain ⟨a, cap, rfl⟩ := h.slice
  obtain ⟨a2, cap2, rfl⟩ := h2.slice
  have HS := hide h
  have HS2 := hide h2
  have IH := hide ih
  have hl : l.length ≤ 1000000000 := by have : l.length + _ = Sx.wE (n + 1) l := rfl; omega
  have HWT : Hid (∀ (i : Nat) d, l[i]? = some d → Sx.wE n (Sx.eL d) ≤ 1000000000) := fun i d hd => by
    have h1 : Sx.sum (fun d => Sx.wE n (Sx.eL d)) (l.take (i + 1)) = Sx.sum (fun d => Sx.wE n (Sx.eL d)) (l.take i) + Sx.wE n (Sx.eL d) := Sx.sum_take (fun d => Sx.wE n (Sx.eL d)) l i d hd
    have h2 := Sx.sum_take_le (fun d => Sx.wE n (Sx.eL d)) l (i + 1)
    have : l.length + Sx.sum (fun d => Sx.wE n (Sx.eL d)) l = Sx.wE (n + 1) l := rfl
    omega
  clear h h2 ih hw
  by_cases hlen : l.length = m.length
  · have r1 : ((l.length : Int) != (m.length : Int)) = false := by simp; omega
    have HLEN := hide hlen
    clear hlen
    go_enter Tryd.func59, Tryd.ntmps59
    go_wp2
    go_loopw [5] (fun iv wr => ∃ k : Nat, k ≤ l.length ∧ iv = .int .i64 k ∧ Hid (Sx.sameE (n + 1) l m = Sx.all2 (fun a b => Sx.eH a == Sx.eH b && Sx.sameE n (Sx.eL a) (Sx.eL b)) (l.drop k) (m.drop k)) ∧ ∃ j, wr = w.drewN j) (fun iv _ => l.length - (intOf iv).toNat)
    case atStart => exact ⟨0, Nat.zero_le _, rfl, rfl, 0, rfl⟩
    case round =>
      obtain ⟨k, hk, rfl, HE, j, rfl⟩ := hrel
      by_cases hlt : k < l.length
      · obtain ⟨b, off, op, nm, x, L, aL, cL, rfl, -, hd, m0, m1, m2, m3, hL⟩ := HS.out.nth k hlt
        have hlt2 : k < m.length := by have := HLEN.out; omega
        obtain ⟨b2, off2, op2, nm2, x2, L2, aL2, cL2, rfl, -, hd2, n0, n1, n2, n3, hL2⟩ := HS2.out.nth k hlt2
        have hwt : Sx.wE n L ≤ 1000000000 := HWT.out k _ hd
        have hst := Sx.all2_drop (p := fun a b => Sx.eH a == Sx.eH b && Sx.sameE n (Sx.eL a) (Sx.eL b)) hd hd2
        have HST1 : Hid (Sx.sameE (n + 1) l m = (((op, nm, x) == (op2, nm2, x2) && Sx.sameE n L L2) && Sx.all2 (fun a b => Sx.eH a == Sx.eH b && Sx.sameE n (Sx.eL a) (Sx.eL b)) (l.drop (k + 1)) (m.drop (k + 1)))) := HE.out.trans hst
        have HL := hide hL
        have HL2 := hide hL2
        have hk0 : (0 : Int) ≤ (k : Int) := by omega
        have hk1 : (k : Int) < (l.length : Int) := by omega
        have hk2 : (k : Int) < (m.length : Int) := by omega
        clear hst hL hL2 hd hd2
        by_cases q1 : op = op2
        · by_cases q2 : nm = nm2
          · by_cases q3 : x = x2
            · subst q1 q2 q3
              go_wp2
              go_quiet ((go_at_call 59; refine quiet_j (IH.out _ P P2 L L2 _ _ ?_ ?_ hwt); exact HL.out.keep ((Kp.refl [] _).drewN _) (by simp); exact HL2.out.keep ((Kp.refl [] _).drewN _) (by simp)))
              have HST2 : Hid (Sx.sameE (n + 1) l m = (Sx.sameE n L L2 && Sx.all2 (fun a b => Sx.eH a == Sx.eH b && Sx.sameE n (Sx.eL a) (Sx.eL b)) (l.drop (k + 1)) (m.drop (k + 1)))) := by
                show _ = _
                rw [HST1.out]
                simp
              clear HST1
              generalize Sx.sameE n L L2 = B at *
              cases B with
              | true =>
                go_wp2
                go_roundw
                case rel => exact ⟨k + 1, by omega, by go_num, by show _ = _; rw [HST2.out, Bool.true_and], _, rfl⟩
                case measure => simp [intOf]; omega
              | false =>
                go_wp2
                go_ret
                exact ⟨by rw [HST2.out]; rfl, _, World.drewN_drewN _ _ _⟩
            · have t3 : (x != x2) = true := by simpa using q3
              subst q1 q2
              go_wp2
              go_quiet (fail)
              go_wp2
              go_ret
              refine ⟨?_, _, World.drewN_drewN _ _ _⟩
              rw [HST1.out]
              simp [q3]
          · have r2 := bs_ne q2
            subst q1
            go_wp2
            go_quiet (fail)
            go_wp2
            go_ret
            refine ⟨?_, _, World.drewN_drewN _ _ _⟩
            rw [HST1.out]
            simp [q2]
        · have t1 : (op != op2) = true := by simpa using q1
          go_wp2
          go_quiet (fail)
          go_wp2
          go_ret
          refine ⟨?_, _, World.drewN_drewN _ _ _⟩
          rw [HST1.out]
          simp [q1]
      · obtain rfl : k = l.length := by omega
        go_wp2
        go_ret
        refine ⟨?_, _, rfl⟩
        rw [HE.out, List.drop_length, HLEN.out, List.drop_length]
        rfl
  · have r1 : ((l.length : Int) != (m.length : Int)) = true := by simp; omega
    go_enter Tryd.func59, Tryd.ntmps59
    go_wp2
    go_ret
    exact ⟨by rw [show Sx.sameE (n + 1) l m = false from Sx.all2_len hlen]; rfl, 0, rfl⟩
theorem eqExpr_any (n : Nat) : QE n := by
  induction n with
  | zero => intro w P P2 l m u v h; cases h
  | succ n ih => exact eqExpr_step n ih
theorem sameExprs_any (n : Nat) : QER n := by
  induction n with
  | zero => intro w P P2 l m u v h; cases h
  | succ n ih => exact sameExprs_step n ih
end Go.Proofs.YtdnlnpdaplonfabDoor

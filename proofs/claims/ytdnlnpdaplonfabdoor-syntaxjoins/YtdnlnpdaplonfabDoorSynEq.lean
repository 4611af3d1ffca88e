import Derived.Test.YtdnlnpdaplonfabDoorSynV
import Derived.Test.YtdnlnpdaplonfabDoorSynQa
import Derived.Test.YtdnlnpdaplonfabDoorSynCo
import Derived.Deep.RegionHeldLaw
/- When two programs are the same: expressions. -/
namespace Go.Proofs.YtdnlnpdaplonfabDoor
open Go.RowKit

theorem EL.nth {w : World} {P : Nat → Prop} {n : Nat} {l : List Sx.Tr} {a : Option Addr} {cap : Nat} (h : EL w P (n + 1) l (.slice a l.length cap)) (i : Nat) (hi : i < l.length) :
    ∃ b off op nm k L aL cL, a = some ⟨b, off, none⟩ ∧ P b ∧ l[i]? = some (Sx.tE op nm k L) ∧ w.cell? ⟨b, off + i * 4, none⟩ = some (.int .i64 op) ∧ w.cell? ⟨b, off + i * 4 + 1, none⟩ = some (.string (bs nm)) ∧
        w.cell? ⟨b, off + i * 4 + 2, none⟩ = some (.int .i64 k) ∧ w.cell? ⟨b, off + i * 4 + 3, none⟩ = some (.slice aL L.length cL) ∧ EL w P n L (.slice aL L.length cL) := by
  obtain ⟨a', cap', hv, h⟩ := h
  cases hv
  rcases h with h | ⟨b, off, ha, hb, hc⟩
  · subst h; simp at hi
  · obtain ⟨op, nm, k, L, u, hd, h1, h2, h3, h4, h5⟩ := hc i _ (List.getElem?_eq_getElem hi)
    obtain ⟨aL, cL, rfl⟩ := h5.slice
    exact ⟨b, off, op, nm, k, L, aL, cL, ha, hb, by rw [List.getElem?_eq_getElem hi, hd], h1, h2, h3, h4, h5⟩
theorem bs_ne {a b : List UInt8} (h : ¬ a = b) : ((bs a).toList == (bs b).toList) = false := by
  rw [bs_eq]
  exact decide_eq_false (fun e => h (by simpa [bs] using e))

/-- Contract: two lists of expressions are the same, at a level. -/
def QE (n : Nat) : Prop := ∀ (w : World) (P P2 : Nat → Prop) (l m : List Sx.Tr) (u v : Value), EL w P n l u → EL w P2 n m v → Sx.wE n l ≤ 1000000000 →
  Calls Tryd.prog 86 #[u, v, .func (.func 87) #[] #[]] w fun e w' => e = .returned (.bool (Sx.sameE n l m)) ∧ Kp [] w w'

set_option maxRecDepth 100000 in
set_option maxHeartbeats 1000000 in
theorem sameExpr_any (n : Nat) (ih : QE n) (w : World) (P P2 : Nat → Prop) (op op2 k k2 : Int) (nm nm2 : List UInt8) (L L2 : List Sx.Tr) (a a2 : Option Addr) (c c2 : Nat) (h : EL w P n L (.slice a L.length c)) (h2 : EL w P2 n L2 (.slice a2 L2.length c2)) (hw : Sx.wE n L ≤ 1000000000) :
    Calls Tryd.prog 87 #[.agg #[.int .i64 op, .string (bs nm), .int .i64 k, .slice a L.length c], .agg #[.int .i64 op2, .string (bs nm2), .int .i64 k2, .slice a2 L2.length c2]] w fun e w' =>
      e = .returned (.bool (((op, nm, k) == (op2, nm2, k2)) && Sx.sameE n L L2)) ∧ Kp [] w w' := by
  have IH := hide ih
  have H1 := hide h
  have H2 := hide h2
  clear h h2 ih
  by_cases q1 : op = op2
  · by_cases q2 : nm = nm2
    · by_cases q3 : k = k2
      · subst q1 q2 q3
        go_enter Tryd.func87, Tryd.ntmps87
        go_wp2_with (go_at_call 86; refine (IH.out _ P P2 L L2 _ _ ?_ ?_ ?_).mono ?_; exact H1.out.keep (((Kp.refl [] _).alloc _).alloc _) (by simp); exact H2.out.keep (((Kp.refl [] _).alloc _).alloc _) (by simp); exact hw; rintro e w1 ⟨rfl, hk⟩)
        go_ret
        exact ⟨by simp, (((Kp.refl [] _).alloc _).alloc _).trans hk⟩
      · have r3 : (k == k2) = false := by simpa using q3
        subst q1 q2
        go_enter Tryd.func87, Tryd.ntmps87
        go_wp2
        go_ret
        exact ⟨by simp [q3], ((Kp.refl [] _).alloc _).alloc _⟩
    · have r2 := bs_ne q2
      subst q1
      go_enter Tryd.func87, Tryd.ntmps87
      go_wp2
      go_ret
      exact ⟨by simp [q2], ((Kp.refl [] _).alloc _).alloc _⟩
  · have r1 : (op == op2) = false := by simpa using q1
    go_enter Tryd.func87, Tryd.ntmps87
    go_wp2
    go_ret
    exact ⟨by simp [q1], ((Kp.refl [] _).alloc _).alloc _⟩

set_option maxRecDepth 100000 in
set_option maxHeartbeats 1000000 in
theorem eqExpr_step (n : Nat) (ih : QE n) : QE (n + 1) := by
  intro w P P2 l m u v h h2 hw
  obtain ⟨a, cap, rfl⟩ := h.slice
  obtain ⟨a2, cap2, rfl⟩ := h2.slice
  have HS := hide h
  have HS2 := hide h2
  have IH := hide (sameExpr_any n ih)
  have hl : l.length ≤ 1000000000 := by have : l.length + _ = Sx.wE (n + 1) l := rfl; omega
  have HWT : Hid (∀ (i : Nat) d, l[i]? = some d → Sx.wE n (Sx.eL d) ≤ 1000000000) := fun i d hd => by
    have h1 : Sx.sum (fun d => Sx.wE n (Sx.eL d)) (l.take (i + 1)) = Sx.sum (fun d => Sx.wE n (Sx.eL d)) (l.take i) + Sx.wE n (Sx.eL d) := Sx.sum_take (fun d => Sx.wE n (Sx.eL d)) l i d hd
    have h2 := Sx.sum_take_le (fun d => Sx.wE n (Sx.eL d)) l (i + 1)
    have : l.length + Sx.sum (fun d => Sx.wE n (Sx.eL d)) l = Sx.wE (n + 1) l := rfl
    omega
  clear h h2 ih hw
  by_cases hlen : l.length = m.length
  · have r1 : ((l.length : Int) != (m.length : Int)) = false := by simp; omega
    have HLEN := hide hlen
    clear hlen
    go_enter Tryd.func86, Tryd.ntmps86
    go_wp2
    go_loopw [17] (fun iv wr => ∃ k : Nat, k ≤ l.length ∧ iv = .int .i64 k ∧ Hid (Sx.sameE (n + 1) l m = Sx.all2 (fun a b => Sx.eH a == Sx.eH b && Sx.sameE n (Sx.eL a) (Sx.eL b)) (l.drop k) (m.drop k)) ∧ Hid (Kp [] w wr)) (fun iv _ => l.length - (intOf iv).toNat)
    case atStart => exact ⟨0, Nat.zero_le _, rfl, rfl, Kp.refl _ _⟩
    case round =>
      obtain ⟨k, hk, rfl, HE, HK⟩ := hrel
      by_cases hlt : k < l.length
      · obtain ⟨b, off, op, nm, x, L, aL, cL, rfl, -, hd, m0, m1, m2, m3, hL⟩ := (HS.out.keep HK.out (by simp)).nth k hlt
        have hlt2 : k < m.length := by have := HLEN.out; omega
        obtain ⟨b2, off2, op2, nm2, x2, L2, aL2, cL2, rfl, -, hd2, n0, n1, n2, n3, hL2⟩ := (HS2.out.keep HK.out (by simp)).nth k hlt2
        have hwt := HWT.out k _ hd
        have hst := Sx.all2_drop (p := fun a b => Sx.eH a == Sx.eH b && Sx.sameE n (Sx.eL a) (Sx.eL b)) hd hd2
        have HST := hide (HE.out.trans hst)
        have HL := hide hL
        have HL2 := hide hL2
        have hblt := World.block_lt_of_cell? _ _ m0
        have hblt2 := World.block_lt_of_cell? _ _ n0
        clear hst hL hL2 hd hd2
        go_wp2_with fail
        refine (IH.out _ P P2 op op2 x x2 nm nm2 L L2 aL aL2 cL cL2 (HL.out.keep (((Kp.refl [] _).alloc _).alloc _) (by simp)) (HL2.out.keep (((Kp.refl [] _).alloc _).alloc _) (by simp)) hwt).mono ?_
        rintro e w1 ⟨rfl, hk1⟩
        have K1 : Hid (Kp [] w w1) := HK.out.trans ((((Kp.refl [] _).alloc _).alloc _).trans hk1)
        have HST1 : Hid (Sx.sameE (n + 1) l m = (((op, nm, x) == (op2, nm2, x2) && Sx.sameE n L L2) && Sx.all2 (fun a b => Sx.eH a == Sx.eH b && Sx.sameE n (Sx.eL a) (Sx.eL b)) (l.drop (k + 1)) (m.drop (k + 1)))) := HST.out
        clear hk1 HST
        generalize ((op, nm, x) == (op2, nm2, x2) && Sx.sameE n L L2) = B at *
        cases B with
        | true =>
          go_wp2
          go_roundw
          case rel => exact ⟨k + 1, by omega, by go_num, by show _ = _; rw [HST1.out, Bool.true_and], K1.out⟩
          case measure => simp [intOf]; omega
        | false =>
          go_wp2
          go_ret
          exact ⟨by rw [HST1.out]; rfl, K1.out⟩
      · obtain rfl : k = l.length := by omega
        go_wp2
        go_ret
        refine ⟨?_, HK.out⟩
        rw [HE.out, List.drop_length, HLEN.out, List.drop_length]
        rfl
  · have r1 : ((l.length : Int) != (m.length : Int)) = true := by simp; omega
    go_enter Tryd.func86, Tryd.ntmps86
    go_wp2
    go_ret
    exact ⟨by rw [show Sx.sameE (n + 1) l m = false from Sx.all2_len hlen]; rfl, Kp.refl _ _⟩
end Go.Proofs.YtdnlnpdaplonfabDoor

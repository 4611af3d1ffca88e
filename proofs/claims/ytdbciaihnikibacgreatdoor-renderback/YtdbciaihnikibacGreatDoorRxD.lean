import Derived.Test.YtdbciaihnikibacGreatDoorRxC
import Derived.Lib.SliceRun
/- When two programs are the same: parameters, stages, programs. -/
namespace Go.Proofs.YtdbciaihnikibacGreatDoor
open Go.RowKit

theorem RP_len (d : Sx.Tr) (c : List Value) (h : RP d c) : c.length = 2 := by
  obtain ⟨nm, T, _, rfl⟩ := h
  rfl
theorem PL.nth {w : World} {P : Nat → Prop} {l : List Sx.Tr} {a : Option Addr} {cap : Nat} (h : Sl RP w P l (.slice a l.length cap)) (i : Nat) (hi : i < l.length) :
    ∃ b off nm T, a = some ⟨b, off, none⟩ ∧ P b ∧ l[i]? = some (Sx.tP nm T) ∧ w.cell? ⟨b, off + i * 2, none⟩ = some (.string (bs nm)) ∧ w.cell? ⟨b, off + i * 2 + 1, none⟩ = some (.string (bs T)) := by
  obtain ⟨a', cap', hv, h⟩ := h
  cases hv
  rcases h with h | ⟨b, off, cs, ha, hb, hr, hc⟩
  · subst h; simp at hi
  · obtain ⟨c, hR, hcu⟩ := hr.at RP_len i _ (List.getElem?_eq_getElem hi)
    obtain ⟨nm, T, hd, rfl⟩ := hR
    have hx := fun j u hu => hc _ u (hcu j u hu)
    simp only [← Nat.add_assoc] at hx
    exact ⟨b, off, nm, T, ha, hb, by rw [List.getElem?_eq_getElem hi, hd], hx 0 _ rfl, hx 1 _ rfl⟩
theorem uPar : Tryz.prog.underlying 51 = some (.struct (Tryz.prog.fieldsOf 51)) := by kernel_rfl
theorem heldPar : Tryz.prog.stoodInHeld 51 = false := by kernel_rfl
theorem bs_same (a b : List UInt8) : ((bs a).toList == (bs b).toList) = (a == b) := by
  by_cases h : a = b
  · subst h; simp
  · rw [bs_ne h]; symm; simpa using h
theorem neqP (a b c d : List UInt8) (w : World) : Sem.run Tryz.prog (binOp .neq 51 (.agg #[.string (bs a), .string (bs b)]) (.agg #[.string (bs c), .string (bs d)])) w = .ok (.bool (!((a, b) == (c, d)))) w := by
  have u9 := Tryz.underlying9
  have a9 := Tryz.isAgg9
  have z9 := Tryz.sizeOf9
  rw [run_neq_struct, show (10000 : Nat) = 9999 + 1 from rfl, run_equalIn_agg w 9999 51 _ _ uPar heldPar]
  simp only [Program.fieldsOf, Tryz.underlying51]
  have h1 := bs_same a c
  have h2 := bs_same b d
  by_cases q1 : a = c
  · by_cases q2 : b = d
    · subst q1 q2
      go_simp
    · have r2 := bs_ne q2
      subst q1
      go_simp
  · have r1 := bs_ne q1
    go_simp

def QP : Prop := ∀ (w : World) (P P2 : Nat → Prop) (l m : List Sx.Tr) (u v : Value), Sl RP w P l u → Sl RP w P2 m v → l.length ≤ 1000000000 →
  Calls Tryz.prog 68 #[u, v] w fun e w' => e = .returned (.bool (Sx.sameP l m)) ∧ ∃ j, w' = w.drewN j

set_option maxRecDepth 100000 in
set_option maxHeartbeats 1000000 in
theorem eqParam_any : QP := by
  intro w P P2 l m u v h h2 hl
  obtain ⟨a, cap, rfl, -⟩ := id h
  obtain ⟨a2, cap2, rfl, -⟩ := id h2
  have HS := hide h
  have HS2 := hide h2
  clear h h2
  by_cases hlen : l.length = m.length
  · have r1 : ((l.length : Int) != (m.length : Int)) = false := by simp; omega
    have HLEN := hide hlen
    clear hlen
    go_enter Tryz.func68, Tryz.ntmps68
    go_wp2
    go_loopw [13] (fun iv wr => ∃ k : Nat, k ≤ l.length ∧ iv = .int .i64 k ∧ Hid (Sx.sameP l m = Sx.all2 (fun a b => Sx.pH a == Sx.pH b) (l.drop k) (m.drop k)) ∧ ∃ j, wr = w.drewN j) (fun iv _ => l.length - (intOf iv).toNat)
    case atStart => exact ⟨0, Nat.zero_le _, rfl, rfl, 0, rfl⟩
    case round =>
      obtain ⟨k, hk, rfl, HE, j, rfl⟩ := hrel
      by_cases hlt : k < l.length
      · obtain ⟨b, off, nm, T, rfl, -, hd, m0, m1⟩ := PL.nth HS.out k hlt
        have hlt2 : k < m.length := by have := HLEN.out; omega
        obtain ⟨b2, off2, nm2, T2, rfl, -, hd2, n0, n1⟩ := PL.nth HS2.out k hlt2
        have hst := Sx.all2_drop (p := fun a b => Sx.pH a == Sx.pH b) hd hd2
        have HST1 : Hid (Sx.sameP l m = (((nm, T) == (nm2, T2)) && Sx.all2 (fun a b => Sx.pH a == Sx.pH b) (l.drop (k + 1)) (m.drop (k + 1)))) := HE.out.trans hst
        have hne := neqP nm T nm2 T2
        have hk0 : (0 : Int) ≤ (k : Int) := by omega
        have hk1 : (k : Int) < (l.length : Int) := by omega
        have hk2 : (k : Int) < (m.length : Int) := by omega
        clear hst hd hd2
        generalize ((nm, T) == (nm2, T2)) = Bo at *
        cases Bo with
        | true =>
          go_wp2
          go_quiet (fail)
          go_wp2
          go_roundw
          case rel => exact ⟨k + 1, by omega, by go_num, by show _ = _; rw [HST1.out, Bool.true_and], _, rfl⟩
          case measure => simp [intOf]; omega
        | false =>
          go_wp2
          go_quiet (fail)
          go_wp2
          go_ret
          exact ⟨by rw [HST1.out]; rfl, _, World.drewN_drewN _ _ _⟩
      · obtain rfl : k = l.length := by omega
        go_wp2
        go_ret
        refine ⟨?_, _, rfl⟩
        rw [HE.out, List.drop_length, HLEN.out, List.drop_length]
        rfl
  · have r1 : ((l.length : Int) != (m.length : Int)) = true := by simp; omega
    go_enter Tryz.func68, Tryz.ntmps68
    go_wp2
    go_ret
    exact ⟨by rw [show Sx.sameP l m = false from Sx.all2_len hlen]; rfl, 0, rfl⟩

set_option maxRecDepth 100000 in
set_option maxHeartbeats 1000000 in
theorem sameStage_any (n : Nat) (w : World) (P P2 : Nat → Prop) (nm nm2 : List UInt8) (at' at2 : Int) (ps ps2 body body2 : List Sx.Tr) (aP aP2 aB aB2 : Option Addr) (cP cP2 cB cB2 : Nat)
    (hP : Sl RP w P ps (.slice aP ps.length cP)) (hP2 : Sl RP w P2 ps2 (.slice aP2 ps2.length cP2)) (hB : SL w P n body (.slice aB body.length cB)) (hB2 : SL w P2 n body2 (.slice aB2 body2.length cB2)) (hl : ps.length ≤ 1000000000) (hw : Sx.wS n body ≤ 1000000000) :
    Calls Tryz.prog 39 #[.agg #[.string (bs nm), .int .i64 at', .slice aP ps.length cP, .slice aB body.length cB], .agg #[.string (bs nm2), .int .i64 at2, .slice aP2 ps2.length cP2, .slice aB2 body2.length cB2]] w fun e w' =>
      e = .returned (.bool (nm == nm2 && Sx.sameP ps ps2 && Sx.sameS n body body2)) ∧ Kp [] w w' := by
  have HSB := hide (sameBlock_of n (eqStmt_any n))
  have HEP := hide eqParam_any
  have HP := hide hP
  have HP2 := hide hP2
  have HB := hide hB
  have HB2 := hide hB2
  clear hP hP2 hB hB2
  by_cases q1 : nm = nm2
  · subst q1
    generalize hx : Sx.sameP ps ps2 = X at *
    have HX := hide hx
    clear hx
    go_enter Tryz.func39, Tryz.ntmps39
    go_wp2_with fail
    refine (HEP.out _ P P2 ps ps2 _ _ (HP.out.keep (((Kp.refl [] _).alloc _).alloc _) (by simp) (fun _ _ h => h)) (HP2.out.keep (((Kp.refl [] _).alloc _).alloc _) (by simp) (fun _ _ h => h)) hl).mono ?_
    rintro e w1 ⟨rfl, jj, rfl⟩
    rw [HX.out]
    cases X with
    | false =>
      go_wp2
      go_ret
      exact ⟨by simp, (((Kp.refl [] _).alloc _).alloc _).drewN _⟩
    | true =>
      go_wp2_with fail
      refine (HSB.out _ P P2 body body2 _ _ (HB.out.keep ((((Kp.refl [] _).alloc _).alloc _).drewN _) (by simp)) (HB2.out.keep ((((Kp.refl [] _).alloc _).alloc _).drewN _) (by simp)) hw).mono ?_
      rintro e w2 ⟨rfl, hk⟩
      go_wp2
      go_ret
      exact ⟨by simp, ((((Kp.refl [] _).alloc _).alloc _).drewN _).trans hk⟩
  · have r1 := bs_ne q1
    go_enter Tryz.func39, Tryz.ntmps39
    go_wp2
    go_ret
    exact ⟨by simp [q1], ((Kp.refl [] _).alloc _).alloc _⟩

theorem wG_nth (n : Nat) (l : List Sx.Tr) (hw : Sx.wG n l ≤ 1000000000) : ∀ (i : Nat) d, l[i]? = some d → Sx.wS n (Sx.gB d) ≤ 1000000000 := fun i d hd => by
  have h1 : Sx.sum (fun d => Sx.wS n (Sx.gB d)) (l.take (i + 1)) = Sx.sum (fun d => Sx.wS n (Sx.gB d)) (l.take i) + Sx.wS n (Sx.gB d) := Sx.sum_take _ l i d hd
  have h2 := Sx.sum_take_le (fun d => Sx.wS n (Sx.gB d)) l (i + 1)
  have : Sx.sum (fun d => Sx.wS n (Sx.gB d)) l = Sx.wG n l := rfl
  omega
/-- A program that is not too great. -/
structure Sm (n : Nat) (l : List Sx.Tr) : Prop where
  len : l.length ≤ 1000000
  ps : ∀ (i : Nat) d, l[i]? = some d → (Sx.gP d).length ≤ 1000000
  w : Sx.wG n l ≤ 1000000

set_option maxRecDepth 100000 in
set_option maxHeartbeats 2000000 in
theorem eqStage_any (n : Nat) (w : World) (P P2 : Nat → Prop) (l m : List Sx.Tr) (a a2 : Option Addr) (cap cap2 : Nat) (h : Sl (RG w P n) w P l (.slice a l.length cap)) (h2 : Sl (RG w P2 n) w P2 m (.slice a2 m.length cap2)) (hs : Sm n l) :
    Calls Tryz.prog 38 #[.slice a l.length cap, .slice a2 m.length cap2, .func (.func 39) #[] #[]] w fun e w' => e = .returned (.bool (Sx.sameG n l m)) ∧ Kp [] w w' := by
  have HS := hide h
  have HS2 := hide h2
  have IH := hide (sameStage_any n)
  have hl : l.length ≤ 1000000000 := by have := hs.len; omega
  have HWT := hide (wG_nth n l (by have := hs.w; omega))
  have HPS := hide hs.ps
  clear h h2 hs
  by_cases hlen : l.length = m.length
  · have r1 : ((l.length : Int) != (m.length : Int)) = false := by simp; omega
    have HLEN := hide hlen
    clear hlen
    go_enter Tryz.func38, Tryz.ntmps38
    go_wp2
    go_loopw [17] (fun iv wr => ∃ k : Nat, k ≤ l.length ∧ iv = .int .i64 k ∧ Hid (Sx.sameG n l m = Sx.all2 (fun a b => Sx.gN a == Sx.gN b && Sx.sameP (Sx.gP a) (Sx.gP b) && Sx.sameS n (Sx.gB a) (Sx.gB b)) (l.drop k) (m.drop k)) ∧ Hid (Kp [] w wr)) (fun iv _ => l.length - (intOf iv).toNat)
    case atStart => exact ⟨0, Nat.zero_le _, rfl, rfl, Kp.refl _ _⟩
    case round =>
      obtain ⟨k, hk, rfl, HE, HK⟩ := hrel
      by_cases hlt : k < l.length
      · obtain ⟨b, off, nm, at', ps, body, uP, uB, rfl, -, hd, m0, m1, m2, m3, hP, hB⟩ := GL.nth (HS.out.keep HK.out (by simp) (fun d c h => h.keep HK.out (by simp))) k hlt
        have hlt2 : k < m.length := by have := HLEN.out; omega
        obtain ⟨b2, off2, nm2, at2, ps2, body2, uP2, uB2, rfl, -, hd2, n0, n1, n2, n3, hP2, hB2⟩ := GL.nth (HS2.out.keep HK.out (by simp) (fun d c h => h.keep HK.out (by simp))) k hlt2
        obtain ⟨aP, cP, rfl, -⟩ := id hP
        obtain ⟨aB, cB, rfl⟩ := hB.slice
        obtain ⟨aP2, cP2, rfl, -⟩ := id hP2
        obtain ⟨aB2, cB2, rfl⟩ := hB2.slice
        have hwt : Sx.wS n body ≤ 1000000000 := HWT.out k _ hd
        have hps : ps.length ≤ 1000000 := HPS.out k _ hd
        have hst := Sx.all2_drop (p := fun a b => Sx.gN a == Sx.gN b && Sx.sameP (Sx.gP a) (Sx.gP b) && Sx.sameS n (Sx.gB a) (Sx.gB b)) hd hd2
        have HST1 : Hid (Sx.sameG n l m = ((nm == nm2 && Sx.sameP ps ps2 && Sx.sameS n body body2) && Sx.all2 (fun a b => Sx.gN a == Sx.gN b && Sx.sameP (Sx.gP a) (Sx.gP b) && Sx.sameS n (Sx.gB a) (Sx.gB b)) (l.drop (k + 1)) (m.drop (k + 1)))) := HE.out.trans hst
        have HCP := hide hP
        have HCB := hide hB
        have HCP2 := hide hP2
        have HCB2 := hide hB2
        have hblt := World.block_lt_of_cell? _ _ m0
        have hblt2 := World.block_lt_of_cell? _ _ n0
        clear hst hP hB hP2 hB2 hd hd2
        go_wp2_with fail
        refine (IH.out _ P P2 nm nm2 at' at2 ps ps2 body body2 aP aP2 aB aB2 cP cP2 cB cB2 (HCP.out.keep (((Kp.refl [] _).alloc _).alloc _) (by simp) (fun _ _ h => h)) (HCP2.out.keep (((Kp.refl [] _).alloc _).alloc _) (by simp) (fun _ _ h => h)) (HCB.out.keep (((Kp.refl [] _).alloc _).alloc _) (by simp)) (HCB2.out.keep (((Kp.refl [] _).alloc _).alloc _) (by simp)) (by omega) hwt).mono ?_
        rintro e w1 ⟨rfl, hk1⟩
        have K1 : Hid (Kp [] w w1) := HK.out.trans ((((Kp.refl [] _).alloc _).alloc _).trans hk1)
        clear hk1
        generalize (nm == nm2 && Sx.sameP ps ps2 && Sx.sameS n body body2) = Bo at *
        cases Bo with
        | true =>
          go_wp2
          go_roundw
          case rel => exact ⟨k + 1, by omega, by go_num, by show _ = _; rw [HST1.out, Bool.true_and], K1.out⟩
          case measure => simp [intOf]; omega
        | false =>
          go_wp2
          go_ret
          exact ⟨by rw [HST1.out]; rfl, K1.out⟩
      · obtain rfl : k = l.length := by omega
        go_wp2
        go_ret
        refine ⟨?_, HK.out⟩
        rw [HE.out, List.drop_length, HLEN.out, List.drop_length]
        rfl
  · have r1 : ((l.length : Int) != (m.length : Int)) = true := by simp; omega
    go_enter Tryz.func38, Tryz.ntmps38
    go_wp2
    go_ret
    exact ⟨by rw [show Sx.sameG n l m = false from Sx.all2_len hlen]; rfl, Kp.refl _ _⟩

set_option maxRecDepth 100000 in
set_option maxHeartbeats 400000 in
theorem same_any (n : Nat) (w : World) (P P2 : Nat → Prop) (l m : List Sx.Tr) (a a2 : Option Addr) (cap cap2 : Nat) (h : Sl (RG w P n) w P l (.slice a l.length cap)) (h2 : Sl (RG w P2 n) w P2 m (.slice a2 m.length cap2)) (hs : Sm n l) :
    Calls Tryz.prog 17 #[.agg #[.slice a l.length cap], .agg #[.slice a2 m.length cap2]] w fun e w' => e = .returned (.bool (Sx.sameG n l m)) ∧ Kp [] w w' := by
  have H := hide (fun w' (hk : Kp [] w w') => eqStage_any n w' P P2 l m a a2 cap cap2 (h.keep hk (by simp) (fun d c h => h.keep hk (by simp))) (h2.keep hk (by simp) (fun d c h => h.keep hk (by simp))) hs)
  clear h h2
  go_enter Tryz.func17, Tryz.ntmps17
  go_wp2_with fail
  refine (H.out _ (((Kp.refl [] _).alloc _).alloc _)).mono ?_
  rintro e w1 ⟨rfl, hk⟩
  go_wp2
  go_ret
  exact ⟨rfl, (((Kp.refl [] _).alloc _).alloc _).trans hk⟩
end Go.Proofs.YtdbciaihnikibacGreatDoor


/- What is too great. -/
namespace Go.Proofs.YtdbciaihnikibacGreatDoor
open Go.RowKit

/-- No list is longer than there can be. -/
def LbE : Nat → List Sx.Tr → Prop
  | 0, _ => True
  | n + 1, l => l.length ≤ 9223372036854775807 ∧ ∀ (i : Nat) d, l[i]? = some d → LbE n (Sx.eL d)
def LbS : Nat → List Sx.Tr → Prop
  | 0, _ => True
  | n + 1, l => l.length ≤ 9223372036854775807 ∧ ∀ (i : Nat) d, l[i]? = some d → LbE n (Sx.sE d) ∧ LbS n (Sx.sB d) ∧ LbS n (Sx.sO d)

/-- Contract: how much is left. -/
def WE (n : Nat) : Prop := ∀ (w : World) (P : Nat → Prop) (l : List Sx.Tr) (v : Value) (x : Int), EL w P n l v → LbE n l → 0 ≤ x → x ≤ 8000 →
  Calls Tryz.prog 50 #[v, .int .i64 x] w fun e w' => ∃ r : Int, e = .returned (.int .i64 r) ∧ r ≤ x ∧ -9223372036854775808 ≤ r ∧ (0 ≤ r → r = x - Sx.wE n l) ∧ w' = w

set_option maxRecDepth 100000 in
set_option maxHeartbeats 1000000 in
theorem weighExprs_step (n : Nat) (ih : WE n) : WE (n + 1) := by
  intro w P l v x h hb hx0 hx1
  obtain ⟨a, cap, rfl⟩ := h.slice
  have HS := hide h
  have IH := hide ih
  have hl := hb.1
  have HLB := hide hb.2
  have hwE : Sx.wE (n + 1) l = l.length + Sx.sum (fun d => Sx.wE n (Sx.eL d)) l := rfl
  have HWE := hide hwE
  clear h ih hb hwE
  go_enter Tryz.func50, Tryz.ntmps50
  go_wp2
  go_loopw [1, 5] (fun lv iv wr => ∃ (k : Nat) (y : Int), k ≤ l.length ∧ iv = .int .i64 k ∧ lv = .int .i64 y ∧ y ≤ x ∧ -9223372036854775808 ≤ y ∧ (0 ≤ y → y = x - l.length - (Sx.sum (fun d => Sx.wE n (Sx.eL d)) (l.take k) : Nat)) ∧ wr = w) (fun _ iv _ => l.length - (intOf iv).toNat)
  case atStart => exact ⟨0, x - l.length, Nat.zero_le _, rfl, rfl, by omega, by omega, fun _ => by simp [Sx.sum], rfl⟩
  case round =>
    obtain ⟨k, y, hk, rfl, rfl, hy1, hy2, hy3, rfl⟩ := hrel
    by_cases hlt : k < l.length
    · by_cases hy : 0 ≤ y
      · have hye := hy3 hy
        have d1 : decide ((k : Int) < (l.length : Int)) = true := by simp; omega
        have d2 : decide (0 ≤ y) = true := by simpa using hy
        obtain ⟨b, off, op, nm, z, L, aL, cL, rfl, -, hd, m0, m1, m2, m3, hL⟩ := HS.out.nth k hlt
        have hst : Sx.sum (fun d => Sx.wE n (Sx.eL d)) (l.take (k + 1)) = Sx.sum (fun d => Sx.wE n (Sx.eL d)) (l.take k) + Sx.wE n L := Sx.sum_take (fun d => Sx.wE n (Sx.eL d)) l k _ hd
        have HST := hide hst
        have HC := hide (IH.out _ P L (.slice aL L.length cL) y hL (HLB.out k _ hd) hy (by omega))
        have hk0 : (0 : Int) ≤ (k : Int) := by omega
        have hk1 : (k : Int) < (l.length : Int) := by omega
        have HYE := hide hye
        clear hst hL hd hy3 hye
        by_cases hn : 100 < (bs nm).size
        · have d3 : decide ((100 : Int) < ((bs nm).size : Int)) = true := by simp; omega
          go_wp2
          go_ret
          exact ⟨_, rfl, by omega, by omega, fun h => by omega, rfl⟩
        · have d3 : decide ((100 : Int) < ((bs nm).size : Int)) = false := by simp; omega
          go_wp2_with fail
          refine HC.out.mono ?_
          rintro e w1 ⟨r, rfl, hr1, hr2, hr3, rfl⟩
          go_wp2
          go_roundw
          case rel => exact ⟨k + 1, r, by omega, by go_num, rfl, by omega, by omega, fun h => by have := hr3 h; have := HYE.out; rw [HST.out]; push_cast; omega, by trivial⟩
          case measure => simp [intOf]; omega
      · have d1 : decide ((k : Int) < (l.length : Int)) = true := by simp; omega
        have d2 : decide (0 ≤ y) = false := by simpa using hy
        go_wp2
        go_ret
        exact ⟨_, rfl, by omega, by omega, fun h => by omega, rfl⟩
    · obtain rfl : k = l.length := by omega
      have d1 : decide ((l.length : Int) < (l.length : Int)) = false := by simp
      go_wp2
      go_ret
      refine ⟨_, rfl, by omega, by omega, fun h => ?_, rfl⟩
      have := hy3 h
      rw [List.take_length] at this
      rw [HWE.out]
      push_cast
      omega
theorem weighExprs_any (n : Nat) : WE n := by
  induction n with
  | zero => intro w P l v x h; cases h
  | succ n ih => exact weighExprs_step n ih

def WS (n : Nat) : Prop := ∀ (w : World) (P : Nat → Prop) (l : List Sx.Tr) (v : Value) (x : Int), SL w P n l v → LbS n l → 0 ≤ x → x ≤ 8000 →
  Calls Tryz.prog 25 #[v, .int .i64 x] w fun e w' => ∃ r : Int, e = .returned (.int .i64 r) ∧ r ≤ x ∧ -9223372036854775808 ≤ r ∧ (0 ≤ r → r = x - Sx.wS n l) ∧ Kp [] w w'

set_option maxRecDepth 100000 in
set_option maxHeartbeats 1000000 in
theorem weighStmts_step (n : Nat) (ih : WS n) : WS (n + 1) := by
  intro w P l v x h hb hx0 hx1
  obtain ⟨a, cap, rfl⟩ := h.slice
  have HS := hide h
  have IH := hide ih
  have IHE := hide (weighExprs_any n)
  have hl := hb.1
  have HLB := hide hb.2
  have hwE : Sx.wS (n + 1) l = l.length + Sx.sum (fun d => Sx.wE n (Sx.sE d) + Sx.wS n (Sx.sB d) + Sx.wS n (Sx.sO d)) l := rfl
  have HWE := hide hwE
  clear h ih hb hwE
  go_enter Tryz.func25, Tryz.ntmps25
  go_wp2
  go_loopw [1, 5] (fun lv iv wr => ∃ (k : Nat) (y : Int), k ≤ l.length ∧ iv = .int .i64 k ∧ lv = .int .i64 y ∧ y ≤ x ∧ -9223372036854775808 ≤ y ∧ (0 ≤ y → y = x - l.length - (Sx.sum (fun d => Sx.wE n (Sx.sE d) + Sx.wS n (Sx.sB d) + Sx.wS n (Sx.sO d)) (l.take k) : Nat)) ∧ Hid (Kp [] w wr)) (fun _ iv _ => l.length - (intOf iv).toNat)
  case atStart => exact ⟨0, x - l.length, Nat.zero_le _, rfl, rfl, by omega, by omega, fun _ => by simp [Sx.sum], Kp.refl _ _⟩
  case round =>
    obtain ⟨k, y, hk, rfl, rfl, hy1, hy2, hy3, HK⟩ := hrel
    by_cases hlt : k < l.length
    · by_cases hy : 0 ≤ y
      · have hye := hy3 hy
        have d1 : decide ((k : Int) < (l.length : Int)) = true := by simp; omega
        have d2 : decide (0 ≤ y) = true := by simpa using hy
        obtain ⟨b, off, D, at', A, B, T, N, E, body, els, uE, uB, uL, rfl, -, hd, m0, m1, m2, m3, m4, m5, m6, m7, m8, hE, hB, hL⟩ := (HS.out.keep HK.out (by simp)).nth k hlt
        obtain ⟨aE, cE, rfl⟩ := hE.slice
        obtain ⟨aB, cB, rfl⟩ := hB.slice
        obtain ⟨aL, cL, rfl⟩ := hL.slice
        have hst : Sx.sum (fun d => Sx.wE n (Sx.sE d) + Sx.wS n (Sx.sB d) + Sx.wS n (Sx.sO d)) (l.take (k + 1)) = Sx.sum (fun d => Sx.wE n (Sx.sE d) + Sx.wS n (Sx.sB d) + Sx.wS n (Sx.sO d)) (l.take k) + (Sx.wE n E + Sx.wS n body + Sx.wS n els) := Sx.sum_take (fun d => Sx.wE n (Sx.sE d) + Sx.wS n (Sx.sB d) + Sx.wS n (Sx.sO d)) l k _ hd
        have HST := hide hst
        obtain ⟨b1, b2, b3⟩ := HLB.out k _ hd
        have HB1 : Hid (LbE n E) := b1
        have HB2 : Hid (LbS n body) := b2
        have HB3 : Hid (LbS n els) := b3
        have HE := hide hE
        have HB := hide hB
        have HL := hide hL
        have hk0 : (0 : Int) ≤ (k : Int) := by omega
        have hk1 : (k : Int) < (l.length : Int) := by omega
        have HYE := hide hye
        have hblt := World.block_lt_of_cell? _ _ m0
        clear hst hE hB hL hd hy3 hye b1 b2 b3
        by_cases hn1 : 100 < (bs A).size
        · have d3 : decide ((100 : Int) < ((bs A).size : Int)) = true := by simp; omega
          go_wp2
          go_ret
          exact ⟨_, rfl, by omega, by omega, fun h => by omega, HK.out.alloc _⟩
        · have d3 : decide ((100 : Int) < ((bs A).size : Int)) = false := by simp; omega
          by_cases hn2 : 100 < (bs B).size
          · have d4 : decide ((100 : Int) < ((bs B).size : Int)) = true := by simp; omega
            go_wp2
            go_ret
            exact ⟨_, rfl, by omega, by omega, fun h => by omega, HK.out.alloc _⟩
          · have d4 : decide ((100 : Int) < ((bs B).size : Int)) = false := by simp; omega
            by_cases hn3 : 100 < (bs T).size
            · have d5 : decide ((100 : Int) < ((bs T).size : Int)) = true := by simp; omega
              go_wp2
              go_ret
              exact ⟨_, rfl, by omega, by omega, fun h => by omega, HK.out.alloc _⟩
            · have d5 : decide ((100 : Int) < ((bs T).size : Int)) = false := by simp; omega
              go_wp2_with fail
              refine (IHE.out _ P E _ y (HE.out.keep ((Kp.refl [] _).alloc _) (by simp)) HB1.out hy (by omega)).mono ?_
              rintro e w1 ⟨r1, rfl, hr1, hr2, hr3, rfl⟩
              by_cases g1 : 0 ≤ r1
              · have d6 : decide (0 ≤ r1) = true := by simpa using g1
                go_wp2_with fail
                refine (IH.out _ P body _ r1 (HB.out.keep ((Kp.refl [] _).alloc _) (by simp)) HB2.out g1 (by omega)).mono ?_
                rintro e w2 ⟨r2, rfl, hs1, hs2, hs3, hk2⟩
                have K2 : Hid (Kp [] wr w2) := ((Kp.refl [] _).alloc _).trans hk2
                have c8 : w2.cell? ⟨wr.heap.size, 8, none⟩ = some (.slice aL els.length cL) := hk2.some (by simp [go_sem]) (by simp)
                clear hk2
                by_cases g2 : 0 ≤ r2
                · have d7 : decide (0 ≤ r2) = true := by simpa using g2
                  go_wp2_with fail
                  refine (IH.out _ P els _ r2 (HL.out.keep K2.out (by simp)) HB3.out g2 (by omega)).mono ?_
                  rintro e w3 ⟨r3, rfl, ht1, ht2, ht3, hk3⟩
                  have K3 := hide (K2.out.trans hk3)
                  clear hk3
                  go_wp2
                  go_roundw
                  case rel => exact ⟨k + 1, r3, by omega, by go_num, rfl, by omega, by omega, fun h => by have := ht3 h; have := hs3 g2; have := hr3 g1; have := HYE.out; rw [HST.out]; push_cast; omega, HK.out.trans K3.out⟩
                  case measure => simp [intOf]; omega
                · have d7 : decide (0 ≤ r2) = false := by simpa using g2
                  go_wp2
                  go_roundw
                  case rel => exact ⟨k + 1, r2, by omega, by go_num, rfl, by omega, by omega, fun h => by omega, HK.out.trans K2.out⟩
                  case measure => simp [intOf]; omega
              · have d6 : decide (0 ≤ r1) = false := by simpa using g1
                go_wp2
                go_roundw
                case rel => exact ⟨k + 1, r1, by omega, by go_num, rfl, by omega, by omega, fun h => by omega, HK.out.alloc _⟩
                case measure => simp [intOf]; omega
      · have d1 : decide ((k : Int) < (l.length : Int)) = true := by simp; omega
        have d2 : decide (0 ≤ y) = false := by simpa using hy
        go_wp2
        go_ret
        exact ⟨_, rfl, by omega, by omega, fun h => by omega, HK.out⟩
    · obtain rfl : k = l.length := by omega
      have d1 : decide ((l.length : Int) < (l.length : Int)) = false := by simp
      go_wp2
      go_ret
      refine ⟨_, rfl, by omega, by omega, fun h => ?_, HK.out⟩
      have := hy3 h
      rw [List.take_length] at this
      rw [HWE.out]
      push_cast
      omega
theorem weighStmts_any (n : Nat) : WS n := by
  induction n with
  | zero => intro w P l v x h; cases h
  | succ n ih => exact weighStmts_step n ih
end Go.Proofs.YtdbciaihnikibacGreatDoor


/- What is too great: programs. -/
namespace Go.Proofs.YtdbciaihnikibacGreatDoor
open Go.RowKit

structure LbG (n : Nat) (l : List Sx.Tr) : Prop where
  len : l.length ≤ 9223372036854775807
  each : ∀ (i : Nat) d, l[i]? = some d → LbS n (Sx.gB d) ∧ (Sx.gP d).length ≤ 9223372036854775807

def GP (n : Nat) (l : List Sx.Tr) (w : World) (e : Ending) (w' : World) : Prop := ∃ g, e = .returned (.bool g) ∧ (g = false → Sm n l) ∧ Kp [] w w'

set_option maxRecDepth 100000 in
set_option maxHeartbeats 2000000 in
theorem great_any (n : Nat) (w : World) (P : Nat → Prop) (l : List Sx.Tr) (a : Option Addr) (cap : Nat) (h : Sl (RG w P n) w P l (.slice a l.length cap)) (hb : LbG n l) :
    Calls Tryz.prog 9 #[.agg #[.slice a l.length cap]] w (GP n l w) := by
  have HS := hide h
  have hl := hb.len
  have HLB := hide hb.each
  have IH := hide (weighStmts_any n)
  clear h hb
  by_cases h100 : 100 < l.length
  · have d1 : decide ((100 : Int) < (l.length : Int)) = true := by simp; omega
    go_enter Tryz.func9, Tryz.ntmps9
    go_wp2
    go_ret
    exact ⟨true, rfl, (fun h => by simp at h), (Kp.refl _ _).alloc _⟩
  · have d1 : decide ((100 : Int) < (l.length : Int)) = false := by simp; omega
    go_enter Tryz.func9, Tryz.ntmps9
    go_wp2
    go_loopw [3, 4] (fun lv iv wr => ∃ (k : Nat) (y : Int), k ≤ l.length ∧ iv = .int .i64 k ∧ lv = .int .i64 y ∧ 0 ≤ y ∧ y ≤ 8000 ∧ y = 8000 - (Sx.sum (fun d => Sx.wS n (Sx.gB d)) (l.take k) : Nat) ∧ Hid (∀ (i : Nat) d, i < k → l[i]? = some d → (Sx.gP d).length ≤ 100) ∧ Hid (Kp [] w wr) ∧ wr.cell? ⟨w.heap.size, 0, none⟩ = some (.slice a l.length cap)) (fun _ iv _ => l.length - (intOf iv).toNat)
    case atStart => exact ⟨0, 8000, Nat.zero_le _, rfl, rfl, by omega, by omega, by simp [Sx.sum], fun i d hi => absurd hi (by omega), (Kp.refl _ _).alloc _, by simp [go_sem]⟩
    case round =>
      obtain ⟨wo, hwo⟩ : ∃ wo, wo = wr := ⟨_, rfl⟩
      subst hwo
      obtain ⟨k, y, hk, rfl, rfl, hy0, hy1, hye, HPS, HK, p0⟩ := hrel
      by_cases hlt : k < l.length
      · obtain ⟨b, off, nm, at', ps, body, uP, uB, rfl, -, hd, m0, m1, m2, m3, hP, hB⟩ := GL.nth (HS.out.keep HK.out (by simp) (fun d c h => h.keep HK.out (by simp))) k hlt
        obtain ⟨aP, cP, rfl, -⟩ := id hP
        obtain ⟨aB, cB, rfl⟩ := hB.slice
        have hst : Sx.sum (fun d => Sx.wS n (Sx.gB d)) (l.take (k + 1)) = Sx.sum (fun d => Sx.wS n (Sx.gB d)) (l.take k) + Sx.wS n body := Sx.sum_take (fun d => Sx.wS n (Sx.gB d)) l k _ hd
        have HST := hide hst
        obtain ⟨b1, b2⟩ := HLB.out k _ hd
        have HB1 : Hid (LbS n body) := b1
        have HD := hide hd
        have HP := hide hP
        have HB := hide hB
        have HYE := hide hye
        have hk0 : (0 : Int) ≤ (k : Int) := by omega
        have hk1 : (k : Int) < (l.length : Int) := by omega
        have hblt := World.block_lt_of_cell? _ _ m0
        have hblt3 := World.block_lt_of_cell? _ _ p0
        clear hst hP hB hd hye b1 b2
        by_cases hn1 : 100 < (bs nm).size
        · have d3 : decide ((100 : Int) < ((bs nm).size : Int)) = true := by simp; omega
          go_wp2
          go_ret
          exact ⟨true, rfl, (fun h => by simp at h), HK.out.alloc _⟩
        · have d3 : decide ((100 : Int) < ((bs nm).size : Int)) = false := by simp; omega
          by_cases hn2 : 100 < ps.length
          · have d4 : decide ((100 : Int) < (ps.length : Int)) = true := by simp; omega
            go_wp2
            go_ret
            exact ⟨true, rfl, (fun h => by simp at h), HK.out.alloc _⟩
          · have d4 : decide ((100 : Int) < (ps.length : Int)) = false := by simp; omega
            go_wp2
            go_loopw [6] (fun iv wr => ∃ q : Nat, q ≤ ps.length ∧ iv = .int .i64 q ∧ wr = wo.alloc (.cells #[.string (bs nm), .int .i64 at', .slice aP ps.length cP, .slice aB body.length cB] 50)) (fun iv _ => ps.length - (intOf iv).toNat)
            case atStart => exact ⟨0, Nat.zero_le _, rfl, rfl⟩
            case round =>
              obtain ⟨q, hq, rfl, rfl⟩ := hrel
              by_cases hlq : q < ps.length
              · obtain ⟨g, og, nm5, T5, rfl, -, -, s0, s1⟩ := PL.nth HP.out q hlq
                have hglt := World.block_lt_of_cell? _ _ s0
                have hq0 : (0 : Int) ≤ (q : Int) := by omega
                have hq1 : (q : Int) < (ps.length : Int) := by omega
                by_cases hn5 : 100 < (bs nm5).size
                · have d5 : decide ((100 : Int) < ((bs nm5).size : Int)) = true := by simp; omega
                  go_wp2
                  go_ret
                  exact ⟨true, rfl, (fun h => by simp at h), HK.out.alloc _⟩
                · have d5 : decide ((100 : Int) < ((bs nm5).size : Int)) = false := by simp; omega
                  by_cases hn6 : 100 < (bs T5).size
                  · have d6 : decide ((100 : Int) < ((bs T5).size : Int)) = true := by simp; omega
                    go_wp2
                    go_ret
                    exact ⟨true, rfl, (fun h => by simp at h), HK.out.alloc _⟩
                  · have d6 : decide ((100 : Int) < ((bs T5).size : Int)) = false := by simp; omega
                    go_wp2
                    go_roundw
                    case rel => exact ⟨q + 1, by omega, by go_num, by trivial⟩
                    case measure => simp [intOf]; omega
              · obtain rfl : q = ps.length := by omega
                go_wp2_with fail
                refine (IH.out _ P body _ y (HB.out.keep ((Kp.refl [] _).alloc _) (by simp)) HB1.out hy0 hy1).mono ?_
                rintro e w2 ⟨r, rfl, hr1, hr2, hr3, hk2⟩
                have K2 : Hid (Kp [] wo w2) := ((Kp.refl [] _).alloc _).trans hk2
                have q0 : w2.cell? ⟨w.heap.size, 0, none⟩ = some (.slice (some ⟨b, off, none⟩) l.length cap) := K2.out.some p0 (by simp)
                clear hk2
                by_cases g1 : r < 0
                · have d6 : decide (r < 0) = true := by simpa using g1
                  go_wp2
                  go_ret
                  exact ⟨true, rfl, (fun h => by simp at h), HK.out.trans K2.out⟩
                · have d6 : decide (r < 0) = false := by simpa using g1
                  go_wp2
                  go_roundw
                  case rel =>
                    refine ⟨k + 1, r, by omega, by go_num, rfl, by omega, by omega, ?_, ?_, HK.out.trans K2.out, q0⟩
                    · have := hr3 (by omega)
                      have := HYE.out
                      rw [HST.out]
                      push_cast
                      omega
                    · intro i d hi hd
                      by_cases hik : i < k
                      · exact HPS.out i d hik hd
                      · obtain rfl : i = k := by omega
                        have hde := Option.some.inj (hd.symm.trans HD.out)
                        rw [hde]
                        show ps.length ≤ 100
                        omega
                  case measure => simp [intOf]; omega
      · obtain rfl : k = l.length := by omega
        go_wp2
        go_ret
        refine ⟨false, rfl, fun _ => ⟨by omega, fun i d hd => ?_, ?_⟩, HK.out⟩
        · have := HPS.out i d (List.getElem?_eq_some_iff.1 hd).1 hd
          omega
        · have e : Sx.wG n l = Sx.sum (fun d => Sx.wS n (Sx.gB d)) l := rfl
          rw [List.take_length] at hye
          omega
end Go.Proofs.YtdbciaihnikibacGreatDoor

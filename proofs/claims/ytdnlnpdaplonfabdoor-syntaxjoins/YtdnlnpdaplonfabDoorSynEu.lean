import Derived.Test.YtdnlnpdaplonfabDoorSynEt
import Derived.Lib.SliceRun
/- When two programs are the same: parameters, stages, programs. -/
namespace Go.Proofs.YtdnlnpdaplonfabDoor
open Go.RowKit

theorem RP_len (d : Sx.Tr) (c : List Value) (h : RP d c) : c.length = 2 := by
  obtain ⟨nm, T, _, rfl⟩ := h
  rfl
theorem PL.nth {w : World} {P : Nat → Prop} {l : List Sx.Tr} {a : Option Addr} {cap : Nat} (h : Sl RP w P l (.slice a l.length cap)) (i : Nat) (hi : i < l.length) :
    ∃ b off nm T, a = some ⟨b, off, none⟩ ∧ P b ∧ l[i]? = some (Sx.tP nm T) ∧ w.cell? ⟨b, off + i * 2, none⟩ = some (.string (bs nm)) ∧ w.cell? ⟨b, off + i * 2 + 1, none⟩ = some (.string (bs T)) := by
  obtain ⟨a', cap', hv, h⟩ := h
  cases hv
  rcases h with h | ⟨b, off, cs, ha, hb, hr, hc⟩
  · subst h; simp at hi
  · obtain ⟨c, hR, hcu⟩ := hr.at RP_len i _ (List.getElem?_eq_getElem hi)
    obtain ⟨nm, T, hd, rfl⟩ := hR
    have hx := fun j u hu => hc _ u (hcu j u hu)
    simp only [← Nat.add_assoc] at hx
    exact ⟨b, off, nm, T, ha, hb, by rw [List.getElem?_eq_getElem hi, hd], hx 0 _ rfl, hx 1 _ rfl⟩
theorem uPar : Tryd.prog.underlying 68 = some (.struct (Tryd.prog.fieldsOf 68)) := by kernel_rfl
theorem heldPar : Tryd.prog.stoodInHeld 68 = false := by kernel_rfl
theorem bs_same (a b : List UInt8) : ((bs a).toList == (bs b).toList) = (a == b) := by
  by_cases h : a = b
  · subst h; simp
  · rw [bs_ne h]; symm; simpa using h
theorem neqP (a b c d : List UInt8) (w : World) : Sem.run Tryd.prog (binOp .neq 68 (.agg #[.string (bs a), .string (bs b)]) (.agg #[.string (bs c), .string (bs d)])) w = .ok (.bool (!((a, b) == (c, d)))) w := by
  have u9 := Tryd.underlying9
  have a9 := Tryd.isAgg9
  have z9 := Tryd.sizeOf9
  rw [run_neq_struct, show (10000 : Nat) = 9999 + 1 from rfl, run_equalIn_agg w 9999 68 _ _ uPar heldPar]
  simp only [Program.fieldsOf, Tryd.underlying68]
  have h1 := bs_same a c
  have h2 := bs_same b d
  by_cases q1 : a = c
  · by_cases q2 : b = d
    · subst q1 q2
      go_simp
    · have r2 := bs_ne q2
      subst q1
      go_simp
  · have r1 := bs_ne q1
    go_simp

def QP : Prop := ∀ (w : World) (P P2 : Nat → Prop) (l m : List Sx.Tr) (u v : Value), Sl RP w P l u → Sl RP w P2 m v → l.length ≤ 1000000000 →
  Calls Tryd.prog 61 #[u, v] w fun e w' => e = .returned (.bool (Sx.sameP l m)) ∧ ∃ j, w' = w.drewN j

set_option maxRecDepth 100000 in
set_option maxHeartbeats 1000000 in
theorem eqParam_any : QP := by
  intro w P P2 l m u v h h2 hl
  obtain ⟨a, cap, rfl, -⟩ := id h
  obtain ⟨a2, cap2, rfl, -⟩ := id h2
  have HS := hide h
  have HS2 := hide h2
  clear h h2
  by_cases hlen : l.length = m.length
  · have r1 : ((l.length : Int) != (m.length : Int)) = false := by simp; omega
    have HLEN := hide hlen
    clear hlen
    go_enter Tryd.func61, Tryd.ntmps61
    go_wp2
    go_loopw [13] (fun iv wr => ∃ k : Nat, k ≤ l.length ∧ iv = .int .i64 k ∧ Hid (Sx.sameP l m = Sx.all2 (fun a b => Sx.pH a == Sx.pH b) (l.drop k) (m.drop k)) ∧ ∃ j, wr = w.drewN j) (fun iv _ => l.length - (intOf iv).toNat)
    case atStart => exact ⟨0, Nat.zero_le _, rfl, rfl, 0, rfl⟩
    case round =>
      obtain ⟨k, hk, rfl, HE, j, rfl⟩ := hrel
      by_cases hlt : k < l.length
      · obtain ⟨b, off, nm, T, rfl, -, hd, m0, m1⟩ := PL.nth HS.out k hlt
        have hlt2 : k < m.length := by have := HLEN.out; omega
        obtain ⟨b2, off2, nm2, T2, rfl, -, hd2, n0, n1⟩ := PL.nth HS2.out k hlt2
        have hst := Sx.all2_drop (p := fun a b => Sx.pH a == Sx.pH b) hd hd2
        have HST1 : Hid (Sx.sameP l m = (((nm, T) == (nm2, T2)) && Sx.all2 (fun a b => Sx.pH a == Sx.pH b) (l.drop (k + 1)) (m.drop (k + 1)))) := HE.out.trans hst
        have hne := neqP nm T nm2 T2
        have hk0 : (0 : Int) ≤ (k : Int) := by omega
        have hk1 : (k : Int) < (l.length : Int) := by omega
        have hk2 : (k : Int) < (m.length : Int) := by omega
        clear hst hd hd2
        generalize ((nm, T) == (nm2, T2)) = Bo at *
        cases Bo with
        | true =>
          go_wp2
          go_quiet (fail)
          go_wp2
          go_roundw
          case rel => exact ⟨k + 1, by omega, by go_num, by show _ = _; rw [HST1.out, Bool.true_and], _, rfl⟩
          case measure => simp [intOf]; omega
        | false =>
          go_wp2
          go_quiet (fail)
          go_wp2
          go_ret
          exact ⟨by rw [HST1.out]; rfl, _, World.drewN_drewN _ _ _⟩
      · obtain rfl : k = l.length := by omega
        go_wp2
        go_ret
        refine ⟨?_, _, rfl⟩
        rw [HE.out, List.drop_length, HLEN.out, List.drop_length]
        rfl
  · have r1 : ((l.length : Int) != (m.length : Int)) = true := by simp; omega
    go_enter Tryd.func61, Tryd.ntmps61
    go_wp2
    go_ret
    exact ⟨by rw [show Sx.sameP l m = false from Sx.all2_len hlen]; rfl, 0, rfl⟩

set_option maxRecDepth 100000 in
set_option maxHeartbeats 1000000 in
theorem sameStage_any (n : Nat) (w : World) (P P2 : Nat → Prop) (nm nm2 : List UInt8) (at' at2 : Int) (ps ps2 body body2 : List Sx.Tr) (aP aP2 aB aB2 : Option Addr) (cP cP2 cB cB2 : Nat)
    (hP : Sl RP w P ps (.slice aP ps.length cP)) (hP2 : Sl RP w P2 ps2 (.slice aP2 ps2.length cP2)) (hB : SL w P n body (.slice aB body.length cB)) (hB2 : SL w P2 n body2 (.slice aB2 body2.length cB2)) (hl : ps.length ≤ 1000000000) (hw : Sx.wS n body ≤ 1000000000) :
    Calls Tryd.prog 37 #[.agg #[.string (bs nm), .int .i64 at', .slice aP ps.length cP, .slice aB body.length cB], .agg #[.string (bs nm2), .int .i64 at2, .slice aP2 ps2.length cP2, .slice aB2 body2.length cB2]] w fun e w' =>
      e = .returned (.bool (nm == nm2 && Sx.sameP ps ps2 && Sx.sameS n body body2)) ∧ Kp [] w w' := by
  have HSB := hide (sameBlock_of n (eqStmt_any n))
  have HEP := hide eqParam_any
  have HP := hide hP
  have HP2 := hide hP2
  have HB := hide hB
  have HB2 := hide hB2
  clear hP hP2 hB hB2
  by_cases q1 : nm = nm2
  · subst q1
    generalize hx : Sx.sameP ps ps2 = X at *
    have HX := hide hx
    clear hx
    go_enter Tryd.func37, Tryd.ntmps37
    go_wp2_with fail
    refine (HEP.out _ P P2 ps ps2 _ _ (HP.out.keep (((Kp.refl [] _).alloc _).alloc _) (by simp) (fun _ _ h => h)) (HP2.out.keep (((Kp.refl [] _).alloc _).alloc _) (by simp) (fun _ _ h => h)) hl).mono ?_
    rintro e w1 ⟨rfl, jj, rfl⟩
    rw [HX.out]
    cases X with
    | false =>
      go_wp2
      go_ret
      exact ⟨by simp, (((Kp.refl [] _).alloc _).alloc _).drewN _⟩
    | true =>
      go_wp2_with fail
      refine (HSB.out _ P P2 body body2 _ _ (HB.out.keep ((((Kp.refl [] _).alloc _).alloc _).drewN _) (by simp)) (HB2.out.keep ((((Kp.refl [] _).alloc _).alloc _).drewN _) (by simp)) hw).mono ?_
      rintro e w2 ⟨rfl, hk⟩
      go_wp2
      go_ret
      exact ⟨by simp, ((((Kp.refl [] _).alloc _).alloc _).drewN _).trans hk⟩
  · have r1 := bs_ne q1
    go_enter Tryd.func37, Tryd.ntmps37
    go_wp2
    go_ret
    exact ⟨by simp [q1], ((Kp.refl [] _).alloc _).alloc _⟩

theorem wG_nth (n : Nat) (l : List Sx.Tr) (hw : Sx.wG n l ≤ 1000000000) : ∀ (i : Nat) d, l[i]? = some d → Sx.wS n (Sx.gB d) ≤ 1000000000 := fun i d hd => by
  have h1 : Sx.sum (fun d => Sx.wS n (Sx.gB d)) (l.take (i + 1)) = Sx.sum (fun d => Sx.wS n (Sx.gB d)) (l.take i) + Sx.wS n (Sx.gB d) := Sx.sum_take _ l i d hd
  have h2 := Sx.sum_take_le (fun d => Sx.wS n (Sx.gB d)) l (i + 1)
  have : Sx.sum (fun d => Sx.wS n (Sx.gB d)) l = Sx.wG n l := rfl
  omega
/-- A program that is not too great. -/
structure Sm (n : Nat) (l : List Sx.Tr) : Prop where
  len : l.length ≤ 1000000
  ps : ∀ (i : Nat) d, l[i]? = some d → (Sx.gP d).length ≤ 1000000
  w : Sx.wG n l ≤ 1000000

set_option maxRecDepth 100000 in
set_option maxHeartbeats 2000000 in
theorem eqStage_any (n : Nat) (w : World) (P P2 : Nat → Prop) (l m : List Sx.Tr) (a a2 : Option Addr) (cap cap2 : Nat) (h : Sl (RG w P n) w P l (.slice a l.length cap)) (h2 : Sl (RG w P2 n) w P2 m (.slice a2 m.length cap2)) (hs : Sm n l) :
    Calls Tryd.prog 36 #[.slice a l.length cap, .slice a2 m.length cap2, .func (.func 37) #[] #[]] w fun e w' => e = .returned (.bool (Sx.sameG n l m)) ∧ Kp [] w w' := by
  have HS := hide h
  have HS2 := hide h2
  have IH := hide (sameStage_any n)
  have hl : l.length ≤ 1000000000 := by have := hs.len; omega
  have HWT := hide (wG_nth n l (by have := hs.w; omega))
  have HPS := hide hs.ps
  clear h h2 hs
  by_cases hlen : l.length = m.length
  · have r1 : ((l.length : Int) != (m.length : Int)) = false := by simp; omega
    have HLEN := hide hlen
    clear hlen
    go_enter Tryd.func36, Tryd.ntmps36
    go_wp2
    go_loopw [17] (fun iv wr => ∃ k : Nat, k ≤ l.length ∧ iv = .int .i64 k ∧ Hid (Sx.sameG n l m = Sx.all2 (fun a b => Sx.gN a == Sx.gN b && Sx.sameP (Sx.gP a) (Sx.gP b) && Sx.sameS n (Sx.gB a) (Sx.gB b)) (l.drop k) (m.drop k)) ∧ Hid (Kp [] w wr)) (fun iv _ => l.length - (intOf iv).toNat)
    case atStart => exact ⟨0, Nat.zero_le _, rfl, rfl, Kp.refl _ _⟩
    case round =>
      obtain ⟨k, hk, rfl, HE, HK⟩ := hrel
      by_cases hlt : k < l.length
      · obtain ⟨b, off, nm, at', ps, body, uP, uB, rfl, -, hd, m0, m1, m2, m3, hP, hB⟩ := GL.nth (HS.out.keep HK.out (by simp) (fun d c h => h.keep HK.out (by simp))) k hlt
        have hlt2 : k < m.length := by have := HLEN.out; omega
        obtain ⟨b2, off2, nm2, at2, ps2, body2, uP2, uB2, rfl, -, hd2, n0, n1, n2, n3, hP2, hB2⟩ := GL.nth (HS2.out.keep HK.out (by simp) (fun d c h => h.keep HK.out (by simp))) k hlt2
        obtain ⟨aP, cP, rfl, -⟩ := id hP
        obtain ⟨aB, cB, rfl⟩ := hB.slice
        obtain ⟨aP2, cP2, rfl, -⟩ := id hP2
        obtain ⟨aB2, cB2, rfl⟩ := hB2.slice
        have hwt : Sx.wS n body ≤ 1000000000 := HWT.out k _ hd
        have hps : ps.length ≤ 1000000 := HPS.out k _ hd
        have hst := Sx.all2_drop (p := fun a b => Sx.gN a == Sx.gN b && Sx.sameP (Sx.gP a) (Sx.gP b) && Sx.sameS n (Sx.gB a) (Sx.gB b)) hd hd2
        have HST1 : Hid (Sx.sameG n l m = ((nm == nm2 && Sx.sameP ps ps2 && Sx.sameS n body body2) && Sx.all2 (fun a b => Sx.gN a == Sx.gN b && Sx.sameP (Sx.gP a) (Sx.gP b) && Sx.sameS n (Sx.gB a) (Sx.gB b)) (l.drop (k + 1)) (m.drop (k + 1)))) := HE.out.trans hst
        have HCP := hide hP
        have HCB := hide hB
        have HCP2 := hide hP2
        have HCB2 := hide hB2
        have hblt := World.block_lt_of_cell? _ _ m0
        have hblt2 := World.block_lt_of_cell? _ _ n0
        clear hst hP hB hP2 hB2 hd hd2
        go_wp2_with fail
        refine (IH.out _ P P2 nm nm2 at' at2 ps ps2 body body2 aP aP2 aB aB2 cP cP2 cB cB2 (HCP.out.keep (((Kp.refl [] _).alloc _).alloc _) (by simp) (fun _ _ h => h)) (HCP2.out.keep (((Kp.refl [] _).alloc _).alloc _) (by simp) (fun _ _ h => h)) (HCB.out.keep (((Kp.refl [] _).alloc _).alloc _) (by simp)) (HCB2.out.keep (((Kp.refl [] _).alloc _).alloc _) (by simp)) (by omega) hwt).mono ?_
        rintro e w1 ⟨rfl, hk1⟩
        have K1 : Hid (Kp [] w w1) := HK.out.trans ((((Kp.refl [] _).alloc _).alloc _).trans hk1)
        clear hk1
        generalize (nm == nm2 && Sx.sameP ps ps2 && Sx.sameS n body body2) = Bo at *
        cases Bo with
        | true =>
          go_wp2
          go_roundw
          case rel => exact ⟨k + 1, by omega, by go_num, by show _ = _; rw [HST1.out, Bool.true_and], K1.out⟩
          case measure => simp [intOf]; omega
        | false =>
          go_wp2
          go_ret
          exact ⟨by rw [HST1.out]; rfl, K1.out⟩
      · obtain rfl : k = l.length := by omega
        go_wp2
        go_ret
        refine ⟨?_, HK.out⟩
        rw [HE.out, List.drop_length, HLEN.out, List.drop_length]
        rfl
  · have r1 : ((l.length : Int) != (m.length : Int)) = true := by simp; omega
    go_enter Tryd.func36, Tryd.ntmps36
    go_wp2
    go_ret
    exact ⟨by rw [show Sx.sameG n l m = false from Sx.all2_len hlen]; rfl, Kp.refl _ _⟩

set_option maxRecDepth 100000 in
set_option maxHeartbeats 400000 in
theorem same_any (n : Nat) (w : World) (P P2 : Nat → Prop) (l m : List Sx.Tr) (a a2 : Option Addr) (cap cap2 : Nat) (h : Sl (RG w P n) w P l (.slice a l.length cap)) (h2 : Sl (RG w P2 n) w P2 m (.slice a2 m.length cap2)) (hs : Sm n l) :
    Calls Tryd.prog 17 #[.agg #[.slice a l.length cap], .agg #[.slice a2 m.length cap2]] w fun e w' => e = .returned (.bool (Sx.sameG n l m)) ∧ Kp [] w w' := by
  have H := hide (fun w' (hk : Kp [] w w') => eqStage_any n w' P P2 l m a a2 cap cap2 (h.keep hk (by simp) (fun d c h => h.keep hk (by simp))) (h2.keep hk (by simp) (fun d c h => h.keep hk (by simp))) hs)
  clear h h2
  go_enter Tryd.func17, Tryd.ntmps17
  go_wp2_with fail
  refine (H.out _ (((Kp.refl [] _).alloc _).alloc _)).mono ?_
  rintro e w1 ⟨rfl, hk⟩
  go_wp2
  go_ret
  exact ⟨rfl, (((Kp.refl [] _).alloc _).alloc _).trans hk⟩
end Go.Proofs.YtdnlnpdaplonfabDoor

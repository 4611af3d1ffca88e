import Derived.Test.YtllgphjgadmmaaaRgD
import Derived.Deep.Cut
import Derived.Deep.CutRange
import Derived.BigRegion
import Derived.BigQuiet
import Derived.Deep.RegionLaw
/- Rings: a round of the law RingDoes. -/
namespace Go.Proofs.Ytllgphjgadmmaaa
open Go.RowKit

set_option maxRecDepth 100000 in
set_option maxHeartbeats 4000000 in
theorem g_put {RI : (Nat → Prop) → World → Nat → Nat → List Int → Prop} (C : RingOK RI) (w1 wr : World) (u : Nat → Value) (gP oP n cv br bm bs : Nat) (p s : Nat → Nat) (F : Nat → Nat → Prop) (M : Nat → List Int) (V : Nat → Value) (i : Nat) (P0 : List PanicEntry → Act → World → Prop) (Q1 : Exit → Act → World → Prop) (hlt : i < n) (hn : n ≤ 500) (hu : u 10 = .int .i64 i) (xd xn : Int) (xo : Bool)
    (X0 : Hid (w1.cell? ⟨gP, oP + i * 3, none⟩ = some (.int .i64 xd))) (X1 : Hid (w1.cell? ⟨gP, oP + i * 3 + 1, none⟩ = some (.int .i64 xn))) (X2 : Hid (w1.cell? ⟨gP, oP + i * 3 + 2, none⟩ = some (.bool xo)))
    (HLS : Hid (LS RI w1 br bm bs wr p s F M M V)) (HLn : Hid (∀ k, (M k).length ≤ i))
    (q : Nat) (hq : wrap64 ((IntKind.u64.wrap xd).tmod 9) = (q : Int)) (q4 : q < 4) :
    Code.wp Try.prog gbody (Exit.then (fun a' w'' => GI RI w1 (some ⟨gP, oP, none⟩) n cv br bm bs p s a' w'' ∧ Gmu n a' w'' < Gmu n (gframe (some ⟨gP, oP, none⟩) n cv br bm bs u) wr) (qmix P0 Q1)) (gframe (some ⟨gP, oP, none⟩) n cv br bm bs u) wr := by
  have x0 := bsome HLS.out.bl X0.out
  have x1 := bsome HLS.out.bl X1.out
  have x2 := bsome HLS.out.bl X2.out
  have HC := hide C
  clear C
  have d1 : decide ((i : Int) < (n : Int)) = true := by simp; omega
  have i0 : (0 : Int) ≤ (i : Int) := by omega
  have i1 : (i : Int) < (n : Int) := by omega
  conv => arg 2; whnf
  unfold gframe
  go_upto_if 45 with fail
  go_cut [11] from 35 to 209 (fun v11 wx => ∃ k : Nat, k < 2 ∧ v11 = .int .i64 (k : Int) ∧ wx = wr)
  case first =>
    cases xo with
    | true =>
      go_wp2
      go_meet
      case rel => exact ⟨1, by decide, rfl, rfl⟩
    | false =>
      go_wp2
      go_meet
      case rel => exact ⟨0, by decide, rfl, rfl⟩
  case rest =>
    obtain ⟨k, hk, rfl, hwx⟩ := hcut
    subst wc
    have hM := HLn.out k
    obtain ⟨fb, hfb⟩ : ∃ fb, fullR (s k) (M k) = fb := ⟨_, rfl⟩
    have HFb := hide hfb
    clear hfb
    have hc1 := HLS.out.rc k hk
    have hc2 := HLS.out.sc k hk
    have hc3 := HLS.out.mc k hk
    obtain ⟨va, vc, hv⟩ := (HLS.out.row k hk).form
    rw [hv] at hc3
    have HV := hide hv
    have k0 : (0 : Int) ≤ (k : Int) := by omega
    have k1 : (k : Int) < 2 := by omega
    clear hv
    go_upto_region 15 with fail
    go_cut [13] from 35 to 209 (fun v13 wx => v13 = .bool fb ∧ Hid (Below wr.heap.size wr wx))
    case first =>
      have hfr := HFb.out
      unfold fullR at hfr
      by_cases hs0 : 0 < s k
      · have e1 : decide ((0 : Int) < ((s k : Nat) : Int)) = true := by simp; omega
        have e1' : decide (0 < s k) = true := by simp; omega
        rw [e1', Bool.true_and] at hfr
        have e2 : decide (((s k : Nat) : Int) ≤ ((M k).length : Int)) = fb := by rw [← hfr]; rw [Bool.eq_iff_iff]; simp
        clear e1'
        go_wp2
        go_quiet (fail)
        go_wp2
        go_meet
        case rel => exact ⟨by first | rfl | rw [e2] | rw [hfr], hide (below_drewN (Below.refl _ _) _)⟩
      · have e1 : decide ((0 : Int) < ((s k : Nat) : Int)) = false := by simp; omega
        have e1' : decide (0 < s k) = false := by simp; omega
        rw [e1', Bool.false_and] at hfr
        subst hfr
        go_wp2
        go_quiet (fail)
        go_wp2
        go_meet
        case rel => exact ⟨rfl, hide (below_drewN (Below.refl _ _) _)⟩
    case rest =>
      obtain ⟨rfl, HB2⟩ := hcut
      have HL2 := hide (HLS.out.keep HC.out HB2.out)
      have y0 := bsome HB2.out x0
      have y1 := bsome HB2.out x1
      have hc1 := HL2.out.rc k hk
      have hc2 := HL2.out.sc k hk
      have hc3 := HL2.out.mc k hk
      rw [HV.out] at hc3
      have HB1 := hide HLS.out.bl
      clear x0 x1 x2 HLS
      have CS := hide (fun m => HC.out.slots (HC.out.keep (HL2.out.ri k hk) ((Kx.refl _ wc).drewN m)))
      have CL := hide (fun m => HC.out.len (HC.out.keep (HL2.out.ri k hk) ((Kx.refl _ wc).drewN m)))
      have CF := hide (fun m => HC.out.ful (HC.out.keep (HL2.out.ri k hk) ((Kx.refl _ wc).drewN m)))
      rw [HFb.out] at CF
      have dn : (((s k : Nat) : Int) != ((s k : Nat) : Int)) = false := by simp
      have dl : (((M k).length : Int) != ((M k).length : Int)) = false := by simp
      have db : (fb != fb) = false := by simp
      go_wp2
      go_quiet (first | (go_at_call 7; exact Calls.quiet_of_same (CS.out _)) | (go_at_call 8; exact Calls.quiet_of_same (CL.out _)) | (go_at_call 9; exact Calls.quiet_of (CF.out _)))
      rename_i nq
      obtain ⟨W, hW⟩ : ∃ W, wc.drewN nq = W := ⟨_, rfl⟩
      have HL3 := hide (HL2.out.keep HC.out (below_drewN (Below.refl _ _) nq))
      rw [hW] at HL3 ⊢
      clear hW CS CL CF HL2 HB2 dn dl db hc1 hc2 hc3 y0 y1 HB1
      have y0 := bsome HL3.out.bl X0.out
      have y1 := bsome HL3.out.bl X1.out
      have hc3 := HL3.out.mc k hk
      rw [HV.out] at hc3
      have b4 : decide ((q : Int) < 4) = true := by simp; omega
      have CP := hide (HC.out.put xn (HL3.out.ri k hk) (by omega))
      rw [HFb.out] at CP
      go_wp2_with fail
      refine CP.out.mono ?_
      rintro e w5 ⟨rfl, F', hr5, hk5, hf5⟩
      have HL5 := hide (HL3.out.ring HC.out hk hr5 hk5 hf5)
      clear hr5 hk5 hf5 CP y0 y1 hc3
      have y1 := bsome HL5.out.bl X1.out
      have hc3 := HL5.out.mc k hk
      rw [HV.out] at hc3
      cases fb with
      | true =>
        have HL6 := HL5.out
        rw [if_pos rfl, upd_id] at HL6
        have HL7 := hide HL6
        clear HL6 HL5
        go_wp2
        refine ⟨gi_mk _ _ rfl ⟨i + 1, _, _, _, by omega, by show _ = _; go_num, HL7, hide (fun j => Nat.le_succ_of_le (HLn.out j))⟩, ?_⟩
        simp [Gmu, intOf, hu]
        omega
      | false =>
        have HL6 := HL5.out
        rw [if_neg (by decide)] at HL6
        have HL7 := hide HL6
        have HL8 := hide (HL6.keep HC.out (w' := (w5.alloc (.cells #[.int .i64 xn] 3)).drew) (below_drewN ((Below.refl _ _).alloc (Nat.le_refl _) _) 1))
        clear HL6 HL5
        have HE7 : Hid ((M k ++ [xn]).length = (M k).length + 1) := hide (by simp)
        have HRW : Hid (OR (w5.alloc (.cells #[.int .i64 xn] 3)).drew (.slice va (M k).length vc) (M k)) := hide (by have h := HL8.out.row k hk; rw [HV.out] at h; exact h)
        have HCN : Hid ((w5.alloc (.cells #[.int .i64 xn] 3)).drew.cell? ⟨w5.heap.size, 0, none⟩ = some (.int .i64 xn)) := hide (by simp [go_sem])
        have hb3 : Below w5.heap.size w5 (w5.alloc (.cells #[.int .i64 xn] 3)) := (Below.refl _ _).alloc (Nat.le_refl _) _
        have y1a := bsome hb3 y1
        have hc3a := bsome hb3 hc3
        clear hb3
        go_wp2
        go_region_law ((refine step_push rfl _ _ rfl rfl HRW.out (by rfl) xn ⟨w5.heap.size, 0, none⟩ (by rfl) HCN.out (by omega) ?_; intro v7 w7 hor hkx hat; obtain ⟨a7, c7, rfl⟩ := hor.form; rw [HE7.out] at hor hat; have hL9 := HL8.out.rows HC.out hk (w1 := w7) (v' := .slice a7 ((M k).length + 1) c7) (L := M k ++ [xn]) hor (by rw [HV.out]; exact hkx) (.inr (by rw [HV.out]; exact hat)); have hnb : ∀ b, b = bm → some b ≠ (V k).ownBlock := (fun b hb e => (HL8.out.vo k b hk e.symm).2.2.1 hb); have z3 : w7.cell? ⟨bm, k, none⟩ = some (.slice va (M k).length vc) := hkx.cell (p := ⟨bm, k, none⟩) (by exact hc3a) (by rw [← HV.out]; exact hnb bm rfl); have zf : w7.frozen? ⟨bm, k, none⟩ = false := (hkx.frozen (p := ⟨bm, k, none⟩) HL8.out.lts.2.1 (by rw [← HV.out]; exact hnb bm rfl)).trans (HL8.out.mt k); have HL9 := hide hL9; clear hL9 hnb hor hkx hat))
        all_goals
          go_wp2
          refine ⟨gi_mk _ _ rfl ⟨i + 1, _, _, _, by omega, by show _ = _; go_num, HL9, hide (fun j => ?_)⟩, ?_⟩
          · unfold upd
            split
            · rw [List.length_append]; have := HLn.out k; simp; omega
            · exact Nat.le_succ_of_le (HLn.out j)
          · simp [Gmu, intOf, hu]
            omega
end Go.Proofs.Ytllgphjgadmmaaa

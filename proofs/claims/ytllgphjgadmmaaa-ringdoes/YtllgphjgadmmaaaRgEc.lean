import Derived.Test.YtllgphjgadmmaaaRgD
import Derived.Deep.Cut
import Derived.Deep.CutRange
import Derived.BigRegion
import Derived.BigQuiet
import Derived.Deep.RegionLaw
/- Rings: a round of the law RingDoes. -/
namespace Go.Proofs.Ytllgphjgadmmaaa
open Go.RowKit

set_option maxRecDepth 100000 in
set_option maxHeartbeats 4000000 in
theorem g_clear {RI : (Nat → Prop) → World → Nat → Nat → List Int → Prop} (C : RingOK RI) (w1 wr : World) (u : Nat → Value) (gP oP n cv br bm bs : Nat) (p s : Nat → Nat) (F : Nat → Nat → Prop) (M : Nat → List Int) (V : Nat → Value) (i : Nat) (P0 : List PanicEntry → Act → World → Prop) (Q1 : Exit → Act → World → Prop) (hlt : i < n) (hn : n ≤ 500) (hu : u 10 = .int .i64 i) (xd xn : Int) (xo : Bool)
    (X0 : Hid (w1.cell? ⟨gP, oP + i * 3, none⟩ = some (.int .i64 xd))) (X1 : Hid (w1.cell? ⟨gP, oP + i * 3 + 1, none⟩ = some (.int .i64 xn))) (X2 : Hid (w1.cell? ⟨gP, oP + i * 3 + 2, none⟩ = some (.bool xo)))
    (HLS : Hid (LS RI w1 br bm bs wr p s F M M V)) (HLn : Hid (∀ k, (M k).length ≤ i))
    (q : Nat) (hq : wrap64 ((IntKind.u64.wrap xd).tmod 9) = (q : Int)) (q8 : q = 8) :
    Code.wp Try.prog gbody (Exit.then (fun a' w'' => GI RI w1 (some ⟨gP, oP, none⟩) n cv br bm bs p s a' w'' ∧ Gmu n a' w'' < Gmu n (gframe (some ⟨gP, oP, none⟩) n cv br bm bs u) wr) (qmix P0 Q1)) (gframe (some ⟨gP, oP, none⟩) n cv br bm bs u) wr := by
  have x0 := bsome HLS.out.bl X0.out
  have x1 := bsome HLS.out.bl X1.out
  have x2 := bsome HLS.out.bl X2.out
  have HC := hide C
  clear C
  have d1 : decide ((i : Int) < (n : Int)) = true := by simp; omega
  have i0 : (0 : Int) ≤ (i : Int) := by omega
  have i1 : (i : Int) < (n : Int) := by omega
  conv => arg 2; whnf
  unfold gframe
  go_upto_if 45 with fail
  go_cut [11] from 35 to 209 (fun v11 wx => ∃ k : Nat, k < 2 ∧ v11 = .int .i64 (k : Int) ∧ wx = wr)
  case first =>
    cases xo with
    | true =>
      go_wp2
      go_meet
      case rel => exact ⟨1, by decide, rfl, rfl⟩
    | false =>
      go_wp2
      go_meet
      case rel => exact ⟨0, by decide, rfl, rfl⟩
  case rest =>
    obtain ⟨k, hk, rfl, hwx⟩ := hcut
    subst wc
    have hM := HLn.out k
    obtain ⟨fb, hfb⟩ : ∃ fb, fullR (s k) (M k) = fb := ⟨_, rfl⟩
    have HFb := hide hfb
    clear hfb
    have hc1 := HLS.out.rc k hk
    have hc2 := HLS.out.sc k hk
    have hc3 := HLS.out.mc k hk
    obtain ⟨va, vc, hv⟩ := (HLS.out.row k hk).form
    rw [hv] at hc3
    have HV := hide hv
    have k0 : (0 : Int) ≤ (k : Int) := by omega
    have k1 : (k : Int) < 2 := by omega
    clear hv
    go_upto_region 15 with fail
    go_cut [13] from 35 to 209 (fun v13 wx => v13 = .bool fb ∧ Hid (Below wr.heap.size wr wx))
    case first =>
      have hfr := HFb.out
      unfold fullR at hfr
      by_cases hs0 : 0 < s k
      · have e1 : decide ((0 : Int) < ((s k : Nat) : Int)) = true := by simp; omega
        have e1' : decide (0 < s k) = true := by simp; omega
        rw [e1', Bool.true_and] at hfr
        have e2 : decide (((s k : Nat) : Int) ≤ ((M k).length : Int)) = fb := by rw [← hfr]; rw [Bool.eq_iff_iff]; simp
        clear e1'
        go_wp2
        go_quiet (fail)
        go_wp2
        go_meet
        case rel => exact ⟨by first | rfl | rw [e2] | rw [hfr], hide (below_drewN (Below.refl _ _) _)⟩
      · have e1 : decide ((0 : Int) < ((s k : Nat) : Int)) = false := by simp; omega
        have e1' : decide (0 < s k) = false := by simp; omega
        rw [e1', Bool.false_and] at hfr
        subst hfr
        go_wp2
        go_quiet (fail)
        go_wp2
        go_meet
        case rel => exact ⟨rfl, hide (below_drewN (Below.refl _ _) _)⟩
    case rest =>
      obtain ⟨rfl, HB2⟩ := hcut
      have HL2 := hide (HLS.out.keep HC.out HB2.out)
      have y0 := bsome HB2.out x0
      have y1 := bsome HB2.out x1
      have hc1 := HL2.out.rc k hk
      have hc2 := HL2.out.sc k hk
      have hc3 := HL2.out.mc k hk
      rw [HV.out] at hc3
      have HB1 := hide HLS.out.bl
      clear x0 x1 x2 HLS
      have CS := hide (fun m => HC.out.slots (HC.out.keep (HL2.out.ri k hk) ((Kx.refl _ wc).drewN m)))
      have CL := hide (fun m => HC.out.len (HC.out.keep (HL2.out.ri k hk) ((Kx.refl _ wc).drewN m)))
      have CF := hide (fun m => HC.out.ful (HC.out.keep (HL2.out.ri k hk) ((Kx.refl _ wc).drewN m)))
      rw [HFb.out] at CF
      have dn : (((s k : Nat) : Int) != ((s k : Nat) : Int)) = false := by simp
      have dl : (((M k).length : Int) != ((M k).length : Int)) = false := by simp
      have db : (fb != fb) = false := by simp
      go_wp2
      go_quiet (first | (go_at_call 7; exact Calls.quiet_of_same (CS.out _)) | (go_at_call 8; exact Calls.quiet_of_same (CL.out _)) | (go_at_call 9; exact Calls.quiet_of (CF.out _)))
      rename_i nq
      obtain ⟨W, hW⟩ : ∃ W, wc.drewN nq = W := ⟨_, rfl⟩
      have HL3 := hide (HL2.out.keep HC.out (below_drewN (Below.refl _ _) nq))
      rw [hW] at HL3 ⊢
      clear hW CS CL CF HL2 HB2 dn dl db hc1 hc2 hc3 y0 y1 HB1
      have y0 := bsome HL3.out.bl X0.out
      have y1 := bsome HL3.out.bl X1.out
      have hc3 := HL3.out.mc k hk
      rw [HV.out] at hc3
      have b4 : decide ((q : Int) < 4) = false := by simp; omega
      have b7 : decide ((q : Int) < 7) = false := by simp; omega
      have b8 : ((q : Int) == 7) = false := by simp; omega
      clear q8
      go_upto_region 19 with fail
      have CC : Hid (Calls Try.prog 14 #[.pointer (some ⟨p k, 0, none⟩)] W.drew fun e w' => ∃ v, e = .returned v ∧ (IR w' v (M k) ∧ ∃ F' : Nat → Prop, RI F' w' (p k) (s k) [] ∧ Kx (fun b => ¬ F k b) W.drew w' ∧ ∀ b, F' b → F k b ∨ W.drew.heap.size ≤ b)) := hide (HC.out.clear (HC.out.keep (HL3.out.ri k hk) ((Kx.refl _ W).drewN 1)) (by omega))
      have HL4 := hide (HL3.out.keep HC.out (below_drewN (Below.refl _ _) 1 : Below W.heap.size W W.drew))
      rw [hq]
      go_cut [105] from 35 to 209 (fun v105 wx => v105 = .bool false ∧ ∃ F' : Nat → Prop, Hid (LS RI w1 br bm bs wx p s (upd F k F') (upd M k []) M V))
      case first =>
        go_region_law ((first
          | (have hdo := HSM; clear hdo; refine step_call_ex rfl 13 #[v5, .slice va (M k).length vc] ?_ HSM.out ?_; (focus (go_simp; done)); rintro v6 w6 ⟨rfl, hb6⟩; have HL6 := hide (HL5.out.keep HC.out hb6); clear hb6)
          | (refine step_call_ex rfl 14 #[.pointer (some ⟨p k, 0, none⟩)] ?_ CC.out ?_; (focus (go_simp; done)); rintro v5 w5 ⟨hi5, F', hr5, hk5, hf5⟩; have HL5 := hide (HL4.out.ring HC.out hk hr5 hk5 hf5); have hc5 := HL5.out.mc k hk; rw [HV.out] at hc5; have HSM : Hid (Calls Try.prog 13 #[v5, .slice va (M k).length vc] w5 fun e w' => ∃ v, e = .returned v ∧ (v = .bool true ∧ Below w5.heap.size w5 w')) := hide ((same_any (M k) _ _ w5 (by omega) hi5 (by have h := (HL5.out.row k hk).ir; rw [HV.out] at h; exact h)).mono (fun e w' h => ⟨_, h.1, rfl, h.2⟩)); clear hi5 hr5 hk5 hf5)))
        all_goals
          go_wp2
          go_meet
          case rel => exact ⟨rfl, F', HL6⟩
      case rest =>
        obtain ⟨rfl, F', HL5⟩ := hcut
        have hc5 := HL5.out.mc k hk
        rw [HV.out] at hc5
        have zf := HL5.out.mt k
        have HL6 := hide (HL5.out.rows HC.out hk (w1 := wc) (v' := .slice none 0 0) (L := []) (.inl ⟨rfl, rfl⟩) (Kx.refl _ _) (.inl rfl))
        clear HL5 CC HL4
        go_wp2
        refine ⟨gi_mk _ _ rfl ⟨i + 1, _, _, _, by omega, by show _ = _; go_num, HL6, hide (fun j => ?_)⟩, ?_⟩
        · unfold upd
          split
          · exact Nat.zero_le _
          · exact Nat.le_succ_of_le (HLn.out j)
        · simp [Gmu, intOf, hu]
          omega
end Go.Proofs.Ytllgphjgadmmaaa

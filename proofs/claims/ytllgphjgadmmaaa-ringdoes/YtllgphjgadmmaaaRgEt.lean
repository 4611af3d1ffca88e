import Derived.Test.YtllgphjgadmmaaaRgD
import Derived.Deep.Cut
import Derived.Deep.CutRange
import Derived.BigRegion
import Derived.BigQuiet
import Derived.Deep.RegionLaw
/- Rings: a round of the law RingDoes. -/
namespace Go.Proofs.Ytllgphjgadmmaaa
open Go.RowKit

set_option maxRecDepth 100000 in
set_option maxHeartbeats 4000000 in
theorem g_take {RI : (Nat → Prop) → World → Nat → Nat → List Int → Prop} (C : RingOK RI) (w1 wr : World) (u : Nat → Value) (gP oP n cv br bm bs : Nat) (p s : Nat → Nat) (F : Nat → Nat → Prop) (M : Nat → List Int) (V : Nat → Value) (i : Nat) (P0 : List PanicEntry → Act → World → Prop) (Q1 : Exit → Act → World → Prop) (hlt : i < n) (hn : n ≤ 500) (hu : u 10 = .int .i64 i) (xd xn : Int) (xo : Bool)
    (X0 : Hid (w1.cell? ⟨gP, oP + i * 3, none⟩ = some (.int .i64 xd))) (X1 : Hid (w1.cell? ⟨gP, oP + i * 3 + 1, none⟩ = some (.int .i64 xn))) (X2 : Hid (w1.cell? ⟨gP, oP + i * 3 + 2, none⟩ = some (.bool xo)))
    (HLS : Hid (LS RI w1 br bm bs wr p s F M M V)) (HLn : Hid (∀ k, (M k).length ≤ i))
    (q : Nat) (hq : wrap64 ((IntKind.u64.wrap xd).tmod 9) = (q : Int)) (q4 : 4 ≤ q) (q7 : q < 7) :
    Code.wp Try.prog gbody (Exit.then (fun a' w'' => GI RI w1 (some ⟨gP, oP, none⟩) n cv br bm bs p s a' w'' ∧ Gmu n a' w'' < Gmu n (gframe (some ⟨gP, oP, none⟩) n cv br bm bs u) wr) (qmix P0 Q1)) (gframe (some ⟨gP, oP, none⟩) n cv br bm bs u) wr := by
  have x0 := bsome HLS.out.bl X0.out
  have x1 := bsome HLS.out.bl X1.out
  have x2 := bsome HLS.out.bl X2.out
  have HC := hide C
  clear C
  have d1 : decide ((i : Int) < (n : Int)) = true := by simp; omega
  have i0 : (0 : Int) ≤ (i : Int) := by omega
  have i1 : (i : Int) < (n : Int) := by omega
  conv => arg 2; whnf
  unfold gframe
  go_upto_if 45 with fail
  go_cut [11] from 35 to 209 (fun v11 wx => ∃ k : Nat, k < 2 ∧ v11 = .int .i64 (k : Int) ∧ wx = wr)
  case first =>
    cases xo with
    | true =>
      go_wp2
      go_meet
      case rel => exact ⟨1, by decide, rfl, rfl⟩
    | false =>
      go_wp2
      go_meet
      case rel => exact ⟨0, by decide, rfl, rfl⟩
  case rest =>
    obtain ⟨k, hk, rfl, hwx⟩ := hcut
    subst wc
    have hM := HLn.out k
    obtain ⟨fb, hfb⟩ : ∃ fb, fullR (s k) (M k) = fb := ⟨_, rfl⟩
    have HFb := hide hfb
    clear hfb
    have hc1 := HLS.out.rc k hk
    have hc2 := HLS.out.sc k hk
    have hc3 := HLS.out.mc k hk
    obtain ⟨va, vc, hv⟩ := (HLS.out.row k hk).form
    rw [hv] at hc3
    have HV := hide hv
    have k0 : (0 : Int) ≤ (k : Int) := by omega
    have k1 : (k : Int) < 2 := by omega
    clear hv
    go_upto_region 15 with fail
    go_cut [13] from 35 to 209 (fun v13 wx => v13 = .bool fb ∧ Hid (Below wr.heap.size wr wx))
    case first =>
      have hfr := HFb.out
      unfold fullR at hfr
      by_cases hs0 : 0 < s k
      · have e1 : decide ((0 : Int) < ((s k : Nat) : Int)) = true := by simp; omega
        have e1' : decide (0 < s k) = true := by simp; omega
        rw [e1', Bool.true_and] at hfr
        have e2 : decide (((s k : Nat) : Int) ≤ ((M k).length : Int)) = fb := by rw [← hfr]; rw [Bool.eq_iff_iff]; simp
        clear e1'
        go_wp2
        go_quiet (fail)
        go_wp2
        go_meet
        case rel => exact ⟨by first | rfl | rw [e2] | rw [hfr], hide (below_drewN (Below.refl _ _) _)⟩
      · have e1 : decide ((0 : Int) < ((s k : Nat) : Int)) = false := by simp; omega
        have e1' : decide (0 < s k) = false := by simp; omega
        rw [e1', Bool.false_and] at hfr
        subst hfr
        go_wp2
        go_quiet (fail)
        go_wp2
        go_meet
        case rel => exact ⟨rfl, hide (below_drewN (Below.refl _ _) _)⟩
    case rest =>
      obtain ⟨rfl, HB2⟩ := hcut
      have HL2 := hide (HLS.out.keep HC.out HB2.out)
      have y0 := bsome HB2.out x0
      have y1 := bsome HB2.out x1
      have hc1 := HL2.out.rc k hk
      have hc2 := HL2.out.sc k hk
      have hc3 := HL2.out.mc k hk
      rw [HV.out] at hc3
      have HB1 := hide HLS.out.bl
      clear x0 x1 x2 HLS
      have CS := hide (fun m => HC.out.slots (HC.out.keep (HL2.out.ri k hk) ((Kx.refl _ wc).drewN m)))
      have CL := hide (fun m => HC.out.len (HC.out.keep (HL2.out.ri k hk) ((Kx.refl _ wc).drewN m)))
      have CF := hide (fun m => HC.out.ful (HC.out.keep (HL2.out.ri k hk) ((Kx.refl _ wc).drewN m)))
      rw [HFb.out] at CF
      have dn : (((s k : Nat) : Int) != ((s k : Nat) : Int)) = false := by simp
      have dl : (((M k).length : Int) != ((M k).length : Int)) = false := by simp
      have db : (fb != fb) = false := by simp
      go_wp2
      go_quiet (first | (go_at_call 7; exact Calls.quiet_of_same (CS.out _)) | (go_at_call 8; exact Calls.quiet_of_same (CL.out _)) | (go_at_call 9; exact Calls.quiet_of (CF.out _)))
      rename_i nq
      obtain ⟨W, hW⟩ : ∃ W, wc.drewN nq = W := ⟨_, rfl⟩
      have HL3 := hide (HL2.out.keep HC.out (below_drewN (Below.refl _ _) nq))
      rw [hW] at HL3 ⊢
      clear hW CS CL CF HL2 HB2 dn dl db hc1 hc2 hc3 y0 y1 HB1
      have y0 := bsome HL3.out.bl X0.out
      have y1 := bsome HL3.out.bl X1.out
      have hc3 := HL3.out.mc k hk
      rw [HV.out] at hc3
      have b4 : decide ((q : Int) < 4) = false := by simp; omega
      have b7 : decide ((q : Int) < 7) = true := by simp; omega
      have CT := hide (HC.out.take (HL3.out.ri k hk))
      cases hMk : M k with
      | nil =>
        rw [hMk] at CT
        go_wp2_with fail
        refine CT.out.mono ?_
        rintro e w5 ⟨rfl, F', hr5, hk5, hf5⟩
        have HL5 := hide (HL3.out.ring HC.out hk hr5 hk5 hf5)
        clear hr5 hk5 hf5 CT y0 y1 hc3
        have hc3 := HL5.out.mc k hk
        rw [HV.out] at hc3
        have HL6 := HL5.out
        have e0 : upd M k ([] : List Int).tail = M := by rw [List.tail_nil, ← hMk, upd_id]
        rw [e0] at HL6
        have HL7 := hide HL6
        clear HL6 HL5 e0
        go_wp2
        refine ⟨gi_mk _ _ rfl ⟨i + 1, _, _, _, by omega, by show _ = _; go_num, HL7, hide (fun j => Nat.le_succ_of_le (HLn.out j))⟩, ?_⟩
        simp [Gmu, intOf, hu]
        omega
      | cons y r =>
        rw [hMk] at CT
        go_wp2_with fail
        refine CT.out.mono ?_
        rintro e w5 ⟨rfl, F', hr5, hk5, hf5⟩
        have HL5 := hide (HL3.out.ring HC.out hk hr5 hk5 hf5)
        clear hr5 hk5 hf5 CT y0 y1 hc3
        have hc3 := HL5.out.mc k hk
        have hrow := HL5.out.row k hk
        rw [HV.out] at hc3
        rw [HV.out, hMk] at hrow
        have hrow2 := hrow
        rcases hrow2 with ⟨h, -⟩ | ⟨gr, og, cap, cur, hv, h1, h2, h3, h4, h5⟩
        · cases h
        · simp only [Value.slice.injEq] at hv
          obtain ⟨rfl, -, rfl⟩ := hv
          have z0 : w5.cell? ⟨gr, og, none⟩ = some (.int .i64 y) := by
            have := cell_of_row w5 gr og cur 3 (0, 0) h1
            rw [this]
            simpa using h5 0 y rfl
          have zf := HL5.out.mt k
          have hlen : (M k).length = r.length + 1 := by rw [hMk]; rfl
          rw [hlen] at hc3
          simp only [List.length_cons] at h3 hrow
          have HRW := hide hrow
          have HHV := hide HV.out
          clear h1 h2 h5 hrow
          have hr0 : (0 : Int) < (r.length : Int) + 1 := by omega
          have dr0 : decide ((0 : Int) < (r.length : Int) + 1) = true := decide_eq_true hr0
          have dyy : (y != y) = false := by simp
          have HR9 : Hid (r.length ≤ i + 1) := hide (by have := HLn.out k; rw [hMk, List.length_cons] at this; omega)
          rcases (show vc = 1 ∨ 1 < vc by omega) with hcap | hcap
          · obtain rfl : r = [] := List.eq_nil_of_length_eq_zero (by omega)
            have HL6 := hide (HL5.out.rows HC.out hk (w1 := w5) (v' := .slice (some ⟨gr, og, none⟩) 0 0) (L := []) (by have h := HRW.out.tail og (.inr ⟨hcap, rfl⟩); rw [hcap] at h; exact h) (Kx.refl _ _) (.inr (.inl (by rw [HHV.out]; rfl))))
            subst hcap
            clear HL5 HRW
            go_wp2
            refine ⟨gi_mk _ _ rfl ⟨i + 1, _, _, _, by omega, by show _ = _; go_num, HL6, hide (fun j => ?_)⟩, ?_⟩
            · unfold upd
              split
              · exact Nat.zero_le _
              · exact Nat.le_succ_of_le (HLn.out j)
            · simp [Gmu, intOf, hu]
              omega
          · have HL6 := hide (HL5.out.rows HC.out hk (w1 := w5) (v' := .slice (some ⟨gr, og + 1, none⟩) r.length (vc - 1)) (L := r) (HRW.out.tail (og + 1) (.inl rfl)) (Kx.refl _ _) (.inr (.inl (by rw [HHV.out]; rfl))))
            clear HL5 HRW
            go_wp2
            refine ⟨gi_mk _ _ rfl ⟨i + 1, _, _, _, by omega, by show _ = _; go_num, HL6, hide (fun j => ?_)⟩, ?_⟩
            · unfold upd
              split
              · exact HR9.out
              · exact Nat.le_succ_of_le (HLn.out j)
            · simp [Gmu, intOf, hu]
              omega
end Go.Proofs.Ytllgphjgadmmaaa

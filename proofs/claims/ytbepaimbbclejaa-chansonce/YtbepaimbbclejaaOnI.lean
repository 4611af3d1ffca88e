import Derived.Test.YtbepaimbbclejaaOnE
import Derived.Test.YtbepaimbbclejaaOnF
import Derived.Test.YtbepaimbbclejaaOnG
import Derived.Test.YtbepaimbbclejaaOnH
/- The law ChansOnce. -/
namespace Go.Proofs.Ytbepaimbbclejaa
open Go.RowKit

set_option maxRecDepth 100000
set_option maxHeartbeats 8000000
theorem conce_any (l : List Cp) (v : Value) (w : World) (h : CpR w v l) (hll : l.length ≤ 9223372036854775807) :
    Calls Try.prog 4 #[v] w fun e w' => e = .returned (.bool true) ∧ Below w.heap.size w w' := by
  have HS0 := hide h
  obtain ⟨av, cv, rfl, -⟩ := h
  by_cases hl : 200 < l.length
  · have d0 : (200 : Int) < (l.length : Int) := by omega
    go_enter Try.func4, Try.ntmps4
    go_wp2_with fail
    refine (chBegun_any _).mono ?_
    rintro e w1 ⟨rfl, hb1⟩
    go_wp2
    go_ret
    exact ⟨rfl, hb1⟩
  · have d0 : decide ((200 : Int) < (l.length : Int)) = false := by simp; omega
    go_enter Try.func4, Try.ntmps4
    go_wp2_with fail
    refine (chBegun_any _).mono ?_
    rintro e w1 ⟨rfl, hb1⟩
    have HB1 := hide hb1
    clear hb1
    go_wp2_with fail
    refine (SX.new _).mono ?_
    rintro e w2 ⟨q, rfl, ⟨F0, hx2⟩, hb2⟩
    have HO2 : Hid (OS w1 w2 q 0 Bk.c0) := hide ⟨F0, hx2, Wf.c0, On.c0, hb2⟩
    have HS1 := hide (HS0.out.keep HB1.out)
    clear hx2 hb2 HS0
    go_wp2
    refine wp_qmix (fun _ _ _ _ _ => rfl) ?_
    refine o_loop1 w1 w2 _ av cv q l HS1.out (by omega) _ _ ?_ rfl ⟨0, Bk.c0, Nat.zero_le _, rfl, HO2⟩
    rintro a3 w3 ha ⟨s, HO3⟩
    rw [ha]
    generalize (fun k => a3.tmps.getD k undef) = u
    clear HO2 ha HS1
    unfold oframe
    obtain ⟨pl, ve, yq, hlg⟩ := HO3.out.led
    obtain ⟨-, -, hwf, -, -⟩ := HO3.out
    have hN := hwf.le
    have CA := hide (all_any hlg (by omega))
    clear hlg hwf
    go_wp2_with fail
    refine CA.out.mono ?_
    rintro e w4 ⟨v4, rfl, ho4, hb4⟩
    obtain ⟨ae, ce, e4⟩ := own_slicei ho4
    subst e4
    have HO4 := hide (HO3.out.keep hb4)
    clear ho4 hb4 CA yq HO3
    go_wp2
    refine wp_qmix (fun _ _ _ _ _ => rfl) ?_
    refine o_loop2 w1 w4 _ q l.length ae s.e.length ce (by omega) (by omega) _ _ ?_ rfl ⟨0, s, Nat.zero_le _, rfl, HO4, hide rfl, hide (fun k y hk => absurd hk (by omega))⟩
    rintro a5 w5 ha ⟨s5, HO5, HL5, HW5⟩
    rw [ha]
    generalize (fun k => a5.tmps.getD k undef) = u5
    clear HO4 ha
    unfold oframe2
    obtain ⟨pl5, ve5, yq5, hlg5⟩ := HO5.out.led
    obtain ⟨-, -, hwf5, -, -⟩ := HO5.out
    have hN5 := hwf5.le
    have CA := hide (all_any hlg5 (by omega))
    clear hlg5 hwf5
    go_wp2_with fail
    refine CA.out.mono ?_
    rintro e w6 ⟨v6, rfl, ho6, hb6⟩
    obtain ⟨ae6, ce6, e6⟩ := own_slicei ho6
    subst e6
    have HE6 := hide (own_enr ho6)
    have HO6 := hide (HO5.out.keep hb6)
    have CC : Hid (Calls Try.prog 11 #[.pointer (some ⟨q, 0, none⟩)] w6 fun r w' => ∃ ac cc, r = .returned (.slice ac s5.s.length cc) ∧ CvR w' (.slice ac s5.s.length cc) (Bk.cvs s5.e s5.s s5.i s5.g) ∧ Below w6.heap.size w6 w') := hide (by
      obtain ⟨F, a1, a2, -, -⟩ := HO6.out
      refine (a1.chans a2).mono ?_
      rintro r w' ⟨u, rfl, h1, h2⟩
      have h1' := h1
      obtain ⟨ac, cc, rfl, -⟩ := h1
      rw [Bk.cvs_len] at h1' ⊢
      exact ⟨ac, cc, rfl, h1', h2⟩)
    clear ho6 hb6 CA yq5 HO5
    go_wp2_with fail
    refine CC.out.mono ?_
    rintro e w7 ⟨ac, cc, rfl, hc7, hb7⟩
    have HC7 := hide hc7
    have HE7 := hide (HE6.out.keep hb7)
    have HB7 : Hid (Below w1.heap.size w1 w7) := hide (by
      obtain ⟨F, -, -, -, a4⟩ := HO6.out
      exact a4.trans (hb7.mono a4.size))
    have HF : Hid (On s5 [] ∧ Wf l.length s5 ∧ Sw s5.e.length s5) := hide (by
      obtain ⟨F, -, a2, a3, -⟩ := HO6.out
      exact ⟨a3, a2, by rw [HL5.out]; exact HW5.out⟩)
    clear hc7 hb7 HO6 HE6 CC HL5 HW5
    go_wp2
    refine wp_qmix (fun _ _ _ _ _ => rfl) ?_
    refine o_loop3 w7 w7 _ ae6 ce6 ac cc l.length s5 HF.out.1 HF.out.2.1 HF.out.2.2 HE7.out HC7.out _ _ ?_ rfl ⟨0, Nat.zero_le _, rfl, hide (Below.refl _ _)⟩
    rintro a8 w8 ha HB8
    rw [ha]
    generalize (fun k => a8.tmps.getD k undef) = u8
    clear ha
    unfold oframe3
    go_wp2
    refine wp_qmix (fun _ _ _ _ _ => rfl) ?_
    refine o_loop4 w7 w8 _ ae6 ce6 ac cc l.length s5 HF.out.1 HF.out.2.1 HE7.out HC7.out _ _ ?_ rfl ⟨0, Nat.zero_le _, rfl, HB8⟩
    rintro a9 w9 ha HB9
    rw [ha]
    generalize (fun k => a9.tmps.getD k undef) = u9
    clear ha
    unfold oframe3
    go_wp2
    go_ret
    exact ⟨rfl, HB1.out.trans ((HB7.out.trans (HB9.out.mono HB7.out.size)).mono HB1.out.size)⟩
end Go.Proofs.Ytbepaimbbclejaa

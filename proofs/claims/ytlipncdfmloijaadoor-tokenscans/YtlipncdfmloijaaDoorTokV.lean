/- The document's own Scan: the whole. -/
import Derived.Test.YtlipncdfmloijaaDoorTokR
import Derived.Test.YtlipncdfmloijaaDoorTokS
import Derived.Test.YtlipncdfmloijaaDoorTokT
import Derived.Test.YtlipncdfmloijaaDoorTokU
namespace Go.Proofs.YtlipncdfmloijaaDoor
open Go.RowKit

theorem bcell {W w1 : World} (hb : Below W.heap.size W w1) : (∀ b o, b < W.heap.size → w1.cell? ⟨b, o, none⟩ = W.cell? ⟨b, o, none⟩) ∧ (∀ b o, b < W.heap.size → w1.frozen? ⟨b, o, none⟩ = W.frozen? ⟨b, o, none⟩) :=
  ⟨fun b o h => hb.cell (p := ⟨b, o, none⟩) h, fun b o h => hb.frozen (p := ⟨b, o, none⟩) h⟩

set_option maxRecDepth 100000 in
set_option maxHeartbeats 400000 in
theorem rscan_huge (s : ByteArray) (w : World) (hs : s.size ≤ maxLen) (hbig : 12000 < s.size) :
    Calls Tryd.prog 26 #[.string s] w fun e w' => e = .returned (.tuple #[.slice none 0 0, .agg #[.int .i64 1, .int .i64 12000]]) ∧ Below w.heap.size w w' := by
  unfold maxLen at hs
  go_enter Tryd.func26, Tryd.ntmps26
  go_wp2_with (go_at_call 33; refine (rF_any _ _ _).mono ?_; rintro e w1 ⟨rfl, hb⟩; obtain ⟨hc, hf⟩ := bcell hb; have hz : w.heap.size < w1.heap.size := (by have := hb.size; simp at this; omega))
  exact bodyPost_ret (v := .tuple #[.slice none 0 0, .agg #[.int .i64 1, .int .i64 12000]]) (by simp [results, Tryd.results26, go_sem, hc]) rfl ⟨rfl, (((Below.refl _ _).alloc (Nat.le_refl _) _).trans (hb.mono (by simp))).setCell (by simp) _ |>.setCell (by simp) _⟩

set_option maxRecDepth 100000 in
set_option maxHeartbeats 40000000 in
theorem rscan_in (s : ByteArray) (w : World) (hs : s.size ≤ 12000) :
    Calls Tryd.prog 26 #[.string s] w fun e w' => ∃ v, e = .returned (scanV v (Tk.scan s.data.toList)) ∧ w'.ownsRow w.heap.size 47 4 v (Tk.scan s.data.toList).1.length (tcells (Tk.scan s.data.toList).1) ∧ Below w.heap.size w w' := by
  have d1 : decide ((12000 : Int) < (s.size : Int)) = false := by simp; omega
  have HN := hide (Lib.size_eq s)
  go_enter Tryd.func26, Tryd.ntmps26
  go_wp2
  refine wp_loop (c := rbody) (WI s w) (Wmu s) ?_ (fun a wr hI => ?_)
  · refine wi_mk _ _ _ _ rfl ⟨[], 0, s.size + 1, Nat.zero_le _, Nat.zero_le _, rfl, (by show _ < _; omega), ?_, World.ownsRow_nil _ _ _ _, Below.refl _ _⟩
    show _ = _
    rw [Tk.comb_nil _ (Tk.tl_nofault _ _ _)]
    unfold Tk.scan nx
    rw [if_neg (by rw [← HN.out]; omega), HN.out]
    simp
  · obtain ⟨u, ⟨acc, p, f, hap, hps, hu5, HF, HR, HO, HB⟩, rfl⟩ := hI
    have hz := HB.out.size
    simp only [World.size_alloc] at hz
    by_cases hlt : p < s.size
    · by_cases hbl : (s[p].toNat : Int) = 32 ∨ (s[p].toNat : Int) = 9 ∨ (s[p].toNat : Int) = 10 ∨ (s[p].toNat : Int) = 13
      · have hnx := nx_blank s p hlt hbl
        have HF2 : Hid (s.size - nx s.data.toList (p + 1) < f) := by rw [hnx]; exact HF.out
        have HR2 : Hid (Tk.scan s.data.toList = Tk.comb acc (Tk.tl f (nx s.data.toList (p + 1)) (s.data.toList.drop (nx s.data.toList (p + 1))))) := by rw [hnx]; exact HR.out
        rcases hbl with h | h | h | h
        · exact r_blank32 s w wr u acc p f _ hs hz hap hlt hu5 h HO HB HF2 HR2
        · exact r_blank9 s w wr u acc p f _ hs hz hap hlt hu5 h HO HB HF2 HR2
        · exact r_blank10 s w wr u acc p f _ hs hz hap hlt hu5 h HO HB HF2 HR2
        · exact r_blank13 s w wr u acc p f _ hs hz hap hlt hu5 h HO HB HF2 HR2
      · by_cases h35 : (s[p].toNat : Int) = 35
        · exact r_rem s w wr u acc p f _ hs hz hap hlt hu5 h35 HO HB HF HR
        · have q32 : ((s[p].toNat : Int) == 32) = false := by rw [Bool.eq_false_iff]; intro e; have := beq_iff_eq.1 e; omega
          have q9 : ((s[p].toNat : Int) == 9) = false := by rw [Bool.eq_false_iff]; intro e; have := beq_iff_eq.1 e; omega
          have q10 : ((s[p].toNat : Int) == 10) = false := by rw [Bool.eq_false_iff]; intro e; have := beq_iff_eq.1 e; omega
          have q13 : ((s[p].toNat : Int) == 13) = false := by rw [Bool.eq_false_iff]; intro e; have := beq_iff_eq.1 e; omega
          have q35 : ((s[p].toNat : Int) == 35) = false := by rw [Bool.eq_false_iff]; intro e; have := beq_iff_eq.1 e; omega
          have HSM := hide (fun w => small_any s[p] w)
          have HDG := hide (fun w => digit_any s[p] w)
          have HLO := hide (fun w => long_any s p w (by omega) (by omega))
          have hB : Tk.isB s[p] = false := by rw [Tk.isB_int, q32, q9, q10, q13]; rfl
          have hnx := nx_tok s p hlt q10 q35 hB
          have hll : p < s.data.toList.length := by rw [← HN.out]; exact hlt
          have HFl : s.data.toList.length - nx s.data.toList p < f := by rw [← HN.out]; exact HF.out
          have HST := hide (fun A hA hc => rel_step s.data.toList acc p f A hll hnx hA hc HFl HR.out)
          have HBD := hide (fun A hA hc => rel_bad s.data.toList acc p f A hll hnx hA hc HFl HR.out)
          rw [← HN.out] at HST
          clear hnx hll HFl hB hbl h35 HF HR
          cases hL : Tk.isL s[p]
          · cases hD : Tk.isD s[p]
            · have HTS := hide (tok_sign s p hlt hL hD)
              by_cases hee : (s[p].toNat : Int) = 61 ∧ ∃ h2 : p + 1 < s.size, (s[p + 1].toNat : Int) = 61
              · obtain ⟨h61, h2, h61'⟩ := hee
                obtain ⟨hm0, hm1, f', hf', hr'⟩ := HST.out ⟨0, 4, 2, 0⟩ (by rw [HTS.out, sign_two s p h2 h61 h61']; rfl) rfl
                have hXb : bs ((s.data.toList.drop p).take 2) = ⟨#[61, 61]⟩ := by
                  rw [drop_at s p hlt, drop_at s (p + 1) h2]
                  have e1 : s[p] = 61 := UInt8.toNat_inj.1 (by have : s[p].toNat = 61 := by omega
                                                               exact this)
                  have e2 : s[p + 1] = 61 := UInt8.toNat_inj.1 (by have : s[p + 1].toNat = 61 := by omega
                                                                   exact this)
                  rw [e1, e2]
                  rfl
                exact r_eqeq s w wr u acc p f' _ hs hz hap hlt hu5 h61 h2 h61' hL hD hXb HO HB hf' hr'
              · cases hc : Tk.signs.contains s[p]
                · have hE := HBD.out ⟨2, 0, 0, 0⟩ (by rw [HTS.out, sign_none s p hlt hc]; rfl) (by show (2 : Int) ≠ 0; decide)
                  have HE := hide hE
                  have hns := (not_congr (signs_cases s[p])).1 (by rw [hc]; simp)
                  have k40 : ((s[p].toNat : Int) == 40) = false := by rw [Bool.eq_false_iff]; intro e; have := beq_iff_eq.1 e; omega
                  have k41 : ((s[p].toNat : Int) == 41) = false := by rw [Bool.eq_false_iff]; intro e; have := beq_iff_eq.1 e; omega
                  have k123 : ((s[p].toNat : Int) == 123) = false := by rw [Bool.eq_false_iff]; intro e; have := beq_iff_eq.1 e; omega
                  have k125 : ((s[p].toNat : Int) == 125) = false := by rw [Bool.eq_false_iff]; intro e; have := beq_iff_eq.1 e; omega
                  have k44 : ((s[p].toNat : Int) == 44) = false := by rw [Bool.eq_false_iff]; intro e; have := beq_iff_eq.1 e; omega
                  have k59 : ((s[p].toNat : Int) == 59) = false := by rw [Bool.eq_false_iff]; intro e; have := beq_iff_eq.1 e; omega
                  have k43 : ((s[p].toNat : Int) == 43) = false := by rw [Bool.eq_false_iff]; intro e; have := beq_iff_eq.1 e; omega
                  have k45 : ((s[p].toNat : Int) == 45) = false := by rw [Bool.eq_false_iff]; intro e; have := beq_iff_eq.1 e; omega
                  have k42 : ((s[p].toNat : Int) == 42) = false := by rw [Bool.eq_false_iff]; intro e; have := beq_iff_eq.1 e; omega
                  have k60 : ((s[p].toNat : Int) == 60) = false := by rw [Bool.eq_false_iff]; intro e; have := beq_iff_eq.1 e; omega
                  have k61 : ((s[p].toNat : Int) == 61) = false := by rw [Bool.eq_false_iff]; intro e; have := beq_iff_eq.1 e; omega
                  clear hE HBD HST HTS hns hc hee
                  conv => arg 2; whnf
                  unfold frame
                  go_wp2_with fail
                  refine (HSM.out _).mono ?_
                  rintro e w5 ⟨rfl, hw⟩
                  subst w5
                  go_wp2_with fail
                  refine (HDG.out _).mono ?_
                  rintro e w6 ⟨rfl, hw⟩
                  subst w6
                  go_wp2_with fail
                  refine (rF_any _ _ _).mono ?_
                  rintro e w9 ⟨rfl, hb8⟩
                  have hz8 := hb8.size
                  have HB8 := hide (HB.out.trans (hb8.mono (by omega)))
                  obtain ⟨c0, c1, f0, f1⟩ := fltAt_of HB8.out
                  clear hb8
                  have hzz : w.heap.size < w9.heap.size := by omega
                  first
                  | go_wp2
                  | skip
                  refine bodyPost_ret (v := scanV (.slice none 0 0) ([], 2, (p : Int))) (by simp [results, Tryd.results26, go_sem, scanV, c0, c1]) rfl ⟨.slice none 0 0, ?_⟩
                  rw [HE.out]
                  refine ⟨rfl, World.ownsRow_nil _ _ _ _, ?_⟩
                  repeat (first | exact ((Below.refl _ w).alloc (Nat.le_refl _) _).trans (HB8.out.mono (by omega)) | refine Below.drew ?_ | refine Below.alloc ?_ (by simp [World.setCell]; omega) _ | refine Below.setCell ?_ (by simp) _)
                · obtain ⟨hm0, hm1, f', hf', hr'⟩ := HST.out ⟨0, 4, 1, 0⟩ (by rw [HTS.out, sign_one s p hlt hee hc]; rfl) rfl
                  obtain ⟨X, hX2⟩ : ∃ X, s.extract p (p + 1) = X := ⟨_, rfl⟩
                  have hXb : bs ((s.data.toList.drop p).take 1) = X := by rw [← hX2, ext_bs]
                  rcases (signs_cases s[p]).1 hc with h | h | h | h | h | h | h | h | h | h | h
                  · exact r_sign40 s w wr u acc p f' _ hs hz hap hlt hu5 X h hL hD hX2 hXb HO HB hf' hr'
                  · exact r_sign41 s w wr u acc p f' _ hs hz hap hlt hu5 X h hL hD hX2 hXb HO HB hf' hr'
                  · exact r_sign123 s w wr u acc p f' _ hs hz hap hlt hu5 X h hL hD hX2 hXb HO HB hf' hr'
                  · exact r_sign125 s w wr u acc p f' _ hs hz hap hlt hu5 X h hL hD hX2 hXb HO HB hf' hr'
                  · exact r_sign44 s w wr u acc p f' _ hs hz hap hlt hu5 X h hL hD hX2 hXb HO HB hf' hr'
                  · exact r_sign59 s w wr u acc p f' _ hs hz hap hlt hu5 X h hL hD hX2 hXb HO HB hf' hr'
                  · exact r_sign43 s w wr u acc p f' _ hs hz hap hlt hu5 X h hL hD hX2 hXb HO HB hf' hr'
                  · exact r_sign45 s w wr u acc p f' _ hs hz hap hlt hu5 X h hL hD hX2 hXb HO HB hf' hr'
                  · exact r_sign42 s w wr u acc p f' _ hs hz hap hlt hu5 X h hL hD hX2 hXb HO HB hf' hr'
                  · exact r_sign60 s w wr u acc p f' _ hs hz hap hlt hu5 X h hL hD hX2 hXb HO HB hf' hr'
                  · by_cases h2 : p + 1 < s.size
                    · exact r_sign61a s w wr u acc p f' _ hs hz hap hlt hu5 X h h2 (by rw [Bool.eq_false_iff]; intro e; exact hee ⟨h, h2, beq_iff_eq.1 e⟩) hL hD hX2 hXb HO HB hf' hr'
                    · exact r_sign61b s w wr u acc p f' _ hs hz hap hlt hu5 X h (by simp; omega) hL hD hX2 hXb HO HB hf' hr'
            · have hrp := run_pos s p hlt (by rw [hD]; simp)
              have hrl := Tk.run_le (s.data.toList.drop p)
              rw [List.length_drop, ← HN.out] at hrl
              have htk := tok_num s p hlt hD
              unfold Tk.numAns at htk
              have hXs : ((s.data.toList.drop p).take (Tk.run (s.data.toList.drop p))).length = Tk.run (s.data.toList.drop p) := by rw [List.length_take, List.length_drop, ← HN.out]; omega
              rw [hXs] at htk
              clear hXs
              generalize Tk.run (s.data.toList.drop p) = r at *
              obtain ⟨X, hX2⟩ : ∃ X, s.extract p (p + r) = X := ⟨_, rfl⟩
              have hXl : X.data.toList = (s.data.toList.drop p).take r := by rw [← hX2, ext_list, Nat.add_sub_cancel_left]
              have hXb : bs ((s.data.toList.drop p).take r) = X := by rw [← hX2, ext_bs]
              have hXz : X.size ≤ 1099511627776 := by rw [← hX2, ByteArray.size_extract]; omega
              have HNM := hide (fun w => num_any X w hXz)
              rw [hXl] at HNM
              cases hn : Tk.numOf ((s.data.toList.drop p).take r) with
              | none =>
                rw [hn] at HNM htk
                have hE := HBD.out ⟨3, 0, 0, 0⟩ htk (by show (3 : Int) ≠ 0; decide)
                have HE := hide hE
                clear hE HBD HST htk hn hXl hXb hXz
                conv => arg 2; whnf
                unfold frame
                go_wp2_with fail
                refine (HSM.out _).mono ?_
                rintro e w5 ⟨rfl, hw⟩
                subst w5
                go_wp2_with fail
                refine (HDG.out _).mono ?_
                rintro e w6 ⟨rfl, hw⟩
                subst w6
                go_wp2_with fail
                refine (HLO.out _).mono ?_
                rintro e w7 ⟨rfl, hw⟩
                subst w7
                go_wp2_with fail
                refine (HNM.out _).mono ?_
                rintro e w8 ⟨rfl, hw⟩
                subst w8
                go_wp2_with fail
                refine (rF_any _ _ _).mono ?_
                rintro e w9 ⟨rfl, hb8⟩
                have hz8 := hb8.size
                have HB8 := hide (HB.out.trans (hb8.mono (by omega)))
                obtain ⟨c0, c1, f0, f1⟩ := fltAt_of HB8.out
                clear hb8
                have hzz : w.heap.size < w9.heap.size := by omega
                first
                | go_wp2
                | skip
                refine bodyPost_ret (v := scanV (.slice none 0 0) ([], 3, (p : Int))) (by simp [results, Tryd.results26, go_sem, scanV, c0, c1]) rfl ⟨.slice none 0 0, ?_⟩
                rw [HE.out]
                refine ⟨rfl, World.ownsRow_nil _ _ _ _, ?_⟩
                repeat (first | exact ((Below.refl _ w).alloc (Nat.le_refl _) _).trans (HB8.out.mono (by omega)) | refine Below.drew ?_ | refine Below.alloc ?_ (by simp [World.setCell]; omega) _ | refine Below.setCell ?_ (by simp) _)
              | some n =>
                rw [hn] at HNM htk
                have hn0 := numOf_nonneg _ _ hn
                obtain ⟨hm0, hm1, f', hf', hr'⟩ := HST.out ⟨0, 3, r, n⟩ htk rfl
                exact r_digit s w wr u acc p f' _ hs hz hap hlt hu5 X q32 q9 q10 q13 q35 hL hD r hrp (by omega) HLO hX2 n (by simp; omega) HNM hXb HO HB hf' hr'
          · have hrp := run_pos s p hlt (by rw [hL]; rfl)
            have hrl := Tk.run_le (s.data.toList.drop p)
            rw [List.length_drop, ← HN.out] at hrl
            have htk := tok_name s p hlt hL
            unfold Tk.nameAns at htk
            have hXs : ((s.data.toList.drop p).take (Tk.run (s.data.toList.drop p))).length = Tk.run (s.data.toList.drop p) := by rw [List.length_take, List.length_drop, ← HN.out]; omega
            rw [hXs] at htk
            clear hXs HDG
            generalize Tk.run (s.data.toList.drop p) = r at *
            obtain ⟨X, hX2⟩ : ∃ X, s.extract p (p + r) = X := ⟨_, rfl⟩
            have hXl : X.data.toList = (s.data.toList.drop p).take r := by rw [← hX2, ext_list, Nat.add_sub_cancel_left]
            have hXb : bs ((s.data.toList.drop p).take r) = X := by rw [← hX2, ext_bs]
            have HIW := hide (fun w => isWord_any X w)
            rw [hXl] at HIW
            cases hW : Tk.isW ((s.data.toList.drop p).take r)
            · rw [hW] at HIW htk
              by_cases h12 : 12 < r
              · have hE := HBD.out ⟨4, 0, 0, 0⟩ (by rw [htk, if_neg (by simp), if_pos h12]) (by show (4 : Int) ≠ 0; decide)
                have HE := hide hE
                have d12 : decide ((12 : Int) < (r : Int)) = true := by simp; omega
                clear hE HBD HST htk hW hXl hXb
                conv => arg 2; whnf
                unfold frame
                go_wp2_with fail
                refine (HSM.out _).mono ?_
                rintro e w5 ⟨rfl, hw⟩
                subst w5
                go_wp2_with fail
                refine (HLO.out _).mono ?_
                rintro e w6 ⟨rfl, hw⟩
                subst w6
                go_wp2_with fail
                refine (HIW.out _).mono ?_
                rintro e w7 ⟨rfl, hb7⟩
                have hz7 := hb7.size
                have HB7 := hide (HB.out.trans (hb7.mono (by omega)))
                clear hb7
                go_wp2_with fail
                refine (rF_any _ _ _).mono ?_
                rintro e w8 ⟨rfl, hb8⟩
                have hz8 := hb8.size
                have HB8 := hide (HB7.out.trans (hb8.mono (by omega)))
                obtain ⟨c0, c1, f0, f1⟩ := fltAt_of HB8.out
                clear hb8
                have hzz : w.heap.size < w8.heap.size := by omega
                first
                | go_wp2
                | skip
                refine bodyPost_ret (v := scanV (.slice none 0 0) ([], 4, (p : Int))) (by simp [results, Tryd.results26, go_sem, scanV, c0, c1]) rfl ⟨.slice none 0 0, ?_⟩
                rw [HE.out]
                refine ⟨rfl, World.ownsRow_nil _ _ _ _, ?_⟩
                repeat (first | exact ((Below.refl _ w).alloc (Nat.le_refl _) _).trans (HB8.out.mono (by omega)) | refine Below.drew ?_ | refine Below.alloc ?_ (by simp [World.setCell]; omega) _ | refine Below.setCell ?_ (by simp) _)
              · obtain ⟨hm0, hm1, f', hf', hr'⟩ := HST.out ⟨0, 2, r, 0⟩ (by rw [htk, if_neg (by simp), if_neg h12]) rfl
                exact r_name s w wr u acc p f' _ hs hz hap hlt hu5 X q32 q9 q10 q13 q35 hL r hrp (by omega) HLO hX2 h12 HIW hXb HO HB hf' hr'
            · rw [hW] at HIW htk
              obtain ⟨hm0, hm1, f', hf', hr'⟩ := HST.out ⟨0, 1, r, 0⟩ (by rw [htk, if_pos rfl]) rfl
              exact r_word s w wr u acc p f' _ hs hz hap hlt hu5 X q32 q9 q10 q13 q35 hL r hrp (by omega) HLO hX2 HIW hXb HO HB hf' hr'
    · obtain rfl : p = s.size := by omega
      have HE : Hid (Tk.scan s.data.toList = (acc, 0, 0)) := by
        have h1 := HR.out
        have h2 := (nx_le s.data.toList s.size (by rw [← HN.out]; omega)).1
        rw [List.drop_of_length_le (by rw [← HN.out]; omega), Tk.tl_nil] at h1
        show _ = _
        rw [h1]
        simp [Tk.comb]
      obtain ⟨c0, c1, f0, f1⟩ := fltAt_of HB.out
      conv => arg 2; whnf
      unfold frame
      go_wp2
      refine bodyPost_ret (v := scanV (u 4) (acc, 0, 0)) (by simp [results, Tryd.results26, go_sem, scanV, c0, c1]) rfl ⟨u 4, ?_⟩
      rw [HE.out]
      refine ⟨rfl, ?_, ?_⟩
      · exact own_down (ownsRow_setCell_below (ownsRow_setCell_below HO.out (a := ⟨w.heap.size, 0, none⟩) (by simp) _) (a := ⟨w.heap.size, 1, none⟩) (by simp) _) (by omega)
      · exact ((((Below.refl _ w).alloc (Nat.le_refl _) _).trans (HB.out.mono (by omega))).setCell (Nat.le_refl _) _).setCell (Nat.le_refl _) _
end Go.Proofs.YtlipncdfmloijaaDoor
